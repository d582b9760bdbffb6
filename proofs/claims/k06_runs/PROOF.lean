import PyProof.Rows.All
import Wide.All
import OpenK.AllK
import Wide.FinOn
import Lean
import PyProof.EqAt
import PyProof.EqKinds
import PyProof.TupleCall
import PyProof.IsiH_tuple
import PyProof.NsDelKeeps
import PyProof.FString4
import PyProof.ExcBaseAll.ValueError
import PyProof.ForAny
import KE.KIsAll
import PyProof.StrWalks
import PyProof.SliceStr2
import PyProof.StrBlockI
import KE.KIntText
import PyProof.StrCalls2
import PyProof.StrLawsTight
import PySem.Challenge.RW_heldwhen_k06_runs
set_option Elab.async false
set_option linter.all false
set_option maxRecDepth 100000
namespace L2
open PySem PySem.Spec PyProof.Rows
noncomputable abbrev Key := Sum Int Str
noncomputable def keyIs : Key → Value → Bool
  | .inl k, v => Value.isInt k v
  | .inr x, v => Value.isStrOf x v
noncomputable def keyH (w : World) : Key → Int
  | .inl k => hashInt k
  | .inr x => hashStr w x
theorem keyIs_shape : ∀ {k : Key} {v : Value}, keyIs k v = true → (∃ i t, k = Sum.inl i ∧ v = Value.int i t) ∨ (∃ x t, k = Sum.inr x ∧ v = Value.str x t)
  | .inl i, v, h => by
    obtain ⟨t, e⟩ := Value.isInt_shape (k := i) (v := v) h
    exact .inl ⟨i, t, rfl, e⟩
  | .inr x, v, h => by
    obtain ⟨t, e⟩ := Value.isStrOf_shape (x := x) (v := v) h
    exact .inr ⟨x, t, rfl, e⟩
theorem keyIs_int (i : Int) (t : Tok) : keyIs (.inl i) (.int i t) = true := by simp [keyIs, Value.isInt]
theorem keyIs_str (x : Str) (t : Tok) : keyIs (.inr x) (.str x t) = true := by simp [keyIs, Value.isStrOf]
theorem key_ll (a b : Int) : decide ((Sum.inl a : Key) = Sum.inl b) = (a == b) := by
  by_cases e : a = b
  · subst e; simp
  · have h : ¬ (Sum.inl a : Key) = Sum.inl b := fun q => e (Sum.inl.inj q)
    rw [decide_eq_false h]
    exact (beq_eq_false_iff_ne.mpr e).symm
theorem key_rr (a b : Str) : decide ((Sum.inr a : Key) = Sum.inr b) = decide (a = b) := by
  by_cases e : a = b
  · subst e; simp
  · have h : ¬ (Sum.inr a : Key) = Sum.inr b := fun q => e (Sum.inr.inj q)
    rw [decide_eq_false h, decide_eq_false e]
theorem key_lr (a : Int) (b : Str) : decide ((Sum.inl a : Key) = Sum.inr b) = false := decide_eq_false (fun q => nomatch q)
theorem key_rl (a : Str) (b : Int) : decide ((Sum.inr a : Key) = Sum.inl b) = false := decide_eq_false (fun q => nomatch q)
noncomputable def mixKind (prog : Program) (w : World) : PySem.KeyKind prog w Key where
  is := keyIs
  hash := keyH w
  inj := fun v a b ha hb => by
    rcases keyIs_shape ha with ⟨i, t, rfl, rfl⟩ | ⟨x, t, rfl, rfl⟩
    · rcases keyIs_shape hb with ⟨j, u, rfl, e⟩ | ⟨y, u, rfl, e⟩
      · injection e with e1 _; rw [e1]
      · exact nomatch e
    · rcases keyIs_shape hb with ⟨j, u, rfl, e⟩ | ⟨y, u, rfl, e⟩
      · exact nomatch e
      · injection e with e1 _; rw [e1]
  byValue := fun k v h => by
    rcases keyIs_shape h with ⟨i, t, rfl, rfl⟩ | ⟨x, t, rfl, rfl⟩ <;> rfl
  pyHash := fun hv h => by
    rcases keyIs_shape hv with ⟨i, t, rfl, rfl⟩ | ⟨x, t, rfl, rfl⟩
    · exact wpAny_pyHash_int h
    · exact wpAny_pyHash_str h
  eqBool := fun hu hv h => by
    rcases keyIs_shape hu with ⟨i, t, rfl, rfl⟩ | ⟨x, t, rfl, rfl⟩
    · rcases keyIs_shape hv with ⟨j, u, rfl, rfl⟩ | ⟨y, u, rfl, rfl⟩
      · rw [key_ll] at h; exact wpAny_eqBool_int h
      · rw [key_lr] at h; exact SeqAt.EqAt.int_str i t y u _ _ _ _ h
    · rcases keyIs_shape hv with ⟨j, u, rfl, rfl⟩ | ⟨y, u, rfl, rfl⟩
      · rw [key_rl] at h; exact SeqAt.EqAt.str_int x t j u _ _ _ _ h
      · rw [key_rr] at h; exact wpAny_eqBool_str h
  «strs» := fun k x t v h => by
    rcases keyIs_shape h with ⟨i, u, rfl, e⟩ | ⟨y, u, rfl, e⟩
    · exact nomatch e
    · injection e with e1 _
      subst e1
      cases v <;> rfl
theorem mixKind_int (prog : Program) (w : World) (i : Int) (t : Tok) : (mixKind prog w).is (.inl i) (.int i t) = true := keyIs_int i t
theorem mixKind_str (prog : Program) (w : World) (x : Str) (t : Tok) : (mixKind prog w).is (.inr x) (.str x t) = true := keyIs_str x t
end L2
namespace L2
open PySem PySem.Spec PyProof.Rows
inductive V where
  | non | bl (b : Bool) | int (i : Int) | str (x : Str) | byt (b : Array UInt8) | flt (b : UInt64) | ref (a : Addr) | ty (n : String)
  deriving DecidableEq
def RelV : V → Value → Prop
  | .non, u => u = Value.none
  | .bl b, u => u = Value.bool b
  | .int i, u => ∃ t, u = Value.int i t
  | .str x, u => ∃ t, u = Value.str x t
  | .byt b, u => ∃ t, u = Value.bytes b t
  | .flt b, u => ∃ t, u = Value.float b t
  | .ref a, u => u = Value.ref a
  | .ty n, u => u = Value.type n
abbrev Vals : List V → List Value → Prop := Paired RelV
theorem Vals.length {xs : List V} {us : List Value} (r : Vals xs us) : xs.length = us.length := Paired.length r
theorem Vals.get : ∀ {xs : List V} {us : List Value} {i : Nat} {x : V}, Vals xs us → xs[i]? = some x → ∃ u, us[i]? = some u ∧ RelV x u
  | _, _, _, _, .nil, e => by simp at e
  | _, _, 0, _, .cons r _, e => by simp at e; subst e; exact ⟨_, rfl, r⟩
  | _, _, i + 1, x, .cons _ t, e => by
    obtain ⟨u, h1, h2⟩ := Vals.get (i := i) (x := x) t (by simpa using e)
    exact ⟨u, by simpa using h1, h2⟩
theorem Vals.set {x : V} {u : Value} (r : RelV x u) : ∀ {xs : List V} {us : List Value} (i : Nat), Vals xs us → Vals (xs.set i x) (us.set i u)
  | _, _, _, .nil => .nil
  | _, _, 0, .cons _ t => .cons r t
  | _, _, i + 1, .cons q t => .cons q (Vals.set r i t)
theorem Vals.append : ∀ {xs ys : List V} {us ws : List Value}, Vals xs us → Vals ys ws → Vals (xs ++ ys) (us ++ ws)
  | _, _, _, _, .nil, s => s
  | _, _, _, _, .cons r t, s => .cons r (Vals.append t s)
theorem Vals.take : ∀ {xs : List V} {us : List Value} (n : Nat), Vals xs us → Vals (xs.take n) (us.take n)
  | _, _, 0, _ => .nil
  | _, _, _ + 1, .nil => .nil
  | _, _, n + 1, .cons r t => .cons r (Vals.take n t)
theorem Vals.drop : ∀ {xs : List V} {us : List Value} (n : Nat), Vals xs us → Vals (xs.drop n) (us.drop n)
  | _, _, 0, r => r
  | _, _, _ + 1, .nil => .nil
  | _, _, n + 1, .cons _ t => Vals.drop n t
def RelO : Option V → Option Value → Prop
  | some v, some u => RelV v u
  | none, none => True
  | _, _ => False
def KV {κ : Type} : List (κ × V) → List (κ × Value) → Prop := Paired fun (p : κ × V) (q : κ × Value) => p.1 = q.1 ∧ RelV p.2 q.2
noncomputable def kV : Key → V
  | .inl i => .int i
  | .inr x => .str x
inductive HO where
  | lst (xs : List V)
  | tup (xs : List V)
  | dK (kvs : List (Key × V)) | dT (kvs : List (List Key × V))
  | set (S : Int → Bool) (n : Nat)
  | ins (C dx : Addr) (fs : List (Str × V))
  | own (x : Addr)
  | xd (fs : List (Str × V))
  | met (f x : Addr)
  | rng (lo hi : Int)
  | frz (o : Obj) (u : HO)
  | tbl (ps : Array Value)
  | ext (φ : Heap → Prop)
noncomputable abbrev Hp := Addr → Option HO
def upd (H : Hp) (a : Addr) (o : HO) : Hp := fun b => if b = a then some o else H b
theorem upd_same {H : Hp} {a : Addr} {o : HO} : upd H a o a = some o := by unfold upd; rw [if_pos rfl]
theorem upd_ne {H : Hp} {a b : Addr} {o : HO} (h : b ≠ a) : upd H a o b = H b := by unfold upd; rw [if_neg h]
theorem ne_of {H : Hp} {a b : Addr} {o u : HO} (h : H a = some o) (h' : H b = some u) (d : o ≠ u) : a ≠ b := by
  intro e; subst e; rw [h] at h'; exact d (Option.some.inj h')
theorem ne_of_none {H : Hp} {a b : Addr} {o : HO} (h : H a = some o) (h' : H b = none) : a ≠ b := by
  intro e; subst e; rw [h] at h'; cases h'
def IsTupD (h : Heap) (a : Addr) (items : Array Value) : Prop := IsTup h a items ∧ ∀ o, h.get? a = some o → o.dict = none
theorem IsTupD.new (h : Heap) (items : Array Value) : IsTupD (h.push { cls := .type "tuple", data := .seq items }) h.objs.size items := ⟨IsTup.new _ _, fun o e => by rw [Heap.get?_push_size _ rfl] at e; cases e; rfl⟩
section
variable (P : Program) (w : World)
def ObjOk (H : Hp) (h : Heap) (a : Addr) : HO → Prop
  | .lst xs => xs.length ≤ sizeLine ∧ ∃ (its : List Value) (n : Nat), Vals xs its ∧ h.get? a = some { cls := .type "list", data := .seq its.toArray n }
  | .tup xs => xs.length ≤ sizeLine ∧ ∃ its : List Value, Vals xs its ∧ IsTupD h a its.toArray
  | .dK kvs => kvs.length ≤ sizeLine ∧ (a == sysModules) = false ∧ ∃ vs, KV kvs vs ∧ h.DictOf (mixKind P w) a vs
  | .dT kvs => kvs.length ≤ sizeLine ∧ (a == sysModules) = false ∧ ∃ xs : List (List Key × Addr × Value),
      Paired (fun (p : List Key × V) (q : List Key × Addr × Value) => p.1 = q.1 ∧ H q.2.1 = some (.tup (p.1.map kV)) ∧ RelV p.2 q.2.2) kvs xs ∧
      ∃ o es ep, h.get? a = some o ∧ o.ExactDict ∧ o.data = .dict es ep ∧ es.toList = xs.map (entryOfKey (tupleKind (mixKind P w))) ∧ (xs.map (·.1)).Nodup
  | .set S n => h.SetOf (intKind P w) a S n
  | .ins C dx fs => H dx = some (.own a) ∧ fs.length ≤ 1000 ∧ dx ≠ a ∧ h.get? a = some (PySem.W.instObj C dx) ∧
      ∃ mA, h.Ns1 dx mA ∧ (∀ f, RelO (fs.lookup f) (mA f)) ∧ PySem.Within mA (fs.map (·.1))
  | .own _ => ∃ o, h.get? a = some o
  | .xd fs => ∃ mA, h.Ns1 a mA ∧ ∀ f, RelO (fs.lookup f) (mA f)
  | .rng lo hi => ∃ t u v, h.get? a = some { cls := .type "range", data := .fields #[.int lo t, .int hi u, .int 1 v] }
  | .frz o u => h.get? a = some o ∧ ObjOk H h a u
  | .tbl ps => h.get? a = some { cls := .none, data := .fields ps }
  | .met f x => h.get? a = some (PySem.W.methodObj (.ref f) (.ref x))
  | .ext φ => φ h ∧ (∃ o, h.get? a = some o) ∧ ∀ h1 h2 : Heap, φ h1 → (∀ o, h1.get? a = some o → h2.get? a = some o) → φ h2
def HOk (H : Hp) (h : Heap) : Prop := ∀ a o, H a = some o → ObjOk P w H h a o
end
section
variable {P : Program} {w : World} {H H' : Hp} {h h' : Heap} {a : Addr} {o : HO}
theorem ObjOk.lt (x : ObjOk P w H h a o) : a < h.objs.size := by
  cases o with
  | lst xs => obtain ⟨_, _, _, _, e⟩ := x; exact Heap.lt_size e
  | tup xs => obtain ⟨_, _, _, p⟩ := x; exact p.1.lt
  | dK kvs => obtain ⟨_, _, _, _, o, _, _, e, _⟩ := x; exact Heap.lt_size e
  | dT kvs => obtain ⟨_, _, _, _, o, _, _, e, _⟩ := x; exact Heap.lt_size e
  | set S n => obtain ⟨o, _, _, _, e, _⟩ := x; exact Heap.lt_size e
  | ins C dx fs => obtain ⟨_, _, _, e, _⟩ := x; exact Heap.lt_size e
  | own y => obtain ⟨_, e⟩ := x; exact Heap.lt_size e
  | xd fs => obtain ⟨_, ⟨_, _, _, e, _⟩, _⟩ := x; exact Heap.lt_size e
  | rng lo hi => obtain ⟨_, _, _, e⟩ := x; exact Heap.lt_size e
  | frz ob u => obtain ⟨e, _⟩ := x; exact Heap.lt_size e
  | tbl ps => exact Heap.lt_size (show h.get? a = some _ from x)
  | met f y => exact Heap.lt_size (show h.get? a = some _ from x)
  | ext φ => obtain ⟨_, ⟨_, e⟩, _⟩ := x; exact Heap.lt_size e
theorem Paired.mapP {α β : Type} {F G : α → β → Prop} : ∀ {l₁ : List α} {l₂ : List β}, Paired F l₁ l₂ → (∀ a b, F a b → G a b) → Paired G l₁ l₂
  | _, _, .nil, _ => .nil
  | _, _, .cons r t, f => .cons (f _ _ r) (Paired.mapP t f)
theorem ObjOk.stay (x : ObjOk P w H h a o) (k : ∀ b u, (b = a ∨ H b = some (.own a)) → h.get? b = some u → h'.get? b = some u)
    (ho : ∀ b, H b = some (.own a) → H' b = some (.own a)) (ht : ∀ b xs, H b = some (.tup xs) → H' b = some (.tup xs)) : ObjOk P w H' h' a o := by
  induction o with
  | lst xs => obtain ⟨z, its, n, r, e⟩ := x; exact ⟨z, its, n, r, k _ _ (.inl rfl) e⟩
  | tup xs => obtain ⟨z, its, r, ⟨ob, e, c⟩, dn⟩ := x; exact ⟨z, its, r, ⟨ob, k _ _ (.inl rfl) e, c⟩, fun o q => by rw [k _ _ (.inl rfl) e] at q; cases q; exact dn _ e⟩
  | dK kvs => obtain ⟨z, y, vs, r, ob, es, ep, e, c⟩ := x; exact ⟨z, y, vs, r, ob, es, ep, k _ _ (.inl rfl) e, c⟩
  | dT kvs =>
    obtain ⟨z, y, xs, r, ob, es, ep, e, c⟩ := x
    exact ⟨z, y, xs, Paired.mapP r fun p q z => ⟨z.1, ht _ _ z.2.1, z.2.2⟩, ob, es, ep, k _ _ (.inl rfl) e, c⟩
  | set S n => obtain ⟨ob, es, ep, t, e, c⟩ := x; exact ⟨ob, es, ep, t, k _ _ (.inl rfl) e, c⟩
  | ins C dx fs =>
    obtain ⟨d, z, ne, e, mA, ⟨od, es, ep, e2, c⟩, r⟩ := x
    exact ⟨ho _ d, z, ne, k _ _ (.inl rfl) e, mA, ⟨od, es, ep, k _ _ (.inr d) e2, c⟩, r⟩
  | own y => obtain ⟨ob, e⟩ := x; exact ⟨ob, k _ _ (.inl rfl) e⟩
  | xd fs => obtain ⟨mA, ⟨od, es, ep, e, c⟩, r⟩ := x; exact ⟨mA, ⟨od, es, ep, k _ _ (.inl rfl) e, c⟩, r⟩
  | rng lo hi => obtain ⟨t, u, v, e⟩ := x; exact ⟨t, u, v, k _ _ (.inl rfl) e⟩
  | frz ob u ih => obtain ⟨e, q⟩ := x; exact ⟨k _ _ (.inl rfl) e, ih q⟩
  | tbl ps =>
    have e : h.get? a = some { cls := .none, data := .fields ps } := x
    show h'.get? a = some { cls := .none, data := .fields ps }
    exact k a _ (.inl rfl) e
  | met f y =>
    have e : h.get? a = some (PySem.W.methodObj (.ref f) (.ref y)) := x
    show h'.get? a = some (PySem.W.methodObj (.ref f) (.ref y))
    exact k a _ (.inl rfl) e
  | ext φ => obtain ⟨p, ⟨o, e⟩, st⟩ := x; exact ⟨st _ _ p fun o q => k _ _ (.inl rfl) q, ⟨o, k _ _ (.inl rfl) e⟩, st⟩
theorem HOk.lt (x : HOk P w H h) (e : H a = some o) : a < h.objs.size := (x a o e).lt
theorem HOk.fresh (x : HOk P w H h) (e : h.objs.size ≤ a) : H a = none := by
  cases q : H a with
  | none => rfl
  | some u => exact absurd (Nat.lt_of_lt_of_le (x.lt q) e) (Nat.lt_irrefl _)
theorem HOk.kept (x : HOk P w H h) (k : ∀ b u, h.get? b = some u → h'.get? b = some u) : HOk P w H h' := fun a o e =>
  (x a o e).stay (fun b u _ q => k b u q) (fun _ q => q) fun _ _ q => q
theorem HOk.laid (x : HOk P w H h) (k : ∀ b u, h.get? b = some u → h'.get? b = some u) (hp : h.objs.size ≤ a) (new : ObjOk P w (upd H a o) h' a o) : HOk P w (upd H a o) h' := fun b u e => by
  have hn := x.fresh hp
  by_cases hb : b = a
  · subst hb; rw [upd_same] at e; cases e; exact new
  · rw [upd_ne hb] at e
    exact (x b u e).stay (fun c v _ q => k c v q) (fun c q => by rw [upd_ne (ne_of_none q hn)]; exact q) fun c xs q => by rw [upd_ne (ne_of_none q hn)]; exact q
end
def Rd (H : Hp) (a : Addr) (u : HO) : Prop := H a = some u ∨ ∃ o, H a = some (.frz o u)
theorem Rd.of {H : Hp} {a : Addr} {u : HO} (h : H a = some u) : Rd H a u := .inl h
theorem Rd.ok {P : Program} {w : World} {H : Hp} {h : Heap} {a : Addr} {u : HO} (r : Rd H a u) (x : HOk P w H h) : ObjOk P w H h a u := by
  rcases r with r | ⟨o, r⟩
  · exact x a u r
  · obtain ⟨_, q⟩ := x a _ r
    exact q
def Mut : Option HO → Prop
  | some (.lst _) => True
  | some (.dK _) => True
  | some (.dT _) => True
  | some (.set _ _) => True
  | some (.ins _ _ _) => True
  | some (.ext _) => True
  | _ => False
section
variable {P : Program} {w : World} {H : Hp} {h h' : Heap} {x e : Addr} {o' : HO}
theorem HOk.write (ok : HOk P w H h) (mu : Mut (H x)) (he : e = x ∨ H e = some (.own x)) (k : ∀ b u, b ≠ e → h.get? b = some u → h'.get? b = some u) (heo : ∃ u, h'.get? e = some u)
    (new : ObjOk P w (upd H x o') h' x o') : HOk P w (upd H x o') h' := fun b u q => by
  have nown : ∀ c y, H c = some (.own y) → c ≠ x := fun c y r z => by subst z; rw [r] at mu; exact mu
  have ntup : ∀ c xs, H c = some (.tup xs) → c ≠ x := fun c xs r z => by subst z; rw [r] at mu; exact mu
  by_cases hb : b = x
  · subst hb; rw [upd_same] at q; cases q; exact new
  · rw [upd_ne hb] at q
    by_cases hbe : b = e
    · have q' : H b = some (.own x) := by
        rcases he with z | z
        · exact absurd (hbe.trans z) hb
        · rw [hbe]; exact z
      rw [q] at q'; cases q'
      obtain ⟨v, hv⟩ := heo
      exact ⟨v, by rw [hbe]; exact hv⟩
    · refine (ok b u q).stay (fun c v hc r => k c v ?_ r) (fun c r => by rw [upd_ne (nown c b r)]; exact r) fun c xs r => by rw [upd_ne (ntup c xs r)]; exact r
      rcases hc with rfl | hc
      · exact hbe
      · rintro rfl
        rcases he with z | z
        · exact nown c b hc z
        · rw [hc] at z; cases z; exact hb rfl
end
structure Un (fs ex : List Addr) (H H' : Hp) (h h' : Heap) : Prop where
  keep : ∀ b o, h.get? b = some o → H b = none → b ∉ fs → b ∉ ex → h'.get? b = some o
  slot : ∀ b o, h.get? b = some o → H b = none → b ∈ fs → b ∉ ex → ∃ sl, h'.get? b = some { o with slots := sl }
  free : ∀ b o, h.get? b = some o → H b = none → b ∉ ex → H' b = none
  there : ∀ b o, h.get? b = some o → b ∉ ex → ∃ o', h'.get? b = some o'
  tups : ∀ b xs, H b = some (.tup xs) → H' b = some (.tup xs)
  frzs : ∀ b o u, H b = some (.frz o u) → H' b = some (.frz o u)
  tbls : ∀ b ps, H b = some (.tbl ps) → ∃ more, H' b = some (.tbl (ps ++ more))
section
variable {fs fs' ex ex' : List Addr} {H H1 H2 : Hp} {h h1 h2 h' : Heap} {a x e : Addr} {o : HO}
theorem Un.any (u : Un fs ex H H1 h h1) {b : Addr} {ob : Obj} (q : h.get? b = some ob) (n : H b = none) (hx : b ∉ ex) : ∃ sl, h1.get? b = some { ob with slots := sl } := by
  by_cases hb : b ∈ fs
  · exact u.slot b ob q n hb hx
  · exact ⟨ob.slots, u.keep b ob q n hb hx⟩
theorem Un.trans (a : Un fs ex H H1 h h1) (b : Un fs ex H1 H2 h1 h2) : Un fs ex H H2 h h2 where
  keep := fun c ob q n hc hx => b.keep c ob (a.keep c ob q n hc hx) (a.free c ob q n hx) hc hx
  slot := fun c ob q n hc hx => by
    obtain ⟨sl, e1⟩ := a.slot c ob q n hc hx
    obtain ⟨sl', e2⟩ := b.slot c _ e1 (a.free c ob q n hx) hc hx
    exact ⟨sl', e2⟩
  free := fun c ob q n hx => by
    obtain ⟨o', e1⟩ := a.there c ob q hx
    exact b.free c o' e1 (a.free c ob q n hx) hx
  there := fun c ob q hx => by
    obtain ⟨o', e1⟩ := a.there c ob q hx
    exact b.there c o' e1 hx
  tups := fun c xs q => b.tups c xs (a.tups c xs q)
  frzs := fun c ob xs q => b.frzs c ob xs (a.frzs c ob xs q)
  tbls := fun c ps q => by
    obtain ⟨m1, e1⟩ := a.tbls c ps q
    obtain ⟨m2, e2⟩ := b.tbls c _ e1
    exact ⟨m1 ++ m2, by rw [e2, Array.append_assoc]⟩
theorem Un.kept (k : ∀ b u, h.get? b = some u → h'.get? b = some u) : Un fs ex H H h h' :=
  ⟨fun b ob q _ _ _ => k b ob q, fun b ob q _ _ _ => ⟨ob.slots, k b ob q⟩, fun _ _ _ n _ => n, fun b ob q _ => ⟨ob, k b ob q⟩, fun _ _ q => q, fun _ _ _ q => q, fun _ ps q => ⟨#[], by rw [q]; simp⟩⟩
theorem Un.refl : Un fs ex H H h h := Un.kept fun _ _ q => q
theorem Un.laid (k : ∀ b u, h.get? b = some u → h'.get? b = some u) (hp : h.objs.size ≤ a) (hn : H a = none) : Un fs ex H (upd H a o) h h' where
  keep := fun b u q _ _ _ => k b u q
  slot := fun b u q _ _ _ => ⟨u.slots, k b u q⟩
  free := fun b u q n _ => by rw [upd_ne (Nat.ne_of_lt (Nat.lt_of_lt_of_le (Heap.lt_size q) hp))]; exact n
  there := fun b u q _ => ⟨u, k b u q⟩
  tups := fun b xs q => by rw [upd_ne (ne_of_none q hn)]; exact q
  frzs := fun b u xs q => by rw [upd_ne (ne_of_none q hn)]; exact q
  tbls := fun b ps q => ⟨#[], by rw [upd_ne (ne_of_none q hn), q]; simp⟩
theorem Un.write (mu : Mut (H x)) (he : e = x ∨ H e = some (.own x)) (k : ∀ b u, b ≠ e → h.get? b = some u → h'.get? b = some u) (heo : ∃ u, h'.get? e = some u) : Un fs ex H (upd H x o) h h' := by
  have hx : ∀ b, H b = none → b ≠ x := fun b n z => by subst z; rw [n] at mu; exact mu
  have hb : ∀ b, H b = none → b ≠ e := fun b n z => by
    subst z
    rcases he with r | r
    · exact hx b n r
    · rw [n] at r; cases r
  have hm : ∀ b u, H b = some u → ¬ Mut (some u) → b ≠ x := fun b u q nm z => by subst z; rw [q] at mu; exact nm mu
  refine ⟨fun b u q n _ _ => k b u (hb b n) q, fun b u q n _ _ => ⟨u.slots, k b u (hb b n) q⟩, fun b u q n _ => by rw [upd_ne (hx b n)]; exact n, fun b u q _ => ?_,
    fun b xs q => by rw [upd_ne (hm b _ q fun z => z)]; exact q, fun b u xs q => by rw [upd_ne (hm b _ q fun z => z)]; exact q, fun b ps q => ⟨#[], by rw [upd_ne (hm b _ q fun z => z), q]; simp⟩⟩
  by_cases hbe : b = e
  · subst hbe; exact heo
  · exact ⟨u, k b u hbe q⟩
theorem Un.mono (u : Un fs ex H H1 h h1) (hs : ∀ b ∈ fs, b ∈ fs') (hx : ∀ b ∈ ex, b ∈ ex') : Un fs' ex' H H1 h h1 :=
  ⟨fun b ob q n hb he => u.keep b ob q n (fun z => hb (hs b z)) fun z => he (hx b z), fun _ _ q n _ he => u.any q n fun z => he (hx _ z), fun b ob q n he => u.free b ob q n fun z => he (hx b z), fun b ob q he => u.there b ob q fun z => he (hx b z), u.tups, u.frzs, u.tbls⟩
end
def trk (h : Heap) (H : Hp) : List Addr := (List.range h.objs.size).filter fun a => (H a).isSome
def hidT (h : Heap) (H : Hp) : Heap := PySem.W.hideAll h (trk h H)
theorem hidT_size (h : Heap) (H : Hp) : (hidT h H).objs.size = h.objs.size := PySem.W.hideAll_size _ _
theorem hidT_get {h : Heap} {H : Hp} {b : Addr} {o : Obj} (e : h.get? b = some o) (n : H b = none) : (hidT h H).get? b = some o :=
  PySem.W.hideAll_get _ e fun hm => by
    have q : (H b).isSome = true := (List.mem_filter.mp hm).2
    rw [n] at q; simp at q
theorem of_hidT {h : Heap} {H : Hp} {b : Addr} {o : Obj} (e : (hidT h H).get? b = some o) : h.get? b = some o ∧ H b = none := by
  have e' : h.get? b = some o := PySem.W.of_hideAll (trk h H) e
  refine ⟨e', ?_⟩
  cases q : H b with
  | none => rfl
  | some x =>
    have hm : b ∈ trk h H := List.mem_filter.mpr ⟨List.mem_range.mpr (Heap.lt_size e'), by simp [q]⟩
    have z : (hidT h H).get? b = none := PySem.W.hideAll_none (trk h H) hm
    rw [z] at e; cases e
noncomputable def allNews (g h : Heap) (L : Addr) : List (Addr × Obj) := (List.range h.objs.size).filterMap fun a => if a = L ∨ (g.get? a).isSome = true then none else (h.get? a).map fun o => (a, o)
noncomputable def rest (g h : Heap) (L d : Addr) : List (Addr × Obj) := (allNews g h L).filter fun p => decide (p.1 ≠ d)
end L2
namespace L2
open PySem PySem.Spec PyProof.Rows
structure Mod (K : PySem.W.Frag) (mg : Str → Option Value) (base : Heap) : Prop where
  kin : K.In base
  glob : base.Ns mainGlobals mg
  blt : ∃ mb, base.Ns builtinsNs mb ∧ ∀ x : Str, x ≠ "__name__" → mb x = bootBuiltins x
  nolimit : base.NoLimit
/-- the context: a def's body (or a comprehension's block) running. base: fixed through the whole law; s₀, H₀: the entry; outer: the frames whose slots others may change (a def's callers); stack: all frames that run;
   ex: iterators that were made ahead of the entry and are walked here (a comprehension's); fn: the names whose cells were made at the entry (a def: all; a comprehension's block: its own); calm: not within an except suite; pn: pins that every state bears; xe: what is wanted of an exception that leaves the code -/
structure Cx where
  prog : Program
  w : World
  K : PySem.W.Frag
  mg : Str → Option Value
  base : Heap
  A : Around
  N : List Str
  s₀ : Shared
  H₀ : Hp
  env : Env
  outer : List Env
  stack : List Env
  ex : List Addr
  fn : Str → Bool
  calm : Bool
  pn : List (Addr × Obj)
  xe : Value → Shared → Prop
noncomputable def frs (l : List Env) : List Addr := l.filterMap (·.frame)
noncomputable abbrev Cx.fs (X : Cx) : List Addr := frs X.outer
def Vis (sc : Scope) (x : Str) : Prop := sc.names.lookup x = some .local ∨ sc.names.lookup x = some .cell ∨ sc.names.lookup x = some .free
def Loc (sc : Scope) (x : Str) : Prop := sc.names.lookup x = some .local ∨ sc.names.lookup x = some .cell
def Look (env : Env) (h : Heap) (m : Str → Option Value) (x : Str) (u : Value) : Prop :=
  (env.kindOf x = some .local ∧ m x = some u) ∨ ((env.kindOf x = some .cell ∨ env.kindOf x = some .free) ∧ ∃ c, env.cells.lookup x = some c ∧ h.IsCell c (some u))
structure Cx.Ok (X : Cx) : Prop where
  mod : Mod X.K X.mg X.base
  kind : X.env.scope.kind = .function
  glob : X.env.globals = mainGlobals
  blt : X.env.builtins = builtinsNs
  above : X.s₀.heap.objs.size ≤ X.env.locals
  inj : ∀ x y c, X.env.cells.lookup x = some c → X.env.cells.lookup y = some c → x = y
  has : ∀ x, (X.env.kindOf x = some .cell ∨ X.env.kindOf x = some .free) → ∃ c, X.env.cells.lookup x = some c
  cab : ∀ x c, X.fn x = true → X.env.cells.lookup x = some c → X.s₀.heap.objs.size ≤ c
  hd : X.calm = true → X.A.handled = none
  frames : X.A.frames = some X.stack
  stk : X.stack = X.outer ∨ (X.stack = X.env :: X.outer ∧ X.env.frame = some X.env.locals)
  exf : ∀ b ∈ X.ex, b ≠ X.env.locals ∧ ∀ x c, X.env.cells.lookup x = some c → c ≠ b
  bs : ∀ b o, X.base.get? b = some o → X.s₀.heap.get? b = some o ∧ X.H₀ b = none
  bsz : X.base.objs.size ≤ X.s₀.heap.objs.size
  noex : ∀ b o, X.base.get? b = some o → b ∉ X.ex
  exfs : ∀ b ∈ X.ex, b ∉ X.fs
  funs : X.s₀.heap.FunFrames X.base X.outer
  frf : ∀ b ∈ X.fs, X.H₀ b = none
structure Inv (X : Cx) (pins : List (Addr × Obj)) (σ : List (Option V)) (H : Hp) (s : Shared) : Prop where
  ok : X.Ok
  os : s.os = X.s₀.os
  bare : AllBare s.gens
  base : Un X.fs X.ex X.H₀ H X.s₀.heap s.heap
  loc : ∃ m, s.heap.Ns X.env.locals m ∧ ∀ (i : Nat) (x : Str) (v : V), X.N[i]? = some x → σ[i]? = some (some v) → Vis X.env.scope x → ∃ u, RelV v u ∧ Look X.env s.heap m x u
  cell : ∀ x c, X.env.cells.lookup x = some c → ∃ v, s.heap.IsCell c v
  free : H X.env.locals = none
  freeC : ∀ x c, X.env.cells.lookup x = some c → H c = none
  pin : ∀ p ∈ X.pn ++ pins, s.heap.get? p.1 = some p.2 ∧ H p.1 = none ∧ p.1 ≠ X.env.locals ∧ p.1 ∉ X.fs ∧ ∀ v, p.2.data ≠ .cell v
  hok : HOk X.prog X.w H s.heap
  len : σ.length = X.N.length
section
variable {X : Cx} {pins : List (Addr × Obj)} {σ : List (Option V)} {H H' : Hp} {s : Shared} {h' : Heap}
theorem Cx.Ok.nofr (ok : X.Ok) {b : Addr} {o : Obj} (e : X.base.get? b = some o) : b ∉ X.fs := fun hb => by
  have := (ok.funs.mem hb).1
  rw [e] at this; cases this
theorem Inv.bs (I : Inv X pins σ H s) : ∀ b o, X.base.get? b = some o → s.heap.get? b = some o ∧ H b = none := fun b o e =>
  ⟨I.base.keep b o (I.ok.bs b o e).1 (I.ok.bs b o e).2 (I.ok.nofr e) (I.ok.noex b o e), I.base.free b o (I.ok.bs b o e).1 (I.ok.bs b o e).2 (I.ok.noex b o e)⟩
theorem Inv.bk (I : Inv X pins σ H s) : ∀ b o, X.base.get? b = some o → s.heap.get? b = some o := fun b o e => (I.bs b o e).1
theorem Inv.mod (I : Inv X pins σ H s) : Mod X.K X.mg X.base := I.ok.mod
theorem Inv.kIn (I : Inv X pins σ H s) : X.K.In s.heap := I.ok.mod.kin.keeps I.bk
theorem Inv.nolimit (I : Inv X pins σ H s) : s.heap.NoLimit := I.ok.mod.nolimit.keeps I.bk
theorem Inv.fr (I : Inv X pins σ H s) : ∃ m, Fr X.base X.env.locals s.heap m :=
  let ⟨m, hn, _⟩ := I.loc
  ⟨m, hn, I.bk, Nat.le_trans I.ok.bsz I.ok.above⟩
theorem Inv.lt (I : Inv X pins σ H s) : X.env.locals < s.heap.objs.size := let ⟨_, hn, _⟩ := I.loc; hn.lt
theorem Inv.sz (I : Inv X pins σ H s) : X.s₀.heap.objs.size ≤ s.heap.objs.size := Nat.le_trans I.ok.above (Nat.le_of_lt I.lt)
theorem Inv.nofs (I : Inv X pins σ H s) {a : Addr} (h : s.heap.objs.size ≤ a) : a ∉ X.fs := fun hb => by
  obtain ⟨_, o, ho, _⟩ := I.ok.funs.mem hb
  exact absurd (Nat.lt_of_lt_of_le (Heap.lt_size ho) (Nat.le_trans I.sz h)) (Nat.lt_irrefl _)
theorem Inv.cne (I : Inv X pins σ H s) : ∀ x c, X.env.cells.lookup x = some c → c ≠ X.env.locals := fun x c e z => by
  obtain ⟨v, o, ho, hd⟩ := I.cell x c e
  obtain ⟨m, ⟨o', es, ep, ho', hd', _⟩, _⟩ := I.loc
  rw [z, ho'] at ho; cases ho; rw [hd'] at hd; cases hd
theorem Inv.funs (I : Inv X pins σ H s) : s.heap.FunFrames X.base X.outer := by
  have all : ∀ (l : List Env), (∀ b ∈ frs l, b ∈ X.fs) → X.s₀.heap.FunFrames X.base l → s.heap.FunFrames X.base l := by
    intro l
    induction l with
    | nil => intro _ _; trivial
    | cons env r ih =>
      intro hs hl
      obtain ⟨hk, ⟨L, o, hf, hn, ho, hd⟩, hr⟩ := hl
      have hL : L ∈ X.fs := hs L (by unfold frs; rw [List.filterMap_cons, hf]; exact List.mem_cons_self)
      obtain ⟨sl, e⟩ := I.base.slot L o ho (I.ok.frf L hL) hL fun z => I.ok.exfs L z hL
      exact ⟨hk, ⟨L, _, hf, hn, e, hd⟩, ih (fun b hb => hs b (by unfold frs; rw [List.filterMap_cons, hf]; exact List.mem_cons_of_mem _ hb)) hr⟩
  exact all X.outer (fun _ hb => hb) I.ok.funs
theorem Inv.stack (I : Inv X pins σ H s) : s.heap.FunFrames X.base X.stack := by
  rcases I.ok.stk with e | ⟨e, hf⟩
  · rw [e]; exact I.funs
  · rw [e]
    obtain ⟨m, hn, _⟩ := I.loc
    refine .cons (by rw [I.ok.kind]; decide) hf hn ?_ I.funs
    exact Heap.get?_none_of_le (Nat.le_trans I.ok.bsz I.ok.above)
theorem Inv.stkSub (I : Inv X pins σ H s) : ∀ b ∈ frs X.stack, b ∈ X.env.locals :: X.fs := fun b hb => by
  rcases I.ok.stk with e | ⟨e, hf⟩
  · rw [e] at hb; exact List.mem_cons_of_mem _ hb
  · rw [e] at hb
    unfold frs at hb
    rw [List.filterMap_cons, hf] at hb
    exact hb
theorem Inv.stkFree (I : Inv X pins σ H s) : ∀ b ∈ frs X.stack, H b = none := fun b hb => by
  rcases List.mem_cons.mp (I.stkSub b hb) with e | hb
  · rw [e]; exact I.free
  · obtain ⟨_, o, ho, _⟩ := I.ok.funs.mem hb
    exact I.base.free b o ho (I.ok.frf b hb) fun z => I.ok.exfs b z hb
theorem Inv.step {g' : Array GenState} {t' : Nat} {d' : Drawn} {ch : List Addr} (I : Inv X pins σ H s)
    (hch : ∀ b ∈ ch, (b ∈ X.ex ∨ X.s₀.heap.objs.size ≤ b) ∧ b ≠ X.env.locals ∧ (∀ x c, X.env.cells.lookup x = some c → c ≠ b) ∧ ∀ p ∈ X.pn ++ pins, p.1 ≠ b)
    (keep : ∀ b o, b ≠ X.env.locals → b ∉ X.fs → b ∉ ch → s.heap.get? b = some o → H b = none → h'.get? b = some o)
    (slot : ∀ b o, b ≠ X.env.locals → b ∈ X.fs → b ∉ ch → s.heap.get? b = some o → H b = none → ∃ sl, h'.get? b = some { o with slots := sl }) (free : ∀ b o, b ∉ ch → s.heap.get? b = some o → H b = none → H' b = none)
    (there : ∀ b o, b ∉ ch → s.heap.get? b = some o → ∃ o', h'.get? b = some o')
    (tups : ∀ b xs, H b = some (.tup xs) → H' b = some (.tup xs)) (frzs : ∀ b o u, H b = some (.frz o u) → H' b = some (.frz o u)) (tbls : ∀ b ps, H b = some (.tbl ps) → ∃ more, H' b = some (.tbl (ps ++ more)))
    (ns : ∀ m, s.heap.Ns X.env.locals m → h'.Ns X.env.locals m) (hok : HOk X.prog X.w H' h') (hg : AllBare g') :
    Inv X pins σ H' { s with heap := h', gens := g', drawn := d', toks := t' } := by
  have neL : ∀ b o, X.s₀.heap.get? b = some o → b ≠ X.env.locals := fun b o e => Nat.ne_of_lt (Nat.lt_of_lt_of_le (Heap.lt_size e) I.ok.above)
  have neC : ∀ b o, X.s₀.heap.get? b = some o → b ∉ X.ex → b ∉ ch := fun b o e hx hb => by
    rcases (hch b hb).1 with z | z
    · exact hx z
    · exact absurd (Nat.lt_of_lt_of_le (Heap.lt_size e) z) (Nat.lt_irrefl _)
  have cellK : ∀ x c, X.env.cells.lookup x = some c → ∀ v, s.heap.IsCell c v → h'.IsCell c v := fun x c e v ⟨o, ho, hd⟩ => by
    have nch : c ∉ ch := fun z => (hch c z).2.2.1 x c e rfl
    by_cases hc : c ∈ X.fs
    · obtain ⟨sl, q⟩ := slot c o (I.cne x c e) hc nch ho (I.freeC x c e)
      exact ⟨_, q, hd⟩
    · exact ⟨o, keep c o (I.cne x c e) hc nch ho (I.freeC x c e), hd⟩
  refine ⟨I.ok, I.os, hg, ⟨fun b o e n hb hx => ?_, fun b o e n hb hx => ?_, fun b o e n hx => ?_, fun b o e hx => ?_, fun b xs e => tups b xs (I.base.tups b xs e), fun b o xs e => frzs b o xs (I.base.frzs b o xs e), fun b ps e => ?_⟩, ?_, fun x c e => ?_, ?_, fun x c e => ?_, fun p hp => ?_, hok, I.len⟩
  · exact keep b o (neL b o e) hb (neC b o e hx) (I.base.keep b o e n hb hx) (I.base.free b o e n hx)
  · obtain ⟨sl, e1⟩ := I.base.slot b o e n hb hx
    obtain ⟨sl', e2⟩ := slot b _ (neL b o e) hb (neC b o e hx) e1 (I.base.free b o e n hx)
    exact ⟨sl', e2⟩
  · obtain ⟨o', e1⟩ := I.base.there b o e hx
    exact free b o' (neC b o e hx) e1 (I.base.free b o e n hx)
  · obtain ⟨o', e1⟩ := I.base.there b o e hx
    exact there b o' (neC b o e hx) e1
  · obtain ⟨m1, e1⟩ := I.base.tbls b ps e
    obtain ⟨m2, e2⟩ := tbls b _ e1
    exact ⟨m1 ++ m2, by rw [e2, Array.append_assoc]⟩
  · obtain ⟨m, hn, hl⟩ := I.loc
    refine ⟨m, ns m hn, fun i x v e1 e2 e3 => ?_⟩
    obtain ⟨u, r, l⟩ := hl i x v e1 e2 e3
    refine ⟨u, r, ?_⟩
    rcases l with l | ⟨k, c, e, z⟩
    · exact .inl l
    · exact .inr ⟨k, c, e, cellK x c e _ z⟩
  · obtain ⟨v, z⟩ := I.cell x c e
    exact ⟨v, cellK x c e v z⟩
  · obtain ⟨m, ⟨o, _, _, ho, _⟩, _⟩ := I.loc
    exact free _ o (fun z => (hch _ z).2.1 rfl) ho I.free
  · obtain ⟨v, o, ho, hd⟩ := I.cell x c e
    exact free c o (fun z => (hch c z).2.2.1 x c e rfl) ho (I.freeC x c e)
  · obtain ⟨e, n, ne, nf, d⟩ := I.pin p hp
    have nch : p.1 ∉ ch := fun z => (hch p.1 z).2.2.2 p hp rfl
    exact ⟨keep p.1 p.2 ne nf nch e n, free p.1 p.2 nch e n, ne, nf, d⟩
theorem Inv.un {t' : Nat} (I : Inv X pins σ H s) (u : Un X.fs [] H H' s.heap h') (hok : HOk X.prog X.w H' h') : Inv X pins σ H' { s with heap := h', toks := t' } := by
  obtain ⟨m, ⟨o, es, ep, ho, r⟩, _⟩ := id I.loc
  obtain ⟨sl, hL⟩ := u.any ho I.free (by simp)
  exact I.step (g' := s.gens) (d' := s.drawn) (ch := []) (fun _ z => nomatch z) (fun b o _ hb _ e n => u.keep b o e n hb (by simp)) (fun b o _ hb _ e n => u.slot b o e n hb (by simp)) (fun b o _ e n => u.free b o e n (by simp)) (fun b o _ e => u.there b o e (by simp)) u.tups u.frzs u.tbls (fun m' hm => by
    obtain ⟨o', es', ep', ho', r'⟩ := hm
    rw [ho] at ho'; cases ho'
    exact ⟨_, es', ep', hL, r'⟩) hok I.bare
theorem Inv.call {g' : Array GenState} {t' : Nat} {d' : Drawn} {ch : List Addr} (I : Inv X pins σ H s) (u : Un (frs X.stack) ch H H' s.heap h') (hok : HOk X.prog X.w H' h') (hg : AllBare g')
    (hch : ∀ b ∈ ch, (b ∈ X.ex ∨ X.s₀.heap.objs.size ≤ b) ∧ b ≠ X.env.locals ∧ (∀ x c, X.env.cells.lookup x = some c → c ≠ b) ∧ ∀ p ∈ X.pn ++ pins, p.1 ≠ b) :
    Inv X pins σ H' { s with heap := h', gens := g', drawn := d', toks := t' } := by
  obtain ⟨m, ⟨o, es, ep, ho, r⟩, _⟩ := id I.loc
  obtain ⟨sl, hL⟩ := u.any ho I.free fun z => (hch _ z).2.1 rfl
  exact I.step (ch := ch) hch (fun b o hL hb hc e n => u.keep b o e n (fun z => (List.mem_cons.mp (I.stkSub b z)).elim hL hb) hc) (fun b o _ _ hc e n => u.any e n hc) (fun b o hc e n => u.free b o e n hc) (fun b o hc e => u.there b o e hc) u.tups u.frzs u.tbls (fun m' hm => by
    obtain ⟨o', es', ep', ho', r'⟩ := hm
    rw [ho] at ho'; cases ho'
    exact ⟨_, es', ep', hL, r'⟩) hok hg
theorem Inv.turned {t' : Nat} {it : Addr} (I : Inv X pins σ H s) (k : ∀ b o, b ≠ it → s.heap.get? b = some o → h'.get? b = some o) (hn : H it = none) (hL : it ≠ X.env.locals)
    (h1 : it ∈ X.ex ∨ X.s₀.heap.objs.size ≤ it) (h2 : ∀ x c, X.env.cells.lookup x = some c → c ≠ it) (h3 : ∀ p ∈ X.pn ++ pins, p.1 ≠ it) : Inv X pins σ H { s with heap := h', toks := t' } := by
  have nit : ∀ b u, H b = some u → b ≠ it := fun b u e z => by rw [z, hn] at e; cases e
  refine I.step (g' := s.gens) (d' := s.drawn) (ch := [it]) (fun b hb => ?_) (fun b o _ _ hc e _ => k b o (fun z => hc (by simp [z])) e) (fun b o _ _ hc e _ => ⟨o.slots, k b o (fun z => hc (by simp [z])) e⟩) (fun _ _ _ _ n => n)
    (fun b o hc e => ⟨o, k b o (fun z => hc (by simp [z])) e⟩) (fun _ _ e => e) (fun _ _ _ e => e) (fun b ps e => ⟨#[], by rw [e]; simp⟩) (fun m hm => ?_) (fun b u e => ?_) I.bare
  · have e : b = it := by simpa using hb
    subst e
    exact ⟨h1, hL, h2, h3⟩
  · obtain ⟨o, es, ep, ho, r⟩ := hm
    exact ⟨o, es, ep, k _ o (Ne.symm hL) ho, r⟩
  · refine (I.hok b u e).stay (fun c v hc q => k c v ?_ q) (fun _ q => q) fun _ _ q => q
    rcases hc with z | z
    · rw [z]; exact nit b u e
    · exact nit c _ z
theorem Inv.tok (I : Inv X pins σ H s) (t : Nat) : Inv X pins σ H { s with toks := t } := I.un (h' := s.heap) (t' := t) Un.refl I.hok
theorem Inv.kept {t' : Nat} (I : Inv X pins σ H s) (k : ∀ b u, s.heap.get? b = some u → h'.get? b = some u) : Inv X pins σ H { s with heap := h', toks := t' } := I.un (Un.kept k) (I.hok.kept k)
theorem Inv.laid {a : Addr} {o : HO} {t' : Nat} (I : Inv X pins σ H s) (k : ∀ b u, s.heap.get? b = some u → h'.get? b = some u) (hp : s.heap.objs.size ≤ a) (new : ObjOk X.prog X.w (upd H a o) h' a o) :
    Inv X pins σ (upd H a o) { s with heap := h', toks := t' } := I.un (Un.laid k hp (I.hok.fresh hp)) (I.hok.laid k hp new)
theorem Inv.write {x e : Addr} {o : HO} {t' : Nat} (I : Inv X pins σ H s) (mu : Mut (H x)) (he : e = x ∨ H e = some (.own x)) (k : ∀ b u, b ≠ e → s.heap.get? b = some u → h'.get? b = some u) (heo : ∃ u, h'.get? e = some u)
    (new : ObjOk X.prog X.w (upd H x o) h' x o) : Inv X pins σ (upd H x o) { s with heap := h', toks := t' } := I.un (Un.write mu he k heo) (I.hok.write mu he k heo new)
theorem Inv.pins_of {pins' : List (Addr × Obj)} (I : Inv X pins σ H s) (h : ∀ p ∈ pins', s.heap.get? p.1 = some p.2 ∧ H p.1 = none ∧ p.1 ≠ X.env.locals ∧ p.1 ∉ X.fs ∧ ∀ v, p.2.data ≠ .cell v) : Inv X pins' σ H s :=
  ⟨I.ok, I.os, I.bare, I.base, I.loc, I.cell, I.free, I.freeC, fun p hp => (List.mem_append.mp hp).elim (fun z => I.pin p (List.mem_append_left _ z)) (h p), I.hok, I.len⟩
theorem nodup_ix {N : List Str} (hN : N.Nodup) {i j : Nat} {x : Str} (a : N[i]? = some x) (b : N[j]? = some x) : i = j := by
  obtain ⟨h1, e1⟩ := List.getElem?_eq_some_iff.mp a
  obtain ⟨h2, e2⟩ := List.getElem?_eq_some_iff.mp b
  exact (List.getElem_inj hN).mp (e1.trans e2.symm)
theorem store_ok2 {M : Model} {A : Around} {E : Value → Shared → Prop} {i : Nat} {x : Str} {v : V} {u : Value} {Q : Unit → Shared → Prop} (I : Inv X pins σ H s) (hN : X.N.Nodup) (hi : X.N[i]? = some x) (hx : Loc X.env.scope x) (r : RelV v u)
    (h : ∀ s', Inv X pins (σ.set i (some v)) H s' → (∃ a, Heap.SameBut a s.heap s'.heap ∧ (a = X.env.locals ∨ X.env.cells.lookup x = some a)) → Q () s') (hf : X.fn x = true ∨ X.env.scope.names.lookup x = some .local := by first | exact .inl rfl | exact .inr rfl | assumption) : wpAny M A (storeName X.env x u) Q E s := by
  obtain ⟨m, hn, hl⟩ := id I.loc
  have hcls : (X.env.scope.kind == .class || (X.env.scope.kind == .module && X.env.locals != X.env.globals)) = false := by rw [I.ok.kind]; rfl
  have hiσ : i < σ.length := by rw [I.len]; exact (List.getElem?_eq_some_iff.mp hi).1
  have cne := I.cne
  have tracked : ∀ {a : Addr} {h' : Heap}, (∃ o, s.heap.get? a = some o ∧ H a = none) → Heap.SameBut a s.heap h' → HOk X.prog X.w H h' := fun {a h'} ha hs b ob e => by
    obtain ⟨_, _, hfree⟩ := ha
    refine (I.hok b ob e).stay (fun c w' hc q => (hs.2 c ?_).trans q) (fun _ q => q) fun _ _ q => q
    rintro rfl
    rcases hc with rfl | hc
    · rw [hfree] at e; cases e
    · rw [hfree] at hc; cases hc
  rcases hx with hk | hk
  · refine wpAny_storeName_local hk hn (fun h' hn' hs => ?_) hcls
    obtain ⟨oL, _, _, hoL, _⟩ := id hn
    refine h _ ⟨I.ok, I.os, I.bare, ⟨fun b o e n hb hx => ?_, fun b o e n hb hx => ?_, I.base.free, fun b o e hx => ?_, I.base.tups, I.base.frzs, I.base.tbls⟩, ⟨_, hn', fun j y v' e1 e2 e3 => ?_⟩, fun y c e => ?_, I.free, I.freeC, fun p hp => ?_, tracked ⟨oL, hoL, I.free⟩ hs, by simpa using I.len⟩ ⟨_, hs, .inl rfl⟩
    · exact (hs.2 b (Nat.ne_of_lt (Nat.lt_of_lt_of_le (Heap.lt_size e) I.ok.above))).trans (I.base.keep b o e n hb hx)
    · obtain ⟨sl, e1⟩ := I.base.slot b o e n hb hx
      exact ⟨sl, (hs.2 b (Nat.ne_of_lt (Nat.lt_of_lt_of_le (Heap.lt_size e) I.ok.above))).trans e1⟩
    · obtain ⟨o', e1⟩ := I.base.there b o e hx
      exact ⟨o', (hs.2 b (Nat.ne_of_lt (Nat.lt_of_lt_of_le (Heap.lt_size e) I.ok.above))).trans e1⟩
    · by_cases hj : j = i
      · subst hj
        rw [hi] at e1; cases e1
        rw [List.getElem?_set_self hiσ] at e2
        cases e2
        exact ⟨u, r, .inl ⟨hk, by simp⟩⟩
      · rw [List.getElem?_set_ne (Ne.symm hj)] at e2
        obtain ⟨u', r', q⟩ := hl j y v' e1 e2 e3
        refine ⟨u', r', ?_⟩
        rcases q with ⟨k, e⟩ | ⟨k, c, e, z⟩
        · refine .inl ⟨k, ?_⟩
          have : y ≠ x := fun e => hj (nodup_ix hN e1 (e ▸ hi))
          simp [this, e]
        · exact .inr ⟨k, c, e, z.sameBut hs (cne y c e)⟩
    · obtain ⟨w', z⟩ := I.cell y c e
      exact ⟨w', z.sameBut hs (cne y c e)⟩
    · obtain ⟨e, n, ne, nf, d⟩ := I.pin p hp
      exact ⟨(hs.2 p.1 ne).trans e, n, ne, nf, d⟩
  · have hfn : X.fn x = true := by
      rcases hf with z | z
      · exact z
      · rw [z] at hk; cases hk
    obtain ⟨c, hc⟩ := I.ok.has x (.inl hk)
    obtain ⟨w', z⟩ := I.cell x c hc
    refine wpAny_storeName_cell I.ok.kind hk hc z (fun h' hc' hs => ?_)
    obtain ⟨oc, hoc, hocd⟩ := id z
    refine h { s with heap := h' } ⟨I.ok, I.os, I.bare, ⟨fun b o e n hb hx => ?_, fun b o e n hb hx => ?_, I.base.free, fun b o e hx => ?_, I.base.tups, I.base.frzs, I.base.tbls⟩, ⟨m, hn.sameBut hs (Ne.symm (cne x c hc)), fun j y v' e1 e2 e3 => ?_⟩, fun y c' e => ?_, I.free, I.freeC, fun p hp => ?_, tracked ⟨oc, hoc, I.freeC x c hc⟩ hs, by simpa using I.len⟩ ⟨c, hs, .inr hc⟩
    · exact (hs.2 b (Nat.ne_of_lt (Nat.lt_of_lt_of_le (Heap.lt_size e) (I.ok.cab x c hfn hc)))).trans (I.base.keep b o e n hb hx)
    · obtain ⟨sl, e1⟩ := I.base.slot b o e n hb hx
      exact ⟨sl, (hs.2 b (Nat.ne_of_lt (Nat.lt_of_lt_of_le (Heap.lt_size e) (I.ok.cab x c hfn hc)))).trans e1⟩
    · obtain ⟨o', e1⟩ := I.base.there b o e hx
      exact ⟨o', (hs.2 b (Nat.ne_of_lt (Nat.lt_of_lt_of_le (Heap.lt_size e) (I.ok.cab x c hfn hc)))).trans e1⟩
    · by_cases hj : j = i
      · subst hj
        rw [hi] at e1; cases e1
        rw [List.getElem?_set_self hiσ] at e2
        cases e2
        exact ⟨u, r, .inr ⟨.inl hk, c, hc, hc'⟩⟩
      · rw [List.getElem?_set_ne (Ne.symm hj)] at e2
        obtain ⟨u', r', q⟩ := hl j y v' e1 e2 e3
        refine ⟨u', r', ?_⟩
        rcases q with q | ⟨k, c', e, z'⟩
        · exact .inl q
        · refine .inr ⟨k, c', e, z'.sameBut hs ?_⟩
          rintro rfl
          exact hj (nodup_ix hN e1 (I.ok.inj _ _ _ e hc ▸ hi))
    · by_cases hcc : c' = c
      · subst hcc; exact ⟨_, hc'⟩
      · obtain ⟨w2, z2⟩ := I.cell y c' e
        exact ⟨w2, z2.sameBut hs hcc⟩
    · obtain ⟨e, n, ne, nf, d⟩ := I.pin p hp
      refine ⟨(hs.2 p.1 ?_).trans e, n, ne, nf, d⟩
      intro q
      rw [q, hoc] at e
      have q' : oc = p.2 := Option.some.inj e
      exact d w' (by rw [← q']; exact hocd)
theorem store_ok {M : Model} {A : Around} {E : Value → Shared → Prop} {i : Nat} {x : Str} {v : V} {u : Value} {Q : Unit → Shared → Prop} (I : Inv X pins σ H s) (hN : X.N.Nodup) (hi : X.N[i]? = some x) (hx : Loc X.env.scope x) (r : RelV v u)
    (h : ∀ s', Inv X pins (σ.set i (some v)) H s' → Q () s') (hf : X.fn x = true ∨ X.env.scope.names.lookup x = some .local := by first | exact .inl rfl | exact .inr rfl | assumption) : wpAny M A (storeName X.env x u) Q E s :=
  store_ok2 I hN hi hx r (fun s' I' _ => h s' I') hf
theorem Inv.call' {s' : Shared} {ch : List Addr} (I : Inv X pins σ H s) (ho : s'.os = s.os) (u : Un (frs X.stack) ch H H' s.heap s'.heap) (hok : HOk X.prog X.w H' s'.heap) (hg : AllBare s'.gens)
    (hch : ∀ b ∈ ch, (b ∈ X.ex ∨ X.s₀.heap.objs.size ≤ b) ∧ b ≠ X.env.locals ∧ (∀ x c, X.env.cells.lookup x = some c → c ≠ b) ∧ ∀ p ∈ X.pn ++ pins, p.1 ≠ b) : Inv X pins σ H' s' := by
  obtain ⟨h', g', d', t', o'⟩ := s'
  have e : o' = s.os := ho
  subst e
  exact I.call (g' := g') (t' := t') (d' := d') u hok hg hch
end
noncomputable abbrev XK := Value → Option Addr → Hp → Prop
noncomputable abbrev St := List (Option V)
noncomputable abbrev VK := V → Hp → Prop
noncomputable abbrev TE := St → Hp → VK → Prop
noncomputable abbrev TT := St → Hp → (Bool → Hp → Prop) → Prop
noncomputable abbrev TA := St → Hp → (List V → Hp → Prop) → Prop
structure Ends where
  nx : St → Hp → Prop
  rt : VK
  bk : St → Hp → Prop := fun _ _ => False
  ct : St → Hp → Prop := fun _ _ => False
noncomputable abbrev TS := Ends → St → Hp → Prop
def EP (X : Cx) (pins : List (Addr × Obj)) (σ : St) (Q : VK) (u : Value) (s' : Shared) : Prop := ∃ v H', Inv X pins σ H' s' ∧ RelV v u ∧ Q v H'
def TP (X : Cx) (pins : List (Addr × Obj)) (σ : St) (Q : Bool → Hp → Prop) (b : Bool) (s' : Shared) : Prop := ∃ H', Inv X pins σ H' s' ∧ Q b H'
def AP (X : Cx) (pins : List (Addr × Obj)) (σ : St) (Q : List V → Hp → Prop) (us : List Value) (s' : Shared) : Prop := ∃ vs H', Inv X pins σ H' s' ∧ Vals vs us ∧ Q vs H'
def SP (X : Cx) (pins : List (Addr × Obj)) (D : Ends) (f : Flow) (s' : Shared) : Prop :=
  match f with
  | .next => ∃ σ' H', Inv X pins σ' H' s' ∧ D.nx σ' H'
  | .brk => ∃ σ' H', Inv X pins σ' H' s' ∧ D.bk σ' H'
  | .cont => ∃ σ' H', Inv X pins σ' H' s' ∧ D.ct σ' H'
  | .ret u => ∃ v σ' H', Inv X pins σ' H' s' ∧ RelV v u ∧ D.rt v H'
def PE (X : Cx) (e : Expr) (t : TE) : Prop :=
  ∀ (pins : List (Addr × Obj)) (s : Shared) (σ : St) (H : Hp) (Q : VK), Inv X pins σ H s → t σ H Q → wpAny (model X.prog X.w) X.A (eval e X.env) (EP X pins σ Q) X.xe s
def PT (X : Cx) (e : Expr) (t : TT) : Prop :=
  ∀ (pins : List (Addr × Obj)) (s : Shared) (σ : St) (H : Hp) (Q : Bool → Hp → Prop), Inv X pins σ H s → t σ H Q → wpAny (model X.prog X.w) X.A (isTrue e X.env (eval e X.env)) (TP X pins σ Q) X.xe s
def PW (X : Cx) (e : Expr) (t : TT) : Prop :=
  ∀ (whole : Sem Value) (pins : List (Addr × Obj)) (s : Shared) (σ : St) (H : Hp) (Q : Bool → Hp → Prop), Inv X pins σ H s → t σ H Q → wpAny (model X.prog X.w) X.A (isTrue e X.env whole) (TP X pins σ Q) X.xe s
theorem PW.pt {X : Cx} {e : Expr} {t : TT} (h : PW X e t) : PT X e t := h _
def PA (X : Cx) (es : List Expr) (t : TA) : Prop :=
  ∀ (pos : Pos) (pins : List (Addr × Obj)) (s : Shared) (σ : St) (H : Hp) (Q : List V → Hp → Prop), Inv X pins σ H s → t σ H Q → wpAny (model X.prog X.w) X.A (spliced (backTo pos (starEach es X.env))) (AP X pins σ Q) X.xe s
def PS (X : Cx) (st : Stmt) (t : TS) : Prop :=
  ∀ (pins : List (Addr × Obj)) (s : Shared) (σ : St) (H : Hp) (D : Ends), Inv X pins σ H s → t D σ H → wpAny (model X.prog X.w) X.A (exec st X.env) (SP X pins D) X.xe s
def PSs (X : Cx) (st : List Stmt) (t : TS) : Prop :=
  ∀ (pins : List (Addr × Obj)) (s : Shared) (σ : St) (H : Hp) (D : Ends), Inv X pins σ H s → t D σ H → wpAny (model X.prog X.w) X.A (execs st X.env) (SP X pins D) X.xe s
theorem thn {α : Type} {t : Sem α} {Q Q' : α → Shared → Prop} {M : Model} {A : Around} {E : Value → Shared → Prop} {s : Shared} (h : wpAny M A t Q E s) (hQ : ∀ a s, Q a s → Q' a s) : wpAny M A t Q' E s := wpAny_mono h hQ fun _ _ x => x
end L2
namespace L2
open PySem PySem.Spec PyProof.Rows
section
variable {X : Cx}
def tVar (i : Nat) : TE := fun σ H Q => ∃ v, σ[i]? = some (some v) ∧ Q v H
def tC (v : V) : TE := fun _ H Q => Q v H
theorem pe_var {i : Nat} {x : Str} {pos : Pos} (hN : X.N[i]? = some x) (hv : Vis X.env.scope x) (hd : (x == ("__debug__" : Str)) = false := by decide) (hcd : (x == ("__classdict__" : Str)) = false := by decide) : PE X (.Name x pos) (tVar i) := by
  intro pins s σ H Q I h
  obtain ⟨v, e, h⟩ := h
  obtain ⟨m, hn, hl⟩ := I.loc
  obtain ⟨u, r, l⟩ := hl i x v hN e hv
  have fin : EP X pins σ Q u s := ⟨v, H, I, r, h⟩
  rcases l with ⟨hk, hm⟩ | ⟨hk, c, hc, hcell⟩
  · exact wpAny_Name (wpAny_loadName_local I.ok.kind hk hn hm fin) hd
  · rcases hk with hk | hk
    · exact wpAny_Name (wpAny_loadName_cell I.ok.kind hk hc hcell fin) hd
    · exact wpAny_Name (wpAny_loadName_free I.ok.kind hk hc hcell fin hcd) hd
theorem pe_int {i j pos} : PE X (.Constant (.int i) j pos) (tC (.int i)) := fun _ _ _ H _ I h => wpAny_Constant_int ⟨.int i, H, I.tok _, ⟨_, rfl⟩, h⟩
theorem pe_bl {b j pos} : PE X (.Constant (.bool b) j pos) (tC (.bl b)) := fun _ _ _ H _ I h => Constant_bool ⟨.bl b, H, I, rfl, h⟩
theorem pe_non {j pos} : PE X (.Constant .none j pos) (tC .non) := fun _ _ _ H _ I h => Constant_none ⟨.non, H, I, rfl, h⟩
def Gl (X : Cx) (x : Str) : Prop := X.env.kindOf x = some .globalImplicit
theorem ld_glob {E : Value → Shared → Prop} {pins : List (Addr × Obj)} {s : Shared} {σ : St} {H : Hp} {x : Str} {u : Value} {pos : Pos} {Q : Value → Shared → Prop} (I : Inv X pins σ H s) (hg : Gl X x) (hm : X.mg x = some u) (h : Q u s)
    (hd : (x == ("__debug__" : Str)) = false := by decide) : wpAny (model X.prog X.w) X.A (eval (.Name x pos) X.env) Q E s :=
  Calls.Name_function_global I.ok.kind hg (Calls.loadGlobal_global (by rw [I.ok.glob]; exact I.mod.glob.keeps I.bk) hm h) hd
theorem ld_blt {E : Value → Shared → Prop} {pins : List (Addr × Obj)} {s : Shared} {σ : St} {H : Hp} {x : Str} {u : Value} {pos : Pos} {Q : Value → Shared → Prop} (I : Inv X pins σ H s) (hg : Gl X x) (hm : X.mg x = none) (hv : bootBuiltins x = some u) (h : Q u s)
    (hn : x ≠ "__name__" := by decide) (hd : (x == ("__debug__" : Str)) = false := by decide) : wpAny (model X.prog X.w) X.A (eval (.Name x pos) X.env) Q E s := by
  obtain ⟨mb, h1, h2⟩ := I.mod.blt
  exact Calls.Name_function_global I.ok.kind hg (Calls.loadGlobal_builtin (by rw [I.ok.glob]; exact I.mod.glob.keeps I.bk) hm (by rw [I.ok.blt]; exact h1.keeps I.bk) ((h2 x hn).trans hv) h) hd
theorem pe_bltn {x : Str} {v : V} {u : Value} {pos : Pos} (hg : Gl X x) (hm : X.mg x = none) (hv : bootBuiltins x = some u) (r : RelV v u) (hn : x ≠ "__name__" := by decide) (hd : (x == ("__debug__" : Str)) = false := by decide) : PE X (.Name x pos) (tC v) :=
  fun _ _ _ H _ I h => ld_blt I hg hm hv ⟨v, H, I, r, h⟩ hn hd
variable {a b : Expr} {ta tb : TE} {pos : Pos}
def tB (t : TE) : TT := fun σ H Q => t σ H fun x H1 => ∃ c, x = .bl c ∧ Q c H1
variable {tA tB' : TT} {rest : List Expr}
def tAnd (t u : TT) : TT := fun σ H Q => t σ H fun c H1 => if c = true then u σ H1 Q else Q false H1
def tOr (t u : TT) : TT := fun σ H Q => t σ H fun c H1 => if c = true then Q true H1 else u σ H1 Q
def tNot (t : TT) : TT := fun σ H Q => t σ H fun c H1 => Q (!c) H1
theorem pw_and1 (ha : PT X a tA) : PW X (.BoolOp .And [a] pos) tA := by
  intro wh pins s σ H Q I h
  refine isTrue_and (thn (ha pins s σ H Q I h) fun c s1 e => ?_)
  cases c with
  | true => exact isTrue_and_nil e
  | false => exact e
theorem pw_or1 (ha : PT X a tA) : PW X (.BoolOp .Or [a] pos) tA := by
  intro wh pins s σ H Q I h
  refine isTrue_or (thn (ha pins s σ H Q I h) fun c s1 e => ?_)
  cases c with
  | false => exact isTrue_or_nil e
  | true => exact e
theorem pw_and (ha : PT X a tA) (hb : PW X (.BoolOp .And (b :: rest) pos) tB') : PW X (.BoolOp .And (a :: b :: rest) pos) (tAnd tA tB') := by
  intro wh pins s σ H Q I h
  refine isTrue_and (thn (ha pins s σ H _ I h) fun c s1 ⟨H1, I1, q1⟩ => ?_)
  cases c with
  | true => exact hb wh pins s1 σ H1 Q I1 q1
  | false => exact ⟨H1, I1, q1⟩
theorem pw_or (ha : PT X a tA) (hb : PW X (.BoolOp .Or (b :: rest) pos) tB') : PW X (.BoolOp .Or (a :: b :: rest) pos) (tOr tA tB') := by
  intro wh pins s σ H Q I h
  refine isTrue_or (thn (ha pins s σ H _ I h) fun c s1 ⟨H1, I1, q1⟩ => ?_)
  cases c with
  | true => exact ⟨H1, I1, q1⟩
  | false => exact hb wh pins s1 σ H1 Q I1 q1
theorem pt_not (ha : PT X a tA) : PT X (.UnaryOp .Not a pos) (tNot tA) := by
  intro pins s σ H Q I h
  exact isTrue_not (ha pins s σ H (fun c H1 => Q (!c) H1) I h)
def tAndV (ta tb : TE) : TE := fun σ H Q => ta σ H fun x H1 => ∃ c, x = .bl c ∧ if c = true then tb σ H1 Q else Q (.bl false) H1
def tNotV (ta : TE) : TE := fun σ H Q => ta σ H fun x H1 => ∃ c, x = .bl c ∧ Q (.bl (!c)) H1
theorem pe_one {op} {t : TE} (h : PE X a t) : PE X (.BoolOp op [a] pos) t := fun pins s σ H Q I hw => BoolOp_one (h pins s σ H Q I hw)
theorem pe_and (ha : PE X a ta) (hb : PE X (.BoolOp .And (b :: rest) pos) tb) : PE X (.BoolOp .And (a :: b :: rest) pos) (tAndV ta tb) := by
  intro pins s σ H Q I h
  refine BoolOp_and (thn (ha pins s σ H _ I h) fun v s1 ⟨x, H1, I1, r1, q1⟩ => ?_)
  obtain ⟨c, rfl, q1⟩ := q1
  cases r1
  refine wpAny_truthy_bool ?_
  cases c with
  | true => exact hb pins s1 σ H1 Q I1 q1
  | false => exact ⟨.bl false, H1, I1, rfl, q1⟩
theorem pe_not (ha : PE X a ta) : PE X (.UnaryOp .Not a pos) (tNotV ta) := by
  intro pins s σ H Q I h
  refine UnaryOp_ (thn (ha pins s σ H _ I h) fun v s1 ⟨x, H1, I1, r1, q1⟩ => ?_)
  obtain ⟨c, rfl, q1⟩ := q1
  cases r1
  exact not_of (wpAny_truthy_bool ⟨.bl (!c), H1, I1, rfl, q1⟩)
end
end L2
namespace L2
open PySem PySem.Spec PyProof.Rows
def SqL (K : PySem.W.Frag) (H : Hp) (a : Addr) (xs : List V) : Prop :=
  Rd H a (.lst xs) ∨
    ∃ (o : Obj) (its : Array Value) (n : Nat), K.lookup a = some o ∧ o.cls = .type "list" ∧ o.dict = none ∧ o.data = .seq its n ∧ its.size ≤ sizeLine ∧ Vals xs its.toList
def SqT (K : PySem.W.Frag) (H : Hp) (a : Addr) (xs : List V) : Prop :=
  Rd H a (.tup xs) ∨
    ∃ (o : Obj) (its : Array Value) (n : Nat), K.lookup a = some o ∧ o.cls = .type "tuple" ∧ o.dict = none ∧ o.data = .seq its n ∧ its.size ≤ sizeLine ∧ Vals xs its.toList
noncomputable def absV : Value → Option V
  | .none => some .non
  | .bool b => some (.bl b)
  | .int i _ => some (.int i)
  | .str x _ => some (.str x)
  | .bytes b _ => some (.byt b)
  | .float b _ => some (.flt b)
  | .ref a => some (.ref a)
  | .type n => some (.ty n)
  | _ => none
theorem RelV.abs {x : V} {u : Value} (r : RelV x u) : absV u = some x := by
  cases x with
  | non => cases r; rfl
  | bl _ => cases r; rfl
  | int _ => obtain ⟨t, rfl⟩ := r; rfl
  | str _ => obtain ⟨t, rfl⟩ := r; rfl
  | byt _ => obtain ⟨t, rfl⟩ := r; rfl
  | flt _ => obtain ⟨t, rfl⟩ := r; rfl
  | ref _ => cases r; rfl
  | ty _ => cases r; rfl
theorem RelV.inj {x y : V} {u : Value} (r : RelV x u) (q : RelV y u) : x = y := Option.some.inj (r.abs.symm.trans q.abs)
theorem Vals.inj : ∀ {xs ys : List V} {us : List Value}, Vals xs us → Vals ys us → xs = ys
  | _, _, _, .nil, .nil => rfl
  | _, _, _, .cons r t, .cons r' t' => by rw [r.inj r', Vals.inj t t']
section
variable {X : Cx} {pins : List (Addr × Obj)} {σ : St} {H : Hp} {s : Shared} {a : Addr} {xs ys : List V}
theorem SqL.of {K : PySem.W.Frag} (h : H a = some (.lst xs)) : SqL K H a xs := .inl (.inl h)
theorem SqT.of {K : PySem.W.Frag} (h : H a = some (.tup xs)) : SqT K H a xs := .inl (.inl h)
theorem Inv.list (I : Inv X pins σ H s) (h : SqL X.K H a xs) : ∃ its : List Value, Vals xs its ∧ PlainL s.heap a its.toArray ∧ xs.length ≤ sizeLine := by
  rcases h with h | ⟨o, its, n, hk, hc, hd, hs, hz, r⟩
  · obtain ⟨z, its, n, r, e⟩ := h.ok I.hok
    exact ⟨its, r, ⟨_, n, e, rfl, rfl, rfl⟩, z⟩
  · refine ⟨its.toList, r, ⟨o, n, I.kIn a o hk, hc, hd, by simpa using hs⟩, ?_⟩
    have e := r.length
    simp only [Array.length_toList] at e
    omega
theorem Inv.tuple (I : Inv X pins σ H s) (h : SqT X.K H a xs) : ∃ its : List Value, Vals xs its ∧ IsTup s.heap a its.toArray ∧ xs.length ≤ sizeLine := by
  rcases h with h | ⟨o, its, n, hk, hc, hn, hs, hz, r⟩
  · obtain ⟨z, its, r, p⟩ := h.ok I.hok
    exact ⟨its, r, p.1, z⟩
  · refine ⟨its.toList, r, ⟨o, I.kIn a o hk, hc, n, by simpa using hs⟩, ?_⟩
    have e := r.length
    simp only [Array.length_toList] at e
    omega
theorem Inv.tupleD (I : Inv X pins σ H s) (h : SqT X.K H a xs) : ∃ its : List Value, Vals xs its ∧ IsTupD s.heap a its.toArray ∧ xs.length ≤ sizeLine := by
  obtain ⟨its, r, p, z⟩ := I.tuple h
  refine ⟨its, r, ⟨p, fun o e => ?_⟩, z⟩
  rcases h with h | ⟨o', its', n, hk, hc, hn, hs, hz, r'⟩
  · obtain ⟨_, _, _, q⟩ := h.ok I.hok
    exact q.2 o e
  · have := I.kIn a o' hk
    rw [this] at e; cases e; exact hn
theorem Inv.list_inj (I : Inv X pins σ H s) (h : SqL X.K H a xs) (h' : SqL X.K H a ys) : xs = ys := by
  obtain ⟨its, r, ⟨o, n, e, _, _, d⟩, _⟩ := I.list h
  obtain ⟨its', r', ⟨o', n', e', _, _, d'⟩, _⟩ := I.list h'
  rw [e] at e'; cases e'
  rw [d] at d'
  injection d' with d1 _
  have : its = its' := by simpa using congrArg Array.toList d1
  subst this
  exact r.inj r'
theorem Inv.tuple_inj (I : Inv X pins σ H s) (h : SqT X.K H a xs) (h' : SqT X.K H a ys) : xs = ys := by
  obtain ⟨its, r, ⟨o, e, _, n, d⟩, _⟩ := I.tuple h
  obtain ⟨its', r', ⟨o', e', _, n', d'⟩, _⟩ := I.tuple h'
  rw [e] at e'; cases e'
  rw [d] at d'
  injection d' with d1 _
  have : its = its' := by simpa using congrArg Array.toList d1
  subst this
  exact r.inj r'
end
abbrev Cx.wish (X : Cx) (E : Value → Shared → Prop) : Cx := { X with xe := E }
noncomputable abbrev Cx.nox (X : Cx) : Cx := X.wish fun _ _ => False
theorem Cx.Ok.wish {X : Cx} (ok : X.Ok) (E : Value → Shared → Prop) : (X.wish E).Ok :=
  ⟨ok.mod, ok.kind, ok.glob, ok.blt, ok.above, ok.inj, ok.has, ok.cab, ok.hd, ok.frames, ok.stk, ok.exf, ok.bs, ok.bsz, ok.noex, ok.exfs, ok.funs, ok.frf⟩
theorem Cx.Ok.unwish {X : Cx} {E : Value → Shared → Prop} (ok : (X.wish E).Ok) : X.Ok :=
  ⟨ok.mod, ok.kind, ok.glob, ok.blt, ok.above, ok.inj, ok.has, ok.cab, ok.hd, ok.frames, ok.stk, ok.exf, ok.bs, ok.bsz, ok.noex, ok.exfs, ok.funs, ok.frf⟩
section
variable {X : Cx} {pins : List (Addr × Obj)} {σ : St} {H : Hp} {s : Shared} {E : Value → Shared → Prop}
theorem Inv.wish (I : Inv X pins σ H s) (E : Value → Shared → Prop) : Inv (X.wish E) pins σ H s := ⟨I.ok.wish E, I.os, I.bare, I.base, I.loc, I.cell, I.free, I.freeC, I.pin, I.hok, I.len⟩
theorem Inv.unwish (I : Inv (X.wish E) pins σ H s) : Inv X pins σ H s := ⟨I.ok.unwish, I.os, I.bare, I.base, I.loc, I.cell, I.free, I.freeC, I.pin, I.hok, I.len⟩
theorem SP.unwish {D : Ends} {f : Flow} {s' : Shared} (h : SP (X.wish E) pins D f s') : SP X pins D f s' := by
  cases f with
  | next => obtain ⟨σ', H', I, q⟩ := h; exact ⟨σ', H', I.unwish, q⟩
  | brk => obtain ⟨σ', H', I, q⟩ := h; exact ⟨σ', H', I.unwish, q⟩
  | cont => obtain ⟨σ', H', I, q⟩ := h; exact ⟨σ', H', I.unwish, q⟩
  | ret u => obtain ⟨v, σ', H', I, r, q⟩ := h; exact ⟨v, σ', H', I.unwish, r, q⟩
theorem PE.nox {e : Expr} {t : TE} (h : PE X.nox e t) : PE X e t := fun pins s σ H Q I hw =>
  wpAny_mono (h pins s σ H Q (I.wish _) hw) (fun _ _ ⟨v, H', I', r, q⟩ => ⟨v, H', I'.unwish, r, q⟩) fun _ _ z => False.elim z
theorem PT.nox {e : Expr} {t : TT} (h : PT X.nox e t) : PT X e t := fun pins s σ H Q I hw =>
  wpAny_mono (h pins s σ H Q (I.wish _) hw) (fun _ _ ⟨H', I', q⟩ => ⟨H', I'.unwish, q⟩) fun _ _ z => False.elim z
theorem PSs.nox {st : List Stmt} {t : TS} (h : PSs X.nox st t) : PSs X st t := fun pins s σ H D I hw =>
  wpAny_mono (h pins s σ H D (I.wish _) hw) (fun _ _ q => q.unwish) fun _ _ z => False.elim z
end
section
variable {X : Cx} {st : Stmt} {rest : List Stmt} {t u : TS} {e : Expr} {te : TE} {pos : Pos}
def tNext : TS := fun D σ H => D.nx σ H
def tSeq (t u : TS) : TS := fun D σ H => t { D with nx := u D } σ H
theorem pss_nil : PSs X [] tNext := fun _ _ σ H _ I h => wpAny_execs_nil ⟨σ, H, I, h⟩
theorem pss_cons (h1 : PS X st t) (h2 : PSs X rest u) : PSs X (st :: rest) (tSeq t u) := by
  intro pins s σ H D I h
  refine wpAny_execs_cons (thn (h1 pins s σ H { D with nx := u D } I h) fun f s1 q => ?_)
  cases f with
  | next =>
    obtain ⟨σ', H', I', q⟩ := q
    exact h2 pins s1 σ' H' D I' q
  | ret v => exact q
  | brk => exact q
  | cont => exact q
theorem pss_one (h1 : PS X st t) : PSs X [st] t := by
  intro pins s σ H D I h
  refine wpAny_execs_cons (thn (h1 pins s σ H D I h) fun f s1 q => ?_)
  cases f with
  | next => exact wpAny_execs_nil q
  | ret v => exact q
  | brk => exact q
  | cont => exact q
theorem Inv.quiet {pins : List (Addr × Obj)} {σ : St} {H : Hp} {s : Shared} (I : Inv X pins σ H s) : interactive X.env = false := by simp [interactive, I.ok.kind]
def tDrop (te : TE) : TS := fun D σ H => te σ H fun _ H1 => D.nx σ H1
theorem ps_expr (he : PE X e te) (hs : swapsWith e none pos.line X.env = pure false := by rfl) : PS X (.Expr e pos) (tDrop te) := by
  intro pins s σ H D I h
  exact wpAny_Expr_any (thn (he pins s σ H _ I h) fun v s1 ⟨x, H1, I1, r1, q1⟩ => ⟨σ, H1, I1, q1⟩) I.quiet hs
def tRet (te : TE) : TS := fun D σ H => te σ H D.rt
theorem ps_ret (he : PE X e te) : PS X (.Return (some e) pos) (tRet te) := by
  intro pins s σ H D I h
  exact wpAny_Return_some (thn (he pins s σ H _ I h) fun v s1 ⟨x, H1, I1, r1, q1⟩ => ⟨x, σ, H1, I1, r1, q1⟩)
def tIfS (c : TT) (t u : TS) : TS := fun D σ H => c σ H fun b H1 => if b = true then t D σ H1 else u D σ H1
theorem ps_if {c : Expr} {a b : List Stmt} {tc : TT} (hc : PT X c tc) (ha : PSs X a t) (hb : PSs X b u) : PS X (.If c a b pos) (tIfS tc t u) := by
  intro pins s σ H D I h
  refine wpAny_If (thn (hc pins s σ H _ I h) fun d s1 ⟨H1, I1, q1⟩ => ?_)
  cases d with
  | true => exact ha pins s1 σ H1 D I1 q1
  | false => exact hb pins s1 σ H1 D I1 q1
end
noncomputable abbrev TG := V → St → Hp → (St → Hp → Prop) → Prop
noncomputable abbrev TGs := List V → St → Hp → (St → Hp → Prop) → Prop
def PG (X : Cx) (target : Expr) (t : TG) : Prop :=
  ∀ (pins : List (Addr × Obj)) (s : Shared) (σ : St) (H : Hp) (v : V) (u : Value) (Q : St → Hp → Prop), Inv X pins σ H s → RelV v u → t v σ H Q →
    wpAny (model X.prog X.w) X.A (assign target X.env u) (fun _ s' => ∃ σ' H', Inv X pins σ' H' s' ∧ Q σ' H') X.xe s
def PGs (X : Cx) (ts : List Expr) (t : TGs) : Prop :=
  ∀ (pins : List (Addr × Obj)) (s : Shared) (σ : St) (H : Hp) (vs : List V) (us : List Value) (Q : St → Hp → Prop), Inv X pins σ H s → Vals vs us → t vs σ H Q →
    wpAny (model X.prog X.w) X.A (assignInOrder ((assignEach ts X.env).map (·.2)) us) (fun _ s' => ∃ σ' H', Inv X pins σ' H' s' ∧ Q σ' H') X.xe s
noncomputable abbrev TSet := V → V → V → Hp → (Hp → Prop) → Prop
def PSet (X : Cx) (t : TSet) : Prop :=
  ∀ (pins : List (Addr × Obj)) (s : Shared) (σ : St) (H : Hp) (o i v : V) (ov iv u : Value) (Q : Hp → Prop), Inv X pins σ H s → RelV o ov → RelV i iv → RelV v u → t o i v H Q →
    wpAny (model X.prog X.w) X.A (setItem ov iv u) (fun _ s' => ∃ H', Inv X pins σ H' s' ∧ Q H') X.xe s
section
variable {X : Cx} {pos : Pos}
def gName (i : Nat) : TG := fun v σ H Q => Q (σ.set i (some v)) H
theorem pg_name {i : Nat} {x : Str} (hN : X.N.Nodup) (hi : X.N[i]? = some x) (hx : Loc X.env.scope x) (hf : X.fn x = true ∨ X.env.scope.names.lookup x = some .local := by first | exact .inl rfl | exact .inr rfl | assumption) : PG X (.Name x pos) (gName i) := by
  intro pins s σ H v u Q I r h
  exact wpAny_assign_Name (store_ok I hN hi hx r (fun s' I' => ⟨_, H, I', h⟩) hf)
def gNil : TGs := fun vs σ H Q => vs = [] ∧ Q σ H
def gCons (t : TG) (u : TGs) : TGs := fun vs σ H Q => ∃ v r, vs = v :: r ∧ t v σ H fun σ' H' => u r σ' H' Q
theorem pgs_nil : PGs X [] gNil := by
  intro pins s σ H vs us Q I r h
  obtain ⟨e, h⟩ := h
  subst e
  cases r
  exact assignInOrder_nil ⟨σ, H, I, h⟩
theorem pgs_cons {e : Expr} {es : List Expr} {t : TG} {u : TGs} (h1 : PG X e t) (h2 : PGs X es u)
    (hs : (assignEach (e :: es) X.env).map (·.2) = assign e X.env :: (assignEach es X.env).map (·.2) := by rfl) : PGs X (e :: es) (gCons t u) := by
  intro pins s σ H vs us Q I r h
  obtain ⟨v, vr, e1, h⟩ := h
  subst e1
  cases r with
  | cons r rr =>
    rw [hs]
    refine assignInOrder_cons (thn (h1 pins s σ H _ _ _ I r h) fun _ s1 ⟨σ1, H1, I1, q1⟩ => ?_)
    exact h2 pins s1 σ1 H1 _ _ Q I1 rr q1
def gTup (K : PySem.W.Frag) (n : Nat) (t : TGs) : TG := fun v σ H Q => ∃ a xs, v = .ref a ∧ SqT K H a xs ∧ xs.length = n ∧ t xs σ H Q
theorem pg_tup {es : List Expr} {k : Nat} {t : TGs} {n : Nat} (hc : X.calm = true) (h : PGs X es t)
    (hn : (assignEach es X.env).length = n := by rfl) (hst : (assignEach es X.env).findIdx? (·.1) = none := by rfl) : PG X (.Tuple es k pos) (gTup X.K n t) := by
  intro pins s σ H v u Q I r hw
  obtain ⟨a, xs, e1, hq, hl, hw⟩ := hw
  subst e1
  cases r
  obtain ⟨its, rv, ht, hz⟩ := I.tuple hq
  refine assign_Tuple_tuple (I.ok.hd hc) ht (by simp [hn, ← hl, rv.length]) hst fun h' hx => ?_
  have I1 : Inv X pins σ H { s with heap := h' } := I.kept (t' := s.toks) fun b o e => hx b o (Nat.ne_of_lt (Heap.lt_size e)) e
  exact h pins _ σ H xs _ Q I1 (by simpa using rv) hw
def gSub (to ti : TE) (t : TSet) : TG := fun v σ H Q => to σ H fun o H1 => ti σ H1 fun i H2 => t o i v H2 fun H3 => Q σ H3
theorem pg_sub {o i : Expr} {to ti : TE} {t : TSet} (ho : PE X o to) (hi : PE X i ti) (hs : PSet X t)
    (ha : ∀ v, assign (.Subscript o i pos) X.env v = (do
      let ov ← holding [v] (eval o X.env)
      let iv ← holding [v, ov] (eval i X.env)
      standAt pos
      holding [v, ov, iv] (setItem ov iv v)
      release [v, ov, iv] []) := by intro _; rfl) : PG X (.Subscript o i pos) (gSub to ti t) := by
  intro pins s σ H v u Q I r h
  rw [ha]
  refine wpAny_bind (wpAny_holding (thn (ho pins s σ H _ I h) fun ov s1 ⟨x, H1, I1, r1, q1⟩ => ?_))
  refine wpAny_bind (wpAny_holding (thn (hi pins s1 σ H1 _ I1 q1) fun iv s2 ⟨y, H2, I2, r2, q2⟩ => ?_))
  refine wpAny_bind (wpAny_standAt (wpAny_bind (wpAny_holding (thn (hs pins s2 σ H2 x y v ov iv u _ I2 r1 r2 r q2) fun _ s3 ⟨H3, I3, q3⟩ => ?_))))
  exact wpAny_release ⟨σ, H3, I3, q3⟩
def tAsg (te : TE) (g : TG) : TS := fun D σ H => te σ H fun x H1 => g x σ H1 D.nx
theorem ps_asg {tg e : Expr} {te : TE} {g : TG} (he : PE X e te) (hg : PG X tg g) (hs : swapsWithSole [tg] e pos.line X.env = pure false := by rfl) (hw : swappedStores [tg] e X.env = pure none := by rfl)
    (h1 : (assignEach [tg] X.env).map (·.2) = [assign tg X.env] := by rfl) : PS X (.Assign [tg] e pos) (tAsg te g) := by
  intro pins s σ H D I h
  refine wpAny_Assign_stores (thn (he pins s σ H _ I h) fun v s1 ⟨x, H1, I1, r1, q1⟩ => ?_) hs hw
  rw [h1]
  exact thn (hg pins s1 σ H1 x v _ I1 r1 q1) fun _ s2 q => q
theorem ps_set {i : Nat} {x : Str} {e : Expr} {te : TE} {pos' : Pos} (hN : X.N.Nodup) (hi : X.N[i]? = some x) (hx : Loc X.env.scope x) (he : PE X e te) (hs : swapsWith e (some (.Name x pos')) pos.line X.env = pure false := by rfl) (hf : X.fn x = true ∨ X.env.scope.names.lookup x = some .local := by first | exact .inl rfl | exact .inr rfl | assumption) :
    PS X (.Assign [.Name x pos'] e pos) (tAsg te (gName i)) := by
  intro pins s σ H D I h
  refine wpAny_Assign_Name (thn (he pins s σ H _ I h) fun v s1 ⟨y, H1, I1, r1, q1⟩ => ?_) hs
  exact store_ok I1 hN hi hx r1 (fun s2 I2 => ⟨_, H1, I2, q1⟩) hf
end
section
variable {X : Cx} {pos : Pos}
end
structure It where
  go : Nat → Hp → Prop
  yld : Nat → Hp → V → Hp → Prop
  stop : Nat → Hp → Prop
def FpOk (X : Cx) (pins : List (Addr × Obj)) (H : Hp) (b : Addr) : Prop :=
  H b = none ∧ b ≠ X.env.locals ∧ b ∉ X.fs ∧ (b ∈ X.ex ∨ X.s₀.heap.objs.size ≤ b) ∧ (∀ x c, X.env.cells.lookup x = some c → c ≠ b) ∧ ∀ p ∈ X.pn ++ pins, p.1 ≠ b
theorem Inv.fpOk {X : Cx} {pins : List (Addr × Obj)} {σ : St} {H H' : Hp} {s : Shared} {b : Addr} (I : Inv X pins σ H s) (hb : s.heap.objs.size ≤ b) (hn : H' b = none) : FpOk X pins H' b := by
  refine ⟨hn, Nat.ne_of_gt (Nat.lt_of_lt_of_le I.lt hb), I.nofs hb, .inr (Nat.le_trans I.sz hb), fun x c e z => ?_, fun p hp z => ?_⟩
  · obtain ⟨v, q⟩ := I.cell x c e
    exact absurd (Nat.lt_of_lt_of_le q.lt (by rw [z]; exact hb)) (Nat.lt_irrefl _)
  · exact absurd (Nat.lt_of_lt_of_le (Heap.lt_size (I.pin p hp).1) (by rw [z]; exact hb)) (Nat.lt_irrefl _)
structure Turn (P : Program) (w : World) (K : PySem.W.Frag) (tg : Expr) (J : It) (fp : List Addr) (it : Addr) (tn : Nat → Heap → Prop) : Prop where
  mem : it ∈ fp
  obj : ∀ i h, tn i h → ∀ b ∈ fp, ∃ o, h.get? b = some o ∧ ∀ v, o.data ≠ .cell v
  keep : ∀ i h h', tn i h → (∀ b ∈ fp, ∀ o, h.get? b = some o → h'.get? b = some o) → tn i h'
  item : ∀ (X : Cx), X.prog = P → X.w = w → X.K = K → X.calm = true → ∀ (i : Nat) (pins : List (Addr × Obj)) (s : Shared) (σ : St) (H : Hp) (E : Value → Shared → Prop), Inv X pins σ H s → (∀ b ∈ fp, FpOk X pins H b) → tn i s.heap → J.go i H →
    wpAny (model P w) X.A (pyNext (.ref it)) (fun r s1 => ∃ u, r = some u ∧
      wpAny (model P w) X.A (letOwnedTupleGo tg (.ref it) u) (fun _ s2 => ∃ x H', Inv X pins σ H' s2 ∧ RelV x u ∧ J.yld i H x H' ∧ tn (i + 1) s2.heap ∧ ∀ b ∈ fp, H' b = none) E s1) E s
  done : ∀ (X : Cx), X.prog = P → X.w = w → X.K = K → X.calm = true → ∀ (i : Nat) (pins : List (Addr × Obj)) (s : Shared) (σ : St) (H : Hp) (E : Value → Shared → Prop), Inv X pins σ H s → (∀ b ∈ fp, FpOk X pins H b) → tn i s.heap → J.stop i H →
    wpAny (model P w) X.A (pyNext (.ref it)) (fun r s1 => r = none ∧ Inv X pins σ H s1) E s
  self : ∀ (A : Around) (i : Nat) (s : Shared) (Q : Value → Shared → Prop) (E : Value → Shared → Prop), tn i s.heap → Q (.ref it) s → wpAny (model P w) A (pyIter (.ref it)) Q E s
noncomputable abbrev TI := St → Hp → (It → Hp → Prop) → Prop
def PIE (X : Cx) (pins : List (Addr × Obj)) (σ : St) (tg : Expr) (R : It → Hp → Prop) (itv : Value) (s2 : Shared) : Prop :=
  ∃ (it : Addr) (fp : List Addr) (tn : Nat → Heap → Prop) (J : It) (H' : Hp), itv = .ref it ∧ Inv X pins σ H' s2 ∧ Turn X.prog X.w X.K tg J fp it tn ∧ tn 0 s2.heap ∧ (∀ b ∈ fp, FpOk X pins H' b) ∧ R J H'
def PI (X : Cx) (tg iter : Expr) (wi : TI) : Prop :=
  ∀ (pins : List (Addr × Obj)) (s : Shared) (σ : St) (H : Hp) (R : It → Hp → Prop), Inv X pins σ H s → wi σ H R →
    wpAny (model X.prog X.w) X.A (eval iter X.env) (fun v s1 => wpAny (model X.prog X.w) X.A (pyIter v) (PIE X pins σ tg R) X.xe s1) X.xe s
theorem go_of {M : Model} {A : Around} {E : Value → Shared → Prop} {s : Shared} {tg : Expr} {it : Addr} {u : Value} {o : Obj} {n : String} {vs : Array Value} {Q : Unit → Shared → Prop} (ho : s.heap.get? it = some o) (hc : o.cls = .type n) (hd : o.data = .fields vs)
    (hn : ["enumerate", "zip", "dict_itemiterator", "dict_reverseitemiterator", "odict_iterator", "itertools.zip_longest", "itertools.pairwise"].contains n = false) (hQ : Q () s) : wpAny M A (letOwnedTupleGo tg (.ref it) u) Q E s := by
  unfold letOwnedTupleGo
  cases tg <;> first
    | exact wpAny_pure hQ
    | (cases u <;> first
        | exact wpAny_pure hQ
        | (refine wpAny_bind (wpAny_load ho ?_)
           rw [hc, hd]
           show wpAny M A (if (["enumerate", "zip", "dict_itemiterator", "dict_reverseitemiterator", "odict_iterator", "itertools.zip_longest", "itertools.pairwise"].contains n && vs[0]? == some (rawInt _)) = true then _ else _) Q E s
           rw [if_neg (by intro h; rw [hn, Bool.false_and] at h; cases h)]
           exact wpAny_pure hQ))
noncomputable def Itl (K : PySem.W.Frag) (a : Addr) : It :=
  ⟨fun i H => ∃ xs x, SqL K H a xs ∧ xs[i]? = some x, fun i H x H' => H' = H ∧ ∀ xs, SqL K H a xs → xs[i]? = some x, fun i H => ∃ xs, SqL K H a xs ∧ xs.length ≤ i⟩
noncomputable def Itt (K : PySem.W.Frag) (a : Addr) : It :=
  ⟨fun i H => ∃ xs x, SqT K H a xs ∧ xs[i]? = some x, fun i H x H' => H' = H ∧ ∀ xs, SqT K H a xs → xs[i]? = some x, fun i H => ∃ xs, SqT K H a xs ∧ xs.length ≤ i⟩
noncomputable def Itr (lo : Int) (n : Nat) : It := ⟨fun i _ => i < n, fun i H x H' => H' = H ∧ x = .int (lo + i), fun i _ => n ≤ i⟩
theorem turn_list {P : Program} {w : World} {K : PySem.W.Frag} {tg : Expr} (a it : Addr) : Turn P w K tg (Itl K a) [it] it (fun i h => h.IsListIter it a i) where
  mem := by simp
  obj := fun i h st b hb => by
    have e : b = it := by simpa using hb
    subst e
    obtain ⟨o, e, c, d⟩ := st
    exact ⟨o, e, fun v z => by rw [d] at z; cases z⟩
  keep := fun i h h' st k => st.at fun o e => k it (by simp) o e
  item := by
    intro X hP hw hK hc i pins s σ H E I hf st hg
    subst hP hw hK
    obtain ⟨xs, x, hq, hx⟩ := hg
    obtain ⟨its, rv, p, hz⟩ := I.list hq
    obtain ⟨u, hu, ru⟩ := rv.get hx
    obtain ⟨f0, f1, f2, f3, f4, f5⟩ := hf it (by simp)
    refine wpAny_pyNext_list_item st p.isList (x := u) (by simpa using hu) fun h' st' sb => ?_
    have I1 : Inv X pins σ H { s with heap := h' } := I.turned (t' := s.toks) (fun b o hb e => (sb.2 b hb).trans e) f0 f1 f3 f4 f5
    obtain ⟨o, e, c, d⟩ := id st'
    exact ⟨u, rfl, go_of (s := { s with heap := h' }) e c d (by decide) ⟨x, H, I1, ru, ⟨rfl, fun ys hy => by rw [I.list_inj hy hq]; exact hx⟩, st', fun b hb => (hf b hb).1⟩⟩
  done := by
    intro X hP hw hK hc i pins s σ H E I hf st hg
    subst hP hw hK
    obtain ⟨xs, hq, hx⟩ := hg
    obtain ⟨its, rv, p, hz⟩ := I.list hq
    obtain ⟨f0, f1, f2, f3, f4, f5⟩ := hf it (by simp)
    have hl := rv.length
    exact wpAny_pyNext_list_end (I.ok.hd hc) st p.isList (by simp; omega) fun h' eb => ⟨rfl, I.turned (t' := s.toks) (fun b o hb e => eb b o hb e) f0 f1 f3 f4 f5⟩
  self := fun _ _ _ _ _ st h => wpAny_pyIter_listiter st h
theorem turn_tuple {P : Program} {w : World} {K : PySem.W.Frag} {tg : Expr} (a it : Addr) : Turn P w K tg (Itt K a) [it] it (fun i h => h.IsTupleIter it a i) where
  mem := by simp
  obj := fun i h st b hb => by
    have e : b = it := by simpa using hb
    subst e
    obtain ⟨o, e, c, d⟩ := st
    exact ⟨o, e, fun v z => by rw [d] at z; cases z⟩
  keep := fun i h h' st k => st.at fun o e => k it (by simp) o e
  item := by
    intro X hP hw hK hc i pins s σ H E I hf st hg
    subst hP hw hK
    obtain ⟨xs, x, hq, hx⟩ := hg
    obtain ⟨its, rv, p, hz⟩ := I.tuple hq
    obtain ⟨u, hu, ru⟩ := rv.get hx
    obtain ⟨f0, f1, f2, f3, f4, f5⟩ := hf it (by simp)
    refine wpAny_pyNext_tuple_item st (show s.heap.IsTuple a its.toArray from p) (x := u) (by simpa using hu) fun h' st' sb => ?_
    have I1 : Inv X pins σ H { s with heap := h' } := I.turned (t' := s.toks) (fun b o hb e => (sb.2 b hb).trans e) f0 f1 f3 f4 f5
    obtain ⟨o, e, c, d⟩ := id st'
    exact ⟨u, rfl, go_of (s := { s with heap := h' }) e c d (by decide) ⟨x, H, I1, ru, ⟨rfl, fun ys hy => by rw [I.tuple_inj hy hq]; exact hx⟩, st', fun b hb => (hf b hb).1⟩⟩
  done := by
    intro X hP hw hK hc i pins s σ H E I hf st hg
    subst hP hw hK
    obtain ⟨xs, hq, hx⟩ := hg
    obtain ⟨its, rv, p, hz⟩ := I.tuple hq
    obtain ⟨f0, f1, f2, f3, f4, f5⟩ := hf it (by simp)
    have hl := rv.length
    exact wpAny_pyNext_tuple_end (I.ok.hd hc) st (show s.heap.IsTuple a its.toArray from p) (by simp; omega) fun h' eb => ⟨rfl, I.turned (t' := s.toks) (fun b o hb e => eb b o hb e) f0 f1 f3 f4 f5⟩
  self := fun _ _ _ _ _ st h => wpAny_pyIter_tupleiter st h
theorem turn_range {P : Program} {w : World} {K : PySem.W.Frag} {tg : Expr} (it : Addr) (lo : Int) (n : Nat) : Turn P w K tg (Itr lo n) [it] it (fun i h => IsRangeIter h it (lo + (i : Nat) * 1) ((n : Int) - (i : Nat)) 1) where
  mem := by simp
  obj := fun i h st b hb => by
    have e : b = it := by simpa using hb
    subst e
    exact ⟨_, st, fun v z => by
      have z' : Data.fields _ = Data.cell v := z
      cases z'⟩
  keep := fun i h h' st k => k it (by simp) _ st
  item := by
    intro X hP hw hK hc i pins s σ H E I hf st hg
    subst hP hw hK
    obtain ⟨f0, f1, f2, f3, f4, f5⟩ := hf it (by simp)
    have W := Walks.range (prog := X.prog) (w := X.w) (I.ok.hd hc) it lo 1 n
    refine W.item i s _ _ hg st fun v h' tk hv st' kk => ?_
    obtain ⟨t, rfl⟩ := hv
    have I1 : Inv X pins σ H { s with heap := h', toks := tk } := I.turned (fun b o hb e => kk b o (by simpa using hb) e) f0 f1 f3 f4 f5
    refine ⟨_, rfl, go_of (s := { s with heap := h', toks := tk }) (n := "range_iterator") st' rfl rfl (by decide) ⟨.int (lo + i), H, I1, ⟨t, ?_⟩, ⟨rfl, rfl⟩, st', fun b hb => (hf b hb).1⟩⟩
    rw [Int.mul_one]
  done := by
    intro X hP hw hK hc i pins s σ H E I hf st hg
    subst hP hw hK
    obtain ⟨f0, f1, f2, f3, f4, f5⟩ := hf it (by simp)
    exact wpAny_pyNext_range_end (I.ok.hd hc) st (by have : n ≤ i := hg; omega) fun h' eb => ⟨rfl, I.turned (t' := s.toks) (fun b o hb e => eb b o hb e) f0 f1 f3 f4 f5⟩
  self := fun _ _ _ _ _ st h => wpAny_pyIter_rangeiter st h
end L2
namespace L2
open PySem PySem.Spec PyProof.Rows
section
variable {X : Cx} {tg : Expr}
theorem range_it {pins : List (Addr × Obj)} {σ : St} {H : Hp} {s : Shared} {R : It → Hp → Prop} {E : Value → Shared → Prop} {lo hi : Int} {t u v : Tok} {tk : Nat} (I : Inv X pins σ H s) (h1 : -(2 ^ 62) ≤ lo) (h2 : lo < 2 ^ 62) (h3 : -(2 ^ 62) ≤ hi) (h4 : hi < 2 ^ 62)
    (q : R (Itr lo (hi - lo).toNat) H) : wpAny (model X.prog X.w) X.A (pyIter (.ref s.heap.objs.size)) (PIE X pins σ tg R) E { s with heap := s.heap.push { cls := .type "range", data := .fields #[.int lo t, .int hi u, .int 1 v] }, toks := tk } := by
  refine wpAny_pyIter_range (IsRange.new ..) (small_one h1 h2 h3 h4) ?_
  have I1 : Inv X pins σ H { s with heap := s.heap.push { cls := .type "range", data := .fields #[.int lo t, .int hi u, .int 1 v] }, toks := tk } := I.kept fun b o e => Heap.get?_push_of_some _ e
  refine ⟨(s.heap.push { cls := .type "range", data := .fields #[.int lo t, .int hi u, .int 1 v] }).objs.size, [(s.heap.push { cls := .type "range", data := .fields #[.int lo t, .int hi u, .int 1 v] }).objs.size], _, _, H, rfl,
    I1.kept (t' := tk) fun b o e => Heap.get?_push_of_some _ e, turn_range _ lo (hi - lo).toNat, ?_, fun b hb => ?_, q⟩
  · have e1 : lo + ((0 : Nat) : Int) * 1 = lo := by simp
    have e2 : (((hi - lo).toNat : Nat) : Int) - ((0 : Nat) : Int) = Builtin.Range.rangeSize lo hi 1 := by rw [rangeSize_one]; split <;> omega
    show IsRangeIter _ _ (lo + ((0 : Nat) : Int) * 1) ((((hi - lo).toNat : Nat) : Int) - ((0 : Nat) : Int)) 1
    rw [e1, e2]
    exact Heap.get?_push_size _ rfl
  · have e : b = (s.heap.push { cls := .type "range", data := .fields #[.int lo t, .int hi u, .int 1 v] }).objs.size := by simpa using hb
    subst e
    exact I1.fpOk (Nat.le_refl _) (I1.hok.fresh (Nat.le_refl _))
def iRng1 (ta : TA) : TI := fun σ H R => ta σ H fun vs H1 => ∃ j : Int, vs = [.int j] ∧ -(2 ^ 62) ≤ j ∧ j < 2 ^ 62 ∧ R (Itr 0 j.toNat) H1
theorem pi_range1 {a : Expr} {ta : TA} {p pos : Pos} (hg : Gl X "range") (hm : X.mg "range" = none) (ha : PA X [a] ta) (hs : starEach [a] X.env = [(false, eval a X.env)] := by rfl) : PI X tg (.Call (.Name "range" p) [a] [] pos) (iRng1 ta) := by
  intro pins s σ H R I h
  refine Call_ (ld_blt I hg hm boot_range (PyProof.Rows.callWith_type1 (thn (ha pos pins s σ H _ I h) fun us s1 ⟨vs, H1, I1, r1, q1⟩ => ?_) hs rfl))
  obtain ⟨j, e, q1, q2, q⟩ := q1
  subst e
  cases r1 with
  | cons r rr =>
    cases rr
    obtain ⟨t, rfl⟩ := r
    exact call_range_1 (range_it I1 (by omega) (by omega) q1 q2 (by simpa using q))
def tFor (wi : TI) (g : TG) (tb : TS) : TS := fun D σ H => wi σ H fun J H1 => ∃ W : Nat → Nat → St → Hp → Prop, (∃ m, W 0 m σ H1) ∧ ∀ i m σ H, W i m σ H →
  (J.stop i H ∧ D.nx σ H) ∨ (J.go i H ∧ ∃ N : St → Hp → Prop, (∀ σ' H', N σ' H' → ∃ m', m' < m ∧ W (i + 1) m' σ' H') ∧ ∀ x H', J.yld i H x H' → g x σ H' fun σ2 H2 => tb { D with nx := N, ct := N, bk := D.nx } σ2 H2)
noncomputable def pinsAt (fp : List Addr) (h : Heap) : List (Addr × Obj) := fp.filterMap fun b => (h.get? b).map fun o => (b, o)
theorem mem_pinsAt {fp : List Addr} {h : Heap} {b : Addr} {o : Obj} (hb : b ∈ fp) (e : h.get? b = some o) : (b, o) ∈ pinsAt fp h := List.mem_filterMap.mpr ⟨b, hb, by rw [e]; rfl⟩
theorem of_pinsAt {fp : List Addr} {h : Heap} {p : Addr × Obj} (hp : p ∈ pinsAt fp h) : p.1 ∈ fp ∧ h.get? p.1 = some p.2 := by
  obtain ⟨b, hb, e⟩ := List.mem_filterMap.mp hp
  cases q : h.get? b with
  | none => rw [q] at e; cases e
  | some o =>
    rw [q] at e
    have e' : (b, o) = p := Option.some.inj e
    subst e'
    exact ⟨hb, q⟩
theorem Inv.pinned {pins : List (Addr × Obj)} {σ : St} {H : Hp} {s : Shared} {fp : List Addr} (I : Inv X pins σ H s) (hf : ∀ b ∈ fp, FpOk X pins H b) (ho : ∀ b ∈ fp, ∃ o, s.heap.get? b = some o ∧ ∀ v, o.data ≠ .cell v) : Inv X (pins ++ pinsAt fp s.heap) σ H s :=
  I.pins_of fun p hp => (List.mem_append.mp hp).elim (fun z => I.pin p (List.mem_append_right _ z)) fun z => by
    obtain ⟨hb, e⟩ := of_pinsAt z
    obtain ⟨f0, f1, f2, _⟩ := hf p.1 hb
    obtain ⟨o, e', d⟩ := ho p.1 hb
    rw [e] at e'; cases e'
    exact ⟨e, f0, f1, f2, d⟩
theorem Inv.unpinned {pins pl : List (Addr × Obj)} {σ : St} {H : Hp} {s : Shared} (I : Inv X (pins ++ pl) σ H s) : Inv X pins σ H s := I.pins_of fun p hp => I.pin p (List.mem_append_right _ (List.mem_append_left _ hp))
theorem ps_for {iter : Expr} {body : List Stmt} {wi : TI} {g : TG} {tb : TS} {pos : Pos} (hp : PassesOwn (model X.prog X.w) X.A X.env X.xe) (hc : X.calm = true) (hi : PI X tg iter wi) (hg : PG X tg g) (hb : PSs X body tb)
    (hs : ∀ x, foldedSetIterable iter X.env x = pure x := by intro _; rfl) : PS X (.For tg iter body [] pos) (tFor wi g tb) := by
  intro pins s σ H D I h
  refine wpAny_For (thn (hi pins s σ H _ I h) fun v s1 h1 => thn h1 fun itv s2 h2 => ?_) hs
  obtain ⟨it, fp, tn, J, H2, e, I2, T, st2, f2, W, ⟨m0, w0⟩, turn⟩ := h2
  subst e
  -- what stays true of the iterator's objects through the loop
  have stat : ∀ {H' : Hp}, (∀ b ∈ fp, H' b = none) → ∀ b ∈ fp, FpOk X pins H' b := fun hn b hb => ⟨hn b hb, (f2 b hb).2⟩
  refine codeAny_forLoop_any (fun n s' => ∃ i σ' H', Inv X pins σ' H' s' ∧ tn i s'.heap ∧ (∀ b ∈ fp, H' b = none) ∧ W i n σ' H') ?_ m0 ⟨0, σ, H2, I2, st2, fun b hb => (f2 b hb).1, w0⟩
  rintro n s3 ⟨i, σ3, H3, I3, st3, fr3, w3⟩
  rcases turn i n σ3 H3 w3 with ⟨stop, qn⟩ | ⟨go, N, hN, step⟩
  · refine wpAny_passesOwn hp (thn (T.done X rfl rfl rfl hc i pins s3 σ3 H3 X.xe I3 (stat fr3) st3 stop) fun r s4 ⟨hr, I4⟩ => ?_)
    subst hr
    exact wpAny_execs_nil ⟨σ3, H3, I4, qn⟩
  · refine wpAny_passesOwn hp (thn (T.item X rfl rfl rfl hc i pins s3 σ3 H3 X.xe I3 (stat fr3) st3 go) fun r s4 ⟨u, hr, h4⟩ => ?_)
    subst hr
    refine wpAny_passesOwn hp (thn h4 fun _ s5 ⟨x, H5, I5, r5, y5, st5, fr5⟩ => ?_)
    have I5' := I5.pinned (stat fr5) (T.obj _ _ st5)
    refine wpAny_passesOwn hp (thn (hg _ s5 σ3 H5 x u _ I5' r5 (step x H5 y5)) fun _ s6 ⟨σ6, H6, I6, q6⟩ => ?_)
    refine wpAny_passesOwn hp (thn (hb _ s6 σ6 H6 _ I6 q6) fun f s7 q7 => ?_)
    have again : ∀ {σ7 : St} {H7 : Hp}, Inv X (pins ++ pinsAt fp s5.heap) σ7 H7 s7 → N σ7 H7 → ∃ m, m < n ∧ ∃ i σ' H', Inv X pins σ' H' s7 ∧ tn i s7.heap ∧ (∀ b ∈ fp, H' b = none) ∧ W i m σ' H' := fun {σ7 H7} I7 n7 => by
      obtain ⟨m', hm, w7⟩ := hN σ7 H7 n7
      refine ⟨m', hm, i + 1, σ7, H7, I7.unpinned, T.keep _ _ _ st5 fun b hb o e => (I7.pin (b, o) (List.mem_append_right _ (List.mem_append_right _ (mem_pinsAt hb e)))).1, fun b hb => ?_, w7⟩
      obtain ⟨o, e, d⟩ := T.obj _ _ st5 b hb
      exact (I7.pin (b, o) (List.mem_append_right _ (List.mem_append_right _ (mem_pinsAt hb e)))).2.1
    cases f with
    | next => obtain ⟨σ7, H7, I7, n7⟩ := q7; exact again I7 n7
    | cont => obtain ⟨σ7, H7, I7, n7⟩ := q7; exact again I7 n7
    | brk => obtain ⟨σ7, H7, I7, q7⟩ := q7; exact ⟨σ7, H7, I7.unpinned, q7⟩
    | ret v => obtain ⟨x7, σ7, H7, I7, r7, q7⟩ := q7; exact ⟨x7, σ7, H7, I7.unpinned, r7, q7⟩
end
end L2
namespace L2
open PySem PySem.Spec PyProof.Rows
noncomputable abbrev R2 := V → V → Hp → VK → Prop
def OpR (X : Cx) (f : Value → Value → Sem Value) (r : R2) : Prop :=
  ∀ (pins : List (Addr × Obj)) (s : Shared) (σ : St) (H : Hp) (x y : V) (v u : Value) (Q : VK), Inv X pins σ H s → RelV x v → RelV y u → r x y H Q →
    wpAny (model X.prog X.w) X.A (f v u) (EP X pins σ Q) X.xe s
def UnR (X : Cx) (f : Value → Sem Value) (r : V → Hp → VK → Prop) : Prop :=
  ∀ (pins : List (Addr × Obj)) (s : Shared) (σ : St) (H : Hp) (x : V) (v : Value) (Q : VK), Inv X pins σ H s → RelV x v → r x H Q →
    wpAny (model X.prog X.w) X.A (f v) (EP X pins σ Q) X.xe s
def CallR (X : Cx) (f : Value) (r : List V → Hp → VK → Prop) : Prop :=
  ∀ (pins : List (Addr × Obj)) (s : Shared) (σ : St) (H : Hp) (xs : List V) (us : List Value) (Q : VK), Inv X pins σ H s → Vals xs us → r xs H Q →
    wpAny (model X.prog X.w) X.A (call f us) (EP X pins σ Q) X.xe s
def TruR (X : Cx) (r : V → Hp → (Bool → Hp → Prop) → Prop) : Prop :=
  ∀ (pins : List (Addr × Obj)) (s : Shared) (σ : St) (H : Hp) (x : V) (v : Value) (Q : Bool → Hp → Prop), Inv X pins σ H s → RelV x v → r x H Q →
    wpAny (model X.prog X.w) X.A (truthy v) (TP X pins σ Q) X.xe s
def tOp (r : R2) (ta tb : TE) : TE := fun σ H Q => ta σ H fun x H1 => tb σ H1 fun y H2 => r x y H2 Q
def tUn (r : V → Hp → VK → Prop) (ta : TE) : TE := fun σ H Q => ta σ H fun x H1 => r x H1 Q
def rI (C : Int → Int → Prop) (g : Int → Int → V) : R2 := fun x y H Q => ∃ i j, x = .int i ∧ y = .int j ∧ C i j ∧ Q (g i j) H
noncomputable def rI0 (g : Int → Int → V) : R2 := fun x y H Q => ∃ i j, x = .int i ∧ y = .int j ∧ Q (g i j) H
def rU (g : Int → V) : V → Hp → VK → Prop := fun x H Q => ∃ i, x = .int i ∧ Q (g i) H
section
variable {X : Cx} {a b c : Expr} {ta tb tc : TE} {pos : Pos}
theorem binT (ha : PE X a ta) (hb : PE X b tb) {pins : List (Addr × Obj)} {s : Shared} {σ : St} {H : Hp} {R : V → V → Hp → Prop} (I : Inv X pins σ H s)
    (h : ta σ H fun x H1 => tb σ H1 fun y H2 => R x y H2) {Q : Value → Shared → Prop} {f : Value → Value → Sem Value}
    (hf : ∀ v u s2 x y H2, Inv X pins σ H2 s2 → RelV x v → RelV y u → R x y H2 → wpAny (model X.prog X.w) X.A (f v u) Q X.xe s2) :
    wpAny (model X.prog X.w) X.A (eval a X.env) (fun v s₁ => wpAny (model X.prog X.w) X.A (eval b X.env) (fun u s₂ => wpAny (model X.prog X.w) X.A (f v u) Q X.xe s₂) X.xe s₁) X.xe s := by
  refine thn (ha pins s σ H _ I h) fun v s1 ⟨x, H1, I1, r1, q1⟩ => ?_
  refine thn (hb pins s1 σ H1 _ I1 q1) fun u s2 ⟨y, H2, I2, r2, q2⟩ => ?_
  exact hf v u s2 x y H2 I2 r1 r2 q2
theorem pe_op {op : Operator} {r : R2} (ho : OpR X (binaryOp op) r) (ha : PE X a ta) (hb : PE X b tb) : PE X (.BinOp a op b pos) (tOp r ta tb) := by
  intro pins s σ H Q I h
  exact wpAny_BinOp (binT ha hb I h fun v u s2 x y H2 I2 rx ry q => ho pins s2 σ H2 x y v u Q I2 rx ry q)
theorem pe_un {op : UnaryOp} {r : V → Hp → VK → Prop} (ho : UnR X (unaryOp op) r) (ha : PE X a ta) : PE X (.UnaryOp op a pos) (tUn r ta) := by
  intro pins s σ H Q I h
  exact UnaryOp_ (thn (ha pins s σ H _ I h) fun v s1 ⟨x, H1, I1, r1, q1⟩ => ho pins s1 σ H1 x v Q I1 r1 q1)
theorem opI {f : Value → Value → Sem Value} {C : Int → Int → Prop} {g : Int → Int → Int}
    (rule : ∀ (i j : Int) (t u : Tok) (s : Shared) (Q : Value → Shared → Prop) (E : Value → Shared → Prop), C i j → Q (.int (g i j) s.toks) { s with toks := s.toks + 1 } → wpAny (model X.prog X.w) X.A (f (.int i t) (.int j u)) Q E s) :
    OpR X f (rI C fun i j => .int (g i j)) := by
  intro pins s σ H x y v u Q I rx ry h
  obtain ⟨i, j, rfl, rfl, hc, q⟩ := h
  obtain ⟨t, rfl⟩ := rx
  obtain ⟨t', rfl⟩ := ry
  exact rule i j t t' s _ _ hc ⟨.int (g i j), H, I.tok _, ⟨_, rfl⟩, q⟩
theorem opI0 {f : Value → Value → Sem Value} {g : Int → Int → Int}
    (rule : ∀ (i j : Int) (t u : Tok) (s : Shared) (Q : Value → Shared → Prop) (E : Value → Shared → Prop), Q (.int (g i j) s.toks) { s with toks := s.toks + 1 } → wpAny (model X.prog X.w) X.A (f (.int i t) (.int j u)) Q E s) :
    OpR X f (rI0 fun i j => .int (g i j)) := by
  intro pins s σ H x y v u Q I rx ry h
  obtain ⟨i, j, rfl, rfl, q⟩ := h
  obtain ⟨t, rfl⟩ := rx
  obtain ⟨t', rfl⟩ := ry
  exact rule i j t t' s _ _ ⟨.int (g i j), H, I.tok _, ⟨_, rfl⟩, q⟩
theorem opB0 {f : Value → Value → Sem Value} {g : Int → Int → Bool}
    (rule : ∀ (i j : Int) (t u : Tok) (s : Shared) (Q : Value → Shared → Prop) (E : Value → Shared → Prop), Q (.bool (g i j)) s → wpAny (model X.prog X.w) X.A (f (.int i t) (.int j u)) Q E s) :
    OpR X f (rI0 fun i j => .bl (g i j)) := by
  intro pins s σ H x y v u Q I rx ry h
  obtain ⟨i, j, rfl, rfl, q⟩ := h
  obtain ⟨t, rfl⟩ := rx
  obtain ⟨t', rfl⟩ := ry
  exact rule i j t t' s _ _ ⟨.bl (g i j), H, I, rfl, q⟩
def CDiv (i j : Int) : Prop := 0 < j ∧ j < 1073741824
def CPow (i j : Int) : Prop := 0 ≤ j ∧ j ≤ 1000000 ∧ i.natAbs < 2 ^ 64
def CMul (i j : Int) : Prop := (-(2 ^ 64) < i ∧ i < 2 ^ 64) ∨ (-(2 ^ 64) < j ∧ j < 2 ^ 64)
theorem CMul.ok {i j : Int} (h : CMul i j) : IntMulOk i j := by
  rcases h with ⟨h1, h2⟩ | ⟨h1, h2⟩
  · exact .of_left (intBits_le_64 h1 h2)
  · exact .of_right (intBits_le_64 h1 h2)
theorem op_add : OpR X (binaryOp .Add) (rI0 fun i j => .int (i + j)) := opI0 fun _ _ _ _ _ _ _ q => add_int q
theorem op_sub : OpR X (binaryOp .Sub) (rI0 fun i j => .int (i - j)) := opI0 fun _ _ _ _ _ _ _ q => sub_int q
theorem op_mul : OpR X (binaryOp .Mult) (rI CMul fun i j => .int (i * j)) := opI fun _ _ _ _ _ _ _ hc q => mul_int q hc.ok
theorem op_fdiv : OpR X (binaryOp .FloorDiv) (rI CDiv fun i j => .int (i / j)) := opI fun i j _ _ _ _ _ hc q => by
  have h1 : (0 : Int) < j := hc.1
  have h2 : j < 1073741824 := hc.2
  exact floordiv_int (by omega) (by rw [Int.fdiv_eq_ediv_of_nonneg i (by omega)]; exact q) (.inl (PyProof.noPylong_small (by omega)))
theorem op_mod : OpR X (binaryOp .Mod) (rI (fun _ j => 0 < j) fun i j => .int (i % j)) := opI fun i j _ _ _ _ _ hc q => by
  have h1 : (0 : Int) < j := hc
  exact mod_int' (by omega) (by rw [Int.fmod_eq_emod_of_nonneg i (by omega)]; exact q)
theorem op_pow : OpR X (binaryOp .Pow) (rI CPow fun i j => .int (i ^ j.toNat)) := opI fun _ _ _ _ _ _ _ hc q => pow_int_small hc.1 hc.2.1 hc.2.2 q
theorem unI {f : Value → Sem Value} {g : Int → Int}
    (rule : ∀ (i : Int) (t : Tok) (s : Shared) (Q : Value → Shared → Prop) (E : Value → Shared → Prop), Q (.int (g i) s.toks) { s with toks := s.toks + 1 } → wpAny (model X.prog X.w) X.A (f (.int i t)) Q E s) :
    UnR X f (rU fun i => .int (g i)) := by
  intro pins s σ H x v Q I rx h
  obtain ⟨i, rfl, q⟩ := h
  obtain ⟨t, rfl⟩ := rx
  exact rule i t s _ _ ⟨.int (g i), H, I.tok _, ⟨_, rfl⟩, q⟩
theorem un_neg : UnR X (unaryOp .USub) (rU fun i => .int (-i)) := unI fun _ _ _ _ _ q => neg_int q
end
section
variable {X : Cx} {a b c : Expr} {ta tb tc : TE} {pos : Pos}
theorem fin_bl {pins : List (Addr × Obj)} {σ : St} {H : Hp} {s : Shared} {Q : VK} {k k' : Bool} (I : Inv X pins σ H s) (q : Q (.bl k) H) (e : k = k') : EP X pins σ Q (.bool k') s := by
  subst e
  exact ⟨.bl k, H, I, rfl, q⟩
theorem op_lt : OpR X (compareOp .Lt) (rI0 fun i j => .bl (decide (i < j))) := opB0 fun _ _ _ _ _ _ _ q => lt_int q
theorem op_le : OpR X (compareOp .LtE) (rI0 fun i j => .bl (decide (i ≤ j))) := opB0 fun _ _ _ _ _ _ _ q => le_int q
theorem op_isN : OpR X (compareOp .Is) (fun x y H Q => y = .non ∧ Q (.bl (decide (x = .non))) H) := by
  intro pins s σ H x y v u Q I rx ry h
  obtain ⟨rfl, q⟩ := h
  cases ry
  refine is_none_gen (fin_bl I q ?_)
  cases x <;> first
    | (cases rx; rfl)
    | (obtain ⟨t, rfl⟩ := rx; rfl)
theorem op_notN : OpR X (compareOp .IsNot) (fun x y H Q => y = .non ∧ Q (.bl (!decide (x = .non))) H) := by
  intro pins s σ H x y v u Q I rx ry h
  obtain ⟨rfl, q⟩ := h
  cases ry
  refine isnot_none_gen (fin_bl I q ?_)
  cases x <;> first
    | (cases rx; rfl)
    | (obtain ⟨t, rfl⟩ := rx; rfl)
theorem OpR.or {f : Value → Value → Sem Value} {r r' : R2} (h : OpR X f r) (h' : OpR X f r') : OpR X f (fun x y H Q => r x y H Q ∨ r' x y H Q) := by
  intro pins s σ H x y v u Q I rx ry q
  rcases q with q | q
  · exact h pins s σ H x y v u Q I rx ry q
  · exact h' pins s σ H x y v u Q I rx ry q
theorem nomark (b : Expr) {op : CmpOp} (h : op ≠ .In := by decide) (h2 : op ≠ .NotIn := by decide) : behindInMarks op b = false := by
  have e1 : (op == CmpOp.In) = false := by cases op <;> first | rfl | exact absurd rfl h
  have e2 : (op == CmpOp.NotIn) = false := by cases op <;> first | rfl | exact absurd rfl h2
  cases b <;> simp [behindInMarks, e1, e2]
theorem pe_cmpR {op : CmpOp} {r : R2} (ho : OpR X (compareOp op) r) (ha : PE X a ta) (hb : PE X b tb) (hm : behindInMarks op b = false) : PE X (.Compare a [op] [b] pos) (tOp r ta tb) := by
  intro pins s σ H Q I h
  exact wpAny_Compare1 (binT ha hb I h fun v u s2 x y H2 I2 rx ry q => ho pins s2 σ H2 x y v u Q I2 rx ry q) hm
def tTest (t : TE) : TT := fun σ H Q => t σ H fun x H' => ∃ k, x = .bl k ∧ Q k H'
theorem pt_cmpR {op : CmpOp} {r : R2} (ho : OpR X (compareOp op) r) (ha : PE X a ta) (hb : PE X b tb) (hm : behindInMarks op b = false) : PT X (.Compare a [op] [b] pos) (tTest (tOp r ta tb)) := by
  intro pins s σ H Q I h
  refine wpAny_isTrue_Compare1 (thn (ha pins s σ H _ I h) fun v s1 ⟨x, H1, I1, r1, q1⟩ => thn (hb pins s1 σ H1 _ I1 q1) fun u s2 ⟨y, H2, I2, r2, q2⟩ =>
    thn (ho pins s2 σ H2 x y v u _ I2 r1 r2 q2) fun c s3 ⟨z, H3, I3, r3, k, e, q3⟩ => ?_) hm
  subst e
  cases r3
  exact wpAny_truthy_bool ⟨H3, I3, q3⟩
def TruV (K : PySem.W.Frag) (x : V) (H : Hp) (k : Bool) : Prop :=
  match x with
  | .non => k = false
  | .bl b => k = b
  | .int i => k = (i != 0)
  | .str y => y.length ≤ sizeLine ∧ k = ((y.length : Int) != 0)
  | .byt y => y.size ≤ sizeLine ∧ k = ((y.size : Int) != 0)
  | .ref p => (∃ xs, SqL K H p xs ∧ k = !xs.isEmpty) ∨ (∃ xs, SqT K H p xs ∧ k = !xs.isEmpty) ∨ ∃ kvs, H p = some (.dK kvs) ∧ k = !kvs.isEmpty
  | _ => False
theorem isEmpty_kv {κ : Type} {kvs : List (κ × V)} {vs : List (κ × Value)} (r : KV kvs vs) : (!vs.isEmpty) = !kvs.isEmpty := by
  cases r <;> rfl
theorem isEmpty_of {xs : List V} {its : List Value} (r : Vals xs its) : (!its.toArray.isEmpty) = !xs.isEmpty := by
  cases r <;> simp
theorem line63 : (sizeLine : Nat) < 2 ^ 63 := by rw [sizeLine_eq]; decide
theorem tru_ok : TruR X (fun x H Q => ∃ k, TruV X.K x H k ∧ Q k H) := by
  intro pins s σ H x v Q I rx h
  obtain ⟨k, e, q⟩ := h
  have hl := line63
  have hs : sizeLine = 16777216 := sizeLine_eq
  cases x with
  | non =>
    cases rx
    have e' : k = false := e
    subst e'
    exact truthy_none ⟨H, I, q⟩
  | bl b =>
    cases rx
    have e' : k = b := e
    subst e'
    exact wpAny_truthy_bool ⟨H, I, q⟩
  | int i =>
    obtain ⟨t, rfl⟩ := rx
    have e' : k = (i != 0) := e
    subst e'
    exact PySem.P.truthy_int ⟨H, I, q⟩
  | str y =>
    obtain ⟨t, rfl⟩ := rx
    obtain ⟨hy, e'⟩ : y.length ≤ sizeLine ∧ k = ((y.length : Int) != 0) := e
    subst e'
    exact PySem.P.truthy_str (by omega) ⟨H, I.tok _, q⟩
  | byt y =>
    obtain ⟨t, rfl⟩ := rx
    obtain ⟨hy, e'⟩ : y.size ≤ sizeLine ∧ k = ((y.size : Int) != 0) := e
    subst e'
    exact PySem.W.truthy_bytes (by omega) ⟨H, I.tok _, q⟩
  | ref p =>
    cases rx
    have e' : (∃ xs, SqL X.K H p xs ∧ k = !xs.isEmpty) ∨ (∃ xs, SqT X.K H p xs ∧ k = !xs.isEmpty) ∨ ∃ kvs, H p = some (.dK kvs) ∧ k = !kvs.isEmpty := e
    rcases e' with ⟨xs, hx, e'⟩ | ⟨xs, hx, e'⟩ | ⟨kvs, hx, e'⟩
    · subst e'
      obtain ⟨its, r, pl, hz⟩ := I.list hx
      have hlen := r.length
      exact wpAny_truthy_list pl.isList (by simp only [List.size_toArray]; omega) ⟨H, I.tok _, by rw [isEmpty_of r]; exact q⟩
    · subst e'
      obtain ⟨its, r, pl, hz⟩ := I.tuple hx
      have hlen := r.length
      exact truthy_tuple pl (by simp only [List.size_toArray]; omega) ⟨H, I.tok _, by rw [isEmpty_of r]; exact q⟩
    · subst e'
      obtain ⟨hz, hS, vs, r, m⟩ : kvs.length ≤ sizeLine ∧ (p == sysModules) = false ∧ ∃ vs, KV kvs vs ∧ s.heap.DictOf (mixKind X.prog X.w) p vs := I.hok p _ hx
      have hlen : kvs.length = vs.length := Paired.length r
      exact wpAny_truthy_dict hS m (by omega) ⟨H, I.tok _, by rw [isEmpty_kv r]; exact q⟩
  | _ => exact (show False from e).elim
theorem pt_truth (ha : PE X a ta) (he : ∀ whole, isTrue a X.env whole = (do let v ← whole; standAt a.pos; holding [v] (truthy v))) :
    PT X a (fun σ H Q => ta σ H fun x H' => ∃ k, TruV X.K x H' k ∧ Q k H') := by
  intro pins s σ H Q I h
  exact isTrue_plain (thn (ha pins s σ H _ I h) fun v s1 ⟨x, H1, I1, r1, q1⟩ => tru_ok pins s1 σ H1 x v Q I1 r1 q1) (he _)
theorem op_add_str : OpR X (binaryOp .Add) (fun x y H Q => ∃ i j, x = .str i ∧ y = .str j ∧ i.length + j.length ≤ sizeLine ∧ Q (.str (i ++ j)) H) := by
  intro pins s σ H x y v u Q I rx ry h
  obtain ⟨i, j, rfl, rfl, hz, q⟩ := h
  obtain ⟨t, rfl⟩ := rx
  obtain ⟨t', rfl⟩ := ry
  exact add_str (fun t' tk => ⟨.str (i ++ j), H, I.tok _, ⟨_, rfl⟩, q⟩) hz
theorem vals1 {x : V} {us : List Value} (r : Vals [x] us) : ∃ u, us = [u] ∧ RelV x u := by
  cases r with
  | cons r1 r2 => cases r2; exact ⟨_, rfl, r1⟩
theorem vals2 {x y : V} {us : List Value} (r : Vals [x, y] us) : ∃ u w', us = [u, w'] ∧ RelV x u ∧ RelV y w' := by
  cases r with
  | cons r1 r2 =>
    cases r2 with
    | cons r3 r4 => cases r4; exact ⟨_, _, rfl, r1, r3⟩
theorem call_min2 (hc : X.calm = true) : CallR X (.builtin "min") (fun xs H Q => ∃ i j, xs = [.int i, .int j] ∧ Q (.int (if j < i then j else i)) H) := by
  intro pins s σ H xs us Q I r h
  obtain ⟨i, j, rfl, q⟩ := h
  obtain ⟨u, w', rfl, ⟨t, rfl⟩, ⟨t', rfl⟩⟩ := vals2 r
  refine min_two_ints (I.ok.hd hc) fun h' tk k => ⟨_, H, I.kept k, ?_, q⟩
  by_cases hj : j < i
  · rw [if_pos hj, if_pos hj]; exact ⟨_, rfl⟩
  · rw [if_neg hj, if_neg hj]; exact ⟨_, rfl⟩
end
end L2
namespace L2
open PySem PySem.Spec PyProof.Rows
section
variable {prog : Program} {w : World} {A : Around} {E : Value → Shared → Prop} {s : Shared} {K : PySem.W.Frag} {x dx C f : Addr} {mA : Str → Option Value} {name : Str} {v : Value}
end
section
variable {P : Program} {w : World} {H H' : Hp} {h h' : Heap} {a C dx : Addr} {fs fs' : List (Str × V)}
end
structure Cls (K : PySem.W.Frag) (C : Addr) : Prop where
  pg : PySem.W.plainGet K C Str.empty = true
  hd : PySem.W.hasDictIn K C = true
  po : PySem.W.plainOver K C = true
  sa : PySem.W.findIn K (.ref C) "__setattr__" = some (some (.builtin "object.__setattr__"))
theorem Cls.get {K : PySem.W.Frag} {C : Addr} (c : Cls K C) (f : Str) : PySem.W.plainGet K C f = true := c.pg
section
variable {X : Cx} {pins : List (Addr × Obj)} {σ : St} {H : Hp} {s : Shared} {a C dx : Addr} {fs : List (Str × V)} {f : Str} {v : V} {A : Around} {E : Value → Shared → Prop}
theorem Inv.made (I : Inv X pins σ H s) : Inv X pins σ (upd (upd H s.heap.objs.size (.own (s.heap.objs.size + 1))) (s.heap.objs.size + 1) (.ins C s.heap.objs.size []))
    { s with heap := (s.heap.push PySem.W.emptyDict).push (PySem.W.instObj C s.heap.objs.size) } := by
  have e1 : (s.heap.push PySem.W.emptyDict).get? s.heap.objs.size = some PySem.W.emptyDict := Heap.get?_push_size s.heap rfl
  have e2 : ((s.heap.push PySem.W.emptyDict).push (PySem.W.instObj C s.heap.objs.size)).get? (s.heap.objs.size + 1) = some (PySem.W.instObj C s.heap.objs.size) := by
    have := Heap.get?_push_size (s.heap.push PySem.W.emptyDict) (o := PySem.W.instObj C s.heap.objs.size) rfl
    rwa [Heap.size_push] at this
  have e3 : (s.heap.push PySem.W.emptyDict).Ns s.heap.objs.size (fun _ => none) := ⟨PySem.W.emptyDict, #[], _, e1, rfl, (fun e he => absurd he (by simp)), fun _ => rfl⟩
  have I1 := I.laid (a := s.heap.objs.size) (o := .own (s.heap.objs.size + 1)) (h' := s.heap.push PySem.W.emptyDict) (t' := s.toks) (fun b u q => Heap.get?_push_of_some _ q) (Nat.le_refl _) ⟨_, e1⟩
  refine I1.laid (a := s.heap.objs.size + 1) (o := .ins C s.heap.objs.size []) (t' := s.toks) (fun b u q => Heap.get?_push_of_some _ q) (Nat.le_of_eq (Heap.size_push _ _)) ?_
  have ne : s.heap.objs.size ≠ s.heap.objs.size + 1 := Nat.ne_of_lt (Nat.lt_succ_self _)
  refine ⟨by rw [upd_ne ne, upd_same], Nat.zero_le _, ne, e2, fun _ => none, (Heap.Ns1.of_empty e3).at fun o q => Heap.get?_push_of_some _ q, fun _ => True.intro, fun y hy => absurd rfl hy⟩
end
section
variable {X : Cx} {o e value : Expr} {f : Str} {pos pos' tpos : Pos} {ta tv : TE}
end
section
variable {X : Cx} {pins : List (Addr × Obj)} {σ : St} {H : Hp} {s : Shared} {A : Around} {E : Value → Shared → Prop} {Q : Value → Shared → Prop} {c : Value} {b : Bool}
end
end L2
namespace L2
open PySem PySem.Spec PyProof.Rows
structure Room (k : Nat) (A : Around) : Prop where
  hd : A.handled = none
  dp : A.depth + 3 * k + 5 < recursionLimit
  un : A.units + 16 * k + 200 < cLine
theorem Room.mono {j k : Nat} {A : Around} (r : Room k A) (h : j ≤ k) : Room j A := ⟨r.hd, by have := r.dp; omega, by have := r.un; omega⟩
theorem Room.deeper {k : Nat} {A : Around} (r : Room (k + 1) A) (env : Env) : Room k (A.deeper env) :=
  ⟨r.hd, by have := r.dp; show A.depth + 1 + 3 * k + 5 < _; omega, by have := r.un; show A.units + 3 + 16 * k + 200 < _; omega⟩
theorem Room.in1 {k : Nat} {A : Around} (r : Room (k + 1) A) : Room k A.in1 :=
  ⟨r.hd, by have := r.dp; show A.depth + 3 * k + 5 < _; omega, by have := r.un; show A.units + 1 + 16 * k + 200 < _; omega⟩
theorem Room.depth {k : Nat} {A : Around} (r : Room k A) : A.depth < recursionLimit := by have := r.dp; omega
theorem Room.units {k : Nat} {A : Around} (r : Room k A) : A.units + 64 < cLine := by have := r.un; omega
def tNil : TA := fun _ H Q => Q [] H
def tCons (ta : TE) (tr : TA) : TA := fun σ H Q => ta σ H fun x H1 => tr σ H1 fun xs H2 => Q (x :: xs) H2
section
variable {X : Cx} {e : Expr} {es : List Expr} {te : TE} {t : TA} {pos : Pos}
theorem pa_nil : PA X [] tNil := fun _ _ _ _ H Q I h => Calls.spliced_nil ⟨[], H, I, .nil, h⟩
theorem pa_cons (ha : PE X e te) (hr : PA X es t) (hs : starEach (e :: es) X.env = (false, eval e X.env) :: starEach es X.env := by rfl) : PA X (e :: es) (tCons te t) := by
  intro pos pins s σ H Q I h
  rw [hs]
  show wpAny _ _ (spliced ((false, eval e X.env) :: backTo pos (starEach es X.env))) _ _ s
  refine Calls.spliced_cons (thn (ha pins s σ H _ I h) fun u s1 ⟨x, H1, I1, r1, q1⟩ => ?_)
  exact thn (hr pos pins s1 σ H1 _ I1 q1) fun us s2 ⟨xs, H2, I2, r2, q2⟩ => ⟨x :: xs, H2, I2, .cons r1 r2, q2⟩
def tTup (t : TA) : TE := fun σ H Q => t σ H fun xs H1 => xs.length ≤ sizeLine ∧ ∀ p, H1 p = none → Q (.ref p) (upd H1 p (.tup xs))
def tLst (t : TA) : TE := fun σ H Q => t σ H fun xs H1 => xs.length ≤ sizeLine ∧ ∀ p, H1 p = none → Q (.ref p) (upd H1 p (.lst xs))
theorem pe_tup {x1} (h : PA X es t) : PE X (.Tuple es x1 pos) (tTup t) := by
  intro pins s σ H Q I hq
  refine wpAny_Tuple_spliced (thn (h pos pins s σ H _ I hq) fun us s1 ⟨xs, H1, I1, r, z, q⟩ => ⟨by rw [← r.length]; exact z, ?_⟩)
  have hf : H1 s1.heap.objs.size = none := I1.hok.fresh (Nat.le_refl _)
  refine ⟨.ref s1.heap.objs.size, upd H1 s1.heap.objs.size (.tup xs), I1.laid (t' := s1.toks) (fun b u e => Heap.get?_push_of_some _ e) (Nat.le_refl _) ?_, rfl, q _ hf⟩
  exact ⟨z, us, r, IsTupD.new _ _⟩
theorem pe_lst (h : PA X es t) : PE X (.List es pos) (tLst t) := by
  intro pins s σ H Q I hq
  refine wpAny_List_spliced (thn (h pos pins s σ H _ I hq) fun us s1 ⟨xs, H1, I1, r, z, q⟩ => ⟨by rw [← r.length]; exact z, ?_⟩)
  have hf : H1 s1.heap.objs.size = none := I1.hok.fresh (Nat.le_refl _)
  refine ⟨.ref s1.heap.objs.size, upd H1 s1.heap.objs.size (.lst xs), I1.laid (t' := s1.toks) (fun b u e => Heap.get?_push_of_some _ e) (Nat.le_refl _) ?_, rfl, q _ hf⟩
  exact ⟨z, us, 0, r, Heap.get?_push_size _ rfl⟩
end
noncomputable abbrev Sp := List V → Hp → VK → XK → Prop
noncomputable abbrev CXT := List Env → Hp → Shared → XK → Value → Shared → Prop
structure Env0 (P : Program) (w : World) (K : PySem.W.Frag) (mg : Str → Option Value) (base : Heap) (A : Around) (outer : List Env) (s : Shared) (H : Hp) : Prop where
  frames : A.frames = some outer
  mod : Mod K mg base
  bs : ∀ b o, base.get? b = some o → s.heap.get? b = some o ∧ H b = none
  bsz : base.objs.size ≤ s.heap.objs.size
  funs : s.heap.FunFrames base outer
  frf : ∀ b ∈ frs outer, H b = none
  hok : HOk P w H s.heap
  bare : AllBare s.gens
def CE (outer : List Env) (P : Program) (w : World) (H : Hp) (s : Shared) (Q : VK) (u : Value) (s' : Shared) : Prop :=
  ∃ v H', s'.os = s.os ∧ AllBare s'.gens ∧ Un (frs outer) [] H H' s.heap s'.heap ∧ HOk P w H' s'.heap ∧ RelV v u ∧ Q v H'
def CR (CX : CXT) (outer : List Env) (P : Program) (w : World) (H : Hp) (s : Shared) (Q : VK) (E : XK) (r : Result) (s' : Shared) : Prop :=
  match r with
  | .ok (.ret u) => CE outer P w H s Q u s'
  | .ok _ => False
  | .error e => CX outer H s E e s'
structure FnOk (P : Program) (w : World) (K : PySem.W.Frag) (mg : Str → Option Value) (base : Heap) (CX : CXT) (k : Nat) (f : Addr) (fd : FuncData) (ps : List Str) (sp : Sp) : Prop where
  len : ∀ vs H Q E, sp vs H Q E → vs.length = ps.length
  run : ∀ (A : Around) (outer : List Env) (s : Shared) (H : Hp) (args : Args) (us : List Value) (vs : List V) (Q : VK) (E : XK), Room k A → Env0 P w K mg base A outer s H → BindsTo s fd args (ps.zip us) → Vals vs us → sp vs H Q E →
    codeAny (model P w) A (.call (.ref f) args) (CR CX outer P w H s Q E) s
theorem FnOk.mono {P : Program} {w : World} {K : PySem.W.Frag} {mg : Str → Option Value} {base : Heap} {CX : CXT} {j k : Nat} {f : Addr} {fd : FuncData} {ps : List Str} {sp : Sp} (F : FnOk P w K mg base CX j f fd ps sp) (h : j ≤ k) :
    FnOk P w K mg base CX k f fd ps sp := ⟨F.len, fun A outer s H args us vs Q E hr => F.run A outer s H args us vs Q E (hr.mono h)⟩
theorem FnOk.imp {P : Program} {w : World} {K : PySem.W.Frag} {mg : Str → Option Value} {base : Heap} {CX : CXT} {k : Nat} {f : Addr} {fd : FuncData} {ps : List Str} {sp sp' : Sp} (F : FnOk P w K mg base CX k f fd ps sp)
    (h : ∀ vs H Q E, sp' vs H Q E → sp vs H Q E) : FnOk P w K mg base CX k f fd ps sp' :=
  ⟨fun vs H Q E q => F.len vs H Q E (h _ _ _ _ q), fun A outer s H args us vs Q E hr he hb hv hs => F.run A outer s H args us vs Q E hr he hb hv (h _ _ _ _ hs)⟩
theorem Env0.in1 {P : Program} {w : World} {K : PySem.W.Frag} {mg : Str → Option Value} {base : Heap} {A : Around} {outer : List Env} {s : Shared} {H : Hp} (e : Env0 P w K mg base A outer s H) :
    Env0 P w K mg base A.in1 outer s H := ⟨e.frames, e.mod, e.bs, e.bsz, e.funs, e.frf, e.hok, e.bare⟩
section
variable {X : Cx} {pins : List (Addr × Obj)} {σ : St} {H : Hp} {s s' : Shared}
theorem Inv.env0 (I : Inv X pins σ H s) : Env0 X.prog X.w X.K X.mg X.base X.A X.stack s H :=
  ⟨I.ok.frames, I.ok.mod, I.bs, Nat.le_trans I.ok.bsz I.sz, I.stack, I.stkFree, I.hok, I.bare⟩
theorem Inv.after {Q : VK} {u : Value} (I : Inv X pins σ H s) (h : CE X.stack X.prog X.w H s Q u s') : EP X pins σ Q u s' := by
  obtain ⟨v, H', os, bare, un, hok, r, q⟩ := h
  obtain ⟨hh, g, d, t, os'⟩ := s'
  obtain rfl : os' = s.os := os
  exact ⟨v, H', I.call (h' := hh) (g' := g) (d' := d) (t' := t) (ch := []) un hok bare (fun b z => absurd z (by simp)), r, q⟩
end
def tCall (sp : Sp) (dvs : List V) (E : XK) (t : TA) : TE := fun σ H Q => t σ H fun vs H1 => sp (vs ++ dvs) H1 Q E
def Binds (K : PySem.W.Frag) (fd : FuncData) (ps : List Str) (ds : List Value) : Prop :=
  ∀ (s : Shared) (us : List Value), K.In s.heap → (us ++ ds).length = ps.length → BindsTo s fd ⟨us, []⟩ (ps.zip (us ++ ds))
theorem Binds.all {K : PySem.W.Frag} {fd : FuncData} {ps : List Str} (h : ∀ us : List Value, us.length = ps.length → bindArgs fd ⟨us, []⟩ = pure (ps.zip us)) : Binds K fd ps [] := fun s us _ hl => by
  rw [List.append_nil] at hl ⊢
  exact .of_eq (h us hl)
def Passes (CX : CXT) (X : Cx) (E : XK) : Prop := ∀ (pins : List (Addr × Obj)) (σ : St) (H : Hp) (s : Shared) (e : Value) (s' : Shared), Inv X pins σ H s → CX X.stack H s E e s' → X.xe e s'
section
variable {X : Cx} {CX : CXT} {k : Nat} {f C : Addr} {fd : FuncData} {ps : List Str} {sp : Sp} {dvs : List V} {ds : List Value} {E : XK} {x m : Str} {p pos apos : Pos} {e o : Expr} {es : List Expr} {ta : TE} {t : TA}
theorem run_fn {pins : List (Addr × Obj)} {σ : St} {H : Hp} {s : Shared} {Q : VK} {us : List Value} {vs : List V} (F : FnOk X.prog X.w X.K X.mg X.base CX k f fd ps sp) (hr : Room k X.A) (hb : Binds X.K fd ps ds) (hd : Vals dvs ds) (hx : Passes CX X E)
    (I : Inv X pins σ H s) (r : Vals vs us) (h : sp (vs ++ dvs) H Q E) : wpAny (model X.prog X.w) X.A (call (.ref f) us) (EP X pins σ Q) X.xe s := by
  have r2 : Vals (vs ++ dvs) (us ++ ds) := r.append hd
  have hl : (us ++ ds).length = ps.length := by rw [← r2.length]; exact F.len _ _ _ _ h
  refine wpAny_call (codeAny_mono (F.run X.A X.stack s H ⟨us, []⟩ (us ++ ds) (vs ++ dvs) Q E hr I.env0 (hb s us I.kIn hl) r2 h) fun r s' hq => ?_)
  cases r with
  | error e => exact hx pins σ H s e s' I hq
  | ok fl =>
    cases fl with
    | ret u => exact I.after hq
    | next => exact False.elim hq
    | brk => exact False.elim hq
    | cont => exact False.elim hq
theorem pe_call (F : FnOk X.prog X.w X.K X.mg X.base CX k f fd ps sp) (hr : Room k X.A) (hg : Gl X x) (hm : X.mg x = some (.ref f)) (hk : PySem.W.keepIn X.K (.ref f) = true) (hb : Binds X.K fd ps ds) (hd : Vals dvs ds) (hx : Passes CX X E)
    (ha : PA X (e :: es) t) (hdb : (x == ("__debug__" : Str)) = false := by decide) (he : starEach (e :: es) X.env = (false, eval e X.env) :: starEach es X.env := by rfl) (hpl : (backTo pos (starEach es X.env)).any (·.1) = false := by rfl) :
    PE X (.Call (.Name x p) (e :: es) [] pos) (tCall sp dvs E t) := by
  intro pins s σ H Q I h
  refine wpAny_Call_Name_kw (ld_glob I hg hm ?_ hdb)
  refine PySem.W.callWith_K (h₀ := X.base) I.ok.mod.kin hk (thn (ha pos pins s σ H _ I h) fun us s1 ⟨vs, H1, I1, r, q⟩ => ⟨I1.kIn, ?_⟩) he hpl
  exact run_fn F hr hb hd hx I1 r q
end
section
variable {X : Cx} {CX : CXT} {k : Nat} {f C : Addr} {fd : FuncData} {ps ks : List Str} {sp : Sp} {E : XK} {x m : Str} {p pos apos kpos : Pos} {e o : Expr} {es : List Expr} {kws : List Keyword} {te ta : TE} {t tk : TA} {nm : Option Str}
variable {g : List Value → List Value → List Value} {gV : List V → List V → List V}
end
structure FnScope (N P : List Str) (sc : Scope) : Prop where
  kind : sc.kind = .function
  co : sc.isCoroutine = false
  gen : sc.isGenerator = false
  nd : N.Nodup
  pre : N.take P.length = P
  par : ∀ x ∈ P, sc.names.lookup x = some .local ∨ sc.names.lookup x = some .cell
  nofree : ∀ y ∈ sc.names, y.2 ≠ .free
theorem bindL_out {kindOf : Str → Option NameKind} {x : Str} : ∀ {binds : List (Str × Value)} {m : Str → Option Value}, (∀ v, (x, v) ∉ binds) → bindL kindOf binds m x = m x
  | [], _, _ => rfl
  | (n, v) :: r, m, h => by
    unfold bindL
    rw [bindL_out fun w hw => h w (List.mem_cons_of_mem _ hw)]
    split
    · have : x ≠ n := by rintro rfl; exact h v List.mem_cons_self
      simp [this]
    · rfl
theorem bindC_out {kindOf : Str → Option NameKind} {x : Str} : ∀ {binds : List (Str × Value)} {m : Str → Option Value}, (∀ v, (x, v) ∉ binds) → bindC kindOf binds m x = m x
  | [], _, _ => rfl
  | (n, v) :: r, m, h => by
    unfold bindC
    rw [bindC_out fun w hw => h w (List.mem_cons_of_mem _ hw)]
    split
    · rfl
    · have : x ≠ n := by rintro rfl; exact h v List.mem_cons_self
      simp [this]
theorem bindL_get {kindOf : Str → Option NameKind} {x : Str} {v : Value} : ∀ {P : List Str} {vs : List Value} {i : Nat} {m : Str → Option Value}, P.Nodup → P[i]? = some x → vs[i]? = some v → kindOf x = some .local →
    bindL kindOf (P.zip vs) m x = some v
  | [], _, _, _, _, h, _, _ => by simp at h
  | _ :: _, [], _, _, _, _, h, _ => by simp at h
  | p :: P, w :: vs, 0, m, nd, h1, h2, hk => by
    simp at h1 h2; subst h1; subst h2
    show bindL kindOf ((p, w) :: P.zip vs) m p = _
    unfold bindL
    rw [bindL_out fun v hv => (List.nodup_cons.mp nd).1 (List.of_mem_zip hv).1, if_pos hk]
    simp
  | p :: P, w :: vs, i + 1, m, nd, h1, h2, hk => by
    show bindL kindOf ((p, w) :: P.zip vs) m x = _
    unfold bindL
    exact bindL_get (i := i) (List.nodup_cons.mp nd).2 (by simpa using h1) (by simpa using h2) hk
theorem bindC_get {kindOf : Str → Option NameKind} {x : Str} {v : Value} : ∀ {P : List Str} {vs : List Value} {i : Nat} {m : Str → Option Value}, P.Nodup → P[i]? = some x → vs[i]? = some v → kindOf x ≠ some .local →
    bindC kindOf (P.zip vs) m x = some v
  | [], _, _, _, _, h, _, _ => by simp at h
  | _ :: _, [], _, _, _, _, h, _ => by simp at h
  | p :: P, w :: vs, 0, m, nd, h1, h2, hk => by
    simp at h1 h2; subst h1; subst h2
    show bindC kindOf ((p, w) :: P.zip vs) m p = _
    unfold bindC
    rw [bindC_out fun v hv => (List.nodup_cons.mp nd).1 (List.of_mem_zip hv).1, if_neg hk]
    simp
  | p :: P, w :: vs, i + 1, m, nd, h1, h2, hk => by
    show bindC kindOf ((p, w) :: P.zip vs) m x = _
    unfold bindC
    exact bindC_get (i := i) (List.nodup_cons.mp nd).2 (by simpa using h1) (by simpa using h2) hk
noncomputable def start (N : List Str) (vs : List V) : St := vs.map some ++ List.replicate (N.length - vs.length) none
def cxOf (CX : CXT) (P : Program) (w : World) (K : PySem.W.Frag) (mg : Str → Option Value) (base : Heap) (N : List Str) (qual : Str) (scope : Scope) (f : Addr) (cd : Value) (A : Around) (outer : List Env) (s : Shared) (H : Hp) (E : XK) : Cx where
  prog := P
  w := w
  K := K
  mg := mg
  base := base
  A := A.deeper (envOfC qual scope s.heap.objs.size f cd)
  N := N
  s₀ := s
  H₀ := H
  env := envOfC qual scope s.heap.objs.size f cd
  outer := outer
  stack := envOfC qual scope s.heap.objs.size f cd :: outer
  ex := []
  calm := true
  fn := fun _ => true
  pn := []
  xe := fun e s' => wpAny (model P w) (A.deeper (envOfC qual scope s.heap.objs.size f cd)) (leaving (envOfC qual scope s.heap.objs.size f cd) e) (fun _ s'' => CX outer H s E e s'') (fun e' s'' => CX outer H s E e' s'') s'
theorem cell_has {sc : Scope} {n : Nat} {x : Str} (h : sc.names.lookup x = some .cell) : ∃ c, (cellsFrom n sc.names []).lookup x = some c := by
  have q := PySem.W.cellsFrom_some sc.names n [] (.inl h)
  exact Option.isSome_iff_exists.mp q
theorem inv_start {CX : CXT} {P : Program} {w : World} {K : PySem.W.Frag} {mg : Str → Option Value} {base : Heap} {N ps : List Str} {qual : Str} {scope : Scope} {f : Addr} {cd : Value} {A : Around} {outer : List Env} {s s1 : Shared} {H : Hp} {E : XK} {us : List Value} {vs : List V}
    (S : FnScope N ps scope) (hd : A.handled = none) (e0 : Env0 P w K mg base A outer s H) (hl : vs.length = ps.length) (r : Vals vs us)
    (x : InCallC s s.heap.objs.size (bindL (envOfC qual scope s.heap.objs.size f cd).kindOf (ps.zip us) fun _ => none) (cellsFrom (s.heap.objs.size + 1) scope.names []) (bindC (envOfC qual scope s.heap.objs.size f cd).kindOf (ps.zip us) fun _ => none) s1) :
    Inv (cxOf CX P w K mg base N qual scope f cd A outer s H E) [] (start N vs) H s1 := by
  have hpl : ps.length ≤ N.length := by have := congrArg List.length S.pre; rw [List.length_take] at this; omega
  obtain ⟨h1, tk, rfl, hk⟩ := x.done
  have noA : ∀ b : Addr, b ∉ (cxOf CX P w K mg base N qual scope f cd A outer s H E).ex := fun b z => absurd (show b ∈ ([] : List Addr) from z) (by simp)
  refine ⟨⟨e0.mod, S.kind, rfl, rfl, Nat.le_refl _, fun y z c h1 h2 => ?_, fun y hy => ?_, fun y c _ h => ?_, fun _ => hd, Around.frames_deeper e0.frames, .inr ⟨rfl, rfl⟩, fun b z => absurd z (noA b), e0.bs, e0.bsz, fun b _ _ => noA b, fun b z => absurd z (noA b), e0.funs, e0.frf⟩,
    rfl, e0.bare, Un.kept hk, ⟨_, x.toInCall.ns, fun i y v h1 h2 h3 => ?_⟩, fun y c h => ⟨_, x.cell y c h⟩, e0.hok.fresh (Nat.le_refl _), fun y c h => ?_, fun p hp => absurd (show p ∈ ([] : List (Addr × Obj)) from hp) (by simp), e0.hok.kept hk, ?_⟩
  · exact name_of_addr x.apart (PySem.mem_of_lookup h1) (PySem.mem_of_lookup h2)
  · have hy : scope.names.lookup y = some .cell ∨ scope.names.lookup y = some .free := hy
    rcases hy with hy | hy
    · exact cell_has hy
    · exact absurd rfl (S.nofree _ (PySem.mem_of_lookup hy))
  · exact Nat.le_of_lt (x.above y c (PySem.mem_of_lookup h))
  · have hi : i < vs.length := by
      unfold start at h2
      by_cases hi : i < vs.length
      · exact hi
      · rw [List.getElem?_append_right (by simpa using hi)] at h2
        rw [List.getElem?_replicate] at h2
        split at h2 <;> cases h2
    have ha : vs[i]? = some v := by
      unfold start at h2
      rw [List.getElem?_append_left (by simpa using hi), List.getElem?_map] at h2
      cases e : vs[i]? with
      | none => rw [e] at h2; cases h2
      | some a => rw [e] at h2; cases h2; rfl
    obtain ⟨u, hu, rv⟩ := r.get ha
    have hp : ps[i]? = some y := by
      rw [← S.pre, List.getElem?_take_of_lt (by omega)]; exact h1
    have ndP : ps.Nodup := by rw [← S.pre]; exact S.nd.sublist (List.take_sublist _ _)
    refine ⟨u, rv, ?_⟩
    rcases S.par y (List.mem_of_getElem? hp) with k | k
    · exact .inl ⟨k, bindL_get ndP hp hu k⟩
    · obtain ⟨c, e⟩ := cell_has (n := s.heap.objs.size + 1) k
      refine .inr ⟨.inl k, c, e, ?_⟩
      have q := x.cell y c e
      rw [bindC_get ndP hp hu (by show scope.names.lookup y ≠ _; rw [k]; decide)] at q
      exact q
  · exact e0.hok.fresh (Nat.le_of_lt (x.above y c (PySem.mem_of_lookup h)))
  · unfold start
    show _ = N.length
    rw [List.length_append, List.length_map, List.length_replicate]
    omega
theorem fn_of {CX : CXT} {P : Program} {w : World} {K : PySem.W.Frag} {mg : Str → Option Value} {base : Heap} {k : Nat} {f : Addr} {name qual : Str} {params : Arguments} {body : List Stmt} {scope : Scope} {dV kV doc pm cdv ct oc : Value} {an od : Option Addr}
    {osl : Array (Option Value)} {N ps : List Str} {sp : Sp} (lk : K.lookup f = some ⟨oc, od, .func (PySem.W.fnOf name qual params body scope dV kV doc pm an cdv ct), osl⟩) (hcd : PySem.W.codeIn K cdv qual = true) (S : FnScope N ps scope)
    (len : ∀ vs H Q E, sp vs H Q E → vs.length = ps.length)
    (hbody : ∀ (A : Around) (outer : List Env) (s : Shared) (H : Hp) (vs : List V) (Q : VK) (E : XK), Room k (A.deeper (envOfC qual scope s.heap.objs.size f cdv)) → sp vs H Q E →
      ∃ t, PSs (cxOf CX P w K mg base N qual scope f cdv A outer s H E) body t ∧ t { nx := fun _ H' => Q .non H', rt := Q } (start N vs) H) :
    FnOk P w K mg base CX (k + 1) f (PySem.W.fnOf name qual params body scope dV kV doc pm an cdv ct) ps sp := by
  refine ⟨len, fun A outer s H args us vs Q E hr e0 hb r hsp => ?_⟩
  have hl := len _ _ _ _ hsp
  have KX : K.In s.heap := e0.mod.kin.keeps fun b o e => (e0.bs b o e).1
  have lim : s.heap.NoLimit := e0.mod.nolimit.keeps fun b o e => (e0.bs b o e).1
  have hkind : ∀ y ∈ ps.zip us, scope.names.lookup y.1 = some .local ∨ (scope.names.lookup y.1 = some .cell ∧ ((cellsFrom (s.heap.objs.size + 1) scope.names []).lookup y.1).isSome = true) := fun ⟨n, v⟩ hy => by
    rcases S.par n (List.of_mem_zip hy).1 with q | q
    · exact .inl q
    · exact .inr ⟨q, PySem.W.cellsFrom_some _ _ _ (.inl q)⟩
  refine codeAny_call_function hr.depth (KX _ _ lk) rfl S.co S.gen rfl (PySem.W.codeRec_of KX hcd) (hb _ _ _ _ ?_)
  refine wpAny_newFunctionEnv_cells S.kind hkind fun env he s1 x => ?_
  subst he
  refine ⟨lim.keeps x.toInCall.keep, codeAny_func ?_⟩
  obtain ⟨t, ht, hq⟩ := hbody A outer s H vs Q E (hr.deeper _) hsp
  have I : Inv (cxOf CX P w K mg base N qual scope f cdv A outer s H E) [] (start N vs) H s1 := inv_start S hr.hd e0 hl r x
  refine wpAny_mono (ht [] s1 (start N vs) H _ I hq) (fun fl s' hs => ?_) fun e s' hs => hs
  have fin : ∀ {σ' : St} {H' : Hp} {v : V} {u : Value}, Inv (cxOf CX P w K mg base N qual scope f cdv A outer s H E) [] σ' H' s' → RelV v u → Q v H' → CE outer P w H s Q u s' :=
    fun {σ' H' v u} J rv q => ⟨v, H', J.os, J.bare, J.base, J.hok, rv, q⟩
  cases fl with
  | ret u =>
    obtain ⟨v, σ', H', J, rv, q⟩ := hs
    exact fin J rv q
  | next =>
    obtain ⟨σ', H', J, q⟩ := hs
    exact fin (v := V.non) (u := Value.none) J rfl q
  | brk =>
    obtain ⟨_, _, _, q⟩ := hs
    exact False.elim q
  | cont =>
    obtain ⟨_, _, _, q⟩ := hs
    exact False.elim q
end L2
namespace L2
open PySem PySem.Spec PyProof.Rows
section
variable {X : Cx} {x : Str} {p pos : Pos} {e : Expr} {es : List Expr} {t : TA} {id T : String} {r : List V → Hp → VK → Prop}
def tCB (r : List V → Hp → VK → Prop) (t : TA) : TE := fun σ H Q => t σ H fun vs H1 => r vs H1 Q
theorem pe_callB (hc : CallR X (.builtin id) r) (hg : Gl X x) (hm : X.mg x = none) (hv : bootBuiltins x = some (.builtin id)) (ha : PA X (e :: es) t) (hn : x ≠ "__name__" := by decide) (hdb : (x == ("__debug__" : Str)) = false := by decide)
    (he : starEach (e :: es) X.env = (false, eval e X.env) :: starEach es X.env := by rfl) (hpl : (backTo pos (starEach es X.env)).any (·.1) = false := by rfl) : PE X (.Call (.Name x p) (e :: es) [] pos) (tCB r t) := by
  intro pins s σ H Q I h
  refine wpAny_Call_Name_kw (ld_blt I hg hm hv ?_ hn hdb)
  exact PyProof.Rows.callWith_builtin1 (thn (ha pos pins s σ H _ I h) fun us s1 ⟨vs, H1, I1, r1, q1⟩ => hc pins s1 σ H1 vs us Q I1 r1 q1) he hpl
theorem pe_callTy (hc : CallR X (.type T) r) (hg : Gl X x) (hm : X.mg x = none) (hv : bootBuiltins x = some (.type T)) (ha : PA X (e :: es) t) (hn : x ≠ "__name__" := by decide) (hdb : (x == ("__debug__" : Str)) = false := by decide)
    (he : starEach (e :: es) X.env = (false, eval e X.env) :: starEach es X.env := by rfl) (hpl : (backTo pos (starEach es X.env)).any (·.1) = false := by rfl) : PE X (.Call (.Name x p) (e :: es) [] pos) (tCB r t) := by
  intro pins s σ H Q I h
  refine wpAny_Call_Name_kw (ld_blt I hg hm hv ?_ hn hdb)
  exact PyProof.Rows.callWith_type1 (thn (ha pos pins s σ H _ I h) fun us s1 ⟨vs, H1, I1, r1, q1⟩ => hc pins s1 σ H1 vs us Q I1 r1 q1) he hpl
end
end L2
namespace HT
open PySem PyProof.Rows
section
open PySem.SeqAt
open PySem.AutoSeq1 (wpAny_loadPart')
open PySem.MeetsSeq PySem.MeetsSeq2 PySem.MeetsSeq3
end
section
variable {prog : Program} {w : World} {A : Around} {E : Value → Shared → Prop} {s : Shared}
theorem cat_tup {t b : Addr} {vs ws : List Value} {Q : Value → Shared → Prop} (ht : IsTup s.heap t vs.toArray) (hb : IsTup s.heap b ws.toArray) (hv : vs ≠ [])
    (h1 : ws = [] → Q (.ref t) s) (h2 : ws ≠ [] → Q (.ref s.heap.objs.size) { s with heap := s.heap.push { cls := .type "tuple", data := .seq (vs ++ ws).toArray } })
    (hsz : vs.length + ws.length ≤ sizeLine) : wpAny (model prog w) A (binaryOp .Add (.ref t) (.ref b)) Q E s := by
  obtain ⟨⟨cls, dd, data, sl⟩, ho, hc, n, hd⟩ := id ht
  obtain ⟨⟨cls2, dd2, data2, sl2⟩, ho2, hc2, n2, hd2⟩ := id hb
  simp only at hc hd hc2 hd2
  subst hc hd hc2 hd2
  have e : vs.toArray ++ ws.toArray = (vs ++ ws).toArray := by simp
  by_cases hw : ws = []
  · exact concat_meets ⟨_, ho, rfl⟩ ⟨_, ho2, rfl⟩ noFill_tuple_add seq_tuple_add PySem.F.slot_tuple_add PySem.F.entry_tuple_add (PySem.F.args_tuple_add_2 _ _)
      (tuple_addW1 t b vs.toArray ws.toArray n n2 dd dd2 sl sl2 (by simpa using hv) (by simp [hw])) ⟨ho, ho2, h1 hw⟩
  · refine concat_meets ⟨_, ho, rfl⟩ ⟨_, ho2, rfl⟩ noFill_tuple_add seq_tuple_add PySem.F.slot_tuple_add PySem.F.entry_tuple_add (PySem.F.args_tuple_add_2 _ _)
      (tuple_addW2 t b vs.toArray ws.toArray n n2 dd dd2 sl sl2 (by simpa using hv) (by simpa using hw) (by rw [List.size_toArray, List.size_toArray]; exact hsz)) ⟨ho, ho2, ?_⟩
    rw [e]
    exact h2 hw
noncomputable def sIx (n d : Nat) : Option Int → Nat
  | none => d
  | some v => if v < 0 then (v + (n : Int)).toNat else min v.toNat n
theorem sIx_le (n d : Nat) (hd : d ≤ n) (o : Option Int) : sIx n d o ≤ n := by
  cases o with
  | none => exact hd
  | some v =>
    show (if v < 0 then (v + (n : Int)).toNat else min v.toNat n) ≤ n
    by_cases hv : v < 0
    · rw [if_pos hv]; omega
    · rw [if_neg hv]; exact Nat.min_le_right _ _
theorem clip_eq (v : Int) (n d : Nat) : (if v < 0 then max (v + (n : Int)) 0 else min v (n : Int)) = ((sIx n d (some v) : Nat) : Int) := by
  show (if v < 0 then max (v + (n : Int)) 0 else min v (n : Int)) = (((if v < 0 then (v + (n : Int)).toNat else min v.toNat n) : Nat) : Int)
  by_cases hv : v < 0
  · simp only [if_pos hv]; omega
  · simp only [if_neg hv]; omega
theorem adjust_gen (lo hi : Option Int) (n : Nat) : Builtin.Slice.sliceAdjust lo hi 1 (n : Int) = (((sIx n 0 lo : Nat) : Int), ((sIx n n hi : Nat) : Int)) := by
  have h1 : ¬ ((1 : Int) < 0) := by omega
  unfold Builtin.Slice.sliceAdjust
  simp only [h1, if_false]
  refine Prod.ext ?_ ?_
  · cases lo with
    | none => rfl
    | some v => exact clip_eq v n 0
  · cases hi with
    | none => rfl
    | some v => exact clip_eq v n n
theorem places_gen (i j : Nat) : Builtin.Slice.slicePlaces (i : Int) (j : Int) 1 = j - i := by
  unfold Builtin.Slice.slicePlaces
  have h1 : (1 : Int) > 0 := by omega
  simp only [h1, if_true, Int.ediv_one]
  split <;> omega
theorem slicePart_ {v : Value} {o : Option Int} {Q : Option Int → Shared → Prop} (p : IsPart v o) (h : Q o s) : wpAny (model prog w) A (Builtin.Slice.slicePartIndex v) Q E s := by
  cases p with
  | none => exact slicePart_none h
  | int i t => exact slicePart_int h
theorem sliceApplied_gen {sl : Addr} {vl vu : Value} {lo hi : Option Int} {n : Nat} {Q : Int × Int × Nat → Shared → Prop} (hs : s.heap.IsSliceOf sl vl vu .none) (pl : IsPart vl lo) (pu : IsPart vu hi)
    (h : Q (((sIx n 0 lo : Nat) : Int), 1, sIx n n hi - sIx n 0 lo) s) : wpAny (model prog w) A (Builtin.Slice.sliceApplied (.ref sl) (pure (n : Int))) Q E s := by
  obtain ⟨os, hos, hcs, hds⟩ := id hs
  unfold Builtin.Slice.sliceApplied Builtin.Slice.sliceFields
  refine wpAny_bind (wpAny_bind (wpAny_field hos hds (x := vl) rfl (wpAny_bind (wpAny_field hos hds (x := vu) rfl (wpAny_bind (wpAny_field hos hds (x := .none) rfl (wpAny_pure ?_)))))))
  refine wpAny_bind (slicePart_none ?_)
  show wpAny _ _ (if ((1 : Int) == 0) = true then _ else _) _ _ s
  rw [if_neg (by decide)]
  refine wpAny_bind (slicePart_ pl (wpAny_bind (slicePart_ pu (wpAny_bind (wpAny_pure ?_)))))
  show wpAny _ _ (match Builtin.Slice.sliceAdjust lo hi 1 (n : Int) with | (lo, hi) => pure (lo, (1 : Int), Builtin.Slice.slicePlaces lo hi 1)) _ _ s
  rw [adjust_gen lo hi n]
  show wpAny _ _ (pure (((sIx n 0 lo : Nat) : Int), (1 : Int), Builtin.Slice.slicePlaces ((sIx n 0 lo : Nat) : Int) ((sIx n n hi : Nat) : Int) 1)) _ _ s
  rw [places_gen]
  exact wpAny_pure h
theorem pick_gen (xs : Array Value) (i k : Nat) : ((List.range k).filterMap fun (m : Nat) => xs[((i : Int) + (m : Int) * 1).toNat]?).toArray = ((xs.toList.drop i).take k).toArray := by
  have e : (fun (m : Nat) => xs[((i : Int) + (m : Int) * 1).toNat]?) = fun m => xs[i + m]? := by
    funext m
    have : ((i : Int) + (m : Int) * 1).toNat = i + m := by omega
    rw [this]
  rw [e]
  have := pick_run xs i k
  rw [List.filterMap_map] at this
  have e2 : ((fun x => xs[x]?) ∘ fun x => i + x) = fun m => xs[i + m]? := rfl
  rw [e2] at this
  rw [this]
theorem getItem_tuple_cut {t sl : Addr} {items : Array Value} {vl vu : Value} {lo hi : Option Int} {Q : Value → Shared → Prop} (ht : IsTup s.heap t items) (hs : s.heap.IsSliceOf sl vl vu .none) (pl : IsPart vl lo) (pu : IsPart vu hi)
    (hw : ¬ (sIx items.size 0 lo = 0 ∧ sIx items.size items.size hi = items.size))
    (h : Q (.ref s.heap.objs.size) { s with heap := s.heap.push { cls := .type "tuple", data := .seq ((items.toList.drop (sIx items.size 0 lo)).take (sIx items.size items.size hi - sIx items.size 0 lo)).toArray } })
    (hsz : items.size ≤ sizeLine) : wpAny (model prog w) A (getItem (.ref t) (.ref sl)) Q E s := by
  have htake : sizeOk (.seq ((items.toList.drop (sIx items.size 0 lo)).take (sIx items.size items.size hi - sIx items.size 0 lo)).toArray) := by
    show ((items.toList.drop (sIx items.size 0 lo)).take (sIx items.size items.size hi - sIx items.size 0 lo)).toArray.size ≤ sizeLine
    rw [List.size_toArray, List.length_take, List.length_drop, Array.length_toList]
    omega
  have hj : sIx items.size items.size hi ≤ items.size := sIx_le _ _ (Nat.le_refl _) hi
  obtain ⟨os, hos, hcs, hds⟩ := id hs
  have hTs : s.TypeIs (.ref sl) "slice" := ⟨os, hos, hcs⟩
  unfold getItem
  try with_reducible refine wpAny_holding ?_
  first | refine wpAny_bind (wpAny_pure ?_) | skip
  refine wpAny_bind (wpAny_sequenceKey ht.typeIs (by decide) ?_)
  refine wpAny_bind (wpAny_callSpecial?_slot (name := Str.ofString "__getitem__") ht.typeIs PyProof.Rows.slot_tuple_getitem
    (wpAny_call_entry PyProof.Rows.slot_tuple_getitem ht.typeIs entry_tuple_getitem ?_ (args_tuple_getitem _ _)))
  show wpAny _ _ (Builtin.Tuple.tupleItemsOf (.ref t) >>= _) _ _ s
  refine wpAny_bind (tupleItemsOf_ ht ?_)
  refine wpAny_bind (wpAny_typeOf hTs ?_)
  rw [if_pos (by decide)]
  refine wpAny_bind (sliceApplied_gen hs pl pu ?_)
  have hno : ¬ ((((sIx items.size 0 lo : Nat) : Int) == 0 && (1 : Int) == 1 && (sIx items.size items.size hi - sIx items.size 0 lo) == items.size) = true) := by
    intro q
    rw [Bool.and_eq_true, Bool.and_eq_true] at q
    have q1 : ((sIx items.size 0 lo : Nat) : Int) = 0 := eq_of_beq q.1.1
    have q2 : sIx items.size items.size hi - sIx items.size 0 lo = items.size := eq_of_beq q.2
    exact hw ⟨by omega, by omega⟩
  show wpAny _ _ (if (((sIx items.size 0 lo : Nat) : Int) == 0 && (1 : Int) == 1 && (sIx items.size items.size hi - sIx items.size 0 lo) == items.size) = true then _ else _) _ _ s
  rw [if_neg hno, pick_gen]
  first
    | exact wpAny_bind (m := Builtin.Tuple.tupleExact _) (wpAny_newObj_type (wpAny_pure ⟨_, rfl, wpAny_pure h⟩) htake)
    | exact wpAny_bind (m := Builtin.Tuple.tupleExact _) (wpAny_newObj_type (wpAny_bind (wpAny_pure (wpAny_pure ⟨_, rfl, wpAny_pure h⟩))) htake)
    | exact wpAny_bind (wpAny_bind (m := Builtin.Tuple.tupleExact _) (wpAny_newObj_type (wpAny_pure (wpAny_pure ⟨_, rfl, wpAny_pure h⟩)) htake))
    | exact wpAny_bind (wpAny_bind (m := Builtin.Tuple.tupleExact _) (wpAny_newObj_type (wpAny_pure ⟨_, rfl, wpAny_pure h⟩) htake))
end
end HT
namespace L2
open PySem PySem.Spec PyProof.Rows
noncomputable abbrev TO := St → Hp → (Option Int → Hp → Prop) → Prop
def PO (X : Cx) (e : Option Expr) (t : TO) : Prop :=
  ∀ (pins : List (Addr × Obj)) (s : Shared) (σ : St) (H : Hp) (Q : Option Int → Hp → Prop), Inv X pins σ H s → t σ H Q →
    wpAny (model X.prog X.w) X.A (evalPart e X.env) (fun u s' => ∃ o H', Inv X pins σ H' s' ∧ IsPart u o ∧ Q o H') X.xe s
def tNoPart : TO := fun _ H Q => Q none H
def tPart (t : TE) : TO := fun σ H Q => t σ H fun x H1 => ∃ i, x = .int i ∧ Q (some i) H1
section
variable {X : Cx} {e : Expr} {te : TE} {lo hi : Option Expr} {tl th : TO} {pos p2 : Pos}
theorem po_none : PO X none tNoPart := by
  intro pins s σ H Q I h
  rw [evalPart_none]
  exact wpAny_pure ⟨none, H, I, .none, h⟩
theorem po_some (h : PE X e te) : PO X (some e) (tPart te) := by
  intro pins s σ H Q I hw
  rw [evalPart_some]
  refine thn (h pins s σ H _ I hw) fun u s1 ⟨x, H1, I1, r1, q1⟩ => ?_
  obtain ⟨i, rfl, q⟩ := q1
  obtain ⟨t, rfl⟩ := r1
  exact ⟨some i, H1, I1, .int i t, q⟩
def SlR (X : Cx) (r : V → Option Int → Option Int → Hp → VK → Prop) : Prop :=
  ∀ (pins : List (Addr × Obj)) (s : Shared) (σ : St) (H : Hp) (x : V) (v vl vu : Value) (lo hi : Option Int) (sl : Addr) (Q : VK), Inv X pins σ H s → RelV x v → s.heap.IsSliceOf sl vl vu .none → IsPart vl lo → IsPart vu hi → r x lo hi H Q →
    ∃ T id, typeLookup (.type T) "__getitem__" = pure (some (.builtin id)) ∧ s.TypeIs v T ∧ wpAny (model X.prog X.w) X.A (getItem v (.ref sl)) (EP X pins σ Q) X.xe s
theorem SlR.or {r r' : V → Option Int → Option Int → Hp → VK → Prop} (h : SlR X r) (h' : SlR X r') : SlR X (fun x lo hi H Q => r x lo hi H Q ∨ r' x lo hi H Q) := by
  intro pins s σ H x v vl vu lo hi sl Q I rx hs pl pu q
  rcases q with q | q
  · exact h pins s σ H x v vl vu lo hi sl Q I rx hs pl pu q
  · exact h' pins s σ H x v vl vu lo hi sl Q I rx hs pl pu q
def tSl (r : V → Option Int → Option Int → Hp → VK → Prop) (te : TE) (tl th : TO) : TE := fun σ H Q => te σ H fun x H1 => tl σ H1 fun l H2 => th σ H2 fun u H3 => r x l u H3 Q
theorem pe_slice {r : V → Option Int → Option Int → Hp → VK → Prop} (hr : SlR X r) (he : PE X e te) (hl : PO X lo tl) (hu : PO X hi th) : PE X (.Subscript e (.Slice lo hi none p2) pos) (tSl r te tl th) := by
  intro pins s σ H Q I h
  refine Subscript_ (thn (he pins s σ H _ I h) fun v s1 ⟨x, H1, I1, r1, q1⟩ => ?_)
  refine wpAny_Slice (thn (hl pins s1 σ H1 _ I1 q1) fun vl s2 ⟨l, H2, I2, pl, q2⟩ => thn (hu pins s2 σ H2 _ I2 q2) fun vu s3 ⟨u, H3, I3, pu, q3⟩ => ?_)
  rw [evalPart_none]
  refine wpAny_pure ?_
  have I4 : Inv X pins σ H3 { s3 with heap := s3.heap.push { cls := .type "slice", data := .fields #[vl, vu, .none] } } := I3.kept (t' := s3.toks) fun b ob q => Heap.get?_push_of_some _ q
  obtain ⟨T, id, hT, ht, hg⟩ := hr pins { s3 with heap := s3.heap.push { cls := .type "slice", data := .fields #[vl, vu, .none] } } σ H3 x v vl vu l u s3.heap.objs.size Q I4 r1 (Heap.IsSliceOf.new ..) pl pu q3
  show wpAny (model X.prog X.w) X.A (subscriptTail e (.Slice lo hi none p2) v (.ref s3.heap.objs.size)) (EP X pins σ Q) X.xe { s3 with heap := s3.heap.push { cls := .type "slice", data := .fields #[vl, vu, .none] } }
  exact tail_any (ops := [.ref s3.heap.objs.size, v]) ht hT hg (by with_unfolding_all rfl)
noncomputable def cutV (xs : List V) (lo hi : Option Int) : List V := (xs.drop (HT.sIx xs.length 0 lo)).take (HT.sIx xs.length xs.length hi - HT.sIx xs.length 0 lo)
theorem cutV_length (xs : List V) (lo hi : Option Int) : (cutV xs lo hi).length ≤ xs.length := by
  unfold cutV
  rw [List.length_take, List.length_drop]
  omega
def rSlT (K : PySem.W.Frag) : V → Option Int → Option Int → Hp → VK → Prop := fun x lo hi H Q => ∃ a xs, x = .ref a ∧ SqT K H a xs ∧
  ¬ (HT.sIx xs.length 0 lo = 0 ∧ HT.sIx xs.length xs.length hi = xs.length) ∧ ∀ p, H p = none → Q (.ref p) (upd H p (.tup (cutV xs lo hi)))
theorem sl_tup : SlR X (rSlT X.K) := by
  intro pins s σ H x v vl vu lo hi sl Q I rx hs pl pu h
  obtain ⟨a, xs, rfl, hx, hw, q⟩ := h
  cases rx
  obtain ⟨its, r, ht, hz⟩ := I.tuple hx
  have hlen : its.toArray.size = xs.length := by rw [List.size_toArray]; exact r.length.symm
  refine ⟨"tuple", _, PyProof.Rows.slot_tuple_getitem.lookup, ht.typeIs, ?_⟩
  refine HT.getItem_tuple_cut ht hs pl pu (by rw [hlen]; exact hw) ?_ (by rw [hlen]; exact hz)
  rw [hlen]
  refine ⟨.ref s.heap.objs.size, _, I.laid (t' := s.toks) (o := .tup (cutV xs lo hi)) (fun b ob q => Heap.get?_push_of_some _ q) (Nat.le_refl _) ?_, rfl, q _ (I.hok.fresh (Nat.le_refl _))⟩
  exact ⟨Nat.le_trans (cutV_length xs lo hi) hz, _, (r.drop (HT.sIx xs.length 0 lo)).take (HT.sIx xs.length xs.length hi - HT.sIx xs.length 0 lo), IsTupD.new _ _⟩
noncomputable def rCatT (K : PySem.W.Frag) : R2 := fun x y H Q => ∃ a b xs ys, x = .ref a ∧ y = .ref b ∧ SqT K H a xs ∧ SqT K H b ys ∧ xs ≠ [] ∧ xs.length + ys.length ≤ sizeLine ∧
  (ys = [] → Q (.ref a) H) ∧ (ys ≠ [] → ∀ p, H p = none → Q (.ref p) (upd H p (.tup (xs ++ ys))))
theorem Vals.nil_iff {xs : List V} {us : List Value} (r : Vals xs us) : us = [] ↔ xs = [] := by
  cases r with
  | nil => simp
  | cons _ _ => simp
theorem op_catT : OpR X (binaryOp .Add) (rCatT X.K) := by
  intro pins s σ H x y v u Q I rx ry h
  obtain ⟨a, b, xs, ys, rfl, rfl, ha, hb, hx, hz, q1, q2⟩ := h
  cases rx
  cases ry
  obtain ⟨its, r1, p1, _⟩ := I.tuple ha
  obtain ⟨its2, r2, p2, _⟩ := I.tuple hb
  refine HT.cat_tup p1 p2 (fun z => hx (r1.nil_iff.mp z)) (fun z => ⟨.ref a, H, I, rfl, q1 (r2.nil_iff.mp z)⟩) (fun z => ?_) (by rw [← r1.length, ← r2.length]; exact hz)
  refine ⟨.ref s.heap.objs.size, _, I.laid (t' := s.toks) (o := .tup (xs ++ ys)) (fun b ob q => Heap.get?_push_of_some _ q) (Nat.le_refl _) ?_, rfl, q2 (fun w => z (r2.nil_iff.mpr w)) _ (I.hok.fresh (Nat.le_refl _))⟩
  exact ⟨by rw [List.length_append]; exact hz, _, r1.append r2, IsTupD.new _ _⟩
end
end L2
namespace L2
open PySem PySem.Spec PyProof.Rows
noncomputable def ixN (n : Nat) (i : Int) : Option Nat := if 0 ≤ i then (if i < n then some i.toNat else none) else if -(n : Int) ≤ i then some (i + n).toNat else none
noncomputable def atI {α : Type} (xs : List α) (i : Int) : Option α := (ixN xs.length i).bind fun j => xs[j]?
theorem ixN_seq {n : Nat} {i : Int} {j : Nat} (h : ixN n i = some j) : seqIndex? i n = some j ∧ j < n ∧ -(n : Int) ≤ i ∧ i < n := by
  unfold ixN at h
  by_cases h0 : 0 ≤ i
  · rw [if_pos h0] at h
    by_cases h1 : i < n
    · rw [if_pos h1] at h
      have e : i.toNat = j := Option.some.inj h
      exact ⟨by rw [seqIndex_of h0 h1, e], by omega, by omega, h1⟩
    · rw [if_neg h1] at h; cases h
  · rw [if_neg h0] at h
    by_cases h1 : -(n : Int) ≤ i
    · rw [if_pos h1] at h
      have e : (i + n).toNat = j := Option.some.inj h
      exact ⟨by rw [seqIndex_neg (by omega) h1, e], by omega, h1, by omega⟩
    · rw [if_neg h1] at h; cases h
theorem atI_get {α : Type} {xs : List α} {i : Int} {v : α} (h : atI xs i = some v) : ∃ j, seqIndex? i xs.length = some j ∧ xs[j]? = some v ∧ j < xs.length ∧ -(xs.length : Int) ≤ i ∧ i < xs.length := by
  unfold atI at h
  cases e : ixN xs.length i with
  | none => rw [e] at h; cases h
  | some j =>
    rw [e] at h
    obtain ⟨h1, h2, h3, h4⟩ := ixN_seq e
    exact ⟨j, h1, h, h2, h3, h4⟩
def PlainIx (b : Expr) : Prop := ∀ o i, subscripted b false o i = operate [o, i] (getItem o i)
def IxR (X : Cx) (r : R2) : Prop :=
  ∀ (value slice : Expr) (pins : List (Addr × Obj)) (s : Shared) (σ : St) (H : Hp) (x y : V) (v u : Value) (Q : VK), Inv X pins σ H s → RelV x v → RelV y u → r x y H Q →
    subscripted slice false v u = operate [v, u] (getItem v u) → wpAny (model X.prog X.w) X.A (subscriptTail value slice v u) (EP X pins σ Q) X.xe s
def MtR (X : Cx) (id : String) (r : V → List V → Hp → VK → Prop) : Prop :=
  ∀ (pins : List (Addr × Obj)) (s : Shared) (σ : St) (H : Hp) (x : V) (xs : List V) (v : Value) (us : List Value) (Q : VK), Inv X pins σ H s → RelV x v → Vals xs us → r x xs H Q →
    wpAny (model X.prog X.w) X.A (call (.builtin id) (v :: us)) (EP X pins σ Q) X.xe s
section
variable {X : Cx} {a b : Expr} {ta tb : TE} {pos : Pos}
theorem IxR.or {r r' : R2} (h : IxR X r) (h' : IxR X r') : IxR X (fun x y H Q => r x y H Q ∨ r' x y H Q) := by
  intro value slice pins s σ H x y v u Q I rx ry q hs
  rcases q with q | q
  · exact h value slice pins s σ H x y v u Q I rx ry q hs
  · exact h' value slice pins s σ H x y v u Q I rx ry q hs
theorem MtR.or {id : String} {r r' : V → List V → Hp → VK → Prop} (h : MtR X id r) (h' : MtR X id r') : MtR X id (fun x xs H Q => r x xs H Q ∨ r' x xs H Q) := by
  intro pins s σ H x xs v us Q I rx rs q
  rcases q with q | q
  · exact h pins s σ H x xs v us Q I rx rs q
  · exact h' pins s σ H x xs v us Q I rx rs q
theorem pe_ix {r : R2} (hr : IxR X r) (ha : PE X a ta) (hb : PE X b tb) (hs : PlainIx b) : PE X (.Subscript a b pos) (tOp r ta tb) := by
  intro pins s σ H Q I h
  exact Subscript_ (binT ha hb I h fun v u s2 x y H2 I2 rx ry q => hr a b pins s2 σ H2 x y v u Q I2 rx ry q (hs _ _))
noncomputable def rIxL (K : PySem.W.Frag) : R2 := fun x y H Q => ∃ p xs i v, x = .ref p ∧ y = .int i ∧ SqL K H p xs ∧ atI xs i = some v ∧ Q v H
noncomputable def rIxT (K : PySem.W.Frag) : R2 := fun x y H Q => ∃ p xs i v, x = .ref p ∧ y = .int i ∧ SqT K H p xs ∧ atI xs i = some v ∧ Q v H
noncomputable def rIxS : R2 := fun x y H Q => ∃ z i c, x = .str z ∧ y = .int i ∧ z.length ≤ sizeLine ∧ atI z.cps.toList i = some c ∧ Q (.str ⟨#[c]⟩) H
theorem ix_list : IxR X (rIxL X.K) := by
  intro value slice pins s σ H x y v u Q I rx ry h hs
  obtain ⟨p, xs, i, z, rfl, rfl, hq, he, q⟩ := h
  cases rx
  obtain ⟨t, rfl⟩ := ry
  obtain ⟨its, r, pl, hz⟩ := I.list hq
  obtain ⟨j, h1, h2, h3, h4, h5⟩ := atI_get he
  obtain ⟨w, ew, rw'⟩ := r.get h2
  have hl := r.length
  have hn := line63
  have fin : EP X pins σ Q w s := ⟨z, H, I, rw', q⟩
  by_cases h0 : 0 ≤ i
  · have hj : i.toNat = j := by
      rw [seqIndex_of h0 h5] at h1
      exact Option.some.inj h1
    exact item_listR pl.isList h0 (by omega) (by rw [hj]; simpa using ew) fin hs
  · have hj : (i + (its.toArray.size : Int)).toNat = j := by
      rw [seqIndex_neg (by omega) h4] at h1
      rw [List.size_toArray, ← hl]
      exact Option.some.inj h1
    exact subscriptTail_builtinR (x := w) pl.isList.typeIs slot_list_getitem.lookup
      (wpAny_getItem_list_neg (Q := fun r s' => r = w ∧ EP X pins σ Q r s') pl.isList (by omega) (by rw [List.size_toArray] <;> omega) (by omega) (by rw [hj]; simpa using ew) ⟨rfl, fin⟩) hs
theorem ix_tup : IxR X (rIxT X.K) := by
  intro value slice pins s σ H x y v u Q I rx ry h hs
  obtain ⟨p, xs, i, z, rfl, rfl, hq, he, q⟩ := h
  cases rx
  obtain ⟨t, rfl⟩ := ry
  obtain ⟨its, r, pl, hz⟩ := I.tuple hq
  obtain ⟨j, h1, h2, h3, h4, h5⟩ := atI_get he
  obtain ⟨w, ew, rw'⟩ := r.get h2
  have hl := r.length
  have hn := line63
  have fin : EP X pins σ Q w s := ⟨z, H, I, rw', q⟩
  exact subscriptTail_builtinR (x := w) pl.typeIs slot_tuple_getitem.lookup
    (getItem_tuple (j := j) (Q := fun r s' => r = w ∧ EP X pins σ Q r s') pl (by omega) (by omega) (by rw [List.size_toArray, ← hl]; exact h1) (by simpa using ew) ⟨rfl, fin⟩) hs
theorem ix_str : IxR X rIxS := by
  intro value slice pins s σ H x y v u Q I rx ry h hs
  obtain ⟨z, i, c, rfl, rfl, hz, he, q⟩ := h
  obtain ⟨t, rfl⟩ := rx
  obtain ⟨t', rfl⟩ := ry
  obtain ⟨j, h1, h2, h3, h4, h5⟩ := atI_get he
  have hl : z.cps.toList.length = z.length := by simp [Str.length]
  rw [hl] at h1 h4 h5
  have hn := line63
  exact tail_any (typeIs_str s z t) slot_str_getitem.lookup (getItem_str (c := c) (by
    have e1 : decide (i < -(2 ^ 63 : Int)) = false := decide_eq_false (by omega)
    have e2 : decide (i ≥ 2 ^ 63) = false := decide_eq_false (by omega)
    rw [e1, e2, Bool.or_false]) (by rw [h1]; simpa using h2) ⟨.str ⟨#[c]⟩, H, I.tok _, ⟨_, rfl⟩, q⟩) hs
noncomputable def rIx (K : PySem.W.Frag) : R2 := fun x y H Q => rIxL K x y H Q ∨ rIxT K x y H Q ∨ rIxS x y H Q
theorem ix_seq : IxR X (rIx X.K) := ix_list.or (ix_tup.or ix_str)
theorem mapSeq_set (its : List Value) (n j : Nat) (u : Value) : Obj.mapSeq (·.setIfInBounds j u) { cls := .type "list", data := .seq its.toArray n } = { cls := .type "list", data := .seq (its.set j u).toArray n } := by
  simp [Obj.mapSeq]
theorem Inv.lst {pins : List (Addr × Obj)} {σ : St} {H : Hp} {s : Shared} {p : Addr} {xs : List V} (I : Inv X pins σ H s) (h : H p = some (.lst xs)) :
    ∃ (its : List Value) (n : Nat), Vals xs its ∧ s.heap.get? p = some { cls := .type "list", data := .seq its.toArray n } ∧ xs.length ≤ sizeLine := by
  obtain ⟨z, its, n, r, e⟩ := I.hok p _ h
  exact ⟨its, n, r, e, z⟩
theorem Inv.lstUpd {pins : List (Addr × Obj)} {σ : St} {H : Hp} {s : Shared} {p : Addr} {xs ys : List V} {its its' : List Value} {n n' : Nat} {f : Obj → Obj} (I : Inv X pins σ H s) (h : H p = some (.lst xs))
    (ho : s.heap.get? p = some { cls := .type "list", data := .seq its.toArray n }) (hf : f { cls := .type "list", data := .seq its.toArray n } = { cls := .type "list", data := .seq its'.toArray n' }) (r : Vals ys its') (hz : ys.length ≤ sizeLine) (t : Nat) :
    Inv X pins σ (upd H p (.lst ys)) { s with heap := s.heap.update p f, toks := t } := by
  have e : (s.heap.update p f).get? p = some { cls := .type "list", data := .seq its'.toArray n' } := by
    rw [Heap.get?_update_self f ho (by rw [hf] <;> rfl), hf]
  refine I.write (x := p) (e := p) (by rw [h]; trivial) (.inl rfl) (fun b u hb q => (Heap.get?_update_other _ _ (Ne.symm hb)).trans q) ⟨_, e⟩ ?_
  exact ⟨hz, its', n', r, e⟩
def rSetL : V → V → V → Hp → (Hp → Prop) → Prop := fun o i v H Q => ∃ p xs k j, o = .ref p ∧ i = .int k ∧ H p = some (.lst xs) ∧ ixN xs.length k = some j ∧ Q (upd H p (.lst (xs.set j v)))
theorem set_list : PSet X rSetL := by
  intro pins s σ H o i v ov iv u Q I ro ri rv h
  obtain ⟨p, xs, k, j, rfl, rfl, hp, hj, q⟩ := h
  cases ro
  obtain ⟨t, rfl⟩ := ri
  obtain ⟨its, n, r, ho, hz⟩ := I.lst hp
  obtain ⟨h1, h2, h3, h4⟩ := ixN_seq hj
  have hl := r.length
  have hn := line63
  have I' : Inv X pins σ (upd H p (.lst (xs.set j v))) { s with heap := s.heap.update p (Obj.mapSeq (·.setIfInBounds j u)) } :=
    I.lstUpd hp ho (mapSeq_set its n j u) (r.set rv j) (by rw [List.length_set]; exact hz) s.toks
  by_cases h0 : 0 ≤ k
  · have hk : k.toNat = j := by
      rw [seqIndex_of h0 h4] at h1
      exact Option.some.inj h1
    exact PySem.W.ki_setAt ho h0 (by omega) (by rw [List.size_toArray, ← hl]; exact h4) (by rw [hk]; exact ⟨_, I', q⟩)
  · have hk : (k + (its.toArray.size : Int)).toNat = j := by
      rw [seqIndex_neg (by omega) h3] at h1
      rw [List.size_toArray, ← hl]
      exact Option.some.inj h1
    exact PySem.W.ki_setBack ho (by omega) (by rw [List.size_toArray, ← hl]; exact h3) (by omega) (by rw [hk]; exact ⟨_, I', q⟩)
theorem slice_bounds (lo hi : Option Int) (n : Nat) : (sliceBounds lo hi none n).1 = ((HT.sIx n 0 lo : Nat) : Int) ∧ (sliceBounds lo hi none n).2.1 = ((HT.sIx n n hi : Nat) : Int) ∧ (sliceBounds lo hi none n).2.2 = 1 := by
  refine ⟨?_, ?_, rfl⟩
  · cases lo with
    | none => simp [sliceBounds, HT.sIx]
    | some i =>
      simp only [sliceBounds, HT.sIx, Option.getD_none, show (1 : Int) > 0 by decide, if_true]
      by_cases h : i < 0
      · simp only [h, if_true] <;> omega
      · simp only [h, if_false] <;> omega
  · cases hi with
    | none => simp [sliceBounds, HT.sIx]
    | some i =>
      simp only [sliceBounds, HT.sIx, Option.getD_none, show (1 : Int) > 0 by decide, if_true]
      by_cases h : i < 0
      · simp only [h, if_true] <;> omega
      · simp only [h, if_false] <;> omega
theorem slicePick_cut (its : List Value) (lo hi : Option Int) : slicePick its.toArray lo hi none = ((its.drop (HT.sIx its.length 0 lo)).take (HT.sIx its.length its.length hi - HT.sIx its.length 0 lo)).toArray := by
  obtain ⟨h1, h2, h3⟩ := slice_bounds lo hi its.toArray.size
  unfold slicePick
  rw [h1, h2, h3]
  simp only [sliceRange_one, pick_run, List.size_toArray] <;> rfl
def rSlL (K : PySem.W.Frag) : V → Option Int → Option Int → Hp → VK → Prop := fun x lo hi H Q => ∃ a xs, x = .ref a ∧ SqL K H a xs ∧ ∀ p, H p = none → Q (.ref p) (upd H p (.lst (cutV xs lo hi)))
theorem sl_list : SlR X (rSlL X.K) := by
  intro pins s σ H x v vl vu lo hi sl Q I rx hs pl pu h
  obtain ⟨a, xs, rfl, hx, q⟩ := h
  cases rx
  obtain ⟨its, r, ht, hz⟩ := I.list hx
  have hlen := r.length
  refine ⟨"list", _, slot_list_getitem.lookup, ht.isList.typeIs, ?_⟩
  refine wpAny_getItem_list_slice ht.isList hs pl pu .none (by simp) ?_ (by rw [List.size_toArray] <;> omega)
  rw [slicePick_cut, ← hlen]
  refine ⟨.ref s.heap.objs.size, _, I.laid (t' := s.toks) (o := .lst (cutV xs lo hi)) (fun b ob q => Heap.get?_push_of_some _ q) (Nat.le_refl _) ?_, rfl, q _ (I.hok.fresh (Nat.le_refl _))⟩
  exact ⟨Nat.le_trans (cutV_length xs lo hi) hz, _, 0, (r.drop (HT.sIx xs.length 0 lo)).take (HT.sIx xs.length xs.length hi - HT.sIx xs.length 0 lo), Heap.get?_push_size _ rfl⟩
theorem call_len_seq : CallR X (.builtin "len") (fun xs H Q => ∃ p ys, xs = [.ref p] ∧ (SqL X.K H p ys ∨ SqT X.K H p ys) ∧ Q (.int ys.length) H) := by
  intro pins s σ H xs us Q I r h
  obtain ⟨p, ys, rfl, hq, q⟩ := h
  obtain ⟨u, rfl, rx⟩ := vals1 r
  cases rx
  have hn := line63
  rcases hq with hq | hq
  · obtain ⟨its, r', pl, hz⟩ := I.list hq
    have hlen := r'.length
    exact Calls.call_len_list pl.isList (by simp only [List.size_toArray] <;> omega) ⟨.int ys.length, H, I.tok _, ⟨s.toks + 1, by rw [List.size_toArray, hlen]⟩, q⟩
  · obtain ⟨its, r', pl, hz⟩ := I.tuple hq
    have hlen := r'.length
    exact len_tuple pl (by simp only [List.size_toArray] <;> omega) ⟨.int ys.length, H, I.tok _, ⟨s.toks + 1, by rw [List.size_toArray, hlen]⟩, q⟩
theorem CallR.or {f : Value} {r r' : List V → Hp → VK → Prop} (h : CallR X f r) (h' : CallR X f r') : CallR X f (fun xs H Q => r xs H Q ∨ r' xs H Q) := by
  intro pins s σ H xs us Q I rs q
  rcases q with q | q
  · exact h pins s σ H xs us Q I rs q
  · exact h' pins s σ H xs us Q I rs q
theorem call_list_of : CallR X (.type "list") (fun xs H Q => ∃ p ys, xs = [.ref p] ∧ (SqL X.K H p ys ∨ SqT X.K H p ys) ∧ ∀ l, H l = none → Q (.ref l) (upd H l (.lst ys))) := by
  intro pins s σ H xs us Q I r h
  obtain ⟨p, ys, rfl, hq, q⟩ := h
  obtain ⟨u, rfl, rx⟩ := vals1 r
  cases rx
  have fin : ∀ (its : List Value), Vals ys its → ys.length ≤ sizeLine → ∀ (h' : Heap) (c' : Nat), (∀ b o', s.heap.get? b = some o' → h'.get? b = some o') →
      h'.get? s.heap.objs.size = some { cls := .type "list", dict := none, data := .seq its.toArray c', slots := #[] } → EP X pins σ Q (.ref s.heap.objs.size) { s with heap := h' } := fun its r' hz h' c' kp e =>
    ⟨.ref s.heap.objs.size, _, I.laid (t' := s.toks) kp (Nat.le_refl _) (show ObjOk X.prog X.w _ h' _ (.lst ys) from ⟨hz, its, c', r', e⟩), rfl, q _ (I.hok.fresh (Nat.le_refl _))⟩
  rcases hq with hq | hq
  · obtain ⟨its, r', pl, hz⟩ := I.list hq
    have hlen := r'.length
    obtain ⟨o, ho, hc, n, hd⟩ := pl.isList
    exact call_list_seq p (.inl rfl) ho hc hd (fun h' c' kp e => fin its r' hz h' c' kp e) (by simp only [List.size_toArray] <;> omega)
  · obtain ⟨its, r', pl, hz⟩ := I.tuple hq
    have hlen := r'.length
    obtain ⟨o, ho, hc, n, hd⟩ := pl
    exact call_list_seq p (.inr rfl) ho hc hd (fun h' c' kp e => fin its r' hz h' c' kp e) (by simp only [List.size_toArray] <;> omega)
theorem call_tuple_of : CallR X (.type "tuple") (fun xs H Q => ∃ p ys, xs = [.ref p] ∧ ((SqL X.K H p ys ∧ ∀ l, H l = none → Q (.ref l) (upd H l (.tup ys))) ∨ (SqT X.K H p ys ∧ Q (.ref p) H))) := by
  intro pins s σ H xs us Q I r h
  obtain ⟨p, ys, rfl, h⟩ := h
  obtain ⟨u, rfl, rx⟩ := vals1 r
  cases rx
  rcases h with ⟨hq, q⟩ | ⟨hq, q⟩
  · obtain ⟨its, r', pl, hz⟩ := I.list hq
    have hlen := r'.length
    refine call_tuple_list pl.isList (fun h' kp => ?_) (by simp only [List.size_toArray] <;> omega)
    have I1 : Inv X pins σ H { s with heap := h' } := I.kept (t' := s.toks) kp
    have I2 : Inv X pins σ (upd H h'.objs.size (.tup ys)) { s with heap := h'.push { cls := .type "tuple", data := .seq its.toArray } } :=
      I1.laid (t' := s.toks) (fun b o e => Heap.get?_push_of_some _ e) (Nat.le_refl _) (show ObjOk X.prog X.w _ _ _ (.tup ys) from ⟨hz, its, r', IsTupD.new _ _⟩)
    exact ⟨.ref h'.objs.size, _, I2, rfl, q _ (I1.hok.fresh (Nat.le_refl _))⟩
  · obtain ⟨its, r', pl, hz⟩ := I.tuple hq
    exact call_tuple_same pl ⟨.ref p, H, I, rfl, q⟩
def tyV (K : PySem.W.Frag) (T : String) (x : V) (H : Hp) : Prop := match x with
  | .str _ => T = "str"
  | .int _ => T = "int"
  | .ref p => (T = "list" ∧ ∃ xs, SqL K H p xs) ∨ (T = "tuple" ∧ ∃ o, K.lookup p = some o ∧ o.cls = .type "tuple" ∧ o.dict = none) ∨
      (T = "dict" ∧ ((∃ kvs, H p = some (.dK kvs)) ∨ ∃ kvs, H p = some (.dT kvs))) ∨ (T = "set" ∧ ∃ S n, H p = some (.set S n))
  | _ => False
theorem tyV_is {pins : List (Addr × Obj)} {σ : St} {H : Hp} {s : Shared} {T : String} {x : V} {v : Value} (I : Inv X pins σ H s) (r : RelV x v) (ty : tyV X.K T x H) :
    s.TypeIs v T ∧ ∀ a, v = .ref a → ∃ ob, s.heap.get? a = some ob ∧ ob.dict = none := by
  cases x with
  | str z =>
    obtain ⟨t, rfl⟩ := r
    cases (show T = "str" from ty)
    exact ⟨typeIs_str s z t, fun _ e => nomatch e⟩
  | int i =>
    obtain ⟨t, rfl⟩ := r
    cases (show T = "int" from ty)
    exact ⟨typeIs_int s i t, fun _ e => nomatch e⟩
  | ref p =>
    cases r
    rcases ty with ⟨rfl, xs, hq⟩ | ⟨rfl, o, hk, hc, hd⟩ | ⟨rfl, hk⟩ | ⟨rfl, S, n, hk⟩
    · obtain ⟨its, _, pl, _⟩ := I.list hq
      refine ⟨pl.isList.typeIs, fun a e => ?_⟩
      cases e
      obtain ⟨o, n, e, c, hd, _⟩ := pl
      exact ⟨o, e, hd⟩
    · refine ⟨⟨o, I.kIn p o hk, hc⟩, fun a e => ?_⟩
      cases e
      exact ⟨o, I.kIn _ o hk, hd⟩
    · have z : ∃ o, s.heap.get? p = some o ∧ o.ExactDict := by
        rcases hk with ⟨kvs, hk⟩ | ⟨kvs, hk⟩
        · obtain ⟨_, _, _, _, o, _, _, e, ex, _⟩ := I.hok p _ hk
          exact ⟨o, e, ex⟩
        · obtain ⟨_, _, _, _, o, _, _, e, ex, _⟩ := I.hok p _ hk
          exact ⟨o, e, ex⟩
      obtain ⟨o, e, ex⟩ := z
      refine ⟨⟨o, e, ex.1⟩, fun a e2 => ?_⟩
      cases e2
      exact ⟨o, e, ex.2.1⟩
    · obtain ⟨o, _, _, _, e, ex, _⟩ := I.hok p _ hk
      refine ⟨⟨o, e, ex.1⟩, fun a e2 => ?_⟩
      cases e2
      exact ⟨o, e, ex.2.1⟩
  | _ => exact False.elim ty
def tBM (K : PySem.W.Frag) (T : String) (r : V → List V → Hp → VK → Prop) (to : TE) (t : TA) : TE := fun σ H Q => to σ H fun x H1 => tyV K T x H1 ∧ t σ H1 fun xs H2 => r x xs H2 Q
variable {o e : Expr} {es : List Expr} {to : TE} {t : TA} {name : Str} {apos cpos : Pos} {T id : String} {r : V → List V → Hp → VK → Prop}
theorem pe_bm (pa : PlainAttrs T) (slot : Slot T name id) (hty : typeOf (.builtin id) = pure (.type "method_descriptor")) (hm : MtR X id r) (ho : PE X o to) (ha : PA X (e :: es) t)
    (hbase : attributeBase o name X.env (eval o X.env) = eval o X.env := by rfl)
    (hfew : ((backTo cpos (starEach (e :: es) X.env)).all (fun x => !x.1) && (backToKw cpos (keywordEach [] X.env)).all (fun x => x.1.isSome)
      && decide ((e :: es).length + ([] : List Keyword).length + (if ([] : List Keyword).isEmpty then 0 else 1) < 30)) = true := by rfl)
    (hline : (apos.endLine == cpos.line) = true := by rfl) (hs : starEach (e :: es) X.env = (false, eval e X.env) :: starEach es X.env := by rfl) (hplain : (backTo cpos (starEach es X.env)).any (·.1) = false := by rfl) :
    PE X (.Call (.Attribute o name apos) (e :: es) [] cpos) (tBM X.K T r to t) := by
  intro pins s σ H Q I h
  refine wpAny_Call_method_late hbase hfew hline rfl (thn (ho pins s σ H _ I h) fun v s1 ⟨x, H1, I1, r1, ty, q1⟩ => ?_)
  obtain ⟨h1, h2⟩ := tyV_is I1 r1 ty
  refine ⟨T, id, pa, slot, hty, h1, h2, ?_⟩
  have hA := ha cpos pins s1 σ H1 _ I1 q1
  rw [hs] at hA ⊢
  refine Calls.callWith_builtin (by show (false || (backTo cpos (starEach es X.env)).any (·.1)) = false; rw [hplain] <;> rfl) (Calls.evalArgs_plain ?_)
  exact thn hA fun us s2 ⟨vs, H2, I2, r2, q2⟩ => hm pins s2 σ H2 x vs v us Q I2 r1 r2 q2
/- xs.append(e), list.index on a module's tuple .. are MtR facts of 06m -/
end
end L2
namespace L2
open PySem PySem.Spec PyProof.Rows
def MtM (X : Cx) (id : String) (r : V → List V → Hp → VK → Prop) : Prop :=
  ∀ (pins : List (Addr × Obj)) (s : Shared) (σ : St) (H : Hp) (x : V) (xs : List V) (v : Value) (us : List Value) (Q : VK), Inv X pins σ H s → RelV x v → Vals xs us → r x xs H Q →
    wpAny (model X.prog X.w) X.A (call (.builtin id) (v :: us)) (EP X pins σ Q) X.xe s
theorem Vals.one : ∀ {x : V} {us : List Value}, Vals [x] us → ∃ u, us = [u] ∧ RelV x u
  | _, _, .cons r .nil => ⟨_, rfl, r⟩
theorem Vals.two : ∀ {x y : V} {us : List Value}, Vals [x, y] us → ∃ u v, us = [u, v] ∧ RelV x u ∧ RelV y v
  | _, _, _, .cons r (.cons q .nil) => ⟨_, _, rfl, r, q⟩
theorem Vals.zero : ∀ {us : List Value}, Vals [] us → us = []
  | _, .nil => rfl
theorem Vals.eraseIdx : ∀ {xs : List V} {us : List Value} (i : Nat), Vals xs us → Vals (xs.eraseIdx i) (us.eraseIdx i)
  | _, _, _, .nil => .nil
  | _, _, 0, .cons _ t => t
  | _, _, i + 1, .cons r t => .cons r (Vals.eraseIdx i t)
theorem Vals.reverse {xs : List V} {us : List Value} (h : Vals xs us) : Vals xs.reverse us.reverse := by
  induction h with
  | nil => exact .nil
  | cons r t ih => rw [List.reverse_cons, List.reverse_cons]; exact Vals.append ih (.cons r .nil)
section
variable {X : Cx} {pins : List (Addr × Obj)} {σ : St} {H : Hp} {s : Shared} {l b : Addr} {xs ys zs : List V}
theorem Inv.lset {its its' : List Value} {n : Nat} {f : Array Value → Array Value} {t' : Nat} (I : Inv X pins σ H s) (hH : H l = some (.lst xs))
    (e : s.heap.get? l = some { cls := .type "list", data := .seq its.toArray n }) (hf : f its.toArray = its'.toArray) (hv : Vals ys its') (hz : ys.length ≤ sizeLine) :
    Inv X pins σ (upd H l (.lst ys)) { s with heap := s.heap.update l (Obj.mapSeq f), toks := t' } := by
  have q := PySem.IsL.update e f
  rw [hf] at q
  refine I.write (x := l) (e := l) (by rw [hH]; exact trivial) (.inl rfl) (fun b' u hb hu => (Heap.get?_update_other s.heap (Obj.mapSeq f) (Ne.symm hb)).trans hu) ⟨_, q⟩ ?_
  exact ⟨hz, its', _, hv, q⟩
theorem Inv.lnew {its : List Value} {t' : Nat} (I : Inv X pins σ H s) (hv : Vals ys its) (hz : ys.length ≤ sizeLine) :
    Inv X pins σ (upd H s.heap.objs.size (.lst ys)) { s with heap := s.heap.push { cls := .type "list", data := .seq its.toArray }, toks := t' } :=
  I.laid (fun _ _ q => Heap.get?_push_of_some _ q) (Nat.le_refl _) ⟨hz, its, 0, hv, Heap.get?_push_size _ rfl⟩
theorem Inv.fresh (I : Inv X pins σ H s) : H s.heap.objs.size = none := I.hok.fresh (Nat.le_refl _)
theorem Inv.lstM (I : Inv X pins σ H s) (hH : H l = some (.lst xs)) : xs.length ≤ sizeLine ∧ ∃ (its : List Value) (n : Nat), Vals xs its ∧ xs.length = its.length ∧ s.heap.get? l = some { cls := .type "list", data := .seq its.toArray n } := by
  obtain ⟨z, its, n, r, e⟩ := I.hok l _ hH
  exact ⟨z, its, n, r, r.length, e⟩
end
section
variable {X : Cx}
def rAppend : V → List V → Hp → VK → Prop := fun x vs H Q => ∃ l xs y, x = .ref l ∧ vs = [y] ∧ H l = some (.lst xs) ∧ xs.length < sizeLine ∧ Q .non (upd H l (.lst (xs ++ [y])))
theorem mt_append : MtM X "list.append" rAppend := by
  intro pins s σ H x vs v us Q I rx rv h
  obtain ⟨l, xs, y, rfl, rfl, hH, hz, q⟩ := h
  cases rx
  obtain ⟨u, rfl, ru⟩ := rv.one
  obtain ⟨z, its, n, r, hl, e⟩ := I.lstM hH
  refine call_meets F.slot_list_append ⟨_, e, rfl⟩ F.entry_list_append (F.args_list_append_2 _ _) (PySem.list_append l its.toArray n u (by rw [List.size_toArray]; omega)) ⟨e, ?_⟩
  refine ⟨.non, _, I.lset (its' := its ++ [u]) hH e (by simp) (r.append (.cons ru .nil)) ?_, rfl, q⟩
  rw [List.length_append, List.length_singleton]
  omega
noncomputable def rCat : R2 := fun x y H Q => ∃ l b xs zs, x = .ref l ∧ y = .ref b ∧ H l = some (.lst xs) ∧ H b = some (.lst zs) ∧ xs.length + zs.length ≤ sizeLine ∧ ∀ p, H p = none → Q (.ref p) (upd H p (.lst (xs ++ zs)))
theorem op_cat : OpR X (binaryOp .Add) rCat := by
  intro pins s σ H x y v u Q I rx ry h
  obtain ⟨l, b, xs, zs, rfl, rfl, hH, hB, hz, q⟩ := h
  cases rx
  cases ry
  obtain ⟨z, its, n, r, hl, e⟩ := I.lstM hH
  obtain ⟨z2, its2, n2, r2, hl2, e2⟩ := I.lstM hB
  refine PySem.P.add_list e e2 ?_ (by rw [List.size_toArray, List.size_toArray]; omega)
  have ea : its.toArray ++ its2.toArray = (its ++ its2).toArray := by simp
  rw [ea]
  exact ⟨.ref _, _, I.lnew (t' := s.toks) (r.append r2) (by rw [List.length_append]; omega), rfl, q _ I.fresh⟩
end
section
variable {prog : Program} {w : World} {A : Around} {E : Value → Shared → Prop} {s : Shared}
end
section
variable {X : Cx}
end
end L2
namespace L2
open PySem PySem.Spec PyProof.Rows
section
variable {κ : Type} [DecidableEq κ]
noncomputable def valV (kvs : List (κ × V)) (k : κ) : Option V := (kvs.find? fun kv => decide (kv.1 = k)).map (·.2)
noncomputable def putK (kvs : List (κ × V)) (k : κ) (v : V) : List (κ × V) :=
  if (kvs.any fun kv => decide (kv.1 = k)) = true then kvs.map (fun kv => if kv.1 = k then (kv.1, v) else kv) else kvs ++ [(k, v)]
noncomputable def dropK (kvs : List (κ × V)) (k : κ) : List (κ × V) := kvs.filter fun kv => decide (kv.1 ≠ k)
theorem valV_pos {p : κ × V} {r : List (κ × V)} {k : κ} (e : p.1 = k) : valV (p :: r) k = some p.2 := by simp [valV, List.find?_cons, e]
theorem valV_neg {p : κ × V} {r : List (κ × V)} {k : κ} (e : ¬ p.1 = k) : valV (p :: r) k = valV r k := by simp [valV, List.find?_cons, e]
theorem valV_any (k : κ) : ∀ kvs : List (κ × V), (kvs.any fun kv => decide (kv.1 = k)) = (valV kvs k).isSome
  | [] => rfl
  | p :: r => by
    rw [List.any_cons]
    by_cases e : p.1 = k
    · simp only [valV_pos e, decide_eq_true e, Bool.true_or, Option.isSome_some]
    · rw [valV_neg e, decide_eq_false e, Bool.false_or]; exact valV_any k r
theorem length_putK (kvs : List (κ × V)) (k : κ) (v : V) : (putK kvs k v).length ≤ kvs.length + 1 := by
  unfold putK
  split
  · rw [List.length_map]; omega
  · rw [List.length_append, List.length_cons, List.length_nil]; omega
theorem RelO.isSome_eq {o : Option V} {u : Option Value} (r : RelO o u) : o.isSome = u.isSome := by
  cases o with
  | none => cases u with
    | none => rfl
    | some _ => exact (show False from r).elim
  | some _ => cases u with
    | none => exact (show False from r).elim
    | some _ => rfl
theorem RelO.getD {o : Option V} {u : Option Value} {d : V} {d' : Value} (r : RelO o u) (rd : RelV d d') : RelV (o.getD d) (u.getD d') := by
  cases o with
  | none => cases u with
    | none => exact rd
    | some _ => exact (show False from r).elim
  | some _ => cases u with
    | none => exact (show False from r).elim
    | some _ => exact r
theorem KV.val {kvs : List (κ × V)} {vs : List (κ × Value)} (r : KV kvs vs) (k : κ) : RelO (valV kvs k) (valueAt vs k) := by
  unfold KV at r
  induction r with
  | nil => exact True.intro
  | @cons p q ps qs h t ih =>
    obtain ⟨h1, h2⟩ := h
    by_cases e : p.1 = k
    · have e' : q.1 = k := h1.symm.trans e
      have b : valueAt (q :: qs) k = some q.2 := by simp [valueAt, List.find?_cons, e']
      rw [valV_pos e, b]; exact h2
    · have e' : ¬ q.1 = k := fun z => e (h1.trans z)
      have b : valueAt (q :: qs) k = valueAt qs k := by simp [valueAt, List.find?_cons, e']
      rw [valV_neg e, b]; exact ih
theorem KV.any {kvs : List (κ × V)} {vs : List (κ × Value)} (r : KV kvs vs) (k : κ) : (kvs.any fun kv => decide (kv.1 = k)) = vs.any fun kv => decide (kv.1 = k) := by
  unfold KV at r
  induction r with
  | nil => rfl
  | cons h t ih => rw [List.any_cons, List.any_cons, ih, h.1]
theorem KV.repl {kvs : List (κ × V)} {vs : List (κ × Value)} (r : KV kvs vs) (k : κ) {y : V} {u : Value} (ry : RelV y u) :
    KV (kvs.map fun kv => if kv.1 = k then (kv.1, y) else kv) (vs.map fun kv => if kv.1 = k then (kv.1, u) else kv) := by
  unfold KV at r ⊢
  induction r with
  | nil => exact .nil
  | @cons p q ps qs h t ih =>
    rw [List.map_cons, List.map_cons]
    refine .cons ?_ ih
    obtain ⟨h1, h2⟩ := h
    by_cases e : p.1 = k
    · rw [if_pos e, if_pos (h1.symm.trans e)]; exact ⟨h1, ry⟩
    · rw [if_neg e, if_neg (fun z => e (h1.trans z))]; exact ⟨h1, h2⟩
theorem KV.put {kvs : List (κ × V)} {vs : List (κ × Value)} (r : KV kvs vs) (k : κ) {y : V} {u : Value} (ry : RelV y u) : KV (putK kvs k y) (stored vs k u) := by
  unfold putK stored
  rw [r.any k]
  by_cases e : (vs.any fun kv => decide (kv.1 = k)) = true
  · rw [if_pos e, if_pos e]; exact r.repl k ry
  · rw [if_neg e, if_neg e]; exact Paired.snoc r ⟨rfl, ry⟩
theorem KV.drop {kvs : List (κ × V)} {vs : List (κ × Value)} (r : KV kvs vs) (k : κ) : KV (dropK kvs k) (without vs k) := by
  unfold KV at r ⊢
  unfold dropK without
  induction r with
  | nil => exact .nil
  | @cons p q ps qs h t ih =>
    obtain ⟨h1, h2⟩ := h
    rw [List.filter_cons, List.filter_cons]
    by_cases e : p.1 = k
    · have a : ¬ decide (p.1 ≠ k) = true := by simp [e]
      have b : ¬ decide (q.1 ≠ k) = true := by simp [h1.symm.trans e]
      rw [if_neg a, if_neg b]; exact ih
    · have e' : ¬ q.1 = k := fun z => e (h1.trans z)
      have a : decide (p.1 ≠ k) = true := by simp [e]
      have b : decide (q.1 ≠ k) = true := by simp [e']
      rw [if_pos a, if_pos b]; exact .cons ⟨h1, h2⟩ ih
theorem KV.keys {kvs : List (κ × V)} {vs : List (κ × Value)} (r : KV kvs vs) : kvs.map (·.1) = vs.map (·.1) := by
  unfold KV at r
  induction r with
  | nil => rfl
  | cons h t ih => rw [List.map_cons, List.map_cons, ih, h.1]
theorem KV.length {kvs : List (κ × V)} {vs : List (κ × Value)} (r : KV kvs vs) : kvs.length = vs.length := Paired.length r
end
theorem kV_is {P : Program} {w : World} {k : Key} {u : Value} (r : RelV (kV k) u) : (mixKind P w).is k u = true := by
  cases k with
  | inl i => obtain ⟨t, e⟩ := (show ∃ t, u = Value.int i t from r); subst e; exact mixKind_int P w i t
  | inr x => obtain ⟨t, e⟩ := (show ∃ t, u = Value.str x t from r); subst e; exact mixKind_str P w x t
theorem items_are {P : Program} {w : World} : ∀ {ks : List Key} {us : List Value}, Vals (ks.map kV) us → ItemsAre (mixKind P w) ks us
  | [], _, r => by rw [List.map_nil] at r; cases r; exact .nil
  | k :: ks, _, r => by
    rw [List.map_cons] at r
    cases r with
    | cons h t => exact .cons (kV_is h) (items_are t)
abbrev KT (H : Hp) : List (List Key × V) → List (List Key × Addr × Value) → Prop := Paired fun p q => p.1 = q.1 ∧ H q.2.1 = some (.tup (p.1.map kV)) ∧ RelV p.2 q.2.2
theorem KT.val {H : Hp} {kvs : List (List Key × V)} {xs : List (List Key × Addr × Value)} (r : KT H kvs xs) (k : List Key) : RelO (valV kvs k) ((atKey xs k).map (·.2)) := by
  induction r with
  | nil => exact True.intro
  | @cons p q ps qs h t ih =>
    obtain ⟨h1, _, h2⟩ := h
    by_cases e : p.1 = k
    · have e' : q.1 = k := h1.symm.trans e
      have b : atKey (q :: qs) k = some q.2 := by simp [atKey, List.find?_cons, e']
      rw [valV_pos e, b]; exact h2
    · have e' : ¬ q.1 = k := fun z => e (h1.trans z)
      have b : atKey (q :: qs) k = atKey qs k := by simp [atKey, List.find?_cons, e']
      rw [valV_neg e, b]; exact ih
theorem KT.repl {H : Hp} {kvs : List (List Key × V)} {xs : List (List Key × Addr × Value)} (r : KT H kvs xs) (k : List Key) {y : V} {u : Value} (ry : RelV y u) :
    KT H (kvs.map fun kv => if kv.1 = k then (kv.1, y) else kv) (xs.map (putAt k u)) := by
  induction r with
  | nil => exact .nil
  | @cons p q ps qs h t ih =>
    rw [List.map_cons, List.map_cons]
    refine .cons ?_ ih
    obtain ⟨h1, h2, h3⟩ := h
    unfold putAt
    by_cases e : p.1 = k
    · rw [if_pos e, if_pos (h1.symm.trans e)]; exact ⟨h1, h2, ry⟩
    · rw [if_neg e, if_neg (fun z => e (h1.trans z))]; exact ⟨h1, h2, h3⟩
theorem KT.put {H : Hp} {kvs : List (List Key × V)} {xs : List (List Key × Addr × Value)} (r : KT H kvs xs) (k : List Key) {b : Addr} {y : V} {u : Value} (hb : H b = some (.tup (k.map kV))) (ry : RelV y u) :
    KT H (putK kvs k y) (storedH xs k b u) := by
  have e : (kvs.any fun kv => decide (kv.1 = k)) = (atKey xs k).isSome := by
    rw [valV_any, (r.val k).isSome_eq, Option.isSome_map]
  unfold putK storedH
  rw [e]
  by_cases q : (atKey xs k).isSome = true
  · rw [if_pos q, if_pos q]; exact r.repl k ry
  · rw [if_neg q, if_neg q]; exact Paired.snoc r ⟨rfl, hb, ry⟩
theorem KT.keeps {H H' : Hp} {kvs : List (List Key × V)} {xs : List (List Key × Addr × Value)} (r : KT H kvs xs) (ht : ∀ b ys, H b = some (.tup ys) → H' b = some (.tup ys)) : KT H' kvs xs :=
  Paired.mapP r fun _ _ z => ⟨z.1, ht _ _ z.2.1, z.2.2⟩
section
variable {P : Program} {w : World} {H : Hp} {h : Heap} {a : Addr}
theorem rd_of {u : HO} (ok : HOk P w H h) (e : Rd H a u) : ObjOk P w H h a u := e.ok ok
theorem dk_rd {kvs : List (Key × V)} (ok : HOk P w H h) (e : Rd H a (.dK kvs)) : kvs.length ≤ sizeLine ∧ (a == sysModules) = false ∧ ∃ vs, KV kvs vs ∧ h.DictOf (mixKind P w) a vs :=
  show ObjOk P w H h a (.dK kvs) from rd_of ok e
theorem dk_of {kvs : List (Key × V)} (ok : HOk P w H h) (e : H a = some (.dK kvs)) : kvs.length ≤ sizeLine ∧ (a == sysModules) = false ∧ ∃ vs, KV kvs vs ∧ h.DictOf (mixKind P w) a vs := dk_rd ok (.inl e)
theorem key_of {ks : List Key} (ok : HOk P w H h) (e : H a = some (.tup (ks.map kV))) : (tupleKind (mixKind P w)).is h ks a := by
  obtain ⟨_, its, r, ⟨o, h1, h2, n, h3⟩, _⟩ := (show ObjOk P w H h a (.tup (ks.map kV)) from ok a _ e)
  exact ⟨o, its.toArray, n, h1, h2, h3, by simpa using items_are r⟩
theorem dt_rd {kvs : List (List Key × V)} (ok : HOk P w H h) (e : Rd H a (.dT kvs)) : kvs.length ≤ sizeLine ∧ (a == sysModules) = false ∧
    ∃ xs, KT H kvs xs ∧ h.DictOfH (tupleKind (mixKind P w)) a xs := by
  obtain ⟨z, y, xs, r, o, es, ep, h1, h2, h3, h4, h5⟩ := (show ObjOk P w H h a (.dT kvs) from rd_of ok e)
  refine ⟨z, y, xs, r, o, es, ep, h1, h2, h3, h4, fun x hx => ?_, h5⟩
  have all : ∀ {l : List (List Key × V)} {m : List (List Key × Addr × Value)}, KT H l m → ∀ x ∈ m, (tupleKind (mixKind P w)).is h x.1 x.2.1 := by
    intro l m q
    induction q with
    | nil => intro x hx; exact nomatch hx
    | @cons p q ps qs hq t ih =>
      intro x hx
      rcases List.mem_cons.mp hx with e | hx
      · subst e
        exact key_of ok (by rw [← hq.1]; exact hq.2.1)
      · exact ih x hx
  exact all r x hx
theorem dt_of {kvs : List (List Key × V)} (ok : HOk P w H h) (e : H a = some (.dT kvs)) : kvs.length ≤ sizeLine ∧ (a == sysModules) = false ∧
    ∃ xs, KT H kvs xs ∧ h.DictOfH (tupleKind (mixKind P w)) a xs := dt_rd ok (.inl e)
end
def DGet (H : Hp) (a : Addr) (y : V) (r : Option V) : Prop :=
  (∃ kvs k, Rd H a (.dK kvs) ∧ y = kV k ∧ r = valV kvs k) ∨ ∃ kvs k b, Rd H a (.dT kvs) ∧ y = .ref b ∧ H b = some (.tup (k.map kV)) ∧ r = valV kvs k
def DPut (H : Hp) (a : Addr) (y v : V) (H' : Hp) : Prop :=
  (∃ kvs k, H a = some (.dK kvs) ∧ y = kV k ∧ kvs.length < sizeLine ∧ H' = upd H a (.dK (putK kvs k v))) ∨
  ∃ kvs k b, H a = some (.dT kvs) ∧ y = .ref b ∧ H b = some (.tup (k.map kV)) ∧ kvs.length < sizeLine ∧ H' = upd H a (.dT (putK kvs k v))
theorem DGet.k {H : Hp} {a : Addr} {kvs : List (Key × V)} {k : Key} (e : H a = some (.dK kvs)) : DGet H a (kV k) (valV kvs k) := .inl ⟨kvs, k, .inl e, rfl, rfl⟩
theorem DGet.t {H : Hp} {a b : Addr} {kvs : List (List Key × V)} {k : List Key} (e : H a = some (.dT kvs)) (eb : H b = some (.tup (k.map kV))) : DGet H a (.ref b) (valV kvs k) := .inr ⟨kvs, k, b, .inl e, rfl, eb, rfl⟩
theorem DPut.k {H : Hp} {a : Addr} {kvs : List (Key × V)} {k : Key} {v : V} (e : H a = some (.dK kvs)) (hl : kvs.length < sizeLine) : DPut H a (kV k) v (upd H a (.dK (putK kvs k v))) := .inl ⟨kvs, k, e, rfl, hl, rfl⟩
theorem DPut.t {H : Hp} {a b : Addr} {kvs : List (List Key × V)} {k : List Key} {v : V} (e : H a = some (.dT kvs)) (eb : H b = some (.tup (k.map kV))) (hl : kvs.length < sizeLine) :
    DPut H a (.ref b) v (upd H a (.dT (putK kvs k v))) := .inr ⟨kvs, k, b, e, rfl, eb, hl, rfl⟩
section
variable {X : Cx} {pins : List (Addr × Obj)} {σ : St} {H : Hp} {s : Shared} {a : Addr} {y v : V} {u r : Value} {o : Option V} {A : Around} {E : Value → Shared → Prop}
theorem Inv.big (I : Inv X pins σ H s) : sysModules < s.heap.objs.size := by
  have h : mainGlobals < s.heap.objs.size := (I.mod.glob.keeps I.bk).lt
  exact Nat.lt_trans (by decide) h
theorem d_write {h' : Heap} {t' : Nat} {ob : HO} (I : Inv X pins σ H s) (mu : Mut (H a)) (hs : Heap.SameBut a s.heap h') (he : ∃ q, h'.get? a = some q) (new : ObjOk X.prog X.w (upd H a ob) h' a ob) :
    Inv X pins σ (upd H a ob) { s with heap := h', toks := t' } :=
  I.write (x := a) (e := a) mu (.inl rfl) (fun b q hb z => (hs.2 b hb).trans z) he new
theorem dk_new {P : Program} {w : World} {H' : Hp} {h' : Heap} {kvs : List (Key × V)} {vs : List (Key × Value)} (z : kvs.length ≤ sizeLine) (hd : (a == sysModules) = false) (rel : KV kvs vs) (dd : h'.DictOf (mixKind P w) a vs) :
    ObjOk P w H' h' a (.dK kvs) := ⟨z, hd, vs, rel, dd⟩
theorem d_setItem {H' : Hp} {Q : Unit → Shared → Prop} (hu : A.units + 1 < cLine) (I : Inv X pins σ H s) (g : DPut H a y v H') (ry : RelV y u) (rv : RelV v r) (h : ∀ s', Inv X pins σ H' s' → Q () s') :
    wpAny (model X.prog X.w) A (setItem (.ref a) u r) Q E s := by
  rcases g with ⟨kvs, k, e, ey, l, eH⟩ | ⟨kvs, k, b, e, ey, eb, l, eH⟩
  · subst ey eH
    obtain ⟨z, hd, vs, rel, dd⟩ := dk_of I.hok e
    have hz : vs.length ≤ sizeLine := by rw [← rel.length]; exact z
    have hl : (putK kvs k v).length ≤ sizeLine := by have := length_putK kvs k v; omega
    refine wpAny_setItem_pairs (hsz := hz) (kV_is ry) dd fun h' dd' hs => h _ ?_
    have he : ∃ q, h'.get? a = some q := let ⟨q, _, _, hq, _⟩ := dd'; ⟨q, hq⟩
    exact d_write I (by rw [e]; exact True.intro) hs he (dk_new hl hd (rel.put k rv) dd')
  · subst ey eH
    cases (show u = Value.ref b from ry)
    obtain ⟨z, hd, xs, rel, dd⟩ := dt_of I.hok e
    have hz : xs.length ≤ sizeLine := by rw [← Paired.length rel]; exact z
    have hl : (putK kvs k v).length ≤ sizeLine := by have := length_putK kvs k v; omega
    refine wpAny_setItem_heap (hsz := hz) (tupleKind_room_in1 hu) (key_of I.hok eb) dd fun h' dd' hs => h _ ?_
    obtain ⟨q, es, ep, hq, h2, h3, h4, _, h5⟩ := dd'
    refine d_write I (by rw [e]; exact True.intro) hs ⟨q, hq⟩ ⟨hl, hd, _, (rel.put k eb rv).keeps fun c ys ec => ?_, q, es, ep, hq, h2, h3, h4, h5⟩
    rw [upd_ne (ne_of ec e (fun z => nomatch z))]
    exact ec
end
section
variable {X : Cx} {pins : List (Addr × Obj)} {σ : St} {H : Hp} {s : Shared} {a : Addr} {kvs : List (Key × V)} {k : Key} {u : Value} {A : Around} {E : Value → Shared → Prop}
end
section
variable {X : Cx} {o i e value : Expr} {pos pos' tpos : Pos} {td ty tv : TE}
end
theorem dk_empty {P : Program} {w : World} {H : Hp} (h : Heap) (hb : sysModules < h.objs.size) : ObjOk P w H (h.push { cls := .type "dict", data := .dict #[] }) h.objs.size (.dK []) :=
  ⟨Nat.zero_le _, beq_eq_false_iff_ne.mpr (Ne.symm (Nat.ne_of_lt hb)), [], .nil, Heap.DictOf.new h⟩
section
variable {X : Cx} {pos : Pos}
end
def tPairs : List (TE × TE) → St → Hp → (List (V × V) → Hp → Prop) → Prop
  | [], _, H, Q => Q [] H
  | (tk, tv) :: r, σ, H, Q => tk σ H fun x H1 => tv σ H1 fun y H2 => tPairs r σ H2 fun ps H3 => Q ((x, y) :: ps) H3
abbrev VV : List (V × V) → List (Value × Value) → Prop := Paired fun p q => RelV p.1 q.1 ∧ RelV p.2 q.2
def PPs (X : Cx) (pos : Pos) (keys : List (Option Expr)) (values : List Expr) (trs : List (TE × TE)) : Prop :=
  ∀ (pins : List (Addr × Obj)) (s : Shared) (σ : St) (H : Hp) (Q : List (V × V) → Hp → Prop), Inv X pins σ H s → tPairs trs σ H Q →
    wpAny (model X.prog X.w) X.A (evalPairs (pairTrees keys values X.env pos)) (fun vs s' => ∃ ps H', Inv X pins σ H' s' ∧ VV ps vs ∧ Q ps H') X.xe s
theorem pps_nil {X : Cx} {pos : Pos} : PPs X pos [] [] [] := fun pins s σ H Q I h => pairTrees_nil_walk ⟨[], H, I, .nil, h⟩
theorem pps_cons {X : Cx} {pos : Pos} {k v : Expr} {ks : List (Option Expr)} {vs : List Expr} {tk tv : TE} {trs : List (TE × TE)} (hk : PE X k tk) (hv : PE X v tv) (hr : PPs X pos ks vs trs) :
    PPs X pos (some k :: ks) (v :: vs) ((tk, tv) :: trs) := fun pins s σ H Q I h =>
  pairTrees_cons_walk (thn (hk pins s σ H _ I h) fun u s1 ⟨x, H1, I1, rx, q1⟩ => thn (hv pins s1 σ H1 _ I1 q1) fun w2 s2 ⟨y, H2, I2, ry, q2⟩ =>
    thn (hr pins s2 σ H2 _ I2 q2) fun ws s3 ⟨ps, H3, I3, rel, q3⟩ => ⟨(x, y) :: ps, H3, I3, .cons ⟨rx, ry⟩ rel, q3⟩)
noncomputable def mergeK (kvs more : List (Key × V)) : List (Key × V) := more.foldl (fun acc kv => putK acc kv.1 kv.2) kvs
theorem KV.merge : ∀ {more : List (Key × V)} {rs : List (Key × Value)} {kvs : List (Key × V)} {vs : List (Key × Value)}, KV more rs → KV kvs vs → KV (mergeK kvs more) (merged vs rs) := by
  intro more rs kvs vs r
  unfold KV at r
  induction r generalizing kvs vs with
  | nil => intro q; exact q
  | @cons p q ps qs h t ih =>
    intro r0
    have e : KV (putK kvs p.1 p.2) (stored vs q.1 q.2) := by
      have := r0.put p.1 h.2
      rw [← h.1]; exact this
    exact ih e
theorem length_mergeK : ∀ (more kvs : List (Key × V)), (mergeK kvs more).length ≤ kvs.length + more.length
  | [], kvs => by show kvs.length ≤ kvs.length + 0; omega
  | p :: r, kvs => by
    have h1 := length_mergeK r (putK kvs p.1 p.2)
    have h2 := length_putK kvs p.1 p.2
    show (mergeK (putK kvs p.1 p.2) r).length ≤ _
    rw [List.length_cons]; omega
theorem carries_of {P : Program} {w : World} : ∀ {kvs : List (Key × V)} {ws : List (Value × Value)}, VV (kvs.map fun kv => (kV kv.1, kv.2)) ws → ∃ rs, Carries (mixKind P w) ws rs ∧ KV kvs rs
  | [], _, r => by rw [List.map_nil] at r; cases r; exact ⟨[], True.intro, .nil⟩
  | p :: kvs, _, r => by
    rw [List.map_cons] at r
    cases r with
    | @cons a b as bs h t =>
      obtain ⟨rs, c, q⟩ := carries_of (P := P) (w := w) t
      obtain ⟨b1, b2⟩ := b
      exact ⟨(p.1, b2) :: rs, ⟨kV_is h.1, rfl, c⟩, .cons ⟨rfl, h.2⟩ q⟩
def tDisp (trs : List (TE × TE)) : TE := fun σ H Q => ∀ p, H p = none → tPairs trs σ (upd H p (.dK [])) fun ps H2 => H2 p = some (.dK []) ∧ ∃ kvs : List (Key × V), ps = kvs.map (fun kv => (kV kv.1, kv.2)) ∧ kvs.length ≤ 15 ∧ Q (.ref p) (upd H2 p (.dK (mergeK [] kvs)))
theorem pe_disp {X : Cx} {pos : Pos} {keys : List (Option Expr)} {values : List Expr} {trs : List (TE × TE)} (h : PPs X pos keys values trs) (hall : keys.all (·.isSome) = true) (hl : keys.length = values.length) (h0 : keys ≠ [])
    (h15 : keys.length ≤ 15) : PE X (.Dict keys values pos) (tDisp trs) := by
  intro pins s σ H Q I q
  have hn := I.hok.fresh (Nat.le_refl s.heap.objs.size)
  have I1 := I.laid (a := s.heap.objs.size) (o := .dK []) (h' := s.heap.push { cls := .type "dict", data := .dict #[] }) (t' := s.toks) (fun _ _ q => Heap.get?_push_of_some _ q) (Nat.le_refl _) (dk_empty s.heap I.big)
  refine wpAny_Dict_walk (knd := mixKind X.prog X.w) hall hl h0 h15 (thn (h pins _ σ _ _ I1 (q _ hn)) fun ws s2 ⟨ps, H2, I2, rel, e, kvs, ep, lk, q2⟩ => ?_)
  subst ep
  obtain ⟨rs, c, rk⟩ := carries_of (P := X.prog) (w := X.w) rel
  obtain ⟨z, hd, vs0, r0, dd⟩ := dk_of I2.hok e
  cases r0
  refine ⟨rs, c, dd, fun h' dd' hs => ⟨.ref s.heap.objs.size, _, ?_, rfl, q2⟩⟩
  have hz : (mergeK [] kvs).length ≤ sizeLine := by
    have h1 := length_mergeK kvs []
    rw [List.length_nil] at h1
    rw [sizeLine_eq]; omega
  have he : ∃ q, h'.get? s.heap.objs.size = some q := let ⟨q, _, _, hq, _⟩ := dd'; ⟨q, hq⟩
  exact d_write I2 (by rw [e]; exact True.intro) hs he (dk_new hz hd (rk.merge .nil) dd')
structure M1 (X : Cx) (o : Expr) (m : Str) (apos : Pos) (e : Expr) (cpos : Pos) : Prop where
  base : attributeBase o m X.env (eval o X.env) = eval o X.env
  few : ((backTo cpos (starEach [e] X.env)).all (fun x => !x.1) && (backToKw cpos (keywordEach [] X.env)).all (fun x => x.1.isSome)
    && decide (([e] : List Expr).length + ([] : List Keyword).length + (if ([] : List Keyword).isEmpty then 0 else 1) < 30)) = true
  line : (apos.endLine == cpos.line) = true
  trees : backTo cpos (starEach [e] X.env) = [(false, eval e X.env)]
section
variable {X : Cx} {pins : List (Addr × Obj)} {σ : St} {H : Hp} {s : Shared} {a : Addr} {y d : V} {u r : Value} {o : Option V} {A : Around} {E : Value → Shared → Prop}
end
section
variable {X : Cx} {o e f : Expr} {apos cpos : Pos} {td ty tx : TE}
end
section
variable {X : Cx} {pins : List (Addr × Obj)} {σ : St} {H : Hp} {s : Shared} {a : Addr} {kvs : List (Key × V)} {A : Around} {E : Value → Shared → Prop}
end
section
variable {X : Cx} {pins : List (Addr × Obj)} {σ : St} {H : Hp} {s : Shared} {a : Addr} {y : V} {u : Value} {A : Around} {E : Value → Shared → Prop}
end
end L2
namespace Att
open PySem PySem.W PySem.Calls PyProof.Rows
theorem ints_of_wellAll {P : Params} {h : Heap} : ∀ (ns : List Int) (vs : List Value), WellAll P h vs (ns.map WData.int) → IntsAre vs ns := by
  intro ns
  induction ns with
  | nil =>
    intro vs w
    rw [List.map_nil] at w
    cases w
    exact .nil
  | cons n ns ih =>
    intro vs w
    rw [List.map_cons] at w
    cases w with
    | cons a b =>
      cases a
      exact .cons _ _ (ih _ b)
theorem script_of {l : OpenLaw} {n : Nat} (hn : l.most = some n) {P : Params} {h : Heap} {args : List WData} {vals : List Value}
    (hpre : l.row.toRowW.claim.pre args = true) (hwl : WellAll P h vals args) :
    ∃ a vs ns, vals = [Value.ref a] ∧ args = [WData.list (ns.map WData.int)] ∧ h.get? a = some { cls := .type "list", data := .seq vs.toArray } ∧ IntsAre vs ns ∧ ns.length ≤ n := by
  have hsh : WShape.hasAll [] args [.list .int] = true := (pre_splitW hpre).1
  have hc : l.pre.holds [] { args := args } = true := (pre_splitW hpre).2
  obtain ⟨d, r, rfl, h1, h2⟩ := hasAllW_cons hsh
  obtain rfl := hasAllW_nil h2
  obtain ⟨xs, rfl, h3⟩ := hasW_list h1
  obtain ⟨ns, rfl⟩ := items_int h3
  have hlen : ns.length ≤ n := by
    unfold OpenLaw.pre at hc
    have h4 : (WTm.not (.lt (.lit (.int (n : Int))) (.len (.arg 0)))).holds [] { args := [.list (ns.map .int)] } = true := by
      have h4 := (holds_andW hc).1
      rw [hn] at h4
      exact h4
    have h5 := condW_of h4 (w_not (w_lt w_lit (w_len_list (w_arg rfl))))
    rw [List.length_map] at h5
    refine Nat.le_of_not_lt fun q => ?_
    have q' : (n : Int) < ((ns.length : Nat) : Int) := by omega
    first
      | (rw [decide_eq_true q'] at h5; exact absurd h5 (by decide))
      | (simp at h5; omega)
  cases hwl with
  | cons w1 w2 =>
    cases w2
    cases w1 with
    | list ho hall => exact ⟨_, _, ns, rfl, rfl, ho, ints_of_wellAll ns _ hall, hlen⟩
theorem post_true (l : OpenLaw) (args : List WData) : l.row.toRowW.claim.post args (.bool true) args = true :=
  postW_of (r := l.row.toRowW) (X := (true == true))
    (show WShape.has [] (.bool true) .bool = true by first | rfl | decide | simp [WShape.has, WShape.arms, WShape.armsAll])
    (show (WTm.eq .res (.lit (.bool true))).value [] { args := args, res := some (.bool true), after := args } = some (.bool (true == true)) from w_eq_bool (w_res rfl) w_lit) rfl
theorem attach_call {l : OpenLaw} {n : Nat} {q : Program} {loose : List Str} {XP : (Str → Option Value) → Heap → Prop} {YP : World → Heap → Prop} {d : DefRec}
    (hn : l.most = some n) (hdf : d.params.defaults = [])
    (call : ∀ (w : World) (s₀ s₁ : Shared) (mg mb : Str → Option Value) (fa : Addr) (o : Obj) (pm cd doc : Value) (a : Addr) (vs : List Value) (ns : List Int),
      Ground q loose [] XP w s₀ mg mb s₁.heap → YP w s₁.heap →
      s₁.heap.get? fa = some o → o.data = .func (docDef d.name d.params d.body d.scope pm cd doc) → s₁.heap.CodeRec cd d.name → mg d.name = some (.ref fa) →
      s₁.heap.get? a = some { cls := .type "list", data := .seq vs.toArray } → IntsAre vs ns → ns.length ≤ n → s₁.gens = #[] →
      codeAny (model l.prog w) callerA (.call (.ref fa) ⟨[.ref a], []⟩) (fun r s' => r = .ok (.ret (.bool true)) ∧ OldK s₁.heap s'.heap ∧ s'.os = s₁.os ∧ AllBare s'.gens) s₁) :
    WalkO q loose XP YP l.row.toRowW d [] (fun f vs => PySem.call f vs) := by
  intro w s₀ s₁ mg mb G Y fa o pm cd doc dV kV ho hd hcd hD hmg hg args vals as hpre hlay hrd hwl hlo
  obtain rfl : dV = .none := Dflts.none hD hdf
  obtain rfl : kV = .none := Dflts.noKw hD
  obtain ⟨a, vs, ns, rfl, rfl, hobj, hints, hlen⟩ := script_of hn hpre hwl
  refine enter_call (codeAny_mono (call w s₀ s₁ mg mb fa o pm cd doc a vs ns G Y ho (fd_plain hd) hcd hmg hobj hints hlen hg) fun r s' hq => ?_)
  obtain ⟨rfl, h2, h3, h4⟩ := hq
  exact ⟨.inl ⟨.bool true, .bool true, [], rfl, fun _ => rfl, .bool true, post_true l _, fun _ => ⟨List.Pairwise.nil, fun _ hm => (nomatch hm)⟩⟩, h2, h3, h4⟩
section
variable {prog : Program} {w : World} {A : Around} {E : Value → Shared → Prop} {s : Shared} {K : Frag}
end
end Att
namespace L2
open PySem PySem.Spec PyProof.Rows
theorem vals_ints : ∀ {vs : List Value} {ns : List Int}, IntsAre vs ns → Vals (ns.map V.int) vs
  | _, _, .nil => .nil
  | _, _, .cons n t h => .cons ⟨t, rfl⟩ (vals_ints h)
def Only (H : Hp) : Prop := ∀ b, H b = none ∨ ∃ o xs, H b = some (.frz o (.lst xs))
theorem law_call {P : Program} {w : World} {K : PySem.W.Frag} {mg mb : Str → Option Value} {CX : CXT} {k : Nat} {fa a : Addr} {fd : FuncData} {x : Str} {sp : Sp} {s₁ : Shared} {vs : List Value} {ns : List Int}
    (KX : K.In s₁.heap) (hns : s₁.heap.Ns mainGlobals mg) (hb : s₁.heap.Ns builtinsNs mb) (hbb : ∀ x : Str, x ≠ "__name__" → mb x = bootBuiltins x) (hlim : s₁.heap.NoLimit) (hg : s₁.gens = #[])
    (ha : s₁.heap.get? a = some { cls := .type "list", data := .seq vs.toArray }) (hi : IntsAre vs ns) (hl : ns.length ≤ sizeLine) (hr : Room k callerA)
    (F : ∀ base : Heap, K.In base → base.Ns mainGlobals mg → FnOk P w K mg base CX k fa fd [x] sp) (hbind : ∀ (s : Shared) (u : Value), BindsTo s fd ⟨[u], []⟩ [(x, u)])
    (hsp : ∀ H : Hp, Only H → SqL K H a (ns.map V.int) → sp [.ref a] H (fun v _ => v = .bl true) fun _ _ _ => False)
    (hCX : ∀ H e s', CX [] H s₁ (fun _ _ _ => False) e s' → False) :
    codeAny (model P w) callerA (.call (.ref fa) ⟨[.ref a], []⟩) (fun r s' => r = .ok (.ret (.bool true)) ∧ OldK s₁.heap s'.heap ∧ s'.os = s₁.os ∧ AllBare s'.gens) s₁ := by
  have rv := vals_ints hi
  have lenV := hi.length
  -- from an abstract heap in which nothing but the script may be tracked
  have core : ∀ H : Hp, Only H → SqL K H a (ns.map V.int) → HOk P w H s₁.heap → (∀ b, H b ≠ none → b = a) → (H a ≠ none → K.lookup a = none) →
      codeAny (model P w) callerA (.call (.ref fa) ⟨[.ref a], []⟩) (fun r s' => r = .ok (.ret (.bool true)) ∧ OldK s₁.heap s'.heap ∧ s'.os = s₁.os ∧ AllBare s'.gens) s₁ := by
    intro H hO hS hok hA hK
    have base_of : ∀ {b : Addr} {o : Obj}, s₁.heap.get? b = some o → H b = none → (hidT s₁.heap H).get? b = some o := fun e n => hidT_get e n
    have noA : ∀ {b : Addr} {o : Obj} {es : Array DictEntry} {ep : Nat}, s₁.heap.get? b = some o → o.data = .dict es ep → H b = none := fun {b o es ep} e d => by
      cases q : H b with
      | none => rfl
      | some u =>
        have e' : b = a := hA b (by rw [q]; simp)
        subst e'
        rw [ha] at e; cases e
        have d' : Data.seq vs.toArray _ = Data.dict es ep := d
        cases d'
    have nsK : ∀ {b : Addr} {m : Str → Option Value}, s₁.heap.Ns b m → (hidT s₁.heap H).Ns b m := fun {b m} ⟨o, es, ep, e, d, r⟩ => ⟨o, es, ep, base_of e (noA e d), d, r⟩
    have hKb : K.In (hidT s₁.heap H) := fun b o e => base_of (KX b o e) (by
      cases q : H b with
      | none => rfl
      | some u =>
        have e' : b = a := hA b (by rw [q]; simp)
        subst e'
        rw [hK (by rw [q]; simp)] at e; cases e)
    have hM : Mod K mg (hidT s₁.heap H) := ⟨hKb, nsK hns, ⟨mb, nsK hb, hbb⟩, let ⟨mc, h1, h2⟩ := hlim; ⟨mc, nsK h1, h2⟩⟩
    have e0 : Env0 P w K mg (hidT s₁.heap H) callerA [] s₁ H := ⟨rfl, hM, fun b o e => of_hidT e, Nat.le_of_eq (hidT_size _ _), trivial, fun b hb => absurd (show b ∈ ([] : List Addr) from hb) (by simp), hok, .of_eq hg⟩
    refine codeAny_mono ((F _ hKb (nsK hns)).run callerA [] s₁ H ⟨[.ref a], []⟩ [.ref a] [.ref a] _ _ hr e0 (hbind s₁ (.ref a)) (.cons rfl .nil) (hsp H hO hS)) fun r s' h => ?_
    cases r with
    | error e => exact (hCX H e s' h).elim
    | ok fl =>
      cases fl with
      | next => exact False.elim h
      | brk => exact False.elim h
      | cont => exact False.elim h
      | ret u =>
        obtain ⟨v, H', os, bare, un, hok', r', q⟩ := h
        have q' : v = .bl true := q
        subst q'
        obtain rfl : u = Value.bool true := r'
        refine ⟨rfl, OldK.of_keep fun b o e => ?_, os, bare⟩
        cases q : H b with
        | none => exact un.keep b o e q (by intro z; exact absurd (show b ∈ ([] : List Addr) from z) (by simp)) (by simp)
        | some u =>
          rcases hO b with z | ⟨ob, xs, z⟩
          · rw [q] at z; cases z
          · have z2 := un.frzs b ob _ z
            obtain ⟨e1, _⟩ := hok b _ z
            obtain ⟨e2, _⟩ := hok' b _ z2
            rw [e] at e1; cases e1
            exact e2
  cases hk : K.lookup a with
  | some o =>
    -- the script is one of the module's own objects
    have e := KX a o hk
    rw [ha] at e
    cases e
    refine core (fun _ => none) (fun _ => .inl rfl) (.inr ⟨_, vs.toArray, _, hk, rfl, rfl, rfl, by rw [List.size_toArray, lenV]; exact hl, by simpa using rv⟩) (fun b u z => by have z' : (none : Option HO) = some u := z; cases z') (fun b z => absurd rfl z) fun z => absurd rfl z
  | none =>
    refine core (fun b => if b = a then some (.frz { cls := .type "list", data := .seq vs.toArray } (.lst (ns.map V.int))) else none) (fun b => ?_) (.inl (.inr ⟨{ cls := .type "list", data := .seq vs.toArray }, if_pos rfl⟩)) (fun b u z => ?_) (fun b z => ?_) fun _ => hk
    · by_cases hb : b = a
      · exact .inr ⟨_, _, if_pos hb⟩
      · exact .inl (if_neg hb)
    · by_cases hb : b = a
      · have z' := (if_pos hb).symm.trans z
        cases z'
        subst hb
        exact ⟨ha, by rw [List.length_map]; exact hl, vs, _, rv, ha⟩
      · have z' := (if_neg hb).symm.trans z
        cases z'
    · by_cases hb : b = a
      · exact hb
      · exact absurd (if_neg hb) z
end L2
namespace L2
open PySem PySem.Spec PyProof.Rows
noncomputable abbrev KOf {K : PySem.W.Frag} {h : Heap} (_ : K.In h) : PySem.W.Frag := K
theorem walk_of {l : PySem.W.OpenLaw} {n k : Nat} {q : Program} {loose : List Str} {XP : (Str → Option Value) → Heap → Prop} {YP : World → Heap → Prop} {d : DefRec} {K : Params → PySem.W.Frag} {CX : World → CXT} {sp : World → Sp} {x : Str}
    (hn : l.most = some n) (hn2 : n ≤ sizeLine) (hdf : d.params.defaults = []) (hr : Room k callerA)
    (hY : ∀ (w : World) (h : Heap), YP w h → (K w.params).In h)
    (F : ∀ (w : World) (mg : Str → Option Value) (fa : Addr) (h : Heap), (K w.params).In h → h.Ns mainGlobals mg → mg d.name = some (.ref fa) →
      ∃ fd : FuncData, (∀ (s : Shared) (u : Value), BindsTo s fd ⟨[u], []⟩ [(x, u)]) ∧
        ∀ base : Heap, (K w.params).In base → base.Ns mainGlobals mg → FnOk l.prog w (K w.params) mg base (CX w) k fa fd [x] (sp w))
    (hsp : ∀ (w : World) (H : Hp) (a : Addr) (ns : List Int), ns.length ≤ n → Only H → SqL (K w.params) H a (ns.map V.int) → sp w [.ref a] H (fun v _ => v = .bl true) fun _ _ _ => False)
    (hCX : ∀ (w : World) (H : Hp) (s : Shared) (e : Value) (s' : Shared), CX w [] H s (fun _ _ _ => False) e s' → False) :
    PySem.W.WalkO q loose XP YP l.row.toRowW d [] (fun f vs => PySem.call f vs) := by
  refine Att.attach_call hn hdf fun w s₀ s₁ mg mb fa o pm cd doc a vs ns G Y ho hd hcd hmg hobj hints hlen hg => ?_
  have KX := hY w _ Y
  obtain ⟨fd, hb, hF⟩ := F w mg fa _ KX G.T.g hmg
  exact law_call KX G.T.g G.T.b G.T.builtins G.T.nolimit hg hobj hints (Nat.le_trans hlen hn2) hr hF hb (fun H hO hS => hsp w H a ns hlen hO hS) fun H e s' => hCX w H s₁ e s'
theorem walk_ofK {l : PySem.W.OpenLaw} {n k : Nat} {q : Program} {loose : List Str} {XP : (Str → Option Value) → Heap → Prop} {YP : World → Heap → Prop} {d : DefRec} {K : Params → PySem.W.Frag} {CX : CXT} {sp : PySem.W.Frag → Sp} {x : Str}
    (hn : l.most = some n) (hn2 : n ≤ sizeLine) (hdf : d.params.defaults = []) (hr : Room k callerA)
    (hY : ∀ (w : World) (h : Heap), YP w h → (K w.params).In h)
    (F : ∀ (w : World) (mg : Str → Option Value) (fa : Addr) (h : Heap), (K w.params).In h → h.Ns mainGlobals mg → mg d.name = some (.ref fa) →
      ∃ fd : FuncData, (∀ (s : Shared) (u : Value), BindsTo s fd ⟨[u], []⟩ [(x, u)]) ∧
        ∀ base : Heap, (K w.params).In base → base.Ns mainGlobals mg → FnOk l.prog w (K w.params) mg base CX k fa fd [x] (sp (K w.params)))
    (hsp : ∀ (K : PySem.W.Frag) (H : Hp) (a : Addr) (ns : List Int), ns.length ≤ n → Only H → SqL K H a (ns.map V.int) → sp K [.ref a] H (fun v _ => v = .bl true) fun _ _ _ => False)
    (hCX : ∀ (H : Hp) (s : Shared) (e : Value) (s' : Shared), CX [] H s (fun _ _ _ => False) e s' → False) :
    PySem.W.WalkO q loose XP YP l.row.toRowW d [] (fun f vs => PySem.call f vs) :=
  walk_of (K := K) (CX := fun _ => CX) (sp := fun w => sp (K w.params)) hn hn2 hdf hr hY F (fun w H a ns h1 h2 h3 => hsp (K w.params) H a ns h1 h2 h3) fun _ H s e s' => hCX H s e s'
end L2
/- THE LAST THEOREM (shape; LID, My.* are yours):
   My.Adr: a structure of the addresses that your layer names (classes, functions); My.Txt K t: a structure (Prop) of the equations over K;
   My.txt_mk : {K} {implicit addresses ..} (e1 : nsIn K mainGlobals "law" = some (some (.ref f))) (e2 : K.lookup f = some ⟨oc, od, .func (fnOf "law" "law" params body scope dV kV doc pm an cdv ct), sl⟩) (e3 : codeIn K cdv "law" = true) .. : ∃ t, My.Txt K t
set_option maxRecDepth 100000 in
set_option maxHeartbeats 0 in
theorem PySem.Challenge.cw_LID_holds : PySem.Challenge.rw_LID.Holds := by
  w_on; o_law; k_head; (case hw => w_witness2)
  k_fill
  refine L2.walk_of (l := PySem.Challenge.rw_LID) (n := 63) (k := 40) (x := "script") (CX := fun w => ..) (sp := fun _ => My.sp_law) rfl (by decide) rfl ⟨rfl, by decide, by decide⟩ (fun w h Y => PySem.W.kIn_of Y) ?F ?S ?C
  case F =>
    intro w mg fa h KX G hmg
    have T : ∃ t, My.Txt (L2.KOf KX) t := by
      dsimp only [L2.KOf]                          -- K must stand as «<heap const> w.params» for k_is
      refine' My.txt_mk ?e1 ?e2 ?e3 ..
      (case e1 => PySem.W.k_is)                    -- in the order: a name -> its address -> its object -> its parts
      (case e2 => PySem.W.k_is)
      ..
    obtain ⟨t, T⟩ := T
    have e0 := hmg.symm.trans (PySem.W.mg_of KX G T.law)
    cases e0                                       -- fa is the law's own address
    exact ⟨_, fun s u => .of_eq rfl, fun base kb nb => My.law_fn T kb nb⟩     -- if «.of_eq rfl» comes too early: refine' ⟨_, ?b, fun base kb nb => My.law_fn T kb nb⟩; exact fun s u => .of_eq rfl
  case S => exact fun w H a ns hl hO hS => ..
  case C => exact ..
(the tactic k_is has no namespace: write k_is) -/
namespace L2
open PySem PySem.Spec PyProof.Rows
noncomputable def defArgs (s : Stmt) : Arguments := match s with
  | .FunctionDef _ a _ _ _ _ _ _ _ _ => a
  | _ => { posonlyargs := [], args := [], vararg := none, kwonlyargs := [], kw_defaults := [], kwarg := none, defaults := [] }
noncomputable def defBody (s : Stmt) : List Stmt := match s with
  | .FunctionDef _ _ b _ _ _ _ _ _ _ => b
  | _ => []
noncomputable def defScope (s : Stmt) : Scope := match s with
  | .FunctionDef _ _ _ _ _ _ sc _ _ _ => sc
  | _ => { kind := .function, names := [], isGenerator := false, isCoroutine := false }
noncomputable abbrev CX0 : CXT := fun _ _ _ _ _ _ => False
abbrev E0 : XK := fun _ _ _ => False
theorem pass0 {X : Cx} : Passes CX0 X E0 := fun _ _ _ _ _ _ _ h => h.elim
structure Fun (K : PySem.W.Frag) (x qual : Str) (st : Stmt) (f : Addr) (fd : FuncData) : Prop where
  ex : ∃ (oc : Value) (od : Option Addr) (kV doc pm : Value) (an : Option Addr) (cdv ct : Value) (osl : Array (Option Value)),
    fd = PySem.W.fnOf x qual (defArgs st) (defBody st) (defScope st) .none kV doc pm an cdv ct ∧ K.lookup f = some ⟨oc, od, .func fd, osl⟩ ∧ PySem.W.codeIn K cdv qual = true
  kp : PySem.W.keepIn K (.ref f) = true
section
variable {P : Program} {w : World} {K : PySem.W.Frag} {mg : Str → Option Value} {base : Heap}
theorem Fun.ok {x qual : Str} {st : Stmt} {f : Addr} {fd : FuncData} {N ps : List Str} {k : Nat} {sp : Sp} (F : Fun K x qual st f fd) (S : FnScope N ps (defScope st)) (len : ∀ vs H Q E, sp vs H Q E → vs.length = ps.length)
    (hbody : ∀ (cdv : Value) (A : Around) (outer : List Env) (s : Shared) (H : Hp) (vs : List V) (Q : VK) (E : XK), Room k (A.deeper (envOfC qual (defScope st) s.heap.objs.size f cdv)) → sp vs H Q E →
      ∃ t, PSs (cxOf CX0 P w K mg base N qual (defScope st) f cdv A outer s H E).nox (defBody st) t ∧ t { nx := fun _ H' => Q .non H', rt := Q } (start N vs) H) : FnOk P w K mg base CX0 (k + 1) f fd ps sp := by
  obtain ⟨oc, od, kV, doc, pm, an, cdv, ct, osl, rfl, lk, hcd⟩ := F.ex
  refine fn_of lk hcd S len fun A outer s H vs Q E hr hsp => ?_
  obtain ⟨t, h, q⟩ := hbody cdv A outer s H vs Q E hr hsp
  exact ⟨t, h.nox, q⟩
theorem Fun.binds {x qual : Str} {st : Stmt} {f : Addr} {fd : FuncData} {ps : List Str} (F : Fun K x qual st f fd)
    (h : ∀ (kV doc pm : Value) (an : Option Addr) (cdv ct : Value) (us : List Value), us.length = ps.length → bindArgs (PySem.W.fnOf x qual (defArgs st) (defBody st) (defScope st) .none kV doc pm an cdv ct) ⟨us, []⟩ = pure (ps.zip us)) : Binds K fd ps [] := by
  obtain ⟨oc, od, kV, doc, pm, an, cdv, ct, osl, rfl, lk, hcd⟩ := F.ex
  exact .all (h kV doc pm an cdv ct)
theorem fun_mk {x qual : Str} {st : Stmt} {f : Addr} {oc : Value} {od an : Option Addr} {osl : Array (Option Value)} {kV doc pm cdv ct : Value} (l : K.lookup f = some ⟨oc, od, .func (PySem.W.fnOf x qual (defArgs st) (defBody st) (defScope st) .none kV doc pm an cdv ct), osl⟩)
    (c : PySem.W.codeIn K cdv qual = true) (k : PySem.W.keepIn K (.ref f) = true) : Fun K x qual st f (PySem.W.fnOf x qual (defArgs st) (defBody st) (defScope st) .none kV doc pm an cdv ct) := ⟨⟨oc, od, kV, doc, pm, an, cdv, ct, osl, rfl, l, c⟩, k⟩
end
section
variable {X : Cx}
end
def Same (H H' : Hp) : Prop := ∀ b o, H b = some o → H' b = some o
theorem Same.refl (H : Hp) : Same H H := fun _ _ h => h
theorem Same.trans {H H1 H2 : Hp} (a : Same H H1) (b : Same H1 H2) : Same H H2 := fun c o h => b c o (a c o h)
theorem Same.free {H H' : Hp} (e : Same H H') {l : Addr} (h : H' l = Option.none) : H l = Option.none := by
  cases q : H l with
  | none => rfl
  | some o =>
    rw [e l o q] at h
    cases h
theorem Same.seq {K : PySem.W.Frag} {H H' : Hp} {a : Addr} {xs : List V} (e : Same H H') (h : SqL K H a xs) : SqL K H' a xs := by
  rcases h with (h | ⟨o, h⟩) | h
  · exact .inl (.inl (e _ _ h))
  · exact .inl (.inr ⟨o, e _ _ h⟩)
  · exact .inr h
end L2
namespace HS
open PySem PySem.Spec
theorem below_go (xs : Array Nat) (j : Nat) (hs : xs.toList.Pairwise (· < ·)) : ∀ (fuel lo hi : Nat), hi - lo ≤ fuel → lo ≤ hi → hi ≤ xs.size →
    (∀ i (h : i < xs.size), i < lo → xs[i] < j) → (∀ i (h : i < xs.size), hi ≤ i → j ≤ xs[i]) →
    SetTable.below.go xs j fuel lo hi ≤ xs.size ∧ (∀ i (h : i < xs.size), i < SetTable.below.go xs j fuel lo hi → xs[i] < j) ∧ (∀ i (h : i < xs.size), SetTable.below.go xs j fuel lo hi ≤ i → j ≤ xs[i]) := by
  intro fuel
  have mono : ∀ i k (hi : i < xs.size) (hk : k < xs.size), i ≤ k → xs[i] ≤ xs[k] := fun i k hi hk h => by
    rcases Nat.lt_or_ge i k with h | h
    · have := List.pairwise_iff_getElem.mp hs i k (by simpa using hi) (by simpa using hk) h
      simp at this; omega
    · have : i = k := by omega
      subst this; omega
  induction fuel with
  | zero =>
    intro lo hi hf hle hsz h1 h2
    have : lo = hi := by omega
    subst this
    exact ⟨hsz, h1, h2⟩
  | succ fuel ih =>
    intro lo hi hf hle hsz h1 h2
    unfold SetTable.below.go
    by_cases hlt : lo < hi
    · rw [if_pos hlt]
      dsimp only
      have hm : (lo + hi) / 2 < xs.size := by omega
      have hg : xs.getD ((lo + hi) / 2) j = xs[(lo + hi) / 2] := by simp [Array.getD, hm]
      rw [hg]
      split
      · rename_i hc
        exact ih _ _ (by omega) (by omega) hsz (fun i h hi' => Nat.lt_of_le_of_lt (mono i _ h hm (by omega)) hc) h2
      · rename_i hc
        exact ih _ _ (by omega) (by omega) (by omega) h1 (fun i h hi' => Nat.le_trans (by omega) (mono _ i hm h hi'))
    · rw [if_neg hlt]
      have : lo = hi := by omega
      subst this
      exact ⟨hsz, h1, h2⟩
theorem below_ok {xs : Array Nat} (j : Nat) (hs : xs.toList.Pairwise (· < ·)) :
    SetTable.below xs j ≤ xs.size ∧ (∀ i (h : i < xs.size), i < SetTable.below xs j → xs[i] < j) ∧ (∀ i (h : i < xs.size), SetTable.below xs j ≤ i → j ≤ xs[i]) :=
  below_go xs j hs xs.size 0 xs.size (by omega) (by omega) (by omega) (fun _ _ h => by omega) (fun _ h h' => by omega)
def Rises (t : SetTable) : Prop := t.plain = true → t.place.toList.Pairwise (· < ·)
end HS
namespace HS
open PySem PySem.Spec PyProof.Rows
noncomputable def val (e : Int × Value) : Int := match e.2 with | .int n _ => n | _ => 0
def IsE (e : Int × Value) : Prop := ∃ n t, e = (hashInt n, .int n t)
theorem IsE.val {n : Int} {t : Tok} : val (hashInt n, .int n t) = n := rfl
structure TabOk (led : Bool) (es : Array (Int × Value)) (t : SetTable) (xs : List Int) : Prop where
  el : ∀ e ∈ es.toList, IsE e
  pm : (es.toList.map val).Perm xs
  nd : xs.Nodup
  bd : es.size < scanBound
  ft : t.fits es.size = true
  rs : Rises t
  ld : t.led = led
def SetG (led : Bool) (o : Obj) (xs : List Int) : Prop := ∃ es ep t, o.ExactSet ∧ o.data = .set es ep t ∧ TabOk led es t xs
theorem SetG.len {led : Bool} {es : Array (Int × Value)} {t : SetTable} {xs : List Int} (g : TabOk led es t xs) : es.size = xs.length := by
  have := g.pm.length_eq
  simpa using this
section
variable {prog : Program} {w : World} {A : Around} {E : Value → Shared → Prop} {s : Shared}
noncomputable def plus (xs : List Int) (k : Int) : List Int := if k ∈ xs then xs else xs ++ [k]
theorem store_ok {a : Addr} {o : Obj} {es es' : Array (Int × Value)} {ep : Nat} {t t' : SetTable} {Q : Unit → Shared → Prop} (ho : s.heap.get? a = some o) (hx : o.ExactSet) (hd : o.data = .set es ep t)
    (hb : es'.size < scanBound)
    (h : ∀ h', Heap.SameBut a s.heap h' → h'.get? a = some { o with data := .set es' (ep + 1) t' } → Q () { s with heap := h' }) : wpAny (model prog w) A (storeSet a es' t') Q E s := by
  refine wpAny_storeSet_of ho hd (h _ (Heap.SameBut.update s.heap a _) ?_) (fits_of_scanBound hb)
  have q := Heap.get?_update_self (Obj.putSet es' t') ho (by rw [putSet_of es' t' hd]; rfl)
  rwa [putSet_of es' t' hd] at q
end
end HS
namespace HS
open PySem PySem.Spec PyProof.Rows
noncomputable def metOf (xs : List Int) (ns : List Int) : List Int := ns.foldl plus xs
section
variable {prog : Program} {w : World} {A : Around} {R : Result → Shared → Prop} {I : Addr} {fp wr : List Addr} {G : Array GenState → Array GenState → Prop} {n : Nat} {P : Nat → Value → Prop} {St : Nat → Shared → Prop}
end
section
variable {prog : Program} {w : World} {A : Around} {E : Value → Shared → Prop} {s : Shared}
end
end HS
namespace HS
open PySem PySem.Spec PyProof.Rows
theorem slot_si_next : Slot "set_iterator" "__next__" "set_iterator.__next__" := by
  refine .of (owner := "set_iterator") (n := "__next__") ?_ (by decide +kernel) (by decide +kernel) (by decide +kernel) ?_ ?_
  · rw [typeLookup_type, builtinLookup_eq_fast]; kernel_rfl
  · first | exact .inl (by decide +kernel) | exact .inr (by decide +kernel)
  · rw [isSubtype_type]; kernel_rfl
theorem entry_si_next : entryFor table "set_iterator.__next__" = some Builtin.«set_iterator.__next__» := entryFor_of_tree (by kernel_rfl)
theorem args_si_next (a : Value) : argsOk "set_iterator.__next__" ⟨[a], []⟩ := by unfold argsOk; kernel_rfl
theorem entry_s_iter : entryFor table "set.__iter__" = some Builtin.«frozenset.__iter__» :=
  entryFor_alias (id' := "frozenset.__iter__") (by kernel_rfl) (by first | rfl | decide +kernel) (by decide +kernel) (by kernel_rfl)
theorem erase_perm {α : Type} : ∀ {l : List α} {i : Nat} (h : i < l.length), (l[i] :: l.eraseIdx i).Perm l
  | x :: xs, 0, _ => by simp
  | x :: xs, i + 1, h => by
    simp only [List.getElem_cons_succ, List.eraseIdx_cons_succ]
    exact (List.Perm.swap _ _ _).trans ((erase_perm (by simpa using h)).cons x)
section
variable {α : Type} {M : Model} {A : Around} {E : Value → Shared → Prop} {s : Shared}
theorem choose_ok {src : Source} {n : Nat} {Q : Nat → Shared → Prop} (hn : 0 < n) (h : ∀ i d, i < n → Q i { s with drawn := d }) : wpAny M A (choose src n) Q E s :=
  fun _ _ _ => ⟨Nat.pos_iff_ne_zero.mp hn, h _ _ (Nat.mod_lt _ hn)⟩
theorem draw_ok (n : Nat) : ∀ (xs : List α) (s : Shared) (Q : List α → Shared → Prop), xs.length = n → (∀ ys d, ys.Perm xs → Q ys { s with drawn := d }) → wpAny M A (drawOrder n xs) Q E s := by
  induction n with
  | zero =>
    intro xs s Q hl h
    have e : xs = [] := List.length_eq_zero_iff.mp hl
    subst e
    exact wpAny_pure (h [] s.drawn (List.Perm.refl _))
  | succ n ih =>
    intro xs s Q hl h
    cases xs with
    | nil => cases hl
    | cons x xs =>
      unfold drawOrder
      refine wpAny_bind (choose_ok (by simp) fun i d hi => ?_)
      rw [List.getElem?_eq_getElem hi]
      dsimp only
      refine wpAny_bind (ih _ _ _ (by rw [List.length_eraseIdx_of_lt hi]; simp at hl; simp; omega) fun ys d' hp => wpAny_pure ?_)
      exact h _ d' ((hp.cons _).trans (erase_perm hi))
end
end HS
namespace HS
open PySem PySem.Spec PyProof.Rows
noncomputable abbrev bt (w : World) : Bool := w.params.followText "set-order"
noncomputable def itObj (f : Value) (i : Nat) (a : Addr) (n ep : Nat) : Obj := { cls := .type "set_iterator", data := .fields #[f, .int i 0, .ref a, .int n 0, .int ep 0] }
theorem itT {s : Shared} {I : Addr} {f : Value} {i : Nat} {a : Addr} {n ep : Nat} (h : s.heap.get? I = some (itObj f i a n ep)) : s.TypeIs (.ref I) "set_iterator" := ⟨_, h, rfl⟩
theorem below_at {t : SetTable} (r : t.place.toList.Pairwise (· < ·)) (i : Nat) (hi : i ≤ t.place.size) : SetTable.below t.place (if h : 0 < i then t.place[i - 1]'(by omega) + 1 else 0) = i := by
  obtain ⟨b1, b2, b3⟩ := below_ok (if h : 0 < i then t.place[i - 1]'(by omega) + 1 else 0) r
  generalize hB : SetTable.below t.place (if h : 0 < i then t.place[i - 1]'(by omega) + 1 else 0) = B at *
  have lt : ∀ (x y : Nat) (hx : x < t.place.size) (hy : y < t.place.size), x < y → t.place[x] < t.place[y] := fun x y hx hy hxy => by
    have := List.pairwise_iff_getElem.mp r x y (by simpa using hx) (by simpa using hy) hxy
    simpa using this
  rcases Nat.lt_trichotomy B i with h | h | h
  · exfalso
    have hp : 0 < i := by omega
    simp only [hp, dite_true] at b3
    have h1 := b3 B (by omega) (Nat.le_refl _)
    rcases Nat.lt_or_ge B (i - 1) with h2 | h2
    · have := lt B (i - 1) (by omega) (by omega) h2; omega
    · have : B = i - 1 := by omega
      subst this; omega
  · exact h
  · exfalso
    have h1 := b2 i (by omega) h
    by_cases hp : 0 < i
    · simp only [hp, dite_true] at h1
      have := lt (i - 1) i (by omega) (by omega) (by omega)
      omega
    · simp only [hp, dite_false] at h1
      omega
section
variable {prog : Program} {w : World} {A : Around} {E : Value → Shared → Prop} {s : Shared}
theorem next_plain {led : Bool} {a : Addr} {o : Obj} {es : Array (Int × Value)} {ep : Nat} {t : SetTable} {xs : List Int} {i : Nat} {Q : Option (Value × Nat) → Shared → Prop} (hb : bt w = false) (hl : led = true)
    (ho : s.heap.get? a = some o) (hd : o.data = .set es ep t) (G : TabOk led es t xs) (hdr : (!t.plain && decide (es.size > 1)) = false) (hi : i ≤ es.size) (hp : t.place.size = es.size)
    (h : Q (if hlt : i < es.size then some (es[i].2, t.place[i] + 1) else none) s) :
    wpAny (model prog w) A (setNext a (if h : 0 < i then t.place[i - 1]'(by omega) + 1 else 0) i ep) Q E s := by
  have r : t.place.toList.Pairwise (· < ·) := by
    cases hpl : t.plain with
    | true => exact G.rs hpl
    | false =>
      have h1 : ¬ es.size > 1 := by simpa [hpl] using hdr
      have : t.place.toList.length ≤ 1 := by simp; omega
      match hq : t.place.toList, this with
      | [], _ => exact List.Pairwise.nil
      | [x], _ => exact List.pairwise_singleton _ _
  unfold setNext
  refine wpAny_bind (wpAny_setState_of ho hd G.ft ?_)
  dsimp only
  unfold setsByText
  refine wpAny_bind (wpAny_bind (wpAny_askSetting (wpAny_pure ?_)))
  dsimp only
  rw [show ((model prog w).w.params.followText "set-order") = false from hb]
  simp only [Bool.false_eq_true, ↓reduceIte]
  split
  · rename_i hc
    have : (!t.plain && decide (es.size > 1)) = true := hc
    rw [hdr] at this; cases this
  · refine wpAny_bind (show wpAny _ _ (if (!t.led && !es.isEmpty) = true then unsupported "set:maker-not-led" else pure ()) _ _ _ from ?_)
    rw [if_neg (by rw [G.ld, hl]; simp)]
    refine wpAny_pure ?_
    rw [below_at r i (by omega)]
    refine wpAny_pure ?_
    by_cases hlt : i < es.size
    · have h2 : i < t.place.size := by omega
      rw [dif_pos hlt] at h
      rw [Array.getElem?_eq_getElem hlt, Array.getElem?_eq_getElem h2]
      exact h
    · rw [dif_neg hlt] at h
      rw [Array.getElem?_eq_none (by omega)]
      exact h
theorem pick_go {α : Type} (nx : Nat → Nat) : ∀ (fuel k : Nat) (left : List α) (out : Array α), left.length = fuel → (pickOrder.go nx fuel k left out).toList.Perm (out.toList ++ left)
  | 0, k, [], out, _ => by unfold pickOrder.go; simp
  | fuel + 1, k, x :: xs, out, hl => by
    unfold pickOrder.go
    have hlt : nx k % (x :: xs).length < (x :: xs).length := Nat.mod_lt _ (by simp)
    generalize nx k % (x :: xs).length = j at hlt
    rw [List.getElem?_eq_getElem hlt]
    dsimp only
    refine (pick_go nx fuel (k + 1) _ _ (by rw [List.length_eraseIdx_of_lt hlt]; simp at hl; simp; omega)).trans ?_
    rw [Array.toList_push, List.append_assoc]
    exact (List.Perm.refl _).append (erase_perm hlt)
theorem pick_perm {α : Type} (nx : Nat → Nat) (xs : Array α) : (pickOrder nx xs).toList.Perm xs.toList := by
  have := pick_go nx xs.size 0 xs.toList #[] (by simp)
  simpa [pickOrder] using this
theorem next_text {led : Bool} {a : Addr} {o : Obj} {es : Array (Int × Value)} {ep : Nat} {t : SetTable} {xs : List Int} {sl i : Nat} {Q : Option (Value × Nat) → Shared → Prop} (hb : bt w = true)
    (ho : s.heap.get? a = some o) (hd : o.data = .set es ep t) (G : TabOk led es t xs)
    (h : Q (((pickOrder (w.params.setOrder a ep) es)[i]?).map fun e => (e.2, sl)) s) :
    wpAny (model prog w) A (setNext a sl i ep) Q E s := by
  unfold setNext
  refine wpAny_bind (wpAny_setState_of ho hd G.ft ?_)
  dsimp only
  unfold setsByText
  refine wpAny_bind (wpAny_bind (wpAny_askSetting (wpAny_pure ?_)))
  dsimp only
  rw [show ((model prog w).w.params.followText "set-order") = true from hb]
  simp only [bne_self_eq_false, Bool.false_eq_true, ↓reduceIte]
  unfold setWalk setsByText
  refine wpAny_bind (wpAny_bind (wpAny_setState_of ho hd G.ft (wpAny_bind (wpAny_bind (wpAny_askSetting (wpAny_pure ?_))))))
  dsimp only
  rw [show ((model prog w).w.params.followText "set-order") = true from hb]
  simp only [↓reduceIte]
  refine wpAny_bind (wpAny_askSetting (wpAny_pure (wpAny_pure ?_)))
  exact h
end
end HS
namespace HS
open PySem PySem.Spec PyProof.Rows
section
variable {prog : Program} {w : World} {A : Around} {E : Value → Shared → Prop} {s : Shared}
theorem ends_ok {M : Model} {E : Value → Shared → Prop} {s : Shared} {A : Around} {Q : Fin → Shared → Prop} (hh : A.handled = none)
    (h : ∀ h' a, (∀ b o, s.heap.get? b = some o → h'.get? b = some o) → Shared.TypeIs { s with heap := h' } (.ref a) "StopIteration" → E (.ref a) { s with heap := h' }) :
    wpAny M A (newExc (.type "StopIteration") [] >>= fun e => raiseNew e) Q E s := by
  refine wpAny_bind ?_
  simp only [newExc, newTuple]
  refine wpAny_bind (wpAny_newObj_type ?_ (by size_fits))
  refine wpAny_bind (m := firstArgMember _ _) (wpAny_of_eq (a := Value.none) (by first | rfl | (simp only [firstArgMember]; rfl)) ?_)
  refine wpAny_newObj_type ?_ (by size_fits)
  simp only [raiseNew]
  refine wpAny_bind (wpAny_handled ?_)
  rw [hh]
  refine wpAny_bind (wpAny_pure (wpAny_throw (h _ _ (fun b o e => Heap.get?_push_of_some _ (Heap.get?_push_of_some _ e)) ?_)))
  exact ⟨_, Heap.get?_push_size _ rfl, rfl⟩
theorem it_item {led : Bool} {I a : Addr} {o : Obj} {es : Array (Int × Value)} {ep : Nat} {t : SetTable} {xs : List Int} {i sl sl' : Nat} {x : Value} {Q : Option Value → Shared → Prop}
    (hI : s.heap.get? I = some (itObj (.int sl 0) i a es.size ep)) (ho : s.heap.get? a = some o) (hd : o.data = .set es ep t) (G : TabOk led es t xs)
    (hnx : ∀ A' E' (Q' : Option (Value × Nat) → Shared → Prop), Q' (some (x, sl')) s → wpAny (model prog w) A' (setNext a sl i ep) Q' E' s)
    (h : ∀ h', h'.get? I = some (itObj (.int sl' 0) (i + 1) a es.size ep) → Heap.SameBut I s.heap h' → Q (some x) { s with heap := h' }) : wpAny (model prog w) A (pyNext (.ref I)) Q E s := by
  unfold pyNext
  refine wpAny_bind (wpAny_attempt (wpAny_callSpecial?_slot (name := Str.ofString "__next__") (itT hI) slot_si_next (wpAny_call_entry slot_si_next (itT hI) entry_si_next ?_ (args_si_next _))))
  unfold Builtin.«set_iterator.__next__»
  refine wpAny_bind (show wpAny _ _ (pure (Value.ref I, ([] : List Value))) _ _ _ from wpAny_pure ?_)
  refine wpAny_bind (wpAny_fieldsOf hI rfl ?_)
  dsimp only
  unfold setEntries
  refine wpAny_bind (wpAny_bind (wpAny_setState_of ho hd G.ft (wpAny_pure ?_)))
  dsimp only
  rw [if_neg (by simp)]
  refine wpAny_bind (show wpAny _ _ (setNext a sl i ep) _ _ _ from hnx _ _ _ ?_)
  dsimp only
  refine wpAny_bind (wpAny_setField hI rfl (by simp) ?_)
  have h1 := Heap.get?_update_self (Obj.mapFields (·.setIfInBounds 0 (rawInt (sl' : Int)))) hI rfl
  refine wpAny_bind (wpAny_setField (s := { s with heap := _ }) h1 rfl (by simp) ?_)
  have h2 := Heap.get?_update_self (Obj.mapFields (·.setIfInBounds 1 (rawInt ((i : Int) + 1)))) h1 rfl
  refine wpAny_pure ⟨x, rfl, wpAny_pure (h _ (h2.trans ?_) ((Heap.SameBut.update ..).trans (Heap.SameBut.update ..)))⟩
  rfl
theorem it_end {led : Bool} {I a : Addr} {o : Obj} {es : Array (Int × Value)} {ep : Nat} {t : SetTable} {xs : List Int} {i sl : Nat} {Q : Option Value → Shared → Prop} (hh : A.handled = none)
    (hI : s.heap.get? I = some (itObj (.int sl 0) i a es.size ep)) (ho : s.heap.get? a = some o) (hd : o.data = .set es ep t) (G : TabOk led es t xs)
    (hnx : ∀ A' E' (Q' : Option (Value × Nat) → Shared → Prop), Q' none s → wpAny (model prog w) A' (setNext a sl i ep) Q' E' s)
    (h : ∀ h', (∀ b o, b ∉ [I] → s.heap.get? b = some o → h'.get? b = some o) → Q none { s with heap := h' }) : wpAny (model prog w) A (pyNext (.ref I)) Q E s := by
  unfold pyNext
  refine wpAny_bind (wpAny_attempt (wpAny_callSpecial?_slot (name := Str.ofString "__next__") (itT hI) slot_si_next (wpAny_call_entry slot_si_next (itT hI) entry_si_next ?_ (args_si_next _))))
  unfold Builtin.«set_iterator.__next__»
  refine wpAny_bind (show wpAny _ _ (pure (Value.ref I, ([] : List Value))) _ _ _ from wpAny_pure ?_)
  refine wpAny_bind (wpAny_fieldsOf hI rfl ?_)
  dsimp only
  unfold setEntries
  refine wpAny_bind (wpAny_bind (wpAny_setState_of ho hd G.ft (wpAny_pure ?_)))
  dsimp only
  rw [if_neg (by simp)]
  refine wpAny_bind (show wpAny _ _ (setNext a sl i ep) _ _ _ from hnx _ _ _ ?_)
  dsimp only
  refine wpAny_bind (wpAny_setField hI rfl (by simp) ?_)
  refine ends_ok (show A.in1.handled = none from hh) fun h' b kp hT => ?_
  refine wpAny_bind (wpAny_isInstance (T := "StopIteration") (b := true) hT isSubtype_stop ?_)
  exact wpAny_pure (h _ fun b o hb e => kp b o (by rw [Heap.get?_update_other _ _ (fun q : I = b => hb (by simp [q]))]; exact e))
theorem it_itemB {led : Bool} {I a tp : Addr} {o : Obj} {es : Array (Int × Value)} {ep : Nat} {t : SetTable} {xs : List Int} {i : Nat} {pl : List Nat} {x : Int × Value} {p : Nat} {Q : Option Value → Shared → Prop}
    (hI : s.heap.get? I = some (itObj (.ref tp) i a es.size ep)) (htp : s.heap.get? tp = some { cls := .type "tuple", data := .seq (pl.map fun i : Nat => rawInt i).toArray })
    (ho : s.heap.get? a = some o) (hd : o.data = .set es ep t) (G : TabOk led es t xs) (hp : pl[i]? = some p) (hx : es[p]? = some x)
    (h : ∀ h', h'.get? I = some (itObj (.ref tp) (i + 1) a es.size ep) → Heap.SameBut I s.heap h' → Q (some x.2) { s with heap := h' }) : wpAny (model prog w) A (pyNext (.ref I)) Q E s := by
  unfold pyNext
  refine wpAny_bind (wpAny_attempt (wpAny_callSpecial?_slot (name := Str.ofString "__next__") (itT hI) slot_si_next (wpAny_call_entry slot_si_next (itT hI) entry_si_next ?_ (args_si_next _))))
  unfold Builtin.«set_iterator.__next__»
  refine wpAny_bind (show wpAny _ _ (pure (Value.ref I, ([] : List Value))) _ _ _ from wpAny_pure ?_)
  refine wpAny_bind (wpAny_fieldsOf hI rfl ?_)
  dsimp only
  unfold setEntries
  refine wpAny_bind (wpAny_bind (wpAny_setState_of ho hd G.ft (wpAny_pure ?_)))
  dsimp only
  rw [if_neg (by simp)]
  refine wpAny_bind (wpAny_seqItems htp rfl ?_)
  dsimp only
  have hq : (pl.map fun i : Nat => rawInt i).toArray[((i : Nat) : Int).toNat]? = some (.int p 0) := by simp [hp, rawInt]
  rw [hq]
  dsimp only
  unfold setNextDrawn
  refine wpAny_bind (wpAny_bind (wpAny_setState_of ho hd G.ft ?_))
  dsimp only
  rw [if_neg (by simp)]
  simp only [Int.toNat_natCast, hx]
  refine wpAny_pure (wpAny_bind (wpAny_setField hI rfl (by simp) ?_))
  have h1 := Heap.get?_update_self (Obj.mapFields (·.setIfInBounds 1 (rawInt ((i : Int) + 1)))) hI rfl
  exact wpAny_pure ⟨x.2, rfl, wpAny_pure (h _ (h1.trans rfl) (Heap.SameBut.update ..))⟩
theorem it_endB {led : Bool} {I a tp : Addr} {o : Obj} {es : Array (Int × Value)} {ep : Nat} {t : SetTable} {xs : List Int} {i : Nat} {pl : List Nat} {Q : Option Value → Shared → Prop} (hh : A.handled = none)
    (hI : s.heap.get? I = some (itObj (.ref tp) i a es.size ep)) (htp : s.heap.get? tp = some { cls := .type "tuple", data := .seq (pl.map fun i : Nat => rawInt i).toArray })
    (ho : s.heap.get? a = some o) (hd : o.data = .set es ep t) (G : TabOk led es t xs) (hp : pl.length ≤ i)
    (h : ∀ h', (∀ b o, b ∉ [I] → s.heap.get? b = some o → h'.get? b = some o) → Q none { s with heap := h' }) : wpAny (model prog w) A (pyNext (.ref I)) Q E s := by
  unfold pyNext
  refine wpAny_bind (wpAny_attempt (wpAny_callSpecial?_slot (name := Str.ofString "__next__") (itT hI) slot_si_next (wpAny_call_entry slot_si_next (itT hI) entry_si_next ?_ (args_si_next _))))
  unfold Builtin.«set_iterator.__next__»
  refine wpAny_bind (show wpAny _ _ (pure (Value.ref I, ([] : List Value))) _ _ _ from wpAny_pure ?_)
  refine wpAny_bind (wpAny_fieldsOf hI rfl ?_)
  dsimp only
  unfold setEntries
  refine wpAny_bind (wpAny_bind (wpAny_setState_of ho hd G.ft (wpAny_pure ?_)))
  dsimp only
  rw [if_neg (by simp)]
  refine wpAny_bind (wpAny_seqItems htp rfl ?_)
  dsimp only
  have hq : (pl.map fun i : Nat => rawInt i).toArray[((i : Nat) : Int).toNat]? = none := by simp; omega
  rw [hq]
  dsimp only
  refine wpAny_bind (wpAny_setField hI rfl (by simp) ?_)
  have h1 := Heap.get?_update_self (Obj.mapFields (·.setIfInBounds 0 (rawInt 0))) hI rfl
  refine wpAny_bind (wpAny_setField (s := { s with heap := _ }) h1 rfl (by simp) ?_)
  refine ends_ok (show A.in1.handled = none from hh) fun h' b kp hT => ?_
  refine wpAny_bind (wpAny_isInstance (T := "StopIteration") (b := true) hT isSubtype_stop ?_)
  refine wpAny_pure (h _ fun b o hb e => kp b o ?_)
  have ne : I ≠ b := fun q => hb (by simp [q])
  rw [Heap.get?_update_other _ _ ne, Heap.get?_update_other _ _ ne]; exact e
end
end HS
namespace HS
open PySem PySem.Spec PyProof.Rows
theorem slot_si_iter : Slot "set_iterator" "__iter__" "set_iterator.__iter__" := by
  refine .of (owner := "set_iterator") (n := "__iter__") ?_ (by decide +kernel) (by decide +kernel) (by decide +kernel) ?_ ?_
  · rw [typeLookup_type, builtinLookup_eq_fast]; kernel_rfl
  · first | exact .inl (by decide +kernel) | exact .inr (by decide +kernel)
  · rw [isSubtype_type]; kernel_rfl
theorem args_si_iter (a : Value) : argsOk "set_iterator.__iter__" ⟨[a], []⟩ := by unfold argsOk; kernel_rfl
theorem entry_si_iter : entryFor table "set_iterator.__iter__" = some Builtin.«dict_keyiterator.__iter__» :=
  entryFor_alias (id' := "dict_keyiterator.__iter__") (by kernel_rfl) (by first | rfl | decide +kernel) (by decide +kernel) (by kernel_rfl)
section
variable {prog : Program} {w : World} {A : Around} {E : Value → Shared → Prop} {s : Shared}
theorem self_ok {I : Addr} {f : Value} {i : Nat} {a : Addr} {n ep : Nat} {Q : Value → Shared → Prop} (hI : s.heap.get? I = some (itObj f i a n ep)) (h : Q (.ref I) s) : wpAny (model prog w) A (pyIter (.ref I)) Q E s := by
  refine wpAny_pyIter_slot (itT hI) slot_si_iter (wpAny_call_entry slot_si_iter (itT hI) entry_si_iter ?_ (args_si_iter _))
  exact (show wpAny _ _ (ret (.ref I)) _ _ s from wpAny_pure ⟨_, rfl, "set_iterator", _, itT hI, slot_si_next.lookup, h⟩)
end
variable {prog : Program} {w : World}
abbrev nth (ord : List (Int × Value)) (i : Nat) (x : Value) : Prop := (ord[i]?).map (·.2) = some x
theorem walksA {A : Around} (hh : A.handled = none) {led : Bool} {I a : Addr} (hne : a ≠ I) {o : Obj} {es : Array (Int × Value)} {ep : Nat} {t : SetTable} {xs : List Int} (hd : o.data = .set es ep t) (G : TabOk led es t xs)
    (ord : List (Int × Value)) (hl : ord.length = es.size) (sl : Nat → Nat)
    (hnx : ∀ i (s : Shared) A' E' (Q' : Option (Value × Nat) → Shared → Prop), i ≤ es.size → s.heap.get? a = some o → Q' ((ord[i]?).map fun e => (e.2, sl (i + 1))) s → wpAny (model prog w) A' (setNext a (sl i) i ep) Q' E' s) :
    Walks prog w A I [I, a] [I] ord.length (nth ord) (fun i h => h.get? I = some (itObj (.int (sl i) 0) i a es.size ep) ∧ h.get? a = some o) where
  sub := fun b hb => by simp at hb; simp [hb]
  frame := fun _ _ _ st hk => ⟨hk I (by simp) _ st.1, hk a (by simp) _ st.2⟩
  item := fun i s Q E hi st hQ => by
    have hx : ord[i]? = some ord[i] := List.getElem?_eq_getElem hi
    refine it_item (x := ord[i].2) (sl' := sl (i + 1)) st.1 st.2 hd G (fun A' E' Q' q => hnx i s A' E' Q' (by omega) st.2 (by rw [hx]; exact q)) fun h' hI' hs => ?_
    refine hQ _ h' s.toks (by simp [nth, hx]) ⟨hI', hs.extBut a o hne st.2⟩ fun b o hb e => hs.extBut b o (fun h => hb (by simp [h])) e
  done := fun s Q E st hQ => by
    refine it_end hh st.1 st.2 hd G (fun A' E' Q' q => hnx _ s A' E' Q' (by omega) st.2 (by rw [List.getElem?_eq_none (by omega)]; exact q)) fun h' hk => hQ h' s.toks hk
  self := fun _ _ _ _ st hQ => self_ok st.1 hQ
theorem walksB {A : Around} (hh : A.handled = none) {led : Bool} {I a tp : Addr} (hne : a ≠ I) (hnt : tp ≠ I) {o : Obj} {es : Array (Int × Value)} {ep : Nat} {t : SetTable} {xs : List Int} (hd : o.data = .set es ep t) (G : TabOk led es t xs)
    (pl : List Nat) (hpl : ∀ p ∈ pl, p < es.size) :
    Walks prog w A I [I, a, tp] [I] pl.length (nth (pl.filterMap (es[·]?))) (fun i h => h.get? I = some (itObj (.ref tp) i a es.size ep) ∧ h.get? a = some o ∧ h.get? tp = some { cls := .type "tuple", data := .seq (pl.map fun i : Nat => rawInt i).toArray }) where
  sub := fun b hb => by simp at hb; simp [hb]
  frame := fun _ _ _ st hk => ⟨hk I (by simp) _ st.1, hk a (by simp) _ st.2.1, hk tp (by simp) _ st.2.2⟩
  item := fun i s Q E hi st hQ => by
    have hp : pl[i]? = some pl[i] := List.getElem?_eq_getElem hi
    have hx : es[pl[i]]? = some (es[pl[i]]'(hpl _ (List.getElem_mem hi))) := Array.getElem?_eq_getElem _
    have hmap : pl.filterMap (es[·]?) = pl.pmap (fun p h => es[p]'h) hpl := by
      clear hQ st hp hx hi
      induction pl with
      | nil => rfl
      | cons p ps ih => rw [List.filterMap_cons_some (b := es[p]'(hpl p (by simp))) (Array.getElem?_eq_getElem _), ih (fun q hq => hpl q (by simp [hq]))]; rfl
    refine it_itemB st.1 st.2.2 st.2.1 hd G hp hx fun h' hI' hs => ?_
    refine hQ _ h' s.toks ?_ ⟨hI', hs.extBut a o hne st.2.1, hs.extBut tp _ hnt st.2.2⟩ fun b o hb e => hs.extBut b o (fun h => hb (by simp [h])) e
    rw [hmap]; simp [nth, hp]
  done := fun s Q E st hQ => it_endB hh st.1 st.2.2 st.2.1 hd G (Nat.le_refl _) fun h' hk => hQ h' s.toks hk
  self := fun _ _ _ _ st hQ => self_ok st.1 hQ
end HS
namespace HS
open PySem PySem.Spec PyProof.Rows
theorem filter_perm {es : Array (Int × Value)} {pl : List Nat} (h : pl.Perm (List.range es.size)) : (pl.filterMap (es[·]?)).Perm es.toList :=
  (h.filterMap _).trans (by rw [filterMap_getElem?_range])
theorem filter_len {es : Array (Int × Value)} {pl : List Nat} (h : pl.Perm (List.range es.size)) : (pl.filterMap (es[·]?)).length = pl.length := by
  rw [(filter_perm h).length_eq, h.length_eq]; simp
noncomputable def slotOf (t : SetTable) (i : Nat) : Nat := if h : 0 < i ∧ i ≤ t.place.size then t.place[i - 1]'(by omega) + 1 else 0
section
variable {prog : Program} {w : World} {A : Around} {E : Value → Shared → Prop} {s : Shared}
theorem iter_set {a : Addr} {o : Obj} {es : Array (Int × Value)} {ep : Nat} {t : SetTable} {xs : List Int} {Q : Value → Shared → Prop} (ho : s.heap.get? a = some o) (hx : o.ExactSet) (hd : o.data = .set es ep t) (G : TabOk (!bt w) es t xs)
    (h : ∀ (h' : Heap) (d : Drawn) (I : Addr) (fp : List Addr) (St : Nat → Heap → Prop) (ord : List (Int × Value)), (∀ A', A'.handled = none → Walks prog w A' I fp [I] ord.length (nth ord) St) → St 0 h' → (∀ b ∈ fp, b = a ∨ s.heap.objs.size ≤ b) →
      (∀ b o, s.heap.get? b = some o → h'.get? b = some o) → s.heap.objs.size ≤ I → ord.Perm es.toList → Q (.ref I) { s with heap := h', drawn := d }) :
    wpAny (model prog w) A (pyIter (.ref a)) Q E s := by
  have hlt := Heap.lt_size ho
  have hT : s.TypeIs (.ref a) "set" := ⟨o, ho, hx.1⟩
  have hpz : t.place.size = es.size := by have := G.ft; simp [SetTable.fits] at this; exact this.1
  refine wpAny_pyIter_slot hT F.slot_set_iter (wpAny_call_entry F.slot_set_iter hT entry_s_iter ?_ (F.args_set_iter_1 _))
  unfold Builtin.«frozenset.__iter__» Builtin.Frozenset.slot0 Builtin.Frozenset.sizeOf
  refine wpAny_bind (wpAny_bind (show wpAny _ _ (pure (Value.ref a, ([] : List Value))) _ _ _ from wpAny_pure (show wpAny _ _ (pure a) _ _ _ from wpAny_pure ?_)))
  unfold setEntries
  refine wpAny_bind (wpAny_bind (wpAny_bind (wpAny_setState_of ho hd G.ft (wpAny_pure (wpAny_pure ?_)))))
  dsimp only
  unfold setDrawn setsByText
  refine wpAny_bind (wpAny_bind (wpAny_setState_of ho hd G.ft (wpAny_bind (wpAny_bind (wpAny_askSetting (wpAny_pure (wpAny_pure ?_)))))))
  dsimp only
  split
  · rename_i hc
    have hdr : (!bt w && (!t.plain && decide (es.size > 1))) = true := hc
    simp only [Bool.and_eq_true] at hdr
    refine wpAny_bind (draw_ok es.size (List.range es.size) _ _ (by simp) fun pl d hp => ?_)
    unfold newTuple
    refine wpAny_bind (wpAny_newObj_type ?_ (show (pl.map fun i : Nat => rawInt i).toArray.size ≤ sizeLine by have := fits_of_scanBound G.bd; rw [List.size_toArray, List.length_map, hp.length_eq, List.length_range]; exact this))
    unfold setEpoch
    refine wpAny_bind (wpAny_bind (wpAny_setState_of (Heap.get?_push_of_some _ ho) hd G.ft (wpAny_pure ?_)))
    unfold newFields
    refine wpAny_bind (wpAny_newObj_type (wpAny_pure ⟨_, rfl, "set_iterator", _, ⟨_, Heap.get?_push_size _ rfl, rfl⟩, slot_si_next.lookup, ?_⟩))
    have hz : (s.heap.push { cls := .type "tuple", data := .seq (pl.map fun i : Nat => rawInt i).toArray }).objs.size = s.heap.objs.size + 1 := Heap.size_push ..
    refine h _ d _ [_, a, s.heap.objs.size] _ (pl.filterMap (es[·]?)) (fun A' hA => by rw [filter_len hp]; exact walksB hA (I := (s.heap.push { cls := .type "tuple", data := .seq (pl.map fun i : Nat => rawInt i).toArray }).objs.size) (tp := s.heap.objs.size) (by rw [hz]; exact Nat.ne_of_lt (Nat.lt_succ_of_lt hlt)) (by rw [hz]; exact Nat.ne_of_lt (Nat.lt_succ_self _)) hd G pl (fun p hp' => by simpa using hp.mem_iff.mp hp')) ?_ ?_ ?_ ?_ (filter_perm hp)
    · exact ⟨Heap.get?_push_size _ rfl, Heap.get?_push_of_some _ (Heap.get?_push_of_some _ ho), Heap.get?_push_of_some _ (Heap.get?_push_size _ rfl)⟩
    · intro b hb
      simp only [List.mem_cons, List.not_mem_nil, or_false] at hb
      rcases hb with rfl | rfl | rfl
      · right; rw [hz]; exact Nat.le_succ _
      · left; rfl
      · right; exact Nat.le_refl _
    · exact fun b o e => Heap.get?_push_of_some _ (Heap.get?_push_of_some _ e)
    · rw [hz]; exact Nat.le_succ _
  · rename_i hc
    have hdr : ¬ (!bt w && (!t.plain && decide (es.size > 1))) = true := hc
    refine wpAny_bind (wpAny_pure ?_)
    unfold setEpoch
    refine wpAny_bind (wpAny_bind (wpAny_setState_of ho hd G.ft (wpAny_pure ?_)))
    unfold newFields
    refine wpAny_bind (wpAny_newObj_type (wpAny_pure ⟨_, rfl, "set_iterator", _, ⟨_, Heap.get?_push_size _ rfl, rfl⟩, slot_si_next.lookup, ?_⟩))
    have kp : ∀ b o, s.heap.get? b = some o → (s.heap.push (itObj (.int ((0 : Nat) : Int) 0) 0 a es.size ep)).get? b = some o := fun b o e => Heap.get?_push_of_some _ e
    have fpo : ∀ b ∈ [s.heap.objs.size, a], b = a ∨ s.heap.objs.size ≤ b := fun b hb => by
      simp only [List.mem_cons, List.not_mem_nil, or_false] at hb
      rcases hb with rfl | rfl
      · right; exact Nat.le_refl _
      · left; rfl
    cases hb : bt w with
    | true =>
      refine h _ s.drawn _ [s.heap.objs.size, a] _ (pickOrder (w.params.setOrder a ep) es).toList (fun A' hA => walksA hA (Nat.ne_of_lt hlt) hd G _ (by have := (pick_perm (w.params.setOrder a ep) es).length_eq; simpa using this) (fun _ => 0) ?_) ⟨Heap.get?_push_size _ rfl, kp _ _ ho⟩ fpo kp (Nat.le_refl _) (pick_perm _ _)
      intro i s' A' E' Q' hi ho' q
      exact next_text hb ho' hd G (by rw [Array.getElem?_toList] at q; exact q)
    | false =>
      rw [hb] at hdr G
      have hdr' : (!t.plain && decide (es.size > 1)) = false := by simpa using hdr
      refine h _ s.drawn _ [s.heap.objs.size, a] _ es.toList (fun A' hA => walksA hA (Nat.ne_of_lt hlt) hd G es.toList (by simp) (slotOf t) ?_) ⟨Heap.get?_push_size _ rfl, kp _ _ ho⟩ fpo kp (Nat.le_refl _) (List.Perm.refl _)
      intro i s' A' E' Q' hi ho' q
      have e1 : slotOf t i = (if h : 0 < i then t.place[i - 1]'(by omega) + 1 else 0) := by
        by_cases h0 : 0 < i
        · unfold slotOf; rw [dif_pos ⟨h0, by omega⟩, dif_pos h0]
        · unfold slotOf; rw [dif_neg (fun h => h0 h.1), dif_neg h0]
      rw [e1]
      refine next_plain hb rfl ho' hd G hdr' hi hpz ?_
      by_cases hlt : i < es.size
      · rw [dif_pos hlt]
        rw [Array.getElem?_toList, Array.getElem?_eq_getElem hlt] at q
        simp only [Option.map_some] at q
        unfold slotOf at q
        rw [dif_pos ⟨by omega, by omega⟩] at q
        exact q
      · rw [dif_neg hlt]
        rw [List.getElem?_eq_none (by simp; omega)] at q
        exact q
theorem acc_ord {ord : List (Int × Value)} {acc : Array Value} (h : ItemsOf (nth ord) acc ord.length) : acc.toList = ord.map (·.2) := by
  refine List.ext_getElem? fun i => ?_
  rw [List.getElem?_map, Array.getElem?_toList]
  rcases Nat.lt_or_ge i ord.length with hi | hi
  · have hs : i < acc.size := by rw [h.1]; exact hi
    have := h.2 i acc[i] (Array.getElem?_eq_getElem hs)
    rw [Array.getElem?_eq_getElem hs]; exact this.symm
  · rw [List.getElem?_eq_none hi, Array.getElem?_eq_none (by rw [h.1]; exact hi)]; rfl
theorem ord_ints {ord : List (Int × Value)} (h : ∀ e ∈ ord, IsE e) : IntsAre (ord.map (·.2)) (ord.map val) := by
  induction ord with
  | nil => exact .nil
  | cons e r ih =>
    obtain ⟨n, t, rfl⟩ := h _ (List.mem_cons_self ..)
    exact .cons n t (ih fun e he => h e (List.mem_cons_of_mem _ he))
theorem hint_set {a : Addr} {Q : Bool → Shared → Prop} (hT : s.TypeIs (.ref a) "set") (h : Q false s) : wpAny (model prog w) A (Builtin.List.listLengthHint (.ref a)) Q E s := by
  unfold Builtin.List.listLengthHint
  refine wpAny_bind (wpAny_specialOf hT F.slot_set_len.lookup ?_)
  have hsp : splitId "set.__len__" = some ("set", "__len__") := by decide +kernel
  simp only [hsp]
  refine wpAny_bind (wpAny_isInstance hT sub_set_self ?_)
  simp only [Bool.not_true, Bool.false_eq_true, ↓reduceIte]
  refine (show wpAny _ _ (do let .ref _ ← typeOf (Value.ref a) | return false
                             let some k ← asInt? (← call (.builtin "len") [.ref a]) | unsupported "internal:len-gave-no-int"
                             return k != 0) _ _ _ from wpAny_bind (wpAny_typeOf hT (wpAny_pure h)))
theorem collect_set {a : Addr} {o : Obj} {xs : List Int} {Q : List Value → Shared → Prop} (hh : A.handled = none) (ho : s.heap.get? a = some o) (hS : SetG (!bt w) o xs)
    (h : ∀ (vs : List Value) (ns : List Int) (h' : Heap) (d : Drawn) (tk : Nat), IntsAre vs ns → ns.Perm xs → (∀ b o, s.heap.get? b = some o → h'.get? b = some o) → s.toks ≤ tk → s.heap.objs.size ≤ h'.objs.size → Q vs { s with heap := h', drawn := d, toks := tk }) :
    wpAny (model prog w) A (collect (.ref a)) Q E s := by
  obtain ⟨es, ep, t, hx, hd, G⟩ := hS
  have hlt := Heap.lt_size ho
  unfold collect
  refine wpAny_bind (wpAny_runValue (codeAny_builtin F.entry_proto_collect ?_))
  rw [Around.under_plainId F.plain_proto_collect _]
  refine (show wpAny _ A.in1 (newList [] >>= fun l => again (.builtin "list.__iadd__" ⟨[l, .ref a], []⟩)) _ _ s from wpAny_bind (wpAny_newObj_type ?_))
  refine wpAny_pure ⟨plainId_quiet F.plain_list_iadd _, codeAny_builtin F.entry_list_iadd ?_⟩
  rw [Around.under_plainId F.plain_list_iadd _]
  refine (show wpAny _ A.in1 (Builtin.List.listExtendWith (.ref s.heap.objs.size) (.ref a) (.ref s.heap.objs.size)) _ _ _ from ?_)
  unfold Builtin.List.listExtendWith
  have ho1 : (s.heap.push { cls := .type "list", data := .seq ([] : List Value).toArray }).get? a = some o := Heap.get?_push_of_some _ ho
  have hT : Shared.TypeIs { s with heap := s.heap.push { cls := .type "list", data := .seq ([] : List Value).toArray } } (.ref a) "set" := ⟨o, ho1, hx.1⟩
  refine wpAny_bind (wpAny_typeOf hT ?_)
  have h1 : Builtin.List.listSameRef (.ref s.heap.objs.size) (.ref a) = false := by simp [Builtin.List.listSameRef, Nat.ne_of_gt hlt]
  simp only [h1, show (Value.type "set" == Value.type "list") = false by decide, show (Value.type "set" == Value.type "tuple") = false by decide, Bool.or_false, Bool.false_eq_true, if_false]
  refine wpAny_bind (iter_set ho1 hx hd G fun h1 d I fp St ord W st hfp kp hI hord => ?_)
  have hTa : Shared.TypeIs { s with heap := h1, drawn := d } (.ref a) "set" := ⟨o, kp _ _ ho1, hx.1⟩
  refine wpAny_bind (wpAny_holding (hint_set hTa ?_))
  refine (show wpAny _ A.in1 (rule "list.extend.makes-room" >>= fun _ => Builtin.List.listTouch (.ref s.heap.objs.size) >>= fun _ =>
    again (.builtin "list.extend.loop" ⟨[.ref s.heap.objs.size, .ref I, .ref s.heap.objs.size], []⟩)) _ _ _ from wpAny_bind (wpAny_rule (wpAny_bind ?_)))
  have hL : h1.get? s.heap.objs.size = some { cls := .type "list", data := .seq ([] : List Value).toArray } := kp _ _ (Heap.get?_push_size _ rfl)
  have hsz : (s.heap.push { cls := .type "list", data := .seq ([] : List Value).toArray }).objs.size = s.heap.objs.size + 1 := Heap.size_push ..
  have hSf : s.heap.objs.size ∉ fp := fun hm => by
    rcases hfp _ hm with e | e
    · exact Nat.lt_irrefl _ (e ▸ hlt)
    · rw [hsz] at e; exact Nat.lt_irrefl _ e
  refine (show wpAny _ A.in1 (updateSeq s.heap.objs.size (·.push .none) >>= fun _ => updateSeq s.heap.objs.size (·.pop)) _ _ _ from wpAny_bind (wpAny_updateSeq hL rfl ?_))
  have hL2 := Heap.get?_update_self (Obj.mapSeq (·.push Value.none)) hL rfl
  refine wpAny_updateSeq (s := { s with heap := _, drawn := d }) hL2 rfl ?_
  have hL3 := Heap.get?_update_self (Obj.mapSeq (·.pop)) hL2 rfl
  have oth : ∀ b o, b ≠ s.heap.objs.size → h1.get? b = some o → ((h1.update s.heap.objs.size (Obj.mapSeq (·.push Value.none))).update s.heap.objs.size (Obj.mapSeq (·.pop))).get? b = some o :=
    fun b o hb e => (Heap.get?_update_other _ _ (Ne.symm hb)).trans ((Heap.get?_update_other _ _ (Ne.symm hb)).trans e)
  have W1 := W A.in1 (show A.in1.handled = none from hh)
  have hol : ord.length = es.size := by have := hord.length_eq; simpa using this
  refine wpAny_pure ⟨plainId_quiet F.plain_extend_loop _, codeAny_extend_loopS W1.toS (by rw [hol]; exact fits_of_scanBound G.bd) _ hSf _ ord.length 0 _ _ _ rfl (Nat.zero_le _)
    (W1.frame 0 h1 _ st fun b hb o e => oth b o (fun q => hSf (q ▸ hb)) e) hL3 (ItemsOf.nil _) fun s' acc c hm hS' hacc => ?_⟩
  refine (show wpAny _ A (load s.heap.objs.size >>= _) _ _ s' from wpAny_bind (wpAny_load hS' ?_))
  dsimp only
  obtain ⟨h', g', d', tk', os'⟩ := s'
  have eg : g' = s.gens := hm.gens
  have ed : d' = d := hm.drawn
  have eo : os' = s.os := hm.os
  subst eg; subst ed; subst eo
  refine wpAny_pure ?_
  rw [acc_ord hacc]
  refine h _ _ h' d' tk' (ord_ints fun e he => G.el e (hord.mem_iff.mp he)) ((hord.map val).trans G.pm) (fun b o e => hm.heap b o (fun hb => ?_) (oth b o (fun q => ?_) (kp _ _ (Heap.get?_push_of_some _ e)))) hm.toks (Nat.le_of_lt (Heap.lt_size hS'))
  · have hb1 := Heap.lt_size e
    simp only [List.mem_cons, List.not_mem_nil, or_false] at hb
    rcases hb with q | q
    · exact Nat.lt_irrefl _ (q ▸ hb1)
    · rw [hsz, ← q] at hI; exact Nat.lt_irrefl _ (Nat.lt_of_lt_of_le hb1 (Nat.le_of_succ_le hI))
  · exact Nat.lt_irrefl _ (q ▸ Heap.lt_size e)
end
end HS
namespace HS
open PySem PySem.Spec PyProof.Rows
end HS
namespace HS
open PySem PySem.Spec PyProof.Rows
theorem TabOk.perm {led : Bool} {es : Array (Int × Value)} {t : SetTable} {xs ys : List Int} (g : TabOk led es t xs) (p : xs.Perm ys) : TabOk led es t ys :=
  ⟨g.el, g.pm.trans p, p.nodup_iff.mp g.nd, g.bd, g.ft, g.rs, g.ld⟩
theorem TabOk.place {led : Bool} {es : Array (Int × Value)} {t : SetTable} {xs : List Int} (g : TabOk led es t xs) : t.place.size = es.size ∧ t.fill ≤ t.mask := by
  have := g.ft; simp [SetTable.fits] at this; exact this
section
variable {prog : Program} {w : World} {A : Around} {E : Value → Shared → Prop} {s : Shared}
end
end HS
namespace HS
open PySem PySem.Spec PyProof.Rows
section
variable {prog : Program} {w : World} {A : Around} {E : Value → Shared → Prop} {s : Shared}
end
end HS
namespace HS
open PySem PySem.Spec PyProof.Rows
section
variable {prog : Program} {w : World} {A : Around} {E : Value → Shared → Prop} {s : Shared}
end
end HS
namespace HS
open PySem PySem.Spec PyProof.Rows
section
variable {prog : Program} {w : World} {A : Around} {E : Value → Shared → Prop} {s : Shared}
end
end HS
namespace HS
open PySem PySem.Spec PyProof.Rows
section
variable {prog : Program} {w : World} {A : Around} {E : Value → Shared → Prop} {h : Heap} {g : Array GenState} {d : Drawn} {t : Nat} {os : OsState} {a : Addr} {its : Array Value} {n : Nat}
end
section
variable {prog : Program} {w : World} {A : Around} {R : Result → Shared → Prop} {I : Addr} {fp wr : List Addr} {n : Nat} {P : Nat → Value → Prop} {St : Nat → Heap → Prop}
structure PairAt (h : Heap) (v key val : Value) : Prop where
  ex : ∃ a o c, v = .ref a ∧ h.get? a = some o ∧ o.cls = .type "tuple" ∧ o.data = .seq #[key, val] c
theorem PairAt.keep {h h' : Heap} {v key val : Value} (p : PairAt h v key val) (k : ∀ a o, v = .ref a → h.get? a = some o → h'.get? a = some o) : PairAt h' v key val := by
  obtain ⟨a, o, c, rfl, h1, h2, h3⟩ := p.ex
  exact ⟨a, o, c, rfl, k a o rfl h1, h2, h3⟩
noncomputable def putAll {K : Type} [DecidableEq K] (kvs : List (K × Value)) (ps : List (K × Value)) : List (K × Value) := ps.foldl (fun a p => stored a p.1 p.2) kvs
end
end HS
namespace HS
open PySem PySem.Spec PyProof.Rows
section
variable {prog : Program} {w : World} {A : Around} {E : Value → Shared → Prop} {s : Shared}
end
end HS
namespace HW
open PySem L2
inductive D where
  | non | bl (b : Bool) | int (i : Int) | str (x : Str)
  | tup (xs : List D) | fl (xs : List D) | fd (ks : List Key) (ds : List D)
inductive R where
  | v (d : D) | p (n : Nat) | s (b : Bool) (xs : List Int) | x (c : Str)
inductive Cell where
  | lst (xs : List D) | fz (xs : List D) | dct (kvs : List (Key × D)) | fzd (kvs : List (Key × D))
noncomputable abbrev Store := List Cell
noncomputable abbrev Lo := List (Option R)
noncomputable abbrev FE := Lo → Store → Option (R × Store)
noncomputable abbrev FT := Lo → Store → Option (Bool × Store)
noncomputable abbrev FA := Lo → Store → Option (List R × Store)
inductive Out where
  | nx (ρ : Lo) (μ : Store) | rt (d : R) (μ : Store) | bk (ρ : Lo) (μ : Store) | ct (ρ : Lo) (μ : Store)
noncomputable abbrev FS := Lo → Store → Option Out
def FAt (K : PySem.W.Frag) (H : Hp) (a : Addr) (vs : List V) : Prop := (∃ o, H a = some (.frz o (.lst vs))) ∨ SqL K (fun _ => none) a vs
mutual
def RelD (K : PySem.W.Frag) (H : Hp) : D → V → Prop
  | .non, v => v = .non
  | .bl b, v => v = .bl b
  | .int i, v => v = .int i
  | .str x, v => v = .str x
  | .tup xs, v => ∃ a vs, v = .ref a ∧ SqT K H a vs ∧ RelDs K H xs vs
  | .fl xs, v => ∃ a vs, v = .ref a ∧ FAt K H a vs ∧ RelDs K H xs vs
  | .fd ks ds, v => ∃ a o es, v = .ref a ∧ H a = some (.frz o (.dK es)) ∧ es.map (·.1) = ks ∧ RelDs K H ds (es.map (·.2))
def RelDs (K : PySem.W.Frag) (H : Hp) : List D → List V → Prop
  | [], vs => vs = []
  | x :: xs, vs => ∃ v r, vs = v :: r ∧ RelD K H x v ∧ RelDs K H xs r
end
def RelR (K : PySem.W.Frag) (m : List Addr) (H : Hp) : R → V → Prop
  | .v d, v => RelD K H d v
  | .p n, v => ∃ a, v = .ref a ∧ m[n]? = some a
  | .s b xs, v => ∃ a o, v = .ref a ∧ H a = some (.frz o (.ext fun _ => True)) ∧ HS.SetG b o xs
  | .x c, v => ∃ a vs C, v = .ref a ∧ H a = some (.frz { cls := .ref C, dict := none, data := .fields vs, slots := #[] } (.ext fun _ => True)) ∧ PySem.W.nsIn K mainGlobals c = some (some (.ref C))
def RelRs (K : PySem.W.Frag) (m : List Addr) (H : Hp) : List R → List V → Prop
  | [], vs => vs = []
  | x :: xs, vs => ∃ v r, vs = v :: r ∧ RelR K m H x v ∧ RelRs K m H xs r
def CellR (K : PySem.W.Frag) (H : Hp) : Cell → Addr → Prop
  | .lst xs, a => ∃ vs, H a = some (.lst vs) ∧ RelDs K H xs vs
  | .fz xs, a => ∃ o vs, H a = some (.frz o (.lst vs)) ∧ RelDs K H xs vs
  | .dct kvs, a => ∃ es, H a = some (.dK es) ∧ es.map (·.1) = kvs.map (·.1) ∧ RelDs K H (kvs.map (·.2)) (es.map (·.2))
  | .fzd kvs, a => ∃ o es, H a = some (.frz o (.dK es)) ∧ es.map (·.1) = kvs.map (·.1) ∧ RelDs K H (kvs.map (·.2)) (es.map (·.2))
structure SRel (K : PySem.W.Frag) (m : List Addr) (H : Hp) (μ : Store) : Prop where
  nd : m.Nodup
  len : m.length = μ.length
  cell : ∀ (i : Nat) c a, μ[i]? = some c → m[i]? = some a → CellR K H c a
structure TF (H H' : Hp) : Prop where
  tup : ∀ a xs, H a = some (.tup xs) → H' a = some (.tup xs)
  frz : ∀ a o u, H a = some (.frz o u) → H' a = some (.frz o u)
structure Ext (m : List Addr) (H : Hp) (m' : List Addr) (H' : Hp) : Prop where
  ext : ∃ e, m' = m ++ e ∧ ∀ a ∈ e, H a = none
  tf : TF H H'
  keep : ∀ a o, H a = some o → a ∉ m → H' a = some o
  live : ∀ a, H' a = none → H a = none
def LRel (K : PySem.W.Frag) (m : List Addr) (H : Hp) (ρ : Lo) (σ : St) : Prop :=
  ρ.length = σ.length ∧ ∀ (i : Nat) d, ρ[i]? = some (some d) → ∃ v, σ[i]? = some (some v) ∧ RelR K m H d v
section
variable {K : PySem.W.Frag} {m m' m1 m2 : List Addr} {H H' H1 H2 : Hp} {μ μ' : Store} {ρ : Lo} {σ : St}
theorem TF.refl : TF H H := ⟨fun _ _ h => h, fun _ _ _ h => h⟩
theorem TF.trans (a : TF H H1) (b : TF H1 H2) : TF H H2 := ⟨fun _ _ h => b.tup _ _ (a.tup _ _ h), fun _ _ _ h => b.frz _ _ _ (a.frz _ _ _ h)⟩
theorem TF.of (h : ∀ a o, H a = some o → H' a = some o) : TF H H' := ⟨fun _ _ e => h _ _ e, fun _ _ _ e => h _ _ e⟩
theorem SqT.tf {a vs} (t : TF H H') (h : SqT K H a vs) : SqT K H' a vs := by
  rcases h with (h | ⟨o, h⟩) | h
  · exact .inl (.inl (t.tup _ _ h))
  · exact .inl (.inr ⟨o, t.frz _ _ _ h⟩)
  · exact .inr h
theorem FAt.tf {a vs} (t : TF H H') (h : FAt K H a vs) : FAt K H' a vs := by
  rcases h with ⟨o, h⟩ | h
  · exact .inl ⟨o, t.frz _ _ _ h⟩
  · exact .inr h
theorem FAt.sq {a vs} (h : FAt K H a vs) : SqL K H a vs := by
  rcases h with ⟨o, h⟩ | (h | ⟨_, h⟩) | h
  · exact .inl (.inr ⟨o, h⟩)
  · cases h
  · cases h
  · exact .inr h
mutual
theorem RelD.tf (t : TF H H') : ∀ (d : D) (v : V), RelD K H d v → RelD K H' d v
  | .non, _, h => by simpa only [RelD] using h
  | .bl _, _, h => by simpa only [RelD] using h
  | .int _, _, h => by simpa only [RelD] using h
  | .str _, _, h => by simpa only [RelD] using h
  | .tup xs, v, h => by
    simp only [RelD] at h ⊢
    obtain ⟨a, vs, e, s, r⟩ := h
    exact ⟨a, vs, e, SqT.tf t s, RelDs.tf t xs vs r⟩
  | .fl xs, v, h => by
    simp only [RelD] at h ⊢
    obtain ⟨a, vs, e, s, r⟩ := h
    exact ⟨a, vs, e, s.tf t, RelDs.tf t xs vs r⟩
  | .fd ks ds, v, h => by
    simp only [RelD] at h ⊢
    obtain ⟨a, o, es, e, s, k, r⟩ := h
    exact ⟨a, o, es, e, t.frz _ _ _ s, k, RelDs.tf t ds _ r⟩
theorem RelDs.tf (t : TF H H') : ∀ (ds : List D) (vs : List V), RelDs K H ds vs → RelDs K H' ds vs
  | [], _, h => by simpa only [RelDs] using h
  | d :: ds, vs, h => by
    simp only [RelDs] at h ⊢
    obtain ⟨v, r, e, h1, h2⟩ := h
    exact ⟨v, r, e, RelD.tf t d v h1, RelDs.tf t ds r h2⟩
end
theorem Ext.refl : Ext m H m H := ⟨⟨[], by simp⟩, .refl, fun _ _ h _ => h, fun _ h => h⟩
theorem Ext.trans (x : Ext m H m1 H1) (y : Ext m1 H1 m2 H2) : Ext m H m2 H2 := by
  obtain ⟨e1, rfl, f1⟩ := x.ext
  obtain ⟨e2, rfl, f2⟩ := y.ext
  refine ⟨⟨e1 ++ e2, by simp, fun a ha => ?_⟩, x.tf.trans y.tf, fun a o h n => ?_, fun a h => x.live a (y.live a h)⟩
  · rcases List.mem_append.mp ha with h | h
    · exact f1 a h
    · exact x.live a (f2 a h)
  · refine y.keep a o (x.keep a o h n) fun z => ?_
    rcases List.mem_append.mp z with z | z
    · exact n z
    · rw [f1 a z] at h; cases h
theorem RelR.ext (x : Ext m H m' H') {d : R} {v : V} (h : RelR K m H d v) : RelR K m' H' d v := by
  cases d with
  | v d => exact RelD.tf x.tf d v h
  | p n =>
    obtain ⟨a, e, q⟩ := h
    obtain ⟨e1, rfl, _⟩ := x.ext
    refine ⟨a, e, ?_⟩
    obtain ⟨hl, hq⟩ := List.getElem?_eq_some_iff.mp q
    rw [List.getElem?_append_left hl]; exact q
  | s b xs =>
    obtain ⟨a, o, e, q, r⟩ := h
    exact ⟨a, o, e, x.tf.frz _ _ _ q, r⟩
  | x c =>
    obtain ⟨a, vs, C, e, q, r⟩ := h
    exact ⟨a, vs, C, e, x.tf.frz _ _ _ q, r⟩
theorem RelRs.ext (x : Ext m H m' H') : ∀ {ds : List R} {vs : List V}, RelRs K m H ds vs → RelRs K m' H' ds vs
  | [], _, h => h
  | _ :: _, _, ⟨v, r, e, h1, h2⟩ => ⟨v, r, e, h1.ext x, RelRs.ext x h2⟩
theorem LRel.ext (x : Ext m H m' H') (h : LRel K m H ρ σ) : LRel K m' H' ρ σ :=
  ⟨h.1, fun i d e => let ⟨v, q, r⟩ := h.2 i d e; ⟨v, q, r.ext x⟩⟩
theorem CellR.same (s : ∀ a o, H a = some o → H' a = some o) {c : Cell} {a : Addr} (h : CellR K H c a) : CellR K H' c a := by
  cases c with
  | lst xs => obtain ⟨vs, e, r⟩ := h; exact ⟨vs, s _ _ e, RelDs.tf (.of s) _ _ r⟩
  | fz xs => obtain ⟨o, vs, e, r⟩ := h; exact ⟨o, vs, s _ _ e, RelDs.tf (.of s) _ _ r⟩
  | dct kvs => obtain ⟨es, e, k, r⟩ := h; exact ⟨es, s _ _ e, k, RelDs.tf (.of s) _ _ r⟩
  | fzd kvs => obtain ⟨o, es, e, k, r⟩ := h; exact ⟨o, es, s _ _ e, k, RelDs.tf (.of s) _ _ r⟩
theorem CellR.some {c : Cell} {a : Addr} (h : CellR K H c a) : ∃ o, H a = some o := by
  cases c with
  | lst xs => obtain ⟨vs, e, r⟩ := h; exact ⟨_, e⟩
  | fz xs => obtain ⟨o, vs, e, r⟩ := h; exact ⟨_, e⟩
  | dct kvs => obtain ⟨es, e, k, r⟩ := h; exact ⟨_, e⟩
  | fzd kvs => obtain ⟨o, es, e, k, r⟩ := h; exact ⟨_, e⟩
theorem SRel.same (h : SRel K m H μ) (s : ∀ a o, H a = some o → H' a = some o) : SRel K m H' μ :=
  ⟨h.nd, h.len, fun i c a e1 e2 => (h.cell i c a e1 e2).same s⟩
theorem SRel.mem (h : SRel K m H μ) {a : Addr} (ha : a ∈ m) : ∃ o, H a = some o := by
  obtain ⟨i, hi, e⟩ := List.getElem_of_mem ha
  have hi' : i < μ.length := by rw [← h.len]; exact hi
  exact (h.cell i μ[i] a (List.getElem?_eq_getElem hi') (by rw [← e]; exact List.getElem?_eq_getElem hi)).some
theorem SRel.fresh (h : SRel K m H μ) {p : Addr} (hp : H p = none) : p ∉ m := fun z => by
  obtain ⟨o, e⟩ := h.mem z
  rw [hp] at e; cases e
theorem SRel.nil : SRel K [] H [] := ⟨.nil, rfl, fun i c a e => by simp at e⟩
theorem upd_keeps {p : Addr} {o : HO} (hp : H p = none) : ∀ a u, H a = some u → upd H p o a = some u := fun a u e => by
  unfold upd; rw [if_neg (fun z => by rw [z, hp] at e; cases e)]; exact e
theorem upd_live {p : Addr} {o : HO} {a : Addr} (h : upd H p o a = none) : H a = none := by
  unfold upd at h; split at h
  · cases h
  · exact h
theorem upd_at {p : Addr} {o : HO} : upd H p o p = some o := by unfold upd; rw [if_pos rfl]
theorem Ext.new {p : Addr} {o : HO} (hp : H p = none) : Ext m H m (upd H p o) :=
  ⟨⟨[], by simp⟩, .of (upd_keeps hp), fun a u e _ => upd_keeps hp a u e, fun _ h => upd_live h⟩
theorem Ext.newH {p : Addr} {o : HO} (hp : H p = none) : Ext m H (m ++ [p]) (upd H p o) :=
  ⟨⟨[p], rfl, fun a h => by rw [List.mem_singleton.mp h]; exact hp⟩, .of (upd_keeps hp), fun a u e _ => upd_keeps hp a u e, fun _ h => upd_live h⟩
theorem SRel.newH {p : Addr} {o : HO} {c : Cell} (h : SRel K m H μ) (hp : H p = none) (hc : CellR K (upd H p o) c p) : SRel K (m ++ [p]) (upd H p o) (μ ++ [c]) := by
  refine ⟨?_, by simp [h.len], fun i c' a e1 e2 => ?_⟩
  · refine List.nodup_append.mpr ⟨h.nd, by simp, fun a ha b hb => ?_⟩
    rw [List.mem_singleton.mp hb]
    rintro rfl
    exact h.fresh hp ha
  · by_cases hi : i < m.length
    · rw [List.getElem?_append_left hi] at e2
      rw [List.getElem?_append_left (by rw [← h.len]; exact hi)] at e1
      exact (h.cell i c' a e1 e2).same (upd_keeps hp)
    · rw [List.getElem?_append_right (by omega)] at e2
      rw [List.getElem?_append_right (by have := h.len; omega)] at e1
      have hl := h.len
      have : i - m.length = 0 := by
        cases q : i - m.length with
        | zero => rfl
        | succ k => rw [q] at e2; simp at e2
      have e3 : i - μ.length = 0 := by omega
      rw [this] at e2; rw [e3] at e1
      simp at e1 e2
      subst e1 e2
      exact hc
theorem Ext.put {a : Addr} {o o' : HO} (ha : a ∈ m) (e : H a = some o) (ho : ∀ xs, o ≠ .tup xs) (hf : ∀ x u, o ≠ .frz x u) : Ext m H m (upd H a o') := by
  have ne : ∀ b u, H b = some u → u ≠ o → b ≠ a := fun b u q n z => by rw [z, e] at q; exact n (Option.some.inj q).symm
  refine ⟨⟨[], by simp⟩, ⟨fun b xs q => ?_, fun b x u q => ?_⟩, fun b u q n => ?_, fun b h => upd_live h⟩
  · unfold upd; rw [if_neg (ne b _ q fun z => ho xs z.symm)]; exact q
  · unfold upd; rw [if_neg (ne b _ q fun z => hf x u z.symm)]; exact q
  · unfold upd; rw [if_neg (fun z : b = a => n (by rw [z]; exact ha))]; exact q
theorem SRel.put {n : Nat} {a : Addr} {o o' : HO} {c : Cell} (h : SRel K m H μ) (hn : m[n]? = some a) (e : H a = some o) (ho : ∀ xs, o ≠ .tup xs) (hf : ∀ x u, o ≠ .frz x u) (hc : CellR K (upd H a o') c a) : SRel K m (upd H a o') (μ.set n c) := by
  have ha : a ∈ m := List.mem_of_getElem? hn
  have x : Ext m H m (upd H a o') := .put ha e ho hf
  refine ⟨h.nd, by simp [h.len], fun i c' b e1 e2 => ?_⟩
  by_cases hi : i = n
  · subst hi
    rw [hn] at e2; cases e2
    rw [List.getElem?_set_self (by have := (List.getElem?_eq_some_iff.mp hn).1; have := h.len; omega)] at e1
    cases e1
    exact hc
  · rw [List.getElem?_set_ne (Ne.symm hi)] at e1
    have nb : b ≠ a := by
      rintro rfl
      obtain ⟨h1, q1⟩ := List.getElem?_eq_some_iff.mp e2
      obtain ⟨h2, q2⟩ := List.getElem?_eq_some_iff.mp hn
      exact hi ((List.getElem_inj h.nd).mp (q1.trans q2.symm))
    have at' : ∀ u, H b = some u → upd H a o' b = some u := fun u q => by unfold upd; rw [if_neg nb]; exact q
    have z := h.cell i c' b e1 e2
    cases c' with
    | lst xs => obtain ⟨vs, e, r⟩ := z; exact ⟨vs, at' _ e, RelDs.tf x.tf _ _ r⟩
    | fz xs => obtain ⟨o, vs, e, r⟩ := z; exact ⟨o, vs, at' _ e, RelDs.tf x.tf _ _ r⟩
    | dct kvs => obtain ⟨es, e, k, r⟩ := z; exact ⟨es, at' _ e, k, RelDs.tf x.tf _ _ r⟩
    | fzd kvs => obtain ⟨o, es, e, k, r⟩ := z; exact ⟨o, es, at' _ e, k, RelDs.tf x.tf _ _ r⟩
end
def rdE (K : PySem.W.Frag) (f : FE) : TE := fun σ H Q => ∃ ρ μ m d μ', LRel K m H ρ σ ∧ SRel K m H μ ∧ f ρ μ = some (d, μ') ∧
  ∀ v H' m', Ext m H m' H' → SRel K m' H' μ' → RelR K m' H' d v → Q v H'
def rdT (K : PySem.W.Frag) (f : FT) : TT := fun σ H Q => ∃ ρ μ m b μ', LRel K m H ρ σ ∧ SRel K m H μ ∧ f ρ μ = some (b, μ') ∧
  ∀ H' m', Ext m H m' H' → SRel K m' H' μ' → Q b H'
def rdA (K : PySem.W.Frag) (f : FA) : TA := fun σ H Q => ∃ ρ μ m ds μ', LRel K m H ρ σ ∧ SRel K m H μ ∧ f ρ μ = some (ds, μ') ∧
  ∀ vs H' m', Ext m H m' H' → SRel K m' H' μ' → RelRs K m' H' ds vs → Q vs H'
def Ends.of (K : PySem.W.Frag) (m : List Addr) (H : Hp) (D : Ends) : Out → Prop
  | .nx ρ μ => ∀ σ H' m', Ext m H m' H' → SRel K m' H' μ → LRel K m' H' ρ σ → D.nx σ H'
  | .bk ρ μ => ∀ σ H' m', Ext m H m' H' → SRel K m' H' μ → LRel K m' H' ρ σ → D.bk σ H'
  | .ct ρ μ => ∀ σ H' m', Ext m H m' H' → SRel K m' H' μ → LRel K m' H' ρ σ → D.ct σ H'
  | .rt d μ => ∀ v H' m', Ext m H m' H' → SRel K m' H' μ → RelR K m' H' d v → D.rt v H'
def rdS (K : PySem.W.Frag) (f : FS) : TS := fun D σ H => ∃ ρ μ m out, LRel K m H ρ σ ∧ SRel K m H μ ∧ f ρ μ = some out ∧ Ends.of K m H D out
noncomputable def fVar (i : Nat) : FE := fun ρ μ => match ρ[i]? with | some (some d) => some (d, μ) | _ => none
noncomputable def fK (d : D) : FE := fun _ μ => some (.v d, μ)
noncomputable def fOp (g : R → R → Store → Option (R × Store)) (fa fb : FE) : FE := fun ρ μ => (fa ρ μ).bind fun a => (fb ρ a.2).bind fun b => g a.1 b.1 b.2
noncomputable def fUn (g : R → Store → Option (R × Store)) (fa : FE) : FE := fun ρ μ => (fa ρ μ).bind fun a => g a.1 a.2
def GOp (K : PySem.W.Frag) (g : R → R → Store → Option (R × Store)) (r : R2) : Prop :=
  ∀ m H μ x y d μ' v u Q, SRel K m H μ → RelR K m H x v → RelR K m H y u → g x y μ = some (d, μ') → (∀ w H' m', Ext m H m' H' → SRel K m' H' μ' → RelR K m' H' d w → Q w H') → r v u H Q
def GUn (K : PySem.W.Frag) (g : R → Store → Option (R × Store)) (r : V → Hp → VK → Prop) : Prop :=
  ∀ m H μ x d μ' v Q, SRel K m H μ → RelR K m H x v → g x μ = some (d, μ') → (∀ w H' m', Ext m H m' H' → SRel K m' H' μ' → RelR K m' H' d w → Q w H') → r v H Q
def GAr (K : PySem.W.Frag) (g : List R → Store → Option (R × Store)) (r : List V → Hp → VK → Prop) : Prop :=
  ∀ m H μ xs d μ' vs Q, SRel K m H μ → RelRs K m H xs vs → g xs μ = some (d, μ') → (∀ w H' m', Ext m H m' H' → SRel K m' H' μ' → RelR K m' H' d w → Q w H') → r vs H Q
noncomputable def fNil : FA := fun _ μ => some ([], μ)
noncomputable def fCons (fa : FE) (fr : FA) : FA := fun ρ μ => (fa ρ μ).bind fun a => (fr ρ a.2).bind fun r => some (a.1 :: r.1, r.2)
noncomputable def fAr (g : List R → Store → Option (R × Store)) (fa : FA) : FE := fun ρ μ => (fa ρ μ).bind fun a => g a.1 a.2
section
variable {K : PySem.W.Frag} {σ : St} {H : Hp} {Q : VK}
theorem rd_var {i : Nat} (h : rdE K (fVar i) σ H Q) : tVar i σ H Q := by
  obtain ⟨ρ, μ, m, d, μ', hl, hs, e, k⟩ := h
  unfold fVar at e
  split at e
  · rename_i d' q
    cases e
    obtain ⟨v, q1, q2⟩ := hl.2 i _ q
    exact ⟨v, q1, k v H m .refl hs q2⟩
  · cases e
theorem rd_const {d : D} {v : V} (hv : ∀ m H, RelR K m H (.v d) v) (h : rdE K (fK d) σ H Q) : tC v σ H Q := by
  obtain ⟨ρ, μ, m, d', μ', hl, hs, e, k⟩ := h
  cases e
  exact k v H m .refl hs (hv _ _)
theorem rd_op {g r fa fb} (hg : GOp K g r) (h : rdE K (fOp g fa fb) σ H Q) : tOp r (rdE K fa) (rdE K fb) σ H Q := by
  obtain ⟨ρ, μ, m, d, μ', hl, hs, e, k⟩ := h
  obtain ⟨⟨x, μ1⟩, e1, e⟩ := Option.bind_eq_some_iff.mp e
  obtain ⟨⟨y, μ2⟩, e2, e⟩ := Option.bind_eq_some_iff.mp e
  refine ⟨ρ, μ, m, x, μ1, hl, hs, e1, fun v H1 m1 x1 s1 r1 => ?_⟩
  refine ⟨ρ, μ1, m1, y, μ2, hl.ext x1, s1, e2, fun u H2 m2 x2 s2 r2 => ?_⟩
  exact hg m2 H2 μ2 x y d μ' v u Q s2 (r1.ext x2) r2 e fun w H3 m3 x3 s3 r3 => k w H3 m3 ((x1.trans x2).trans x3) s3 r3
theorem rd_un {g r fa} (hg : GUn K g r) (h : rdE K (fUn g fa) σ H Q) : tUn r (rdE K fa) σ H Q := by
  obtain ⟨ρ, μ, m, d, μ', hl, hs, e, k⟩ := h
  obtain ⟨⟨x, μ1⟩, e1, e⟩ := Option.bind_eq_some_iff.mp e
  refine ⟨ρ, μ, m, x, μ1, hl, hs, e1, fun v H1 m1 x1 s1 r1 => ?_⟩
  exact hg m1 H1 μ1 x d μ' v Q s1 r1 e fun w H3 m3 x3 s3 r3 => k w H3 m3 (x1.trans x3) s3 r3
theorem rd_nil {Q : List V → Hp → Prop} (h : rdA K fNil σ H Q) : tNil σ H Q := by
  obtain ⟨ρ, μ, m, ds, μ', hl, hs, e, k⟩ := h
  cases e
  exact k [] H m .refl hs rfl
theorem rd_cons {fa fr} {Q : List V → Hp → Prop} (h : rdA K (fCons fa fr) σ H Q) : tCons (rdE K fa) (rdA K fr) σ H Q := by
  obtain ⟨ρ, μ, m, ds, μ', hl, hs, e, k⟩ := h
  obtain ⟨⟨x, μ1⟩, e1, e⟩ := Option.bind_eq_some_iff.mp e
  obtain ⟨⟨xs, μ2⟩, e2, e⟩ := Option.bind_eq_some_iff.mp e
  cases e
  refine ⟨ρ, μ, m, x, μ1, hl, hs, e1, fun v H1 m1 x1 s1 r1 => ?_⟩
  refine ⟨ρ, μ1, m1, xs, μ2, hl.ext x1, s1, e2, fun vs H2 m2 x2 s2 r2 => ?_⟩
  exact k (v :: vs) H2 m2 (x1.trans x2) s2 ⟨v, vs, rfl, r1.ext x2, r2⟩
theorem rd_ar {g r fa} (hg : GAr K g r) (h : rdE K (fAr g fa) σ H Q) : tCB r (rdA K fa) σ H Q := by
  obtain ⟨ρ, μ, m, d, μ', hl, hs, e, k⟩ := h
  obtain ⟨⟨xs, μ1⟩, e1, e⟩ := Option.bind_eq_some_iff.mp e
  refine ⟨ρ, μ, m, xs, μ1, hl, hs, e1, fun vs H1 m1 x1 s1 r1 => ?_⟩
  exact hg m1 H1 μ1 xs d μ' vs Q s1 r1 e fun w H3 m3 x3 s3 r3 => k w H3 m3 (x1.trans x3) s3 r3
end
noncomputable def fB (fa : FE) : FT := fun ρ μ => (fa ρ μ).bind fun a => match a.1 with | .v (.bl b) => some (b, a.2) | _ => none
noncomputable def truD : R → Store → Option Bool
  | .v .non, _ => some false
  | .v (.bl b), _ => some b
  | .v (.int i), _ => some (i != 0)
  | .v (.str x), _ => if x.length ≤ sizeLine then some ((x.length : Int) != 0) else none
  | .v (.tup xs), _ => some (!xs.isEmpty)
  | .v (.fl xs), _ => some (!xs.isEmpty)
  | .v (.fd _ _), _ => none
  | .s _ _, _ => none
  | .x _, _ => none
  | .p n, μ => match μ[n]? with | some (.lst xs) => some (!xs.isEmpty) | some (.fz xs) => some (!xs.isEmpty) | some (.dct kvs) => some (!kvs.isEmpty) | _ => none
noncomputable def fTru (fa : FE) : FT := fun ρ μ => (fa ρ μ).bind fun a => (truD a.1 a.2).bind fun b => some (b, a.2)
noncomputable def tAndF (t u : FT) : FT := fun ρ μ => (t ρ μ).bind fun c => if c.1 = true then u ρ c.2 else some (false, c.2)
noncomputable def tOrF (t u : FT) : FT := fun ρ μ => (t ρ μ).bind fun c => if c.1 = true then some (true, c.2) else u ρ c.2
noncomputable def tNotF (t : FT) : FT := fun ρ μ => (t ρ μ).bind fun c => some (!c.1, c.2)
noncomputable def fAnd (fa fb : FE) : FE := fun ρ μ => (fa ρ μ).bind fun a => match a.1 with | .v (.bl c) => if c = true then fb ρ a.2 else some (.v (.bl false), a.2) | _ => none
noncomputable def fOr (fa fb : FE) : FE := fun ρ μ => (fa ρ μ).bind fun a => match a.1 with | .v (.bl c) => if c = true then some (.v (.bl true), a.2) else fb ρ a.2 | _ => none
noncomputable def fNot (fa : FE) : FE := fun ρ μ => (fa ρ μ).bind fun a => match a.1 with | .v (.bl c) => some (.v (.bl (!c)), a.2) | _ => none
noncomputable def fIf (t : FT) (fa fb : FE) : FE := fun ρ μ => (t ρ μ).bind fun c => if c.1 = true then fa ρ c.2 else fb ρ c.2
theorem RelDs.length {K : PySem.W.Frag} {H : Hp} : ∀ {ds : List D} {vs : List V}, RelDs K H ds vs → ds.length = vs.length
  | [], _, h => by simp only [RelDs] at h; subst h; rfl
  | _ :: _, _, h => by
    simp only [RelDs] at h
    obtain ⟨v, r, rfl, _, h2⟩ := h
    simp [RelDs.length h2]
theorem RelDs.empty {K : PySem.W.Frag} {H : Hp} {ds : List D} {vs : List V} (h : RelDs K H ds vs) : ds.isEmpty = vs.isEmpty := by
  have := h.length
  cases ds <;> cases vs <;> simp_all
section
variable {K : PySem.W.Frag} {σ : St} {H : Hp} {Q : VK} {B : Bool → Hp → Prop}
theorem rd_B {fa} (h : rdT K (fB fa) σ H B) : tB (rdE K fa) σ H B := by
  obtain ⟨ρ, μ, m, d, μ', hl, hs, e, k⟩ := h
  obtain ⟨⟨x, μ1⟩, e1, e⟩ := Option.bind_eq_some_iff.mp e
  split at e
  · rename_i b q
    cases e
    subst q
    exact ⟨ρ, μ, m, _, μ1, hl, hs, e1, fun v H1 m1 x1 s1 r1 => ⟨_, by simpa only [RelR, RelD] using r1, k H1 m1 x1 s1⟩⟩
  · cases e
theorem rd_Test {fa} (h : rdT K (fB fa) σ H B) : tTest (rdE K fa) σ H B := rd_B h
theorem tru_ok {m : List Addr} {μ : Store} {x : R} {b : Bool} {v : V} (s : SRel K m H μ) (r : RelR K m H x v) (e : truD x μ = some b) : TruV K v H b := by
  cases x with
  | v d =>
    cases d with
    | non => cases e; cases r; rfl
    | bl c => cases e; simp only [RelR, RelD] at r; subst r; rfl
    | int i => cases e; simp only [RelR, RelD] at r; subst r; rfl
    | str x =>
      simp only [RelR, RelD] at r
      subst r
      simp only [truD] at e
      split at e
      · rename_i z; cases e; exact ⟨z, rfl⟩
      · cases e
    | tup xs =>
      cases e
      simp only [RelR, RelD] at r
      obtain ⟨a, vs, rfl, q, r⟩ := r
      exact .inr (.inl ⟨vs, q, by rw [r.empty]⟩)
    | fl xs =>
      cases e
      simp only [RelR, RelD] at r
      obtain ⟨a, vs, rfl, q, r⟩ := r
      exact .inl ⟨vs, q.sq, by rw [r.empty]⟩
    | fd ks ds => cases e
  | s b xs => cases e
  | x _ => cases e
  | p n =>
    obtain ⟨a, rfl, ha⟩ := r
    simp only [truD] at e
    split at e
    · rename_i xs q
      cases e
      obtain ⟨vs, e, r⟩ := s.cell n _ a q ha
      exact .inl ⟨vs, .inl (.inl e), by rw [r.empty]⟩
    · rename_i xs q
      cases e
      obtain ⟨o, vs, e, r⟩ := s.cell n _ a q ha
      exact .inl ⟨vs, .inl (.inr ⟨o, e⟩), by rw [r.empty]⟩
    · rename_i kvs q
      cases e
      obtain ⟨es, e, k, r⟩ := s.cell n _ a q ha
      refine .inr (.inr ⟨es, e, ?_⟩)
      have := congrArg List.length k
      cases es <;> cases kvs <;> simp_all
    · cases e
theorem rd_tru {fa} (h : rdT K (fTru fa) σ H B) : (fun σ H (Q : Bool → Hp → Prop) => rdE K fa σ H fun x H1 => ∃ k, TruV K x H1 k ∧ Q k H1) σ H B := by
  obtain ⟨ρ, μ, m, d, μ', hl, hs, e, k⟩ := h
  obtain ⟨⟨x, μ1⟩, e1, e⟩ := Option.bind_eq_some_iff.mp e
  obtain ⟨b, e2, e⟩ := Option.bind_eq_some_iff.mp e
  cases e
  exact ⟨ρ, μ, m, x, _, hl, hs, e1, fun v H1 m1 x1 s1 r1 => ⟨_, tru_ok s1 r1 e2, k H1 m1 x1 s1⟩⟩
theorem rd_tand {t u} (h : rdT K (tAndF t u) σ H B) : tAnd (rdT K t) (rdT K u) σ H B := by
  obtain ⟨ρ, μ, m, d, μ', hl, hs, e, k⟩ := h
  obtain ⟨⟨c, μ1⟩, e1, e⟩ := Option.bind_eq_some_iff.mp e
  refine ⟨ρ, μ, m, c, μ1, hl, hs, e1, fun H1 m1 x1 s1 => ?_⟩
  cases c with
  | true => exact ⟨ρ, μ1, m1, d, μ', hl.ext x1, s1, e, fun H2 m2 x2 s2 => k H2 m2 (x1.trans x2) s2⟩
  | false => cases e; exact k H1 m1 x1 s1
theorem rd_tor {t u} (h : rdT K (tOrF t u) σ H B) : tOr (rdT K t) (rdT K u) σ H B := by
  obtain ⟨ρ, μ, m, d, μ', hl, hs, e, k⟩ := h
  obtain ⟨⟨c, μ1⟩, e1, e⟩ := Option.bind_eq_some_iff.mp e
  refine ⟨ρ, μ, m, c, μ1, hl, hs, e1, fun H1 m1 x1 s1 => ?_⟩
  cases c with
  | false => exact ⟨ρ, μ1, m1, d, μ', hl.ext x1, s1, e, fun H2 m2 x2 s2 => k H2 m2 (x1.trans x2) s2⟩
  | true => cases e; exact k H1 m1 x1 s1
theorem rd_tnot {t} (h : rdT K (tNotF t) σ H B) : tNot (rdT K t) σ H B := by
  obtain ⟨ρ, μ, m, d, μ', hl, hs, e, k⟩ := h
  obtain ⟨⟨c, μ1⟩, e1, e⟩ := Option.bind_eq_some_iff.mp e
  cases e
  exact ⟨ρ, μ, m, c, μ1, hl, hs, e1, fun H1 m1 x1 s1 => k H1 m1 x1 s1⟩
theorem rd_and {fa fb} (h : rdE K (fAnd fa fb) σ H Q) : tAndV (rdE K fa) (rdE K fb) σ H Q := by
  obtain ⟨ρ, μ, m, d, μ', hl, hs, e, k⟩ := h
  obtain ⟨⟨x, μ1⟩, e1, e⟩ := Option.bind_eq_some_iff.mp e
  split at e
  · rename_i c q
    subst q
    refine ⟨ρ, μ, m, _, μ1, hl, hs, e1, fun v H1 m1 x1 s1 r1 => ⟨c, by simpa only [RelR, RelD] using r1, ?_⟩⟩
    cases c with
    | true => exact ⟨ρ, μ1, m1, d, μ', hl.ext x1, s1, e, fun w H2 m2 x2 s2 r2 => k w H2 m2 (x1.trans x2) s2 r2⟩
    | false => cases e; exact k _ H1 m1 x1 s1 (by simp only [RelR, RelD])
  · cases e
theorem rd_not {fa} (h : rdE K (fNot fa) σ H Q) : tNotV (rdE K fa) σ H Q := by
  obtain ⟨ρ, μ, m, d, μ', hl, hs, e, k⟩ := h
  obtain ⟨⟨x, μ1⟩, e1, e⟩ := Option.bind_eq_some_iff.mp e
  split at e
  · rename_i c q
    cases e
    subst q
    exact ⟨ρ, μ, m, _, μ1, hl, hs, e1, fun v H1 m1 x1 s1 r1 => ⟨c, by simpa only [RelR, RelD] using r1, k _ H1 m1 x1 s1 (by simp only [RelR, RelD])⟩⟩
  · cases e
end
noncomputable def vals : List R → Option (List D)
  | [] => some []
  | .v d :: r => (vals r).bind fun ds => some (d :: ds)
  | .p _ :: _ => none
  | .s _ _ :: _ => none
  | .x _ :: _ => none
theorem vals_rel {K : PySem.W.Frag} {m : List Addr} {H : Hp} : ∀ {rs : List R} {ds : List D} {vs : List V}, vals rs = some ds → RelRs K m H rs vs → RelDs K H ds vs
  | [], _, _, e, h => by cases e; simp only [RelDs]; exact h
  | .v d :: r, _, _, e, ⟨v, vs, rfl, h1, h2⟩ => by
    obtain ⟨ds, e1, e⟩ := Option.bind_eq_some_iff.mp e
    cases e
    simp only [RelDs]
    exact ⟨v, vs, rfl, h1, vals_rel e1 h2⟩
  | .p _ :: _, _, _, e, _ => by cases e
  | .s _ _ :: _, _, _, e, _ => by cases e
  | .x _ :: _, _, _, e, _ => by cases e
noncomputable def fTup (fa : FA) : FE := fun ρ μ => (fa ρ μ).bind fun a => (vals a.1).bind fun ds => if ds.length ≤ sizeLine then some (.v (.tup ds), a.2) else none
noncomputable def fLst (fa : FA) : FE := fun ρ μ => (fa ρ μ).bind fun a => (vals a.1).bind fun ds => if ds.length ≤ sizeLine then some (.p a.2.length, a.2 ++ [.lst ds]) else none
section
variable {K : PySem.W.Frag} {m : List Addr} {σ : St} {H : Hp} {Q : VK} {μ : Store}
theorem new_tup {ds : List D} {vs : List V} {p : Addr} (s : SRel K m H μ) (r : RelDs K H ds vs) (hp : H p = none) : Ext m H m (upd H p (.tup vs)) ∧ SRel K m (upd H p (.tup vs)) μ ∧ RelR K m (upd H p (.tup vs)) (.v (.tup ds)) (.ref p) := by
  refine ⟨.new hp, s.same (upd_keeps hp), ?_⟩
  simp only [RelR, RelD]
  exact ⟨p, vs, rfl, .inl (.inl upd_at), RelDs.tf (.of (upd_keeps hp)) _ _ r⟩
theorem new_lst {ds : List D} {vs : List V} {p : Addr} (s : SRel K m H μ) (r : RelDs K H ds vs) (hp : H p = none) : Ext m H (m ++ [p]) (upd H p (.lst vs)) ∧ SRel K (m ++ [p]) (upd H p (.lst vs)) (μ ++ [.lst ds]) ∧ RelR K (m ++ [p]) (upd H p (.lst vs)) (.p μ.length) (.ref p) := by
  refine ⟨.newH hp, s.newH hp ⟨vs, upd_at, RelDs.tf (.of (upd_keeps hp)) _ _ r⟩, p, rfl, ?_⟩
  rw [← s.len]; simp
theorem rd_tup {fa} (h : rdE K (fTup fa) σ H Q) : tTup (rdA K fa) σ H Q := by
  obtain ⟨ρ, μ, m, d, μ', hl, hs, e, k⟩ := h
  obtain ⟨⟨xs, μ1⟩, e1, e⟩ := Option.bind_eq_some_iff.mp e
  obtain ⟨ds, e2, e⟩ := Option.bind_eq_some_iff.mp e
  split at e
  · rename_i z
    cases e
    refine ⟨ρ, μ, m, xs, _, hl, hs, e1, fun vs H1 m1 x1 s1 r1 => ?_⟩
    have r2 := vals_rel e2 r1
    refine ⟨by rw [← r2.length]; exact z, fun p hp => ?_⟩
    obtain ⟨a, b, c⟩ := new_tup s1 r2 hp
    exact k _ _ _ (x1.trans a) b c
  · cases e
theorem rd_lst {fa} (h : rdE K (fLst fa) σ H Q) : tLst (rdA K fa) σ H Q := by
  obtain ⟨ρ, μ, m, d, μ', hl, hs, e, k⟩ := h
  obtain ⟨⟨xs, μ1⟩, e1, e⟩ := Option.bind_eq_some_iff.mp e
  obtain ⟨ds, e2, e⟩ := Option.bind_eq_some_iff.mp e
  split at e
  · rename_i z
    cases e
    refine ⟨ρ, μ, m, xs, _, hl, hs, e1, fun vs H1 m1 x1 s1 r1 => ?_⟩
    have r2 := vals_rel e2 r1
    refine ⟨by rw [← r2.length]; exact z, fun p hp => ?_⟩
    obtain ⟨a, b, c⟩ := new_lst s1 r2 hp
    exact k _ _ _ (x1.trans a) b c
  · cases e
end
noncomputable def sNext : FS := fun ρ μ => some (.nx ρ μ)
noncomputable def sSeq (a b : FS) : FS := fun ρ μ => (a ρ μ).bind fun o => match o with | .nx ρ' μ' => b ρ' μ' | o => some o
noncomputable def sBreak : FS := fun ρ μ => some (.bk ρ μ)
noncomputable def sCont : FS := fun ρ μ => some (.ct ρ μ)
noncomputable def sDrop (f : FE) : FS := fun ρ μ => (f ρ μ).bind fun a => some (.nx ρ a.2)
noncomputable def sRet (f : FE) : FS := fun ρ μ => (f ρ μ).bind fun a => some (.rt a.1 a.2)
noncomputable def sRetN : FS := fun _ μ => some (.rt (.v .non) μ)
noncomputable def sIf (t : FT) (a b : FS) : FS := fun ρ μ => (t ρ μ).bind fun c => if c.1 = true then a ρ c.2 else b ρ c.2
noncomputable def sSet (i : Nat) (f : FE) : FS := fun ρ μ => (f ρ μ).bind fun a => some (.nx (ρ.set i (some a.1)) a.2)
section
variable {K : PySem.W.Frag} {m m' m1 : List Addr} {σ : St} {H H' H1 : Hp} {D : Ends} {μ : Store} {ρ : Lo}
theorem Ends.of_ext {o : Out} (x : Ext m H m1 H1) (h : Ends.of K m H D o) : Ends.of K m1 H1 D o := by
  cases o with
  | nx ρ μ => exact fun σ H' m' y => h σ H' m' (x.trans y)
  | bk ρ μ => exact fun σ H' m' y => h σ H' m' (x.trans y)
  | ct ρ μ => exact fun σ H' m' y => h σ H' m' (x.trans y)
  | rt d μ => exact fun σ H' m' y => h σ H' m' (x.trans y)
theorem LRel.set {d : R} {v : V} (h : LRel K m H ρ σ) (r : RelR K m H d v) (i : Nat) : LRel K m H (ρ.set i (some d)) (σ.set i (some v)) := by
  refine ⟨by simp [h.1], fun j d' e => ?_⟩
  by_cases hj : j = i
  · subst hj
    by_cases hi : j < ρ.length
    · rw [List.getElem?_set_self hi] at e
      cases e
      exact ⟨v, List.getElem?_set_self (by rw [← h.1]; exact hi), r⟩
    · rw [List.getElem?_eq_none (by simp; omega)] at e
      cases e
  · rw [List.getElem?_set_ne (Ne.symm hj)] at e
    obtain ⟨u, q1, q2⟩ := h.2 j d' e
    exact ⟨u, by rw [List.getElem?_set_ne (Ne.symm hj)]; exact q1, q2⟩
theorem rd_next (h : rdS K sNext D σ H) : tNext D σ H := by
  obtain ⟨ρ, μ, m, o, hl, hs, e, k⟩ := h
  cases e
  exact k σ H m .refl hs hl
theorem rd_seq {a b} (h : rdS K (sSeq a b) D σ H) : tSeq (rdS K a) (rdS K b) D σ H := by
  obtain ⟨ρ, μ, m, o, hl, hs, e, k⟩ := h
  obtain ⟨o1, e1, e⟩ := Option.bind_eq_some_iff.mp e
  refine ⟨ρ, μ, m, o1, hl, hs, e1, ?_⟩
  cases o1 with
  | nx ρ1 μ1 => exact fun σ1 H1 m1 x1 s1 l1 => ⟨ρ1, μ1, m1, o, l1, s1, e, Ends.of_ext x1 k⟩
  | bk ρ1 μ1 => cases e; exact k
  | ct ρ1 μ1 => cases e; exact k
  | rt d μ1 => cases e; exact k
theorem rd_drop {f} (h : rdS K (sDrop f) D σ H) : tDrop (rdE K f) D σ H := by
  obtain ⟨ρ, μ, m, o, hl, hs, e, k⟩ := h
  obtain ⟨⟨x, μ1⟩, e1, e⟩ := Option.bind_eq_some_iff.mp e
  cases e
  exact ⟨ρ, μ, m, x, μ1, hl, hs, e1, fun v H1 m1 x1 s1 r1 => k σ H1 m1 x1 s1 (hl.ext x1)⟩
theorem rd_ret {f} (h : rdS K (sRet f) D σ H) : tRet (rdE K f) D σ H := by
  obtain ⟨ρ, μ, m, o, hl, hs, e, k⟩ := h
  obtain ⟨⟨x, μ1⟩, e1, e⟩ := Option.bind_eq_some_iff.mp e
  cases e
  exact ⟨ρ, μ, m, x, μ1, hl, hs, e1, k⟩
theorem rd_ifS {t a b} (h : rdS K (sIf t a b) D σ H) : tIfS (rdT K t) (rdS K a) (rdS K b) D σ H := by
  obtain ⟨ρ, μ, m, o, hl, hs, e, k⟩ := h
  obtain ⟨⟨c, μ1⟩, e1, e⟩ := Option.bind_eq_some_iff.mp e
  refine ⟨ρ, μ, m, c, μ1, hl, hs, e1, fun H1 m1 x1 s1 => ?_⟩
  cases c with
  | true => exact ⟨ρ, μ1, m1, o, hl.ext x1, s1, e, Ends.of_ext x1 k⟩
  | false => exact ⟨ρ, μ1, m1, o, hl.ext x1, s1, e, Ends.of_ext x1 k⟩
theorem rd_set {i f} (h : rdS K (sSet i f) D σ H) : tAsg (rdE K f) (gName i) D σ H := by
  obtain ⟨ρ, μ, m, o, hl, hs, e, k⟩ := h
  obtain ⟨⟨x, μ1⟩, e1, e⟩ := Option.bind_eq_some_iff.mp e
  cases e
  exact ⟨ρ, μ, m, x, μ1, hl, hs, e1, fun v H1 m1 x1 s1 r1 => k _ H1 m1 x1 s1 ((hl.ext x1).set r1 i)⟩
end
noncomputable abbrev FG := R → Lo → Store → Option (Lo × Store)
def rdG (K : PySem.W.Frag) (g : FG) : TG := fun v σ H Q => ∃ ρ μ m d ρ' μ', LRel K m H ρ σ ∧ SRel K m H μ ∧ RelR K m H d v ∧ g d ρ μ = some (ρ', μ') ∧
  ∀ σ' H' m', Ext m H m' H' → SRel K m' H' μ' → LRel K m' H' ρ' σ' → Q σ' H'
noncomputable abbrev FGs := List R → Lo → Store → Option (Lo × Store)
def rdGs (K : PySem.W.Frag) (g : FGs) : TGs := fun vs σ H Q => ∃ ρ μ m ds ρ' μ', LRel K m H ρ σ ∧ SRel K m H μ ∧ RelRs K m H ds vs ∧ g ds ρ μ = some (ρ', μ') ∧
  ∀ σ' H' m', Ext m H m' H' → SRel K m' H' μ' → LRel K m' H' ρ' σ' → Q σ' H'
noncomputable def gNm (i : Nat) : FG := fun d ρ μ => some (ρ.set i (some d), μ)
noncomputable def gsNil : FGs := fun ds ρ μ => match ds with | [] => some (ρ, μ) | _ => none
noncomputable def gsCons (g : FG) (r : FGs) : FGs := fun ds ρ μ => match ds with | [] => none | d :: ds => (g d ρ μ).bind fun a => r ds a.1 a.2
noncomputable def gTp (n : Nat) (g : FGs) : FG := fun d ρ μ => match d with | .v (.tup xs) => if xs.length = n then g (xs.map .v) ρ μ else none | _ => none
noncomputable def sAsg (f : FE) (g : FG) : FS := fun ρ μ => (f ρ μ).bind fun a => (g a.1 ρ a.2).bind fun b => some (.nx b.1 b.2)
section
variable {K : PySem.W.Frag} {m m' m1 : List Addr} {σ : St} {H H' H1 : Hp} {D : Ends} {μ : Store} {ρ : Lo} {v : V} {Q : St → Hp → Prop}
theorem rd_gNm {i} (h : rdG K (gNm i) v σ H Q) : gName i v σ H Q := by
  obtain ⟨ρ, μ, m, d, ρ', μ', hl, hs, r, e, k⟩ := h
  cases e
  exact k _ H m .refl hs (hl.set r i)
theorem rd_gsNil {vs} (h : rdGs K gsNil vs σ H Q) : gNil vs σ H Q := by
  obtain ⟨ρ, μ, m, ds, ρ', μ', hl, hs, r, e, k⟩ := h
  cases ds with
  | nil => cases e; exact ⟨r, k σ H m .refl hs hl⟩
  | cons d ds => cases e
theorem rd_gsCons {g r vs} (h : rdGs K (gsCons g r) vs σ H Q) : gCons (rdG K g) (rdGs K r) vs σ H Q := by
  obtain ⟨ρ, μ, m, ds, ρ', μ', hl, hs, rr, e, k⟩ := h
  cases ds with
  | nil => cases e
  | cons d ds =>
    obtain ⟨v, vr, rfl, r1, r2⟩ := rr
    obtain ⟨⟨ρ1, μ1⟩, e1, e⟩ := Option.bind_eq_some_iff.mp e
    refine ⟨v, vr, rfl, ρ, μ, m, d, ρ1, μ1, hl, hs, r1, e1, fun σ1 H1 m1 x1 s1 l1 => ?_⟩
    exact ⟨ρ1, μ1, m1, ds, ρ', μ', l1, s1, r2.ext x1, e, fun σ2 H2 m2 x2 s2 l2 => k σ2 H2 m2 (x1.trans x2) s2 l2⟩
theorem RelDs.rs : ∀ {ds : List HW.D} {vs : List V}, RelDs K H ds vs → RelRs K m H (ds.map .v) vs
  | [], _, h => by simp only [RelDs] at h; exact h
  | d :: ds, _, h => by
    simp only [RelDs] at h
    obtain ⟨v, r, rfl, h1, h2⟩ := h
    exact ⟨v, r, rfl, h1, RelDs.rs h2⟩
theorem rd_gTp {n g} (h : rdG K (gTp n g) v σ H Q) : gTup K n (rdGs K g) v σ H Q := by
  obtain ⟨ρ, μ, m, d, ρ', μ', hl, hs, r, e, k⟩ := h
  unfold gTp at e
  split at e
  · rename_i xs
    split at e
    · rename_i hn
      simp only [RelR, RelD] at r
      obtain ⟨a, vs, rfl, q, rr⟩ := r
      exact ⟨a, vs, rfl, q, by rw [← rr.length]; exact hn, ρ, μ, m, _, ρ', μ', hl, hs, rr.rs, e, k⟩
    · cases e
  · cases e
theorem rd_asg {f g} (h : rdS K (sAsg f g) D σ H) : tAsg (rdE K f) (rdG K g) D σ H := by
  obtain ⟨ρ, μ, m, o, hl, hs, e, k⟩ := h
  obtain ⟨⟨x, μ1⟩, e1, e⟩ := Option.bind_eq_some_iff.mp e
  obtain ⟨⟨ρ2, μ2⟩, e2, e⟩ := Option.bind_eq_some_iff.mp e
  cases e
  exact ⟨ρ, μ, m, x, μ1, hl, hs, e1, fun v H1 m1 x1 s1 r1 => ⟨ρ, μ1, m1, x, ρ2, μ2, hl.ext x1, s1, r1, e2, fun σ2 H2 m2 x2 s2 l2 => k σ2 H2 m2 (x1.trans x2) s2 l2⟩⟩
end
def FzOk : HO → Prop
  | .lst _ => True
  | .set _ _ => True
  | .dK _ => True
  | _ => False
def tFz (t : TE) : TE := fun σ H Q => t σ H fun v H1 => Q v H1 ∨ ∃ a u, H1 a = some u ∧ FzOk u ∧ ∀ o, Q v (upd H1 a (.frz o u))
noncomputable def fzD : R → Store → Option (D × Store)
  | .v d, μ => some (d, μ)
  | .s _ _, _ => none
  | .x _, _ => none
  | .p n, μ => match μ[n]? with | some (.lst xs) => some (.fl xs, μ.set n (.fz xs)) | some (.fz xs) => some (.fl xs, μ) | some (.dct kvs) => some (.fd (kvs.map (·.1)) (kvs.map (·.2)), μ.set n (.fzd kvs)) | some (.fzd kvs) => some (.fd (kvs.map (·.1)) (kvs.map (·.2)), μ) | none => none
noncomputable def fFz (f : FE) : FE := fun ρ μ => (f ρ μ).bind fun a => (fzD a.1 a.2).bind fun b => some (.v b.1, b.2)
section
variable {K : PySem.W.Frag} {m : List Addr} {σ : St} {H : Hp} {μ : Store} {Q : VK}
theorem fz_ok {x : R} {d : D} {μ' : Store} {v : V} {B : Hp → Prop} (hs : SRel K m H μ) (r : RelR K m H x v) (e : fzD x μ = some (d, μ'))
    (k : ∀ H', Ext m H m H' → SRel K m H' μ' → RelD K H' d v → B H') : B H ∨ ∃ a u, H a = some u ∧ FzOk u ∧ ∀ o, B (upd H a (.frz o u)) := by
  cases x with
  | v d' => cases e; exact .inl (k H .refl hs r)
  | s b xs => cases e
  | x _ => cases e
  | p n =>
    obtain ⟨a, rfl, ha⟩ := r
    simp only [fzD] at e
    split at e
    · rename_i xs q
      cases e
      obtain ⟨vs, ea, rr⟩ := hs.cell n _ a q ha
      refine .inr ⟨a, _, ea, trivial, fun o => ?_⟩
      have x : Ext m H m (upd H a (.frz o (.lst vs))) := .put (List.mem_of_getElem? ha) ea (by simp) (by simp)
      refine k _ x (hs.put ha ea (by simp) (by simp) ⟨o, vs, upd_at, RelDs.tf x.tf _ _ rr⟩) ?_
      simp only [RelD]
      exact ⟨a, vs, rfl, .inl ⟨o, upd_at⟩, RelDs.tf x.tf _ _ rr⟩
    · rename_i xs q
      cases e
      obtain ⟨o, vs, ea, rr⟩ := hs.cell n _ a q ha
      refine .inl (k H .refl hs ?_)
      simp only [RelD]
      exact ⟨a, vs, rfl, .inl ⟨o, ea⟩, rr⟩
    · rename_i kvs q
      cases e
      obtain ⟨es, ea, ke, rr⟩ := hs.cell n _ a q ha
      refine .inr ⟨a, _, ea, trivial, fun o => ?_⟩
      have x : Ext m H m (upd H a (.frz o (.dK es))) := .put (List.mem_of_getElem? ha) ea (by simp) (by simp)
      refine k _ x (hs.put ha ea (by simp) (by simp) ⟨o, es, upd_at, ke, RelDs.tf x.tf _ _ rr⟩) ?_
      simp only [RelD]
      exact ⟨a, o, es, rfl, upd_at, ke, RelDs.tf x.tf _ _ rr⟩
    · rename_i kvs q
      cases e
      obtain ⟨o, es, ea, ke, rr⟩ := hs.cell n _ a q ha
      refine .inl (k H .refl hs ?_)
      simp only [RelD]
      exact ⟨a, o, es, rfl, ea, ke, rr⟩
    · cases e
theorem rd_fz {f} (h : rdE K (fFz f) σ H Q) : tFz (rdE K f) σ H Q := by
  obtain ⟨ρ, μ, m, d, μ', hl, hs, e, k⟩ := h
  obtain ⟨⟨x, μ1⟩, e1, e⟩ := Option.bind_eq_some_iff.mp e
  obtain ⟨⟨d1, μ2⟩, e2, e⟩ := Option.bind_eq_some_iff.mp e
  cases e
  refine ⟨ρ, μ, m, x, μ1, hl, hs, e1, fun v H1 m1 x1 s1 r1 => ?_⟩
  exact fz_ok (B := fun H' => Q v H') s1 r1 e2 fun H' y s2 r2 => k v H' m1 (x1.trans y) s2 r2
end
noncomputable abbrev FI := Lo → Store → Option (List D × Store)
structure ItOk (K : PySem.W.Frag) (J : It) (xs : List D) (P : Hp → Prop) : Prop where
  st : ∀ H H', TF H H' → P H → P H'
  stop : ∀ i H, P H → xs.length ≤ i → J.stop i H
  go : ∀ (i : Nat) d H, xs[i]? = some d → P H → J.go i H
  yld : ∀ (i : Nat) d H x H', xs[i]? = some d → P H → J.yld i H x H' → H' = H ∧ RelD K H d x
def rdI (K : PySem.W.Frag) (f : FI) : TI := fun σ H R => ∃ ρ μ m xs μ', LRel K m H ρ σ ∧ SRel K m H μ ∧ f ρ μ = some (xs, μ') ∧
  ∀ J P H' m', Ext m H m' H' → SRel K m' H' μ' → ItOk K J xs P → P H' → R J H'
noncomputable def loop (g : FG) (b : FS) : List D → Lo → Store → Option Out
  | [], ρ, μ => some (.nx ρ μ)
  | x :: xs, ρ, μ => (g (.v x) ρ μ).bind fun a => (b a.1 a.2).bind fun o => match o with
    | .nx ρ' μ' => loop g b xs ρ' μ'
    | .ct ρ' μ' => loop g b xs ρ' μ'
    | .bk ρ' μ' => some (.nx ρ' μ')
    | .rt d μ' => some (.rt d μ')
noncomputable def sFor (i : FI) (g : FG) (b : FS) : FS := fun ρ μ => (i ρ μ).bind fun a => loop g b a.1 ρ a.2
section
variable {K : PySem.W.Frag} {m : List Addr} {σ : St} {H : Hp} {μ : Store} {D : Ends}
theorem rd_for {fi g b} (h : rdS K (sFor fi g b) D σ H) : tFor (rdI K fi) (rdG K g) (rdS K b) D σ H := by
  obtain ⟨ρ, μ, m, o, hl, hs, e, k⟩ := h
  obtain ⟨⟨xs, μ1⟩, e1, e⟩ := Option.bind_eq_some_iff.mp e
  refine ⟨ρ, μ, m, xs, μ1, hl, hs, e1, fun J P H1 m1 x1 s1 ok p1 => ?_⟩
  refine ⟨fun i n σ H => n = xs.length - i ∧ i ≤ xs.length ∧ P H ∧ ∃ ρ μ m, LRel K m H ρ σ ∧ SRel K m H μ ∧ loop g b (xs.drop i) ρ μ = some o ∧ Ends.of K m H D o,
    ⟨_, rfl, Nat.zero_le _, p1, ρ, μ1, m1, hl.ext x1, s1, by simpa using e, Ends.of_ext x1 k⟩, ?_⟩
  rintro i n σ H ⟨rfl, hi, p, ρ, μ, m, hl, hs, e, k⟩
  by_cases hlt : i < xs.length
  · have hx : xs[i]? = some xs[i] := List.getElem?_eq_getElem hlt
    rw [List.drop_eq_getElem_cons hlt, loop] at e
    obtain ⟨⟨ρ1, μ1⟩, e1, e⟩ := Option.bind_eq_some_iff.mp e
    obtain ⟨o1, e2, e⟩ := Option.bind_eq_some_iff.mp e
    refine .inr ⟨ok.go i _ H hx p, fun σ H => i + 1 ≤ xs.length ∧ P H ∧ ∃ ρ μ m, LRel K m H ρ σ ∧ SRel K m H μ ∧ loop g b (xs.drop (i + 1)) ρ μ = some o ∧ Ends.of K m H D o,
      fun σ' H' z => ⟨xs.length - (i + 1), by omega, rfl, z⟩, fun x H' y => ?_⟩
    obtain ⟨rfl, rx⟩ := ok.yld i _ H x H' hx p y
    refine ⟨ρ, μ, m, .v xs[i], ρ1, μ1, hl, hs, rx, e1, fun σ1 H1 m1 x1 s1 l1 => ?_⟩
    refine ⟨ρ1, μ1, m1, o1, l1, s1, e2, ?_⟩
    cases o1 with
    | nx ρ2 μ2 => exact fun σ2 H2 m2 x2 s2 l2 => ⟨hlt, ok.st _ _ (x1.trans x2).tf p, ρ2, μ2, m2, l2, s2, e, Ends.of_ext (x1.trans x2) k⟩
    | ct ρ2 μ2 => exact fun σ2 H2 m2 x2 s2 l2 => ⟨hlt, ok.st _ _ (x1.trans x2).tf p, ρ2, μ2, m2, l2, s2, e, Ends.of_ext (x1.trans x2) k⟩
    | bk ρ2 μ2 => cases e; exact fun σ2 H2 m2 x2 s2 l2 => k σ2 H2 m2 (x1.trans x2) s2 l2
    | rt d μ2 => cases e; exact fun v H2 m2 x2 s2 l2 => k v H2 m2 (x1.trans x2) s2 l2
  · have : i = xs.length := by omega
    subst this
    rw [List.drop_length, loop] at e
    cases e
    exact .inl ⟨ok.stop _ H p (Nat.le_refl _), k σ H m .refl hs hl⟩
end
noncomputable def fiSeq (f : FE) : FI := fun ρ μ => (fFz f ρ μ).bind fun a => match a.1 with | .v (.fl xs) => some (xs, a.2) | .v (.tup xs) => some (xs, a.2) | _ => none
def iSeq (K : PySem.W.Frag) (tl : TE) : TI := fun σ H R => tl σ H fun x H1 => ∃ a, x = .ref a ∧ (((∃ xs, SqL K H1 a xs) ∧ R (Itl K a) H1) ∨ ((∃ xs, SqT K H1 a xs) ∧ R (Itt K a) H1))
noncomputable def fiR1 (f : FE) : FI := fun ρ μ => (f ρ μ).bind fun a => match a.1 with | .v (.int j) => if -(2 ^ 62) ≤ j ∧ j < 2 ^ 62 then some ((List.range j.toNat).map fun i => .int (i : Nat), a.2) else none | _ => none
noncomputable def fiR2 (f g : FE) : FI := fun ρ μ => (f ρ μ).bind fun a => (g ρ a.2).bind fun b => match a.1, b.1 with
  | .v (.int i), .v (.int j) => if -(2 ^ 62) ≤ i ∧ i < 2 ^ 62 ∧ -(2 ^ 62) ≤ j ∧ j < 2 ^ 62 then some ((List.range (j - i).toNat).map fun k => .int (i + (k : Nat)), b.2) else none | _, _ => none
section
variable {K : PySem.W.Frag} {m : List Addr} {σ : St} {H : Hp} {μ : Store} {R : It → Hp → Prop}
theorem RelDs.get : ∀ {ds : List D} {vs : List V} {i : Nat} {d : D}, RelDs K H ds vs → ds[i]? = some d → ∃ v, vs[i]? = some v ∧ RelD K H d v
  | [], _, _, _, _, e => by simp at e
  | x :: xs, vs, 0, d, h, e => by
    simp only [RelDs] at h
    obtain ⟨v, r, rfl, h1, h2⟩ := h
    simp at e; subst e
    exact ⟨v, rfl, h1⟩
  | x :: xs, vs, i + 1, d, h, e => by
    simp only [RelDs] at h
    obtain ⟨v, r, rfl, h1, h2⟩ := h
    obtain ⟨u, q1, q2⟩ := RelDs.get (i := i) h2 (by simpa using e)
    exact ⟨u, by simpa using q1, q2⟩
theorem itl_ok {a vs xs} (r0 : RelDs K H xs vs) : ItOk K (Itl K a) xs (fun H => FAt K H a vs ∧ RelDs K H xs vs) where
  st := fun H H' t ⟨f, r⟩ => ⟨f.tf t, RelDs.tf t _ _ r⟩
  stop := fun i H ⟨f, r⟩ hi => ⟨vs, f.sq, by rw [← r.length]; exact hi⟩
  go := fun i d H e ⟨f, r⟩ => let ⟨v, q, _⟩ := r.get e; ⟨vs, v, f.sq, q⟩
  yld := fun i d H x H' e ⟨f, r⟩ ⟨e1, e2⟩ => by
    obtain ⟨v, q, rv⟩ := r.get e
    have := e2 vs f.sq
    rw [q] at this; cases this
    exact ⟨e1, rv⟩
theorem itt_ok {a vs xs} (r0 : RelDs K H xs vs) : ItOk K (Itt K a) xs (fun H => SqT K H a vs ∧ RelDs K H xs vs) where
  st := fun H H' t ⟨f, r⟩ => ⟨SqT.tf t f, RelDs.tf t _ _ r⟩
  stop := fun i H ⟨f, r⟩ hi => ⟨vs, f, by rw [← r.length]; exact hi⟩
  go := fun i d H e ⟨f, r⟩ => let ⟨v, q, _⟩ := r.get e; ⟨vs, v, f, q⟩
  yld := fun i d H x H' e ⟨f, r⟩ ⟨e1, e2⟩ => by
    obtain ⟨v, q, rv⟩ := r.get e
    have := e2 vs f
    rw [q] at this; cases this
    exact ⟨e1, rv⟩
theorem itr_ok (lo : Int) (n : Nat) : ItOk K (Itr lo n) ((List.range n).map fun k => .int (lo + (k : Nat))) (fun _ => True) where
  st := fun _ _ _ _ => trivial
  stop := fun i H _ hi => by show n ≤ i; simpa using hi
  go := fun i d H e _ => by
    have := (List.getElem?_eq_some_iff.mp e).1
    show i < n; simpa using this
  yld := fun i d H x H' e _ ⟨e1, e2⟩ => by
    have hi := (List.getElem?_eq_some_iff.mp e).1
    have hi' : i < n := by simpa using hi
    refine ⟨e1, ?_⟩
    simp [hi'] at e
    subst e e2
    simp only [RelD]
theorem rd_iSeq {f} (h : rdI K (fiSeq f) σ H R) : iSeq K (tFz (rdE K f)) σ H R := by
  obtain ⟨ρ, μ, m, xs, μ', hl, hs, e, k⟩ := h
  obtain ⟨⟨x, μ1⟩, e1, e⟩ := Option.bind_eq_some_iff.mp e
  refine rd_fz ⟨ρ, μ, m, x, μ1, hl, hs, e1, fun v H1 m1 x1 s1 r1 => ?_⟩
  split at e
  · rename_i ys q
    cases e
    simp only at q
    subst q
    simp only [RelR, RelD] at r1
    obtain ⟨a, vs, rfl, f, r⟩ := r1
    exact ⟨a, rfl, .inl ⟨⟨vs, f.sq⟩, k _ _ H1 m1 x1 s1 (itl_ok r) ⟨f, r⟩⟩⟩
  · rename_i ys q
    cases e
    simp only at q
    subst q
    simp only [RelR, RelD] at r1
    obtain ⟨a, vs, rfl, f, r⟩ := r1
    exact ⟨a, rfl, .inr ⟨⟨vs, f⟩, k _ _ H1 m1 x1 s1 (itt_ok r) ⟨f, r⟩⟩⟩
  · cases e
theorem rd_iR1 {f} (h : rdI K (fiR1 f) σ H R) : iRng1 (rdA K (fCons f fNil)) σ H R := by
  obtain ⟨ρ, μ, m, xs, μ', hl, hs, e, k⟩ := h
  obtain ⟨⟨x, μ1⟩, e1, e⟩ := Option.bind_eq_some_iff.mp e
  refine ⟨ρ, μ, m, [x], μ1, hl, hs, by simp [fCons, fNil, e1], fun vs H1 m1 x1 s1 r1 => ?_⟩
  split at e
  · rename_i j q
    split at e
    · rename_i z
      cases e
      simp only at q
      subst q
      obtain ⟨v, r, rfl, r1, r2⟩ := r1
      have r2 : r = [] := r2
      simp only [RelR, RelD] at r1
      subst r1 r2
      have := itr_ok (K := K) 0 j.toNat
      simp only [Int.zero_add] at this
      exact ⟨j, rfl, z.1, z.2, k _ _ H1 m1 x1 s1 this trivial⟩
    · cases e
  · cases e
end
end HW
namespace HW
open PySem L2
noncomputable abbrev MF := List D → Option D
def Sam (H H' : Hp) : Prop := ∀ a o, H a = some o → H' a = some o
noncomputable def spP (K : PySem.W.Frag) (n : Nat) (f : MF) : Sp := fun vs H Q _ => ∃ ds d, ds.length = n ∧ RelDs K H ds vs ∧ f ds = some d ∧ ∀ v H', Sam H H' → RelD K H' d v → Q v H'
noncomputable def fin : Out → Option D
  | .rt r μ => (fzD r μ).bind fun a => some a.1
  | .nx _ _ => some .non
  | _ => none
noncomputable def runP (k : Nat) (b : FS) : MF := fun ds => (b (ds.map (fun d => some (.v d)) ++ List.replicate (k - ds.length) none) []).bind fin
noncomputable def fCall (f : MF) (n : Nat) (fa : FA) : FE := fun ρ μ => (fa ρ μ).bind fun a => (vals a.1).bind fun ds => if ds.length = n then (f ds).bind fun d => some (.v d, a.2) else none
section
variable {K : PySem.W.Frag} {m : List Addr} {σ : St} {H H' : Hp} {μ : Store} {Q : VK}
theorem Sam.ext (s : Sam H H') : Ext m H m H' := ⟨⟨[], by simp⟩, .of s, fun a o e _ => s a o e, fun a h => by
  cases q : H a with
  | none => rfl
  | some o => rw [s a o q] at h; cases h⟩
theorem rd_call {f n fa} {E : XK} (h : rdE K (fCall f n fa) σ H Q) : tCall (spP K n f) [] E (rdA K fa) σ H Q := by
  obtain ⟨ρ, μ, m, d, μ', hl, hs, e, k⟩ := h
  obtain ⟨⟨xs, μ1⟩, e1, e⟩ := Option.bind_eq_some_iff.mp e
  obtain ⟨ds, e2, e⟩ := Option.bind_eq_some_iff.mp e
  split at e
  · rename_i hn
    obtain ⟨d1, e3, e⟩ := Option.bind_eq_some_iff.mp e
    cases e
    refine ⟨ρ, μ, m, xs, _, hl, hs, e1, fun vs H1 m1 x1 s1 r1 => ?_⟩
    refine ⟨ds, d1, hn, by simpa using vals_rel e2 r1, e3, fun v H2 z r2 => ?_⟩
    exact k v H2 m1 (x1.trans z.ext) (s1.same z) r2
  · cases e
theorem start_rel {N : List Str} {ds : List D} {vs : List V} (r : RelDs K H ds vs) : LRel K [] H (ds.map (fun d => some (.v d)) ++ List.replicate (N.length - ds.length) none) (L2.start N vs) := by
  have hl := r.length
  unfold L2.start
  refine ⟨by simp [hl], fun i d e => ?_⟩
  by_cases hi : i < ds.length
  · rw [List.getElem?_append_left (by simpa using hi), List.getElem?_map] at e
    cases q : ds[i]? with
    | none => rw [q] at e; cases e
    | some d' =>
      rw [q] at e
      cases e
      obtain ⟨v, q1, q2⟩ := r.get q
      exact ⟨v, by rw [List.getElem?_append_left (by simp; omega), List.getElem?_map, q1]; rfl, q2⟩
  · rw [List.getElem?_append_right (by simpa using hi), List.getElem?_replicate] at e
    split at e <;> cases e
def orFz (Q : VK) : VK := fun v H => Q v H ∨ ∃ a u, H a = some u ∧ FzOk u ∧ ∀ o, Q v (upd H a (.frz o u))
theorem Ext.sam (x : Ext [] H m H') : Sam H H' := fun a o e => x.keep a o e (by simp)
theorem run_ok {N : List Str} {b : FS} {ds : List D} {vs : List V} {d : D} {E : XK} (r : RelDs K H ds vs) (e : runP N.length b ds = some d) (k : ∀ v H', Sam H H' → RelD K H' d v → Q v H') :
    rdS K b { nx := fun _ H' => orFz Q .non H', rt := orFz Q } (L2.start N vs) H := by
  obtain ⟨o, e1, e⟩ := Option.bind_eq_some_iff.mp e
  refine ⟨_, [], [], o, start_rel r, .nil, e1, ?_⟩
  cases o with
  | nx ρ μ =>
    cases e
    exact fun σ H' m' x _ _ => .inl (k _ _ x.sam (by simp only [RelD]))
  | bk ρ μ => cases e
  | ct ρ μ => cases e
  | rt q μ =>
    obtain ⟨⟨d1, μ1⟩, e2, e⟩ := Option.bind_eq_some_iff.mp e
    cases e
    intro v H' m' x s r'
    exact fz_ok (B := fun H' => Q v H') s r' e2 fun H2 y s2 r2 => k v H2 (x.trans y).sam r2
end
noncomputable def iOp (C : Int → Int → Bool) (f : Int → Int → D) : R → R → Store → Option (R × Store)
  | .v (.int i), .v (.int j), μ => if C i j = true then some (.v (f i j), μ) else none
  | _, _, _ => none
theorem gI {K : PySem.W.Frag} {C : Int → Int → Bool} {C' : Int → Int → Prop} {f : Int → Int → D} {g : Int → Int → V} (hC : ∀ i j, C i j = true → C' i j) (hg : ∀ H i j, RelD K H (f i j) (g i j)) : GOp K (iOp C f) (rI C' g) := by
  intro m H μ x y d μ' v u Q s rx ry e k
  unfold iOp at e
  split at e
  · rename_i i j
    split at e
    · rename_i z
      cases e
      simp only [RelR, RelD] at rx ry
      subst rx ry
      exact ⟨i, j, rfl, rfl, hC i j z, k _ H m .refl s (hg H i j)⟩
    · cases e
  · cases e
theorem gI0 {K : PySem.W.Frag} {f : Int → Int → D} {g : Int → Int → V} (hg : ∀ H i j, RelD K H (f i j) (g i j)) : GOp K (iOp (fun _ _ => true) f) (rI0 g) := by
  intro m H μ x y d μ' v u Q s rx ry e k
  unfold iOp at e
  split at e
  · rename_i i j
    split at e
    · cases e
      simp only [RelR, RelD] at rx ry
      subst rx ry
      exact ⟨i, j, rfl, rfl, k _ H m .refl s (hg H i j)⟩
    · cases e
  · cases e
noncomputable abbrev subD := iOp (fun _ _ => true) fun i j => .int (i - j)
noncomputable abbrev mulD := iOp (fun i j => decide (-(2 ^ 64) < i ∧ i < 2 ^ 64) || decide (-(2 ^ 64) < j ∧ j < 2 ^ 64)) fun i j => .int (i * j)
noncomputable abbrev divD := iOp (fun _ j => decide (0 < j ∧ j < 1073741824)) fun i j => .int (i / j)
noncomputable abbrev modD := iOp (fun _ j => decide (0 < j)) fun i j => .int (i % j)
noncomputable abbrev powD := iOp (fun i j => decide (0 ≤ j ∧ j ≤ 1000000 ∧ i.natAbs < 2 ^ 64)) fun i j => .int (i ^ j.toNat)
noncomputable abbrev ltD := iOp (fun _ _ => true) fun i j => .bl (decide (i < j))
noncomputable abbrev leD := iOp (fun _ _ => true) fun i j => .bl (decide (i ≤ j))
noncomputable abbrev gtD := iOp (fun _ _ => true) fun i j => .bl (decide (j < i))
noncomputable abbrev geD := iOp (fun _ _ => true) fun i j => .bl (decide (j ≤ i))
noncomputable def negD : R → Store → Option (R × Store)
  | .v (.int i), μ => some (.v (.int (-i)), μ)
  | _, _ => none
section
variable {K : PySem.W.Frag}
theorem rInt {H : Hp} {i : Int} : RelD K H (.int i) (.int i) := by simp only [RelD]
theorem rBl {H : Hp} {i : Bool} : RelD K H (.bl i) (.bl i) := by simp only [RelD]
theorem g_sub : GOp K subD (rI0 fun i j => .int (i - j)) := gI0 fun _ _ _ => rInt
theorem g_mul : GOp K mulD (rI CMul fun i j => .int (i * j)) := gI (fun i j h => by simpa [CMul] using h) fun _ _ _ => rInt
theorem g_div : GOp K divD (rI CDiv fun i j => .int (i / j)) := gI (fun i j h => by simpa [CDiv] using h) fun _ _ _ => rInt
theorem g_mod : GOp K modD (rI (fun _ j => 0 < j) fun i j => .int (i % j)) := gI (fun i j h => by simpa using h) fun _ _ _ => rInt
theorem g_pow : GOp K powD (rI CPow fun i j => .int (i ^ j.toNat)) := gI (fun i j h => by simpa [CPow] using h) fun _ _ _ => rInt
theorem g_lt : GOp K ltD (rI0 fun i j => .bl (decide (i < j))) := gI0 fun _ _ _ => rBl
theorem g_le : GOp K leD (rI0 fun i j => .bl (decide (i ≤ j))) := gI0 fun _ _ _ => rBl
theorem g_neg : GUn K negD (rU fun i => .int (-i)) := by
  intro m H μ x d μ' v Q s rx e k
  unfold negD at e
  split at e
  · rename_i i
    cases e
    simp only [RelR, RelD] at rx
    subst rx
    exact ⟨i, rfl, k _ H m .refl s (by simp only [RelR, RelD])⟩
  · cases e
end
noncomputable def addD : R → R → Store → Option (R × Store)
  | .v (.int i), .v (.int j), μ => some (.v (.int (i + j)), μ)
  | .v (.str x), .v (.str y), μ => if x.length + y.length ≤ sizeLine then some (.v (.str (x ++ y)), μ) else none
  | .v (.tup xs), .v (.tup ys), μ => if xs ≠ [] ∧ xs.length + ys.length ≤ sizeLine then some (.v (.tup (xs ++ ys)), μ) else none
  | .p a, .p b, μ => match μ[a]?, μ[b]? with | some (.lst xs), some (.lst ys) => if xs.length + ys.length ≤ sizeLine then some (.p μ.length, μ ++ [.lst (xs ++ ys)]) else none | _, _ => none
  | _, _, _ => none
noncomputable def rAddS : R2 := fun x y H Q => ∃ i j, x = .str i ∧ y = .str j ∧ i.length + j.length ≤ sizeLine ∧ Q (.str (i ++ j)) H
noncomputable def rOr (r r' : R2) : R2 := fun x y H Q => r x y H Q ∨ r' x y H Q
noncomputable def rAdd' (K : PySem.W.Frag) : R2 := rOr (rI0 fun i j => .int (i + j)) (rOr rAddS (rOr (rCatT K) rCat))
theorem RelDs.append {K : PySem.W.Frag} {H : Hp} : ∀ {xs ys : List D} {vs ws : List V}, RelDs K H xs vs → RelDs K H ys ws → RelDs K H (xs ++ ys) (vs ++ ws)
  | [], _, _, _, h, h' => by simp only [RelDs] at h; subst h; exact h'
  | x :: xs, _, _, _, h, h' => by
    simp only [RelDs] at h
    obtain ⟨v, r, rfl, h1, h2⟩ := h
    show RelDs K H (x :: (xs ++ _)) _
    simp only [RelDs]
    exact ⟨v, r ++ _, rfl, h1, RelDs.append h2 h'⟩
theorem RelDs.nil_iff {K : PySem.W.Frag} {H : Hp} {xs : List D} {vs : List V} (h : RelDs K H xs vs) : xs = [] ↔ vs = [] := by
  have := h.length
  cases xs <;> cases vs <;> simp_all
theorem g_add {K : PySem.W.Frag} : GOp K addD (rAdd' K) := by
  intro m H μ x y d μ' v u Q s rx ry e k
  unfold addD at e
  split at e
  · cases e
    simp only [RelR, RelD] at rx ry
    subst rx ry
    exact .inl ⟨_, _, rfl, rfl, k _ H m .refl s (by simp only [RelR, RelD])⟩
  · split at e
    · rename_i z
      cases e
      simp only [RelR, RelD] at rx ry
      subst rx ry
      exact .inr (.inl ⟨_, _, rfl, rfl, z, k _ H m .refl s (by simp only [RelR, RelD])⟩)
    · cases e
  · split at e
    · rename_i z
      cases e
      simp only [RelR, RelD] at rx ry
      obtain ⟨a, vs, rfl, qa, ra⟩ := rx
      obtain ⟨b, ws, rfl, qb, rb⟩ := ry
      refine .inr (.inr (.inl ⟨a, b, vs, ws, rfl, rfl, qa, qb, fun h => z.1 (ra.nil_iff.mpr h), by rw [← ra.length, ← rb.length]; exact z.2, fun h => ?_, fun h p hp => ?_⟩))
      · refine k _ H m .refl s ?_
        have := rb.nil_iff.mpr h
        subst this
        simp only [RelR, RelD, List.append_nil]
        exact ⟨a, vs, rfl, qa, ra⟩
      · obtain ⟨x1, x2, x3⟩ := new_tup s (ra.append rb) hp
        exact k _ _ _ x1 x2 x3
    · cases e
  · split at e
    · rename_i xs ys qa qb
      split at e
      · rename_i z
        cases e
        obtain ⟨a', rfl, ha⟩ := rx
        obtain ⟨b', rfl, hb⟩ := ry
        obtain ⟨vs, ea, ra⟩ := s.cell _ _ a' qa ha
        obtain ⟨ws, eb, rb⟩ := s.cell _ _ b' qb hb
        refine .inr (.inr (.inr ⟨a', b', vs, ws, rfl, rfl, ea, eb, by rw [← ra.length, ← rb.length]; exact z, fun p hp => ?_⟩))
        obtain ⟨x1, x2, x3⟩ := new_lst s (ra.append rb) hp
        exact k _ _ _ x1 x2 x3
      · cases e
    · cases e
  · cases e
noncomputable def itemsD : R → Store → Option (List D)
  | .v (.tup xs), _ => some xs
  | .v (.fl xs), _ => some xs
  | .p n, μ => match μ[n]? with | some (.lst xs) => some xs | some (.fz xs) => some xs | _ => none
  | _, _ => none
noncomputable def lstD : R → Store → Option (List D)
  | .v (.fl xs), _ => some xs
  | .p n, μ => match μ[n]? with | some (.lst xs) => some xs | some (.fz xs) => some xs | _ => none
  | _, _ => none
section
variable {K : PySem.W.Frag} {m : List Addr} {H : Hp} {μ : Store}
theorem lst_ok {x : R} {xs : List D} {v : V} (s : SRel K m H μ) (r : RelR K m H x v) (e : lstD x μ = some xs) : ∃ a vs, v = .ref a ∧ SqL K H a vs ∧ RelDs K H xs vs := by
  unfold lstD at e
  split at e
  · cases e
    simp only [RelR, RelD] at r
    obtain ⟨a, vs, rfl, q, r⟩ := r
    exact ⟨a, vs, rfl, q.sq, r⟩
  · obtain ⟨a, rfl, ha⟩ := r
    split at e
    · rename_i q
      cases e
      obtain ⟨vs, e, r⟩ := s.cell _ _ a q ha
      exact ⟨a, vs, rfl, .inl (.inl e), r⟩
    · rename_i q
      cases e
      obtain ⟨o, vs, e, r⟩ := s.cell _ _ a q ha
      exact ⟨a, vs, rfl, .inl (.inr ⟨o, e⟩), r⟩
    · cases e
  · cases e
theorem items_ok {x : R} {xs : List D} {v : V} (s : SRel K m H μ) (r : RelR K m H x v) (e : itemsD x μ = some xs) : ∃ a vs, v = .ref a ∧ (SqL K H a vs ∨ SqT K H a vs) ∧ RelDs K H xs vs := by
  cases x with
  | v d =>
    cases d with
    | tup ys =>
      cases e
      simp only [RelR, RelD] at r
      obtain ⟨a, vs, rfl, q, r⟩ := r
      exact ⟨a, vs, rfl, .inr q, r⟩
    | fl ys => obtain ⟨a, vs, q1, q2, q3⟩ := lst_ok s r (xs := xs) e; exact ⟨a, vs, q1, .inl q2, q3⟩
    | non => cases e
    | bl _ => cases e
    | int _ => cases e
    | str _ => cases e
    | fd _ _ => cases e
  | p n => obtain ⟨a, vs, q1, q2, q3⟩ := lst_ok s r (xs := xs) e; exact ⟨a, vs, q1, .inl q2, q3⟩
  | s _ _ => cases e
  | x _ => cases e
end
noncomputable def ixD : R → R → Store → Option (R × Store)
  | x, .v (.int i), μ => (itemsD x μ).bind fun xs => (atI xs i).bind fun d => some (.v d, μ)
  | _, _, _ => none
noncomputable def lenD : List R → Store → Option (R × Store)
  | [x], μ => (itemsD x μ).bind fun xs => some (.v (.int xs.length), μ)
  | _, _ => none
theorem atI_rel {K : PySem.W.Frag} {H : Hp} {xs : List D} {vs : List V} {i : Int} {d : D} (r : RelDs K H xs vs) (e : atI xs i = some d) : ∃ v, atI vs i = some v ∧ RelD K H d v := by
  obtain ⟨j, e1, e2⟩ := Option.bind_eq_some_iff.mp e
  obtain ⟨v, q1, q2⟩ := r.get e2
  exact ⟨v, by unfold atI; rw [← r.length, e1]; exact q1, q2⟩
theorem g_ix {K : PySem.W.Frag} : GOp K ixD (rIx K) := by
  intro m H μ x y d μ' v u Q s rx ry e k
  unfold ixD at e
  split at e
  · rename_i i
    obtain ⟨xs, e1, e⟩ := Option.bind_eq_some_iff.mp e
    obtain ⟨d1, e2, e⟩ := Option.bind_eq_some_iff.mp e
    cases e
    simp only [RelR, RelD] at ry
    subst ry
    obtain ⟨a, vs, rfl, q, r⟩ := items_ok s rx e1
    obtain ⟨w, q1, q2⟩ := atI_rel r e2
    rcases q with q | q
    · exact .inl ⟨a, vs, i, w, rfl, rfl, q, q1, k _ H m .refl s q2⟩
    · exact .inr (.inl ⟨a, vs, i, w, rfl, rfl, q, q1, k _ H m .refl s q2⟩)
  · cases e
def rLen (K : PySem.W.Frag) : List V → Hp → VK → Prop := fun xs H Q => ∃ p ys, xs = [.ref p] ∧ (SqL K H p ys ∨ SqT K H p ys) ∧ Q (.int ys.length) H
theorem rel1 {K : PySem.W.Frag} {m : List Addr} {H : Hp} {x : R} {vs : List V} (r : RelRs K m H [x] vs) : ∃ v, vs = [v] ∧ RelR K m H x v := by
  obtain ⟨v, r, rfl, h1, h2⟩ := r
  have h2 : r = [] := h2
  subst h2
  exact ⟨v, rfl, h1⟩
theorem g_len {K : PySem.W.Frag} : GAr K lenD (rLen K) := by
  intro m H μ xs d μ' vs Q s r e k
  unfold lenD at e
  split at e
  · rename_i x
    obtain ⟨ys, e1, e⟩ := Option.bind_eq_some_iff.mp e
    cases e
    obtain ⟨v, rfl, r1⟩ := rel1 r
    obtain ⟨a, ws, rfl, q, r⟩ := items_ok s r1 e1
    exact ⟨a, ws, rfl, q, k _ H m .refl s (by simp only [RelR, RelD]; rw [r.length])⟩
  · cases e
noncomputable def listD : List R → Store → Option (R × Store)
  | [x], μ => (itemsD x μ).bind fun xs => some (.p μ.length, μ ++ [.lst xs])
  | _, _ => none
def rList (K : PySem.W.Frag) : List V → Hp → VK → Prop := fun xs H Q => ∃ p ys, xs = [.ref p] ∧ (SqL K H p ys ∨ SqT K H p ys) ∧ ∀ l, H l = none → Q (.ref l) (upd H l (.lst ys))
theorem g_list {K : PySem.W.Frag} : GAr K listD (rList K) := by
  intro m H μ xs d μ' vs Q s r e k
  unfold listD at e
  split at e
  · rename_i x
    obtain ⟨ys, e1, e⟩ := Option.bind_eq_some_iff.mp e
    cases e
    obtain ⟨v, rfl, r1⟩ := rel1 r
    obtain ⟨a, ws, rfl, q, r⟩ := items_ok s r1 e1
    refine ⟨a, ws, rfl, q, fun p hp => ?_⟩
    obtain ⟨x1, x2, x3⟩ := new_lst s r hp
    exact k _ _ _ x1 x2 x3
  · cases e
noncomputable def tupD : List R → Store → Option (R × Store)
  | [x], μ => (itemsD x μ).bind fun xs => some (.v (.tup xs), μ)
  | _, _ => none
def rTup (K : PySem.W.Frag) : List V → Hp → VK → Prop := fun xs H Q => ∃ p ys, xs = [.ref p] ∧ ((SqL K H p ys ∧ ∀ l, H l = none → Q (.ref l) (upd H l (.tup ys))) ∨ (SqT K H p ys ∧ Q (.ref p) H))
theorem g_tup {K : PySem.W.Frag} : GAr K tupD (rTup K) := by
  intro m H μ xs d μ' vs Q s r e k
  unfold tupD at e
  split at e
  · rename_i x
    obtain ⟨ys, e1, e⟩ := Option.bind_eq_some_iff.mp e
    cases e
    obtain ⟨v, rfl, r1⟩ := rel1 r
    obtain ⟨a, ws, rfl, q, r⟩ := items_ok s r1 e1
    rcases q with q | q
    · refine ⟨a, ws, rfl, .inl ⟨q, fun p hp => ?_⟩⟩
      obtain ⟨x1, x2, x3⟩ := new_tup s r hp
      exact k _ _ _ x1 x2 x3
    · refine ⟨a, ws, rfl, .inr ⟨q, k _ H m .refl s ?_⟩⟩
      simp only [RelR, RelD]
      exact ⟨a, ws, rfl, q, r⟩
  · cases e
noncomputable def appD : R → List R → Store → Option (R × Store)
  | .p n, [.v d], μ => match μ[n]? with | some (.lst xs) => if xs.length < sizeLine then some (.v .non, μ.set n (.lst (xs ++ [d]))) else none | _ => none
  | _, _, _ => none
def GMt (K : PySem.W.Frag) (g : R → List R → Store → Option (R × Store)) (r : V → List V → Hp → VK → Prop) : Prop :=
  ∀ m H μ x xs d μ' v vs Q, SRel K m H μ → RelR K m H x v → RelRs K m H xs vs → g x xs μ = some (d, μ') → (∀ w H' m', Ext m H m' H' → SRel K m' H' μ' → RelR K m' H' d w → Q w H') → r v vs H Q
theorem g_app {K : PySem.W.Frag} : GMt K appD rAppend := by
  intro m H μ x xs d μ' v vs Q s rx rs e k
  unfold appD at e
  split at e
  · split at e
    · rename_i ys q
      split at e
      · rename_i z
        cases e
        obtain ⟨a, rfl, ha⟩ := rx
        obtain ⟨w, rfl, rw'⟩ := rel1 rs
        obtain ⟨ws, ea, ra⟩ := s.cell _ _ a q ha
        have x : Ext m H m (upd H a (.lst (ws ++ [w]))) := .put (List.mem_of_getElem? ha) ea (by simp) (by simp)
        refine ⟨a, ws, w, rfl, rfl, ea, by rw [← ra.length]; exact z, k _ _ m x (s.put ha ea (by simp) (by simp) ⟨_, upd_at, ?_⟩) (by simp only [RelR, RelD])⟩
        refine RelDs.tf x.tf _ _ (ra.append ?_)
        simp only [RelDs]
        exact ⟨w, [], rfl, rw', rfl⟩
      · cases e
    · cases e
  · cases e
noncomputable def compL (g : FG) (c : FT) (f : FE) : List D → Lo → Store → Option (List D × Store)
  | [], _, μ => some ([], μ)
  | x :: xs, ρ, μ => (g (.v x) ρ μ).bind fun a => (c a.1 a.2).bind fun b => if b.1 = true then (f a.1 b.2).bind fun y => match y.1 with
      | .v d => (compL g c f xs a.1 y.2).bind fun r => some (d :: r.1, r.2)
      | _ => none
    else compL g c f xs a.1 b.2
noncomputable def blockLo (k : Nat) (ix : List Nat) (ρ : Lo) : Lo := List.replicate k none ++ ix.map fun i => (ρ[i]?).join
noncomputable def fComp (ix : List Nat) (k : Nat) (i : FI) (g : FG) (c : FT) (f : FE) : FE := fun ρ μ => (i ρ μ).bind fun a => if a.1.length ≤ sizeLine then
  (compL g c f a.1 (blockLo k ix ρ) a.2).bind fun r => some (.p r.2.length, r.2 ++ [.lst r.1]) else none
noncomputable def cYes : FT := fun _ μ => some (true, μ)
end HW
namespace HW
open PySem PySem.Spec PyProof.Rows L2
section
variable {X : Cx}
theorem PE.imp {e : Expr} {t t' : TE} (h : PE X e t) (k : ∀ {σ H Q}, t' σ H Q → t σ H Q) : PE X e t' := fun pins s σ H Q I q => h pins s σ H Q I (k q)
theorem PT.imp {e : Expr} {t t' : TT} (h : PT X e t) (k : ∀ {σ H Q}, t' σ H Q → t σ H Q) : PT X e t' := fun pins s σ H Q I q => h pins s σ H Q I (k q)
theorem PW.imp {e : Expr} {t t' : TT} (h : PW X e t) (k : ∀ {σ H Q}, t' σ H Q → t σ H Q) : PW X e t' := fun wh pins s σ H Q I q => h wh pins s σ H Q I (k q)
theorem PA.imp {e : List Expr} {t t' : TA} (h : PA X e t) (k : ∀ {σ H Q}, t' σ H Q → t σ H Q) : PA X e t' := fun pos pins s σ H Q I q => h pos pins s σ H Q I (k q)
theorem PS.imp {e : Stmt} {t t' : TS} (h : PS X e t) (k : ∀ {D σ H}, t' D σ H → t D σ H) : PS X e t' := fun pins s σ H Q I q => h pins s σ H Q I (k q)
theorem PSs.imp {e : List Stmt} {t t' : TS} (h : PSs X e t) (k : ∀ {D σ H}, t' D σ H → t D σ H) : PSs X e t' := fun pins s σ H Q I q => h pins s σ H Q I (k q)
theorem PI.imp {tg e : Expr} {t t' : TI} (h : PI X tg e t) (k : ∀ {σ H R}, t' σ H R → t σ H R) : PI X tg e t' := fun pins s σ H R I q => h pins s σ H R I (k q)
theorem PG.imp {e : Expr} {t t' : TG} (h : PG X e t) (k : ∀ {v σ H Q}, t' v σ H Q → t v σ H Q) : PG X e t' := fun pins s σ H v u Q I r q => h pins s σ H v u Q I r (k q)
theorem PGs.imp {e : List Expr} {t t' : TGs} (h : PGs X e t) (k : ∀ {v σ H Q}, t' v σ H Q → t v σ H Q) : PGs X e t' := fun pins s σ H v u Q I r q => h pins s σ H v u Q I r (k q)
end
section
variable {P : Program} {w : World} {H H0 : Hp} {h h0 : Heap} {a : Addr} {u : HO} {fs ex : List Addr}
theorem FzOk.ne {b : Addr} {v : HO} (e : H a = some u) (hu : FzOk u) (q : H b = some v) (n : ¬ FzOk v) : b ≠ a := fun z => by
  rw [z, e] at q; cases q; exact n hu
theorem HOk.frz (ok : HOk P w H h) (e : H a = some u) (hu : FzOk u) : ∃ o, HOk P w (upd H a (.frz o u)) h := by
  have ho : ∃ o, h.get? a = some o := by
    have z := ok a u e
    cases u with
    | lst xs => obtain ⟨_, _, _, _, q⟩ := z; exact ⟨_, q⟩
    | set S n => obtain ⟨o, _, _, _, q, _⟩ := z; exact ⟨_, q⟩
    | dK kvs => obtain ⟨_, _, _, _, o, _, _, q, _⟩ := z; exact ⟨_, q⟩
    | _ => exact hu.elim
  obtain ⟨o, ho⟩ := ho
  refine ⟨o, fun b v q => ?_⟩
  have own : ∀ c y, H c = some (.own y) → upd H a (.frz o u) c = some (.own y) := fun c y r => by rw [L2.upd_ne (FzOk.ne e hu r fun z => z)]; exact r
  have tup : ∀ c xs, H c = some (.tup xs) → upd H a (.frz o u) c = some (.tup xs) := fun c xs r => by rw [L2.upd_ne (FzOk.ne e hu r fun z => z)]; exact r
  by_cases hb : b = a
  · subst hb
    rw [L2.upd_same] at q
    cases q
    exact ⟨ho, (ok b u e).stay (fun c v _ q => q) (fun c r => own c _ r) tup⟩
  · rw [L2.upd_ne hb] at q
    exact (ok b v q).stay (fun c v _ q => q) (fun c r => own c _ r) tup
theorem Un.frz {o : Obj} (un : Un fs ex H0 H h0 h) (e : H a = some u) (hu : FzOk u) : Un fs ex H0 (upd H a (.frz o u)) h0 h where
  keep := un.keep
  slot := un.slot
  free := fun b ob q n hx => by
    have z := un.free b ob q n hx
    rw [L2.upd_ne (fun y => by rw [y, e] at z; cases z)]; exact z
  there := un.there
  tups := fun b xs q => by rw [L2.upd_ne (FzOk.ne e hu (un.tups b xs q) fun z => z)]; exact un.tups b xs q
  frzs := fun b ob v q => by rw [L2.upd_ne (FzOk.ne e hu (un.frzs b ob v q) fun z => z)]; exact un.frzs b ob v q
  tbls := fun b ps q => by
    obtain ⟨more, r⟩ := un.tbls b ps q
    exact ⟨more, by rw [L2.upd_ne (FzOk.ne e hu r fun z => z)]; exact r⟩
theorem Inv.frz {X : Cx} {pins : List (Addr × Obj)} {σ : L2.St} {s : Shared} (I : Inv X pins σ H s) (e : H a = some u) (hu : FzOk u) : ∃ o, Inv X pins σ (upd H a (.frz o u)) s := by
  obtain ⟨o, ok⟩ := HOk.frz I.hok e hu
  have nn : ∀ b, H b = none → upd H a (.frz o u) b = none := fun b z => by rw [L2.upd_ne (fun y => by rw [y, e] at z; cases z)]; exact z
  refine ⟨o, I.ok, I.os, I.bare, Un.frz I.base e hu, I.loc, I.cell, nn _ I.free, fun x c q => nn _ (I.freeC x c q), fun p hp => ?_, ok, I.len⟩
  obtain ⟨q1, q2, q3⟩ := I.pin p hp
  exact ⟨q1, nn _ q2, q3⟩
end
theorem pe_fz0 {X : Cx} {e : Expr} {t : TE} (h : PE X e t) : PE X e (tFz t) := fun pins s σ H Q I q => by
  refine thn (h pins s σ H _ I q) fun v s1 ⟨x, H1, I1, r1, q1⟩ => ?_
  rcases q1 with q1 | ⟨a, u, e, hu, q1⟩
  · exact ⟨x, H1, I1, r1, q1⟩
  · obtain ⟨o, I2⟩ := Inv.frz I1 e hu
    exact ⟨x, _, I2, r1, q1 o⟩
theorem FnOk.fz {P : Program} {w : World} {K : PySem.W.Frag} {mg : Str → Option Value} {base : Heap} {CX : CXT} {k : Nat} {f : Addr} {fd : FuncData} {ps : List Str} {sp : Sp} (F : FnOk P w K mg base CX k f fd ps sp) :
    FnOk P w K mg base CX k f fd ps (fun vs H Q E => sp vs H (orFz Q) E) := by
  refine ⟨fun vs H Q E h => F.len vs H _ E h, fun A outer s H args us vs Q E hr he hb hv hs => ?_⟩
  refine codeAny_mono (F.run A outer s H args us vs (orFz Q) E hr he hb hv hs) fun r s' hq => ?_
  cases r with
  | error e => exact hq
  | ok fl =>
    cases fl with
    | next => exact hq
    | brk => exact hq
    | cont => exact hq
    | ret u =>
      obtain ⟨v, H', os, bare, un, hok, rv, q⟩ := hq
      rcases q with q | ⟨a, u', e, hu, q⟩
      · exact ⟨v, H', os, bare, un, hok, rv, q⟩
      · obtain ⟨o, ok⟩ := HOk.frz hok e hu
        exact ⟨v, _, os, bare, Un.frz un e hu, ok, rv, q o⟩
theorem Fun.okP {P : Program} {w : World} {K : PySem.W.Frag} {mg : Str → Option Value} {base : Heap} {x qual : Str} {st : Stmt} {f : Addr} {fd : FuncData} {N ps : List Str} {k : Nat} {b : FS} (F : Fun K x qual st f fd) (S : FnScope N ps (defScope st))
    (hbody : ∀ (cdv : Value) (A : Around) (outer : List Env) (s : Shared) (H : Hp) (E : XK), Room k (A.deeper (envOfC qual (defScope st) s.heap.objs.size f cdv)) → PSs (cxOf CX0 P w K mg base N qual (defScope st) f cdv A outer s H E).nox (defBody st) (rdS K b)) :
    FnOk P w K mg base CX0 (k + 1) f fd ps (spP K ps.length (runP N.length b)) := by
  have G : FnOk P w K mg base CX0 (k + 1) f fd ps (fun vs H Q _ => vs.length = ps.length ∧ rdS K b { nx := fun _ H' => Q .non H', rt := Q } (L2.start N vs) H) :=
    L2.Fun.ok F S (fun vs H Q E h => h.1) fun cdv A outer s H vs Q E hr h => ⟨_, hbody cdv A outer s H E hr, h.2⟩
  refine (FnOk.fz G).imp fun vs H Q E ⟨ds, d, hn, r, e, k⟩ => ⟨by rw [← r.length]; exact hn, run_ok (E := E) r e k⟩
theorem pi_seq0 {X : Cx} {tg l : Expr} {tl : TE} (hl : PE X l tl) : PI X tg l (iSeq X.K tl) := by
  intro pins s σ H R I h
  refine thn (hl pins s σ H _ I h) fun v s1 ⟨x, H1, I1, r1, q1⟩ => ?_
  obtain ⟨a, e, q1⟩ := q1
  subst e
  cases r1
  rcases q1 with ⟨⟨xs, hq⟩, q⟩ | ⟨⟨xs, hq⟩, q⟩
  · obtain ⟨its, rv, p, hz⟩ := I1.list hq
    refine wpAny_pyIter_list p.isList ?_
    refine ⟨s1.heap.objs.size, [s1.heap.objs.size], _, _, H1, rfl, I1.kept (t' := s1.toks) fun b o e => Heap.get?_push_of_some _ e, turn_list a _, ⟨_, Heap.get?_push_size _ rfl, rfl, rfl⟩, fun b hb => ?_, q⟩
    have e : b = s1.heap.objs.size := by simpa using hb
    subst e
    exact I1.fpOk (Nat.le_refl _) (I1.hok.fresh (Nat.le_refl _))
  · obtain ⟨its, rv, p, hz⟩ := I1.tuple hq
    refine wpAny_pyIter_tuple (show s1.heap.IsTuple a its.toArray from p) ?_
    refine ⟨s1.heap.objs.size, [s1.heap.objs.size], _, _, H1, rfl, I1.kept (t' := s1.toks) fun b o e => Heap.get?_push_of_some _ e, turn_tuple a _, ⟨_, Heap.get?_push_size _ rfl, rfl, rfl⟩, fun b hb => ?_, q⟩
    have e : b = s1.heap.objs.size := by simpa using hb
    subst e
    exact I1.fpOk (Nat.le_refl _) (I1.hok.fresh (Nat.le_refl _))
end HW
namespace HW
open PySem PySem.Spec PyProof.Rows L2
theorem relabel_lookup {env : Env} : ∀ {names : List (Str × NameKind)} {x : Str},
    (names.map fun (n, k) => if (k == NameKind.free && env.scope.kind == .function && env.kindOf n == some .cell) then (n, NameKind.cell) else (n, k)).lookup x =
      (names.lookup x).map fun k => if (k == NameKind.free && env.scope.kind == .function && env.kindOf x == some .cell) then NameKind.cell else k
  | [], _ => rfl
  | (n, k) :: r, x => by
    have ih := @relabel_lookup env r x
    show List.lookup x ((if (k == NameKind.free && env.scope.kind == .function && env.kindOf n == some .cell) = true then (n, NameKind.cell) else (n, k)) :: _) = _
    cases hx : x == n with
    | true =>
      have : x = n := eq_of_beq hx
      subst this
      simp only [List.lookup_cons, hx, Option.map_some]
      by_cases hc : (k == NameKind.free && env.scope.kind == .function && env.kindOf x == some .cell) = true
      · simp [hc]
      · simp [hc]
    | false =>
      by_cases hc : (k == NameKind.free && env.scope.kind == .function && env.kindOf n == some .cell) = true
      · rw [if_pos hc]; simp only [List.lookup_cons, hx]; exact ih
      · rw [if_neg hc]; simp only [List.lookup_cons, hx]; exact ih
theorem closure_loop {env : Env} : ∀ (names : List (Str × NameKind)) (acc : List (Str × Addr)), (∀ x c, acc.lookup x = some c → env.cells.lookup x = some c) →
    (∀ y ∈ names, y.2 = .free → ∃ c, env.cells.lookup y.1 = some c) →
    ∃ cl : List (Str × Addr), (forIn names acc fun (x : Str × NameKind) (r : List (Str × Addr)) => (if (x.2 == NameKind.free) = true then do let a ← cellOf env x.1; pure (ForInStep.yield ((x.1, a) :: r)) else pure (ForInStep.yield r) : Sem (ForInStep (List (Str × Addr))))) = pure cl ∧
      (∀ x c, cl.lookup x = some c → env.cells.lookup x = some c) ∧ (∀ x c, acc.lookup x = some c → ∃ c', cl.lookup x = some c') ∧ ∀ y ∈ names, y.2 = .free → ∃ c, cl.lookup y.1 = some c
  | [], acc, h1, _ => ⟨acc, rfl, h1, fun x c e => ⟨c, e⟩, fun y hy => by simp at hy⟩
  | (n, k) :: r, acc, h1, h2 => by
    by_cases hk : k = .free
    · subst hk
      obtain ⟨c, hc⟩ := h2 (n, .free) List.mem_cons_self rfl
      have step : ∀ x c', List.lookup x ((n, c) :: acc) = some c' → env.cells.lookup x = some c' := fun x c' e => by
        rw [List.lookup_cons] at e
        cases hx : x == n with
        | true => rw [hx] at e; have : x = n := eq_of_beq hx; subst this; rw [hc]; exact e
        | false => rw [hx] at e; exact h1 x c' e
      obtain ⟨cl, e, p1, p2, p3⟩ := closure_loop r ((n, c) :: acc) step fun y hy => h2 y (List.mem_cons_of_mem _ hy)
      have hn : ∃ c', List.lookup n ((n, c) :: acc) = some c' := ⟨c, by rw [List.lookup_cons]; simp⟩
      refine ⟨cl, ?_, p1, fun x c' e' => ?_, fun y hy hf => ?_⟩
      · rw [List.forIn_cons]
        show ((cellOf env n >>= fun a => pure (ForInStep.yield ((n, a) :: acc))) >>= _) = _
        unfold cellOf
        rw [hc]
        exact e
      · cases hx : x == n with
        | true => have : x = n := eq_of_beq hx; subst this; obtain ⟨c'', q⟩ := hn; exact p2 _ _ q
        | false => exact p2 x c' (by rw [List.lookup_cons, hx]; exact e')
      · rcases List.mem_cons.mp hy with rfl | hy
        · obtain ⟨c'', q⟩ := hn; exact p2 _ _ q
        · exact p3 y hy hf
    · obtain ⟨cl, e, p1, p2, p3⟩ := closure_loop r acc h1 fun y hy => h2 y (List.mem_cons_of_mem _ hy)
      have hb : (k == NameKind.free) = false := by simpa using hk
      refine ⟨cl, ?_, p1, p2, fun y hy hf => ?_⟩
      · rw [List.forIn_cons]
        simp only [hb, Bool.false_eq_true, if_false]
        exact e
      · rcases List.mem_cons.mp hy with rfl | hy
        · exact absurd hf hk
        · exact p3 y hy hf
theorem closure_ok {env : Env} {scope : Scope} (h : ∀ y ∈ scope.names, y.2 = .free → ∃ c, env.cells.lookup y.1 = some c) :
    ∃ cl, closureFor scope env = pure cl ∧ (∀ x c, cl.lookup x = some c → env.cells.lookup x = some c) ∧ ∀ y ∈ scope.names, y.2 = .free → ∃ c, cl.lookup y.1 = some c := by
  obtain ⟨cl, e, p1, _, p3⟩ := closure_loop (env := env) scope.names [] (fun x c e => by simp at e) h
  refine ⟨cl, ?_, p1, p3⟩
  unfold closureFor
  first
    | (show (forIn scope.names [] _ >>= fun r => pure r) = _; rw [e]; rfl)
    | (simp only [bind_pure]; exact e)
structure CompNames (osc scope : Scope) (own : List Str) (caps : List Str) : Prop where
  kind : scope.kind = .function
  cell : ∀ y ∈ scope.names, y.2 ≠ .cell
  loc : ∀ y ∈ scope.names, y.2 = .local → scope.names.lookup y.1 = some .local
  free : ∀ y ∈ scope.names, y.2 = .free → osc.names.lookup y.1 = some .cell ∨ osc.names.lookup y.1 = some .free
  cap : ∀ y ∈ caps, (y, NameKind.free) ∈ scope.names ∧ scope.names.lookup y = some .free
  nd : (own ++ caps).Nodup
def blockCx (X : Cx) (scope : Scope) (cl : List (Str × Addr)) (C : Addr) (s₂ : Shared) (H₂ : Hp) (fp : List Addr) (N : List Str) : Cx :=
  { X with N := N, s₀ := s₂, H₀ := H₂, env := compEnvC scope cl C X.env, outer := X.stack, stack := X.stack, ex := fp, fn := fun _ => false, pn := [], xe := fun _ _ => False }
theorem lookup_mem {names : List (Str × NameKind)} {x : Str} {k : NameKind} (h : names.lookup x = some k) : (x, k) ∈ names := PySem.mem_of_lookup h
theorem block_kind {X : Cx} {scope : Scope} {own caps : List Str} (n : CompNames X.env.scope scope own caps) {cl : List (Str × Addr)} {C : Addr} {x : Str} {k : NameKind} (h : (compEnvC scope cl C X.env).kindOf x = some k) (hk : k = .cell ∨ k = .free) :
    (x, NameKind.free) ∈ scope.names := by
  have h' : (relabel scope X.env).names.lookup x = some k := h
  unfold relabel at h'
  rw [relabel_lookup] at h'
  cases q : scope.names.lookup x with
  | none => rw [q] at h'; cases h'
  | some k0 =>
    rw [q, Option.map_some] at h'
    have m := lookup_mem q
    have h2 := Option.some.inj h'
    by_cases hf : k0 = .free
    · subst hf; exact m
    · exfalso
      have hb : (k0 == NameKind.free) = false := by simpa using hf
      simp only [hb, Bool.false_and, Bool.false_eq_true, if_false] at h2
      rcases hk with hk | hk
      · exact n.cell _ m (h2.trans hk)
      · exact hf (h2.trans hk)
theorem block_free {X : Cx} {scope : Scope} {cl : List (Str × Addr)} {C : Addr} {x : Str} (h : scope.names.lookup x = some .free) :
    (compEnvC scope cl C X.env).kindOf x = some .cell ∨ (compEnvC scope cl C X.env).kindOf x = some .free := by
  show (relabel scope X.env).names.lookup x = some .cell ∨ (relabel scope X.env).names.lookup x = some .free
  unfold relabel
  rw [relabel_lookup, h]
  simp only [Option.map_some]
  split
  · exact .inl rfl
  · exact .inr rfl
theorem block_ok {X : Cx} {pins : List (Addr × Obj)} {σ : L2.St} {H₂ : Hp} {s₂ : Shared} {scope : Scope} {own caps : List Str} {cl : List (Str × Addr)} {C : Addr} {fp : List Addr} (I : Inv X pins σ H₂ s₂) (n : CompNames X.env.scope scope own caps)
    (hcl : ∀ x c, cl.lookup x = some c → X.env.cells.lookup x = some c) (hcl2 : ∀ y ∈ scope.names, y.2 = .free → ∃ c, cl.lookup y.1 = some c) (hC : s₂.heap.objs.size ≤ C) (hfs : ∀ b ∈ fp, b < C) (hf : ∀ b ∈ fp, FpOk X pins H₂ b) :
    (blockCx X scope cl C s₂ H₂ fp (own ++ caps)).Ok := by
  refine ⟨I.ok.mod, n.kind, I.ok.glob, I.ok.blt, hC, fun x y c h1 h2 => I.ok.inj x y c (hcl x c h1) (hcl y c h2), fun x hx => ?_, fun x c h _ => ?_, I.ok.hd, I.ok.frames, .inl rfl, fun b hb => ⟨Nat.ne_of_lt (hfs b hb), fun x c e => (hf b hb).2.2.2.2.1 x c (hcl x c e)⟩,
    I.bs, Nat.le_trans I.ok.bsz I.sz, fun b o e hb => ?_, fun b hb z => ?_, I.stack, I.stkFree⟩
  · rcases hx with hx | hx
    · obtain ⟨c, e⟩ := hcl2 _ (block_kind n hx (.inl rfl)) rfl; exact ⟨c, e⟩
    · obtain ⟨c, e⟩ := hcl2 _ (block_kind n hx (.inr rfl)) rfl; exact ⟨c, e⟩
  · exact absurd h (by simp [blockCx])
  · rcases (hf b hb).2.2.2.1 with z | z
    · exact I.ok.noex b o e z
    · exact absurd (Nat.lt_of_lt_of_le (Nat.lt_of_lt_of_le (Heap.lt_size e) I.ok.bsz) z) (Nat.lt_irrefl _)
  · rcases List.mem_cons.mp (I.stkSub b z) with e | e
    · exact (hf b hb).2.1 e
    · exact (hf b hb).2.2.1 e
noncomputable def blockSt (own : L2.St) (ix : List Nat) (σ : L2.St) : L2.St := own ++ ix.map fun i => (σ[i]?).join
theorem block_start {X : Cx} {pins : List (Addr × Obj)} {σ : L2.St} {H₂ : Hp} {s₂ : Shared} {scope : Scope} {own caps : List Str} {ix : List Nat} {cl : List (Str × Addr)} {C : Addr} {fp : List Addr} {h₁ : Heap} {tk : Nat} (I : Inv X pins σ H₂ s₂) (n : CompNames X.env.scope scope own caps)
    (hcl : ∀ x c, cl.lookup x = some c → X.env.cells.lookup x = some c) (hcl2 : ∀ y ∈ scope.names, y.2 = .free → ∃ c, cl.lookup y.1 = some c) (hC : s₂.heap.objs.size ≤ C) (hfs : ∀ b ∈ fp, b < C) (hf : ∀ b ∈ fp, FpOk X pins H₂ b)
    (hix : ix.length = caps.length) (hix2 : ∀ (j i : Nat) y, ix[j]? = some i → caps[j]? = some y → X.N[i]? = some y)
    (old : ∀ b o, s₂.heap.get? b = some o → h₁.get? b = some o) {m : Str → Option Value} (hns : h₁.Ns C m) :
    Inv (blockCx X scope cl C s₂ H₂ fp (own ++ caps)) [] (blockSt (own.map fun _ => none) ix σ) H₂ { s₂ with heap := h₁, toks := tk } := by
  refine ⟨block_ok I n hcl hcl2 hC hfs hf, rfl, I.bare, Un.kept old, ⟨m, hns, fun i x v e1 e2 hv => ?_⟩, fun x c e => ?_, I.hok.fresh hC, fun x c e => I.freeC x c (hcl x c e), fun p hp => ?_, I.hok.kept old, ?_⟩
  · have e1 : (own ++ caps)[i]? = some x := e1
    unfold blockSt at e2
    by_cases hi : i < own.length
    · rw [List.getElem?_append_left (by simpa using hi), List.getElem?_map] at e2
      cases q : own[i]? with
      | none => rw [q] at e2; cases e2
      | some y => rw [q] at e2; cases e2
    · rw [List.getElem?_append_right (by simpa using hi)] at e2
      rw [List.getElem?_append_right (by omega)] at e1
      simp only [List.length_map] at e2
      generalize i - own.length = j at e1 e2
      rw [List.getElem?_map] at e2
      cases q : ix[j]? with
      | none => rw [q] at e2; cases e2
      | some i' =>
        rw [q] at e2
        have e3 : (σ[i']?).join = some v := Option.some.inj e2
        have e4 : σ[i']? = some (some v) := by
          cases z : σ[i']? with
          | none => rw [z] at e3; cases e3
          | some w' => rw [z] at e3; cases w' with
            | none => cases e3
            | some _ => cases e3; rfl
        have hN := hix2 j i' x q e1
        obtain ⟨mm, hl⟩ := n.cap x (List.mem_of_getElem? e1)
        have hk : X.env.kindOf x = some .cell ∨ X.env.kindOf x = some .free := n.free _ mm rfl
        obtain ⟨m0, hn0, hl0⟩ := I.loc
        have vis : Vis X.env.scope x := by
          rcases hk with hk | hk
          · exact .inr (.inl hk)
          · exact .inr (.inr hk)
        obtain ⟨u, r, l⟩ := hl0 i' x v hN e4 vis
        refine ⟨u, r, .inr ⟨block_free hl, ?_⟩⟩
        obtain ⟨c, hc⟩ := hcl2 _ mm rfl
        rcases l with ⟨l, _⟩ | ⟨_, c', hc', z⟩
        · exfalso
          rcases hk with hk | hk <;> rw [hk] at l <;> cases l
        · have := hcl x c hc
          rw [hc'] at this; cases this
          obtain ⟨o, ho, hd⟩ := z
          exact ⟨_, hc, o, old _ _ ho, hd⟩
  · obtain ⟨v, o, ho, hd⟩ := I.cell x c (hcl x c e)
    exact ⟨v, o, old _ _ ho, hd⟩
  · exact absurd (show p ∈ ([] : List (Addr × Obj)) from hp) (by simp)
  · show (blockSt _ ix σ).length = (own ++ caps).length
    unfold blockSt
    simp [hix]
def PIfs (X : Cx) (ifs : List Expr) (t : TT) : Prop :=
  ∀ (pins : List (Addr × Obj)) (s : Shared) (σ : L2.St) (H : Hp) (Q : Bool → Hp → Prop), Inv X pins σ H s → t σ H Q →
    wpAny (model X.prog X.w) X.A (forIn ifs true fun c r => if r = true then do let ok ← isTrue c X.env (eval c X.env); pure (ForInStep.yield ok) else pure (ForInStep.yield r)) (TP X pins σ Q) X.xe s
def tYes : TT := fun _ H Q => Q true H
theorem pifs_nil {X : Cx} : PIfs X [] tYes := fun pins s σ H Q I h => wpAny_tests_nil ⟨H, I, h⟩
theorem pifs_one {X : Cx} {c : Expr} {t : TT} (h : PT X c t) : PIfs X [c] t := fun pins s σ H Q I q => wpAny_tests_one (h pins s σ H Q I q)
theorem compLoop_go {prog : Program} {w : World} {A : Around} {R : Result → Shared → Prop} {s : Shared} {elt target iter : Expr} {ifs : List Expr} {scope : Scope} {pos : Pos} {it acc : Value} {env : Env} (I : Nat → Shared → Prop)
    (turn : ∀ n s, I n s → wpAny (model prog w) A (pyNext it) (fun r s₁ => match r with
      | none => R (.ok .next) s₁
      | some v => wpAny (model prog w) A (letOwnedTupleGo target it v) (fun _ s₁' => wpAny (model prog w) A (assign target env v) (fun _ s₂ =>
          wpAny (model prog w) A (forIn ifs true fun c r => if r = true then do let ok ← isTrue c env (eval c env); pure (ForInStep.yield ok) else pure (ForInStep.yield r)) (fun ok s₃ =>
            if ok = true then wpAny (model prog w) A (eval elt env) (fun x s₄ =>
              wpAny (model prog w) A (call (.builtin "list.append") [acc, x]) (fun _ s₅ => ∃ m, m < n ∧ I m s₅) (fun _ _ => False) s₄) (fun _ _ => False) s₃
            else ∃ m, m < n ∧ I m s₃) (fun _ _ => False) s₂) (fun _ _ => False) s₁') (fun _ _ => False) s₁) (fun _ _ => False) s)
    (n : Nat) (h : I n s) : codeAny (model prog w) A (.compLoop (.ListComp elt [⟨target, iter, ifs, 0⟩] scope pos) 0 it acc env) R s := by
  refine codeAny_loop rfl I (fun n s hI => ?_) n h
  show wpAny _ A ((compTurn (.ListComp elt [⟨target, iter, ifs, 0⟩] scope pos) 0 it acc env).onRaise (fun x => do noteFrame x env; theTreesLotGoes x)) _ _ s
  refine wpAny_noted ?_
  rw [compTurn_list]
  refine wpAny_bind (wpAny_standAt (wpAny_bind (wpAny_mono (turn n s hI) (fun r s₁ h₁ => ?_) fun _ _ h' => h'.elim)))
  cases r with
  | none => exact wpAny_pure h₁
  | some v =>
    refine wpAny_bind (wpAny_mono h₁ (fun _ s₁' h₁' => ?_) fun _ _ h' => h'.elim)
    refine wpAny_bind (wpAny_mono h₁' (fun _ s₂ h₂ => wpAny_bind (wpAny_mono h₂ (fun ok s₃ h₃ => ?_) fun _ _ h' => h'.elim)) fun _ _ h' => h'.elim)
    cases ok with
    | false => exact wpAny_pure ⟨rfl, h₃⟩
    | true =>
      exact wpAny_bind (wpAny_bind (wpAny_mono h₃ (fun x s₄ h₄ => wpAny_bind (wpAny_mono h₄ (fun _ s₅ h₅ => wpAny_pure (wpAny_pure ⟨rfl, h₅⟩)) fun _ _ h' => h'.elim)) fun _ _ h' => h'.elim))
theorem Inv.adopt {X : Cx} {pins : List (Addr × Obj)} {σ : L2.St} {H : Hp} {s : Shared} {a : Addr} {o : HO} (I : Inv X pins σ H s) (f : FpOk X pins H a) (hs : X.s₀.heap.objs.size ≤ a) (new : ObjOk X.prog X.w (upd H a o) s.heap a o) : Inv X pins σ (upd H a o) s := by
  obtain ⟨f0, f1, f2, f3, f4, f5⟩ := f
  have ne : ∀ b u, H b = some u → b ≠ a := fun b u e z => by rw [z, f0] at e; cases e
  refine ⟨I.ok, I.os, I.bare, ⟨I.base.keep, I.base.slot, fun b ob q n hx' => ?_, I.base.there, fun b xs q => ?_, fun b ob u q => ?_, fun b ps q => ?_⟩, I.loc, I.cell, ?_, fun x c q => ?_, fun p hp => ?_, fun b u q => ?_, I.len⟩
  · rw [L2.upd_ne (Nat.ne_of_lt (Nat.lt_of_lt_of_le (Heap.lt_size q) hs))]; exact I.base.free b ob q n hx'
  · rw [L2.upd_ne (ne _ _ (I.base.tups b xs q))]; exact I.base.tups b xs q
  · rw [L2.upd_ne (ne _ _ (I.base.frzs b ob u q))]; exact I.base.frzs b ob u q
  · obtain ⟨more, r⟩ := I.base.tbls b ps q
    exact ⟨more, by rw [L2.upd_ne (ne _ _ r)]; exact r⟩
  · rw [L2.upd_ne (Ne.symm f1)]; exact I.free
  · rw [L2.upd_ne (f4 x c q)]; exact I.freeC x c q
  · obtain ⟨q1, q2, q3⟩ := I.pin p hp
    exact ⟨q1, by rw [L2.upd_ne (f5 p hp)]; exact q2, q3⟩
  · by_cases hb : b = a
    · subst hb; rw [L2.upd_same] at q; cases q; exact new
    · rw [L2.upd_ne hb] at q
      exact (I.hok b u q).stay (fun c v _ q => q) (fun c r => by rw [L2.upd_ne (ne _ _ r)]; exact r) fun c xs r => by rw [L2.upd_ne (ne _ _ r)]; exact r
def tComp (ix : List Nat) (own : List Str) (wi : TI) (g : TG) (tc : TT) (te : TE) : TE := fun σ H Q => wi σ H fun J H1 =>
  ∃ W : Nat → Nat → List V → L2.St → Hp → Prop, (∃ n, W 0 n [] (blockSt (own.map fun _ => none) ix σ) H1) ∧ ∀ i n ys τ H, W i n ys τ H →
    (J.stop i H ∧ ∀ p, H p = none → Q (.ref p) (upd H p (.lst ys))) ∨
    (J.go i H ∧ ys.length < sizeLine ∧ ∀ x H', J.yld i H x H' → g x τ H' fun τ2 H2 => tc τ2 H2 fun b H3 => if b = true then te τ2 H3 fun y H4 => ∃ n', n' < n ∧ W (i + 1) n' (ys ++ [y]) τ2 H4 else ∃ n', n' < n ∧ W (i + 1) n' ys τ2 H3)
theorem block_run {X : Cx} {pins : List (Addr × Obj)} {σ : L2.St} {s₂ : Shared} {H₂ : Hp} {E : Value → Shared → Prop} {elt tg iter : Expr} {ifs : List Expr} {scope : Scope} {pos : Pos} {own caps : List Str} {ix : List Nat} {g : TG} {tc : TT} {te : TE} {Q : VK} {cl : List (Str × Addr)}
    {it : Addr} {fp : List Addr} {tn : Nat → Heap → Prop} {J : It} {RR : Value → Addr → Result → Shared → Prop}
    (hc : X.calm = true) (I : Inv X pins σ H₂ s₂) (T : Turn X.prog X.w X.K tg J fp it tn) (st : tn 0 s₂.heap) (hf : ∀ b ∈ fp, FpOk X pins H₂ b) (n : CompNames X.env.scope scope own caps)
    (hcl : ∀ x c, cl.lookup x = some c → X.env.cells.lookup x = some c) (hcl2 : ∀ y ∈ scope.names, y.2 = .free → ∃ c, cl.lookup y.1 = some c)
    (hix : ix.length = caps.length) (hix2 : ∀ (j i : Nat) y, ix[j]? = some i → caps[j]? = some y → X.N[i]? = some y)
    (hg : ∀ C, PG (blockCx X scope cl C s₂ H₂ fp (own ++ caps)) tg g) (ht : ∀ C, PIfs (blockCx X scope cl C s₂ H₂ fp (own ++ caps)) ifs tc) (he : ∀ C, PE (blockCx X scope cl C s₂ H₂ fp (own ++ caps)) elt te)
    (W : Nat → Nat → List V → L2.St → Hp → Prop) (hW0 : ∃ n, W 0 n [] (blockSt (own.map fun _ => none) ix σ) H₂)
    (hW : ∀ i n ys τ H, W i n ys τ H → (J.stop i H ∧ ∀ p, H p = none → Q (.ref p) (upd H p (.lst ys))) ∨
      (J.go i H ∧ ys.length < sizeLine ∧ ∀ x H', J.yld i H x H' → g x τ H' fun τ2 H2 => tc τ2 H2 fun b H3 => if b = true then te τ2 H3 fun y H4 => ∃ n', n' < n ∧ W (i + 1) n' (ys ++ [y]) τ2 H4 else ∃ n', n' < n ∧ W (i + 1) n' ys τ2 H3))
    (hRR : ∀ (D C : Addr) (s' : Shared) m H' ys, s'.heap.Ns C m → Inv X pins σ (upd H' D (.lst ys)) s' → FpOk X pins (upd H' D (.lst ys)) C → Q (.ref D) (upd H' D (.lst ys)) → RR (.ref D) C (.ok .next) s') :
    wpAny (model X.prog X.w) X.A (newList []) (fun acc s₃ => wpAny (model X.prog X.w) X.A (newFunctionEnv scope X.env.globals cl [] X.env.qual none .none (some X.env)) (fun cenv s₄ =>
      codeAny (model X.prog X.w) X.A (.compStart (.ListComp elt [⟨tg, iter, ifs, 0⟩] scope pos) 0 (.ref it) acc { cenv with scope := relabel scope X.env }) (RR acc cenv.locals) s₄) E s₃) E s₂ := by
  refine wpAny_newObj_type (wpAny_newFunctionEnv n.cell (by intro y hy; simp at hy) (fun h₁ hns₁ hsb₁ => ?_) n.kind)
  dsimp only at hns₁ hsb₁ ⊢
  generalize hH2 : s₂.heap.push { cls := .type "list", dict := none, data := .seq ([] : List Value).toArray } = H2 at hns₁ hsb₁ ⊢
  have hC : H2.objs.size = s₂.heap.objs.size + 1 := by rw [← hH2, Heap.size_push]
  have below : ∀ b, b < s₂.heap.objs.size → b ≠ H2.objs.size ∧ b ≠ s₂.heap.objs.size := fun b hb => ⟨by rw [hC]; exact Nat.ne_of_lt (Nat.lt_succ_of_lt hb), Nat.ne_of_lt hb⟩
  have hDC : s₂.heap.objs.size ≠ H2.objs.size := by rw [hC]; exact Nat.ne_of_lt (Nat.lt_succ_self _)
  have old : ∀ b o, s₂.heap.get? b = some o → h₁.get? b = some o := fun b o e => hsb₁.extBut b o (below b (Heap.lt_size e)).1 (Heap.get?_push_of_some _ (hH2 ▸ Heap.get?_push_of_some _ e))
  have hacc : h₁.get? s₂.heap.objs.size = some { cls := .type "list", data := .seq ([] : List Value).toArray } := hsb₁.extBut _ _ hDC (Heap.get?_push_of_some _ (hH2 ▸ Heap.get?_push_size _ rfl))
  have fplt : ∀ b ∈ fp, b < s₂.heap.objs.size := fun b hb => by obtain ⟨o, e, _⟩ := T.obj _ _ st b hb; exact Heap.lt_size e
  have hCle : s₂.heap.objs.size ≤ H2.objs.size := by rw [hC]; exact Nat.le_succ _
  have hfC : ∀ b ∈ fp, b < H2.objs.size := fun b hb => Nat.lt_of_lt_of_le (fplt b hb) hCle
  have st₁ : tn 0 h₁ := T.keep 0 _ _ st fun b _ o e => old b o e
  have I₀ := block_start (tk := s₂.toks + ([] : List (Str × Value)).length) I n hcl hcl2 hCle hfC hf hix hix2 old hns₁
  clear hns₁ hsb₁
  -- the list's own place
  have cellD : ∀ x c, cl.lookup x = some c → c < s₂.heap.objs.size := fun x c e => by
    obtain ⟨v, o, q, _⟩ := I.cell x c (hcl x c e); exact Heap.lt_size q
  have stkD : ∀ b ∈ frs X.stack, b < s₂.heap.objs.size := fun b hb => by
    rcases List.mem_cons.mp (I.stkSub b hb) with e | e
    · rw [e]; exact I.lt
    · obtain ⟨_, o, q, _⟩ := I.funs.mem e; exact Heap.lt_size q
  have fpok : ∀ {ps : List (Addr × Obj)} {H : Hp}, (∀ b ∈ fp, H b = none) → (∀ p ∈ ps, p.1 ∉ fp) → ∀ b ∈ fp, FpOk (blockCx X scope cl H2.objs.size s₂ H₂ fp (own ++ caps)) ps H b := fun {ps H} hn hp b hb =>
    ⟨hn b hb, Nat.ne_of_lt (hfC b hb), fun z => by
      rcases List.mem_cons.mp (I.stkSub b z) with e | e
      · exact (hf b hb).2.1 e
      · exact (hf b hb).2.2.1 e, .inl hb, fun x c e => (hf b hb).2.2.2.2.1 x c (hcl x c e), fun p hp' z => hp p (by simpa [blockCx] using hp') (z ▸ hb)⟩
  have Dfp : s₂.heap.objs.size ∉ fp := fun z => Nat.lt_irrefl _ (fplt _ z)
  have pinD : ∀ {H : Hp} {h : Heap} {its : List Value} {k : Nat}, H s₂.heap.objs.size = none → h.get? s₂.heap.objs.size = some { cls := .type "list", data := .seq its.toArray k } →
      ∀ p ∈ [((s₂.heap.objs.size, { cls := .type "list", data := .seq its.toArray k }) : Addr × Obj)], h.get? p.1 = some p.2 ∧ H p.1 = none ∧ p.1 ≠ H2.objs.size ∧ p.1 ∉ frs X.stack ∧ ∀ v, p.2.data ≠ .cell v := fun {H h its k} hn e p hp => by
    rw [List.mem_singleton.mp hp]
    exact ⟨e, hn, hDC, fun z => Nat.lt_irrefl _ (stkD _ z), fun v z => by cases z⟩
  have loop : ∀ s₃ : Shared, s₃ = { s₂ with heap := h₁, toks := s₂.toks + ([] : List (Str × Value)).length } →
      codeAny (model X.prog X.w) X.A (.compLoop (.ListComp elt [⟨tg, iter, ifs, 0⟩] scope pos) 0 (.ref it) (.ref s₂.heap.objs.size) (compEnvC scope cl H2.objs.size X.env)) (RR (.ref s₂.heap.objs.size) H2.objs.size) s₃ := by
    rintro s₃ rfl
    obtain ⟨n0, hW0⟩ := hW0
    refine compLoop_go (fun n s' => ∃ i ys its k τ H, Inv (blockCx X scope cl H2.objs.size s₂ H₂ fp (own ++ caps)) [(s₂.heap.objs.size, { cls := .type "list", data := .seq its.toArray k })] τ H s' ∧ tn i s'.heap ∧ (∀ b ∈ fp, H b = none) ∧ Vals ys its ∧ ys.length ≤ sizeLine ∧ W i n ys τ H) ?_ n0
      ⟨0, [], [], 0, _, H₂, I₀.pins_of (pinD (I.hok.fresh (Nat.le_refl _)) hacc), st₁, fun b hb => (hf b hb).1, .nil, Nat.zero_le _, hW0⟩
    rintro n s3 ⟨i, ys, its, k, τ, H, I3, st3, fr3, rv, hz, w3⟩
    have hD3 := I3.pin _ (List.mem_append_right _ List.mem_cons_self)
    have pfp : ∀ p ∈ [((s₂.heap.objs.size, { cls := .type "list", data := .seq its.toArray k }) : Addr × Obj)], p.1 ∉ fp := fun p hp => by rw [List.mem_singleton.mp hp]; exact Dfp
    rcases hW i n ys τ H w3 with ⟨stop, q⟩ | ⟨go, hlt, step⟩
    · refine thn (T.done (blockCx X scope cl H2.objs.size s₂ H₂ fp (own ++ caps)) rfl rfl rfl hc i _ s3 τ H (fun _ _ => False) I3 (fpok fr3 pfp) st3 stop) fun r s4 ⟨hr, I4⟩ => ?_
      subst hr
      have hD4 := I4.pin _ (List.mem_append_right _ List.mem_cons_self)
      obtain ⟨m, hm, _⟩ := id I4.loc
      have IX : Inv X pins σ H s4 := I.call' (ch := fp) I4.os I4.base I4.hok I4.bare fun b hb => ⟨(hf b hb).2.2.2.1, (hf b hb).2.1, (hf b hb).2.2.2.2⟩
      have fD : FpOk X pins H s₂.heap.objs.size := I.fpOk (Nat.le_refl _) hD4.2.1
      have IY := Inv.adopt (o := .lst ys) IX fD I.sz ⟨hz, its, k, rv, hD4.1⟩
      exact hRR _ _ s4 m H ys hm IY (I.fpOk hCle (by rw [L2.upd_ne (Ne.symm hDC)]; exact I4.free)) (q _ hD4.2.1)
    · refine thn (T.item (blockCx X scope cl H2.objs.size s₂ H₂ fp (own ++ caps)) rfl rfl rfl hc i _ s3 τ H (fun _ _ => False) I3 (fpok fr3 pfp) st3 go) fun r s4 ⟨u, hr, h4⟩ => ?_
      subst hr
      refine thn h4 fun _ s5 ⟨x, H5, I5, r5, y5, st5, fr5⟩ => ?_
      have I5' := I5.pinned (fpok fr5 pfp) (T.obj _ _ st5)
      refine thn (hg _ _ s5 τ H5 x u _ I5' r5 (step x H5 y5)) fun _ s6 ⟨σ6, H6, I6, q6⟩ => ?_
      refine thn (ht _ _ s6 σ6 H6 _ I6 q6) fun ok s7 ⟨H7, I7, q7⟩ => ?_
      have memD : ∀ p ∈ pinsAt fp s5.heap, p.1 ≠ s₂.heap.objs.size := fun p hp z => Dfp (z ▸ (of_pinsAt hp).1)
      cases ok with
      | true =>
        refine thn (he _ _ s7 σ6 H7 _ I7 q7) fun u8 s8 ⟨y, H8, I8, r8, n', hn', w8⟩ => ?_
        have hD8 := I8.pin (s₂.heap.objs.size, _) (List.mem_append_right _ (List.mem_append_left _ List.mem_cons_self))
        refine append_at (hsz := by rw [List.size_toArray, ← rv.length]; exact hz) hD8.1 fun h9 sb hD9 => ?_
        have I8' : Inv (blockCx X scope cl H2.objs.size s₂ H₂ fp (own ++ caps)) (pinsAt fp s5.heap) σ6 H8 s8 := I8.pins_of fun p hp => I8.pin p (List.mem_append_right _ (List.mem_append_right _ hp))
        have I9 : Inv (blockCx X scope cl H2.objs.size s₂ H₂ fp (own ++ caps)) (pinsAt fp s5.heap) σ6 H8 { s8 with heap := h9 } := I8'.turned (t' := s8.toks) (it := s₂.heap.objs.size) (fun b o hb e => sb.extBut b o hb e) hD8.2.1 hDC (.inr (Nat.le_refl _))
          (fun x c e => Nat.ne_of_lt (cellD x c e)) fun p hp => memD p (by simpa [blockCx] using hp)
        have e9 : (its.toArray.push u8) = (its ++ [u8]).toArray := by simp
        rw [e9] at hD9
        refine ⟨n', hn', i + 1, ys ++ [y], its ++ [u8], k + 1, σ6, H8, I9.pins_of (pinD hD8.2.1 hD9), T.keep _ _ _ st5 fun b hb o e => (I9.pin (b, o) (List.mem_append_right _ (mem_pinsAt hb e))).1, fun b hb => ?_, rv.append (.cons r8 .nil), by rw [List.length_append]; exact hlt, w8⟩
        obtain ⟨o, e, d⟩ := T.obj _ _ st5 b hb
        exact (I9.pin (b, o) (List.mem_append_right _ (mem_pinsAt hb e))).2.1
      | false =>
        obtain ⟨n', hn', w8⟩ := q7
        have hD7 := I7.pin (s₂.heap.objs.size, _) (List.mem_append_right _ (List.mem_append_left _ List.mem_cons_self))
        refine ⟨n', hn', i + 1, ys, its, k, σ6, H7, I7.pins_of (pinD hD7.2.1 hD7.1), T.keep _ _ _ st5 fun b hb o e => (I7.pin (b, o) (List.mem_append_right _ (List.mem_append_right _ (mem_pinsAt hb e)))).1, fun b hb => ?_, rv, hz, w8⟩
        obtain ⟨o, e, d⟩ := T.obj _ _ st5 b hb
        exact (I7.pin (b, o) (List.mem_append_right _ (List.mem_append_right _ (mem_pinsAt hb e)))).2.1
  exact codeAny_compStart_list (loop _ rfl) (T.self _ 0 _ _ _ st₁ (loop _ rfl))
theorem pe_comp0 {X : Cx} {elt tg iter : Expr} {ifs : List Expr} {scope : Scope} {pos : Pos} {own caps : List Str} {ix : List Nat} {wi : TI} {g : TG} {tc : TT} {te : TE} (hc : X.calm = true) (n : CompNames X.env.scope scope own caps)
    (hix : ix.length = caps.length) (hix2 : ∀ (j i : Nat) y, ix[j]? = some i → caps[j]? = some y → X.N[i]? = some y) (hi : PI X tg iter wi)
    (hb : ∀ cl C s₂ H₂ fp, PG (blockCx X scope cl C s₂ H₂ fp (own ++ caps)) tg g ∧ PIfs (blockCx X scope cl C s₂ H₂ fp (own ++ caps)) ifs tc ∧ PE (blockCx X scope cl C s₂ H₂ fp (own ++ caps)) elt te)
    (hs : ∀ x, foldedSetIterable iter X.env x = pure x := by intro _; rfl) : PE X (.ListComp elt [⟨tg, iter, ifs, 0⟩] scope pos) (tComp ix own wi g tc te) := by
  intro pins s σ H Q I h
  obtain ⟨cl, hclos, hcl, hcl2⟩ := closure_ok (env := X.env) (scope := scope) fun y hy hf => I.ok.has y.1 (n.free y hy hf)
  rw [eval_ListComp]
  refine wpAny_comprehension_free (use := none) rfl hs hclos n.kind n.loc (thn (hi pins s σ H _ I h) fun v s1 h1 => thn h1 fun itv s2 h2 => ?_)
  obtain ⟨it, fp, tn, J, H2, e, I2, T, st2, f2, W, w0, turn⟩ := h2
  subst e
  refine block_run (RR := fun acc C => compPost (model X.prog X.w) X.A X.xe none (EP X pins σ Q) acc C) hc I2 T st2 f2 n hcl hcl2 hix hix2 (fun C => (hb cl C s2 H2 fp).1) (fun C => (hb cl C s2 H2 fp).2.1) (fun C => (hb cl C s2 H2 fp).2.2) W w0 turn ?_
  intro D C s' m H' ys hm IY fC q
  refine ⟨m, hm, fun h' sb => ⟨.ref D, _, IY.turned (t' := s'.toks) (it := C) (fun b o hb e => sb.extBut b o hb e) fC.1 fC.2.1 fC.2.2.2.1 fC.2.2.2.2.1 fC.2.2.2.2.2, rfl, q⟩⟩
section
variable {K : PySem.W.Frag} {m : List Addr} {σ : L2.St} {H : Hp} {Q : VK} {μ : Store}
theorem rd_yes {B : Bool → Hp → Prop} (h : rdT K cYes σ H B) : tYes σ H B := by
  obtain ⟨ρ, μ, m, d, μ', hl, hs, e, k⟩ := h
  cases e
  exact k H m .refl hs
theorem block_rel {ρ : Lo} {k : Nat} {ix : List Nat} {own : List Str} (hk : own.length = k) (h : LRel K m H ρ σ) : LRel K m H (blockLo k ix ρ) (blockSt (own.map fun _ => none) ix σ) := by
  subst hk
  unfold blockLo blockSt
  refine ⟨by simp, fun i d e => ?_⟩
  by_cases hi : i < own.length
  · rw [List.getElem?_append_left (by simpa using hi), List.getElem?_replicate] at e
    split at e <;> cases e
  · rw [List.getElem?_append_right (by simpa using hi)] at e
    rw [List.getElem?_append_right (by simpa using hi)]
    simp only [List.length_replicate, List.length_map] at e ⊢
    generalize i - own.length = j at e ⊢
    rw [List.getElem?_map] at e ⊢
    cases q : ix[j]? with
    | none => rw [q] at e; cases e
    | some i' =>
      rw [q] at e
      have e3 : (ρ[i']?).join = some d := Option.some.inj e
      have e4 : ρ[i']? = some (some d) := by
        cases z : ρ[i']? with
        | none => rw [z] at e3; cases e3
        | some w' => rw [z] at e3; cases w' with
          | none => cases e3
          | some _ => cases e3; rfl
      obtain ⟨v, q1, q2⟩ := h.2 i' d e4
      exact ⟨v, by simp [q1], q2⟩
theorem rd_comp {ix : List Nat} {k : Nat} {own : List Str} {fi : FI} {g : FG} {c : FT} {f : FE} (hk : own.length = k) (h : rdE K (fComp ix k fi g c f) σ H Q) : tComp ix own (rdI K fi) (rdG K g) (rdT K c) (rdE K f) σ H Q := by
  obtain ⟨ρ, μ, m, d, μ', hl, hs, e, kk⟩ := h
  obtain ⟨⟨xs, μ1⟩, e1, e⟩ := Option.bind_eq_some_iff.mp e
  split at e
  · rename_i hz
    obtain ⟨⟨r, μr⟩, e2, e⟩ := Option.bind_eq_some_iff.mp e
    cases e
    refine ⟨ρ, μ, m, xs, μ1, hl, hs, e1, fun J P H1 m1 x1 s1 ok p1 => ?_⟩
    refine ⟨fun i n ys τ H => n = xs.length - i ∧ i ≤ xs.length ∧ ys.length ≤ i ∧ P H ∧ ∃ ρ μ m ds r' , LRel K m H ρ τ ∧ SRel K m H μ ∧ RelDs K H ds ys ∧ compL g c f (xs.drop i) ρ μ = some (r', μr) ∧ r = ds ++ r' ∧
      ∀ v H' m', Ext m H m' H' → SRel K m' H' (μr ++ [.lst r]) → RelR K m' H' (.p μr.length) v → Q v H',
      ⟨_, rfl, Nat.zero_le _, Nat.le_refl _, p1, _, μ1, m1, [], r, block_rel hk (hl.ext x1), s1, by simp only [RelDs], by simpa using e2, rfl, fun v H' m' x2 s2 r2 => kk v H' m' (x1.trans x2) s2 r2⟩, ?_⟩
    rintro i n ys τ H ⟨rfl, hi, hy, p, ρ, μ, m, ds, r', hl, hs, rs, e, er, kk⟩
    by_cases hlt : i < xs.length
    · have hx : xs[i]? = some xs[i] := List.getElem?_eq_getElem hlt
      rw [List.drop_eq_getElem_cons hlt, compL] at e
      obtain ⟨⟨ρ1, μ2⟩, q1, e⟩ := Option.bind_eq_some_iff.mp e
      obtain ⟨⟨b, μ3⟩, q2, e⟩ := Option.bind_eq_some_iff.mp e
      refine .inr ⟨ok.go i _ H hx p, Nat.lt_of_le_of_lt hy (Nat.lt_of_lt_of_le hlt hz), fun x H' y => ?_⟩
      obtain ⟨rfl, rx⟩ := ok.yld i _ H x H' hx p y
      refine ⟨ρ, μ, m, .v xs[i], ρ1, μ2, hl, hs, rx, q1, fun σ1 H1 m1 x1 s1 l1 => ?_⟩
      refine ⟨ρ1, μ2, m1, b, μ3, l1, s1, q2, fun H2 m2 x2 s2 => ?_⟩
      cases b with
      | true =>
        simp only [if_true] at e ⊢
        obtain ⟨⟨y', μ4⟩, q3, e⟩ := Option.bind_eq_some_iff.mp e
        refine ⟨ρ1, μ3, m2, y', μ4, l1.ext x2, s2, q3, fun w H3 m3 x3 s3 r3 => ?_⟩
        cases y' with
        | p _ => cases e
        | s _ _ => cases e
        | x _ => cases e
        | v d1 =>
          obtain ⟨⟨r1, μ5⟩, q4, e⟩ := Option.bind_eq_some_iff.mp e
          cases e
          have x4 := (x1.trans x2).trans x3
          refine ⟨_, (by omega : xs.length - (i + 1) < xs.length - i), rfl, hlt, by rw [List.length_append]; exact Nat.succ_le_succ hy, ok.st _ _ x4.tf p, ρ1, μ4, m3, ds ++ [d1], r1, l1.ext (x2.trans x3), s3,
            (RelDs.tf x4.tf _ _ rs).append (by simp only [RelDs]; exact ⟨w, [], rfl, r3, rfl⟩), q4, by rw [er, List.append_assoc]; rfl, fun v H' m' x5 s5 r5 => kk v H' m' (x4.trans x5) s5 r5⟩
      | false =>
        simp only [Bool.false_eq_true, if_false] at e ⊢
        have x4 := x1.trans x2
        exact ⟨_, (by omega : xs.length - (i + 1) < xs.length - i), rfl, hlt, Nat.le_succ_of_le hy, ok.st _ _ x4.tf p, ρ1, μ3, m2, ds, r', l1.ext x2, s2, RelDs.tf x4.tf _ _ rs, e, er, fun v H' m' x5 s5 r5 => kk v H' m' (x4.trans x5) s5 r5⟩
    · have : i = xs.length := by omega
      subst this
      rw [List.drop_length, compL] at e
      cases e
      refine .inl ⟨ok.stop _ H p (Nat.le_refl _), fun p hp => ?_⟩
      obtain ⟨a1, a2, a3⟩ := new_lst hs rs hp
      rw [List.append_nil] at er
      subst er
      exact kk _ _ _ a1 a2 a3
  · cases e
end
end HW
namespace HW
open PySem PySem.Spec PyProof.Rows L2
mutual
noncomputable def toPy : D → PyData
  | .non => .none
  | .bl b => .bool b
  | .int i => .int i
  | .str x => .str x
  | .tup xs => .tuple (toPys xs)
  | .fl xs => .list (toPys xs)
  | .fd _ _ => .none
noncomputable def toPys : List D → List PyData
  | [] => []
  | x :: xs => toPy x :: toPys xs
end
mutual
noncomputable def okD : Nat → D → Bool
  | _, .non => true
  | _, .bl _ => true
  | _, .int _ => true
  | _, .str x => PyData.strOk x
  | _, .fd _ _ => false
  | 0, .tup _ => false
  | 0, .fl _ => false
  | n + 1, .tup xs => okDs n xs
  | n + 1, .fl xs => okDs n xs
noncomputable def okDs : Nat → List D → Bool
  | _, [] => true
  | n, x :: xs => okD n x && okDs n xs
end
mutual
noncomputable def eqD : D → D → Bool
  | .non, .non => true
  | .bl a, .bl b => a == b
  | .bl a, .int j => (if a then 1 else 0) == j
  | .int i, .bl b => i == (if b then 1 else 0)
  | .int i, .int j => i == j
  | .str x, .str y => x == y
  | .tup xs, .tup ys => eqDs xs ys
  | .fl xs, .fl ys => eqDs xs ys
  | .fd _ _, .fd _ _ => true
  | .fd _ _, .non => true
  | .non, .fd _ _ => true
  | _, _ => false
noncomputable def eqDs : List D → List D → Bool
  | [], [] => true
  | x :: xs, y :: ys => eqD x y && eqDs xs ys
  | _, _ => false
end
mutual
theorem eqD_py : ∀ a b : D, PyData.eqv (toPy a) (toPy b) = eqD a b
  | .non, b => by cases b <;> simp [toPy, PyData.eqv, eqD]
  | .bl _, b => by cases b <;> simp [toPy, PyData.eqv, eqD]
  | .int _, b => by cases b <;> simp [toPy, PyData.eqv, eqD]
  | .str _, b => by cases b <;> simp [toPy, PyData.eqv, eqD]
  | .tup xs, b => by
    cases b with
    | tup ys => simp only [toPy, PyData.eqv, eqD]; exact eqDs_py xs ys
    | _ => simp [toPy, PyData.eqv, eqD]
  | .fl xs, b => by
    cases b with
    | fl ys => simp only [toPy, PyData.eqv, eqD]; exact eqDs_py xs ys
    | _ => simp [toPy, PyData.eqv, eqD]
  | .fd _ _, b => by cases b <;> simp [toPy, PyData.eqv, eqD]
theorem eqDs_py : ∀ a b : List D, PyData.eqvAll (toPys a) (toPys b) = eqDs a b
  | [], b => by cases b <;> simp [toPys, PyData.eqvAll, eqDs]
  | x :: xs, b => by
    cases b with
    | nil => simp [toPys, PyData.eqvAll, eqDs]
    | cons y ys => simp only [toPys, PyData.eqvAll, eqDs, eqD_py x y, eqDs_py xs ys]
end
mutual
theorem okD_py : ∀ (n : Nat) (d : D), okD n d = true → (toPy d).canLay0 = true ∧ (toPy d).depth ≤ n
  | _, .non, _ => by simp [toPy, PyData.canLay0, PyData.depth]
  | _, .bl _, _ => by simp [toPy, PyData.canLay0, PyData.depth]
  | _, .int _, _ => by simp [toPy, PyData.canLay0, PyData.depth]
  | n, .str x, h => by
    have h : PyData.strOk x = true := by cases n <;> simpa [okD] using h
    simp [toPy, PyData.canLay0, PyData.depth, h]
  | n, .fd _ _, h => by cases n <;> simp [okD] at h
  | 0, .tup _, h => by simp [okD] at h
  | 0, .fl _, h => by simp [okD] at h
  | n + 1, .tup xs, h => by
    obtain ⟨a, b⟩ := okDs_py n xs (by simpa [okD] using h)
    simp only [toPy, PyData.canLay0, PyData.depth]
    exact ⟨a, by omega⟩
  | n + 1, .fl xs, h => by
    obtain ⟨a, b⟩ := okDs_py n xs (by simpa [okD] using h)
    simp only [toPy, PyData.canLay0, PyData.depth]
    exact ⟨a, by omega⟩
theorem okDs_py : ∀ (n : Nat) (ds : List D), okDs n ds = true → PyData.canLayAll0 (toPys ds) = true ∧ PyData.depthAll (toPys ds) ≤ n
  | _, [], _ => by simp [toPys, PyData.canLayAll0, PyData.depthAll]
  | n, x :: xs, h => by
    have h' : okD n x = true ∧ okDs n xs = true := by cases n <;> simpa [okDs] using h
    obtain ⟨a1, b1⟩ := okD_py n x h'.1
    obtain ⟨a2, b2⟩ := okDs_py n xs h'.2
    simp only [toPys, PyData.canLayAll0, PyData.depthAll, a1, a2, Bool.and_self, true_and]
    omega
end
theorem shaped_of {d : D} (h : okD 60 d = true) : SeqAt.shaped (toPy d) = true := by
  obtain ⟨a, b⟩ := okD_py 60 d h
  unfold SeqAt.shaped
  rw [a, Bool.true_and]
  exact decide_eq_true (by omega)
section
variable {X : Cx} {pins : List (Addr × Obj)} {σ : L2.St} {H : Hp} {s : Shared}
mutual
theorem reads_of (I : Inv X pins σ H s) : ∀ (k : Nat) (d : D) (v : V) (u : Value), okD k d = true → RelD X.K H d v → RelV v u → ∃ as, Reads s.heap u (toPy d) as
  | _, .non, v, u, _, h, r => by simp only [RelD] at h; subst h; cases r; exact ⟨_, .none⟩
  | _, .bl b, v, u, _, h, r => by simp only [RelD] at h; subst h; cases r; exact ⟨_, .bool b⟩
  | _, .int i, v, u, _, h, r => by simp only [RelD] at h; subst h; obtain ⟨t, rfl⟩ := r; exact ⟨_, .int i t⟩
  | _, .str x, v, u, _, h, r => by simp only [RelD] at h; subst h; obtain ⟨t, rfl⟩ := r; exact ⟨_, .str x t⟩
  | _, .fd _ _, v, u, hk, h, r => by simp [okD] at hk
  | 0, .tup xs, v, u, hk, h, r => by simp [okD] at hk
  | 0, .fl xs, v, u, hk, h, r => by simp [okD] at hk
  | k + 1, .tup xs, v, u, hk, h, r => by
    simp only [RelD] at h
    obtain ⟨a, vs, rfl, q, h⟩ := h
    cases r
    obtain ⟨its, rv, ⟨o, e, c, n, hd⟩, _⟩ := I.tuple q
    obtain ⟨as, ra⟩ := readss_of I k xs vs its (by simpa [okD] using hk) h rv
    exact ⟨_, .tuple e c hd (by simpa using ra)⟩
  | k + 1, .fl xs, v, u, hk, h, r => by
    simp only [RelD] at h
    obtain ⟨a, vs, rfl, q, h⟩ := h
    cases r
    obtain ⟨its, rv, ⟨o, n, e, c, _, hd⟩, _⟩ := I.list q.sq
    obtain ⟨as, ra⟩ := readss_of I k xs vs its (by simpa [okD] using hk) h rv
    exact ⟨_, .list e c hd (by simpa using ra)⟩
theorem readss_of (I : Inv X pins σ H s) : ∀ (k : Nat) (ds : List D) (vs : List V) (us : List Value), okDs k ds = true → RelDs X.K H ds vs → Vals vs us → ∃ as, ReadsAll s.heap us (toPys ds) as
  | _, [], vs, us, _, h, r => by simp only [RelDs] at h; subst h; cases r; exact ⟨_, .nil⟩
  | k, d :: ds, vs, us, hk, h, r => by
    have hk : okD k d = true ∧ okDs k ds = true := by cases k <;> simpa [okDs] using hk
    simp only [RelDs] at h
    obtain ⟨v, vr, rfl, h1, h2⟩ := h
    cases r with
    | cons r1 r2 =>
      obtain ⟨as, q1⟩ := reads_of I k d v _ hk.1 h1 r1
      obtain ⟨bs, q2⟩ := readss_of I k ds vr _ hk.2 h2 r2
      exact ⟨_, .cons q1 q2⟩
end
end
noncomputable def viewD : R → Store → Option D
  | .v d, _ => some d
  | .p n, μ => match μ[n]? with | some (.lst xs) => some (.fl xs) | some (.fz xs) => some (.fl xs) | _ => none
  | _, _ => none
noncomputable def eqR (neg : Bool) : R → R → Store → Option (R × Store) := fun x y μ => (viewD x μ).bind fun a => (viewD y μ).bind fun b => if (okD 60 a && okD 60 b) = true then some (.v (.bl (if neg then !eqD a b else eqD a b)), μ) else none
noncomputable def rEqD (K : PySem.W.Frag) (neg : Bool) : R2 := fun v u H Q => ∃ m μ x y d, SRel K m H μ ∧ RelR K m H x v ∧ RelR K m H y u ∧ eqR neg x y μ = some (.v (.bl d), μ) ∧ Q (.bl d) H
theorem g_eq {K : PySem.W.Frag} {neg : Bool} : GOp K (eqR neg) (rEqD K neg) := by
  intro m H μ x y d μ' v u Q s rx ry e k
  have e0 := e
  unfold eqR at e
  obtain ⟨a, e1, e⟩ := Option.bind_eq_some_iff.mp e
  obtain ⟨b, e2, e⟩ := Option.bind_eq_some_iff.mp e
  split at e
  · cases e
    exact ⟨m, μ, x, y, _, s, rx, ry, e0, k _ H m .refl s (by simp only [RelR, RelD])⟩
  · cases e
theorem view_reads {X : Cx} {pins : List (Addr × Obj)} {σ : L2.St} {H : Hp} {s : Shared} {m : List Addr} {μ : Store} {x : R} {d : D} {v : V} {u : Value} (I : Inv X pins σ H s) (S : SRel X.K m H μ) (r : RelR X.K m H x v) (ru : RelV v u) (e : viewD x μ = some d) (hk : okD 60 d = true) : ∃ as, Reads s.heap u (toPy d) as := by
  cases x with
  | v d' => cases e; exact reads_of I 60 _ _ _ hk r ru
  | s _ _ => cases e
  | x _ => cases e
  | p n =>
    have hl : ∃ xs, d = .fl xs ∧ lstD (.p n) μ = some xs := by
      simp only [viewD] at e
      split at e
      · rename_i xs q; cases e; exact ⟨xs, rfl, by simp [lstD, q]⟩
      · rename_i xs q; cases e; exact ⟨xs, rfl, by simp [lstD, q]⟩
      · cases e
    obtain ⟨xs, rfl, e2⟩ := hl
    obtain ⟨a, vs, rfl, q, rr⟩ := lst_ok S r e2
    cases ru
    obtain ⟨its, rv, ⟨o, n', e, c, _, hd⟩, _⟩ := I.list q
    obtain ⟨as, ra⟩ := readss_of I 59 xs vs its (by simpa [okD] using hk) rr rv
    exact ⟨_, .list e c hd (by simpa using ra)⟩
theorem op_eqD {X : Cx} (hu : X.A.units + 64 < cLine) : OpR X (compareOp .Eq) (rEqD X.K false) := by
  intro pins s σ H v u v' u' Q I rv ru q
  obtain ⟨m, μ, x, y, d, S, rx, ry, e, q⟩ := q
  unfold eqR at e
  obtain ⟨a, e1, e⟩ := Option.bind_eq_some_iff.mp e
  obtain ⟨b, e2, e⟩ := Option.bind_eq_some_iff.mp e
  split at e
  · rename_i z
    rw [Bool.and_eq_true] at z
    cases e
    obtain ⟨as, r1⟩ := view_reads I S rx rv e1 z.1
    obtain ⟨bs, r2⟩ := view_reads I S ry ru e2 z.2
    exact eq_dataH r1 r2 (shaped_of z.1) (shaped_of z.2) hu ⟨_, H, I, by rw [eqD_py]; rfl, q⟩
  · cases e
theorem op_neD {X : Cx} (hu : X.A.units + 64 < cLine) : OpR X (compareOp .NotEq) (rEqD X.K true) := by
  intro pins s σ H v u v' u' Q I rv ru q
  obtain ⟨m, μ, x, y, d, S, rx, ry, e, q⟩ := q
  unfold eqR at e
  obtain ⟨a, e1, e⟩ := Option.bind_eq_some_iff.mp e
  obtain ⟨b, e2, e⟩ := Option.bind_eq_some_iff.mp e
  split at e
  · rename_i z
    rw [Bool.and_eq_true] at z
    cases e
    obtain ⟨as, r1⟩ := view_reads I S rx rv e1 z.1
    obtain ⟨bs, r2⟩ := view_reads I S ry ru e2 z.2
    exact ne_dataH r1 r2 (shaped_of z.1) (shaped_of z.2) hu ⟨_, H, I, by rw [eqD_py]; rfl, q⟩
  · cases e
noncomputable def isK (neg : Bool) (c : D) : R → Store → Option (R × Store) := fun x μ => match c, x with
  | .non, .v .non => some (.v (.bl (!neg)), μ)
  | .bl b, .v (.bl a) => some (.v (.bl (if neg then !(a == b) else a == b)), μ)
  | _, _ => some (.v (.bl neg), μ)
noncomputable def rIsK (neg : Bool) (c : V) : R2 := fun x y H Q => y = c ∧ Q (.bl (if neg then !decide (x = c) else decide (x = c))) H
section
variable {X : Cx}
theorem op_isNon : OpR X (compareOp .Is) (rIsK false .non) := op_isN
theorem op_isNotNon : OpR X (compareOp .IsNot) (rIsK true .non) := op_notN
end
theorem isK_ok {K : PySem.W.Frag} {m : List Addr} {H : Hp} {neg : Bool} {c : D} {cv v : V} {x d : R} {μ μ' : Store} (hc : (c = .non ∧ cv = .non) ∨ ∃ b, c = .bl b ∧ cv = .bl b) (r : RelR K m H x v) (e : isK neg c x μ = some (d, μ')) :
    μ' = μ ∧ d = .v (.bl (if neg then !decide (v = cv) else decide (v = cv))) := by
  have nn : ∀ d0, d0 ≠ .non → RelD K H d0 v → v ≠ .non := fun d0 h1 h2 z => by
    subst z
    cases d0 <;> simp only [RelD] at h2 <;> first | exact h1 rfl | (obtain ⟨_, _, _, h, _⟩ := h2; cases h; done) | (obtain ⟨_, _, h, _⟩ := h2; cases h; done) | cases h2
  have nb : ∀ d0 b, (∀ a, d0 ≠ .bl a) → RelD K H d0 v → v ≠ .bl b := fun d0 b h1 h2 z => by
    subst z
    cases d0 <;> simp only [RelD] at h2 <;> first | exact h1 _ rfl | (obtain ⟨_, _, _, h, _⟩ := h2; cases h; done) | (obtain ⟨_, _, h, _⟩ := h2; cases h; done) | cases h2
  have np : ∀ n, RelR K m H (.p n) v → v ≠ .non ∧ ∀ b, v ≠ .bl b := fun n ⟨a, e, _⟩ => ⟨fun z => (by rw [e] at z; cases z), fun b z => (by rw [e] at z; cases z)⟩
  have ns : ∀ b' n, RelR K m H (.s b' n) v → v ≠ .non ∧ ∀ b, v ≠ .bl b := fun b' n ⟨a, _, e, _⟩ => ⟨fun z => (by rw [e] at z; cases z), fun b z => (by rw [e] at z; cases z)⟩
  have nx : ∀ c, RelR K m H (.x c) v → v ≠ .non ∧ ∀ b, v ≠ .bl b := fun c ⟨a, _, _, e, _⟩ => ⟨fun z => (by rw [e] at z; cases z), fun b z => (by rw [e] at z; cases z)⟩
  rcases hc with ⟨rfl, rfl⟩ | ⟨b, rfl, rfl⟩
  · cases x with
    | v d0 =>
      by_cases h0 : d0 = .non
      · subst h0
        have r : v = .non := by simpa only [RelR, RelD] using r
        subst r
        cases e
        cases neg <;> simp
      · have := nn d0 h0 r
        cases d0 <;> first | exact absurd rfl h0 | (cases e; cases neg <;> simp [this])
    | p n => have := (np n r).1; cases e; cases neg <;> simp [this]
    | s b' n => have := (ns b' n r).1; cases e; cases neg <;> simp [this]
    | x c => have := (nx c r).1; cases e; cases neg <;> simp [this]
  · cases x with
    | v d0 =>
      by_cases h0 : ∃ a, d0 = .bl a
      · obtain ⟨a, rfl⟩ := h0
        have r : v = .bl a := by simpa only [RelR, RelD] using r
        subst r
        cases e
        cases neg <;> cases a <;> cases b <;> simp
      · have := nb d0 b (fun a z => h0 ⟨a, z⟩) r
        cases d0 <;> first | exact absurd ⟨_, rfl⟩ h0 | (cases e; cases neg <;> simp [this])
    | p n => have := (np n r).2 b; cases e; cases neg <;> simp [this]
    | s b' n => have := (ns b' n r).2 b; cases e; cases neg <;> simp [this]
    | x c => have := (nx c r).2 b; cases e; cases neg <;> simp [this]
theorem rd_is {K : PySem.W.Frag} {σ : L2.St} {H : Hp} {Q : VK} {fa : FE} {neg : Bool} {c : D} {cv : V} (hc : (c = .non ∧ cv = .non) ∨ ∃ b, c = .bl b ∧ cv = .bl b) (h : rdE K (fUn (isK neg c) fa) σ H Q) : tOp (rIsK neg cv) (rdE K fa) (tC cv) σ H Q := by
  obtain ⟨ρ, μ, m, d, μ', hl, hs, e, k⟩ := h
  obtain ⟨⟨x, μ1⟩, e1, e⟩ := Option.bind_eq_some_iff.mp e
  refine ⟨ρ, μ, m, x, μ1, hl, hs, e1, fun v H1 m1 x1 s1 r1 => ⟨rfl, ?_⟩⟩
  obtain ⟨rfl, rfl⟩ := isK_ok hc r1 e
  exact k _ H1 m1 x1 s1 (by simp only [RelR, RelD])
noncomputable def tyD : R → Store → Option String
  | .v .non, _ => some "NoneType"
  | .v (.bl _), _ => some "bool"
  | .v (.int _), _ => some "int"
  | .v (.str _), _ => some "str"
  | .v (.tup _), _ => some "tuple"
  | .v (.fl _), _ => some "list"
  | .v (.fd _ _), _ => some "dict"
  | .p n, μ => match μ[n]? with | some (.lst _) => some "list" | some (.fz _) => some "list" | some (.dct _) => some "dict" | _ => none
  | .s _ _, _ => none
  | .x _, _ => none
noncomputable def isiD (T : String) : R → Store → Option (R × Store) := fun x μ => (tyD x μ).bind fun t => some (.v (.bl (t == T || (t == "bool" && T == "int"))), μ)
def Kinds (K : PySem.W.Frag) (T : String) : Prop := ∀ t ∈ ["NoneType", "bool", "int", "str", "tuple", "list", "dict"], PySem.W.kitOne K (.type t) (.type T) = some (t == T || (t == "bool" && T == "int"))
def rIsi (K : PySem.W.Frag) (T : String) : List V → Hp → VK → Prop := fun vs H Q => ∃ m μ x v d, vs = [v, .ty T] ∧ SRel K m H μ ∧ RelR K m H x v ∧ isiD T x μ = some (.v (.bl d), μ) ∧ Q (.bl d) H
theorem call_isi {X : Cx} {T : String} (hT : Kinds X.K T) : CallR X (.builtin "isinstance") (rIsi X.K T) := by
  intro pins s σ H vs us Q I rv q
  obtain ⟨m, μ, x, v, d, rfl, S, rx, e, q⟩ := q
  obtain ⟨t, e1, e⟩ := Option.bind_eq_some_iff.mp e
  cases e
  cases rv with
  | cons r1 rr =>
    cases rr with
    | cons r2 rr =>
      cases rr
      cases r2
      have fin : ∀ tk, EP X pins σ Q (.bool (t == T || (t == "bool" && T == "int"))) { s with toks := tk } := fun tk => ⟨.bl _, H, I.tok tk, rfl, q⟩
      cases x with
      | v d0 =>
        cases d0 with
        | non => cases e1; have r : v = .non := by simpa only [RelR, RelD] using rx
                 subst r; cases r1; exact PySem.W.kia_one PySem.W.kitx_none I.kIn True.intro (hT _ (by simp)) (fun z => nomatch z) fin
        | bl b => cases e1; have r : v = .bl b := by simpa only [RelR, RelD] using rx
                  subst r; cases r1; exact PySem.W.kia_one PySem.W.kitx_bool I.kIn True.intro (hT _ (by simp)) (fun z => nomatch z) fin
        | int i => cases e1; have r : v = .int i := by simpa only [RelR, RelD] using rx
                   subst r; obtain ⟨t, rfl⟩ := r1; exact PySem.W.kia_one PySem.W.kitx_int I.kIn True.intro (hT _ (by simp)) (fun z => nomatch z) fin
        | str i => cases e1; have r : v = .str i := by simpa only [RelR, RelD] using rx
                   subst r; obtain ⟨t, rfl⟩ := r1; exact PySem.W.kia_one PySem.W.kitx_str I.kIn True.intro (hT _ (by simp)) (fun z => nomatch z) fin
        | tup xs =>
          cases e1
          simp only [RelR, RelD] at rx
          obtain ⟨a, ws, rfl, q', _⟩ := rx
          cases r1
          obtain ⟨its, _, ⟨o, h1, h2, _⟩, _⟩ := I.tuple q'
          exact PySem.W.kia_one PySem.W.kitx_tuple I.kIn ⟨o, h1, h2⟩ (hT _ (by simp)) (fun z => nomatch z) fin
        | fl xs =>
          cases e1
          simp only [RelR, RelD] at rx
          obtain ⟨a, ws, rfl, q', _⟩ := rx
          cases r1
          obtain ⟨its, _, ⟨o, n, h1, h2, _⟩, _⟩ := I.list q'.sq
          exact PySem.W.kia_one PySem.W.kitx_list I.kIn ⟨o, h1, h2⟩ (hT _ (by simp)) (fun z => nomatch z) fin
        | fd ks ds =>
          cases e1
          simp only [RelR, RelD] at rx
          obtain ⟨a, o', es, rfl, q', _⟩ := rx
          cases r1
          obtain ⟨_, _, _, vs, _, p⟩ := (show ObjOk X.prog X.w H s.heap a (.frz o' (.dK es)) from I.hok a _ q')
          obtain ⟨o, es', ep, h1, h2, _⟩ := p
          exact PySem.W.kia_one PySem.W.kitx_dict I.kIn ⟨o, h1, h2.1⟩ (hT _ (by simp)) (fun z => nomatch z) fin
      | s _ _ => cases e1
      | x _ => cases e1
      | p n =>
        obtain ⟨a, rfl, ha⟩ := rx
        cases r1
        simp only [tyD] at e1
        split at e1
        · rename_i xs z
          cases e1
          obtain ⟨ws, q', _⟩ := S.cell n _ a z ha
          obtain ⟨its, _, ⟨o, n, h1, h2, _⟩, _⟩ := I.list (.inl (.inl q'))
          exact PySem.W.kia_one PySem.W.kitx_list I.kIn ⟨o, h1, h2⟩ (hT _ (by simp)) (fun z => nomatch z) fin
        · rename_i xs z
          cases e1
          obtain ⟨o', ws, q', _⟩ := S.cell n _ a z ha
          obtain ⟨its, _, ⟨o, n, h1, h2, _⟩, _⟩ := I.list (.inl (.inr ⟨o', q'⟩))
          exact PySem.W.kia_one PySem.W.kitx_list I.kIn ⟨o, h1, h2⟩ (hT _ (by simp)) (fun z => nomatch z) fin
        · rename_i kvs z
          cases e1
          obtain ⟨es, q', _⟩ := S.cell n _ a z ha
          obtain ⟨_, _, vs, _, p⟩ := (show ObjOk X.prog X.w H s.heap a (.dK es) from I.hok a _ q')
          obtain ⟨o, es', ep, h1, h2, _⟩ := p
          exact PySem.W.kia_one PySem.W.kitx_dict I.kIn ⟨o, h1, h2.1⟩ (hT _ (by simp)) (fun z => nomatch z) fin
        · cases e1
theorem rd_isi {K : PySem.W.Frag} {σ : L2.St} {H : Hp} {Q : VK} {fa : FE} {T : String} (h : rdE K (fUn (isiD T) fa) σ H Q) : tCB (rIsi K T) (tCons (rdE K fa) (tCons (tC (.ty T)) tNil)) σ H Q := by
  obtain ⟨ρ, μ, m, d, μ', hl, hs, e, k⟩ := h
  obtain ⟨⟨x, μ1⟩, e1, e⟩ := Option.bind_eq_some_iff.mp e
  have e0 := e
  obtain ⟨t, e2, e⟩ := Option.bind_eq_some_iff.mp e
  cases e
  exact ⟨ρ, μ, m, x, _, hl, hs, e1, fun v H1 m1 x1 s1 r1 => ⟨m1, _, x, v, _, rfl, s1, r1, e0, k _ H1 m1 x1 s1 (by simp only [RelR, RelD])⟩⟩
noncomputable def boolsD : List D → Option (List Bool)
  | [] => some []
  | .bl b :: r => (boolsD r).bind fun bs => some (b :: bs)
  | _ :: _ => none
noncomputable def allD (any : Bool) : List R → Store → Option (R × Store)
  | [x], μ => (lstD x μ).bind fun xs => (boolsD xs).bind fun bs => some (.v (.bl (if any then bs.any id else bs.all id)), μ)
  | _, _ => none
end HW
namespace HW
open PySem PySem.Spec PyProof.Rows L2 HS
noncomputable def insI (x : Int) : List Int → List Int
  | [] => [x]
  | y :: ys => if x ≤ y then x :: y :: ys else y :: insI x ys
noncomputable def isort : List Int → List Int
  | [] => []
  | x :: xs => insI x (isort xs)
theorem insI_perm (x : Int) : ∀ xs, (insI x xs).Perm (x :: xs)
  | [] => .refl _
  | y :: ys => by
    unfold insI
    split
    · exact .refl _
    · exact ((insI_perm x ys).cons y).trans (.swap _ _ _)
theorem isort_perm : ∀ xs, (isort xs).Perm xs
  | [] => .refl _
  | x :: xs => (insI_perm x _).trans ((isort_perm xs).cons x)
theorem insI_sorted (x : Int) : ∀ {xs : List Int}, xs.Pairwise (· ≤ ·) → (insI x xs).Pairwise (· ≤ ·)
  | [], _ => List.pairwise_singleton _ _
  | y :: ys, h => by
    unfold insI
    obtain ⟨h1, h2⟩ := List.pairwise_cons.mp h
    split
    · rename_i hxy
      refine List.pairwise_cons.mpr ⟨fun z hz => ?_, h⟩
      rcases List.mem_cons.mp hz with rfl | hz
      · exact hxy
      · exact Int.le_trans hxy (h1 z hz)
    · rename_i hxy
      refine List.pairwise_cons.mpr ⟨fun z hz => ?_, insI_sorted x h2⟩
      rcases List.mem_cons.mp ((insI_perm x ys).mem_iff.mp hz) with rfl | hz
      · omega
      · exact h1 z hz
theorem isort_sorted : ∀ xs, (isort xs).Pairwise (· ≤ ·)
  | [] => .nil
  | x :: xs => insI_sorted x (isort_sorted xs)
theorem sorted_one : ∀ {xs ys : List Int}, xs.Pairwise (· ≤ ·) → ys.Pairwise (· ≤ ·) → xs.Perm ys → xs = ys
  | [], ys, _, _, p => (List.Perm.nil_eq p)
  | x :: xs, [], _, _, p => absurd p.length_eq (by simp)
  | x :: xs, y :: ys, hx, hy, p => by
    obtain ⟨hx1, hx2⟩ := List.pairwise_cons.mp hx
    obtain ⟨hy1, hy2⟩ := List.pairwise_cons.mp hy
    have e : x = y := by
      have h1 : x ∈ y :: ys := p.mem_iff.mp (by simp)
      have h2 : y ∈ x :: xs := p.mem_iff.mpr (by simp)
      rcases List.mem_cons.mp h1 with h | h
      · exact h
      · rcases List.mem_cons.mp h2 with h' | h'
        · exact h'.symm
        · exact Int.le_antisymm (hx1 y h') (hy1 x h)
    subst e
    rw [sorted_one hx2 hy2 ((List.perm_cons _).mp p)]
theorem isort_eq {xs ns : List Int} (h : ns.Pairwise (· ≤ ·)) (p : ns.Perm xs) : ns = isort xs := sorted_one h (isort_sorted xs) (p.trans (isort_perm xs).symm)
theorem vals_ints : ∀ {ns : List Int} {its : List Value}, Vals (ns.map V.int) its → IntsAre its ns
  | [], its, h => by cases h; exact .nil
  | n :: ns, its, h => by
    cases h with
    | cons r t => obtain ⟨tk, rfl⟩ := r; exact .cons n tk (vals_ints t)
theorem ints_vals : ∀ {ns : List Int} {its : List Value}, IntsAre its ns → Vals (ns.map V.int) its
  | _, _, .nil => .nil
  | _, _, .cons n t h => .cons ⟨t, rfl⟩ (ints_vals h)
noncomputable abbrev heldSet (o : Obj) : HO := .frz o (.ext fun _ => True)
theorem Inv.drw {X : Cx} {pins : List (Addr × Obj)} {σ : L2.St} {H : Hp} {s : Shared} (I : Inv X pins σ H s) (d : Drawn) : Inv X pins σ H { s with drawn := d } :=
  ⟨I.ok, I.os, I.bare, I.base, I.loc, I.cell, I.free, I.freeC, I.pin, I.hok, I.len⟩
noncomputable def intsD : List D → Option (List Int)
  | [] => some []
  | .int n :: r => (intsD r).map (n :: ·)
  | _ => none
theorem intsD_eq : ∀ {ds : List D} {ns : List Int}, intsD ds = some ns → ds = ns.map D.int
  | [], ns, e => by cases e; rfl
  | d :: r, ns, e => by
    cases d <;> simp only [intsD] at e <;> first | cases e | skip
    obtain ⟨ms, e1, rfl⟩ := Option.map_eq_some_iff.mp e
    rw [intsD_eq e1]; rfl
theorem ints_rel {K : PySem.W.Frag} {H : Hp} : ∀ {ns : List Int} {vs : List V}, RelDs K H (ns.map D.int) vs → vs = ns.map V.int
  | [], vs, h => h
  | n :: ns, vs, h => by
    obtain ⟨v, r, rfl, h1, h2⟩ := h
    have h1 : v = .int n := by simpa only [RelD] using h1
    rw [h1, ints_rel h2]; rfl
theorem rel_ints {K : PySem.W.Frag} {H : Hp} : ∀ {ns : List Int}, RelDs K H (ns.map D.int) (ns.map V.int)
  | [] => rfl
  | n :: ns => ⟨_, _, rfl, by simp only [RelD], rel_ints⟩
noncomputable def minD : List R → Store → Option (R × Store)
  | [.v (.int i), .v (.int j)], μ => some (.v (.int (if j < i then j else i)), μ)
  | _, _ => none
theorem rel2 {K : PySem.W.Frag} {m : List Addr} {H : Hp} {x y : R} {vs : List V} (r : RelRs K m H [x, y] vs) : ∃ v w, vs = [v, w] ∧ RelR K m H x v ∧ RelR K m H y w := by
  obtain ⟨v, r, rfl, h1, h2⟩ := r
  obtain ⟨w, r, rfl, h2, h3⟩ := h2
  have h3 : r = [] := h3
  subst h3
  exact ⟨v, w, rfl, h1, h2⟩
theorem g_min {K : PySem.W.Frag} : GAr K minD (fun xs H Q => ∃ i j, xs = [.int i, .int j] ∧ Q (.int (if j < i then j else i)) H) := by
  intro m H μ xs d μ' vs Q s r e k
  unfold minD at e
  split at e
  · cases e
    obtain ⟨v, w, rfl, r1, r2⟩ := rel2 r
    simp only [RelR, RelD] at r1 r2
    subst r1; subst r2
    exact ⟨_, _, rfl, k _ H m .refl s (by simp only [RelR, RelD])⟩
  · cases e
end HW
namespace HW
open PySem PySem.Spec PyProof.Rows L2 HS
noncomputable def setQ (b : Bool) : List R → Store → Option (R × Store)
  | [x], μ => (itemsD x μ).bind fun ds => (intsD ds).bind fun ns => if ns.length < 4000 then some (.s b (metOf [] ns), μ) else none
  | _, _ => none
noncomputable def sortedQ (b : Bool) : List R → Store → Option (R × Store)
  | [.s c xs], μ => if c = b ∧ xs.length < 64 then some (.p μ.length, μ ++ [.lst ((isort xs).map D.int)]) else none
  | [x], μ => (lstD x μ).bind fun ds => (intsD ds).bind fun ns => if ns.length < 64 then some (.p μ.length, μ ++ [.lst ((isort ns).map D.int)]) else none
  | _, _ => none
end HW
namespace HW
open PySem PySem.Spec PyProof.Rows L2 HS
noncomputable def putV (kvs ps : List (Key × V)) : List (Key × V) := ps.foldl (fun a p => putK a p.1 p.2) kvs
noncomputable def pairsD : List D → Option (List (Key × D))
  | [] => some []
  | .tup [.int i, d] :: r => (pairsD r).map ((.inl i, d) :: ·)
  | _ => none
noncomputable def putKD (kvs : List (Key × D)) (k : Key) (v : D) : List (Key × D) := if (kvs.any fun kv => decide (kv.1 = k)) = true then kvs.map (fun kv => if kv.1 = k then (kv.1, v) else kv) else kvs ++ [(k, v)]
noncomputable def putAllD (kvs ps : List (Key × D)) : List (Key × D) := ps.foldl (fun a p => putKD a p.1 p.2) kvs
def KD (K : PySem.W.Frag) (H : Hp) (kvs : List (Key × D)) (es : List (Key × V)) : Prop := es.map (·.1) = kvs.map (·.1) ∧ RelDs K H (kvs.map (·.2)) (es.map (·.2))
theorem KD.nil {K : PySem.W.Frag} {H : Hp} : KD K H [] [] := ⟨rfl, rfl⟩
theorem KD.any {K : PySem.W.Frag} {H : Hp} {kvs : List (Key × D)} {es : List (Key × V)} (r : KD K H kvs es) (k : Key) : (es.any fun kv => decide (kv.1 = k)) = (kvs.any fun kv => decide (kv.1 = k)) := by
  have h1 : ∀ {β : Type} (l : List (Key × β)), (l.any fun kv => decide (kv.1 = k)) = ((l.map (·.1)).any fun x => decide (x = k)) := fun l => by rw [List.any_map]; rfl
  rw [h1, h1, r.1]
theorem KD.cons {K : PySem.W.Frag} {H : Hp} {k k' : Key} {d : D} {v : V} {kvs : List (Key × D)} {es : List (Key × V)} : KD K H ((k, d) :: kvs) ((k', v) :: es) ↔ k' = k ∧ RelD K H d v ∧ KD K H kvs es := by
  constructor
  · rintro ⟨h1, h2⟩
    simp only [List.map_cons, List.cons.injEq] at h1
    obtain ⟨w, r, e, h3, h4⟩ := h2
    simp only [List.map_cons, List.cons.injEq] at e
    obtain ⟨rfl, rfl⟩ := e
    exact ⟨h1.1, h3, h1.2, h4⟩
  · rintro ⟨rfl, h1, h2, h3⟩
    exact ⟨by simp [h2], ⟨_, _, rfl, h1, h3⟩⟩
theorem KD.repl {K : PySem.W.Frag} {H : Hp} {k : Key} {d : D} {v : V} (rd : RelD K H d v) : ∀ {kvs : List (Key × D)} {es : List (Key × V)}, KD K H kvs es → KD K H (kvs.map fun kv => if kv.1 = k then (kv.1, d) else kv) (es.map fun kv => if kv.1 = k then (kv.1, v) else kv)
  | [], [], _ => .nil
  | [], e :: es, h => by have := h.1; simp at this
  | q :: kvs, [], h => by have := h.1; simp at this
  | (a, x) :: kvs, (b, y) :: es, h => by
    obtain ⟨rfl, h1, h2⟩ := KD.cons.mp h
    have ih := KD.repl (k := k) rd h2
    rw [List.map_cons, List.map_cons]
    by_cases e : b = k
    · rw [if_pos e, if_pos e]; exact KD.cons.mpr ⟨rfl, rd, ih⟩
    · rw [if_neg e, if_neg e]; exact KD.cons.mpr ⟨rfl, h1, ih⟩
theorem KD.snoc {K : PySem.W.Frag} {H : Hp} {k : Key} {d : D} {v : V} (rd : RelD K H d v) : ∀ {kvs : List (Key × D)} {es : List (Key × V)}, KD K H kvs es → KD K H (kvs ++ [(k, d)]) (es ++ [(k, v)])
  | [], [], _ => KD.cons.mpr ⟨rfl, rd, .nil⟩
  | [], e :: es, h => by have := h.1; simp at this
  | q :: kvs, [], h => by have := h.1; simp at this
  | (a, x) :: kvs, (b, y) :: es, h => by
    obtain ⟨rfl, h1, h2⟩ := KD.cons.mp h
    exact KD.cons.mpr ⟨rfl, h1, KD.snoc rd h2⟩
theorem KD.put {K : PySem.W.Frag} {H : Hp} {k : Key} {d : D} {v : V} {kvs : List (Key × D)} {es : List (Key × V)} (r : KD K H kvs es) (rd : RelD K H d v) : KD K H (putKD kvs k d) (putK es k v) := by
  unfold putKD putK
  rw [r.any k]
  split
  · exact r.repl rd
  · exact r.snoc rd
theorem KD.putAll {K : PySem.W.Frag} {H : Hp} : ∀ {ps : List (Key × D)} {qs : List (Key × V)} {kvs : List (Key × D)} {es : List (Key × V)}, KD K H kvs es → KD K H ps qs → KD K H (putAllD kvs ps) (putV es qs)
  | [], [], _, _, r, _ => r
  | [], e :: es, _, _, _, h => by have := h.1; simp at this
  | q :: kvs, [], _, _, _, h => by have := h.1; simp at this
  | (a, x) :: ps, (b, y) :: qs, _, _, r, h => by
    obtain ⟨rfl, h1, h2⟩ := KD.cons.mp h
    exact KD.putAll (ps := ps) (qs := qs) (r.put h1) h2
noncomputable def dictD : List R → Store → Option (R × Store)
  | [.p n], μ => match μ[n]? with
    | some (.lst ds) => (pairsD ds).bind fun kvs => some (.p μ.length, μ ++ [.dct (putAllD [] kvs)])
    | _ => none
  | _, _ => none
end HW
namespace HW
open PySem PySem.Spec PyProof.Rows L2
mutual
noncomputable def flatD : D → Bool
  | .tup xs => flatDs xs
  | .fl _ => false
  | .fd _ _ => false
  | _ => true
noncomputable def flatDs : List D → Bool
  | [] => true
  | x :: xs => flatD x && flatDs xs
end
noncomputable def asD : R → Store → Option D
  | .v d, _ => some d
  | .p n, μ => match μ[n]? with
    | some (.lst xs) => some (.fl xs) | some (.fz xs) => some (.fl xs)
    | some (.dct kvs) => some (.fd (kvs.map (·.1)) (kvs.map (·.2))) | some (.fzd kvs) => some (.fd (kvs.map (·.1)) (kvs.map (·.2)))
    | none => none
  | .s _ _, _ => none
  | .x _, _ => none
noncomputable def valsB : List R → Store → Option (List D)
  | [], _ => some []
  | x :: xs, μ => (asD x μ).bind fun d => (valsB xs μ).bind fun ds => some (d :: ds)
noncomputable def fCallQ (f : MF) (n : Nat) (fa : FA) : FE := fun ρ μ => (fa ρ μ).bind fun a => (valsB a.1 a.2).bind fun ds => if ds.length = n then (f ds).bind fun d => if flatD d = true then some (.v d, a.2) else none else none
noncomputable abbrev MC := List D → Option Cell
noncomputable def flatC : Cell → Bool
  | .lst xs => flatDs xs
  | .dct kvs => flatDs (kvs.map (·.2))
  | _ => false
noncomputable def finN : Out → Option Cell
  | .rt (.p n) μ => match μ[n]? with | some (.lst xs) => some (.lst xs) | some (.dct kvs) => some (.dct kvs) | _ => none
  | _ => none
noncomputable def fCallN (f : MC) (n : Nat) (fa : FA) : FE := fun ρ μ => (fa ρ μ).bind fun a => (valsB a.1 a.2).bind fun ds => if ds.length = n then (f ds).bind fun c => if flatC c = true then some (.p a.2.length, a.2 ++ [c]) else none else none
noncomputable def clrD : R → List R → Store → Option (R × Store)
  | .p n, [], μ => match μ[n]? with | some (.lst _) => some (.v .non, μ.set n (.lst [])) | _ => none
  | _, _, _ => none
noncomputable def extD : R → List R → Store → Option (R × Store)
  | .p n, [.v (.tup ys)], μ => match μ[n]? with | some (.lst xs) => if xs.length + ys.length ≤ sizeLine then some (.v .non, μ.set n (.lst (xs ++ ys))) else none | _ => none
  | _, _, _ => none
section
variable {P : Program} {w : World} {H H0 : Hp} {h h0 : Heap} {a : Addr} {u : HO} {o : Obj} {fs ex : List Addr}
end
def Cz (H H1 : Hp) : Prop := ∀ b, H1 b = H b ∨ ∃ u o, H b = some u ∧ FzOk u ∧ H1 b = some (.frz o u)
section
variable {K : PySem.W.Frag} {H H1 H2 H' : Hp}
theorem Cz.refl : Cz H H := fun _ => .inl rfl
theorem Cz.upd {a : Addr} {u : HO} {o : Obj} (c : Cz H H1) (e : H1 a = some u) (hu : FzOk u) : Cz H (upd H1 a (.frz o u)) := fun b => by
  by_cases hb : b = a
  · subst hb
    rw [L2.upd_same]
    rcases c b with z | ⟨u', o', _, _, z⟩
    · exact .inr ⟨u, o, by rw [← z, e], hu, rfl⟩
    · rw [e] at z; cases z; exact hu.elim
  · rw [L2.upd_ne hb]; exact c b
theorem Cz.trans (c : Cz H H1) (c' : Cz H1 H2) : Cz H H2 := fun b => by
  rcases c' b with z | ⟨u, o, z1, z2, z3⟩
  · rw [z]; exact c b
  · rcases c b with y | ⟨u', o', _, _, y⟩
    · exact .inr ⟨u, o, by rw [← y, z1], z2, z3⟩
    · rw [z1] at y; cases y; exact z2.elim
theorem Cz.tf (c : Cz H H1) : TF H H1 := by
  refine ⟨fun a xs e => ?_, fun a o u e => ?_⟩
  · rcases c a with z | ⟨u, o, z1, z2, z3⟩
    · rw [z, e]
    · rw [e] at z1; cases z1; exact z2.elim
  · rcases c a with z | ⟨u', o', z1, z2, z3⟩
    · rw [z, e]
    · rw [e] at z1; cases z1; exact z2.elim
end
section
variable {K : PySem.W.Frag} {m : List Addr} {σ : L2.St} {H H0 : Hp} {μ : Store} {Q : VK}
end
end HW
namespace HW
open PySem PySem.Spec PyProof.Rows L2
noncomputable def rAdd0 (K : PySem.W.Frag) : R2 := fun x y H Q => ∃ a b ys, x = .ref a ∧ y = .ref b ∧ SqT K H a [] ∧ SqT K H b ys ∧ ys.length ≤ sizeLine ∧ Q (.ref b) H
theorem op_add0 {X : Cx} : OpR X (binaryOp .Add) (rAdd0 X.K) := by
  intro pins s σ H x y v u Q I rx ry h
  obtain ⟨a, b, ys, rfl, rfl, ha, hb, hz, q⟩ := h
  cases rx
  cases ry
  obtain ⟨its, r1, p1, _⟩ := I.tuple ha
  obtain ⟨its2, r2, p2, _⟩ := I.tuple hb
  cases r1
  obtain ⟨⟨cls, dd, data, sl⟩, ho, hc, n, hd⟩ := id p1
  obtain ⟨⟨cls2, dd2, data2, sl2⟩, ho2, hc2, n2, hd2⟩ := id p2
  simp only at hc hd hc2 hd2
  subst hc hd hc2 hd2
  exact concat_meets ⟨_, ho, rfl⟩ ⟨_, ho2, rfl⟩ noFill_tuple_add seq_tuple_add PySem.F.slot_tuple_add PySem.F.entry_tuple_add (PySem.F.args_tuple_add_2 _ _)
    (tuple_addW0 a b #[] its2.toArray n n2 dd dd2 sl sl2 (by simp)) ⟨ho, ho2, ⟨.ref b, H, I, rfl, q⟩⟩
noncomputable def addQ : R → R → Store → Option (R × Store)
  | .v (.tup []), .v (.tup ys), μ => if ys.length ≤ sizeLine then some (.v (.tup ys), μ) else none
  | x, y, μ => addD x y μ
theorem g_addQ {K : PySem.W.Frag} : GOp K addQ (fun x y H Q => rAdd' K x y H Q ∨ rAdd0 K x y H Q) := by
  intro m H μ x y d μ' v u Q s rx ry e k
  unfold addQ at e
  split at e
  · split at e
    · rename_i z
      cases e
      have ry' := ry
      simp only [RelR, RelD] at rx ry
      obtain ⟨a, vs, rfl, qa, ra⟩ := rx
      obtain ⟨b, ws, rfl, qb, rb⟩ := ry
      have ra : vs = [] := by simpa only [RelDs] using ra
      subst ra
      exact .inr ⟨a, b, ws, rfl, rfl, qa, qb, by rw [← rb.length]; exact z, k _ H m .refl s ry'⟩
    · cases e
  · exact .inl (g_add m H μ _ _ d μ' v u Q s rx ry e k)
noncomputable def intD : List R → Store → Option (R × Store)
  | [.v (.int i)], μ => some (.v (.int i), μ)
  | [.v (.bl b)], μ => some (.v (.int (if b then 1 else 0)), μ)
  | _, _ => none
noncomputable def strD : List R → Store → Option (R × Store)
  | [.v (.int i)], μ => if i.natAbs.log2 < 1920 then some (.v (.str (toString i)), μ) else none
  | _, _ => none
def rSetK : V → V → V → Hp → (Hp → Prop) → Prop := fun o i v H Q => ∃ p kvs k, o = .ref p ∧ i = kV k ∧ H p = some (.dK kvs) ∧ kvs.length < sizeLine ∧ Q (upd H p (.dK (putK kvs k v)))
theorem set_dict {X : Cx} (hu : X.A.units + 1 < cLine) : PSet X rSetK := by
  intro pins s σ H o i v ov iv u Q I ro ri rv h
  obtain ⟨p, kvs, k, rfl, rfl, hp, hl, q⟩ := h
  cases ro
  exact d_setItem hu I (DPut.k hp hl) ri rv fun s' I' => ⟨_, I', q⟩
theorem PSet.or {X : Cx} {t u : TSet} (h : PSet X t) (h' : PSet X u) : PSet X (fun o i v H Q => t o i v H Q ∨ u o i v H Q) := fun pins s σ H o i v ov iv z Q I ro ri rv q => by
  rcases q with q | q
  · exact h pins s σ H o i v ov iv z Q I ro ri rv q
  · exact h' pins s σ H o i v ov iv z Q I ro ri rv q
noncomputable def keyOf : R → Option Key
  | .v (.int i) => some (.inl i)
  | .v (.str x) => some (.inr x)
  | _ => none
noncomputable def putC (o i : R) (dv : D) (μ : Store) : Option Store := match o with
  | .p n => match μ[n]? with
    | some (.lst xs) => (match i with | .v (.int k) => (ixN xs.length k).bind fun j => some (μ.set n (.lst (xs.set j dv))) | _ => none)
    | some (.dct kvs) => if kvs.length < sizeLine then (keyOf i).bind fun k => some (μ.set n (.dct (putKD kvs k dv))) else none
    | _ => none
  | _ => none
noncomputable def gSub (fo fi : FE) : FG := fun d ρ μ => match d with | .v dv => (fo ρ μ).bind fun o => (fi ρ o.2).bind fun i => (putC o.1 i.1 dv i.2).bind fun μ' => some (ρ, μ') | _ => none
theorem RelDs.setAt {K : PySem.W.Frag} {H : Hp} {d : D} {v : V} (h : RelD K H d v) : ∀ {ds : List D} {vs : List V} (j : Nat), RelDs K H ds vs → RelDs K H (ds.set j d) (vs.set j v)
  | [], vs, j, r => by have r : vs = [] := r; subst r; exact rfl
  | _ :: _, _, 0, ⟨v', r, e, h1, h2⟩ => by subst e; exact ⟨v, r, rfl, h, h2⟩
  | _ :: _, _, j + 1, ⟨v', r, e, h1, h2⟩ => by subst e; exact ⟨v', _, rfl, h1, RelDs.setAt h j h2⟩
theorem key_rel {K : PySem.W.Frag} {m : List Addr} {H : Hp} {x : R} {v : V} {k : Key} (r : RelR K m H x v) (e : keyOf x = some k) : v = kV k := by
  unfold keyOf at e
  split at e
  · cases e; simpa only [RelR, RelD, kV] using r
  · cases e; simpa only [RelR, RelD, kV] using r
  · cases e
theorem put_ok {K : PySem.W.Frag} {m : List Addr} {H : Hp} {μ μ' : Store} {o i : R} {dv : D} {vo vi v : V} {Q : Hp → Prop} (s : SRel K m H μ) (ro : RelR K m H o vo) (ri : RelR K m H i vi) (rv : RelD K H dv v) (e : putC o i dv μ = some μ')
    (k : ∀ H', Ext m H m H' → SRel K m H' μ' → Q H') : rSetL vo vi v H Q ∨ rSetK vo vi v H Q := by
  unfold putC at e
  split at e
  · rename_i n
    split at e
    · rename_i xs q
      split at e
      · rename_i j
        obtain ⟨w, e1, e⟩ := Option.bind_eq_some_iff.mp e
        cases e
        obtain ⟨a, rfl, ha⟩ := ro
        have ri : vi = .int j := by simpa only [RelR, RelD] using ri
        subst ri
        obtain ⟨ws, ea, ra⟩ := s.cell _ _ a q ha
        have x : Ext m H m (upd H a (.lst (ws.set w v))) := .put (List.mem_of_getElem? ha) ea (by simp) (by simp)
        exact .inl ⟨a, ws, j, w, rfl, rfl, ea, by rw [← ra.length]; exact e1, k _ x (s.put ha ea (by simp) (by simp) ⟨_, upd_at, RelDs.tf x.tf _ _ (RelDs.setAt rv w ra)⟩)⟩
      · cases e
    · rename_i kvs q
      split at e
      · rename_i hl
        obtain ⟨w, e1, e⟩ := Option.bind_eq_some_iff.mp e
        cases e
        obtain ⟨a, rfl, ha⟩ := ro
        obtain ⟨es, ea, q1, q2⟩ := s.cell _ _ a q ha
        have kd : KD K H kvs es := ⟨q1, q2⟩
        have kd' := kd.put (k := w) rv
        have x : Ext m H m (upd H a (.dK (putK es w v))) := .put (List.mem_of_getElem? ha) ea (by simp) (by simp)
        exact .inr ⟨a, es, w, rfl, key_rel ri e1, ea, by have := congrArg List.length q1; simp at this; omega, k _ x (s.put ha ea (by simp) (by simp) ⟨_, upd_at, kd'.1, RelDs.tf x.tf _ _ kd'.2⟩)⟩
      · cases e
    · cases e
  · cases e
theorem rd_gSub {K : PySem.W.Frag} {fo fi : FE} {v : V} {σ : L2.St} {H : Hp} {Q : L2.St → Hp → Prop} (h : rdG K (gSub fo fi) v σ H Q) : L2.gSub (rdE K fo) (rdE K fi) (fun o i v H Q => rSetL o i v H Q ∨ rSetK o i v H Q) v σ H Q := by
  obtain ⟨ρ, μ, m, d, ρ', μ', hl, hs, r, e, k⟩ := h
  unfold gSub at e
  split at e
  · rename_i dv
    obtain ⟨⟨o, μ1⟩, e1, e⟩ := Option.bind_eq_some_iff.mp e
    obtain ⟨⟨i, μ2⟩, e2, e⟩ := Option.bind_eq_some_iff.mp e
    obtain ⟨μ3, e3, e⟩ := Option.bind_eq_some_iff.mp e
    cases e
    refine ⟨ρ, μ, m, o, μ1, hl, hs, e1, fun vo H1 m1 x1 s1 r1 => ?_⟩
    refine ⟨ρ, μ1, m1, i, μ2, hl.ext x1, s1, e2, fun vi H2 m2 x2 s2 r2 => ?_⟩
    exact put_ok s2 (r1.ext x2) r2 (RelD.tf (x1.tf.trans x2.tf) _ _ r) e3 fun H3 x3 s3 => k σ H3 m2 ((x1.trans x2).trans x3) s3 (hl.ext ((x1.trans x2).trans x3))
  · cases e
end HW
namespace HW
open PySem PySem.Spec PyProof.Rows L2
noncomputable def bestOf (lt : Int → Int → Bool) (ns : List Int) : Int := ns.getD (argBest (fun i j => lt (ns.getD i 0) (ns.getD j 0)) (ns.length - 1)) 0
noncomputable def bestD (lt : Int → Int → Bool) : List R → Store → Option (R × Store)
  | [x], μ => (lstD x μ).bind fun ds => (intsD ds).bind fun ns => if ns = [] then none else some (.v (.int (bestOf lt ns)), μ)
  | _, _ => none
end HW
namespace HS
open PySem PySem.Spec PyProof.Rows L2
section
variable {prog : Program} {w : World} {A : Around} {E : Value → Shared → Prop} {s : Shared}
theorem hint_dict {a : Addr} {Q : Bool → Shared → Prop} (hT : s.TypeIs (.ref a) "dict") (h : Q false s) : wpAny (model prog w) A (Builtin.List.listLengthHint (.ref a)) Q E s := PySem.W.kdl_hint_dict hT h
theorem collect_dict {a : Addr} {kvs : List (Key × Value)} {Q : List Value → Shared → Prop} (hh : A.handled = none) (hd : (a == sysModules) = false) (hm : s.heap.DictOf (mixKind prog w) a kvs) (hz : kvs.length ≤ sizeLine)
    (h : ∀ (vs : List Value) (h' : Heap) (tk : Nat), vs.length = kvs.length → (∀ (i : Nat) v, vs[i]? = some v → ∃ k x, kvs[i]? = some (k, x) ∧ keyIs k v = true) → (∀ b o, s.heap.get? b = some o → h'.get? b = some o) → s.toks ≤ tk → s.heap.objs.size ≤ h'.objs.size → Q vs { s with heap := h', toks := tk }) :
    wpAny (model prog w) A (collect (.ref a)) Q E s := by
  obtain ⟨ep, hm⟩ := hm.dictAt
  obtain ⟨o, es, ho, hx, hdat, r⟩ := id hm
  have hlt := Heap.lt_size ho
  unfold collect
  refine wpAny_bind (wpAny_runValue (codeAny_builtin F.entry_proto_collect ?_))
  rw [Around.under_plainId F.plain_proto_collect _]
  refine (show wpAny _ A.in1 (newList [] >>= fun l => again (.builtin "list.__iadd__" ⟨[l, .ref a], []⟩)) _ _ s from wpAny_bind (wpAny_newObj_type ?_))
  refine wpAny_pure ⟨plainId_quiet F.plain_list_iadd _, codeAny_builtin F.entry_list_iadd ?_⟩
  rw [Around.under_plainId F.plain_list_iadd _]
  refine (show wpAny _ A.in1 (Builtin.List.listExtendWith (.ref s.heap.objs.size) (.ref a) (.ref s.heap.objs.size)) _ _ _ from ?_)
  unfold Builtin.List.listExtendWith
  have hm1 := hm.push { cls := .type "list", data := .seq ([] : List Value).toArray }
  have hT : Shared.TypeIs { s with heap := s.heap.push { cls := .type "list", data := .seq ([] : List Value).toArray } } (.ref a) "dict" := hm1.dictOf.typeIs
  refine wpAny_bind (wpAny_typeOf hT ?_)
  have h1 : Builtin.List.listSameRef (.ref s.heap.objs.size) (.ref a) = false := by simp [Builtin.List.listSameRef, Nat.ne_of_gt hlt]
  simp only [h1, show (Value.type "dict" == Value.type "list") = false by decide, show (Value.type "dict" == Value.type "tuple") = false by decide, Bool.or_false, Bool.false_eq_true, if_false]
  refine wpAny_bind (wpAny_pyIter_dict hd hm1 ?_)
  have hsz : (s.heap.push { cls := .type "list", data := .seq ([] : List Value).toArray }).objs.size = s.heap.objs.size + 1 := Heap.size_push ..
  generalize hI : (s.heap.push { cls := .type "list", data := .seq ([] : List Value).toArray }).objs.size = I at *
  have kp : ∀ b o, (s.heap.push { cls := .type "list", data := .seq ([] : List Value).toArray }).get? b = some o → ((s.heap.push { cls := .type "list", data := .seq ([] : List Value).toArray }).push { cls := .type "dict_keyiterator", data := .fields #[.ref a, .int 0 0, .int kvs.length 0, .int ep 0] }).get? b = some o := fun b o e => Heap.get?_push_of_some _ e
  generalize hh1 : (s.heap.push { cls := .type "list", data := .seq ([] : List Value).toArray }).push { cls := .type "dict_keyiterator", data := .fields #[.ref a, .int 0 0, .int kvs.length 0, .int ep 0] } = h1 at *
  have hIt : h1.IsKeyIter I a 0 kvs.length ep := ⟨_, by rw [← hh1, ← hI]; exact Heap.get?_push_size _ rfl, rfl, rfl⟩
  have hma : h1.DictAt (mixKind prog w) a kvs ep := hm1.keep kp
  have hTa : Shared.TypeIs { s with heap := h1 } (.ref a) "dict" := hma.dictOf.typeIs
  refine wpAny_bind (wpAny_holding (hint_dict hTa ?_))
  refine (show wpAny _ A.in1 (rule "list.extend.makes-room" >>= fun _ => Builtin.List.listTouch (.ref s.heap.objs.size) >>= fun _ =>
    again (.builtin "list.extend.loop" ⟨[.ref s.heap.objs.size, .ref I, .ref s.heap.objs.size], []⟩)) _ _ _ from wpAny_bind (wpAny_rule (wpAny_bind ?_)))
  have hL : h1.get? s.heap.objs.size = some { cls := .type "list", data := .seq ([] : List Value).toArray } := kp _ _ (Heap.get?_push_size _ rfl)
  have hSf : s.heap.objs.size ∉ [I, a] := fun hm => by
    simp only [List.mem_cons, List.not_mem_nil, or_false] at hm
    rcases hm with e | e
    · rw [hsz] at e; omega
    · exact Nat.lt_irrefl _ (e ▸ hlt)
  refine (show wpAny _ A.in1 (updateSeq s.heap.objs.size (·.push .none) >>= fun _ => updateSeq s.heap.objs.size (·.pop)) _ _ _ from wpAny_bind (wpAny_updateSeq hL rfl ?_))
  have hL2 := Heap.get?_update_self (Obj.mapSeq (·.push Value.none)) hL rfl
  refine wpAny_updateSeq (s := { s with heap := _ }) hL2 rfl ?_
  have hL3 := Heap.get?_update_self (Obj.mapSeq (·.pop)) hL2 rfl
  have oth : ∀ b o, b ≠ s.heap.objs.size → h1.get? b = some o → ((h1.update s.heap.objs.size (Obj.mapSeq (·.push Value.none))).update s.heap.objs.size (Obj.mapSeq (·.pop))).get? b = some o :=
    fun b o hb e => (Heap.get?_update_other _ _ (Ne.symm hb)).trans ((Heap.get?_update_other _ _ (Ne.symm hb)).trans e)
  have W1 := Walks.dictKeys (prog := prog) (w := w) (knd := mixKind prog w) (A := A.in1) (show A.in1.handled = none from hh) I a (by rw [hsz]; exact Nat.ne_of_lt (Nat.lt_succ_of_lt hlt)) kvs ep
  refine wpAny_pure ⟨plainId_quiet F.plain_extend_loop _, codeAny_extend_loopS W1.toS hz _ hSf _ kvs.length 0 _ _ _ rfl (Nat.zero_le _)
    (W1.frame 0 h1 _ ⟨hIt, hma⟩ fun b hb o e => oth b o (fun q => hSf (q ▸ hb)) e) hL3 (ItemsOf.nil _) fun s' acc c hm' hS' hacc => ?_⟩
  refine (show wpAny _ A (load s.heap.objs.size >>= _) _ _ s' from wpAny_bind (wpAny_load hS' ?_))
  dsimp only
  obtain ⟨h', g', d', tk', os'⟩ := s'
  have eg : g' = s.gens := hm'.gens
  have ed : d' = s.drawn := hm'.drawn
  have eo : os' = s.os := hm'.os
  subst eg; subst ed; subst eo
  refine wpAny_pure ?_
  refine h _ h' tk' (by rw [← hacc.1]; simp) (fun i v hv => hacc.2 i v (by simpa using hv)) (fun b o e => hm'.heap b o (fun hb => ?_) (oth b o (fun q => ?_) (kp _ _ (Heap.get?_push_of_some _ e)))) hm'.toks (Nat.le_of_lt (Heap.lt_size hS'))
  · have hb1 := Heap.lt_size e
    simp only [List.mem_cons, List.not_mem_nil, or_false] at hb
    rcases hb with q | q
    · exact Nat.lt_irrefl _ (q ▸ hb1)
    · rw [q, hsz] at hb1; exact absurd hb1 (Nat.not_lt.mpr (Nat.le_succ _))
  · exact Nat.lt_irrefl _ (q ▸ Heap.lt_size e)
theorem keys_ints : ∀ {vs : List Value} {kvs : List (Key × Value)} {ns : List Int}, kvs.map (·.1) = ns.map Sum.inl → vs.length = kvs.length → (∀ (i : Nat) v, vs[i]? = some v → ∃ k x, kvs[i]? = some (k, x) ∧ keyIs k v = true) → IntsAre vs ns
  | [], [], [], _, _, _ => .nil
  | [], [], _ :: _, e, _, _ => by simp at e
  | [], _ :: _, _, _, e, _ => by simp at e
  | _ :: _, [], _, _, e, _ => by simp at e
  | v :: vs, kv :: kvs, [], e, _, _ => by simp at e
  | v :: vs, (k, x) :: kvs, n :: ns, e, hl, h => by
    simp only [List.map_cons, List.cons.injEq] at e
    obtain ⟨e1, e2⟩ := e
    subst e1
    obtain ⟨k', x', q1, q2⟩ := h 0 v rfl
    simp only [List.getElem?_cons_zero, Option.some.injEq, Prod.mk.injEq] at q1
    rw [← q1.1] at q2
    rcases keyIs_shape q2 with ⟨i, t, q3, rfl⟩ | ⟨y, t, q3, rfl⟩
    · cases q3
      exact .cons _ _ (keys_ints e2 (by simpa using hl) fun i v hv => h (i + 1) v (by simpa using hv))
    · cases q3
end
end HS
namespace HW
open PySem PySem.Spec PyProof.Rows L2 HS
theorem kv_keys : ∀ {kvs : List (Key × V)} {vs : List (Key × Value)}, KV kvs vs → vs.map (·.1) = kvs.map (·.1)
  | _, _, .nil => rfl
  | _, _, .cons r t => by simp only [List.map_cons, kv_keys t, r.1]
noncomputable def intKeys : List Key → Option (List Int)
  | [] => some []
  | .inl n :: r => (intKeys r).map (n :: ·)
  | _ => none
theorem intKeys_eq : ∀ {ks : List Key} {ns : List Int}, intKeys ks = some ns → ks = ns.map Sum.inl
  | [], ns, e => by cases e; rfl
  | .inl n :: r, ns, e => by
    obtain ⟨ms, e1, rfl⟩ := Option.map_eq_some_iff.mp (show (intKeys r).map (n :: ·) = some ns from e)
    rw [intKeys_eq e1]; rfl
  | .inr x :: r, ns, e => by cases e
noncomputable def srtK (b : Bool) : List R → Store → Option (R × Store)
  | [.p n], μ => match μ[n]? with
    | some (.dct kvs) => (intKeys (kvs.map (·.1))).bind fun ns => if ns.length < 64 then some (.p μ.length, μ ++ [.lst ((isort ns).map D.int)]) else none
    | some (.fzd kvs) => (intKeys (kvs.map (·.1))).bind fun ns => if ns.length < 64 then some (.p μ.length, μ ++ [.lst ((isort ns).map D.int)]) else none
    | _ => sortedQ b [.p n] μ
  | xs, μ => sortedQ b xs μ
noncomputable def fPairs : List (FE × FE) → Lo → Store → Option (List (R × R) × Store)
  | [], _, μ => some ([], μ)
  | (fk, fv) :: r, ρ, μ => (fk ρ μ).bind fun a => (fv ρ a.2).bind fun b => (fPairs r ρ b.2).bind fun c => some ((a.1, b.1) :: c.1, c.2)
noncomputable def kvsOf : List (R × R) → Option (List (Key × D))
  | [] => some []
  | (x, .v d) :: r => (keyOf x).bind fun k => (kvsOf r).bind fun kvs => some ((k, d) :: kvs)
  | _ => none
noncomputable def fDisp (prs : List (FE × FE)) : FE := fun ρ μ => (fPairs prs ρ (μ ++ [.dct []])).bind fun a => (kvsOf a.1).bind fun kvs => if kvs.length ≤ 15 then
  (match a.2[μ.length]? with | some (.dct []) => some (.p μ.length, a.2.set μ.length (.dct (putAllD [] kvs))) | _ => none) else none
section
variable {K : PySem.W.Frag} {σ : L2.St}
def RelPs (K : PySem.W.Frag) (m : List Addr) (H : Hp) : List (R × R) → List (V × V) → Prop
  | [], ps => ps = []
  | p :: ps, qs => ∃ x y r, qs = (x, y) :: r ∧ RelR K m H p.1 x ∧ RelR K m H p.2 y ∧ RelPs K m H ps r
theorem rd_pairs : ∀ (prs : List (FE × FE)) {H : Hp} {Q : List (V × V) → Hp → Prop} {ρ : Lo} {μ μ' : Store} {m : List Addr} {rs : List (R × R)}, LRel K m H ρ σ → SRel K m H μ → fPairs prs ρ μ = some (rs, μ') →
    (∀ ps H' m', Ext m H m' H' → SRel K m' H' μ' → RelPs K m' H' rs ps → Q ps H') → tPairs (prs.map fun p => (rdE K p.1, rdE K p.2)) σ H Q
  | [], H, Q, ρ, μ, μ', m, rs, hl, hs, e, k => by
    cases e
    exact k [] H m .refl hs rfl
  | (fk, fv) :: r, H, Q, ρ, μ, μ', m, rs, hl, hs, e, k => by
    obtain ⟨⟨a, μ1⟩, e1, e⟩ := Option.bind_eq_some_iff.mp e
    obtain ⟨⟨b, μ2⟩, e2, e⟩ := Option.bind_eq_some_iff.mp e
    obtain ⟨⟨cs, μ3⟩, e3, e⟩ := Option.bind_eq_some_iff.mp e
    cases e
    refine ⟨ρ, μ, m, a, μ1, hl, hs, e1, fun x H1 m1 x1 s1 r1 => ?_⟩
    refine ⟨ρ, μ1, m1, b, μ2, hl.ext x1, s1, e2, fun y H2 m2 x2 s2 r2 => ?_⟩
    exact rd_pairs r (hl.ext (x1.trans x2)) s2 e3 fun ps H3 m3 x3 s3 rp => k _ H3 m3 ((x1.trans x2).trans x3) s3 ⟨x, y, ps, rfl, r1.ext (x2.trans x3), r2.ext x3, rp⟩
theorem kvs_rel {m : List Addr} {H : Hp} : ∀ {rs : List (R × R)} {ps : List (V × V)} {kvs : List (Key × D)}, RelPs K m H rs ps → kvsOf rs = some kvs → ∃ qs : List (Key × V), ps = qs.map (fun kv => (kV kv.1, kv.2)) ∧ KD K H kvs qs
  | [], ps, kvs, r, e => by
    cases e
    have r : ps = [] := r
    subst r
    exact ⟨[], rfl, KD.nil⟩
  | (x, y) :: rs, ps, kvs, r, e => by
    obtain ⟨vx, vy, ps', rfl, r1, r2, r3⟩ := r
    cases y with
    | v d =>
      obtain ⟨k, e1, e⟩ := Option.bind_eq_some_iff.mp (show (keyOf x).bind _ = some kvs from e)
      obtain ⟨kvs', e2, e⟩ := Option.bind_eq_some_iff.mp e
      cases e
      obtain ⟨qs, rfl, hq⟩ := kvs_rel r3 e2
      refine ⟨(k, vy) :: qs, ?_, KD.cons.mpr ⟨rfl, r2, hq⟩⟩
      rw [key_rel r1 e1]; rfl
    | p n => cases e
    | s b xs => cases e
    | x _ => cases e
theorem rd_disp {prs : List (FE × FE)} {H : Hp} {Q : VK} (h : rdE K (fDisp prs) σ H Q) : tDisp (prs.map fun p => (rdE K p.1, rdE K p.2)) σ H Q := by
  obtain ⟨ρ, μ, m, d, μ', hl, hs, e, k⟩ := h
  obtain ⟨⟨rs, μ1⟩, e1, e⟩ := Option.bind_eq_some_iff.mp e
  obtain ⟨kvs, e2, e⟩ := Option.bind_eq_some_iff.mp e
  split at e
  · rename_i h15
    split at e
    · rename_i q
      cases e
      intro p hp
      have x0 : Ext m H (m ++ [p]) (upd H p (.dK [])) := .newH hp
      have s0 : SRel K (m ++ [p]) (upd H p (.dK [])) (μ ++ [.dct []]) := hs.newH hp ⟨[], upd_at, rfl, by simp only [List.map_nil, RelDs]⟩
      refine rd_pairs prs (hl.ext x0) s0 e1 fun ps H2 m2 x2 s2 rp => ?_
      have hm2 : m2[μ.length]? = some p := by
        obtain ⟨ex, rfl, _⟩ := x2.ext
        rw [← hs.len, List.append_assoc]
        simp
      obtain ⟨es, ea, q1, q2⟩ := s2.cell _ _ p q hm2
      have hes : es = [] := by simpa using q1
      subst hes
      obtain ⟨qs, rfl, hq⟩ := kvs_rel rp e2
      refine ⟨ea, qs, rfl, by have := congrArg List.length hq.1; simp at this; omega, ?_⟩
      have kd := KD.putAll (K := K) (H := H2) .nil hq
      have x3 : Ext m2 H2 m2 (upd H2 p (.dK (putV [] qs))) := .put (List.mem_of_getElem? hm2) ea (by simp) (by simp)
      refine k _ _ m2 (x0.trans (x2.trans x3)) (s2.put hm2 ea (by simp) (by simp) ⟨_, upd_at, kd.1, RelDs.tf x3.tf _ _ kd.2⟩) ⟨p, rfl, hm2⟩
    · cases e
  · cases e
end
theorem CallR.either {X : Cx} {v : Value} {r r' : List V → Hp → VK → Prop} (h : CallR X v r) (h' : CallR X v r') : CallR X v (fun vs H Q => r vs H Q ∨ r' vs H Q) := fun pins s σ H xs us Q I rv q => by
  rcases q with q | q
  · exact h pins s σ H xs us Q I rv q
  · exact h' pins s σ H xs us Q I rv q
end HW
namespace HW
open PySem PySem.Spec PyProof.Rows L2
noncomputable def stepV {α : Type} (xs : List α) (lo hi : Option Int) (k : Int) : List α := (let b := sliceBounds lo hi (some k) xs.length; sliceRange b.1 b.2.1 b.2.2).filterMap fun i => xs[i]?
end HW
namespace HW
open PySem PySem.Spec PyProof.Rows L2
noncomputable def insD : R → List R → Store → Option (R × Store)
  | .p n, [.v (.int i), .v d], μ => match μ[n]? with | some (.lst xs) => if 0 ≤ i ∧ i < 2 ^ 62 ∧ xs.length < sizeLine then some (.v .non, μ.set n (.lst (xs.take i.toNat ++ d :: xs.drop i.toNat))) else none | _ => none
  | _, _, _ => none
def rInsert : V → List V → Hp → VK → Prop := fun x vs H Q => ∃ l i y xs, x = .ref l ∧ vs = [.int i, y] ∧ H l = some (.lst xs) ∧ (0 ≤ i ∧ i < 2 ^ 62) ∧ xs.length < sizeLine ∧ Q .non (upd H l (.lst (xs.take i.toNat ++ y :: xs.drop i.toNat)))
theorem mt_insert {X : Cx} : MtM X "list.insert" rInsert := by
  intro pins s σ H x vs v us Q I rx rv h
  obtain ⟨l, i, y, xs, rfl, rfl, hH, ⟨h0, h1⟩, hz, q⟩ := h
  cases rx
  cases rv with
  | cons r rr =>
  cases rr with
  | cons ry rr =>
  cases rr
  obtain ⟨t, rfl⟩ := r
  obtain ⟨z, its, n, r, hl, e⟩ := I.lstM hH
  have hfit : ¬ (!Builtin.List.listFitsIndex i) = true := by
    rw [fitsIndex_both (by omega) (by omega)]
    exact Bool.false_ne_true
  have hle := r.length
  refine call_meets F.slot_list_insert ⟨_, e, rfl⟩ F.entry_list_insert (F.args_list_insert_3 _ _ _)
    (AutoSeq1.list_insert_list_int_val_1 l its.toArray n i t _ hfit (by rw [List.size_toArray]; omega)) ⟨e, ?_⟩
  refine ⟨.non, _, I.lset (its' := its.take i.toNat ++ _ :: its.drop i.toNat) hH e ?_ ((r.take _).append (.cons ry (r.drop _))) ?_, rfl, q⟩
  · simp only [if_neg (show ¬ i < 0 by omega), List.size_toArray]
    apply Array.toList_inj.mp
    simp only [Array.toList_append, Array.toList_push, Array.toList_extract, List.extract_eq_take_drop, List.drop_zero, Nat.sub_zero, List.append_assoc, List.singleton_append, List.size_toArray]
    have e1 : List.take (min i.toNat its.length) its = List.take i.toNat its := by
      by_cases hh : i.toNat ≤ its.length
      · rw [Nat.min_eq_left hh]
      · rw [Nat.min_eq_right (by omega), List.take_length, List.take_of_length_le (by omega)]
    have e2 : List.drop (min i.toNat its.length) its = List.drop i.toNat its := by
      by_cases hh : i.toNat ≤ its.length
      · rw [Nat.min_eq_left hh]
      · rw [Nat.min_eq_right (by omega), List.drop_length, List.drop_of_length_le (by omega)]
    have e3 : List.take (its.length - min i.toNat its.length) (List.drop (min i.toNat its.length) its) = List.drop i.toNat its := by
      rw [List.take_of_length_le (by rw [List.length_drop]; exact Nat.le_refl _), e2]
    first | rw [e1, e3] | (simp only [e1, e2, e3])
  · rw [List.length_append, List.length_cons, List.length_take, List.length_drop]
    omega
theorem RelDs.takeB {K : PySem.W.Frag} {H : Hp} : ∀ {xs : List D} {vs : List V} (n : Nat), RelDs K H xs vs → RelDs K H (xs.take n) (vs.take n) ∧ RelDs K H (xs.drop n) (vs.drop n)
  | _, _, 0, h => ⟨by simp only [List.take_zero, RelDs], by simpa using h⟩
  | [], vs, n + 1, h => by
    simp only [RelDs] at h
    subst h
    exact ⟨by simp only [List.take_nil, RelDs], by simp only [List.drop_nil, RelDs]⟩
  | x :: xs, vs, n + 1, h => by
    simp only [RelDs] at h
    obtain ⟨v, r, rfl, h1, h2⟩ := h
    have := RelDs.takeB n h2
    refine ⟨?_, by simpa using this.2⟩
    simp only [List.take_succ_cons, RelDs]
    exact ⟨v, _, rfl, h1, this.1⟩
theorem g_ins {K : PySem.W.Frag} : GMt K insD rInsert := by
  intro m H μ x xs d μ' v vs Q s rx rs e k
  unfold insD at e
  split at e
  · split at e
    · rename_i ys q
      split at e
      · rename_i z
        cases e
        obtain ⟨a, rfl, ha⟩ := rx
        obtain ⟨v, r, rfl, r1, w, r', rfl, r2, r3⟩ := rs
        have r3 : r' = [] := r3
        have r1' := r1
        simp only [RelR, RelD] at r1'
        subst r1' r3
        obtain ⟨ws, ea, ra⟩ := s.cell _ _ a q ha
        rename_i _ i dd _
        have x : Ext m H m (upd H a (.lst (ws.take i.toNat ++ w :: ws.drop i.toNat))) := .put (List.mem_of_getElem? ha) ea (by simp) (by simp)
        refine ⟨a, i, w, ws, rfl, rfl, ea, ⟨z.1, z.2.1⟩, by rw [← ra.length]; exact z.2.2, k _ _ m x (s.put ha ea (by simp) (by simp) ⟨_, upd_at, ?_⟩) (by simp only [RelR, RelD])⟩
        have tt := ra.takeB i.toNat
        refine RelDs.tf x.tf _ _ (tt.1.append ?_)
        simp only [RelDs]
        exact ⟨w, _, rfl, r2, tt.2⟩
      · cases e
    · cases e
  · cases e
noncomputable def Itst (lo c : Int) (n : Nat) : It := ⟨fun i _ => i < n, fun i H x H' => H' = H ∧ x = .int (lo + i * c), fun i _ => n ≤ i⟩
theorem turn_step {P : Program} {w : World} {K : PySem.W.Frag} {tg : Expr} (it : Addr) (lo c : Int) (n : Nat) : Turn P w K tg (Itst lo c n) [it] it (fun i h => IsRangeIter h it (lo + (i : Nat) * c) ((n : Int) - (i : Nat)) c) where
  mem := by simp
  obj := fun i h st b hb => by
    have e : b = it := by simpa using hb
    subst e
    exact ⟨_, st, fun v z => by
      have z' : Data.fields _ = Data.cell v := z
      cases z'⟩
  keep := fun i h h' st k => k it (by simp) _ st
  item := by
    intro X hP hw hK hc i pins s σ H E I hf st hg
    subst hP hw hK
    obtain ⟨f0, f1, f2, f3, f4, f5⟩ := hf it (by simp)
    refine (Walks.range (prog := X.prog) (w := X.w) (I.ok.hd hc) it lo c n).item i s _ _ hg st fun v h' tk hv st' kk => ?_
    obtain ⟨t, rfl⟩ := hv
    have I1 : Inv X pins σ H { s with heap := h', toks := tk } := I.turned (fun b o hb e => kk b o (by simpa using hb) e) f0 f1 f3 f4 f5
    exact ⟨_, rfl, go_of (s := { s with heap := h', toks := tk }) (n := "range_iterator") st' rfl rfl (by decide) ⟨.int (lo + i * c), H, I1, ⟨t, rfl⟩, ⟨rfl, rfl⟩, st', fun b hb => (hf b hb).1⟩⟩
  done := by
    intro X hP hw hK hc i pins s σ H E I hf st hg
    subst hP hw hK
    obtain ⟨f0, f1, f2, f3, f4, f5⟩ := hf it (by simp)
    exact wpAny_pyNext_range_end (I.ok.hd hc) st (by have : n ≤ i := hg; omega) fun h' eb => ⟨rfl, I.turned (t' := s.toks) (fun b o hb e => eb b o hb e) f0 f1 f3 f4 f5⟩
  self := fun _ _ _ _ _ st h => wpAny_pyIter_rangeiter st h
noncomputable abbrev stepN (i j c : Int) : Nat := (Builtin.Range.rangeSize i j c).toNat
def stepOk (i j c : Int) : Prop := -(2 ^ 61) ≤ i ∧ i < 2 ^ 61 ∧ -(2 ^ 61) ≤ j ∧ j < 2 ^ 61 ∧ c ≠ 0 ∧ -(2 ^ 30) < c ∧ c < 2 ^ 30
instance {i j c : Int} : Decidable (stepOk i j c) := by unfold stepOk; infer_instance
theorem small_step {i j c : Int} (h : stepOk i j c) : Builtin.Range.small i j c = true := by
  obtain ⟨h1, h2, h3, h4, h5, h6, h7⟩ := h
  have e1 := rangeSize_toNat i j c
  have e2 := rangeSize_toNat_le i j c
  unfold Builtin.Range.small
  generalize hn : Builtin.Range.rangeSize i j c = n at *
  simp only [Builtin.Range.rangeFitsLong, Bool.and_eq_true, Bool.or_eq_true, decide_eq_true_eq, beq_iff_eq]
  refine ⟨⟨⟨⟨by omega, by omega⟩, by omega⟩, by omega⟩, .inr ?_⟩
  split <;> simp only [Bool.and_eq_true, decide_eq_true_eq] <;> omega
section
variable {X : Cx} {tg : Expr}
theorem step_it {pins : List (Addr × Obj)} {σ : L2.St} {H : Hp} {s : Shared} {R : It → Hp → Prop} {E : Value → Shared → Prop} {lo hi c : Int} {t u v : Tok} {tk : Nat} (I : Inv X pins σ H s) (hk : stepOk lo hi c)
    (q : R (Itst lo c (stepN lo hi c)) H) : wpAny (model X.prog X.w) X.A (pyIter (.ref s.heap.objs.size)) (PIE X pins σ tg R) E { s with heap := s.heap.push { cls := .type "range", data := .fields #[.int lo t, .int hi u, .int c v] }, toks := tk } := by
  refine wpAny_pyIter_range (IsRange.new ..) (small_step hk) ?_
  have I1 : Inv X pins σ H { s with heap := s.heap.push { cls := .type "range", data := .fields #[.int lo t, .int hi u, .int c v] }, toks := tk } := I.kept fun b o e => Heap.get?_push_of_some _ e
  refine ⟨_, [(s.heap.push { cls := .type "range", data := .fields #[.int lo t, .int hi u, .int c v] }).objs.size], _, _, H, rfl,
    I1.kept (t' := tk) fun b o e => Heap.get?_push_of_some _ e, turn_step _ lo c (stepN lo hi c), ?_, fun b hb => ?_, q⟩
  · have e1 : lo + ((0 : Nat) : Int) * c = lo := by simp
    have e2 : ((stepN lo hi c : Nat) : Int) - ((0 : Nat) : Int) = Builtin.Range.rangeSize lo hi c := by rw [rangeSize_toNat lo hi c]; simp [stepN]
    show IsRangeIter _ _ (lo + ((0 : Nat) : Int) * c) (((stepN lo hi c : Nat) : Int) - ((0 : Nat) : Int)) c
    rw [e1, e2]
    exact Heap.get?_push_size _ rfl
  · have e := List.mem_singleton.mp hb
    subst e
    exact I1.fpOk (Nat.le_refl _) (I1.hok.fresh (Nat.le_refl _))
def iRng3 (ta : TA) : TI := fun σ H R => ta σ H fun vs H1 => ∃ i j c : Int, vs = [.int i, .int j, .int c] ∧ stepOk i j c ∧ R (Itst i c (stepN i j c)) H1
theorem pi_range3 {a b c : Expr} {ta : TA} {p pos : Pos} (hg : Gl X "range") (hm : X.mg "range" = none) (ha : PA X [a, b, c] ta) (hs : starEach [a, b, c] X.env = (false, eval a X.env) :: starEach [b, c] X.env ) (hs2 : (backTo pos (starEach [b, c] X.env)).any (·.1) = false) :
    PI X tg (.Call (.Name "range" p) [a, b, c] [] pos) (iRng3 ta) := by
  intro pins s σ H R I h
  refine Call_ (ld_blt I hg hm boot_range (PyProof.Rows.callWith_type1 (thn (ha pos pins s σ H _ I h) fun us s1 ⟨vs, H1, I1, r1, q1⟩ => ?_) hs hs2))
  obtain ⟨i, j, c, e, hk, q⟩ := q1
  subst e
  cases r1 with
  | cons r rr =>
  cases rr with
  | cons r' rr =>
  cases rr with
  | cons r'' rr =>
  cases rr
  obtain ⟨t, rfl⟩ := r
  obtain ⟨t', rfl⟩ := r'
  obtain ⟨t'', rfl⟩ := r''
  exact call_range_3 hk.2.2.2.2.1 (step_it I1 hk q) (.inl (PyProof.noPylong_small (by have := hk.2.2.2.2.2; omega)))
end
noncomputable def fiR3 (f g h : FE) : FI := fun ρ μ => (f ρ μ).bind fun a => (g ρ a.2).bind fun b => (h ρ b.2).bind fun c => match a.1, b.1, c.1 with
  | .v (.int i), .v (.int j), .v (.int k) => if stepOk i j k then some ((List.range (stepN i j k)).map fun n => .int (i + (n : Nat) * k), c.2) else none | _, _, _ => none
theorem itst_ok {K : PySem.W.Frag} (lo c : Int) (n : Nat) : ItOk K (Itst lo c n) ((List.range n).map fun k => .int (lo + (k : Nat) * c)) (fun _ => True) where
  st := fun _ _ _ _ => trivial
  stop := fun i H _ hi => by show n ≤ i; simpa using hi
  go := fun i d H e _ => by
    have := (List.getElem?_eq_some_iff.mp e).1
    show i < n; simpa using this
  yld := fun i d H x H' e _ ⟨e1, e2⟩ => by
    have hi := (List.getElem?_eq_some_iff.mp e).1
    have hi' : i < n := by simpa using hi
    refine ⟨e1, ?_⟩
    simp [hi'] at e
    subst e e2
    simp only [RelD]
theorem rd_iR3 {K : PySem.W.Frag} {σ : L2.St} {H : Hp} {R : It → Hp → Prop} {f g i} (h : rdI K (fiR3 f g i) σ H R) : iRng3 (rdA K (fCons f (fCons g (fCons i fNil)))) σ H R := by
  obtain ⟨ρ, μ, m, xs, μ', hl, hs, e, k⟩ := h
  obtain ⟨⟨x, μ1⟩, e1, e⟩ := Option.bind_eq_some_iff.mp e
  obtain ⟨⟨y, μ2⟩, e2, e⟩ := Option.bind_eq_some_iff.mp e
  obtain ⟨⟨z, μ3⟩, e3, e⟩ := Option.bind_eq_some_iff.mp e
  refine ⟨ρ, μ, m, [x, y, z], μ3, hl, hs, by simp only at e2 e3; simp [fCons, fNil, e1, e2, e3], fun vs H1 m1 x1 s1 r1 => ?_⟩
  split at e
  · rename_i i j c q1 q2 q3
    split at e
    · rename_i zz
      cases e
      simp only at q1 q2 q3
      subst q1 q2 q3
      obtain ⟨v, r, rfl, r1, v2, r', rfl, r2, v3, r'', rfl, r3, r4⟩ := r1
      have r4 : r'' = [] := r4
      simp only [RelR, RelD] at r1 r2 r3
      subst r1 r2 r3 r4
      exact ⟨i, j, c, rfl, zz, k _ _ H1 m1 x1 s1 (itst_ok i c (stepN i j c)) trivial⟩
    · cases e
  · cases e
end HW
namespace HW
open PySem PySem.Spec PyProof.Rows L2
noncomputable def valD (kvs : List (Key × D)) (k : Key) : Option D := (kvs.find? fun kv => decide (kv.1 = k)).map (·.2)
theorem KD.val {K : PySem.W.Frag} {H : Hp} : ∀ {kvs : List (Key × D)} {es : List (Key × V)} (k : Key), KD K H kvs es → (valD kvs k = none ∧ valV es k = none) ∨ ∃ d v, valD kvs k = some d ∧ valV es k = some v ∧ RelD K H d v
  | [], es, k, h => by
    have : es = [] := by simpa using h.1
    subst this
    exact .inl ⟨rfl, rfl⟩
  | (a, d) :: kvs, [], k, h => by have := h.1; simp at this
  | (a, d) :: kvs, (b, v) :: es, k, h => by
    obtain ⟨rfl, h1, h2⟩ := KD.cons.mp h
    by_cases e : b = k
    · refine .inr ⟨d, v, ?_, ?_, h1⟩
      · simp [valD, e]
      · simp [valV, e]
    · have ih := KD.val k h2
      have e1 : valD ((b, d) :: kvs) k = valD kvs k := by simp [valD, e]
      have e2 : valV ((b, v) :: es) k = valV es k := valV_neg e
      rw [e1, e2]; exact ih
noncomputable def kvsD (x : R) (μ : Store) : Option (List (Key × D)) := match x with
  | .p n => match μ[n]? with | some (.dct kvs) => some kvs | some (.fzd kvs) => some kvs | _ => none
  | _ => none
noncomputable def fGet (fo fk fx : FE) : FE := fun ρ μ => (fo ρ μ).bind fun o => if (kvsD o.1 o.2).isSome = true then (fk ρ o.2).bind fun k => (fx ρ k.2).bind fun x => (kvsD o.1 x.2).bind fun kvs => (keyOf k.1).bind fun key => some ((match valD kvs key with | some d => .v d | none => x.1), x.2) else none
end HW
namespace HS
open PySem PySem.Spec PyProof.Rows
section
variable {prog : Program} {w : World} {A : Around} {E : Value → Shared → Prop} {h : Heap} {g : Array GenState} {d : Drawn} {t : Nat} {os : OsState} {a : Addr} {its : Array Value} {n : Nat} {sl : Array (Option Value)}
end
section
variable {prog : Program} {w : World} {A : Around} {E : Value → Shared → Prop} {s : Shared}
end
end HS
namespace HW
open PySem PySem.Spec PyProof.Rows L2 HS
noncomputable def dictQ : List R → Store → Option (R × Store)
  | [.v (.tup ds)], μ => (pairsD ds).bind fun ps => if ps.length ≤ sizeLine then some (.p μ.length, μ ++ [.dct (putAllD [] ps)]) else none
  | xs, μ => dictD xs μ
end HW
namespace HS
open PySem PySem.Spec PyProof.Rows
section
variable {prog : Program} {w : World} {A : Around} {E : Value → Shared → Prop} {s : Shared}
end
end HS
namespace HW
open PySem PySem.Spec PyProof.Rows L2 HS
noncomputable def setKs (b : Bool) : List R → Store → Option (R × Store)
  | [.p n], μ => match μ[n]? with
    | some (.dct kvs) => (intKeys (kvs.map (·.1))).bind fun ns => if ns.length < 60 then some (.s b (metOf [] ns), μ) else none
    | some (.fzd kvs) => (intKeys (kvs.map (·.1))).bind fun ns => if ns.length < 60 then some (.s b (metOf [] ns), μ) else none
    | _ => setQ b [.p n] μ
  | xs, μ => setQ b xs μ
end HW
namespace HX
open PySem
def Kp (G : Addr → Prop) (S : List Addr) (h h' : Heap) : Prop := ∀ b o, G b → h.get? b = some o → (b ∉ S → h'.get? b = some o) ∧ ∃ sl, h'.get? b = some { o with slots := sl }
noncomputable abbrev eO (C : Value) (vs : Array Value) : Obj := { cls := C, dict := none, data := .fields vs, slots := #[] }
structure Fl (G : Addr → Prop) (h : Heap) (e : Addr) (C fl : Value) : Prop where
  is : ∃ vs T ts c, ¬ G e ∧ ¬ G T ∧ T ≠ e ∧ h.get? e = some (eO C vs) ∧ vs[1]? = some (.ref T) ∧ h.get? T = some (eO c ts) ∧ ts[3]? = some fl
  all : ∀ b, G b → ∃ o, h.get? b = some o
theorem Kp.refl {G S h} : Kp G S h h := fun b o _ q => ⟨fun _ => q, o.slots, q⟩
theorem Kp.trans {G S h h1 h2} (a : Kp G S h h1) (b : Kp G S h1 h2) : Kp G S h h2 := fun c o g q => by
  obtain ⟨a1, sl, a2⟩ := a c o g q
  refine ⟨fun z => (b c o g (a1 z)).1 z, ?_⟩
  obtain ⟨_, sl', b2⟩ := b c _ g a2
  exact ⟨sl', b2⟩
theorem Kp.mono {G S S' h h'} (a : Kp G S h h') (hs : ∀ b ∈ S, b ∈ S') : Kp G S' h h' := fun b o g q => ⟨fun z => (a b o g q).1 fun y => z (hs b y), (a b o g q).2⟩
theorem Kp.but {G : Addr → Prop} {S h h'} {a : Addr} (n : ¬ G a) (k : Heap.SameBut a h h') : Kp G S h h' := fun b o g q => by
  have e : h'.get? b = some o := (k.2 b fun z => n (z ▸ g)).trans q
  exact ⟨fun _ => e, o.slots, e⟩
theorem Kp.keeps {G : Addr → Prop} {S h h'} (k : ∀ b o, h.get? b = some o → h'.get? b = some o) : Kp G S h h' := fun b o g q => ⟨fun _ => k b o q, o.slots, k b o q⟩
theorem Kp.slots {G : Addr → Prop} {S h h'} (k : Heap.SlotsOnly S h h') : Kp G S h h' := fun b o g q => ⟨fun z => (k.2.1 b z).trans q, k.2.2 b o q⟩
theorem Kp.funs {G : Addr → Prop} {S h h' base} {l : List Env} (k : Kp G S h h') (g : ∀ b ∈ l.filterMap (·.frame), G b) (f : h.FunFrames base l) : h'.FunFrames base l := by
  induction l with
  | nil => trivial
  | cons env r ih =>
    obtain ⟨h1, ⟨L, o, h2, h3, h4, h5⟩, h6⟩ := f
    obtain ⟨_, sl, z⟩ := k L o (g L (by rw [List.filterMap_cons, h2]; exact List.mem_cons_self)) h4
    exact ⟨h1, ⟨L, _, h2, h3, z, h5⟩, ih (fun b hb => g b (by rw [List.filterMap_cons, h2]; exact List.mem_cons_of_mem _ hb)) h6⟩
theorem Fl.mono {G G' : Addr → Prop} {h e C fl} (x : Fl G h e C fl) (m : ∀ b, G' b → G b) : Fl G' h e C fl := by
  obtain ⟨vs, T, ts, c, a1, a2, r⟩ := x.is
  exact ⟨⟨vs, T, ts, c, fun z => a1 (m e z), fun z => a2 (m T z), r⟩, fun b z => x.all b (m b z)⟩
section
variable {prog : Program} {w : World} {A : Around} {E : Value → Shared → Prop} {s : Shared} {G : Addr → Prop} {e : Addr} {C fl : Value} {Q : Unit → Shared → Prop}
end
end HX
namespace HW
open PySem PySem.Spec PyProof.Rows L2
abbrev clsAt (K : PySem.W.Frag) (c : Str) (C : Addr) : Prop := PySem.W.nsIn K mainGlobals c = some (some (.ref C))
section
variable {P : Program} {w : World} {H H0 H1 : Hp} {h h0 h1 h2 : Heap} {a : Addr} {o : HO} {fs fs' S : List Addr} {G : Addr → Prop}
end
section
variable {P : Program} {w : World} {K : PySem.W.Frag} {mg : Str → Option Value} {base : Heap} {N : List Str} {qual : Str} {scope : Scope} {f : Addr} {cd : Value} {A : Around} {outer : List Env} {s0 : Shared} {H0 : Hp} {E : XK}
end
end HW
namespace HW
open PySem PySem.Spec PyProof.Rows L2
structure ClsX (K : PySem.W.Frag) (D : Addr) : Prop where
  dc : PySem.W.hasDictIn K D = true
  ga : PySem.W.findIn K (.ref D) "__getattribute__" = some (some (.builtin "BaseException.__getattribute__"))
  gn : PySem.W.findIn K (.ref D) "__getattr__" = some none
  fi : PySem.W.findIn K (.ref D) "__class__" = some (some (.builtin "object.__class__"))
  mr : PySem.W.mroIn K D (.type "object") = some true
  mb : PySem.W.mroIn K D (.type "BaseException") = some true
  gt : PySem.W.specialIn K (.builtin "object.__class__") "__get__" = some (some (.builtin "getset_descriptor.__get__"))
  tk : PySem.W.takesIn K (.builtin "object.__class__") = some true
noncomputable def isiX (tbl : Str → Option Bool) : R → Store → Option (R × Store)
  | .x c, μ => (tbl c).bind fun b => some (.v (.bl b), μ)
  | _, _ => none
theorem class_exc {K : PySem.W.Frag} {prog : Program} {w : World} {A : Around} {E : Value → Shared → Prop} {Q : Option Value → Shared → Prop} {s : Shared} {x D : Addr} {ox : Obj} (O : ClsX K D) (X : K.In s.heap) (I : PySem.W.InstAt s.heap x ox D none) (k : Q (some (.ref D)) { s with toks := s.toks + 1 }) :
    wpAny (model prog w) A (getAttr? (.ref x) "__class__") Q E s := by
  obtain ⟨h, g, d, t, os⟩ := s
  have L0 := I.type (M := model prog w)
  have LG := PySem.W.looks_findIn (M := model prog w) X O.ga
  have LA := PySem.W.looks_findIn (M := model prog w) X O.gn
  have LC := PySem.W.looks_findIn (M := model prog w) X O.fi
  have LB := PySem.W.looks_mroIn (M := model prog w) X O.mb
  have f3 := F.attr_ValueError.ga.bind (.ref x)
  unfold getAttr?; unfold getAttrBy?; unfold getAttrBy
  refine wpAny_bind (wpAny_mkText (wpAny_bind (wpAny_attempt (wpAny_holding (wpAny_bind (L0.at (wpAny_bind (LG.at ?_))))))))
  show wpAny _ _ (if (onTheHeap (.ref D) && (Value.builtin "BaseException.__getattribute__" == Value.builtin "object.__getattribute__")) = true then _ else _) _ _ _
  rw [if_neg (show ¬ (onTheHeap (.ref D) && (Value.builtin "BaseException.__getattribute__" == Value.builtin "object.__getattribute__")) = true by rw [show (Value.builtin "BaseException.__getattribute__" == Value.builtin "object.__getattribute__") = false by decide +kernel]; simp)]
  unfold getAttrByItsOwn; unfold hookBefore; rw [if_pos (show onTheHeap (.ref D) = true from rfl)]
  refine wpAny_bind (LA.at ?_)
  repeat (any_goals (first | assumption | wp_step))
  refine codeAny_call_builtin F.attr_ValueError.ga.plain F.entry_bexc_ga ?_
  have hk : builtinKind "BaseException.__getattribute__" = some .slot := (by decide +kernel)
  have hp : splitId "BaseException.__getattribute__" = some ("BaseException", "__getattribute__") := (by decide +kernel)
  have ha := F.args_bexc_ga (.ref x) (.str "__class__" t)
  have LI : PySem.W.Looks (model prog w) h (isInstance (.ref x) (.type "BaseException")) true := L0.andThen LB
  obtain ⟨cd, hcd, _⟩ := PySem.W.any_some O.dc
  have hf : PySem.W.findObj K D none "__class__" = some (.bind (.builtin "getset_descriptor.__get__") (.builtin "object.__class__")) := by
    unfold PySem.W.findObj
    rw [hcd, Option.bind_some, O.fi, Option.bind_some]; simp [O.gt, O.tk]
  have LF := PySem.W.looks_find (M := model prog w) X I hf
  have hx := I.at_
  have hc := I.cls
  simp only [checkBuiltinCall, hk, hp]
  refine wpAny_bind (LI.at ?_)
  repeat (any_goals (first | assumption | (with_reducible refine wpAny_loadPart_at hx ?_; rw [hc]) | with_reducible refine wpAny_bind (LF.at ?_) | wp_step))
  exact PySem.W.class_get (s := ⟨h, g, d, t + 1, os⟩) X I O.mr (wpAny_pure (PySem.W.handed_on rfl (wpAny_pure k)))
theorem kitx_exc {K : PySem.W.Frag} {x D : Addr} {vs : Array Value} (O : ClsX K D) : PySem.W.KitX K (.ref x) (.ref D) (fun h => h.get? x = some (HX.eO (.ref D) vs)) := by
  have inst : ∀ h : Heap, h.get? x = some (HX.eO (.ref D) vs) → PySem.W.InstAt h x (HX.eO (.ref D) vs) D none := fun h e => ⟨e, rfl, rfl, trivial⟩
  obtain ⟨cd, hcd, _⟩ := PySem.W.any_some O.dc
  refine ⟨fun M h X e => (inst h e).type, fun M h X e => ?_, fun h tp dd its n sl X htp => ?_, fun {prog w A E Q s} X e k => ?_⟩
  · unfold PySem.W.clsIn at hcd
    split at hcd
    · rename_i ho
      intro A' Q' E' s' kk q
      unfold isType loadHead; exact wpAny_bind (wpAny_loadPart (kk _ _ (X _ _ ho)) (wpAny_pure q))
    · cases hcd
  · refine Bool.eq_false_iff.mpr fun q => ?_
    have ee : D = tp := Value.ref.inj (beq_iff_eq.mp q)
    subst ee
    unfold PySem.W.clsIn at hcd
    split at hcd
    · rename_i ho
      have z := (X _ _ ho).symm.trans htp; cases z
    · cases hcd
  · exact class_exc O X (inst _ e) k
def rIsx (K : PySem.W.Frag) (tbl : Str → Option Bool) (v : V) : List V → Hp → VK → Prop := fun vs H Q => ∃ m c b x, vs = [x, v] ∧ RelR K m H (.x c) x ∧ tbl c = some b ∧ Q (.bl b) H
def rIsxt (K : PySem.W.Frag) (tbl : Str → Option Bool) (ws : List V) : List V → Hp → VK → Prop := fun vs H Q => ∃ m c b x p, vs = [x, .ref p] ∧ SqT K H p ws ∧ RelR K m H (.x c) x ∧ tbl c = some b ∧ Q (.bl b) H
theorem call_isx {X : Cx} {tbl : Str → Option Bool} {v : V} {u : Value} (hv : RelV v u) (hu : ∀ u', RelV v u' → u' = u) (hO : ∀ c C b, tbl c = some b → clsAt X.K c C → ClsX X.K C ∧ PySem.W.kitOne X.K (.ref C) u = some b) : CallR X (.builtin "isinstance") (rIsx X.K tbl v) := by
  intro pins s σ H vs us Q I rv q
  obtain ⟨m, c, b, x, rfl, rx, e, q⟩ := q
  obtain ⟨a, ws, C, rfl, hH, hc⟩ := rx
  cases rv with
  | cons r1 rr =>
    cases rr with
    | cons r2 rr =>
      cases rr
      cases r1
      have := hu _ r2
      subst this
      obtain ⟨O, kt⟩ := hO c C b e hc
      exact PySem.W.kia_one (kitx_exc O) I.kIn (I.hok a _ hH).1 kt (fun z => nomatch z) fun tk => ⟨.bl b, H, I.tok tk, rfl, q⟩
theorem call_isxt {X : Cx} {tbl : Str → Option Bool} {ws : List V} {us' : List Value} (hu : ∀ us, Vals ws us → us = us') (hO : ∀ c C b, tbl c = some b → clsAt X.K c C → ClsX X.K C ∧ PySem.W.kitAny X.K (.ref C) us' = some b) : CallR X (.builtin "isinstance") (rIsxt X.K tbl ws) := by
  intro pins s σ H vs us Q I rv q
  obtain ⟨m, c, b, x, p, rfl, hT, rx, e, q⟩ := q
  obtain ⟨a, vs', C, rfl, hH, hc⟩ := rx
  cases rv with
  | cons r1 rr =>
    cases rr with
    | cons r2 rr =>
      cases rr
      cases r1
      cases r2
      obtain ⟨O, kt⟩ := hO c C b e hc
      obtain ⟨its, ri, ⟨⟨o, h1, h2, n, h3⟩, h4⟩, _⟩ := I.tupleD hT
      have := hu _ ri
      subst this
      have ho : o = ⟨.type "tuple", none, .seq its.toArray n, o.slots⟩ := by
        have h5 := h4 o h1
        obtain ⟨oc, od, oda, osl⟩ := o
        simp only at h2 h3 h5
        subst h2 h3 h5
        rfl
      rw [ho] at h1
      exact PySem.W.kia_tup (kitx_exc O) I.kIn (I.hok a _ hH).1 h1 kt (fun z => nomatch z) fun tk => ⟨.bl b, H, I.tok tk, rfl, q⟩
noncomputable def tCs : List V → TA
  | [] => tNil
  | v :: r => tCons (tC v) (tCs r)
theorem tCs_ok {σ : L2.St} {H : Hp} : ∀ {vs : List V} {Q : List V → Hp → Prop}, Q vs H → tCs vs σ H Q
  | [], _, h => h
  | v :: r, Q, h => tCs_ok (vs := r) (Q := fun xs H2 => Q (v :: xs) H2) h
section
variable {K : PySem.W.Frag} {σ : L2.St} {H : Hp} {Q : VK} {fa : FE} {tbl : Str → Option Bool}
theorem rd_isx {v : V} (h : rdE K (fUn (isiX tbl) fa) σ H Q) : tCB (rIsx K tbl v) (tCons (rdE K fa) (tCons (tC v) tNil)) σ H Q := by
  obtain ⟨ρ, μ, m, d, μ', hl, hs, e, k⟩ := h
  obtain ⟨⟨x, μ1⟩, e1, e⟩ := Option.bind_eq_some_iff.mp e
  cases x with
  | x c =>
    obtain ⟨b, e2, e⟩ := Option.bind_eq_some_iff.mp e
    cases e
    exact ⟨ρ, μ, m, .x c, _, hl, hs, e1, fun v' H1 m1 x1 s1 r1 => ⟨m1, c, b, v', rfl, r1, e2, k _ H1 m1 x1 s1 (by simp only [RelR, RelD])⟩⟩
  | v _ => cases e
  | p _ => cases e
  | s _ _ => cases e
theorem rd_isxt {ws : List V} (hw : ws.length ≤ sizeLine) (h : rdE K (fUn (isiX tbl) fa) σ H Q) : tCB (rIsxt K tbl ws) (tCons (rdE K fa) (tCons (tTup (tCs ws)) tNil)) σ H Q := by
  obtain ⟨ρ, μ, m, d, μ', hl, hs, e, k⟩ := h
  obtain ⟨⟨x, μ1⟩, e1, e⟩ := Option.bind_eq_some_iff.mp e
  cases x with
  | x c =>
    obtain ⟨b, e2, e⟩ := Option.bind_eq_some_iff.mp e
    cases e
    refine ⟨ρ, μ, m, .x c, _, hl, hs, e1, fun v' H1 m1 x1 s1 r1 => ?_⟩
    refine tCs_ok ⟨hw, fun p hp => ?_⟩
    have x2 : Ext m1 H1 m1 (upd H1 p (.tup ws)) := .new hp
    exact ⟨m1, c, b, v', p, rfl, .inl (.inl upd_at), r1.ext x2, e2, k _ _ m1 (x1.trans x2) (s1.same (upd_keeps hp)) (by simp only [RelR, RelD])⟩
  | v _ => cases e
  | p _ => cases e
  | s _ _ => cases e
end
end HW
namespace HW
open PySem PySem.Spec PyProof.Rows L2
section
variable {X : Cx} {pins : List (Addr × Obj)} {σ : L2.St} {H : Hp} {s : Shared} {ea : Addr}
end
end HW
namespace HW
open PySem L2
section
variable {K : PySem.W.Frag} {mg : Str → Option Value} {a : Str} {q CH : Addr} {b : Bool} {l : List (Str × Bool)} {cs : List Str} {u : Value} {us : List Value}
theorem clsAt.fn {c : Str} {C C' : Addr} (h : clsAt K c C) (h' : clsAt K c C') : C = C' := by
  have := h.symm.trans h'
  cases this; rfl
end
end HW
namespace HS
open PySem PyProof.Rows
def Srt (xs : Array Keyed) (lo hi : Nat) : Prop := ∀ i j, lo ≤ i → i ≤ j → j < hi → K xs i ≤ K xs j
def Dsc (xs : Array Keyed) (lo hi : Nat) : Prop := ∀ i j, lo ≤ i → i ≤ j → j < hi → K xs j ≤ K xs i
def Out (lo hi : Nat) (xs ys : Array Keyed) : Prop := ∀ k, ¬ (lo ≤ k ∧ k < hi) → ys[k]? = xs[k]?
theorem Out.rfl' {lo hi : Nat} {xs : Array Keyed} : Out lo hi xs xs := fun _ _ => rfl
theorem Out.tr {lo hi : Nat} {xs ys zs : Array Keyed} (h : Out lo hi xs ys) (g : Out lo hi ys zs) : Out lo hi xs zs := fun k hk => (g k hk).trans (h k hk)
theorem Out.wide {lo hi lo' hi' : Nat} {xs ys : Array Keyed} (h : Out lo hi xs ys) (h1 : lo' ≤ lo) (h2 : hi ≤ hi') : Out lo' hi' xs ys := fun k hk => h k (by omega)
theorem mir_out {xs : Array Keyed} {i j lo hi : Nat} (hj : j ≤ xs.size) (h1 : lo ≤ i) (h2 : j ≤ hi) : Out lo hi xs (mirror xs i j ((j - i) / 2)) := fun k hk => by
  rw [getElem?_mirror_all hj, if_neg (by omega)]
structure SB (a₀ : Array Keyed) (st : SortSt) : Prop where
  perm : (arrOf st).Perm a₀
  kind : kindOf st = oneType'
  ok : failedOf st = none
theorem SB.sz {a₀ : Array Keyed} {st : SortSt} (h : SB a₀ st) : (arrOf st).size = a₀.size := h.perm.size_eq
theorem SB.at_ {a₀ : Array Keyed} {st : SortSt} (h : SB a₀ st) (h0 : IntKeys a₀) {i : Nat} (hi : i < a₀.size) : ∃ t q, (arrOf st)[i]? = some (.int (K (arrOf st) i) t, q) := by
  have hi' : i < (arrOf st).size := by rw [h.sz]; exact hi
  have mem : (arrOf st)[i] ∈ a₀.toList := (Array.perm_iff_toList_perm.mp h.perm).mem_iff.mp (by simp)
  obtain ⟨n, t, en⟩ := h0 _ mem
  have e1 : (arrOf st)[i]? = some (arrOf st)[i] := getElem?_pos _ i hi'
  have e2 : (arrOf st)[i] = (.int n t, (arrOf st)[i].2) := Prod.ext en rfl
  exact ⟨t, (arrOf st)[i].2, by unfold K; rw [e1, e2]; rfl⟩
structure Stp (a₀ : Array Keyed) (lo hi : Nat) (st st' : SortSt) : Prop where
  b : SB a₀ st'
  pend : pendingOf st' = pendingOf st
  out : Out lo hi (arrOf st) (arrOf st')
theorem Stp.re {a₀ : Array Keyed} {lo hi : Nat} {st : SortSt} (h : SB a₀ st) : Stp a₀ lo hi st st := ⟨h, rfl, .rfl'⟩
theorem Stp.set {a₀ : Array Keyed} {lo hi : Nat} {st st' : SortSt} (h : Stp a₀ lo hi st st') {xs : Array Keyed} (hp : xs.Perm (arrOf st')) (ho : Out lo hi (arrOf st') xs) : Stp a₀ lo hi st (setArr st' xs) :=
  ⟨⟨hp.trans h.b.perm, h.b.kind, h.b.ok⟩, h.pend, h.out.tr ho⟩
theorem Stp.tr {a₀ : Array Keyed} {lo hi : Nat} {st st' st'' : SortSt} (h : Stp a₀ lo hi st st') (g : Stp a₀ lo hi st' st'') : Stp a₀ lo hi st st'' := ⟨g.b, g.pend.trans h.pend, h.out.tr g.out⟩
section
variable {prog : Program} {w : World} {A : Around} {E : Value → Shared → Prop} {s : Shared} {a₀ : Array Keyed}
theorem ltG {st : SortSt} {i j : Nat} {Q : Option Bool → SortSt → Prop} (hB : SB a₀ st) (h0 : IntKeys a₀) (hi : i < a₀.size) (hj : j < a₀.size)
    (h : Q (some (decide (K (arrOf st) i < K (arrOf st) j))) st) : wpS (model prog w) A E s (ltAt' i j) Q st := by
  obtain ⟨t, p, e1⟩ := hB.at_ h0 hi
  obtain ⟨u, q, e2⟩ := hB.at_ h0 hj
  exact wpS_ltAt hB.kind e1 e2 h
noncomputable def ascF (lo : Nat) : Nat → (Option (Option Nat) × Nat) → StateT SortSt Sem (ForInStep (Option (Option Nat) × Nat)) := fun _ c => do
  let x ← ltAt' (lo + c.2) (lo + c.2 - 1)
  match x with
  | some smaller => if smaller = true then pure (.done (none, c.2)) else pure (.yield (none, c.2 + 1))
  | _ => pure (.done (some none, c.2))
theorem ascG {st : SortSt} {lo a nrem : Nat} {Q : (Option (Option Nat) × Nat) → SortSt → Prop} (h0 : IntKeys a₀) (hn : lo + nrem ≤ a₀.size) (ha : 1 ≤ a) (han : a ≤ nrem) (hB : SB a₀ st) (hs : Srt (arrOf st) lo (lo + a))
    (h : ∀ n, a ≤ n → n ≤ nrem → Srt (arrOf st) lo (lo + n) → (n = nrem ∨ K (arrOf st) (lo + n) < K (arrOf st) (lo + n - 1)) → Q (none, n) st) :
    wpS (model prog w) A E s (forIn [a:nrem] (none, a) (ascF lo)) Q st := by
  refine wpS_forRange (I := fun x c st' => st' = st ∧ c = (none, x) ∧ Srt (arrOf st) lo (lo + x)) ?one ?two ⟨rfl, rfl, hs⟩
  case two =>
    rintro c st' ⟨rfl, rfl, hs'⟩
    have e : max a nrem = nrem := by omega
    rw [e] at hs' ⊢
    exact h nrem han (Nat.le_refl _) hs' (.inl rfl)
  case one =>
    rintro x c st' hax hxn ⟨rfl, rfl, hs'⟩
    unfold ascF
    refine wpS_bind (ltG hB h0 (by omega) (by omega) ?_)
    by_cases hl : K (arrOf st') (lo + x) < K (arrOf st') (lo + x - 1)
    · simp only [hl, decide_true, if_true]
      exact wpS_pure (h x hax (by omega) hs' (.inr hl))
    · simp only [hl, decide_false, Bool.false_eq_true, if_false]
      refine wpS_pure ⟨rfl, rfl, fun i j hi hij hj => ?_⟩
      by_cases hjx : j < lo + x
      · exact hs' i j hi hij hjx
      · have ej : j = lo + x := by omega
        subst ej
        by_cases ei : i = lo + x
        · subst ei; exact Int.le_refl _
        · exact Int.le_trans (hs' i (lo + x - 1) hi (by omega) (by omega)) (Int.not_lt.mp hl)
theorem revG {st : SortSt} {i j : Nat} {Q : Unit → SortSt → Prop} (h : Q () (setArr st (mirror (arrOf st) i j ((j - i) / 2)))) : wpS (model prog w) A E s (reverseSlice' i j) Q st := by
  rw [reverseSlice'_eq]; exact wpS_modify h
noncomputable def dscF (lo : Nat) : Nat → (Option (Option Nat) × Nat × Nat) → StateT SortSt Sem (ForInStep (Option (Option Nat) × Nat × Nat)) := fun _ c => do
  let x ← ltAt' (lo + c.2.1) (lo + c.2.1 - 1)
  match x with
  | some smaller =>
    if smaller = true then
      if c.2.2 > 0 then do
        let _ ← reverseSlice' (lo + c.2.1 - (c.2.2 + 1)) (lo + c.2.1)
        pure (.yield (none, c.2.1 + 1, 0))
      else pure (.yield (none, c.2.1 + 1, 0))
    else do
      let x ← ltAt' (lo + c.2.1 - 1) (lo + c.2.1)
      match x with
      | some larger => if larger = true then pure (.done (none, c.2.1, c.2.2)) else pure (.yield (none, c.2.1 + 1, c.2.2 + 1))
      | _ => pure (.done (some none, c.2.1, c.2.2))
  | _ => pure (.done (some none, c.2.1, c.2.2))
theorem K_same {xs : Array Keyed} {i j : Nat} (hj : j ≤ xs.size) (heq : ∀ k, i ≤ k → k < j → K xs k = K xs (j - 1)) (k : Nat) : K (mirror xs i j ((j - i) / 2)) k = K xs k := K_mirror_equal hj heq k
theorem dscG {st : SortSt} {lo n nrem : Nat} {Q : (Option (Option Nat) × Nat × Nat) → SortSt → Prop} (h0 : IntKeys a₀) (hn : lo + nrem ≤ a₀.size) (h1 : 1 ≤ n) (hnn : n ≤ nrem) (hB : SB a₀ st) (hs : Dsc (arrOf st) lo (lo + n))
    (h : ∀ m q st', Stp a₀ lo (lo + nrem) st st' → n ≤ m → m ≤ nrem → Dsc (arrOf st') lo (lo + m) → q + 1 ≤ m → (∀ i, lo + m - (q + 1) ≤ i → i < lo + m → K (arrOf st') i = K (arrOf st') (lo + m - 1)) → Q (none, m, q) st') :
    wpS (model prog w) A E s (forIn [n:nrem] (none, n, 0) (dscF lo)) Q st := by
  refine wpS_forRange (I := fun x c st' => ∃ q, c = (none, x, q) ∧ Stp a₀ lo (lo + nrem) st st' ∧ Dsc (arrOf st') lo (lo + x) ∧ q + 1 ≤ x ∧ ∀ i, lo + x - (q + 1) ≤ i → i < lo + x → K (arrOf st') i = K (arrOf st') (lo + x - 1)) ?one ?two
    ⟨0, rfl, .re hB, hs, by omega, fun i a b => by congr 1; omega⟩
  case two =>
    rintro c st' ⟨q, rfl, hS, hs', hq, he⟩
    have e : max n nrem = nrem := by omega
    rw [e] at hs' hq he ⊢
    exact h nrem q st' hS hnn (Nat.le_refl _) hs' hq he
  case one =>
    rintro x c st' hax hxn ⟨q, rfl, hS, hs', hq, he⟩
    unfold dscF
    dsimp only
    have hsz : lo + x ≤ (arrOf st').size := by rw [hS.b.sz]; omega
    refine wpS_bind (ltG hS.b h0 (by omega) (by omega) ?_)
    by_cases hl : K (arrOf st') (lo + x) < K (arrOf st') (lo + x - 1)
    · simp only [hl, decide_true, if_true]
      have nx : ∀ xs : Array Keyed, (∀ k, K xs k = K (arrOf st') k) → Dsc xs lo (lo + (x + 1)) := by
        intro xs hk i j hi hij hj
        rw [hk, hk]
        by_cases hjx : j < lo + x
        · exact hs' i j hi hij hjx
        · have ej : j = lo + x := by omega
          subst ej
          by_cases ei : i = lo + x
          · subst ei; exact Int.le_refl _
          · exact Int.le_trans (Int.le_of_lt hl) (hs' i (lo + x - 1) hi (by omega) (by omega))
      by_cases hq0 : q > 0
      · rw [if_pos hq0]
        exact wpS_bind (revG (wpS_pure ⟨0, rfl, hS.set (mirror_perm _ _ _ _) (mir_out hsz (by omega) (by omega)), nx _ (K_same hsz he), by omega, fun i a b => by congr 1; omega⟩))
      · rw [if_neg hq0]
        exact wpS_pure ⟨0, rfl, hS, nx _ (fun _ => rfl), by omega, fun i a b => by congr 1; omega⟩
    · simp only [hl, decide_false, Bool.false_eq_true, if_false]
      refine wpS_bind (ltG hS.b h0 (by omega) (by omega) ?_)
      by_cases hg : K (arrOf st') (lo + x - 1) < K (arrOf st') (lo + x)
      · simp only [hg, decide_true, if_true]
        exact wpS_pure (h x q st' hS hax (by omega) hs' hq he)
      · simp only [hg, decide_false, Bool.false_eq_true, if_false]
        have hx : K (arrOf st') (lo + x) = K (arrOf st') (lo + x - 1) := by omega
        refine wpS_pure ⟨q + 1, rfl, hS, fun i j hi hij hj => ?_, by omega, fun i a b => ?_⟩
        · by_cases hjx : j < lo + x
          · exact hs' i j hi hij hjx
          · have ej : j = lo + x := by omega
            subst ej
            by_cases ei : i = lo + x
            · subst ei; exact Int.le_refl _
            · rw [hx]; exact hs' i (lo + x - 1) hi (by omega) (by omega)
        · have e : lo + (x + 1) - 1 = lo + x := by omega
          rw [e]
          by_cases hix : i = lo + x
          · subst hix; rfl
          · rw [hx]; exact he i (by omega) (by omega)
theorem endG {st : SortSt} {lo n nrem : Nat} {Q : Option Nat → SortSt → Prop} {k : Option (Option Nat) × Nat → StateT SortSt Sem (Option Nat)} (h0 : IntKeys a₀) (hn : lo + nrem ≤ a₀.size) (h1 : 1 ≤ n) (hnn : n ≤ nrem) (hB : SB a₀ st) (hs : Dsc (arrOf st) lo (lo + n)) (hk : ∀ m, k (none, m) = pure (some m))
    (h : ∀ m st', Stp a₀ lo (lo + nrem) st st' → 1 ≤ m → m ≤ nrem → Srt (arrOf st') lo (lo + m) → Q (some m) st') :
    wpS (model prog w) A E s (do
      reverseSlice' lo (lo + n)
      let c ← forIn [n:nrem] (none, n) (ascF lo)
      k c) Q st := by
  have hsz : lo + n ≤ (arrOf st).size := by rw [hB.sz]; omega
  refine wpS_bind (revG ?_)
  have hS : Stp a₀ lo (lo + nrem) st (setArr st (mirror (arrOf st) lo (lo + n) ((lo + n - lo) / 2))) := (Stp.re hB).set (mirror_perm _ _ _ _) (mir_out hsz (by omega) (by omega))
  refine wpS_bind (ascG h0 hn h1 hnn hS.b ?_ fun m a b c _ => by rw [hk]; exact wpS_pure (h m _ hS (by omega) b c))
  intro i j hi hij hj
  show K (mirror (arrOf st) lo (lo + n) ((lo + n - lo) / 2)) i ≤ K (mirror (arrOf st) lo (lo + n) ((lo + n - lo) / 2)) j
  rw [K_mirror hsz, K_mirror hsz, if_pos (by omega), if_pos (by omega)]
  exact hs _ _ (by omega) (by omega) (by omega)
theorem dscPG {st : SortSt} {lo n nrem : Nat} {Q : Option Nat → SortSt → Prop} {f : Option (Option Nat) × Nat × Nat → StateT SortSt Sem (Option Nat)} {g : Nat → StateT SortSt Sem (Option Nat)} {k : Option (Option Nat) × Nat → StateT SortSt Sem (Option Nat)} (h0 : IntKeys a₀) (hn : lo + nrem ≤ a₀.size) (hnn : n + 1 ≤ nrem) (hB : SB a₀ st) (hs : Dsc (arrOf st) lo (lo + (n + 1)))
    (h : ∀ m st', Stp a₀ lo (lo + nrem) st st' → 1 ≤ m → m ≤ nrem → Srt (arrOf st') lo (lo + m) → Q (some m) st')
    (hf : ∀ m q, f (none, m, q) = if q > 0 then (do let _ ← reverseSlice' (lo + m - (q + 1)) (lo + m); g m) else g m) (hg : ∀ m, g m = (do
      reverseSlice' lo (lo + m)
      let c ← forIn [m:nrem] (none, m) (ascF lo)
      k c)) (hk : ∀ m, k (none, m) = pure (some m)) :
    wpS (model prog w) A E s (do
      liftM (rule "list.sort.descending-run")
      let c ← forIn [n + 1:nrem] (none, n + 1, 0) (dscF lo)
      f c) Q st := by
  refine wpS_bind (wpS_lift (wpAny_rule ⟨rfl, ?_⟩))
  refine wpS_bind (dscG h0 hn (by omega) hnn hB hs fun m q st' hS a b hs' hq he => ?_)
  rw [hf]
  have hsz : lo + m ≤ (arrOf st').size := by rw [hS.b.sz]; omega
  by_cases hq0 : q > 0
  · rw [if_pos hq0]
    have hS2 := hS.set (mirror_perm (arrOf st') (lo + m - (q + 1)) (lo + m) ((lo + m - (lo + m - (q + 1))) / 2)) (mir_out hsz (by omega) (by omega))
    refine wpS_bind (revG ?_)
    rw [hg]
    refine endG h0 hn (by omega) b hS2.b ?_ hk fun m' st2 hS3 x y z => h m' st2 (hS2.tr hS3) x y z
    intro i j hi hij hj
    show K (mirror (arrOf st') _ _ _) j ≤ K (mirror (arrOf st') _ _ _) i
    rw [K_same hsz he, K_same hsz he]
    exact hs' i j hi hij hj
  · rw [if_neg hq0, hg]
    exact endG h0 hn (by omega) b hS.b hs' hk fun m' st2 hS3 x y z => h m' st2 (hS.tr hS3) x y z
theorem countG {st : SortSt} {lo nrem : Nat} {Q : Option Nat → SortSt → Prop} (h0 : IntKeys a₀) (hn : lo + nrem ≤ a₀.size) (h1 : 1 ≤ nrem) (hB : SB a₀ st)
    (h : ∀ m st', Stp a₀ lo (lo + nrem) st st' → 1 ≤ m → m ≤ nrem → Srt (arrOf st') lo (lo + m) → Q (some m) st') :
    wpS (model prog w) A E s (countRun' lo nrem) Q st := by
  rw [countRun'_eq]
  dsimp only
  refine wpS_bind (ascG h0 hn (Nat.le_refl 1) h1 hB (fun i j hi hij hj => by have : i = j := by omega
                                                                             subst this; exact Int.le_refl _) fun n a b hsn hor => ?_)
  dsimp only
  by_cases hnn : n = nrem
  · rw [if_pos (by simpa using hnn)]
    exact wpS_pure (h n st (.re hB) a b hsn)
  · rw [if_neg (by simpa using hnn)]
    have hlt : K (arrOf st) (lo + n) < K (arrOf st) (lo + n - 1) := hor.resolve_left hnn
    by_cases hgt : n > 1
    · rw [if_pos hgt]
      refine wpS_bind (ltG hB h0 (by omega) (by omega) ?_)
      by_cases hr : K (arrOf st) lo < K (arrOf st) (lo + n - 1)
      · simp only [hr, decide_true, if_true]
        exact wpS_pure (h n st (.re hB) a b hsn)
      · simp only [hr, decide_false, Bool.false_eq_true, if_false]
        have hsz : lo + n ≤ (arrOf st).size := by rw [hB.sz]; omega
        have hall : ∀ k, lo ≤ k → k < lo + n → K (arrOf st) k = K (arrOf st) (lo + n - 1) := by
          intro k hk1 hk2
          have a1 := hsn lo k (Nat.le_refl _) hk1 hk2
          have a2 := hsn k (lo + n - 1) hk1 (by omega) (by omega)
          omega
        have hS := (Stp.re (lo := lo) (hi := lo + nrem) hB).set (mirror_perm (arrOf st) lo (lo + n) ((lo + n - lo) / 2)) (mir_out hsz (by omega) (by omega))
        refine wpS_bind (revG ?_)
        refine dscPG (n := n) h0 hn (by omega) hS.b ?_ (fun m st2 hS2 x y z => h m st2 (hS.tr hS2) x y z) (fun _ _ => rfl) (fun _ => rfl) (fun _ => rfl)
        intro i j hi hij hj
        show K (mirror (arrOf st) _ _ _) j ≤ K (mirror (arrOf st) _ _ _) i
        rw [K_same hsz hall, K_same hsz hall]
        by_cases hjn : j < lo + n
        · rw [hall i hi (by omega), hall j (by omega) hjn]; exact Int.le_refl _
        · have ej : j = lo + n := by omega
          subst ej
          by_cases ei : i = lo + n
          · subst ei; exact Int.le_refl _
          · rw [hall i hi (by omega)]; exact Int.le_of_lt hlt
    · rw [if_neg hgt]
      have e1 : n = 1 := by omega
      subst e1
      refine dscPG (n := 1) h0 hn (by omega) hB ?_ h (fun _ _ => rfl) (fun _ => rfl) (fun _ => rfl)
      intro i j hi hij hj
      by_cases ei : i = j
      · subst ei; exact Int.le_refl _
      · have ei' : i = lo := by omega
        have ej : j = lo + 1 := by omega
        subst ei'; subst ej
        exact Int.le_of_lt hlt
end
end HS
namespace HS
open PySem PyProof.Rows
section
variable {prog : Program} {w : World} {A : Around} {E : Value → Shared → Prop} {s : Shared} {a₀ : Array Keyed}
theorem bub_out {xs : Array Keyed} {src d lo hi : Nat} (hs : src < xs.size) (hd : d ≤ src) (h1 : lo + d ≤ src) (h2 : src < hi) : Out lo hi xs (bubble xs src d) := fun k hk => by
  rw [getElem?_bubble hs d hd, if_neg (by omega), if_neg (by omega)]
theorem binG {st : SortSt} {lo n r : Nat} {Q : Bool → SortSt → Prop} (h0 : IntKeys a₀) (hn : lo + n ≤ a₀.size) (hr : r ≤ n) (hB : SB a₀ st) (hs : Srt (arrOf st) lo (lo + r))
    (h : ∀ st', Stp a₀ lo (lo + n) st st' → Srt (arrOf st') lo (lo + n) → Q true st') : wpS (model prog w) A E s (binarySort' lo n r) Q st := by
  rw [binarySort'_eq]
  refine wpS_bind (wpS_mono (wpS_forRange (I := fun k c st' => c = (none, ()) ∧ Stp a₀ lo (lo + n) st st' ∧ Srt (arrOf st') lo (lo + min k n))
    (Q := fun c st' => c = (none, ()) ∧ Stp a₀ lo (lo + n) st st' ∧ Srt (arrOf st') lo (lo + n)) ?one ?two ?zero) ?end_)
  case end_ =>
    rintro c st' ⟨rfl, hS, hs'⟩
    exact wpS_pure (h st' hS hs')
  case zero =>
    refine ⟨rfl, .re hB, fun i j hi hij hj => ?_⟩
    by_cases hz : r = 0
    · have : i = j := by omega
      subst this; exact Int.le_refl _
    · exact hs i j hi hij (by omega)
  case two =>
    rintro c st' ⟨hc, hS, hs'⟩
    refine ⟨hc, hS, ?_⟩
    have e : min (max (max r 1) n) n = n := by omega
    rwa [e] at hs'
  case one =>
    rintro k c st' hak hkn ⟨rfl, hS, hs'⟩
    have e : min k n = k := by omega
    rw [e] at hs'
    have hk : lo + k < a₀.size := by omega
    refine wpS_bind (wpS_mono (wpS_forRange (I := fun x c st2 => st2 = st' ∧ ∃ l u, c = (none, l, u) ∧ l ≤ u ∧ u ≤ k ∧ u - l ≤ k - x ∧ (∀ i, i < l → K (arrOf st') (lo + i) ≤ K (arrOf st') (lo + k)) ∧ ∀ i, u ≤ i → i < k → K (arrOf st') (lo + k) < K (arrOf st') (lo + i))
      (Q := fun c st2 => st2 = st' ∧ ∃ l u, c = (none, l, u) ∧ l ≤ k ∧ (∀ i, i < l → K (arrOf st') (lo + i) ≤ K (arrOf st') (lo + k)) ∧ ∀ i, l ≤ i → i < k → K (arrOf st') (lo + k) < K (arrOf st') (lo + i)) ?jone ?jtwo ?jzero) ?jend)
    case jzero => exact ⟨rfl, 0, k, rfl, by omega, by omega, by omega, fun i hi => by omega, fun i a b => by omega⟩
    case jtwo =>
      rintro c st2 ⟨rfl, l, u, rfl, hlu, huk, hm, hlo, hhi⟩
      have : l = u := by omega
      subst this
      exact ⟨rfl, l, l, rfl, huk, hlo, hhi⟩
    case jone =>
      rintro x c st2 _ hxk ⟨rfl, l, u, rfl, hlu, huk, hm, hlo, hhi⟩
      dsimp only
      by_cases hge : l ≥ u
      · rw [if_pos hge]
        have : l = u := by omega
        subst this
        exact wpS_pure ⟨rfl, l, l, rfl, huk, hlo, hhi⟩
      · rw [if_neg hge]
        refine wpS_bind (ltG hS.b h0 hk (by omega) ?_)
        by_cases hl : K (arrOf st2) (lo + k) < K (arrOf st2) (lo + (l + u) / 2)
        · simp only [hl, decide_true, if_true]
          refine wpS_pure ⟨rfl, l, (l + u) / 2, rfl, by omega, by omega, by omega, hlo, fun i a b => ?_⟩
          exact Int.lt_of_lt_of_le hl (hs' _ _ (by omega) (by omega) (by omega))
        · simp only [hl, decide_false, Bool.false_eq_true, if_false]
          refine wpS_pure ⟨rfl, (l + u) / 2 + 1, u, rfl, by omega, by omega, by omega, fun i a => ?_, hhi⟩
          exact Int.le_trans (hs' (lo + i) (lo + (l + u) / 2) (by omega) (by omega) (by omega)) (Int.not_lt.mp hl)
    case jend =>
      rintro c st2 ⟨rfl, l, u, rfl, hlk, hlo, hhi⟩
      show wpS _ _ _ _ (do moveDown' (lo + k) (lo + l); pure (ForInStep.yield (none, ()))) _ _
      rw [moveDown'_eq]
      have hks : lo + k < (arrOf st2).size := by rw [hS.b.sz]; exact hk
      refine wpS_bind (wpS_modify (wpS_pure ⟨rfl, hS.set (bubble_perm _ _ _) (bub_out hks (by omega) (by omega) (by omega)), ?_⟩))
      have e1 : min (k + 1) n = k + 1 := by omega
      rw [e1]
      intro i j hi hij hj
      show K (bubble (arrOf st2) (lo + k) (lo + k - (lo + l))) i ≤ K (bubble (arrOf st2) (lo + k) (lo + k - (lo + l))) j
      rw [K_bubble hks (by omega), K_bubble hks (by omega)]
      have e2 : lo + k - (lo + k - (lo + l)) = lo + l := by omega
      rw [e2]
      have lo' : ∀ x, lo ≤ x → x < lo + l → K (arrOf st2) x ≤ K (arrOf st2) (lo + k) := fun x a b => by
        have := hlo (x - lo) (by omega)
        have ex : lo + (x - lo) = x := by omega
        rwa [ex] at this
      have hi' : ∀ x, lo + l ≤ x → x < lo + k → K (arrOf st2) (lo + k) ≤ K (arrOf st2) x := fun x a b => by
        have := hhi (x - lo) (by omega) (by omega)
        have ex : lo + (x - lo) = x := by omega
        rw [ex] at this
        exact Int.le_of_lt this
      repeat' split
      all_goals first
        | exact Int.le_refl _
        | exact lo' _ (by omega) (by omega)
        | exact hi' _ (by omega) (by omega)
        | exact hs' _ _ (by omega) (by omega) (by omega)
        | (exfalso; omega)
noncomputable def gallop' : Bool → Keyed → Array Keyed → Nat → Nat → Nat → StateT SortSt Sem (Option Nat) := sortPriv% PySem.Builtin.gallop
theorem elemG {xs : Array Keyed} {i : Nat} {p : Keyed} {st : SortSt} {Q : Keyed → SortSt → Prop} (h : xs[i]? = some p) (q : Q p st) : wpS (model prog w) A E s (elem' xs i) Q st := by
  rw [elem'_eq, h]; exact wpS_pure q
theorem lt2 {st : SortSt} {a b : Int} {t u : Tok} {p q : Value} {Q : Option Bool → SortSt → Prop} (hk : kindOf st = oneType') (h : Q (some (decide (a < b))) st) : wpS (model prog w) A E s (lt' (.int a t, p) (.int b u, q)) Q st := by
  rw [lt'_eq]
  refine wpS_bind (wpS_get ?_)
  rw [hk, keyLt'_oneType]
  exact wpS_bind (wpS_lift (wpAny_attempt (oneLt_int ⟨rfl, wpS_pure h⟩)))
def IK (xs : Array Keyed) : Prop := ∀ i, i < xs.size → ∃ t q, xs[i]? = some (.int (K xs i) t, q)
noncomputable def Bey (left : Bool) (key : Int) (xs : Array Keyed) (base i : Nat) : Bool := if left then decide (K xs (base + i) < key) else !decide (key < K xs (base + i))
theorem beyG {left : Bool} {key : Int} {kt : Tok} {kq : Value} {xs : Array Keyed} {base i : Nat} {st : SortSt} {Q : Option Bool → SortSt → Prop} (hk : kindOf st = oneType') (hx : IK xs) (hi : base + i < xs.size) (h : Q (some (Bey left key xs base i)) st) :
    wpS (model prog w) A E s (do
      let x ← elem' xs (base + i)
      if left = true then lt' x (.int key kt, kq) else do
        let y ← lt' (.int key kt, kq) x
        pure (y.map (!·))) Q st := by
  obtain ⟨t, q, e⟩ := hx _ hi
  refine wpS_bind (elemG e ?_)
  unfold Bey at h
  cases left with
  | true => rw [if_pos rfl] at h ⊢; exact lt2 hk h
  | false =>
    rw [if_neg (by decide)] at h ⊢
    exact wpS_bind (lt2 hk (wpS_pure h))
theorem bey_anti {left : Bool} {key : Int} {xs : Array Keyed} {base n i j : Nat} (hs : Srt xs base (base + n)) (hij : i ≤ j) (hj : j < n) (h : Bey left key xs base j = true) : Bey left key xs base i = true := by
  have := hs (base + i) (base + j) (by omega) (by omega) (by omega)
  unfold Bey at h ⊢
  cases left with
  | true => simp only [if_true, decide_eq_true_eq] at h ⊢; omega
  | false => simp only [Bool.false_eq_true, if_false, Bool.not_eq_true', decide_eq_false_iff_not] at h ⊢; omega
theorem bey_anti' {left : Bool} {key : Int} {xs : Array Keyed} {base n i j : Nat} (hs : Srt xs base (base + n)) (hij : i ≤ j) (hj : j < n) (h : Bey left key xs base i = false) : Bey left key xs base j = false := by
  cases q : Bey left key xs base j with
  | false => rfl
  | true => rw [bey_anti hs hij hj q] at h; cases h
theorem gallopG {left : Bool} {key : Int} {kt : Tok} {kq : Value} {xs : Array Keyed} {base n hint : Nat} {st : SortSt} {Q : Option Nat → SortSt → Prop} (hk : kindOf st = oneType') (hx : IK xs) (hb : base + n ≤ xs.size) (hh : hint < n) (hs : Srt xs base (base + n))
    (h : ∀ m, m ≤ n → (∀ i, i < m → Bey left key xs base i = true) → (∀ i, m ≤ i → i < n → Bey left key xs base i = false) → Q (some m) st) :
    wpS (model prog w) A E s (gallop' left (.int key kt, kq) xs base n hint) Q st := by
  unfold gallop'
  refine wpS_bind (beyG hk hx (by omega) ?_)
  dsimp only
  cases hr : Bey left key xs base hint with
  | true =>
    rw [if_pos rfl]
    refine wpS_bind (wpS_mono (wpS_forRange (I := fun x c st' => st' = st ∧ ∃ l o, c = (none, l, o) ∧ x + 1 ≤ o ∧ l < o ∧ l < n - hint ∧ Bey left key xs base (hint + l) = true)
      (Q := fun c st' => st' = st ∧ ∃ l o, c = (none, l, o) ∧ l < o ∧ l < n - hint ∧ Bey left key xs base (hint + l) = true ∧ (n - hint ≤ o ∨ Bey left key xs base (hint + o) = false)) ?one ?two ⟨rfl, 0, 1, rfl, by omega, by omega, by omega, hr⟩) ?fin)
    case two =>
      rintro c st' ⟨rfl, l, o, rfl, h1, h2, h3, h4⟩
      exact ⟨rfl, l, o, rfl, h2, h3, h4, .inl (by omega)⟩
    case one =>
      rintro x c st' _ hxn ⟨rfl, l, o, rfl, h1, h2, h3, h4⟩
      dsimp only
      by_cases ho : o ≥ n - hint
      · rw [if_pos ho]
        exact wpS_pure ⟨rfl, l, o, rfl, h2, h3, h4, .inl ho⟩
      · rw [if_neg ho]
        refine wpS_bind (beyG hk hx (by omega) ?_)
        dsimp only
        cases hm : Bey left key xs base (hint + o) with
        | true => exact wpS_pure ⟨rfl, o, 2 * o + 1, rfl, by omega, by omega, by omega, hm⟩
        | false => exact wpS_pure ⟨rfl, l, o, rfl, h2, h3, h4, .inr hm⟩
    case fin =>
      rintro c st' ⟨rfl, l, o, rfl, h2, h3, h4, h5⟩
      dsimp only
      refine wpS_bind (wpS_mono (wpS_forRange (I := fun x c st2 => st2 = st' ∧ ∃ a b, c = (none, a, b) ∧ a ≤ b ∧ b ≤ n ∧ b - a ≤ n - x ∧ (∀ i, i < a → Bey left key xs base i = true) ∧ ∀ i, b ≤ i → i < n → Bey left key xs base i = false)
        (Q := fun c st2 => st2 = st' ∧ ∃ a b, c = (none, a, b) ∧ b ≤ n ∧ (∀ i, i < b → Bey left key xs base i = true) ∧ ∀ i, b ≤ i → i < n → Bey left key xs base i = false) ?jone ?jtwo ?jzero) ?jfin)
      case jzero =>
        refine ⟨rfl, _, _, rfl, by omega, by omega, by omega, fun i hi => bey_anti hs (by omega) (by omega) h4, fun i a b => ?_⟩
        rcases h5 with h5 | h5
        · omega
        · exact bey_anti' hs (by omega) b h5
      case jtwo =>
        rintro c st2 ⟨rfl, a, b, rfl, q1, q2, q3, q4, q5⟩
        have : a = b := by omega
        subst this
        exact ⟨rfl, a, a, rfl, q2, q4, q5⟩
      case jone =>
        rintro x c st2 _ hxn ⟨rfl, a, b, rfl, q1, q2, q3, q4, q5⟩
        dsimp only
        by_cases hge : a ≥ b
        · rw [if_pos hge]
          have : a = b := by omega
          subst this
          exact wpS_pure ⟨rfl, a, a, rfl, q2, q4, q5⟩
        · rw [if_neg hge]
          refine wpS_bind (beyG hk hx (by omega) ?_)
          dsimp only
          cases hm : Bey left key xs base (a + (b - a) / 2) with
          | true => exact wpS_pure ⟨rfl, _, _, rfl, by omega, by omega, by omega, fun i hi => bey_anti hs (by omega) (by omega) hm, q5⟩
          | false => exact wpS_pure ⟨rfl, _, _, rfl, by omega, by omega, by omega, q4, fun i hi hin => bey_anti' hs hi hin hm⟩
      case jfin =>
        rintro c st2 ⟨rfl, a, b, rfl, q2, q4, q5⟩
        exact wpS_pure (h b q2 q4 q5)
  | false =>
    rw [if_neg (by decide)]
    refine wpS_bind (wpS_mono (wpS_forRange (I := fun x c st' => st' = st ∧ ∃ l o, c = (none, l, o) ∧ x + 1 ≤ o ∧ l < o ∧ l ≤ hint ∧ Bey left key xs base (hint - l) = false)
      (Q := fun c st' => st' = st ∧ ∃ l o, c = (none, l, o) ∧ l < o ∧ l ≤ hint ∧ Bey left key xs base (hint - l) = false ∧ (hint + 1 ≤ o ∨ Bey left key xs base (hint - o) = true)) ?one' ?two' ⟨rfl, 0, 1, rfl, by omega, by omega, by omega, hr⟩) ?fin')
    case two' =>
      rintro c st' ⟨rfl, l, o, rfl, h1, h2, h3, h4⟩
      exact ⟨rfl, l, o, rfl, h2, h3, h4, .inl (by omega)⟩
    case one' =>
      rintro x c st' _ hxn ⟨rfl, l, o, rfl, h1, h2, h3, h4⟩
      dsimp only
      by_cases ho : o ≥ hint + 1
      · rw [if_pos ho]
        exact wpS_pure ⟨rfl, l, o, rfl, h2, h3, h4, .inl ho⟩
      · rw [if_neg ho]
        refine wpS_bind (beyG hk hx (by omega) ?_)
        dsimp only
        cases hm : Bey left key xs base (hint - o) with
        | true => exact wpS_pure ⟨rfl, l, o, rfl, h2, h3, h4, .inr hm⟩
        | false => exact wpS_pure ⟨rfl, o, 2 * o + 1, rfl, by omega, by omega, by omega, hm⟩
    case fin' =>
      rintro c st' ⟨rfl, l, o, rfl, h2, h3, h4, h5⟩
      dsimp only
      refine wpS_bind (wpS_mono (wpS_forRange (I := fun x c st2 => st2 = st' ∧ ∃ a b, c = (none, a, b) ∧ a ≤ b ∧ b ≤ n ∧ b - a ≤ n - x ∧ (∀ i, i < a → Bey left key xs base i = true) ∧ ∀ i, b ≤ i → i < n → Bey left key xs base i = false)
        (Q := fun c st2 => st2 = st' ∧ ∃ a b, c = (none, a, b) ∧ b ≤ n ∧ (∀ i, i < b → Bey left key xs base i = true) ∧ ∀ i, b ≤ i → i < n → Bey left key xs base i = false) ?jone ?jtwo ?jzero) ?jfin)
      case jzero =>
        refine ⟨rfl, _, _, rfl, by omega, by omega, by omega, fun i hi => ?_, fun i a b => bey_anti' hs (by omega) b h4⟩
        rcases h5 with h5 | h5
        · omega
        · exact bey_anti hs (by omega) (by omega) h5
      case jtwo =>
        rintro c st2 ⟨rfl, a, b, rfl, q1, q2, q3, q4, q5⟩
        have : a = b := by omega
        subst this
        exact ⟨rfl, a, a, rfl, q2, q4, q5⟩
      case jone =>
        rintro x c st2 _ hxn ⟨rfl, a, b, rfl, q1, q2, q3, q4, q5⟩
        dsimp only
        by_cases hge : a ≥ b
        · rw [if_pos hge]
          have : a = b := by omega
          subst this
          exact wpS_pure ⟨rfl, a, a, rfl, q2, q4, q5⟩
        · rw [if_neg hge]
          refine wpS_bind (beyG hk hx (by omega) ?_)
          dsimp only
          cases hm : Bey left key xs base (a + (b - a) / 2) with
          | true => exact wpS_pure ⟨rfl, _, _, rfl, by omega, by omega, by omega, fun i hi => bey_anti hs (by omega) (by omega) hm, q5⟩
          | false => exact wpS_pure ⟨rfl, _, _, rfl, by omega, by omega, by omega, q4, fun i hi hin => bey_anti' hs hi hin hm⟩
      case jfin =>
        rintro c st2 ⟨rfl, a, b, rfl, q2, q4, q5⟩
        exact wpS_pure (h b q2 q4 q5)
end
end HS
namespace HS
open PySem PyProof.Rows
noncomputable def kk (p : Keyed) : Int := numOf p.1
def Le (x y : Keyed) : Prop := kk x ≤ kk y
theorem K_at {xs : Array Keyed} {i : Nat} {p : Keyed} (h : xs[i]? = some p) : K xs i = kk p := by unfold K; rw [h]; rfl
structure Mg (A B O : List Keyed) (ia ib : Nat) : Prop where
  perm : (O ++ A.drop ia ++ B.drop ib).Perm (A ++ B)
  srt : O.Pairwise Le
  toA : ∀ x ∈ O, ∀ y ∈ A.drop ia, Le x y
  toB : ∀ x ∈ O, ∀ y ∈ B.drop ib, Le x y
  len : O.length = ia + ib
theorem pw_take {A : List Keyed} (h : A.Pairwise Le) (i k : Nat) : ∀ x ∈ (A.drop i).take k, ∀ y ∈ A.drop (i + k), Le x y := by
  have h1 : (A.drop i).Pairwise Le := h.drop
  rw [← List.take_append_drop k (A.drop i)] at h1
  have h2 := (List.pairwise_append.mp h1).2.2
  intro x hx y hy
  exact h2 x hx y (by rw [List.drop_drop]; exact hy)
theorem Mg.takeA {A B O : List Keyed} {ia ib k : Nat} (h : Mg A B O ia ib) (hA : A.Pairwise Le) (hk : ia + k ≤ A.length) (hxx : ∀ x ∈ (A.drop ia).take k, ∀ y ∈ B.drop ib, Le x y) : Mg A B (O ++ (A.drop ia).take k) (ia + k) ib where
  perm := by
    refine List.Perm.trans ?_ h.perm
    have e : A.drop ia = (A.drop ia).take k ++ A.drop (ia + k) := by rw [← List.drop_drop, List.take_append_drop]
    conv => rhs; rw [e]
    simp only [List.append_assoc]
    exact .refl _
  srt := List.pairwise_append.mpr ⟨h.srt, (hA.drop).take, fun x hx y hy => h.toA x hx y (List.mem_of_mem_take hy)⟩
  toA := fun x hx y hy => by
    rcases List.mem_append.mp hx with hx | hx
    · exact h.toA x hx y (by rw [← List.drop_drop] at hy; exact List.mem_of_mem_drop hy)
    · exact pw_take hA ia k x hx y hy
  toB := fun x hx y hy => by
    rcases List.mem_append.mp hx with q | q
    · exact h.toB x q y hy
    · exact hxx x q y hy
  len := by rw [List.length_append, h.len, List.length_take, List.length_drop]; omega
theorem Mg.takeB {A B O : List Keyed} {ia ib k : Nat} (h : Mg A B O ia ib) (hB : B.Pairwise Le) (hk : ib + k ≤ B.length) (hxx : ∀ x ∈ (B.drop ib).take k, ∀ y ∈ A.drop ia, Le x y) : Mg A B (O ++ (B.drop ib).take k) ia (ib + k) where
  perm := by
    refine List.Perm.trans ?_ h.perm
    have e : B.drop ib = (B.drop ib).take k ++ B.drop (ib + k) := by rw [← List.drop_drop, List.take_append_drop]
    conv => rhs; rw [e]
    simp only [List.append_assoc]
    refine List.Perm.append_left _ ?_
    rw [← List.append_assoc, ← List.append_assoc]
    exact List.Perm.append_right _ List.perm_append_comm
  srt := List.pairwise_append.mpr ⟨h.srt, (hB.drop).take, fun x hx y hy => h.toB x hx y (List.mem_of_mem_take hy)⟩
  toB := fun x hx y hy => by
    rcases List.mem_append.mp hx with hx | hx
    · exact h.toB x hx y (by rw [← List.drop_drop] at hy; exact List.mem_of_mem_drop hy)
    · exact pw_take hB ib k x hx y hy
  toA := fun x hx y hy => by
    rcases List.mem_append.mp hx with q | q
    · exact h.toA x q y hy
    · exact hxx x q y hy
  len := by rw [List.length_append, h.len, List.length_take, List.length_drop]; omega
def Mgd (A B R : List Keyed) : Prop := R.Perm (A ++ B) ∧ R.Pairwise Le
theorem Mg.doneA {A B O : List Keyed} {ia ib : Nat} (h : Mg A B O ia ib) (hA : A.Pairwise Le) (hb : B.length ≤ ib) : Mgd A B (O ++ A.drop ia ++ B.drop ib) := by
  refine ⟨h.perm, ?_⟩
  rw [List.drop_of_length_le hb, List.append_nil]
  exact List.pairwise_append.mpr ⟨h.srt, hA.drop, h.toA⟩
theorem Mg.doneB {A B O : List Keyed} {ia ib : Nat} (h : Mg A B O ia ib) (hB : B.Pairwise Le) (ha : A.length ≤ ia) : Mgd A B (O ++ A.drop ia ++ B.drop ib) := by
  refine ⟨h.perm, ?_⟩
  rw [List.drop_of_length_le ha, List.append_nil]
  exact List.pairwise_append.mpr ⟨h.srt, hB.drop, h.toB⟩
theorem Mg.last {A B O : List Keyed} {ia ib : Nat} (h : Mg A B O ia ib) (hA : A.Pairwise Le) (hB : B.Pairwise Le) (hl : ∀ x ∈ B, ∀ y ∈ A.drop ia, Le x y) : Mgd A B (O ++ B.drop ib ++ A.drop ia) := by
  refine ⟨?_, ?_⟩
  · refine List.Perm.trans ?_ h.perm
    simp only [List.append_assoc]
    exact List.Perm.append_left _ List.perm_append_comm
  · refine List.pairwise_append.mpr ⟨List.pairwise_append.mpr ⟨h.srt, hB.drop, h.toB⟩, hA.drop, fun x hx y hy => ?_⟩
    rcases List.mem_append.mp hx with q | q
    · exact h.toA x q y hy
    · exact hl x (List.mem_of_mem_drop q) y hy
theorem mem_cut {xs : Array Keyed} {i k : Nat} {x : Keyed} (h : x ∈ (xs.toList.drop i).take k) : ∃ j, j < k ∧ i + j < xs.size ∧ kk x = K xs (i + j) := by
  obtain ⟨j, hj, e⟩ := List.mem_iff_getElem.mp h
  simp only [List.length_take, List.length_drop, Array.length_toList] at hj
  have hij : i + j < xs.size := by omega
  refine ⟨j, by omega, hij, ?_⟩
  rw [← e, List.getElem_take, List.getElem_drop, Array.getElem_toList]
  exact (K_at (getElem?_pos xs (i + j) hij)).symm
theorem mem_tail {xs : Array Keyed} {i : Nat} {x : Keyed} (h : x ∈ xs.toList.drop i) : ∃ j, i ≤ j ∧ j < xs.size ∧ kk x = K xs j := by
  have h' : x ∈ (xs.toList.drop i).take (xs.toList.drop i).length := by rw [List.take_length]; exact h
  obtain ⟨j, _, h2, h3⟩ := mem_cut h'
  exact ⟨i + j, by omega, h2, h3⟩
theorem pw_of {xs : Array Keyed} (h : Srt xs 0 xs.size) : xs.toList.Pairwise Le := by
  rw [List.pairwise_iff_getElem]
  intro i j hi hj hij
  have hi' : i < xs.size := by simpa using hi
  have hj' : j < xs.size := by simpa using hj
  have := h i j (by omega) (by omega) hj'
  rw [K_at (getElem?_pos xs i hi'), K_at (getElem?_pos xs j hj')] at this
  simpa [Le] using this
theorem one_cut {xs : Array Keyed} {i : Nat} {p : Keyed} (h : xs[i]? = some p) : (xs.toList.drop i).take 1 = [p] := by
  obtain ⟨hi, e⟩ := Array.getElem?_eq_some_iff.mp h
  rw [List.drop_eq_getElem_cons (by simpa using hi)]
  simp [e]
theorem ext_cut (xs : Array Keyed) (i k : Nat) : (xs.extract i (i + k)).toList = (xs.toList.drop i).take k := by
  rw [Array.toList_extract]
  simp [List.extract_eq_drop_take]
theorem ext_tail (xs : Array Keyed) (i : Nat) : (xs.extract i xs.size).toList = xs.toList.drop i := by
  rw [Array.toList_extract]
  simp [List.extract_eq_drop_take]
  exact List.take_of_length_le (by simp)
structure SameG (st st' : SortSt) : Prop where
  kind : kindOf st' = kindOf st
  arr : arrOf st' = arrOf st
  pend : pendingOf st' = pendingOf st
  ok : failedOf st' = failedOf st
theorem SameG.re {st : SortSt} : SameG st st := ⟨rfl, rfl, rfl, rfl⟩
end HS
namespace HS
open PySem PyProof.Rows
section
variable {prog : Program} {w : World} {A : Around} {E : Value → Shared → Prop} {s : Shared} {a₀ : Array Keyed}
noncomputable def mergeLo' : Array Keyed → Array Keyed → StateT SortSt Sem (Array Keyed) := sortPriv% PySem.Builtin.mergeLo
noncomputable def setMin' : Nat → StateT SortSt Sem Unit := sortPriv% PySem.Builtin.setMinGallop
theorem smG {g : Nat} {st : SortSt} {Q : Unit → SortSt → Prop} (h : ∀ st', SameG st st' → Q () st') : wpS (model prog w) A E s (setMin' g) Q st := by
  unfold setMin'
  refine wpS_modify (h _ ⟨rfl, rfl, rfl, rfl⟩)
theorem SameG.tr {st st' st'' : SortSt} (h : SameG st st') (g : SameG st' st'') : SameG st st'' := ⟨g.kind.trans h.kind, g.arr.trans h.arr, g.pend.trans h.pend, g.ok.trans h.ok⟩
theorem Srt.sub {xs : Array Keyed} {lo hi lo' hi' : Nat} (h : Srt xs lo hi) (h1 : lo ≤ lo') (h2 : hi' ≤ hi) : Srt xs lo' hi' := fun i j a b c => h i j (by omega) b (by omega)
theorem bey_no {key : Int} {xs : Array Keyed} {base i : Nat} (h : Bey false key xs base i = false) : key < K xs (base + i) := by simpa [Bey] using h
theorem bey_yes {key : Int} {xs : Array Keyed} {base i : Nat} (h : Bey false key xs base i = true) : K xs (base + i) ≤ key := by simpa [Bey] using h
theorem bel_yes {key : Int} {xs : Array Keyed} {base i : Nat} (h : Bey true key xs base i = true) : K xs (base + i) < key := by simpa [Bey] using h
theorem bel_no {key : Int} {xs : Array Keyed} {base i : Nat} (h : Bey true key xs base i = false) : key ≤ K xs (base + i) := by simpa [Bey] using h
abbrev MG (a b out : Array Keyed) (ia ib : Nat) : Prop := Mg a.toList b.toList out.toList ia ib
structure Pre (a b : Array Keyed) : Prop where
  ka : IK a
  kb : IK b
  sa : Srt a 0 a.size
  sb : Srt b 0 b.size
  na : 0 < a.size
  nb : 0 < b.size
theorem Pre.pa {a b : Array Keyed} (h : Pre a b) : a.toList.Pairwise Le := pw_of h.sa
theorem Pre.pb {a b : Array Keyed} (h : Pre a b) : b.toList.Pairwise Le := pw_of h.sb
theorem MG.pushB {a b out : Array Keyed} {ia ib : Nat} {p : Keyed} (h : MG a b out ia ib) (P : Pre a b) (e : b[ib]? = some p) (hl : ∀ j, ia ≤ j → j < a.size → K b ib ≤ K a j) : MG a b (out.push p) ia (ib + 1) := by
  have hi := (Array.getElem?_eq_some_iff.mp e).1
  have := Mg.takeB (k := 1) h P.pb (by simp; omega) (fun x hx y hy => by
    rw [one_cut e] at hx
    obtain ⟨j, h1, h2, h3⟩ := mem_tail hy
    have ex : x = p := by simpa using hx
    have := hl j h1 h2
    rw [K_at e] at this
    unfold Le
    rw [h3, ex]
    exact this)
  rw [one_cut e] at this
  unfold MG
  rw [Array.toList_push]
  exact this
theorem MG.pushA {a b out : Array Keyed} {ia ib : Nat} {p : Keyed} (h : MG a b out ia ib) (P : Pre a b) (e : a[ia]? = some p) (hl : ∀ j, ib ≤ j → j < b.size → K a ia ≤ K b j) : MG a b (out.push p) (ia + 1) ib := by
  have hi := (Array.getElem?_eq_some_iff.mp e).1
  have := Mg.takeA (k := 1) h P.pa (by simp; omega) (fun x hx y hy => by
    rw [one_cut e] at hx
    obtain ⟨j, h1, h2, h3⟩ := mem_tail hy
    have ex : x = p := by simpa using hx
    have := hl j h1 h2
    rw [K_at e] at this
    unfold Le
    rw [h3, ex]
    exact this)
  rw [one_cut e] at this
  unfold MG
  rw [Array.toList_push]
  exact this
theorem MG.cutA {a b out : Array Keyed} {ia ib k : Nat} (h : MG a b out ia ib) (P : Pre a b) (hk : ia + k ≤ a.size) (hl : ∀ i, i < k → ∀ j, ib ≤ j → j < b.size → K a (ia + i) ≤ K b j) : MG a b (out ++ a.extract ia (ia + k)) (ia + k) ib := by
  have := Mg.takeA (k := k) h P.pa (by simpa using hk) (fun x hx y hy => by
    obtain ⟨i, h1, h2, h3⟩ := mem_cut hx
    obtain ⟨j, h4, h5, h6⟩ := mem_tail hy
    unfold Le
    rw [h3, h6]
    exact hl i h1 j h4 h5)
  unfold MG
  rw [Array.toList_append, ext_cut]
  exact this
theorem MG.cutB {a b out : Array Keyed} {ia ib k : Nat} (h : MG a b out ia ib) (P : Pre a b) (hk : ib + k ≤ b.size) (hl : ∀ i, i < k → ∀ j, ia ≤ j → j < a.size → K b (ib + i) ≤ K a j) : MG a b (out ++ b.extract ib (ib + k)) ia (ib + k) := by
  have := Mg.takeB (k := k) h P.pb (by simpa using hk) (fun x hx y hy => by
    obtain ⟨i, h1, h2, h3⟩ := mem_cut hx
    obtain ⟨j, h4, h5, h6⟩ := mem_tail hy
    unfold Le
    rw [h3, h6]
    exact hl i h1 j h4 h5)
  unfold MG
  rw [Array.toList_append, ext_cut]
  exact this
theorem MG.endB {a b out : Array Keyed} {ia ib : Nat} (h : MG a b out ia ib) (P : Pre a b) (e : ib = b.size) : Mgd a.toList b.toList (out ++ a.extract ia a.size ++ b.extract ib b.size).toList := by
  rw [Array.toList_append, Array.toList_append, ext_tail, ext_tail]
  exact Mg.doneA h P.pa (by simp; omega)
theorem MG.endA {a b out : Array Keyed} {ia ib : Nat} (h : MG a b out ia ib) (P : Pre a b) (e : ia = a.size) : Mgd a.toList b.toList (out ++ a.extract ia a.size ++ b.extract ib b.size).toList := by
  rw [Array.toList_append, Array.toList_append, ext_tail, ext_tail]
  exact Mg.doneB h P.pb (by simp; omega)
theorem MG.lastA {a b out : Array Keyed} {ia ib : Nat} (h : MG a b out ia ib) (P : Pre a b) (e : ia + 1 = a.size) (hl : ∀ j, j < b.size → K b j ≤ K a (a.size - 1)) : Mgd a.toList b.toList (out ++ b.extract ib b.size ++ a.extract ia a.size).toList := by
  rw [Array.toList_append, Array.toList_append, ext_tail, ext_tail]
  refine Mg.last h P.pa P.pb fun x hx y hy => ?_
  obtain ⟨j, h1, h2, h3⟩ := mem_tail (i := 0) (by simpa using hx)
  obtain ⟨i, h4, h5, h6⟩ := mem_tail hy
  have : i = a.size - 1 := by omega
  subst this
  unfold Le
  rw [h3, h6]
  exact hl j h2
theorem MG.sz {a b out : Array Keyed} {ia ib : Nat} (h : MG a b out ia ib) : out.size = ia + ib := by have := h.len; simpa using this
theorem mergeLoG {a b : Array Keyed} {st : SortSt} {Q : Array Keyed → SortSt → Prop} (hk : kindOf st = oneType') (P : Pre a b) (hf : K b 0 < K a 0) (hl : ∀ j, j < b.size → K b j ≤ K a (a.size - 1))
    (h : ∀ r st', SameG st st' → Mgd a.toList b.toList r.toList → Q r st') : wpS (model prog w) A E s (mergeLo' a b) Q st := by
  unfold mergeLo'
  refine wpS_bind (wpS_lift (wpAny_rule ⟨rfl, ?_⟩))
  obtain ⟨t0, q0, e0⟩ := P.kb 0 P.nb
  have M0 : MG a b #[] 0 0 := ⟨by simp, by simp, by simp, by simp, rfl⟩
  have M1 : MG a b #[(Value.int (K b 0) t0, q0)] 0 1 := M0.pushB P e0 fun j h1 h2 => Int.le_trans (Int.le_of_lt hf) (P.sa 0 j (by omega) (by omega) h2)
  refine wpS_bind (elemG e0 ?_)
  dsimp only
  by_cases h1 : (1 == b.size) = true
  · rw [if_pos h1]
    exact wpS_pure (h _ _ .re (M1.endB P (by simpa using h1)))
  · rw [if_neg h1]
    by_cases h2 : (0 + 1 == a.size) = true
    · rw [if_pos h2]
      exact wpS_pure (h _ _ .re (M1.lastA P (by simpa using h2) hl))
    · rw [if_neg h2]
      refine wpS_bind (wpS_get ?_)
      have b1 : 1 < b.size := by have := P.nb; have : ¬ 1 = b.size := by simpa using h1
                                 omega
      have b2 : 0 + 1 < a.size := by have := P.na; have : ¬ 0 + 1 = a.size := by simpa using h2
                                     omega
      refine wpS_bind (wpS_mono (wpS_forRange (I := fun x c st' => SameG st st' ∧ ∃ out ia ib mg, c = (none, out, ia, ib, mg) ∧ MG a b out ia ib ∧ ia + 1 < a.size ∧ ib < b.size ∧ x + 1 ≤ ia + ib)
        (Q := fun c st' => SameG st st' ∧ ∃ r o, c = (some r, o) ∧ Mgd a.toList b.toList r.toList) ?one ?two ⟨.re, _, _, _, _, rfl, M1, b2, b1, by omega⟩) ?fin)
      case two =>
        rintro c st' ⟨hS, out, ia, ib, mg, rfl, hM, h3, h4, h5⟩
        omega
      case fin =>
        rintro c st' ⟨hS, r, o, rfl, hR⟩
        exact wpS_pure (h _ _ hS hR)
      case one =>
        rintro x c st' _ hx ⟨hS, out, ia, ib, mg, rfl, hM, h3, h4, h5⟩
        dsimp only
        refine wpS_bind (wpS_mono (wpS_forRange (I := fun y c st2 => SameG st st2 ∧ ∃ out ia ib ac bc, c = (none, out, ia, ib, ac, bc) ∧ MG a b out ia ib ∧ ia + 1 < a.size ∧ ib < b.size ∧ x + 1 + y ≤ ia + ib)
          (Q := fun c st2 => SameG st st2 ∧ ((∃ r o, c = (some r, o) ∧ Mgd a.toList b.toList r.toList) ∨ ∃ out ia ib ac bc, c = (none, out, ia, ib, ac, bc) ∧ MG a b out ia ib ∧ ia + 1 < a.size ∧ ib < b.size ∧ x + 2 ≤ ia + ib)) ?jone ?jtwo ⟨hS, out, ia, ib, 0, 0, rfl, hM, h3, h4, by omega⟩) ?jfin)
        case jtwo =>
          rintro c st2 ⟨hS2, out, ia, ib, ac, bc, rfl, hM, h3, h4, h5⟩
          omega
        case jone =>
          rintro y c st2 _ hy ⟨hS2, out, ia, ib, ac, bc, rfl, hM, h3, h4, h5⟩
          dsimp only
          obtain ⟨t1, q1, e1⟩ := P.kb ib h4
          obtain ⟨t2, q2, e2⟩ := P.ka ia (by omega)
          refine wpS_bind (elemG e1 (wpS_bind (elemG e2 (wpS_bind (lt2 (hS2.kind.trans hk) ?_)))))
          dsimp only
          by_cases hw : K b ib < K a ia
          · simp only [hw, decide_true, if_true]
            refine wpS_bind (elemG e1 ?_)
            have hM2 := hM.pushB P e1 fun j a1 a2 => Int.le_trans (Int.le_of_lt hw) (P.sa ia j (by omega) a1 a2)
            by_cases h6 : (ib + 1 == b.size) = true
            · rw [if_pos h6]
              exact wpS_pure ⟨hS2, .inl ⟨_, _, rfl, hM2.endB P (by simpa using h6)⟩⟩
            · rw [if_neg h6]
              have h6' : ib + 1 < b.size := Nat.lt_of_le_of_ne (by omega) (by simpa using h6)
              split
              · exact wpS_pure ⟨hS2, .inr ⟨_, _, _, _, _, rfl, hM2, h3, h6', by omega⟩⟩
              · exact wpS_pure ⟨hS2, _, _, _, _, _, rfl, hM2, h3, h6', by omega⟩
          · simp only [hw, decide_false, Bool.false_eq_true, if_false]
            refine wpS_bind (elemG e2 ?_)
            have hM2 := hM.pushA P e2 fun j a1 a2 => Int.le_trans (Int.not_lt.mp hw) (P.sb ib j (by omega) a1 a2)
            by_cases h6 : (ia + 1 + 1 == a.size) = true
            · rw [if_pos h6]
              exact wpS_pure ⟨hS2, .inl ⟨_, _, rfl, hM2.lastA P (by simpa using h6) hl⟩⟩
            · rw [if_neg h6]
              have h6' : ia + 1 + 1 < a.size := Nat.lt_of_le_of_ne (by omega) (by simpa using h6)
              split
              · exact wpS_pure ⟨hS2, .inr ⟨_, _, _, _, _, rfl, hM2, h6', h4, by omega⟩⟩
              · exact wpS_pure ⟨hS2, _, _, _, _, _, rfl, hM2, h6', h4, by omega⟩
        case jfin =>
          rintro c st2 ⟨hS2, ⟨r, o, rfl, hR⟩ | ⟨out, ia, ib, ac, bc, rfl, hM, h3, h4, h5⟩⟩
          · dsimp only
            exact wpS_pure ⟨hS2, r, _, rfl, hR⟩
          · dsimp only
            refine wpS_bind (wpS_lift (wpAny_rule ⟨rfl, ?_⟩))
            refine wpS_bind (wpS_mono (wpS_forRange (I := fun y c st3 => SameG st st3 ∧ ∃ out ia ib m1 ac bc, c = (none, out, ia, ib, m1, ac, bc) ∧ MG a b out ia ib ∧ ia + 1 < a.size ∧ ib < b.size ∧ x + 2 + y ≤ ia + ib)
              (Q := fun c st3 => SameG st st3 ∧ ((∃ r o, c = (some r, o) ∧ Mgd a.toList b.toList r.toList) ∨ ∃ out ia ib m1 ac bc, c = (none, out, ia, ib, m1, ac, bc) ∧ MG a b out ia ib ∧ ia + 1 < a.size ∧ ib < b.size ∧ x + 2 ≤ ia + ib)) ?kone ?ktwo ⟨hS2, out, ia, ib, _, ac, bc, rfl, hM, h3, h4, by omega⟩) ?kfin)
            case ktwo =>
              rintro c st3 ⟨hS3, out, ia, ib, m1, ac, bc, rfl, hM, h3, h4, h5⟩
              omega
            case kfin =>
              rintro c st3 ⟨hS3, ⟨r, o, rfl, hR⟩ | ⟨out, ia, ib, m1, ac, bc, rfl, hM, h3, h4, h5⟩⟩
              · dsimp only
                exact wpS_pure ⟨hS3, r, _, rfl, hR⟩
              · dsimp only
                exact wpS_bind (smG fun st4 hS4 => wpS_pure ⟨hS3.tr hS4, out, ia, ib, _, rfl, hM, h3, h4, by omega⟩)
            case kone =>
              rintro y c st3 _ hy ⟨hS3, out, ia, ib, m1, ac, bc, rfl, hM, h3, h4, h5⟩
              dsimp only
              obtain ⟨t3, q3, e3⟩ := P.kb ib h4
              by_cases hg : m1 > 1
              case' pos => rw [if_pos hg]
              case' neg => rw [if_neg hg]
              all_goals
                refine wpS_bind (smG fun st4 hS34 => ?_)
                have hS4 := hS3.tr hS34
                refine wpS_bind (elemG e3 ?_)
                refine wpS_bind (gallopG (hS4.kind.trans hk) P.ka (by omega) (by omega) (P.sa.sub (by omega) (by omega)) fun k g1 g2 g3 => ?_)
                dsimp only
                have nb : ∀ j, ia + k ≤ j → j < a.size → K b ib < K a j := fun j a1 a2 => by
                  have := bey_no (g3 (j - ia) (by omega) (by omega))
                  have ej : ia + (j - ia) = j := by omega
                  rwa [ej] at this
                by_cases hk0 : k > 0
                · rw [if_pos hk0]
                  have hM5 := hM.cutA (k := k) P (by omega) fun i hi j a1 a2 => Int.le_trans (bey_yes (g2 i hi)) (P.sb ib j (by omega) a1 a2)
                  by_cases h6 : (ia + k + 1 == a.size) = true
                  · rw [if_pos h6]
                    exact wpS_pure ⟨hS4, .inl ⟨_, _, rfl, hM5.lastA P (by simpa using h6) hl⟩⟩
                  · rw [if_neg h6]
                    by_cases h7 : (ia + k == a.size) = true
                    · rw [if_pos h7]
                      exact wpS_pure ⟨hS4, .inl ⟨_, _, rfl, hM5.endA P (by simpa using h7)⟩⟩
                    · rw [if_neg h7]
                      have h8' : ia + k + 1 < a.size := by
                        have r1 : ¬ ia + k + 1 = a.size := by simpa using h6
                        have r2 : ¬ ia + k = a.size := by simpa using h7
                        omega
                      refine wpS_bind (elemG e3 ?_)
                      have hM6 := hM5.pushB P e3 fun j a1 a2 => Int.le_of_lt (nb j a1 a2)
                      by_cases h6 : (ib + 1 == b.size) = true
                      · rw [if_pos h6]
                        exact wpS_pure ⟨hS4, .inl ⟨_, _, rfl, hM6.endB P (by simpa using h6)⟩⟩
                      · rw [if_neg h6]
                        have h6' : ib + 1 < b.size := Nat.lt_of_le_of_ne (by omega) (by simpa using h6)
                        obtain ⟨t4, q4, e4⟩ := P.ka (ia + k) (by omega)
                        refine wpS_bind (elemG e4 ?_)
                        refine wpS_bind (gallopG (hS4.kind.trans hk) P.kb (by omega) (by omega) (P.sb.sub (by omega) (by omega)) fun k2 c1 c2 c3 => ?_)
                        dsimp only
                        have up : ∀ j, ib + 1 + k2 ≤ j → j < b.size → K a (ia + k) ≤ K b j := fun j a1 a2 => by
                          have := bel_no (c3 (j - (ib + 1)) (by omega) (by omega))
                          have ej : ib + 1 + (j - (ib + 1)) = j := by omega
                          rwa [ej] at this
                        by_cases h7 : k2 > 0
                        · rw [if_pos h7]
                          have hM7 := hM6.cutB (k := k2) P (by omega) fun i hi j a1 a2 => Int.le_trans (Int.le_of_lt (bel_yes (c2 i hi))) (P.sa (ia + k) j (by omega) a1 a2)
                          by_cases h8 : (ib + 1 + k2 == b.size) = true
                          · rw [if_pos h8]
                            exact wpS_pure ⟨hS4, .inl ⟨_, _, rfl, hM7.endB P (by simpa using h8)⟩⟩
                          · rw [if_neg h8]
                            have h8' : ib + 1 + k2 < b.size := Nat.lt_of_le_of_ne (by omega) (by simpa using h8)
                            refine wpS_bind (elemG e4 ?_)
                            have hM9 := hM7.pushA P e4 up
                            by_cases h9 : (ia + k + 1 + 1 == a.size) = true
                            · rw [if_pos h9]
                              exact wpS_pure ⟨hS4, .inl ⟨_, _, rfl, hM9.lastA P (by simpa using h9) hl⟩⟩
                            · rw [if_neg h9]
                              have h9' : ia + k + 1 + 1 < a.size := Nat.lt_of_le_of_ne (by omega) (by simpa using h9)
                              split
                              · exact wpS_pure ⟨hS4, .inr ⟨_, _, _, _, _, _, rfl, hM9, h9', h8', by omega⟩⟩
                              · exact wpS_pure ⟨hS4, _, _, _, _, _, _, rfl, hM9, h9', h8', by omega⟩
                        · rw [if_neg h7]
                          have z2 : k2 = 0 := by omega
                          subst z2
                          refine wpS_bind (elemG e4 ?_)
                          have hM9 := hM6.pushA P e4 (fun j a1 a2 => up j (by omega) a2)
                          by_cases h9 : (ia + k + 1 + 1 == a.size) = true
                          · rw [if_pos h9]
                            exact wpS_pure ⟨hS4, .inl ⟨_, _, rfl, hM9.lastA P (by simpa using h9) hl⟩⟩
                          · rw [if_neg h9]
                            have h9' : ia + k + 1 + 1 < a.size := Nat.lt_of_le_of_ne (by omega) (by simpa using h9)
                            split
                            · exact wpS_pure ⟨hS4, .inr ⟨_, _, _, _, _, _, rfl, hM9, h9', h6', by omega⟩⟩
                            · exact wpS_pure ⟨hS4, _, _, _, _, _, _, rfl, hM9, h9', h6', by omega⟩
                · rw [if_neg hk0]
                  have z1 : k = 0 := by omega
                  subst z1
                  refine wpS_bind (elemG e3 ?_)
                  have hM6 := hM.pushB P e3 fun j a1 a2 => Int.le_of_lt (nb j a1 a2)
                  by_cases h6 : (ib + 1 == b.size) = true
                  · rw [if_pos h6]
                    exact wpS_pure ⟨hS4, .inl ⟨_, _, rfl, hM6.endB P (by simpa using h6)⟩⟩
                  · rw [if_neg h6]
                    have h6' : ib + 1 < b.size := Nat.lt_of_le_of_ne (by omega) (by simpa using h6)
                    obtain ⟨t4, q4, e4⟩ := P.ka (ia) (by omega)
                    refine wpS_bind (elemG e4 ?_)
                    refine wpS_bind (gallopG (hS4.kind.trans hk) P.kb (by omega) (by omega) (P.sb.sub (by omega) (by omega)) fun k2 c1 c2 c3 => ?_)
                    dsimp only
                    have up : ∀ j, ib + 1 + k2 ≤ j → j < b.size → K a (ia) ≤ K b j := fun j a1 a2 => by
                      have := bel_no (c3 (j - (ib + 1)) (by omega) (by omega))
                      have ej : ib + 1 + (j - (ib + 1)) = j := by omega
                      rwa [ej] at this
                    by_cases h7 : k2 > 0
                    · rw [if_pos h7]
                      have hM7 := hM6.cutB (k := k2) P (by omega) fun i hi j a1 a2 => Int.le_trans (Int.le_of_lt (bel_yes (c2 i hi))) (P.sa (ia) j (by omega) a1 a2)
                      by_cases h8 : (ib + 1 + k2 == b.size) = true
                      · rw [if_pos h8]
                        exact wpS_pure ⟨hS4, .inl ⟨_, _, rfl, hM7.endB P (by simpa using h8)⟩⟩
                      · rw [if_neg h8]
                        have h8' : ib + 1 + k2 < b.size := Nat.lt_of_le_of_ne (by omega) (by simpa using h8)
                        refine wpS_bind (elemG e4 ?_)
                        have hM9 := hM7.pushA P e4 up
                        by_cases h9 : (ia + 1 + 1 == a.size) = true
                        · rw [if_pos h9]
                          exact wpS_pure ⟨hS4, .inl ⟨_, _, rfl, hM9.lastA P (by simpa using h9) hl⟩⟩
                        · rw [if_neg h9]
                          have h9' : ia + 1 + 1 < a.size := Nat.lt_of_le_of_ne (by omega) (by simpa using h9)
                          split
                          · exact wpS_pure ⟨hS4, .inr ⟨_, _, _, _, _, _, rfl, hM9, h9', h8', by omega⟩⟩
                          · exact wpS_pure ⟨hS4, _, _, _, _, _, _, rfl, hM9, h9', h8', by omega⟩
                    · rw [if_neg h7]
                      have z2 : k2 = 0 := by omega
                      subst z2
                      refine wpS_bind (elemG e4 ?_)
                      have hM9 := hM6.pushA P e4 (fun j a1 a2 => up j (by omega) a2)
                      by_cases h9 : (ia + 1 + 1 == a.size) = true
                      · rw [if_pos h9]
                        exact wpS_pure ⟨hS4, .inl ⟨_, _, rfl, hM9.lastA P (by simpa using h9) hl⟩⟩
                      · rw [if_neg h9]
                        have h9' : ia + 1 + 1 < a.size := Nat.lt_of_le_of_ne (by omega) (by simpa using h9)
                        split
                        · exact wpS_pure ⟨hS4, .inr ⟨_, _, _, _, _, _, rfl, hM9, h9', h6', by omega⟩⟩
                        · exact wpS_pure ⟨hS4, _, _, _, _, _, _, rfl, hM9, h9', h6', by omega⟩
end
end HS
namespace HS
open PySem PyProof.Rows
structure Mh (A B O : List Keyed) (na nb : Nat) : Prop where
  perm : (A.take na ++ B.take nb ++ O).Perm (A ++ B)
  srt : O.Pairwise Le
  toA : ∀ x ∈ A.take na, ∀ y ∈ O, Le x y
  toB : ∀ x ∈ B.take nb, ∀ y ∈ O, Le x y
theorem take_split (A : List Keyed) (i k : Nat) : A.take (i + k) = A.take i ++ (A.drop i).take k := by rw [List.take_add]
theorem pw_cut {A : List Keyed} (h : A.Pairwise Le) (i k : Nat) : ∀ x ∈ A.take i, ∀ y ∈ (A.drop i).take k, Le x y := by
  rw [← List.take_append_drop i A] at h
  have h2 := (List.pairwise_append.mp h).2.2
  intro x hx y hy
  exact h2 x hx y (List.mem_of_mem_take hy)
theorem Mh.takeA {A B O : List Keyed} {i k nb : Nat} (h : Mh A B O (i + k) nb) (hA : A.Pairwise Le) (hxx : ∀ x ∈ B.take nb, ∀ y ∈ (A.drop i).take k, Le x y) : Mh A B ((A.drop i).take k ++ O) i nb where
  perm := by
    refine List.Perm.trans ?_ h.perm
    rw [take_split]
    simp only [List.append_assoc]
    refine List.Perm.append_left _ ?_
    rw [← List.append_assoc, ← List.append_assoc]
    exact List.Perm.append_right _ List.perm_append_comm
  srt := List.pairwise_append.mpr ⟨(hA.drop).take, h.srt, fun x hx y hy => h.toA x (by rw [take_split]; exact List.mem_append_right _ hx) y hy⟩
  toA := fun x hx y hy => by
    rcases List.mem_append.mp hy with q | q
    · exact pw_cut hA i k x hx y q
    · exact h.toA x (by rw [take_split]; exact List.mem_append_left _ hx) y q
  toB := fun x hx y hy => by
    rcases List.mem_append.mp hy with q | q
    · exact hxx x hx y q
    · exact h.toB x hx y q
theorem Mh.takeB {A B O : List Keyed} {na i k : Nat} (h : Mh A B O na (i + k)) (hB : B.Pairwise Le) (hxx : ∀ x ∈ A.take na, ∀ y ∈ (B.drop i).take k, Le x y) : Mh A B ((B.drop i).take k ++ O) na i where
  perm := by
    refine List.Perm.trans ?_ h.perm
    rw [take_split]
    simp only [List.append_assoc]
    exact .refl _
  srt := List.pairwise_append.mpr ⟨(hB.drop).take, h.srt, fun x hx y hy => h.toB x (by rw [take_split]; exact List.mem_append_right _ hx) y hy⟩
  toB := fun x hx y hy => by
    rcases List.mem_append.mp hy with q | q
    · exact pw_cut hB i k x hx y q
    · exact h.toB x (by rw [take_split]; exact List.mem_append_left _ hx) y q
  toA := fun x hx y hy => by
    rcases List.mem_append.mp hy with q | q
    · exact hxx x hx y q
    · exact h.toA x hx y q
theorem Mh.doneA {A B O : List Keyed} {na nb : Nat} (h : Mh A B O na nb) (hB : B.Pairwise Le) (e : na = 0) : Mgd A B (A.take na ++ B.take nb ++ O) := by
  refine ⟨h.perm, ?_⟩
  subst e
  rw [List.take_zero, List.nil_append]
  exact List.pairwise_append.mpr ⟨hB.take, h.srt, h.toB⟩
theorem Mh.doneB {A B O : List Keyed} {na nb : Nat} (h : Mh A B O na nb) (hA : A.Pairwise Le) (e : nb = 0) : Mgd A B (A.take na ++ B.take nb ++ O) := by
  refine ⟨h.perm, ?_⟩
  subst e
  rw [List.take_zero, List.append_nil]
  exact List.pairwise_append.mpr ⟨hA.take, h.srt, h.toA⟩
theorem Mh.first {A B O : List Keyed} {na nb : Nat} (h : Mh A B O na nb) (hA : A.Pairwise Le) (hB : B.Pairwise Le) (hl : ∀ x ∈ B.take nb, ∀ y ∈ A, Le x y) : Mgd A B (B.take nb ++ A.take na ++ O) := by
  refine ⟨?_, ?_⟩
  · refine List.Perm.trans ?_ h.perm
    exact List.Perm.append_right _ List.perm_append_comm
  · refine List.pairwise_append.mpr ⟨List.pairwise_append.mpr ⟨hB.take, hA.take, fun x hx y hy => hl x hx y (List.mem_of_mem_take hy)⟩, h.srt, fun x hx y hy => ?_⟩
    rcases List.mem_append.mp hx with q | q
    · exact h.toB x q y hy
    · exact h.toA x q y hy
theorem mem_head {xs : Array Keyed} {n : Nat} {x : Keyed} (h : x ∈ xs.toList.take n) : ∃ j, j < n ∧ j < xs.size ∧ kk x = K xs j := by
  obtain ⟨j, h1, h2, h3⟩ := mem_cut (i := 0) (k := n) (by simpa using h)
  exact ⟨j, h1, by omega, by simpa using h3⟩
theorem ext_head (xs : Array Keyed) (n : Nat) : (xs.extract 0 n).toList = xs.toList.take n := by
  have := ext_cut xs 0 n
  simpa using this
section
variable {prog : Program} {w : World} {A : Around} {E : Value → Shared → Prop} {s : Shared} {a₀ : Array Keyed}
noncomputable def mergeHi' : Array Keyed → Array Keyed → StateT SortSt Sem (Array Keyed) := sortPriv% PySem.Builtin.mergeHi
abbrev MH (a b out : Array Keyed) (na nb : Nat) : Prop := Mh a.toList b.toList out.toList.reverse na nb
theorem MH.pushA {a b out : Array Keyed} {i nb : Nat} {p : Keyed} (h : MH a b out (i + 1) nb) (P : Pre a b) (e : a[i]? = some p) (hl : ∀ j, j < nb → j < b.size → K b j ≤ K a i) : MH a b (out.push p) i nb := by
  have := Mh.takeA (k := 1) h P.pa (fun x hx y hy => by
    rw [one_cut e] at hy
    obtain ⟨j, h1, h2, h3⟩ := mem_head hx
    have ey : y = p := by simpa using hy
    have := hl j h1 h2
    rw [K_at e] at this
    unfold Le
    rw [h3, ey]
    exact this)
  rw [one_cut e] at this
  unfold MH
  rw [Array.toList_push, List.reverse_append]
  exact this
theorem MH.pushB {a b out : Array Keyed} {na i : Nat} {p : Keyed} (h : MH a b out na (i + 1)) (P : Pre a b) (e : b[i]? = some p) (hl : ∀ j, j < na → j < a.size → K a j ≤ K b i) : MH a b (out.push p) na i := by
  have := Mh.takeB (k := 1) h P.pb (fun x hx y hy => by
    rw [one_cut e] at hy
    obtain ⟨j, h1, h2, h3⟩ := mem_head hx
    have ey : y = p := by simpa using hy
    have := hl j h1 h2
    rw [K_at e] at this
    unfold Le
    rw [h3, ey]
    exact this)
  rw [one_cut e] at this
  unfold MH
  rw [Array.toList_push, List.reverse_append]
  exact this
theorem MH.cutA {a b out : Array Keyed} {i na nb : Nat} (h : MH a b out na nb) (P : Pre a b) (hi : i ≤ na) (hl : ∀ c, i ≤ c → c < na → c < a.size → ∀ j, j < nb → j < b.size → K b j ≤ K a c) : MH a b (out ++ (a.extract i na).reverse) i nb := by
  obtain ⟨k, rfl⟩ : ∃ k, na = i + k := ⟨na - i, by omega⟩
  have := Mh.takeA (k := k) h P.pa (fun x hx y hy => by
    obtain ⟨c, h1, h2, h3⟩ := mem_cut hy
    obtain ⟨j, h4, h5, h6⟩ := mem_head hx
    unfold Le
    rw [h3, h6]
    exact hl (i + c) (by omega) (by omega) h2 j h4 h5)
  unfold MH
  rw [Array.toList_append, Array.toList_reverse, List.reverse_append, List.reverse_reverse, ext_cut]
  exact this
theorem MH.cutB {a b out : Array Keyed} {i na nb : Nat} (h : MH a b out na nb) (P : Pre a b) (hi : i ≤ nb) (hl : ∀ c, i ≤ c → c < nb → c < b.size → ∀ j, j < na → j < a.size → K a j ≤ K b c) : MH a b (out ++ (b.extract i nb).reverse) na i := by
  obtain ⟨k, rfl⟩ : ∃ k, nb = i + k := ⟨nb - i, by omega⟩
  have := Mh.takeB (k := k) h P.pb (fun x hx y hy => by
    obtain ⟨c, h1, h2, h3⟩ := mem_cut hy
    obtain ⟨j, h4, h5, h6⟩ := mem_head hx
    unfold Le
    rw [h3, h6]
    exact hl (i + c) (by omega) (by omega) h2 j h4 h5)
  unfold MH
  rw [Array.toList_append, Array.toList_reverse, List.reverse_append, List.reverse_reverse, ext_cut]
  exact this
theorem MH.endA {a b out : Array Keyed} {na nb : Nat} (h : MH a b out na nb) (P : Pre a b) (e : na = 0) : Mgd a.toList b.toList (a.extract 0 na ++ b.extract 0 nb ++ out.reverse).toList := by
  rw [Array.toList_append, Array.toList_append, ext_head, ext_head, Array.toList_reverse]
  exact Mh.doneA h P.pb e
theorem MH.endB {a b out : Array Keyed} {na nb : Nat} (h : MH a b out na nb) (P : Pre a b) (e : nb = 0) : Mgd a.toList b.toList (a.extract 0 na ++ b.extract 0 nb ++ out.reverse).toList := by
  rw [Array.toList_append, Array.toList_append, ext_head, ext_head, Array.toList_reverse]
  exact Mh.doneB h P.pa e
theorem MH.fst {a b out : Array Keyed} {na nb : Nat} (h : MH a b out na nb) (P : Pre a b) (e : nb = 1) (hf : K b 0 < K a 0) : Mgd a.toList b.toList (b.extract 0 nb ++ a.extract 0 na ++ out.reverse).toList := by
  rw [Array.toList_append, Array.toList_append, ext_head, ext_head, Array.toList_reverse]
  refine Mh.first h P.pa P.pb fun x hx y hy => ?_
  obtain ⟨j, h1, h2, h3⟩ := mem_head hx
  obtain ⟨i, h4, h5, h6⟩ := mem_tail (i := 0) (by simpa using hy)
  have : j = 0 := by omega
  subst this
  have := P.sa 0 i (by omega) (by omega) h5
  unfold Le
  rw [h3, h6]
  omega
theorem MH.pushA1 {a b out : Array Keyed} {na nb : Nat} {p : Keyed} (h : MH a b out na nb) (P : Pre a b) (h0 : 0 < na) (e : a[na - 1]? = some p) (hl : ∀ j, j < nb → j < b.size → K b j ≤ K a (na - 1)) : MH a b (out.push p) (na - 1) nb := by
  have q : na - 1 + 1 = na := by omega
  exact MH.pushA (i := na - 1) (by rw [q]; exact h) P e hl
theorem MH.pushB1 {a b out : Array Keyed} {na nb : Nat} {p : Keyed} (h : MH a b out na nb) (P : Pre a b) (h0 : 0 < nb) (e : b[nb - 1]? = some p) (hl : ∀ j, j < na → j < a.size → K a j ≤ K b (nb - 1)) : MH a b (out.push p) na (nb - 1) := by
  have q : nb - 1 + 1 = nb := by omega
  exact MH.pushB (i := nb - 1) (by rw [q]; exact h) P e hl
theorem mergeHiG {a b : Array Keyed} {st : SortSt} {Q : Array Keyed → SortSt → Prop} (hk : kindOf st = oneType') (P : Pre a b) (hf : K b 0 < K a 0) (hl : ∀ j, j < b.size → K b j ≤ K a (a.size - 1))
    (h : ∀ r st', SameG st st' → Mgd a.toList b.toList r.toList → Q r st') : wpS (model prog w) A E s (mergeHi' a b) Q st := by
  unfold mergeHi'
  refine wpS_bind (wpS_lift (wpAny_rule ⟨rfl, ?_⟩))
  have na0 := P.na
  have nb0 := P.nb
  obtain ⟨t0, q0, e0⟩ := P.ka (a.size - 1) (by omega)
  have M0 : MH a b #[] a.size b.size := by
    refine ⟨?_, by simp, by simp, by simp⟩
    have q1 : a.toList.take a.size = a.toList := List.take_of_length_le (by simp)
    have q2 : b.toList.take b.size = b.toList := List.take_of_length_le (by simp)
    rw [q1, q2]
    simp
  have M1 : MH a b #[(Value.int (K a (a.size - 1)) t0, q0)] (a.size - 1) b.size := M0.pushA1 P na0 e0 fun j _ h2 => hl j h2
  refine wpS_bind (elemG e0 ?_)
  dsimp only
  by_cases h1 : (a.size - 1 == 0) = true
  · rw [if_pos h1]
    exact wpS_pure (h _ _ .re (M1.endA P (by simpa using h1)))
  · rw [if_neg h1]
    by_cases h2 : (b.size == 1) = true
    · rw [if_pos h2]
      exact wpS_pure (h _ _ .re (M1.fst P (by simpa using h2) hf))
    · rw [if_neg h2]
      refine wpS_bind (wpS_get ?_)
      have b1 : ¬ b.size = 1 := by simpa using h2
      have b2 : 0 < a.size - 1 := Nat.lt_of_le_of_ne (by omega) (fun q => h1 (by rw [← q]; rfl))
      refine wpS_bind (wpS_mono (wpS_forRange (I := fun x c st' => SameG st st' ∧ ∃ na nb out mg, c = (none, na, nb, out, mg) ∧ MH a b out na nb ∧ 0 < na ∧ na ≤ a.size ∧ 1 < nb ∧ nb ≤ b.size ∧ x + 1 + na + nb ≤ a.size + b.size)
        (Q := fun c st' => SameG st st' ∧ ∃ r o, c = (some r, o) ∧ Mgd a.toList b.toList r.toList) ?one ?two ⟨.re, _, _, _, _, rfl, M1, b2, by omega, by omega, by omega, by omega⟩) ?fin)
      case two =>
        rintro c st' ⟨hS, na, nb, out, mg, rfl, hM, h3, h3', h4, h4', h5⟩
        omega
      case fin =>
        rintro c st' ⟨hS, r, o, rfl, hR⟩
        exact wpS_pure (h _ _ hS hR)
      case one =>
        rintro x c st' _ hx ⟨hS, na, nb, out, mg, rfl, hM, h3, h3', h4, h4', h5⟩
        dsimp only
        refine wpS_bind (wpS_mono (wpS_forRange (I := fun y c st2 => SameG st st2 ∧ ∃ na nb out ac bc, c = (none, na, nb, out, ac, bc) ∧ MH a b out na nb ∧ 0 < na ∧ na ≤ a.size ∧ 1 < nb ∧ nb ≤ b.size ∧ x + 1 + y + na + nb ≤ a.size + b.size)
          (Q := fun c st2 => SameG st st2 ∧ ((∃ r o, c = (some r, o) ∧ Mgd a.toList b.toList r.toList) ∨ ∃ na nb out ac bc, c = (none, na, nb, out, ac, bc) ∧ MH a b out na nb ∧ 0 < na ∧ na ≤ a.size ∧ 1 < nb ∧ nb ≤ b.size ∧ x + 2 + na + nb ≤ a.size + b.size)) ?jone ?jtwo ⟨hS, na, nb, out, 0, 0, rfl, hM, h3, h3', h4, h4', by omega⟩) ?jfin)
        case jtwo =>
          rintro c st2 ⟨hS2, na, nb, out, ac, bc, rfl, hM, h3, h3', h4, h4', h5⟩
          omega
        case jone =>
          rintro y c st2 _ hy ⟨hS2, na, nb, out, ac, bc, rfl, hM, h3, h3', h4, h4', h5⟩
          dsimp only
          obtain ⟨t1, q1, e1⟩ := P.kb (nb - 1) (by omega)
          obtain ⟨t2, q2, e2⟩ := P.ka (na - 1) (by omega)
          refine wpS_bind (elemG e1 (wpS_bind (elemG e2 (wpS_bind (lt2 (hS2.kind.trans hk) ?_)))))
          dsimp only
          by_cases hw : K b (nb - 1) < K a (na - 1)
          · simp only [hw, decide_true, if_true]
            refine wpS_bind (elemG e2 ?_)
            have hM2 := hM.pushA1 P h3 e2 fun j a1 a2 => Int.le_trans (P.sb j (nb - 1) (by omega) (by omega) (by omega)) (Int.le_of_lt hw)
            by_cases h6 : (na - 1 == 0) = true
            · rw [if_pos h6]
              exact wpS_pure ⟨hS2, .inl ⟨_, _, rfl, hM2.endA P (by simpa using h6)⟩⟩
            · rw [if_neg h6]
              have h6' : 0 < na - 1 := Nat.lt_of_le_of_ne (by omega) (fun q => h6 (by rw [← q]; rfl))
              split
              · exact wpS_pure ⟨hS2, .inr ⟨_, _, _, _, _, rfl, hM2, h6', by omega, h4, h4', by omega⟩⟩
              · exact wpS_pure ⟨hS2, _, _, _, _, _, rfl, hM2, h6', by omega, h4, h4', by omega⟩
          · simp only [hw, decide_false, Bool.false_eq_true, if_false]
            refine wpS_bind (elemG e1 ?_)
            have hM2 := hM.pushB1 P (by omega) e1 fun j a1 a2 => Int.le_trans (P.sa j (na - 1) (by omega) (by omega) (by omega)) (Int.not_lt.mp hw)
            by_cases h6 : (nb - 1 == 1) = true
            · rw [if_pos h6]
              exact wpS_pure ⟨hS2, .inl ⟨_, _, rfl, hM2.fst P (by simpa using h6) hf⟩⟩
            · rw [if_neg h6]
              have h6' : ¬ nb - 1 = 1 := by simpa using h6
              split
              · exact wpS_pure ⟨hS2, .inr ⟨_, _, _, _, _, rfl, hM2, h3, h3', by omega, by omega, by omega⟩⟩
              · exact wpS_pure ⟨hS2, _, _, _, _, _, rfl, hM2, h3, h3', by omega, by omega, by omega⟩
        case jfin =>
          rintro c st2 ⟨hS2, ⟨r, o, rfl, hR⟩ | ⟨na, nb, out, ac, bc, rfl, hM, h3, h3', h4, h4', h5⟩⟩
          · dsimp only
            exact wpS_pure ⟨hS2, r, _, rfl, hR⟩
          · dsimp only
            refine wpS_bind (wpS_lift (wpAny_rule ⟨rfl, ?_⟩))
            refine wpS_bind (wpS_mono (wpS_forRange (I := fun y c st3 => SameG st st3 ∧ ∃ na nb out m1 ac bc, c = (none, na, nb, out, m1, ac, bc) ∧ MH a b out na nb ∧ 0 < na ∧ na ≤ a.size ∧ 1 < nb ∧ nb ≤ b.size ∧ x + 2 + y + na + nb ≤ a.size + b.size)
              (Q := fun c st3 => SameG st st3 ∧ ((∃ r o, c = (some r, o) ∧ Mgd a.toList b.toList r.toList) ∨ ∃ na nb out m1 ac bc, c = (none, na, nb, out, m1, ac, bc) ∧ MH a b out na nb ∧ 0 < na ∧ na ≤ a.size ∧ 1 < nb ∧ nb ≤ b.size ∧ x + 2 + na + nb ≤ a.size + b.size)) ?kone ?ktwo ⟨hS2, na, nb, out, _, ac, bc, rfl, hM, h3, h3', h4, h4', by omega⟩) ?kfin)
            case ktwo =>
              rintro c st3 ⟨hS3, na, nb, out, m1, ac, bc, rfl, hM, h3, h3', h4, h4', h5⟩
              omega
            case kfin =>
              rintro c st3 ⟨hS3, ⟨r, o, rfl, hR⟩ | ⟨na, nb, out, m1, ac, bc, rfl, hM, h3, h3', h4, h4', h5⟩⟩
              · dsimp only
                exact wpS_pure ⟨hS3, r, _, rfl, hR⟩
              · dsimp only
                exact wpS_bind (smG fun st4 hS4 => wpS_pure ⟨hS3.tr hS4, na, nb, out, _, rfl, hM, h3, h3', h4, h4', by omega⟩)
            case kone =>
              rintro y c st3 _ hy ⟨hS3, na, nb, out, m1, ac, bc, rfl, hM, h3, h3', h4, h4', h5⟩
              dsimp only
              obtain ⟨t3, q3, e3⟩ := P.kb (nb - 1) (by omega)
              by_cases hg : m1 > 1
              case' pos => rw [if_pos hg]
              case' neg => rw [if_neg hg]
              all_goals
                refine wpS_bind (smG fun st4 hS34 => ?_)
                have hS4 := hS3.tr hS34
                refine wpS_bind (elemG e3 ?_)
                refine wpS_bind (gallopG (hS4.kind.trans hk) P.ka (by omega) (by omega) (P.sa.sub (by omega) (by omega)) fun k g1 g2 g3 => ?_)
                dsimp only
                have dnA : ∀ j, j < k → j < a.size → K a j ≤ K b (nb - 1) := fun j a1 a2 => by
                  have r1 := bey_yes (g2 j a1)
                  rwa [Nat.zero_add] at r1
                have upA : ∀ c, k ≤ c → c < na → ∀ j, j < nb → j < b.size → K b j ≤ K a c := fun c a1 a2 j a3 a4 => by
                  have r1 := bey_no (g3 c a1 a2)
                  rw [Nat.zero_add] at r1
                  exact Int.le_trans (P.sb j (nb - 1) (by omega) (by omega) (by omega)) (Int.le_of_lt r1)
                by_cases hk0 : na - k > 0
                · rw [if_pos hk0]
                  have hM5 := hM.cutA (i := k) P (by omega) fun c a1 a2 _ j a3 a4 => upA c a1 a2 j a3 a4
                  by_cases h6 : (k == 0) = true
                  · rw [if_pos h6]
                    exact wpS_pure ⟨hS4, .inl ⟨_, _, rfl, hM5.endA P (by simpa using h6)⟩⟩
                  · rw [if_neg h6]
                    have k0' : ¬ k = 0 := by simpa using h6
                    refine wpS_bind (elemG e3 ?_)
                    have hM6 := hM5.pushB1 P (by omega) e3 dnA
                    by_cases h6 : (nb - 1 == 1) = true
                    · rw [if_pos h6]
                      exact wpS_pure ⟨hS4, .inl ⟨_, _, rfl, hM6.fst P (by simpa using h6) hf⟩⟩
                    · rw [if_neg h6]
                      have h6' : ¬ nb - 1 = 1 := by simpa using h6
                      obtain ⟨t4, q4, e4⟩ := P.ka (k - 1) (by omega)
                      refine wpS_bind (elemG e4 ?_)
                      refine wpS_bind (gallopG (hS4.kind.trans hk) P.kb (by omega) (by omega) (P.sb.sub (by omega) (by omega)) fun k2 c1 c2 c3 => ?_)
                      dsimp only
                      have up : ∀ c, k2 ≤ c → c < nb - 1 → ∀ j, j < k → j < a.size → K a j ≤ K b c := fun c a1 a2 j a3 a4 => by
                        have r1 := bel_no (c3 c a1 a2)
                        rw [Nat.zero_add] at r1
                        exact Int.le_trans (P.sa j (k - 1) (by omega) (by omega) (by omega)) r1
                      have dn : ∀ j, j < k2 → j < b.size → K b j ≤ K a (k - 1) := fun j a1 a2 => by
                        have r1 := bel_yes (c2 j a1)
                        rw [Nat.zero_add] at r1
                        exact Int.le_of_lt r1
                      by_cases h7 : nb - 1 - k2 > 0
                      · rw [if_pos h7]
                        have hM7 := hM6.cutB (i := k2) P (by omega) fun c a1 a2 _ j a3 a4 => up c a1 a2 j a3 a4
                        by_cases h8 : (k2 == 1) = true
                        · rw [if_pos h8]
                          exact wpS_pure ⟨hS4, .inl ⟨_, _, rfl, hM7.fst P (by simpa using h8) hf⟩⟩
                        · rw [if_neg h8]
                          by_cases h10 : (k2 == 0) = true
                          · rw [if_pos h10]
                            exact wpS_pure ⟨hS4, .inl ⟨_, _, rfl, hM7.endB P (by simpa using h10)⟩⟩
                          · rw [if_neg h10]
                            have h8' : ¬ k2 = 1 := by simpa using h8
                            have h10' : ¬ k2 = 0 := by simpa using h10
                            refine wpS_bind (elemG e4 ?_)
                            have hM9 := hM7.pushA1 P (by omega) e4 dn
                            by_cases h9 : (k - 1 == 0) = true
                            · rw [if_pos h9]
                              exact wpS_pure ⟨hS4, .inl ⟨_, _, rfl, hM9.endA P (by simpa using h9)⟩⟩
                            · rw [if_neg h9]
                              have h9' : 0 < k - 1 := Nat.lt_of_le_of_ne (by omega) (fun q => h9 (by rw [← q]; rfl))
                              split
                              · exact wpS_pure ⟨hS4, .inr ⟨_, _, _, _, _, _, rfl, hM9, h9', by omega, by omega, by omega, by omega⟩⟩
                              · exact wpS_pure ⟨hS4, _, _, _, _, _, _, rfl, hM9, h9', by omega, by omega, by omega, by omega⟩
                      · rw [if_neg h7]
                        have z2 : k2 = nb - 1 := by omega
                        refine wpS_bind (elemG e4 ?_)
                        have hM9 := hM6.pushA1 P (by omega) e4 (fun j a1 a2 => dn j (by omega) a2)
                        by_cases h9 : (k - 1 == 0) = true
                        · rw [if_pos h9]
                          exact wpS_pure ⟨hS4, .inl ⟨_, _, rfl, hM9.endA P (by simpa using h9)⟩⟩
                        · rw [if_neg h9]
                          have h9' : 0 < k - 1 := Nat.lt_of_le_of_ne (by omega) (fun q => h9 (by rw [← q]; rfl))
                          split
                          · exact wpS_pure ⟨hS4, .inr ⟨_, _, _, _, _, _, rfl, hM9, h9', by omega, by omega, by omega, by omega⟩⟩
                          · exact wpS_pure ⟨hS4, _, _, _, _, _, _, rfl, hM9, h9', by omega, by omega, by omega, by omega⟩
                · rw [if_neg hk0]
                  have z1 : k = na := by omega
                  subst z1
                  refine wpS_bind (elemG e3 ?_)
                  have hM6 := hM.pushB1 P (by omega) e3 dnA
                  by_cases h6 : (nb - 1 == 1) = true
                  · rw [if_pos h6]
                    exact wpS_pure ⟨hS4, .inl ⟨_, _, rfl, hM6.fst P (by simpa using h6) hf⟩⟩
                  · rw [if_neg h6]
                    have h6' : ¬ nb - 1 = 1 := by simpa using h6
                    obtain ⟨t4, q4, e4⟩ := P.ka (k - 1) (by omega)
                    refine wpS_bind (elemG e4 ?_)
                    refine wpS_bind (gallopG (hS4.kind.trans hk) P.kb (by omega) (by omega) (P.sb.sub (by omega) (by omega)) fun k2 c1 c2 c3 => ?_)
                    dsimp only
                    have up : ∀ c, k2 ≤ c → c < nb - 1 → ∀ j, j < k → j < a.size → K a j ≤ K b c := fun c a1 a2 j a3 a4 => by
                      have r1 := bel_no (c3 c a1 a2)
                      rw [Nat.zero_add] at r1
                      exact Int.le_trans (P.sa j (k - 1) (by omega) (by omega) (by omega)) r1
                    have dn : ∀ j, j < k2 → j < b.size → K b j ≤ K a (k - 1) := fun j a1 a2 => by
                      have r1 := bel_yes (c2 j a1)
                      rw [Nat.zero_add] at r1
                      exact Int.le_of_lt r1
                    by_cases h7 : nb - 1 - k2 > 0
                    · rw [if_pos h7]
                      have hM7 := hM6.cutB (i := k2) P (by omega) fun c a1 a2 _ j a3 a4 => up c a1 a2 j a3 a4
                      by_cases h8 : (k2 == 1) = true
                      · rw [if_pos h8]
                        exact wpS_pure ⟨hS4, .inl ⟨_, _, rfl, hM7.fst P (by simpa using h8) hf⟩⟩
                      · rw [if_neg h8]
                        by_cases h10 : (k2 == 0) = true
                        · rw [if_pos h10]
                          exact wpS_pure ⟨hS4, .inl ⟨_, _, rfl, hM7.endB P (by simpa using h10)⟩⟩
                        · rw [if_neg h10]
                          have h8' : ¬ k2 = 1 := by simpa using h8
                          have h10' : ¬ k2 = 0 := by simpa using h10
                          refine wpS_bind (elemG e4 ?_)
                          have hM9 := hM7.pushA1 P (by omega) e4 dn
                          by_cases h9 : (k - 1 == 0) = true
                          · rw [if_pos h9]
                            exact wpS_pure ⟨hS4, .inl ⟨_, _, rfl, hM9.endA P (by simpa using h9)⟩⟩
                          · rw [if_neg h9]
                            have h9' : 0 < k - 1 := Nat.lt_of_le_of_ne (by omega) (fun q => h9 (by rw [← q]; rfl))
                            split
                            · exact wpS_pure ⟨hS4, .inr ⟨_, _, _, _, _, _, rfl, hM9, h9', by omega, by omega, by omega, by omega⟩⟩
                            · exact wpS_pure ⟨hS4, _, _, _, _, _, _, rfl, hM9, h9', by omega, by omega, by omega, by omega⟩
                    · rw [if_neg h7]
                      have z2 : k2 = nb - 1 := by omega
                      refine wpS_bind (elemG e4 ?_)
                      have hM9 := hM6.pushA1 P (by omega) e4 (fun j a1 a2 => dn j (by omega) a2)
                      by_cases h9 : (k - 1 == 0) = true
                      · rw [if_pos h9]
                        exact wpS_pure ⟨hS4, .inl ⟨_, _, rfl, hM9.endA P (by simpa using h9)⟩⟩
                      · rw [if_neg h9]
                        have h9' : 0 < k - 1 := Nat.lt_of_le_of_ne (by omega) (fun q => h9 (by rw [← q]; rfl))
                        split
                        · exact wpS_pure ⟨hS4, .inr ⟨_, _, _, _, _, _, rfl, hM9, h9', by omega, by omega, by omega, by omega⟩⟩
                        · exact wpS_pure ⟨hS4, _, _, _, _, _, _, rfl, hM9, h9', by omega, by omega, by omega, by omega⟩
end
end HS
namespace HS
open PySem PyProof.Rows
theorem wb_list (s : Nat) : ∀ (m : List Keyed) (k : Nat) (xs : Array Keyed), s + k + m.length ≤ xs.size → ((m.zipIdx k).foldl (fun a (p : Keyed × Nat) => a.setIfInBounds (s + p.2) p.1) xs).toList = xs.toList.take (s + k) ++ m ++ xs.toList.drop (s + k + m.length)
  | [], k, xs, h => by simp
  | p :: m, k, xs, h => by
    simp only [List.length_cons] at h
    rw [List.zipIdx_cons, List.foldl_cons, wb_list s m (k + 1) _ (by rw [Array.size_setIfInBounds]; omega)]
    have hlt : s + k < xs.toList.length := by simp; omega
    rw [Array.toList_setIfInBounds]
    have e1 : s + (k + 1) = s + k + 1 := by omega
    rw [e1, List.take_succ, List.take_set_of_le (Nat.le_refl _)]
    simp only [List.getElem?_set_self hlt, Option.toList_some, List.append_assoc, List.cons_append, List.nil_append, List.length_cons]
    congr 3
    rw [List.drop_set_of_lt (by omega)]
    congr 1
    omega
structure Wb (xs ys : Array Keyed) (lo hi : Nat) : Prop where
  perm : ys.Perm xs
  out : Out lo hi xs ys
  src : ∀ q, lo ≤ q → q < hi → ∃ r, lo ≤ r ∧ r < hi ∧ K ys q = K xs r
  srt : Srt ys lo hi
theorem wb_ok {xs ys : Array Keyed} {lo mid n : Nat} {m : List Keyed} (h1 : lo ≤ mid) (h2 : mid + n ≤ xs.size) (hm : Mgd (xs.extract lo mid).toList (xs.extract mid (mid + n)).toList m) (hy : ys.toList = xs.toList.take lo ++ m ++ xs.toList.drop (lo + m.length)) : Wb xs ys lo (mid + n) := by
  obtain ⟨k, rfl⟩ : ∃ k, mid = lo + k := ⟨mid - lo, by omega⟩
  rw [ext_cut, ext_cut] at hm
  have hw : (xs.toList.drop lo).take k ++ (xs.toList.drop (lo + k)).take n = (xs.toList.drop lo).take (k + n) := by rw [List.take_add, List.drop_drop]
  have hml : m.length = k + n := by
    have := hm.1.length_eq
    rw [hw] at this
    simp only [List.length_take, List.length_drop, Array.length_toList] at this
    omega
  have hL : xs.toList = xs.toList.take lo ++ (xs.toList.drop lo).take (k + n) ++ xs.toList.drop (lo + m.length) := by
    rw [hml, List.append_assoc, ← List.drop_drop, List.take_append_drop, List.take_append_drop]
  have hlo : (xs.toList.take lo).length = lo := by simp; omega
  have g1 : ∀ q, lo ≤ q → q < lo + (k + n) → ys[q]? = m[q - lo]? := fun q a b => by
    have : ys.toList[q]? = m[q - lo]? := by
      rw [hy, List.getElem?_append_left (by rw [List.length_append, hlo]; omega), List.getElem?_append_right (by rw [hlo]; exact a), hlo]
    simpa using this
  refine ⟨?_, ?_, ?_, ?_⟩
  · rw [Array.perm_iff_toList_perm, hy]
    conv => rhs; rw [hL]
    refine List.Perm.append_right _ (List.Perm.append_left _ ?_)
    rw [← hw]
    exact hm.1
  · intro q hq
    have : ys.toList[q]? = xs.toList[q]? := by
      rw [hy]
      by_cases hlt : q < lo
      · rw [List.append_assoc, List.getElem?_append_left (by rw [hlo]; exact hlt), List.getElem?_take_of_lt hlt]
      · rw [List.getElem?_append_right (by rw [List.length_append, hlo]; omega), List.getElem?_drop, List.length_append, hlo]
        congr 1
        omega
    simpa using this
  · intro q a b
    have hq : q - lo < m.length := by omega
    have e := g1 q a (by omega)
    rw [List.getElem?_eq_getElem hq] at e
    have hmem : m[q - lo] ∈ (xs.toList.drop lo).take (k + n) := by
      rw [← hw]; exact hm.1.mem_iff.mp (List.getElem_mem hq)
    obtain ⟨j, c1, c2, c3⟩ := mem_cut hmem
    exact ⟨lo + j, by omega, by omega, by rw [K_at e]; exact c3⟩
  · intro i j a b c
    have hi : i - lo < m.length := by omega
    have hj : j - lo < m.length := by omega
    have e1 := g1 i a (by omega)
    have e2 := g1 j (by omega) (by omega)
    rw [List.getElem?_eq_getElem hi] at e1
    rw [List.getElem?_eq_getElem hj] at e2
    rw [K_at e1, K_at e2]
    by_cases hij : i = j
    · subst hij; exact Int.le_refl _
    · exact (List.pairwise_iff_getElem.mp hm.2) (i - lo) (j - lo) hi hj (by omega)
theorem Out.K {lo hi q : Nat} {xs ys : Array Keyed} (h : Out lo hi xs ys) (hq : ¬ (lo ≤ q ∧ q < hi)) : PyProof.Rows.K ys q = PyProof.Rows.K xs q := K_congr (h q hq)
theorem wb_all {xs ys : Array Keyed} {sa lo hi e : Nat} (W : Wb xs ys lo hi) (h1 : sa ≤ lo) (h2 : lo ≤ hi) (h3 : hi ≤ e) (sA : ∀ i j, sa ≤ i → i ≤ j → j < lo → K xs i ≤ K xs j) (sB : ∀ i j, hi ≤ i → i ≤ j → j < e → K xs i ≤ K xs j)
    (lw : ∀ i r, sa ≤ i → i < lo → lo ≤ r → r < hi → K xs i ≤ K xs r) (up : ∀ r j, lo ≤ r → r < hi → hi ≤ j → j < e → K xs r ≤ K xs j) (lu : ∀ i j, sa ≤ i → i < lo → hi ≤ j → j < e → K xs i ≤ K xs j) : Srt ys sa e := by
  intro i j a b c
  by_cases hi1 : i < lo
  · rw [W.out.K (q := i) (by omega)]
    by_cases hj1 : j < lo
    · rw [W.out.K (q := j) (by omega)]; exact sA i j a b hj1
    · by_cases hj2 : j < hi
      · obtain ⟨r, r1, r2, r3⟩ := W.src j (by omega) hj2
        rw [r3]; exact lw i r a hi1 r1 r2
      · rw [W.out.K (q := j) (by omega)]; exact lu i j a hi1 (by omega) c
  · by_cases hi2 : i < hi
    · by_cases hj2 : j < hi
      · exact W.srt i j (by omega) b hj2
      · obtain ⟨r, r1, r2, r3⟩ := W.src i (by omega) hi2
        rw [r3, W.out.K (q := j) (by omega)]; exact up r j r1 r2 (by omega) c
    · rw [W.out.K (q := i) (by omega), W.out.K (q := j) (by omega)]; exact sB i j (by omega) b c
section
variable {prog : Program} {w : World} {A : Around} {E : Value → Shared → Prop} {s : Shared} {a₀ : Array Keyed}
theorem setG {x st : SortSt} {Q : PUnit → SortSt → Prop} (h : Q ⟨⟩ x) : wpS (model prog w) A E s (set x : StateT SortSt Sem PUnit) Q st := by
  unfold wpS; rw [StateT.run_set]; exact wpAny_pure ⟨rfl, h⟩
noncomputable abbrev joinP (p : Array (Nat × Nat × Nat)) (i sa n pa : Nat) : Array (Nat × Nat × Nat) := (p.setIfInBounds i (sa, n, pa)).eraseIdxIfInBounds (i + 1)
theorem IK_of {st : SortSt} (h0 : IntKeys a₀) (hB : SB a₀ st) : IK (arrOf st) := fun i hi => hB.at_ h0 (by rw [← hB.sz]; exact hi)
theorem ext_at {xs : Array Keyed} {lo hi i : Nat} (h : lo + i < hi) (h2 : hi ≤ xs.size) : (xs.extract lo hi)[i]? = xs[lo + i]? := by
  rw [Array.getElem?_extract_of_lt (by omega), getElem?_pos xs (lo + i) (by omega)]
theorem K_ext {xs : Array Keyed} {lo hi i : Nat} (h : lo + i < hi) (h2 : hi ≤ xs.size) : K (xs.extract lo hi) i = K xs (lo + i) := K_congr (ext_at h h2)
theorem IK_ext {xs : Array Keyed} (h : IK xs) {lo hi : Nat} (h2 : hi ≤ xs.size) : IK (xs.extract lo hi) := fun i hi' => by
  rw [Array.size_extract] at hi'
  obtain ⟨t, q, e⟩ := h (lo + i) (by omega)
  exact ⟨t, q, by rw [K_ext (by omega) h2, ext_at (by omega) h2]; exact e⟩
theorem Srt_ext {xs : Array Keyed} {lo hi : Nat} (h : Srt xs lo hi) (h2 : hi ≤ xs.size) : Srt (xs.extract lo hi) 0 (xs.extract lo hi).size := fun i j a b c => by
  rw [Array.size_extract] at c
  rw [K_ext (by omega) h2, K_ext (by omega) h2]
  exact h _ _ (by omega) (by omega) (by omega)
theorem mergeAtG {st : SortSt} {i sa na pa sb nb pb : Nat} {Q : Bool → SortSt → Prop} (h0 : IntKeys a₀) (hB : SB a₀ st) (h1 : (pendingOf st)[i]? = some (sa, na, pa)) (h2 : (pendingOf st)[i + 1]? = some (sb, nb, pb)) (hab : sb = sa + na) (hna : 0 < na) (hnb : 0 < nb) (hz : sb + nb ≤ a₀.size)
    (s1 : Srt (arrOf st) sa sb) (s2 : Srt (arrOf st) sb (sb + nb)) (h : ∀ st', SB a₀ st' → pendingOf st' = joinP (pendingOf st) i sa (na + nb) pa → Out sa (sb + nb) (arrOf st) (arrOf st') → Srt (arrOf st') sa (sb + nb) → Q true st') : wpS (model prog w) A E s (mergeAt' i) Q st := by
  unfold mergeAt'
  refine wpS_bind (wpS_get ?_)
  dsimp only
  rw [h1, h2]
  dsimp only
  refine wpS_bind (setG ?_)
  have hsz := hB.sz
  have ik := IK_of h0 hB
  obtain ⟨t1, q1, e1⟩ := ik sb (by omega)
  refine wpS_bind (elemG e1 ?_)
  refine wpS_bind (gallopG (xs := arrOf st) hB.kind ik (by omega) (by omega) (s1.sub (by omega) (by omega)) fun k g1 g2 g3 => ?_)
  dsimp only
  have lowA : ∀ c, sa ≤ c → c < sa + k → K (arrOf st) c ≤ K (arrOf st) sb := fun c a b => by
    have r := bey_yes (g2 (c - sa) (by omega))
    have ec : sa + (c - sa) = c := by omega
    rwa [ec] at r
  have upA : ∀ c, sa + k ≤ c → c < sb → K (arrOf st) sb < K (arrOf st) c := fun c a b => by
    have r := bey_no (g3 (c - sa) (by omega) (by omega))
    have ec : sa + (c - sa) = c := by omega
    rwa [ec] at r
  have whole : (∀ c d, sa ≤ c → c < sb → sb ≤ d → d < sb + nb → K (arrOf st) c ≤ K (arrOf st) d) → Srt (arrOf st) sa (sb + nb) := fun hc i j a b c => by
    by_cases hj : j < sb
    · exact s1 i j a b hj
    · by_cases hi : i < sb
      · exact hc i j a hi (by omega) c
      · exact s2 i j (by omega) b c
  by_cases h3 : (na - k == 0) = true
  · rw [if_pos h3]
    have z : na - k = 0 := by simpa using h3
    exact wpS_pure (h _ ⟨hB.perm, hB.kind, hB.ok⟩ rfl .rfl' (whole fun c d a b e f => Int.le_trans (lowA c a (by omega)) (s2 sb d (by omega) e f)))
  · rw [if_neg h3]
    have z : ¬ na - k = 0 := by simpa using h3
    have ei : sa + k + (na - k) - 1 = sb - 1 := by omega
    rw [ei]
    obtain ⟨t2, q2, e2⟩ := ik (sb - 1) (by omega)
    refine wpS_bind (elemG e2 ?_)
    refine wpS_bind (gallopG (xs := arrOf st) hB.kind ik (by omega) (by omega) s2 fun k2 c1 c2 c3 => ?_)
    dsimp only
    have lowB : ∀ c, sb ≤ c → c < sb + k2 → K (arrOf st) c < K (arrOf st) (sb - 1) := fun c a b => by
      have r := bel_yes (c2 (c - sb) (by omega))
      have ec : sb + (c - sb) = c := by omega
      rwa [ec] at r
    have upB : ∀ c, sb + k2 ≤ c → c < sb + nb → K (arrOf st) (sb - 1) ≤ K (arrOf st) c := fun c a b => by
      have r := bel_no (c3 (c - sb) (by omega) (by omega))
      have ec : sb + (c - sb) = c := by omega
      rwa [ec] at r
    by_cases h4 : (k2 == 0) = true
    · rw [if_pos h4]
      have z2 : k2 = 0 := by simpa using h4
      exact wpS_pure (h _ ⟨hB.perm, hB.kind, hB.ok⟩ rfl .rfl' (whole fun c d a b e f => Int.le_trans (s1 c (sb - 1) a (by omega) (by omega)) (upB d (by omega) f)))
    · rw [if_neg h4]
      have z2 : ¬ k2 = 0 := by simpa using h4
      have P : Pre ((arrOf st).extract (sa + k) sb) ((arrOf st).extract sb (sb + k2)) :=
        ⟨IK_ext ik (by omega), IK_ext ik (by omega), Srt_ext (s1.sub (by omega) (by omega)) (by omega), Srt_ext (s2.sub (by omega) (by omega)) (by omega), by rw [Array.size_extract]; omega, by rw [Array.size_extract]; omega⟩
      have hf : K ((arrOf st).extract sb (sb + k2)) 0 < K ((arrOf st).extract (sa + k) sb) 0 := by
        rw [K_ext (by omega) (by omega), K_ext (by omega) (by omega)]
        exact upA _ (by omega) (by omega)
      have hl : ∀ j, j < ((arrOf st).extract sb (sb + k2)).size → K ((arrOf st).extract sb (sb + k2)) j ≤ K ((arrOf st).extract (sa + k) sb) (((arrOf st).extract (sa + k) sb).size - 1) := fun j hj => by
        rw [Array.size_extract] at hj
        have es : ((arrOf st).extract (sa + k) sb).size - 1 = sb - (sa + k) - 1 := by rw [Array.size_extract]; omega
        rw [es, K_ext (by omega) (by omega), K_ext (by omega) (by omega)]
        have ec : sa + k + (sb - (sa + k) - 1) = sb - 1 := by omega
        rw [ec]
        exact Int.le_of_lt (lowB _ (by omega) (by omega))
      have fin : ∀ (r : Array Keyed) (st' : SortSt), SameG (SortSt.mk' (kindOf st) (arrOf st) (joinP (pendingOf st) i sa (na + nb) pa) (gallopOf st) (failedOf st)) st' → Mgd ((arrOf st).extract (sa + k) sb).toList ((arrOf st).extract sb (sb + k2)).toList r.toList →
          Q (failedOf st').isNone (setArr st' (r.toList.zipIdx.foldl (fun a x => a.setIfInBounds (sa + k + x.2) x.1) (arrOf st'))) := fun r st' hS hM => by
        have ea : arrOf st' = arrOf st := hS.arr
        have ef : failedOf st' = none := hS.ok.trans hB.ok
        have hrl : r.toList.length = (sb - (sa + k)) + k2 := by
          have := hM.1.length_eq
          rw [List.length_append, Array.length_toList, Array.length_toList, Array.length_toList, Array.size_extract, Array.size_extract] at this
          rw [Array.length_toList]
          omega
        have hy := wb_list (sa + k) r.toList 0 (arrOf st') (by rw [ea, hrl]; omega)
        simp only [Nat.add_zero] at hy
        rw [ea] at hy
        have W := wb_ok (xs := arrOf st) (lo := sa + k) (mid := sb) (n := k2) (by omega) (by omega) hM hy
        rw [ef]
        refine h _ ⟨?_, hS.kind.trans hB.kind, ef⟩ hS.pend ?_ ?_
        · show (List.foldl _ (arrOf st') _).Perm a₀
          rw [ea]
          exact W.perm.trans hB.perm
        · show Out sa (sb + nb) (arrOf st) (List.foldl _ (arrOf st') _)
          rw [ea]
          exact W.out.wide (by omega) (by omega)
        · show Srt (List.foldl _ (arrOf st') _) sa (sb + nb)
          rw [ea]
          have sorted2 : ∀ c, sa ≤ c → c < sa + k → ∀ r, sa + k ≤ r → r < sb + nb → K (arrOf st) c ≤ K (arrOf st) r := fun c a b r d e => by
            by_cases hr : r < sb
            · exact s1 c r a (by omega) hr
            · exact Int.le_trans (lowA c a b) (s2 sb r (by omega) (by omega) e)
          refine wb_all W (by omega) (by omega) (by omega) (fun i j a b c => s1 i j a b (by omega)) (fun i j a b c => s2 i j (by omega) b c) (fun i r a b c d => sorted2 i a b r c (by omega)) (fun r j a b c d => ?_) (fun i j a b c d => sorted2 i a b j (by omega) d)
          by_cases hr : r < sb
          · exact Int.le_trans (s1 r (sb - 1) (by omega) (by omega) (by omega)) (upB j c d)
          · exact s2 r j (by omega) (by omega) d
      by_cases h5 : na - k ≤ k2
      · rw [if_pos h5]
        exact wpS_bind (mergeLoG hB.kind P hf hl fun r st' hS hM => wpS_bind (wpS_modify (wpS_bind (wpS_get (wpS_pure (fin r st' hS hM))))))
      · rw [if_neg h5]
        exact wpS_bind (mergeHiG hB.kind P hf hl fun r st' hS hM => wpS_bind (wpS_modify (wpS_bind (wpS_get (wpS_pure (fin r st' hS hM))))))
end
end HS
namespace HS
open PySem PyProof.Rows
def Runs (xs : Array Keyed) : List (Nat × Nat × Nat) → Nat → Nat → Prop
  | [], b, e => b = e
  | (a, n, _) :: r, b, e => a = b ∧ 0 < n ∧ Srt xs a (a + n) ∧ Runs xs r (b + n) e
theorem Runs.app {xs : Array Keyed} : ∀ {l r : List (Nat × Nat × Nat)} {b e : Nat}, Runs xs (l ++ r) b e ↔ ∃ m, Runs xs l b m ∧ Runs xs r m e
  | [], r, b, e => ⟨fun h => ⟨b, rfl, h⟩, fun ⟨m, h1, h2⟩ => by cases h1; exact h2⟩
  | (a, n, p) :: l, r, b, e => by
    simp only [List.cons_append, Runs, Runs.app (l := l) (r := r)]
    constructor
    · rintro ⟨h1, h2, h3, m, h4, h5⟩; exact ⟨m, ⟨h1, h2, h3, h4⟩, h5⟩
    · rintro ⟨m, ⟨h1, h2, h3, h4⟩, h5⟩; exact ⟨h1, h2, h3, m, h4, h5⟩
theorem Runs.le {xs : Array Keyed} : ∀ {l : List (Nat × Nat × Nat)} {b e : Nat}, Runs xs l b e → b + l.length ≤ e
  | [], b, e, h => by cases h; simp
  | (a, n, p) :: l, b, e, h => by
    obtain ⟨h1, h2, h3, h4⟩ := h
    have := Runs.le h4
    simp only [List.length_cons]
    omega
theorem Srt.cong {xs ys : Array Keyed} {lo hi b e : Nat} (h : Srt xs b e) (o : Out lo hi xs ys) (hd : e ≤ lo ∨ hi ≤ b) : Srt ys b e := fun i j h1 h2 h3 => by
  rw [o.K (q := i) (by omega), o.K (q := j) (by omega)]
  exact h i j h1 h2 h3
theorem Runs.cong {xs ys : Array Keyed} {lo hi : Nat} (o : Out lo hi xs ys) : ∀ {l : List (Nat × Nat × Nat)} {b e : Nat}, Runs xs l b e → (e ≤ lo ∨ hi ≤ b) → Runs ys l b e
  | [], b, e, h, _ => h
  | (a, n, p) :: l, b, e, h, hd => by
    obtain ⟨h1, h2, h3, h4⟩ := h
    have := Runs.le h4
    exact ⟨h1, h2, h3.cong o (by omega), Runs.cong o h4 (by omega)⟩
theorem split2 {l : List (Nat × Nat × Nat)} {i : Nat} {x y : Nat × Nat × Nat} (h1 : l[i]? = some x) (h2 : l[i + 1]? = some y) : l = l.take i ++ x :: y :: l.drop (i + 2) := by
  obtain ⟨a1, b1⟩ := List.getElem?_eq_some_iff.mp h1
  obtain ⟨a2, b2⟩ := List.getElem?_eq_some_iff.mp h2
  conv => lhs; rw [← List.take_append_drop i l]
  congr 1
  rw [List.drop_eq_getElem_cons a1, List.drop_eq_getElem_cons a2, b1, b2]
theorem joinP_list {p : Array (Nat × Nat × Nat)} {i sa n pa : Nat} {x y : Nat × Nat × Nat} (h1 : p[i]? = some x) (h2 : p[i + 1]? = some y) : (joinP p i sa n pa).toList = p.toList.take i ++ (sa, n, pa) :: p.toList.drop (i + 2) := by
  have l1 := (Array.getElem?_eq_some_iff.mp h1).1
  have l2 := (Array.getElem?_eq_some_iff.mp h2).1
  unfold joinP
  rw [Array.eraseIdxIfInBounds_eq, dif_pos (by rw [Array.size_setIfInBounds]; exact l2), Array.toList_eraseIdx, Array.toList_setIfInBounds]
  have e1 : p.toList = p.toList.take i ++ x :: y :: p.toList.drop (i + 2) := split2 (by simpa using h1) (by simpa using h2)
  have hlen : (p.toList.take i).length = i := by simp; omega
  conv => lhs; rw [e1]
  rw [List.set_append_right _ _ (by omega), hlen, Nat.sub_self, List.set_cons_zero, List.eraseIdx_append_of_length_le (by omega), hlen]
  have : i + 1 - i = 1 := by omega
  rw [this]
  rfl
structure RunsAt (a₀ : Array Keyed) (st : SortSt) (lo : Nat) : Prop where
  b : SB a₀ st
  r : Runs (arrOf st) (pendingOf st).toList 0 lo
section
variable {prog : Program} {w : World} {A : Around} {E : Value → Shared → Prop} {s : Shared} {a₀ : Array Keyed}
theorem RunsAt.merge {st : SortSt} {lo i : Nat} {Q : Bool → SortSt → Prop} (h0 : IntKeys a₀) (hR : RunsAt a₀ st lo) (hz : lo ≤ a₀.size) (hi : i + 1 < (pendingOf st).size)
    (h : ∀ st', RunsAt a₀ st' lo → (pendingOf st').size + 1 = (pendingOf st).size → Out 0 lo (arrOf st) (arrOf st') → Q true st') : wpS (model prog w) A E s (mergeAt' i) Q st := by
  obtain ⟨⟨sa, na, pa⟩, h1⟩ : ∃ x, (pendingOf st)[i]? = some x := ⟨_, getElem?_pos _ i (by omega)⟩
  obtain ⟨⟨sb, nb, pb⟩, h2⟩ : ∃ x, (pendingOf st)[i + 1]? = some x := ⟨_, getElem?_pos _ (i + 1) hi⟩
  have e1 := split2 (l := (pendingOf st).toList) (i := i) (by simpa using h1) (by simpa using h2)
  have hr := hR.r
  rw [e1, Runs.app] at hr
  obtain ⟨m, r1, q1, q2, q3, q4, q5, q6, r2⟩ := hr
  have l1 := r1.le
  have l2 := r2.le
  subst q1
  have hsb : sb = sa + na := q4
  refine mergeAtG h0 hR.b h1 h2 hsb q2 q5 (by omega) (by rw [hsb]; exact q3) q6 fun st' b pd o srt => ?_
  refine h st' ⟨b, ?_⟩ ?_ (o.wide (by omega) (by omega))
  · rw [pd, joinP_list h1 h2, Runs.app]
    refine ⟨sa, r1.cong o (by omega), rfl, by omega, ?_, ?_⟩
    · have e : sa + (na + nb) = sb + nb := by omega
      rw [e]; exact srt
    · have e : sa + (na + nb) = sa + na + nb := by omega
      rw [e]; exact r2.cong o (by omega)
  · have := congrArg List.length (joinP_list (sa := sa) (n := na + nb) (pa := pa) h1 h2)
    rw [← pd] at this
    have q := congrArg List.length e1
    simp only [Array.length_toList, List.length_append, List.length_cons, List.length_take, List.length_drop] at this q
    omega
theorem runs_pow {xs : Array Keyed} {f : Nat × Nat × Nat → Nat × Nat × Nat} (hf : ∀ x, (f x).1 = x.1 ∧ (f x).2.1 = x.2.1) : ∀ {l : List (Nat × Nat × Nat)} {b e i : Nat}, Runs xs l b e → Runs xs (l.modify i f) b e
  | [], b, e, i, h => by cases i <;> simpa [List.modify] using h
  | (a, n, p) :: l, b, e, 0, h => by
    obtain ⟨h1, h2, h3, h4⟩ := h
    obtain ⟨f1, f2⟩ := hf (a, n, p)
    rcases hq : f (a, n, p) with ⟨a', n', p'⟩
    rw [hq] at f1 f2
    simp only at f1 f2
    subst f1 f2
    simp only [List.modify_zero_cons, hq]
    exact ⟨h1, h2, h3, h4⟩
  | (a, n, p) :: l, b, e, i + 1, h => by
    obtain ⟨h1, h2, h3, h4⟩ := h
    rw [List.modify_succ_cons]
    exact ⟨h1, h2, h3, runs_pow hf h4⟩
theorem ifk {k : Nat} (h : ¬ k ≤ 1) (c : Prop) [Decidable c] : (if c then k - 2 - 1 else k - 2) + 1 < k := by split <;> omega
theorem sortG {st : SortSt} {Q : Unit → SortSt → Prop} (h0 : IntKeys a₀) (hB : SB a₀ st) (hp : pendingOf st = #[]) (h2 : 2 ≤ a₀.size)
    (h : ∀ st', (arrOf st').Perm a₀ → failedOf st' = none → SortedTo (arrOf st') a₀.size → Q () st') : wpS (model prog w) A E s sortRuns' Q st := by
  rw [sortRuns'_eq]
  refine wpS_bind (wpS_get ?_)
  dsimp only
  have hsz : (arrOf st).size = a₀.size := hB.sz
  rw [hsz]
  obtain ⟨mr, hmr⟩ : ∃ mr, mr = minRun' a₀.size a₀.size 0 := ⟨_, rfl⟩
  rw [← hmr]
  refine wpS_bind (wpS_mono (wpS_forRange (I := fun x c st' => ∃ lo, c = (none, lo) ∧ RunsAt a₀ st' lo ∧ lo ≤ a₀.size ∧ (lo = a₀.size ∨ x ≤ lo))
    (Q := fun c st' => c = (none, a₀.size) ∧ RunsAt a₀ st' a₀.size) ?one ?two ⟨0, rfl, ⟨hB, by rw [hp]; rfl⟩, by omega, by omega⟩) ?fin)
  case two =>
    rintro c st' ⟨lo, rfl, hR, h3, h4⟩
    have : lo = a₀.size := by omega
    subst this
    exact ⟨rfl, hR⟩
  case one =>
    rintro x c st' _ hx ⟨lo, rfl, hR, h3, h4⟩
    dsimp only
    by_cases hge : lo ≥ a₀.size
    · rw [if_pos hge]
      have : lo = a₀.size := by omega
      subst this
      exact wpS_pure ⟨rfl, hR⟩
    · rw [if_neg hge]
      refine wpS_bind (countG h0 (by omega) (by omega) hR.b fun m st2 hS m1 m2 ms => ?_)
      have hR2 : RunsAt a₀ st2 lo := ⟨hS.b, by rw [hS.pend]; exact hR.r.cong hS.out (by omega)⟩
      dsimp only
      by_cases hlt : m < mr
      · rw [if_pos hlt]
        refine wpS_bind (wpS_lift (wpAny_rule ⟨rfl, ?_⟩))
        refine wpS_bind (binG h0 (by omega) (by omega) hS.b ms fun st3 hS3 ms3 => ?_)
        have hR3 : RunsAt a₀ st3 lo := ⟨hS3.b, by rw [hS3.pend]; exact hR2.r.cong hS3.out (by omega)⟩
        obtain ⟨n, hn⟩ : ∃ n, n = min (a₀.size - lo) mr := ⟨_, rfl⟩
        rw [← hn] at ms3 ⊢
        simp only [Bool.not_true, Bool.false_eq_true, if_false]
        refine wpS_bind (wpS_get ?_)
        have put : ∀ st5 : SortSt, RunsAt a₀ st5 lo → Srt (arrOf st5) lo (lo + n) → RunsAt a₀ (setPending st5 ((pendingOf st5).push (lo, n, 0))) (lo + n) := fun st5 r5 s5 => ⟨⟨r5.b.perm, r5.b.kind, r5.b.ok⟩, by
          show Runs (arrOf st5) ((pendingOf st5).push (lo, n, 0)).toList 0 (lo + n)
          rw [Array.toList_push, Runs.app]
          exact ⟨lo, r5.r, rfl, by omega, s5, rfl⟩⟩
        split
        · rename_i s1' n1' p1' hbk
          refine wpS_bind (wpS_mono (wpS_forRange (I := fun _ c st4 => c = (none, ()) ∧ RunsAt a₀ st4 lo ∧ Srt (arrOf st4) lo (lo + n)) (Q := fun c st4 => c = (none, ()) ∧ RunsAt a₀ st4 lo ∧ Srt (arrOf st4) lo (lo + n)) ?_ (fun _ _ q => q) ⟨rfl, hR3, ms3⟩) ?_)
          · rintro y c st4 _ _ ⟨rfl, r4, s4⟩
            refine wpS_bind (wpS_get ?_)
            by_cases hgt : (pendingOf st4).size > 1
            · simp only [hgt, if_true]
              obtain ⟨⟨u1, u2, u3⟩, hu⟩ : ∃ u, (pendingOf st4)[(pendingOf st4).size - 2]? = some u := ⟨_, getElem?_pos _ _ (by omega)⟩
              rw [hu]
              dsimp only
              split
              · exact wpS_pure ⟨rfl, r4, s4⟩
              · refine wpS_bind (r4.merge h0 h3 (by omega) fun st6 r6 _ o6 => ?_)
                exact wpS_pure ⟨rfl, r6, s4.cong o6 (by omega)⟩
            · simp only [hgt, if_false]
              exact wpS_pure ⟨rfl, r4, s4⟩
          · rintro c st4 ⟨rfl, r4, s4⟩
            dsimp only
            refine wpS_bind (wpS_modify (wpS_bind (wpS_modify (wpS_pure ⟨lo + n, rfl, ?_, by omega, by omega⟩))))
            refine put _ ⟨⟨r4.b.perm, r4.b.kind, r4.b.ok⟩, ?_⟩ s4
            show Runs (arrOf st4) (Array.modify _ _ _).toList 0 lo
            rw [Array.toList_modify]
            apply runs_pow
            · exact fun x => ⟨rfl, rfl⟩
            · exact r4.r
        · exact wpS_bind (wpS_modify (wpS_pure ⟨lo + n, rfl, put _ hR3 ms3, by omega, by omega⟩))
      · rw [if_neg hlt]
        refine wpS_bind (wpS_get ?_)
        have put : ∀ st5 : SortSt, RunsAt a₀ st5 lo → Srt (arrOf st5) lo (lo + m) → RunsAt a₀ (setPending st5 ((pendingOf st5).push (lo, m, 0))) (lo + m) := fun st5 r5 s5 => ⟨⟨r5.b.perm, r5.b.kind, r5.b.ok⟩, by
          show Runs (arrOf st5) ((pendingOf st5).push (lo, m, 0)).toList 0 (lo + m)
          rw [Array.toList_push, Runs.app]
          exact ⟨lo, r5.r, rfl, by omega, s5, rfl⟩⟩
        split
        · rename_i s1' n1' p1' hbk
          refine wpS_bind (wpS_mono (wpS_forRange (I := fun _ c st4 => c = (none, ()) ∧ RunsAt a₀ st4 lo ∧ Srt (arrOf st4) lo (lo + m)) (Q := fun c st4 => c = (none, ()) ∧ RunsAt a₀ st4 lo ∧ Srt (arrOf st4) lo (lo + m)) ?_ (fun _ _ q => q) ⟨rfl, hR2, ms⟩) ?_)
          · rintro y c st4 _ _ ⟨rfl, r4, s4⟩
            refine wpS_bind (wpS_get ?_)
            by_cases hgt : (pendingOf st4).size > 1
            · simp only [hgt, if_true]
              obtain ⟨⟨u1, u2, u3⟩, hu⟩ : ∃ u, (pendingOf st4)[(pendingOf st4).size - 2]? = some u := ⟨_, getElem?_pos _ _ (by omega)⟩
              rw [hu]
              dsimp only
              split
              · exact wpS_pure ⟨rfl, r4, s4⟩
              · refine wpS_bind (r4.merge h0 h3 (by omega) fun st6 r6 _ o6 => ?_)
                exact wpS_pure ⟨rfl, r6, s4.cong o6 (by omega)⟩
            · simp only [hgt, if_false]
              exact wpS_pure ⟨rfl, r4, s4⟩
          · rintro c st4 ⟨rfl, r4, s4⟩
            dsimp only
            refine wpS_bind (wpS_modify (wpS_bind (wpS_modify (wpS_pure ⟨lo + m, rfl, ?_, by omega, by omega⟩))))
            refine put _ ⟨⟨r4.b.perm, r4.b.kind, r4.b.ok⟩, ?_⟩ s4
            show Runs (arrOf st4) (Array.modify _ _ _).toList 0 lo
            rw [Array.toList_modify]
            apply runs_pow
            · exact fun x => ⟨rfl, rfl⟩
            · exact r4.r
        · exact wpS_bind (wpS_modify (wpS_pure ⟨lo + m, rfl, put _ hR2 ms, by omega, by omega⟩))
  case fin =>
    rintro c st' ⟨rfl, hR⟩
    dsimp only
    refine wpS_bind (wpS_mono (wpS_forRange (I := fun x c st2 => c = (none, ()) ∧ RunsAt a₀ st2 a₀.size ∧ ((pendingOf st2).size ≤ a₀.size - x ∨ (pendingOf st2).size ≤ 1)) (Q := fun c st2 => c = (none, ()) ∧ RunsAt a₀ st2 a₀.size ∧ (pendingOf st2).size ≤ 1) ?_ ?_ ⟨rfl, hR, ?_⟩) ?_)
    · rintro x c st2 _ hx ⟨rfl, r2, hle⟩
      refine wpS_bind (wpS_get ?_)
      by_cases h1 : (pendingOf st2).size ≤ 1
      · rw [if_pos h1]
        exact wpS_pure ⟨rfl, r2, h1⟩
      · rw [if_neg h1]
        refine wpS_bind (r2.merge h0 (Nat.le_refl _) ?_ fun st3 r3 hs3 _ => ?_)
        · exact ifk h1 _
        · exact wpS_pure ⟨rfl, r3, by omega⟩
    · rintro c st2 ⟨hc, r2, hle⟩
      exact ⟨hc, r2, by omega⟩
    · have := hR.r.le
      simp only [Array.length_toList] at this
      omega
    · rintro c st2 ⟨rfl, r2, hle⟩
      refine wpS_pure (h _ r2.b.perm r2.b.ok ?_)
      have hr := r2.r
      rcases hq : (pendingOf st2).toList with _ | ⟨⟨a, n, p⟩, rest⟩
      · rw [hq] at hr
        have : 0 = a₀.size := hr
        omega
      · rw [hq] at hr
        have hl : rest = [] := by
          have := congrArg List.length hq
          simp only [Array.length_toList, List.length_cons] at this
          exact List.length_eq_zero_iff.mp (by omega)
        subst hl
        obtain ⟨e1, e2, e3, e4⟩ := hr
        have e4' : 0 + n = a₀.size := e4
        subst e1
        intro i j hij hj
        exact e3 i j (by omega) hij (by omega)
end
end HS
namespace HS
open PySem PySem.Spec PyProof.Rows L2
section
variable {prog : Program} {w : World} {A : Around} {E : Value → Shared → Prop} {s : Shared}
theorem sort_any {a : Addr} {vs : List Value} {ns : List Int} {n : Nat} {P : Fin → Shared → Prop} (ho : s.heap.get? a = some (seqObj "list" vs.toArray n)) (hI : IntsAre vs ns) (hW : vs.length < 4000)
    (h : ∀ (out : Array Value) (ns' : List Int), IntsAre out.toList ns' → ns'.Perm ns → ns'.Pairwise (· ≤ ·) → P (.done (.ret .none)) { s with heap := sortedHeap s.heap a vs out }) : wpAny (model prog w) A (Builtin.«list.sort» ⟨[.ref a], []⟩) P E s := by
  by_cases h64 : vs.length < 64
  · exact list_sort_tree ho hI h64 h
  · rw [list_sort_plain]
    have ha : a < s.heap.objs.size := Heap.lt_size ho
    have hz : vs.length ≤ sizeLine := by rw [sizeLine_eq]; omega
    refine wpAny_bind (listItems_at ho rfl (wpAny_bind (listUpdate_at ho rfl ?_ (by simpa using hz) (by simp))))
    obtain ⟨c1, o1⟩ : ∃ c1, (s.heap.update a (Obj.mapSeq fun _ => #[])).get? a = some (seqObj "list" #[] c1) := ⟨_, get?_update_seq ho (fun _ => #[])⟩
    refine wpAny_bind (seqEpoch_at o1 rfl (wpAny_bind (wpAny_newTuple (wpAny_bind (wpAny_newList (wpAny_holding ?_) (Nat.zero_le _))) (by simpa using hz))))
    have o6 : (((s.heap.update a (Obj.mapSeq fun _ => #[])).push (seqObj "tuple" vs.toArray 0)).push (seqObj "list" #[] 0)).get? a = some (seqObj "list" #[] c1) := by
      rw [Heap.get?_push_ne _ _ _ (by rw [size_push', Heap.size_update]; exact Nat.ne_of_lt (Nat.lt_succ_of_lt ha)), Heap.get?_push_ne _ _ _ (by rw [Heap.size_update]; exact Nat.ne_of_lt ha)]
      exact o1
    show wpAny (model prog w) A _ P E { s with heap := ((s.heap.update a (Obj.mapSeq fun _ => #[])).push (seqObj "tuple" vs.toArray 0)).push (seqObj "list" #[] 0) }
    dsimp only
    have h2 : ¬ vs.toArray.size < 2 := by simp; omega
    rw [if_neg h2, if_neg h2]
    obtain ⟨v, u, rest, rfl⟩ : ∃ v u rest, vs = v :: u :: rest := by
      cases vs with
      | nil => simp at h64
      | cons v vs =>
        cases vs with
        | nil => simp at h64
        | cons u rest => exact ⟨v, u, rest, rfl⟩
    rw [keyKind_ints hI]
    refine wpAny_bind (wpAny_pure ?_)
    refine wpAny_bind (wpAny_mono (sortG (a₀ := pairsOf (v :: u :: rest)) (st := SortSt.mk' oneType' ((v :: u :: rest).toArray.zip (v :: u :: rest).toArray) #[] 7 none)
      (Q := fun _ z => (arrOf z).Perm (pairsOf (v :: u :: rest)) ∧ failedOf z = none ∧ SortedTo (arrOf z) (pairsOf (v :: u :: rest)).size) hI.intKeys ⟨Array.Perm.refl _, rfl, rfl⟩ rfl (by rw [pairsOf_size]; simp) fun z x1 x2 x3 => ⟨x1, x2, x3⟩) ?_ fun _ _ e => e)
    rintro ⟨⟨⟩, z⟩ s' ⟨rfl, hp, hf, hs⟩
    dsimp only
    have hmz : ((arrOf z).map (·.2)).size ≤ sizeLine + 1 := by
      rw [Array.size_map, hp.size_eq, pairsOf_size]
      omega
    refine wpAny_bind (seqEpoch_at o6 rfl (wpAny_bind (listUpdate_at o6 rfl ?_ (by simp) hmz)))
    rw [hf]
    simp only [bne_self_eq_false, Bool.false_eq_true, if_false]
    obtain ⟨ns', y1, y2, y3⟩ := sorted_out hI hp hs
    exact wpAny_pure (h _ ns' y1 y2 y3)
theorem sorted_any {l : Addr} {vs : List Value} {ns : List Int} {Q : Value → Shared → Prop} (hl : s.heap.IsList l vs.toArray) (hI : IntsAre vs ns) (hW : vs.length < 4000)
    (h : ∀ (out : Array Value) (ns' : List Int), IntsAre out.toList ns' → ns'.Perm ns → ns'.Pairwise (· ≤ ·) → Q (.ref (s.heap.objs.size + 1)) { s with heap := sortedAll s.heap vs out }) : wpAny (model prog w) A (call (.builtin "sorted") [.ref l]) Q E s := by
  have hz : vs.length ≤ sizeLine := by rw [sizeLine_eq]; omega
  refine Calls.call_function_entry kind_sorted plain_sorted entry_sorted (args_sorted1 _) ?_
  unfold Builtin.«sorted»
  refine wpAny_bind (m := checkCount "sorted" 1 1 _) (wpAny_pure (wpAny_bind (collect_list hl (wpAny_bind (wpAny_newList ?_ hz)) hz)))
  have z1 : ((s.heap.push (seqObj "list" #[] 0)).update s.heap.objs.size (Obj.mapSeq (· ++ vs.toArray))).objs.size = s.heap.objs.size + 1 := by rw [Heap.size_update, size_push']
  have z2 : (((s.heap.push (seqObj "list" #[] 0)).update s.heap.objs.size (Obj.mapSeq (· ++ vs.toArray))).push (seqObj "list" vs.toArray 0)).get? (s.heap.objs.size + 1) = some (seqObj "list" vs.toArray 0) := by rw [← z1]; exact Heap.get?_push_size _ rfl
  show wpAny _ _ _ _ _ { s with heap := ((s.heap.push (seqObj "list" #[] 0)).update s.heap.objs.size (Obj.mapSeq (· ++ vs.toArray))).push (seqObj "list" vs.toArray 0) }
  rw [z1]
  exact wpAny_bind (wpAny_holding (wpAny_call_entry slot_list_sort ⟨_, z2, rfl⟩ entry_list_sort (sort_any z2 hI hW fun out ns' x1 x2 x3 => ⟨_, rfl, wpAny_pure ⟨_, rfl, h out ns' x1 x2 x3⟩⟩) (args_list_sort _)))
theorem sorted_setW {a : Addr} {o : Obj} {xs : List Int} {Q : Value → Shared → Prop} (hh : A.handled = none) (ho : s.heap.get? a = some o) (hS : SetG (!bt w) o xs) (hW : xs.length < 4000)
    (h : ∀ (out : Array Value) (ns : List Int) (h' : Heap) (d : Drawn) (tk : Nat) (l : Addr) (c : Nat), IntsAre out.toList ns → ns.Perm xs → ns.Pairwise (· ≤ ·) → (∀ b o, s.heap.get? b = some o → h'.get? b = some o) → s.toks ≤ tk →
      s.heap.objs.size ≤ l → h'.get? l = some (seqObj "list" out c) → Q (.ref l) { s with heap := h', drawn := d, toks := tk }) :
    wpAny (model prog w) A (call (.builtin "sorted") [.ref a]) Q E s := by
  refine Calls.call_function_entry kind_sorted plain_sorted entry_sorted (args_sorted1 _) ?_
  unfold Builtin.«sorted»
  refine wpAny_bind (m := checkCount "sorted" 1 1 _) (wpAny_pure (wpAny_bind (collect_set (show A.in1.handled = none from hh) ho hS fun vs ns h' d tk hI hp kp ht hge => ?_)))
  have hvl : vs.length = xs.length := by rw [IntsAre.length hI, hp.length_eq]
  refine wpAny_bind (wpAny_newList ?_ (by rw [hvl, sizeLine_eq]; omega))
  have hoL : (h'.push (seqObj "list" vs.toArray 0)).get? h'.objs.size = some (seqObj "list" vs.toArray 0) := Heap.get?_push_size _ rfl
  refine wpAny_bind (wpAny_holding (wpAny_call_entry (s := { s with heap := h'.push (seqObj "list" vs.toArray 0), drawn := d, toks := tk }) slot_list_sort ⟨_, hoL, rfl⟩ entry_list_sort (sort_any hoL hI (by omega) fun out ns' a1 a2 a3 => ⟨_, rfl, ?_⟩) (args_list_sort _)))
  obtain ⟨c, hc⟩ : ∃ c, (sortedHeap (h'.push (seqObj "list" vs.toArray 0)) h'.objs.size vs out).get? h'.objs.size = some (seqObj "list" out c) := by
    unfold sortedHeap
    obtain ⟨e1, q1⟩ : ∃ e1, ((h'.push (seqObj "list" vs.toArray 0)).update h'.objs.size (Obj.mapSeq fun _ => #[])).get? h'.objs.size = some (seqObj "list" #[] e1) := ⟨_, get?_update_seq hoL (fun _ => #[])⟩
    exact ⟨_, get?_update_seq (Heap.get?_push_of_some _ (Heap.get?_push_of_some _ q1)) (fun _ => out)⟩
  refine wpAny_pure ⟨_, rfl, h out ns' _ d tk h'.objs.size c a1 (a2.trans hp) a3 (fun b o e => ?_) ht hge hc⟩
  have hb := kp b o e
  have ne : h'.objs.size ≠ b := Nat.ne_of_gt (Heap.lt_size hb)
  unfold sortedHeap
  rw [Heap.get?_update_other _ _ ne]
  refine Heap.get?_push_of_some _ (Heap.get?_push_of_some _ ?_)
  rw [Heap.get?_update_other _ _ ne]
  exact Heap.get?_push_of_some _ hb
theorem sorted_dictW {a : Addr} {kvs : List (Key × Value)} {xs : List Int} {Q : Value → Shared → Prop} (hh : A.handled = none) (hd : (a == sysModules) = false) (hm : s.heap.DictOf (mixKind prog w) a kvs) (hk : kvs.map (·.1) = xs.map Sum.inl) (hW : xs.length < 4000)
    (h : ∀ (out : Array Value) (ns : List Int) (h' : Heap) (tk : Nat) (l : Addr) (c : Nat), IntsAre out.toList ns → ns.Perm xs → ns.Pairwise (· ≤ ·) → (∀ b o, s.heap.get? b = some o → h'.get? b = some o) → s.toks ≤ tk →
      s.heap.objs.size ≤ l → h'.get? l = some (seqObj "list" out c) → Q (.ref l) { s with heap := h', toks := tk }) :
    wpAny (model prog w) A (call (.builtin "sorted") [.ref a]) Q E s := by
  have hlen : kvs.length = xs.length := by simpa using congrArg List.length hk
  refine Calls.call_function_entry kind_sorted plain_sorted entry_sorted (args_sorted1 _) ?_
  unfold Builtin.«sorted»
  refine wpAny_bind (m := checkCount "sorted" 1 1 _) (wpAny_pure (wpAny_bind (collect_dict (show A.in1.handled = none from hh) hd hm (by rw [hlen, sizeLine_eq]; omega) fun vs h' tk hl hv kp ht hge => ?_)))
  have hI : IntsAre vs xs := keys_ints hk hl hv
  have hvl : vs.length = xs.length := IntsAre.length hI
  refine wpAny_bind (wpAny_newList ?_ (by rw [hvl, sizeLine_eq]; omega))
  have hoL : (h'.push (seqObj "list" vs.toArray 0)).get? h'.objs.size = some (seqObj "list" vs.toArray 0) := Heap.get?_push_size _ rfl
  refine wpAny_bind (wpAny_holding (wpAny_call_entry (s := { s with heap := h'.push (seqObj "list" vs.toArray 0), toks := tk }) slot_list_sort ⟨_, hoL, rfl⟩ entry_list_sort (sort_any hoL hI (by omega) fun out ns' a1 a2 a3 => ⟨_, rfl, ?_⟩) (args_list_sort _)))
  obtain ⟨c, hc⟩ : ∃ c, (sortedHeap (h'.push (seqObj "list" vs.toArray 0)) h'.objs.size vs out).get? h'.objs.size = some (seqObj "list" out c) := by
    unfold sortedHeap
    obtain ⟨e1, q1⟩ : ∃ e1, ((h'.push (seqObj "list" vs.toArray 0)).update h'.objs.size (Obj.mapSeq fun _ => #[])).get? h'.objs.size = some (seqObj "list" #[] e1) := ⟨_, get?_update_seq hoL (fun _ => #[])⟩
    exact ⟨_, get?_update_seq (Heap.get?_push_of_some _ (Heap.get?_push_of_some _ q1)) (fun _ => out)⟩
  refine wpAny_pure ⟨_, rfl, h out ns' _ tk h'.objs.size c a1 a2 a3 (fun b o e => ?_) ht hge hc⟩
  have hb := kp b o e
  have ne : h'.objs.size ≠ b := Nat.ne_of_gt (Heap.lt_size hb)
  unfold sortedHeap
  rw [Heap.get?_update_other _ _ ne]
  refine Heap.get?_push_of_some _ (Heap.get?_push_of_some _ ?_)
  rw [Heap.get?_update_other _ _ ne]
  exact Heap.get?_push_of_some _ hb
end
end HS
namespace HW
open PySem PySem.Spec PyProof.Rows L2 HS
def rSortW (b : Bool) : List V → Hp → VK → Prop := fun vs H Q => ∃ p o xs, vs = [.ref p] ∧ H p = some (heldSet o) ∧ SetG b o xs ∧ xs.length < 4000 ∧ ∀ l, H l = none → Q (.ref l) (upd H l (.lst ((isort xs).map V.int)))
def rSortKW : List V → Hp → VK → Prop := fun vs H Q => ∃ p kvs ns, vs = [.ref p] ∧ Rd H p (.dK kvs) ∧ kvs.map (·.1) = ns.map Sum.inl ∧ ns.length < 4000 ∧ ∀ l, H l = none → Q (.ref l) (upd H l (.lst ((isort ns).map V.int)))
def rSortLW (K : PySem.W.Frag) : List V → Hp → VK → Prop := fun vs H Q => ∃ p ns, vs = [.ref p] ∧ SqL K H p (ns.map V.int) ∧ ns.length < 4000 ∧ ∀ l, H l = none → Q (.ref l) (upd H l (.lst ((isort ns).map V.int)))
theorem call_sortedSW {X : Cx} (hc : X.calm = true) : CallR X (.builtin "sorted") (rSortW (!HS.bt X.w)) := by
  intro pins s σ H vs us Q I r h
  obtain ⟨p, o, xs, rfl, hp, hS, h64, q⟩ := h
  obtain ⟨u, rfl, rx⟩ := vals1 r
  cases rx
  have ho : s.heap.get? p = some o := (I.hok p _ hp).1
  refine sorted_setW (I.ok.hd hc) ho hS h64 fun out ns h' d tk l c a1 a2 a3 kp ht hl hL => ?_
  have e := isort_eq a3 a2
  subst e
  have hlen : (isort xs).length = xs.length := (isort_perm xs).length_eq
  have I1 : Inv X pins σ (upd H l (.lst ((isort xs).map V.int))) { s with heap := h', toks := tk } :=
    I.laid (t' := tk) kp hl (show ObjOk X.prog X.w _ h' _ (.lst _) from ⟨by rw [List.length_map, hlen, sizeLine_eq]; omega, out.toList, c, ints_vals a1, by simpa [seqObj] using hL⟩)
  exact ⟨.ref l, _, Inv.drw I1 d, rfl, q _ (I.hok.fresh hl)⟩
theorem call_sortedKW {X : Cx} (hc : X.calm = true) : CallR X (.builtin "sorted") rSortKW := by
  intro pins s σ H vs us Q I r h
  obtain ⟨p, kvs, ns, rfl, hp, hk, h64, q⟩ := h
  obtain ⟨u, rfl, rx⟩ := vals1 r
  cases rx
  obtain ⟨hz, hs, es, hkv, hD⟩ : kvs.length ≤ sizeLine ∧ (p == sysModules) = false ∧ ∃ vs, KV kvs vs ∧ s.heap.DictOf (mixKind X.prog X.w) p vs := by
    rcases hp with hp | ⟨o, hp⟩
    · exact I.hok p _ hp
    · exact (I.hok p _ hp).2
  refine sorted_dictW (I.ok.hd hc) hs hD (by rw [kv_keys hkv]; exact hk) h64 fun out ns' h' tk l c a1 a2 a3 kp ht hl hL => ?_
  have e := isort_eq a3 a2
  subst e
  have hlen : (isort ns).length = ns.length := (isort_perm ns).length_eq
  exact ⟨.ref l, _, I.laid (t' := tk) kp hl (show ObjOk X.prog X.w _ h' _ (.lst _) from ⟨by rw [List.length_map, hlen, sizeLine_eq]; omega, out.toList, c, ints_vals a1, by simpa [seqObj] using hL⟩), rfl, q _ (I.hok.fresh hl)⟩
theorem call_sortedLW {X : Cx} : CallR X (.builtin "sorted") (rSortLW X.K) := by
  intro pins s σ H vs us Q I r h
  obtain ⟨p, ns, rfl, hq, h64, q⟩ := h
  · obtain ⟨u, rfl, rx⟩ := vals1 r
    cases rx
    obtain ⟨its, r', pl, hz⟩ := I.list hq
    have hI := vals_ints r'
    have hl : its.length = ns.length := IntsAre.length hI
    refine sorted_any (vs := its) (ns := ns) pl.isList hI (by omega) fun out ns' a1 a2 a3 => ?_
    have e := isort_eq a3 a2
    subst e
    have hlen : (isort ns).length = ns.length := (isort_perm ns).length_eq
    have hsz : ((s.heap.push (seqObj "list" #[] 0)).update s.heap.objs.size (Obj.mapSeq (· ++ its.toArray))).objs.size = s.heap.objs.size + 1 := by rw [Heap.size_update, size_push']
    have hoL : (((s.heap.push (seqObj "list" #[] 0)).update s.heap.objs.size (Obj.mapSeq (· ++ its.toArray))).push (seqObj "list" its.toArray 0)).get? (s.heap.objs.size + 1) = some (seqObj "list" its.toArray 0) := by
      rw [← hsz]; exact Heap.get?_push_size _ rfl
    obtain ⟨c, hcx⟩ : ∃ c, (sortedAll s.heap its out).get? (s.heap.objs.size + 1) = some (seqObj "list" out c) := by
      unfold sortedAll sortedHeap
      obtain ⟨e1, q1⟩ : ∃ e1, ((((s.heap.push (seqObj "list" #[] 0)).update s.heap.objs.size (Obj.mapSeq (· ++ its.toArray))).push (seqObj "list" its.toArray 0)).update (s.heap.objs.size + 1) (Obj.mapSeq fun _ => #[])).get? (s.heap.objs.size + 1) = some (seqObj "list" #[] e1) := ⟨_, get?_update_seq hoL (fun _ => #[])⟩
      exact ⟨_, get?_update_seq (Heap.get?_push_of_some _ (Heap.get?_push_of_some _ q1)) (fun _ => out)⟩
    have kp : ∀ b o, s.heap.get? b = some o → (sortedAll s.heap its out).get? b = some o := fun b o e => by
      have hb := Heap.lt_size e
      have n1 : s.heap.objs.size + 1 ≠ b := Nat.ne_of_gt (Nat.lt_succ_of_lt hb)
      have n0 : s.heap.objs.size ≠ b := Nat.ne_of_gt hb
      unfold sortedAll sortedHeap
      rw [Heap.get?_update_other _ _ n1]
      refine Heap.get?_push_of_some _ (Heap.get?_push_of_some _ ?_)
      rw [Heap.get?_update_other _ _ n1]
      refine Heap.get?_push_of_some _ ?_
      rw [Heap.get?_update_other _ _ n0]
      exact Heap.get?_push_of_some _ e
    exact ⟨.ref (s.heap.objs.size + 1), _, I.laid (t' := s.toks) kp (Nat.le_succ _) (show ObjOk X.prog X.w _ _ _ (.lst _) from ⟨by rw [List.length_map, hlen, sizeLine_eq]; omega, out.toList, c, ints_vals a1, by simpa [seqObj] using hcx⟩), rfl, q _ (I.hok.fresh (Nat.le_succ _))⟩
noncomputable def srtW (b : Bool) : List R → Store → Option (R × Store)
  | [.s c xs], μ => if c = b ∧ xs.length < 4000 then some (.p μ.length, μ ++ [.lst ((isort xs).map D.int)]) else none
  | [.p n], μ => match μ[n]? with
    | some (.dct kvs) => (intKeys (kvs.map (·.1))).bind fun ns => if ns.length < 4000 then some (.p μ.length, μ ++ [.lst ((isort ns).map D.int)]) else none
    | some (.fzd kvs) => (intKeys (kvs.map (·.1))).bind fun ns => if ns.length < 4000 then some (.p μ.length, μ ++ [.lst ((isort ns).map D.int)]) else none
    | _ => (lstD (.p n) μ).bind fun ds => (intsD ds).bind fun ns => if ns.length < 4000 then some (.p μ.length, μ ++ [.lst ((isort ns).map D.int)]) else none
  | [.v d], μ => (lstD (.v d) μ).bind fun ds => (intsD ds).bind fun ns => if ns.length < 4000 then some (.p μ.length, μ ++ [.lst ((isort ns).map D.int)]) else none
  | _, _ => none
theorem g_srtW {K : PySem.W.Frag} {b : Bool} : GAr K (srtW b) (fun vs H Q => (rSortW b vs H Q ∨ rSortLW K vs H Q) ∨ rSortKW vs H Q) := by
  intro m H μ xs d μ' vs Q s r e k
  have lst : ∀ x : R, xs = [x] → ((lstD x μ).bind fun ds => (intsD ds).bind fun ns => if ns.length < 4000 then some (R.p μ.length, μ ++ [Cell.lst ((isort ns).map D.int)]) else none) = some (d, μ') → rSortLW K vs H Q := fun x hx ee => by
    subst hx
    clear e
    obtain ⟨ds, e0, ee⟩ := Option.bind_eq_some_iff.mp ee
    obtain ⟨ns, e1, ee⟩ := Option.bind_eq_some_iff.mp ee
    split at ee
    · rename_i hn
      cases ee
      obtain ⟨v, rfl, r1⟩ := rel1 r
      obtain ⟨a, ws, rfl, q, rr⟩ := lst_ok s r1 e0
      rw [intsD_eq e1] at rr
      rw [ints_rel rr] at q
      refine ⟨a, ns, rfl, q, hn, fun l hl => ?_⟩
      obtain ⟨x1, x2, x3⟩ := new_lst s (rel_ints (K := K) (H := H) (ns := isort ns)) hl
      exact k _ _ _ x1 x2 x3
    · cases ee
  unfold srtW at e
  split at e
  · rename_i c zs
    split at e
    · rename_i hc
      cases e
      obtain ⟨v, rfl, r1⟩ := rel1 r
      obtain ⟨a, o, rfl, ha, hS⟩ := r1
      rw [hc.1] at hS
      refine .inl (.inl ⟨a, o, zs, rfl, ha, hS, hc.2, fun l hl => ?_⟩)
      obtain ⟨x1, x2, x3⟩ := new_lst s (rel_ints (K := K) (H := H) (ns := isort zs)) hl
      exact k _ _ _ x1 x2 x3
    · cases e
  · rename_i n
    obtain ⟨v, rfl, r1⟩ := rel1 r
    have fin : ∀ (kvs : List (Key × D)) (es : List (Key × V)) (a : Addr), v = .ref a → Rd H a (.dK es) → es.map (·.1) = kvs.map (·.1) → ((intKeys (kvs.map (·.1))).bind fun ns => if ns.length < 4000 then some (R.p μ.length, μ ++ [Cell.lst ((isort ns).map D.int)]) else none) = some (d, μ') → rSortKW [v] H Q := fun kvs es a hv hR hk e => by
      obtain ⟨ns, e1, e⟩ := Option.bind_eq_some_iff.mp e
      split at e
      · rename_i hW
        cases e
        refine ⟨a, es, ns, by rw [hv], hR, by rw [hk]; exact intKeys_eq e1, hW, fun l hl => ?_⟩
        obtain ⟨x1, x2, x3⟩ := new_lst s (rel_ints (K := K) (H := H) (ns := isort ns)) hl
        exact k _ _ _ x1 x2 x3
      · cases e
    split at e
    · rename_i kvs q
      obtain ⟨a, rfl, ha⟩ := r1
      obtain ⟨es, ea, e1, e2⟩ := s.cell _ _ a q ha
      exact .inr (fin kvs es a rfl (.inl ea) e1 e)
    · rename_i kvs q
      obtain ⟨a, rfl, ha⟩ := r1
      obtain ⟨o, es, ea, e1, e2⟩ := s.cell _ _ a q ha
      exact .inr (fin kvs es a rfl (.inr ⟨o, ea⟩) e1 e)
    · exact .inl (.inr (lst _ rfl e))
  · exact .inl (.inr (lst _ rfl e))
  · cases e
end HW
namespace HW
open PySem PySem.Spec PyProof.Rows L2
noncomputable def isStar : Expr → Bool
  | .Starred .. => true
  | _ => false
theorem star_cons {e : Expr} {es : List Expr} {env : Env} (h : isStar e = false) : starEach (e :: es) env = (false, eval e env) :: starEach es env := by
  cases e <;> first | rfl | (simp [isStar] at h)
theorem star_any {env : Env} {pos : Pos} : ∀ {es : List Expr}, es.any isStar = false → (backTo pos (starEach es env)).any (·.1) = false
  | [], _ => rfl
  | e :: es, h => by
    rw [List.any_cons, Bool.or_eq_false_iff] at h
    rw [star_cons h.1]
    have ih := star_any (env := env) (pos := pos) h.2
    unfold backTo at ih ⊢
    rw [List.map_cons, List.any_cons, ih]
    rfl
theorem assign_cons {e : Expr} {es : List Expr} {env : Env} (h : isStar e = false) : (assignEach (e :: es) env).map (·.2) = assign e env :: (assignEach es env).map (·.2) := by
  cases e <;> first | rfl | (simp [isStar] at h)
theorem getItem_tuple_whole {prog : Program} {w : World} {A : Around} {E : Value → Shared → Prop} {s : Shared} {t sl : Addr} {items : Array Value} {vl vu : Value} {lo hi : Option Int} {Q : Value → Shared → Prop} (ht : IsTup s.heap t items) (hs : s.heap.IsSliceOf sl vl vu .none) (pl : IsPart vl lo) (pu : IsPart vu hi)
    (hw : HT.sIx items.size 0 lo = 0 ∧ HT.sIx items.size items.size hi = items.size)
    (h : Q (.ref t) s) : wpAny (model prog w) A (getItem (.ref t) (.ref sl)) Q E s := by
  obtain ⟨os, hos, hcs, hds⟩ := id hs
  have hTs : s.TypeIs (.ref sl) "slice" := ⟨os, hos, hcs⟩
  unfold getItem
  try with_reducible refine wpAny_holding ?_
  first | refine wpAny_bind (wpAny_pure ?_) | skip
  refine wpAny_bind (wpAny_sequenceKey ht.typeIs (by decide) ?_)
  refine wpAny_bind (wpAny_callSpecial?_slot (name := Str.ofString "__getitem__") ht.typeIs PyProof.Rows.slot_tuple_getitem
    (wpAny_call_entry PyProof.Rows.slot_tuple_getitem ht.typeIs entry_tuple_getitem ?_ (args_tuple_getitem _ _)))
  show wpAny _ _ (Builtin.Tuple.tupleItemsOf (.ref t) >>= _) _ _ s
  refine wpAny_bind (tupleItemsOf_ ht ?_)
  refine wpAny_bind (wpAny_typeOf hTs ?_)
  rw [if_pos (by decide)]
  refine wpAny_bind (HT.sliceApplied_gen hs pl pu ?_)
  have hyes : ((((HT.sIx items.size 0 lo : Nat) : Int) == 0 && (1 : Int) == 1 && (HT.sIx items.size items.size hi - HT.sIx items.size 0 lo) == items.size) = true) := by
    rw [hw.1, hw.2]; simp
  show wpAny _ _ (if (((HT.sIx items.size 0 lo : Nat) : Int) == 0 && (1 : Int) == 1 && (HT.sIx items.size items.size hi - HT.sIx items.size 0 lo) == items.size) = true then _ else _) _ _ s
  rw [if_pos hyes]
  refine wpAny_bind (m := Builtin.Tuple.tupleIsExact (.ref t)) (wpAny_bind (wpAny_typeOf ht.typeIs (wpAny_pure ?_)))
  rw [if_pos (by decide)]
  refine wpAny_bind (wpAny_rule ?_)
  first
    | exact wpAny_pure ⟨_, rfl, wpAny_pure h⟩
    | exact wpAny_bind (wpAny_pure (wpAny_pure ⟨_, rfl, wpAny_pure h⟩))
    | exact wpAny_bind (wpAny_pure ⟨_, rfl, wpAny_pure h⟩)
noncomputable def cutD (xs : List D) (lo hi : Option Int) : List D := (xs.drop (HT.sIx xs.length 0 lo)).take (HT.sIx xs.length xs.length hi - HT.sIx xs.length 0 lo)
def rSl (K : PySem.W.Frag) : V → Option Int → Option Int → Hp → VK → Prop := fun x lo hi H Q => rSlL K x lo hi H Q ∨ rSlT K x lo hi H Q ∨
  ∃ a xs, x = .ref a ∧ SqT K H a xs ∧ (HT.sIx xs.length 0 lo = 0 ∧ HT.sIx xs.length xs.length hi = xs.length) ∧ Q (.ref a) H
theorem sl_whole {X : Cx} : SlR X (fun x lo hi H Q => ∃ a xs, x = .ref a ∧ SqT X.K H a xs ∧ (HT.sIx xs.length 0 lo = 0 ∧ HT.sIx xs.length xs.length hi = xs.length) ∧ Q (.ref a) H) := by
  intro pins s σ H x v vl vu lo hi sl Q I rx hs pl pu h
  obtain ⟨a, xs, rfl, hx, hw, q⟩ := h
  cases rx
  obtain ⟨its, r, ht, hz⟩ := I.tuple hx
  have hlen : its.toArray.size = xs.length := by rw [List.size_toArray]; exact r.length.symm
  refine ⟨"tuple", _, PyProof.Rows.slot_tuple_getitem.lookup, ht.typeIs, ?_⟩
  exact getItem_tuple_whole ht hs pl pu (by rw [hlen]; exact hw) ⟨.ref a, H, I, rfl, q⟩
theorem sl_any {X : Cx} : SlR X (rSl X.K) := SlR.or sl_list (SlR.or sl_tup sl_whole)
noncomputable abbrev FO := Lo → Store → Option (Option Int × Store)
def rdO (K : PySem.W.Frag) (f : FO) : TO := fun σ H Q => ∃ ρ μ m o μ', LRel K m H ρ σ ∧ SRel K m H μ ∧ f ρ μ = some (o, μ') ∧ ∀ H' m', Ext m H m' H' → SRel K m' H' μ' → Q o H'
noncomputable def oNone : FO := fun _ μ => some (none, μ)
noncomputable def oSome (f : FE) : FO := fun ρ μ => (f ρ μ).bind fun a => match a.1 with | .v (.int i) => some (some i, a.2) | _ => none
noncomputable def slD (x : R) (lo hi : Option Int) (μ : Store) : Option (R × Store) := match x with
  | .v (.tup xs) => some (.v (.tup (cutD xs lo hi)), μ)
  | x => (lstD x μ).bind fun xs => some (.p μ.length, μ ++ [.lst (cutD xs lo hi)])
noncomputable def fSl (fa : FE) (fl fh : FO) : FE := fun ρ μ => (fa ρ μ).bind fun a => (fl ρ a.2).bind fun l => (fh ρ l.2).bind fun h => slD a.1 l.1 h.1 h.2
theorem RelDs.drop {K : PySem.W.Frag} {H : Hp} : ∀ {xs : List D} {vs : List V} (n : Nat), RelDs K H xs vs → RelDs K H (xs.drop n) (vs.drop n)
  | _, _, 0, h => h
  | [], _, n + 1, h => by simp only [RelDs] at h; subst h; simp only [List.drop_nil, RelDs]
  | x :: xs, _, n + 1, h => by
    simp only [RelDs] at h
    obtain ⟨v, r, rfl, _, h2⟩ := h
    exact RelDs.drop n h2
theorem RelDs.take {K : PySem.W.Frag} {H : Hp} : ∀ {xs : List D} {vs : List V} (n : Nat), RelDs K H xs vs → RelDs K H (xs.take n) (vs.take n)
  | _, _, 0, h => by simp only [List.take_zero, RelDs]
  | [], _, n + 1, h => by simp only [RelDs] at h; subst h; simp only [List.take_nil, RelDs]
  | x :: xs, _, n + 1, h => by
    simp only [RelDs] at h
    obtain ⟨v, r, rfl, h1, h2⟩ := h
    simp only [List.take_succ_cons, RelDs]
    exact ⟨v, _, rfl, h1, RelDs.take n h2⟩
theorem RelDs.cut {K : PySem.W.Frag} {H : Hp} {xs : List D} {vs : List V} {lo hi : Option Int} (h : RelDs K H xs vs) : RelDs K H (cutD xs lo hi) (cutV vs lo hi) := by
  unfold cutD cutV
  rw [h.length]
  exact (h.drop _).take _
section
variable {K : PySem.W.Frag} {σ : L2.St} {H : Hp} {Q : VK}
theorem rd_oNone {Q : Option Int → Hp → Prop} (h : rdO K oNone σ H Q) : tNoPart σ H Q := by
  obtain ⟨ρ, μ, m, o, μ', hl, hs, e, k⟩ := h
  cases e
  exact k H m .refl hs
theorem rd_oSome {f} {Q : Option Int → Hp → Prop} (h : rdO K (oSome f) σ H Q) : tPart (rdE K f) σ H Q := by
  obtain ⟨ρ, μ, m, o, μ', hl, hs, e, k⟩ := h
  obtain ⟨⟨x, μ1⟩, e1, e⟩ := Option.bind_eq_some_iff.mp e
  split at e
  · rename_i i q
    cases e
    simp only at q
    subst q
    exact ⟨ρ, μ, m, _, μ1, hl, hs, e1, fun v H1 m1 x1 s1 r1 => ⟨i, by simpa only [RelR, RelD] using r1, k H1 m1 x1 s1⟩⟩
  · cases e
theorem sl_ok {m : List Addr} {μ μ' : Store} {x d : R} {v : V} {lo hi : Option Int} (s : SRel K m H μ) (r : RelR K m H x v) (e : slD x lo hi μ = some (d, μ')) (k : ∀ w H' m', Ext m H m' H' → SRel K m' H' μ' → RelR K m' H' d w → Q w H') : rSl K v lo hi H Q := by
  have lst : ∀ xs, lstD x μ = some xs → (some (R.p μ.length, μ ++ [Cell.lst (cutD xs lo hi)]) : Option (R × Store)) = some (d, μ') → rSl K v lo hi H Q := fun xs e1 e2 => by
    cases e2
    obtain ⟨a, vs, rfl, q, rr⟩ := lst_ok s r e1
    refine .inl ⟨a, vs, rfl, q, fun p hp => ?_⟩
    obtain ⟨x1, x2, x3⟩ := new_lst s (rr.cut (lo := lo) (hi := hi)) hp
    exact k _ _ _ x1 x2 x3
  have gen : (lstD x μ).bind (fun xs => some (R.p μ.length, μ ++ [Cell.lst (cutD xs lo hi)])) = some (d, μ') → rSl K v lo hi H Q := fun e => by
    obtain ⟨xs, e1, e⟩ := Option.bind_eq_some_iff.mp e
    exact lst xs e1 e
  cases x with
  | p n => exact gen e
  | s _ n => exact gen e
  | x n => exact gen e
  | v d0 =>
    cases d0 with
    | tup xs =>
      cases e
      simp only [RelR, RelD] at r
      obtain ⟨a, vs, rfl, q, rr⟩ := r
      by_cases hw : HT.sIx vs.length 0 lo = 0 ∧ HT.sIx vs.length vs.length hi = vs.length
      · refine .inr (.inr ⟨a, vs, rfl, q, hw, k _ H m .refl s ?_⟩)
        simp only [RelR, RelD]
        refine ⟨a, vs, rfl, q, ?_⟩
        have := rr.cut (lo := lo) (hi := hi)
        unfold cutV at this
        rw [hw.1, hw.2] at this
        simpa using this
      · refine .inr (.inl ⟨a, vs, rfl, q, hw, fun p hp => ?_⟩)
        obtain ⟨x1, x2, x3⟩ := new_tup s (rr.cut (lo := lo) (hi := hi)) hp
        exact k _ _ _ x1 x2 x3
    | non => exact gen e
    | bl _ => exact gen e
    | int _ => exact gen e
    | str _ => exact gen e
    | fl _ => exact gen e
    | fd _ _ => exact gen e
theorem rd_sl {fa fl fh} (h : rdE K (fSl fa fl fh) σ H Q) : tSl (rSl K) (rdE K fa) (rdO K fl) (rdO K fh) σ H Q := by
  obtain ⟨ρ, μ, m, d, μ', hl, hs, e, k⟩ := h
  obtain ⟨⟨x, μ1⟩, e1, e⟩ := Option.bind_eq_some_iff.mp e
  obtain ⟨⟨l, μ2⟩, e2, e⟩ := Option.bind_eq_some_iff.mp e
  obtain ⟨⟨u, μ3⟩, e3, e⟩ := Option.bind_eq_some_iff.mp e
  refine ⟨ρ, μ, m, x, μ1, hl, hs, e1, fun v H1 m1 x1 s1 r1 => ?_⟩
  refine ⟨ρ, μ1, m1, l, μ2, hl.ext x1, s1, e2, fun H2 m2 x2 s2 => ?_⟩
  refine ⟨ρ, μ2, m2, u, μ3, hl.ext (x1.trans x2), s2, e3, fun H3 m3 x3 s3 => ?_⟩
  exact sl_ok s3 (r1.ext (x2.trans x3)) e fun w H4 m4 x4 s4 r4 => k w H4 m4 (((x1.trans x2).trans x3).trans x4) s4 r4
end
theorem PO.imp {X : Cx} {e : Option Expr} {t t' : TO} (h : PO X e t) (k : ∀ {σ H Q}, t' σ H Q → t σ H Q) : PO X e t' := fun pins s σ H Q I q => h pins s σ H Q I (k q)
noncomputable def fStep (fa : FE) (fl fh : FO) (k : Int) : FE := fun ρ μ => (fa ρ μ).bind fun a => (fl ρ a.2).bind fun l => (fh ρ l.2).bind fun h => if k = 0 then none else (lstD a.1 h.2).bind fun xs => some (.p h.2.length, h.2 ++ [.lst (stepV xs l.1 h.1 k)])
noncomputable def fDnew : FE := fun _ μ => some (.p μ.length, μ ++ [.dct []])
namespace R
section
variable {X : Cx} {a b e o : Expr} {es : List Expr} {fa fb : FE} {ga : FA} {pos p p2 apos : Pos} {x : Str}
theorem q_var (i : Nat) (hN : X.N[i]? = some x := by rfl) (hv : Vis X.env.scope x := by first | exact Or.inl rfl | exact Or.inr (Or.inl rfl) | exact Or.inr (Or.inr rfl)) (hd : (x == ("__debug__" : Str)) = false := by decide)
    (hcd : (x == ("__classdict__" : Str)) = false := by decide) : PE X (.Name x pos) (rdE X.K (fVar i)) := PE.imp (pe_var hN hv hd hcd) rd_var
theorem q_int {i j} : PE X (.Constant (.int i) j pos) (rdE X.K (fK (.int i))) := PE.imp pe_int (rd_const fun _ _ => by simp only [RelR, RelD])
theorem q_bl {i j} : PE X (.Constant (.bool i) j pos) (rdE X.K (fK (.bl i))) := PE.imp pe_bl (rd_const fun _ _ => by simp only [RelR, RelD])
theorem q_non {j} : PE X (.Constant .none j pos) (rdE X.K (fK .non)) := PE.imp pe_non (rd_const fun _ _ => by simp only [RelR, RelD])
theorem q_addQ (ha : PE X a (rdE X.K fa)) (hb : PE X b (rdE X.K fb)) : PE X (.BinOp a .Add b pos) (rdE X.K (fOp addQ fa fb)) := PE.imp (pe_op ((op_add.or (op_add_str.or (op_catT.or op_cat))).or op_add0) ha hb) (rd_op g_addQ)
theorem q_sub (ha : PE X a (rdE X.K fa)) (hb : PE X b (rdE X.K fb)) : PE X (.BinOp a .Sub b pos) (rdE X.K (fOp subD fa fb)) := PE.imp (pe_op op_sub ha hb) (rd_op g_sub)
theorem q_mul (ha : PE X a (rdE X.K fa)) (hb : PE X b (rdE X.K fb)) : PE X (.BinOp a .Mult b pos) (rdE X.K (fOp mulD fa fb)) := PE.imp (pe_op op_mul ha hb) (rd_op g_mul)
theorem q_div (ha : PE X a (rdE X.K fa)) (hb : PE X b (rdE X.K fb)) : PE X (.BinOp a .FloorDiv b pos) (rdE X.K (fOp divD fa fb)) := PE.imp (pe_op op_fdiv ha hb) (rd_op g_div)
theorem q_mod (ha : PE X a (rdE X.K fa)) (hb : PE X b (rdE X.K fb)) : PE X (.BinOp a .Mod b pos) (rdE X.K (fOp modD fa fb)) := PE.imp (pe_op op_mod ha hb) (rd_op g_mod)
theorem q_pow (ha : PE X a (rdE X.K fa)) (hb : PE X b (rdE X.K fb)) : PE X (.BinOp a .Pow b pos) (rdE X.K (fOp powD fa fb)) := PE.imp (pe_op op_pow ha hb) (rd_op g_pow)
theorem q_neg (ha : PE X a (rdE X.K fa)) : PE X (.UnaryOp .USub a pos) (rdE X.K (fUn negD fa)) := PE.imp (pe_un un_neg ha) (rd_un g_neg)
theorem q_not (ha : PE X a (rdE X.K fa)) : PE X (.UnaryOp .Not a pos) (rdE X.K (fNot fa)) := PE.imp (pe_not ha) rd_not
theorem q_eq (hu : X.A.units + 64 < cLine) (ha : PE X a (rdE X.K fa)) (hb : PE X b (rdE X.K fb)) : PE X (.Compare a [.Eq] [b] pos) (rdE X.K (fOp (eqR false) fa fb)) := PE.imp (pe_cmpR (op_eqD hu) ha hb (nomark _)) (rd_op g_eq)
theorem q_ne (hu : X.A.units + 64 < cLine) (ha : PE X a (rdE X.K fa)) (hb : PE X b (rdE X.K fb)) : PE X (.Compare a [.NotEq] [b] pos) (rdE X.K (fOp (eqR true) fa fb)) := PE.imp (pe_cmpR (op_neD hu) ha hb (nomark _)) (rd_op g_eq)
theorem q_and {rest : List Expr} (ha : PE X a (rdE X.K fa)) (hb : PE X (.BoolOp .And (b :: rest) pos) (rdE X.K fb)) : PE X (.BoolOp .And (a :: b :: rest) pos) (rdE X.K (fAnd fa fb)) := PE.imp (pe_and ha hb) rd_and
theorem q_one {op} (ha : PE X a (rdE X.K fa)) : PE X (.BoolOp op [a] pos) (rdE X.K fa) := pe_one ha
theorem q_nil : PA X [] (rdA X.K fNil) := PA.imp pa_nil rd_nil
theorem q_cons (ha : PE X e (rdE X.K fa)) (hr : PA X es (rdA X.K ga)) (hs : starEach (e :: es) X.env = (false, eval e X.env) :: starEach es X.env := by exact star_cons rfl) : PA X (e :: es) (rdA X.K (fCons fa ga)) := PA.imp (pa_cons ha hr hs) rd_cons
theorem q_tup {x1} (h : PA X es (rdA X.K ga)) : PE X (.Tuple es x1 pos) (rdE X.K (fTup ga)) := PE.imp (pe_tup h) rd_tup
theorem q_lst (h : PA X es (rdA X.K ga)) : PE X (.List es pos) (rdE X.K (fLst ga)) := PE.imp (pe_lst h) rd_lst
theorem q_fz (ha : PE X a (rdE X.K fa)) : PE X a (rdE X.K (fFz fa)) := PE.imp (pe_fz0 ha) rd_fz
theorem q_ix (ha : PE X a (rdE X.K fa)) (hb : PE X b (rdE X.K fb)) (hs : PlainIx b := by intro _ _; rfl) : PE X (.Subscript a b pos) (rdE X.K (fOp ixD fa fb)) := PE.imp (pe_ix ix_seq ha hb hs) (rd_op g_ix)
theorem q_oN : PO X none (rdO X.K oNone) := PO.imp po_none rd_oNone
theorem q_oS (ha : PE X a (rdE X.K fa)) : PO X (some a) (rdO X.K (oSome fa)) := PO.imp (po_some ha) rd_oSome
theorem q_sl {lo hi : Option Expr} {fl fh : FO} (ha : PE X a (rdE X.K fa)) (hl : PO X lo (rdO X.K fl)) (hh : PO X hi (rdO X.K fh)) : PE X (.Subscript a (.Slice lo hi none p2) pos) (rdE X.K (fSl fa fl fh)) := PE.imp (pe_slice sl_any ha hl hh) rd_sl
theorem q_call {k : Nat} {f : Addr} {fd : FuncData} {ps : List Str} {n : Nat} {mf : MF} (F : FnOk X.prog X.w X.K X.mg X.base CX0 k f fd ps (spP X.K n mf)) (hr : Room k X.A) (hg : Gl X x) (hm : X.mg x = some (.ref f)) (hk : PySem.W.keepIn X.K (.ref f) = true) (hb : Binds X.K fd ps [])
    (ha : PA X (e :: es) (rdA X.K ga)) (hdb : (x == ("__debug__" : Str)) = false := by decide) (he : starEach (e :: es) X.env = (false, eval e X.env) :: starEach es X.env := by exact star_cons rfl) (hpl : (backTo pos (starEach es X.env)).any (·.1) = false := by exact star_any rfl) :
    PE X (.Call (.Name x p) (e :: es) [] pos) (rdE X.K (fCall mf n ga)) := PE.imp (pe_call F hr hg hm hk hb .nil pass0 ha hdb he hpl) rd_call
theorem q_len (hg : Gl X "len") (hm : X.mg "len" = none) (ha : PA X (e :: es) (rdA X.K ga)) (he : starEach (e :: es) X.env = (false, eval e X.env) :: starEach es X.env := by exact star_cons rfl) (hpl : (backTo pos (starEach es X.env)).any (·.1) = false := by exact star_any rfl) :
    PE X (.Call (.Name "len" p) (e :: es) [] pos) (rdE X.K (fAr lenD ga)) := PE.imp (pe_callB call_len_seq hg hm PySem.boot_len ha (he := he) (hpl := hpl)) (rd_ar g_len)
theorem q_min (hc : X.calm = true) (hg : Gl X "min") (hm : X.mg "min" = none) (ha : PA X (e :: es) (rdA X.K ga)) (he : starEach (e :: es) X.env = (false, eval e X.env) :: starEach es X.env := by exact star_cons rfl) (hpl : (backTo pos (starEach es X.env)).any (·.1) = false := by exact star_any rfl) :
    PE X (.Call (.Name "min" p) (e :: es) [] pos) (rdE X.K (fAr minD ga)) := PE.imp (pe_callB (call_min2 hc) hg hm (by decide +kernel) ha (he := he) (hpl := hpl)) (rd_ar g_min)
theorem q_disp3 {k1 k2 k3 v1 v2 v3 : Expr} {f1 f2 f3 g1 g2 g3 : FE} (hk1 : PE X k1 (rdE X.K f1)) (hv1 : PE X v1 (rdE X.K g1)) (hk2 : PE X k2 (rdE X.K f2)) (hv2 : PE X v2 (rdE X.K g2)) (hk3 : PE X k3 (rdE X.K f3)) (hv3 : PE X v3 (rdE X.K g3)) : PE X (.Dict [some k1, some k2, some k3] [v1, v2, v3] pos) (rdE X.K (fDisp [(f1, g1), (f2, g2), (f3, g3)])) := PE.imp (pe_disp (pps_cons hk1 hv1 (pps_cons hk2 hv2 (pps_cons hk3 hv3 pps_nil))) rfl rfl (by simp) (by simp)) rd_disp
theorem q_tuple (hg : Gl X "tuple") (hm : X.mg "tuple" = none) (ha : PA X (e :: es) (rdA X.K ga)) (he : starEach (e :: es) X.env = (false, eval e X.env) :: starEach es X.env := by exact star_cons rfl) (hpl : (backTo pos (starEach es X.env)).any (·.1) = false := by exact star_any rfl) :
    PE X (.Call (.Name "tuple" p) (e :: es) [] pos) (rdE X.K (fAr tupD ga)) := PE.imp (pe_callTy call_tuple_of hg hm (by decide +kernel) ha (he := he) (hpl := hpl)) (rd_ar g_tup)
theorem q_list (hg : Gl X "list") (hm : X.mg "list" = none) (ha : PA X (e :: es) (rdA X.K ga)) (he : starEach (e :: es) X.env = (false, eval e X.env) :: starEach es X.env := by exact star_cons rfl) (hpl : (backTo pos (starEach es X.env)).any (·.1) = false := by exact star_any rfl) :
    PE X (.Call (.Name "list" p) (e :: es) [] pos) (rdE X.K (fAr listD ga)) := PE.imp (pe_callTy call_list_of hg hm (by decide +kernel) ha (he := he) (hpl := hpl)) (rd_ar g_list)
theorem q_isi {T : String} {y : Str} (hT : Kinds X.K T) (hg : Gl X "isinstance") (hm : X.mg "isinstance" = none) (hgT : Gl X y) (hmT : X.mg y = none) (hvT : bootBuiltins y = some (.type T)) (ha : PE X e (rdE X.K fa)) (hn : y ≠ "__name__" := by decide) (hdb : (y == ("__debug__" : Str)) = false := by decide)
    (he : starEach (e :: [.Name y p2]) X.env = (false, eval e X.env) :: starEach [.Name y p2] X.env := by exact star_cons rfl) (hpl : (backTo pos (starEach [.Name y p2] X.env)).any (·.1) = false := by rfl) :
    PE X (.Call (.Name "isinstance" p) [e, .Name y p2] [] pos) (rdE X.K (fUn (isiD T) fa)) :=
  PE.imp (pe_callB (call_isi hT) hg hm (by decide +kernel) (pa_cons ha (pa_cons (pe_bltn (v := .ty T) hgT hmT hvT rfl hn hdb) pa_nil rfl) he) (he := he) (hpl := hpl)) rd_isi
theorem t_tru (ha : PE X a (rdE X.K fa)) (he : ∀ whole, isTrue a X.env whole = (do let v ← whole; standAt a.pos; holding [v] (truthy v)) := by intro _; rfl) : PT X a (rdT X.K (fTru fa)) := PT.imp (pt_truth ha he) rd_tru
theorem t_cmp {op : CmpOp} {r : R2} {g : R → R → Store → Option (R × Store)} (ho : OpR X (compareOp op) r) (hg : GOp X.K g r) (ha : PE X a (rdE X.K fa)) (hb : PE X b (rdE X.K fb)) (hm : behindInMarks op b = false) : PT X (.Compare a [op] [b] pos) (rdT X.K (fB (fOp g fa fb))) :=
  PT.imp (pt_cmpR ho ha hb hm) fun h => by
    obtain ⟨ρ, μ, m, d, μ', hl, hs, e, k⟩ := rd_Test h
    exact rd_op hg ⟨ρ, μ, m, d, μ', hl, hs, e, k⟩
theorem t_lt (ha : PE X a (rdE X.K fa)) (hb : PE X b (rdE X.K fb)) : PT X (.Compare a [.Lt] [b] pos) (rdT X.K (fB (fOp ltD fa fb))) := t_cmp op_lt g_lt ha hb (nomark _)
theorem t_le (ha : PE X a (rdE X.K fa)) (hb : PE X b (rdE X.K fb)) : PT X (.Compare a [.LtE] [b] pos) (rdT X.K (fB (fOp leD fa fb))) := t_cmp op_le g_le ha hb (nomark _)
theorem t_eq (hu : X.A.units + 64 < cLine) (ha : PE X a (rdE X.K fa)) (hb : PE X b (rdE X.K fb)) : PT X (.Compare a [.Eq] [b] pos) (rdT X.K (fB (fOp (eqR false) fa fb))) := t_cmp (op_eqD hu) g_eq ha hb (nomark _)
theorem t_ne (hu : X.A.units + 64 < cLine) (ha : PE X a (rdE X.K fa)) (hb : PE X b (rdE X.K fb)) : PT X (.Compare a [.NotEq] [b] pos) (rdT X.K (fB (fOp (eqR true) fa fb))) := t_cmp (op_neD hu) g_eq ha hb (nomark _)
theorem t_is {op : CmpOp} {neg : Bool} {c : D} {cv : V} (hc : (c = .non ∧ cv = .non) ∨ ∃ b, c = .bl b ∧ cv = .bl b) (ho : OpR X (compareOp op) (rIsK neg cv)) (ha : PE X a (rdE X.K fa)) (hb : PE X b (tC cv)) (hm : behindInMarks op b = false) : PT X (.Compare a [op] [b] pos) (rdT X.K (fB (fUn (isK neg c) fa))) :=
  PT.imp (pt_cmpR ho ha hb hm) fun h => by
    obtain ⟨ρ, μ, m, d, μ', hl, hs, e, k⟩ := rd_Test h
    exact rd_is hc ⟨ρ, μ, m, d, μ', hl, hs, e, k⟩
theorem t_isN {j} (ha : PE X a (rdE X.K fa)) : PT X (.Compare a [.Is] [.Constant .none j p] pos) (rdT X.K (fB (fUn (isK false .non) fa))) := t_is (.inl ⟨rfl, rfl⟩) op_isNon ha pe_non (nomark _)
theorem t_notN {j} (ha : PE X a (rdE X.K fa)) : PT X (.Compare a [.IsNot] [.Constant .none j p] pos) (rdT X.K (fB (fUn (isK true .non) fa))) := t_is (.inl ⟨rfl, rfl⟩) op_isNotNon ha pe_non (nomark _)
variable {ta tb : FT} {rest : List Expr}
theorem t_not (ha : PT X a (rdT X.K ta)) : PT X (.UnaryOp .Not a pos) (rdT X.K (tNotF ta)) := PT.imp (pt_not ha) rd_tnot
theorem w_and (ha : PT X a (rdT X.K ta)) (hb : PW X (.BoolOp .And (b :: rest) pos) (rdT X.K tb)) : PW X (.BoolOp .And (a :: b :: rest) pos) (rdT X.K (tAndF ta tb)) := PW.imp (pw_and ha hb) rd_tand
theorem w_or (ha : PT X a (rdT X.K ta)) (hb : PW X (.BoolOp .Or (b :: rest) pos) (rdT X.K tb)) : PW X (.BoolOp .Or (a :: b :: rest) pos) (rdT X.K (tOrF ta tb)) := PW.imp (pw_or ha hb) rd_tor
theorem w_and1 (ha : PT X a (rdT X.K ta)) : PW X (.BoolOp .And [a] pos) (rdT X.K ta) := pw_and1 ha
theorem w_or1 (ha : PT X a (rdT X.K ta)) : PW X (.BoolOp .Or [a] pos) (rdT X.K ta) := pw_or1 ha
theorem t_w (h : PW X a (rdT X.K ta)) : PT X a (rdT X.K ta) := h.pt
variable {st : Stmt} {sts aa bb : List Stmt} {sa sb : FS} {c tg iter : Expr}
theorem s_nil : PSs X [] (rdS X.K sNext) := PSs.imp pss_nil rd_next
theorem s_cons (h1 : PS X st (rdS X.K sa)) (h2 : PSs X sts (rdS X.K sb)) : PSs X (st :: sts) (rdS X.K (sSeq sa sb)) := PSs.imp (pss_cons h1 h2) rd_seq
theorem s_one (h1 : PS X st (rdS X.K sa)) : PSs X [st] (rdS X.K sa) := pss_one h1
theorem s_expr (he : PE X e (rdE X.K fa)) (hs : swapsWith e none pos.line X.env = pure false := by rfl) : PS X (.Expr e pos) (rdS X.K (sDrop fa)) := PS.imp (ps_expr he hs) rd_drop
theorem s_ret (he : PE X e (rdE X.K fa)) : PS X (.Return (some e) pos) (rdS X.K (sRet fa)) := PS.imp (ps_ret he) rd_ret
theorem s_if (hc : PT X c (rdT X.K ta)) (ha : PSs X aa (rdS X.K sa)) (hb : PSs X bb (rdS X.K sb)) : PS X (.If c aa bb pos) (rdS X.K (sIf ta sa sb)) := PS.imp (ps_if hc ha hb) rd_ifS
theorem s_set (i : Nat) {pos' : Pos} (hN : X.N.Nodup) (he : PE X e (rdE X.K fa)) (hi : X.N[i]? = some x := by rfl) (hx : Loc X.env.scope x := by first | exact Or.inl rfl | exact Or.inr rfl) (hs : swapsWith e (some (.Name x pos')) pos.line X.env = pure false := by rfl) (hf : X.fn x = true ∨ X.env.scope.names.lookup x = some .local := by first | exact .inl rfl | exact .inr rfl) :
    PS X (.Assign [.Name x pos'] e pos) (rdS X.K (sSet i fa)) := PS.imp (ps_set hN hi hx he hs hf) rd_set
variable {g : FG} {gs : FGs} {fi : FI}
theorem g_nm (i : Nat) (hN : X.N.Nodup) (hi : X.N[i]? = some x := by rfl) (hx : Loc X.env.scope x := by first | exact Or.inl rfl | exact Or.inr rfl) (hf : X.fn x = true ∨ X.env.scope.names.lookup x = some .local := by first | exact .inl rfl | exact .inr rfl) : PG X (.Name x pos) (rdG X.K (gNm i)) := PG.imp (pg_name hN hi hx hf) rd_gNm
theorem gs_nil : PGs X [] (rdGs X.K gsNil) := PGs.imp pgs_nil rd_gsNil
theorem gs_cons (h1 : PG X e (rdG X.K g)) (h2 : PGs X es (rdGs X.K gs)) (hs : (assignEach (e :: es) X.env).map (·.2) = assign e X.env :: (assignEach es X.env).map (·.2) := by exact assign_cons rfl) : PGs X (e :: es) (rdGs X.K (gsCons g gs)) := PGs.imp (pgs_cons h1 h2 hs) rd_gsCons
theorem g_tp {k n : Nat} (hc : X.calm = true) (h : PGs X es (rdGs X.K gs)) (hn : (assignEach es X.env).length = n := by rfl) (hst : (assignEach es X.env).findIdx? (·.1) = none := by rfl) : PG X (.Tuple es k pos) (rdG X.K (gTp n gs)) := PG.imp (pg_tup hc h hn hst) rd_gTp
theorem g_sb (hu : X.A.units + 64 < cLine) (ha : PE X a (rdE X.K fa)) (hb : PE X b (rdE X.K fb)) (hq : ∀ v, assign (.Subscript a b pos) X.env v = (do
      let ov ← holding [v] (eval a X.env)
      let iv ← holding [v, ov] (eval b X.env)
      standAt pos
      holding [v, ov, iv] (setItem ov iv v)
      release [v, ov, iv] []) := by intro _; rfl) : PG X (.Subscript a b pos) (rdG X.K (gSub fa fb)) := PG.imp (pg_sub ha hb (PSet.or set_list (set_dict (by omega))) hq) rd_gSub
theorem i_seq (ha : PE X a (rdE X.K fa)) : PI X tg a (rdI X.K (fiSeq fa)) := PI.imp (pi_seq0 (pe_fz0 ha)) rd_iSeq
theorem i_r1 (hg : Gl X "range") (hm : X.mg "range" = none) (ha : PE X a (rdE X.K fa)) (hs : starEach [a] X.env = [(false, eval a X.env)] := by exact star_cons rfl) : PI X tg (.Call (.Name "range" p) [a] [] pos) (rdI X.K (fiR1 fa)) := PI.imp (pi_range1 hg hm (q_cons ha q_nil hs) hs) rd_iR1
theorem i_r3 {fc : FE} (hg : Gl X "range") (hm : X.mg "range" = none) (ha : PE X a (rdE X.K fa)) (hb : PE X b (rdE X.K fb)) (hc : PE X c (rdE X.K fc)) (hs : starEach [a, b, c] X.env = (false, eval a X.env) :: starEach [b, c] X.env := by exact star_cons rfl) (hs1 : starEach [b, c] X.env = (false, eval b X.env) :: starEach [c] X.env := by exact star_cons rfl) (hs2 : starEach [c] X.env = (false, eval c X.env) :: starEach [] X.env := by exact star_cons rfl) (hs3 : (backTo pos (starEach [b, c] X.env)).any (·.1) = false := by exact star_any rfl) : PI X tg (.Call (.Name "range" p) [a, b, c] [] pos) (rdI X.K (fiR3 fa fb fc)) := PI.imp (pi_range3 hg hm (q_cons ha (q_cons hb (q_cons hc q_nil hs2) hs1) hs) hs hs3) rd_iR3
theorem s_for (hc : X.calm = true) (hi : PI X tg iter (rdI X.K fi)) (hg : PG X tg (rdG X.K g)) (hb : PSs X aa (rdS X.K sa)) (hp : PassesOwn (model X.prog X.w) X.A X.env X.xe) (hs : ∀ x, foldedSetIterable iter X.env x = pure x := by intro _; rfl) : PS X (.For tg iter aa [] pos) (rdS X.K (sFor fi g sa)) := PS.imp (ps_for hp hc hi hg hb hs) rd_for
theorem s_asg (he : PE X e (rdE X.K fa)) (hg : PG X tg (rdG X.K g)) (hs : swapsWithSole [tg] e pos.line X.env = pure false := by rfl) (hw : swappedStores [tg] e X.env = pure none := by rfl) (h1 : (assignEach [tg] X.env).map (·.2) = [assign tg X.env] := by rfl) : PS X (.Assign [tg] e pos) (rdS X.K (sAsg fa g)) := PS.imp (ps_asg he hg hs hw h1) rd_asg
theorem PIfs.imp {ifs : List Expr} {t t' : TT} (h : PIfs X ifs t) (k : ∀ {σ H Q}, t' σ H Q → t σ H Q) : PIfs X ifs t' := fun pins s σ H Q I q => h pins s σ H Q I (k q)
theorem f_nil : PIfs X [] (rdT X.K cYes) := PIfs.imp pifs_nil rd_yes
theorem f_one (h : PT X c (rdT X.K ta)) : PIfs X [c] (rdT X.K ta) := pifs_one h
theorem q_comp {ifs : List Expr} {scope : Scope} (ix : List Nat) (own caps : List Str) (hc : X.calm = true) (n : CompNames X.env.scope scope own caps) (hi : PI X tg iter (rdI X.K fi))
    (hb : ∀ cl C s₂ H₂ fp, PG (blockCx X scope cl C s₂ H₂ fp (own ++ caps)) tg (rdG X.K g) ∧ PIfs (blockCx X scope cl C s₂ H₂ fp (own ++ caps)) ifs (rdT X.K ta) ∧ PE (blockCx X scope cl C s₂ H₂ fp (own ++ caps)) e (rdE X.K fa))
    (hix : ix.map (fun i => X.N[i]?) = caps.map some := by rfl)
    (hs : ∀ x, foldedSetIterable iter X.env x = pure x := by intro _; rfl) : PE X (.ListComp e [⟨tg, iter, ifs, 0⟩] scope pos) (rdE X.K (fComp ix own.length fi g ta fa)) := by
  refine PE.imp (pe_comp0 (ix := ix) hc n (by simpa using congrArg List.length hix) (fun j i y h1 h2 => ?_) hi hb hs) (rd_comp rfl)
  have := congrArg (fun l => l[j]?) hix
  simp only [List.getElem?_map, h1, h2, Option.map_some] at this
  exact Option.some.inj this
end
end R
noncomputable def isLst (x : R) (μ : Store) : Bool := match x with | .v (.fl _) => true | .p n => (match μ[n]? with | some (.lst _) => true | some (.fz _) => true | _ => false) | _ => false
noncomputable def fMt (g : R → List R → Store → Option (R × Store)) (fa : FE) (ga : FA) : FE := fun ρ μ => (fa ρ μ).bind fun a => if isLst a.1 a.2 = true then (ga ρ a.2).bind fun b => g a.1 b.1 b.2 else none
theorem isLst_ok {K : PySem.W.Frag} {m : List Addr} {H : Hp} {μ : Store} {x : R} {v : V} (s : SRel K m H μ) (r : RelR K m H x v) (e : isLst x μ = true) : tyV K "list" v H := by
  have : ∃ xs, lstD x μ = some xs := by
    cases x with
    | v d => cases d <;> simp_all [isLst, lstD]
    | s _ _ => simp [isLst] at e
    | x _ => simp [isLst] at e
    | p n =>
      simp only [isLst] at e
      simp only [lstD]
      split at e
      · rename_i xs q; exact ⟨xs, by first | rfl | rw [q]⟩
      · rename_i xs q; exact ⟨xs, by first | rfl | rw [q]⟩
      · cases e
  obtain ⟨xs, e⟩ := this
  obtain ⟨a, vs, rfl, q, _⟩ := lst_ok s r e
  exact .inl ⟨rfl, vs, q⟩
theorem rd_mt {K : PySem.W.Frag} {σ : L2.St} {H : Hp} {Q : VK} {g r fa ga} (hg : GMt K g r) (h : rdE K (fMt g fa ga) σ H Q) : tBM K "list" r (rdE K fa) (rdA K ga) σ H Q := by
  obtain ⟨ρ, μ, m, d, μ', hl, hs, e, k⟩ := h
  obtain ⟨⟨x, μ1⟩, e1, e⟩ := Option.bind_eq_some_iff.mp e
  split at e
  · rename_i hx
    obtain ⟨⟨ys, μ2⟩, e2, e⟩ := Option.bind_eq_some_iff.mp e
    refine ⟨ρ, μ, m, x, μ1, hl, hs, e1, fun v H1 m1 x1 s1 r1 => ⟨isLst_ok s1 r1 hx, ?_⟩⟩
    refine ⟨ρ, μ1, m1, ys, μ2, hl.ext x1, s1, e2, fun vs H2 m2 x2 s2 r2 => ?_⟩
    exact hg m2 H2 μ2 x ys d μ' v vs Q s2 (r1.ext x2) r2 e fun w H3 m3 x3 s3 r3 => k w H3 m3 ((x1.trans x2).trans x3) s3 r3
  · cases e
structure DefAt (K : PySem.W.Frag) (mg : Str → Option Value) (x : Str) (st : Stmt) (ps : List Str) : Prop where
  ex : ∃ f fd, Fun K x x st f fd ∧ Binds K fd ps [] ∧ mg x = some (.ref f)
def Kept (P : Program) (w : World) (K : PySem.W.Frag) (mg : Str → Option Value) (base : Heap) (k : Nat) (x : Str) (ps : List Str) (mf : MF) : Prop :=
  ∃ f fd, FnOk P w K mg base CX0 k f fd ps (spP K ps.length mf) ∧ PySem.W.keepIn K (.ref f) = true ∧ Binds K fd ps [] ∧ mg x = some (.ref f)
namespace R
theorem okP {P : Program} {w : World} {K : PySem.W.Frag} {mg : Str → Option Value} {base : Heap} {x : Str} {st : Stmt} {N ps : List Str} {k : Nat} {b : FS} (d : DefAt K mg x st ps) (S : FnScope N ps (defScope st))
    (hbody : ∀ (f : Addr) (cdv : Value) (A : Around) (outer : List Env) (s : Shared) (H : Hp) (E : XK), Room k (A.deeper (envOfC x (defScope st) s.heap.objs.size f cdv)) → PSs (cxOf CX0 P w K mg base N x (defScope st) f cdv A outer s H E).nox (defBody st) (rdS K b)) :
    Kept P w K mg base (k + 1) x ps (runP N.length b) := by
  obtain ⟨f, fd, F, B, M⟩ := d.ex
  exact ⟨f, fd, Fun.okP F S (hbody f), F.kp, B, M⟩
theorem q_callK {X : Cx} {k : Nat} {x : Str} {ps : List Str} {mf : MF} {e : Expr} {es : List Expr} {ga : FA} {p pos : Pos} {n : Nat} (F : Kept X.prog X.w X.K X.mg X.base k x ps mf) (hr : Room k X.A) (ha : PA X (e :: es) (rdA X.K ga)) (hg : Gl X x := by rfl) (hn : ps.length = n := by rfl)
    (hdb : (x == ("__debug__" : Str)) = false := by decide) (he : starEach (e :: es) X.env = (false, eval e X.env) :: starEach es X.env := by exact star_cons rfl) (hpl : (backTo pos (starEach es X.env)).any (·.1) = false := by exact star_any rfl) :
    PE X (.Call (.Name x p) (e :: es) [] pos) (rdE X.K (fCall mf n ga)) := by
  subst hn
  obtain ⟨f, fd, F, kp, B, M⟩ := F
  exact q_call F hr hg M kp B ha hdb he hpl
theorem q_isx {X : Cx} {tbl : Str → Option Bool} {v : V} {u : Value} {e c : Expr} {fa : FE} {p pos : Pos} (hf : X.mg "isinstance" = none) (hc : PE X c (tC v)) (hv : RelV v u) (hu : ∀ u', RelV v u' → u' = u) (hO : ∀ c C b, tbl c = some b → clsAt X.K c C → ClsX X.K C ∧ PySem.W.kitOne X.K (.ref C) u = some b) (ha : PE X e (rdE X.K fa))
    (hg : Gl X "isinstance" := by rfl) (hs1 : starEach [e, c] X.env = (false, eval e X.env) :: starEach [c] X.env := by exact star_cons rfl) (hs2 : starEach [c] X.env = (false, eval c X.env) :: starEach [] X.env := by exact star_cons rfl) (hpl : (backTo pos (starEach [c] X.env)).any (·.1) = false := by exact star_any rfl) :
    PE X (.Call (.Name "isinstance" p) [e, c] [] pos) (rdE X.K (fUn (isiX tbl) fa)) :=
  PE.imp (pe_callB (call_isx hv hu hO) hg hf (by decide +kernel) (pa_cons ha (pa_cons hc pa_nil hs2) hs1) (by decide) (by decide) hs1 hpl) rd_isx
theorem q_isxt {X : Cx} {tbl : Str → Option Bool} {vs : List V} {us' : List Value} {e : Expr} {cs : List Expr} {x1 : Nat} {fa : FE} {p p2 pos : Pos} (hf : X.mg "isinstance" = none) (hc : PA X cs (tCs vs)) (hz : vs.length ≤ sizeLine) (hu : ∀ us, Vals vs us → us = us') (hO : ∀ c C b, tbl c = some b → clsAt X.K c C → ClsX X.K C ∧ PySem.W.kitAny X.K (.ref C) us' = some b) (ha : PE X e (rdE X.K fa))
    (hg : Gl X "isinstance" := by rfl) (hs1 : starEach [e, .Tuple cs x1 p2] X.env = (false, eval e X.env) :: starEach [.Tuple cs x1 p2] X.env := by exact star_cons rfl) (hs2 : starEach [.Tuple cs x1 p2] X.env = (false, eval (.Tuple cs x1 p2) X.env) :: starEach [] X.env := by exact star_cons rfl) (hpl : (backTo pos (starEach [.Tuple cs x1 p2] X.env)).any (·.1) = false := by exact star_any rfl) :
    PE X (.Call (.Name "isinstance" p) [e, .Tuple cs x1 p2] [] pos) (rdE X.K (fUn (isiX tbl) fa)) :=
  PE.imp (pe_callB (call_isxt hu hO) hg hf (by decide +kernel) (pa_cons ha (pa_cons (pe_tup hc) pa_nil hs2) hs1) (by decide) (by decide) hs1 hpl) (rd_isxt hz)
theorem q_sortedW {X : Cx} {e : Expr} {es : List Expr} {ga : FA} {p pos : Pos} (hc : X.calm = true) (hg : Gl X "sorted") (hm : X.mg "sorted" = none) (ha : PA X (e :: es) (rdA X.K ga)) (he : starEach (e :: es) X.env = (false, eval e X.env) :: starEach es X.env := by exact star_cons rfl) (hpl : (backTo pos (starEach es X.env)).any (·.1) = false := by exact star_any rfl) :
    PE X (.Call (.Name "sorted" p) (e :: es) [] pos) (rdE X.K (fAr (srtW (!HS.bt X.w)) ga)) := PE.imp (pe_callB (CallR.either (CallR.either (call_sortedSW hc) call_sortedLW) (call_sortedKW hc)) hg hm (by decide +kernel) ha (he := he) (hpl := hpl)) (rd_ar g_srtW)
end R
theorem kinds_of {K : PySem.W.Frag} {T : String} (h1 : PySem.W.kitOne K (.type "NoneType") (.type T) = some ("NoneType" == T || ("NoneType" == "bool" && T == "int")))
    (h2 : PySem.W.kitOne K (.type "bool") (.type T) = some ("bool" == T || ("bool" == "bool" && T == "int"))) (h3 : PySem.W.kitOne K (.type "int") (.type T) = some ("int" == T || ("int" == "bool" && T == "int")))
    (h4 : PySem.W.kitOne K (.type "str") (.type T) = some ("str" == T || ("str" == "bool" && T == "int"))) (h5 : PySem.W.kitOne K (.type "tuple") (.type T) = some ("tuple" == T || ("tuple" == "bool" && T == "int")))
    (h6 : PySem.W.kitOne K (.type "list") (.type T) = some ("list" == T || ("list" == "bool" && T == "int"))) (h7 : PySem.W.kitOne K (.type "dict") (.type T) = some ("dict" == T || ("dict" == "bool" && T == "int"))) : Kinds K T := fun t ht => by
  simp only [List.mem_cons, List.not_mem_nil, or_false] at ht
  rcases ht with rfl | rfl | rfl | rfl | rfl | rfl | rfl <;> assumption
theorem kinds_int {K : PySem.W.Frag} : Kinds K "int" := kinds_of rfl rfl rfl rfl rfl rfl rfl
theorem kinds_bool {K : PySem.W.Frag} : Kinds K "bool" := kinds_of rfl rfl rfl rfl rfl rfl rfl
theorem kinds_tuple {K : PySem.W.Frag} : Kinds K "tuple" := kinds_of rfl rfl rfl rfl rfl rfl rfl
theorem kinds_list {K : PySem.W.Frag} : Kinds K "list" := kinds_of rfl rfl rfl rfl rfl rfl rfl
theorem boot_int' : bootBuiltins "int" = some (.type "int") := by decide +kernel
theorem boot_bool' : bootBuiltins "bool" = some (.type "bool") := by decide +kernel
theorem boot_tuple' : bootBuiltins "tuple" = some (.type "tuple") := by decide +kernel
theorem boot_list' : bootBuiltins "list" = some (.type "list") := by decide +kernel
theorem law_sp {K : PySem.W.Frag} {H : Hp} {a : Addr} {ns : List Int} {mf : MF} (hO : Only H) (hS : SqL K H a (ns.map V.int)) (h : mf [.fl (ns.map .int)] = some (.bl true)) : spP K 1 mf [.ref a] H (fun v _ => v = .bl true) fun _ _ _ => False := by
  refine ⟨_, _, rfl, ?_, h, fun v H' _ r => by simpa only [RelD] using r⟩
  have rInts : ∀ {ns : List Int}, RelDs K H (ns.map .int) (ns.map V.int) := fun {ns} => by
    induction ns with
    | nil => simp only [List.map_nil, RelDs]
    | cons n ns ih => simp only [List.map_cons, RelDs]; exact ⟨_, _, rfl, by simp only [RelD], ih⟩
  simp only [RelDs]
  refine ⟨_, _, rfl, ?_, rfl⟩
  simp only [RelD]
  refine ⟨a, _, rfl, ?_, rInts⟩
  rcases hS with (hS | ⟨o, hS⟩) | hS
  · rcases hO a with z | ⟨o, xs, z⟩ <;> rw [hS] at z <;> cases z
  · exact .inl ⟨o, hS⟩
  · exact .inr (.inr hS)
namespace R
section
variable {X : Cx} {e o : Expr} {es : List Expr} {fa : FE} {ga : FA} {apos cpos : Pos}
theorem q_app (ho : PE X o (rdE X.K fa)) (ha : PA X (e :: es) (rdA X.K ga)) (hbase : attributeBase o "append" X.env (eval o X.env) = eval o X.env := by rfl)
    (hfew : ((backTo cpos (starEach (e :: es) X.env)).all (fun x => !x.1) && (backToKw cpos (keywordEach [] X.env)).all (fun x => x.1.isSome)
      && decide ((e :: es).length + ([] : List Keyword).length + (if ([] : List Keyword).isEmpty then 0 else 1) < 30)) = true := by rfl)
    (hline : (apos.endLine == cpos.line) = true := by rfl) (hs : starEach (e :: es) X.env = (false, eval e X.env) :: starEach es X.env := by exact star_cons rfl) (hplain : (backTo cpos (starEach es X.env)).any (·.1) = false := by exact star_any rfl) :
    PE X (.Call (.Attribute o "append" apos) (e :: es) [] cpos) (rdE X.K (fMt appD fa ga)) :=
  PE.imp (pe_bm PySem.F.plainAttrs_list PySem.F.slot_list_append PySem.F.type_list_append mt_append ho ha hbase hfew hline hs hplain) (rd_mt g_app)
theorem q_insert (ho : PE X o (rdE X.K fa)) (ha : PA X (e :: es) (rdA X.K ga)) (hbase : attributeBase o "insert" X.env (eval o X.env) = eval o X.env := by rfl)
    (hfew : ((backTo cpos (starEach (e :: es) X.env)).all (fun x => !x.1) && (backToKw cpos (keywordEach [] X.env)).all (fun x => x.1.isSome)
      && decide ((e :: es).length + ([] : List Keyword).length + (if ([] : List Keyword).isEmpty then 0 else 1) < 30)) = true := by rfl)
    (hline : (apos.endLine == cpos.line) = true := by rfl) (hs : starEach (e :: es) X.env = (false, eval e X.env) :: starEach es X.env := by exact star_cons rfl) (hplain : (backTo cpos (starEach es X.env)).any (·.1) = false := by exact star_any rfl) :
    PE X (.Call (.Attribute o "insert" apos) (e :: es) [] cpos) (rdE X.K (fMt insD fa ga)) :=
  PE.imp (pe_bm PySem.F.plainAttrs_list PySem.F.slot_list_insert PySem.F.type_list_insert mt_insert ho ha hbase hfew hline hs hplain) (rd_mt g_ins)
end
end R
end HW
namespace HW
open PySem PySem.Spec PyProof.Rows L2
@[irreducible] def ZE (X : Cx) (e : Expr) (t : TE) : Prop := L2.PE X e t
@[irreducible] def ZT (X : Cx) (e : Expr) (t : TT) : Prop := L2.PT X e t
@[irreducible] def ZW (X : Cx) (e : Expr) (t : TT) : Prop := L2.PW X e t
@[irreducible] def ZA (X : Cx) (e : List Expr) (t : TA) : Prop := L2.PA X e t
@[irreducible] def ZS (X : Cx) (e : Stmt) (t : TS) : Prop := L2.PS X e t
@[irreducible] def ZSs (X : Cx) (e : List Stmt) (t : TS) : Prop := L2.PSs X e t
@[irreducible] def ZG (X : Cx) (e : Expr) (t : TG) : Prop := L2.PG X e t
@[irreducible] def ZGs (X : Cx) (e : List Expr) (t : TGs) : Prop := L2.PGs X e t
@[irreducible] def ZO (X : Cx) (e : Option Expr) (t : TO) : Prop := L2.PO X e t
@[irreducible] def ZIfs (X : Cx) (e : List Expr) (t : TT) : Prop := HW.PIfs X e t
@[irreducible] def ZI (X : Cx) (tg iter : Expr) (t : TI) : Prop := L2.PI X tg iter t
section
variable {X : Cx} {a b e o : Expr} {es : List Expr} {fa fb : FE} {ga : FA} {pos p p2 apos : Pos} {x : Str}
theorem q_var (i : Nat) (hN : X.N[i]? = some x := by rfl) (hv : Vis X.env.scope x := by first | exact Or.inl rfl | exact Or.inr (Or.inl rfl) | exact Or.inr (Or.inr rfl)) (hd : (x == ("__debug__" : Str)) = false := by decide)
    (hcd : (x == ("__classdict__" : Str)) = false := by decide) : ZE X (.Name x pos) (rdE X.K (fVar i)) := by
  with_unfolding_all exact R.q_var i hN hv hd hcd
theorem q_int {i j} : ZE X (.Constant (.int i) j pos) (rdE X.K (fK (.int i))) := by
  with_unfolding_all exact R.q_int 
theorem q_bl {i j} : ZE X (.Constant (.bool i) j pos) (rdE X.K (fK (.bl i))) := by
  with_unfolding_all exact R.q_bl 
theorem q_non {j} : ZE X (.Constant .none j pos) (rdE X.K (fK .non)) := by
  with_unfolding_all exact R.q_non 
theorem q_addQ (ha : ZE X a (rdE X.K fa)) (hb : ZE X b (rdE X.K fb)) : ZE X (.BinOp a .Add b pos) (rdE X.K (fOp addQ fa fb)) := by
  with_unfolding_all exact R.q_addQ ha hb
theorem q_sub (ha : ZE X a (rdE X.K fa)) (hb : ZE X b (rdE X.K fb)) : ZE X (.BinOp a .Sub b pos) (rdE X.K (fOp subD fa fb)) := by
  with_unfolding_all exact R.q_sub ha hb
theorem q_mul (ha : ZE X a (rdE X.K fa)) (hb : ZE X b (rdE X.K fb)) : ZE X (.BinOp a .Mult b pos) (rdE X.K (fOp mulD fa fb)) := by
  with_unfolding_all exact R.q_mul ha hb
theorem q_div (ha : ZE X a (rdE X.K fa)) (hb : ZE X b (rdE X.K fb)) : ZE X (.BinOp a .FloorDiv b pos) (rdE X.K (fOp divD fa fb)) := by
  with_unfolding_all exact R.q_div ha hb
theorem q_mod (ha : ZE X a (rdE X.K fa)) (hb : ZE X b (rdE X.K fb)) : ZE X (.BinOp a .Mod b pos) (rdE X.K (fOp modD fa fb)) := by
  with_unfolding_all exact R.q_mod ha hb
theorem q_pow (ha : ZE X a (rdE X.K fa)) (hb : ZE X b (rdE X.K fb)) : ZE X (.BinOp a .Pow b pos) (rdE X.K (fOp powD fa fb)) := by
  with_unfolding_all exact R.q_pow ha hb
theorem q_neg (ha : ZE X a (rdE X.K fa)) : ZE X (.UnaryOp .USub a pos) (rdE X.K (fUn negD fa)) := by
  with_unfolding_all exact R.q_neg ha
theorem q_not (ha : ZE X a (rdE X.K fa)) : ZE X (.UnaryOp .Not a pos) (rdE X.K (fNot fa)) := by
  with_unfolding_all exact R.q_not ha
theorem q_eq (hu : X.A.units + 64 < cLine) (ha : ZE X a (rdE X.K fa)) (hb : ZE X b (rdE X.K fb)) : ZE X (.Compare a [.Eq] [b] pos) (rdE X.K (fOp (eqR false) fa fb)) := by
  with_unfolding_all exact R.q_eq hu ha hb
theorem q_ne (hu : X.A.units + 64 < cLine) (ha : ZE X a (rdE X.K fa)) (hb : ZE X b (rdE X.K fb)) : ZE X (.Compare a [.NotEq] [b] pos) (rdE X.K (fOp (eqR true) fa fb)) := by
  with_unfolding_all exact R.q_ne hu ha hb
theorem q_and {rest : List Expr} (ha : ZE X a (rdE X.K fa)) (hb : ZE X (.BoolOp .And (b :: rest) pos) (rdE X.K fb)) : ZE X (.BoolOp .And (a :: b :: rest) pos) (rdE X.K (fAnd fa fb)) := by
  with_unfolding_all exact R.q_and ha hb
theorem q_one {op} (ha : ZE X a (rdE X.K fa)) : ZE X (.BoolOp op [a] pos) (rdE X.K fa) := by
  with_unfolding_all exact R.q_one ha
theorem q_nil : ZA X [] (rdA X.K fNil) := by
  with_unfolding_all exact R.q_nil 
theorem q_cons (ha : ZE X e (rdE X.K fa)) (hr : ZA X es (rdA X.K ga)) (hs : starEach (e :: es) X.env = (false, eval e X.env) :: starEach es X.env := by exact star_cons rfl) : ZA X (e :: es) (rdA X.K (fCons fa ga)) := by
  with_unfolding_all exact R.q_cons ha hr hs
theorem q_tup {x1} (h : ZA X es (rdA X.K ga)) : ZE X (.Tuple es x1 pos) (rdE X.K (fTup ga)) := by
  with_unfolding_all exact R.q_tup h
theorem q_lst (h : ZA X es (rdA X.K ga)) : ZE X (.List es pos) (rdE X.K (fLst ga)) := by
  with_unfolding_all exact R.q_lst h
theorem q_fz (ha : ZE X a (rdE X.K fa)) : ZE X a (rdE X.K (fFz fa)) := by
  with_unfolding_all exact R.q_fz ha
theorem q_ix (ha : ZE X a (rdE X.K fa)) (hb : ZE X b (rdE X.K fb)) (hs : PlainIx b := by intro _ _; rfl) : ZE X (.Subscript a b pos) (rdE X.K (fOp ixD fa fb)) := by
  with_unfolding_all exact R.q_ix ha hb hs
theorem q_oN : ZO X none (rdO X.K oNone) := by
  with_unfolding_all exact R.q_oN 
theorem q_oS (ha : ZE X a (rdE X.K fa)) : ZO X (some a) (rdO X.K (oSome fa)) := by
  with_unfolding_all exact R.q_oS ha
theorem q_sl {lo hi : Option Expr} {fl fh : FO} (ha : ZE X a (rdE X.K fa)) (hl : ZO X lo (rdO X.K fl)) (hh : ZO X hi (rdO X.K fh)) : ZE X (.Subscript a (.Slice lo hi none p2) pos) (rdE X.K (fSl fa fl fh)) := by
  with_unfolding_all exact R.q_sl ha hl hh
theorem q_len (hg : Gl X "len") (hm : X.mg "len" = none) (ha : ZA X (e :: es) (rdA X.K ga)) (he : starEach (e :: es) X.env = (false, eval e X.env) :: starEach es X.env := by exact star_cons rfl) (hpl : (backTo pos (starEach es X.env)).any (·.1) = false := by exact star_any rfl) :
    ZE X (.Call (.Name "len" p) (e :: es) [] pos) (rdE X.K (fAr lenD ga)) := by
  with_unfolding_all exact R.q_len hg hm ha he hpl
theorem q_min (hc : X.calm = true) (hg : Gl X "min") (hm : X.mg "min" = none) (ha : ZA X (e :: es) (rdA X.K ga)) (he : starEach (e :: es) X.env = (false, eval e X.env) :: starEach es X.env := by exact star_cons rfl) (hpl : (backTo pos (starEach es X.env)).any (·.1) = false := by exact star_any rfl) :
    ZE X (.Call (.Name "min" p) (e :: es) [] pos) (rdE X.K (fAr minD ga)) := by
  with_unfolding_all exact R.q_min hc hg hm ha he hpl
theorem q_disp3 {k1 k2 k3 v1 v2 v3 : Expr} {f1 f2 f3 g1 g2 g3 : FE} (hk1 : ZE X k1 (rdE X.K f1)) (hv1 : ZE X v1 (rdE X.K g1)) (hk2 : ZE X k2 (rdE X.K f2)) (hv2 : ZE X v2 (rdE X.K g2)) (hk3 : ZE X k3 (rdE X.K f3)) (hv3 : ZE X v3 (rdE X.K g3)) : ZE X (.Dict [some k1, some k2, some k3] [v1, v2, v3] pos) (rdE X.K (fDisp [(f1, g1), (f2, g2), (f3, g3)])) := by
  with_unfolding_all exact R.q_disp3 hk1 hv1 hk2 hv2 hk3 hv3
theorem q_tuple (hg : Gl X "tuple") (hm : X.mg "tuple" = none) (ha : ZA X (e :: es) (rdA X.K ga)) (he : starEach (e :: es) X.env = (false, eval e X.env) :: starEach es X.env := by exact star_cons rfl) (hpl : (backTo pos (starEach es X.env)).any (·.1) = false := by exact star_any rfl) :
    ZE X (.Call (.Name "tuple" p) (e :: es) [] pos) (rdE X.K (fAr tupD ga)) := by
  with_unfolding_all exact R.q_tuple hg hm ha he hpl
theorem q_list (hg : Gl X "list") (hm : X.mg "list" = none) (ha : ZA X (e :: es) (rdA X.K ga)) (he : starEach (e :: es) X.env = (false, eval e X.env) :: starEach es X.env := by exact star_cons rfl) (hpl : (backTo pos (starEach es X.env)).any (·.1) = false := by exact star_any rfl) :
    ZE X (.Call (.Name "list" p) (e :: es) [] pos) (rdE X.K (fAr listD ga)) := by
  with_unfolding_all exact R.q_list hg hm ha he hpl
theorem q_isi {T : String} {y : Str} (hT : Kinds X.K T) (hg : Gl X "isinstance") (hm : X.mg "isinstance" = none) (hgT : Gl X y) (hmT : X.mg y = none) (hvT : bootBuiltins y = some (.type T)) (ha : ZE X e (rdE X.K fa)) (hn : y ≠ "__name__" := by decide) (hdb : (y == ("__debug__" : Str)) = false := by decide)
    (he : starEach (e :: [.Name y p2]) X.env = (false, eval e X.env) :: starEach [.Name y p2] X.env := by exact star_cons rfl) (hpl : (backTo pos (starEach [.Name y p2] X.env)).any (·.1) = false := by rfl) :
    ZE X (.Call (.Name "isinstance" p) [e, .Name y p2] [] pos) (rdE X.K (fUn (isiD T) fa)) := by
  with_unfolding_all exact R.q_isi hT hg hm hgT hmT hvT ha hn hdb he hpl
theorem t_tru (ha : ZE X a (rdE X.K fa)) (he : ∀ whole, isTrue a X.env whole = (do let v ← whole; standAt a.pos; holding [v] (truthy v)) := by intro _; rfl) : ZT X a (rdT X.K (fTru fa)) := by
  with_unfolding_all exact R.t_tru ha he
theorem t_lt (ha : ZE X a (rdE X.K fa)) (hb : ZE X b (rdE X.K fb)) : ZT X (.Compare a [.Lt] [b] pos) (rdT X.K (fB (fOp ltD fa fb))) := by
  with_unfolding_all exact R.t_lt ha hb
theorem t_le (ha : ZE X a (rdE X.K fa)) (hb : ZE X b (rdE X.K fb)) : ZT X (.Compare a [.LtE] [b] pos) (rdT X.K (fB (fOp leD fa fb))) := by
  with_unfolding_all exact R.t_le ha hb
theorem t_eq (hu : X.A.units + 64 < cLine) (ha : ZE X a (rdE X.K fa)) (hb : ZE X b (rdE X.K fb)) : ZT X (.Compare a [.Eq] [b] pos) (rdT X.K (fB (fOp (eqR false) fa fb))) := by
  with_unfolding_all exact R.t_eq hu ha hb
theorem t_ne (hu : X.A.units + 64 < cLine) (ha : ZE X a (rdE X.K fa)) (hb : ZE X b (rdE X.K fb)) : ZT X (.Compare a [.NotEq] [b] pos) (rdT X.K (fB (fOp (eqR true) fa fb))) := by
  with_unfolding_all exact R.t_ne hu ha hb
theorem t_isN {j} (ha : ZE X a (rdE X.K fa)) : ZT X (.Compare a [.Is] [.Constant .none j p] pos) (rdT X.K (fB (fUn (isK false .non) fa))) := by
  with_unfolding_all exact R.t_isN ha
theorem t_notN {j} (ha : ZE X a (rdE X.K fa)) : ZT X (.Compare a [.IsNot] [.Constant .none j p] pos) (rdT X.K (fB (fUn (isK true .non) fa))) := by
  with_unfolding_all exact R.t_notN ha
variable {ta tb : FT} {rest : List Expr}
theorem t_not (ha : ZT X a (rdT X.K ta)) : ZT X (.UnaryOp .Not a pos) (rdT X.K (tNotF ta)) := by
  with_unfolding_all exact R.t_not ha
theorem w_and (ha : ZT X a (rdT X.K ta)) (hb : ZW X (.BoolOp .And (b :: rest) pos) (rdT X.K tb)) : ZW X (.BoolOp .And (a :: b :: rest) pos) (rdT X.K (tAndF ta tb)) := by
  with_unfolding_all exact R.w_and ha hb
theorem w_or (ha : ZT X a (rdT X.K ta)) (hb : ZW X (.BoolOp .Or (b :: rest) pos) (rdT X.K tb)) : ZW X (.BoolOp .Or (a :: b :: rest) pos) (rdT X.K (tOrF ta tb)) := by
  with_unfolding_all exact R.w_or ha hb
theorem w_and1 (ha : ZT X a (rdT X.K ta)) : ZW X (.BoolOp .And [a] pos) (rdT X.K ta) := by
  with_unfolding_all exact R.w_and1 ha
theorem w_or1 (ha : ZT X a (rdT X.K ta)) : ZW X (.BoolOp .Or [a] pos) (rdT X.K ta) := by
  with_unfolding_all exact R.w_or1 ha
theorem t_w (h : ZW X a (rdT X.K ta)) : ZT X a (rdT X.K ta) := by
  with_unfolding_all exact R.t_w h
variable {st : Stmt} {sts aa bb : List Stmt} {sa sb : FS} {c tg iter : Expr}
theorem s_nil : ZSs X [] (rdS X.K sNext) := by
  with_unfolding_all exact R.s_nil 
theorem s_cons (h1 : ZS X st (rdS X.K sa)) (h2 : ZSs X sts (rdS X.K sb)) : ZSs X (st :: sts) (rdS X.K (sSeq sa sb)) := by
  with_unfolding_all exact R.s_cons h1 h2
theorem s_one (h1 : ZS X st (rdS X.K sa)) : ZSs X [st] (rdS X.K sa) := by
  with_unfolding_all exact R.s_one h1
theorem s_expr (he : ZE X e (rdE X.K fa)) (hs : swapsWith e none pos.line X.env = pure false := by rfl) : ZS X (.Expr e pos) (rdS X.K (sDrop fa)) := by
  with_unfolding_all exact R.s_expr he hs
theorem s_ret (he : ZE X e (rdE X.K fa)) : ZS X (.Return (some e) pos) (rdS X.K (sRet fa)) := by
  with_unfolding_all exact R.s_ret he
theorem s_if (hc : ZT X c (rdT X.K ta)) (ha : ZSs X aa (rdS X.K sa)) (hb : ZSs X bb (rdS X.K sb)) : ZS X (.If c aa bb pos) (rdS X.K (sIf ta sa sb)) := by
  with_unfolding_all exact R.s_if hc ha hb
theorem s_set (i : Nat) {pos' : Pos} (hN : X.N.Nodup) (he : ZE X e (rdE X.K fa)) (hi : X.N[i]? = some x := by rfl) (hx : Loc X.env.scope x := by first | exact Or.inl rfl | exact Or.inr rfl) (hs : swapsWith e (some (.Name x pos')) pos.line X.env = pure false := by rfl) (hf : X.fn x = true ∨ X.env.scope.names.lookup x = some .local := by first | exact .inl rfl | exact .inr rfl) :
    ZS X (.Assign [.Name x pos'] e pos) (rdS X.K (sSet i fa)) := by
  with_unfolding_all exact R.s_set i hN he hi hx hs hf
variable {g : FG} {gs : FGs} {fi : FI}
theorem g_nm (i : Nat) (hN : X.N.Nodup) (hi : X.N[i]? = some x := by rfl) (hx : Loc X.env.scope x := by first | exact Or.inl rfl | exact Or.inr rfl) (hf : X.fn x = true ∨ X.env.scope.names.lookup x = some .local := by first | exact .inl rfl | exact .inr rfl) : ZG X (.Name x pos) (rdG X.K (gNm i)) := by
  with_unfolding_all exact R.g_nm i hN hi hx hf
theorem gs_nil : ZGs X [] (rdGs X.K gsNil) := by
  with_unfolding_all exact R.gs_nil 
theorem gs_cons (h1 : ZG X e (rdG X.K g)) (h2 : ZGs X es (rdGs X.K gs)) (hs : (assignEach (e :: es) X.env).map (·.2) = assign e X.env :: (assignEach es X.env).map (·.2) := by exact assign_cons rfl) : ZGs X (e :: es) (rdGs X.K (gsCons g gs)) := by
  with_unfolding_all exact R.gs_cons h1 h2 hs
theorem g_tp {k n : Nat} (hc : X.calm = true) (h : ZGs X es (rdGs X.K gs)) (hn : (assignEach es X.env).length = n := by rfl) (hst : (assignEach es X.env).findIdx? (·.1) = none := by rfl) : ZG X (.Tuple es k pos) (rdG X.K (gTp n gs)) := by
  with_unfolding_all exact R.g_tp hc h hn hst
theorem g_sb (hu : X.A.units + 64 < cLine) (ha : ZE X a (rdE X.K fa)) (hb : ZE X b (rdE X.K fb)) (hq : ∀ v, assign (.Subscript a b pos) X.env v = (do
      let ov ← holding [v] (eval a X.env)
      let iv ← holding [v, ov] (eval b X.env)
      standAt pos
      holding [v, ov, iv] (setItem ov iv v)
      release [v, ov, iv] []) := by intro _; rfl) : ZG X (.Subscript a b pos) (rdG X.K (gSub fa fb)) := by
  with_unfolding_all exact R.g_sb hu ha hb hq
theorem i_seq (ha : ZE X a (rdE X.K fa)) : ZI X tg a (rdI X.K (fiSeq fa)) := by
  with_unfolding_all exact R.i_seq ha
theorem i_r1 (hg : Gl X "range") (hm : X.mg "range" = none) (ha : ZE X a (rdE X.K fa)) (hs : starEach [a] X.env = [(false, eval a X.env)] := by exact star_cons rfl) : ZI X tg (.Call (.Name "range" p) [a] [] pos) (rdI X.K (fiR1 fa)) := by
  with_unfolding_all exact R.i_r1 hg hm ha hs
theorem i_r3 {fc : FE} (hg : Gl X "range") (hm : X.mg "range" = none) (ha : ZE X a (rdE X.K fa)) (hb : ZE X b (rdE X.K fb)) (hc : ZE X c (rdE X.K fc)) (hs : starEach [a, b, c] X.env = (false, eval a X.env) :: starEach [b, c] X.env := by exact star_cons rfl) (hs1 : starEach [b, c] X.env = (false, eval b X.env) :: starEach [c] X.env := by exact star_cons rfl) (hs2 : starEach [c] X.env = (false, eval c X.env) :: starEach [] X.env := by exact star_cons rfl) (hs3 : (backTo pos (starEach [b, c] X.env)).any (·.1) = false := by exact star_any rfl) : ZI X tg (.Call (.Name "range" p) [a, b, c] [] pos) (rdI X.K (fiR3 fa fb fc)) := by
  with_unfolding_all exact R.i_r3 hg hm ha hb hc hs hs1 hs2 hs3
theorem s_for (hc : X.calm = true) (hi : ZI X tg iter (rdI X.K fi)) (hg : ZG X tg (rdG X.K g)) (hb : ZSs X aa (rdS X.K sa)) (hp : PassesOwn (model X.prog X.w) X.A X.env X.xe) (hs : ∀ x, foldedSetIterable iter X.env x = pure x := by intro _; rfl) : ZS X (.For tg iter aa [] pos) (rdS X.K (sFor fi g sa)) := by
  with_unfolding_all exact R.s_for hc hi hg hb hp hs
theorem s_asg (he : ZE X e (rdE X.K fa)) (hg : ZG X tg (rdG X.K g)) (hs : swapsWithSole [tg] e pos.line X.env = pure false := by rfl) (hw : swappedStores [tg] e X.env = pure none := by rfl) (h1 : (assignEach [tg] X.env).map (·.2) = [assign tg X.env] := by rfl) : ZS X (.Assign [tg] e pos) (rdS X.K (sAsg fa g)) := by
  with_unfolding_all exact R.s_asg he hg hs hw h1
theorem f_nil : ZIfs X [] (rdT X.K cYes) := by
  with_unfolding_all exact R.f_nil 
theorem f_one (h : ZT X c (rdT X.K ta)) : ZIfs X [c] (rdT X.K ta) := by
  with_unfolding_all exact R.f_one h
theorem q_comp {ifs : List Expr} {scope : Scope} (ix : List Nat) (own caps : List Str) (hc : X.calm = true) (n : CompNames X.env.scope scope own caps) (hi : ZI X tg iter (rdI X.K fi))
    (hb : ∀ cl C s₂ H₂ fp, ZG (blockCx X scope cl C s₂ H₂ fp (own ++ caps)) tg (rdG X.K g) ∧ ZIfs (blockCx X scope cl C s₂ H₂ fp (own ++ caps)) ifs (rdT X.K ta) ∧ ZE (blockCx X scope cl C s₂ H₂ fp (own ++ caps)) e (rdE X.K fa))
    (hix : ix.map (fun i => X.N[i]?) = caps.map some := by rfl)
    (hs : ∀ x, foldedSetIterable iter X.env x = pure x := by intro _; rfl) : ZE X (.ListComp e [⟨tg, iter, ifs, 0⟩] scope pos) (rdE X.K (fComp ix own.length fi g ta fa)) := by
  with_unfolding_all exact R.q_comp ix own caps hc n hi hb hix hs
end
theorem okP {P : Program} {w : World} {K : PySem.W.Frag} {mg : Str → Option Value} {base : Heap} {x : Str} {st : Stmt} {N ps : List Str} {k : Nat} {b : FS} (d : DefAt K mg x st ps) (S : FnScope N ps (defScope st))
    (hbody : ∀ (f : Addr) (cdv : Value) (A : Around) (outer : List Env) (s : Shared) (H : Hp) (E : XK), Room k (A.deeper (envOfC x (defScope st) s.heap.objs.size f cdv)) → ZSs (cxOf CX0 P w K mg base N x (defScope st) f cdv A outer s H E).nox (defBody st) (rdS K b)) :
    Kept P w K mg base (k + 1) x ps (runP N.length b) := by
  with_unfolding_all exact R.okP d S hbody
theorem q_callK {X : Cx} {k : Nat} {x : Str} {ps : List Str} {mf : MF} {e : Expr} {es : List Expr} {ga : FA} {p pos : Pos} {n : Nat} (F : Kept X.prog X.w X.K X.mg X.base k x ps mf) (hr : Room k X.A) (ha : ZA X (e :: es) (rdA X.K ga)) (hg : Gl X x := by rfl) (hn : ps.length = n := by rfl)
    (hdb : (x == ("__debug__" : Str)) = false := by decide) (he : starEach (e :: es) X.env = (false, eval e X.env) :: starEach es X.env := by exact star_cons rfl) (hpl : (backTo pos (starEach es X.env)).any (·.1) = false := by exact star_any rfl) :
    ZE X (.Call (.Name x p) (e :: es) [] pos) (rdE X.K (fCall mf n ga)) := by
  with_unfolding_all exact R.q_callK F hr ha hg hn hdb he hpl
theorem q_isx {X : Cx} {tbl : Str → Option Bool} {v : V} {u : Value} {e c : Expr} {fa : FE} {p pos : Pos} (hf : X.mg "isinstance" = none) (hc : ZE X c (tC v)) (hv : RelV v u) (hu : ∀ u', RelV v u' → u' = u) (hO : ∀ c C b, tbl c = some b → clsAt X.K c C → ClsX X.K C ∧ PySem.W.kitOne X.K (.ref C) u = some b) (ha : ZE X e (rdE X.K fa))
    (hg : Gl X "isinstance" := by rfl) (hs1 : starEach [e, c] X.env = (false, eval e X.env) :: starEach [c] X.env := by exact star_cons rfl) (hs2 : starEach [c] X.env = (false, eval c X.env) :: starEach [] X.env := by exact star_cons rfl) (hpl : (backTo pos (starEach [c] X.env)).any (·.1) = false := by exact star_any rfl) :
    ZE X (.Call (.Name "isinstance" p) [e, c] [] pos) (rdE X.K (fUn (isiX tbl) fa)) := by
  with_unfolding_all exact R.q_isx hf hc hv hu hO ha hg hs1 hs2 hpl
theorem q_isxt {X : Cx} {tbl : Str → Option Bool} {vs : List V} {us' : List Value} {e : Expr} {cs : List Expr} {x1 : Nat} {fa : FE} {p p2 pos : Pos} (hf : X.mg "isinstance" = none) (hc : ZA X cs (tCs vs)) (hz : vs.length ≤ sizeLine) (hu : ∀ us, Vals vs us → us = us') (hO : ∀ c C b, tbl c = some b → clsAt X.K c C → ClsX X.K C ∧ PySem.W.kitAny X.K (.ref C) us' = some b) (ha : ZE X e (rdE X.K fa))
    (hg : Gl X "isinstance" := by rfl) (hs1 : starEach [e, .Tuple cs x1 p2] X.env = (false, eval e X.env) :: starEach [.Tuple cs x1 p2] X.env := by exact star_cons rfl) (hs2 : starEach [.Tuple cs x1 p2] X.env = (false, eval (.Tuple cs x1 p2) X.env) :: starEach [] X.env := by exact star_cons rfl) (hpl : (backTo pos (starEach [.Tuple cs x1 p2] X.env)).any (·.1) = false := by exact star_any rfl) :
    ZE X (.Call (.Name "isinstance" p) [e, .Tuple cs x1 p2] [] pos) (rdE X.K (fUn (isiX tbl) fa)) := by
  with_unfolding_all exact R.q_isxt hf hc hz hu hO ha hg hs1 hs2 hpl
theorem q_sortedW {X : Cx} {e : Expr} {es : List Expr} {ga : FA} {p pos : Pos} (hc : X.calm = true) (hg : Gl X "sorted") (hm : X.mg "sorted" = none) (ha : ZA X (e :: es) (rdA X.K ga)) (he : starEach (e :: es) X.env = (false, eval e X.env) :: starEach es X.env := by exact star_cons rfl) (hpl : (backTo pos (starEach es X.env)).any (·.1) = false := by exact star_any rfl) :
    ZE X (.Call (.Name "sorted" p) (e :: es) [] pos) (rdE X.K (fAr (srtW (!HS.bt X.w)) ga)) := by
  with_unfolding_all exact R.q_sortedW hc hg hm ha he hpl
section
variable {X : Cx} {e o : Expr} {es : List Expr} {fa : FE} {ga : FA} {apos cpos : Pos}
theorem q_app (ho : ZE X o (rdE X.K fa)) (ha : ZA X (e :: es) (rdA X.K ga)) (hbase : attributeBase o "append" X.env (eval o X.env) = eval o X.env := by rfl)
    (hfew : ((backTo cpos (starEach (e :: es) X.env)).all (fun x => !x.1) && (backToKw cpos (keywordEach [] X.env)).all (fun x => x.1.isSome)
      && decide ((e :: es).length + ([] : List Keyword).length + (if ([] : List Keyword).isEmpty then 0 else 1) < 30)) = true := by rfl)
    (hline : (apos.endLine == cpos.line) = true := by rfl) (hs : starEach (e :: es) X.env = (false, eval e X.env) :: starEach es X.env := by exact star_cons rfl) (hplain : (backTo cpos (starEach es X.env)).any (·.1) = false := by exact star_any rfl) :
    ZE X (.Call (.Attribute o "append" apos) (e :: es) [] cpos) (rdE X.K (fMt appD fa ga)) := by
  with_unfolding_all exact R.q_app ho ha hbase hfew hline hs hplain
theorem q_insert (ho : ZE X o (rdE X.K fa)) (ha : ZA X (e :: es) (rdA X.K ga)) (hbase : attributeBase o "insert" X.env (eval o X.env) = eval o X.env := by rfl)
    (hfew : ((backTo cpos (starEach (e :: es) X.env)).all (fun x => !x.1) && (backToKw cpos (keywordEach [] X.env)).all (fun x => x.1.isSome)
      && decide ((e :: es).length + ([] : List Keyword).length + (if ([] : List Keyword).isEmpty then 0 else 1) < 30)) = true := by rfl)
    (hline : (apos.endLine == cpos.line) = true := by rfl) (hs : starEach (e :: es) X.env = (false, eval e X.env) :: starEach es X.env := by exact star_cons rfl) (hplain : (backTo cpos (starEach es X.env)).any (·.1) = false := by exact star_any rfl) :
    ZE X (.Call (.Attribute o "insert" apos) (e :: es) [] cpos) (rdE X.K (fMt insD fa ga)) := by
  with_unfolding_all exact R.q_insert ho ha hbase hfew hline hs hplain
end
theorem funOkP {P : Program} {w : World} {K : PySem.W.Frag} {mg : Str → Option Value} {base : Heap} {x qual : Str} {st : Stmt} {f : Addr} {fd : FuncData} {N ps : List Str} {k : Nat} {b : FS} (F : Fun K x qual st f fd) (S : FnScope N ps (defScope st))
    (hbody : ∀ (cdv : Value) (A : Around) (outer : List Env) (s : Shared) (H : Hp) (E : XK), Room k (A.deeper (envOfC qual (defScope st) s.heap.objs.size f cdv)) → ZSs (cxOf CX0 P w K mg base N qual (defScope st) f cdv A outer s H E).nox (defBody st) (rdS K b)) :
    FnOk P w K mg base CX0 (k + 1) f fd ps (spP K ps.length (runP N.length b)) := by
  with_unfolding_all exact Fun.okP F S hbody
end HW
namespace HW
open PySem L2
section
variable {ρ : Lo} {μ μ1 : Store} {x y : R} {d : D}
@[simp] theorem ev_v0 {ρ : Lo} : fVar 0 (some x :: ρ) μ = some (x, μ) := rfl
@[simp] theorem ev_vs {i : Nat} {o : Option R} {ρ : Lo} : fVar (i + 1) (o :: ρ) μ = fVar i ρ μ := by simp [fVar]
@[simp] theorem ev_k : fK d ρ μ = some (.v d, μ) := rfl
noncomputable def thOp (o : Option (R × Store)) (g : R → R → Store → Option (R × Store)) (fb : FE) (ρ : Lo) : Option (R × Store) := o.bind fun a => (fb ρ a.2).bind fun b => g a.1 b.1 b.2
noncomputable def thOp2 (x : R) (o : Option (R × Store)) (g : R → R → Store → Option (R × Store)) : Option (R × Store) := o.bind fun b => g x b.1 b.2
@[simp] theorem ev_op {g fa fb} : fOp g fa fb ρ μ = thOp (fa ρ μ) g fb ρ := rfl
@[simp] theorem ev_op1 {g fb} : thOp (some (x, μ)) g fb ρ = thOp2 x (fb ρ μ) g := rfl
@[simp] theorem ev_op2 {g} : thOp2 x (some (y, μ)) g = g x y μ := rfl
noncomputable def thUn (o : Option (R × Store)) (g : R → Store → Option (R × Store)) : Option (R × Store) := o.bind fun a => g a.1 a.2
@[simp] theorem ev_un {g fa} : fUn g fa ρ μ = thUn (fa ρ μ) g := rfl
@[simp] theorem ev_un1 {g} : thUn (some (x, μ)) g = g x μ := rfl
@[simp] theorem ev_nil : fNil ρ μ = some ([], μ) := rfl
noncomputable def thCons (o : Option (R × Store)) (fr : FA) (ρ : Lo) : Option (List R × Store) := o.bind fun a => (fr ρ a.2).bind fun r => some (a.1 :: r.1, r.2)
noncomputable def thCons2 (x : R) (o : Option (List R × Store)) : Option (List R × Store) := o.bind fun r => some (x :: r.1, r.2)
@[simp] theorem ev_cons {fa fr} : fCons fa fr ρ μ = thCons (fa ρ μ) fr ρ := rfl
@[simp] theorem ev_cons1 {fr} : thCons (some (x, μ)) fr ρ = thCons2 x (fr ρ μ) := rfl
@[simp] theorem ev_cons2 {xs} : thCons2 x (some (xs, μ)) = some (x :: xs, μ) := rfl
noncomputable def thAr (o : Option (List R × Store)) (g : List R → Store → Option (R × Store)) : Option (R × Store) := o.bind fun a => g a.1 a.2
@[simp] theorem ev_ar {g fa} : fAr g fa ρ μ = thAr (fa ρ μ) g := rfl
@[simp] theorem ev_ar1 {g xs} : thAr (some (xs, μ)) g = g xs μ := rfl
noncomputable def thB (o : Option (R × Store)) : Option (Bool × Store) := o.bind fun a => match a.1 with | .v (.bl b) => some (b, a.2) | _ => none
@[simp] theorem ev_B {fa} : fB fa ρ μ = thB (fa ρ μ) := rfl
@[simp] theorem ev_B1 {b} : thB (some (.v (.bl b), μ)) = some (b, μ) := rfl
noncomputable def thTru (o : Option (R × Store)) : Option (Bool × Store) := o.bind fun a => (truD a.1 a.2).bind fun b => some (b, a.2)
@[simp] theorem ev_tru {fa} : fTru fa ρ μ = thTru (fa ρ μ) := rfl
@[simp] theorem ev_tru1 {b} : thTru (some (.v (.bl b), μ)) = some (b, μ) := rfl
@[simp] theorem ev_tru2 {xs} : thTru (some (.v (.tup xs), μ)) = some (!xs.isEmpty, μ) := rfl
@[simp] theorem ev_tru3 {xs} : thTru (some (.v (.fl xs), μ)) = some (!xs.isEmpty, μ) := rfl
@[simp] theorem ev_tru4 {i} : thTru (some (.v (.int i), μ)) = some (i != 0, μ) := rfl
@[simp] theorem ev_tru5 : thTru (some (.v .non, μ)) = some (false, μ) := rfl
noncomputable def thAnd (o : Option (Bool × Store)) (u : FT) (ρ : Lo) : Option (Bool × Store) := o.bind fun c => if c.1 = true then u ρ c.2 else some (false, c.2)
noncomputable def thOr (o : Option (Bool × Store)) (u : FT) (ρ : Lo) : Option (Bool × Store) := o.bind fun c => if c.1 = true then some (true, c.2) else u ρ c.2
noncomputable def thNot (o : Option (Bool × Store)) : Option (Bool × Store) := o.bind fun c => some (!c.1, c.2)
@[simp] theorem ev_tand {t u} : tAndF t u ρ μ = thAnd (t ρ μ) u ρ := rfl
@[simp] theorem ev_tand1 {b u} : thAnd (some (b, μ)) u ρ = if b = true then u ρ μ else some (false, μ) := rfl
@[simp] theorem ev_tor {t u} : tOrF t u ρ μ = thOr (t ρ μ) u ρ := rfl
@[simp] theorem ev_tor1 {b u} : thOr (some (b, μ)) u ρ = if b = true then some (true, μ) else u ρ μ := rfl
@[simp] theorem ev_tnot {t} : tNotF t ρ μ = thNot (t ρ μ) := rfl
@[simp] theorem ev_tnot1 {b} : thNot (some (b, μ)) = some (!b, μ) := rfl
noncomputable def thAndV (o : Option (R × Store)) (fb : FE) (ρ : Lo) : Option (R × Store) := o.bind fun a => match a.1 with | .v (.bl c) => if c = true then fb ρ a.2 else some (.v (.bl false), a.2) | _ => none
noncomputable def thOrV (o : Option (R × Store)) (fb : FE) (ρ : Lo) : Option (R × Store) := o.bind fun a => match a.1 with | .v (.bl c) => if c = true then some (.v (.bl true), a.2) else fb ρ a.2 | _ => none
noncomputable def thNotV (o : Option (R × Store)) : Option (R × Store) := o.bind fun a => match a.1 with | .v (.bl c) => some (.v (.bl (!c)), a.2) | _ => none
@[simp] theorem ev_and {fa fb} : fAnd fa fb ρ μ = thAndV (fa ρ μ) fb ρ := rfl
@[simp] theorem ev_and1 {c fb} : thAndV (some (.v (.bl c), μ)) fb ρ = if c = true then fb ρ μ else some (.v (.bl false), μ) := rfl
@[simp] theorem ev_or {fa fb} : fOr fa fb ρ μ = thOrV (fa ρ μ) fb ρ := rfl
@[simp] theorem ev_or1 {c fb} : thOrV (some (.v (.bl c), μ)) fb ρ = if c = true then some (.v (.bl true), μ) else fb ρ μ := rfl
@[simp] theorem ev_not {fa} : fNot fa ρ μ = thNotV (fa ρ μ) := rfl
@[simp] theorem ev_not1 {c} : thNotV (some (.v (.bl c), μ)) = some (.v (.bl (!c)), μ) := rfl
noncomputable def thIf (o : Option (Bool × Store)) (fa fb : FE) (ρ : Lo) : Option (R × Store) := o.bind fun c => if c.1 = true then fa ρ c.2 else fb ρ c.2
@[simp] theorem ev_if {t fa fb} : fIf t fa fb ρ μ = thIf (t ρ μ) fa fb ρ := rfl
@[simp] theorem ev_if1 {c fa fb} : thIf (some (c, μ)) fa fb ρ = if c = true then fa ρ μ else fb ρ μ := rfl
@[simp] theorem ev_vals0 : vals [] = some [] := rfl
@[simp] theorem ev_vals1 {r ds} (h : vals r = some ds) : vals (.v d :: r) = some (d :: ds) := by simp [vals, h]
noncomputable def thTup (o : Option (List R × Store)) : Option (R × Store) := o.bind fun a => (vals a.1).bind fun ds => if ds.length ≤ sizeLine then some (.v (.tup ds), a.2) else none
noncomputable def thLst (o : Option (List R × Store)) : Option (R × Store) := o.bind fun a => (vals a.1).bind fun ds => if ds.length ≤ sizeLine then some (.p a.2.length, a.2 ++ [.lst ds]) else none
@[simp] theorem ev_tup {fa} : fTup fa ρ μ = thTup (fa ρ μ) := rfl
@[simp] theorem ev_tup1 {rs ds} (h : vals rs = some ds) (hl : ds.length ≤ sizeLine) : thTup (some (rs, μ)) = some (.v (.tup ds), μ) := by simp [thTup, h, hl]
@[simp] theorem ev_lst {fa} : fLst fa ρ μ = thLst (fa ρ μ) := rfl
@[simp] theorem ev_lst1 {rs ds} (h : vals rs = some ds) (hl : ds.length ≤ sizeLine) : thLst (some (rs, μ)) = some (.p μ.length, μ ++ [.lst ds]) := by simp [thLst, h, hl]
@[simp] theorem ev_dnew : fDnew ρ μ = some (.p μ.length, μ ++ [.dct []]) := rfl
noncomputable def thFz (o : Option (R × Store)) : Option (R × Store) := o.bind fun a => (fzD a.1 a.2).bind fun b => some (.v b.1, b.2)
@[simp] theorem ev_fz {fa} : fFz fa ρ μ = thFz (fa ρ μ) := rfl
@[simp] theorem ev_fz1 : thFz (some (.v d, μ)) = some (.v d, μ) := rfl
noncomputable def thCall (o : Option (List R × Store)) (f : MF) (n : Nat) : Option (R × Store) := o.bind fun a => (vals a.1).bind fun ds => if ds.length = n then (f ds).bind fun d => some (.v d, a.2) else none
@[simp] theorem ev_call {f n fa} : fCall f n fa ρ μ = thCall (fa ρ μ) f n := rfl
@[simp] theorem ev_next : sNext ρ μ = some (.nx ρ μ) := rfl
noncomputable def thS (o : Option Out) (b : FS) : Option Out := o.bind fun o => match o with | .nx ρ' μ' => b ρ' μ' | o => some o
@[simp] theorem ev_seq {a b} : sSeq a b ρ μ = thS (a ρ μ) b := rfl
@[simp] theorem ev_seq1 {b} : thS (some (.nx ρ μ)) b = b ρ μ := rfl
@[simp] theorem ev_seq2 {b} : thS (some (.rt x μ)) b = some (.rt x μ) := rfl
@[simp] theorem ev_seq3 {b} : thS (some (.bk ρ μ)) b = some (.bk ρ μ) := rfl
@[simp] theorem ev_seq4 {b} : thS (some (.ct ρ μ)) b = some (.ct ρ μ) := rfl
@[simp] theorem ev_break : sBreak ρ μ = some (.bk ρ μ) := rfl
@[simp] theorem ev_cont : sCont ρ μ = some (.ct ρ μ) := rfl
noncomputable def thDrop (o : Option (R × Store)) (ρ : Lo) : Option Out := o.bind fun a => some (.nx ρ a.2)
@[simp] theorem ev_drop {f} : sDrop f ρ μ = thDrop (f ρ μ) ρ := rfl
@[simp] theorem ev_drop1 : thDrop (some (x, μ)) ρ = some (.nx ρ μ) := rfl
noncomputable def thRet (o : Option (R × Store)) : Option Out := o.bind fun a => some (.rt a.1 a.2)
@[simp] theorem ev_ret {f} : sRet f ρ μ = thRet (f ρ μ) := rfl
@[simp] theorem ev_ret1 : thRet (some (x, μ)) = some (.rt x μ) := rfl
@[simp] theorem ev_retN : sRetN ρ μ = some (.rt (.v .non) μ) := rfl
noncomputable def thIfS (o : Option (Bool × Store)) (a b : FS) (ρ : Lo) : Option Out := o.bind fun c => if c.1 = true then a ρ c.2 else b ρ c.2
@[simp] theorem ev_ifS {t a b} : sIf t a b ρ μ = thIfS (t ρ μ) a b ρ := rfl
@[simp] theorem ev_ifT {a b} : thIfS (some (true, μ)) a b ρ = a ρ μ := rfl
@[simp] theorem ev_ifF {a b} : thIfS (some (false, μ)) a b ρ = b ρ μ := rfl
noncomputable def thSet (o : Option (R × Store)) (i : Nat) (ρ : Lo) : Option Out := o.bind fun a => some (.nx (ρ.set i (some a.1)) a.2)
@[simp] theorem ev_set {i f} : sSet i f ρ μ = thSet (f ρ μ) i ρ := rfl
@[simp] theorem ev_set1 {i} : thSet (some (x, μ)) i ρ = some (.nx (ρ.set i (some x)) μ) := rfl
noncomputable def thFor (o : Option (List D × Store)) (g : FG) (b : FS) (ρ : Lo) : Option Out := o.bind fun a => loop g b a.1 ρ a.2
@[simp] theorem ev_for {i g b} : sFor i g b ρ μ = thFor (i ρ μ) g b ρ := Eq.trans rfl rfl
@[simp] theorem ev_for1 {xs g b} : thFor (some (xs, μ)) g b ρ = loop g b xs ρ μ := Eq.trans rfl rfl
noncomputable def thSeq (o : Option (R × Store)) : Option (List D × Store) := o.bind fun a => match a.1 with | .v (.fl xs) => some (xs, a.2) | .v (.tup xs) => some (xs, a.2) | _ => none
@[simp] theorem ev_iseq {f} : fiSeq f ρ μ = thSeq (thFz (f ρ μ)) := rfl
@[simp] theorem ev_iseq1 {xs} : thSeq (some (.v (.fl xs), μ)) = some (xs, μ) := rfl
@[simp] theorem ev_iseq2 {xs} : thSeq (some (.v (.tup xs), μ)) = some (xs, μ) := rfl
noncomputable def thR1 (o : Option (R × Store)) : Option (List D × Store) := o.bind fun a => match a.1 with | .v (.int j) => if -(2 ^ 62) ≤ j ∧ j < 2 ^ 62 then some ((List.range j.toNat).map fun i => .int (i : Nat), a.2) else none | _ => none
@[simp] theorem ev_r1 {f} : fiR1 f ρ μ = thR1 (f ρ μ) := Eq.trans rfl rfl
theorem ev_r11 {j : Int} (h : -(2 ^ 62) ≤ j ∧ j < 2 ^ 62) : thR1 (some (.v (.int j), μ)) = some ((List.range j.toNat).map fun i => .int (i : Nat), μ) := by
  show (if -(2 ^ 62) ≤ j ∧ j < 2 ^ 62 then _ else _) = _
  rw [if_pos h]
noncomputable def thR2 (o : Option (R × Store)) (g : FE) (ρ : Lo) : Option (List D × Store) := o.bind fun a => (g ρ a.2).bind fun b => match a.1, b.1 with
  | .v (.int i), .v (.int j) => if -(2 ^ 62) ≤ i ∧ i < 2 ^ 62 ∧ -(2 ^ 62) ≤ j ∧ j < 2 ^ 62 then some ((List.range (j - i).toNat).map fun k => .int (i + (k : Nat)), b.2) else none | _, _ => none
noncomputable def thR22 (x : R) (o : Option (R × Store)) : Option (List D × Store) := o.bind fun b => match x, b.1 with
  | .v (.int i), .v (.int j) => if -(2 ^ 62) ≤ i ∧ i < 2 ^ 62 ∧ -(2 ^ 62) ≤ j ∧ j < 2 ^ 62 then some ((List.range (j - i).toNat).map fun k => .int (i + (k : Nat)), b.2) else none | _, _ => none
@[simp] theorem ev_r2 {f g} : fiR2 f g ρ μ = thR2 (f ρ μ) g ρ := Eq.trans rfl rfl
@[simp] theorem ev_r21 {g} : thR2 (some (x, μ)) g ρ = thR22 x (g ρ μ) := Eq.trans rfl rfl
noncomputable def thComp (o : Option (List D × Store)) (ix : List Nat) (k : Nat) (g : FG) (c : FT) (f : FE) (ρ : Lo) : Option (R × Store) := o.bind fun a => if a.1.length ≤ sizeLine then
  (compL g c f a.1 (blockLo k ix ρ) a.2).bind fun r => some (.p r.2.length, r.2 ++ [.lst r.1]) else none
@[simp] theorem ev_comp {ix k i g c f} : fComp ix k i g c f ρ μ = thComp (i ρ μ) ix k g c f ρ := Eq.trans rfl rfl
@[simp] theorem ev_yes : cYes ρ μ = some (true, μ) := rfl
noncomputable def thSl (o : Option (R × Store)) (fl fh : FO) (ρ : Lo) : Option (R × Store) := o.bind fun a => (fl ρ a.2).bind fun l => (fh ρ l.2).bind fun h => slD a.1 l.1 h.1 h.2
noncomputable def thSl1 (x : R) (o : Option (Option Int × Store)) (fh : FO) (ρ : Lo) : Option (R × Store) := o.bind fun l => (fh ρ l.2).bind fun h => slD x l.1 h.1 h.2
noncomputable def thSl2 (x : R) (l : Option Int) (o : Option (Option Int × Store)) : Option (R × Store) := o.bind fun h => slD x l h.1 h.2
@[simp] theorem ev_sl {fa fl fh} : fSl fa fl fh ρ μ = thSl (fa ρ μ) fl fh ρ := rfl
@[simp] theorem ev_sl1 {fl fh} : thSl (some (x, μ)) fl fh ρ = thSl1 x (fl ρ μ) fh ρ := rfl
@[simp] theorem ev_sl2 {l fh} : thSl1 x (some (l, μ)) fh ρ = thSl2 x l (fh ρ μ) := rfl
@[simp] theorem ev_sl3 {l h} : thSl2 x l (some (h, μ)) = slD x l h μ := rfl
@[simp] theorem ev_slT {xs l h} : slD (.v (.tup xs)) l h μ = some (.v (.tup (cutD xs l h)), μ) := rfl
noncomputable def thO (o : Option (R × Store)) : Option (Option Int × Store) := o.bind fun a => match a.1 with | .v (.int i) => some (some i, a.2) | _ => none
@[simp] theorem ev_oN : oNone ρ μ = some (none, μ) := rfl
@[simp] theorem ev_oS {f} : oSome f ρ μ = thO (f ρ μ) := rfl
@[simp] theorem ev_oS1 {i} : thO (some (.v (.int i), μ)) = some (some i, μ) := rfl
noncomputable def thMt (o : Option (R × Store)) (g : R → List R → Store → Option (R × Store)) (ga : FA) (ρ : Lo) : Option (R × Store) := o.bind fun a => if isLst a.1 a.2 = true then (ga ρ a.2).bind fun b => g a.1 b.1 b.2 else none
noncomputable def thMt2 (x : R) (o : Option (List R × Store)) (g : R → List R → Store → Option (R × Store)) : Option (R × Store) := o.bind fun b => g x b.1 b.2
@[simp] theorem ev_mt {g fa ga} : fMt g fa ga ρ μ = thMt (fa ρ μ) g ga ρ := rfl
@[simp] theorem ev_mt2 {g xs} : thMt2 x (some (xs, μ)) g = g x xs μ := rfl
variable {i j : Int} {b c : Bool} {xs ys : List D}
@[simp] theorem ev_add : addD (.v (.int i)) (.v (.int j)) μ = some (.v (.int (i + j)), μ) := rfl
@[simp] theorem ev_sub : subD (.v (.int i)) (.v (.int j)) μ = some (.v (.int (i - j)), μ) := rfl
@[simp] theorem ev_lt : ltD (.v (.int i)) (.v (.int j)) μ = some (.v (.bl (decide (i < j))), μ) := rfl
@[simp] theorem ev_le : leD (.v (.int i)) (.v (.int j)) μ = some (.v (.bl (decide (i ≤ j))), μ) := rfl
@[simp] theorem ev_gt : gtD (.v (.int i)) (.v (.int j)) μ = some (.v (.bl (decide (j < i))), μ) := rfl
@[simp] theorem ev_ge : geD (.v (.int i)) (.v (.int j)) μ = some (.v (.bl (decide (j ≤ i))), μ) := rfl
theorem ev_mod (h : 0 < j) : modD (.v (.int i)) (.v (.int j)) μ = some (.v (.int (i % j)), μ) := by simp [modD, iOp, h]
theorem ev_div (h : 0 < j) (h2 : j < 1073741824) : divD (.v (.int i)) (.v (.int j)) μ = some (.v (.int (i / j)), μ) := by simp [divD, iOp, h, h2]
theorem ev_mulR (h : -(2 ^ 64) < j ∧ j < 2 ^ 64) : mulD (.v (.int i)) (.v (.int j)) μ = some (.v (.int (i * j)), μ) := by
  show (if (decide (-(2 ^ 64) < i ∧ i < 2 ^ 64) || decide (-(2 ^ 64) < j ∧ j < 2 ^ 64)) = true then _ else _) = _
  rw [if_pos (by rw [Bool.or_eq_true]; exact .inr (decide_eq_true h))]
theorem ev_mulL (h : -(2 ^ 64) < i ∧ i < 2 ^ 64) : mulD (.v (.int i)) (.v (.int j)) μ = some (.v (.int (i * j)), μ) := by
  show (if (decide (-(2 ^ 64) < i ∧ i < 2 ^ 64) || decide (-(2 ^ 64) < j ∧ j < 2 ^ 64)) = true then _ else _) = _
  rw [if_pos (by rw [Bool.or_eq_true]; exact .inl (decide_eq_true h))]
theorem ev_pow (h : 0 ≤ j ∧ j ≤ 1000000 ∧ i.natAbs < 2 ^ 64) : powD (.v (.int i)) (.v (.int j)) μ = some (.v (.int (i ^ j.toNat)), μ) := by simp [powD, iOp, h]
@[simp] theorem ev_neg : negD (.v (.int i)) μ = some (.v (.int (-i)), μ) := rfl
@[simp] theorem ev_eqI : eqR false (.v (.int i)) (.v (.int j)) μ = some (.v (.bl (i == j)), μ) := rfl
@[simp] theorem ev_neI : eqR true (.v (.int i)) (.v (.int j)) μ = some (.v (.bl (!(i == j))), μ) := rfl
@[simp] theorem ev_eqB : eqR false (.v (.bl b)) (.v (.bl c)) μ = some (.v (.bl (b == c)), μ) := rfl
@[simp] theorem ev_neB : eqR true (.v (.bl b)) (.v (.bl c)) μ = some (.v (.bl (!(b == c))), μ) := rfl
@[simp] theorem ev_lenT : lenD [.v (.tup xs)] μ = some (.v (.int xs.length), μ) := rfl
@[simp] theorem ev_lenF : lenD [.v (.fl xs)] μ = some (.v (.int xs.length), μ) := rfl
@[simp] theorem ev_tupT : tupD [.v (.tup xs)] μ = some (.v (.tup xs), μ) := rfl
@[simp] theorem ev_tupF : tupD [.v (.fl xs)] μ = some (.v (.tup xs), μ) := rfl
@[simp] theorem ev_listT : listD [.v (.tup xs)] μ = some (.p μ.length, μ ++ [.lst xs]) := rfl
@[simp] theorem ev_listF : listD [.v (.fl xs)] μ = some (.p μ.length, μ ++ [.lst xs]) := rfl
theorem bools_map (bs : List Bool) : boolsD (bs.map D.bl) = some bs := by induction bs <;> simp_all [boolsD]
@[simp] theorem ev_gnm {k : Nat} : gNm k x ρ μ = some (ρ.set k (some x), μ) := rfl
theorem at_int {α : Type} {xs : List α} {i : Int} {a : α} (h0 : 0 ≤ i) (h : xs[i.toNat]? = some a) : atI xs i = some a := by
  unfold atI ixN
  have hl := (List.getElem?_eq_some_iff.mp h).1
  rw [if_pos h0, if_pos (by omega)]
  simpa using h
noncomputable def finO (o : Option Out) : Option D := o.bind fin
@[simp] theorem ev_fin : finO (some (.rt (.v d) μ)) = some d := rfl
end
@[simp] theorem okDs_ints {n : Nat} (xs : List Int) : okDs n (xs.map D.int) = true := by
  induction xs with
  | nil => cases n <;> rfl
  | cons x xs ih => cases n <;> simpa [okDs, okD] using ih
@[simp] theorem eqDs_ints (xs ys : List Int) : eqDs (xs.map D.int) (ys.map D.int) = decide (xs = ys) := by
  induction xs generalizing ys with
  | nil => cases ys <;> simp [eqDs]
  | cons x xs ih =>
    cases ys with
    | nil => simp [eqDs]
    | cons y ys => simp [eqDs, eqD, ih ys]; rfl
noncomputable def thG (o : Option (Lo × Store)) (b : FS) : Option Out := o.bind fun a => b a.1 a.2
@[simp] theorem ev_G {ρ : Lo} {μ : Store} {b : FS} : thG (some (ρ, μ)) b = b ρ μ := rfl
theorem loop_nx {g : FG} {b : FS} (I : Nat → Lo → Store → Prop) {xs : List D} {ρ : Lo} {μ : Store} (h0 : I 0 ρ μ)
    (hs : ∀ (i : Nat) x ρ μ, xs[i]? = some x → I i ρ μ → ∃ ρ' μ', thG (g (.v x) ρ μ) b = some (.nx ρ' μ') ∧ I (i + 1) ρ' μ') :
    ∃ ρ' μ', loop g b xs ρ μ = some (.nx ρ' μ') ∧ I xs.length ρ' μ' := by
  have key : ∀ (n : Nat) (ys : List D) (i : Nat) ρ μ, ys.length = n → xs.drop i = ys → i ≤ xs.length → I i ρ μ → ∃ ρ' μ', loop g b ys ρ μ = some (.nx ρ' μ') ∧ I xs.length ρ' μ' := by
    intro n
    induction n with
    | zero =>
      intro ys i ρ μ hn hd hi h
      have : ys = [] := List.eq_nil_of_length_eq_zero hn
      subst this
      have : i = xs.length := by
        have := congrArg List.length hd
        simp at this; omega
      subst this
      exact ⟨ρ, μ, rfl, h⟩
    | succ n ih =>
      intro ys i ρ μ hn hd hi h
      cases ys with
      | nil => simp at hn
      | cons y ys =>
        have hlt : i < xs.length := by
          have := congrArg List.length hd
          simp at this; omega
        have hc := List.drop_eq_getElem_cons hlt
        rw [hd] at hc
        injection hc with h1 h2
        obtain ⟨ρ', μ', e0, h'⟩ := hs i y ρ μ (by rw [h1]; exact List.getElem?_eq_getElem hlt) h
        obtain ⟨⟨ρ1, μ1⟩, e1, e2⟩ := Option.bind_eq_some_iff.mp e0
        obtain ⟨ρ2, μ2, e3, h3⟩ := ih ys (i + 1) ρ' μ' (by simpa using hn) h2.symm hlt h'
        exact ⟨ρ2, μ2, by simp only [loop, e1, e2, Option.bind_some]; exact e3, h3⟩
  exact key xs.length xs 0 ρ μ rfl (by simp) (Nat.zero_le _) h0
end HW
namespace HW
open PySem L2
section
variable {ρ : Lo} {μ μ1 : Store} {x y : R} {d : D}
noncomputable def thCallQ (o : Option (List R × Store)) (f : MF) (n : Nat) : Option (R × Store) := o.bind fun a => (valsB a.1 a.2).bind fun ds => if ds.length = n then (f ds).bind fun d => if flatD d = true then some (.v d, a.2) else none else none
@[simp] theorem ev_callQ {f n fa} : fCallQ f n fa ρ μ = thCallQ (fa ρ μ) f n := rfl
end
end HW
namespace HW
open PySem L2
section
variable {ρ : Lo} {μ μ1 : Store} {x y : R} {d e : D} {n m : Nat} {xs ys : List D} {i j : Int} {b c : Bool}
noncomputable def cMt (o : Option Cell) (n : Nat) (g : R → List R → Store → Option (R × Store)) (ga : FA) (ρ : Lo) (μ : Store) : Option (R × Store) := match o with | some (.lst _) => thMt2 (.p n) (ga ρ μ) g | some (.fz _) => thMt2 (.p n) (ga ρ μ) g | _ => none
theorem ev_mtP {g ga} : thMt (some (.p n, μ)) g ga ρ = cMt μ[n]? n g ga ρ μ := by
  cases h : μ[n]? with
  | none => simp [thMt, isLst, cMt, h]
  | some c => cases c <;> simp [thMt, isLst, cMt, thMt2, h]
theorem ev_mtC {g ga} : cMt (some (.lst xs)) n g ga ρ μ = thMt2 (.p n) (ga ρ μ) g := rfl
noncomputable def cApp (o : Option Cell) (n : Nat) (d : D) (μ : Store) : Option (R × Store) := match o with | some (.lst xs) => if xs.length < sizeLine then some (.v .non, μ.set n (.lst (xs ++ [d]))) else none | _ => none
theorem ev_appP : appD (.p n) [.v d] μ = cApp μ[n]? n d μ := rfl
theorem ev_appC : cApp (some (.lst xs)) n d μ = if xs.length < sizeLine then some (.v .non, μ.set n (.lst (xs ++ [d]))) else none := rfl
noncomputable def cClr (o : Option Cell) (n : Nat) (μ : Store) : Option (R × Store) := match o with | some (.lst _) => some (.v .non, μ.set n (.lst [])) | _ => none
theorem ev_clrP : clrD (.p n) [] μ = cClr μ[n]? n μ := rfl
theorem ev_clrC : cClr (some (.lst xs)) n μ = some (.v .non, μ.set n (.lst [])) := rfl
noncomputable def cExt (o : Option Cell) (n : Nat) (ys : List D) (μ : Store) : Option (R × Store) := match o with | some (.lst xs) => if xs.length + ys.length ≤ sizeLine then some (.v .non, μ.set n (.lst (xs ++ ys))) else none | _ => none
theorem ev_extP : extD (.p n) [.v (.tup ys)] μ = cExt μ[n]? n ys μ := rfl
theorem ev_extC : cExt (some (.lst xs)) n ys μ = if xs.length + ys.length ≤ sizeLine then some (.v .non, μ.set n (.lst (xs ++ ys))) else none := rfl
noncomputable def cIt (o : Option Cell) : Option (List D) := match o with | some (.lst xs) => some xs | some (.fz xs) => some xs | _ => none
theorem ev_itT : itemsD (.v (.tup xs)) μ = some xs := rfl
theorem ev_itF : itemsD (.v (.fl xs)) μ = some xs := rfl
theorem ev_itP : itemsD (.p n) μ = cIt μ[n]? := rfl
theorem ev_itC : cIt (some (.lst xs)) = some xs := rfl
theorem ev_itZ : cIt (some (.fz xs)) = some xs := rfl
noncomputable def thIx (o : Option (List D)) (i : Int) (μ : Store) : Option (R × Store) := o.bind fun xs => (atI xs i).bind fun d => some (.v d, μ)
noncomputable def thIx2 (o : Option D) (μ : Store) : Option (R × Store) := o.bind fun d => some (.v d, μ)
theorem ev_ix : ixD x (.v (.int i)) μ = thIx (itemsD x μ) i μ := rfl
theorem ev_ix1 : thIx (some xs) i μ = thIx2 (atI xs i) μ := rfl
theorem ev_ix2 : thIx2 (some d) μ = some (.v d, μ) := rfl
theorem ev_at0 {a : D} {l : List D} : atI (a :: l) 0 = some a := at_int (by decide) rfl
theorem ev_at1 {a b : D} {l : List D} : atI (a :: b :: l) 1 = some b := at_int (by decide) rfl
theorem ev_at2 {a b c : D} {l : List D} : atI (a :: b :: c :: l) 2 = some c := at_int (by decide) rfl
theorem ev_at3 {a b c d : D} {l : List D} : atI (a :: b :: c :: d :: l) 3 = some d := at_int (by decide) rfl
noncomputable def thLen (o : Option (List D)) (μ : Store) : Option (R × Store) := o.bind fun xs => some (.v (.int xs.length), μ)
theorem ev_len : lenD [x] μ = thLen (itemsD x μ) μ := rfl
theorem ev_len1 : thLen (some xs) μ = some (.v (.int xs.length), μ) := rfl
noncomputable def thTp (o : Option (List D)) (μ : Store) : Option (R × Store) := o.bind fun xs => some (.v (.tup xs), μ)
theorem ev_tp : tupD [x] μ = thTp (itemsD x μ) μ := rfl
theorem ev_tp1 : thTp (some xs) μ = some (.v (.tup xs), μ) := rfl
noncomputable def thLs (o : Option (List D)) (μ : Store) : Option (R × Store) := o.bind fun xs => some (.p μ.length, μ ++ [.lst xs])
theorem ev_ls : listD [x] μ = thLs (itemsD x μ) μ := rfl
theorem ev_ls1 : thLs (some xs) μ = some (.p μ.length, μ ++ [.lst xs]) := rfl
noncomputable def cVw (o : Option Cell) : Option D := match o with | some (.lst xs) => some (.fl xs) | some (.fz xs) => some (.fl xs) | _ => none
theorem ev_vwV : viewD (.v d) μ = some d := rfl
theorem ev_vwP : viewD (.p n) μ = cVw μ[n]? := rfl
theorem ev_vwC : cVw (some (.lst xs)) = some (.fl xs) := rfl
theorem ev_vwZ : cVw (some (.fz xs)) = some (.fl xs) := rfl
noncomputable def thEq (o p : Option D) (neg : Bool) (μ : Store) : Option (R × Store) := o.bind fun a => p.bind fun b => if (okD 60 a && okD 60 b) = true then some (.v (.bl (if neg then !eqD a b else eqD a b)), μ) else none
theorem ev_eqR : eqR b x y μ = thEq (viewD x μ) (viewD y μ) b μ := rfl
theorem ev_eqF : thEq (some d) (some e) false μ = if (okD 60 d && okD 60 e) = true then some (.v (.bl (eqD d e)), μ) else none := rfl
theorem ev_eqT : thEq (some d) (some e) true μ = if (okD 60 d && okD 60 e) = true then some (.v (.bl (!eqD d e)), μ) else none := rfl
theorem ok_int : okD n (.int i) = true := by cases n <;> rfl
theorem ok_bl : okD n (.bl b) = true := by cases n <;> rfl
theorem ok_non : okD n .non = true := by cases n <;> rfl
theorem eq_int : eqD (.int i) (.int j) = (i == j) := rfl
theorem eq_bl : eqD (.bl b) (.bl c) = (b == c) := rfl
noncomputable def cFin (o : Option Cell) : Option D := match o with | some (.lst xs) => some (.fl xs) | some (.fz xs) => some (.fl xs) | some (.dct kvs) => some (.fd (kvs.map (·.1)) (kvs.map (·.2))) | some (.fzd kvs) => some (.fd (kvs.map (·.1)) (kvs.map (·.2))) | none => none
theorem ev_finPP : finO (some (.rt (.p n) μ)) = cFin μ[n]? := by
  cases h : μ[n]? with
  | none => simp [finO, fin, fzD, cFin, h]
  | some c => cases c <;> simp [finO, fin, fzD, cFin, h]
theorem ev_finC : cFin (some (.lst xs)) = some (.fl xs) := rfl
theorem ev_finZ : cFin (some (.fz xs)) = some (.fl xs) := rfl
theorem ev_finN : finO (some (.nx ρ μ)) = some .non := rfl
noncomputable def cFz (o : Option Cell) (n : Nat) (μ : Store) : Option (R × Store) := match o with | some (.lst xs) => some (.v (.fl xs), μ.set n (.fz xs)) | some (.fz xs) => some (.v (.fl xs), μ) | some (.dct kvs) => some (.v (.fd (kvs.map (·.1)) (kvs.map (·.2))), μ.set n (.fzd kvs)) | some (.fzd kvs) => some (.v (.fd (kvs.map (·.1)) (kvs.map (·.2))), μ) | none => none
theorem ev_fzP : thFz (some (.p n, μ)) = cFz μ[n]? n μ := by
  cases h : μ[n]? with
  | none => simp [thFz, fzD, cFz, h]
  | some c => cases c <;> simp [thFz, fzD, cFz, h]
theorem ev_fzC : cFz (some (.lst xs)) n μ = some (.v (.fl xs), μ.set n (.fz xs)) := rfl
theorem ev_fzZ : cFz (some (.fz xs)) n μ = some (.v (.fl xs), μ) := rfl
noncomputable def thAs (o : Option D) (xs : List R) (μ : Store) : Option (List D) := o.bind fun d => (valsB xs μ).bind fun ds => some (d :: ds)
noncomputable def thAs2 (d : D) (o : Option (List D)) : Option (List D) := o.bind fun ds => some (d :: ds)
theorem ev_vb0 : valsB [] μ = some [] := rfl
theorem ev_vb {rs} : valsB (x :: rs) μ = thAs (asD x μ) rs μ := rfl
theorem ev_vb1 {rs} : thAs (some d) rs μ = thAs2 d (valsB rs μ) := rfl
theorem ev_vb2 {ds} : thAs2 d (some ds) = some (d :: ds) := rfl
noncomputable def cAs (o : Option Cell) : Option D := match o with | some (.lst xs) => some (.fl xs) | some (.fz xs) => some (.fl xs) | some (.dct kvs) => some (.fd (kvs.map (·.1)) (kvs.map (·.2))) | some (.fzd kvs) => some (.fd (kvs.map (·.1)) (kvs.map (·.2))) | none => none
theorem ev_asV : asD (.v d) μ = some d := rfl
theorem ev_asP : asD (.p n) μ = cAs μ[n]? := rfl
theorem ev_asC : cAs (some (.lst xs)) = some (.fl xs) := rfl
theorem ev_asZ : cAs (some (.fz xs)) = some (.fl xs) := rfl
noncomputable def thVs (o : Option (List D)) (f : MF) (n : Nat) (μ : Store) : Option (R × Store) := o.bind fun ds => if ds.length = n then (f ds).bind fun d => some (.v d, μ) else none
noncomputable def thVr (o : Option D) (μ : Store) : Option (R × Store) := o.bind fun d => some (.v d, μ)
theorem ev_c1 {rs f n} : thCall (some (rs, μ)) f n = thVs (vals rs) f n μ := rfl
theorem ev_c2 {f : MF} {ds : List D} : thVs (some ds) f n μ = if ds.length = n then thVr (f ds) μ else none := rfl
theorem ev_c3 : thVr (some d) μ = some (.v d, μ) := rfl
noncomputable def thVc (d : D) (o : Option (List D)) : Option (List D) := o.bind fun ds => some (d :: ds)
theorem ev_vs0 : vals [] = some [] := rfl
theorem ev_vs1 {rs} : vals (.v d :: rs) = thVc d (vals rs) := by unfold thVc; cases h : vals rs <;> simp [vals, h]
theorem ev_vs2 {ds} : thVc d (some ds) = some (d :: ds) := rfl
noncomputable def thVsQ (o : Option (List D)) (f : MF) (n : Nat) (μ : Store) : Option (R × Store) := o.bind fun ds => if ds.length = n then (f ds).bind fun d => if flatD d = true then some (.v d, μ) else none else none
noncomputable def thVrQ (o : Option D) (μ : Store) : Option (R × Store) := o.bind fun d => if flatD d = true then some (.v d, μ) else none
theorem ev_q1 {rs f n} : thCallQ (some (rs, μ)) f n = thVsQ (valsB rs μ) f n μ := rfl
theorem ev_q2 {f : MF} {ds : List D} : thVsQ (some ds) f n μ = if ds.length = n then thVrQ (f ds) μ else none := rfl
theorem ev_q3 : thVrQ (some d) μ = if flatD d = true then some (.v d, μ) else none := rfl
noncomputable def thTv (o : Option (List D)) (μ : Store) : Option (R × Store) := o.bind fun ds => if ds.length ≤ sizeLine then some (.v (.tup ds), μ) else none
theorem ev_tv {rs} : thTup (some (rs, μ)) = thTv (vals rs) μ := rfl
theorem ev_tv1 {ds} : thTv (some ds) μ = if ds.length ≤ sizeLine then some (.v (.tup ds), μ) else none := rfl
noncomputable def thLv (o : Option (List D)) (μ : Store) : Option (R × Store) := o.bind fun ds => if ds.length ≤ sizeLine then some (.p μ.length, μ ++ [.lst ds]) else none
theorem ev_lv {rs} : thLst (some (rs, μ)) = thLv (vals rs) μ := rfl
theorem ev_lv1 {ds} : thLv (some ds) μ = if ds.length ≤ sizeLine then some (.p μ.length, μ ++ [.lst ds]) else none := rfl
noncomputable def thAsg (o : Option (R × Store)) (g : FG) (ρ : Lo) : Option Out := o.bind fun a => (g a.1 ρ a.2).bind fun b => some (.nx b.1 b.2)
noncomputable def thAsg2 (o : Option (Lo × Store)) : Option Out := o.bind fun b => some (.nx b.1 b.2)
theorem ev_asg {f g} : sAsg f g ρ μ = thAsg (f ρ μ) g ρ := rfl
theorem ev_asg1 {g} : thAsg (some (x, μ)) g ρ = thAsg2 (g x ρ μ) := rfl
theorem ev_asg2 : thAsg2 (some (ρ, μ)) = some (.nx ρ μ) := rfl
theorem ev_gtp {g} : gTp n g (.v (.tup xs)) ρ μ = if xs.length = n then g (xs.map .v) ρ μ else none := rfl
theorem ev_gs0 : gsNil [] ρ μ = some (ρ, μ) := rfl
noncomputable def thGs (o : Option (Lo × Store)) (r : FGs) (ds : List R) : Option (Lo × Store) := o.bind fun a => r ds a.1 a.2
theorem ev_gs {g r ds} : gsCons g r (x :: ds) ρ μ = thGs (g x ρ μ) r ds := rfl
theorem ev_gs1 {r ds} : thGs (some (ρ, μ)) r ds = r ds ρ μ := rfl
theorem ev_slF {l h} : slD (.v (.fl xs)) l h μ = some (.p μ.length, μ ++ [.lst (cutD xs l h)]) := rfl
theorem ev_addQI : addQ (.v (.int i)) (.v (.int j)) μ = some (.v (.int (i + j)), μ) := rfl
theorem ev_addQT : addQ (.v (.tup xs)) (.v (.tup ys)) μ = if xs.length + ys.length ≤ sizeLine then some (.v (.tup (xs ++ ys)), μ) else none := by
  cases xs with
  | nil => simp [addQ]
  | cons x xs => simp [addQ, addD]
noncomputable def cAdd (o p : Option Cell) (μ : Store) : Option (R × Store) := match o, p with | some (.lst xs), some (.lst ys) => if xs.length + ys.length ≤ sizeLine then some (.p μ.length, μ ++ [.lst (xs ++ ys)]) else none | _, _ => none
theorem ev_addQP : addQ (.p n) (.p m) μ = cAdd μ[n]? μ[m]? μ := rfl
theorem ev_addC : cAdd (some (.lst xs)) (some (.lst ys)) μ = if xs.length + ys.length ≤ sizeLine then some (.p μ.length, μ ++ [.lst (xs ++ ys)]) else none := rfl
theorem ev_intI : intD [.v (.int i)] μ = some (.v (.int i), μ) := rfl
theorem ev_intB : intD [.v (.bl b)] μ = some (.v (.int (if b then 1 else 0)), μ) := rfl
theorem ev_str : strD [.v (.int i)] μ = if i.natAbs.log2 < 1920 then some (.v (.str (toString i)), μ) else none := rfl
noncomputable def thSub (o : Option (R × Store)) (fi : FE) (dv : D) (ρ : Lo) : Option (Lo × Store) := o.bind fun o => (fi ρ o.2).bind fun i => (putC o.1 i.1 dv i.2).bind fun μ' => some (ρ, μ')
noncomputable def thSub2 (x : R) (o : Option (R × Store)) (dv : D) (ρ : Lo) : Option (Lo × Store) := o.bind fun i => (putC x i.1 dv i.2).bind fun μ' => some (ρ, μ')
noncomputable def thSub3 (o : Option Store) (ρ : Lo) : Option (Lo × Store) := o.bind fun μ' => some (ρ, μ')
theorem ev_sub1 {fo fi} : gSub fo fi (.v d) ρ μ = thSub (fo ρ μ) fi d ρ := rfl
theorem ev_sub2 {fi} : thSub (some (x, μ)) fi d ρ = thSub2 x (fi ρ μ) d ρ := rfl
theorem ev_sub3 : thSub2 x (some (y, μ)) d ρ = thSub3 (putC x y d μ) ρ := rfl
theorem ev_sub4 : thSub3 (some μ) ρ = some (ρ, μ) := rfl
noncomputable def cPut (o : Option Cell) (n : Nat) (i : R) (dv : D) (μ : Store) : Option Store := match o with
    | some (.lst xs) => (match i with | .v (.int k) => (ixN xs.length k).bind fun j => some (μ.set n (.lst (xs.set j dv))) | _ => none)
    | some (.dct kvs) => if kvs.length < sizeLine then (keyOf i).bind fun k => some (μ.set n (.dct (putKD kvs k dv))) else none
    | _ => none
theorem ev_putP : putC (.p n) x d μ = cPut μ[n]? n x d μ := rfl
noncomputable def thPut (o : Option Nat) (n : Nat) (xs : List D) (d : D) (μ : Store) : Option Store := o.bind fun j => some (μ.set n (.lst (xs.set j d)))
theorem ev_putL : cPut (some (.lst xs)) n (.v (.int i)) d μ = thPut (ixN xs.length i) n xs d μ := rfl
theorem ev_putL1 {j : Nat} : thPut (some j) n xs d μ = some (μ.set n (.lst (xs.set j d))) := rfl
noncomputable def thCo (o : Option (List D × Store)) : Option (R × Store) := o.bind fun r => some (.p r.2.length, r.2 ++ [.lst r.1])
theorem ev_compE {ix k g c f} : thComp (some (xs, μ)) ix k g c f ρ = if xs.length ≤ sizeLine then thCo (compL g c f xs (blockLo k ix ρ) μ) else none := Eq.trans rfl rfl
theorem ev_coE {r : List D} : thCo (some (r, μ)) = some (.p μ.length, μ ++ [.lst r]) := rfl
theorem ev_blk0 : blockLo 1 [] ρ = [none] := rfl
theorem ev_blk1 {i : Nat} : blockLo 1 [i] ρ = [none, (ρ[i]?).join] := rfl
theorem ev_blk2 {i j : Nat} : blockLo 1 [i, j] ρ = [none, (ρ[i]?).join, (ρ[j]?).join] := rfl
theorem ev_jn {x : Option R} : (some x).join = x := rfl
noncomputable def thAll (o : Option (List D)) (any : Bool) (μ : Store) : Option (R × Store) := o.bind fun xs => (boolsD xs).bind fun bs => some (.v (.bl (if any then bs.any id else bs.all id)), μ)
noncomputable def thAll2 (o : Option (List Bool)) (any : Bool) (μ : Store) : Option (R × Store) := o.bind fun bs => some (.v (.bl (if any then bs.any id else bs.all id)), μ)
theorem ev_all : allD b [x] μ = thAll (lstD x μ) b μ := rfl
theorem ev_all1 : thAll (some xs) b μ = thAll2 (boolsD xs) b μ := rfl
theorem ev_all2 {bs : List Bool} : thAll2 (some bs) false μ = some (.v (.bl (bs.all id)), μ) := rfl
theorem ev_any2 {bs : List Bool} : thAll2 (some bs) true μ = some (.v (.bl (bs.any id)), μ) := rfl
theorem ev_lstP : lstD (.p n) μ = cIt μ[n]? := rfl
theorem ev_lstF : lstD (.v (.fl xs)) μ = some xs := rfl
theorem ev_boolsE {bs : List Bool} : boolsD (bs.map D.bl) = some bs := bools_map bs
noncomputable def thCallN (o : Option (List R × Store)) (f : MC) (n : Nat) : Option (R × Store) := o.bind fun a => (valsB a.1 a.2).bind fun ds => if ds.length = n then (f ds).bind fun c => if flatC c = true then some (.p a.2.length, a.2 ++ [c]) else none else none
noncomputable def thVsN (o : Option (List D)) (f : MC) (n : Nat) (μ : Store) : Option (R × Store) := o.bind fun ds => if ds.length = n then (f ds).bind fun c => if flatC c = true then some (.p μ.length, μ ++ [c]) else none else none
noncomputable def thVrN (o : Option Cell) (μ : Store) : Option (R × Store) := o.bind fun c => if flatC c = true then some (.p μ.length, μ ++ [c]) else none
theorem ev_callN {f : MC} {fa} : fCallN f n fa ρ μ = thCallN (fa ρ μ) f n := rfl
theorem ev_n1 {f : MC} {rs} : thCallN (some (rs, μ)) f n = thVsN (valsB rs μ) f n μ := rfl
theorem ev_n2 {f : MC} {ds : List D} : thVsN (some ds) f n μ = if ds.length = n then thVrN (f ds) μ else none := rfl
theorem ev_n3 {k : Cell} : thVrN (some k) μ = if flatC k = true then some (.p μ.length, μ ++ [k]) else none := rfl
theorem ev_flC : flatC (.lst xs) = flatDs xs := rfl
noncomputable def finNO (o : Option Out) : Option Cell := o.bind finN
noncomputable def cFinN (o : Option Cell) : Option Cell := match o with | some (.lst xs) => some (.lst xs) | some (.dct kvs) => some (.dct kvs) | _ => none
theorem ev_finNP : finNO (some (.rt (.p n) μ)) = cFinN μ[n]? := by
  cases h : μ[n]? with
  | none => simp [finNO, finN, cFinN, h]
  | some c => cases c <;> simp [finNO, finN, cFinN, h]
theorem ev_finNC : cFinN (some (.lst xs)) = some (.lst xs) := rfl
noncomputable def thBest (o : Option (List D)) (lt : Int → Int → Bool) (μ : Store) : Option (R × Store) := o.bind fun ds => (intsD ds).bind fun ns => if ns = [] then none else some (.v (.int (bestOf lt ns)), μ)
noncomputable def thBest2 (o : Option (List Int)) (lt : Int → Int → Bool) (μ : Store) : Option (R × Store) := o.bind fun ns => if ns = [] then none else some (.v (.int (bestOf lt ns)), μ)
theorem ev_best {lt} : bestD lt [x] μ = thBest (lstD x μ) lt μ := rfl
theorem ev_best1 {lt} : thBest (some xs) lt μ = thBest2 (intsD xs) lt μ := rfl
theorem ev_best2 {lt} {ns : List Int} : thBest2 (some ns) lt μ = if ns = [] then none else some (.v (.int (bestOf lt ns)), μ) := rfl
theorem ev_ints {ns : List Int} : intsD (ns.map D.int) = some ns := by
  induction ns with
  | nil => rfl
  | cons n ns ih => simp [intsD, ih]
noncomputable def thSetQ (o : Option (List D)) (c : Bool) (μ : Store) : Option (R × Store) := o.bind fun ds => (intsD ds).bind fun ns => if ns.length < 4000 then some (.s c (HS.metOf [] ns), μ) else none
noncomputable def thSetQ2 (o : Option (List Int)) (c : Bool) (μ : Store) : Option (R × Store) := o.bind fun ns => if ns.length < 4000 then some (.s c (HS.metOf [] ns), μ) else none
theorem ev_setQ : setQ c [x] μ = thSetQ (itemsD x μ) c μ := rfl
theorem ev_setQ1 : thSetQ (some xs) c μ = thSetQ2 (intsD xs) c μ := rfl
theorem ev_setQ2 {ns : List Int} : thSetQ2 (some ns) c μ = if ns.length < 4000 then some (.s c (HS.metOf [] ns), μ) else none := rfl
theorem ev_sortQ {ns : List Int} : sortedQ c [.s c ns] μ = if ns.length < 64 then some (.p μ.length, μ ++ [.lst ((isort ns).map D.int)]) else none := by simp [sortedQ]
theorem ev_sortK {ns : List Int} : srtK c [.s c ns] μ = if ns.length < 64 then some (.p μ.length, μ ++ [.lst ((isort ns).map D.int)]) else none := by simp [srtK, sortedQ]
noncomputable def cSrt (o : Option Cell) (c : Bool) (n : Nat) (μ : Store) : Option (R × Store) := match o with
    | some (.dct kvs) => (intKeys (kvs.map (·.1))).bind fun ns => if ns.length < 64 then some (.p μ.length, μ ++ [.lst ((isort ns).map D.int)]) else none
    | some (.fzd kvs) => (intKeys (kvs.map (·.1))).bind fun ns => if ns.length < 64 then some (.p μ.length, μ ++ [.lst ((isort ns).map D.int)]) else none
    | _ => sortedQ c [.p n] μ
theorem ev_sortP : srtK c [.p n] μ = cSrt μ[n]? c n μ := rfl
theorem ev_sortL : cSrt (some (.lst xs)) c n μ = sortedQ c [.p n] μ := rfl
theorem ev_sortZ : cSrt (some (.fz xs)) c n μ = sortedQ c [.p n] μ := rfl
noncomputable def thSrt (o : Option (List Int)) (μ : Store) : Option (R × Store) := o.bind fun ns => if ns.length < 64 then some (.p μ.length, μ ++ [.lst ((isort ns).map D.int)]) else none
theorem ev_sortD {kvs} : cSrt (some (.dct kvs)) c n μ = thSrt (intKeys (kvs.map (·.1))) μ := rfl
theorem ev_srt {ns : List Int} : thSrt (some ns) μ = if ns.length < 64 then some (.p μ.length, μ ++ [.lst ((isort ns).map D.int)]) else none := rfl
noncomputable def thDs (o : Option (List (R × R) × Store)) (n : Nat) : Option (R × Store) := o.bind fun a => (kvsOf a.1).bind fun kvs => if kvs.length ≤ 15 then
  (match a.2[n]? with | some (.dct []) => some (.p n, a.2.set n (.dct (putAllD [] kvs))) | _ => none) else none
theorem ev_dsp {prs} : fDisp prs ρ μ = thDs (fPairs prs ρ (μ ++ [.dct []])) μ.length := rfl
noncomputable def thDs2 (o : Option (List (Key × D))) (n : Nat) (μ : Store) : Option (R × Store) := o.bind fun kvs => if kvs.length ≤ 15 then
  (match μ[n]? with | some (.dct []) => some (.p n, μ.set n (.dct (putAllD [] kvs))) | _ => none) else none
theorem ev_dsp1 {rs} : thDs (some (rs, μ)) n = thDs2 (kvsOf rs) n μ := rfl
noncomputable def cDs (o : Option Cell) (n : Nat) (kvs : List (Key × D)) (μ : Store) : Option (R × Store) := match o with | some (.dct []) => some (.p n, μ.set n (.dct (putAllD [] kvs))) | _ => none
theorem ev_dsp2 {kvs} : thDs2 (some kvs) n μ = if kvs.length ≤ 15 then cDs μ[n]? n kvs μ else none := rfl
theorem ev_dsp3 {kvs} : cDs (some (.dct [])) n kvs μ = some (.p n, μ.set n (.dct (putAllD [] kvs))) := rfl
theorem ev_prs0 : fPairs [] ρ μ = some ([], μ) := rfl
noncomputable def thPr (o : Option (R × Store)) (fv : FE) (r : List (FE × FE)) (ρ : Lo) : Option (List (R × R) × Store) := o.bind fun a => (fv ρ a.2).bind fun b => (fPairs r ρ b.2).bind fun c => some ((a.1, b.1) :: c.1, c.2)
noncomputable def thPr2 (x : R) (o : Option (R × Store)) (r : List (FE × FE)) (ρ : Lo) : Option (List (R × R) × Store) := o.bind fun b => (fPairs r ρ b.2).bind fun c => some ((x, b.1) :: c.1, c.2)
noncomputable def thPr3 (x y : R) (o : Option (List (R × R) × Store)) : Option (List (R × R) × Store) := o.bind fun c => some ((x, y) :: c.1, c.2)
theorem ev_prs {fk fv r} : fPairs ((fk, fv) :: r) ρ μ = thPr (fk ρ μ) fv r ρ := rfl
theorem ev_prs1 {fv r} : thPr (some (x, μ)) fv r ρ = thPr2 x (fv ρ μ) r ρ := rfl
theorem ev_prs2 {r} : thPr2 x (some (y, μ)) r ρ = thPr3 x y (fPairs r ρ μ) := rfl
theorem ev_prs3 {rs} : thPr3 x y (some (rs, μ)) = some ((x, y) :: rs, μ) := rfl
noncomputable def thPutD (o : Option Key) (kvs : List (Key × D)) (n : Nat) (d : D) (μ : Store) : Option Store := o.bind fun k => some (μ.set n (.dct (putKD kvs k d)))
theorem ev_putD {kvs} : cPut (some (.dct kvs)) n x d μ = if kvs.length < sizeLine then thPutD (keyOf x) kvs n d μ else none := rfl
theorem ev_putD1 {kvs k} : thPutD (some k) kvs n d μ = some (μ.set n (.dct (putKD kvs k d))) := rfl
theorem ev_key : keyOf (.v (.int i)) = some (.inl i) := rfl
theorem ev_setKT : setKs c [.v (.tup xs)] μ = thSetQ (some xs) c μ := rfl
theorem ev_setKF : setKs c [.v (.fl xs)] μ = thSetQ (some xs) c μ := rfl
noncomputable def cSet (o : Option Cell) (c : Bool) (n : Nat) (μ : Store) : Option (R × Store) := match o with
    | some (.dct kvs) => (intKeys (kvs.map (·.1))).bind fun ns => if ns.length < 60 then some (.s c (HS.metOf [] ns), μ) else none
    | some (.fzd kvs) => (intKeys (kvs.map (·.1))).bind fun ns => if ns.length < 60 then some (.s c (HS.metOf [] ns), μ) else none
    | _ => setQ c [.p n] μ
theorem ev_setKs : setKs c [.p n] μ = cSet μ[n]? c n μ := rfl
theorem ev_setKL : cSet (some (.lst xs)) c n μ = setQ c [.p n] μ := rfl
theorem ev_setKZ : cSet (some (.fz xs)) c n μ = setQ c [.p n] μ := rfl
noncomputable def thSk (o : Option (List Int)) (c : Bool) (μ : Store) : Option (R × Store) := o.bind fun ns => if ns.length < 60 then some (.s c (HS.metOf [] ns), μ) else none
theorem ev_setKD {kvs} : cSet (some (.dct kvs)) c n μ = thSk (intKeys (kvs.map (·.1))) c μ := rfl
theorem ev_setK1 {ns : List Int} : thSk (some ns) c μ = if ns.length < 60 then some (.s c (HS.metOf [] ns), μ) else none := rfl
theorem ev_dicT : dictQ [.v (.tup xs)] μ = (pairsD xs).bind fun ps => if ps.length ≤ sizeLine then some (.p μ.length, μ ++ [.dct (putAllD [] ps)]) else none := rfl
theorem ev_dicP : dictQ [.p n] μ = dictD [.p n] μ := rfl
noncomputable def thGet (o : Option (R × Store)) (fk fx : FE) (ρ : Lo) : Option (R × Store) := o.bind fun o => if (kvsD o.1 o.2).isSome = true then (fk ρ o.2).bind fun k => (fx ρ k.2).bind fun x => (kvsD o.1 x.2).bind fun kvs => (keyOf k.1).bind fun key => some ((match valD kvs key with | some d => .v d | none => x.1), x.2) else none
noncomputable def cKvs (o : Option Cell) : Option (List (Key × D)) := match o with | some (.dct kvs) => some kvs | some (.fzd kvs) => some kvs | _ => none
noncomputable def thGet1 (o : Option (List (Key × D))) (x : R) (fk fx : FE) (ρ : Lo) (μ : Store) : Option (R × Store) := if o.isSome = true then (fk ρ μ).bind fun k => (fx ρ k.2).bind fun y => (kvsD x y.2).bind fun kvs => (keyOf k.1).bind fun key => some ((match valD kvs key with | some d => .v d | none => y.1), y.2) else none
noncomputable def thGet2 (o : Option (R × Store)) (x : R) (fx : FE) (ρ : Lo) : Option (R × Store) := o.bind fun k => (fx ρ k.2).bind fun y => (kvsD x y.2).bind fun kvs => (keyOf k.1).bind fun key => some ((match valD kvs key with | some d => .v d | none => y.1), y.2)
noncomputable def thGet3 (o : Option (R × Store)) (x k : R) : Option (R × Store) := o.bind fun y => (kvsD x y.2).bind fun kvs => (keyOf k).bind fun key => some ((match valD kvs key with | some d => .v d | none => y.1), y.2)
noncomputable def thGet4 (o : Option (List (Key × D))) (k y : R) (μ : Store) : Option (R × Store) := o.bind fun kvs => (keyOf k).bind fun key => some ((match valD kvs key with | some d => .v d | none => y), μ)
noncomputable def thGet5 (o : Option D) (y : R) : R := match o with | some d => .v d | none => y
theorem ev_get {fo fk fx} : fGet fo fk fx ρ μ = thGet (fo ρ μ) fk fx ρ := rfl
theorem ev_kvsP : kvsD (.p n) μ = cKvs μ[n]? := rfl
theorem ev_kvsD {kvs} : cKvs (some (.dct kvs)) = some kvs := rfl
theorem ev_kvsZ {kvs} : cKvs (some (.fzd kvs)) = some kvs := rfl
theorem ev_get0 {fk fx} : thGet (some (x, μ)) fk fx ρ = thGet1 (kvsD x μ) x fk fx ρ μ := rfl
theorem ev_get1 {kvs fk fx} : thGet1 (some kvs) x fk fx ρ μ = thGet2 (fk ρ μ) x fx ρ := rfl
theorem ev_get2 {fx} : thGet2 (some (y, μ)) x fx ρ = thGet3 (fx ρ μ) x y := rfl
theorem ev_get3 {z} : thGet3 (some (z, μ)) x y = thGet4 (kvsD x μ) y z μ := rfl
theorem ev_get4 {kvs} : thGet4 (some kvs) (.v (.int i)) y μ = some (thGet5 (valD kvs (.inl i)) y, μ) := rfl
theorem ev_get5 : thGet5 (some d) y = .v d := rfl
theorem ev_get6 : thGet5 none y = y := rfl
noncomputable def thStep (o : Option (R × Store)) (fl fh : FO) (k : Int) (ρ : Lo) : Option (R × Store) := o.bind fun a => (fl ρ a.2).bind fun l => (fh ρ l.2).bind fun h => if k = 0 then none else (lstD a.1 h.2).bind fun xs => some (.p h.2.length, h.2 ++ [.lst (stepV xs l.1 h.1 k)])
noncomputable def thStep1 (x : R) (o : Option (Option Int × Store)) (fh : FO) (k : Int) (ρ : Lo) : Option (R × Store) := o.bind fun l => (fh ρ l.2).bind fun h => if k = 0 then none else (lstD x h.2).bind fun xs => some (.p h.2.length, h.2 ++ [.lst (stepV xs l.1 h.1 k)])
noncomputable def thStep2 (x : R) (l : Option Int) (o : Option (Option Int × Store)) (k : Int) : Option (R × Store) := o.bind fun h => if k = 0 then none else (lstD x h.2).bind fun xs => some (.p h.2.length, h.2 ++ [.lst (stepV xs l h.1 k)])
noncomputable def thStep3 (o : Option (List D)) (l h : Option Int) (k : Int) (μ : Store) : Option (R × Store) := if k = 0 then none else o.bind fun xs => some (.p μ.length, μ ++ [.lst (stepV xs l h k)])
theorem ev_step {fa fl fh} {k : Int} : fStep fa fl fh k ρ μ = thStep (fa ρ μ) fl fh k ρ := rfl
theorem ev_step1 {fl fh} {k : Int} : thStep (some (x, μ)) fl fh k ρ = thStep1 x (fl ρ μ) fh k ρ := rfl
theorem ev_step2 {fh} {l : Option Int} {k : Int} : thStep1 x (some (l, μ)) fh k ρ = thStep2 x l (fh ρ μ) k := rfl
theorem ev_step3 {l h : Option Int} {k : Int} : thStep2 x l (some (h, μ)) k = thStep3 (lstD x μ) l h k μ := rfl
theorem ev_step4 {l h : Option Int} : thStep3 (some xs) l h 2 μ = some (.p μ.length, μ ++ [.lst (stepV xs l h 2)]) := by simp [thStep3]
theorem sz2 : 2 ≤ sizeLine := by decide
theorem sz0 : 0 ≤ sizeLine := by decide
theorem sz3 : 3 ≤ sizeLine := by decide
theorem sz4 : 4 ≤ sizeLine := by decide
theorem small' {n : Nat} (h : n < 4000) : n < sizeLine := Nat.lt_of_lt_of_le h (by decide)
theorem small'' {n : Nat} (h : n < 4000) : n ≤ sizeLine := Nat.le_of_lt (small' h)
end
theorem ls_set0 {α : Type} {x y : α} {l : List α} : (x :: l).set 0 y = y :: l := rfl
theorem ls_sets {α : Type} {x y : α} {l : List α} {n : Nat} : (x :: l).set (n + 1) y = x :: l.set n y := rfl
theorem ls_get0 {α : Type} {x : α} {l : List α} : (x :: l)[0]? = some x := rfl
theorem ls_gets {α : Type} {x : α} {l : List α} {n : Nat} : (x :: l)[n + 1]? = l[n]? := rfl
theorem ls_len {α : Type} {x : α} {l : List α} : (x :: l).length = l.length + 1 := rfl
theorem ls_len0 {α : Type} : ([] : List α).length = 0 := rfl
theorem ls_app {α : Type} {x : α} {l r : List α} : (x :: l) ++ r = x :: (l ++ r) := rfl
theorem ls_app0 {α : Type} {r : List α} : [] ++ r = r := rfl
theorem ls_map {α β : Type} {f : α → β} {x : α} {l : List α} : (x :: l).map f = f x :: l.map f := rfl
theorem ls_map0 {α β : Type} {f : α → β} : ([] : List α).map f = [] := rfl
theorem ls_n1 {n : Nat} : 0 + n = n := Nat.zero_add n
theorem ls_not1 : (!true) = false := rfl
theorem ls_not0 : (!false) = true := rfl
theorem ls_if1 {α : Type} {a b : α} : (if true = true then a else b) = a := rfl
theorem ls_if0 {α : Type} {a b : α} : (if false = true then a else b) = b := rfl
section
variable {g : FG} {b : FS} {ρ : Lo} {μ : Store}
noncomputable def thLp (o : Option Out) (g : FG) (b : FS) (xs : List D) : Option Out := o.bind fun o => match o with
    | .nx ρ' μ' => loop g b xs ρ' μ'
    | .ct ρ' μ' => loop g b xs ρ' μ'
    | .bk ρ' μ' => some (.nx ρ' μ')
    | .rt d μ' => some (.rt d μ')
theorem loop_cons {x : D} {xs : List D} : loop g b (x :: xs) ρ μ = thLp (thG (g (.v x) ρ μ) b) g b xs := by
  show (g (.v x) ρ μ).bind _ = _
  cases e : g (.v x) ρ μ <;> rfl
theorem loop_nil : loop g b [] ρ μ = some (.nx ρ μ) := rfl
theorem lp_nx {xs} : thLp (some (.nx ρ μ)) g b xs = loop g b xs ρ μ := rfl
theorem lp_ct {xs} : thLp (some (.ct ρ μ)) g b xs = loop g b xs ρ μ := rfl
theorem lp_bk {xs} : thLp (some (.bk ρ μ)) g b xs = some (.nx ρ μ) := rfl
theorem lp_rt {xs d} : thLp (some (.rt d μ)) g b xs = some (.rt d μ) := rfl
theorem loop_inv {α σ : Type} (e : α → D) (S : σ → Lo × Store) (P : σ → List α → Prop) : ∀ (as : List α) (s : σ), P s as →
    (∀ s a r, P s (a :: r) → ∃ s', thG (g (.v (e a)) (S s).1 (S s).2) b = some (.nx (S s').1 (S s').2) ∧ P s' r) →
    ∃ s', loop g b (as.map e) (S s).1 (S s).2 = some (.nx (S s').1 (S s').2) ∧ P s' []
  | [], s, h, _ => ⟨s, rfl, h⟩
  | a :: as, s, h, k => by
    obtain ⟨s1, h1, h2⟩ := k s a as h
    obtain ⟨s2, h3, h4⟩ := loop_inv e S P as s1 h2 k
    exact ⟨s2, by rw [List.map_cons, loop_cons, h1, lp_nx, h3], h4⟩
theorem loop_range (n : Nat) (I : Nat → Lo → Store → Prop) (h0 : I 0 ρ μ)
    (hs : ∀ i < n, ∀ ρ μ, I i ρ μ → ∃ ρ' μ', thG (g (.v (.int (i : Int))) ρ μ) b = some (.nx ρ' μ') ∧ I (i + 1) ρ' μ') :
    ∃ ρ' μ', loop g b ((List.range n).map fun i => .int ((i : Nat) : Int)) ρ μ = some (.nx ρ' μ') ∧ I n ρ' μ' := by
  obtain ⟨ρ', μ', e, h⟩ := loop_nx (g := g) (b := b) I (xs := (List.range n).map fun i => D.int ((i : Nat) : Int)) h0 fun i x ρ μ hx hI => by
    rw [List.getElem?_map] at hx
    obtain ⟨k, hk, rfl⟩ := Option.map_eq_some_iff.mp hx
    obtain ⟨hl, hk⟩ := List.getElem?_eq_some_iff.mp hk
    rw [List.getElem_range] at hk
    subst hk
    exact hs i (by simpa using hl) ρ μ hI
  exact ⟨ρ', μ', e, by simpa using h⟩
end
theorem comp_typed {α : Type} {f : FE} {μ : Store} {rest : Lo} (e out : α → D) : ∀ (xs : List α) (x0 : Option R), (∀ a ∈ xs, f (some (.v (e a)) :: rest) μ = some (.v (out a), μ)) → compL (gNm 0) cYes f (xs.map e) (x0 :: rest) μ = some (xs.map out, μ)
  | [], _, _ => rfl
  | a :: xs, x0, h => by
    have h1 := h a List.mem_cons_self
    have ih := comp_typed e out xs (some (.v (e a))) fun b hb => h b (List.mem_cons_of_mem _ hb)
    simp only [List.map_cons, compL, gNm, List.set_cons_zero, Option.bind_some, cYes, if_true, h1, ih]
theorem A2 {a b : Prop} (x : a) (y : b) : a ∧ b := ⟨x, y⟩
noncomputable def EV := A2 @sz2 (A2 @sz0 (A2 @sz3 (A2 @sz4 (A2 @ls_set0 (A2 @ls_sets (A2 @ls_get0 (A2 @ls_gets (A2 @ls_len (A2 @ls_len0 (A2 @ls_app (A2 @ls_app0 (A2 @ls_map (A2 @ls_map0 (A2 @ls_n1 (A2 @ls_not1 (A2 @ls_not0 (A2 @ls_if1 (A2 @ls_if0 (A2 @loop_nil (A2 @lp_nx (A2 @lp_ct (A2 @lp_bk (A2 @lp_rt (A2 @ev_v0 (A2 @ev_vs (A2 @ev_k (A2 @ev_op (A2 @ev_op1 (A2 @ev_op2 (A2 @ev_un (A2 @ev_un1 (A2 @ev_nil (A2 @ev_ar (A2 @ev_ar1 (A2 @ev_B (A2 @ev_B1 (A2 @ev_tru (A2 @ev_tru1 (A2 @ev_tru2 (A2 @ev_tru3 (A2 @ev_tru4 (A2 @ev_tru5 (A2 @ev_tand (A2 @ev_tand1 (A2 @ev_tor (A2 @ev_tor1 (A2 @ev_tnot (A2 @ev_tnot1 (A2 @ev_and (A2 @ev_and1 (A2 @ev_or (A2 @ev_or1 (A2 @ev_not (A2 @ev_not1 (A2 @ev_if (A2 @ev_if1 (A2 @ev_tup (A2 @ev_lst (A2 @ev_dnew (A2 @ev_fz (A2 @ev_fz1 (A2 @ev_call (A2 @ev_next (A2 @ev_seq (A2 @ev_seq1 (A2 @ev_seq2 (A2 @ev_seq3 (A2 @ev_seq4 (A2 @ev_break (A2 @ev_drop (A2 @ev_drop1 (A2 @ev_ret (A2 @ev_ret1 (A2 @ev_retN (A2 @ev_ifS (A2 @ev_ifT (A2 @ev_ifF (A2 @ev_for (A2 @ev_for1 (A2 @ev_iseq (A2 @ev_iseq1 (A2 @ev_iseq2 (A2 @ev_r1 (A2 @ev_yes (A2 @ev_mt (A2 @ev_mt2 (A2 @ev_add (A2 @ev_sub (A2 @ev_lt (A2 @ev_le (A2 @ev_gt (A2 @ev_ge (A2 @ev_neg (A2 @ev_gnm (A2 @ev_fin (A2 @ev_G (A2 @ev_mtP (A2 @ev_mtC (A2 @ev_appP (A2 @ev_appC (A2 @ev_itT (A2 @ev_itF (A2 @ev_itP (A2 @ev_itC (A2 @ev_itZ (A2 @ev_ix (A2 @ev_ix1 (A2 @ev_ix2 (A2 @ev_at0 (A2 @ev_at1 (A2 @ev_at2 (A2 @ev_at3 (A2 @ev_len (A2 @ev_len1 (A2 @ev_tp (A2 @ev_tp1 (A2 @ev_ls (A2 @ev_ls1 (A2 @ev_vwV (A2 @ev_vwP (A2 @ev_vwC (A2 @ev_vwZ (A2 @ev_eqR (A2 @ev_eqF (A2 @ev_eqT (A2 @ok_int (A2 @ok_bl (A2 @ok_non (A2 @eq_int (A2 @eq_bl (A2 @ev_finPP (A2 @ev_finC (A2 @ev_finZ (A2 @ev_fzP (A2 @ev_fzC (A2 @ev_fzZ (A2 @ev_vb0 (A2 @ev_vb (A2 @ev_vb1 (A2 @ev_vb2 (A2 @ev_asV (A2 @ev_asP (A2 @ev_asC (A2 @ev_asZ (A2 @ev_c1 (A2 @ev_c2 (A2 @ev_c3 (A2 @ev_vs0 (A2 @ev_vs1 (A2 @ev_vs2 (A2 @ev_tv (A2 @ev_tv1 (A2 @ev_lv (A2 @ev_lv1 (A2 @ev_asg (A2 @ev_asg1 (A2 @ev_asg2 (A2 @ev_gtp (A2 @ev_gs0 (A2 @ev_gs (A2 @ev_gs1 (A2 @ev_addQI (A2 @ev_addQT (A2 @ev_addQP (A2 @ev_addC (A2 @ev_lstP (A2 @ev_lstF (A2 @ev_cons (A2 @ev_cons1 (A2 @ev_cons2 (A2 @ev_cont (A2 @ev_set (A2 @ev_set1 (A2 @ev_r2 (A2 @ev_r21 (A2 @ev_comp (A2 @ev_sl (A2 @ev_sl1 (A2 @ev_sl2 (A2 @ev_sl3 (A2 @ev_slT (A2 @ev_oN (A2 @ev_oS (A2 @ev_oS1 (A2 @ev_callQ (A2 @ev_clrP (A2 @ev_clrC (A2 @ev_extP (A2 @ev_extC (A2 @ev_finN (A2 @ev_q1 (A2 @ev_q2 (A2 @ev_q3 (A2 @ev_slF (A2 @ev_intI (A2 @ev_intB (A2 @ev_str (A2 @ev_sub1 (A2 @ev_sub2 (A2 @ev_sub3 (A2 @ev_sub4 (A2 @ev_putP (A2 @ev_putL (A2 @ev_putL1 (A2 @ev_compE (A2 @ev_coE (A2 @ev_blk0 (A2 @ev_blk1 (A2 @ev_blk2 (A2 @ev_jn (A2 @ev_all (A2 @ev_all1 (A2 @ev_all2 (A2 @ev_any2 (A2 @ev_boolsE (A2 @ev_callN (A2 @ev_n1 (A2 @ev_n2 (A2 @ev_n3 (A2 @ev_flC (A2 @ev_finNP (A2 @ev_finNC (A2 @ev_best (A2 @ev_best1 (A2 @ev_best2 (A2 @ev_ints (A2 @ev_setQ (A2 @ev_setQ1 (A2 @ev_setQ2 (A2 @ev_sortQ (A2 @ev_sortK (A2 @ev_sortP (A2 @ev_sortL (A2 @ev_sortZ (A2 @ev_sortD (A2 @ev_srt (A2 @ev_dsp (A2 @ev_dsp1 (A2 @ev_dsp2 (A2 @ev_dsp3 (A2 @ev_prs0 (A2 @ev_prs (A2 @ev_prs1 (A2 @ev_prs2 (A2 @ev_prs3 (A2 @ev_putD (A2 @ev_putD1 (A2 @ev_key (A2 @ev_setKT (A2 @ev_setKF (A2 @ev_setKs (A2 @ev_setKL (A2 @ev_setKZ (A2 @ev_setKD (A2 @ev_setK1 (A2 @ev_dicT (A2 @ev_dicP (A2 @ev_get (A2 @ev_kvsP (A2 @ev_kvsD (A2 @ev_kvsZ (A2 @ev_get0 (A2 @ev_get1 (A2 @ev_get2 (A2 @ev_get3 (A2 @ev_get4 (A2 @ev_get5 (A2 @ev_get6 (A2 @ev_step (A2 @ev_step1 (A2 @ev_step2 (A2 @ev_step3 (@ev_step4)))))))))))))))))))))))))))))))))))))))))))))))))))))))))))))))))))))))))))))))))))))))))))))))))))))))))))))))))))))))))))))))))))))))))))))))))))))))))))))))))))))))))))))))))))))))))))))))))))))))))))))))))))))))))))))))))))))))))))))))))))))))))))))))))))))))))))))))))
end HW
namespace LW
open PySem PySem.Spec PyProof.Rows L2 HW
noncomputable def top (i : Nat) : Stmt := PySem.Challenge.pw_heldwhen_k06_runs.main.body.getD i (.Pass ⟨0, 0, 0, 0⟩)
noncomputable abbrev st_runs_of : Stmt := top 1
theorem sc_runs_of : FnScope ["reach", "ends"] ["reach"] (defScope st_runs_of) := ⟨rfl, rfl, rfl, by decide +kernel, rfl, by decide +kernel, by decide +kernel⟩
noncomputable abbrev st_law_draw : Stmt := top 3
theorem sc_law_draw : FnScope ["script", "k", "many", "cell", "number"] ["script", "k", "many"] (defScope st_law_draw) := ⟨rfl, rfl, rfl, by decide +kernel, rfl, by decide +kernel, by decide +kernel⟩
noncomputable abbrev st_law_far : Stmt := top 4
theorem sc_law_far : FnScope ["script", "k", "number"] ["script", "k"] (defScope st_law_far) := ⟨rfl, rfl, rfl, by decide +kernel, rfl, by decide +kernel, by decide +kernel⟩
noncomputable abbrev st_law_reach : Stmt := top 5
theorem sc_law_reach : FnScope ["script", "k", "way", "rest", "edges", "by", "j", "edge"] ["script", "k"] (defScope st_law_reach) := ⟨rfl, rfl, rfl, by decide +kernel, rfl, by decide +kernel, by decide +kernel⟩
noncomputable abbrev st_law_in : Stmt := top 6
theorem sc_law_in : FnScope ["reach", "number", "count"] ["reach", "number"] (defScope st_law_in) := ⟨rfl, rfl, rfl, by decide +kernel, rfl, by decide +kernel, by decide +kernel⟩
noncomputable abbrev st_law_points : Stmt := top 7
theorem sc_law_points : FnScope ["reaches", "points", "reach", "edge", "by"] ["reaches"] (defScope st_law_points) := ⟨rfl, rfl, rfl, by decide +kernel, rfl, by decide +kernel, by decide +kernel⟩
noncomputable abbrev st_law_whole : Stmt := top 8
theorem sc_law_whole : FnScope ["some"] ["some"] (defScope st_law_whole) := ⟨rfl, rfl, rfl, by decide +kernel, rfl, by decide +kernel, by decide +kernel⟩
noncomputable abbrev st_law_long : Stmt := top 9
theorem sc_law_long : FnScope ["script", "edges", "edge", "k"] ["script"] (defScope st_law_long) := ⟨rfl, rfl, rfl, by decide +kernel, rfl, by decide +kernel, by decide +kernel⟩
noncomputable abbrev st_law_due : Stmt := top 10
theorem sc_law_due : FnScope ["reach", "due", "truth", "low", "edge"] ["reach"] (defScope st_law_due) := ⟨rfl, rfl, rfl, by decide +kernel, rfl, by decide +kernel, by decide +kernel⟩
noncomputable abbrev st_law_pairs : Stmt := top 11
theorem sc_law_pairs : FnScope ["told", "due", "pair", "end"] ["told", "due"] (defScope st_law_pairs) := ⟨rfl, rfl, rfl, by decide +kernel, rfl, by decide +kernel, by decide +kernel⟩
noncomputable abbrev st_law_within : Stmt := top 12
theorem sc_law_within : FnScope ["runs", "point", "low", "high"] ["runs", "point"] (defScope st_law_within) := ⟨rfl, rfl, rfl, by decide +kernel, rfl, by decide +kernel, by decide +kernel⟩
noncomputable abbrev st_law : Stmt := top 13
theorem sc_law : FnScope ["script", "reach", "told", "point"] ["script"] (defScope st_law) := ⟨rfl, rfl, rfl, by decide +kernel, rfl, by decide +kernel, by decide +kernel⟩
noncomputable abbrev b_runs_of : FS := (sSeq (sSet 1 (fAr listD (fCons (fOp ixD (fVar 0) (fK (.int 1))) fNil)))
    (sSeq (sIf (fTru (fOp ixD (fVar 0) (fK (.int 0))))
    (sDrop (fMt insD (fVar 1) (fCons (fK (.int 0)) (fCons (fK .non) fNil))))
    sNext)
    (sSeq (sIf (fB (fOp (eqR false) (fOp modD (fAr lenD (fCons (fVar 1) fNil)) (fK (.int 2))) (fK (.int 1))))
    (sDrop (fMt appD (fVar 1) (fCons (fK .non) fNil)))
    sNext)
    (sRet (fComp [1] 1 (fiR3 (fK (.int 0)) (fAr lenD (fCons (fVar 1) fNil)) (fK (.int 2))) (gNm 0) cYes (fTup (fCons (fOp ixD (fVar 1) (fVar 0)) (fCons (fOp ixD (fVar 1) (fOp addQ (fVar 0) (fK (.int 1)))) fNil))))))))
noncomputable def m_runs_of : MF := runP 2 (b_runs_of)
noncomputable abbrev b_law_draw : FS := (sSeq (sIf (fB (fOp (eqR false) (fAr lenD (fCons (fVar 0) fNil)) (fK (.int 0))))
    (sRet (fK (.int 0)))
    sNext)
    (sSeq (sSet 3 (fOp modD (fOp ixD (fVar 0) (fOp modD (fVar 1) (fAr lenD (fCons (fVar 0) fNil)))) (fK (.int 1000000007))))
    (sSeq (sSet 4 (fOp modD (fOp mulD (fOp addQ (fVar 3) (fK (.int 5))) (fOp addQ (fK (.int 40692)) (fOp mulD (fK (.int 977)) (fVar 1)))) (fK (.int 2147483629))))
    (sSeq (sSet 4 (fOp modD (fOp mulD (fOp addQ (fVar 4) (fVar 1)) (fOp addQ (fVar 4) (fK (.int 3)))) (fK (.int 2147483647))))
    (sRet (fOp modD (fOp divD (fVar 4) (fK (.int 13))) (fVar 2)))))))
noncomputable def m_law_draw : MF := runP 5 (b_law_draw)
noncomputable abbrev b_law_in : FS := (sSeq (sSet 2 (fAr lenD (fCons (fComp [1] 1 (fiSeq (fOp ixD (fVar 0) (fK (.int 1)))) (gNm 0) (fB (fOp leD (fVar 0) (fVar 1))) (fVar 0)) fNil)))
    (sRet (fOp (eqR true) (fOp ixD (fVar 0) (fK (.int 0))) (fOp (eqR false) (fOp modD (fVar 2) (fK (.int 2))) (fK (.int 1))))))
noncomputable def m_law_in : MF := runP 3 (b_law_in)
noncomputable abbrev l_law_points_0 (bt : Bool) : FS := (sAsg (fK (.bl true)) (gSub (fVar 1) (fOp addQ (fVar 3) (fVar 4))))
noncomputable abbrev l_law_points_1 (bt : Bool) : FS := (sFor (fiSeq (fTup (fCons (fUn negD (fK (.int 1))) (fCons (fK (.int 0)) (fCons (fK (.int 1)) fNil))))) (gNm 4)
    (l_law_points_0 bt))
noncomputable abbrev l_law_points_2 (bt : Bool) : FS := (sFor (fiSeq (fOp ixD (fVar 2) (fK (.int 1)))) (gNm 3)
    (l_law_points_1 bt))
noncomputable abbrev b_law_points (bt : Bool) : FS := (sSeq (sSet 1 (fDisp [((fK (.int 0)), (fK (.bl true))), ((fUn negD (fOp powD (fK (.int 10)) (fK (.int 59)))), (fK (.bl true))), ((fOp powD (fK (.int 10)) (fK (.int 59))), (fK (.bl true)))]))
    (sSeq (sFor (fiSeq (fVar 0)) (gNm 2)
    (l_law_points_2 bt))
    (sRet (fAr (srtW bt) (fCons (fVar 1) fNil)))))
noncomputable def m_law_points (bt : Bool) : MF := runP 5 (b_law_points bt)
noncomputable abbrev b_law_whole : FS := (sRet (fAnd (fUn (isiD "int") (fVar 0)) (fNot (fUn (isiD "bool") (fVar 0)))))
noncomputable def m_law_whole : MF := runP 1 (b_law_whole)
noncomputable abbrev l_law_due_0 : FS := (sSeq (sIf (fTru (fVar 2))
    (sDrop (fMt appD (fVar 1) (fCons (fTup (fCons (fVar 3) (fCons (fVar 4) fNil))) fNil)))
    sNext)
    (sSeq (sSet 2 (fNot (fVar 2)))
    (sSet 3 (fVar 4))))
noncomputable abbrev b_law_due : FS := (sSeq (sSet 1 (fLst fNil))
    (sSeq (sSet 2 (fOp ixD (fVar 0) (fK (.int 0))))
    (sSeq (sSet 3 (fK .non))
    (sSeq (sFor (fiSeq (fOp ixD (fVar 0) (fK (.int 1)))) (gNm 4)
    l_law_due_0)
    (sSeq (sIf (fTru (fVar 2))
    (sDrop (fMt appD (fVar 1) (fCons (fTup (fCons (fVar 3) (fCons (fK .non) fNil))) fNil)))
    sNext)
    (sRet (fVar 1)))))))
noncomputable def m_law_due : MF := runP 5 (b_law_due)
noncomputable abbrev l_law_within_0 : FS := (sIf (tAndF (tOrF (fB (fUn (isK false .non) (fVar 2))) (fB (fOp leD (fVar 2) (fVar 1)))) (tOrF (fB (fUn (isK false .non) (fVar 3))) (fB (fOp ltD (fVar 1) (fVar 3)))))
    (sRet (fK (.bl true)))
    sNext)
noncomputable abbrev b_law_within : FS := (sSeq (sFor (fiSeq (fVar 0)) (gTp 2 (gsCons (gNm 2) (gsCons (gNm 3) gsNil)))
    l_law_within_0)
    (sRet (fK (.bl false))))
noncomputable def m_law_within : MF := runP 4 (b_law_within)
noncomputable abbrev b_law_far : FS := (sSeq (sIf (fB (fOp (eqR false) (fAr lenD (fCons (fVar 0) fNil)) (fK (.int 0))))
    (sRet (fK (.int 0)))
    sNext)
    (sSeq (sSet 2 (fOp addQ (fCall m_law_draw 3 (fCons (fFz (fVar 0)) (fCons (fFz (fVar 1)) (fCons (fK (.int 100000000)) fNil)))) (fK (.int 1))))
    (sRet (fOp modD (fOp addQ (fOp mulD (fOp modD (fOp ixD (fVar 0) (fOp modD (fVar 1) (fAr lenD (fCons (fVar 0) fNil)))) (fOp powD (fK (.int 10)) (fK (.int 50)))) (fVar 2)) (fOp powD (fVar 2) (fK (.int 5)))) (fOp powD (fK (.int 10)) (fK (.int 50)))))))
noncomputable def m_law_far : MF := runP 3 (b_law_far)
noncomputable abbrev l_law_pairs_0 : FS := (sIf (tAndF (fB (fUn (isK true .non) (fVar 3))) (tNotF (fTru (fCall m_law_whole 1 (fCons (fFz (fVar 3)) fNil)))))
    (sRet (fK (.bl false)))
    sNext)
noncomputable abbrev l_law_pairs_1 : FS := (sSeq (sIf (tOrF (tNotF (fTru (fUn (isiD "tuple") (fVar 2)))) (fB (fOp (eqR true) (fAr lenD (fCons (fVar 2) fNil)) (fK (.int 2)))))
    (sRet (fK (.bl false)))
    sNext)
    (sFor (fiSeq (fVar 2)) (gNm 3)
    l_law_pairs_0))
noncomputable abbrev b_law_pairs : FS := (sSeq (sIf (tOrF (tNotF (fTru (fUn (isiD "list") (fVar 0)))) (fB (fOp (eqR true) (fAr lenD (fCons (fVar 0) fNil)) (fAr lenD (fCons (fVar 1) fNil)))))
    (sRet (fK (.bl false)))
    sNext)
    (sSeq (sFor (fiSeq (fVar 0)) (gNm 2)
    l_law_pairs_1)
    (sRet (fOp (eqR false) (fVar 0) (fVar 1)))))
noncomputable def m_law_pairs : MF := runP 4 (b_law_pairs)
noncomputable abbrev l_law_reach_0 : FS := (sSeq (sIf (fB (fOp (eqR false) (fOp modD (fVar 3) (fVar 5)) (fK (.int 1))))
    (sDrop (fMt appD (fVar 4) (fCons (fOp subD (fVar 6) (fK (.int 4))) fNil)))
    sNext)
    (sSet 3 (fOp divD (fVar 3) (fVar 5))))
noncomputable abbrev l_law_reach_1 : FS := (sSeq (sDrop (fMt appD (fVar 4) (fCons (fVar 7) fNil)))
    (sSet 7 (fOp addQ (fOp addQ (fVar 7) (fK (.int 1))) (fOp modD (fCall m_law_far 2 (fCons (fFz (fVar 0)) (fCons (fFz (fOp addQ (fOp addQ (fVar 1) (fK (.int 3))) (fVar 6))) fNil))) (fOp ixD (fLst (fCons (fK (.int 3)) (fCons (fOp powD (fK (.int 10)) (fK (.int 48))) fNil))) (fOp modD (fOp divD (fVar 3) (fK (.int 7))) (fK (.int 2))))))))
noncomputable abbrev b_law_reach : FS := (sSeq (sSet 2 (fCall m_law_draw 3 (fCons (fFz (fVar 0)) (fCons (fFz (fVar 1)) (fCons (fK (.int 5)) fNil)))))
    (sSeq (sSet 3 (fCall m_law_draw 3 (fCons (fFz (fVar 0)) (fCons (fFz (fOp addQ (fVar 1) (fK (.int 1)))) (fCons (fK (.int 100000000)) fNil)))))
    (sSeq (sSet 4 (fLst fNil))
    (sSeq (sIf (fB (fOp ltD (fVar 2) (fK (.int 3))))
    (sSeq (sSet 5 (fOp addQ (fK (.int 2)) (fOp mulD (fK (.int 2)) (fOp divD (fVar 2) (fK (.int 2))))))
    (sFor (fiR1 (fK (.int 13))) (gNm 6)
    l_law_reach_0))
    sNext)
    (sSeq (sIf (fB (fOp (eqR false) (fVar 2) (fK (.int 3))))
    (sSeq (sSet 7 (fOp subD (fCall m_law_far 2 (fCons (fFz (fVar 0)) (fCons (fFz (fOp addQ (fVar 1) (fK (.int 2)))) fNil))) (fOp mulD (fK (.int 5)) (fOp powD (fK (.int 10)) (fK (.int 49))))))
    (sFor (fiR1 (fOp modD (fVar 3) (fK (.int 7)))) (gNm 6)
    l_law_reach_1))
    sNext)
    (sRet (fTup (fCons (fOp (eqR false) (fCall m_law_draw 3 (fCons (fFz (fVar 0)) (fCons (fFz (fOp addQ (fVar 1) (fK (.int 10)))) (fCons (fK (.int 2)) fNil)))) (fK (.int 1))) (fCons (fAr tupD (fCons (fVar 4) fNil)) fNil)))))))))
noncomputable def m_law_reach : MF := runP 8 (b_law_reach)
noncomputable abbrev l_law_long_0 : FS := (sSeq (sDrop (fMt appD (fVar 1) (fCons (fVar 2) fNil)))
    (sSet 2 (fOp addQ (fOp addQ (fVar 2) (fK (.int 1))) (fOp modD (fCall m_law_far 2 (fCons (fFz (fVar 0)) (fCons (fFz (fOp addQ (fK (.int 30)) (fVar 3))) fNil))) (fOp ixD (fLst (fCons (fK (.int 1)) (fCons (fK (.int 3)) (fCons (fOp powD (fK (.int 10)) (fK (.int 47))) fNil)))) (fCall m_law_draw 3 (fCons (fFz (fVar 0)) (fCons (fFz (fOp addQ (fK (.int 100)) (fVar 3))) (fCons (fK (.int 3)) fNil)))))))))
noncomputable abbrev b_law_long : FS := (sSeq (sSet 1 (fLst fNil))
    (sSeq (sSet 2 (fOp subD (fCall m_law_far 2 (fCons (fFz (fVar 0)) (fCons (fK (.int 20)) fNil))) (fOp mulD (fK (.int 5)) (fOp powD (fK (.int 10)) (fK (.int 49))))))
    (sSeq (sFor (fiR1 (fAr minD (fCons (fAr lenD (fCons (fVar 0) fNil)) (fCons (fK (.int 63)) fNil)))) (gNm 3)
    l_law_long_0)
    (sRet (fTup (fCons (fOp (eqR false) (fCall m_law_draw 3 (fCons (fFz (fVar 0)) (fCons (fK (.int 21)) (fCons (fK (.int 2)) fNil)))) (fK (.int 1))) (fCons (fAr tupD (fCons (fVar 1) fNil)) fNil)))))))
noncomputable def m_law_long : MF := runP 4 (b_law_long)
noncomputable abbrev l_law_0 (bt : Bool) : FS := (sIf (fB (fOp (eqR true) (fCall m_law_within 2 (fCons (fFz (fVar 2)) (fCons (fFz (fVar 3)) fNil))) (fCall m_law_in 2 (fCons (fFz (fVar 1)) (fCons (fFz (fVar 3)) fNil)))))
    (sRet (fK (.bl false)))
    sNext)
noncomputable abbrev l_law_1 (bt : Bool) : FS := (sSeq (sSet 2 (fCall m_runs_of 1 (fCons (fFz (fVar 1)) fNil)))
    (sSeq (sIf (tNotF (fTru (fCall m_law_pairs 2 (fCons (fFz (fVar 2)) (fCons (fFz (fCall m_law_due 1 (fCons (fFz (fVar 1)) fNil))) fNil)))))
    (sRet (fK (.bl false)))
    sNext)
    (sFor (fiSeq (fSl (fCall (m_law_points bt) 1 (fCons (fFz (fLst (fCons (fVar 1) fNil))) fNil)) oNone (oSome (fK (.int 60))))) (gNm 3)
    (l_law_0 bt))))
noncomputable abbrev b_law (bt : Bool) : FS := (sSeq (sFor (fiSeq (fLst (fCons (fCall m_law_reach 2 (fCons (fFz (fVar 0)) (fCons (fK (.int 0)) fNil))) (fCons (fCall m_law_long 1 (fCons (fFz (fVar 0)) fNil)) fNil)))) (gNm 1)
    (l_law_1 bt))
    (sRet (fK (.bl true))))
noncomputable def m_law (bt : Bool) : MF := runP 4 (b_law bt)
noncomputable def zs : List Str := ["list", "len", "range", "tuple", "sorted", "isinstance", "bool", "int", "min"]
def ZsL (mg : Str → Option Value) (l : List Str) : Prop := ∀ (i : Nat) (x : Str), l[i]? = some x → mg x = none
theorem zs_nil {mg : Str → Option Value} : ZsL mg [] := fun i x e => by simp at e
theorem zs_cons {mg : Str → Option Value} {x : Str} {l : List Str} (h : mg x = none) (t : ZsL mg l) : ZsL mg (x :: l) := fun i y e => by
  cases i with
  | zero => cases e; exact h
  | succ i => exact t i y e
def Zs (mg : Str → Option Value) : Prop := ZsL mg zs
section
variable {P : Program} {w : World} {K : PySem.W.Frag} {mg : Str → Option Value} {base : Heap}
set_option maxHeartbeats 4000000
theorem k_runs_of (z : Zs mg) (d : DefAt K mg "runs_of" st_runs_of ["reach"])  : Kept P w K mg base 1 "runs_of" ["reach"] m_runs_of :=
  okP (k := 0) d sc_runs_of fun f cdv A outer s H E hr =>
    (s_cons (s_set 1 sc_runs_of.nd (q_list rfl (z 0 _ rfl) (q_cons (q_ix (q_var 0) q_int) q_nil)))
    (s_cons (s_if (t_tru (q_ix (q_var 0) q_int))
    (s_one (s_expr (q_insert (q_var 1) (q_cons q_int (q_cons q_non q_nil)))))
    s_nil)
    (s_cons (s_if (t_eq hr.units (q_mod (q_len rfl (z 1 _ rfl) (q_cons (q_var 1) q_nil)) q_int) q_int)
    (s_one (s_expr (q_app (q_var 1) (q_cons q_non q_nil))))
    s_nil)
    (s_one (s_ret (q_comp [1] ["place"] ["ends"] rfl (show CompNames (defScope st_runs_of) _ ["place"] ["ends"] from ⟨rfl, by decide +kernel, by decide +kernel, by decide +kernel, by decide +kernel, by decide +kernel⟩) (i_r3 rfl (z 2 _ rfl) q_int (q_len rfl (z 1 _ rfl) (q_cons (q_var 1) q_nil)) q_int) (fun cl C s₂ H₂ fp => ⟨(g_nm 0 (show (["place", "ends"] : List Str).Nodup by decide +kernel)), f_nil, (q_tup (q_cons (q_ix (q_var 1) (q_var 0)) (q_cons (q_ix (q_var 1) (q_addQ (q_var 0) q_int)) q_nil)))⟩)))))))
theorem k_law_draw (z : Zs mg) (d : DefAt K mg "_law_draw" st_law_draw ["script", "k", "many"])  : Kept P w K mg base 1 "_law_draw" ["script", "k", "many"] m_law_draw :=
  okP (k := 0) d sc_law_draw fun f cdv A outer s H E hr =>
    (s_cons (s_if (t_eq hr.units (q_len rfl (z 1 _ rfl) (q_cons (q_var 0) q_nil)) q_int)
    (s_one (s_ret q_int))
    s_nil)
    (s_cons (s_set 3 sc_law_draw.nd (q_mod (q_ix (q_var 0) (q_mod (q_var 1) (q_len rfl (z 1 _ rfl) (q_cons (q_var 0) q_nil)))) q_int))
    (s_cons (s_set 4 sc_law_draw.nd (q_mod (q_mul (q_addQ (q_var 3) q_int) (q_addQ q_int (q_mul q_int (q_var 1)))) q_int))
    (s_cons (s_set 4 sc_law_draw.nd (q_mod (q_mul (q_addQ (q_var 4) (q_var 1)) (q_addQ (q_var 4) q_int)) q_int))
    (s_one (s_ret (q_mod (q_div (q_var 4) q_int) (q_var 2))))))))
theorem k_law_far (z : Zs mg) (d : DefAt K mg "_law_far" st_law_far ["script", "k"]) (h_law_draw : Kept P w K mg base 1 "_law_draw" ["script", "k", "many"] m_law_draw) : Kept P w K mg base 2 "_law_far" ["script", "k"] m_law_far :=
  okP (k := 1) d sc_law_far fun f cdv A outer s H E hr =>
    (s_cons (s_if (t_eq hr.units (q_len rfl (z 1 _ rfl) (q_cons (q_var 0) q_nil)) q_int)
    (s_one (s_ret q_int))
    s_nil)
    (s_cons (s_set 2 sc_law_far.nd (q_addQ (q_callK h_law_draw (hr.mono (by decide)) (q_cons (q_fz (q_var 0)) (q_cons (q_fz (q_var 1)) (q_cons q_int q_nil)))) q_int))
    (s_one (s_ret (q_mod (q_addQ (q_mul (q_mod (q_ix (q_var 0) (q_mod (q_var 1) (q_len rfl (z 1 _ rfl) (q_cons (q_var 0) q_nil)))) (q_pow q_int q_int)) (q_var 2)) (q_pow (q_var 2) q_int)) (q_pow q_int q_int))))))
theorem k_law_reach (z : Zs mg) (d : DefAt K mg "_law_reach" st_law_reach ["script", "k"]) (h_law_draw : Kept P w K mg base 1 "_law_draw" ["script", "k", "many"] m_law_draw) (h_law_far : Kept P w K mg base 2 "_law_far" ["script", "k"] m_law_far) : Kept P w K mg base 3 "_law_reach" ["script", "k"] m_law_reach :=
  okP (k := 2) d sc_law_reach fun f cdv A outer s H E hr =>
    (s_cons (s_set 2 sc_law_reach.nd (q_callK h_law_draw (hr.mono (by decide)) (q_cons (q_fz (q_var 0)) (q_cons (q_fz (q_var 1)) (q_cons q_int q_nil)))))
    (s_cons (s_set 3 sc_law_reach.nd (q_callK h_law_draw (hr.mono (by decide)) (q_cons (q_fz (q_var 0)) (q_cons (q_fz (q_addQ (q_var 1) q_int)) (q_cons q_int q_nil)))))
    (s_cons (s_set 4 sc_law_reach.nd (q_lst q_nil))
    (s_cons (s_if (t_lt (q_var 2) q_int)
    (s_cons (s_set 5 sc_law_reach.nd (q_addQ q_int (q_mul q_int (q_div (q_var 2) q_int))))
    (s_one (s_for rfl (i_r1 rfl (z 2 _ rfl) q_int) (g_nm 6 sc_law_reach.nd)
    (s_cons (s_if (t_eq hr.units (q_mod (q_var 3) (q_var 5)) q_int)
    (s_one (s_expr (q_app (q_var 4) (q_cons (q_sub (q_var 6) q_int) q_nil))))
    s_nil)
    (s_one (s_set 3 sc_law_reach.nd (q_div (q_var 3) (q_var 5))))) PassesOwn.never)))
    s_nil)
    (s_cons (s_if (t_eq hr.units (q_var 2) q_int)
    (s_cons (s_set 7 sc_law_reach.nd (q_sub (q_callK h_law_far (hr.mono (by decide)) (q_cons (q_fz (q_var 0)) (q_cons (q_fz (q_addQ (q_var 1) q_int)) q_nil))) (q_mul q_int (q_pow q_int q_int))))
    (s_one (s_for rfl (i_r1 rfl (z 2 _ rfl) (q_mod (q_var 3) q_int)) (g_nm 6 sc_law_reach.nd)
    (s_cons (s_expr (q_app (q_var 4) (q_cons (q_var 7) q_nil)))
    (s_one (s_set 7 sc_law_reach.nd (q_addQ (q_addQ (q_var 7) q_int) (q_mod (q_callK h_law_far (hr.mono (by decide)) (q_cons (q_fz (q_var 0)) (q_cons (q_fz (q_addQ (q_addQ (q_var 1) q_int) (q_var 6))) q_nil))) (q_ix (q_lst (q_cons q_int (q_cons (q_pow q_int q_int) q_nil))) (q_mod (q_div (q_var 3) q_int) q_int))))))) PassesOwn.never)))
    s_nil)
    (s_one (s_ret (q_tup (q_cons (q_eq hr.units (q_callK h_law_draw (hr.mono (by decide)) (q_cons (q_fz (q_var 0)) (q_cons (q_fz (q_addQ (q_var 1) q_int)) (q_cons q_int q_nil)))) q_int) (q_cons (q_tuple rfl (z 3 _ rfl) (q_cons (q_var 4) q_nil)) q_nil))))))))))
theorem k_law_in (z : Zs mg) (d : DefAt K mg "_law_in" st_law_in ["reach", "number"])  : Kept P w K mg base 1 "_law_in" ["reach", "number"] m_law_in :=
  okP (k := 0) d sc_law_in fun f cdv A outer s H E hr =>
    (s_cons (s_set 2 sc_law_in.nd (q_len rfl (z 1 _ rfl) (q_cons (q_comp [1] ["edge"] ["number"] rfl (show CompNames (defScope st_law_in) _ ["edge"] ["number"] from ⟨rfl, by decide +kernel, by decide +kernel, by decide +kernel, by decide +kernel, by decide +kernel⟩) (i_seq (q_ix (q_var 0) q_int)) (fun cl C s₂ H₂ fp => ⟨(g_nm 0 (show (["edge", "number"] : List Str).Nodup by decide +kernel)), (f_one (t_le (q_var 0) (q_var 1))), (q_var 0)⟩)) q_nil)))
    (s_one (s_ret (q_ne hr.units (q_ix (q_var 0) q_int) (q_eq hr.units (q_mod (q_var 2) q_int) q_int)))))
theorem k_law_points (z : Zs mg) (d : DefAt K mg "_law_points" st_law_points ["reaches"])  : Kept P w K mg base 1 "_law_points" ["reaches"] (m_law_points (!HS.bt w)) :=
  okP (k := 0) d sc_law_points fun f cdv A outer s H E hr =>
    (s_cons (s_set 1 sc_law_points.nd (q_disp3 q_int q_bl (q_neg (q_pow q_int q_int)) q_bl (q_pow q_int q_int) q_bl))
    (s_cons (s_for rfl (i_seq (q_var 0)) (g_nm 2 sc_law_points.nd)
    (s_one (s_for rfl (i_seq (q_ix (q_var 2) q_int)) (g_nm 3 sc_law_points.nd)
    (s_one (s_for rfl (i_seq (q_tup (q_cons (q_neg q_int) (q_cons q_int (q_cons q_int q_nil))))) (g_nm 4 sc_law_points.nd)
    (s_one (s_asg q_bl (g_sb hr.units (q_var 1) (q_addQ (q_var 3) (q_var 4))))) PassesOwn.never)) PassesOwn.never)) PassesOwn.never)
    (s_one (s_ret (q_sortedW rfl rfl (z 4 _ rfl) (q_cons (q_var 1) q_nil))))))
theorem k_law_whole (z : Zs mg) (d : DefAt K mg "_law_whole" st_law_whole ["some"])  : Kept P w K mg base 1 "_law_whole" ["some"] m_law_whole :=
  okP (k := 0) d sc_law_whole fun f cdv A outer s H E hr =>
    (s_one (s_ret (q_and (q_isi kinds_int rfl (z 5 _ rfl) rfl (z 7 _ rfl) boot_int' (q_var 0)) (q_one (q_not (q_isi kinds_bool rfl (z 5 _ rfl) rfl (z 6 _ rfl) boot_bool' (q_var 0)))))))
theorem k_law_long (z : Zs mg) (d : DefAt K mg "_law_long" st_law_long ["script"]) (h_law_far : Kept P w K mg base 2 "_law_far" ["script", "k"] m_law_far) (h_law_draw : Kept P w K mg base 1 "_law_draw" ["script", "k", "many"] m_law_draw) : Kept P w K mg base 3 "_law_long" ["script"] m_law_long :=
  okP (k := 2) d sc_law_long fun f cdv A outer s H E hr =>
    (s_cons (s_set 1 sc_law_long.nd (q_lst q_nil))
    (s_cons (s_set 2 sc_law_long.nd (q_sub (q_callK h_law_far (hr.mono (by decide)) (q_cons (q_fz (q_var 0)) (q_cons q_int q_nil))) (q_mul q_int (q_pow q_int q_int))))
    (s_cons (s_for rfl (i_r1 rfl (z 2 _ rfl) (q_min rfl rfl (z 8 _ rfl) (q_cons (q_len rfl (z 1 _ rfl) (q_cons (q_var 0) q_nil)) (q_cons q_int q_nil)))) (g_nm 3 sc_law_long.nd)
    (s_cons (s_expr (q_app (q_var 1) (q_cons (q_var 2) q_nil)))
    (s_one (s_set 2 sc_law_long.nd (q_addQ (q_addQ (q_var 2) q_int) (q_mod (q_callK h_law_far (hr.mono (by decide)) (q_cons (q_fz (q_var 0)) (q_cons (q_fz (q_addQ q_int (q_var 3))) q_nil))) (q_ix (q_lst (q_cons q_int (q_cons q_int (q_cons (q_pow q_int q_int) q_nil)))) (q_callK h_law_draw (hr.mono (by decide)) (q_cons (q_fz (q_var 0)) (q_cons (q_fz (q_addQ q_int (q_var 3))) (q_cons q_int q_nil)))))))))) PassesOwn.never)
    (s_one (s_ret (q_tup (q_cons (q_eq hr.units (q_callK h_law_draw (hr.mono (by decide)) (q_cons (q_fz (q_var 0)) (q_cons q_int (q_cons q_int q_nil)))) q_int) (q_cons (q_tuple rfl (z 3 _ rfl) (q_cons (q_var 1) q_nil)) q_nil))))))))
theorem k_law_due (z : Zs mg) (d : DefAt K mg "_law_due" st_law_due ["reach"])  : Kept P w K mg base 1 "_law_due" ["reach"] m_law_due :=
  okP (k := 0) d sc_law_due fun f cdv A outer s H E hr =>
    (s_cons (s_set 1 sc_law_due.nd (q_lst q_nil))
    (s_cons (s_set 2 sc_law_due.nd (q_ix (q_var 0) q_int))
    (s_cons (s_set 3 sc_law_due.nd q_non)
    (s_cons (s_for rfl (i_seq (q_ix (q_var 0) q_int)) (g_nm 4 sc_law_due.nd)
    (s_cons (s_if (t_tru (q_var 2))
    (s_one (s_expr (q_app (q_var 1) (q_cons (q_tup (q_cons (q_var 3) (q_cons (q_var 4) q_nil))) q_nil))))
    s_nil)
    (s_cons (s_set 2 sc_law_due.nd (q_not (q_var 2)))
    (s_one (s_set 3 sc_law_due.nd (q_var 4))))) PassesOwn.never)
    (s_cons (s_if (t_tru (q_var 2))
    (s_one (s_expr (q_app (q_var 1) (q_cons (q_tup (q_cons (q_var 3) (q_cons q_non q_nil))) q_nil))))
    s_nil)
    (s_one (s_ret (q_var 1))))))))
theorem k_law_pairs (z : Zs mg) (d : DefAt K mg "_law_pairs" st_law_pairs ["told", "due"]) (h_law_whole : Kept P w K mg base 1 "_law_whole" ["some"] m_law_whole) : Kept P w K mg base 2 "_law_pairs" ["told", "due"] m_law_pairs :=
  okP (k := 1) d sc_law_pairs fun f cdv A outer s H E hr =>
    (s_cons (s_if (t_w (w_or (t_not (t_tru (q_isi kinds_list rfl (z 5 _ rfl) rfl (z 0 _ rfl) boot_list' (q_var 0)))) (w_or1 (t_ne hr.units (q_len rfl (z 1 _ rfl) (q_cons (q_var 0) q_nil)) (q_len rfl (z 1 _ rfl) (q_cons (q_var 1) q_nil))))))
    (s_one (s_ret q_bl))
    s_nil)
    (s_cons (s_for rfl (i_seq (q_var 0)) (g_nm 2 sc_law_pairs.nd)
    (s_cons (s_if (t_w (w_or (t_not (t_tru (q_isi kinds_tuple rfl (z 5 _ rfl) rfl (z 3 _ rfl) boot_tuple' (q_var 2)))) (w_or1 (t_ne hr.units (q_len rfl (z 1 _ rfl) (q_cons (q_var 2) q_nil)) q_int))))
    (s_one (s_ret q_bl))
    s_nil)
    (s_one (s_for rfl (i_seq (q_var 2)) (g_nm 3 sc_law_pairs.nd)
    (s_one (s_if (t_w (w_and (t_notN (q_var 3)) (w_and1 (t_not (t_tru (q_callK h_law_whole (hr.mono (by decide)) (q_cons (q_fz (q_var 3)) q_nil)))))))
    (s_one (s_ret q_bl))
    s_nil)) PassesOwn.never))) PassesOwn.never)
    (s_one (s_ret (q_eq hr.units (q_var 0) (q_var 1))))))
theorem k_law_within (z : Zs mg) (d : DefAt K mg "_law_within" st_law_within ["runs", "point"])  : Kept P w K mg base 1 "_law_within" ["runs", "point"] m_law_within :=
  okP (k := 0) d sc_law_within fun f cdv A outer s H E hr =>
    (s_cons (s_for rfl (i_seq (q_var 0)) (g_tp rfl (gs_cons (g_nm 2 sc_law_within.nd) (gs_cons (g_nm 3 sc_law_within.nd) gs_nil)))
    (s_one (s_if (t_w (w_and (t_w (w_or (t_isN (q_var 2)) (w_or1 (t_le (q_var 2) (q_var 1))))) (w_and1 (t_w (w_or (t_isN (q_var 3)) (w_or1 (t_lt (q_var 1) (q_var 3))))))))
    (s_one (s_ret q_bl))
    s_nil)) PassesOwn.never)
    (s_one (s_ret q_bl)))
theorem k_law {f : Addr} {fd : FuncData} (z : Zs mg) (F : Fun K "law" "law" st_law f fd) (h_law_reach : Kept P w K mg base 3 "_law_reach" ["script", "k"] m_law_reach) (h_law_long : Kept P w K mg base 3 "_law_long" ["script"] m_law_long) (h_runs_of : Kept P w K mg base 1 "runs_of" ["reach"] m_runs_of) (h_law_pairs : Kept P w K mg base 2 "_law_pairs" ["told", "due"] m_law_pairs) (h_law_points : Kept P w K mg base 1 "_law_points" ["reaches"] (m_law_points (!HS.bt w))) (h_law_due : Kept P w K mg base 1 "_law_due" ["reach"] m_law_due) (h_law_within : Kept P w K mg base 1 "_law_within" ["runs", "point"] m_law_within) (h_law_in : Kept P w K mg base 1 "_law_in" ["reach", "number"] m_law_in) : FnOk P w K mg base CX0 4 f fd ["script"] (spP K 1 (m_law (!HS.bt w))) :=
  funOkP (k := 3) F sc_law fun cdv A outer s H E hr =>
    (s_cons (s_for rfl (i_seq (q_lst (q_cons (q_callK h_law_reach (hr.mono (by decide)) (q_cons (q_fz (q_var 0)) (q_cons q_int q_nil))) (q_cons (q_callK h_law_long (hr.mono (by decide)) (q_cons (q_fz (q_var 0)) q_nil)) q_nil)))) (g_nm 1 sc_law.nd)
    (s_cons (s_set 2 sc_law.nd (q_callK h_runs_of (hr.mono (by decide)) (q_cons (q_fz (q_var 1)) q_nil)))
    (s_cons (s_if (t_not (t_tru (q_callK h_law_pairs (hr.mono (by decide)) (q_cons (q_fz (q_var 2)) (q_cons (q_fz (q_callK h_law_due (hr.mono (by decide)) (q_cons (q_fz (q_var 1)) q_nil))) q_nil)))))
    (s_one (s_ret q_bl))
    s_nil)
    (s_one (s_for rfl (i_seq (q_sl (q_callK h_law_points (hr.mono (by decide)) (q_cons (q_fz (q_lst (q_cons (q_var 1) q_nil))) q_nil)) q_oN (q_oS q_int))) (g_nm 3 sc_law.nd)
    (s_one (s_if (t_ne hr.units (q_callK h_law_within (hr.mono (by decide)) (q_cons (q_fz (q_var 2)) (q_cons (q_fz (q_var 3)) q_nil))) (q_callK h_law_in (hr.mono (by decide)) (q_cons (q_fz (q_var 1)) (q_cons (q_fz (q_var 3)) q_nil))))
    (s_one (s_ret q_bl))
    s_nil)) PassesOwn.never)))) PassesOwn.never)
    (s_one (s_ret q_bl)))
end
set_option maxHeartbeats 4000000 in
theorem all_mk {l : PySem.W.OpenLaw} {w : World} {K : PySem.W.Frag} {h : Heap} {mg : Str → Option Value} {fa f0 f1 f2 f3 f4 f5 f6 f7 f8 f9 f10 f11 : Addr} (X : K.In h) (G : h.Ns mainGlobals mg) (hfa : mg "law" = some (.ref fa)) {od0 an0 od1 an1 od2 an2 od3 an3 od4 an4 od5 an5 od6 an6 od7 an7 od8 an8 od9 an9 od10 an10 od11 an11 : Option Addr} {sl0 sl1 sl2 sl3 sl4 sl5 sl6 sl7 sl8 sl9 sl10 sl11 : Array (Option Value)} {oc0 kV0 dc0 pm0 cd0 ct0 oc1 kV1 dc1 pm1 cd1 ct1 oc2 kV2 dc2 pm2 cd2 ct2 oc3 kV3 dc3 pm3 cd3 ct3 oc4 kV4 dc4 pm4 cd4 ct4 oc5 kV5 dc5 pm5 cd5 ct5 oc6 kV6 dc6 pm6 cd6 ct6 oc7 kV7 dc7 pm7 cd7 ct7 oc8 kV8 dc8 pm8 cd8 ct8 oc9 kV9 dc9 pm9 cd9 ct9 oc10 kV10 dc10 pm10 cd10 ct10 oc11 kV11 dc11 pm11 cd11 ct11 : Value}
    (a0 : PySem.W.nsIn K mainGlobals "runs_of" = some (some (.ref f0))) (l0 : K.lookup f0 = some ⟨oc0, od0, .func (PySem.W.fnOf "runs_of" "runs_of" (defArgs st_runs_of) (defBody st_runs_of) (defScope st_runs_of) .none kV0 dc0 pm0 an0 cd0 ct0), sl0⟩) (c0 : PySem.W.codeIn K cd0 "runs_of" = true) (k0 : PySem.W.keepIn K (.ref f0) = true)
    (a1 : PySem.W.nsIn K mainGlobals "_law_draw" = some (some (.ref f1))) (l1 : K.lookup f1 = some ⟨oc1, od1, .func (PySem.W.fnOf "_law_draw" "_law_draw" (defArgs st_law_draw) (defBody st_law_draw) (defScope st_law_draw) .none kV1 dc1 pm1 an1 cd1 ct1), sl1⟩) (c1 : PySem.W.codeIn K cd1 "_law_draw" = true) (k1 : PySem.W.keepIn K (.ref f1) = true)
    (a2 : PySem.W.nsIn K mainGlobals "_law_far" = some (some (.ref f2))) (l2 : K.lookup f2 = some ⟨oc2, od2, .func (PySem.W.fnOf "_law_far" "_law_far" (defArgs st_law_far) (defBody st_law_far) (defScope st_law_far) .none kV2 dc2 pm2 an2 cd2 ct2), sl2⟩) (c2 : PySem.W.codeIn K cd2 "_law_far" = true) (k2 : PySem.W.keepIn K (.ref f2) = true)
    (a3 : PySem.W.nsIn K mainGlobals "_law_reach" = some (some (.ref f3))) (l3 : K.lookup f3 = some ⟨oc3, od3, .func (PySem.W.fnOf "_law_reach" "_law_reach" (defArgs st_law_reach) (defBody st_law_reach) (defScope st_law_reach) .none kV3 dc3 pm3 an3 cd3 ct3), sl3⟩) (c3 : PySem.W.codeIn K cd3 "_law_reach" = true) (k3 : PySem.W.keepIn K (.ref f3) = true)
    (a4 : PySem.W.nsIn K mainGlobals "_law_in" = some (some (.ref f4))) (l4 : K.lookup f4 = some ⟨oc4, od4, .func (PySem.W.fnOf "_law_in" "_law_in" (defArgs st_law_in) (defBody st_law_in) (defScope st_law_in) .none kV4 dc4 pm4 an4 cd4 ct4), sl4⟩) (c4 : PySem.W.codeIn K cd4 "_law_in" = true) (k4 : PySem.W.keepIn K (.ref f4) = true)
    (a5 : PySem.W.nsIn K mainGlobals "_law_points" = some (some (.ref f5))) (l5 : K.lookup f5 = some ⟨oc5, od5, .func (PySem.W.fnOf "_law_points" "_law_points" (defArgs st_law_points) (defBody st_law_points) (defScope st_law_points) .none kV5 dc5 pm5 an5 cd5 ct5), sl5⟩) (c5 : PySem.W.codeIn K cd5 "_law_points" = true) (k5 : PySem.W.keepIn K (.ref f5) = true)
    (a6 : PySem.W.nsIn K mainGlobals "_law_whole" = some (some (.ref f6))) (l6 : K.lookup f6 = some ⟨oc6, od6, .func (PySem.W.fnOf "_law_whole" "_law_whole" (defArgs st_law_whole) (defBody st_law_whole) (defScope st_law_whole) .none kV6 dc6 pm6 an6 cd6 ct6), sl6⟩) (c6 : PySem.W.codeIn K cd6 "_law_whole" = true) (k6 : PySem.W.keepIn K (.ref f6) = true)
    (a7 : PySem.W.nsIn K mainGlobals "_law_long" = some (some (.ref f7))) (l7 : K.lookup f7 = some ⟨oc7, od7, .func (PySem.W.fnOf "_law_long" "_law_long" (defArgs st_law_long) (defBody st_law_long) (defScope st_law_long) .none kV7 dc7 pm7 an7 cd7 ct7), sl7⟩) (c7 : PySem.W.codeIn K cd7 "_law_long" = true) (k7 : PySem.W.keepIn K (.ref f7) = true)
    (a8 : PySem.W.nsIn K mainGlobals "_law_due" = some (some (.ref f8))) (l8 : K.lookup f8 = some ⟨oc8, od8, .func (PySem.W.fnOf "_law_due" "_law_due" (defArgs st_law_due) (defBody st_law_due) (defScope st_law_due) .none kV8 dc8 pm8 an8 cd8 ct8), sl8⟩) (c8 : PySem.W.codeIn K cd8 "_law_due" = true) (k8 : PySem.W.keepIn K (.ref f8) = true)
    (a9 : PySem.W.nsIn K mainGlobals "_law_pairs" = some (some (.ref f9))) (l9 : K.lookup f9 = some ⟨oc9, od9, .func (PySem.W.fnOf "_law_pairs" "_law_pairs" (defArgs st_law_pairs) (defBody st_law_pairs) (defScope st_law_pairs) .none kV9 dc9 pm9 an9 cd9 ct9), sl9⟩) (c9 : PySem.W.codeIn K cd9 "_law_pairs" = true) (k9 : PySem.W.keepIn K (.ref f9) = true)
    (a10 : PySem.W.nsIn K mainGlobals "_law_within" = some (some (.ref f10))) (l10 : K.lookup f10 = some ⟨oc10, od10, .func (PySem.W.fnOf "_law_within" "_law_within" (defArgs st_law_within) (defBody st_law_within) (defScope st_law_within) .none kV10 dc10 pm10 an10 cd10 ct10), sl10⟩) (c10 : PySem.W.codeIn K cd10 "_law_within" = true) (k10 : PySem.W.keepIn K (.ref f10) = true)
    (a11 : PySem.W.nsIn K mainGlobals "law" = some (some (.ref f11))) (l11 : K.lookup f11 = some ⟨oc11, od11, .func (PySem.W.fnOf "law" "law" (defArgs st_law) (defBody st_law) (defScope st_law) .none kV11 dc11 pm11 an11 cd11 ct11), sl11⟩) (c11 : PySem.W.codeIn K cd11 "law" = true) (k11 : PySem.W.keepIn K (.ref f11) = true)
     (z0 : PySem.W.nsIn K mainGlobals "list" = some none) (z1 : PySem.W.nsIn K mainGlobals "len" = some none) (z2 : PySem.W.nsIn K mainGlobals "range" = some none) (z3 : PySem.W.nsIn K mainGlobals "tuple" = some none) (z4 : PySem.W.nsIn K mainGlobals "sorted" = some none) (z5 : PySem.W.nsIn K mainGlobals "isinstance" = some none) (z6 : PySem.W.nsIn K mainGlobals "bool" = some none) (z7 : PySem.W.nsIn K mainGlobals "int" = some none) (z8 : PySem.W.nsIn K mainGlobals "min" = some none) :
    ∃ fd : FuncData, (∀ (s : Shared) (v : Value), BindsTo s fd ⟨[v], []⟩ [("script", v)]) ∧ ∀ base : Heap, K.In base → base.Ns mainGlobals mg → FnOk l.prog w K mg base CX0 4 fa fd ["script"] (fun vs H Q E => ∀ b, spP K 1 (m_law b) vs H Q E) := by
  have e := hfa.symm.trans (PySem.W.mg_of X G a11)
  cases e
  have z : Zs mg := (zs_cons (PySem.W.mg_none_of X G z0) (zs_cons (PySem.W.mg_none_of X G z1) (zs_cons (PySem.W.mg_none_of X G z2) (zs_cons (PySem.W.mg_none_of X G z3) (zs_cons (PySem.W.mg_none_of X G z4) (zs_cons (PySem.W.mg_none_of X G z5) (zs_cons (PySem.W.mg_none_of X G z6) (zs_cons (PySem.W.mg_none_of X G z7) (zs_cons (PySem.W.mg_none_of X G z8) zs_nil)))))))))
  have F0 := fun_mk (st := st_runs_of) l0 c0 k0
  have d_runs_of : DefAt K mg "runs_of" st_runs_of ["reach"] := ⟨_, _, F0, F0.binds (ps := ["reach"]) (fun _ _ _ _ _ _ us hl => match us, hl with | [_], _ => rfl), PySem.W.mg_of X G a0⟩
  have F1 := fun_mk (st := st_law_draw) l1 c1 k1
  have d_law_draw : DefAt K mg "_law_draw" st_law_draw ["script", "k", "many"] := ⟨_, _, F1, F1.binds (ps := ["script", "k", "many"]) (fun _ _ _ _ _ _ us hl => match us, hl with | [_, _, _], _ => rfl), PySem.W.mg_of X G a1⟩
  have F2 := fun_mk (st := st_law_far) l2 c2 k2
  have d_law_far : DefAt K mg "_law_far" st_law_far ["script", "k"] := ⟨_, _, F2, F2.binds (ps := ["script", "k"]) (fun _ _ _ _ _ _ us hl => match us, hl with | [_, _], _ => rfl), PySem.W.mg_of X G a2⟩
  have F3 := fun_mk (st := st_law_reach) l3 c3 k3
  have d_law_reach : DefAt K mg "_law_reach" st_law_reach ["script", "k"] := ⟨_, _, F3, F3.binds (ps := ["script", "k"]) (fun _ _ _ _ _ _ us hl => match us, hl with | [_, _], _ => rfl), PySem.W.mg_of X G a3⟩
  have F4 := fun_mk (st := st_law_in) l4 c4 k4
  have d_law_in : DefAt K mg "_law_in" st_law_in ["reach", "number"] := ⟨_, _, F4, F4.binds (ps := ["reach", "number"]) (fun _ _ _ _ _ _ us hl => match us, hl with | [_, _], _ => rfl), PySem.W.mg_of X G a4⟩
  have F5 := fun_mk (st := st_law_points) l5 c5 k5
  have d_law_points : DefAt K mg "_law_points" st_law_points ["reaches"] := ⟨_, _, F5, F5.binds (ps := ["reaches"]) (fun _ _ _ _ _ _ us hl => match us, hl with | [_], _ => rfl), PySem.W.mg_of X G a5⟩
  have F6 := fun_mk (st := st_law_whole) l6 c6 k6
  have d_law_whole : DefAt K mg "_law_whole" st_law_whole ["some"] := ⟨_, _, F6, F6.binds (ps := ["some"]) (fun _ _ _ _ _ _ us hl => match us, hl with | [_], _ => rfl), PySem.W.mg_of X G a6⟩
  have F7 := fun_mk (st := st_law_long) l7 c7 k7
  have d_law_long : DefAt K mg "_law_long" st_law_long ["script"] := ⟨_, _, F7, F7.binds (ps := ["script"]) (fun _ _ _ _ _ _ us hl => match us, hl with | [_], _ => rfl), PySem.W.mg_of X G a7⟩
  have F8 := fun_mk (st := st_law_due) l8 c8 k8
  have d_law_due : DefAt K mg "_law_due" st_law_due ["reach"] := ⟨_, _, F8, F8.binds (ps := ["reach"]) (fun _ _ _ _ _ _ us hl => match us, hl with | [_], _ => rfl), PySem.W.mg_of X G a8⟩
  have F9 := fun_mk (st := st_law_pairs) l9 c9 k9
  have d_law_pairs : DefAt K mg "_law_pairs" st_law_pairs ["told", "due"] := ⟨_, _, F9, F9.binds (ps := ["told", "due"]) (fun _ _ _ _ _ _ us hl => match us, hl with | [_, _], _ => rfl), PySem.W.mg_of X G a9⟩
  have F10 := fun_mk (st := st_law_within) l10 c10 k10
  have d_law_within : DefAt K mg "_law_within" st_law_within ["runs", "point"] := ⟨_, _, F10, F10.binds (ps := ["runs", "point"]) (fun _ _ _ _ _ _ us hl => match us, hl with | [_, _], _ => rfl), PySem.W.mg_of X G a10⟩
  have F11 := fun_mk (st := st_law) l11 c11 k11
  have d_law : DefAt K mg "law" st_law ["script"] := ⟨_, _, F11, F11.binds (ps := ["script"]) (fun _ _ _ _ _ _ us hl => match us, hl with | [_], _ => rfl), PySem.W.mg_of X G a11⟩
  refine ⟨PySem.W.fnOf "law" "law" (defArgs st_law) (defBody st_law) (defScope st_law) .none kV11 dc11 pm11 an11 cd11 ct11, fun s v => .of_eq rfl, fun base _ _ => ?_⟩
  have h_runs_of := k_runs_of (P := l.prog) (w := w) (base := base) z d_runs_of 
  have h_law_draw := k_law_draw (P := l.prog) (w := w) (base := base) z d_law_draw 
  have h_law_in := k_law_in (P := l.prog) (w := w) (base := base) z d_law_in 
  have h_law_points := k_law_points (P := l.prog) (w := w) (base := base) z d_law_points 
  have h_law_whole := k_law_whole (P := l.prog) (w := w) (base := base) z d_law_whole 
  have h_law_due := k_law_due (P := l.prog) (w := w) (base := base) z d_law_due 
  have h_law_within := k_law_within (P := l.prog) (w := w) (base := base) z d_law_within 
  have h_law_far := k_law_far (P := l.prog) (w := w) (base := base) z d_law_far h_law_draw
  have h_law_pairs := k_law_pairs (P := l.prog) (w := w) (base := base) z d_law_pairs h_law_whole
  have h_law_reach := k_law_reach (P := l.prog) (w := w) (base := base) z d_law_reach h_law_draw h_law_far
  have h_law_long := k_law_long (P := l.prog) (w := w) (base := base) z d_law_long h_law_far h_law_draw
  exact (k_law (P := l.prog) (w := w) (base := base) z F11 h_law_reach h_law_long h_runs_of h_law_pairs h_law_points h_law_due h_law_within h_law_in).imp fun _ _ _ _ h => h _
end LW
namespace LW
open PySem HW
theorem u_runs_of (a0 : D) : m_runs_of [a0] = finO (b_runs_of [some (.v a0), none] []) := rfl
theorem u_law_draw (a0 a1 a2 : D) : m_law_draw [a0, a1, a2] = finO (b_law_draw [some (.v a0), some (.v a1), some (.v a2), none, none] []) := rfl
theorem u_law_far (a0 a1 : D) : m_law_far [a0, a1] = finO (b_law_far [some (.v a0), some (.v a1), none] []) := rfl
theorem u_law_reach (a0 a1 : D) : m_law_reach [a0, a1] = finO (b_law_reach [some (.v a0), some (.v a1), none, none, none, none, none, none] []) := rfl
theorem u_law_in (a0 a1 : D) : m_law_in [a0, a1] = finO (b_law_in [some (.v a0), some (.v a1), none] []) := rfl
theorem u_law_points (bt : Bool) (a0 : D) : m_law_points bt [a0] = finO (b_law_points bt [some (.v a0), none, none, none, none] []) := rfl
theorem u_law_whole (a0 : D) : m_law_whole [a0] = finO (b_law_whole [some (.v a0)] []) := rfl
theorem u_law_long (a0 : D) : m_law_long [a0] = finO (b_law_long [some (.v a0), none, none, none] []) := rfl
theorem u_law_due (a0 : D) : m_law_due [a0] = finO (b_law_due [some (.v a0), none, none, none, none] []) := rfl
theorem u_law_pairs (a0 a1 : D) : m_law_pairs [a0, a1] = finO (b_law_pairs [some (.v a0), some (.v a1), none, none] []) := rfl
theorem u_law_within (a0 a1 : D) : m_law_within [a0, a1] = finO (b_law_within [some (.v a0), some (.v a1), none, none] []) := rfl
theorem u_law (bt : Bool) (a0 : D) : m_law bt [a0] = finO (b_law bt [some (.v a0), none, none, none] []) := rfl
end LW
namespace HW
open PySem
section
variable {μ : Store} {c : Bool} {n : Nat} {ns : List Int} {xs : List D}
theorem wv_s : srtW c [.s c ns] μ = if ns.length < 4000 then some (.p μ.length, μ ++ [.lst ((isort ns).map D.int)]) else none := by simp [srtW]
noncomputable def cSrtW (o : Option Cell) (n : Nat) (μ : Store) : Option (R × Store) := match o with
    | some (.dct kvs) => (intKeys (kvs.map (·.1))).bind fun ns => if ns.length < 4000 then some (.p μ.length, μ ++ [.lst ((isort ns).map D.int)]) else none
    | some (.fzd kvs) => (intKeys (kvs.map (·.1))).bind fun ns => if ns.length < 4000 then some (.p μ.length, μ ++ [.lst ((isort ns).map D.int)]) else none
    | _ => (lstD (.p n) μ).bind fun ds => (intsD ds).bind fun ns => if ns.length < 4000 then some (.p μ.length, μ ++ [.lst ((isort ns).map D.int)]) else none
noncomputable def thSW (o : Option (List Int)) (μ : Store) : Option (R × Store) := o.bind fun ns => if ns.length < 4000 then some (.p μ.length, μ ++ [.lst ((isort ns).map D.int)]) else none
theorem wv_p : srtW c [.p n] μ = cSrtW μ[n]? n μ := rfl
theorem wv_d {kvs} : cSrtW (some (.dct kvs)) n μ = thSW (intKeys (kvs.map (·.1))) μ := rfl
noncomputable def thSWl (o : Option (List D)) (μ : Store) : Option (R × Store) := o.bind fun ds => thSW (intsD ds) μ
theorem wv_l : cSrtW (some (.lst xs)) n μ = thSWl (lstD (.p n) μ) μ := rfl
theorem wv_z : cSrtW (some (.fz xs)) n μ = thSWl (lstD (.p n) μ) μ := rfl
theorem wv_l1 : thSWl (some xs) μ = thSW (intsD xs) μ := rfl
theorem wv_f : srtW c [.v (.fl xs)] μ = thSWl (some xs) μ := rfl
theorem wv_1 : thSW (some ns) μ = if ns.length < 4000 then some (.p μ.length, μ ++ [.lst ((isort ns).map D.int)]) else none := rfl
end
noncomputable def WV := A2 @wv_s (A2 @wv_p (A2 @wv_d (A2 @wv_l (A2 @wv_z (A2 @wv_l1 (A2 @wv_f @wv_1))))))
end HW
namespace LW
open PySem HW
theorem emod_b (i : Int) {j : Int} (h : 0 < j) : 0 ≤ i % j ∧ i % j < j := ⟨Int.emod_nonneg _ (by omega), Int.emod_lt_of_pos _ h⟩
theorem cell_at (ns : List Int) (k : Int) (h : ns ≠ []) : ∃ c, L2.atI (ns.map D.int) (k % (ns.length : Int)) = some (.int c) := by
  have hl : 0 < ns.length := List.length_pos_iff.mpr h
  obtain ⟨h1, h2⟩ := emod_b k (j := (ns.length : Int)) (by omega)
  refine ⟨ns[(k % (ns.length : Int)).toNat], at_int h1 ?_⟩
  simp
theorem draw_ex (ns : List Int) (k many : Int) (hm : 0 < many) : ∃ d, m_law_draw [.fl (ns.map .int), .int k, .int many] = some (.int d) ∧ 0 ≤ d ∧ d < many := by
  rw [u_law_draw]
  by_cases h : ns = []
  · subst h
    exact ⟨0, by simp only [b_law_draw, EV, Nat.reduceAdd, if_true, Bool.and_self, Int.natCast_zero, beq_self_eq_true], by omega, hm⟩
  · have hl : 0 < ns.length := List.length_pos_iff.mpr h
    have e0 : ((ns.length : Int) == 0) = false := by simp; omega
    obtain ⟨c, hc⟩ := cell_at ns k h
    have b1 := emod_b c (j := 1000000007) (by decide)
    have b2 := emod_b ((c % 1000000007 + 5) * (40692 + 977 * k)) (j := 2147483629) (by decide)
    simp only [b_law_draw, EV, Nat.reduceAdd, if_true, Bool.and_self, e0, List.length_map,
      ev_mod (i := k) (j := (ns.length : Int)) (by omega), hc, ev_mod (i := c) (j := 1000000007) (by decide),
      ev_mulL (i := 977) (j := k) (by decide), ev_mulL (i := c % 1000000007 + 5) (j := 40692 + 977 * k) (by omega),
      ev_mod (j := 2147483629) (by decide), ev_mulR (j := (c % 1000000007 + 5) * (40692 + 977 * k) % 2147483629 + 3) (by omega), ev_mod (j := 2147483647) (by decide), ev_div (j := 13) (by decide) (by decide), ev_mod (j := many) hm]
    exact ⟨_, rfl, emod_b _ hm⟩
end LW
namespace HW
open PySem L2
section
variable {ρ : Lo} {μ μ1 μ2 μ3 : Store} {d : D} {n : Nat} {i j k : Int} {xs : List D}
noncomputable def cIns (o : Option Cell) (n : Nat) (i : Int) (d : D) (μ : Store) : Option (R × Store) := match o with | some (.lst xs) => if 0 ≤ i ∧ i < 2 ^ 62 ∧ xs.length < sizeLine then some (.v .non, μ.set n (.lst (xs.take i.toNat ++ d :: xs.drop i.toNat))) else none | _ => none
theorem iv_p : insD (.p n) [.v (.int i), .v d] μ = cIns μ[n]? n i d μ := rfl
theorem iv_0 : cIns (some (.lst xs)) n 0 d μ = if xs.length < sizeLine then some (.v .non, μ.set n (.lst (d :: xs))) else none := by simp [cIns]
theorem iv_r3 {f g h : FE} (e1 : f ρ μ = some (.v (.int i), μ1)) (e2 : g ρ μ1 = some (.v (.int j), μ2)) (e3 : h ρ μ2 = some (.v (.int k), μ3)) (hk : stepOk i j k) : fiR3 f g h ρ μ = some ((List.range (stepN i j k)).map fun n => .int (i + (n : Nat) * k), μ3) := by
  simp only [fiR3, e1, e2, e3, Option.bind_some, hk, if_true]
end
end HW
namespace LW
open PySem HW
noncomputable abbrev Rc := Bool × List Int
noncomputable abbrev rD (r : Rc) : D := .tup [.bl r.1, .tup (r.2.map .int)]
theorem ok_tup {n : Nat} {xs : List D} (h : okDs n xs = true) : okD (n + 1) (.tup xs) = true := by simpa [okD] using h
theorem ok_fl {n : Nat} {xs : List D} (h : okDs n xs = true) : okD (n + 1) (.fl xs) = true := by simpa [okD] using h
theorem oks_cons {n : Nat} {x : D} {xs : List D} (h : okD n x = true) (h' : okDs n xs = true) : okDs n (x :: xs) = true := by simp [okDs, h, h']
theorem oks_nil {n : Nat} : okDs n [] = true := by cases n <;> rfl
theorem comp_filter {α : Type} {c : FT} {f : FE} {μ : Store} {rest : Lo} (e out : α → D) (p : α → Bool) : ∀ (xs : List α) (x0 : Option R), (∀ a ∈ xs, c (some (.v (e a)) :: rest) μ = some (p a, μ)) → (∀ a ∈ xs, p a = true → f (some (.v (e a)) :: rest) μ = some (.v (out a), μ)) → compL (gNm 0) c f (xs.map e) (x0 :: rest) μ = some ((xs.filter p).map out, μ)
  | [], _, _, _ => rfl
  | a :: xs, x0, h, h' => by
    have h1 := h a List.mem_cons_self
    have ih := comp_filter e out p xs (some (.v (e a))) (fun b hb => h b (List.mem_cons_of_mem _ hb)) (fun b hb => h' b (List.mem_cons_of_mem _ hb))
    cases hp : p a with
    | true =>
      have h2 := h' a List.mem_cons_self hp
      simp only [List.map_cons, compL, gNm, List.set_cons_zero, Option.bind_some, h1, hp, if_true, h2, ih, List.filter_cons]
    | false => simp only [List.map_cons, compL, gNm, List.set_cons_zero, Option.bind_some, h1, hp, Bool.false_eq_true, if_false, ih, List.filter_cons]
noncomputable def cnt (r : Rc) (n : Int) : Nat := (r.2.filter fun e => decide (e ≤ n)).length
noncomputable def lieB (r : Rc) (n : Int) : Bool := r.1 != ((cnt r n : Int) % 2 == 1)
theorem lawin_eq (r : Rc) (n : Int) (hl : r.2.length ≤ 100) : m_law_in [rD r, .int n] = some (.bl (lieB r n)) := by
  rw [u_law_in]
  have hz : r.2.length ≤ sizeLine := small'' (by omega)
  have hc : ∀ μ : Store, compL (gNm 0) (fB (fOp leD (fVar 0) (fVar 1))) (fVar 0) (r.2.map D.int) [none, some (.v (.int n))] μ = some ((r.2.filter fun e => decide (e ≤ n)).map D.int, μ) := fun μ =>
    comp_filter D.int D.int (fun e => decide (e ≤ n)) r.2 none (fun e _ => by simp only [EV, Nat.reduceAdd, if_true, Bool.and_self]) (fun e _ _ => by simp only [EV, Nat.reduceAdd, if_true, Bool.and_self])
  simp only [b_law_in, EV, Nat.reduceAdd, if_true, Bool.and_self, List.length_map, hz, hc, ev_mod (j := 2) (by decide)]
  rfl
theorem keys_int (ks : List Int) : intKeys (ks.map Sum.inl) = some ks := by
  induction ks with
  | nil => rfl
  | cons k ks ih => simp [intKeys, ih]
def KI (kvs : List (L2.Key × D)) (n : Nat) : Prop := ∃ ks : List Int, kvs.map (·.1) = ks.map Sum.inl ∧ ks.length ≤ n
theorem KI.len {kvs : List (L2.Key × D)} {n : Nat} (h : KI kvs n) : kvs.length ≤ n := by
  obtain ⟨ks, e, hl⟩ := h
  have := congrArg List.length e
  simp at this; omega
theorem KI.put {kvs : List (L2.Key × D)} {n : Nat} (h : KI kvs n) (i : Int) (d : D) : KI (putKD kvs (.inl i) d) (n + 1) := by
  obtain ⟨ks, e, hl⟩ := h
  unfold putKD
  split
  · refine ⟨ks, ?_, by omega⟩
    rw [List.map_map, ← e]
    refine List.map_congr_left fun kv _ => ?_
    simp only [Function.comp]
    split <;> rfl
  · exact ⟨ks ++ [i], by simp [e], by simp; omega⟩
theorem KI.mono {kvs : List (L2.Key × D)} {n m : Nat} (h : KI kvs n) (hm : n ≤ m) : KI kvs m := let ⟨ks, e, hl⟩ := h; ⟨ks, e, by omega⟩
theorem points_ex (bt : Bool) (r : Rc) (hl : r.2.length ≤ 63) : ∃ ms : List Int, m_law_points bt [.fl [rD r]] = some (.fl (ms.map .int)) := by
  rw [u_law_points]
  obtain ⟨P, hP⟩ : ∃ P : Int, P = 10 ^ (59 : Int).toNat := ⟨_, rfl⟩
  have hpow : ∀ μ : Store, powD (.v (.int 10)) (.v (.int 59)) μ = some (.v (.int P), μ) := fun μ => by rw [ev_pow (by decide), hP]
  clear hP
  have k3 : kvsOf [(.v (.int 0), .v (.bl true)), (.v (.int (-P)), .v (.bl true)), (.v (.int P), .v (.bl true))] = some [(.inl 0, .bl true), (.inl (-P), .bl true), (.inl P, .bl true)] := rfl
  have f15 : 3 ≤ 15 := by decide
  obtain ⟨kv0, hk0, ki0⟩ : ∃ kv0, kv0 = putAllD [] [((.inl 0 : L2.Key), D.bl true), (.inl (-P), .bl true), (.inl P, .bl true)] ∧ KI kv0 3 :=
    ⟨_, rfl, KI.put (KI.put (KI.put (n := 0) ⟨[], rfl, by simp⟩ 0 _) (-P) _) P _⟩
  simp only [b_law_points, EV, Nat.reduceAdd, if_true, Bool.and_self, hpow, k3, f15, ← hk0, loop_cons, l_law_points_2]
  obtain ⟨st, e, hki⟩ := loop_inv (g := gNm 3) (b := l_law_points_1 bt) D.int
    (fun st : List (L2.Key × D) × Option R × Option R => ([some (.v (.fl [rD r])), some (.p 0), some (.v (rD r)), st.2.1, st.2.2], [Cell.dct st.1]))
    (fun st rem => ∃ n, KI st.1 n ∧ n + 3 * rem.length ≤ 200) r.2 (kv0, none, none) ⟨3, ki0, by omega⟩ (by
      rintro ⟨kvs, x, y⟩ q rem ⟨n, ki, hn⟩
      simp only [List.length_cons] at hn
      have ki : KI kvs n := ki
      have s1 : kvs.length < sizeLine := small' (by have := ki.len; omega)
      have ki1 := ki.put (q + -1) (.bl true)
      have s2 : (putKD kvs (.inl (q + -1)) (.bl true)).length < sizeLine := small' (by have := ki1.len; omega)
      have ki2 := ki1.put (q + 0) (.bl true)
      have s3 : (putKD (putKD kvs (.inl (q + -1)) (.bl true)) (.inl (q + 0)) (.bl true)).length < sizeLine := small' (by have := ki2.len; omega)
      have ki3 := ki2.put (q + 1) (.bl true)
      refine ⟨(putKD (putKD (putKD kvs (.inl (q + -1)) (.bl true)) (.inl (q + 0)) (.bl true)) (.inl (q + 1)) (.bl true), some (.v (.int q)), some (.v (.int 1))), ?_, _, ki3, by omega⟩
      simp only [l_law_points_1, l_law_points_0, EV, Nat.reduceAdd, if_true, Bool.and_self, loop_cons, s1, s2, s3])
  rw [e]
  obtain ⟨kvs, x, y⟩ := st
  obtain ⟨n, ⟨ks, ek, hk⟩, hn⟩ := hki
  have h64 : ks.length < 4000 := by simp at hn; omega
  have hkk := keys_int ks
  rw [← ek] at hkk
  simp only [EV, Nat.reduceAdd, if_true, Bool.and_self, WV, hkk, h64]
  exact ⟨_, rfl⟩
theorem far_ex (ns : List Int) (k : Int) : ∃ d, m_law_far [.fl (ns.map .int), .int k] = some (.int d) ∧ 0 ≤ d ∧ d < 10 ^ 50 := by
  rw [u_law_far]
  by_cases h : ns = []
  · subst h
    exact ⟨0, by simp only [b_law_far, EV, Nat.reduceAdd, if_true, Bool.and_self, Int.natCast_zero, beq_self_eq_true], by omega, by decide⟩
  · have hl : 0 < ns.length := List.length_pos_iff.mpr h
    have e0 : ((ns.length : Int) == 0) = false := by simp; omega
    obtain ⟨c, hc⟩ := cell_at ns k h
    obtain ⟨a, ea, ba⟩ := draw_ex ns k 100000000 (by decide)
    obtain ⟨T, hT⟩ : ∃ T : Int, T = 10 ^ 50 := ⟨_, rfl⟩
    have T0 : 0 < T := by rw [hT]; decide
    have p1 : ∀ μ : Store, powD (.v (.int 10)) (.v (.int 50)) μ = some (.v (.int T), μ) := fun μ => by rw [hT]; exact ev_pow (by decide)
    rw [← hT]
    simp only [b_law_far, EV, Nat.reduceAdd, if_true, Bool.and_self, e0, List.length_map, ea, ev_mod (i := k) (j := (ns.length : Int)) (by omega), hc, p1, ev_mod (i := c) T0, ev_mulR (i := c % T) (j := a + 1) (by omega), ev_pow (i := a + 1) (j := 5) (by omega), ev_mod (j := T) T0]
    exact ⟨_, rfl, emod_b _ T0⟩
noncomputable def par (b : Bool) (c : Nat) : Bool := b != ((c : Int) % 2 == 1)
theorem lie_par (r : Rc) (n : Int) (c : Nat) (h : cnt r n = c) : lieB r n = par r.1 c := by unfold lieB par; rw [h]
structure RcOk (r : Rc) : Prop where
  up : r.2.Pairwise (· < ·)
  len : r.2.length ≤ 63
  bd : ∀ e ∈ r.2, -(10 ^ 59 : Int) < e ∧ e < 10 ^ 59
theorem RcOk.low {r : Rc} (h : RcOk r) : cnt r (-(10 ^ 59)) = 0 := by
  unfold cnt
  rw [List.length_eq_zero_iff, List.filter_eq_nil_iff]
  intro e he
  have := (h.bd e he).1
  simp only [decide_eq_true_eq, Int.not_le]
  exact this
theorem RcOk.high {r : Rc} (h : RcOk r) : cnt r (10 ^ 59) = r.2.length := by
  unfold cnt
  congr 1
  refine List.filter_eq_self.mpr fun e he => ?_
  have := (h.bd e he).2
  simp only [decide_eq_true_eq]
  exact Int.le_of_lt this
end LW
namespace LW
open PySem HW
theorem snoc_up {es : List Int} {e : Int} (h : es.Pairwise (· < ·)) (hb : ∀ y ∈ es, y < e) : (es ++ [e]).Pairwise (· < ·) := by
  rw [List.pairwise_append]
  exact ⟨h, by simp, fun x hx y hy => by simp at hy; rw [hy]; exact hb x hx⟩
theorem gend {σ : Store} {c : Cell} : (σ ++ [c])[List.length σ]? = some c := by simp
theorem nx_mul (i : Nat) (X : Int) : ((i + 1 : Nat) : Int) * X = (i : Int) * X + X := by rw [Int.natCast_add, Int.add_mul]; simp
theorem reach_ok (ns : List Int) (k : Int) : ∃ r : Rc, m_law_reach [.fl (ns.map .int), .int k] = some (rD r) ∧ RcOk r := by
  rw [u_law_reach]
  obtain ⟨w, ew, bw⟩ := draw_ex ns k 5 (by decide)
  obtain ⟨rt, er, br⟩ := draw_ex ns (k + 1) 100000000 (by decide)
  obtain ⟨f, ef, bf⟩ := far_ex ns (k + 2)
  obtain ⟨z, ez, bz⟩ := draw_ex ns (k + 10) 2 (by decide)
  obtain ⟨V, hV⟩ : ∃ V : Int, V = 10 ^ 48 := ⟨_, rfl⟩
  obtain ⟨U, hU⟩ : ∃ U : Int, U = 10 ^ 49 := ⟨_, rfl⟩
  have UV : U = 10 * V := by rw [hU, hV]; decide
  have V1 : 1000 < V := by rw [hV]; decide
  have f50 : f < 10 * U := by have : (10 : Int) * U = 10 ^ 50 := by rw [hU]; decide
                              rw [this]; exact bf.2
  have p49 : ∀ μ : Store, powD (.v (.int 10)) (.v (.int 49)) μ = some (.v (.int U), μ) := fun μ => by rw [hU]; exact ev_pow (by decide)
  have p48 : ∀ μ : Store, powD (.v (.int 10)) (.v (.int 48)) μ = some (.v (.int V), μ) := fun μ => by rw [hV]; exact ev_pow (by decide)
  have T59 : (100 : Int) * V < 10 ^ 59 := by rw [hV]; decide
  have fin : ∀ (b : Bool) (es : List Int), es.Pairwise (· < ·) → es.length ≤ 13 → (∀ e ∈ es, -(100 * V) < e ∧ e < 100 * V) → RcOk (b, es) := fun b es h1 h2 h3 =>
    ⟨h1, Nat.le_trans h2 (by decide), fun e he => ⟨Int.lt_trans (Int.neg_lt_neg T59) (h3 e he).1, Int.lt_trans (h3 e he).2 T59⟩⟩
  have s2 : 2 ≤ sizeLine := by decide
  by_cases h3 : w < 3
  · have hby : w / 2 = 0 ∨ w / 2 = 1 := by omega
    have go : ∀ by_ : Int, 2 ≤ by_ → by_ ≤ 4 → ∃ es : List Int, ∃ x3 x6, loop (gNm 6) l_law_reach_0 ((List.range (13 : Int).toNat).map fun i => .int ((i : Nat) : Int)) [some (.v (.fl (ns.map .int))), some (.v (.int k)), some (.v (.int w)), some (.v (.int rt)), some (.p 0), some (.v (.int by_)), none, none] [.lst []]
        = some (.nx [some (.v (.fl (ns.map .int))), some (.v (.int k)), some (.v (.int w)), x3, some (.p 0), some (.v (.int by_)), x6, none] [.lst (es.map .int)]) ∧ es.Pairwise (· < ·) ∧ es.length ≤ 13 ∧ ∀ e ∈ es, -4 ≤ e ∧ e < 9 := fun by_ b1 b2 => by
      obtain ⟨ρ', μ', e, es, r, x6, rfl, rfl, q1, q2, q3⟩ := loop_range (g := gNm 6) (b := l_law_reach_0) (ρ := [some (.v (.fl (ns.map .int))), some (.v (.int k)), some (.v (.int w)), some (.v (.int rt)), some (.p 0), some (.v (.int by_)), none, none]) (μ := [.lst []]) 13
        (fun i ρ μ => ∃ (es : List Int) (r : Int) (x6 : Option R), ρ = [some (.v (.fl (ns.map .int))), some (.v (.int k)), some (.v (.int w)), some (.v (.int r)), some (.p 0), some (.v (.int by_)), x6, none] ∧ μ = [.lst (es.map .int)] ∧ es.Pairwise (· < ·) ∧ es.length ≤ i ∧ ∀ e ∈ es, -4 ≤ e ∧ e < (i : Int) - 4)
        ⟨[], rt, none, rfl, rfl, by simp, by simp, by simp⟩ (by
          rintro i hi ρ μ ⟨es, r, x6, rfl, rfl, q1, q2, q3⟩
          have hz : (es.map D.int).length < sizeLine := small' (by simp; omega)
          cases hq : (r % by_ == 1) with
          | true =>
            simp only [l_law_reach_0, EV, Nat.reduceAdd, if_true, Bool.and_self, ev_mod (i := r) (j := by_) (by omega), ev_div (i := r) (j := by_) (by omega) (by omega), hq, if_pos hz]
            refine ⟨_, _, rfl, es ++ [(i : Int) - 4], r / by_, _, rfl, by rw [List.map_append]; rfl, snoc_up q1 fun y hy => (q3 y hy).2, by simp; omega, fun e he => ?_⟩
            rcases List.mem_append.mp he with h | h
            · have := q3 e h; omega
            · simp at h; omega
          | false =>
            simp only [l_law_reach_0, EV, Nat.reduceAdd, if_true, Bool.and_self, ev_mod (i := r) (j := by_) (by omega), ev_div (i := r) (j := by_) (by omega) (by omega), hq]
            exact ⟨_, _, rfl, es, r / by_, _, rfl, rfl, q1, by omega, fun e he => by have := q3 e he; omega⟩)
      exact ⟨es, _, x6, e, q1, q2, fun e he => by have := q3 e he; omega⟩
    have n3 : (w == 3) = false := by simp; omega
    have h62 : -(2 ^ 62 : Int) ≤ 13 ∧ (13 : Int) < 2 ^ 62 := by decide
    rcases hby with hby | hby
    · obtain ⟨es, x3, x6, e, q1, q2, q3⟩ := go 2 (by decide) (by decide)
      refine ⟨(z == 1, es), ?_, fin _ _ q1 q2 fun e he => by have := q3 e he; omega⟩
      simp only [b_law_reach, EV, Nat.reduceAdd, if_true, Bool.and_self, ew, er, h3, decide_true, ev_div (i := w) (j := 2) (by decide) (by decide), hby, ev_mulL (i := 2) (j := 0) (by decide), Int.mul_zero, Int.add_zero, ev_r11 h62, e, n3, ez, s2]
    · obtain ⟨es, x3, x6, e, q1, q2, q3⟩ := go 4 (by decide) (by decide)
      refine ⟨(z == 1, es), ?_, fin _ _ q1 q2 fun e he => by have := q3 e he; omega⟩
      have e4 : (2 : Int) + 2 * 1 = 4 := by decide
      simp only [b_law_reach, EV, Nat.reduceAdd, if_true, Bool.and_self, ew, er, h3, decide_true, ev_div (i := w) (j := 2) (by decide) (by decide), hby, ev_mulL (i := 2) (j := 1) (by decide), e4, ev_r11 h62, e, n3, ez, s2]
  by_cases h4 : w = 3
  · subst h4
    obtain ⟨n, hn⟩ : ∃ n : Nat, rt % 7 = (n : Int) := ⟨(rt % 7).toNat, by omega⟩
    have n6 : n ≤ 6 := by omega
    have h62 : -(2 ^ 62 : Int) ≤ (n : Int) ∧ (n : Int) < 2 ^ 62 := by omega
    obtain ⟨m, hm, bm⟩ : ∃ m : Int, L2.atI [D.int 3, .int V] (rt / 7 % 2) = some (.int m) ∧ 0 < m ∧ m ≤ V := by
      have : rt / 7 % 2 = 0 ∨ rt / 7 % 2 = 1 := by omega
      rcases this with h | h <;> rw [h]
      · exact ⟨3, rfl, by omega, by omega⟩
      · exact ⟨V, rfl, by omega, by omega⟩
    obtain ⟨ρ', μ', e, es, x6, ed, σ, rfl, rfl, q1, q2, q3, q4, q5⟩ := loop_range (g := gNm 6) (b := l_law_reach_1) (ρ := [some (.v (.fl (ns.map .int))), some (.v (.int k)), some (.v (.int 3)), some (.v (.int rt)), some (.p 0), none, none, some (.v (.int (f - 5 * U)))]) (μ := [.lst []]) n
      (fun i ρ μ => ∃ (es : List Int) (x6 : Option R) (ed : Int) (σ : Store), ρ = [some (.v (.fl (ns.map .int))), some (.v (.int k)), some (.v (.int 3)), some (.v (.int rt)), some (.p 0), none, x6, some (.v (.int ed))] ∧ μ = .lst (es.map .int) :: σ ∧ es.Pairwise (· < ·) ∧ es.length = i ∧ (∀ e ∈ es, -(50 * V) ≤ e ∧ e < ed) ∧ -(50 * V) ≤ ed ∧ ed ≤ 50 * V + i * (V + 1))
      ⟨[], none, f - 5 * U, [], rfl, rfl, by simp, rfl, by simp, by omega, by omega⟩ (by
        rintro i hi ρ μ ⟨es, x6, ed, σ, rfl, rfl, q1, q2, q3, q4, q5⟩
        have hz : (es.map D.int).length < sizeLine := small' (by simp; omega)
        obtain ⟨g, eg, bg⟩ := far_ex ns (k + 3 + i)
        have hg := emod_b g bm.1
        simp only [l_law_reach_1, EV, Nat.reduceAdd, if_true, Bool.and_self, eg, p48, s2, ev_div (i := rt) (j := 7) (by decide) (by decide), ev_mod (i := rt / 7) (j := 2) (by decide), ev_mod (i := g) bm.1, if_pos hz, gend, hm]
        refine ⟨_, _, rfl, es ++ [ed], _, ed + 1 + g % m, _, rfl, by rw [List.map_append]; rfl, snoc_up q1 fun y hy => (q3 y hy).2, by simp; omega, fun e he => ?_, by omega, ?_⟩
        · rcases List.mem_append.mp he with h | h
          · have := q3 e h; omega
          · simp at h; omega
        · rw [nx_mul]
          generalize (i : Int) * (V + 1) = X at *
          omega)
    refine ⟨(z == 1, es), ?_, fin _ _ q1 (by omega) fun e he => ?_⟩
    · simp only [b_law_reach, EV, Nat.reduceAdd, if_true, Bool.and_self, ew, er, ef, h3, decide_false, beq_self_eq_true, p49, ev_mulL (i := 5) (j := U) (by decide), ev_mod (i := rt) (j := 7) (by decide), hn, ev_r11 h62, Int.toNat_natCast, e, ez, s2]
    · have h1 := q3 e he
      have h2 : (n : Int) * (V + 1) ≤ 6 * (V + 1) := Int.mul_le_mul_of_nonneg_right (by omega) (by omega)
      generalize (n : Int) * (V + 1) = X at *
      omega
  · have n3 : (w == 3) = false := by simp [h4]
    refine ⟨(z == 1, []), ?_, fin _ _ (by simp) (by simp) (by simp)⟩
    simp only [b_law_reach, EV, Nat.reduceAdd, if_true, Bool.and_self, ew, er, h3, decide_false, n3, ez, s2]
    rfl
theorem long_ok (ns : List Int) (hl : ns.length ≤ 63) : ∃ r : Rc, m_law_long [.fl (ns.map .int)] = some (rD r) ∧ RcOk r := by
  rw [u_law_long]
  obtain ⟨f, ef, bf⟩ := far_ex ns 20
  obtain ⟨z, ez, bz⟩ := draw_ex ns 21 2 (by decide)
  obtain ⟨V, hV⟩ : ∃ V : Int, V = 10 ^ 47 := ⟨_, rfl⟩
  obtain ⟨U, hU⟩ : ∃ U : Int, U = 10 ^ 49 := ⟨_, rfl⟩
  have UV : U = 100 * V := by rw [hU, hV]; decide
  have V1 : 1000 < V := by rw [hV]; decide
  have f50 : f < 10 * U := by have : (10 : Int) * U = 10 ^ 50 := by rw [hU]; decide
                              rw [this]; exact bf.2
  have p49 : ∀ μ : Store, powD (.v (.int 10)) (.v (.int 49)) μ = some (.v (.int U), μ) := fun μ => by rw [hU]; exact ev_pow (by decide)
  have p47 : ∀ μ : Store, powD (.v (.int 10)) (.v (.int 47)) μ = some (.v (.int V), μ) := fun μ => by rw [hV]; exact ev_pow (by decide)
  have T59 : (1000 : Int) * V < 10 ^ 59 := by rw [hV]; decide
  have s2 : 2 ≤ sizeLine := by decide
  have s3 : 3 ≤ sizeLine := by decide
  have hmin : ∀ μ, minD [.v (.int (ns.length : Int)), .v (.int 63)] μ = some (.v (.int (ns.length : Int)), μ) := fun μ => by
    have : ¬ (63 : Int) < ns.length := by omega
    simp [minD, this]
  have h62 : -(2 ^ 62 : Int) ≤ (ns.length : Int) ∧ (ns.length : Int) < 2 ^ 62 := by omega
  obtain ⟨ρ', μ', e, es, x6, ed, σ, rfl, rfl, q1, q2, q3, q4, q5⟩ := loop_range (g := gNm 3) (b := l_law_long_0) (ρ := [some (.v (.fl (ns.map .int))), some (.p 0), some (.v (.int (f - 5 * U))), none]) (μ := [.lst []]) ns.length
      (fun i ρ μ => ∃ (es : List Int) (x6 : Option R) (ed : Int) (σ : Store), ρ = [some (.v (.fl (ns.map .int))), some (.p 0), some (.v (.int ed)), x6] ∧ μ = .lst (es.map .int) :: σ ∧ es.Pairwise (· < ·) ∧ es.length = i ∧ (∀ e ∈ es, -(500 * V) ≤ e ∧ e < ed) ∧ -(500 * V) ≤ ed ∧ ed ≤ 500 * V + i * (V + 1))
      ⟨[], none, f - 5 * U, [], rfl, rfl, by simp, rfl, by simp, by omega, by omega⟩ (by
        rintro i hi ρ μ ⟨es, x6, ed, σ, rfl, rfl, q1, q2, q3, q4, q5⟩
        have hz : (es.map D.int).length < sizeLine := small' (by simp; omega)
        obtain ⟨g, eg, bg⟩ := far_ex ns (30 + i)
        obtain ⟨c, ec, bc⟩ := draw_ex ns (100 + i) 3 (by decide)
        obtain ⟨m, hm, bm⟩ : ∃ m : Int, L2.atI [D.int 1, .int 3, .int V] c = some (.int m) ∧ 0 < m ∧ m ≤ V := by
          have : c = 0 ∨ c = 1 ∨ c = 2 := by omega
          rcases this with h | h | h <;> rw [h]
          · exact ⟨1, rfl, by omega, by omega⟩
          · exact ⟨3, rfl, by omega, by omega⟩
          · exact ⟨V, rfl, by omega, by omega⟩
        have hg := emod_b g bm.1
        simp only [l_law_long_0, EV, Nat.reduceAdd, if_true, Bool.and_self, eg, ec, p47, s3, ev_mod (i := g) bm.1, if_pos hz, gend, hm]
        refine ⟨_, _, rfl, es ++ [ed], _, ed + 1 + g % m, _, rfl, by rw [List.map_append]; rfl, snoc_up q1 fun y hy => (q3 y hy).2, by simp; omega, fun e he => ?_, by omega, ?_⟩
        · rcases List.mem_append.mp he with h | h
          · have := q3 e h; omega
          · simp at h; omega
        · rw [nx_mul]
          generalize (i : Int) * (V + 1) = X at *
          omega)
  refine ⟨(z == 1, es), ?_, q1, by show es.length ≤ 63; omega, fun e he => ?_⟩
  · simp only [b_law_long, EV, Nat.reduceAdd, if_true, Bool.and_self, ef, p49, ev_mulL (i := 5) (j := U) (by decide), List.length_map, hmin, ev_r11 h62, Int.toNat_natCast, e, ez, s2]
  · have h1 := q3 e he
    have h2 : (ns.length : Int) * (V + 1) ≤ 63 * (V + 1) := Int.mul_le_mul_of_nonneg_right (by omega) (by omega)
    generalize (ns.length : Int) * (V + 1) = X at *
    have h3 : -(1000 * V) < e ∧ e < 1000 * V := by omega
    exact ⟨Int.lt_trans (Int.neg_lt_neg T59) h3.1, Int.lt_trans h3.2 T59⟩
end LW
namespace LW
open PySem HW
noncomputable abbrev Eo := Option Int
noncomputable def oD : Eo → D
  | none => .non
  | some x => .int x
noncomputable abbrev pD (p : Eo × Eo) : D := .tup [oD p.1, oD p.2]
noncomputable def pu : List Eo → List (Eo × Eo)
  | [] => []
  | [a] => [(a, none)]
  | a :: b :: t => (a, b) :: pu t
theorem pu_range : ∀ (l : List Eo), (List.range ((l.length + 1) / 2)).map (fun i => (l.getD (2 * i) none, l.getD (2 * i + 1) none)) = pu l
  | [] => rfl
  | [a] => by
    have e : ([a].length + 1) / 2 = 1 := by simp
    rw [e]; rfl
  | a :: b :: t => by
    have e : (a :: b :: t).length + 1 = (t.length + 1) + 2 := rfl
    rw [e, Nat.add_div_right _ (by decide), List.range_succ_eq_map, List.map_cons, List.map_map, pu, ← pu_range t]
    rfl
theorem getD_pad (l : List Eo) (k : Nat) : (l ++ [none]).getD k none = l.getD k none := by
  rw [List.getD_eq_getElem?_getD, List.getD_eq_getElem?_getD, List.getElem?_append]
  split
  · rfl
  · rename_i h
    rw [List.getElem?_eq_none (by omega : l.length ≤ k)]
    cases k - l.length with
    | zero => rfl
    | succ n => rfl
theorem step_n (m : Nat) : stepN 0 ((2 * m : Nat) : Int) 2 = m := by
  unfold stepN Builtin.Range.rangeSize
  rw [if_pos (by decide)]
  split <;> omega
theorem at_o (l : List Eo) (k : Nat) (h : k < l.length) : L2.atI (l.map oD) (k : Int) = some (oD (l.getD k none)) := by
  refine at_int (by omega) ?_
  rw [Int.toNat_natCast, List.getElem?_map, List.getD_eq_getElem?_getD, List.getElem?_eq_getElem h]
  rfl
theorem comp_pairs (l : List Eo) (m : Nat) (he : l.length = 2 * m) (x0 : Option R) (n : Nat) (μ : Store) (hμ : μ[n]? = some (.lst (l.map oD))) :
    compL (gNm 0) cYes (fTup (fCons (fOp ixD (fVar 1) (fVar 0)) (fCons (fOp ixD (fVar 1) (fOp addQ (fVar 0) (fK (.int 1)))) fNil))) ((List.range m).map fun k => .int (0 + (k : Nat) * 2)) [x0, some (.p n)] μ = some ((pu l).map pD, μ) := by
  have hm : m = (l.length + 1) / 2 := by omega
  have e1 : (pu l).map pD = (List.range m).map fun i => pD (l.getD (2 * i) none, l.getD (2 * i + 1) none) := by
    rw [← pu_range l, ← hm, List.map_map]; rfl
  rw [e1]
  refine comp_typed (fun k : Nat => D.int (0 + (k : Nat) * 2)) (fun i => pD (l.getD (2 * i) none, l.getD (2 * i + 1) none)) (List.range m) x0 fun k hk => ?_
  have hk' := List.mem_range.mp hk
  have a1 : L2.atI (l.map oD) (0 + (k : Int) * 2) = some (oD (l.getD (2 * k) none)) := by
    have := at_o l (2 * k) (by omega)
    rw [show ((2 * k : Nat) : Int) = 0 + (k : Int) * 2 by omega] at this; exact this
  have a2 : L2.atI (l.map oD) (0 + (k : Int) * 2 + 1) = some (oD (l.getD (2 * k + 1) none)) := by
    have := at_o l (2 * k + 1) (by omega)
    rw [show ((2 * k + 1 : Nat) : Int) = 0 + (k : Int) * 2 + 1 by omega] at this; exact this
  have s2 : 2 ≤ sizeLine := by decide
  simp only [EV, Nat.reduceAdd, if_true, Bool.and_self, hμ, a1, a2, s2]
noncomputable def endsL (r : Rc) : List Eo := (if r.1 then [none] else []) ++ r.2.map some
theorem map_some_oD (es : List Int) : (es.map some).map oD = es.map D.int := by rw [List.map_map]; rfl
theorem pu_pad (l : List Eo) (h : l.length % 2 = 1) : pu (l ++ [none]) = pu l := by
  rw [← pu_range, ← pu_range]
  simp only [getD_pad, List.length_append, List.length_singleton]
  rw [show (l.length + 1 + 1) / 2 = (l.length + 1) / 2 by omega]
theorem tail_runs (l : List Eo) (hl : l.length ≤ 200) (d : D) (rest : Store) : finO ((sSeq (sIf (fB (fOp (eqR false) (fOp modD (fAr lenD (fCons (fVar 1) fNil)) (fK (.int 2))) (fK (.int 1))))
    (sDrop (fMt appD (fVar 1) (fCons (fK .non) fNil)))
    sNext)
    (sRet (fComp [1] 1 (fiR3 (fK (.int 0)) (fAr lenD (fCons (fVar 1) fNil)) (fK (.int 2))) (gNm 0) cYes (fTup (fCons (fOp ixD (fVar 1) (fVar 0)) (fCons (fOp ixD (fVar 1) (fOp addQ (fVar 0) (fK (.int 1)))) fNil)))))) [some (.v d), some (.p 0)] [.lst (l.map oD)]) = some (.fl ((pu l).map pD)) := by
  have z1 : (l.map oD).length < sizeLine := small' (by rw [List.length_map]; omega)
  have hk : ∀ m : Nat, m ≤ 200 → stepOk 0 ((2 * m : Nat) : Int) 2 := fun m hm => by unfold stepOk; omega
  have r3 : ∀ (l' : List Eo) (m : Nat), l'.length = 2 * m → m ≤ 200 → fiR3 (fK (.int 0)) (fAr lenD (fCons (fVar 1) fNil)) (fK (.int 2)) [some (.v d), some (.p 0)] [.lst (l'.map oD)] = some ((List.range m).map fun k => .int (0 + (k : Nat) * 2), [.lst (l'.map oD)]) := fun l' m h1 h2 => by
    have := iv_r3 (f := fK (.int 0)) (g := fAr lenD (fCons (fVar 1) fNil)) (h := fK (.int 2)) (ρ := [some (.v d), some (.p 0)]) (μ := [.lst (l'.map oD)]) (i := 0) (j := ((2 * m : Nat) : Int)) (k := 2) (μ1 := [.lst (l'.map oD)]) (μ2 := [.lst (l'.map oD)]) (μ3 := [.lst (l'.map oD)]) (by simp only [EV, Nat.reduceAdd, if_true, Bool.and_self]) (by simp only [EV, Nat.reduceAdd, if_true, Bool.and_self, List.length_map, h1]) (by simp only [EV, Nat.reduceAdd, if_true, Bool.and_self]) (hk m h2)
    rw [step_n] at this
    exact this
  have sz : ∀ m : Nat, m ≤ 200 → ((List.range m).map fun k : Nat => D.int (0 + (k : Nat) * 2)).length ≤ sizeLine := fun m h => small'' (by simp; omega)
  by_cases hp : l.length % 2 = 1
  · have e1 : (((l.map oD).length : Int) % 2 == 1) = true := by rw [List.length_map]; simp; omega
    have e2 : l.map oD ++ [.non] = (l ++ [none]).map oD := by simp [oD]
    have hl2 : (l ++ [none]).length = 2 * ((l.length + 1) / 2) := by simp; omega
    have c := fun x0 => comp_pairs (l ++ [none]) _ hl2 x0 0 [.lst ((l ++ [none]).map oD)] rfl
    rw [pu_pad l hp] at c
    simp only [EV, Nat.reduceAdd, if_true, Bool.and_self, ev_mod (j := 2) (by decide), e1, z1, e2, r3 _ _ hl2 (by omega), sz _ (by omega : (l.length + 1) / 2 ≤ 200), c]
  · have e1 : (((l.map oD).length : Int) % 2 == 1) = false := by rw [List.length_map]; simp; omega
    have hl2 : l.length = 2 * (l.length / 2) := by omega
    have c := fun x0 => comp_pairs l _ hl2 x0 0 [.lst (l.map oD)] rfl
    simp only [EV, Nat.reduceAdd, if_true, Bool.and_self, ev_mod (j := 2) (by decide), e1, r3 _ _ hl2 (by omega), sz _ (by omega : l.length / 2 ≤ 200), c]
theorem runs_eq (r : Rc) (hl : r.2.length ≤ 100) : m_runs_of [rD r] = some (.fl ((pu (endsL r)).map pD)) := by
  rw [u_runs_of]
  obtain ⟨b, es⟩ := r
  have hl' : es.length ≤ 100 := hl
  have z0 : (es.map D.int).length < sizeLine := small' (by rw [List.length_map]; omega)
  have T := tail_runs (endsL (b, es)) (by unfold endsL; cases b <;> simp <;> omega) (rD (b, es)) []
  cases b with
  | true =>
    have ee : D.non :: es.map D.int = (endsL (true, es)).map oD := by unfold endsL; simp only [if_true, List.singleton_append, List.map_cons, map_some_oD]; rfl
    simp only [b_runs_of, EV, Nat.reduceAdd, if_true, Bool.and_self, iv_p, iv_0, z0, ee]
    exact T
  | false =>
    have ee : es.map D.int = (endsL (false, es)).map oD := by unfold endsL; simp only [Bool.false_eq_true, if_false, List.nil_append, map_some_oD]
    rw [show rD (false, es) = .tup [.bl false, .tup (es.map D.int)] from rfl] at T ⊢
    simp only [b_runs_of, EV, Nat.reduceAdd, if_true, Bool.and_self, ee]
    simp only [ee] at T
    exact T
noncomputable def dueL : Bool → Eo → List Int → List (Eo × Eo)
  | t, low, [] => if t then [(low, none)] else []
  | t, low, e :: es => (if t then [(low, some e)] else []) ++ dueL (!t) (some e) es
theorem pu_due : ∀ (es : List Int) (t : Bool) (low : Eo), pu ((if t then [low] else []) ++ es.map some) = dueL t low es
  | [], t, low => by cases t <;> rfl
  | e :: es, true, low => by
    have := pu_due es false (some e)
    simp only [Bool.false_eq_true, if_false, List.nil_append] at this
    simp only [if_true, List.map_cons, List.singleton_append, pu, dueL, Bool.not_true, this]
  | e :: es, false, low => by
    have := pu_due es true (some e)
    simp only [if_true, List.singleton_append] at this
    simp only [Bool.false_eq_true, if_false, List.nil_append, List.map_cons, dueL, Bool.not_false, this]
noncomputable def dueS : List Int → (List (Eo × Eo) × Bool × Eo) → (List (Eo × Eo) × Bool × Eo)
  | [], s => s
  | e :: es, s => dueS es (s.1 ++ (if s.2.1 then [(s.2.2, some e)] else []), !s.2.1, some e)
theorem dueS_eq : ∀ (es : List Int) (s : List (Eo × Eo) × Bool × Eo), (dueS es s).1 ++ (if (dueS es s).2.1 then [((dueS es s).2.2, none)] else []) = s.1 ++ dueL s.2.1 s.2.2 es
  | [], s => rfl
  | e :: es, s => by rw [dueS, dueS_eq es]; simp only [dueL, List.append_assoc]
theorem due_eq (r : Rc) (hl : r.2.length ≤ 100) : m_law_due [rD r] = some (.fl ((dueL r.1 none r.2).map pD)) := by
  rw [u_law_due]
  have s2 : 2 ≤ sizeLine := by decide
  obtain ⟨⟨y4, s⟩, e, hd, hle⟩ := loop_inv (g := gNm 4) (b := l_law_due_0) (σ := Option R × (List (Eo × Eo) × Bool × Eo)) D.int
    (fun s => ([some (.v (rD r)), some (.p 0), some (.v (.bl s.2.2.1)), some (.v (oD s.2.2.2)), s.1], [.lst (s.2.1.map pD)]))
    (fun s rem => dueS rem s.2 = dueS r.2 ([], r.1, none) ∧ s.2.1.length + rem.length ≤ 100) r.2 (none, ([], r.1, none)) ⟨rfl, by simpa using hl⟩ (by
      rintro ⟨y4, l, t, low⟩ q rem ⟨hs, hn⟩
      simp only [List.length_cons] at hn
      have z : (l.map pD).length < sizeLine := small' (by rw [List.length_map]; omega)
      refine ⟨(some (.v (.int q)), (l ++ (if t then [(low, some q)] else []), !t, some q)), ?_, hs, by cases t <;> simp <;> omega⟩
      have em : (l.map pD) ++ [.tup [oD low, .int q]] = (l ++ [(low, some q)]).map pD := by simp [oD]
      have eq : oD (some q) = .int q := rfl
      cases t with
      | true => simp only [l_law_due_0, EV, Nat.reduceAdd, if_true, Bool.and_self, s2, z, em, eq]
      | false => simp only [l_law_due_0, EV, Nat.reduceAdd, if_true, Bool.and_self, eq, List.append_nil])
  obtain ⟨l, t, low⟩ := s
  have hd : ((l, t, low) : List (Eo × Eo) × Bool × Eo) = dueS r.2 ([], r.1, none) := hd
  have hle : l.length + 0 ≤ 100 := hle
  have key := dueS_eq r.2 ([], r.1, none)
  rw [← hd, List.nil_append] at key
  have z : (l.map pD).length < sizeLine := small' (by rw [List.length_map]; omega)
  simp only [oD] at e
  have e' : loop (gNm 4) l_law_due_0 (r.2.map D.int) [some (.v (rD r)), some (.p 0), some (.v (.bl r.1)), some (.v .non), none] [.lst []] = some (.nx [some (.v (rD r)), some (.p 0), some (.v (.bl t)), some (.v (oD low)), y4] [.lst (l.map pD)]) := e
  rw [← key]
  have em : (l.map pD) ++ [.tup [oD low, .non]] = (l ++ [(low, none)]).map pD := by simp [oD]
  simp only [b_law_due, EV, Nat.reduceAdd, if_true, Bool.and_self, e']
  cases t with
  | true => simp only [EV, Nat.reduceAdd, if_true, Bool.and_self, s2, z, em]
  | false => simp only [EV, Nat.reduceAdd, if_true, Bool.and_self, List.append_nil]
noncomputable def loB (p : Int) : Eo → Bool
  | none => true
  | some l => decide (l ≤ p)
noncomputable def hiB (p : Int) : Eo → Bool
  | none => true
  | some h => decide (p < h)
noncomputable def inP (p : Int) (q : Eo × Eo) : Bool := loB p q.1 && hiB p q.2
theorem out_low (p : Int) : ∀ (es : List Int) (t : Bool) (l : Int), p < l → (l :: es).Pairwise (· < ·) → (dueL t (some l) es).any (inP p) = false
  | [], t, l, h, _ => by
    have : decide (l ≤ p) = false := by simp; omega
    cases t <;> simp [dueL, inP, loB, this]
  | e :: es, t, l, h, hp => by
    obtain ⟨h1, h2⟩ := List.pairwise_cons.mp hp
    have he := h1 e (by simp)
    have ih := out_low p es (!t) e (by omega) h2
    have : decide (l ≤ p) = false := by simp; omega
    cases t <;> simp only [dueL, List.any_append, ih, Bool.or_false] <;> simp [inP, loB, this]
theorem in_due (p : Int) : ∀ (es : List Int) (t : Bool) (low : Eo), (∀ l, low = some l → l ≤ p) → es.Pairwise (· < ·) → (dueL t low es).any (inP p) = par t (cnt (t, es) p)
  | [], t, low, h, _ => by
    have h1 : loB p low = true := by
      cases low with
      | none => rfl
      | some l => simp [loB, h l rfl]
    cases t
    · rfl
    · simp only [dueL, if_true, List.any_cons, List.any_nil, Bool.or_false, inP, h1, hiB]; rfl
  | e :: es, t, low, h, hp => by
    obtain ⟨h1, h2⟩ := List.pairwise_cons.mp hp
    by_cases he : e ≤ p
    · have ih := in_due p es (!t) (some e) (fun l q => by cases q; exact he) h2
      have c1 : cnt (t, e :: es) p = cnt (!t, es) p + 1 := by unfold cnt; rw [List.filter_cons, if_pos (by simpa using he)]; rfl
      have c2 : (if t = true then [(low, some e)] else []).any (inP p) = false := by
        have : decide (p < e) = false := by simp; omega
        cases t <;> simp [inP, loB, hiB, this]
      rw [dueL, List.any_append, c2, Bool.false_or, ih, c1]
      unfold par
      have : (cnt (!t, es) p : Int) % 2 = 0 ∨ (cnt (!t, es) p : Int) % 2 = 1 := by omega
      rcases this with h | h
      · have h' : ((cnt (!t, es) p + 1 : Nat) : Int) % 2 = 1 := by omega
        rw [h, h']; cases t <;> rfl
      · have h' : ((cnt (!t, es) p + 1 : Nat) : Int) % 2 = 0 := by omega
        rw [h, h']; cases t <;> rfl
    · have c1 : cnt (t, e :: es) p = 0 := by
        unfold cnt
        rw [List.length_eq_zero_iff, List.filter_eq_nil_iff]
        intro x hx
        rcases List.mem_cons.mp hx with rfl | hx
        · simpa using he
        · have := h1 x hx; simp; omega
      have o := out_low p es (!t) e (by omega) hp
      have hlo : loB p low = true := by
        cases low with
        | none => rfl
        | some l => simp [loB, h l rfl]
      rw [dueL, List.any_append, o, Bool.or_false, c1]
      cases t
      · rfl
      · have : decide (p < e) = true := by simp; omega
        simp only [if_true, List.any_cons, List.any_nil, Bool.or_false, inP, hlo, hiB, this]; rfl
theorem kn0 {μ : Store} : isK false .non (.v .non) μ = some (.v (.bl true), μ) := rfl
theorem kn1 {μ : Store} {i : Int} : isK false .non (.v (.int i)) μ = some (.v (.bl false), μ) := rfl
theorem kn2 {μ : Store} : isK true .non (.v .non) μ = some (.v (.bl false), μ) := rfl
theorem kn3 {μ : Store} {i : Int} : isK true .non (.v (.int i)) μ = some (.v (.bl true), μ) := rfl
theorem within_loop (d : D) (p : Int) (μ : Store) : ∀ (l : List (Eo × Eo)) (x2 x3 : Option R), (∃ y2 y3, loop (gTp 2 (gsCons (gNm 2) (gsCons (gNm 3) gsNil))) l_law_within_0 (l.map pD) [some (.v d), some (.v (.int p)), x2, x3] μ = if l.any (inP p) then some (.rt (.v (.bl true)) μ) else some (.nx [some (.v d), some (.v (.int p)), y2, y3] μ))
  | [], x2, x3 => ⟨x2, x3, rfl⟩
  | (a, b) :: l, x2, x3 => by
    obtain ⟨y2, y3, ih⟩ := within_loop d p μ l (some (.v (oD a))) (some (.v (oD b)))
    have e2 : ([oD a, oD b] : List D).length = 2 := rfl
    have hb : thG (gTp 2 (gsCons (gNm 2) (gsCons (gNm 3) gsNil)) (.v (pD (a, b))) [some (.v d), some (.v (.int p)), x2, x3] μ) l_law_within_0 = if inP p (a, b) then some (.rt (.v (.bl true)) μ) else some (.nx [some (.v d), some (.v (.int p)), some (.v (oD a)), some (.v (oD b))] μ) := by
      cases a with
      | none => cases b with
        | none => simp only [l_law_within_0, EV, Nat.reduceAdd, if_true, Bool.and_self, e2, oD, inP, loB, hiB, kn0]
        | some h => cases hq : decide (p < h) <;> simp only [l_law_within_0, EV, Nat.reduceAdd, if_true, Bool.and_self, e2, oD, inP, loB, hiB, kn0, kn1, hq, Bool.and_false, Bool.and_true, Bool.false_eq_true, if_false]
      | some l => cases b with
        | none => cases hr : decide (l ≤ p) <;> simp only [l_law_within_0, EV, Nat.reduceAdd, if_true, Bool.and_self, e2, oD, inP, loB, hiB, kn0, kn1, hr, Bool.and_false, Bool.and_true, Bool.false_and, Bool.false_eq_true, if_false]
        | some h => cases hr : decide (l ≤ p) <;> cases hq : decide (p < h) <;> simp only [l_law_within_0, EV, Nat.reduceAdd, if_true, Bool.and_self, e2, oD, inP, loB, hiB, kn0, kn1, hr, hq, Bool.and_false, Bool.and_true, Bool.false_and, Bool.false_eq_true, if_false]
    rw [List.map_cons, loop_cons, hb, List.any_cons]
    cases inP p (a, b) with
    | true => exact ⟨y2, y3, by simp only [Bool.true_or, if_true, lp_rt]⟩
    | false => exact ⟨y2, y3, by simp only [Bool.false_or, Bool.false_eq_true, if_false, lp_nx, ih]⟩
theorem within_eq (l : List (Eo × Eo)) (p : Int) : m_law_within [.fl (l.map pD), .int p] = some (.bl (l.any (inP p))) := by
  rw [u_law_within]
  obtain ⟨y2, y3, e⟩ := within_loop (.fl (l.map pD)) p [] l none none
  simp only [b_law_within, EV, Nat.reduceAdd, if_true, Bool.and_self, e]
  cases l.any (inP p) <;> rfl
theorem eqs_pD : ∀ (l : List (Eo × Eo)), eqDs (l.map pD) (l.map pD) = true
  | [] => rfl
  | (a, b) :: l => by
    have h : ∀ a : Eo, eqD (oD a) (oD a) = true := fun a => by cases a <;> simp [oD, eqD]
    simp [eqDs, eqD, h, eqs_pD l]
theorem ok_pDs : ∀ (l : List (Eo × Eo)), okDs 59 (l.map pD) = true
  | [] => rfl
  | (a, b) :: l => by
    have h : ∀ a : Eo, okD 58 (oD a) = true := fun a => by cases a <;> rfl
    exact oks_cons (ok_tup (oks_cons (h a) (oks_cons (h b) oks_nil))) (ok_pDs l)
theorem whole_eq (x : Int) : m_law_whole [.int x] = some (.bl true) := by
  rw [u_law_whole]
  have i1 : ∀ μ : Store, isiD "int" (.v (.int x)) μ = some (.v (.bl true), μ) := fun _ => rfl
  have i2 : ∀ μ : Store, isiD "bool" (.v (.int x)) μ = some (.v (.bl false), μ) := fun _ => rfl
  simp only [b_law_whole, EV, Nat.reduceAdd, if_true, Bool.and_self, i1, i2]
theorem pairs_eq (l : List (Eo × Eo)) : m_law_pairs [.fl (l.map pD), .fl (l.map pD)] = some (.bl true) := by
  rw [u_law_pairs]
  have i1 : ∀ μ : Store, isiD "list" (.v (.fl (l.map pD))) μ = some (.v (.bl true), μ) := fun _ => rfl
  have i2 : ∀ (xs : List D) (μ : Store), isiD "tuple" (.v (.tup xs)) μ = some (.v (.bl true), μ) := fun _ _ => rfl
  have t2 : (((2 : Nat) : Int) == 2) = true := rfl
  have l2 : ∀ a b : D, ([a, b] : List D).length = 2 := fun _ _ => rfl
  obtain ⟨⟨y2, y3⟩, e, -⟩ := loop_inv (g := gNm 2) (b := l_law_pairs_1) (σ := Option R × Option R) pD
    (fun s => ([some (.v (.fl (l.map pD))), some (.v (.fl (l.map pD))), s.1, s.2], [])) (fun _ _ => True) l (none, none) trivial (by
      rintro ⟨y2, y3⟩ ⟨a, b⟩ rem -
      refine ⟨(some (.v (pD (a, b))), some (.v (oD b))), ?_, trivial⟩
      cases a <;> cases b <;> simp only [l_law_pairs_1, l_law_pairs_0, EV, Nat.reduceAdd, if_true, Bool.and_self, i2, l2, oD, kn2, kn3, loop_cons, whole_eq, beq_self_eq_true, t2])
  have ok : okD 60 (.fl (l.map pD)) = true := ok_fl (ok_pDs l)
  have eq : eqD (.fl (l.map pD)) (.fl (l.map pD)) = true := by rw [eqD]; exact eqs_pD l
  simp only at e
  simp only [b_law_pairs, EV, Nat.reduceAdd, if_true, Bool.and_self, i1, beq_self_eq_true, e, ok, eq]
theorem one_reach (bt : Bool) (ns : D) (r : Rc) (h : RcOk r) (x2 x3 : Option R) (μ : Store) : ∃ y2 y3 μ', l_law_1 bt [some (.v ns), some (.v (rD r)), x2, x3] μ = some (.nx [some (.v ns), some (.v (rD r)), y2, y3] μ') := by
  obtain ⟨ms, hms⟩ := points_ex bt r h.len
  have hl : r.2.length ≤ 100 := Nat.le_trans h.len (by decide)
  have bb : ∀ b : Bool, (!(b == b)) = false := fun b => by cases b <;> rfl
  have hr := runs_eq r hl
  have hd := due_eq r hl
  have key : pu (endsL r) = dueL r.1 none r.2 := pu_due r.2 r.1 none
  rw [key] at hr
  have hin : ∀ p, (dueL r.1 none r.2).any (inP p) = lieB r p := fun p => by rw [in_due p r.2 r.1 none (fun l q => by cases q) h.up]; exact (lie_par r p _ rfl).symm
  have hc : ∃ ms' : List Int, ∀ μ : Store, cutD (ms.map D.int) none (some 60) = ms'.map D.int := ⟨_, fun _ => by unfold cutD; rw [← List.map_drop, ← List.map_take]⟩
  obtain ⟨ms', hc⟩ := hc
  obtain ⟨y3, e, -⟩ := loop_inv (g := gNm 3) (b := l_law_0 bt) (σ := Option R) D.int (fun s => ([some (.v ns), some (.v (rD r)), some (.v (.fl ((dueL r.1 none r.2).map pD))), s], μ ++ [.fz [rD r]] ++ [.fz (ms'.map D.int)])) (fun _ _ => True) ms' x3 trivial (by
    rintro y3 q rem -
    refine ⟨some (.v (.int q)), ?_, trivial⟩
    simp only [l_law_0, EV, Nat.reduceAdd, if_true, Bool.and_self, within_eq, lawin_eq r _ hl, hin, bb])
  have s1 : 1 ≤ sizeLine := by decide
  have fz1 : ∀ σ : Store, (σ ++ [Cell.lst [rD r]]).set σ.length (.fz [rD r]) = σ ++ [.fz [rD r]] := fun σ => by simp
  have fz2 : ∀ σ : Store, (σ ++ [Cell.lst (ms'.map D.int)]).set σ.length (.fz (ms'.map D.int)) = σ ++ [.fz (ms'.map D.int)] := fun σ => by simp
  simp only at e
  simp only [l_law_1, EV, Nat.reduceAdd, if_true, Bool.and_self, hr, hd, pairs_eq, s1, gend, fz1, hms, hc μ, fz2, e]
  exact ⟨_, _, _, rfl⟩
theorem law_true (bt : Bool) (ns : List Int) (hl : ns.length ≤ 63) : m_law bt [.fl (ns.map .int)] = some (.bl true) := by
  rw [u_law]
  obtain ⟨r1, e1, o1⟩ := reach_ok ns 0
  obtain ⟨r2, e2, o2⟩ := long_ok ns hl
  have s2 : 2 ≤ sizeLine := by decide
  obtain ⟨y2, y3, μ1, q1⟩ := one_reach bt (.fl (ns.map .int)) r1 o1 none none [.fz [rD r1, rD r2]]
  obtain ⟨z2, z3, μ2, q2⟩ := one_reach bt (.fl (ns.map .int)) r2 o2 y2 y3 μ1
  have hlp : loop (gNm 1) (l_law_1 bt) [rD r1, rD r2] [some (.v (.fl (ns.map .int))), none, none, none] [.fz [rD r1, rD r2]] = some (.nx [some (.v (.fl (ns.map .int))), some (.v (rD r2)), z2, z3] μ2) := by
    rw [loop_cons, ev_gnm, ev_G]
    simp only [ls_set0, ls_sets]
    rw [q1, lp_nx, loop_cons, ev_gnm, ev_G]
    simp only [ls_set0, ls_sets]
    rw [q2, lp_nx, loop_nil]
  simp only [b_law, EV, Nat.reduceAdd, if_true, Bool.and_self, e1, e2, s2]
  rw [hlp]
  simp only [EV, Nat.reduceAdd, if_true, Bool.and_self]
end LW
open PySem PySem.W PyProof.Rows
set_option maxRecDepth 100000 in
set_option maxHeartbeats 0 in
theorem PySem.Challenge.cw_heldwhen_k06_runs_holds : PySem.Challenge.rw_heldwhen_k06_runs.Holds := by
  w_on; o_law; k_head; (case hw => w_witness2)
  k_fill
  refine L2.walk_ofK (l := PySem.Challenge.rw_heldwhen_k06_runs) (n := 63) (k := 4) (x := "script") (CX := L2.CX0) (sp := fun K => (fun vs H Q E => ∀ b, HW.spP K 1 (LW.m_law b) vs H Q E)) rfl (by decide) rfl ⟨rfl, by decide, by decide⟩ (fun w h Y => PySem.W.kIn_of Y) ?F (fun K H a ns hl hO hS => fun b => HW.law_sp hO hS (LW.law_true b ns hl)) fun _ _ _ _ z => z
  case F =>
    intro w mg fa h KX G hmg
    refine' LW.all_mk KX G hmg ?a0 ?l0 ?c0 ?k0 ?a1 ?l1 ?c1 ?k1 ?a2 ?l2 ?c2 ?k2 ?a3 ?l3 ?c3 ?k3 ?a4 ?l4 ?c4 ?k4 ?a5 ?l5 ?c5 ?k5 ?a6 ?l6 ?c6 ?k6 ?a7 ?l7 ?c7 ?k7 ?a8 ?l8 ?c8 ?k8 ?a9 ?l9 ?c9 ?k9 ?a10 ?l10 ?c10 ?k10 ?a11 ?l11 ?c11 ?k11 ?z0 ?z1 ?z2 ?z3 ?z4 ?z5 ?z6 ?z7 ?z8
    (case a0 => k_is)
    (case l0 => k_is)
    (case c0 => k_is)
    (case k0 => k_is)
    (case a1 => k_is)
    (case l1 => k_is)
    (case c1 => k_is)
    (case k1 => k_is)
    (case a2 => k_is)
    (case l2 => k_is)
    (case c2 => k_is)
    (case k2 => k_is)
    (case a3 => k_is)
    (case l3 => k_is)
    (case c3 => k_is)
    (case k3 => k_is)
    (case a4 => k_is)
    (case l4 => k_is)
    (case c4 => k_is)
    (case k4 => k_is)
    (case a5 => k_is)
    (case l5 => k_is)
    (case c5 => k_is)
    (case k5 => k_is)
    (case a6 => k_is)
    (case l6 => k_is)
    (case c6 => k_is)
    (case k6 => k_is)
    (case a7 => k_is)
    (case l7 => k_is)
    (case c7 => k_is)
    (case k7 => k_is)
    (case a8 => k_is)
    (case l8 => k_is)
    (case c8 => k_is)
    (case k8 => k_is)
    (case a9 => k_is)
    (case l9 => k_is)
    (case c9 => k_is)
    (case k9 => k_is)
    (case a10 => k_is)
    (case l10 => k_is)
    (case c10 => k_is)
    (case k10 => k_is)
    (case a11 => k_is)
    (case l11 => k_is)
    (case c11 => k_is)
    (case k11 => k_is)
    (case z0 => k_is)
    (case z1 => k_is)
    (case z2 => k_is)
    (case z3 => k_is)
    (case z4 => k_is)
    (case z5 => k_is)
    (case z6 => k_is)
    (case z7 => k_is)
    (case z8 => k_is)