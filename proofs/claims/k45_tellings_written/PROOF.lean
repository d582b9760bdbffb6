import PyProof.Rows.All
import Wide.All
import OpenK.AllK
import Wide.FinOn
import Lean
import PyProof.EqAt
import PyProof.EqKinds
import PyProof.TupleCall
import PyProof.IsiH_tuple
import PyProof.NsDelKeeps
import PyProof.FString4
import PyProof.ExcBaseAll.ValueError
import PyProof.ForAny
import KE.KIsAll
import PyProof.StrWalks
import PyProof.SliceStr2
import PyProof.StrBlockI
import KE.KIntText
import PyProof.StrCalls2
import PyProof.StrLawsTight
import PySem.Challenge.RW_heldwhen_k45_tellings_written
set_option Elab.async false
set_option linter.all false
set_option maxRecDepth 100000
namespace L2
open PySem PySem.Spec PyProof.Rows
abbrev Key := Sum Int Str
def keyIs : Key → Value → Bool
  | .inl k, v => Value.isInt k v
  | .inr x, v => Value.isStrOf x v
def keyH (w : World) : Key → Int
  | .inl k => hashInt k
  | .inr x => hashStr w x
theorem keyIs_shape : ∀ {k : Key} {v : Value}, keyIs k v = true → (∃ i t, k = Sum.inl i ∧ v = Value.int i t) ∨ (∃ x t, k = Sum.inr x ∧ v = Value.str x t)
  | .inl i, v, h => by
    obtain ⟨t, e⟩ := Value.isInt_shape (k := i) (v := v) h
    exact .inl ⟨i, t, rfl, e⟩
  | .inr x, v, h => by
    obtain ⟨t, e⟩ := Value.isStrOf_shape (x := x) (v := v) h
    exact .inr ⟨x, t, rfl, e⟩
theorem key_ll (a b : Int) : decide ((Sum.inl a : Key) = Sum.inl b) = (a == b) := by
  by_cases e : a = b
  · subst e; simp
  · have h : ¬ (Sum.inl a : Key) = Sum.inl b := fun q => e (Sum.inl.inj q)
    rw [decide_eq_false h]
    exact (beq_eq_false_iff_ne.mpr e).symm
theorem key_rr (a b : Str) : decide ((Sum.inr a : Key) = Sum.inr b) = decide (a = b) := by
  by_cases e : a = b
  · subst e; simp
  · have h : ¬ (Sum.inr a : Key) = Sum.inr b := fun q => e (Sum.inr.inj q)
    rw [decide_eq_false h, decide_eq_false e]
theorem key_lr (a : Int) (b : Str) : decide ((Sum.inl a : Key) = Sum.inr b) = false := decide_eq_false (fun q => nomatch q)
theorem key_rl (a : Str) (b : Int) : decide ((Sum.inr a : Key) = Sum.inl b) = false := decide_eq_false (fun q => nomatch q)
def mixKind (prog : Program) (w : World) : PySem.KeyKind prog w Key where
  is := keyIs
  hash := keyH w
  inj := fun v a b ha hb => by
    rcases keyIs_shape ha with ⟨i, t, rfl, rfl⟩ | ⟨x, t, rfl, rfl⟩
    · rcases keyIs_shape hb with ⟨j, u, rfl, e⟩ | ⟨y, u, rfl, e⟩
      · injection e with e1 _; rw [e1]
      · exact nomatch e
    · rcases keyIs_shape hb with ⟨j, u, rfl, e⟩ | ⟨y, u, rfl, e⟩
      · exact nomatch e
      · injection e with e1 _; rw [e1]
  byValue := fun k v h => by
    rcases keyIs_shape h with ⟨i, t, rfl, rfl⟩ | ⟨x, t, rfl, rfl⟩ <;> rfl
  pyHash := fun hv h => by
    rcases keyIs_shape hv with ⟨i, t, rfl, rfl⟩ | ⟨x, t, rfl, rfl⟩
    · exact wpAny_pyHash_int h
    · exact wpAny_pyHash_str h
  eqBool := fun hu hv h => by
    rcases keyIs_shape hu with ⟨i, t, rfl, rfl⟩ | ⟨x, t, rfl, rfl⟩
    · rcases keyIs_shape hv with ⟨j, u, rfl, rfl⟩ | ⟨y, u, rfl, rfl⟩
      · rw [key_ll] at h; exact wpAny_eqBool_int h
      · rw [key_lr] at h; exact SeqAt.EqAt.int_str i t y u _ _ _ _ h
    · rcases keyIs_shape hv with ⟨j, u, rfl, rfl⟩ | ⟨y, u, rfl, rfl⟩
      · rw [key_rl] at h; exact SeqAt.EqAt.str_int x t j u _ _ _ _ h
      · rw [key_rr] at h; exact wpAny_eqBool_str h
  «strs» := fun k x t v h => by
    rcases keyIs_shape h with ⟨i, u, rfl, e⟩ | ⟨y, u, rfl, e⟩
    · exact nomatch e
    · injection e with e1 _
      subst e1
      cases v <;> rfl
end L2
namespace L2
open PySem PySem.Spec PyProof.Rows
inductive V where
  | non | bl (b : Bool) | int (i : Int) | str (x : Str) | byt (b : Array UInt8) | flt (b : UInt64) | ref (a : Addr) | ty (n : String)
  deriving DecidableEq
def RelV : V → Value → Prop
  | .non, u => u = Value.none
  | .bl b, u => u = Value.bool b
  | .int i, u => ∃ t, u = Value.int i t
  | .str x, u => ∃ t, u = Value.str x t
  | .byt b, u => ∃ t, u = Value.bytes b t
  | .flt b, u => ∃ t, u = Value.float b t
  | .ref a, u => u = Value.ref a
  | .ty n, u => u = Value.type n
abbrev Vals : List V → List Value → Prop := Paired RelV
theorem Vals.length {xs : List V} {us : List Value} (r : Vals xs us) : xs.length = us.length := Paired.length r
theorem Vals.get : ∀ {xs : List V} {us : List Value} {i : Nat} {x : V}, Vals xs us → xs[i]? = some x → ∃ u, us[i]? = some u ∧ RelV x u
  | _, _, _, _, .nil, e => by simp at e
  | _, _, 0, _, .cons r _, e => by simp at e; subst e; exact ⟨_, rfl, r⟩
  | _, _, i + 1, x, .cons _ t, e => by
    obtain ⟨u, h1, h2⟩ := Vals.get (i := i) (x := x) t (by simpa using e)
    exact ⟨u, by simpa using h1, h2⟩
theorem Vals.set {x : V} {u : Value} (r : RelV x u) : ∀ {xs : List V} {us : List Value} (i : Nat), Vals xs us → Vals (xs.set i x) (us.set i u)
  | _, _, _, .nil => .nil
  | _, _, 0, .cons _ t => .cons r t
  | _, _, i + 1, .cons q t => .cons q (Vals.set r i t)
theorem Vals.append : ∀ {xs ys : List V} {us ws : List Value}, Vals xs us → Vals ys ws → Vals (xs ++ ys) (us ++ ws)
  | _, _, _, _, .nil, s => s
  | _, _, _, _, .cons r t, s => .cons r (Vals.append t s)
theorem Vals.take : ∀ {xs : List V} {us : List Value} (n : Nat), Vals xs us → Vals (xs.take n) (us.take n)
  | _, _, 0, _ => .nil
  | _, _, _ + 1, .nil => .nil
  | _, _, n + 1, .cons r t => .cons r (Vals.take n t)
theorem Vals.drop : ∀ {xs : List V} {us : List Value} (n : Nat), Vals xs us → Vals (xs.drop n) (us.drop n)
  | _, _, 0, r => r
  | _, _, _ + 1, .nil => .nil
  | _, _, n + 1, .cons _ t => Vals.drop n t
def RelO : Option V → Option Value → Prop
  | some v, some u => RelV v u
  | none, none => True
  | _, _ => False
def KV {κ : Type} : List (κ × V) → List (κ × Value) → Prop := Paired fun (p : κ × V) (q : κ × Value) => p.1 = q.1 ∧ RelV p.2 q.2
def kV : Key → V
  | .inl i => .int i
  | .inr x => .str x
inductive HO where
  | lst (xs : List V)
  | tup (xs : List V)
  | dK (kvs : List (Key × V)) | dT (kvs : List (List Key × V))
  | set (S : Int → Bool) (n : Nat)
  | ins (C dx : Addr) (fs : List (Str × V))
  | own (x : Addr)
  | xd (fs : List (Str × V))
  | met (f x : Addr)
  | rng (lo hi : Int)
  | frz (o : Obj) (u : HO)
  | tbl (ps : Array Value)
  | ext (φ : Heap → Prop)
abbrev Hp := Addr → Option HO
def upd (H : Hp) (a : Addr) (o : HO) : Hp := fun b => if b = a then some o else H b
theorem upd_same {H : Hp} {a : Addr} {o : HO} : upd H a o a = some o := by unfold upd; rw [if_pos rfl]
theorem upd_ne {H : Hp} {a b : Addr} {o : HO} (h : b ≠ a) : upd H a o b = H b := by unfold upd; rw [if_neg h]
theorem ne_of_none {H : Hp} {a b : Addr} {o : HO} (h : H a = some o) (h' : H b = none) : a ≠ b := by
  intro e; subst e; rw [h] at h'; cases h'
def IsTupD (h : Heap) (a : Addr) (items : Array Value) : Prop := IsTup h a items ∧ ∀ o, h.get? a = some o → o.dict = none
theorem IsTupD.new (h : Heap) (items : Array Value) : IsTupD (h.push { cls := .type "tuple", data := .seq items }) h.objs.size items := ⟨IsTup.new _ _, fun o e => by rw [Heap.get?_push_size _ rfl] at e; cases e; rfl⟩
section
variable (P : Program) (w : World)
def ObjOk (H : Hp) (h : Heap) (a : Addr) : HO → Prop
  | .lst xs => xs.length ≤ sizeLine ∧ ∃ (its : List Value) (n : Nat), Vals xs its ∧ h.get? a = some { cls := .type "list", data := .seq its.toArray n }
  | .tup xs => xs.length ≤ sizeLine ∧ ∃ its : List Value, Vals xs its ∧ IsTupD h a its.toArray
  | .dK kvs => kvs.length ≤ sizeLine ∧ (a == sysModules) = false ∧ ∃ vs, KV kvs vs ∧ h.DictOf (mixKind P w) a vs
  | .dT kvs => kvs.length ≤ sizeLine ∧ (a == sysModules) = false ∧ ∃ xs : List (List Key × Addr × Value),
      Paired (fun (p : List Key × V) (q : List Key × Addr × Value) => p.1 = q.1 ∧ H q.2.1 = some (.tup (p.1.map kV)) ∧ RelV p.2 q.2.2) kvs xs ∧
      ∃ o es ep, h.get? a = some o ∧ o.ExactDict ∧ o.data = .dict es ep ∧ es.toList = xs.map (entryOfKey (tupleKind (mixKind P w))) ∧ (xs.map (·.1)).Nodup
  | .set S n => h.SetOf (intKind P w) a S n
  | .ins C dx fs => H dx = some (.own a) ∧ fs.length ≤ 1000 ∧ dx ≠ a ∧ h.get? a = some (PySem.W.instObj C dx) ∧
      ∃ mA, h.Ns1 dx mA ∧ (∀ f, RelO (fs.lookup f) (mA f)) ∧ PySem.Within mA (fs.map (·.1))
  | .own _ => ∃ o, h.get? a = some o
  | .xd fs => ∃ mA, h.Ns1 a mA ∧ ∀ f, RelO (fs.lookup f) (mA f)
  | .rng lo hi => ∃ t u v, h.get? a = some { cls := .type "range", data := .fields #[.int lo t, .int hi u, .int 1 v] }
  | .frz o u => h.get? a = some o ∧ ObjOk H h a u
  | .tbl ps => h.get? a = some { cls := .none, data := .fields ps }
  | .met f x => h.get? a = some (PySem.W.methodObj (.ref f) (.ref x))
  | .ext φ => φ h ∧ (∃ o, h.get? a = some o) ∧ ∀ h1 h2 : Heap, φ h1 → (∀ o, h1.get? a = some o → h2.get? a = some o) → φ h2
def HOk (H : Hp) (h : Heap) : Prop := ∀ a o, H a = some o → ObjOk P w H h a o
end
section
variable {P : Program} {w : World} {H H' : Hp} {h h' : Heap} {a : Addr} {o : HO}
theorem ObjOk.lt (x : ObjOk P w H h a o) : a < h.objs.size := by
  cases o with
  | lst xs => obtain ⟨_, _, _, _, e⟩ := x; exact Heap.lt_size e
  | tup xs => obtain ⟨_, _, _, p⟩ := x; exact p.1.lt
  | dK kvs => obtain ⟨_, _, _, _, o, _, _, e, _⟩ := x; exact Heap.lt_size e
  | dT kvs => obtain ⟨_, _, _, _, o, _, _, e, _⟩ := x; exact Heap.lt_size e
  | set S n => obtain ⟨o, _, _, _, e, _⟩ := x; exact Heap.lt_size e
  | ins C dx fs => obtain ⟨_, _, _, e, _⟩ := x; exact Heap.lt_size e
  | own y => obtain ⟨_, e⟩ := x; exact Heap.lt_size e
  | xd fs => obtain ⟨_, ⟨_, _, _, e, _⟩, _⟩ := x; exact Heap.lt_size e
  | rng lo hi => obtain ⟨_, _, _, e⟩ := x; exact Heap.lt_size e
  | frz ob u => obtain ⟨e, _⟩ := x; exact Heap.lt_size e
  | tbl ps => exact Heap.lt_size (show h.get? a = some _ from x)
  | met f y => exact Heap.lt_size (show h.get? a = some _ from x)
  | ext φ => obtain ⟨_, ⟨_, e⟩, _⟩ := x; exact Heap.lt_size e
theorem Paired.mapP {α β : Type} {F G : α → β → Prop} : ∀ {l₁ : List α} {l₂ : List β}, Paired F l₁ l₂ → (∀ a b, F a b → G a b) → Paired G l₁ l₂
  | _, _, .nil, _ => .nil
  | _, _, .cons r t, f => .cons (f _ _ r) (Paired.mapP t f)
theorem ObjOk.stay (x : ObjOk P w H h a o) (k : ∀ b u, (b = a ∨ H b = some (.own a)) → h.get? b = some u → h'.get? b = some u)
    (ho : ∀ b, H b = some (.own a) → H' b = some (.own a)) (ht : ∀ b xs, H b = some (.tup xs) → H' b = some (.tup xs)) : ObjOk P w H' h' a o := by
  induction o with
  | lst xs => obtain ⟨z, its, n, r, e⟩ := x; exact ⟨z, its, n, r, k _ _ (.inl rfl) e⟩
  | tup xs => obtain ⟨z, its, r, ⟨ob, e, c⟩, dn⟩ := x; exact ⟨z, its, r, ⟨ob, k _ _ (.inl rfl) e, c⟩, fun o q => by rw [k _ _ (.inl rfl) e] at q; cases q; exact dn _ e⟩
  | dK kvs => obtain ⟨z, y, vs, r, ob, es, ep, e, c⟩ := x; exact ⟨z, y, vs, r, ob, es, ep, k _ _ (.inl rfl) e, c⟩
  | dT kvs =>
    obtain ⟨z, y, xs, r, ob, es, ep, e, c⟩ := x
    exact ⟨z, y, xs, Paired.mapP r fun p q z => ⟨z.1, ht _ _ z.2.1, z.2.2⟩, ob, es, ep, k _ _ (.inl rfl) e, c⟩
  | set S n => obtain ⟨ob, es, ep, t, e, c⟩ := x; exact ⟨ob, es, ep, t, k _ _ (.inl rfl) e, c⟩
  | ins C dx fs =>
    obtain ⟨d, z, ne, e, mA, ⟨od, es, ep, e2, c⟩, r⟩ := x
    exact ⟨ho _ d, z, ne, k _ _ (.inl rfl) e, mA, ⟨od, es, ep, k _ _ (.inr d) e2, c⟩, r⟩
  | own y => obtain ⟨ob, e⟩ := x; exact ⟨ob, k _ _ (.inl rfl) e⟩
  | xd fs => obtain ⟨mA, ⟨od, es, ep, e, c⟩, r⟩ := x; exact ⟨mA, ⟨od, es, ep, k _ _ (.inl rfl) e, c⟩, r⟩
  | rng lo hi => obtain ⟨t, u, v, e⟩ := x; exact ⟨t, u, v, k _ _ (.inl rfl) e⟩
  | frz ob u ih => obtain ⟨e, q⟩ := x; exact ⟨k _ _ (.inl rfl) e, ih q⟩
  | tbl ps =>
    have e : h.get? a = some { cls := .none, data := .fields ps } := x
    show h'.get? a = some { cls := .none, data := .fields ps }
    exact k a _ (.inl rfl) e
  | met f y =>
    have e : h.get? a = some (PySem.W.methodObj (.ref f) (.ref y)) := x
    show h'.get? a = some (PySem.W.methodObj (.ref f) (.ref y))
    exact k a _ (.inl rfl) e
  | ext φ => obtain ⟨p, ⟨o, e⟩, st⟩ := x; exact ⟨st _ _ p fun o q => k _ _ (.inl rfl) q, ⟨o, k _ _ (.inl rfl) e⟩, st⟩
theorem HOk.lt (x : HOk P w H h) (e : H a = some o) : a < h.objs.size := (x a o e).lt
theorem HOk.fresh (x : HOk P w H h) (e : h.objs.size ≤ a) : H a = none := by
  cases q : H a with
  | none => rfl
  | some u => exact absurd (Nat.lt_of_lt_of_le (x.lt q) e) (Nat.lt_irrefl _)
theorem HOk.kept (x : HOk P w H h) (k : ∀ b u, h.get? b = some u → h'.get? b = some u) : HOk P w H h' := fun a o e =>
  (x a o e).stay (fun b u _ q => k b u q) (fun _ q => q) fun _ _ q => q
theorem HOk.laid (x : HOk P w H h) (k : ∀ b u, h.get? b = some u → h'.get? b = some u) (hp : h.objs.size ≤ a) (new : ObjOk P w (upd H a o) h' a o) : HOk P w (upd H a o) h' := fun b u e => by
  have hn := x.fresh hp
  by_cases hb : b = a
  · subst hb; rw [upd_same] at e; cases e; exact new
  · rw [upd_ne hb] at e
    exact (x b u e).stay (fun c v _ q => k c v q) (fun c q => by rw [upd_ne (ne_of_none q hn)]; exact q) fun c xs q => by rw [upd_ne (ne_of_none q hn)]; exact q
end
def Rd (H : Hp) (a : Addr) (u : HO) : Prop := H a = some u ∨ ∃ o, H a = some (.frz o u)
theorem Rd.of {H : Hp} {a : Addr} {u : HO} (h : H a = some u) : Rd H a u := .inl h
theorem Rd.ok {P : Program} {w : World} {H : Hp} {h : Heap} {a : Addr} {u : HO} (r : Rd H a u) (x : HOk P w H h) : ObjOk P w H h a u := by
  rcases r with r | ⟨o, r⟩
  · exact x a u r
  · obtain ⟨_, q⟩ := x a _ r
    exact q
def Mut : Option HO → Prop
  | some (.lst _) => True
  | some (.dK _) => True
  | some (.dT _) => True
  | some (.set _ _) => True
  | some (.ins _ _ _) => True
  | some (.ext _) => True
  | _ => False
section
variable {P : Program} {w : World} {H : Hp} {h h' : Heap} {x e : Addr} {o' : HO}
theorem HOk.write (ok : HOk P w H h) (mu : Mut (H x)) (he : e = x ∨ H e = some (.own x)) (k : ∀ b u, b ≠ e → h.get? b = some u → h'.get? b = some u) (heo : ∃ u, h'.get? e = some u)
    (new : ObjOk P w (upd H x o') h' x o') : HOk P w (upd H x o') h' := fun b u q => by
  have nown : ∀ c y, H c = some (.own y) → c ≠ x := fun c y r z => by subst z; rw [r] at mu; exact mu
  have ntup : ∀ c xs, H c = some (.tup xs) → c ≠ x := fun c xs r z => by subst z; rw [r] at mu; exact mu
  by_cases hb : b = x
  · subst hb; rw [upd_same] at q; cases q; exact new
  · rw [upd_ne hb] at q
    by_cases hbe : b = e
    · have q' : H b = some (.own x) := by
        rcases he with z | z
        · exact absurd (hbe.trans z) hb
        · rw [hbe]; exact z
      rw [q] at q'; cases q'
      obtain ⟨v, hv⟩ := heo
      exact ⟨v, by rw [hbe]; exact hv⟩
    · refine (ok b u q).stay (fun c v hc r => k c v ?_ r) (fun c r => by rw [upd_ne (nown c b r)]; exact r) fun c xs r => by rw [upd_ne (ntup c xs r)]; exact r
      rcases hc with rfl | hc
      · exact hbe
      · rintro rfl
        rcases he with z | z
        · exact nown c b hc z
        · rw [hc] at z; cases z; exact hb rfl
end
structure Un (fs ex : List Addr) (H H' : Hp) (h h' : Heap) : Prop where
  keep : ∀ b o, h.get? b = some o → H b = none → b ∉ fs → b ∉ ex → h'.get? b = some o
  slot : ∀ b o, h.get? b = some o → H b = none → b ∈ fs → b ∉ ex → ∃ sl, h'.get? b = some { o with slots := sl }
  free : ∀ b o, h.get? b = some o → H b = none → b ∉ ex → H' b = none
  there : ∀ b o, h.get? b = some o → b ∉ ex → ∃ o', h'.get? b = some o'
  tups : ∀ b xs, H b = some (.tup xs) → H' b = some (.tup xs)
  frzs : ∀ b o u, H b = some (.frz o u) → H' b = some (.frz o u)
  tbls : ∀ b ps, H b = some (.tbl ps) → ∃ more, H' b = some (.tbl (ps ++ more))
section
variable {fs fs' ex ex' : List Addr} {H H1 H2 : Hp} {h h1 h2 h' : Heap} {a x e : Addr} {o : HO}
theorem Un.any (u : Un fs ex H H1 h h1) {b : Addr} {ob : Obj} (q : h.get? b = some ob) (n : H b = none) (hx : b ∉ ex) : ∃ sl, h1.get? b = some { ob with slots := sl } := by
  by_cases hb : b ∈ fs
  · exact u.slot b ob q n hb hx
  · exact ⟨ob.slots, u.keep b ob q n hb hx⟩
theorem Un.trans (a : Un fs ex H H1 h h1) (b : Un fs ex H1 H2 h1 h2) : Un fs ex H H2 h h2 where
  keep := fun c ob q n hc hx => b.keep c ob (a.keep c ob q n hc hx) (a.free c ob q n hx) hc hx
  slot := fun c ob q n hc hx => by
    obtain ⟨sl, e1⟩ := a.slot c ob q n hc hx
    obtain ⟨sl', e2⟩ := b.slot c _ e1 (a.free c ob q n hx) hc hx
    exact ⟨sl', e2⟩
  free := fun c ob q n hx => by
    obtain ⟨o', e1⟩ := a.there c ob q hx
    exact b.free c o' e1 (a.free c ob q n hx) hx
  there := fun c ob q hx => by
    obtain ⟨o', e1⟩ := a.there c ob q hx
    exact b.there c o' e1 hx
  tups := fun c xs q => b.tups c xs (a.tups c xs q)
  frzs := fun c ob xs q => b.frzs c ob xs (a.frzs c ob xs q)
  tbls := fun c ps q => by
    obtain ⟨m1, e1⟩ := a.tbls c ps q
    obtain ⟨m2, e2⟩ := b.tbls c _ e1
    exact ⟨m1 ++ m2, by rw [e2, Array.append_assoc]⟩
theorem Un.kept (k : ∀ b u, h.get? b = some u → h'.get? b = some u) : Un fs ex H H h h' :=
  ⟨fun b ob q _ _ _ => k b ob q, fun b ob q _ _ _ => ⟨ob.slots, k b ob q⟩, fun _ _ _ n _ => n, fun b ob q _ => ⟨ob, k b ob q⟩, fun _ _ q => q, fun _ _ _ q => q, fun _ ps q => ⟨#[], by rw [q]; simp⟩⟩
theorem Un.refl : Un fs ex H H h h := Un.kept fun _ _ q => q
theorem Un.laid (k : ∀ b u, h.get? b = some u → h'.get? b = some u) (hp : h.objs.size ≤ a) (hn : H a = none) : Un fs ex H (upd H a o) h h' where
  keep := fun b u q _ _ _ => k b u q
  slot := fun b u q _ _ _ => ⟨u.slots, k b u q⟩
  free := fun b u q n _ => by rw [upd_ne (Nat.ne_of_lt (Nat.lt_of_lt_of_le (Heap.lt_size q) hp))]; exact n
  there := fun b u q _ => ⟨u, k b u q⟩
  tups := fun b xs q => by rw [upd_ne (ne_of_none q hn)]; exact q
  frzs := fun b u xs q => by rw [upd_ne (ne_of_none q hn)]; exact q
  tbls := fun b ps q => ⟨#[], by rw [upd_ne (ne_of_none q hn), q]; simp⟩
theorem Un.write (mu : Mut (H x)) (he : e = x ∨ H e = some (.own x)) (k : ∀ b u, b ≠ e → h.get? b = some u → h'.get? b = some u) (heo : ∃ u, h'.get? e = some u) : Un fs ex H (upd H x o) h h' := by
  have hx : ∀ b, H b = none → b ≠ x := fun b n z => by subst z; rw [n] at mu; exact mu
  have hb : ∀ b, H b = none → b ≠ e := fun b n z => by
    subst z
    rcases he with r | r
    · exact hx b n r
    · rw [n] at r; cases r
  have hm : ∀ b u, H b = some u → ¬ Mut (some u) → b ≠ x := fun b u q nm z => by subst z; rw [q] at mu; exact nm mu
  refine ⟨fun b u q n _ _ => k b u (hb b n) q, fun b u q n _ _ => ⟨u.slots, k b u (hb b n) q⟩, fun b u q n _ => by rw [upd_ne (hx b n)]; exact n, fun b u q _ => ?_,
    fun b xs q => by rw [upd_ne (hm b _ q fun z => z)]; exact q, fun b u xs q => by rw [upd_ne (hm b _ q fun z => z)]; exact q, fun b ps q => ⟨#[], by rw [upd_ne (hm b _ q fun z => z), q]; simp⟩⟩
  by_cases hbe : b = e
  · subst hbe; exact heo
  · exact ⟨u, k b u hbe q⟩
theorem Un.mono (u : Un fs ex H H1 h h1) (hs : ∀ b ∈ fs, b ∈ fs') (hx : ∀ b ∈ ex, b ∈ ex') : Un fs' ex' H H1 h h1 :=
  ⟨fun b ob q n hb he => u.keep b ob q n (fun z => hb (hs b z)) fun z => he (hx b z), fun _ _ q n _ he => u.any q n fun z => he (hx _ z), fun b ob q n he => u.free b ob q n fun z => he (hx b z), fun b ob q he => u.there b ob q fun z => he (hx b z), u.tups, u.frzs, u.tbls⟩
end
def trk (h : Heap) (H : Hp) : List Addr := (List.range h.objs.size).filter fun a => (H a).isSome
def hidT (h : Heap) (H : Hp) : Heap := PySem.W.hideAll h (trk h H)
theorem hidT_size (h : Heap) (H : Hp) : (hidT h H).objs.size = h.objs.size := PySem.W.hideAll_size _ _
theorem hidT_get {h : Heap} {H : Hp} {b : Addr} {o : Obj} (e : h.get? b = some o) (n : H b = none) : (hidT h H).get? b = some o :=
  PySem.W.hideAll_get _ e fun hm => by
    have q : (H b).isSome = true := (List.mem_filter.mp hm).2
    rw [n] at q; simp at q
theorem of_hidT {h : Heap} {H : Hp} {b : Addr} {o : Obj} (e : (hidT h H).get? b = some o) : h.get? b = some o ∧ H b = none := by
  have e' : h.get? b = some o := PySem.W.of_hideAll (trk h H) e
  refine ⟨e', ?_⟩
  cases q : H b with
  | none => rfl
  | some x =>
    have hm : b ∈ trk h H := List.mem_filter.mpr ⟨List.mem_range.mpr (Heap.lt_size e'), by simp [q]⟩
    have z : (hidT h H).get? b = none := PySem.W.hideAll_none (trk h H) hm
    rw [z] at e; cases e
def allNews (g h : Heap) (L : Addr) : List (Addr × Obj) := (List.range h.objs.size).filterMap fun a => if a = L ∨ (g.get? a).isSome = true then none else (h.get? a).map fun o => (a, o)
def rest (g h : Heap) (L d : Addr) : List (Addr × Obj) := (allNews g h L).filter fun p => decide (p.1 ≠ d)
end L2
namespace L2
open PySem PySem.Spec PyProof.Rows
structure Mod (K : PySem.W.Frag) (mg : Str → Option Value) (base : Heap) : Prop where
  kin : K.In base
  glob : base.Ns mainGlobals mg
  blt : ∃ mb, base.Ns builtinsNs mb ∧ ∀ x : Str, x ≠ "__name__" → mb x = bootBuiltins x
  nolimit : base.NoLimit
/-- the context: a def's body (or a comprehension's block) running. base: fixed through the whole law; s₀, H₀: the entry; outer: the frames whose slots others may change (a def's callers); stack: all frames that run;
   ex: iterators that were made ahead of the entry and are walked here (a comprehension's); fn: the names whose cells were made at the entry (a def: all; a comprehension's block: its own); calm: not within an except suite; pn: pins that every state bears; xe: what is wanted of an exception that leaves the code -/
structure Cx where
  prog : Program
  w : World
  K : PySem.W.Frag
  mg : Str → Option Value
  base : Heap
  A : Around
  N : List Str
  s₀ : Shared
  H₀ : Hp
  env : Env
  outer : List Env
  stack : List Env
  ex : List Addr
  fn : Str → Bool
  calm : Bool
  pn : List (Addr × Obj)
  xe : Value → Shared → Prop
def frs (l : List Env) : List Addr := l.filterMap (·.frame)
abbrev Cx.fs (X : Cx) : List Addr := frs X.outer
def Vis (sc : Scope) (x : Str) : Prop := sc.names.lookup x = some .local ∨ sc.names.lookup x = some .cell ∨ sc.names.lookup x = some .free
def Loc (sc : Scope) (x : Str) : Prop := sc.names.lookup x = some .local ∨ sc.names.lookup x = some .cell
def Look (env : Env) (h : Heap) (m : Str → Option Value) (x : Str) (u : Value) : Prop :=
  (env.kindOf x = some .local ∧ m x = some u) ∨ ((env.kindOf x = some .cell ∨ env.kindOf x = some .free) ∧ ∃ c, env.cells.lookup x = some c ∧ h.IsCell c (some u))
structure Cx.Ok (X : Cx) : Prop where
  mod : Mod X.K X.mg X.base
  kind : X.env.scope.kind = .function
  glob : X.env.globals = mainGlobals
  blt : X.env.builtins = builtinsNs
  above : X.s₀.heap.objs.size ≤ X.env.locals
  inj : ∀ x y c, X.env.cells.lookup x = some c → X.env.cells.lookup y = some c → x = y
  has : ∀ x, (X.env.kindOf x = some .cell ∨ X.env.kindOf x = some .free) → ∃ c, X.env.cells.lookup x = some c
  cab : ∀ x c, X.fn x = true → X.env.cells.lookup x = some c → X.s₀.heap.objs.size ≤ c
  hd : X.calm = true → X.A.handled = none
  frames : X.A.frames = some X.stack
  stk : X.stack = X.outer ∨ (X.stack = X.env :: X.outer ∧ X.env.frame = some X.env.locals)
  exf : ∀ b ∈ X.ex, b ≠ X.env.locals ∧ ∀ x c, X.env.cells.lookup x = some c → c ≠ b
  bs : ∀ b o, X.base.get? b = some o → X.s₀.heap.get? b = some o ∧ X.H₀ b = none
  bsz : X.base.objs.size ≤ X.s₀.heap.objs.size
  noex : ∀ b o, X.base.get? b = some o → b ∉ X.ex
  exfs : ∀ b ∈ X.ex, b ∉ X.fs
  funs : X.s₀.heap.FunFrames X.base X.outer
  frf : ∀ b ∈ X.fs, X.H₀ b = none
structure Inv (X : Cx) (pins : List (Addr × Obj)) (σ : List (Option V)) (H : Hp) (s : Shared) : Prop where
  ok : X.Ok
  os : s.os = X.s₀.os
  bare : AllBare s.gens
  base : Un X.fs X.ex X.H₀ H X.s₀.heap s.heap
  loc : ∃ m, s.heap.Ns X.env.locals m ∧ ∀ (i : Nat) (x : Str) (v : V), X.N[i]? = some x → σ[i]? = some (some v) → Vis X.env.scope x → ∃ u, RelV v u ∧ Look X.env s.heap m x u
  cell : ∀ x c, X.env.cells.lookup x = some c → ∃ v, s.heap.IsCell c v
  free : H X.env.locals = none
  freeC : ∀ x c, X.env.cells.lookup x = some c → H c = none
  pin : ∀ p ∈ X.pn ++ pins, s.heap.get? p.1 = some p.2 ∧ H p.1 = none ∧ p.1 ≠ X.env.locals ∧ p.1 ∉ X.fs ∧ ∀ v, p.2.data ≠ .cell v
  hok : HOk X.prog X.w H s.heap
  len : σ.length = X.N.length
section
variable {X : Cx} {pins : List (Addr × Obj)} {σ : List (Option V)} {H H' : Hp} {s : Shared} {h' : Heap}
theorem Cx.Ok.nofr (ok : X.Ok) {b : Addr} {o : Obj} (e : X.base.get? b = some o) : b ∉ X.fs := fun hb => by
  have := (ok.funs.mem hb).1
  rw [e] at this; cases this
theorem Inv.bs (I : Inv X pins σ H s) : ∀ b o, X.base.get? b = some o → s.heap.get? b = some o ∧ H b = none := fun b o e =>
  ⟨I.base.keep b o (I.ok.bs b o e).1 (I.ok.bs b o e).2 (I.ok.nofr e) (I.ok.noex b o e), I.base.free b o (I.ok.bs b o e).1 (I.ok.bs b o e).2 (I.ok.noex b o e)⟩
theorem Inv.bk (I : Inv X pins σ H s) : ∀ b o, X.base.get? b = some o → s.heap.get? b = some o := fun b o e => (I.bs b o e).1
theorem Inv.mod (I : Inv X pins σ H s) : Mod X.K X.mg X.base := I.ok.mod
theorem Inv.kIn (I : Inv X pins σ H s) : X.K.In s.heap := I.ok.mod.kin.keeps I.bk
theorem Inv.nolimit (I : Inv X pins σ H s) : s.heap.NoLimit := I.ok.mod.nolimit.keeps I.bk
theorem Inv.fr (I : Inv X pins σ H s) : ∃ m, Fr X.base X.env.locals s.heap m :=
  let ⟨m, hn, _⟩ := I.loc
  ⟨m, hn, I.bk, Nat.le_trans I.ok.bsz I.ok.above⟩
theorem Inv.lt (I : Inv X pins σ H s) : X.env.locals < s.heap.objs.size := let ⟨_, hn, _⟩ := I.loc; hn.lt
theorem Inv.sz (I : Inv X pins σ H s) : X.s₀.heap.objs.size ≤ s.heap.objs.size := Nat.le_trans I.ok.above (Nat.le_of_lt I.lt)
theorem Inv.nofs (I : Inv X pins σ H s) {a : Addr} (h : s.heap.objs.size ≤ a) : a ∉ X.fs := fun hb => by
  obtain ⟨_, o, ho, _⟩ := I.ok.funs.mem hb
  exact absurd (Nat.lt_of_lt_of_le (Heap.lt_size ho) (Nat.le_trans I.sz h)) (Nat.lt_irrefl _)
theorem Inv.cne (I : Inv X pins σ H s) : ∀ x c, X.env.cells.lookup x = some c → c ≠ X.env.locals := fun x c e z => by
  obtain ⟨v, o, ho, hd⟩ := I.cell x c e
  obtain ⟨m, ⟨o', es, ep, ho', hd', _⟩, _⟩ := I.loc
  rw [z, ho'] at ho; cases ho; rw [hd'] at hd; cases hd
theorem Inv.funs (I : Inv X pins σ H s) : s.heap.FunFrames X.base X.outer := by
  have all : ∀ (l : List Env), (∀ b ∈ frs l, b ∈ X.fs) → X.s₀.heap.FunFrames X.base l → s.heap.FunFrames X.base l := by
    intro l
    induction l with
    | nil => intro _ _; trivial
    | cons env r ih =>
      intro hs hl
      obtain ⟨hk, ⟨L, o, hf, hn, ho, hd⟩, hr⟩ := hl
      have hL : L ∈ X.fs := hs L (by unfold frs; rw [List.filterMap_cons, hf]; exact List.mem_cons_self)
      obtain ⟨sl, e⟩ := I.base.slot L o ho (I.ok.frf L hL) hL fun z => I.ok.exfs L z hL
      exact ⟨hk, ⟨L, _, hf, hn, e, hd⟩, ih (fun b hb => hs b (by unfold frs; rw [List.filterMap_cons, hf]; exact List.mem_cons_of_mem _ hb)) hr⟩
  exact all X.outer (fun _ hb => hb) I.ok.funs
theorem Inv.stack (I : Inv X pins σ H s) : s.heap.FunFrames X.base X.stack := by
  rcases I.ok.stk with e | ⟨e, hf⟩
  · rw [e]; exact I.funs
  · rw [e]
    obtain ⟨m, hn, _⟩ := I.loc
    refine .cons (by rw [I.ok.kind]; decide) hf hn ?_ I.funs
    exact Heap.get?_none_of_le (Nat.le_trans I.ok.bsz I.ok.above)
theorem Inv.stkSub (I : Inv X pins σ H s) : ∀ b ∈ frs X.stack, b ∈ X.env.locals :: X.fs := fun b hb => by
  rcases I.ok.stk with e | ⟨e, hf⟩
  · rw [e] at hb; exact List.mem_cons_of_mem _ hb
  · rw [e] at hb
    unfold frs at hb
    rw [List.filterMap_cons, hf] at hb
    exact hb
theorem Inv.stkFree (I : Inv X pins σ H s) : ∀ b ∈ frs X.stack, H b = none := fun b hb => by
  rcases List.mem_cons.mp (I.stkSub b hb) with e | hb
  · rw [e]; exact I.free
  · obtain ⟨_, o, ho, _⟩ := I.ok.funs.mem hb
    exact I.base.free b o ho (I.ok.frf b hb) fun z => I.ok.exfs b z hb
theorem Inv.step {g' : Array GenState} {t' : Nat} {d' : Drawn} {ch : List Addr} (I : Inv X pins σ H s)
    (hch : ∀ b ∈ ch, (b ∈ X.ex ∨ X.s₀.heap.objs.size ≤ b) ∧ b ≠ X.env.locals ∧ (∀ x c, X.env.cells.lookup x = some c → c ≠ b) ∧ ∀ p ∈ X.pn ++ pins, p.1 ≠ b)
    (keep : ∀ b o, b ≠ X.env.locals → b ∉ X.fs → b ∉ ch → s.heap.get? b = some o → H b = none → h'.get? b = some o)
    (slot : ∀ b o, b ≠ X.env.locals → b ∈ X.fs → b ∉ ch → s.heap.get? b = some o → H b = none → ∃ sl, h'.get? b = some { o with slots := sl }) (free : ∀ b o, b ∉ ch → s.heap.get? b = some o → H b = none → H' b = none)
    (there : ∀ b o, b ∉ ch → s.heap.get? b = some o → ∃ o', h'.get? b = some o')
    (tups : ∀ b xs, H b = some (.tup xs) → H' b = some (.tup xs)) (frzs : ∀ b o u, H b = some (.frz o u) → H' b = some (.frz o u)) (tbls : ∀ b ps, H b = some (.tbl ps) → ∃ more, H' b = some (.tbl (ps ++ more)))
    (ns : ∀ m, s.heap.Ns X.env.locals m → h'.Ns X.env.locals m) (hok : HOk X.prog X.w H' h') (hg : AllBare g') :
    Inv X pins σ H' { s with heap := h', gens := g', drawn := d', toks := t' } := by
  have neL : ∀ b o, X.s₀.heap.get? b = some o → b ≠ X.env.locals := fun b o e => Nat.ne_of_lt (Nat.lt_of_lt_of_le (Heap.lt_size e) I.ok.above)
  have neC : ∀ b o, X.s₀.heap.get? b = some o → b ∉ X.ex → b ∉ ch := fun b o e hx hb => by
    rcases (hch b hb).1 with z | z
    · exact hx z
    · exact absurd (Nat.lt_of_lt_of_le (Heap.lt_size e) z) (Nat.lt_irrefl _)
  have cellK : ∀ x c, X.env.cells.lookup x = some c → ∀ v, s.heap.IsCell c v → h'.IsCell c v := fun x c e v ⟨o, ho, hd⟩ => by
    have nch : c ∉ ch := fun z => (hch c z).2.2.1 x c e rfl
    by_cases hc : c ∈ X.fs
    · obtain ⟨sl, q⟩ := slot c o (I.cne x c e) hc nch ho (I.freeC x c e)
      exact ⟨_, q, hd⟩
    · exact ⟨o, keep c o (I.cne x c e) hc nch ho (I.freeC x c e), hd⟩
  refine ⟨I.ok, I.os, hg, ⟨fun b o e n hb hx => ?_, fun b o e n hb hx => ?_, fun b o e n hx => ?_, fun b o e hx => ?_, fun b xs e => tups b xs (I.base.tups b xs e), fun b o xs e => frzs b o xs (I.base.frzs b o xs e), fun b ps e => ?_⟩, ?_, fun x c e => ?_, ?_, fun x c e => ?_, fun p hp => ?_, hok, I.len⟩
  · exact keep b o (neL b o e) hb (neC b o e hx) (I.base.keep b o e n hb hx) (I.base.free b o e n hx)
  · obtain ⟨sl, e1⟩ := I.base.slot b o e n hb hx
    obtain ⟨sl', e2⟩ := slot b _ (neL b o e) hb (neC b o e hx) e1 (I.base.free b o e n hx)
    exact ⟨sl', e2⟩
  · obtain ⟨o', e1⟩ := I.base.there b o e hx
    exact free b o' (neC b o e hx) e1 (I.base.free b o e n hx)
  · obtain ⟨o', e1⟩ := I.base.there b o e hx
    exact there b o' (neC b o e hx) e1
  · obtain ⟨m1, e1⟩ := I.base.tbls b ps e
    obtain ⟨m2, e2⟩ := tbls b _ e1
    exact ⟨m1 ++ m2, by rw [e2, Array.append_assoc]⟩
  · obtain ⟨m, hn, hl⟩ := I.loc
    refine ⟨m, ns m hn, fun i x v e1 e2 e3 => ?_⟩
    obtain ⟨u, r, l⟩ := hl i x v e1 e2 e3
    refine ⟨u, r, ?_⟩
    rcases l with l | ⟨k, c, e, z⟩
    · exact .inl l
    · exact .inr ⟨k, c, e, cellK x c e _ z⟩
  · obtain ⟨v, z⟩ := I.cell x c e
    exact ⟨v, cellK x c e v z⟩
  · obtain ⟨m, ⟨o, _, _, ho, _⟩, _⟩ := I.loc
    exact free _ o (fun z => (hch _ z).2.1 rfl) ho I.free
  · obtain ⟨v, o, ho, hd⟩ := I.cell x c e
    exact free c o (fun z => (hch c z).2.2.1 x c e rfl) ho (I.freeC x c e)
  · obtain ⟨e, n, ne, nf, d⟩ := I.pin p hp
    have nch : p.1 ∉ ch := fun z => (hch p.1 z).2.2.2 p hp rfl
    exact ⟨keep p.1 p.2 ne nf nch e n, free p.1 p.2 nch e n, ne, nf, d⟩
theorem Inv.un {t' : Nat} (I : Inv X pins σ H s) (u : Un X.fs [] H H' s.heap h') (hok : HOk X.prog X.w H' h') : Inv X pins σ H' { s with heap := h', toks := t' } := by
  obtain ⟨m, ⟨o, es, ep, ho, r⟩, _⟩ := id I.loc
  obtain ⟨sl, hL⟩ := u.any ho I.free (by simp)
  exact I.step (g' := s.gens) (d' := s.drawn) (ch := []) (fun _ z => nomatch z) (fun b o _ hb _ e n => u.keep b o e n hb (by simp)) (fun b o _ hb _ e n => u.slot b o e n hb (by simp)) (fun b o _ e n => u.free b o e n (by simp)) (fun b o _ e => u.there b o e (by simp)) u.tups u.frzs u.tbls (fun m' hm => by
    obtain ⟨o', es', ep', ho', r'⟩ := hm
    rw [ho] at ho'; cases ho'
    exact ⟨_, es', ep', hL, r'⟩) hok I.bare
theorem Inv.call {g' : Array GenState} {t' : Nat} {d' : Drawn} {ch : List Addr} (I : Inv X pins σ H s) (u : Un (frs X.stack) ch H H' s.heap h') (hok : HOk X.prog X.w H' h') (hg : AllBare g')
    (hch : ∀ b ∈ ch, (b ∈ X.ex ∨ X.s₀.heap.objs.size ≤ b) ∧ b ≠ X.env.locals ∧ (∀ x c, X.env.cells.lookup x = some c → c ≠ b) ∧ ∀ p ∈ X.pn ++ pins, p.1 ≠ b) :
    Inv X pins σ H' { s with heap := h', gens := g', drawn := d', toks := t' } := by
  obtain ⟨m, ⟨o, es, ep, ho, r⟩, _⟩ := id I.loc
  obtain ⟨sl, hL⟩ := u.any ho I.free fun z => (hch _ z).2.1 rfl
  exact I.step (ch := ch) hch (fun b o hL hb hc e n => u.keep b o e n (fun z => (List.mem_cons.mp (I.stkSub b z)).elim hL hb) hc) (fun b o _ _ hc e n => u.any e n hc) (fun b o hc e n => u.free b o e n hc) (fun b o hc e => u.there b o e hc) u.tups u.frzs u.tbls (fun m' hm => by
    obtain ⟨o', es', ep', ho', r'⟩ := hm
    rw [ho] at ho'; cases ho'
    exact ⟨_, es', ep', hL, r'⟩) hok hg
theorem Inv.turned {t' : Nat} {it : Addr} (I : Inv X pins σ H s) (k : ∀ b o, b ≠ it → s.heap.get? b = some o → h'.get? b = some o) (hn : H it = none) (hL : it ≠ X.env.locals)
    (h1 : it ∈ X.ex ∨ X.s₀.heap.objs.size ≤ it) (h2 : ∀ x c, X.env.cells.lookup x = some c → c ≠ it) (h3 : ∀ p ∈ X.pn ++ pins, p.1 ≠ it) : Inv X pins σ H { s with heap := h', toks := t' } := by
  have nit : ∀ b u, H b = some u → b ≠ it := fun b u e z => by rw [z, hn] at e; cases e
  refine I.step (g' := s.gens) (d' := s.drawn) (ch := [it]) (fun b hb => ?_) (fun b o _ _ hc e _ => k b o (fun z => hc (by simp [z])) e) (fun b o _ _ hc e _ => ⟨o.slots, k b o (fun z => hc (by simp [z])) e⟩) (fun _ _ _ _ n => n)
    (fun b o hc e => ⟨o, k b o (fun z => hc (by simp [z])) e⟩) (fun _ _ e => e) (fun _ _ _ e => e) (fun b ps e => ⟨#[], by rw [e]; simp⟩) (fun m hm => ?_) (fun b u e => ?_) I.bare
  · have e : b = it := by simpa using hb
    subst e
    exact ⟨h1, hL, h2, h3⟩
  · obtain ⟨o, es, ep, ho, r⟩ := hm
    exact ⟨o, es, ep, k _ o (Ne.symm hL) ho, r⟩
  · refine (I.hok b u e).stay (fun c v hc q => k c v ?_ q) (fun _ q => q) fun _ _ q => q
    rcases hc with z | z
    · rw [z]; exact nit b u e
    · exact nit c _ z
theorem Inv.tok (I : Inv X pins σ H s) (t : Nat) : Inv X pins σ H { s with toks := t } := I.un (h' := s.heap) (t' := t) Un.refl I.hok
theorem Inv.kept {t' : Nat} (I : Inv X pins σ H s) (k : ∀ b u, s.heap.get? b = some u → h'.get? b = some u) : Inv X pins σ H { s with heap := h', toks := t' } := I.un (Un.kept k) (I.hok.kept k)
theorem Inv.laid {a : Addr} {o : HO} {t' : Nat} (I : Inv X pins σ H s) (k : ∀ b u, s.heap.get? b = some u → h'.get? b = some u) (hp : s.heap.objs.size ≤ a) (new : ObjOk X.prog X.w (upd H a o) h' a o) :
    Inv X pins σ (upd H a o) { s with heap := h', toks := t' } := I.un (Un.laid k hp (I.hok.fresh hp)) (I.hok.laid k hp new)
theorem Inv.write {x e : Addr} {o : HO} {t' : Nat} (I : Inv X pins σ H s) (mu : Mut (H x)) (he : e = x ∨ H e = some (.own x)) (k : ∀ b u, b ≠ e → s.heap.get? b = some u → h'.get? b = some u) (heo : ∃ u, h'.get? e = some u)
    (new : ObjOk X.prog X.w (upd H x o) h' x o) : Inv X pins σ (upd H x o) { s with heap := h', toks := t' } := I.un (Un.write mu he k heo) (I.hok.write mu he k heo new)
theorem Inv.pins_of {pins' : List (Addr × Obj)} (I : Inv X pins σ H s) (h : ∀ p ∈ pins', s.heap.get? p.1 = some p.2 ∧ H p.1 = none ∧ p.1 ≠ X.env.locals ∧ p.1 ∉ X.fs ∧ ∀ v, p.2.data ≠ .cell v) : Inv X pins' σ H s :=
  ⟨I.ok, I.os, I.bare, I.base, I.loc, I.cell, I.free, I.freeC, fun p hp => (List.mem_append.mp hp).elim (fun z => I.pin p (List.mem_append_left _ z)) (h p), I.hok, I.len⟩
theorem nodup_ix {N : List Str} (hN : N.Nodup) {i j : Nat} {x : Str} (a : N[i]? = some x) (b : N[j]? = some x) : i = j := by
  obtain ⟨h1, e1⟩ := List.getElem?_eq_some_iff.mp a
  obtain ⟨h2, e2⟩ := List.getElem?_eq_some_iff.mp b
  exact (List.getElem_inj hN).mp (e1.trans e2.symm)
theorem store_ok2 {M : Model} {A : Around} {E : Value → Shared → Prop} {i : Nat} {x : Str} {v : V} {u : Value} {Q : Unit → Shared → Prop} (I : Inv X pins σ H s) (hN : X.N.Nodup) (hi : X.N[i]? = some x) (hx : Loc X.env.scope x) (r : RelV v u)
    (h : ∀ s', Inv X pins (σ.set i (some v)) H s' → (∃ a, Heap.SameBut a s.heap s'.heap ∧ (a = X.env.locals ∨ X.env.cells.lookup x = some a)) → Q () s') (hf : X.fn x = true ∨ X.env.scope.names.lookup x = some .local := by first | exact .inl rfl | exact .inr rfl | assumption) : wpAny M A (storeName X.env x u) Q E s := by
  obtain ⟨m, hn, hl⟩ := id I.loc
  have hcls : (X.env.scope.kind == .class || (X.env.scope.kind == .module && X.env.locals != X.env.globals)) = false := by rw [I.ok.kind]; rfl
  have hiσ : i < σ.length := by rw [I.len]; exact (List.getElem?_eq_some_iff.mp hi).1
  have cne := I.cne
  have tracked : ∀ {a : Addr} {h' : Heap}, (∃ o, s.heap.get? a = some o ∧ H a = none) → Heap.SameBut a s.heap h' → HOk X.prog X.w H h' := fun {a h'} ha hs b ob e => by
    obtain ⟨_, _, hfree⟩ := ha
    refine (I.hok b ob e).stay (fun c w' hc q => (hs.2 c ?_).trans q) (fun _ q => q) fun _ _ q => q
    rintro rfl
    rcases hc with rfl | hc
    · rw [hfree] at e; cases e
    · rw [hfree] at hc; cases hc
  rcases hx with hk | hk
  · refine wpAny_storeName_local hk hn (fun h' hn' hs => ?_) hcls
    obtain ⟨oL, _, _, hoL, _⟩ := id hn
    refine h _ ⟨I.ok, I.os, I.bare, ⟨fun b o e n hb hx => ?_, fun b o e n hb hx => ?_, I.base.free, fun b o e hx => ?_, I.base.tups, I.base.frzs, I.base.tbls⟩, ⟨_, hn', fun j y v' e1 e2 e3 => ?_⟩, fun y c e => ?_, I.free, I.freeC, fun p hp => ?_, tracked ⟨oL, hoL, I.free⟩ hs, by simpa using I.len⟩ ⟨_, hs, .inl rfl⟩
    · exact (hs.2 b (Nat.ne_of_lt (Nat.lt_of_lt_of_le (Heap.lt_size e) I.ok.above))).trans (I.base.keep b o e n hb hx)
    · obtain ⟨sl, e1⟩ := I.base.slot b o e n hb hx
      exact ⟨sl, (hs.2 b (Nat.ne_of_lt (Nat.lt_of_lt_of_le (Heap.lt_size e) I.ok.above))).trans e1⟩
    · obtain ⟨o', e1⟩ := I.base.there b o e hx
      exact ⟨o', (hs.2 b (Nat.ne_of_lt (Nat.lt_of_lt_of_le (Heap.lt_size e) I.ok.above))).trans e1⟩
    · by_cases hj : j = i
      · subst hj
        rw [hi] at e1; cases e1
        rw [List.getElem?_set_self hiσ] at e2
        cases e2
        exact ⟨u, r, .inl ⟨hk, by simp⟩⟩
      · rw [List.getElem?_set_ne (Ne.symm hj)] at e2
        obtain ⟨u', r', q⟩ := hl j y v' e1 e2 e3
        refine ⟨u', r', ?_⟩
        rcases q with ⟨k, e⟩ | ⟨k, c, e, z⟩
        · refine .inl ⟨k, ?_⟩
          have : y ≠ x := fun e => hj (nodup_ix hN e1 (e ▸ hi))
          simp [this, e]
        · exact .inr ⟨k, c, e, z.sameBut hs (cne y c e)⟩
    · obtain ⟨w', z⟩ := I.cell y c e
      exact ⟨w', z.sameBut hs (cne y c e)⟩
    · obtain ⟨e, n, ne, nf, d⟩ := I.pin p hp
      exact ⟨(hs.2 p.1 ne).trans e, n, ne, nf, d⟩
  · have hfn : X.fn x = true := by
      rcases hf with z | z
      · exact z
      · rw [z] at hk; cases hk
    obtain ⟨c, hc⟩ := I.ok.has x (.inl hk)
    obtain ⟨w', z⟩ := I.cell x c hc
    refine wpAny_storeName_cell I.ok.kind hk hc z (fun h' hc' hs => ?_)
    obtain ⟨oc, hoc, hocd⟩ := id z
    refine h { s with heap := h' } ⟨I.ok, I.os, I.bare, ⟨fun b o e n hb hx => ?_, fun b o e n hb hx => ?_, I.base.free, fun b o e hx => ?_, I.base.tups, I.base.frzs, I.base.tbls⟩, ⟨m, hn.sameBut hs (Ne.symm (cne x c hc)), fun j y v' e1 e2 e3 => ?_⟩, fun y c' e => ?_, I.free, I.freeC, fun p hp => ?_, tracked ⟨oc, hoc, I.freeC x c hc⟩ hs, by simpa using I.len⟩ ⟨c, hs, .inr hc⟩
    · exact (hs.2 b (Nat.ne_of_lt (Nat.lt_of_lt_of_le (Heap.lt_size e) (I.ok.cab x c hfn hc)))).trans (I.base.keep b o e n hb hx)
    · obtain ⟨sl, e1⟩ := I.base.slot b o e n hb hx
      exact ⟨sl, (hs.2 b (Nat.ne_of_lt (Nat.lt_of_lt_of_le (Heap.lt_size e) (I.ok.cab x c hfn hc)))).trans e1⟩
    · obtain ⟨o', e1⟩ := I.base.there b o e hx
      exact ⟨o', (hs.2 b (Nat.ne_of_lt (Nat.lt_of_lt_of_le (Heap.lt_size e) (I.ok.cab x c hfn hc)))).trans e1⟩
    · by_cases hj : j = i
      · subst hj
        rw [hi] at e1; cases e1
        rw [List.getElem?_set_self hiσ] at e2
        cases e2
        exact ⟨u, r, .inr ⟨.inl hk, c, hc, hc'⟩⟩
      · rw [List.getElem?_set_ne (Ne.symm hj)] at e2
        obtain ⟨u', r', q⟩ := hl j y v' e1 e2 e3
        refine ⟨u', r', ?_⟩
        rcases q with q | ⟨k, c', e, z'⟩
        · exact .inl q
        · refine .inr ⟨k, c', e, z'.sameBut hs ?_⟩
          rintro rfl
          exact hj (nodup_ix hN e1 (I.ok.inj _ _ _ e hc ▸ hi))
    · by_cases hcc : c' = c
      · subst hcc; exact ⟨_, hc'⟩
      · obtain ⟨w2, z2⟩ := I.cell y c' e
        exact ⟨w2, z2.sameBut hs hcc⟩
    · obtain ⟨e, n, ne, nf, d⟩ := I.pin p hp
      refine ⟨(hs.2 p.1 ?_).trans e, n, ne, nf, d⟩
      intro q
      rw [q, hoc] at e
      have q' : oc = p.2 := Option.some.inj e
      exact d w' (by rw [← q']; exact hocd)
theorem store_ok {M : Model} {A : Around} {E : Value → Shared → Prop} {i : Nat} {x : Str} {v : V} {u : Value} {Q : Unit → Shared → Prop} (I : Inv X pins σ H s) (hN : X.N.Nodup) (hi : X.N[i]? = some x) (hx : Loc X.env.scope x) (r : RelV v u)
    (h : ∀ s', Inv X pins (σ.set i (some v)) H s' → Q () s') (hf : X.fn x = true ∨ X.env.scope.names.lookup x = some .local := by first | exact .inl rfl | exact .inr rfl | assumption) : wpAny M A (storeName X.env x u) Q E s :=
  store_ok2 I hN hi hx r (fun s' I' _ => h s' I') hf
theorem Inv.call' {s' : Shared} {ch : List Addr} (I : Inv X pins σ H s) (ho : s'.os = s.os) (u : Un (frs X.stack) ch H H' s.heap s'.heap) (hok : HOk X.prog X.w H' s'.heap) (hg : AllBare s'.gens)
    (hch : ∀ b ∈ ch, (b ∈ X.ex ∨ X.s₀.heap.objs.size ≤ b) ∧ b ≠ X.env.locals ∧ (∀ x c, X.env.cells.lookup x = some c → c ≠ b) ∧ ∀ p ∈ X.pn ++ pins, p.1 ≠ b) : Inv X pins σ H' s' := by
  obtain ⟨h', g', d', t', o'⟩ := s'
  have e : o' = s.os := ho
  subst e
  exact I.call (g' := g') (t' := t') (d' := d') u hok hg hch
end
abbrev XK := Value → Option Addr → Hp → Prop
abbrev St := List (Option V)
abbrev VK := V → Hp → Prop
abbrev TE := St → Hp → VK → Prop
abbrev TT := St → Hp → (Bool → Hp → Prop) → Prop
abbrev TA := St → Hp → (List V → Hp → Prop) → Prop
structure Ends where
  nx : St → Hp → Prop
  rt : VK
  bk : St → Hp → Prop := fun _ _ => False
  ct : St → Hp → Prop := fun _ _ => False
abbrev TS := Ends → St → Hp → Prop
def EP (X : Cx) (pins : List (Addr × Obj)) (σ : St) (Q : VK) (u : Value) (s' : Shared) : Prop := ∃ v H', Inv X pins σ H' s' ∧ RelV v u ∧ Q v H'
def TP (X : Cx) (pins : List (Addr × Obj)) (σ : St) (Q : Bool → Hp → Prop) (b : Bool) (s' : Shared) : Prop := ∃ H', Inv X pins σ H' s' ∧ Q b H'
def AP (X : Cx) (pins : List (Addr × Obj)) (σ : St) (Q : List V → Hp → Prop) (us : List Value) (s' : Shared) : Prop := ∃ vs H', Inv X pins σ H' s' ∧ Vals vs us ∧ Q vs H'
def SP (X : Cx) (pins : List (Addr × Obj)) (D : Ends) (f : Flow) (s' : Shared) : Prop :=
  match f with
  | .next => ∃ σ' H', Inv X pins σ' H' s' ∧ D.nx σ' H'
  | .brk => ∃ σ' H', Inv X pins σ' H' s' ∧ D.bk σ' H'
  | .cont => ∃ σ' H', Inv X pins σ' H' s' ∧ D.ct σ' H'
  | .ret u => ∃ v σ' H', Inv X pins σ' H' s' ∧ RelV v u ∧ D.rt v H'
def PE (X : Cx) (e : Expr) (t : TE) : Prop :=
  ∀ (pins : List (Addr × Obj)) (s : Shared) (σ : St) (H : Hp) (Q : VK), Inv X pins σ H s → t σ H Q → wpAny (model X.prog X.w) X.A (eval e X.env) (EP X pins σ Q) X.xe s
def PT (X : Cx) (e : Expr) (t : TT) : Prop :=
  ∀ (pins : List (Addr × Obj)) (s : Shared) (σ : St) (H : Hp) (Q : Bool → Hp → Prop), Inv X pins σ H s → t σ H Q → wpAny (model X.prog X.w) X.A (isTrue e X.env (eval e X.env)) (TP X pins σ Q) X.xe s
def PW (X : Cx) (e : Expr) (t : TT) : Prop :=
  ∀ (whole : Sem Value) (pins : List (Addr × Obj)) (s : Shared) (σ : St) (H : Hp) (Q : Bool → Hp → Prop), Inv X pins σ H s → t σ H Q → wpAny (model X.prog X.w) X.A (isTrue e X.env whole) (TP X pins σ Q) X.xe s
theorem PW.pt {X : Cx} {e : Expr} {t : TT} (h : PW X e t) : PT X e t := h _
def PA (X : Cx) (es : List Expr) (t : TA) : Prop :=
  ∀ (pos : Pos) (pins : List (Addr × Obj)) (s : Shared) (σ : St) (H : Hp) (Q : List V → Hp → Prop), Inv X pins σ H s → t σ H Q → wpAny (model X.prog X.w) X.A (spliced (backTo pos (starEach es X.env))) (AP X pins σ Q) X.xe s
def PS (X : Cx) (st : Stmt) (t : TS) : Prop :=
  ∀ (pins : List (Addr × Obj)) (s : Shared) (σ : St) (H : Hp) (D : Ends), Inv X pins σ H s → t D σ H → wpAny (model X.prog X.w) X.A (exec st X.env) (SP X pins D) X.xe s
def PSs (X : Cx) (st : List Stmt) (t : TS) : Prop :=
  ∀ (pins : List (Addr × Obj)) (s : Shared) (σ : St) (H : Hp) (D : Ends), Inv X pins σ H s → t D σ H → wpAny (model X.prog X.w) X.A (execs st X.env) (SP X pins D) X.xe s
theorem thn {α : Type} {t : Sem α} {Q Q' : α → Shared → Prop} {M : Model} {A : Around} {E : Value → Shared → Prop} {s : Shared} (h : wpAny M A t Q E s) (hQ : ∀ a s, Q a s → Q' a s) : wpAny M A t Q' E s := wpAny_mono h hQ fun _ _ x => x
end L2
namespace L2
open PySem PySem.Spec PyProof.Rows
section
variable {X : Cx}
def tVar (i : Nat) : TE := fun σ H Q => ∃ v, σ[i]? = some (some v) ∧ Q v H
def tC (v : V) : TE := fun _ H Q => Q v H
theorem pe_var {i : Nat} {x : Str} {pos : Pos} (hN : X.N[i]? = some x) (hv : Vis X.env.scope x) (hd : (x == ("__debug__" : Str)) = false := by decide) (hcd : (x == ("__classdict__" : Str)) = false := by decide) : PE X (.Name x pos) (tVar i) := by
  intro pins s σ H Q I h
  obtain ⟨v, e, h⟩ := h
  obtain ⟨m, hn, hl⟩ := I.loc
  obtain ⟨u, r, l⟩ := hl i x v hN e hv
  have fin : EP X pins σ Q u s := ⟨v, H, I, r, h⟩
  rcases l with ⟨hk, hm⟩ | ⟨hk, c, hc, hcell⟩
  · exact wpAny_Name (wpAny_loadName_local I.ok.kind hk hn hm fin) hd
  · rcases hk with hk | hk
    · exact wpAny_Name (wpAny_loadName_cell I.ok.kind hk hc hcell fin) hd
    · exact wpAny_Name (wpAny_loadName_free I.ok.kind hk hc hcell fin hcd) hd
theorem pe_int {i j pos} : PE X (.Constant (.int i) j pos) (tC (.int i)) := fun _ _ _ H _ I h => wpAny_Constant_int ⟨.int i, H, I.tok _, ⟨_, rfl⟩, h⟩
theorem pe_bl {b j pos} : PE X (.Constant (.bool b) j pos) (tC (.bl b)) := fun _ _ _ H _ I h => Constant_bool ⟨.bl b, H, I, rfl, h⟩
theorem pe_non {j pos} : PE X (.Constant .none j pos) (tC .non) := fun _ _ _ H _ I h => Constant_none ⟨.non, H, I, rfl, h⟩
theorem pe_str {x j pos} : PE X (.Constant (.str x) j pos) (tC (.str x)) := fun _ _ _ H _ I h => Calls.Constant_str ⟨.str x, H, I.tok _, ⟨_, rfl⟩, h⟩
def Gl (X : Cx) (x : Str) : Prop := X.env.kindOf x = some .globalImplicit
theorem ld_glob {E : Value → Shared → Prop} {pins : List (Addr × Obj)} {s : Shared} {σ : St} {H : Hp} {x : Str} {u : Value} {pos : Pos} {Q : Value → Shared → Prop} (I : Inv X pins σ H s) (hg : Gl X x) (hm : X.mg x = some u) (h : Q u s)
    (hd : (x == ("__debug__" : Str)) = false := by decide) : wpAny (model X.prog X.w) X.A (eval (.Name x pos) X.env) Q E s :=
  Calls.Name_function_global I.ok.kind hg (Calls.loadGlobal_global (by rw [I.ok.glob]; exact I.mod.glob.keeps I.bk) hm h) hd
theorem ld_blt {E : Value → Shared → Prop} {pins : List (Addr × Obj)} {s : Shared} {σ : St} {H : Hp} {x : Str} {u : Value} {pos : Pos} {Q : Value → Shared → Prop} (I : Inv X pins σ H s) (hg : Gl X x) (hm : X.mg x = none) (hv : bootBuiltins x = some u) (h : Q u s)
    (hn : x ≠ "__name__" := by decide) (hd : (x == ("__debug__" : Str)) = false := by decide) : wpAny (model X.prog X.w) X.A (eval (.Name x pos) X.env) Q E s := by
  obtain ⟨mb, h1, h2⟩ := I.mod.blt
  exact Calls.Name_function_global I.ok.kind hg (Calls.loadGlobal_builtin (by rw [I.ok.glob]; exact I.mod.glob.keeps I.bk) hm (by rw [I.ok.blt]; exact h1.keeps I.bk) ((h2 x hn).trans hv) h) hd
theorem pe_glob {x : Str} {v : V} {u : Value} {pos : Pos} (hg : Gl X x) (hm : X.mg x = some u) (r : RelV v u) (hd : (x == ("__debug__" : Str)) = false := by decide) : PE X (.Name x pos) (tC v) :=
  fun _ _ _ H _ I h => ld_glob I hg hm ⟨v, H, I, r, h⟩ hd
theorem pe_bltn {x : Str} {v : V} {u : Value} {pos : Pos} (hg : Gl X x) (hm : X.mg x = none) (hv : bootBuiltins x = some u) (r : RelV v u) (hn : x ≠ "__name__" := by decide) (hd : (x == ("__debug__" : Str)) = false := by decide) : PE X (.Name x pos) (tC v) :=
  fun _ _ _ H _ I h => ld_blt I hg hm hv ⟨v, H, I, r, h⟩ hn hd
variable {a b : Expr} {ta tb : TE} {pos : Pos}
def tB (t : TE) : TT := fun σ H Q => t σ H fun x H1 => ∃ c, x = .bl c ∧ Q c H1
variable {tA tB' : TT} {rest : List Expr}
def tAnd (t u : TT) : TT := fun σ H Q => t σ H fun c H1 => if c = true then u σ H1 Q else Q false H1
def tOr (t u : TT) : TT := fun σ H Q => t σ H fun c H1 => if c = true then Q true H1 else u σ H1 Q
def tNot (t : TT) : TT := fun σ H Q => t σ H fun c H1 => Q (!c) H1
theorem pw_and1 (ha : PT X a tA) : PW X (.BoolOp .And [a] pos) tA := by
  intro wh pins s σ H Q I h
  refine isTrue_and (thn (ha pins s σ H Q I h) fun c s1 e => ?_)
  cases c with
  | true => exact isTrue_and_nil e
  | false => exact e
theorem pw_or1 (ha : PT X a tA) : PW X (.BoolOp .Or [a] pos) tA := by
  intro wh pins s σ H Q I h
  refine isTrue_or (thn (ha pins s σ H Q I h) fun c s1 e => ?_)
  cases c with
  | false => exact isTrue_or_nil e
  | true => exact e
theorem pw_and (ha : PT X a tA) (hb : PW X (.BoolOp .And (b :: rest) pos) tB') : PW X (.BoolOp .And (a :: b :: rest) pos) (tAnd tA tB') := by
  intro wh pins s σ H Q I h
  refine isTrue_and (thn (ha pins s σ H _ I h) fun c s1 ⟨H1, I1, q1⟩ => ?_)
  cases c with
  | true => exact hb wh pins s1 σ H1 Q I1 q1
  | false => exact ⟨H1, I1, q1⟩
theorem pw_or (ha : PT X a tA) (hb : PW X (.BoolOp .Or (b :: rest) pos) tB') : PW X (.BoolOp .Or (a :: b :: rest) pos) (tOr tA tB') := by
  intro wh pins s σ H Q I h
  refine isTrue_or (thn (ha pins s σ H _ I h) fun c s1 ⟨H1, I1, q1⟩ => ?_)
  cases c with
  | true => exact ⟨H1, I1, q1⟩
  | false => exact hb wh pins s1 σ H1 Q I1 q1
theorem pt_not (ha : PT X a tA) : PT X (.UnaryOp .Not a pos) (tNot tA) := by
  intro pins s σ H Q I h
  exact isTrue_not (ha pins s σ H (fun c H1 => Q (!c) H1) I h)
def tAndV (ta tb : TE) : TE := fun σ H Q => ta σ H fun x H1 => ∃ c, x = .bl c ∧ if c = true then tb σ H1 Q else Q (.bl false) H1
def tNotV (ta : TE) : TE := fun σ H Q => ta σ H fun x H1 => ∃ c, x = .bl c ∧ Q (.bl (!c)) H1
theorem pe_one {op} {t : TE} (h : PE X a t) : PE X (.BoolOp op [a] pos) t := fun pins s σ H Q I hw => BoolOp_one (h pins s σ H Q I hw)
theorem pe_and (ha : PE X a ta) (hb : PE X (.BoolOp .And (b :: rest) pos) tb) : PE X (.BoolOp .And (a :: b :: rest) pos) (tAndV ta tb) := by
  intro pins s σ H Q I h
  refine BoolOp_and (thn (ha pins s σ H _ I h) fun v s1 ⟨x, H1, I1, r1, q1⟩ => ?_)
  obtain ⟨c, rfl, q1⟩ := q1
  cases r1
  refine wpAny_truthy_bool ?_
  cases c with
  | true => exact hb pins s1 σ H1 Q I1 q1
  | false => exact ⟨.bl false, H1, I1, rfl, q1⟩
theorem pe_not (ha : PE X a ta) : PE X (.UnaryOp .Not a pos) (tNotV ta) := by
  intro pins s σ H Q I h
  refine UnaryOp_ (thn (ha pins s σ H _ I h) fun v s1 ⟨x, H1, I1, r1, q1⟩ => ?_)
  obtain ⟨c, rfl, q1⟩ := q1
  cases r1
  exact not_of (wpAny_truthy_bool ⟨.bl (!c), H1, I1, rfl, q1⟩)
def tIf (t : TT) (ta tb : TE) : TE := fun σ H Q => t σ H fun c H1 => if c = true then ta σ H1 Q else tb σ H1 Q
theorem pe_ifExp {c : Expr} (hc : PT X c tA) (ha : PE X a ta) (hb : PE X b tb) : PE X (.IfExp c a b pos) (tIf tA ta tb) := by
  intro pins s σ H Q I h
  refine wpAny_IfExp (thn (hc pins s σ H _ I h) fun d s1 ⟨H1, I1, q1⟩ => ?_)
  cases d with
  | true => exact ha pins s1 σ H1 Q I1 q1
  | false => exact hb pins s1 σ H1 Q I1 q1
end
end L2
namespace L2
open PySem PySem.Spec PyProof.Rows
def SqL (K : PySem.W.Frag) (H : Hp) (a : Addr) (xs : List V) : Prop :=
  Rd H a (.lst xs) ∨
    ∃ (o : Obj) (its : Array Value) (n : Nat), K.lookup a = some o ∧ o.cls = .type "list" ∧ o.dict = none ∧ o.data = .seq its n ∧ its.size ≤ sizeLine ∧ Vals xs its.toList
def SqT (K : PySem.W.Frag) (H : Hp) (a : Addr) (xs : List V) : Prop :=
  Rd H a (.tup xs) ∨
    ∃ (o : Obj) (its : Array Value) (n : Nat), K.lookup a = some o ∧ o.cls = .type "tuple" ∧ o.dict = none ∧ o.data = .seq its n ∧ its.size ≤ sizeLine ∧ Vals xs its.toList
def absV : Value → Option V
  | .none => some .non
  | .bool b => some (.bl b)
  | .int i _ => some (.int i)
  | .str x _ => some (.str x)
  | .bytes b _ => some (.byt b)
  | .float b _ => some (.flt b)
  | .ref a => some (.ref a)
  | .type n => some (.ty n)
  | _ => none
theorem RelV.abs {x : V} {u : Value} (r : RelV x u) : absV u = some x := by
  cases x with
  | non => cases r; rfl
  | bl _ => cases r; rfl
  | int _ => obtain ⟨t, rfl⟩ := r; rfl
  | str _ => obtain ⟨t, rfl⟩ := r; rfl
  | byt _ => obtain ⟨t, rfl⟩ := r; rfl
  | flt _ => obtain ⟨t, rfl⟩ := r; rfl
  | ref _ => cases r; rfl
  | ty _ => cases r; rfl
theorem RelV.inj {x y : V} {u : Value} (r : RelV x u) (q : RelV y u) : x = y := Option.some.inj (r.abs.symm.trans q.abs)
theorem Vals.inj : ∀ {xs ys : List V} {us : List Value}, Vals xs us → Vals ys us → xs = ys
  | _, _, _, .nil, .nil => rfl
  | _, _, _, .cons r t, .cons r' t' => by rw [r.inj r', Vals.inj t t']
section
variable {X : Cx} {pins : List (Addr × Obj)} {σ : St} {H : Hp} {s : Shared} {a : Addr} {xs ys : List V}
theorem SqL.of {K : PySem.W.Frag} (h : H a = some (.lst xs)) : SqL K H a xs := .inl (.inl h)
theorem SqT.of {K : PySem.W.Frag} (h : H a = some (.tup xs)) : SqT K H a xs := .inl (.inl h)
theorem Inv.list (I : Inv X pins σ H s) (h : SqL X.K H a xs) : ∃ its : List Value, Vals xs its ∧ PlainL s.heap a its.toArray ∧ xs.length ≤ sizeLine := by
  rcases h with h | ⟨o, its, n, hk, hc, hd, hs, hz, r⟩
  · obtain ⟨z, its, n, r, e⟩ := h.ok I.hok
    exact ⟨its, r, ⟨_, n, e, rfl, rfl, rfl⟩, z⟩
  · refine ⟨its.toList, r, ⟨o, n, I.kIn a o hk, hc, hd, by simpa using hs⟩, ?_⟩
    have e := r.length
    simp only [Array.length_toList] at e
    omega
theorem Inv.tuple (I : Inv X pins σ H s) (h : SqT X.K H a xs) : ∃ its : List Value, Vals xs its ∧ IsTup s.heap a its.toArray ∧ xs.length ≤ sizeLine := by
  rcases h with h | ⟨o, its, n, hk, hc, hn, hs, hz, r⟩
  · obtain ⟨z, its, r, p⟩ := h.ok I.hok
    exact ⟨its, r, p.1, z⟩
  · refine ⟨its.toList, r, ⟨o, I.kIn a o hk, hc, n, by simpa using hs⟩, ?_⟩
    have e := r.length
    simp only [Array.length_toList] at e
    omega
theorem Inv.tupleD (I : Inv X pins σ H s) (h : SqT X.K H a xs) : ∃ its : List Value, Vals xs its ∧ IsTupD s.heap a its.toArray ∧ xs.length ≤ sizeLine := by
  obtain ⟨its, r, p, z⟩ := I.tuple h
  refine ⟨its, r, ⟨p, fun o e => ?_⟩, z⟩
  rcases h with h | ⟨o', its', n, hk, hc, hn, hs, hz, r'⟩
  · obtain ⟨_, _, _, q⟩ := h.ok I.hok
    exact q.2 o e
  · have := I.kIn a o' hk
    rw [this] at e; cases e; exact hn
theorem Inv.list_inj (I : Inv X pins σ H s) (h : SqL X.K H a xs) (h' : SqL X.K H a ys) : xs = ys := by
  obtain ⟨its, r, ⟨o, n, e, _, _, d⟩, _⟩ := I.list h
  obtain ⟨its', r', ⟨o', n', e', _, _, d'⟩, _⟩ := I.list h'
  rw [e] at e'; cases e'
  rw [d] at d'
  injection d' with d1 _
  have : its = its' := by simpa using congrArg Array.toList d1
  subst this
  exact r.inj r'
theorem Inv.tuple_inj (I : Inv X pins σ H s) (h : SqT X.K H a xs) (h' : SqT X.K H a ys) : xs = ys := by
  obtain ⟨its, r, ⟨o, e, _, n, d⟩, _⟩ := I.tuple h
  obtain ⟨its', r', ⟨o', e', _, n', d'⟩, _⟩ := I.tuple h'
  rw [e] at e'; cases e'
  rw [d] at d'
  injection d' with d1 _
  have : its = its' := by simpa using congrArg Array.toList d1
  subst this
  exact r.inj r'
end
abbrev Cx.wish (X : Cx) (E : Value → Shared → Prop) : Cx := { X with xe := E }
abbrev Cx.nox (X : Cx) : Cx := X.wish fun _ _ => False
theorem Cx.Ok.wish {X : Cx} (ok : X.Ok) (E : Value → Shared → Prop) : (X.wish E).Ok :=
  ⟨ok.mod, ok.kind, ok.glob, ok.blt, ok.above, ok.inj, ok.has, ok.cab, ok.hd, ok.frames, ok.stk, ok.exf, ok.bs, ok.bsz, ok.noex, ok.exfs, ok.funs, ok.frf⟩
theorem Cx.Ok.unwish {X : Cx} {E : Value → Shared → Prop} (ok : (X.wish E).Ok) : X.Ok :=
  ⟨ok.mod, ok.kind, ok.glob, ok.blt, ok.above, ok.inj, ok.has, ok.cab, ok.hd, ok.frames, ok.stk, ok.exf, ok.bs, ok.bsz, ok.noex, ok.exfs, ok.funs, ok.frf⟩
section
variable {X : Cx} {pins : List (Addr × Obj)} {σ : St} {H : Hp} {s : Shared} {E : Value → Shared → Prop}
theorem Inv.wish (I : Inv X pins σ H s) (E : Value → Shared → Prop) : Inv (X.wish E) pins σ H s := ⟨I.ok.wish E, I.os, I.bare, I.base, I.loc, I.cell, I.free, I.freeC, I.pin, I.hok, I.len⟩
theorem Inv.unwish (I : Inv (X.wish E) pins σ H s) : Inv X pins σ H s := ⟨I.ok.unwish, I.os, I.bare, I.base, I.loc, I.cell, I.free, I.freeC, I.pin, I.hok, I.len⟩
theorem SP.unwish {D : Ends} {f : Flow} {s' : Shared} (h : SP (X.wish E) pins D f s') : SP X pins D f s' := by
  cases f with
  | next => obtain ⟨σ', H', I, q⟩ := h; exact ⟨σ', H', I.unwish, q⟩
  | brk => obtain ⟨σ', H', I, q⟩ := h; exact ⟨σ', H', I.unwish, q⟩
  | cont => obtain ⟨σ', H', I, q⟩ := h; exact ⟨σ', H', I.unwish, q⟩
  | ret u => obtain ⟨v, σ', H', I, r, q⟩ := h; exact ⟨v, σ', H', I.unwish, r, q⟩
theorem PE.nox {e : Expr} {t : TE} (h : PE X.nox e t) : PE X e t := fun pins s σ H Q I hw =>
  wpAny_mono (h pins s σ H Q (I.wish _) hw) (fun _ _ ⟨v, H', I', r, q⟩ => ⟨v, H', I'.unwish, r, q⟩) fun _ _ z => False.elim z
theorem PT.nox {e : Expr} {t : TT} (h : PT X.nox e t) : PT X e t := fun pins s σ H Q I hw =>
  wpAny_mono (h pins s σ H Q (I.wish _) hw) (fun _ _ ⟨H', I', q⟩ => ⟨H', I'.unwish, q⟩) fun _ _ z => False.elim z
theorem PSs.nox {st : List Stmt} {t : TS} (h : PSs X.nox st t) : PSs X st t := fun pins s σ H D I hw =>
  wpAny_mono (h pins s σ H D (I.wish _) hw) (fun _ _ q => q.unwish) fun _ _ z => False.elim z
end
section
variable {X : Cx} {st : Stmt} {rest : List Stmt} {t u : TS} {e : Expr} {te : TE} {pos : Pos}
def tNext : TS := fun D σ H => D.nx σ H
def tSeq (t u : TS) : TS := fun D σ H => t { D with nx := u D } σ H
theorem pss_nil : PSs X [] tNext := fun _ _ σ H _ I h => wpAny_execs_nil ⟨σ, H, I, h⟩
theorem pss_cons (h1 : PS X st t) (h2 : PSs X rest u) : PSs X (st :: rest) (tSeq t u) := by
  intro pins s σ H D I h
  refine wpAny_execs_cons (thn (h1 pins s σ H { D with nx := u D } I h) fun f s1 q => ?_)
  cases f with
  | next =>
    obtain ⟨σ', H', I', q⟩ := q
    exact h2 pins s1 σ' H' D I' q
  | ret v => exact q
  | brk => exact q
  | cont => exact q
theorem pss_one (h1 : PS X st t) : PSs X [st] t := by
  intro pins s σ H D I h
  refine wpAny_execs_cons (thn (h1 pins s σ H D I h) fun f s1 q => ?_)
  cases f with
  | next => exact wpAny_execs_nil q
  | ret v => exact q
  | brk => exact q
  | cont => exact q
theorem Inv.quiet {pins : List (Addr × Obj)} {σ : St} {H : Hp} {s : Shared} (I : Inv X pins σ H s) : interactive X.env = false := by simp [interactive, I.ok.kind]
def tDrop (te : TE) : TS := fun D σ H => te σ H fun _ H1 => D.nx σ H1
theorem ps_expr (he : PE X e te) (hs : swapsWith e none pos.line X.env = pure false := by rfl) : PS X (.Expr e pos) (tDrop te) := by
  intro pins s σ H D I h
  exact wpAny_Expr_any (thn (he pins s σ H _ I h) fun v s1 ⟨x, H1, I1, r1, q1⟩ => ⟨σ, H1, I1, q1⟩) I.quiet hs
def tRet (te : TE) : TS := fun D σ H => te σ H D.rt
theorem ps_ret (he : PE X e te) : PS X (.Return (some e) pos) (tRet te) := by
  intro pins s σ H D I h
  exact wpAny_Return_some (thn (he pins s σ H _ I h) fun v s1 ⟨x, H1, I1, r1, q1⟩ => ⟨x, σ, H1, I1, r1, q1⟩)
def tIfS (c : TT) (t u : TS) : TS := fun D σ H => c σ H fun b H1 => if b = true then t D σ H1 else u D σ H1
theorem ps_if {c : Expr} {a b : List Stmt} {tc : TT} (hc : PT X c tc) (ha : PSs X a t) (hb : PSs X b u) : PS X (.If c a b pos) (tIfS tc t u) := by
  intro pins s σ H D I h
  refine wpAny_If (thn (hc pins s σ H _ I h) fun d s1 ⟨H1, I1, q1⟩ => ?_)
  cases d with
  | true => exact ha pins s1 σ H1 D I1 q1
  | false => exact hb pins s1 σ H1 D I1 q1
end
abbrev TG := V → St → Hp → (St → Hp → Prop) → Prop
abbrev TGs := List V → St → Hp → (St → Hp → Prop) → Prop
def PG (X : Cx) (target : Expr) (t : TG) : Prop :=
  ∀ (pins : List (Addr × Obj)) (s : Shared) (σ : St) (H : Hp) (v : V) (u : Value) (Q : St → Hp → Prop), Inv X pins σ H s → RelV v u → t v σ H Q →
    wpAny (model X.prog X.w) X.A (assign target X.env u) (fun _ s' => ∃ σ' H', Inv X pins σ' H' s' ∧ Q σ' H') X.xe s
def PGs (X : Cx) (ts : List Expr) (t : TGs) : Prop :=
  ∀ (pins : List (Addr × Obj)) (s : Shared) (σ : St) (H : Hp) (vs : List V) (us : List Value) (Q : St → Hp → Prop), Inv X pins σ H s → Vals vs us → t vs σ H Q →
    wpAny (model X.prog X.w) X.A (assignInOrder ((assignEach ts X.env).map (·.2)) us) (fun _ s' => ∃ σ' H', Inv X pins σ' H' s' ∧ Q σ' H') X.xe s
abbrev TSet := V → V → V → Hp → (Hp → Prop) → Prop
def PSet (X : Cx) (t : TSet) : Prop :=
  ∀ (pins : List (Addr × Obj)) (s : Shared) (σ : St) (H : Hp) (o i v : V) (ov iv u : Value) (Q : Hp → Prop), Inv X pins σ H s → RelV o ov → RelV i iv → RelV v u → t o i v H Q →
    wpAny (model X.prog X.w) X.A (setItem ov iv u) (fun _ s' => ∃ H', Inv X pins σ H' s' ∧ Q H') X.xe s
section
variable {X : Cx} {pos : Pos}
def gName (i : Nat) : TG := fun v σ H Q => Q (σ.set i (some v)) H
theorem pg_name {i : Nat} {x : Str} (hN : X.N.Nodup) (hi : X.N[i]? = some x) (hx : Loc X.env.scope x) (hf : X.fn x = true ∨ X.env.scope.names.lookup x = some .local := by first | exact .inl rfl | exact .inr rfl | assumption) : PG X (.Name x pos) (gName i) := by
  intro pins s σ H v u Q I r h
  exact wpAny_assign_Name (store_ok I hN hi hx r (fun s' I' => ⟨_, H, I', h⟩) hf)
def gSub (to ti : TE) (t : TSet) : TG := fun v σ H Q => to σ H fun o H1 => ti σ H1 fun i H2 => t o i v H2 fun H3 => Q σ H3
def tAsg (te : TE) (g : TG) : TS := fun D σ H => te σ H fun x H1 => g x σ H1 D.nx
theorem ps_set {i : Nat} {x : Str} {e : Expr} {te : TE} {pos' : Pos} (hN : X.N.Nodup) (hi : X.N[i]? = some x) (hx : Loc X.env.scope x) (he : PE X e te) (hs : swapsWith e (some (.Name x pos')) pos.line X.env = pure false := by rfl) (hf : X.fn x = true ∨ X.env.scope.names.lookup x = some .local := by first | exact .inl rfl | exact .inr rfl | assumption) :
    PS X (.Assign [.Name x pos'] e pos) (tAsg te (gName i)) := by
  intro pins s σ H D I h
  refine wpAny_Assign_Name (thn (he pins s σ H _ I h) fun v s1 ⟨y, H1, I1, r1, q1⟩ => ?_) hs
  exact store_ok I1 hN hi hx r1 (fun s2 I2 => ⟨_, H1, I2, q1⟩) hf
end
section
variable {X : Cx} {pos : Pos}
end
structure It where
  go : Nat → Hp → Prop
  yld : Nat → Hp → V → Hp → Prop
  stop : Nat → Hp → Prop
def FpOk (X : Cx) (pins : List (Addr × Obj)) (H : Hp) (b : Addr) : Prop :=
  H b = none ∧ b ≠ X.env.locals ∧ b ∉ X.fs ∧ (b ∈ X.ex ∨ X.s₀.heap.objs.size ≤ b) ∧ (∀ x c, X.env.cells.lookup x = some c → c ≠ b) ∧ ∀ p ∈ X.pn ++ pins, p.1 ≠ b
theorem Inv.fpOk {X : Cx} {pins : List (Addr × Obj)} {σ : St} {H H' : Hp} {s : Shared} {b : Addr} (I : Inv X pins σ H s) (hb : s.heap.objs.size ≤ b) (hn : H' b = none) : FpOk X pins H' b := by
  refine ⟨hn, Nat.ne_of_gt (Nat.lt_of_lt_of_le I.lt hb), I.nofs hb, .inr (Nat.le_trans I.sz hb), fun x c e z => ?_, fun p hp z => ?_⟩
  · obtain ⟨v, q⟩ := I.cell x c e
    exact absurd (Nat.lt_of_lt_of_le q.lt (by rw [z]; exact hb)) (Nat.lt_irrefl _)
  · exact absurd (Nat.lt_of_lt_of_le (Heap.lt_size (I.pin p hp).1) (by rw [z]; exact hb)) (Nat.lt_irrefl _)
structure Turn (P : Program) (w : World) (K : PySem.W.Frag) (tg : Expr) (J : It) (fp : List Addr) (it : Addr) (tn : Nat → Heap → Prop) : Prop where
  mem : it ∈ fp
  obj : ∀ i h, tn i h → ∀ b ∈ fp, ∃ o, h.get? b = some o ∧ ∀ v, o.data ≠ .cell v
  keep : ∀ i h h', tn i h → (∀ b ∈ fp, ∀ o, h.get? b = some o → h'.get? b = some o) → tn i h'
  item : ∀ (X : Cx), X.prog = P → X.w = w → X.K = K → X.calm = true → ∀ (i : Nat) (pins : List (Addr × Obj)) (s : Shared) (σ : St) (H : Hp) (E : Value → Shared → Prop), Inv X pins σ H s → (∀ b ∈ fp, FpOk X pins H b) → tn i s.heap → J.go i H →
    wpAny (model P w) X.A (pyNext (.ref it)) (fun r s1 => ∃ u, r = some u ∧
      wpAny (model P w) X.A (letOwnedTupleGo tg (.ref it) u) (fun _ s2 => ∃ x H', Inv X pins σ H' s2 ∧ RelV x u ∧ J.yld i H x H' ∧ tn (i + 1) s2.heap ∧ ∀ b ∈ fp, H' b = none) E s1) E s
  done : ∀ (X : Cx), X.prog = P → X.w = w → X.K = K → X.calm = true → ∀ (i : Nat) (pins : List (Addr × Obj)) (s : Shared) (σ : St) (H : Hp) (E : Value → Shared → Prop), Inv X pins σ H s → (∀ b ∈ fp, FpOk X pins H b) → tn i s.heap → J.stop i H →
    wpAny (model P w) X.A (pyNext (.ref it)) (fun r s1 => r = none ∧ Inv X pins σ H s1) E s
  self : ∀ (A : Around) (i : Nat) (s : Shared) (Q : Value → Shared → Prop) (E : Value → Shared → Prop), tn i s.heap → Q (.ref it) s → wpAny (model P w) A (pyIter (.ref it)) Q E s
abbrev TI := St → Hp → (It → Hp → Prop) → Prop
def PIE (X : Cx) (pins : List (Addr × Obj)) (σ : St) (tg : Expr) (R : It → Hp → Prop) (itv : Value) (s2 : Shared) : Prop :=
  ∃ (it : Addr) (fp : List Addr) (tn : Nat → Heap → Prop) (J : It) (H' : Hp), itv = .ref it ∧ Inv X pins σ H' s2 ∧ Turn X.prog X.w X.K tg J fp it tn ∧ tn 0 s2.heap ∧ (∀ b ∈ fp, FpOk X pins H' b) ∧ R J H'
def PI (X : Cx) (tg iter : Expr) (wi : TI) : Prop :=
  ∀ (pins : List (Addr × Obj)) (s : Shared) (σ : St) (H : Hp) (R : It → Hp → Prop), Inv X pins σ H s → wi σ H R →
    wpAny (model X.prog X.w) X.A (eval iter X.env) (fun v s1 => wpAny (model X.prog X.w) X.A (pyIter v) (PIE X pins σ tg R) X.xe s1) X.xe s
theorem go_of {M : Model} {A : Around} {E : Value → Shared → Prop} {s : Shared} {tg : Expr} {it : Addr} {u : Value} {o : Obj} {n : String} {vs : Array Value} {Q : Unit → Shared → Prop} (ho : s.heap.get? it = some o) (hc : o.cls = .type n) (hd : o.data = .fields vs)
    (hn : ["enumerate", "zip", "dict_itemiterator", "dict_reverseitemiterator", "odict_iterator", "itertools.zip_longest", "itertools.pairwise"].contains n = false) (hQ : Q () s) : wpAny M A (letOwnedTupleGo tg (.ref it) u) Q E s := by
  unfold letOwnedTupleGo
  cases tg <;> first
    | exact wpAny_pure hQ
    | (cases u <;> first
        | exact wpAny_pure hQ
        | (refine wpAny_bind (wpAny_load ho ?_)
           rw [hc, hd]
           show wpAny M A (if (["enumerate", "zip", "dict_itemiterator", "dict_reverseitemiterator", "odict_iterator", "itertools.zip_longest", "itertools.pairwise"].contains n && vs[0]? == some (rawInt _)) = true then _ else _) Q E s
           rw [if_neg (by intro h; rw [hn, Bool.false_and] at h; cases h)]
           exact wpAny_pure hQ))
def Itl (K : PySem.W.Frag) (a : Addr) : It :=
  ⟨fun i H => ∃ xs x, SqL K H a xs ∧ xs[i]? = some x, fun i H x H' => H' = H ∧ ∀ xs, SqL K H a xs → xs[i]? = some x, fun i H => ∃ xs, SqL K H a xs ∧ xs.length ≤ i⟩
def Itt (K : PySem.W.Frag) (a : Addr) : It :=
  ⟨fun i H => ∃ xs x, SqT K H a xs ∧ xs[i]? = some x, fun i H x H' => H' = H ∧ ∀ xs, SqT K H a xs → xs[i]? = some x, fun i H => ∃ xs, SqT K H a xs ∧ xs.length ≤ i⟩
def Itr (lo : Int) (n : Nat) : It := ⟨fun i _ => i < n, fun i H x H' => H' = H ∧ x = .int (lo + i), fun i _ => n ≤ i⟩
theorem turn_list {P : Program} {w : World} {K : PySem.W.Frag} {tg : Expr} (a it : Addr) : Turn P w K tg (Itl K a) [it] it (fun i h => h.IsListIter it a i) where
  mem := by simp
  obj := fun i h st b hb => by
    have e : b = it := by simpa using hb
    subst e
    obtain ⟨o, e, c, d⟩ := st
    exact ⟨o, e, fun v z => by rw [d] at z; cases z⟩
  keep := fun i h h' st k => st.at fun o e => k it (by simp) o e
  item := by
    intro X hP hw hK hc i pins s σ H E I hf st hg
    subst hP hw hK
    obtain ⟨xs, x, hq, hx⟩ := hg
    obtain ⟨its, rv, p, hz⟩ := I.list hq
    obtain ⟨u, hu, ru⟩ := rv.get hx
    obtain ⟨f0, f1, f2, f3, f4, f5⟩ := hf it (by simp)
    refine wpAny_pyNext_list_item st p.isList (x := u) (by simpa using hu) fun h' st' sb => ?_
    have I1 : Inv X pins σ H { s with heap := h' } := I.turned (t' := s.toks) (fun b o hb e => (sb.2 b hb).trans e) f0 f1 f3 f4 f5
    obtain ⟨o, e, c, d⟩ := id st'
    exact ⟨u, rfl, go_of (s := { s with heap := h' }) e c d (by decide) ⟨x, H, I1, ru, ⟨rfl, fun ys hy => by rw [I.list_inj hy hq]; exact hx⟩, st', fun b hb => (hf b hb).1⟩⟩
  done := by
    intro X hP hw hK hc i pins s σ H E I hf st hg
    subst hP hw hK
    obtain ⟨xs, hq, hx⟩ := hg
    obtain ⟨its, rv, p, hz⟩ := I.list hq
    obtain ⟨f0, f1, f2, f3, f4, f5⟩ := hf it (by simp)
    have hl := rv.length
    exact wpAny_pyNext_list_end (I.ok.hd hc) st p.isList (by simp; omega) fun h' eb => ⟨rfl, I.turned (t' := s.toks) (fun b o hb e => eb b o hb e) f0 f1 f3 f4 f5⟩
  self := fun _ _ _ _ _ st h => wpAny_pyIter_listiter st h
theorem turn_tuple {P : Program} {w : World} {K : PySem.W.Frag} {tg : Expr} (a it : Addr) : Turn P w K tg (Itt K a) [it] it (fun i h => h.IsTupleIter it a i) where
  mem := by simp
  obj := fun i h st b hb => by
    have e : b = it := by simpa using hb
    subst e
    obtain ⟨o, e, c, d⟩ := st
    exact ⟨o, e, fun v z => by rw [d] at z; cases z⟩
  keep := fun i h h' st k => st.at fun o e => k it (by simp) o e
  item := by
    intro X hP hw hK hc i pins s σ H E I hf st hg
    subst hP hw hK
    obtain ⟨xs, x, hq, hx⟩ := hg
    obtain ⟨its, rv, p, hz⟩ := I.tuple hq
    obtain ⟨u, hu, ru⟩ := rv.get hx
    obtain ⟨f0, f1, f2, f3, f4, f5⟩ := hf it (by simp)
    refine wpAny_pyNext_tuple_item st (show s.heap.IsTuple a its.toArray from p) (x := u) (by simpa using hu) fun h' st' sb => ?_
    have I1 : Inv X pins σ H { s with heap := h' } := I.turned (t' := s.toks) (fun b o hb e => (sb.2 b hb).trans e) f0 f1 f3 f4 f5
    obtain ⟨o, e, c, d⟩ := id st'
    exact ⟨u, rfl, go_of (s := { s with heap := h' }) e c d (by decide) ⟨x, H, I1, ru, ⟨rfl, fun ys hy => by rw [I.tuple_inj hy hq]; exact hx⟩, st', fun b hb => (hf b hb).1⟩⟩
  done := by
    intro X hP hw hK hc i pins s σ H E I hf st hg
    subst hP hw hK
    obtain ⟨xs, hq, hx⟩ := hg
    obtain ⟨its, rv, p, hz⟩ := I.tuple hq
    obtain ⟨f0, f1, f2, f3, f4, f5⟩ := hf it (by simp)
    have hl := rv.length
    exact wpAny_pyNext_tuple_end (I.ok.hd hc) st (show s.heap.IsTuple a its.toArray from p) (by simp; omega) fun h' eb => ⟨rfl, I.turned (t' := s.toks) (fun b o hb e => eb b o hb e) f0 f1 f3 f4 f5⟩
  self := fun _ _ _ _ _ st h => wpAny_pyIter_tupleiter st h
theorem turn_range {P : Program} {w : World} {K : PySem.W.Frag} {tg : Expr} (it : Addr) (lo : Int) (n : Nat) : Turn P w K tg (Itr lo n) [it] it (fun i h => IsRangeIter h it (lo + (i : Nat) * 1) ((n : Int) - (i : Nat)) 1) where
  mem := by simp
  obj := fun i h st b hb => by
    have e : b = it := by simpa using hb
    subst e
    exact ⟨_, st, fun v z => by
      have z' : Data.fields _ = Data.cell v := z
      cases z'⟩
  keep := fun i h h' st k => k it (by simp) _ st
  item := by
    intro X hP hw hK hc i pins s σ H E I hf st hg
    subst hP hw hK
    obtain ⟨f0, f1, f2, f3, f4, f5⟩ := hf it (by simp)
    have W := Walks.range (prog := X.prog) (w := X.w) (I.ok.hd hc) it lo 1 n
    refine W.item i s _ _ hg st fun v h' tk hv st' kk => ?_
    obtain ⟨t, rfl⟩ := hv
    have I1 : Inv X pins σ H { s with heap := h', toks := tk } := I.turned (fun b o hb e => kk b o (by simpa using hb) e) f0 f1 f3 f4 f5
    refine ⟨_, rfl, go_of (s := { s with heap := h', toks := tk }) (n := "range_iterator") st' rfl rfl (by decide) ⟨.int (lo + i), H, I1, ⟨t, ?_⟩, ⟨rfl, rfl⟩, st', fun b hb => (hf b hb).1⟩⟩
    rw [Int.mul_one]
  done := by
    intro X hP hw hK hc i pins s σ H E I hf st hg
    subst hP hw hK
    obtain ⟨f0, f1, f2, f3, f4, f5⟩ := hf it (by simp)
    exact wpAny_pyNext_range_end (I.ok.hd hc) st (by have : n ≤ i := hg; omega) fun h' eb => ⟨rfl, I.turned (t' := s.toks) (fun b o hb e => eb b o hb e) f0 f1 f3 f4 f5⟩
  self := fun _ _ _ _ _ st h => wpAny_pyIter_rangeiter st h
end L2
namespace L2
open PySem PySem.Spec PyProof.Rows
section
variable {X : Cx} {tg : Expr}
theorem range_it {pins : List (Addr × Obj)} {σ : St} {H : Hp} {s : Shared} {R : It → Hp → Prop} {E : Value → Shared → Prop} {lo hi : Int} {t u v : Tok} {tk : Nat} (I : Inv X pins σ H s) (h1 : -(2 ^ 62) ≤ lo) (h2 : lo < 2 ^ 62) (h3 : -(2 ^ 62) ≤ hi) (h4 : hi < 2 ^ 62)
    (q : R (Itr lo (hi - lo).toNat) H) : wpAny (model X.prog X.w) X.A (pyIter (.ref s.heap.objs.size)) (PIE X pins σ tg R) E { s with heap := s.heap.push { cls := .type "range", data := .fields #[.int lo t, .int hi u, .int 1 v] }, toks := tk } := by
  refine wpAny_pyIter_range (IsRange.new ..) (small_one h1 h2 h3 h4) ?_
  have I1 : Inv X pins σ H { s with heap := s.heap.push { cls := .type "range", data := .fields #[.int lo t, .int hi u, .int 1 v] }, toks := tk } := I.kept fun b o e => Heap.get?_push_of_some _ e
  refine ⟨(s.heap.push { cls := .type "range", data := .fields #[.int lo t, .int hi u, .int 1 v] }).objs.size, [(s.heap.push { cls := .type "range", data := .fields #[.int lo t, .int hi u, .int 1 v] }).objs.size], _, _, H, rfl,
    I1.kept (t' := tk) fun b o e => Heap.get?_push_of_some _ e, turn_range _ lo (hi - lo).toNat, ?_, fun b hb => ?_, q⟩
  · have e1 : lo + ((0 : Nat) : Int) * 1 = lo := by simp
    have e2 : (((hi - lo).toNat : Nat) : Int) - ((0 : Nat) : Int) = Builtin.Range.rangeSize lo hi 1 := by rw [rangeSize_one]; split <;> omega
    show IsRangeIter _ _ (lo + ((0 : Nat) : Int) * 1) ((((hi - lo).toNat : Nat) : Int) - ((0 : Nat) : Int)) 1
    rw [e1, e2]
    exact Heap.get?_push_size _ rfl
  · have e : b = (s.heap.push { cls := .type "range", data := .fields #[.int lo t, .int hi u, .int 1 v] }).objs.size := by simpa using hb
    subst e
    exact I1.fpOk (Nat.le_refl _) (I1.hok.fresh (Nat.le_refl _))
def iRng1 (ta : TA) : TI := fun σ H R => ta σ H fun vs H1 => ∃ j : Int, vs = [.int j] ∧ -(2 ^ 62) ≤ j ∧ j < 2 ^ 62 ∧ R (Itr 0 j.toNat) H1
theorem pi_range1 {a : Expr} {ta : TA} {p pos : Pos} (hg : Gl X "range") (hm : X.mg "range" = none) (ha : PA X [a] ta) (hs : starEach [a] X.env = [(false, eval a X.env)] := by rfl) : PI X tg (.Call (.Name "range" p) [a] [] pos) (iRng1 ta) := by
  intro pins s σ H R I h
  refine Call_ (ld_blt I hg hm boot_range (PyProof.Rows.callWith_type1 (thn (ha pos pins s σ H _ I h) fun us s1 ⟨vs, H1, I1, r1, q1⟩ => ?_) hs rfl))
  obtain ⟨j, e, q1, q2, q⟩ := q1
  subst e
  cases r1 with
  | cons r rr =>
    cases rr
    obtain ⟨t, rfl⟩ := r
    exact call_range_1 (range_it I1 (by omega) (by omega) q1 q2 (by simpa using q))
def tFor (wi : TI) (g : TG) (tb : TS) : TS := fun D σ H => wi σ H fun J H1 => ∃ W : Nat → Nat → St → Hp → Prop, (∃ m, W 0 m σ H1) ∧ ∀ i m σ H, W i m σ H →
  (J.stop i H ∧ D.nx σ H) ∨ (J.go i H ∧ ∃ N : St → Hp → Prop, (∀ σ' H', N σ' H' → ∃ m', m' < m ∧ W (i + 1) m' σ' H') ∧ ∀ x H', J.yld i H x H' → g x σ H' fun σ2 H2 => tb { D with nx := N, ct := N, bk := D.nx } σ2 H2)
def pinsAt (fp : List Addr) (h : Heap) : List (Addr × Obj) := fp.filterMap fun b => (h.get? b).map fun o => (b, o)
theorem mem_pinsAt {fp : List Addr} {h : Heap} {b : Addr} {o : Obj} (hb : b ∈ fp) (e : h.get? b = some o) : (b, o) ∈ pinsAt fp h := List.mem_filterMap.mpr ⟨b, hb, by rw [e]; rfl⟩
theorem of_pinsAt {fp : List Addr} {h : Heap} {p : Addr × Obj} (hp : p ∈ pinsAt fp h) : p.1 ∈ fp ∧ h.get? p.1 = some p.2 := by
  obtain ⟨b, hb, e⟩ := List.mem_filterMap.mp hp
  cases q : h.get? b with
  | none => rw [q] at e; cases e
  | some o =>
    rw [q] at e
    have e' : (b, o) = p := Option.some.inj e
    subst e'
    exact ⟨hb, q⟩
theorem Inv.pinned {pins : List (Addr × Obj)} {σ : St} {H : Hp} {s : Shared} {fp : List Addr} (I : Inv X pins σ H s) (hf : ∀ b ∈ fp, FpOk X pins H b) (ho : ∀ b ∈ fp, ∃ o, s.heap.get? b = some o ∧ ∀ v, o.data ≠ .cell v) : Inv X (pins ++ pinsAt fp s.heap) σ H s :=
  I.pins_of fun p hp => (List.mem_append.mp hp).elim (fun z => I.pin p (List.mem_append_right _ z)) fun z => by
    obtain ⟨hb, e⟩ := of_pinsAt z
    obtain ⟨f0, f1, f2, _⟩ := hf p.1 hb
    obtain ⟨o, e', d⟩ := ho p.1 hb
    rw [e] at e'; cases e'
    exact ⟨e, f0, f1, f2, d⟩
theorem Inv.unpinned {pins pl : List (Addr × Obj)} {σ : St} {H : Hp} {s : Shared} (I : Inv X (pins ++ pl) σ H s) : Inv X pins σ H s := I.pins_of fun p hp => I.pin p (List.mem_append_right _ (List.mem_append_left _ hp))
theorem ps_for {iter : Expr} {body : List Stmt} {wi : TI} {g : TG} {tb : TS} {pos : Pos} (hp : PassesOwn (model X.prog X.w) X.A X.env X.xe) (hc : X.calm = true) (hi : PI X tg iter wi) (hg : PG X tg g) (hb : PSs X body tb)
    (hs : ∀ x, foldedSetIterable iter X.env x = pure x := by intro _; rfl) : PS X (.For tg iter body [] pos) (tFor wi g tb) := by
  intro pins s σ H D I h
  refine wpAny_For (thn (hi pins s σ H _ I h) fun v s1 h1 => thn h1 fun itv s2 h2 => ?_) hs
  obtain ⟨it, fp, tn, J, H2, e, I2, T, st2, f2, W, ⟨m0, w0⟩, turn⟩ := h2
  subst e
  -- what stays true of the iterator's objects through the loop
  have stat : ∀ {H' : Hp}, (∀ b ∈ fp, H' b = none) → ∀ b ∈ fp, FpOk X pins H' b := fun hn b hb => ⟨hn b hb, (f2 b hb).2⟩
  refine codeAny_forLoop_any (fun n s' => ∃ i σ' H', Inv X pins σ' H' s' ∧ tn i s'.heap ∧ (∀ b ∈ fp, H' b = none) ∧ W i n σ' H') ?_ m0 ⟨0, σ, H2, I2, st2, fun b hb => (f2 b hb).1, w0⟩
  rintro n s3 ⟨i, σ3, H3, I3, st3, fr3, w3⟩
  rcases turn i n σ3 H3 w3 with ⟨stop, qn⟩ | ⟨go, N, hN, step⟩
  · refine wpAny_passesOwn hp (thn (T.done X rfl rfl rfl hc i pins s3 σ3 H3 X.xe I3 (stat fr3) st3 stop) fun r s4 ⟨hr, I4⟩ => ?_)
    subst hr
    exact wpAny_execs_nil ⟨σ3, H3, I4, qn⟩
  · refine wpAny_passesOwn hp (thn (T.item X rfl rfl rfl hc i pins s3 σ3 H3 X.xe I3 (stat fr3) st3 go) fun r s4 ⟨u, hr, h4⟩ => ?_)
    subst hr
    refine wpAny_passesOwn hp (thn h4 fun _ s5 ⟨x, H5, I5, r5, y5, st5, fr5⟩ => ?_)
    have I5' := I5.pinned (stat fr5) (T.obj _ _ st5)
    refine wpAny_passesOwn hp (thn (hg _ s5 σ3 H5 x u _ I5' r5 (step x H5 y5)) fun _ s6 ⟨σ6, H6, I6, q6⟩ => ?_)
    refine wpAny_passesOwn hp (thn (hb _ s6 σ6 H6 _ I6 q6) fun f s7 q7 => ?_)
    have again : ∀ {σ7 : St} {H7 : Hp}, Inv X (pins ++ pinsAt fp s5.heap) σ7 H7 s7 → N σ7 H7 → ∃ m, m < n ∧ ∃ i σ' H', Inv X pins σ' H' s7 ∧ tn i s7.heap ∧ (∀ b ∈ fp, H' b = none) ∧ W i m σ' H' := fun {σ7 H7} I7 n7 => by
      obtain ⟨m', hm, w7⟩ := hN σ7 H7 n7
      refine ⟨m', hm, i + 1, σ7, H7, I7.unpinned, T.keep _ _ _ st5 fun b hb o e => (I7.pin (b, o) (List.mem_append_right _ (List.mem_append_right _ (mem_pinsAt hb e)))).1, fun b hb => ?_, w7⟩
      obtain ⟨o, e, d⟩ := T.obj _ _ st5 b hb
      exact (I7.pin (b, o) (List.mem_append_right _ (List.mem_append_right _ (mem_pinsAt hb e)))).2.1
    cases f with
    | next => obtain ⟨σ7, H7, I7, n7⟩ := q7; exact again I7 n7
    | cont => obtain ⟨σ7, H7, I7, n7⟩ := q7; exact again I7 n7
    | brk => obtain ⟨σ7, H7, I7, q7⟩ := q7; exact ⟨σ7, H7, I7.unpinned, q7⟩
    | ret v => obtain ⟨x7, σ7, H7, I7, r7, q7⟩ := q7; exact ⟨x7, σ7, H7, I7.unpinned, r7, q7⟩
end
end L2
namespace L2
open PySem PySem.Spec PyProof.Rows
abbrev R2 := V → V → Hp → VK → Prop
def OpR (X : Cx) (f : Value → Value → Sem Value) (r : R2) : Prop :=
  ∀ (pins : List (Addr × Obj)) (s : Shared) (σ : St) (H : Hp) (x y : V) (v u : Value) (Q : VK), Inv X pins σ H s → RelV x v → RelV y u → r x y H Q →
    wpAny (model X.prog X.w) X.A (f v u) (EP X pins σ Q) X.xe s
def UnR (X : Cx) (f : Value → Sem Value) (r : V → Hp → VK → Prop) : Prop :=
  ∀ (pins : List (Addr × Obj)) (s : Shared) (σ : St) (H : Hp) (x : V) (v : Value) (Q : VK), Inv X pins σ H s → RelV x v → r x H Q →
    wpAny (model X.prog X.w) X.A (f v) (EP X pins σ Q) X.xe s
def CallR (X : Cx) (f : Value) (r : List V → Hp → VK → Prop) : Prop :=
  ∀ (pins : List (Addr × Obj)) (s : Shared) (σ : St) (H : Hp) (xs : List V) (us : List Value) (Q : VK), Inv X pins σ H s → Vals xs us → r xs H Q →
    wpAny (model X.prog X.w) X.A (call f us) (EP X pins σ Q) X.xe s
def TruR (X : Cx) (r : V → Hp → (Bool → Hp → Prop) → Prop) : Prop :=
  ∀ (pins : List (Addr × Obj)) (s : Shared) (σ : St) (H : Hp) (x : V) (v : Value) (Q : Bool → Hp → Prop), Inv X pins σ H s → RelV x v → r x H Q →
    wpAny (model X.prog X.w) X.A (truthy v) (TP X pins σ Q) X.xe s
def tOp (r : R2) (ta tb : TE) : TE := fun σ H Q => ta σ H fun x H1 => tb σ H1 fun y H2 => r x y H2 Q
def tUn (r : V → Hp → VK → Prop) (ta : TE) : TE := fun σ H Q => ta σ H fun x H1 => r x H1 Q
def rI (C : Int → Int → Prop) (g : Int → Int → V) : R2 := fun x y H Q => ∃ i j, x = .int i ∧ y = .int j ∧ C i j ∧ Q (g i j) H
def rI0 (g : Int → Int → V) : R2 := fun x y H Q => ∃ i j, x = .int i ∧ y = .int j ∧ Q (g i j) H
def rU (g : Int → V) : V → Hp → VK → Prop := fun x H Q => ∃ i, x = .int i ∧ Q (g i) H
section
variable {X : Cx} {a b c : Expr} {ta tb tc : TE} {pos : Pos}
theorem binT (ha : PE X a ta) (hb : PE X b tb) {pins : List (Addr × Obj)} {s : Shared} {σ : St} {H : Hp} {R : V → V → Hp → Prop} (I : Inv X pins σ H s)
    (h : ta σ H fun x H1 => tb σ H1 fun y H2 => R x y H2) {Q : Value → Shared → Prop} {f : Value → Value → Sem Value}
    (hf : ∀ v u s2 x y H2, Inv X pins σ H2 s2 → RelV x v → RelV y u → R x y H2 → wpAny (model X.prog X.w) X.A (f v u) Q X.xe s2) :
    wpAny (model X.prog X.w) X.A (eval a X.env) (fun v s₁ => wpAny (model X.prog X.w) X.A (eval b X.env) (fun u s₂ => wpAny (model X.prog X.w) X.A (f v u) Q X.xe s₂) X.xe s₁) X.xe s := by
  refine thn (ha pins s σ H _ I h) fun v s1 ⟨x, H1, I1, r1, q1⟩ => ?_
  refine thn (hb pins s1 σ H1 _ I1 q1) fun u s2 ⟨y, H2, I2, r2, q2⟩ => ?_
  exact hf v u s2 x y H2 I2 r1 r2 q2
theorem pe_op {op : Operator} {r : R2} (ho : OpR X (binaryOp op) r) (ha : PE X a ta) (hb : PE X b tb) : PE X (.BinOp a op b pos) (tOp r ta tb) := by
  intro pins s σ H Q I h
  exact wpAny_BinOp (binT ha hb I h fun v u s2 x y H2 I2 rx ry q => ho pins s2 σ H2 x y v u Q I2 rx ry q)
theorem pe_un {op : UnaryOp} {r : V → Hp → VK → Prop} (ho : UnR X (unaryOp op) r) (ha : PE X a ta) : PE X (.UnaryOp op a pos) (tUn r ta) := by
  intro pins s σ H Q I h
  exact UnaryOp_ (thn (ha pins s σ H _ I h) fun v s1 ⟨x, H1, I1, r1, q1⟩ => ho pins s1 σ H1 x v Q I1 r1 q1)
theorem opI {f : Value → Value → Sem Value} {C : Int → Int → Prop} {g : Int → Int → Int}
    (rule : ∀ (i j : Int) (t u : Tok) (s : Shared) (Q : Value → Shared → Prop) (E : Value → Shared → Prop), C i j → Q (.int (g i j) s.toks) { s with toks := s.toks + 1 } → wpAny (model X.prog X.w) X.A (f (.int i t) (.int j u)) Q E s) :
    OpR X f (rI C fun i j => .int (g i j)) := by
  intro pins s σ H x y v u Q I rx ry h
  obtain ⟨i, j, rfl, rfl, hc, q⟩ := h
  obtain ⟨t, rfl⟩ := rx
  obtain ⟨t', rfl⟩ := ry
  exact rule i j t t' s _ _ hc ⟨.int (g i j), H, I.tok _, ⟨_, rfl⟩, q⟩
theorem opI0 {f : Value → Value → Sem Value} {g : Int → Int → Int}
    (rule : ∀ (i j : Int) (t u : Tok) (s : Shared) (Q : Value → Shared → Prop) (E : Value → Shared → Prop), Q (.int (g i j) s.toks) { s with toks := s.toks + 1 } → wpAny (model X.prog X.w) X.A (f (.int i t) (.int j u)) Q E s) :
    OpR X f (rI0 fun i j => .int (g i j)) := by
  intro pins s σ H x y v u Q I rx ry h
  obtain ⟨i, j, rfl, rfl, q⟩ := h
  obtain ⟨t, rfl⟩ := rx
  obtain ⟨t', rfl⟩ := ry
  exact rule i j t t' s _ _ ⟨.int (g i j), H, I.tok _, ⟨_, rfl⟩, q⟩
theorem opB0 {f : Value → Value → Sem Value} {g : Int → Int → Bool}
    (rule : ∀ (i j : Int) (t u : Tok) (s : Shared) (Q : Value → Shared → Prop) (E : Value → Shared → Prop), Q (.bool (g i j)) s → wpAny (model X.prog X.w) X.A (f (.int i t) (.int j u)) Q E s) :
    OpR X f (rI0 fun i j => .bl (g i j)) := by
  intro pins s σ H x y v u Q I rx ry h
  obtain ⟨i, j, rfl, rfl, q⟩ := h
  obtain ⟨t, rfl⟩ := rx
  obtain ⟨t', rfl⟩ := ry
  exact rule i j t t' s _ _ ⟨.bl (g i j), H, I, rfl, q⟩
def CDiv (i j : Int) : Prop := 0 < j ∧ j < 1073741824
def CPow (i j : Int) : Prop := 0 ≤ j ∧ j ≤ 1000000 ∧ i.natAbs < 2 ^ 64
def CMul (i j : Int) : Prop := (-(2 ^ 64) < i ∧ i < 2 ^ 64) ∨ (-(2 ^ 64) < j ∧ j < 2 ^ 64)
theorem CMul.ok {i j : Int} (h : CMul i j) : IntMulOk i j := by
  rcases h with ⟨h1, h2⟩ | ⟨h1, h2⟩
  · exact .of_left (intBits_le_64 h1 h2)
  · exact .of_right (intBits_le_64 h1 h2)
theorem op_add : OpR X (binaryOp .Add) (rI0 fun i j => .int (i + j)) := opI0 fun _ _ _ _ _ _ _ q => add_int q
theorem op_sub : OpR X (binaryOp .Sub) (rI0 fun i j => .int (i - j)) := opI0 fun _ _ _ _ _ _ _ q => sub_int q
theorem op_mul : OpR X (binaryOp .Mult) (rI CMul fun i j => .int (i * j)) := opI fun _ _ _ _ _ _ _ hc q => mul_int q hc.ok
theorem op_fdiv : OpR X (binaryOp .FloorDiv) (rI CDiv fun i j => .int (i / j)) := opI fun i j _ _ _ _ _ hc q => by
  have h1 : (0 : Int) < j := hc.1
  have h2 : j < 1073741824 := hc.2
  exact floordiv_int (by omega) (by rw [Int.fdiv_eq_ediv_of_nonneg i (by omega)]; exact q) (.inl (PyProof.noPylong_small (by omega)))
theorem op_mod : OpR X (binaryOp .Mod) (rI (fun _ j => 0 < j) fun i j => .int (i % j)) := opI fun i j _ _ _ _ _ hc q => by
  have h1 : (0 : Int) < j := hc
  exact mod_int' (by omega) (by rw [Int.fmod_eq_emod_of_nonneg i (by omega)]; exact q)
theorem op_pow : OpR X (binaryOp .Pow) (rI CPow fun i j => .int (i ^ j.toNat)) := opI fun _ _ _ _ _ _ _ hc q => pow_int_small hc.1 hc.2.1 hc.2.2 q
theorem unI {f : Value → Sem Value} {g : Int → Int}
    (rule : ∀ (i : Int) (t : Tok) (s : Shared) (Q : Value → Shared → Prop) (E : Value → Shared → Prop), Q (.int (g i) s.toks) { s with toks := s.toks + 1 } → wpAny (model X.prog X.w) X.A (f (.int i t)) Q E s) :
    UnR X f (rU fun i => .int (g i)) := by
  intro pins s σ H x v Q I rx h
  obtain ⟨i, rfl, q⟩ := h
  obtain ⟨t, rfl⟩ := rx
  exact rule i t s _ _ ⟨.int (g i), H, I.tok _, ⟨_, rfl⟩, q⟩
theorem un_neg : UnR X (unaryOp .USub) (rU fun i => .int (-i)) := unI fun _ _ _ _ _ q => neg_int q
end
section
variable {X : Cx} {a b c : Expr} {ta tb tc : TE} {pos : Pos}
theorem fin_bl {pins : List (Addr × Obj)} {σ : St} {H : Hp} {s : Shared} {Q : VK} {k k' : Bool} (I : Inv X pins σ H s) (q : Q (.bl k) H) (e : k = k') : EP X pins σ Q (.bool k') s := by
  subst e
  exact ⟨.bl k, H, I, rfl, q⟩
theorem op_lt : OpR X (compareOp .Lt) (rI0 fun i j => .bl (decide (i < j))) := opB0 fun _ _ _ _ _ _ _ q => lt_int q
theorem op_le : OpR X (compareOp .LtE) (rI0 fun i j => .bl (decide (i ≤ j))) := opB0 fun _ _ _ _ _ _ _ q => le_int q
theorem op_in_str : OpR X (compareOp .In) (fun x y H Q => ∃ i j, x = .str i ∧ y = .str j ∧ Q (.bl (!(Builtin.Str.occurrences j i 0 j.length 1).isEmpty)) H) := by
  intro pins s σ H x y v u Q I rx ry h
  obtain ⟨i, j, rfl, rfl, q⟩ := h
  obtain ⟨t, rfl⟩ := rx
  obtain ⟨t', rfl⟩ := ry
  exact in_str (fin_bl I q rfl)
theorem op_isN : OpR X (compareOp .Is) (fun x y H Q => y = .non ∧ Q (.bl (decide (x = .non))) H) := by
  intro pins s σ H x y v u Q I rx ry h
  obtain ⟨rfl, q⟩ := h
  cases ry
  refine is_none_gen (fin_bl I q ?_)
  cases x <;> first
    | (cases rx; rfl)
    | (obtain ⟨t, rfl⟩ := rx; rfl)
theorem op_notN : OpR X (compareOp .IsNot) (fun x y H Q => y = .non ∧ Q (.bl (!decide (x = .non))) H) := by
  intro pins s σ H x y v u Q I rx ry h
  obtain ⟨rfl, q⟩ := h
  cases ry
  refine isnot_none_gen (fin_bl I q ?_)
  cases x <;> first
    | (cases rx; rfl)
    | (obtain ⟨t, rfl⟩ := rx; rfl)
theorem OpR.or {f : Value → Value → Sem Value} {r r' : R2} (h : OpR X f r) (h' : OpR X f r') : OpR X f (fun x y H Q => r x y H Q ∨ r' x y H Q) := by
  intro pins s σ H x y v u Q I rx ry q
  rcases q with q | q
  · exact h pins s σ H x y v u Q I rx ry q
  · exact h' pins s σ H x y v u Q I rx ry q
theorem nomark (b : Expr) {op : CmpOp} (h : op ≠ .In := by decide) (h2 : op ≠ .NotIn := by decide) : behindInMarks op b = false := by
  have e1 : (op == CmpOp.In) = false := by cases op <;> first | rfl | exact absurd rfl h
  have e2 : (op == CmpOp.NotIn) = false := by cases op <;> first | rfl | exact absurd rfl h2
  cases b <;> simp [behindInMarks, e1, e2]
theorem pe_cmpR {op : CmpOp} {r : R2} (ho : OpR X (compareOp op) r) (ha : PE X a ta) (hb : PE X b tb) (hm : behindInMarks op b = false) : PE X (.Compare a [op] [b] pos) (tOp r ta tb) := by
  intro pins s σ H Q I h
  exact wpAny_Compare1 (binT ha hb I h fun v u s2 x y H2 I2 rx ry q => ho pins s2 σ H2 x y v u Q I2 rx ry q) hm
def tTest (t : TE) : TT := fun σ H Q => t σ H fun x H' => ∃ k, x = .bl k ∧ Q k H'
theorem pt_cmpR {op : CmpOp} {r : R2} (ho : OpR X (compareOp op) r) (ha : PE X a ta) (hb : PE X b tb) (hm : behindInMarks op b = false) : PT X (.Compare a [op] [b] pos) (tTest (tOp r ta tb)) := by
  intro pins s σ H Q I h
  refine wpAny_isTrue_Compare1 (thn (ha pins s σ H _ I h) fun v s1 ⟨x, H1, I1, r1, q1⟩ => thn (hb pins s1 σ H1 _ I1 q1) fun u s2 ⟨y, H2, I2, r2, q2⟩ =>
    thn (ho pins s2 σ H2 x y v u _ I2 r1 r2 q2) fun c s3 ⟨z, H3, I3, r3, k, e, q3⟩ => ?_) hm
  subst e
  cases r3
  exact wpAny_truthy_bool ⟨H3, I3, q3⟩
def tChain (r r' : R2) (ta tb tc : TE) : TE := fun σ H Q => ta σ H fun x H1 => tb σ H1 fun y H2 => r x y H2 fun z H3 => ∃ k, z = .bl k ∧
  (if k = true then tc σ H3 fun w' H4 => r' y w' H4 Q else Q (.bl false) H3)
theorem pe_chain {op op' : CmpOp} {r r' : R2} (ho : OpR X (compareOp op) r) (ho' : OpR X (compareOp op') r') (ha : PE X a ta) (hb : PE X b tb) (hc : PE X c tc)
    (hm : lastMarks [op, op'] [b, c] = false := by with_unfolding_all rfl) : PE X (.Compare a [op, op'] [b, c] pos) (tChain r r' ta tb tc) := by
  intro pins s σ H Q I h
  refine Compare_chain (thn (ha pins s σ H _ I h) fun v s1 ⟨x, H1, I1, r1, q1⟩ => chain_link (thn (hb pins s1 σ H1 _ I1 q1) fun u s2 ⟨y, H2, I2, r2, q2⟩ =>
    thn (ho pins s2 σ H2 x y v u _ I2 r1 r2 q2) fun d s3 ⟨z, H3, I3, r3, k, e, q3⟩ => ?_)) hm
  subst e
  cases r3
  refine wpAny_truthy_bool ?_
  cases k with
  | false => exact ite_ff ⟨.bl false, H3, I3, rfl, q3⟩
  | true => exact ite_tt (chain_last (thn (hc pins s3 σ H3 _ I3 q3) fun w' s4 ⟨z', H4, I4, r4, q4⟩ => ho' pins s4 σ H4 y z' u w' Q I4 r2 r4 q4))
def TruV (K : PySem.W.Frag) (x : V) (H : Hp) (k : Bool) : Prop :=
  match x with
  | .non => k = false
  | .bl b => k = b
  | .int i => k = (i != 0)
  | .str y => y.length ≤ sizeLine ∧ k = ((y.length : Int) != 0)
  | .byt y => y.size ≤ sizeLine ∧ k = ((y.size : Int) != 0)
  | .ref p => (∃ xs, SqL K H p xs ∧ k = !xs.isEmpty) ∨ (∃ xs, SqT K H p xs ∧ k = !xs.isEmpty) ∨ ∃ kvs, H p = some (.dK kvs) ∧ k = !kvs.isEmpty
  | _ => False
theorem isEmpty_kv {κ : Type} {kvs : List (κ × V)} {vs : List (κ × Value)} (r : KV kvs vs) : (!vs.isEmpty) = !kvs.isEmpty := by
  cases r <;> rfl
theorem isEmpty_of {xs : List V} {its : List Value} (r : Vals xs its) : (!its.toArray.isEmpty) = !xs.isEmpty := by
  cases r <;> simp
theorem line63 : (sizeLine : Nat) < 2 ^ 63 := by rw [sizeLine_eq]; decide
theorem tru_ok : TruR X (fun x H Q => ∃ k, TruV X.K x H k ∧ Q k H) := by
  intro pins s σ H x v Q I rx h
  obtain ⟨k, e, q⟩ := h
  have hl := line63
  have hs : sizeLine = 16777216 := sizeLine_eq
  cases x with
  | non =>
    cases rx
    have e' : k = false := e
    subst e'
    exact truthy_none ⟨H, I, q⟩
  | bl b =>
    cases rx
    have e' : k = b := e
    subst e'
    exact wpAny_truthy_bool ⟨H, I, q⟩
  | int i =>
    obtain ⟨t, rfl⟩ := rx
    have e' : k = (i != 0) := e
    subst e'
    exact PySem.P.truthy_int ⟨H, I, q⟩
  | str y =>
    obtain ⟨t, rfl⟩ := rx
    obtain ⟨hy, e'⟩ : y.length ≤ sizeLine ∧ k = ((y.length : Int) != 0) := e
    subst e'
    exact PySem.P.truthy_str (by omega) ⟨H, I.tok _, q⟩
  | byt y =>
    obtain ⟨t, rfl⟩ := rx
    obtain ⟨hy, e'⟩ : y.size ≤ sizeLine ∧ k = ((y.size : Int) != 0) := e
    subst e'
    exact PySem.W.truthy_bytes (by omega) ⟨H, I.tok _, q⟩
  | ref p =>
    cases rx
    have e' : (∃ xs, SqL X.K H p xs ∧ k = !xs.isEmpty) ∨ (∃ xs, SqT X.K H p xs ∧ k = !xs.isEmpty) ∨ ∃ kvs, H p = some (.dK kvs) ∧ k = !kvs.isEmpty := e
    rcases e' with ⟨xs, hx, e'⟩ | ⟨xs, hx, e'⟩ | ⟨kvs, hx, e'⟩
    · subst e'
      obtain ⟨its, r, pl, hz⟩ := I.list hx
      have hlen := r.length
      exact wpAny_truthy_list pl.isList (by simp only [List.size_toArray]; omega) ⟨H, I.tok _, by rw [isEmpty_of r]; exact q⟩
    · subst e'
      obtain ⟨its, r, pl, hz⟩ := I.tuple hx
      have hlen := r.length
      exact truthy_tuple pl (by simp only [List.size_toArray]; omega) ⟨H, I.tok _, by rw [isEmpty_of r]; exact q⟩
    · subst e'
      obtain ⟨hz, hS, vs, r, m⟩ : kvs.length ≤ sizeLine ∧ (p == sysModules) = false ∧ ∃ vs, KV kvs vs ∧ s.heap.DictOf (mixKind X.prog X.w) p vs := I.hok p _ hx
      have hlen : kvs.length = vs.length := Paired.length r
      exact wpAny_truthy_dict hS m (by omega) ⟨H, I.tok _, by rw [isEmpty_kv r]; exact q⟩
  | _ => exact (show False from e).elim
theorem pt_truth (ha : PE X a ta) (he : ∀ whole, isTrue a X.env whole = (do let v ← whole; standAt a.pos; holding [v] (truthy v))) :
    PT X a (fun σ H Q => ta σ H fun x H' => ∃ k, TruV X.K x H' k ∧ Q k H') := by
  intro pins s σ H Q I h
  exact isTrue_plain (thn (ha pins s σ H _ I h) fun v s1 ⟨x, H1, I1, r1, q1⟩ => tru_ok pins s1 σ H1 x v Q I1 r1 q1) (he _)
theorem op_add_str : OpR X (binaryOp .Add) (fun x y H Q => ∃ i j, x = .str i ∧ y = .str j ∧ i.length + j.length ≤ sizeLine ∧ Q (.str (i ++ j)) H) := by
  intro pins s σ H x y v u Q I rx ry h
  obtain ⟨i, j, rfl, rfl, hz, q⟩ := h
  obtain ⟨t, rfl⟩ := rx
  obtain ⟨t', rfl⟩ := ry
  exact add_str (fun t' tk => ⟨.str (i ++ j), H, I.tok _, ⟨_, rfl⟩, q⟩) hz
def PlainIxT (b : Expr) : Prop := ∀ o i, subscripted b false o i = operate [o, i] (getItem o i)
theorem pe_item_str (ha : PE X a ta) (hb : PE X b tb) (hs : PlainIxT b) :
    PE X (.Subscript a b pos) (tOp (fun x y H Q => ∃ z i c, x = .str z ∧ y = .int i ∧ 0 ≤ i ∧ i < 2 ^ 63 ∧ i < z.length ∧ z.cps[i.toNat]? = some c ∧ Q (.str ⟨#[c]⟩) H) ta tb) := by
  intro pins s σ H Q I h
  refine Subscript_ (binT ha hb I h fun v u s2 x y H2 I2 rx ry q => ?_)
  obtain ⟨z, i, c, rfl, rfl, h0, h63, h1, hc, q⟩ := q
  obtain ⟨t, rfl⟩ := rx
  obtain ⟨t', rfl⟩ := ry
  have e : seqIndex? i z.length = some i.toNat := PySem.StrLaws.seqIndex_nonneg h0 h1
  exact tail_any (typeIs_str s2 z t) slot_str_getitem.lookup (getItem_str (c := c) (by
    have e1 : decide (i < -(2 ^ 63 : Int)) = false := decide_eq_false (by omega)
    have e2 : decide (i ≥ 2 ^ 63) = false := decide_eq_false (by omega)
    rw [e1, e2] <;> rfl) (by rw [e]; exact hc) ⟨.str ⟨#[c]⟩, H2, I2.tok _, ⟨_, rfl⟩, q⟩) (hs _ _)
theorem vals1 {x : V} {us : List Value} (r : Vals [x] us) : ∃ u, us = [u] ∧ RelV x u := by
  cases r with
  | cons r1 r2 => cases r2; exact ⟨_, rfl, r1⟩
theorem vals2 {x y : V} {us : List Value} (r : Vals [x, y] us) : ∃ u w', us = [u, w'] ∧ RelV x u ∧ RelV y w' := by
  cases r with
  | cons r1 r2 =>
    cases r2 with
    | cons r3 r4 => cases r4; exact ⟨_, _, rfl, r1, r3⟩
theorem call_min2 (hc : X.calm = true) : CallR X (.builtin "min") (fun xs H Q => ∃ i j, xs = [.int i, .int j] ∧ Q (.int (if j < i then j else i)) H) := by
  intro pins s σ H xs us Q I r h
  obtain ⟨i, j, rfl, q⟩ := h
  obtain ⟨u, w', rfl, ⟨t, rfl⟩, ⟨t', rfl⟩⟩ := vals2 r
  refine min_two_ints (I.ok.hd hc) fun h' tk k => ⟨_, H, I.kept k, ?_, q⟩
  by_cases hj : j < i
  · rw [if_pos hj, if_pos hj]; exact ⟨_, rfl⟩
  · rw [if_neg hj, if_neg hj]; exact ⟨_, rfl⟩
theorem call_str_int : CallR X (.type "str") (fun xs H Q => ∃ i, xs = [.int i] ∧ i.natAbs.log2 < 1920 ∧ Q (.str (toString i)) H) := by
  intro pins s σ H xs us Q I r h
  obtain ⟨i, rfl, hz, q⟩ := h
  obtain ⟨u, rfl, t, rfl⟩ := vals1 r
  exact PySem.P.str_of_int hz ⟨.str _, H, I.tok _, ⟨_, rfl⟩, q⟩
end
end L2
namespace L2
open PySem PySem.Spec PyProof.Rows
section
variable {prog : Program} {w : World} {A : Around} {E : Value → Shared → Prop} {s : Shared} {K : PySem.W.Frag} {x dx C f : Addr} {mA : Str → Option Value} {name : Str} {v : Value}
end
section
variable {P : Program} {w : World} {H H' : Hp} {h h' : Heap} {a C dx : Addr} {fs fs' : List (Str × V)}
end
structure Cls (K : PySem.W.Frag) (C : Addr) : Prop where
  pg : PySem.W.plainGet K C Str.empty = true
  hd : PySem.W.hasDictIn K C = true
  po : PySem.W.plainOver K C = true
  sa : PySem.W.findIn K (.ref C) "__setattr__" = some (some (.builtin "object.__setattr__"))
theorem Cls.get {K : PySem.W.Frag} {C : Addr} (c : Cls K C) (f : Str) : PySem.W.plainGet K C f = true := c.pg
section
variable {X : Cx} {pins : List (Addr × Obj)} {σ : St} {H : Hp} {s : Shared} {a C dx : Addr} {fs : List (Str × V)} {f : Str} {v : V} {A : Around} {E : Value → Shared → Prop}
theorem Inv.made (I : Inv X pins σ H s) : Inv X pins σ (upd (upd H s.heap.objs.size (.own (s.heap.objs.size + 1))) (s.heap.objs.size + 1) (.ins C s.heap.objs.size []))
    { s with heap := (s.heap.push PySem.W.emptyDict).push (PySem.W.instObj C s.heap.objs.size) } := by
  have e1 : (s.heap.push PySem.W.emptyDict).get? s.heap.objs.size = some PySem.W.emptyDict := Heap.get?_push_size s.heap rfl
  have e2 : ((s.heap.push PySem.W.emptyDict).push (PySem.W.instObj C s.heap.objs.size)).get? (s.heap.objs.size + 1) = some (PySem.W.instObj C s.heap.objs.size) := by
    have := Heap.get?_push_size (s.heap.push PySem.W.emptyDict) (o := PySem.W.instObj C s.heap.objs.size) rfl
    rwa [Heap.size_push] at this
  have e3 : (s.heap.push PySem.W.emptyDict).Ns s.heap.objs.size (fun _ => none) := ⟨PySem.W.emptyDict, #[], _, e1, rfl, (fun e he => absurd he (by simp)), fun _ => rfl⟩
  have I1 := I.laid (a := s.heap.objs.size) (o := .own (s.heap.objs.size + 1)) (h' := s.heap.push PySem.W.emptyDict) (t' := s.toks) (fun b u q => Heap.get?_push_of_some _ q) (Nat.le_refl _) ⟨_, e1⟩
  refine I1.laid (a := s.heap.objs.size + 1) (o := .ins C s.heap.objs.size []) (t' := s.toks) (fun b u q => Heap.get?_push_of_some _ q) (Nat.le_of_eq (Heap.size_push _ _)) ?_
  have ne : s.heap.objs.size ≠ s.heap.objs.size + 1 := Nat.ne_of_lt (Nat.lt_succ_self _)
  refine ⟨by rw [upd_ne ne, upd_same], Nat.zero_le _, ne, e2, fun _ => none, (Heap.Ns1.of_empty e3).at fun o q => Heap.get?_push_of_some _ q, fun _ => True.intro, fun y hy => absurd rfl hy⟩
end
section
variable {X : Cx} {o e value : Expr} {f : Str} {pos pos' tpos : Pos} {ta tv : TE}
end
section
variable {X : Cx} {pins : List (Addr × Obj)} {σ : St} {H : Hp} {s : Shared} {A : Around} {E : Value → Shared → Prop} {Q : Value → Shared → Prop} {c : Value} {b : Bool}
end
end L2
namespace L2
open PySem PySem.Spec PyProof.Rows
structure Room (k : Nat) (A : Around) : Prop where
  hd : A.handled = none
  dp : A.depth + 3 * k + 5 < recursionLimit
  un : A.units + 16 * k + 200 < cLine
theorem Room.mono {j k : Nat} {A : Around} (r : Room k A) (h : j ≤ k) : Room j A := ⟨r.hd, by have := r.dp; omega, by have := r.un; omega⟩
theorem Room.deeper {k : Nat} {A : Around} (r : Room (k + 1) A) (env : Env) : Room k (A.deeper env) :=
  ⟨r.hd, by have := r.dp; show A.depth + 1 + 3 * k + 5 < _; omega, by have := r.un; show A.units + 3 + 16 * k + 200 < _; omega⟩
theorem Room.in1 {k : Nat} {A : Around} (r : Room (k + 1) A) : Room k A.in1 :=
  ⟨r.hd, by have := r.dp; show A.depth + 3 * k + 5 < _; omega, by have := r.un; show A.units + 1 + 16 * k + 200 < _; omega⟩
theorem Room.depth {k : Nat} {A : Around} (r : Room k A) : A.depth < recursionLimit := by have := r.dp; omega
theorem Room.units {k : Nat} {A : Around} (r : Room k A) : A.units + 64 < cLine := by have := r.un; omega
def tNil : TA := fun _ H Q => Q [] H
def tCons (ta : TE) (tr : TA) : TA := fun σ H Q => ta σ H fun x H1 => tr σ H1 fun xs H2 => Q (x :: xs) H2
section
variable {X : Cx} {e : Expr} {es : List Expr} {te : TE} {t : TA} {pos : Pos}
theorem pa_nil : PA X [] tNil := fun _ _ _ _ H Q I h => Calls.spliced_nil ⟨[], H, I, .nil, h⟩
theorem pa_cons (ha : PE X e te) (hr : PA X es t) (hs : starEach (e :: es) X.env = (false, eval e X.env) :: starEach es X.env := by rfl) : PA X (e :: es) (tCons te t) := by
  intro pos pins s σ H Q I h
  rw [hs]
  show wpAny _ _ (spliced ((false, eval e X.env) :: backTo pos (starEach es X.env))) _ _ s
  refine Calls.spliced_cons (thn (ha pins s σ H _ I h) fun u s1 ⟨x, H1, I1, r1, q1⟩ => ?_)
  exact thn (hr pos pins s1 σ H1 _ I1 q1) fun us s2 ⟨xs, H2, I2, r2, q2⟩ => ⟨x :: xs, H2, I2, .cons r1 r2, q2⟩
def tTup (t : TA) : TE := fun σ H Q => t σ H fun xs H1 => xs.length ≤ sizeLine ∧ ∀ p, H1 p = none → Q (.ref p) (upd H1 p (.tup xs))
def tLst (t : TA) : TE := fun σ H Q => t σ H fun xs H1 => xs.length ≤ sizeLine ∧ ∀ p, H1 p = none → Q (.ref p) (upd H1 p (.lst xs))
theorem pe_tup {x1} (h : PA X es t) : PE X (.Tuple es x1 pos) (tTup t) := by
  intro pins s σ H Q I hq
  refine wpAny_Tuple_spliced (thn (h pos pins s σ H _ I hq) fun us s1 ⟨xs, H1, I1, r, z, q⟩ => ⟨by rw [← r.length]; exact z, ?_⟩)
  have hf : H1 s1.heap.objs.size = none := I1.hok.fresh (Nat.le_refl _)
  refine ⟨.ref s1.heap.objs.size, upd H1 s1.heap.objs.size (.tup xs), I1.laid (t' := s1.toks) (fun b u e => Heap.get?_push_of_some _ e) (Nat.le_refl _) ?_, rfl, q _ hf⟩
  exact ⟨z, us, r, IsTupD.new _ _⟩
theorem pe_lst (h : PA X es t) : PE X (.List es pos) (tLst t) := by
  intro pins s σ H Q I hq
  refine wpAny_List_spliced (thn (h pos pins s σ H _ I hq) fun us s1 ⟨xs, H1, I1, r, z, q⟩ => ⟨by rw [← r.length]; exact z, ?_⟩)
  have hf : H1 s1.heap.objs.size = none := I1.hok.fresh (Nat.le_refl _)
  refine ⟨.ref s1.heap.objs.size, upd H1 s1.heap.objs.size (.lst xs), I1.laid (t' := s1.toks) (fun b u e => Heap.get?_push_of_some _ e) (Nat.le_refl _) ?_, rfl, q _ hf⟩
  exact ⟨z, us, 0, r, Heap.get?_push_size _ rfl⟩
end
abbrev Sp := List V → Hp → VK → XK → Prop
abbrev CXT := List Env → Hp → Shared → XK → Value → Shared → Prop
structure Env0 (P : Program) (w : World) (K : PySem.W.Frag) (mg : Str → Option Value) (base : Heap) (A : Around) (outer : List Env) (s : Shared) (H : Hp) : Prop where
  frames : A.frames = some outer
  mod : Mod K mg base
  bs : ∀ b o, base.get? b = some o → s.heap.get? b = some o ∧ H b = none
  bsz : base.objs.size ≤ s.heap.objs.size
  funs : s.heap.FunFrames base outer
  frf : ∀ b ∈ frs outer, H b = none
  hok : HOk P w H s.heap
  bare : AllBare s.gens
def CE (outer : List Env) (P : Program) (w : World) (H : Hp) (s : Shared) (Q : VK) (u : Value) (s' : Shared) : Prop :=
  ∃ v H', s'.os = s.os ∧ AllBare s'.gens ∧ Un (frs outer) [] H H' s.heap s'.heap ∧ HOk P w H' s'.heap ∧ RelV v u ∧ Q v H'
def CR (CX : CXT) (outer : List Env) (P : Program) (w : World) (H : Hp) (s : Shared) (Q : VK) (E : XK) (r : Result) (s' : Shared) : Prop :=
  match r with
  | .ok (.ret u) => CE outer P w H s Q u s'
  | .ok _ => False
  | .error e => CX outer H s E e s'
structure FnOk (P : Program) (w : World) (K : PySem.W.Frag) (mg : Str → Option Value) (base : Heap) (CX : CXT) (k : Nat) (f : Addr) (fd : FuncData) (ps : List Str) (sp : Sp) : Prop where
  len : ∀ vs H Q E, sp vs H Q E → vs.length = ps.length
  run : ∀ (A : Around) (outer : List Env) (s : Shared) (H : Hp) (args : Args) (us : List Value) (vs : List V) (Q : VK) (E : XK), Room k A → Env0 P w K mg base A outer s H → BindsTo s fd args (ps.zip us) → Vals vs us → sp vs H Q E →
    codeAny (model P w) A (.call (.ref f) args) (CR CX outer P w H s Q E) s
theorem FnOk.mono {P : Program} {w : World} {K : PySem.W.Frag} {mg : Str → Option Value} {base : Heap} {CX : CXT} {j k : Nat} {f : Addr} {fd : FuncData} {ps : List Str} {sp : Sp} (F : FnOk P w K mg base CX j f fd ps sp) (h : j ≤ k) :
    FnOk P w K mg base CX k f fd ps sp := ⟨F.len, fun A outer s H args us vs Q E hr => F.run A outer s H args us vs Q E (hr.mono h)⟩
theorem FnOk.imp {P : Program} {w : World} {K : PySem.W.Frag} {mg : Str → Option Value} {base : Heap} {CX : CXT} {k : Nat} {f : Addr} {fd : FuncData} {ps : List Str} {sp sp' : Sp} (F : FnOk P w K mg base CX k f fd ps sp)
    (h : ∀ vs H Q E, sp' vs H Q E → sp vs H Q E) : FnOk P w K mg base CX k f fd ps sp' :=
  ⟨fun vs H Q E q => F.len vs H Q E (h _ _ _ _ q), fun A outer s H args us vs Q E hr he hb hv hs => F.run A outer s H args us vs Q E hr he hb hv (h _ _ _ _ hs)⟩
theorem Env0.in1 {P : Program} {w : World} {K : PySem.W.Frag} {mg : Str → Option Value} {base : Heap} {A : Around} {outer : List Env} {s : Shared} {H : Hp} (e : Env0 P w K mg base A outer s H) :
    Env0 P w K mg base A.in1 outer s H := ⟨e.frames, e.mod, e.bs, e.bsz, e.funs, e.frf, e.hok, e.bare⟩
section
variable {X : Cx} {pins : List (Addr × Obj)} {σ : St} {H : Hp} {s s' : Shared}
theorem Inv.env0 (I : Inv X pins σ H s) : Env0 X.prog X.w X.K X.mg X.base X.A X.stack s H :=
  ⟨I.ok.frames, I.ok.mod, I.bs, Nat.le_trans I.ok.bsz I.sz, I.stack, I.stkFree, I.hok, I.bare⟩
theorem Inv.after {Q : VK} {u : Value} (I : Inv X pins σ H s) (h : CE X.stack X.prog X.w H s Q u s') : EP X pins σ Q u s' := by
  obtain ⟨v, H', os, bare, un, hok, r, q⟩ := h
  obtain ⟨hh, g, d, t, os'⟩ := s'
  obtain rfl : os' = s.os := os
  exact ⟨v, H', I.call (h' := hh) (g' := g) (d' := d) (t' := t) (ch := []) un hok bare (fun b z => absurd z (by simp)), r, q⟩
end
def tCall (sp : Sp) (dvs : List V) (E : XK) (t : TA) : TE := fun σ H Q => t σ H fun vs H1 => sp (vs ++ dvs) H1 Q E
def Binds (K : PySem.W.Frag) (fd : FuncData) (ps : List Str) (ds : List Value) : Prop :=
  ∀ (s : Shared) (us : List Value), K.In s.heap → (us ++ ds).length = ps.length → BindsTo s fd ⟨us, []⟩ (ps.zip (us ++ ds))
theorem Binds.all {K : PySem.W.Frag} {fd : FuncData} {ps : List Str} (h : ∀ us : List Value, us.length = ps.length → bindArgs fd ⟨us, []⟩ = pure (ps.zip us)) : Binds K fd ps [] := fun s us _ hl => by
  rw [List.append_nil] at hl ⊢
  exact .of_eq (h us hl)
def Passes (CX : CXT) (X : Cx) (E : XK) : Prop := ∀ (pins : List (Addr × Obj)) (σ : St) (H : Hp) (s : Shared) (e : Value) (s' : Shared), Inv X pins σ H s → CX X.stack H s E e s' → X.xe e s'
section
variable {X : Cx} {CX : CXT} {k : Nat} {f C : Addr} {fd : FuncData} {ps : List Str} {sp : Sp} {dvs : List V} {ds : List Value} {E : XK} {x m : Str} {p pos apos : Pos} {e o : Expr} {es : List Expr} {ta : TE} {t : TA}
theorem run_fn {pins : List (Addr × Obj)} {σ : St} {H : Hp} {s : Shared} {Q : VK} {us : List Value} {vs : List V} (F : FnOk X.prog X.w X.K X.mg X.base CX k f fd ps sp) (hr : Room k X.A) (hb : Binds X.K fd ps ds) (hd : Vals dvs ds) (hx : Passes CX X E)
    (I : Inv X pins σ H s) (r : Vals vs us) (h : sp (vs ++ dvs) H Q E) : wpAny (model X.prog X.w) X.A (call (.ref f) us) (EP X pins σ Q) X.xe s := by
  have r2 : Vals (vs ++ dvs) (us ++ ds) := r.append hd
  have hl : (us ++ ds).length = ps.length := by rw [← r2.length]; exact F.len _ _ _ _ h
  refine wpAny_call (codeAny_mono (F.run X.A X.stack s H ⟨us, []⟩ (us ++ ds) (vs ++ dvs) Q E hr I.env0 (hb s us I.kIn hl) r2 h) fun r s' hq => ?_)
  cases r with
  | error e => exact hx pins σ H s e s' I hq
  | ok fl =>
    cases fl with
    | ret u => exact I.after hq
    | next => exact False.elim hq
    | brk => exact False.elim hq
    | cont => exact False.elim hq
theorem pe_call (F : FnOk X.prog X.w X.K X.mg X.base CX k f fd ps sp) (hr : Room k X.A) (hg : Gl X x) (hm : X.mg x = some (.ref f)) (hk : PySem.W.keepIn X.K (.ref f) = true) (hb : Binds X.K fd ps ds) (hd : Vals dvs ds) (hx : Passes CX X E)
    (ha : PA X (e :: es) t) (hdb : (x == ("__debug__" : Str)) = false := by decide) (he : starEach (e :: es) X.env = (false, eval e X.env) :: starEach es X.env := by rfl) (hpl : (backTo pos (starEach es X.env)).any (·.1) = false := by rfl) :
    PE X (.Call (.Name x p) (e :: es) [] pos) (tCall sp dvs E t) := by
  intro pins s σ H Q I h
  refine wpAny_Call_Name_kw (ld_glob I hg hm ?_ hdb)
  refine PySem.W.callWith_K (h₀ := X.base) I.ok.mod.kin hk (thn (ha pos pins s σ H _ I h) fun us s1 ⟨vs, H1, I1, r, q⟩ => ⟨I1.kIn, ?_⟩) he hpl
  exact run_fn F hr hb hd hx I1 r q
end
section
variable {X : Cx} {CX : CXT} {k : Nat} {f C : Addr} {fd : FuncData} {ps ks : List Str} {sp : Sp} {E : XK} {x m : Str} {p pos apos kpos : Pos} {e o : Expr} {es : List Expr} {kws : List Keyword} {te ta : TE} {t tk : TA} {nm : Option Str}
variable {g : List Value → List Value → List Value} {gV : List V → List V → List V}
end
structure FnScope (N P : List Str) (sc : Scope) : Prop where
  kind : sc.kind = .function
  co : sc.isCoroutine = false
  gen : sc.isGenerator = false
  nd : N.Nodup
  pre : N.take P.length = P
  par : ∀ x ∈ P, sc.names.lookup x = some .local ∨ sc.names.lookup x = some .cell
  nofree : ∀ y ∈ sc.names, y.2 ≠ .free
theorem bindL_out {kindOf : Str → Option NameKind} {x : Str} : ∀ {binds : List (Str × Value)} {m : Str → Option Value}, (∀ v, (x, v) ∉ binds) → bindL kindOf binds m x = m x
  | [], _, _ => rfl
  | (n, v) :: r, m, h => by
    unfold bindL
    rw [bindL_out fun w hw => h w (List.mem_cons_of_mem _ hw)]
    split
    · have : x ≠ n := by rintro rfl; exact h v List.mem_cons_self
      simp [this]
    · rfl
theorem bindC_out {kindOf : Str → Option NameKind} {x : Str} : ∀ {binds : List (Str × Value)} {m : Str → Option Value}, (∀ v, (x, v) ∉ binds) → bindC kindOf binds m x = m x
  | [], _, _ => rfl
  | (n, v) :: r, m, h => by
    unfold bindC
    rw [bindC_out fun w hw => h w (List.mem_cons_of_mem _ hw)]
    split
    · rfl
    · have : x ≠ n := by rintro rfl; exact h v List.mem_cons_self
      simp [this]
theorem bindL_get {kindOf : Str → Option NameKind} {x : Str} {v : Value} : ∀ {P : List Str} {vs : List Value} {i : Nat} {m : Str → Option Value}, P.Nodup → P[i]? = some x → vs[i]? = some v → kindOf x = some .local →
    bindL kindOf (P.zip vs) m x = some v
  | [], _, _, _, _, h, _, _ => by simp at h
  | _ :: _, [], _, _, _, _, h, _ => by simp at h
  | p :: P, w :: vs, 0, m, nd, h1, h2, hk => by
    simp at h1 h2; subst h1; subst h2
    show bindL kindOf ((p, w) :: P.zip vs) m p = _
    unfold bindL
    rw [bindL_out fun v hv => (List.nodup_cons.mp nd).1 (List.of_mem_zip hv).1, if_pos hk]
    simp
  | p :: P, w :: vs, i + 1, m, nd, h1, h2, hk => by
    show bindL kindOf ((p, w) :: P.zip vs) m x = _
    unfold bindL
    exact bindL_get (i := i) (List.nodup_cons.mp nd).2 (by simpa using h1) (by simpa using h2) hk
theorem bindC_get {kindOf : Str → Option NameKind} {x : Str} {v : Value} : ∀ {P : List Str} {vs : List Value} {i : Nat} {m : Str → Option Value}, P.Nodup → P[i]? = some x → vs[i]? = some v → kindOf x ≠ some .local →
    bindC kindOf (P.zip vs) m x = some v
  | [], _, _, _, _, h, _, _ => by simp at h
  | _ :: _, [], _, _, _, _, h, _ => by simp at h
  | p :: P, w :: vs, 0, m, nd, h1, h2, hk => by
    simp at h1 h2; subst h1; subst h2
    show bindC kindOf ((p, w) :: P.zip vs) m p = _
    unfold bindC
    rw [bindC_out fun v hv => (List.nodup_cons.mp nd).1 (List.of_mem_zip hv).1, if_neg hk]
    simp
  | p :: P, w :: vs, i + 1, m, nd, h1, h2, hk => by
    show bindC kindOf ((p, w) :: P.zip vs) m x = _
    unfold bindC
    exact bindC_get (i := i) (List.nodup_cons.mp nd).2 (by simpa using h1) (by simpa using h2) hk
def start (N : List Str) (vs : List V) : St := vs.map some ++ List.replicate (N.length - vs.length) none
def cxOf (CX : CXT) (P : Program) (w : World) (K : PySem.W.Frag) (mg : Str → Option Value) (base : Heap) (N : List Str) (qual : Str) (scope : Scope) (f : Addr) (cd : Value) (A : Around) (outer : List Env) (s : Shared) (H : Hp) (E : XK) : Cx where
  prog := P
  w := w
  K := K
  mg := mg
  base := base
  A := A.deeper (envOfC qual scope s.heap.objs.size f cd)
  N := N
  s₀ := s
  H₀ := H
  env := envOfC qual scope s.heap.objs.size f cd
  outer := outer
  stack := envOfC qual scope s.heap.objs.size f cd :: outer
  ex := []
  calm := true
  fn := fun _ => true
  pn := []
  xe := fun e s' => wpAny (model P w) (A.deeper (envOfC qual scope s.heap.objs.size f cd)) (leaving (envOfC qual scope s.heap.objs.size f cd) e) (fun _ s'' => CX outer H s E e s'') (fun e' s'' => CX outer H s E e' s'') s'
theorem cell_has {sc : Scope} {n : Nat} {x : Str} (h : sc.names.lookup x = some .cell) : ∃ c, (cellsFrom n sc.names []).lookup x = some c := by
  have q := PySem.W.cellsFrom_some sc.names n [] (.inl h)
  exact Option.isSome_iff_exists.mp q
theorem inv_start {CX : CXT} {P : Program} {w : World} {K : PySem.W.Frag} {mg : Str → Option Value} {base : Heap} {N ps : List Str} {qual : Str} {scope : Scope} {f : Addr} {cd : Value} {A : Around} {outer : List Env} {s s1 : Shared} {H : Hp} {E : XK} {us : List Value} {vs : List V}
    (S : FnScope N ps scope) (hd : A.handled = none) (e0 : Env0 P w K mg base A outer s H) (hl : vs.length = ps.length) (r : Vals vs us)
    (x : InCallC s s.heap.objs.size (bindL (envOfC qual scope s.heap.objs.size f cd).kindOf (ps.zip us) fun _ => none) (cellsFrom (s.heap.objs.size + 1) scope.names []) (bindC (envOfC qual scope s.heap.objs.size f cd).kindOf (ps.zip us) fun _ => none) s1) :
    Inv (cxOf CX P w K mg base N qual scope f cd A outer s H E) [] (start N vs) H s1 := by
  have hpl : ps.length ≤ N.length := by have := congrArg List.length S.pre; rw [List.length_take] at this; omega
  obtain ⟨h1, tk, rfl, hk⟩ := x.done
  have noA : ∀ b : Addr, b ∉ (cxOf CX P w K mg base N qual scope f cd A outer s H E).ex := fun b z => absurd (show b ∈ ([] : List Addr) from z) (by simp)
  refine ⟨⟨e0.mod, S.kind, rfl, rfl, Nat.le_refl _, fun y z c h1 h2 => ?_, fun y hy => ?_, fun y c _ h => ?_, fun _ => hd, Around.frames_deeper e0.frames, .inr ⟨rfl, rfl⟩, fun b z => absurd z (noA b), e0.bs, e0.bsz, fun b _ _ => noA b, fun b z => absurd z (noA b), e0.funs, e0.frf⟩,
    rfl, e0.bare, Un.kept hk, ⟨_, x.toInCall.ns, fun i y v h1 h2 h3 => ?_⟩, fun y c h => ⟨_, x.cell y c h⟩, e0.hok.fresh (Nat.le_refl _), fun y c h => ?_, fun p hp => absurd (show p ∈ ([] : List (Addr × Obj)) from hp) (by simp), e0.hok.kept hk, ?_⟩
  · exact name_of_addr x.apart (PySem.mem_of_lookup h1) (PySem.mem_of_lookup h2)
  · have hy : scope.names.lookup y = some .cell ∨ scope.names.lookup y = some .free := hy
    rcases hy with hy | hy
    · exact cell_has hy
    · exact absurd rfl (S.nofree _ (PySem.mem_of_lookup hy))
  · exact Nat.le_of_lt (x.above y c (PySem.mem_of_lookup h))
  · have hi : i < vs.length := by
      unfold start at h2
      by_cases hi : i < vs.length
      · exact hi
      · rw [List.getElem?_append_right (by simpa using hi)] at h2
        rw [List.getElem?_replicate] at h2
        split at h2 <;> cases h2
    have ha : vs[i]? = some v := by
      unfold start at h2
      rw [List.getElem?_append_left (by simpa using hi), List.getElem?_map] at h2
      cases e : vs[i]? with
      | none => rw [e] at h2; cases h2
      | some a => rw [e] at h2; cases h2; rfl
    obtain ⟨u, hu, rv⟩ := r.get ha
    have hp : ps[i]? = some y := by
      rw [← S.pre, List.getElem?_take_of_lt (by omega)]; exact h1
    have ndP : ps.Nodup := by rw [← S.pre]; exact S.nd.sublist (List.take_sublist _ _)
    refine ⟨u, rv, ?_⟩
    rcases S.par y (List.mem_of_getElem? hp) with k | k
    · exact .inl ⟨k, bindL_get ndP hp hu k⟩
    · obtain ⟨c, e⟩ := cell_has (n := s.heap.objs.size + 1) k
      refine .inr ⟨.inl k, c, e, ?_⟩
      have q := x.cell y c e
      rw [bindC_get ndP hp hu (by show scope.names.lookup y ≠ _; rw [k]; decide)] at q
      exact q
  · exact e0.hok.fresh (Nat.le_of_lt (x.above y c (PySem.mem_of_lookup h)))
  · unfold start
    show _ = N.length
    rw [List.length_append, List.length_map, List.length_replicate]
    omega
theorem fn_of {CX : CXT} {P : Program} {w : World} {K : PySem.W.Frag} {mg : Str → Option Value} {base : Heap} {k : Nat} {f : Addr} {name qual : Str} {params : Arguments} {body : List Stmt} {scope : Scope} {dV kV doc pm cdv ct oc : Value} {an od : Option Addr}
    {osl : Array (Option Value)} {N ps : List Str} {sp : Sp} (lk : K.lookup f = some ⟨oc, od, .func (PySem.W.fnOf name qual params body scope dV kV doc pm an cdv ct), osl⟩) (hcd : PySem.W.codeIn K cdv qual = true) (S : FnScope N ps scope)
    (len : ∀ vs H Q E, sp vs H Q E → vs.length = ps.length)
    (hbody : ∀ (A : Around) (outer : List Env) (s : Shared) (H : Hp) (vs : List V) (Q : VK) (E : XK), Room k (A.deeper (envOfC qual scope s.heap.objs.size f cdv)) → sp vs H Q E →
      ∃ t, PSs (cxOf CX P w K mg base N qual scope f cdv A outer s H E) body t ∧ t { nx := fun _ H' => Q .non H', rt := Q } (start N vs) H) :
    FnOk P w K mg base CX (k + 1) f (PySem.W.fnOf name qual params body scope dV kV doc pm an cdv ct) ps sp := by
  refine ⟨len, fun A outer s H args us vs Q E hr e0 hb r hsp => ?_⟩
  have hl := len _ _ _ _ hsp
  have KX : K.In s.heap := e0.mod.kin.keeps fun b o e => (e0.bs b o e).1
  have lim : s.heap.NoLimit := e0.mod.nolimit.keeps fun b o e => (e0.bs b o e).1
  have hkind : ∀ y ∈ ps.zip us, scope.names.lookup y.1 = some .local ∨ (scope.names.lookup y.1 = some .cell ∧ ((cellsFrom (s.heap.objs.size + 1) scope.names []).lookup y.1).isSome = true) := fun ⟨n, v⟩ hy => by
    rcases S.par n (List.of_mem_zip hy).1 with q | q
    · exact .inl q
    · exact .inr ⟨q, PySem.W.cellsFrom_some _ _ _ (.inl q)⟩
  refine codeAny_call_function hr.depth (KX _ _ lk) rfl S.co S.gen rfl (PySem.W.codeRec_of KX hcd) (hb _ _ _ _ ?_)
  refine wpAny_newFunctionEnv_cells S.kind hkind fun env he s1 x => ?_
  subst he
  refine ⟨lim.keeps x.toInCall.keep, codeAny_func ?_⟩
  obtain ⟨t, ht, hq⟩ := hbody A outer s H vs Q E (hr.deeper _) hsp
  have I : Inv (cxOf CX P w K mg base N qual scope f cdv A outer s H E) [] (start N vs) H s1 := inv_start S hr.hd e0 hl r x
  refine wpAny_mono (ht [] s1 (start N vs) H _ I hq) (fun fl s' hs => ?_) fun e s' hs => hs
  have fin : ∀ {σ' : St} {H' : Hp} {v : V} {u : Value}, Inv (cxOf CX P w K mg base N qual scope f cdv A outer s H E) [] σ' H' s' → RelV v u → Q v H' → CE outer P w H s Q u s' :=
    fun {σ' H' v u} J rv q => ⟨v, H', J.os, J.bare, J.base, J.hok, rv, q⟩
  cases fl with
  | ret u =>
    obtain ⟨v, σ', H', J, rv, q⟩ := hs
    exact fin J rv q
  | next =>
    obtain ⟨σ', H', J, q⟩ := hs
    exact fin (v := V.non) (u := Value.none) J rfl q
  | brk =>
    obtain ⟨_, _, _, q⟩ := hs
    exact False.elim q
  | cont =>
    obtain ⟨_, _, _, q⟩ := hs
    exact False.elim q
end L2
namespace L2
open PySem PySem.Spec PyProof.Rows
section
variable {X : Cx} {x : Str} {p pos : Pos} {e : Expr} {es : List Expr} {t : TA} {id T : String} {r : List V → Hp → VK → Prop}
def tCB (r : List V → Hp → VK → Prop) (t : TA) : TE := fun σ H Q => t σ H fun vs H1 => r vs H1 Q
theorem pe_callB (hc : CallR X (.builtin id) r) (hg : Gl X x) (hm : X.mg x = none) (hv : bootBuiltins x = some (.builtin id)) (ha : PA X (e :: es) t) (hn : x ≠ "__name__" := by decide) (hdb : (x == ("__debug__" : Str)) = false := by decide)
    (he : starEach (e :: es) X.env = (false, eval e X.env) :: starEach es X.env := by rfl) (hpl : (backTo pos (starEach es X.env)).any (·.1) = false := by rfl) : PE X (.Call (.Name x p) (e :: es) [] pos) (tCB r t) := by
  intro pins s σ H Q I h
  refine wpAny_Call_Name_kw (ld_blt I hg hm hv ?_ hn hdb)
  exact PyProof.Rows.callWith_builtin1 (thn (ha pos pins s σ H _ I h) fun us s1 ⟨vs, H1, I1, r1, q1⟩ => hc pins s1 σ H1 vs us Q I1 r1 q1) he hpl
theorem pe_callTy (hc : CallR X (.type T) r) (hg : Gl X x) (hm : X.mg x = none) (hv : bootBuiltins x = some (.type T)) (ha : PA X (e :: es) t) (hn : x ≠ "__name__" := by decide) (hdb : (x == ("__debug__" : Str)) = false := by decide)
    (he : starEach (e :: es) X.env = (false, eval e X.env) :: starEach es X.env := by rfl) (hpl : (backTo pos (starEach es X.env)).any (·.1) = false := by rfl) : PE X (.Call (.Name x p) (e :: es) [] pos) (tCB r t) := by
  intro pins s σ H Q I h
  refine wpAny_Call_Name_kw (ld_blt I hg hm hv ?_ hn hdb)
  exact PyProof.Rows.callWith_type1 (thn (ha pos pins s σ H _ I h) fun us s1 ⟨vs, H1, I1, r1, q1⟩ => hc pins s1 σ H1 vs us Q I1 r1 q1) he hpl
end
end L2
namespace HT
open PySem PyProof.Rows
section
open PySem.SeqAt
open PySem.AutoSeq1 (wpAny_loadPart')
open PySem.MeetsSeq PySem.MeetsSeq2 PySem.MeetsSeq3
end
section
variable {prog : Program} {w : World} {A : Around} {E : Value → Shared → Prop} {s : Shared}
theorem cat_tup {t b : Addr} {vs ws : List Value} {Q : Value → Shared → Prop} (ht : IsTup s.heap t vs.toArray) (hb : IsTup s.heap b ws.toArray) (hv : vs ≠ [])
    (h1 : ws = [] → Q (.ref t) s) (h2 : ws ≠ [] → Q (.ref s.heap.objs.size) { s with heap := s.heap.push { cls := .type "tuple", data := .seq (vs ++ ws).toArray } })
    (hsz : vs.length + ws.length ≤ sizeLine) : wpAny (model prog w) A (binaryOp .Add (.ref t) (.ref b)) Q E s := by
  obtain ⟨⟨cls, dd, data, sl⟩, ho, hc, n, hd⟩ := id ht
  obtain ⟨⟨cls2, dd2, data2, sl2⟩, ho2, hc2, n2, hd2⟩ := id hb
  simp only at hc hd hc2 hd2
  subst hc hd hc2 hd2
  have e : vs.toArray ++ ws.toArray = (vs ++ ws).toArray := by simp
  by_cases hw : ws = []
  · exact concat_meets ⟨_, ho, rfl⟩ ⟨_, ho2, rfl⟩ noFill_tuple_add seq_tuple_add PySem.F.slot_tuple_add PySem.F.entry_tuple_add (PySem.F.args_tuple_add_2 _ _)
      (tuple_addW1 t b vs.toArray ws.toArray n n2 dd dd2 sl sl2 (by simpa using hv) (by simp [hw])) ⟨ho, ho2, h1 hw⟩
  · refine concat_meets ⟨_, ho, rfl⟩ ⟨_, ho2, rfl⟩ noFill_tuple_add seq_tuple_add PySem.F.slot_tuple_add PySem.F.entry_tuple_add (PySem.F.args_tuple_add_2 _ _)
      (tuple_addW2 t b vs.toArray ws.toArray n n2 dd dd2 sl sl2 (by simpa using hv) (by simpa using hw) (by rw [List.size_toArray, List.size_toArray]; exact hsz)) ⟨ho, ho2, ?_⟩
    rw [e]
    exact h2 hw
def sIx (n d : Nat) : Option Int → Nat
  | none => d
  | some v => if v < 0 then (v + (n : Int)).toNat else min v.toNat n
theorem sIx_nat (n d k : Nat) : sIx n d (some (k : Int)) = min k n := by
  show (if (k : Int) < 0 then ((k : Int) + (n : Int)).toNat else min (k : Int).toNat n) = min k n
  rw [if_neg (by omega), Int.toNat_natCast]
theorem sIx_le (n d : Nat) (hd : d ≤ n) (o : Option Int) : sIx n d o ≤ n := by
  cases o with
  | none => exact hd
  | some v =>
    show (if v < 0 then (v + (n : Int)).toNat else min v.toNat n) ≤ n
    by_cases hv : v < 0
    · rw [if_pos hv]; omega
    · rw [if_neg hv]; exact Nat.min_le_right _ _
theorem clip_eq (v : Int) (n d : Nat) : (if v < 0 then max (v + (n : Int)) 0 else min v (n : Int)) = ((sIx n d (some v) : Nat) : Int) := by
  show (if v < 0 then max (v + (n : Int)) 0 else min v (n : Int)) = (((if v < 0 then (v + (n : Int)).toNat else min v.toNat n) : Nat) : Int)
  by_cases hv : v < 0
  · simp only [if_pos hv]; omega
  · simp only [if_neg hv]; omega
theorem adjust_gen (lo hi : Option Int) (n : Nat) : Builtin.Slice.sliceAdjust lo hi 1 (n : Int) = (((sIx n 0 lo : Nat) : Int), ((sIx n n hi : Nat) : Int)) := by
  have h1 : ¬ ((1 : Int) < 0) := by omega
  unfold Builtin.Slice.sliceAdjust
  simp only [h1, if_false]
  refine Prod.ext ?_ ?_
  · cases lo with
    | none => rfl
    | some v => exact clip_eq v n 0
  · cases hi with
    | none => rfl
    | some v => exact clip_eq v n n
theorem places_gen (i j : Nat) : Builtin.Slice.slicePlaces (i : Int) (j : Int) 1 = j - i := by
  unfold Builtin.Slice.slicePlaces
  have h1 : (1 : Int) > 0 := by omega
  simp only [h1, if_true, Int.ediv_one]
  split <;> omega
theorem slicePart_ {v : Value} {o : Option Int} {Q : Option Int → Shared → Prop} (p : IsPart v o) (h : Q o s) : wpAny (model prog w) A (Builtin.Slice.slicePartIndex v) Q E s := by
  cases p with
  | none => exact slicePart_none h
  | int i t => exact slicePart_int h
theorem sliceApplied_gen {sl : Addr} {vl vu : Value} {lo hi : Option Int} {n : Nat} {Q : Int × Int × Nat → Shared → Prop} (hs : s.heap.IsSliceOf sl vl vu .none) (pl : IsPart vl lo) (pu : IsPart vu hi)
    (h : Q (((sIx n 0 lo : Nat) : Int), 1, sIx n n hi - sIx n 0 lo) s) : wpAny (model prog w) A (Builtin.Slice.sliceApplied (.ref sl) (pure (n : Int))) Q E s := by
  obtain ⟨os, hos, hcs, hds⟩ := id hs
  unfold Builtin.Slice.sliceApplied Builtin.Slice.sliceFields
  refine wpAny_bind (wpAny_bind (wpAny_field hos hds (x := vl) rfl (wpAny_bind (wpAny_field hos hds (x := vu) rfl (wpAny_bind (wpAny_field hos hds (x := .none) rfl (wpAny_pure ?_)))))))
  refine wpAny_bind (slicePart_none ?_)
  show wpAny _ _ (if ((1 : Int) == 0) = true then _ else _) _ _ s
  rw [if_neg (by decide)]
  refine wpAny_bind (slicePart_ pl (wpAny_bind (slicePart_ pu (wpAny_bind (wpAny_pure ?_)))))
  show wpAny _ _ (match Builtin.Slice.sliceAdjust lo hi 1 (n : Int) with | (lo, hi) => pure (lo, (1 : Int), Builtin.Slice.slicePlaces lo hi 1)) _ _ s
  rw [adjust_gen lo hi n]
  show wpAny _ _ (pure (((sIx n 0 lo : Nat) : Int), (1 : Int), Builtin.Slice.slicePlaces ((sIx n 0 lo : Nat) : Int) ((sIx n n hi : Nat) : Int) 1)) _ _ s
  rw [places_gen]
  exact wpAny_pure h
theorem pick_gen (xs : Array Value) (i k : Nat) : ((List.range k).filterMap fun (m : Nat) => xs[((i : Int) + (m : Int) * 1).toNat]?).toArray = ((xs.toList.drop i).take k).toArray := by
  have e : (fun (m : Nat) => xs[((i : Int) + (m : Int) * 1).toNat]?) = fun m => xs[i + m]? := by
    funext m
    have : ((i : Int) + (m : Int) * 1).toNat = i + m := by omega
    rw [this]
  rw [e]
  have := pick_run xs i k
  rw [List.filterMap_map] at this
  have e2 : ((fun x => xs[x]?) ∘ fun x => i + x) = fun m => xs[i + m]? := rfl
  rw [e2] at this
  rw [this]
theorem getItem_tuple_cut {t sl : Addr} {items : Array Value} {vl vu : Value} {lo hi : Option Int} {Q : Value → Shared → Prop} (ht : IsTup s.heap t items) (hs : s.heap.IsSliceOf sl vl vu .none) (pl : IsPart vl lo) (pu : IsPart vu hi)
    (hw : ¬ (sIx items.size 0 lo = 0 ∧ sIx items.size items.size hi = items.size))
    (h : Q (.ref s.heap.objs.size) { s with heap := s.heap.push { cls := .type "tuple", data := .seq ((items.toList.drop (sIx items.size 0 lo)).take (sIx items.size items.size hi - sIx items.size 0 lo)).toArray } })
    (hsz : items.size ≤ sizeLine) : wpAny (model prog w) A (getItem (.ref t) (.ref sl)) Q E s := by
  have htake : sizeOk (.seq ((items.toList.drop (sIx items.size 0 lo)).take (sIx items.size items.size hi - sIx items.size 0 lo)).toArray) := by
    show ((items.toList.drop (sIx items.size 0 lo)).take (sIx items.size items.size hi - sIx items.size 0 lo)).toArray.size ≤ sizeLine
    rw [List.size_toArray, List.length_take, List.length_drop, Array.length_toList]
    omega
  have hj : sIx items.size items.size hi ≤ items.size := sIx_le _ _ (Nat.le_refl _) hi
  obtain ⟨os, hos, hcs, hds⟩ := id hs
  have hTs : s.TypeIs (.ref sl) "slice" := ⟨os, hos, hcs⟩
  unfold getItem
  try with_reducible refine wpAny_holding ?_
  first | refine wpAny_bind (wpAny_pure ?_) | skip
  refine wpAny_bind (wpAny_sequenceKey ht.typeIs (by decide) ?_)
  refine wpAny_bind (wpAny_callSpecial?_slot (name := Str.ofString "__getitem__") ht.typeIs PyProof.Rows.slot_tuple_getitem
    (wpAny_call_entry PyProof.Rows.slot_tuple_getitem ht.typeIs entry_tuple_getitem ?_ (args_tuple_getitem _ _)))
  show wpAny _ _ (Builtin.Tuple.tupleItemsOf (.ref t) >>= _) _ _ s
  refine wpAny_bind (tupleItemsOf_ ht ?_)
  refine wpAny_bind (wpAny_typeOf hTs ?_)
  rw [if_pos (by decide)]
  refine wpAny_bind (sliceApplied_gen hs pl pu ?_)
  have hno : ¬ ((((sIx items.size 0 lo : Nat) : Int) == 0 && (1 : Int) == 1 && (sIx items.size items.size hi - sIx items.size 0 lo) == items.size) = true) := by
    intro q
    rw [Bool.and_eq_true, Bool.and_eq_true] at q
    have q1 : ((sIx items.size 0 lo : Nat) : Int) = 0 := eq_of_beq q.1.1
    have q2 : sIx items.size items.size hi - sIx items.size 0 lo = items.size := eq_of_beq q.2
    exact hw ⟨by omega, by omega⟩
  show wpAny _ _ (if (((sIx items.size 0 lo : Nat) : Int) == 0 && (1 : Int) == 1 && (sIx items.size items.size hi - sIx items.size 0 lo) == items.size) = true then _ else _) _ _ s
  rw [if_neg hno, pick_gen]
  first
    | exact wpAny_bind (m := Builtin.Tuple.tupleExact _) (wpAny_newObj_type (wpAny_pure ⟨_, rfl, wpAny_pure h⟩) htake)
    | exact wpAny_bind (m := Builtin.Tuple.tupleExact _) (wpAny_newObj_type (wpAny_bind (wpAny_pure (wpAny_pure ⟨_, rfl, wpAny_pure h⟩))) htake)
    | exact wpAny_bind (wpAny_bind (m := Builtin.Tuple.tupleExact _) (wpAny_newObj_type (wpAny_pure (wpAny_pure ⟨_, rfl, wpAny_pure h⟩)) htake))
    | exact wpAny_bind (wpAny_bind (m := Builtin.Tuple.tupleExact _) (wpAny_newObj_type (wpAny_pure ⟨_, rfl, wpAny_pure h⟩) htake))
end
end HT
namespace L2
open PySem PySem.Spec PyProof.Rows
abbrev TO := St → Hp → (Option Int → Hp → Prop) → Prop
def PO (X : Cx) (e : Option Expr) (t : TO) : Prop :=
  ∀ (pins : List (Addr × Obj)) (s : Shared) (σ : St) (H : Hp) (Q : Option Int → Hp → Prop), Inv X pins σ H s → t σ H Q →
    wpAny (model X.prog X.w) X.A (evalPart e X.env) (fun u s' => ∃ o H', Inv X pins σ H' s' ∧ IsPart u o ∧ Q o H') X.xe s
def tNoPart : TO := fun _ H Q => Q none H
def tPart (t : TE) : TO := fun σ H Q => t σ H fun x H1 => ∃ i, x = .int i ∧ Q (some i) H1
section
variable {X : Cx} {e : Expr} {te : TE} {lo hi : Option Expr} {tl th : TO} {pos p2 : Pos}
theorem po_none : PO X none tNoPart := by
  intro pins s σ H Q I h
  rw [evalPart_none]
  exact wpAny_pure ⟨none, H, I, .none, h⟩
theorem po_some (h : PE X e te) : PO X (some e) (tPart te) := by
  intro pins s σ H Q I hw
  rw [evalPart_some]
  refine thn (h pins s σ H _ I hw) fun u s1 ⟨x, H1, I1, r1, q1⟩ => ?_
  obtain ⟨i, rfl, q⟩ := q1
  obtain ⟨t, rfl⟩ := r1
  exact ⟨some i, H1, I1, .int i t, q⟩
def SlR (X : Cx) (r : V → Option Int → Option Int → Hp → VK → Prop) : Prop :=
  ∀ (pins : List (Addr × Obj)) (s : Shared) (σ : St) (H : Hp) (x : V) (v vl vu : Value) (lo hi : Option Int) (sl : Addr) (Q : VK), Inv X pins σ H s → RelV x v → s.heap.IsSliceOf sl vl vu .none → IsPart vl lo → IsPart vu hi → r x lo hi H Q →
    ∃ T id, typeLookup (.type T) "__getitem__" = pure (some (.builtin id)) ∧ s.TypeIs v T ∧ wpAny (model X.prog X.w) X.A (getItem v (.ref sl)) (EP X pins σ Q) X.xe s
theorem SlR.or {r r' : V → Option Int → Option Int → Hp → VK → Prop} (h : SlR X r) (h' : SlR X r') : SlR X (fun x lo hi H Q => r x lo hi H Q ∨ r' x lo hi H Q) := by
  intro pins s σ H x v vl vu lo hi sl Q I rx hs pl pu q
  rcases q with q | q
  · exact h pins s σ H x v vl vu lo hi sl Q I rx hs pl pu q
  · exact h' pins s σ H x v vl vu lo hi sl Q I rx hs pl pu q
def tSl (r : V → Option Int → Option Int → Hp → VK → Prop) (te : TE) (tl th : TO) : TE := fun σ H Q => te σ H fun x H1 => tl σ H1 fun l H2 => th σ H2 fun u H3 => r x l u H3 Q
theorem pe_slice {r : V → Option Int → Option Int → Hp → VK → Prop} (hr : SlR X r) (he : PE X e te) (hl : PO X lo tl) (hu : PO X hi th) : PE X (.Subscript e (.Slice lo hi none p2) pos) (tSl r te tl th) := by
  intro pins s σ H Q I h
  refine Subscript_ (thn (he pins s σ H _ I h) fun v s1 ⟨x, H1, I1, r1, q1⟩ => ?_)
  refine wpAny_Slice (thn (hl pins s1 σ H1 _ I1 q1) fun vl s2 ⟨l, H2, I2, pl, q2⟩ => thn (hu pins s2 σ H2 _ I2 q2) fun vu s3 ⟨u, H3, I3, pu, q3⟩ => ?_)
  rw [evalPart_none]
  refine wpAny_pure ?_
  have I4 : Inv X pins σ H3 { s3 with heap := s3.heap.push { cls := .type "slice", data := .fields #[vl, vu, .none] } } := I3.kept (t' := s3.toks) fun b ob q => Heap.get?_push_of_some _ q
  obtain ⟨T, id, hT, ht, hg⟩ := hr pins { s3 with heap := s3.heap.push { cls := .type "slice", data := .fields #[vl, vu, .none] } } σ H3 x v vl vu l u s3.heap.objs.size Q I4 r1 (Heap.IsSliceOf.new ..) pl pu q3
  show wpAny (model X.prog X.w) X.A (subscriptTail e (.Slice lo hi none p2) v (.ref s3.heap.objs.size)) (EP X pins σ Q) X.xe { s3 with heap := s3.heap.push { cls := .type "slice", data := .fields #[vl, vu, .none] } }
  exact tail_any (ops := [.ref s3.heap.objs.size, v]) ht hT hg (by with_unfolding_all rfl)
def cutV (xs : List V) (lo hi : Option Int) : List V := (xs.drop (HT.sIx xs.length 0 lo)).take (HT.sIx xs.length xs.length hi - HT.sIx xs.length 0 lo)
theorem cutV_length (xs : List V) (lo hi : Option Int) : (cutV xs lo hi).length ≤ xs.length := by
  unfold cutV
  rw [List.length_take, List.length_drop]
  omega
def rSlT (K : PySem.W.Frag) : V → Option Int → Option Int → Hp → VK → Prop := fun x lo hi H Q => ∃ a xs, x = .ref a ∧ SqT K H a xs ∧
  ¬ (HT.sIx xs.length 0 lo = 0 ∧ HT.sIx xs.length xs.length hi = xs.length) ∧ ∀ p, H p = none → Q (.ref p) (upd H p (.tup (cutV xs lo hi)))
theorem sl_tup : SlR X (rSlT X.K) := by
  intro pins s σ H x v vl vu lo hi sl Q I rx hs pl pu h
  obtain ⟨a, xs, rfl, hx, hw, q⟩ := h
  cases rx
  obtain ⟨its, r, ht, hz⟩ := I.tuple hx
  have hlen : its.toArray.size = xs.length := by rw [List.size_toArray]; exact r.length.symm
  refine ⟨"tuple", _, PyProof.Rows.slot_tuple_getitem.lookup, ht.typeIs, ?_⟩
  refine HT.getItem_tuple_cut ht hs pl pu (by rw [hlen]; exact hw) ?_ (by rw [hlen]; exact hz)
  rw [hlen]
  refine ⟨.ref s.heap.objs.size, _, I.laid (t' := s.toks) (o := .tup (cutV xs lo hi)) (fun b ob q => Heap.get?_push_of_some _ q) (Nat.le_refl _) ?_, rfl, q _ (I.hok.fresh (Nat.le_refl _))⟩
  exact ⟨Nat.le_trans (cutV_length xs lo hi) hz, _, (r.drop (HT.sIx xs.length 0 lo)).take (HT.sIx xs.length xs.length hi - HT.sIx xs.length 0 lo), IsTupD.new _ _⟩
def rCatT (K : PySem.W.Frag) : R2 := fun x y H Q => ∃ a b xs ys, x = .ref a ∧ y = .ref b ∧ SqT K H a xs ∧ SqT K H b ys ∧ xs ≠ [] ∧ xs.length + ys.length ≤ sizeLine ∧
  (ys = [] → Q (.ref a) H) ∧ (ys ≠ [] → ∀ p, H p = none → Q (.ref p) (upd H p (.tup (xs ++ ys))))
theorem Vals.nil_iff {xs : List V} {us : List Value} (r : Vals xs us) : us = [] ↔ xs = [] := by
  cases r with
  | nil => simp
  | cons _ _ => simp
theorem op_catT : OpR X (binaryOp .Add) (rCatT X.K) := by
  intro pins s σ H x y v u Q I rx ry h
  obtain ⟨a, b, xs, ys, rfl, rfl, ha, hb, hx, hz, q1, q2⟩ := h
  cases rx
  cases ry
  obtain ⟨its, r1, p1, _⟩ := I.tuple ha
  obtain ⟨its2, r2, p2, _⟩ := I.tuple hb
  refine HT.cat_tup p1 p2 (fun z => hx (r1.nil_iff.mp z)) (fun z => ⟨.ref a, H, I, rfl, q1 (r2.nil_iff.mp z)⟩) (fun z => ?_) (by rw [← r1.length, ← r2.length]; exact hz)
  refine ⟨.ref s.heap.objs.size, _, I.laid (t' := s.toks) (o := .tup (xs ++ ys)) (fun b ob q => Heap.get?_push_of_some _ q) (Nat.le_refl _) ?_, rfl, q2 (fun w => z (r2.nil_iff.mpr w)) _ (I.hok.fresh (Nat.le_refl _))⟩
  exact ⟨by rw [List.length_append]; exact hz, _, r1.append r2, IsTupD.new _ _⟩
end
end L2
namespace L2
open PySem PySem.Spec PyProof.Rows
def ixN (n : Nat) (i : Int) : Option Nat := if 0 ≤ i then (if i < n then some i.toNat else none) else if -(n : Int) ≤ i then some (i + n).toNat else none
def atI {α : Type} (xs : List α) (i : Int) : Option α := (ixN xs.length i).bind fun j => xs[j]?
theorem ixN_seq {n : Nat} {i : Int} {j : Nat} (h : ixN n i = some j) : seqIndex? i n = some j ∧ j < n ∧ -(n : Int) ≤ i ∧ i < n := by
  unfold ixN at h
  by_cases h0 : 0 ≤ i
  · rw [if_pos h0] at h
    by_cases h1 : i < n
    · rw [if_pos h1] at h
      have e : i.toNat = j := Option.some.inj h
      exact ⟨by rw [seqIndex_of h0 h1, e], by omega, by omega, h1⟩
    · rw [if_neg h1] at h; cases h
  · rw [if_neg h0] at h
    by_cases h1 : -(n : Int) ≤ i
    · rw [if_pos h1] at h
      have e : (i + n).toNat = j := Option.some.inj h
      exact ⟨by rw [seqIndex_neg (by omega) h1, e], by omega, h1, by omega⟩
    · rw [if_neg h1] at h; cases h
theorem atI_get {α : Type} {xs : List α} {i : Int} {v : α} (h : atI xs i = some v) : ∃ j, seqIndex? i xs.length = some j ∧ xs[j]? = some v ∧ j < xs.length ∧ -(xs.length : Int) ≤ i ∧ i < xs.length := by
  unfold atI at h
  cases e : ixN xs.length i with
  | none => rw [e] at h; cases h
  | some j =>
    rw [e] at h
    obtain ⟨h1, h2, h3, h4⟩ := ixN_seq e
    exact ⟨j, h1, h, h2, h3, h4⟩
def PlainIx (b : Expr) : Prop := ∀ o i, subscripted b false o i = operate [o, i] (getItem o i)
def IxR (X : Cx) (r : R2) : Prop :=
  ∀ (value slice : Expr) (pins : List (Addr × Obj)) (s : Shared) (σ : St) (H : Hp) (x y : V) (v u : Value) (Q : VK), Inv X pins σ H s → RelV x v → RelV y u → r x y H Q →
    subscripted slice false v u = operate [v, u] (getItem v u) → wpAny (model X.prog X.w) X.A (subscriptTail value slice v u) (EP X pins σ Q) X.xe s
def MtR (X : Cx) (id : String) (r : V → List V → Hp → VK → Prop) : Prop :=
  ∀ (pins : List (Addr × Obj)) (s : Shared) (σ : St) (H : Hp) (x : V) (xs : List V) (v : Value) (us : List Value) (Q : VK), Inv X pins σ H s → RelV x v → Vals xs us → r x xs H Q →
    wpAny (model X.prog X.w) X.A (call (.builtin id) (v :: us)) (EP X pins σ Q) X.xe s
section
variable {X : Cx} {a b : Expr} {ta tb : TE} {pos : Pos}
theorem IxR.or {r r' : R2} (h : IxR X r) (h' : IxR X r') : IxR X (fun x y H Q => r x y H Q ∨ r' x y H Q) := by
  intro value slice pins s σ H x y v u Q I rx ry q hs
  rcases q with q | q
  · exact h value slice pins s σ H x y v u Q I rx ry q hs
  · exact h' value slice pins s σ H x y v u Q I rx ry q hs
theorem MtR.or {id : String} {r r' : V → List V → Hp → VK → Prop} (h : MtR X id r) (h' : MtR X id r') : MtR X id (fun x xs H Q => r x xs H Q ∨ r' x xs H Q) := by
  intro pins s σ H x xs v us Q I rx rs q
  rcases q with q | q
  · exact h pins s σ H x xs v us Q I rx rs q
  · exact h' pins s σ H x xs v us Q I rx rs q
theorem pe_ix {r : R2} (hr : IxR X r) (ha : PE X a ta) (hb : PE X b tb) (hs : PlainIx b) : PE X (.Subscript a b pos) (tOp r ta tb) := by
  intro pins s σ H Q I h
  exact Subscript_ (binT ha hb I h fun v u s2 x y H2 I2 rx ry q => hr a b pins s2 σ H2 x y v u Q I2 rx ry q (hs _ _))
def rIxL (K : PySem.W.Frag) : R2 := fun x y H Q => ∃ p xs i v, x = .ref p ∧ y = .int i ∧ SqL K H p xs ∧ atI xs i = some v ∧ Q v H
def rIxT (K : PySem.W.Frag) : R2 := fun x y H Q => ∃ p xs i v, x = .ref p ∧ y = .int i ∧ SqT K H p xs ∧ atI xs i = some v ∧ Q v H
def rIxS : R2 := fun x y H Q => ∃ z i c, x = .str z ∧ y = .int i ∧ z.length ≤ sizeLine ∧ atI z.cps.toList i = some c ∧ Q (.str ⟨#[c]⟩) H
theorem ix_list : IxR X (rIxL X.K) := by
  intro value slice pins s σ H x y v u Q I rx ry h hs
  obtain ⟨p, xs, i, z, rfl, rfl, hq, he, q⟩ := h
  cases rx
  obtain ⟨t, rfl⟩ := ry
  obtain ⟨its, r, pl, hz⟩ := I.list hq
  obtain ⟨j, h1, h2, h3, h4, h5⟩ := atI_get he
  obtain ⟨w, ew, rw'⟩ := r.get h2
  have hl := r.length
  have hn := line63
  have fin : EP X pins σ Q w s := ⟨z, H, I, rw', q⟩
  by_cases h0 : 0 ≤ i
  · have hj : i.toNat = j := by
      rw [seqIndex_of h0 h5] at h1
      exact Option.some.inj h1
    exact item_listR pl.isList h0 (by omega) (by rw [hj]; simpa using ew) fin hs
  · have hj : (i + (its.toArray.size : Int)).toNat = j := by
      rw [seqIndex_neg (by omega) h4] at h1
      rw [List.size_toArray, ← hl]
      exact Option.some.inj h1
    exact subscriptTail_builtinR (x := w) pl.isList.typeIs slot_list_getitem.lookup
      (wpAny_getItem_list_neg (Q := fun r s' => r = w ∧ EP X pins σ Q r s') pl.isList (by omega) (by rw [List.size_toArray] <;> omega) (by omega) (by rw [hj]; simpa using ew) ⟨rfl, fin⟩) hs
theorem ix_tup : IxR X (rIxT X.K) := by
  intro value slice pins s σ H x y v u Q I rx ry h hs
  obtain ⟨p, xs, i, z, rfl, rfl, hq, he, q⟩ := h
  cases rx
  obtain ⟨t, rfl⟩ := ry
  obtain ⟨its, r, pl, hz⟩ := I.tuple hq
  obtain ⟨j, h1, h2, h3, h4, h5⟩ := atI_get he
  obtain ⟨w, ew, rw'⟩ := r.get h2
  have hl := r.length
  have hn := line63
  have fin : EP X pins σ Q w s := ⟨z, H, I, rw', q⟩
  exact subscriptTail_builtinR (x := w) pl.typeIs slot_tuple_getitem.lookup
    (getItem_tuple (j := j) (Q := fun r s' => r = w ∧ EP X pins σ Q r s') pl (by omega) (by omega) (by rw [List.size_toArray, ← hl]; exact h1) (by simpa using ew) ⟨rfl, fin⟩) hs
theorem ix_str : IxR X rIxS := by
  intro value slice pins s σ H x y v u Q I rx ry h hs
  obtain ⟨z, i, c, rfl, rfl, hz, he, q⟩ := h
  obtain ⟨t, rfl⟩ := rx
  obtain ⟨t', rfl⟩ := ry
  obtain ⟨j, h1, h2, h3, h4, h5⟩ := atI_get he
  have hl : z.cps.toList.length = z.length := by simp [Str.length]
  rw [hl] at h1 h4 h5
  have hn := line63
  exact tail_any (typeIs_str s z t) slot_str_getitem.lookup (getItem_str (c := c) (by
    have e1 : decide (i < -(2 ^ 63 : Int)) = false := decide_eq_false (by omega)
    have e2 : decide (i ≥ 2 ^ 63) = false := decide_eq_false (by omega)
    rw [e1, e2, Bool.or_false]) (by rw [h1]; simpa using h2) ⟨.str ⟨#[c]⟩, H, I.tok _, ⟨_, rfl⟩, q⟩) hs
def rIx (K : PySem.W.Frag) : R2 := fun x y H Q => rIxL K x y H Q ∨ rIxT K x y H Q ∨ rIxS x y H Q
theorem ix_seq : IxR X (rIx X.K) := ix_list.or (ix_tup.or ix_str)
theorem Inv.lst {pins : List (Addr × Obj)} {σ : St} {H : Hp} {s : Shared} {p : Addr} {xs : List V} (I : Inv X pins σ H s) (h : H p = some (.lst xs)) :
    ∃ (its : List Value) (n : Nat), Vals xs its ∧ s.heap.get? p = some { cls := .type "list", data := .seq its.toArray n } ∧ xs.length ≤ sizeLine := by
  obtain ⟨z, its, n, r, e⟩ := I.hok p _ h
  exact ⟨its, n, r, e, z⟩
theorem slice_bounds (lo hi : Option Int) (n : Nat) : (sliceBounds lo hi none n).1 = ((HT.sIx n 0 lo : Nat) : Int) ∧ (sliceBounds lo hi none n).2.1 = ((HT.sIx n n hi : Nat) : Int) ∧ (sliceBounds lo hi none n).2.2 = 1 := by
  refine ⟨?_, ?_, rfl⟩
  · cases lo with
    | none => simp [sliceBounds, HT.sIx]
    | some i =>
      simp only [sliceBounds, HT.sIx, Option.getD_none, show (1 : Int) > 0 by decide, if_true]
      by_cases h : i < 0
      · simp only [h, if_true] <;> omega
      · simp only [h, if_false] <;> omega
  · cases hi with
    | none => simp [sliceBounds, HT.sIx]
    | some i =>
      simp only [sliceBounds, HT.sIx, Option.getD_none, show (1 : Int) > 0 by decide, if_true]
      by_cases h : i < 0
      · simp only [h, if_true] <;> omega
      · simp only [h, if_false] <;> omega
theorem slicePick_cut (its : List Value) (lo hi : Option Int) : slicePick its.toArray lo hi none = ((its.drop (HT.sIx its.length 0 lo)).take (HT.sIx its.length its.length hi - HT.sIx its.length 0 lo)).toArray := by
  obtain ⟨h1, h2, h3⟩ := slice_bounds lo hi its.toArray.size
  unfold slicePick
  rw [h1, h2, h3]
  simp only [sliceRange_one, pick_run, List.size_toArray] <;> rfl
def rSlL (K : PySem.W.Frag) : V → Option Int → Option Int → Hp → VK → Prop := fun x lo hi H Q => ∃ a xs, x = .ref a ∧ SqL K H a xs ∧ ∀ p, H p = none → Q (.ref p) (upd H p (.lst (cutV xs lo hi)))
theorem sl_list : SlR X (rSlL X.K) := by
  intro pins s σ H x v vl vu lo hi sl Q I rx hs pl pu h
  obtain ⟨a, xs, rfl, hx, q⟩ := h
  cases rx
  obtain ⟨its, r, ht, hz⟩ := I.list hx
  have hlen := r.length
  refine ⟨"list", _, slot_list_getitem.lookup, ht.isList.typeIs, ?_⟩
  refine wpAny_getItem_list_slice ht.isList hs pl pu .none (by simp) ?_ (by rw [List.size_toArray] <;> omega)
  rw [slicePick_cut, ← hlen]
  refine ⟨.ref s.heap.objs.size, _, I.laid (t' := s.toks) (o := .lst (cutV xs lo hi)) (fun b ob q => Heap.get?_push_of_some _ q) (Nat.le_refl _) ?_, rfl, q _ (I.hok.fresh (Nat.le_refl _))⟩
  exact ⟨Nat.le_trans (cutV_length xs lo hi) hz, _, 0, (r.drop (HT.sIx xs.length 0 lo)).take (HT.sIx xs.length xs.length hi - HT.sIx xs.length 0 lo), Heap.get?_push_size _ rfl⟩
def flatV : V → Bool
  | .non => true
  | .bl _ => true
  | .int _ => true
  | .str _ => true
  | _ => false
def eqV : V → V → Bool
  | .non, .non => true
  | .bl a, .bl b => a == b
  | .bl a, .int b => (if a then 1 else 0) == b
  | .int a, .bl b => a == (if b then 1 else 0)
  | .int a, .int b => a == b
  | .str a, .str b => a == b
  | _, _ => false
theorem eqAt_V {A : Around} {s : Shared} {y x : V} {u v : Value} (ry : RelV y u) (rx : RelV x v) (fy : flatV y = true) (fx : flatV x = true) : SeqAt.EqAt A s u v (eqV y x) := by
  cases y with
  | non =>
    cases ry
    cases x with
    | non => cases rx; exact SeqAt.EqAt.same _
    | bl b => cases rx; exact SeqAt.EqAt.none_bool b
    | int b => obtain ⟨t, rfl⟩ := rx; exact SeqAt.EqAt.none_int b t
    | str b => obtain ⟨t, rfl⟩ := rx; exact SeqAt.EqAt.none_str b t
    | _ => exact absurd (show false = true from fx) Bool.false_ne_true
  | bl a =>
    cases ry
    cases x with
    | non => cases rx; exact SeqAt.EqAt.bool_none a
    | bl b => cases rx; exact SeqAt.EqAt.bool_bool a b
    | int b => obtain ⟨t, rfl⟩ := rx; exact SeqAt.EqAt.bool_int a b t
    | str b => obtain ⟨t, rfl⟩ := rx; exact SeqAt.EqAt.bool_str a b t
    | _ => exact absurd (show false = true from fx) Bool.false_ne_true
  | int a =>
    obtain ⟨t', rfl⟩ := ry
    cases x with
    | non => cases rx; exact SeqAt.EqAt.int_none a t'
    | bl b => cases rx; exact SeqAt.EqAt.int_bool a t' b
    | int b => obtain ⟨t, rfl⟩ := rx; exact SeqAt.EqAt.int_int a t' b t
    | str b => obtain ⟨t, rfl⟩ := rx; exact SeqAt.EqAt.int_str a t' b t
    | _ => exact absurd (show false = true from fx) Bool.false_ne_true
  | str a =>
    obtain ⟨t', rfl⟩ := ry
    cases x with
    | non => cases rx; exact SeqAt.EqAt.str_none a t'
    | bl b => cases rx; exact SeqAt.EqAt.str_bool a t' b
    | int b => obtain ⟨t, rfl⟩ := rx; exact SeqAt.EqAt.str_int a t' b t
    | str b => obtain ⟨t, rfl⟩ := rx; exact SeqAt.EqAt.str_str a t' b t
    | _ => exact absurd (show false = true from fx) Bool.false_ne_true
  | _ => exact absurd (show false = true from fy) Bool.false_ne_true
def eqU (x : V) (u : Value) : Bool := match u with
  | .none => eqV .non x
  | .bool b => eqV (.bl b) x
  | .int i _ => eqV (.int i) x
  | .str z _ => eqV (.str z) x
  | _ => false
theorem eqU_of {x y : V} {u : Value} (r : RelV y u) (f : flatV y = true) : eqU x u = eqV y x := by
  cases y with
  | non => cases r; rfl
  | bl b => cases r; rfl
  | int i => obtain ⟨t, rfl⟩ := r; rfl
  | str z => obtain ⟨t, rfl⟩ := r; rfl
  | _ => exact absurd (show false = true from f) Bool.false_ne_true
theorem any_eqU {x : V} : ∀ {xs : List V} {us : List Value}, Vals xs us → xs.all flatV = true → us.any (eqU x) = xs.any fun y => eqV y x
  | _, _, .nil, _ => rfl
  | y :: xs, u :: us, .cons r t, f => by
    rw [List.all_cons, Bool.and_eq_true] at f
    rw [List.any_cons, List.any_cons, eqU_of r f.1, any_eqU t f.2]
theorem mem_eqAt {A : Around} {s : Shared} {x : V} {v : Value} (rx : RelV x v) (fx : flatV x = true) : ∀ {xs : List V} {us : List Value}, Vals xs us → xs.all flatV = true → ∀ u ∈ us, SeqAt.EqAt A s u v (eqU x u)
  | _, _, .nil, _ => fun u hu => by cases hu
  | y :: xs, u :: us, .cons r t, f => fun u' hu => by
    rw [List.all_cons, Bool.and_eq_true] at f
    rcases List.mem_cons.mp hu with rfl | hu
    · rw [eqU_of r f.1]; exact eqAt_V r rx f.1 fx
    · exact mem_eqAt rx fx t f.2 u' hu
def inV (x : V) (xs : List V) : Bool := xs.any fun y => eqV y x
def rIn (K : PySem.W.Frag) (neg : Bool) : R2 := fun x y H Q => ∃ p xs, y = .ref p ∧ (SqL K H p xs ∨ SqT K H p xs) ∧ flatV x = true ∧ xs.all flatV = true ∧ Q (.bl (if neg then !inV x xs else inV x xs)) H
theorem op_notIn_seq : OpR X (compareOp .NotIn) (rIn X.K true) := by
  intro pins s σ H x y v u Q I rx ry h
  obtain ⟨p, xs, rfl, hq, fx, fs, q⟩ := h
  cases ry
  rcases hq with hq | hq
  · obtain ⟨its, r, pl, hz⟩ := I.list hq
    refine SeqAt.notIn_listAt (eqU x) pl.isList (fun w hw => mem_eqAt rx fx r fs w (by simpa using hw)) ⟨.bl _, H, I, rfl, ?_⟩
    rw [show its.toArray.any (eqU x) = its.any (eqU x) by simp, any_eqU r fs]
    exact q
  · obtain ⟨its, r, pl, hz⟩ := I.tuple hq
    refine SeqAt.notIn_tupleAt (eqU x) pl (fun w hw => mem_eqAt rx fx r fs w (by simpa using hw)) ⟨.bl _, H, I, rfl, ?_⟩
    rw [show its.toArray.any (eqU x) = its.any (eqU x) by simp, any_eqU r fs]
    exact q
theorem call_len_seq : CallR X (.builtin "len") (fun xs H Q => ∃ p ys, xs = [.ref p] ∧ (SqL X.K H p ys ∨ SqT X.K H p ys) ∧ Q (.int ys.length) H) := by
  intro pins s σ H xs us Q I r h
  obtain ⟨p, ys, rfl, hq, q⟩ := h
  obtain ⟨u, rfl, rx⟩ := vals1 r
  cases rx
  have hn := line63
  rcases hq with hq | hq
  · obtain ⟨its, r', pl, hz⟩ := I.list hq
    have hlen := r'.length
    exact Calls.call_len_list pl.isList (by simp only [List.size_toArray] <;> omega) ⟨.int ys.length, H, I.tok _, ⟨s.toks + 1, by rw [List.size_toArray, hlen]⟩, q⟩
  · obtain ⟨its, r', pl, hz⟩ := I.tuple hq
    have hlen := r'.length
    exact len_tuple pl (by simp only [List.size_toArray] <;> omega) ⟨.int ys.length, H, I.tok _, ⟨s.toks + 1, by rw [List.size_toArray, hlen]⟩, q⟩
theorem call_len_str : CallR X (.builtin "len") (fun xs H Q => ∃ z, xs = [.str z] ∧ z.length ≤ sizeLine ∧ Q (.int z.length) H) := by
  intro pins s σ H xs us Q I r h
  obtain ⟨z, rfl, hz, q⟩ := h
  obtain ⟨u, rfl, t, rfl⟩ := vals1 r
  have hn := line63
  exact len_str (by omega) ⟨.int z.length, H, I.tok _, ⟨_, rfl⟩, q⟩
theorem CallR.or {f : Value} {r r' : List V → Hp → VK → Prop} (h : CallR X f r) (h' : CallR X f r') : CallR X f (fun xs H Q => r xs H Q ∨ r' xs H Q) := by
  intro pins s σ H xs us Q I rs q
  rcases q with q | q
  · exact h pins s σ H xs us Q I rs q
  · exact h' pins s σ H xs us Q I rs q
theorem call_tuple_of : CallR X (.type "tuple") (fun xs H Q => ∃ p ys, xs = [.ref p] ∧ ((SqL X.K H p ys ∧ ∀ l, H l = none → Q (.ref l) (upd H l (.tup ys))) ∨ (SqT X.K H p ys ∧ Q (.ref p) H))) := by
  intro pins s σ H xs us Q I r h
  obtain ⟨p, ys, rfl, h⟩ := h
  obtain ⟨u, rfl, rx⟩ := vals1 r
  cases rx
  rcases h with ⟨hq, q⟩ | ⟨hq, q⟩
  · obtain ⟨its, r', pl, hz⟩ := I.list hq
    have hlen := r'.length
    refine call_tuple_list pl.isList (fun h' kp => ?_) (by simp only [List.size_toArray] <;> omega)
    have I1 : Inv X pins σ H { s with heap := h' } := I.kept (t' := s.toks) kp
    have I2 : Inv X pins σ (upd H h'.objs.size (.tup ys)) { s with heap := h'.push { cls := .type "tuple", data := .seq its.toArray } } :=
      I1.laid (t' := s.toks) (fun b o e => Heap.get?_push_of_some _ e) (Nat.le_refl _) (show ObjOk X.prog X.w _ _ _ (.tup ys) from ⟨hz, its, r', IsTupD.new _ _⟩)
    exact ⟨.ref h'.objs.size, _, I2, rfl, q _ (I1.hok.fresh (Nat.le_refl _))⟩
  · obtain ⟨its, r', pl, hz⟩ := I.tuple hq
    exact call_tuple_same pl ⟨.ref p, H, I, rfl, q⟩
def tyV (K : PySem.W.Frag) (T : String) (x : V) (H : Hp) : Prop := match x with
  | .str _ => T = "str"
  | .int _ => T = "int"
  | .ref p => (T = "list" ∧ ∃ xs, SqL K H p xs) ∨ (T = "tuple" ∧ ∃ o, K.lookup p = some o ∧ o.cls = .type "tuple" ∧ o.dict = none) ∨
      (T = "dict" ∧ ((∃ kvs, H p = some (.dK kvs)) ∨ ∃ kvs, H p = some (.dT kvs))) ∨ (T = "set" ∧ ∃ S n, H p = some (.set S n))
  | _ => False
theorem tyV_is {pins : List (Addr × Obj)} {σ : St} {H : Hp} {s : Shared} {T : String} {x : V} {v : Value} (I : Inv X pins σ H s) (r : RelV x v) (ty : tyV X.K T x H) :
    s.TypeIs v T ∧ ∀ a, v = .ref a → ∃ ob, s.heap.get? a = some ob ∧ ob.dict = none := by
  cases x with
  | str z =>
    obtain ⟨t, rfl⟩ := r
    cases (show T = "str" from ty)
    exact ⟨typeIs_str s z t, fun _ e => nomatch e⟩
  | int i =>
    obtain ⟨t, rfl⟩ := r
    cases (show T = "int" from ty)
    exact ⟨typeIs_int s i t, fun _ e => nomatch e⟩
  | ref p =>
    cases r
    rcases ty with ⟨rfl, xs, hq⟩ | ⟨rfl, o, hk, hc, hd⟩ | ⟨rfl, hk⟩ | ⟨rfl, S, n, hk⟩
    · obtain ⟨its, _, pl, _⟩ := I.list hq
      refine ⟨pl.isList.typeIs, fun a e => ?_⟩
      cases e
      obtain ⟨o, n, e, c, hd, _⟩ := pl
      exact ⟨o, e, hd⟩
    · refine ⟨⟨o, I.kIn p o hk, hc⟩, fun a e => ?_⟩
      cases e
      exact ⟨o, I.kIn _ o hk, hd⟩
    · have z : ∃ o, s.heap.get? p = some o ∧ o.ExactDict := by
        rcases hk with ⟨kvs, hk⟩ | ⟨kvs, hk⟩
        · obtain ⟨_, _, _, _, o, _, _, e, ex, _⟩ := I.hok p _ hk
          exact ⟨o, e, ex⟩
        · obtain ⟨_, _, _, _, o, _, _, e, ex, _⟩ := I.hok p _ hk
          exact ⟨o, e, ex⟩
      obtain ⟨o, e, ex⟩ := z
      refine ⟨⟨o, e, ex.1⟩, fun a e2 => ?_⟩
      cases e2
      exact ⟨o, e, ex.2.1⟩
    · obtain ⟨o, _, _, _, e, ex, _⟩ := I.hok p _ hk
      refine ⟨⟨o, e, ex.1⟩, fun a e2 => ?_⟩
      cases e2
      exact ⟨o, e, ex.2.1⟩
  | _ => exact False.elim ty
def tBM (K : PySem.W.Frag) (T : String) (r : V → List V → Hp → VK → Prop) (to : TE) (t : TA) : TE := fun σ H Q => to σ H fun x H1 => tyV K T x H1 ∧ t σ H1 fun xs H2 => r x xs H2 Q
variable {o e : Expr} {es : List Expr} {to : TE} {t : TA} {name : Str} {apos cpos : Pos} {T id : String} {r : V → List V → Hp → VK → Prop}
theorem pe_bm (pa : PlainAttrs T) (slot : Slot T name id) (hty : typeOf (.builtin id) = pure (.type "method_descriptor")) (hm : MtR X id r) (ho : PE X o to) (ha : PA X (e :: es) t)
    (hbase : attributeBase o name X.env (eval o X.env) = eval o X.env := by rfl)
    (hfew : ((backTo cpos (starEach (e :: es) X.env)).all (fun x => !x.1) && (backToKw cpos (keywordEach [] X.env)).all (fun x => x.1.isSome)
      && decide ((e :: es).length + ([] : List Keyword).length + (if ([] : List Keyword).isEmpty then 0 else 1) < 30)) = true := by rfl)
    (hline : (apos.endLine == cpos.line) = true := by rfl) (hs : starEach (e :: es) X.env = (false, eval e X.env) :: starEach es X.env := by rfl) (hplain : (backTo cpos (starEach es X.env)).any (·.1) = false := by rfl) :
    PE X (.Call (.Attribute o name apos) (e :: es) [] cpos) (tBM X.K T r to t) := by
  intro pins s σ H Q I h
  refine wpAny_Call_method_late hbase hfew hline rfl (thn (ho pins s σ H _ I h) fun v s1 ⟨x, H1, I1, r1, ty, q1⟩ => ?_)
  obtain ⟨h1, h2⟩ := tyV_is I1 r1 ty
  refine ⟨T, id, pa, slot, hty, h1, h2, ?_⟩
  have hA := ha cpos pins s1 σ H1 _ I1 q1
  rw [hs] at hA ⊢
  refine Calls.callWith_builtin (by show (false || (backTo cpos (starEach es X.env)).any (·.1)) = false; rw [hplain] <;> rfl) (Calls.evalArgs_plain ?_)
  exact thn hA fun us s2 ⟨vs, H2, I2, r2, q2⟩ => hm pins s2 σ H2 x vs v us Q I2 r1 r2 q2
/- xs.append(e), list.index on a module's tuple .. are MtR facts of 06m -/
end
end L2
namespace L2
open PySem PySem.Spec PyProof.Rows
def MtM (X : Cx) (id : String) (r : V → List V → Hp → VK → Prop) : Prop :=
  ∀ (pins : List (Addr × Obj)) (s : Shared) (σ : St) (H : Hp) (x : V) (xs : List V) (v : Value) (us : List Value) (Q : VK), Inv X pins σ H s → RelV x v → Vals xs us → r x xs H Q →
    wpAny (model X.prog X.w) X.A (call (.builtin id) (v :: us)) (EP X pins σ Q) X.xe s
theorem Vals.one : ∀ {x : V} {us : List Value}, Vals [x] us → ∃ u, us = [u] ∧ RelV x u
  | _, _, .cons r .nil => ⟨_, rfl, r⟩
theorem Vals.zero : ∀ {us : List Value}, Vals [] us → us = []
  | _, .nil => rfl
section
variable {X : Cx} {pins : List (Addr × Obj)} {σ : St} {H : Hp} {s : Shared} {l b : Addr} {xs ys zs : List V}
theorem Inv.lset {its its' : List Value} {n : Nat} {f : Array Value → Array Value} {t' : Nat} (I : Inv X pins σ H s) (hH : H l = some (.lst xs))
    (e : s.heap.get? l = some { cls := .type "list", data := .seq its.toArray n }) (hf : f its.toArray = its'.toArray) (hv : Vals ys its') (hz : ys.length ≤ sizeLine) :
    Inv X pins σ (upd H l (.lst ys)) { s with heap := s.heap.update l (Obj.mapSeq f), toks := t' } := by
  have q := PySem.IsL.update e f
  rw [hf] at q
  refine I.write (x := l) (e := l) (by rw [hH]; exact trivial) (.inl rfl) (fun b' u hb hu => (Heap.get?_update_other s.heap (Obj.mapSeq f) (Ne.symm hb)).trans hu) ⟨_, q⟩ ?_
  exact ⟨hz, its', _, hv, q⟩
theorem Inv.lnew {its : List Value} {t' : Nat} (I : Inv X pins σ H s) (hv : Vals ys its) (hz : ys.length ≤ sizeLine) :
    Inv X pins σ (upd H s.heap.objs.size (.lst ys)) { s with heap := s.heap.push { cls := .type "list", data := .seq its.toArray }, toks := t' } :=
  I.laid (fun _ _ q => Heap.get?_push_of_some _ q) (Nat.le_refl _) ⟨hz, its, 0, hv, Heap.get?_push_size _ rfl⟩
theorem Inv.fresh (I : Inv X pins σ H s) : H s.heap.objs.size = none := I.hok.fresh (Nat.le_refl _)
theorem Inv.lstM (I : Inv X pins σ H s) (hH : H l = some (.lst xs)) : xs.length ≤ sizeLine ∧ ∃ (its : List Value) (n : Nat), Vals xs its ∧ xs.length = its.length ∧ s.heap.get? l = some { cls := .type "list", data := .seq its.toArray n } := by
  obtain ⟨z, its, n, r, e⟩ := I.hok l _ hH
  exact ⟨z, its, n, r, r.length, e⟩
end
section
variable {X : Cx}
def rAppend : V → List V → Hp → VK → Prop := fun x vs H Q => ∃ l xs y, x = .ref l ∧ vs = [y] ∧ H l = some (.lst xs) ∧ xs.length < sizeLine ∧ Q .non (upd H l (.lst (xs ++ [y])))
theorem mt_append : MtM X "list.append" rAppend := by
  intro pins s σ H x vs v us Q I rx rv h
  obtain ⟨l, xs, y, rfl, rfl, hH, hz, q⟩ := h
  cases rx
  obtain ⟨u, rfl, ru⟩ := rv.one
  obtain ⟨z, its, n, r, hl, e⟩ := I.lstM hH
  refine call_meets F.slot_list_append ⟨_, e, rfl⟩ F.entry_list_append (F.args_list_append_2 _ _) (PySem.list_append l its.toArray n u (by rw [List.size_toArray]; omega)) ⟨e, ?_⟩
  refine ⟨.non, _, I.lset (its' := its ++ [u]) hH e (by simp) (r.append (.cons ru .nil)) ?_, rfl, q⟩
  rw [List.length_append, List.length_singleton]
  omega
def rCat : R2 := fun x y H Q => ∃ l b xs zs, x = .ref l ∧ y = .ref b ∧ H l = some (.lst xs) ∧ H b = some (.lst zs) ∧ xs.length + zs.length ≤ sizeLine ∧ ∀ p, H p = none → Q (.ref p) (upd H p (.lst (xs ++ zs)))
theorem op_cat : OpR X (binaryOp .Add) rCat := by
  intro pins s σ H x y v u Q I rx ry h
  obtain ⟨l, b, xs, zs, rfl, rfl, hH, hB, hz, q⟩ := h
  cases rx
  cases ry
  obtain ⟨z, its, n, r, hl, e⟩ := I.lstM hH
  obtain ⟨z2, its2, n2, r2, hl2, e2⟩ := I.lstM hB
  refine PySem.P.add_list e e2 ?_ (by rw [List.size_toArray, List.size_toArray]; omega)
  have ea : its.toArray ++ its2.toArray = (its ++ its2).toArray := by simp
  rw [ea]
  exact ⟨.ref _, _, I.lnew (t' := s.toks) (r.append r2) (by rw [List.length_append]; omega), rfl, q _ I.fresh⟩
end
section
variable {prog : Program} {w : World} {A : Around} {E : Value → Shared → Prop} {s : Shared}
end
section
variable {X : Cx}
end
end L2
namespace L2
open PySem PySem.Spec PyProof.Rows
section
variable {κ : Type} [DecidableEq κ]
def valV (kvs : List (κ × V)) (k : κ) : Option V := (kvs.find? fun kv => decide (kv.1 = k)).map (·.2)
def putK (kvs : List (κ × V)) (k : κ) (v : V) : List (κ × V) :=
  if (kvs.any fun kv => decide (kv.1 = k)) = true then kvs.map (fun kv => if kv.1 = k then (kv.1, v) else kv) else kvs ++ [(k, v)]
def dropK (kvs : List (κ × V)) (k : κ) : List (κ × V) := kvs.filter fun kv => decide (kv.1 ≠ k)
theorem valV_pos {p : κ × V} {r : List (κ × V)} {k : κ} (e : p.1 = k) : valV (p :: r) k = some p.2 := by simp [valV, List.find?_cons, e]
theorem valV_neg {p : κ × V} {r : List (κ × V)} {k : κ} (e : ¬ p.1 = k) : valV (p :: r) k = valV r k := by simp [valV, List.find?_cons, e]
theorem valV_any (k : κ) : ∀ kvs : List (κ × V), (kvs.any fun kv => decide (kv.1 = k)) = (valV kvs k).isSome
  | [] => rfl
  | p :: r => by
    rw [List.any_cons]
    by_cases e : p.1 = k
    · simp only [valV_pos e, decide_eq_true e, Bool.true_or, Option.isSome_some]
    · rw [valV_neg e, decide_eq_false e, Bool.false_or]; exact valV_any k r
theorem RelO.isSome_eq {o : Option V} {u : Option Value} (r : RelO o u) : o.isSome = u.isSome := by
  cases o with
  | none => cases u with
    | none => rfl
    | some _ => exact (show False from r).elim
  | some _ => cases u with
    | none => exact (show False from r).elim
    | some _ => rfl
theorem RelO.getD {o : Option V} {u : Option Value} {d : V} {d' : Value} (r : RelO o u) (rd : RelV d d') : RelV (o.getD d) (u.getD d') := by
  cases o with
  | none => cases u with
    | none => exact rd
    | some _ => exact (show False from r).elim
  | some _ => cases u with
    | none => exact (show False from r).elim
    | some _ => exact r
theorem KV.val {kvs : List (κ × V)} {vs : List (κ × Value)} (r : KV kvs vs) (k : κ) : RelO (valV kvs k) (valueAt vs k) := by
  unfold KV at r
  induction r with
  | nil => exact True.intro
  | @cons p q ps qs h t ih =>
    obtain ⟨h1, h2⟩ := h
    by_cases e : p.1 = k
    · have e' : q.1 = k := h1.symm.trans e
      have b : valueAt (q :: qs) k = some q.2 := by simp [valueAt, List.find?_cons, e']
      rw [valV_pos e, b]; exact h2
    · have e' : ¬ q.1 = k := fun z => e (h1.trans z)
      have b : valueAt (q :: qs) k = valueAt qs k := by simp [valueAt, List.find?_cons, e']
      rw [valV_neg e, b]; exact ih
theorem KV.any {kvs : List (κ × V)} {vs : List (κ × Value)} (r : KV kvs vs) (k : κ) : (kvs.any fun kv => decide (kv.1 = k)) = vs.any fun kv => decide (kv.1 = k) := by
  unfold KV at r
  induction r with
  | nil => rfl
  | cons h t ih => rw [List.any_cons, List.any_cons, ih, h.1]
theorem KV.repl {kvs : List (κ × V)} {vs : List (κ × Value)} (r : KV kvs vs) (k : κ) {y : V} {u : Value} (ry : RelV y u) :
    KV (kvs.map fun kv => if kv.1 = k then (kv.1, y) else kv) (vs.map fun kv => if kv.1 = k then (kv.1, u) else kv) := by
  unfold KV at r ⊢
  induction r with
  | nil => exact .nil
  | @cons p q ps qs h t ih =>
    rw [List.map_cons, List.map_cons]
    refine .cons ?_ ih
    obtain ⟨h1, h2⟩ := h
    by_cases e : p.1 = k
    · rw [if_pos e, if_pos (h1.symm.trans e)]; exact ⟨h1, ry⟩
    · rw [if_neg e, if_neg (fun z => e (h1.trans z))]; exact ⟨h1, h2⟩
theorem KV.put {kvs : List (κ × V)} {vs : List (κ × Value)} (r : KV kvs vs) (k : κ) {y : V} {u : Value} (ry : RelV y u) : KV (putK kvs k y) (stored vs k u) := by
  unfold putK stored
  rw [r.any k]
  by_cases e : (vs.any fun kv => decide (kv.1 = k)) = true
  · rw [if_pos e, if_pos e]; exact r.repl k ry
  · rw [if_neg e, if_neg e]; exact Paired.snoc r ⟨rfl, ry⟩
theorem KV.drop {kvs : List (κ × V)} {vs : List (κ × Value)} (r : KV kvs vs) (k : κ) : KV (dropK kvs k) (without vs k) := by
  unfold KV at r ⊢
  unfold dropK without
  induction r with
  | nil => exact .nil
  | @cons p q ps qs h t ih =>
    obtain ⟨h1, h2⟩ := h
    rw [List.filter_cons, List.filter_cons]
    by_cases e : p.1 = k
    · have a : ¬ decide (p.1 ≠ k) = true := by simp [e]
      have b : ¬ decide (q.1 ≠ k) = true := by simp [h1.symm.trans e]
      rw [if_neg a, if_neg b]; exact ih
    · have e' : ¬ q.1 = k := fun z => e (h1.trans z)
      have a : decide (p.1 ≠ k) = true := by simp [e]
      have b : decide (q.1 ≠ k) = true := by simp [e']
      rw [if_pos a, if_pos b]; exact .cons ⟨h1, h2⟩ ih
theorem KV.length {kvs : List (κ × V)} {vs : List (κ × Value)} (r : KV kvs vs) : kvs.length = vs.length := Paired.length r
end
abbrev KT (H : Hp) : List (List Key × V) → List (List Key × Addr × Value) → Prop := Paired fun p q => p.1 = q.1 ∧ H q.2.1 = some (.tup (p.1.map kV)) ∧ RelV p.2 q.2.2
theorem KT.val {H : Hp} {kvs : List (List Key × V)} {xs : List (List Key × Addr × Value)} (r : KT H kvs xs) (k : List Key) : RelO (valV kvs k) ((atKey xs k).map (·.2)) := by
  induction r with
  | nil => exact True.intro
  | @cons p q ps qs h t ih =>
    obtain ⟨h1, _, h2⟩ := h
    by_cases e : p.1 = k
    · have e' : q.1 = k := h1.symm.trans e
      have b : atKey (q :: qs) k = some q.2 := by simp [atKey, List.find?_cons, e']
      rw [valV_pos e, b]; exact h2
    · have e' : ¬ q.1 = k := fun z => e (h1.trans z)
      have b : atKey (q :: qs) k = atKey qs k := by simp [atKey, List.find?_cons, e']
      rw [valV_neg e, b]; exact ih
theorem KT.repl {H : Hp} {kvs : List (List Key × V)} {xs : List (List Key × Addr × Value)} (r : KT H kvs xs) (k : List Key) {y : V} {u : Value} (ry : RelV y u) :
    KT H (kvs.map fun kv => if kv.1 = k then (kv.1, y) else kv) (xs.map (putAt k u)) := by
  induction r with
  | nil => exact .nil
  | @cons p q ps qs h t ih =>
    rw [List.map_cons, List.map_cons]
    refine .cons ?_ ih
    obtain ⟨h1, h2, h3⟩ := h
    unfold putAt
    by_cases e : p.1 = k
    · rw [if_pos e, if_pos (h1.symm.trans e)]; exact ⟨h1, h2, ry⟩
    · rw [if_neg e, if_neg (fun z => e (h1.trans z))]; exact ⟨h1, h2, h3⟩
theorem KT.put {H : Hp} {kvs : List (List Key × V)} {xs : List (List Key × Addr × Value)} (r : KT H kvs xs) (k : List Key) {b : Addr} {y : V} {u : Value} (hb : H b = some (.tup (k.map kV))) (ry : RelV y u) :
    KT H (putK kvs k y) (storedH xs k b u) := by
  have e : (kvs.any fun kv => decide (kv.1 = k)) = (atKey xs k).isSome := by
    rw [valV_any, (r.val k).isSome_eq, Option.isSome_map]
  unfold putK storedH
  rw [e]
  by_cases q : (atKey xs k).isSome = true
  · rw [if_pos q, if_pos q]; exact r.repl k ry
  · rw [if_neg q, if_neg q]; exact Paired.snoc r ⟨rfl, hb, ry⟩
theorem KT.keeps {H H' : Hp} {kvs : List (List Key × V)} {xs : List (List Key × Addr × Value)} (r : KT H kvs xs) (ht : ∀ b ys, H b = some (.tup ys) → H' b = some (.tup ys)) : KT H' kvs xs :=
  Paired.mapP r fun _ _ z => ⟨z.1, ht _ _ z.2.1, z.2.2⟩
section
variable {P : Program} {w : World} {H : Hp} {h : Heap} {a : Addr}
end
def DGet (H : Hp) (a : Addr) (y : V) (r : Option V) : Prop :=
  (∃ kvs k, Rd H a (.dK kvs) ∧ y = kV k ∧ r = valV kvs k) ∨ ∃ kvs k b, Rd H a (.dT kvs) ∧ y = .ref b ∧ H b = some (.tup (k.map kV)) ∧ r = valV kvs k
def DPut (H : Hp) (a : Addr) (y v : V) (H' : Hp) : Prop :=
  (∃ kvs k, H a = some (.dK kvs) ∧ y = kV k ∧ kvs.length < sizeLine ∧ H' = upd H a (.dK (putK kvs k v))) ∨
  ∃ kvs k b, H a = some (.dT kvs) ∧ y = .ref b ∧ H b = some (.tup (k.map kV)) ∧ kvs.length < sizeLine ∧ H' = upd H a (.dT (putK kvs k v))
theorem DGet.k {H : Hp} {a : Addr} {kvs : List (Key × V)} {k : Key} (e : H a = some (.dK kvs)) : DGet H a (kV k) (valV kvs k) := .inl ⟨kvs, k, .inl e, rfl, rfl⟩
theorem DGet.t {H : Hp} {a b : Addr} {kvs : List (List Key × V)} {k : List Key} (e : H a = some (.dT kvs)) (eb : H b = some (.tup (k.map kV))) : DGet H a (.ref b) (valV kvs k) := .inr ⟨kvs, k, b, .inl e, rfl, eb, rfl⟩
theorem DPut.k {H : Hp} {a : Addr} {kvs : List (Key × V)} {k : Key} {v : V} (e : H a = some (.dK kvs)) (hl : kvs.length < sizeLine) : DPut H a (kV k) v (upd H a (.dK (putK kvs k v))) := .inl ⟨kvs, k, e, rfl, hl, rfl⟩
theorem DPut.t {H : Hp} {a b : Addr} {kvs : List (List Key × V)} {k : List Key} {v : V} (e : H a = some (.dT kvs)) (eb : H b = some (.tup (k.map kV))) (hl : kvs.length < sizeLine) :
    DPut H a (.ref b) v (upd H a (.dT (putK kvs k v))) := .inr ⟨kvs, k, b, e, rfl, eb, hl, rfl⟩
section
variable {X : Cx} {pins : List (Addr × Obj)} {σ : St} {H : Hp} {s : Shared} {a : Addr} {y v : V} {u r : Value} {o : Option V} {A : Around} {E : Value → Shared → Prop}
end
section
variable {X : Cx} {pins : List (Addr × Obj)} {σ : St} {H : Hp} {s : Shared} {a : Addr} {kvs : List (Key × V)} {k : Key} {u : Value} {A : Around} {E : Value → Shared → Prop}
end
section
variable {X : Cx} {o i e value : Expr} {pos pos' tpos : Pos} {td ty tv : TE}
end
section
variable {X : Cx} {pos : Pos}
end
section
variable {X : Cx} {pins : List (Addr × Obj)} {σ : St} {H : Hp} {s : Shared} {a : Addr} {y d : V} {u r : Value} {o : Option V} {A : Around} {E : Value → Shared → Prop}
end
section
variable {X : Cx} {o e f : Expr} {apos cpos : Pos} {td ty tx : TE}
end
section
variable {X : Cx} {pins : List (Addr × Obj)} {σ : St} {H : Hp} {s : Shared} {a : Addr} {kvs : List (Key × V)} {A : Around} {E : Value → Shared → Prop}
end
section
variable {X : Cx} {pins : List (Addr × Obj)} {σ : St} {H : Hp} {s : Shared} {a : Addr} {y : V} {u : Value} {A : Around} {E : Value → Shared → Prop}
end
end L2
namespace Att
open PySem PySem.W PySem.Calls PyProof.Rows
theorem ints_of_wellAll {P : Params} {h : Heap} : ∀ (ns : List Int) (vs : List Value), WellAll P h vs (ns.map WData.int) → IntsAre vs ns := by
  intro ns
  induction ns with
  | nil =>
    intro vs w
    rw [List.map_nil] at w
    cases w
    exact .nil
  | cons n ns ih =>
    intro vs w
    rw [List.map_cons] at w
    cases w with
    | cons a b =>
      cases a
      exact .cons _ _ (ih _ b)
theorem script_of {l : OpenLaw} {n : Nat} (hn : l.most = some n) {P : Params} {h : Heap} {args : List WData} {vals : List Value}
    (hpre : l.row.toRowW.claim.pre args = true) (hwl : WellAll P h vals args) :
    ∃ a vs ns, vals = [Value.ref a] ∧ args = [WData.list (ns.map WData.int)] ∧ h.get? a = some { cls := .type "list", data := .seq vs.toArray } ∧ IntsAre vs ns ∧ ns.length ≤ n := by
  have hsh : WShape.hasAll [] args [.list .int] = true := (pre_splitW hpre).1
  have hc : l.pre.holds [] { args := args } = true := (pre_splitW hpre).2
  obtain ⟨d, r, rfl, h1, h2⟩ := hasAllW_cons hsh
  obtain rfl := hasAllW_nil h2
  obtain ⟨xs, rfl, h3⟩ := hasW_list h1
  obtain ⟨ns, rfl⟩ := items_int h3
  have hlen : ns.length ≤ n := by
    unfold OpenLaw.pre at hc
    have h4 : (WTm.not (.lt (.lit (.int (n : Int))) (.len (.arg 0)))).holds [] { args := [.list (ns.map .int)] } = true := by
      have h4 := (holds_andW hc).1
      rw [hn] at h4
      exact h4
    have h5 := condW_of h4 (w_not (w_lt w_lit (w_len_list (w_arg rfl))))
    rw [List.length_map] at h5
    refine Nat.le_of_not_lt fun q => ?_
    have q' : (n : Int) < ((ns.length : Nat) : Int) := by omega
    first
      | (rw [decide_eq_true q'] at h5; exact absurd h5 (by decide))
      | (simp at h5; omega)
  cases hwl with
  | cons w1 w2 =>
    cases w2
    cases w1 with
    | list ho hall => exact ⟨_, _, ns, rfl, rfl, ho, ints_of_wellAll ns _ hall, hlen⟩
theorem post_true (l : OpenLaw) (args : List WData) : l.row.toRowW.claim.post args (.bool true) args = true :=
  postW_of (r := l.row.toRowW) (X := (true == true))
    (show WShape.has [] (.bool true) .bool = true by first | rfl | decide | simp [WShape.has, WShape.arms, WShape.armsAll])
    (show (WTm.eq .res (.lit (.bool true))).value [] { args := args, res := some (.bool true), after := args } = some (.bool (true == true)) from w_eq_bool (w_res rfl) w_lit) rfl
theorem attach_call {l : OpenLaw} {n : Nat} {q : Program} {loose : List Str} {XP : (Str → Option Value) → Heap → Prop} {YP : World → Heap → Prop} {d : DefRec}
    (hn : l.most = some n) (hdf : d.params.defaults = [])
    (call : ∀ (w : World) (s₀ s₁ : Shared) (mg mb : Str → Option Value) (fa : Addr) (o : Obj) (pm cd doc : Value) (a : Addr) (vs : List Value) (ns : List Int),
      Ground q loose [] XP w s₀ mg mb s₁.heap → YP w s₁.heap →
      s₁.heap.get? fa = some o → o.data = .func (docDef d.name d.params d.body d.scope pm cd doc) → s₁.heap.CodeRec cd d.name → mg d.name = some (.ref fa) →
      s₁.heap.get? a = some { cls := .type "list", data := .seq vs.toArray } → IntsAre vs ns → ns.length ≤ n → s₁.gens = #[] →
      codeAny (model l.prog w) callerA (.call (.ref fa) ⟨[.ref a], []⟩) (fun r s' => r = .ok (.ret (.bool true)) ∧ OldK s₁.heap s'.heap ∧ s'.os = s₁.os ∧ AllBare s'.gens) s₁) :
    WalkO q loose XP YP l.row.toRowW d [] (fun f vs => PySem.call f vs) := by
  intro w s₀ s₁ mg mb G Y fa o pm cd doc dV kV ho hd hcd hD hmg hg args vals as hpre hlay hrd hwl hlo
  obtain rfl : dV = .none := Dflts.none hD hdf
  obtain rfl : kV = .none := Dflts.noKw hD
  obtain ⟨a, vs, ns, rfl, rfl, hobj, hints, hlen⟩ := script_of hn hpre hwl
  refine enter_call (codeAny_mono (call w s₀ s₁ mg mb fa o pm cd doc a vs ns G Y ho (fd_plain hd) hcd hmg hobj hints hlen hg) fun r s' hq => ?_)
  obtain ⟨rfl, h2, h3, h4⟩ := hq
  exact ⟨.inl ⟨.bool true, .bool true, [], rfl, fun _ => rfl, .bool true, post_true l _, fun _ => ⟨List.Pairwise.nil, fun _ hm => (nomatch hm)⟩⟩, h2, h3, h4⟩
section
variable {prog : Program} {w : World} {A : Around} {E : Value → Shared → Prop} {s : Shared} {K : Frag}
end
end Att
namespace L2
open PySem PySem.Spec PyProof.Rows
theorem vals_ints : ∀ {vs : List Value} {ns : List Int}, IntsAre vs ns → Vals (ns.map V.int) vs
  | _, _, .nil => .nil
  | _, _, .cons n t h => .cons ⟨t, rfl⟩ (vals_ints h)
def Only (H : Hp) : Prop := ∀ b, H b = none ∨ ∃ o xs, H b = some (.frz o (.lst xs))
theorem law_call {P : Program} {w : World} {K : PySem.W.Frag} {mg mb : Str → Option Value} {CX : CXT} {k : Nat} {fa a : Addr} {fd : FuncData} {x : Str} {sp : Sp} {s₁ : Shared} {vs : List Value} {ns : List Int}
    (KX : K.In s₁.heap) (hns : s₁.heap.Ns mainGlobals mg) (hb : s₁.heap.Ns builtinsNs mb) (hbb : ∀ x : Str, x ≠ "__name__" → mb x = bootBuiltins x) (hlim : s₁.heap.NoLimit) (hg : s₁.gens = #[])
    (ha : s₁.heap.get? a = some { cls := .type "list", data := .seq vs.toArray }) (hi : IntsAre vs ns) (hl : ns.length ≤ sizeLine) (hr : Room k callerA)
    (F : ∀ base : Heap, K.In base → base.Ns mainGlobals mg → FnOk P w K mg base CX k fa fd [x] sp) (hbind : ∀ (s : Shared) (u : Value), BindsTo s fd ⟨[u], []⟩ [(x, u)])
    (hsp : ∀ H : Hp, Only H → SqL K H a (ns.map V.int) → sp [.ref a] H (fun v _ => v = .bl true) fun _ _ _ => False)
    (hCX : ∀ H e s', CX [] H s₁ (fun _ _ _ => False) e s' → False) :
    codeAny (model P w) callerA (.call (.ref fa) ⟨[.ref a], []⟩) (fun r s' => r = .ok (.ret (.bool true)) ∧ OldK s₁.heap s'.heap ∧ s'.os = s₁.os ∧ AllBare s'.gens) s₁ := by
  have rv := vals_ints hi
  have lenV := hi.length
  -- from an abstract heap in which nothing but the script may be tracked
  have core : ∀ H : Hp, Only H → SqL K H a (ns.map V.int) → HOk P w H s₁.heap → (∀ b, H b ≠ none → b = a) → (H a ≠ none → K.lookup a = none) →
      codeAny (model P w) callerA (.call (.ref fa) ⟨[.ref a], []⟩) (fun r s' => r = .ok (.ret (.bool true)) ∧ OldK s₁.heap s'.heap ∧ s'.os = s₁.os ∧ AllBare s'.gens) s₁ := by
    intro H hO hS hok hA hK
    have base_of : ∀ {b : Addr} {o : Obj}, s₁.heap.get? b = some o → H b = none → (hidT s₁.heap H).get? b = some o := fun e n => hidT_get e n
    have noA : ∀ {b : Addr} {o : Obj} {es : Array DictEntry} {ep : Nat}, s₁.heap.get? b = some o → o.data = .dict es ep → H b = none := fun {b o es ep} e d => by
      cases q : H b with
      | none => rfl
      | some u =>
        have e' : b = a := hA b (by rw [q]; simp)
        subst e'
        rw [ha] at e; cases e
        have d' : Data.seq vs.toArray _ = Data.dict es ep := d
        cases d'
    have nsK : ∀ {b : Addr} {m : Str → Option Value}, s₁.heap.Ns b m → (hidT s₁.heap H).Ns b m := fun {b m} ⟨o, es, ep, e, d, r⟩ => ⟨o, es, ep, base_of e (noA e d), d, r⟩
    have hKb : K.In (hidT s₁.heap H) := fun b o e => base_of (KX b o e) (by
      cases q : H b with
      | none => rfl
      | some u =>
        have e' : b = a := hA b (by rw [q]; simp)
        subst e'
        rw [hK (by rw [q]; simp)] at e; cases e)
    have hM : Mod K mg (hidT s₁.heap H) := ⟨hKb, nsK hns, ⟨mb, nsK hb, hbb⟩, let ⟨mc, h1, h2⟩ := hlim; ⟨mc, nsK h1, h2⟩⟩
    have e0 : Env0 P w K mg (hidT s₁.heap H) callerA [] s₁ H := ⟨rfl, hM, fun b o e => of_hidT e, Nat.le_of_eq (hidT_size _ _), trivial, fun b hb => absurd (show b ∈ ([] : List Addr) from hb) (by simp), hok, .of_eq hg⟩
    refine codeAny_mono ((F _ hKb (nsK hns)).run callerA [] s₁ H ⟨[.ref a], []⟩ [.ref a] [.ref a] _ _ hr e0 (hbind s₁ (.ref a)) (.cons rfl .nil) (hsp H hO hS)) fun r s' h => ?_
    cases r with
    | error e => exact (hCX H e s' h).elim
    | ok fl =>
      cases fl with
      | next => exact False.elim h
      | brk => exact False.elim h
      | cont => exact False.elim h
      | ret u =>
        obtain ⟨v, H', os, bare, un, hok', r', q⟩ := h
        have q' : v = .bl true := q
        subst q'
        obtain rfl : u = Value.bool true := r'
        refine ⟨rfl, OldK.of_keep fun b o e => ?_, os, bare⟩
        cases q : H b with
        | none => exact un.keep b o e q (by intro z; exact absurd (show b ∈ ([] : List Addr) from z) (by simp)) (by simp)
        | some u =>
          rcases hO b with z | ⟨ob, xs, z⟩
          · rw [q] at z; cases z
          · have z2 := un.frzs b ob _ z
            obtain ⟨e1, _⟩ := hok b _ z
            obtain ⟨e2, _⟩ := hok' b _ z2
            rw [e] at e1; cases e1
            exact e2
  cases hk : K.lookup a with
  | some o =>
    -- the script is one of the module's own objects
    have e := KX a o hk
    rw [ha] at e
    cases e
    refine core (fun _ => none) (fun _ => .inl rfl) (.inr ⟨_, vs.toArray, _, hk, rfl, rfl, rfl, by rw [List.size_toArray, lenV]; exact hl, by simpa using rv⟩) (fun b u z => by have z' : (none : Option HO) = some u := z; cases z') (fun b z => absurd rfl z) fun z => absurd rfl z
  | none =>
    refine core (fun b => if b = a then some (.frz { cls := .type "list", data := .seq vs.toArray } (.lst (ns.map V.int))) else none) (fun b => ?_) (.inl (.inr ⟨{ cls := .type "list", data := .seq vs.toArray }, if_pos rfl⟩)) (fun b u z => ?_) (fun b z => ?_) fun _ => hk
    · by_cases hb : b = a
      · exact .inr ⟨_, _, if_pos hb⟩
      · exact .inl (if_neg hb)
    · by_cases hb : b = a
      · have z' := (if_pos hb).symm.trans z
        cases z'
        subst hb
        exact ⟨ha, by rw [List.length_map]; exact hl, vs, _, rv, ha⟩
      · have z' := (if_neg hb).symm.trans z
        cases z'
    · by_cases hb : b = a
      · exact hb
      · exact absurd (if_neg hb) z
end L2
namespace L2
open PySem PySem.Spec PyProof.Rows
abbrev KOf {K : PySem.W.Frag} {h : Heap} (_ : K.In h) : PySem.W.Frag := K
theorem walk_of {l : PySem.W.OpenLaw} {n k : Nat} {q : Program} {loose : List Str} {XP : (Str → Option Value) → Heap → Prop} {YP : World → Heap → Prop} {d : DefRec} {K : Params → PySem.W.Frag} {CX : World → CXT} {sp : World → Sp} {x : Str}
    (hn : l.most = some n) (hn2 : n ≤ sizeLine) (hdf : d.params.defaults = []) (hr : Room k callerA)
    (hY : ∀ (w : World) (h : Heap), YP w h → (K w.params).In h)
    (F : ∀ (w : World) (mg : Str → Option Value) (fa : Addr) (h : Heap), (K w.params).In h → h.Ns mainGlobals mg → mg d.name = some (.ref fa) →
      ∃ fd : FuncData, (∀ (s : Shared) (u : Value), BindsTo s fd ⟨[u], []⟩ [(x, u)]) ∧
        ∀ base : Heap, (K w.params).In base → base.Ns mainGlobals mg → FnOk l.prog w (K w.params) mg base (CX w) k fa fd [x] (sp w))
    (hsp : ∀ (w : World) (H : Hp) (a : Addr) (ns : List Int), ns.length ≤ n → Only H → SqL (K w.params) H a (ns.map V.int) → sp w [.ref a] H (fun v _ => v = .bl true) fun _ _ _ => False)
    (hCX : ∀ (w : World) (H : Hp) (s : Shared) (e : Value) (s' : Shared), CX w [] H s (fun _ _ _ => False) e s' → False) :
    PySem.W.WalkO q loose XP YP l.row.toRowW d [] (fun f vs => PySem.call f vs) := by
  refine Att.attach_call hn hdf fun w s₀ s₁ mg mb fa o pm cd doc a vs ns G Y ho hd hcd hmg hobj hints hlen hg => ?_
  have KX := hY w _ Y
  obtain ⟨fd, hb, hF⟩ := F w mg fa _ KX G.T.g hmg
  exact law_call KX G.T.g G.T.b G.T.builtins G.T.nolimit hg hobj hints (Nat.le_trans hlen hn2) hr hF hb (fun H hO hS => hsp w H a ns hlen hO hS) fun H e s' => hCX w H s₁ e s'
theorem walk_ofK {l : PySem.W.OpenLaw} {n k : Nat} {q : Program} {loose : List Str} {XP : (Str → Option Value) → Heap → Prop} {YP : World → Heap → Prop} {d : DefRec} {K : Params → PySem.W.Frag} {CX : CXT} {sp : PySem.W.Frag → Sp} {x : Str}
    (hn : l.most = some n) (hn2 : n ≤ sizeLine) (hdf : d.params.defaults = []) (hr : Room k callerA)
    (hY : ∀ (w : World) (h : Heap), YP w h → (K w.params).In h)
    (F : ∀ (w : World) (mg : Str → Option Value) (fa : Addr) (h : Heap), (K w.params).In h → h.Ns mainGlobals mg → mg d.name = some (.ref fa) →
      ∃ fd : FuncData, (∀ (s : Shared) (u : Value), BindsTo s fd ⟨[u], []⟩ [(x, u)]) ∧
        ∀ base : Heap, (K w.params).In base → base.Ns mainGlobals mg → FnOk l.prog w (K w.params) mg base CX k fa fd [x] (sp (K w.params)))
    (hsp : ∀ (K : PySem.W.Frag) (H : Hp) (a : Addr) (ns : List Int), ns.length ≤ n → Only H → SqL K H a (ns.map V.int) → sp K [.ref a] H (fun v _ => v = .bl true) fun _ _ _ => False)
    (hCX : ∀ (H : Hp) (s : Shared) (e : Value) (s' : Shared), CX [] H s (fun _ _ _ => False) e s' → False) :
    PySem.W.WalkO q loose XP YP l.row.toRowW d [] (fun f vs => PySem.call f vs) :=
  walk_of (K := K) (CX := fun _ => CX) (sp := fun w => sp (K w.params)) hn hn2 hdf hr hY F (fun w H a ns h1 h2 h3 => hsp (K w.params) H a ns h1 h2 h3) fun _ H s e s' => hCX H s e s'
end L2
/- THE LAST THEOREM (shape; LID, My.* are yours):
   My.Adr: a structure of the addresses that your layer names (classes, functions); My.Txt K t: a structure (Prop) of the equations over K;
   My.txt_mk : {K} {implicit addresses ..} (e1 : nsIn K mainGlobals "law" = some (some (.ref f))) (e2 : K.lookup f = some ⟨oc, od, .func (fnOf "law" "law" params body scope dV kV doc pm an cdv ct), sl⟩) (e3 : codeIn K cdv "law" = true) .. : ∃ t, My.Txt K t
set_option maxRecDepth 100000 in
set_option maxHeartbeats 0 in
theorem PySem.Challenge.cw_LID_holds : PySem.Challenge.rw_LID.Holds := by
  w_on; o_law; k_head; (case hw => w_witness2)
  k_fill
  refine L2.walk_of (l := PySem.Challenge.rw_LID) (n := 63) (k := 40) (x := "script") (CX := fun w => ..) (sp := fun _ => My.sp_law) rfl (by decide) rfl ⟨rfl, by decide, by decide⟩ (fun w h Y => PySem.W.kIn_of Y) ?F ?S ?C
  case F =>
    intro w mg fa h KX G hmg
    have T : ∃ t, My.Txt (L2.KOf KX) t := by
      dsimp only [L2.KOf]                          -- K must stand as «<heap const> w.params» for k_is
      refine' My.txt_mk ?e1 ?e2 ?e3 ..
      (case e1 => PySem.W.k_is)                    -- in the order: a name -> its address -> its object -> its parts
      (case e2 => PySem.W.k_is)
      ..
    obtain ⟨t, T⟩ := T
    have e0 := hmg.symm.trans (PySem.W.mg_of KX G T.law)
    cases e0                                       -- fa is the law's own address
    exact ⟨_, fun s u => .of_eq rfl, fun base kb nb => My.law_fn T kb nb⟩     -- if «.of_eq rfl» comes too early: refine' ⟨_, ?b, fun base kb nb => My.law_fn T kb nb⟩; exact fun s u => .of_eq rfl
  case S => exact fun w H a ns hl hO hS => ..
  case C => exact ..
(the tactic k_is has no namespace: write k_is) -/
namespace L2
open PySem PySem.Spec PyProof.Rows
def defArgs (s : Stmt) : Arguments := match s with
  | .FunctionDef _ a _ _ _ _ _ _ _ _ => a
  | _ => { posonlyargs := [], args := [], vararg := none, kwonlyargs := [], kw_defaults := [], kwarg := none, defaults := [] }
def defBody (s : Stmt) : List Stmt := match s with
  | .FunctionDef _ _ b _ _ _ _ _ _ _ => b
  | _ => []
def defScope (s : Stmt) : Scope := match s with
  | .FunctionDef _ _ _ _ _ _ sc _ _ _ => sc
  | _ => { kind := .function, names := [], isGenerator := false, isCoroutine := false }
abbrev CX0 : CXT := fun _ _ _ _ _ _ => False
abbrev E0 : XK := fun _ _ _ => False
theorem pass0 {X : Cx} : Passes CX0 X E0 := fun _ _ _ _ _ _ _ h => h.elim
structure Fun (K : PySem.W.Frag) (x qual : Str) (st : Stmt) (f : Addr) (fd : FuncData) : Prop where
  ex : ∃ (oc : Value) (od : Option Addr) (kV doc pm : Value) (an : Option Addr) (cdv ct : Value) (osl : Array (Option Value)),
    fd = PySem.W.fnOf x qual (defArgs st) (defBody st) (defScope st) .none kV doc pm an cdv ct ∧ K.lookup f = some ⟨oc, od, .func fd, osl⟩ ∧ PySem.W.codeIn K cdv qual = true
  kp : PySem.W.keepIn K (.ref f) = true
section
variable {P : Program} {w : World} {K : PySem.W.Frag} {mg : Str → Option Value} {base : Heap}
theorem Fun.ok {x qual : Str} {st : Stmt} {f : Addr} {fd : FuncData} {N ps : List Str} {k : Nat} {sp : Sp} (F : Fun K x qual st f fd) (S : FnScope N ps (defScope st)) (len : ∀ vs H Q E, sp vs H Q E → vs.length = ps.length)
    (hbody : ∀ (cdv : Value) (A : Around) (outer : List Env) (s : Shared) (H : Hp) (vs : List V) (Q : VK) (E : XK), Room k (A.deeper (envOfC qual (defScope st) s.heap.objs.size f cdv)) → sp vs H Q E →
      ∃ t, PSs (cxOf CX0 P w K mg base N qual (defScope st) f cdv A outer s H E).nox (defBody st) t ∧ t { nx := fun _ H' => Q .non H', rt := Q } (start N vs) H) : FnOk P w K mg base CX0 (k + 1) f fd ps sp := by
  obtain ⟨oc, od, kV, doc, pm, an, cdv, ct, osl, rfl, lk, hcd⟩ := F.ex
  refine fn_of lk hcd S len fun A outer s H vs Q E hr hsp => ?_
  obtain ⟨t, h, q⟩ := hbody cdv A outer s H vs Q E hr hsp
  exact ⟨t, h.nox, q⟩
theorem Fun.binds {x qual : Str} {st : Stmt} {f : Addr} {fd : FuncData} {ps : List Str} (F : Fun K x qual st f fd)
    (h : ∀ (kV doc pm : Value) (an : Option Addr) (cdv ct : Value) (us : List Value), us.length = ps.length → bindArgs (PySem.W.fnOf x qual (defArgs st) (defBody st) (defScope st) .none kV doc pm an cdv ct) ⟨us, []⟩ = pure (ps.zip us)) : Binds K fd ps [] := by
  obtain ⟨oc, od, kV, doc, pm, an, cdv, ct, osl, rfl, lk, hcd⟩ := F.ex
  exact .all (h kV doc pm an cdv ct)
theorem fun_mk {x qual : Str} {st : Stmt} {f : Addr} {oc : Value} {od an : Option Addr} {osl : Array (Option Value)} {kV doc pm cdv ct : Value} (l : K.lookup f = some ⟨oc, od, .func (PySem.W.fnOf x qual (defArgs st) (defBody st) (defScope st) .none kV doc pm an cdv ct), osl⟩)
    (c : PySem.W.codeIn K cdv qual = true) (k : PySem.W.keepIn K (.ref f) = true) : Fun K x qual st f (PySem.W.fnOf x qual (defArgs st) (defBody st) (defScope st) .none kV doc pm an cdv ct) := ⟨⟨oc, od, kV, doc, pm, an, cdv, ct, osl, rfl, l, c⟩, k⟩
end
section
variable {X : Cx}
end
def Same (H H' : Hp) : Prop := ∀ b o, H b = some o → H' b = some o
theorem Same.refl (H : Hp) : Same H H := fun _ _ h => h
theorem Same.trans {H H1 H2 : Hp} (a : Same H H1) (b : Same H1 H2) : Same H H2 := fun c o h => b c o (a c o h)
theorem Same.free {H H' : Hp} (e : Same H H') {l : Addr} (h : H' l = Option.none) : H l = Option.none := by
  cases q : H l with
  | none => rfl
  | some o =>
    rw [e l o q] at h
    cases h
theorem Same.seq {K : PySem.W.Frag} {H H' : Hp} {a : Addr} {xs : List V} (e : Same H H') (h : SqL K H a xs) : SqL K H' a xs := by
  rcases h with (h | ⟨o, h⟩) | h
  · exact .inl (.inl (e _ _ h))
  · exact .inl (.inr ⟨o, e _ _ h⟩)
  · exact .inr h
end L2
namespace HS
open PySem PySem.Spec
def Rises (t : SetTable) : Prop := t.plain = true → t.place.toList.Pairwise (· < ·)
end HS
namespace HS
open PySem PySem.Spec PyProof.Rows
def val (e : Int × Value) : Int := match e.2 with | .int n _ => n | _ => 0
def IsE (e : Int × Value) : Prop := ∃ n t, e = (hashInt n, .int n t)
theorem IsE.val {n : Int} {t : Tok} : val (hashInt n, .int n t) = n := rfl
structure TabOk (led : Bool) (es : Array (Int × Value)) (t : SetTable) (xs : List Int) : Prop where
  el : ∀ e ∈ es.toList, IsE e
  pm : (es.toList.map val).Perm xs
  nd : xs.Nodup
  bd : es.size < scanBound
  ft : t.fits es.size = true
  rs : Rises t
  ld : t.led = led
def SetG (led : Bool) (o : Obj) (xs : List Int) : Prop := ∃ es ep t, o.ExactSet ∧ o.data = .set es ep t ∧ TabOk led es t xs
theorem SetG.len {led : Bool} {es : Array (Int × Value)} {t : SetTable} {xs : List Int} (g : TabOk led es t xs) : es.size = xs.length := by
  have := g.pm.length_eq
  simpa using this
section
variable {prog : Program} {w : World} {A : Around} {E : Value → Shared → Prop} {s : Shared}
def plus (xs : List Int) (k : Int) : List Int := if k ∈ xs then xs else xs ++ [k]
theorem store_ok {a : Addr} {o : Obj} {es es' : Array (Int × Value)} {ep : Nat} {t t' : SetTable} {Q : Unit → Shared → Prop} (ho : s.heap.get? a = some o) (hx : o.ExactSet) (hd : o.data = .set es ep t)
    (hb : es'.size < scanBound)
    (h : ∀ h', Heap.SameBut a s.heap h' → h'.get? a = some { o with data := .set es' (ep + 1) t' } → Q () { s with heap := h' }) : wpAny (model prog w) A (storeSet a es' t') Q E s := by
  refine wpAny_storeSet_of ho hd (h _ (Heap.SameBut.update s.heap a _) ?_) (fits_of_scanBound hb)
  have q := Heap.get?_update_self (Obj.putSet es' t') ho (by rw [putSet_of es' t' hd]; rfl)
  rwa [putSet_of es' t' hd] at q
end
end HS
namespace HS
open PySem PySem.Spec PyProof.Rows
def metOf (xs : List Int) (ns : List Int) : List Int := ns.foldl plus xs
section
variable {prog : Program} {w : World} {A : Around} {R : Result → Shared → Prop} {I : Addr} {fp wr : List Addr} {G : Array GenState → Array GenState → Prop} {n : Nat} {P : Nat → Value → Prop} {St : Nat → Shared → Prop}
end
section
variable {prog : Program} {w : World} {A : Around} {E : Value → Shared → Prop} {s : Shared}
end
end HS
namespace HS
open PySem PySem.Spec PyProof.Rows
section
variable {α : Type} {M : Model} {A : Around} {E : Value → Shared → Prop} {s : Shared}
end
end HS
namespace HS
open PySem PySem.Spec PyProof.Rows
section
variable {prog : Program} {w : World} {A : Around} {E : Value → Shared → Prop} {s : Shared}
end
end HS
namespace HS
open PySem PySem.Spec PyProof.Rows
section
variable {prog : Program} {w : World} {A : Around} {E : Value → Shared → Prop} {s : Shared}
end
end HS
namespace HS
open PySem PySem.Spec PyProof.Rows
section
variable {prog : Program} {w : World} {A : Around} {E : Value → Shared → Prop} {s : Shared}
end
variable {prog : Program} {w : World}
end HS
namespace HS
open PySem PySem.Spec PyProof.Rows
section
variable {prog : Program} {w : World} {A : Around} {E : Value → Shared → Prop} {s : Shared}
end
end HS
namespace HS
open PySem PySem.Spec PyProof.Rows
end HS
namespace HS
open PySem PySem.Spec PyProof.Rows
theorem TabOk.place {led : Bool} {es : Array (Int × Value)} {t : SetTable} {xs : List Int} (g : TabOk led es t xs) : t.place.size = es.size ∧ t.fill ≤ t.mask := by
  have := g.ft; simp [SetTable.fits] at this; exact this
section
variable {prog : Program} {w : World} {A : Around} {E : Value → Shared → Prop} {s : Shared}
end
end HS
namespace HS
open PySem PySem.Spec PyProof.Rows
section
variable {prog : Program} {w : World} {A : Around} {E : Value → Shared → Prop} {s : Shared}
end
end HS
namespace HS
open PySem PySem.Spec PyProof.Rows
section
variable {prog : Program} {w : World} {A : Around} {E : Value → Shared → Prop} {s : Shared}
end
end HS
namespace HS
open PySem PySem.Spec PyProof.Rows
section
variable {prog : Program} {w : World} {A : Around} {E : Value → Shared → Prop} {s : Shared}
end
end HS
namespace HS
open PySem PySem.Spec PyProof.Rows
section
variable {prog : Program} {w : World} {A : Around} {E : Value → Shared → Prop} {h : Heap} {g : Array GenState} {d : Drawn} {t : Nat} {os : OsState} {a : Addr} {its : Array Value} {n : Nat}
end
section
variable {prog : Program} {w : World} {A : Around} {R : Result → Shared → Prop} {I : Addr} {fp wr : List Addr} {n : Nat} {P : Nat → Value → Prop} {St : Nat → Heap → Prop}
structure PairAt (h : Heap) (v key val : Value) : Prop where
  ex : ∃ a o c, v = .ref a ∧ h.get? a = some o ∧ o.cls = .type "tuple" ∧ o.data = .seq #[key, val] c
theorem PairAt.keep {h h' : Heap} {v key val : Value} (p : PairAt h v key val) (k : ∀ a o, v = .ref a → h.get? a = some o → h'.get? a = some o) : PairAt h' v key val := by
  obtain ⟨a, o, c, rfl, h1, h2, h3⟩ := p.ex
  exact ⟨a, o, c, rfl, k a o rfl h1, h2, h3⟩
end
end HS
namespace HS
open PySem PySem.Spec PyProof.Rows
section
variable {prog : Program} {w : World} {A : Around} {E : Value → Shared → Prop} {s : Shared}
end
end HS
namespace HW
open PySem L2
inductive D where
  | non | bl (b : Bool) | int (i : Int) | str (x : Str)
  | tup (xs : List D) | fl (xs : List D) | fd (ks : List Key) (ds : List D)
inductive R where
  | v (d : D) | p (n : Nat) | s (b : Bool) (xs : List Int) | x (c : Str)
inductive Cell where
  | lst (xs : List D) | fz (xs : List D) | dct (kvs : List (Key × D)) | fzd (kvs : List (Key × D))
abbrev Store := List Cell
abbrev Lo := List (Option R)
abbrev FE := Lo → Store → Option (R × Store)
abbrev FT := Lo → Store → Option (Bool × Store)
abbrev FA := Lo → Store → Option (List R × Store)
inductive Out where
  | nx (ρ : Lo) (μ : Store) | rt (d : R) (μ : Store) | bk (ρ : Lo) (μ : Store) | ct (ρ : Lo) (μ : Store)
abbrev FS := Lo → Store → Option Out
def FAt (K : PySem.W.Frag) (H : Hp) (a : Addr) (vs : List V) : Prop := (∃ o, H a = some (.frz o (.lst vs))) ∨ SqL K (fun _ => none) a vs
mutual
def RelD (K : PySem.W.Frag) (H : Hp) : D → V → Prop
  | .non, v => v = .non
  | .bl b, v => v = .bl b
  | .int i, v => v = .int i
  | .str x, v => v = .str x
  | .tup xs, v => ∃ a vs, v = .ref a ∧ SqT K H a vs ∧ RelDs K H xs vs
  | .fl xs, v => ∃ a vs, v = .ref a ∧ FAt K H a vs ∧ RelDs K H xs vs
  | .fd ks ds, v => ∃ a o es, v = .ref a ∧ H a = some (.frz o (.dK es)) ∧ es.map (·.1) = ks ∧ RelDs K H ds (es.map (·.2))
def RelDs (K : PySem.W.Frag) (H : Hp) : List D → List V → Prop
  | [], vs => vs = []
  | x :: xs, vs => ∃ v r, vs = v :: r ∧ RelD K H x v ∧ RelDs K H xs r
end
def RelR (K : PySem.W.Frag) (m : List Addr) (H : Hp) : R → V → Prop
  | .v d, v => RelD K H d v
  | .p n, v => ∃ a, v = .ref a ∧ m[n]? = some a
  | .s b xs, v => ∃ a o, v = .ref a ∧ H a = some (.frz o (.ext fun _ => True)) ∧ HS.SetG b o xs
  | .x c, v => ∃ a vs C, v = .ref a ∧ H a = some (.frz { cls := .ref C, dict := none, data := .fields vs, slots := #[] } (.ext fun _ => True)) ∧ PySem.W.nsIn K mainGlobals c = some (some (.ref C))
def RelRs (K : PySem.W.Frag) (m : List Addr) (H : Hp) : List R → List V → Prop
  | [], vs => vs = []
  | x :: xs, vs => ∃ v r, vs = v :: r ∧ RelR K m H x v ∧ RelRs K m H xs r
def CellR (K : PySem.W.Frag) (H : Hp) : Cell → Addr → Prop
  | .lst xs, a => ∃ vs, H a = some (.lst vs) ∧ RelDs K H xs vs
  | .fz xs, a => ∃ o vs, H a = some (.frz o (.lst vs)) ∧ RelDs K H xs vs
  | .dct kvs, a => ∃ es, H a = some (.dK es) ∧ es.map (·.1) = kvs.map (·.1) ∧ RelDs K H (kvs.map (·.2)) (es.map (·.2))
  | .fzd kvs, a => ∃ o es, H a = some (.frz o (.dK es)) ∧ es.map (·.1) = kvs.map (·.1) ∧ RelDs K H (kvs.map (·.2)) (es.map (·.2))
structure SRel (K : PySem.W.Frag) (m : List Addr) (H : Hp) (μ : Store) : Prop where
  nd : m.Nodup
  len : m.length = μ.length
  cell : ∀ (i : Nat) c a, μ[i]? = some c → m[i]? = some a → CellR K H c a
structure TF (H H' : Hp) : Prop where
  tup : ∀ a xs, H a = some (.tup xs) → H' a = some (.tup xs)
  frz : ∀ a o u, H a = some (.frz o u) → H' a = some (.frz o u)
structure Ext (m : List Addr) (H : Hp) (m' : List Addr) (H' : Hp) : Prop where
  ext : ∃ e, m' = m ++ e ∧ ∀ a ∈ e, H a = none
  tf : TF H H'
  keep : ∀ a o, H a = some o → a ∉ m → H' a = some o
  live : ∀ a, H' a = none → H a = none
def LRel (K : PySem.W.Frag) (m : List Addr) (H : Hp) (ρ : Lo) (σ : St) : Prop :=
  ρ.length = σ.length ∧ ∀ (i : Nat) d, ρ[i]? = some (some d) → ∃ v, σ[i]? = some (some v) ∧ RelR K m H d v
section
variable {K : PySem.W.Frag} {m m' m1 m2 : List Addr} {H H' H1 H2 : Hp} {μ μ' : Store} {ρ : Lo} {σ : St}
theorem TF.refl : TF H H := ⟨fun _ _ h => h, fun _ _ _ h => h⟩
theorem TF.trans (a : TF H H1) (b : TF H1 H2) : TF H H2 := ⟨fun _ _ h => b.tup _ _ (a.tup _ _ h), fun _ _ _ h => b.frz _ _ _ (a.frz _ _ _ h)⟩
theorem TF.of (h : ∀ a o, H a = some o → H' a = some o) : TF H H' := ⟨fun _ _ e => h _ _ e, fun _ _ _ e => h _ _ e⟩
theorem SqT.tf {a vs} (t : TF H H') (h : SqT K H a vs) : SqT K H' a vs := by
  rcases h with (h | ⟨o, h⟩) | h
  · exact .inl (.inl (t.tup _ _ h))
  · exact .inl (.inr ⟨o, t.frz _ _ _ h⟩)
  · exact .inr h
theorem FAt.tf {a vs} (t : TF H H') (h : FAt K H a vs) : FAt K H' a vs := by
  rcases h with ⟨o, h⟩ | h
  · exact .inl ⟨o, t.frz _ _ _ h⟩
  · exact .inr h
theorem FAt.sq {a vs} (h : FAt K H a vs) : SqL K H a vs := by
  rcases h with ⟨o, h⟩ | (h | ⟨_, h⟩) | h
  · exact .inl (.inr ⟨o, h⟩)
  · cases h
  · cases h
  · exact .inr h
mutual
theorem RelD.tf (t : TF H H') : ∀ (d : D) (v : V), RelD K H d v → RelD K H' d v
  | .non, _, h => by simpa only [RelD] using h
  | .bl _, _, h => by simpa only [RelD] using h
  | .int _, _, h => by simpa only [RelD] using h
  | .str _, _, h => by simpa only [RelD] using h
  | .tup xs, v, h => by
    simp only [RelD] at h ⊢
    obtain ⟨a, vs, e, s, r⟩ := h
    exact ⟨a, vs, e, SqT.tf t s, RelDs.tf t xs vs r⟩
  | .fl xs, v, h => by
    simp only [RelD] at h ⊢
    obtain ⟨a, vs, e, s, r⟩ := h
    exact ⟨a, vs, e, s.tf t, RelDs.tf t xs vs r⟩
  | .fd ks ds, v, h => by
    simp only [RelD] at h ⊢
    obtain ⟨a, o, es, e, s, k, r⟩ := h
    exact ⟨a, o, es, e, t.frz _ _ _ s, k, RelDs.tf t ds _ r⟩
theorem RelDs.tf (t : TF H H') : ∀ (ds : List D) (vs : List V), RelDs K H ds vs → RelDs K H' ds vs
  | [], _, h => by simpa only [RelDs] using h
  | d :: ds, vs, h => by
    simp only [RelDs] at h ⊢
    obtain ⟨v, r, e, h1, h2⟩ := h
    exact ⟨v, r, e, RelD.tf t d v h1, RelDs.tf t ds r h2⟩
end
theorem Ext.refl : Ext m H m H := ⟨⟨[], by simp⟩, .refl, fun _ _ h _ => h, fun _ h => h⟩
theorem Ext.trans (x : Ext m H m1 H1) (y : Ext m1 H1 m2 H2) : Ext m H m2 H2 := by
  obtain ⟨e1, rfl, f1⟩ := x.ext
  obtain ⟨e2, rfl, f2⟩ := y.ext
  refine ⟨⟨e1 ++ e2, by simp, fun a ha => ?_⟩, x.tf.trans y.tf, fun a o h n => ?_, fun a h => x.live a (y.live a h)⟩
  · rcases List.mem_append.mp ha with h | h
    · exact f1 a h
    · exact x.live a (f2 a h)
  · refine y.keep a o (x.keep a o h n) fun z => ?_
    rcases List.mem_append.mp z with z | z
    · exact n z
    · rw [f1 a z] at h; cases h
theorem RelR.ext (x : Ext m H m' H') {d : R} {v : V} (h : RelR K m H d v) : RelR K m' H' d v := by
  cases d with
  | v d => exact RelD.tf x.tf d v h
  | p n =>
    obtain ⟨a, e, q⟩ := h
    obtain ⟨e1, rfl, _⟩ := x.ext
    refine ⟨a, e, ?_⟩
    obtain ⟨hl, hq⟩ := List.getElem?_eq_some_iff.mp q
    rw [List.getElem?_append_left hl]; exact q
  | s b xs =>
    obtain ⟨a, o, e, q, r⟩ := h
    exact ⟨a, o, e, x.tf.frz _ _ _ q, r⟩
  | x c =>
    obtain ⟨a, vs, C, e, q, r⟩ := h
    exact ⟨a, vs, C, e, x.tf.frz _ _ _ q, r⟩
theorem RelRs.ext (x : Ext m H m' H') : ∀ {ds : List R} {vs : List V}, RelRs K m H ds vs → RelRs K m' H' ds vs
  | [], _, h => h
  | _ :: _, _, ⟨v, r, e, h1, h2⟩ => ⟨v, r, e, h1.ext x, RelRs.ext x h2⟩
theorem LRel.ext (x : Ext m H m' H') (h : LRel K m H ρ σ) : LRel K m' H' ρ σ :=
  ⟨h.1, fun i d e => let ⟨v, q, r⟩ := h.2 i d e; ⟨v, q, r.ext x⟩⟩
theorem CellR.same (s : ∀ a o, H a = some o → H' a = some o) {c : Cell} {a : Addr} (h : CellR K H c a) : CellR K H' c a := by
  cases c with
  | lst xs => obtain ⟨vs, e, r⟩ := h; exact ⟨vs, s _ _ e, RelDs.tf (.of s) _ _ r⟩
  | fz xs => obtain ⟨o, vs, e, r⟩ := h; exact ⟨o, vs, s _ _ e, RelDs.tf (.of s) _ _ r⟩
  | dct kvs => obtain ⟨es, e, k, r⟩ := h; exact ⟨es, s _ _ e, k, RelDs.tf (.of s) _ _ r⟩
  | fzd kvs => obtain ⟨o, es, e, k, r⟩ := h; exact ⟨o, es, s _ _ e, k, RelDs.tf (.of s) _ _ r⟩
theorem CellR.some {c : Cell} {a : Addr} (h : CellR K H c a) : ∃ o, H a = some o := by
  cases c with
  | lst xs => obtain ⟨vs, e, r⟩ := h; exact ⟨_, e⟩
  | fz xs => obtain ⟨o, vs, e, r⟩ := h; exact ⟨_, e⟩
  | dct kvs => obtain ⟨es, e, k, r⟩ := h; exact ⟨_, e⟩
  | fzd kvs => obtain ⟨o, es, e, k, r⟩ := h; exact ⟨_, e⟩
theorem SRel.same (h : SRel K m H μ) (s : ∀ a o, H a = some o → H' a = some o) : SRel K m H' μ :=
  ⟨h.nd, h.len, fun i c a e1 e2 => (h.cell i c a e1 e2).same s⟩
theorem SRel.mem (h : SRel K m H μ) {a : Addr} (ha : a ∈ m) : ∃ o, H a = some o := by
  obtain ⟨i, hi, e⟩ := List.getElem_of_mem ha
  have hi' : i < μ.length := by rw [← h.len]; exact hi
  exact (h.cell i μ[i] a (List.getElem?_eq_getElem hi') (by rw [← e]; exact List.getElem?_eq_getElem hi)).some
theorem SRel.fresh (h : SRel K m H μ) {p : Addr} (hp : H p = none) : p ∉ m := fun z => by
  obtain ⟨o, e⟩ := h.mem z
  rw [hp] at e; cases e
theorem SRel.nil : SRel K [] H [] := ⟨.nil, rfl, fun i c a e => by simp at e⟩
theorem upd_keeps {p : Addr} {o : HO} (hp : H p = none) : ∀ a u, H a = some u → upd H p o a = some u := fun a u e => by
  unfold upd; rw [if_neg (fun z => by rw [z, hp] at e; cases e)]; exact e
theorem upd_live {p : Addr} {o : HO} {a : Addr} (h : upd H p o a = none) : H a = none := by
  unfold upd at h; split at h
  · cases h
  · exact h
theorem upd_at {p : Addr} {o : HO} : upd H p o p = some o := by unfold upd; rw [if_pos rfl]
theorem Ext.new {p : Addr} {o : HO} (hp : H p = none) : Ext m H m (upd H p o) :=
  ⟨⟨[], by simp⟩, .of (upd_keeps hp), fun a u e _ => upd_keeps hp a u e, fun _ h => upd_live h⟩
theorem Ext.newH {p : Addr} {o : HO} (hp : H p = none) : Ext m H (m ++ [p]) (upd H p o) :=
  ⟨⟨[p], rfl, fun a h => by rw [List.mem_singleton.mp h]; exact hp⟩, .of (upd_keeps hp), fun a u e _ => upd_keeps hp a u e, fun _ h => upd_live h⟩
theorem SRel.newH {p : Addr} {o : HO} {c : Cell} (h : SRel K m H μ) (hp : H p = none) (hc : CellR K (upd H p o) c p) : SRel K (m ++ [p]) (upd H p o) (μ ++ [c]) := by
  refine ⟨?_, by simp [h.len], fun i c' a e1 e2 => ?_⟩
  · refine List.nodup_append.mpr ⟨h.nd, by simp, fun a ha b hb => ?_⟩
    rw [List.mem_singleton.mp hb]
    rintro rfl
    exact h.fresh hp ha
  · by_cases hi : i < m.length
    · rw [List.getElem?_append_left hi] at e2
      rw [List.getElem?_append_left (by rw [← h.len]; exact hi)] at e1
      exact (h.cell i c' a e1 e2).same (upd_keeps hp)
    · rw [List.getElem?_append_right (by omega)] at e2
      rw [List.getElem?_append_right (by have := h.len; omega)] at e1
      have hl := h.len
      have : i - m.length = 0 := by
        cases q : i - m.length with
        | zero => rfl
        | succ k => rw [q] at e2; simp at e2
      have e3 : i - μ.length = 0 := by omega
      rw [this] at e2; rw [e3] at e1
      simp at e1 e2
      subst e1 e2
      exact hc
theorem Ext.put {a : Addr} {o o' : HO} (ha : a ∈ m) (e : H a = some o) (ho : ∀ xs, o ≠ .tup xs) (hf : ∀ x u, o ≠ .frz x u) : Ext m H m (upd H a o') := by
  have ne : ∀ b u, H b = some u → u ≠ o → b ≠ a := fun b u q n z => by rw [z, e] at q; exact n (Option.some.inj q).symm
  refine ⟨⟨[], by simp⟩, ⟨fun b xs q => ?_, fun b x u q => ?_⟩, fun b u q n => ?_, fun b h => upd_live h⟩
  · unfold upd; rw [if_neg (ne b _ q fun z => ho xs z.symm)]; exact q
  · unfold upd; rw [if_neg (ne b _ q fun z => hf x u z.symm)]; exact q
  · unfold upd; rw [if_neg (fun z : b = a => n (by rw [z]; exact ha))]; exact q
theorem SRel.put {n : Nat} {a : Addr} {o o' : HO} {c : Cell} (h : SRel K m H μ) (hn : m[n]? = some a) (e : H a = some o) (ho : ∀ xs, o ≠ .tup xs) (hf : ∀ x u, o ≠ .frz x u) (hc : CellR K (upd H a o') c a) : SRel K m (upd H a o') (μ.set n c) := by
  have ha : a ∈ m := List.mem_of_getElem? hn
  have x : Ext m H m (upd H a o') := .put ha e ho hf
  refine ⟨h.nd, by simp [h.len], fun i c' b e1 e2 => ?_⟩
  by_cases hi : i = n
  · subst hi
    rw [hn] at e2; cases e2
    rw [List.getElem?_set_self (by have := (List.getElem?_eq_some_iff.mp hn).1; have := h.len; omega)] at e1
    cases e1
    exact hc
  · rw [List.getElem?_set_ne (Ne.symm hi)] at e1
    have nb : b ≠ a := by
      rintro rfl
      obtain ⟨h1, q1⟩ := List.getElem?_eq_some_iff.mp e2
      obtain ⟨h2, q2⟩ := List.getElem?_eq_some_iff.mp hn
      exact hi ((List.getElem_inj h.nd).mp (q1.trans q2.symm))
    have at' : ∀ u, H b = some u → upd H a o' b = some u := fun u q => by unfold upd; rw [if_neg nb]; exact q
    have z := h.cell i c' b e1 e2
    cases c' with
    | lst xs => obtain ⟨vs, e, r⟩ := z; exact ⟨vs, at' _ e, RelDs.tf x.tf _ _ r⟩
    | fz xs => obtain ⟨o, vs, e, r⟩ := z; exact ⟨o, vs, at' _ e, RelDs.tf x.tf _ _ r⟩
    | dct kvs => obtain ⟨es, e, k, r⟩ := z; exact ⟨es, at' _ e, k, RelDs.tf x.tf _ _ r⟩
    | fzd kvs => obtain ⟨o, es, e, k, r⟩ := z; exact ⟨o, es, at' _ e, k, RelDs.tf x.tf _ _ r⟩
end
def rdE (K : PySem.W.Frag) (f : FE) : TE := fun σ H Q => ∃ ρ μ m d μ', LRel K m H ρ σ ∧ SRel K m H μ ∧ f ρ μ = some (d, μ') ∧
  ∀ v H' m', Ext m H m' H' → SRel K m' H' μ' → RelR K m' H' d v → Q v H'
def rdT (K : PySem.W.Frag) (f : FT) : TT := fun σ H Q => ∃ ρ μ m b μ', LRel K m H ρ σ ∧ SRel K m H μ ∧ f ρ μ = some (b, μ') ∧
  ∀ H' m', Ext m H m' H' → SRel K m' H' μ' → Q b H'
def rdA (K : PySem.W.Frag) (f : FA) : TA := fun σ H Q => ∃ ρ μ m ds μ', LRel K m H ρ σ ∧ SRel K m H μ ∧ f ρ μ = some (ds, μ') ∧
  ∀ vs H' m', Ext m H m' H' → SRel K m' H' μ' → RelRs K m' H' ds vs → Q vs H'
def Ends.of (K : PySem.W.Frag) (m : List Addr) (H : Hp) (D : Ends) : Out → Prop
  | .nx ρ μ => ∀ σ H' m', Ext m H m' H' → SRel K m' H' μ → LRel K m' H' ρ σ → D.nx σ H'
  | .bk ρ μ => ∀ σ H' m', Ext m H m' H' → SRel K m' H' μ → LRel K m' H' ρ σ → D.bk σ H'
  | .ct ρ μ => ∀ σ H' m', Ext m H m' H' → SRel K m' H' μ → LRel K m' H' ρ σ → D.ct σ H'
  | .rt d μ => ∀ v H' m', Ext m H m' H' → SRel K m' H' μ → RelR K m' H' d v → D.rt v H'
def rdS (K : PySem.W.Frag) (f : FS) : TS := fun D σ H => ∃ ρ μ m out, LRel K m H ρ σ ∧ SRel K m H μ ∧ f ρ μ = some out ∧ Ends.of K m H D out
def fVar (i : Nat) : FE := fun ρ μ => match ρ[i]? with | some (some d) => some (d, μ) | _ => none
def fK (d : D) : FE := fun _ μ => some (.v d, μ)
def fOp (g : R → R → Store → Option (R × Store)) (fa fb : FE) : FE := fun ρ μ => (fa ρ μ).bind fun a => (fb ρ a.2).bind fun b => g a.1 b.1 b.2
def fUn (g : R → Store → Option (R × Store)) (fa : FE) : FE := fun ρ μ => (fa ρ μ).bind fun a => g a.1 a.2
def GOp (K : PySem.W.Frag) (g : R → R → Store → Option (R × Store)) (r : R2) : Prop :=
  ∀ m H μ x y d μ' v u Q, SRel K m H μ → RelR K m H x v → RelR K m H y u → g x y μ = some (d, μ') → (∀ w H' m', Ext m H m' H' → SRel K m' H' μ' → RelR K m' H' d w → Q w H') → r v u H Q
def GUn (K : PySem.W.Frag) (g : R → Store → Option (R × Store)) (r : V → Hp → VK → Prop) : Prop :=
  ∀ m H μ x d μ' v Q, SRel K m H μ → RelR K m H x v → g x μ = some (d, μ') → (∀ w H' m', Ext m H m' H' → SRel K m' H' μ' → RelR K m' H' d w → Q w H') → r v H Q
def GAr (K : PySem.W.Frag) (g : List R → Store → Option (R × Store)) (r : List V → Hp → VK → Prop) : Prop :=
  ∀ m H μ xs d μ' vs Q, SRel K m H μ → RelRs K m H xs vs → g xs μ = some (d, μ') → (∀ w H' m', Ext m H m' H' → SRel K m' H' μ' → RelR K m' H' d w → Q w H') → r vs H Q
def fNil : FA := fun _ μ => some ([], μ)
def fCons (fa : FE) (fr : FA) : FA := fun ρ μ => (fa ρ μ).bind fun a => (fr ρ a.2).bind fun r => some (a.1 :: r.1, r.2)
def fAr (g : List R → Store → Option (R × Store)) (fa : FA) : FE := fun ρ μ => (fa ρ μ).bind fun a => g a.1 a.2
section
variable {K : PySem.W.Frag} {σ : St} {H : Hp} {Q : VK}
theorem rd_var {i : Nat} (h : rdE K (fVar i) σ H Q) : tVar i σ H Q := by
  obtain ⟨ρ, μ, m, d, μ', hl, hs, e, k⟩ := h
  unfold fVar at e
  split at e
  · rename_i d' q
    cases e
    obtain ⟨v, q1, q2⟩ := hl.2 i _ q
    exact ⟨v, q1, k v H m .refl hs q2⟩
  · cases e
theorem rd_const {d : D} {v : V} (hv : ∀ m H, RelR K m H (.v d) v) (h : rdE K (fK d) σ H Q) : tC v σ H Q := by
  obtain ⟨ρ, μ, m, d', μ', hl, hs, e, k⟩ := h
  cases e
  exact k v H m .refl hs (hv _ _)
theorem rd_op {g r fa fb} (hg : GOp K g r) (h : rdE K (fOp g fa fb) σ H Q) : tOp r (rdE K fa) (rdE K fb) σ H Q := by
  obtain ⟨ρ, μ, m, d, μ', hl, hs, e, k⟩ := h
  obtain ⟨⟨x, μ1⟩, e1, e⟩ := Option.bind_eq_some_iff.mp e
  obtain ⟨⟨y, μ2⟩, e2, e⟩ := Option.bind_eq_some_iff.mp e
  refine ⟨ρ, μ, m, x, μ1, hl, hs, e1, fun v H1 m1 x1 s1 r1 => ?_⟩
  refine ⟨ρ, μ1, m1, y, μ2, hl.ext x1, s1, e2, fun u H2 m2 x2 s2 r2 => ?_⟩
  exact hg m2 H2 μ2 x y d μ' v u Q s2 (r1.ext x2) r2 e fun w H3 m3 x3 s3 r3 => k w H3 m3 ((x1.trans x2).trans x3) s3 r3
theorem rd_un {g r fa} (hg : GUn K g r) (h : rdE K (fUn g fa) σ H Q) : tUn r (rdE K fa) σ H Q := by
  obtain ⟨ρ, μ, m, d, μ', hl, hs, e, k⟩ := h
  obtain ⟨⟨x, μ1⟩, e1, e⟩ := Option.bind_eq_some_iff.mp e
  refine ⟨ρ, μ, m, x, μ1, hl, hs, e1, fun v H1 m1 x1 s1 r1 => ?_⟩
  exact hg m1 H1 μ1 x d μ' v Q s1 r1 e fun w H3 m3 x3 s3 r3 => k w H3 m3 (x1.trans x3) s3 r3
theorem rd_nil {Q : List V → Hp → Prop} (h : rdA K fNil σ H Q) : tNil σ H Q := by
  obtain ⟨ρ, μ, m, ds, μ', hl, hs, e, k⟩ := h
  cases e
  exact k [] H m .refl hs rfl
theorem rd_cons {fa fr} {Q : List V → Hp → Prop} (h : rdA K (fCons fa fr) σ H Q) : tCons (rdE K fa) (rdA K fr) σ H Q := by
  obtain ⟨ρ, μ, m, ds, μ', hl, hs, e, k⟩ := h
  obtain ⟨⟨x, μ1⟩, e1, e⟩ := Option.bind_eq_some_iff.mp e
  obtain ⟨⟨xs, μ2⟩, e2, e⟩ := Option.bind_eq_some_iff.mp e
  cases e
  refine ⟨ρ, μ, m, x, μ1, hl, hs, e1, fun v H1 m1 x1 s1 r1 => ?_⟩
  refine ⟨ρ, μ1, m1, xs, μ2, hl.ext x1, s1, e2, fun vs H2 m2 x2 s2 r2 => ?_⟩
  exact k (v :: vs) H2 m2 (x1.trans x2) s2 ⟨v, vs, rfl, r1.ext x2, r2⟩
theorem rd_ar {g r fa} (hg : GAr K g r) (h : rdE K (fAr g fa) σ H Q) : tCB r (rdA K fa) σ H Q := by
  obtain ⟨ρ, μ, m, d, μ', hl, hs, e, k⟩ := h
  obtain ⟨⟨xs, μ1⟩, e1, e⟩ := Option.bind_eq_some_iff.mp e
  refine ⟨ρ, μ, m, xs, μ1, hl, hs, e1, fun vs H1 m1 x1 s1 r1 => ?_⟩
  exact hg m1 H1 μ1 xs d μ' vs Q s1 r1 e fun w H3 m3 x3 s3 r3 => k w H3 m3 (x1.trans x3) s3 r3
end
def fB (fa : FE) : FT := fun ρ μ => (fa ρ μ).bind fun a => match a.1 with | .v (.bl b) => some (b, a.2) | _ => none
def truD : R → Store → Option Bool
  | .v .non, _ => some false
  | .v (.bl b), _ => some b
  | .v (.int i), _ => some (i != 0)
  | .v (.str x), _ => if x.length ≤ sizeLine then some ((x.length : Int) != 0) else none
  | .v (.tup xs), _ => some (!xs.isEmpty)
  | .v (.fl xs), _ => some (!xs.isEmpty)
  | .v (.fd _ _), _ => none
  | .s _ _, _ => none
  | .x _, _ => none
  | .p n, μ => match μ[n]? with | some (.lst xs) => some (!xs.isEmpty) | some (.fz xs) => some (!xs.isEmpty) | some (.dct kvs) => some (!kvs.isEmpty) | _ => none
def fTru (fa : FE) : FT := fun ρ μ => (fa ρ μ).bind fun a => (truD a.1 a.2).bind fun b => some (b, a.2)
def tAndF (t u : FT) : FT := fun ρ μ => (t ρ μ).bind fun c => if c.1 = true then u ρ c.2 else some (false, c.2)
def tOrF (t u : FT) : FT := fun ρ μ => (t ρ μ).bind fun c => if c.1 = true then some (true, c.2) else u ρ c.2
def tNotF (t : FT) : FT := fun ρ μ => (t ρ μ).bind fun c => some (!c.1, c.2)
def fAnd (fa fb : FE) : FE := fun ρ μ => (fa ρ μ).bind fun a => match a.1 with | .v (.bl c) => if c = true then fb ρ a.2 else some (.v (.bl false), a.2) | _ => none
def fOr (fa fb : FE) : FE := fun ρ μ => (fa ρ μ).bind fun a => match a.1 with | .v (.bl c) => if c = true then some (.v (.bl true), a.2) else fb ρ a.2 | _ => none
def fNot (fa : FE) : FE := fun ρ μ => (fa ρ μ).bind fun a => match a.1 with | .v (.bl c) => some (.v (.bl (!c)), a.2) | _ => none
def fIf (t : FT) (fa fb : FE) : FE := fun ρ μ => (t ρ μ).bind fun c => if c.1 = true then fa ρ c.2 else fb ρ c.2
theorem RelDs.length {K : PySem.W.Frag} {H : Hp} : ∀ {ds : List D} {vs : List V}, RelDs K H ds vs → ds.length = vs.length
  | [], _, h => by simp only [RelDs] at h; subst h; rfl
  | _ :: _, _, h => by
    simp only [RelDs] at h
    obtain ⟨v, r, rfl, _, h2⟩ := h
    simp [RelDs.length h2]
theorem RelDs.empty {K : PySem.W.Frag} {H : Hp} {ds : List D} {vs : List V} (h : RelDs K H ds vs) : ds.isEmpty = vs.isEmpty := by
  have := h.length
  cases ds <;> cases vs <;> simp_all
section
variable {K : PySem.W.Frag} {σ : St} {H : Hp} {Q : VK} {B : Bool → Hp → Prop}
theorem rd_B {fa} (h : rdT K (fB fa) σ H B) : tB (rdE K fa) σ H B := by
  obtain ⟨ρ, μ, m, d, μ', hl, hs, e, k⟩ := h
  obtain ⟨⟨x, μ1⟩, e1, e⟩ := Option.bind_eq_some_iff.mp e
  split at e
  · rename_i b q
    cases e
    subst q
    exact ⟨ρ, μ, m, _, μ1, hl, hs, e1, fun v H1 m1 x1 s1 r1 => ⟨_, by simpa only [RelR, RelD] using r1, k H1 m1 x1 s1⟩⟩
  · cases e
theorem rd_Test {fa} (h : rdT K (fB fa) σ H B) : tTest (rdE K fa) σ H B := rd_B h
theorem tru_ok {m : List Addr} {μ : Store} {x : R} {b : Bool} {v : V} (s : SRel K m H μ) (r : RelR K m H x v) (e : truD x μ = some b) : TruV K v H b := by
  cases x with
  | v d =>
    cases d with
    | non => cases e; cases r; rfl
    | bl c => cases e; simp only [RelR, RelD] at r; subst r; rfl
    | int i => cases e; simp only [RelR, RelD] at r; subst r; rfl
    | str x =>
      simp only [RelR, RelD] at r
      subst r
      simp only [truD] at e
      split at e
      · rename_i z; cases e; exact ⟨z, rfl⟩
      · cases e
    | tup xs =>
      cases e
      simp only [RelR, RelD] at r
      obtain ⟨a, vs, rfl, q, r⟩ := r
      exact .inr (.inl ⟨vs, q, by rw [r.empty]⟩)
    | fl xs =>
      cases e
      simp only [RelR, RelD] at r
      obtain ⟨a, vs, rfl, q, r⟩ := r
      exact .inl ⟨vs, q.sq, by rw [r.empty]⟩
    | fd ks ds => cases e
  | s b xs => cases e
  | x _ => cases e
  | p n =>
    obtain ⟨a, rfl, ha⟩ := r
    simp only [truD] at e
    split at e
    · rename_i xs q
      cases e
      obtain ⟨vs, e, r⟩ := s.cell n _ a q ha
      exact .inl ⟨vs, .inl (.inl e), by rw [r.empty]⟩
    · rename_i xs q
      cases e
      obtain ⟨o, vs, e, r⟩ := s.cell n _ a q ha
      exact .inl ⟨vs, .inl (.inr ⟨o, e⟩), by rw [r.empty]⟩
    · rename_i kvs q
      cases e
      obtain ⟨es, e, k, r⟩ := s.cell n _ a q ha
      refine .inr (.inr ⟨es, e, ?_⟩)
      have := congrArg List.length k
      cases es <;> cases kvs <;> simp_all
    · cases e
theorem rd_tru {fa} (h : rdT K (fTru fa) σ H B) : (fun σ H (Q : Bool → Hp → Prop) => rdE K fa σ H fun x H1 => ∃ k, TruV K x H1 k ∧ Q k H1) σ H B := by
  obtain ⟨ρ, μ, m, d, μ', hl, hs, e, k⟩ := h
  obtain ⟨⟨x, μ1⟩, e1, e⟩ := Option.bind_eq_some_iff.mp e
  obtain ⟨b, e2, e⟩ := Option.bind_eq_some_iff.mp e
  cases e
  exact ⟨ρ, μ, m, x, _, hl, hs, e1, fun v H1 m1 x1 s1 r1 => ⟨_, tru_ok s1 r1 e2, k H1 m1 x1 s1⟩⟩
theorem rd_tand {t u} (h : rdT K (tAndF t u) σ H B) : tAnd (rdT K t) (rdT K u) σ H B := by
  obtain ⟨ρ, μ, m, d, μ', hl, hs, e, k⟩ := h
  obtain ⟨⟨c, μ1⟩, e1, e⟩ := Option.bind_eq_some_iff.mp e
  refine ⟨ρ, μ, m, c, μ1, hl, hs, e1, fun H1 m1 x1 s1 => ?_⟩
  cases c with
  | true => exact ⟨ρ, μ1, m1, d, μ', hl.ext x1, s1, e, fun H2 m2 x2 s2 => k H2 m2 (x1.trans x2) s2⟩
  | false => cases e; exact k H1 m1 x1 s1
theorem rd_tor {t u} (h : rdT K (tOrF t u) σ H B) : tOr (rdT K t) (rdT K u) σ H B := by
  obtain ⟨ρ, μ, m, d, μ', hl, hs, e, k⟩ := h
  obtain ⟨⟨c, μ1⟩, e1, e⟩ := Option.bind_eq_some_iff.mp e
  refine ⟨ρ, μ, m, c, μ1, hl, hs, e1, fun H1 m1 x1 s1 => ?_⟩
  cases c with
  | false => exact ⟨ρ, μ1, m1, d, μ', hl.ext x1, s1, e, fun H2 m2 x2 s2 => k H2 m2 (x1.trans x2) s2⟩
  | true => cases e; exact k H1 m1 x1 s1
theorem rd_tnot {t} (h : rdT K (tNotF t) σ H B) : tNot (rdT K t) σ H B := by
  obtain ⟨ρ, μ, m, d, μ', hl, hs, e, k⟩ := h
  obtain ⟨⟨c, μ1⟩, e1, e⟩ := Option.bind_eq_some_iff.mp e
  cases e
  exact ⟨ρ, μ, m, c, μ1, hl, hs, e1, fun H1 m1 x1 s1 => k H1 m1 x1 s1⟩
theorem rd_and {fa fb} (h : rdE K (fAnd fa fb) σ H Q) : tAndV (rdE K fa) (rdE K fb) σ H Q := by
  obtain ⟨ρ, μ, m, d, μ', hl, hs, e, k⟩ := h
  obtain ⟨⟨x, μ1⟩, e1, e⟩ := Option.bind_eq_some_iff.mp e
  split at e
  · rename_i c q
    subst q
    refine ⟨ρ, μ, m, _, μ1, hl, hs, e1, fun v H1 m1 x1 s1 r1 => ⟨c, by simpa only [RelR, RelD] using r1, ?_⟩⟩
    cases c with
    | true => exact ⟨ρ, μ1, m1, d, μ', hl.ext x1, s1, e, fun w H2 m2 x2 s2 r2 => k w H2 m2 (x1.trans x2) s2 r2⟩
    | false => cases e; exact k _ H1 m1 x1 s1 (by simp only [RelR, RelD])
  · cases e
theorem rd_not {fa} (h : rdE K (fNot fa) σ H Q) : tNotV (rdE K fa) σ H Q := by
  obtain ⟨ρ, μ, m, d, μ', hl, hs, e, k⟩ := h
  obtain ⟨⟨x, μ1⟩, e1, e⟩ := Option.bind_eq_some_iff.mp e
  split at e
  · rename_i c q
    cases e
    subst q
    exact ⟨ρ, μ, m, _, μ1, hl, hs, e1, fun v H1 m1 x1 s1 r1 => ⟨c, by simpa only [RelR, RelD] using r1, k _ H1 m1 x1 s1 (by simp only [RelR, RelD])⟩⟩
  · cases e
theorem rd_if {t fa fb} (h : rdE K (fIf t fa fb) σ H Q) : tIf (rdT K t) (rdE K fa) (rdE K fb) σ H Q := by
  obtain ⟨ρ, μ, m, d, μ', hl, hs, e, k⟩ := h
  obtain ⟨⟨c, μ1⟩, e1, e⟩ := Option.bind_eq_some_iff.mp e
  refine ⟨ρ, μ, m, c, μ1, hl, hs, e1, fun H1 m1 x1 s1 => ?_⟩
  cases c with
  | true => exact ⟨ρ, μ1, m1, d, μ', hl.ext x1, s1, e, fun w H2 m2 x2 s2 r2 => k w H2 m2 (x1.trans x2) s2 r2⟩
  | false => exact ⟨ρ, μ1, m1, d, μ', hl.ext x1, s1, e, fun w H2 m2 x2 s2 r2 => k w H2 m2 (x1.trans x2) s2 r2⟩
end
def vals : List R → Option (List D)
  | [] => some []
  | .v d :: r => (vals r).bind fun ds => some (d :: ds)
  | .p _ :: _ => none
  | .s _ _ :: _ => none
  | .x _ :: _ => none
theorem vals_rel {K : PySem.W.Frag} {m : List Addr} {H : Hp} : ∀ {rs : List R} {ds : List D} {vs : List V}, vals rs = some ds → RelRs K m H rs vs → RelDs K H ds vs
  | [], _, _, e, h => by cases e; simp only [RelDs]; exact h
  | .v d :: r, _, _, e, ⟨v, vs, rfl, h1, h2⟩ => by
    obtain ⟨ds, e1, e⟩ := Option.bind_eq_some_iff.mp e
    cases e
    simp only [RelDs]
    exact ⟨v, vs, rfl, h1, vals_rel e1 h2⟩
  | .p _ :: _, _, _, e, _ => by cases e
  | .s _ _ :: _, _, _, e, _ => by cases e
  | .x _ :: _, _, _, e, _ => by cases e
def fTup (fa : FA) : FE := fun ρ μ => (fa ρ μ).bind fun a => (vals a.1).bind fun ds => if ds.length ≤ sizeLine then some (.v (.tup ds), a.2) else none
def fLst (fa : FA) : FE := fun ρ μ => (fa ρ μ).bind fun a => (vals a.1).bind fun ds => if ds.length ≤ sizeLine then some (.p a.2.length, a.2 ++ [.lst ds]) else none
section
variable {K : PySem.W.Frag} {m : List Addr} {σ : St} {H : Hp} {Q : VK} {μ : Store}
theorem new_tup {ds : List D} {vs : List V} {p : Addr} (s : SRel K m H μ) (r : RelDs K H ds vs) (hp : H p = none) : Ext m H m (upd H p (.tup vs)) ∧ SRel K m (upd H p (.tup vs)) μ ∧ RelR K m (upd H p (.tup vs)) (.v (.tup ds)) (.ref p) := by
  refine ⟨.new hp, s.same (upd_keeps hp), ?_⟩
  simp only [RelR, RelD]
  exact ⟨p, vs, rfl, .inl (.inl upd_at), RelDs.tf (.of (upd_keeps hp)) _ _ r⟩
theorem new_lst {ds : List D} {vs : List V} {p : Addr} (s : SRel K m H μ) (r : RelDs K H ds vs) (hp : H p = none) : Ext m H (m ++ [p]) (upd H p (.lst vs)) ∧ SRel K (m ++ [p]) (upd H p (.lst vs)) (μ ++ [.lst ds]) ∧ RelR K (m ++ [p]) (upd H p (.lst vs)) (.p μ.length) (.ref p) := by
  refine ⟨.newH hp, s.newH hp ⟨vs, upd_at, RelDs.tf (.of (upd_keeps hp)) _ _ r⟩, p, rfl, ?_⟩
  rw [← s.len]; simp
theorem rd_tup {fa} (h : rdE K (fTup fa) σ H Q) : tTup (rdA K fa) σ H Q := by
  obtain ⟨ρ, μ, m, d, μ', hl, hs, e, k⟩ := h
  obtain ⟨⟨xs, μ1⟩, e1, e⟩ := Option.bind_eq_some_iff.mp e
  obtain ⟨ds, e2, e⟩ := Option.bind_eq_some_iff.mp e
  split at e
  · rename_i z
    cases e
    refine ⟨ρ, μ, m, xs, _, hl, hs, e1, fun vs H1 m1 x1 s1 r1 => ?_⟩
    have r2 := vals_rel e2 r1
    refine ⟨by rw [← r2.length]; exact z, fun p hp => ?_⟩
    obtain ⟨a, b, c⟩ := new_tup s1 r2 hp
    exact k _ _ _ (x1.trans a) b c
  · cases e
theorem rd_lst {fa} (h : rdE K (fLst fa) σ H Q) : tLst (rdA K fa) σ H Q := by
  obtain ⟨ρ, μ, m, d, μ', hl, hs, e, k⟩ := h
  obtain ⟨⟨xs, μ1⟩, e1, e⟩ := Option.bind_eq_some_iff.mp e
  obtain ⟨ds, e2, e⟩ := Option.bind_eq_some_iff.mp e
  split at e
  · rename_i z
    cases e
    refine ⟨ρ, μ, m, xs, _, hl, hs, e1, fun vs H1 m1 x1 s1 r1 => ?_⟩
    have r2 := vals_rel e2 r1
    refine ⟨by rw [← r2.length]; exact z, fun p hp => ?_⟩
    obtain ⟨a, b, c⟩ := new_lst s1 r2 hp
    exact k _ _ _ (x1.trans a) b c
  · cases e
end
def sNext : FS := fun ρ μ => some (.nx ρ μ)
def sSeq (a b : FS) : FS := fun ρ μ => (a ρ μ).bind fun o => match o with | .nx ρ' μ' => b ρ' μ' | o => some o
def sBreak : FS := fun ρ μ => some (.bk ρ μ)
def sCont : FS := fun ρ μ => some (.ct ρ μ)
def sDrop (f : FE) : FS := fun ρ μ => (f ρ μ).bind fun a => some (.nx ρ a.2)
def sRet (f : FE) : FS := fun ρ μ => (f ρ μ).bind fun a => some (.rt a.1 a.2)
def sRetN : FS := fun _ μ => some (.rt (.v .non) μ)
def sIf (t : FT) (a b : FS) : FS := fun ρ μ => (t ρ μ).bind fun c => if c.1 = true then a ρ c.2 else b ρ c.2
def sSet (i : Nat) (f : FE) : FS := fun ρ μ => (f ρ μ).bind fun a => some (.nx (ρ.set i (some a.1)) a.2)
section
variable {K : PySem.W.Frag} {m m' m1 : List Addr} {σ : St} {H H' H1 : Hp} {D : Ends} {μ : Store} {ρ : Lo}
theorem Ends.of_ext {o : Out} (x : Ext m H m1 H1) (h : Ends.of K m H D o) : Ends.of K m1 H1 D o := by
  cases o with
  | nx ρ μ => exact fun σ H' m' y => h σ H' m' (x.trans y)
  | bk ρ μ => exact fun σ H' m' y => h σ H' m' (x.trans y)
  | ct ρ μ => exact fun σ H' m' y => h σ H' m' (x.trans y)
  | rt d μ => exact fun σ H' m' y => h σ H' m' (x.trans y)
theorem LRel.set {d : R} {v : V} (h : LRel K m H ρ σ) (r : RelR K m H d v) (i : Nat) : LRel K m H (ρ.set i (some d)) (σ.set i (some v)) := by
  refine ⟨by simp [h.1], fun j d' e => ?_⟩
  by_cases hj : j = i
  · subst hj
    by_cases hi : j < ρ.length
    · rw [List.getElem?_set_self hi] at e
      cases e
      exact ⟨v, List.getElem?_set_self (by rw [← h.1]; exact hi), r⟩
    · rw [List.getElem?_eq_none (by simp; omega)] at e
      cases e
  · rw [List.getElem?_set_ne (Ne.symm hj)] at e
    obtain ⟨u, q1, q2⟩ := h.2 j d' e
    exact ⟨u, by rw [List.getElem?_set_ne (Ne.symm hj)]; exact q1, q2⟩
theorem rd_next (h : rdS K sNext D σ H) : tNext D σ H := by
  obtain ⟨ρ, μ, m, o, hl, hs, e, k⟩ := h
  cases e
  exact k σ H m .refl hs hl
theorem rd_seq {a b} (h : rdS K (sSeq a b) D σ H) : tSeq (rdS K a) (rdS K b) D σ H := by
  obtain ⟨ρ, μ, m, o, hl, hs, e, k⟩ := h
  obtain ⟨o1, e1, e⟩ := Option.bind_eq_some_iff.mp e
  refine ⟨ρ, μ, m, o1, hl, hs, e1, ?_⟩
  cases o1 with
  | nx ρ1 μ1 => exact fun σ1 H1 m1 x1 s1 l1 => ⟨ρ1, μ1, m1, o, l1, s1, e, Ends.of_ext x1 k⟩
  | bk ρ1 μ1 => cases e; exact k
  | ct ρ1 μ1 => cases e; exact k
  | rt d μ1 => cases e; exact k
theorem rd_drop {f} (h : rdS K (sDrop f) D σ H) : tDrop (rdE K f) D σ H := by
  obtain ⟨ρ, μ, m, o, hl, hs, e, k⟩ := h
  obtain ⟨⟨x, μ1⟩, e1, e⟩ := Option.bind_eq_some_iff.mp e
  cases e
  exact ⟨ρ, μ, m, x, μ1, hl, hs, e1, fun v H1 m1 x1 s1 r1 => k σ H1 m1 x1 s1 (hl.ext x1)⟩
theorem rd_ret {f} (h : rdS K (sRet f) D σ H) : tRet (rdE K f) D σ H := by
  obtain ⟨ρ, μ, m, o, hl, hs, e, k⟩ := h
  obtain ⟨⟨x, μ1⟩, e1, e⟩ := Option.bind_eq_some_iff.mp e
  cases e
  exact ⟨ρ, μ, m, x, μ1, hl, hs, e1, k⟩
theorem rd_ifS {t a b} (h : rdS K (sIf t a b) D σ H) : tIfS (rdT K t) (rdS K a) (rdS K b) D σ H := by
  obtain ⟨ρ, μ, m, o, hl, hs, e, k⟩ := h
  obtain ⟨⟨c, μ1⟩, e1, e⟩ := Option.bind_eq_some_iff.mp e
  refine ⟨ρ, μ, m, c, μ1, hl, hs, e1, fun H1 m1 x1 s1 => ?_⟩
  cases c with
  | true => exact ⟨ρ, μ1, m1, o, hl.ext x1, s1, e, Ends.of_ext x1 k⟩
  | false => exact ⟨ρ, μ1, m1, o, hl.ext x1, s1, e, Ends.of_ext x1 k⟩
theorem rd_set {i f} (h : rdS K (sSet i f) D σ H) : tAsg (rdE K f) (gName i) D σ H := by
  obtain ⟨ρ, μ, m, o, hl, hs, e, k⟩ := h
  obtain ⟨⟨x, μ1⟩, e1, e⟩ := Option.bind_eq_some_iff.mp e
  cases e
  exact ⟨ρ, μ, m, x, μ1, hl, hs, e1, fun v H1 m1 x1 s1 r1 => k _ H1 m1 x1 s1 ((hl.ext x1).set r1 i)⟩
end
abbrev FG := R → Lo → Store → Option (Lo × Store)
def rdG (K : PySem.W.Frag) (g : FG) : TG := fun v σ H Q => ∃ ρ μ m d ρ' μ', LRel K m H ρ σ ∧ SRel K m H μ ∧ RelR K m H d v ∧ g d ρ μ = some (ρ', μ') ∧
  ∀ σ' H' m', Ext m H m' H' → SRel K m' H' μ' → LRel K m' H' ρ' σ' → Q σ' H'
abbrev FGs := List R → Lo → Store → Option (Lo × Store)
def gNm (i : Nat) : FG := fun d ρ μ => some (ρ.set i (some d), μ)
def gsNil : FGs := fun ds ρ μ => match ds with | [] => some (ρ, μ) | _ => none
def gsCons (g : FG) (r : FGs) : FGs := fun ds ρ μ => match ds with | [] => none | d :: ds => (g d ρ μ).bind fun a => r ds a.1 a.2
def gTp (n : Nat) (g : FGs) : FG := fun d ρ μ => match d with | .v (.tup xs) => if xs.length = n then g (xs.map .v) ρ μ else none | _ => none
def sAsg (f : FE) (g : FG) : FS := fun ρ μ => (f ρ μ).bind fun a => (g a.1 ρ a.2).bind fun b => some (.nx b.1 b.2)
section
variable {K : PySem.W.Frag} {m m' m1 : List Addr} {σ : St} {H H' H1 : Hp} {D : Ends} {μ : Store} {ρ : Lo} {v : V} {Q : St → Hp → Prop}
theorem rd_gNm {i} (h : rdG K (gNm i) v σ H Q) : gName i v σ H Q := by
  obtain ⟨ρ, μ, m, d, ρ', μ', hl, hs, r, e, k⟩ := h
  cases e
  exact k _ H m .refl hs (hl.set r i)
theorem RelDs.rs : ∀ {ds : List HW.D} {vs : List V}, RelDs K H ds vs → RelRs K m H (ds.map .v) vs
  | [], _, h => by simp only [RelDs] at h; exact h
  | d :: ds, _, h => by
    simp only [RelDs] at h
    obtain ⟨v, r, rfl, h1, h2⟩ := h
    exact ⟨v, r, rfl, h1, RelDs.rs h2⟩
end
def FzOk : HO → Prop
  | .lst _ => True
  | .set _ _ => True
  | .dK _ => True
  | _ => False
def tFz (t : TE) : TE := fun σ H Q => t σ H fun v H1 => Q v H1 ∨ ∃ a u, H1 a = some u ∧ FzOk u ∧ ∀ o, Q v (upd H1 a (.frz o u))
def fzD : R → Store → Option (D × Store)
  | .v d, μ => some (d, μ)
  | .s _ _, _ => none
  | .x _, _ => none
  | .p n, μ => match μ[n]? with | some (.lst xs) => some (.fl xs, μ.set n (.fz xs)) | some (.fz xs) => some (.fl xs, μ) | some (.dct kvs) => some (.fd (kvs.map (·.1)) (kvs.map (·.2)), μ.set n (.fzd kvs)) | some (.fzd kvs) => some (.fd (kvs.map (·.1)) (kvs.map (·.2)), μ) | none => none
def fFz (f : FE) : FE := fun ρ μ => (f ρ μ).bind fun a => (fzD a.1 a.2).bind fun b => some (.v b.1, b.2)
section
variable {K : PySem.W.Frag} {m : List Addr} {σ : St} {H : Hp} {μ : Store} {Q : VK}
theorem fz_ok {x : R} {d : D} {μ' : Store} {v : V} {B : Hp → Prop} (hs : SRel K m H μ) (r : RelR K m H x v) (e : fzD x μ = some (d, μ'))
    (k : ∀ H', Ext m H m H' → SRel K m H' μ' → RelD K H' d v → B H') : B H ∨ ∃ a u, H a = some u ∧ FzOk u ∧ ∀ o, B (upd H a (.frz o u)) := by
  cases x with
  | v d' => cases e; exact .inl (k H .refl hs r)
  | s b xs => cases e
  | x _ => cases e
  | p n =>
    obtain ⟨a, rfl, ha⟩ := r
    simp only [fzD] at e
    split at e
    · rename_i xs q
      cases e
      obtain ⟨vs, ea, rr⟩ := hs.cell n _ a q ha
      refine .inr ⟨a, _, ea, trivial, fun o => ?_⟩
      have x : Ext m H m (upd H a (.frz o (.lst vs))) := .put (List.mem_of_getElem? ha) ea (by simp) (by simp)
      refine k _ x (hs.put ha ea (by simp) (by simp) ⟨o, vs, upd_at, RelDs.tf x.tf _ _ rr⟩) ?_
      simp only [RelD]
      exact ⟨a, vs, rfl, .inl ⟨o, upd_at⟩, RelDs.tf x.tf _ _ rr⟩
    · rename_i xs q
      cases e
      obtain ⟨o, vs, ea, rr⟩ := hs.cell n _ a q ha
      refine .inl (k H .refl hs ?_)
      simp only [RelD]
      exact ⟨a, vs, rfl, .inl ⟨o, ea⟩, rr⟩
    · rename_i kvs q
      cases e
      obtain ⟨es, ea, ke, rr⟩ := hs.cell n _ a q ha
      refine .inr ⟨a, _, ea, trivial, fun o => ?_⟩
      have x : Ext m H m (upd H a (.frz o (.dK es))) := .put (List.mem_of_getElem? ha) ea (by simp) (by simp)
      refine k _ x (hs.put ha ea (by simp) (by simp) ⟨o, es, upd_at, ke, RelDs.tf x.tf _ _ rr⟩) ?_
      simp only [RelD]
      exact ⟨a, o, es, rfl, upd_at, ke, RelDs.tf x.tf _ _ rr⟩
    · rename_i kvs q
      cases e
      obtain ⟨o, es, ea, ke, rr⟩ := hs.cell n _ a q ha
      refine .inl (k H .refl hs ?_)
      simp only [RelD]
      exact ⟨a, o, es, rfl, ea, ke, rr⟩
    · cases e
theorem rd_fz {f} (h : rdE K (fFz f) σ H Q) : tFz (rdE K f) σ H Q := by
  obtain ⟨ρ, μ, m, d, μ', hl, hs, e, k⟩ := h
  obtain ⟨⟨x, μ1⟩, e1, e⟩ := Option.bind_eq_some_iff.mp e
  obtain ⟨⟨d1, μ2⟩, e2, e⟩ := Option.bind_eq_some_iff.mp e
  cases e
  refine ⟨ρ, μ, m, x, μ1, hl, hs, e1, fun v H1 m1 x1 s1 r1 => ?_⟩
  exact fz_ok (B := fun H' => Q v H') s1 r1 e2 fun H' y s2 r2 => k v H' m1 (x1.trans y) s2 r2
end
abbrev FI := Lo → Store → Option (List D × Store)
structure ItOk (K : PySem.W.Frag) (J : It) (xs : List D) (P : Hp → Prop) : Prop where
  st : ∀ H H', TF H H' → P H → P H'
  stop : ∀ i H, P H → xs.length ≤ i → J.stop i H
  go : ∀ (i : Nat) d H, xs[i]? = some d → P H → J.go i H
  yld : ∀ (i : Nat) d H x H', xs[i]? = some d → P H → J.yld i H x H' → H' = H ∧ RelD K H d x
def rdI (K : PySem.W.Frag) (f : FI) : TI := fun σ H R => ∃ ρ μ m xs μ', LRel K m H ρ σ ∧ SRel K m H μ ∧ f ρ μ = some (xs, μ') ∧
  ∀ J P H' m', Ext m H m' H' → SRel K m' H' μ' → ItOk K J xs P → P H' → R J H'
def loop (g : FG) (b : FS) : List D → Lo → Store → Option Out
  | [], ρ, μ => some (.nx ρ μ)
  | x :: xs, ρ, μ => (g (.v x) ρ μ).bind fun a => (b a.1 a.2).bind fun o => match o with
    | .nx ρ' μ' => loop g b xs ρ' μ'
    | .ct ρ' μ' => loop g b xs ρ' μ'
    | .bk ρ' μ' => some (.nx ρ' μ')
    | .rt d μ' => some (.rt d μ')
def sFor (i : FI) (g : FG) (b : FS) : FS := fun ρ μ => (i ρ μ).bind fun a => loop g b a.1 ρ a.2
section
variable {K : PySem.W.Frag} {m : List Addr} {σ : St} {H : Hp} {μ : Store} {D : Ends}
theorem rd_for {fi g b} (h : rdS K (sFor fi g b) D σ H) : tFor (rdI K fi) (rdG K g) (rdS K b) D σ H := by
  obtain ⟨ρ, μ, m, o, hl, hs, e, k⟩ := h
  obtain ⟨⟨xs, μ1⟩, e1, e⟩ := Option.bind_eq_some_iff.mp e
  refine ⟨ρ, μ, m, xs, μ1, hl, hs, e1, fun J P H1 m1 x1 s1 ok p1 => ?_⟩
  refine ⟨fun i n σ H => n = xs.length - i ∧ i ≤ xs.length ∧ P H ∧ ∃ ρ μ m, LRel K m H ρ σ ∧ SRel K m H μ ∧ loop g b (xs.drop i) ρ μ = some o ∧ Ends.of K m H D o,
    ⟨_, rfl, Nat.zero_le _, p1, ρ, μ1, m1, hl.ext x1, s1, by simpa using e, Ends.of_ext x1 k⟩, ?_⟩
  rintro i n σ H ⟨rfl, hi, p, ρ, μ, m, hl, hs, e, k⟩
  by_cases hlt : i < xs.length
  · have hx : xs[i]? = some xs[i] := List.getElem?_eq_getElem hlt
    rw [List.drop_eq_getElem_cons hlt, loop] at e
    obtain ⟨⟨ρ1, μ1⟩, e1, e⟩ := Option.bind_eq_some_iff.mp e
    obtain ⟨o1, e2, e⟩ := Option.bind_eq_some_iff.mp e
    refine .inr ⟨ok.go i _ H hx p, fun σ H => i + 1 ≤ xs.length ∧ P H ∧ ∃ ρ μ m, LRel K m H ρ σ ∧ SRel K m H μ ∧ loop g b (xs.drop (i + 1)) ρ μ = some o ∧ Ends.of K m H D o,
      fun σ' H' z => ⟨xs.length - (i + 1), by omega, rfl, z⟩, fun x H' y => ?_⟩
    obtain ⟨rfl, rx⟩ := ok.yld i _ H x H' hx p y
    refine ⟨ρ, μ, m, .v xs[i], ρ1, μ1, hl, hs, rx, e1, fun σ1 H1 m1 x1 s1 l1 => ?_⟩
    refine ⟨ρ1, μ1, m1, o1, l1, s1, e2, ?_⟩
    cases o1 with
    | nx ρ2 μ2 => exact fun σ2 H2 m2 x2 s2 l2 => ⟨hlt, ok.st _ _ (x1.trans x2).tf p, ρ2, μ2, m2, l2, s2, e, Ends.of_ext (x1.trans x2) k⟩
    | ct ρ2 μ2 => exact fun σ2 H2 m2 x2 s2 l2 => ⟨hlt, ok.st _ _ (x1.trans x2).tf p, ρ2, μ2, m2, l2, s2, e, Ends.of_ext (x1.trans x2) k⟩
    | bk ρ2 μ2 => cases e; exact fun σ2 H2 m2 x2 s2 l2 => k σ2 H2 m2 (x1.trans x2) s2 l2
    | rt d μ2 => cases e; exact fun v H2 m2 x2 s2 l2 => k v H2 m2 (x1.trans x2) s2 l2
  · have : i = xs.length := by omega
    subst this
    rw [List.drop_length, loop] at e
    cases e
    exact .inl ⟨ok.stop _ H p (Nat.le_refl _), k σ H m .refl hs hl⟩
end
def fiSeq (f : FE) : FI := fun ρ μ => (fFz f ρ μ).bind fun a => match a.1 with | .v (.fl xs) => some (xs, a.2) | .v (.tup xs) => some (xs, a.2) | _ => none
def iSeq (K : PySem.W.Frag) (tl : TE) : TI := fun σ H R => tl σ H fun x H1 => ∃ a, x = .ref a ∧ (((∃ xs, SqL K H1 a xs) ∧ R (Itl K a) H1) ∨ ((∃ xs, SqT K H1 a xs) ∧ R (Itt K a) H1))
def fiR1 (f : FE) : FI := fun ρ μ => (f ρ μ).bind fun a => match a.1 with | .v (.int j) => if -(2 ^ 62) ≤ j ∧ j < 2 ^ 62 then some ((List.range j.toNat).map fun i => .int (i : Nat), a.2) else none | _ => none
def fiR2 (f g : FE) : FI := fun ρ μ => (f ρ μ).bind fun a => (g ρ a.2).bind fun b => match a.1, b.1 with
  | .v (.int i), .v (.int j) => if -(2 ^ 62) ≤ i ∧ i < 2 ^ 62 ∧ -(2 ^ 62) ≤ j ∧ j < 2 ^ 62 then some ((List.range (j - i).toNat).map fun k => .int (i + (k : Nat)), b.2) else none | _, _ => none
section
variable {K : PySem.W.Frag} {m : List Addr} {σ : St} {H : Hp} {μ : Store} {R : It → Hp → Prop}
theorem RelDs.get : ∀ {ds : List D} {vs : List V} {i : Nat} {d : D}, RelDs K H ds vs → ds[i]? = some d → ∃ v, vs[i]? = some v ∧ RelD K H d v
  | [], _, _, _, _, e => by simp at e
  | x :: xs, vs, 0, d, h, e => by
    simp only [RelDs] at h
    obtain ⟨v, r, rfl, h1, h2⟩ := h
    simp at e; subst e
    exact ⟨v, rfl, h1⟩
  | x :: xs, vs, i + 1, d, h, e => by
    simp only [RelDs] at h
    obtain ⟨v, r, rfl, h1, h2⟩ := h
    obtain ⟨u, q1, q2⟩ := RelDs.get (i := i) h2 (by simpa using e)
    exact ⟨u, by simpa using q1, q2⟩
theorem itl_ok {a vs xs} (r0 : RelDs K H xs vs) : ItOk K (Itl K a) xs (fun H => FAt K H a vs ∧ RelDs K H xs vs) where
  st := fun H H' t ⟨f, r⟩ => ⟨f.tf t, RelDs.tf t _ _ r⟩
  stop := fun i H ⟨f, r⟩ hi => ⟨vs, f.sq, by rw [← r.length]; exact hi⟩
  go := fun i d H e ⟨f, r⟩ => let ⟨v, q, _⟩ := r.get e; ⟨vs, v, f.sq, q⟩
  yld := fun i d H x H' e ⟨f, r⟩ ⟨e1, e2⟩ => by
    obtain ⟨v, q, rv⟩ := r.get e
    have := e2 vs f.sq
    rw [q] at this; cases this
    exact ⟨e1, rv⟩
theorem itt_ok {a vs xs} (r0 : RelDs K H xs vs) : ItOk K (Itt K a) xs (fun H => SqT K H a vs ∧ RelDs K H xs vs) where
  st := fun H H' t ⟨f, r⟩ => ⟨SqT.tf t f, RelDs.tf t _ _ r⟩
  stop := fun i H ⟨f, r⟩ hi => ⟨vs, f, by rw [← r.length]; exact hi⟩
  go := fun i d H e ⟨f, r⟩ => let ⟨v, q, _⟩ := r.get e; ⟨vs, v, f, q⟩
  yld := fun i d H x H' e ⟨f, r⟩ ⟨e1, e2⟩ => by
    obtain ⟨v, q, rv⟩ := r.get e
    have := e2 vs f
    rw [q] at this; cases this
    exact ⟨e1, rv⟩
theorem itr_ok (lo : Int) (n : Nat) : ItOk K (Itr lo n) ((List.range n).map fun k => .int (lo + (k : Nat))) (fun _ => True) where
  st := fun _ _ _ _ => trivial
  stop := fun i H _ hi => by show n ≤ i; simpa using hi
  go := fun i d H e _ => by
    have := (List.getElem?_eq_some_iff.mp e).1
    show i < n; simpa using this
  yld := fun i d H x H' e _ ⟨e1, e2⟩ => by
    have hi := (List.getElem?_eq_some_iff.mp e).1
    have hi' : i < n := by simpa using hi
    refine ⟨e1, ?_⟩
    simp [hi'] at e
    subst e e2
    simp only [RelD]
theorem rd_iSeq {f} (h : rdI K (fiSeq f) σ H R) : iSeq K (tFz (rdE K f)) σ H R := by
  obtain ⟨ρ, μ, m, xs, μ', hl, hs, e, k⟩ := h
  obtain ⟨⟨x, μ1⟩, e1, e⟩ := Option.bind_eq_some_iff.mp e
  refine rd_fz ⟨ρ, μ, m, x, μ1, hl, hs, e1, fun v H1 m1 x1 s1 r1 => ?_⟩
  split at e
  · rename_i ys q
    cases e
    simp only at q
    subst q
    simp only [RelR, RelD] at r1
    obtain ⟨a, vs, rfl, f, r⟩ := r1
    exact ⟨a, rfl, .inl ⟨⟨vs, f.sq⟩, k _ _ H1 m1 x1 s1 (itl_ok r) ⟨f, r⟩⟩⟩
  · rename_i ys q
    cases e
    simp only at q
    subst q
    simp only [RelR, RelD] at r1
    obtain ⟨a, vs, rfl, f, r⟩ := r1
    exact ⟨a, rfl, .inr ⟨⟨vs, f⟩, k _ _ H1 m1 x1 s1 (itt_ok r) ⟨f, r⟩⟩⟩
  · cases e
theorem rd_iR1 {f} (h : rdI K (fiR1 f) σ H R) : iRng1 (rdA K (fCons f fNil)) σ H R := by
  obtain ⟨ρ, μ, m, xs, μ', hl, hs, e, k⟩ := h
  obtain ⟨⟨x, μ1⟩, e1, e⟩ := Option.bind_eq_some_iff.mp e
  refine ⟨ρ, μ, m, [x], μ1, hl, hs, by simp [fCons, fNil, e1], fun vs H1 m1 x1 s1 r1 => ?_⟩
  split at e
  · rename_i j q
    split at e
    · rename_i z
      cases e
      simp only at q
      subst q
      obtain ⟨v, r, rfl, r1, r2⟩ := r1
      have r2 : r = [] := r2
      simp only [RelR, RelD] at r1
      subst r1 r2
      have := itr_ok (K := K) 0 j.toNat
      simp only [Int.zero_add] at this
      exact ⟨j, rfl, z.1, z.2, k _ _ H1 m1 x1 s1 this trivial⟩
    · cases e
  · cases e
end
end HW
namespace HW
open PySem L2
abbrev MF := List D → Option D
def Sam (H H' : Hp) : Prop := ∀ a o, H a = some o → H' a = some o
def spP (K : PySem.W.Frag) (n : Nat) (f : MF) : Sp := fun vs H Q _ => ∃ ds d, ds.length = n ∧ RelDs K H ds vs ∧ f ds = some d ∧ ∀ v H', Sam H H' → RelD K H' d v → Q v H'
def fin : Out → Option D
  | .rt r μ => (fzD r μ).bind fun a => some a.1
  | .nx _ _ => some .non
  | _ => none
def runP (k : Nat) (b : FS) : MF := fun ds => (b (ds.map (fun d => some (.v d)) ++ List.replicate (k - ds.length) none) []).bind fin
def fCall (f : MF) (n : Nat) (fa : FA) : FE := fun ρ μ => (fa ρ μ).bind fun a => (vals a.1).bind fun ds => if ds.length = n then (f ds).bind fun d => some (.v d, a.2) else none
section
variable {K : PySem.W.Frag} {m : List Addr} {σ : St} {H H' : Hp} {μ : Store} {Q : VK}
theorem Sam.ext (s : Sam H H') : Ext m H m H' := ⟨⟨[], by simp⟩, .of s, fun a o e _ => s a o e, fun a h => by
  cases q : H a with
  | none => rfl
  | some o => rw [s a o q] at h; cases h⟩
theorem rd_call {f n fa} {E : XK} (h : rdE K (fCall f n fa) σ H Q) : tCall (spP K n f) [] E (rdA K fa) σ H Q := by
  obtain ⟨ρ, μ, m, d, μ', hl, hs, e, k⟩ := h
  obtain ⟨⟨xs, μ1⟩, e1, e⟩ := Option.bind_eq_some_iff.mp e
  obtain ⟨ds, e2, e⟩ := Option.bind_eq_some_iff.mp e
  split at e
  · rename_i hn
    obtain ⟨d1, e3, e⟩ := Option.bind_eq_some_iff.mp e
    cases e
    refine ⟨ρ, μ, m, xs, _, hl, hs, e1, fun vs H1 m1 x1 s1 r1 => ?_⟩
    refine ⟨ds, d1, hn, by simpa using vals_rel e2 r1, e3, fun v H2 z r2 => ?_⟩
    exact k v H2 m1 (x1.trans z.ext) (s1.same z) r2
  · cases e
theorem start_rel {N : List Str} {ds : List D} {vs : List V} (r : RelDs K H ds vs) : LRel K [] H (ds.map (fun d => some (.v d)) ++ List.replicate (N.length - ds.length) none) (L2.start N vs) := by
  have hl := r.length
  unfold L2.start
  refine ⟨by simp [hl], fun i d e => ?_⟩
  by_cases hi : i < ds.length
  · rw [List.getElem?_append_left (by simpa using hi), List.getElem?_map] at e
    cases q : ds[i]? with
    | none => rw [q] at e; cases e
    | some d' =>
      rw [q] at e
      cases e
      obtain ⟨v, q1, q2⟩ := r.get q
      exact ⟨v, by rw [List.getElem?_append_left (by simp; omega), List.getElem?_map, q1]; rfl, q2⟩
  · rw [List.getElem?_append_right (by simpa using hi), List.getElem?_replicate] at e
    split at e <;> cases e
def orFz (Q : VK) : VK := fun v H => Q v H ∨ ∃ a u, H a = some u ∧ FzOk u ∧ ∀ o, Q v (upd H a (.frz o u))
theorem Ext.sam (x : Ext [] H m H') : Sam H H' := fun a o e => x.keep a o e (by simp)
theorem run_ok {N : List Str} {b : FS} {ds : List D} {vs : List V} {d : D} {E : XK} (r : RelDs K H ds vs) (e : runP N.length b ds = some d) (k : ∀ v H', Sam H H' → RelD K H' d v → Q v H') :
    rdS K b { nx := fun _ H' => orFz Q .non H', rt := orFz Q } (L2.start N vs) H := by
  obtain ⟨o, e1, e⟩ := Option.bind_eq_some_iff.mp e
  refine ⟨_, [], [], o, start_rel r, .nil, e1, ?_⟩
  cases o with
  | nx ρ μ =>
    cases e
    exact fun σ H' m' x _ _ => .inl (k _ _ x.sam (by simp only [RelD]))
  | bk ρ μ => cases e
  | ct ρ μ => cases e
  | rt q μ =>
    obtain ⟨⟨d1, μ1⟩, e2, e⟩ := Option.bind_eq_some_iff.mp e
    cases e
    intro v H' m' x s r'
    exact fz_ok (B := fun H' => Q v H') s r' e2 fun H2 y s2 r2 => k v H2 (x.trans y).sam r2
end
def iOp (C : Int → Int → Bool) (f : Int → Int → D) : R → R → Store → Option (R × Store)
  | .v (.int i), .v (.int j), μ => if C i j = true then some (.v (f i j), μ) else none
  | _, _, _ => none
theorem gI {K : PySem.W.Frag} {C : Int → Int → Bool} {C' : Int → Int → Prop} {f : Int → Int → D} {g : Int → Int → V} (hC : ∀ i j, C i j = true → C' i j) (hg : ∀ H i j, RelD K H (f i j) (g i j)) : GOp K (iOp C f) (rI C' g) := by
  intro m H μ x y d μ' v u Q s rx ry e k
  unfold iOp at e
  split at e
  · rename_i i j
    split at e
    · rename_i z
      cases e
      simp only [RelR, RelD] at rx ry
      subst rx ry
      exact ⟨i, j, rfl, rfl, hC i j z, k _ H m .refl s (hg H i j)⟩
    · cases e
  · cases e
theorem gI0 {K : PySem.W.Frag} {f : Int → Int → D} {g : Int → Int → V} (hg : ∀ H i j, RelD K H (f i j) (g i j)) : GOp K (iOp (fun _ _ => true) f) (rI0 g) := by
  intro m H μ x y d μ' v u Q s rx ry e k
  unfold iOp at e
  split at e
  · rename_i i j
    split at e
    · cases e
      simp only [RelR, RelD] at rx ry
      subst rx ry
      exact ⟨i, j, rfl, rfl, k _ H m .refl s (hg H i j)⟩
    · cases e
  · cases e
abbrev subD := iOp (fun _ _ => true) fun i j => .int (i - j)
abbrev mulD := iOp (fun i j => decide (-(2 ^ 64) < i ∧ i < 2 ^ 64) || decide (-(2 ^ 64) < j ∧ j < 2 ^ 64)) fun i j => .int (i * j)
abbrev divD := iOp (fun _ j => decide (0 < j ∧ j < 1073741824)) fun i j => .int (i / j)
abbrev modD := iOp (fun _ j => decide (0 < j)) fun i j => .int (i % j)
abbrev powD := iOp (fun i j => decide (0 ≤ j ∧ j ≤ 1000000 ∧ i.natAbs < 2 ^ 64)) fun i j => .int (i ^ j.toNat)
abbrev ltD := iOp (fun _ _ => true) fun i j => .bl (decide (i < j))
abbrev leD := iOp (fun _ _ => true) fun i j => .bl (decide (i ≤ j))
abbrev gtD := iOp (fun _ _ => true) fun i j => .bl (decide (j < i))
abbrev geD := iOp (fun _ _ => true) fun i j => .bl (decide (j ≤ i))
def negD : R → Store → Option (R × Store)
  | .v (.int i), μ => some (.v (.int (-i)), μ)
  | _, _ => none
section
variable {K : PySem.W.Frag}
theorem rInt {H : Hp} {i : Int} : RelD K H (.int i) (.int i) := by simp only [RelD]
theorem rBl {H : Hp} {i : Bool} : RelD K H (.bl i) (.bl i) := by simp only [RelD]
theorem g_sub : GOp K subD (rI0 fun i j => .int (i - j)) := gI0 fun _ _ _ => rInt
theorem g_mul : GOp K mulD (rI CMul fun i j => .int (i * j)) := gI (fun i j h => by simpa [CMul] using h) fun _ _ _ => rInt
theorem g_div : GOp K divD (rI CDiv fun i j => .int (i / j)) := gI (fun i j h => by simpa [CDiv] using h) fun _ _ _ => rInt
theorem g_mod : GOp K modD (rI (fun _ j => 0 < j) fun i j => .int (i % j)) := gI (fun i j h => by simpa using h) fun _ _ _ => rInt
theorem g_pow : GOp K powD (rI CPow fun i j => .int (i ^ j.toNat)) := gI (fun i j h => by simpa [CPow] using h) fun _ _ _ => rInt
theorem g_lt : GOp K ltD (rI0 fun i j => .bl (decide (i < j))) := gI0 fun _ _ _ => rBl
theorem g_le : GOp K leD (rI0 fun i j => .bl (decide (i ≤ j))) := gI0 fun _ _ _ => rBl
theorem g_neg : GUn K negD (rU fun i => .int (-i)) := by
  intro m H μ x d μ' v Q s rx e k
  unfold negD at e
  split at e
  · rename_i i
    cases e
    simp only [RelR, RelD] at rx
    subst rx
    exact ⟨i, rfl, k _ H m .refl s (by simp only [RelR, RelD])⟩
  · cases e
end
def addD : R → R → Store → Option (R × Store)
  | .v (.int i), .v (.int j), μ => some (.v (.int (i + j)), μ)
  | .v (.str x), .v (.str y), μ => if x.length + y.length ≤ sizeLine then some (.v (.str (x ++ y)), μ) else none
  | .v (.tup xs), .v (.tup ys), μ => if xs ≠ [] ∧ xs.length + ys.length ≤ sizeLine then some (.v (.tup (xs ++ ys)), μ) else none
  | .p a, .p b, μ => match μ[a]?, μ[b]? with | some (.lst xs), some (.lst ys) => if xs.length + ys.length ≤ sizeLine then some (.p μ.length, μ ++ [.lst (xs ++ ys)]) else none | _, _ => none
  | _, _, _ => none
def rAddS : R2 := fun x y H Q => ∃ i j, x = .str i ∧ y = .str j ∧ i.length + j.length ≤ sizeLine ∧ Q (.str (i ++ j)) H
def rOr (r r' : R2) : R2 := fun x y H Q => r x y H Q ∨ r' x y H Q
def rAdd' (K : PySem.W.Frag) : R2 := rOr (rI0 fun i j => .int (i + j)) (rOr rAddS (rOr (rCatT K) rCat))
theorem RelDs.append {K : PySem.W.Frag} {H : Hp} : ∀ {xs ys : List D} {vs ws : List V}, RelDs K H xs vs → RelDs K H ys ws → RelDs K H (xs ++ ys) (vs ++ ws)
  | [], _, _, _, h, h' => by simp only [RelDs] at h; subst h; exact h'
  | x :: xs, _, _, _, h, h' => by
    simp only [RelDs] at h
    obtain ⟨v, r, rfl, h1, h2⟩ := h
    show RelDs K H (x :: (xs ++ _)) _
    simp only [RelDs]
    exact ⟨v, r ++ _, rfl, h1, RelDs.append h2 h'⟩
theorem RelDs.nil_iff {K : PySem.W.Frag} {H : Hp} {xs : List D} {vs : List V} (h : RelDs K H xs vs) : xs = [] ↔ vs = [] := by
  have := h.length
  cases xs <;> cases vs <;> simp_all
theorem g_add {K : PySem.W.Frag} : GOp K addD (rAdd' K) := by
  intro m H μ x y d μ' v u Q s rx ry e k
  unfold addD at e
  split at e
  · cases e
    simp only [RelR, RelD] at rx ry
    subst rx ry
    exact .inl ⟨_, _, rfl, rfl, k _ H m .refl s (by simp only [RelR, RelD])⟩
  · split at e
    · rename_i z
      cases e
      simp only [RelR, RelD] at rx ry
      subst rx ry
      exact .inr (.inl ⟨_, _, rfl, rfl, z, k _ H m .refl s (by simp only [RelR, RelD])⟩)
    · cases e
  · split at e
    · rename_i z
      cases e
      simp only [RelR, RelD] at rx ry
      obtain ⟨a, vs, rfl, qa, ra⟩ := rx
      obtain ⟨b, ws, rfl, qb, rb⟩ := ry
      refine .inr (.inr (.inl ⟨a, b, vs, ws, rfl, rfl, qa, qb, fun h => z.1 (ra.nil_iff.mpr h), by rw [← ra.length, ← rb.length]; exact z.2, fun h => ?_, fun h p hp => ?_⟩))
      · refine k _ H m .refl s ?_
        have := rb.nil_iff.mpr h
        subst this
        simp only [RelR, RelD, List.append_nil]
        exact ⟨a, vs, rfl, qa, ra⟩
      · obtain ⟨x1, x2, x3⟩ := new_tup s (ra.append rb) hp
        exact k _ _ _ x1 x2 x3
    · cases e
  · split at e
    · rename_i xs ys qa qb
      split at e
      · rename_i z
        cases e
        obtain ⟨a', rfl, ha⟩ := rx
        obtain ⟨b', rfl, hb⟩ := ry
        obtain ⟨vs, ea, ra⟩ := s.cell _ _ a' qa ha
        obtain ⟨ws, eb, rb⟩ := s.cell _ _ b' qb hb
        refine .inr (.inr (.inr ⟨a', b', vs, ws, rfl, rfl, ea, eb, by rw [← ra.length, ← rb.length]; exact z, fun p hp => ?_⟩))
        obtain ⟨x1, x2, x3⟩ := new_lst s (ra.append rb) hp
        exact k _ _ _ x1 x2 x3
      · cases e
    · cases e
  · cases e
def itemsD : R → Store → Option (List D)
  | .v (.tup xs), _ => some xs
  | .v (.fl xs), _ => some xs
  | .p n, μ => match μ[n]? with | some (.lst xs) => some xs | some (.fz xs) => some xs | _ => none
  | _, _ => none
def lstD : R → Store → Option (List D)
  | .v (.fl xs), _ => some xs
  | .p n, μ => match μ[n]? with | some (.lst xs) => some xs | some (.fz xs) => some xs | _ => none
  | _, _ => none
section
variable {K : PySem.W.Frag} {m : List Addr} {H : Hp} {μ : Store}
theorem lst_ok {x : R} {xs : List D} {v : V} (s : SRel K m H μ) (r : RelR K m H x v) (e : lstD x μ = some xs) : ∃ a vs, v = .ref a ∧ SqL K H a vs ∧ RelDs K H xs vs := by
  unfold lstD at e
  split at e
  · cases e
    simp only [RelR, RelD] at r
    obtain ⟨a, vs, rfl, q, r⟩ := r
    exact ⟨a, vs, rfl, q.sq, r⟩
  · obtain ⟨a, rfl, ha⟩ := r
    split at e
    · rename_i q
      cases e
      obtain ⟨vs, e, r⟩ := s.cell _ _ a q ha
      exact ⟨a, vs, rfl, .inl (.inl e), r⟩
    · rename_i q
      cases e
      obtain ⟨o, vs, e, r⟩ := s.cell _ _ a q ha
      exact ⟨a, vs, rfl, .inl (.inr ⟨o, e⟩), r⟩
    · cases e
  · cases e
theorem items_ok {x : R} {xs : List D} {v : V} (s : SRel K m H μ) (r : RelR K m H x v) (e : itemsD x μ = some xs) : ∃ a vs, v = .ref a ∧ (SqL K H a vs ∨ SqT K H a vs) ∧ RelDs K H xs vs := by
  cases x with
  | v d =>
    cases d with
    | tup ys =>
      cases e
      simp only [RelR, RelD] at r
      obtain ⟨a, vs, rfl, q, r⟩ := r
      exact ⟨a, vs, rfl, .inr q, r⟩
    | fl ys => obtain ⟨a, vs, q1, q2, q3⟩ := lst_ok s r (xs := xs) e; exact ⟨a, vs, q1, .inl q2, q3⟩
    | non => cases e
    | bl _ => cases e
    | int _ => cases e
    | str _ => cases e
    | fd _ _ => cases e
  | p n => obtain ⟨a, vs, q1, q2, q3⟩ := lst_ok s r (xs := xs) e; exact ⟨a, vs, q1, .inl q2, q3⟩
  | s _ _ => cases e
  | x _ => cases e
end
def ixD : R → R → Store → Option (R × Store)
  | x, .v (.int i), μ => (itemsD x μ).bind fun xs => (atI xs i).bind fun d => some (.v d, μ)
  | _, _, _ => none
def lenD : List R → Store → Option (R × Store)
  | [x], μ => (itemsD x μ).bind fun xs => some (.v (.int xs.length), μ)
  | _, _ => none
theorem atI_rel {K : PySem.W.Frag} {H : Hp} {xs : List D} {vs : List V} {i : Int} {d : D} (r : RelDs K H xs vs) (e : atI xs i = some d) : ∃ v, atI vs i = some v ∧ RelD K H d v := by
  obtain ⟨j, e1, e2⟩ := Option.bind_eq_some_iff.mp e
  obtain ⟨v, q1, q2⟩ := r.get e2
  exact ⟨v, by unfold atI; rw [← r.length, e1]; exact q1, q2⟩
theorem g_ix {K : PySem.W.Frag} : GOp K ixD (rIx K) := by
  intro m H μ x y d μ' v u Q s rx ry e k
  unfold ixD at e
  split at e
  · rename_i i
    obtain ⟨xs, e1, e⟩ := Option.bind_eq_some_iff.mp e
    obtain ⟨d1, e2, e⟩ := Option.bind_eq_some_iff.mp e
    cases e
    simp only [RelR, RelD] at ry
    subst ry
    obtain ⟨a, vs, rfl, q, r⟩ := items_ok s rx e1
    obtain ⟨w, q1, q2⟩ := atI_rel r e2
    rcases q with q | q
    · exact .inl ⟨a, vs, i, w, rfl, rfl, q, q1, k _ H m .refl s q2⟩
    · exact .inr (.inl ⟨a, vs, i, w, rfl, rfl, q, q1, k _ H m .refl s q2⟩)
  · cases e
def rLen (K : PySem.W.Frag) : List V → Hp → VK → Prop := fun xs H Q => ∃ p ys, xs = [.ref p] ∧ (SqL K H p ys ∨ SqT K H p ys) ∧ Q (.int ys.length) H
theorem rel1 {K : PySem.W.Frag} {m : List Addr} {H : Hp} {x : R} {vs : List V} (r : RelRs K m H [x] vs) : ∃ v, vs = [v] ∧ RelR K m H x v := by
  obtain ⟨v, r, rfl, h1, h2⟩ := r
  have h2 : r = [] := h2
  subst h2
  exact ⟨v, rfl, h1⟩
theorem g_len {K : PySem.W.Frag} : GAr K lenD (rLen K) := by
  intro m H μ xs d μ' vs Q s r e k
  unfold lenD at e
  split at e
  · rename_i x
    obtain ⟨ys, e1, e⟩ := Option.bind_eq_some_iff.mp e
    cases e
    obtain ⟨v, rfl, r1⟩ := rel1 r
    obtain ⟨a, ws, rfl, q, r⟩ := items_ok s r1 e1
    exact ⟨a, ws, rfl, q, k _ H m .refl s (by simp only [RelR, RelD]; rw [r.length])⟩
  · cases e
def listD : List R → Store → Option (R × Store)
  | [x], μ => (itemsD x μ).bind fun xs => some (.p μ.length, μ ++ [.lst xs])
  | _, _ => none
def tupD : List R → Store → Option (R × Store)
  | [x], μ => (itemsD x μ).bind fun xs => some (.v (.tup xs), μ)
  | _, _ => none
def rTup (K : PySem.W.Frag) : List V → Hp → VK → Prop := fun xs H Q => ∃ p ys, xs = [.ref p] ∧ ((SqL K H p ys ∧ ∀ l, H l = none → Q (.ref l) (upd H l (.tup ys))) ∨ (SqT K H p ys ∧ Q (.ref p) H))
theorem g_tup {K : PySem.W.Frag} : GAr K tupD (rTup K) := by
  intro m H μ xs d μ' vs Q s r e k
  unfold tupD at e
  split at e
  · rename_i x
    obtain ⟨ys, e1, e⟩ := Option.bind_eq_some_iff.mp e
    cases e
    obtain ⟨v, rfl, r1⟩ := rel1 r
    obtain ⟨a, ws, rfl, q, r⟩ := items_ok s r1 e1
    rcases q with q | q
    · refine ⟨a, ws, rfl, .inl ⟨q, fun p hp => ?_⟩⟩
      obtain ⟨x1, x2, x3⟩ := new_tup s r hp
      exact k _ _ _ x1 x2 x3
    · refine ⟨a, ws, rfl, .inr ⟨q, k _ H m .refl s ?_⟩⟩
      simp only [RelR, RelD]
      exact ⟨a, ws, rfl, q, r⟩
  · cases e
def appD : R → List R → Store → Option (R × Store)
  | .p n, [.v d], μ => match μ[n]? with | some (.lst xs) => if xs.length < sizeLine then some (.v .non, μ.set n (.lst (xs ++ [d]))) else none | _ => none
  | _, _, _ => none
def GMt (K : PySem.W.Frag) (g : R → List R → Store → Option (R × Store)) (r : V → List V → Hp → VK → Prop) : Prop :=
  ∀ m H μ x xs d μ' v vs Q, SRel K m H μ → RelR K m H x v → RelRs K m H xs vs → g x xs μ = some (d, μ') → (∀ w H' m', Ext m H m' H' → SRel K m' H' μ' → RelR K m' H' d w → Q w H') → r v vs H Q
theorem g_app {K : PySem.W.Frag} : GMt K appD rAppend := by
  intro m H μ x xs d μ' v vs Q s rx rs e k
  unfold appD at e
  split at e
  · split at e
    · rename_i ys q
      split at e
      · rename_i z
        cases e
        obtain ⟨a, rfl, ha⟩ := rx
        obtain ⟨w, rfl, rw'⟩ := rel1 rs
        obtain ⟨ws, ea, ra⟩ := s.cell _ _ a q ha
        have x : Ext m H m (upd H a (.lst (ws ++ [w]))) := .put (List.mem_of_getElem? ha) ea (by simp) (by simp)
        refine ⟨a, ws, w, rfl, rfl, ea, by rw [← ra.length]; exact z, k _ _ m x (s.put ha ea (by simp) (by simp) ⟨_, upd_at, ?_⟩) (by simp only [RelR, RelD])⟩
        refine RelDs.tf x.tf _ _ (ra.append ?_)
        simp only [RelDs]
        exact ⟨w, [], rfl, rw', rfl⟩
      · cases e
    · cases e
  · cases e
def compL (g : FG) (c : FT) (f : FE) : List D → Lo → Store → Option (List D × Store)
  | [], _, μ => some ([], μ)
  | x :: xs, ρ, μ => (g (.v x) ρ μ).bind fun a => (c a.1 a.2).bind fun b => if b.1 = true then (f a.1 b.2).bind fun y => match y.1 with
      | .v d => (compL g c f xs a.1 y.2).bind fun r => some (d :: r.1, r.2)
      | _ => none
    else compL g c f xs a.1 b.2
def blockLo (k : Nat) (ix : List Nat) (ρ : Lo) : Lo := List.replicate k none ++ ix.map fun i => (ρ[i]?).join
def fComp (ix : List Nat) (k : Nat) (i : FI) (g : FG) (c : FT) (f : FE) : FE := fun ρ μ => (i ρ μ).bind fun a => if a.1.length ≤ sizeLine then
  (compL g c f a.1 (blockLo k ix ρ) a.2).bind fun r => some (.p r.2.length, r.2 ++ [.lst r.1]) else none
def cYes : FT := fun _ μ => some (true, μ)
end HW
namespace HW
open PySem PySem.Spec PyProof.Rows L2
section
variable {X : Cx}
theorem PE.imp {e : Expr} {t t' : TE} (h : PE X e t) (k : ∀ {σ H Q}, t' σ H Q → t σ H Q) : PE X e t' := fun pins s σ H Q I q => h pins s σ H Q I (k q)
theorem PT.imp {e : Expr} {t t' : TT} (h : PT X e t) (k : ∀ {σ H Q}, t' σ H Q → t σ H Q) : PT X e t' := fun pins s σ H Q I q => h pins s σ H Q I (k q)
theorem PW.imp {e : Expr} {t t' : TT} (h : PW X e t) (k : ∀ {σ H Q}, t' σ H Q → t σ H Q) : PW X e t' := fun wh pins s σ H Q I q => h wh pins s σ H Q I (k q)
theorem PA.imp {e : List Expr} {t t' : TA} (h : PA X e t) (k : ∀ {σ H Q}, t' σ H Q → t σ H Q) : PA X e t' := fun pos pins s σ H Q I q => h pos pins s σ H Q I (k q)
theorem PS.imp {e : Stmt} {t t' : TS} (h : PS X e t) (k : ∀ {D σ H}, t' D σ H → t D σ H) : PS X e t' := fun pins s σ H Q I q => h pins s σ H Q I (k q)
theorem PSs.imp {e : List Stmt} {t t' : TS} (h : PSs X e t) (k : ∀ {D σ H}, t' D σ H → t D σ H) : PSs X e t' := fun pins s σ H Q I q => h pins s σ H Q I (k q)
theorem PI.imp {tg e : Expr} {t t' : TI} (h : PI X tg e t) (k : ∀ {σ H R}, t' σ H R → t σ H R) : PI X tg e t' := fun pins s σ H R I q => h pins s σ H R I (k q)
theorem PG.imp {e : Expr} {t t' : TG} (h : PG X e t) (k : ∀ {v σ H Q}, t' v σ H Q → t v σ H Q) : PG X e t' := fun pins s σ H v u Q I r q => h pins s σ H v u Q I r (k q)
theorem PGs.imp {e : List Expr} {t t' : TGs} (h : PGs X e t) (k : ∀ {v σ H Q}, t' v σ H Q → t v σ H Q) : PGs X e t' := fun pins s σ H v u Q I r q => h pins s σ H v u Q I r (k q)
end
section
variable {P : Program} {w : World} {H H0 : Hp} {h h0 : Heap} {a : Addr} {u : HO} {fs ex : List Addr}
theorem FzOk.ne {b : Addr} {v : HO} (e : H a = some u) (hu : FzOk u) (q : H b = some v) (n : ¬ FzOk v) : b ≠ a := fun z => by
  rw [z, e] at q; cases q; exact n hu
theorem HOk.frz (ok : HOk P w H h) (e : H a = some u) (hu : FzOk u) : ∃ o, HOk P w (upd H a (.frz o u)) h := by
  have ho : ∃ o, h.get? a = some o := by
    have z := ok a u e
    cases u with
    | lst xs => obtain ⟨_, _, _, _, q⟩ := z; exact ⟨_, q⟩
    | set S n => obtain ⟨o, _, _, _, q, _⟩ := z; exact ⟨_, q⟩
    | dK kvs => obtain ⟨_, _, _, _, o, _, _, q, _⟩ := z; exact ⟨_, q⟩
    | _ => exact hu.elim
  obtain ⟨o, ho⟩ := ho
  refine ⟨o, fun b v q => ?_⟩
  have own : ∀ c y, H c = some (.own y) → upd H a (.frz o u) c = some (.own y) := fun c y r => by rw [L2.upd_ne (FzOk.ne e hu r fun z => z)]; exact r
  have tup : ∀ c xs, H c = some (.tup xs) → upd H a (.frz o u) c = some (.tup xs) := fun c xs r => by rw [L2.upd_ne (FzOk.ne e hu r fun z => z)]; exact r
  by_cases hb : b = a
  · subst hb
    rw [L2.upd_same] at q
    cases q
    exact ⟨ho, (ok b u e).stay (fun c v _ q => q) (fun c r => own c _ r) tup⟩
  · rw [L2.upd_ne hb] at q
    exact (ok b v q).stay (fun c v _ q => q) (fun c r => own c _ r) tup
theorem Un.frz {o : Obj} (un : Un fs ex H0 H h0 h) (e : H a = some u) (hu : FzOk u) : Un fs ex H0 (upd H a (.frz o u)) h0 h where
  keep := un.keep
  slot := un.slot
  free := fun b ob q n hx => by
    have z := un.free b ob q n hx
    rw [L2.upd_ne (fun y => by rw [y, e] at z; cases z)]; exact z
  there := un.there
  tups := fun b xs q => by rw [L2.upd_ne (FzOk.ne e hu (un.tups b xs q) fun z => z)]; exact un.tups b xs q
  frzs := fun b ob v q => by rw [L2.upd_ne (FzOk.ne e hu (un.frzs b ob v q) fun z => z)]; exact un.frzs b ob v q
  tbls := fun b ps q => by
    obtain ⟨more, r⟩ := un.tbls b ps q
    exact ⟨more, by rw [L2.upd_ne (FzOk.ne e hu r fun z => z)]; exact r⟩
theorem Inv.frz {X : Cx} {pins : List (Addr × Obj)} {σ : L2.St} {s : Shared} (I : Inv X pins σ H s) (e : H a = some u) (hu : FzOk u) : ∃ o, Inv X pins σ (upd H a (.frz o u)) s := by
  obtain ⟨o, ok⟩ := HOk.frz I.hok e hu
  have nn : ∀ b, H b = none → upd H a (.frz o u) b = none := fun b z => by rw [L2.upd_ne (fun y => by rw [y, e] at z; cases z)]; exact z
  refine ⟨o, I.ok, I.os, I.bare, Un.frz I.base e hu, I.loc, I.cell, nn _ I.free, fun x c q => nn _ (I.freeC x c q), fun p hp => ?_, ok, I.len⟩
  obtain ⟨q1, q2, q3⟩ := I.pin p hp
  exact ⟨q1, nn _ q2, q3⟩
end
theorem pe_fz0 {X : Cx} {e : Expr} {t : TE} (h : PE X e t) : PE X e (tFz t) := fun pins s σ H Q I q => by
  refine thn (h pins s σ H _ I q) fun v s1 ⟨x, H1, I1, r1, q1⟩ => ?_
  rcases q1 with q1 | ⟨a, u, e, hu, q1⟩
  · exact ⟨x, H1, I1, r1, q1⟩
  · obtain ⟨o, I2⟩ := Inv.frz I1 e hu
    exact ⟨x, _, I2, r1, q1 o⟩
theorem FnOk.fz {P : Program} {w : World} {K : PySem.W.Frag} {mg : Str → Option Value} {base : Heap} {CX : CXT} {k : Nat} {f : Addr} {fd : FuncData} {ps : List Str} {sp : Sp} (F : FnOk P w K mg base CX k f fd ps sp) :
    FnOk P w K mg base CX k f fd ps (fun vs H Q E => sp vs H (orFz Q) E) := by
  refine ⟨fun vs H Q E h => F.len vs H _ E h, fun A outer s H args us vs Q E hr he hb hv hs => ?_⟩
  refine codeAny_mono (F.run A outer s H args us vs (orFz Q) E hr he hb hv hs) fun r s' hq => ?_
  cases r with
  | error e => exact hq
  | ok fl =>
    cases fl with
    | next => exact hq
    | brk => exact hq
    | cont => exact hq
    | ret u =>
      obtain ⟨v, H', os, bare, un, hok, rv, q⟩ := hq
      rcases q with q | ⟨a, u', e, hu, q⟩
      · exact ⟨v, H', os, bare, un, hok, rv, q⟩
      · obtain ⟨o, ok⟩ := HOk.frz hok e hu
        exact ⟨v, _, os, bare, Un.frz un e hu, ok, rv, q o⟩
theorem Fun.okP {P : Program} {w : World} {K : PySem.W.Frag} {mg : Str → Option Value} {base : Heap} {x qual : Str} {st : Stmt} {f : Addr} {fd : FuncData} {N ps : List Str} {k : Nat} {b : FS} (F : Fun K x qual st f fd) (S : FnScope N ps (defScope st))
    (hbody : ∀ (cdv : Value) (A : Around) (outer : List Env) (s : Shared) (H : Hp) (E : XK), Room k (A.deeper (envOfC qual (defScope st) s.heap.objs.size f cdv)) → PSs (cxOf CX0 P w K mg base N qual (defScope st) f cdv A outer s H E).nox (defBody st) (rdS K b)) :
    FnOk P w K mg base CX0 (k + 1) f fd ps (spP K ps.length (runP N.length b)) := by
  have G : FnOk P w K mg base CX0 (k + 1) f fd ps (fun vs H Q _ => vs.length = ps.length ∧ rdS K b { nx := fun _ H' => Q .non H', rt := Q } (L2.start N vs) H) :=
    L2.Fun.ok F S (fun vs H Q E h => h.1) fun cdv A outer s H vs Q E hr h => ⟨_, hbody cdv A outer s H E hr, h.2⟩
  refine (FnOk.fz G).imp fun vs H Q E ⟨ds, d, hn, r, e, k⟩ => ⟨by rw [← r.length]; exact hn, run_ok (E := E) r e k⟩
theorem pi_seq0 {X : Cx} {tg l : Expr} {tl : TE} (hl : PE X l tl) : PI X tg l (iSeq X.K tl) := by
  intro pins s σ H R I h
  refine thn (hl pins s σ H _ I h) fun v s1 ⟨x, H1, I1, r1, q1⟩ => ?_
  obtain ⟨a, e, q1⟩ := q1
  subst e
  cases r1
  rcases q1 with ⟨⟨xs, hq⟩, q⟩ | ⟨⟨xs, hq⟩, q⟩
  · obtain ⟨its, rv, p, hz⟩ := I1.list hq
    refine wpAny_pyIter_list p.isList ?_
    refine ⟨s1.heap.objs.size, [s1.heap.objs.size], _, _, H1, rfl, I1.kept (t' := s1.toks) fun b o e => Heap.get?_push_of_some _ e, turn_list a _, ⟨_, Heap.get?_push_size _ rfl, rfl, rfl⟩, fun b hb => ?_, q⟩
    have e : b = s1.heap.objs.size := by simpa using hb
    subst e
    exact I1.fpOk (Nat.le_refl _) (I1.hok.fresh (Nat.le_refl _))
  · obtain ⟨its, rv, p, hz⟩ := I1.tuple hq
    refine wpAny_pyIter_tuple (show s1.heap.IsTuple a its.toArray from p) ?_
    refine ⟨s1.heap.objs.size, [s1.heap.objs.size], _, _, H1, rfl, I1.kept (t' := s1.toks) fun b o e => Heap.get?_push_of_some _ e, turn_tuple a _, ⟨_, Heap.get?_push_size _ rfl, rfl, rfl⟩, fun b hb => ?_, q⟩
    have e : b = s1.heap.objs.size := by simpa using hb
    subst e
    exact I1.fpOk (Nat.le_refl _) (I1.hok.fresh (Nat.le_refl _))
end HW
namespace HW
open PySem PySem.Spec PyProof.Rows L2
theorem relabel_lookup {env : Env} : ∀ {names : List (Str × NameKind)} {x : Str},
    (names.map fun (n, k) => if (k == NameKind.free && env.scope.kind == .function && env.kindOf n == some .cell) then (n, NameKind.cell) else (n, k)).lookup x =
      (names.lookup x).map fun k => if (k == NameKind.free && env.scope.kind == .function && env.kindOf x == some .cell) then NameKind.cell else k
  | [], _ => rfl
  | (n, k) :: r, x => by
    have ih := @relabel_lookup env r x
    show List.lookup x ((if (k == NameKind.free && env.scope.kind == .function && env.kindOf n == some .cell) = true then (n, NameKind.cell) else (n, k)) :: _) = _
    cases hx : x == n with
    | true =>
      have : x = n := eq_of_beq hx
      subst this
      simp only [List.lookup_cons, hx, Option.map_some]
      by_cases hc : (k == NameKind.free && env.scope.kind == .function && env.kindOf x == some .cell) = true
      · simp [hc]
      · simp [hc]
    | false =>
      by_cases hc : (k == NameKind.free && env.scope.kind == .function && env.kindOf n == some .cell) = true
      · rw [if_pos hc]; simp only [List.lookup_cons, hx]; exact ih
      · rw [if_neg hc]; simp only [List.lookup_cons, hx]; exact ih
theorem closure_loop {env : Env} : ∀ (names : List (Str × NameKind)) (acc : List (Str × Addr)), (∀ x c, acc.lookup x = some c → env.cells.lookup x = some c) →
    (∀ y ∈ names, y.2 = .free → ∃ c, env.cells.lookup y.1 = some c) →
    ∃ cl : List (Str × Addr), (forIn names acc fun (x : Str × NameKind) (r : List (Str × Addr)) => (if (x.2 == NameKind.free) = true then do let a ← cellOf env x.1; pure (ForInStep.yield ((x.1, a) :: r)) else pure (ForInStep.yield r) : Sem (ForInStep (List (Str × Addr))))) = pure cl ∧
      (∀ x c, cl.lookup x = some c → env.cells.lookup x = some c) ∧ (∀ x c, acc.lookup x = some c → ∃ c', cl.lookup x = some c') ∧ ∀ y ∈ names, y.2 = .free → ∃ c, cl.lookup y.1 = some c
  | [], acc, h1, _ => ⟨acc, rfl, h1, fun x c e => ⟨c, e⟩, fun y hy => by simp at hy⟩
  | (n, k) :: r, acc, h1, h2 => by
    by_cases hk : k = .free
    · subst hk
      obtain ⟨c, hc⟩ := h2 (n, .free) List.mem_cons_self rfl
      have step : ∀ x c', List.lookup x ((n, c) :: acc) = some c' → env.cells.lookup x = some c' := fun x c' e => by
        rw [List.lookup_cons] at e
        cases hx : x == n with
        | true => rw [hx] at e; have : x = n := eq_of_beq hx; subst this; rw [hc]; exact e
        | false => rw [hx] at e; exact h1 x c' e
      obtain ⟨cl, e, p1, p2, p3⟩ := closure_loop r ((n, c) :: acc) step fun y hy => h2 y (List.mem_cons_of_mem _ hy)
      have hn : ∃ c', List.lookup n ((n, c) :: acc) = some c' := ⟨c, by rw [List.lookup_cons]; simp⟩
      refine ⟨cl, ?_, p1, fun x c' e' => ?_, fun y hy hf => ?_⟩
      · rw [List.forIn_cons]
        show ((cellOf env n >>= fun a => pure (ForInStep.yield ((n, a) :: acc))) >>= _) = _
        unfold cellOf
        rw [hc]
        exact e
      · cases hx : x == n with
        | true => have : x = n := eq_of_beq hx; subst this; obtain ⟨c'', q⟩ := hn; exact p2 _ _ q
        | false => exact p2 x c' (by rw [List.lookup_cons, hx]; exact e')
      · rcases List.mem_cons.mp hy with rfl | hy
        · obtain ⟨c'', q⟩ := hn; exact p2 _ _ q
        · exact p3 y hy hf
    · obtain ⟨cl, e, p1, p2, p3⟩ := closure_loop r acc h1 fun y hy => h2 y (List.mem_cons_of_mem _ hy)
      have hb : (k == NameKind.free) = false := by simpa using hk
      refine ⟨cl, ?_, p1, p2, fun y hy hf => ?_⟩
      · rw [List.forIn_cons]
        simp only [hb, Bool.false_eq_true, if_false]
        exact e
      · rcases List.mem_cons.mp hy with rfl | hy
        · exact absurd hf hk
        · exact p3 y hy hf
theorem closure_ok {env : Env} {scope : Scope} (h : ∀ y ∈ scope.names, y.2 = .free → ∃ c, env.cells.lookup y.1 = some c) :
    ∃ cl, closureFor scope env = pure cl ∧ (∀ x c, cl.lookup x = some c → env.cells.lookup x = some c) ∧ ∀ y ∈ scope.names, y.2 = .free → ∃ c, cl.lookup y.1 = some c := by
  obtain ⟨cl, e, p1, _, p3⟩ := closure_loop (env := env) scope.names [] (fun x c e => by simp at e) h
  refine ⟨cl, ?_, p1, p3⟩
  unfold closureFor
  first
    | (show (forIn scope.names [] _ >>= fun r => pure r) = _; rw [e]; rfl)
    | (simp only [bind_pure]; exact e)
structure CompNames (osc scope : Scope) (own : List Str) (caps : List Str) : Prop where
  kind : scope.kind = .function
  cell : ∀ y ∈ scope.names, y.2 ≠ .cell
  loc : ∀ y ∈ scope.names, y.2 = .local → scope.names.lookup y.1 = some .local
  free : ∀ y ∈ scope.names, y.2 = .free → osc.names.lookup y.1 = some .cell ∨ osc.names.lookup y.1 = some .free
  cap : ∀ y ∈ caps, (y, NameKind.free) ∈ scope.names ∧ scope.names.lookup y = some .free
  nd : (own ++ caps).Nodup
def blockCx (X : Cx) (scope : Scope) (cl : List (Str × Addr)) (C : Addr) (s₂ : Shared) (H₂ : Hp) (fp : List Addr) (N : List Str) : Cx :=
  { X with N := N, s₀ := s₂, H₀ := H₂, env := compEnvC scope cl C X.env, outer := X.stack, stack := X.stack, ex := fp, fn := fun _ => false, pn := [], xe := fun _ _ => False }
theorem lookup_mem {names : List (Str × NameKind)} {x : Str} {k : NameKind} (h : names.lookup x = some k) : (x, k) ∈ names := PySem.mem_of_lookup h
theorem block_kind {X : Cx} {scope : Scope} {own caps : List Str} (n : CompNames X.env.scope scope own caps) {cl : List (Str × Addr)} {C : Addr} {x : Str} {k : NameKind} (h : (compEnvC scope cl C X.env).kindOf x = some k) (hk : k = .cell ∨ k = .free) :
    (x, NameKind.free) ∈ scope.names := by
  have h' : (relabel scope X.env).names.lookup x = some k := h
  unfold relabel at h'
  rw [relabel_lookup] at h'
  cases q : scope.names.lookup x with
  | none => rw [q] at h'; cases h'
  | some k0 =>
    rw [q, Option.map_some] at h'
    have m := lookup_mem q
    have h2 := Option.some.inj h'
    by_cases hf : k0 = .free
    · subst hf; exact m
    · exfalso
      have hb : (k0 == NameKind.free) = false := by simpa using hf
      simp only [hb, Bool.false_and, Bool.false_eq_true, if_false] at h2
      rcases hk with hk | hk
      · exact n.cell _ m (h2.trans hk)
      · exact hf (h2.trans hk)
theorem block_free {X : Cx} {scope : Scope} {cl : List (Str × Addr)} {C : Addr} {x : Str} (h : scope.names.lookup x = some .free) :
    (compEnvC scope cl C X.env).kindOf x = some .cell ∨ (compEnvC scope cl C X.env).kindOf x = some .free := by
  show (relabel scope X.env).names.lookup x = some .cell ∨ (relabel scope X.env).names.lookup x = some .free
  unfold relabel
  rw [relabel_lookup, h]
  simp only [Option.map_some]
  split
  · exact .inl rfl
  · exact .inr rfl
theorem block_ok {X : Cx} {pins : List (Addr × Obj)} {σ : L2.St} {H₂ : Hp} {s₂ : Shared} {scope : Scope} {own caps : List Str} {cl : List (Str × Addr)} {C : Addr} {fp : List Addr} (I : Inv X pins σ H₂ s₂) (n : CompNames X.env.scope scope own caps)
    (hcl : ∀ x c, cl.lookup x = some c → X.env.cells.lookup x = some c) (hcl2 : ∀ y ∈ scope.names, y.2 = .free → ∃ c, cl.lookup y.1 = some c) (hC : s₂.heap.objs.size ≤ C) (hfs : ∀ b ∈ fp, b < C) (hf : ∀ b ∈ fp, FpOk X pins H₂ b) :
    (blockCx X scope cl C s₂ H₂ fp (own ++ caps)).Ok := by
  refine ⟨I.ok.mod, n.kind, I.ok.glob, I.ok.blt, hC, fun x y c h1 h2 => I.ok.inj x y c (hcl x c h1) (hcl y c h2), fun x hx => ?_, fun x c h _ => ?_, I.ok.hd, I.ok.frames, .inl rfl, fun b hb => ⟨Nat.ne_of_lt (hfs b hb), fun x c e => (hf b hb).2.2.2.2.1 x c (hcl x c e)⟩,
    I.bs, Nat.le_trans I.ok.bsz I.sz, fun b o e hb => ?_, fun b hb z => ?_, I.stack, I.stkFree⟩
  · rcases hx with hx | hx
    · obtain ⟨c, e⟩ := hcl2 _ (block_kind n hx (.inl rfl)) rfl; exact ⟨c, e⟩
    · obtain ⟨c, e⟩ := hcl2 _ (block_kind n hx (.inr rfl)) rfl; exact ⟨c, e⟩
  · exact absurd h (by simp [blockCx])
  · rcases (hf b hb).2.2.2.1 with z | z
    · exact I.ok.noex b o e z
    · exact absurd (Nat.lt_of_lt_of_le (Nat.lt_of_lt_of_le (Heap.lt_size e) I.ok.bsz) z) (Nat.lt_irrefl _)
  · rcases List.mem_cons.mp (I.stkSub b z) with e | e
    · exact (hf b hb).2.1 e
    · exact (hf b hb).2.2.1 e
def blockSt (own : L2.St) (ix : List Nat) (σ : L2.St) : L2.St := own ++ ix.map fun i => (σ[i]?).join
theorem block_start {X : Cx} {pins : List (Addr × Obj)} {σ : L2.St} {H₂ : Hp} {s₂ : Shared} {scope : Scope} {own caps : List Str} {ix : List Nat} {cl : List (Str × Addr)} {C : Addr} {fp : List Addr} {h₁ : Heap} {tk : Nat} (I : Inv X pins σ H₂ s₂) (n : CompNames X.env.scope scope own caps)
    (hcl : ∀ x c, cl.lookup x = some c → X.env.cells.lookup x = some c) (hcl2 : ∀ y ∈ scope.names, y.2 = .free → ∃ c, cl.lookup y.1 = some c) (hC : s₂.heap.objs.size ≤ C) (hfs : ∀ b ∈ fp, b < C) (hf : ∀ b ∈ fp, FpOk X pins H₂ b)
    (hix : ix.length = caps.length) (hix2 : ∀ (j i : Nat) y, ix[j]? = some i → caps[j]? = some y → X.N[i]? = some y)
    (old : ∀ b o, s₂.heap.get? b = some o → h₁.get? b = some o) {m : Str → Option Value} (hns : h₁.Ns C m) :
    Inv (blockCx X scope cl C s₂ H₂ fp (own ++ caps)) [] (blockSt (own.map fun _ => none) ix σ) H₂ { s₂ with heap := h₁, toks := tk } := by
  refine ⟨block_ok I n hcl hcl2 hC hfs hf, rfl, I.bare, Un.kept old, ⟨m, hns, fun i x v e1 e2 hv => ?_⟩, fun x c e => ?_, I.hok.fresh hC, fun x c e => I.freeC x c (hcl x c e), fun p hp => ?_, I.hok.kept old, ?_⟩
  · have e1 : (own ++ caps)[i]? = some x := e1
    unfold blockSt at e2
    by_cases hi : i < own.length
    · rw [List.getElem?_append_left (by simpa using hi), List.getElem?_map] at e2
      cases q : own[i]? with
      | none => rw [q] at e2; cases e2
      | some y => rw [q] at e2; cases e2
    · rw [List.getElem?_append_right (by simpa using hi)] at e2
      rw [List.getElem?_append_right (by omega)] at e1
      simp only [List.length_map] at e2
      generalize i - own.length = j at e1 e2
      rw [List.getElem?_map] at e2
      cases q : ix[j]? with
      | none => rw [q] at e2; cases e2
      | some i' =>
        rw [q] at e2
        have e3 : (σ[i']?).join = some v := Option.some.inj e2
        have e4 : σ[i']? = some (some v) := by
          cases z : σ[i']? with
          | none => rw [z] at e3; cases e3
          | some w' => rw [z] at e3; cases w' with
            | none => cases e3
            | some _ => cases e3; rfl
        have hN := hix2 j i' x q e1
        obtain ⟨mm, hl⟩ := n.cap x (List.mem_of_getElem? e1)
        have hk : X.env.kindOf x = some .cell ∨ X.env.kindOf x = some .free := n.free _ mm rfl
        obtain ⟨m0, hn0, hl0⟩ := I.loc
        have vis : Vis X.env.scope x := by
          rcases hk with hk | hk
          · exact .inr (.inl hk)
          · exact .inr (.inr hk)
        obtain ⟨u, r, l⟩ := hl0 i' x v hN e4 vis
        refine ⟨u, r, .inr ⟨block_free hl, ?_⟩⟩
        obtain ⟨c, hc⟩ := hcl2 _ mm rfl
        rcases l with ⟨l, _⟩ | ⟨_, c', hc', z⟩
        · exfalso
          rcases hk with hk | hk <;> rw [hk] at l <;> cases l
        · have := hcl x c hc
          rw [hc'] at this; cases this
          obtain ⟨o, ho, hd⟩ := z
          exact ⟨_, hc, o, old _ _ ho, hd⟩
  · obtain ⟨v, o, ho, hd⟩ := I.cell x c (hcl x c e)
    exact ⟨v, o, old _ _ ho, hd⟩
  · exact absurd (show p ∈ ([] : List (Addr × Obj)) from hp) (by simp)
  · show (blockSt _ ix σ).length = (own ++ caps).length
    unfold blockSt
    simp [hix]
def PIfs (X : Cx) (ifs : List Expr) (t : TT) : Prop :=
  ∀ (pins : List (Addr × Obj)) (s : Shared) (σ : L2.St) (H : Hp) (Q : Bool → Hp → Prop), Inv X pins σ H s → t σ H Q →
    wpAny (model X.prog X.w) X.A (forIn ifs true fun c r => if r = true then do let ok ← isTrue c X.env (eval c X.env); pure (ForInStep.yield ok) else pure (ForInStep.yield r)) (TP X pins σ Q) X.xe s
def tYes : TT := fun _ H Q => Q true H
theorem pifs_nil {X : Cx} : PIfs X [] tYes := fun pins s σ H Q I h => wpAny_tests_nil ⟨H, I, h⟩
theorem compLoop_go {prog : Program} {w : World} {A : Around} {R : Result → Shared → Prop} {s : Shared} {elt target iter : Expr} {ifs : List Expr} {scope : Scope} {pos : Pos} {it acc : Value} {env : Env} (I : Nat → Shared → Prop)
    (turn : ∀ n s, I n s → wpAny (model prog w) A (pyNext it) (fun r s₁ => match r with
      | none => R (.ok .next) s₁
      | some v => wpAny (model prog w) A (letOwnedTupleGo target it v) (fun _ s₁' => wpAny (model prog w) A (assign target env v) (fun _ s₂ =>
          wpAny (model prog w) A (forIn ifs true fun c r => if r = true then do let ok ← isTrue c env (eval c env); pure (ForInStep.yield ok) else pure (ForInStep.yield r)) (fun ok s₃ =>
            if ok = true then wpAny (model prog w) A (eval elt env) (fun x s₄ =>
              wpAny (model prog w) A (call (.builtin "list.append") [acc, x]) (fun _ s₅ => ∃ m, m < n ∧ I m s₅) (fun _ _ => False) s₄) (fun _ _ => False) s₃
            else ∃ m, m < n ∧ I m s₃) (fun _ _ => False) s₂) (fun _ _ => False) s₁') (fun _ _ => False) s₁) (fun _ _ => False) s)
    (n : Nat) (h : I n s) : codeAny (model prog w) A (.compLoop (.ListComp elt [⟨target, iter, ifs, 0⟩] scope pos) 0 it acc env) R s := by
  refine codeAny_loop rfl I (fun n s hI => ?_) n h
  show wpAny _ A ((compTurn (.ListComp elt [⟨target, iter, ifs, 0⟩] scope pos) 0 it acc env).onRaise (fun x => do noteFrame x env; theTreesLotGoes x)) _ _ s
  refine wpAny_noted ?_
  rw [compTurn_list]
  refine wpAny_bind (wpAny_standAt (wpAny_bind (wpAny_mono (turn n s hI) (fun r s₁ h₁ => ?_) fun _ _ h' => h'.elim)))
  cases r with
  | none => exact wpAny_pure h₁
  | some v =>
    refine wpAny_bind (wpAny_mono h₁ (fun _ s₁' h₁' => ?_) fun _ _ h' => h'.elim)
    refine wpAny_bind (wpAny_mono h₁' (fun _ s₂ h₂ => wpAny_bind (wpAny_mono h₂ (fun ok s₃ h₃ => ?_) fun _ _ h' => h'.elim)) fun _ _ h' => h'.elim)
    cases ok with
    | false => exact wpAny_pure ⟨rfl, h₃⟩
    | true =>
      exact wpAny_bind (wpAny_bind (wpAny_mono h₃ (fun x s₄ h₄ => wpAny_bind (wpAny_mono h₄ (fun _ s₅ h₅ => wpAny_pure (wpAny_pure ⟨rfl, h₅⟩)) fun _ _ h' => h'.elim)) fun _ _ h' => h'.elim))
theorem Inv.adopt {X : Cx} {pins : List (Addr × Obj)} {σ : L2.St} {H : Hp} {s : Shared} {a : Addr} {o : HO} (I : Inv X pins σ H s) (f : FpOk X pins H a) (hs : X.s₀.heap.objs.size ≤ a) (new : ObjOk X.prog X.w (upd H a o) s.heap a o) : Inv X pins σ (upd H a o) s := by
  obtain ⟨f0, f1, f2, f3, f4, f5⟩ := f
  have ne : ∀ b u, H b = some u → b ≠ a := fun b u e z => by rw [z, f0] at e; cases e
  refine ⟨I.ok, I.os, I.bare, ⟨I.base.keep, I.base.slot, fun b ob q n hx' => ?_, I.base.there, fun b xs q => ?_, fun b ob u q => ?_, fun b ps q => ?_⟩, I.loc, I.cell, ?_, fun x c q => ?_, fun p hp => ?_, fun b u q => ?_, I.len⟩
  · rw [L2.upd_ne (Nat.ne_of_lt (Nat.lt_of_lt_of_le (Heap.lt_size q) hs))]; exact I.base.free b ob q n hx'
  · rw [L2.upd_ne (ne _ _ (I.base.tups b xs q))]; exact I.base.tups b xs q
  · rw [L2.upd_ne (ne _ _ (I.base.frzs b ob u q))]; exact I.base.frzs b ob u q
  · obtain ⟨more, r⟩ := I.base.tbls b ps q
    exact ⟨more, by rw [L2.upd_ne (ne _ _ r)]; exact r⟩
  · rw [L2.upd_ne (Ne.symm f1)]; exact I.free
  · rw [L2.upd_ne (f4 x c q)]; exact I.freeC x c q
  · obtain ⟨q1, q2, q3⟩ := I.pin p hp
    exact ⟨q1, by rw [L2.upd_ne (f5 p hp)]; exact q2, q3⟩
  · by_cases hb : b = a
    · subst hb; rw [L2.upd_same] at q; cases q; exact new
    · rw [L2.upd_ne hb] at q
      exact (I.hok b u q).stay (fun c v _ q => q) (fun c r => by rw [L2.upd_ne (ne _ _ r)]; exact r) fun c xs r => by rw [L2.upd_ne (ne _ _ r)]; exact r
def tComp (ix : List Nat) (own : List Str) (wi : TI) (g : TG) (tc : TT) (te : TE) : TE := fun σ H Q => wi σ H fun J H1 =>
  ∃ W : Nat → Nat → List V → L2.St → Hp → Prop, (∃ n, W 0 n [] (blockSt (own.map fun _ => none) ix σ) H1) ∧ ∀ i n ys τ H, W i n ys τ H →
    (J.stop i H ∧ ∀ p, H p = none → Q (.ref p) (upd H p (.lst ys))) ∨
    (J.go i H ∧ ys.length < sizeLine ∧ ∀ x H', J.yld i H x H' → g x τ H' fun τ2 H2 => tc τ2 H2 fun b H3 => if b = true then te τ2 H3 fun y H4 => ∃ n', n' < n ∧ W (i + 1) n' (ys ++ [y]) τ2 H4 else ∃ n', n' < n ∧ W (i + 1) n' ys τ2 H3)
theorem block_run {X : Cx} {pins : List (Addr × Obj)} {σ : L2.St} {s₂ : Shared} {H₂ : Hp} {E : Value → Shared → Prop} {elt tg iter : Expr} {ifs : List Expr} {scope : Scope} {pos : Pos} {own caps : List Str} {ix : List Nat} {g : TG} {tc : TT} {te : TE} {Q : VK} {cl : List (Str × Addr)}
    {it : Addr} {fp : List Addr} {tn : Nat → Heap → Prop} {J : It} {RR : Value → Addr → Result → Shared → Prop}
    (hc : X.calm = true) (I : Inv X pins σ H₂ s₂) (T : Turn X.prog X.w X.K tg J fp it tn) (st : tn 0 s₂.heap) (hf : ∀ b ∈ fp, FpOk X pins H₂ b) (n : CompNames X.env.scope scope own caps)
    (hcl : ∀ x c, cl.lookup x = some c → X.env.cells.lookup x = some c) (hcl2 : ∀ y ∈ scope.names, y.2 = .free → ∃ c, cl.lookup y.1 = some c)
    (hix : ix.length = caps.length) (hix2 : ∀ (j i : Nat) y, ix[j]? = some i → caps[j]? = some y → X.N[i]? = some y)
    (hg : ∀ C, PG (blockCx X scope cl C s₂ H₂ fp (own ++ caps)) tg g) (ht : ∀ C, PIfs (blockCx X scope cl C s₂ H₂ fp (own ++ caps)) ifs tc) (he : ∀ C, PE (blockCx X scope cl C s₂ H₂ fp (own ++ caps)) elt te)
    (W : Nat → Nat → List V → L2.St → Hp → Prop) (hW0 : ∃ n, W 0 n [] (blockSt (own.map fun _ => none) ix σ) H₂)
    (hW : ∀ i n ys τ H, W i n ys τ H → (J.stop i H ∧ ∀ p, H p = none → Q (.ref p) (upd H p (.lst ys))) ∨
      (J.go i H ∧ ys.length < sizeLine ∧ ∀ x H', J.yld i H x H' → g x τ H' fun τ2 H2 => tc τ2 H2 fun b H3 => if b = true then te τ2 H3 fun y H4 => ∃ n', n' < n ∧ W (i + 1) n' (ys ++ [y]) τ2 H4 else ∃ n', n' < n ∧ W (i + 1) n' ys τ2 H3))
    (hRR : ∀ (D C : Addr) (s' : Shared) m H' ys, s'.heap.Ns C m → Inv X pins σ (upd H' D (.lst ys)) s' → FpOk X pins (upd H' D (.lst ys)) C → Q (.ref D) (upd H' D (.lst ys)) → RR (.ref D) C (.ok .next) s') :
    wpAny (model X.prog X.w) X.A (newList []) (fun acc s₃ => wpAny (model X.prog X.w) X.A (newFunctionEnv scope X.env.globals cl [] X.env.qual none .none (some X.env)) (fun cenv s₄ =>
      codeAny (model X.prog X.w) X.A (.compStart (.ListComp elt [⟨tg, iter, ifs, 0⟩] scope pos) 0 (.ref it) acc { cenv with scope := relabel scope X.env }) (RR acc cenv.locals) s₄) E s₃) E s₂ := by
  refine wpAny_newObj_type (wpAny_newFunctionEnv n.cell (by intro y hy; simp at hy) (fun h₁ hns₁ hsb₁ => ?_) n.kind)
  dsimp only at hns₁ hsb₁ ⊢
  generalize hH2 : s₂.heap.push { cls := .type "list", dict := none, data := .seq ([] : List Value).toArray } = H2 at hns₁ hsb₁ ⊢
  have hC : H2.objs.size = s₂.heap.objs.size + 1 := by rw [← hH2, Heap.size_push]
  have below : ∀ b, b < s₂.heap.objs.size → b ≠ H2.objs.size ∧ b ≠ s₂.heap.objs.size := fun b hb => ⟨by rw [hC]; exact Nat.ne_of_lt (Nat.lt_succ_of_lt hb), Nat.ne_of_lt hb⟩
  have hDC : s₂.heap.objs.size ≠ H2.objs.size := by rw [hC]; exact Nat.ne_of_lt (Nat.lt_succ_self _)
  have old : ∀ b o, s₂.heap.get? b = some o → h₁.get? b = some o := fun b o e => hsb₁.extBut b o (below b (Heap.lt_size e)).1 (Heap.get?_push_of_some _ (hH2 ▸ Heap.get?_push_of_some _ e))
  have hacc : h₁.get? s₂.heap.objs.size = some { cls := .type "list", data := .seq ([] : List Value).toArray } := hsb₁.extBut _ _ hDC (Heap.get?_push_of_some _ (hH2 ▸ Heap.get?_push_size _ rfl))
  have fplt : ∀ b ∈ fp, b < s₂.heap.objs.size := fun b hb => by obtain ⟨o, e, _⟩ := T.obj _ _ st b hb; exact Heap.lt_size e
  have hCle : s₂.heap.objs.size ≤ H2.objs.size := by rw [hC]; exact Nat.le_succ _
  have hfC : ∀ b ∈ fp, b < H2.objs.size := fun b hb => Nat.lt_of_lt_of_le (fplt b hb) hCle
  have st₁ : tn 0 h₁ := T.keep 0 _ _ st fun b _ o e => old b o e
  have I₀ := block_start (tk := s₂.toks + ([] : List (Str × Value)).length) I n hcl hcl2 hCle hfC hf hix hix2 old hns₁
  clear hns₁ hsb₁
  -- the list's own place
  have cellD : ∀ x c, cl.lookup x = some c → c < s₂.heap.objs.size := fun x c e => by
    obtain ⟨v, o, q, _⟩ := I.cell x c (hcl x c e); exact Heap.lt_size q
  have stkD : ∀ b ∈ frs X.stack, b < s₂.heap.objs.size := fun b hb => by
    rcases List.mem_cons.mp (I.stkSub b hb) with e | e
    · rw [e]; exact I.lt
    · obtain ⟨_, o, q, _⟩ := I.funs.mem e; exact Heap.lt_size q
  have fpok : ∀ {ps : List (Addr × Obj)} {H : Hp}, (∀ b ∈ fp, H b = none) → (∀ p ∈ ps, p.1 ∉ fp) → ∀ b ∈ fp, FpOk (blockCx X scope cl H2.objs.size s₂ H₂ fp (own ++ caps)) ps H b := fun {ps H} hn hp b hb =>
    ⟨hn b hb, Nat.ne_of_lt (hfC b hb), fun z => by
      rcases List.mem_cons.mp (I.stkSub b z) with e | e
      · exact (hf b hb).2.1 e
      · exact (hf b hb).2.2.1 e, .inl hb, fun x c e => (hf b hb).2.2.2.2.1 x c (hcl x c e), fun p hp' z => hp p (by simpa [blockCx] using hp') (z ▸ hb)⟩
  have Dfp : s₂.heap.objs.size ∉ fp := fun z => Nat.lt_irrefl _ (fplt _ z)
  have pinD : ∀ {H : Hp} {h : Heap} {its : List Value} {k : Nat}, H s₂.heap.objs.size = none → h.get? s₂.heap.objs.size = some { cls := .type "list", data := .seq its.toArray k } →
      ∀ p ∈ [((s₂.heap.objs.size, { cls := .type "list", data := .seq its.toArray k }) : Addr × Obj)], h.get? p.1 = some p.2 ∧ H p.1 = none ∧ p.1 ≠ H2.objs.size ∧ p.1 ∉ frs X.stack ∧ ∀ v, p.2.data ≠ .cell v := fun {H h its k} hn e p hp => by
    rw [List.mem_singleton.mp hp]
    exact ⟨e, hn, hDC, fun z => Nat.lt_irrefl _ (stkD _ z), fun v z => by cases z⟩
  have loop : ∀ s₃ : Shared, s₃ = { s₂ with heap := h₁, toks := s₂.toks + ([] : List (Str × Value)).length } →
      codeAny (model X.prog X.w) X.A (.compLoop (.ListComp elt [⟨tg, iter, ifs, 0⟩] scope pos) 0 (.ref it) (.ref s₂.heap.objs.size) (compEnvC scope cl H2.objs.size X.env)) (RR (.ref s₂.heap.objs.size) H2.objs.size) s₃ := by
    rintro s₃ rfl
    obtain ⟨n0, hW0⟩ := hW0
    refine compLoop_go (fun n s' => ∃ i ys its k τ H, Inv (blockCx X scope cl H2.objs.size s₂ H₂ fp (own ++ caps)) [(s₂.heap.objs.size, { cls := .type "list", data := .seq its.toArray k })] τ H s' ∧ tn i s'.heap ∧ (∀ b ∈ fp, H b = none) ∧ Vals ys its ∧ ys.length ≤ sizeLine ∧ W i n ys τ H) ?_ n0
      ⟨0, [], [], 0, _, H₂, I₀.pins_of (pinD (I.hok.fresh (Nat.le_refl _)) hacc), st₁, fun b hb => (hf b hb).1, .nil, Nat.zero_le _, hW0⟩
    rintro n s3 ⟨i, ys, its, k, τ, H, I3, st3, fr3, rv, hz, w3⟩
    have hD3 := I3.pin _ (List.mem_append_right _ List.mem_cons_self)
    have pfp : ∀ p ∈ [((s₂.heap.objs.size, { cls := .type "list", data := .seq its.toArray k }) : Addr × Obj)], p.1 ∉ fp := fun p hp => by rw [List.mem_singleton.mp hp]; exact Dfp
    rcases hW i n ys τ H w3 with ⟨stop, q⟩ | ⟨go, hlt, step⟩
    · refine thn (T.done (blockCx X scope cl H2.objs.size s₂ H₂ fp (own ++ caps)) rfl rfl rfl hc i _ s3 τ H (fun _ _ => False) I3 (fpok fr3 pfp) st3 stop) fun r s4 ⟨hr, I4⟩ => ?_
      subst hr
      have hD4 := I4.pin _ (List.mem_append_right _ List.mem_cons_self)
      obtain ⟨m, hm, _⟩ := id I4.loc
      have IX : Inv X pins σ H s4 := I.call' (ch := fp) I4.os I4.base I4.hok I4.bare fun b hb => ⟨(hf b hb).2.2.2.1, (hf b hb).2.1, (hf b hb).2.2.2.2⟩
      have fD : FpOk X pins H s₂.heap.objs.size := I.fpOk (Nat.le_refl _) hD4.2.1
      have IY := Inv.adopt (o := .lst ys) IX fD I.sz ⟨hz, its, k, rv, hD4.1⟩
      exact hRR _ _ s4 m H ys hm IY (I.fpOk hCle (by rw [L2.upd_ne (Ne.symm hDC)]; exact I4.free)) (q _ hD4.2.1)
    · refine thn (T.item (blockCx X scope cl H2.objs.size s₂ H₂ fp (own ++ caps)) rfl rfl rfl hc i _ s3 τ H (fun _ _ => False) I3 (fpok fr3 pfp) st3 go) fun r s4 ⟨u, hr, h4⟩ => ?_
      subst hr
      refine thn h4 fun _ s5 ⟨x, H5, I5, r5, y5, st5, fr5⟩ => ?_
      have I5' := I5.pinned (fpok fr5 pfp) (T.obj _ _ st5)
      refine thn (hg _ _ s5 τ H5 x u _ I5' r5 (step x H5 y5)) fun _ s6 ⟨σ6, H6, I6, q6⟩ => ?_
      refine thn (ht _ _ s6 σ6 H6 _ I6 q6) fun ok s7 ⟨H7, I7, q7⟩ => ?_
      have memD : ∀ p ∈ pinsAt fp s5.heap, p.1 ≠ s₂.heap.objs.size := fun p hp z => Dfp (z ▸ (of_pinsAt hp).1)
      cases ok with
      | true =>
        refine thn (he _ _ s7 σ6 H7 _ I7 q7) fun u8 s8 ⟨y, H8, I8, r8, n', hn', w8⟩ => ?_
        have hD8 := I8.pin (s₂.heap.objs.size, _) (List.mem_append_right _ (List.mem_append_left _ List.mem_cons_self))
        refine append_at (hsz := by rw [List.size_toArray, ← rv.length]; exact hz) hD8.1 fun h9 sb hD9 => ?_
        have I8' : Inv (blockCx X scope cl H2.objs.size s₂ H₂ fp (own ++ caps)) (pinsAt fp s5.heap) σ6 H8 s8 := I8.pins_of fun p hp => I8.pin p (List.mem_append_right _ (List.mem_append_right _ hp))
        have I9 : Inv (blockCx X scope cl H2.objs.size s₂ H₂ fp (own ++ caps)) (pinsAt fp s5.heap) σ6 H8 { s8 with heap := h9 } := I8'.turned (t' := s8.toks) (it := s₂.heap.objs.size) (fun b o hb e => sb.extBut b o hb e) hD8.2.1 hDC (.inr (Nat.le_refl _))
          (fun x c e => Nat.ne_of_lt (cellD x c e)) fun p hp => memD p (by simpa [blockCx] using hp)
        have e9 : (its.toArray.push u8) = (its ++ [u8]).toArray := by simp
        rw [e9] at hD9
        refine ⟨n', hn', i + 1, ys ++ [y], its ++ [u8], k + 1, σ6, H8, I9.pins_of (pinD hD8.2.1 hD9), T.keep _ _ _ st5 fun b hb o e => (I9.pin (b, o) (List.mem_append_right _ (mem_pinsAt hb e))).1, fun b hb => ?_, rv.append (.cons r8 .nil), by rw [List.length_append]; exact hlt, w8⟩
        obtain ⟨o, e, d⟩ := T.obj _ _ st5 b hb
        exact (I9.pin (b, o) (List.mem_append_right _ (mem_pinsAt hb e))).2.1
      | false =>
        obtain ⟨n', hn', w8⟩ := q7
        have hD7 := I7.pin (s₂.heap.objs.size, _) (List.mem_append_right _ (List.mem_append_left _ List.mem_cons_self))
        refine ⟨n', hn', i + 1, ys, its, k, σ6, H7, I7.pins_of (pinD hD7.2.1 hD7.1), T.keep _ _ _ st5 fun b hb o e => (I7.pin (b, o) (List.mem_append_right _ (List.mem_append_right _ (mem_pinsAt hb e)))).1, fun b hb => ?_, rv, hz, w8⟩
        obtain ⟨o, e, d⟩ := T.obj _ _ st5 b hb
        exact (I7.pin (b, o) (List.mem_append_right _ (List.mem_append_right _ (mem_pinsAt hb e)))).2.1
  exact codeAny_compStart_list (loop _ rfl) (T.self _ 0 _ _ _ st₁ (loop _ rfl))
theorem pe_comp0 {X : Cx} {elt tg iter : Expr} {ifs : List Expr} {scope : Scope} {pos : Pos} {own caps : List Str} {ix : List Nat} {wi : TI} {g : TG} {tc : TT} {te : TE} (hc : X.calm = true) (n : CompNames X.env.scope scope own caps)
    (hix : ix.length = caps.length) (hix2 : ∀ (j i : Nat) y, ix[j]? = some i → caps[j]? = some y → X.N[i]? = some y) (hi : PI X tg iter wi)
    (hb : ∀ cl C s₂ H₂ fp, PG (blockCx X scope cl C s₂ H₂ fp (own ++ caps)) tg g ∧ PIfs (blockCx X scope cl C s₂ H₂ fp (own ++ caps)) ifs tc ∧ PE (blockCx X scope cl C s₂ H₂ fp (own ++ caps)) elt te)
    (hs : ∀ x, foldedSetIterable iter X.env x = pure x := by intro _; rfl) : PE X (.ListComp elt [⟨tg, iter, ifs, 0⟩] scope pos) (tComp ix own wi g tc te) := by
  intro pins s σ H Q I h
  obtain ⟨cl, hclos, hcl, hcl2⟩ := closure_ok (env := X.env) (scope := scope) fun y hy hf => I.ok.has y.1 (n.free y hy hf)
  rw [eval_ListComp]
  refine wpAny_comprehension_free (use := none) rfl hs hclos n.kind n.loc (thn (hi pins s σ H _ I h) fun v s1 h1 => thn h1 fun itv s2 h2 => ?_)
  obtain ⟨it, fp, tn, J, H2, e, I2, T, st2, f2, W, w0, turn⟩ := h2
  subst e
  refine block_run (RR := fun acc C => compPost (model X.prog X.w) X.A X.xe none (EP X pins σ Q) acc C) hc I2 T st2 f2 n hcl hcl2 hix hix2 (fun C => (hb cl C s2 H2 fp).1) (fun C => (hb cl C s2 H2 fp).2.1) (fun C => (hb cl C s2 H2 fp).2.2) W w0 turn ?_
  intro D C s' m H' ys hm IY fC q
  refine ⟨m, hm, fun h' sb => ⟨.ref D, _, IY.turned (t' := s'.toks) (it := C) (fun b o hb e => sb.extBut b o hb e) fC.1 fC.2.1 fC.2.2.2.1 fC.2.2.2.2.1 fC.2.2.2.2.2, rfl, q⟩⟩
section
variable {K : PySem.W.Frag} {m : List Addr} {σ : L2.St} {H : Hp} {Q : VK} {μ : Store}
theorem rd_yes {B : Bool → Hp → Prop} (h : rdT K cYes σ H B) : tYes σ H B := by
  obtain ⟨ρ, μ, m, d, μ', hl, hs, e, k⟩ := h
  cases e
  exact k H m .refl hs
theorem block_rel {ρ : Lo} {k : Nat} {ix : List Nat} {own : List Str} (hk : own.length = k) (h : LRel K m H ρ σ) : LRel K m H (blockLo k ix ρ) (blockSt (own.map fun _ => none) ix σ) := by
  subst hk
  unfold blockLo blockSt
  refine ⟨by simp, fun i d e => ?_⟩
  by_cases hi : i < own.length
  · rw [List.getElem?_append_left (by simpa using hi), List.getElem?_replicate] at e
    split at e <;> cases e
  · rw [List.getElem?_append_right (by simpa using hi)] at e
    rw [List.getElem?_append_right (by simpa using hi)]
    simp only [List.length_replicate, List.length_map] at e ⊢
    generalize i - own.length = j at e ⊢
    rw [List.getElem?_map] at e ⊢
    cases q : ix[j]? with
    | none => rw [q] at e; cases e
    | some i' =>
      rw [q] at e
      have e3 : (ρ[i']?).join = some d := Option.some.inj e
      have e4 : ρ[i']? = some (some d) := by
        cases z : ρ[i']? with
        | none => rw [z] at e3; cases e3
        | some w' => rw [z] at e3; cases w' with
          | none => cases e3
          | some _ => cases e3; rfl
      obtain ⟨v, q1, q2⟩ := h.2 i' d e4
      exact ⟨v, by simp [q1], q2⟩
theorem rd_comp {ix : List Nat} {k : Nat} {own : List Str} {fi : FI} {g : FG} {c : FT} {f : FE} (hk : own.length = k) (h : rdE K (fComp ix k fi g c f) σ H Q) : tComp ix own (rdI K fi) (rdG K g) (rdT K c) (rdE K f) σ H Q := by
  obtain ⟨ρ, μ, m, d, μ', hl, hs, e, kk⟩ := h
  obtain ⟨⟨xs, μ1⟩, e1, e⟩ := Option.bind_eq_some_iff.mp e
  split at e
  · rename_i hz
    obtain ⟨⟨r, μr⟩, e2, e⟩ := Option.bind_eq_some_iff.mp e
    cases e
    refine ⟨ρ, μ, m, xs, μ1, hl, hs, e1, fun J P H1 m1 x1 s1 ok p1 => ?_⟩
    refine ⟨fun i n ys τ H => n = xs.length - i ∧ i ≤ xs.length ∧ ys.length ≤ i ∧ P H ∧ ∃ ρ μ m ds r' , LRel K m H ρ τ ∧ SRel K m H μ ∧ RelDs K H ds ys ∧ compL g c f (xs.drop i) ρ μ = some (r', μr) ∧ r = ds ++ r' ∧
      ∀ v H' m', Ext m H m' H' → SRel K m' H' (μr ++ [.lst r]) → RelR K m' H' (.p μr.length) v → Q v H',
      ⟨_, rfl, Nat.zero_le _, Nat.le_refl _, p1, _, μ1, m1, [], r, block_rel hk (hl.ext x1), s1, by simp only [RelDs], by simpa using e2, rfl, fun v H' m' x2 s2 r2 => kk v H' m' (x1.trans x2) s2 r2⟩, ?_⟩
    rintro i n ys τ H ⟨rfl, hi, hy, p, ρ, μ, m, ds, r', hl, hs, rs, e, er, kk⟩
    by_cases hlt : i < xs.length
    · have hx : xs[i]? = some xs[i] := List.getElem?_eq_getElem hlt
      rw [List.drop_eq_getElem_cons hlt, compL] at e
      obtain ⟨⟨ρ1, μ2⟩, q1, e⟩ := Option.bind_eq_some_iff.mp e
      obtain ⟨⟨b, μ3⟩, q2, e⟩ := Option.bind_eq_some_iff.mp e
      refine .inr ⟨ok.go i _ H hx p, Nat.lt_of_le_of_lt hy (Nat.lt_of_lt_of_le hlt hz), fun x H' y => ?_⟩
      obtain ⟨rfl, rx⟩ := ok.yld i _ H x H' hx p y
      refine ⟨ρ, μ, m, .v xs[i], ρ1, μ2, hl, hs, rx, q1, fun σ1 H1 m1 x1 s1 l1 => ?_⟩
      refine ⟨ρ1, μ2, m1, b, μ3, l1, s1, q2, fun H2 m2 x2 s2 => ?_⟩
      cases b with
      | true =>
        simp only [if_true] at e ⊢
        obtain ⟨⟨y', μ4⟩, q3, e⟩ := Option.bind_eq_some_iff.mp e
        refine ⟨ρ1, μ3, m2, y', μ4, l1.ext x2, s2, q3, fun w H3 m3 x3 s3 r3 => ?_⟩
        cases y' with
        | p _ => cases e
        | s _ _ => cases e
        | x _ => cases e
        | v d1 =>
          obtain ⟨⟨r1, μ5⟩, q4, e⟩ := Option.bind_eq_some_iff.mp e
          cases e
          have x4 := (x1.trans x2).trans x3
          refine ⟨_, (by omega : xs.length - (i + 1) < xs.length - i), rfl, hlt, by rw [List.length_append]; exact Nat.succ_le_succ hy, ok.st _ _ x4.tf p, ρ1, μ4, m3, ds ++ [d1], r1, l1.ext (x2.trans x3), s3,
            (RelDs.tf x4.tf _ _ rs).append (by simp only [RelDs]; exact ⟨w, [], rfl, r3, rfl⟩), q4, by rw [er, List.append_assoc]; rfl, fun v H' m' x5 s5 r5 => kk v H' m' (x4.trans x5) s5 r5⟩
      | false =>
        simp only [Bool.false_eq_true, if_false] at e ⊢
        have x4 := x1.trans x2
        exact ⟨_, (by omega : xs.length - (i + 1) < xs.length - i), rfl, hlt, Nat.le_succ_of_le hy, ok.st _ _ x4.tf p, ρ1, μ3, m2, ds, r', l1.ext x2, s2, RelDs.tf x4.tf _ _ rs, e, er, fun v H' m' x5 s5 r5 => kk v H' m' (x4.trans x5) s5 r5⟩
    · have : i = xs.length := by omega
      subst this
      rw [List.drop_length, compL] at e
      cases e
      refine .inl ⟨ok.stop _ H p (Nat.le_refl _), fun p hp => ?_⟩
      obtain ⟨a1, a2, a3⟩ := new_lst hs rs hp
      rw [List.append_nil] at er
      subst er
      exact kk _ _ _ a1 a2 a3
  · cases e
end
end HW
namespace HW
open PySem PySem.Spec PyProof.Rows L2
mutual
def toPy : D → PyData
  | .non => .none
  | .bl b => .bool b
  | .int i => .int i
  | .str x => .str x
  | .tup xs => .tuple (toPys xs)
  | .fl xs => .list (toPys xs)
  | .fd _ _ => .none
def toPys : List D → List PyData
  | [] => []
  | x :: xs => toPy x :: toPys xs
end
mutual
def okD : Nat → D → Bool
  | _, .non => true
  | _, .bl _ => true
  | _, .int _ => true
  | _, .str x => PyData.strOk x
  | _, .fd _ _ => false
  | 0, .tup _ => false
  | 0, .fl _ => false
  | n + 1, .tup xs => okDs n xs
  | n + 1, .fl xs => okDs n xs
def okDs : Nat → List D → Bool
  | _, [] => true
  | n, x :: xs => okD n x && okDs n xs
end
mutual
def eqD : D → D → Bool
  | .non, .non => true
  | .bl a, .bl b => a == b
  | .bl a, .int j => (if a then 1 else 0) == j
  | .int i, .bl b => i == (if b then 1 else 0)
  | .int i, .int j => i == j
  | .str x, .str y => x == y
  | .tup xs, .tup ys => eqDs xs ys
  | .fl xs, .fl ys => eqDs xs ys
  | .fd _ _, .fd _ _ => true
  | .fd _ _, .non => true
  | .non, .fd _ _ => true
  | _, _ => false
def eqDs : List D → List D → Bool
  | [], [] => true
  | x :: xs, y :: ys => eqD x y && eqDs xs ys
  | _, _ => false
end
mutual
theorem eqD_py : ∀ a b : D, PyData.eqv (toPy a) (toPy b) = eqD a b
  | .non, b => by cases b <;> simp [toPy, PyData.eqv, eqD]
  | .bl _, b => by cases b <;> simp [toPy, PyData.eqv, eqD]
  | .int _, b => by cases b <;> simp [toPy, PyData.eqv, eqD]
  | .str _, b => by cases b <;> simp [toPy, PyData.eqv, eqD]
  | .tup xs, b => by
    cases b with
    | tup ys => simp only [toPy, PyData.eqv, eqD]; exact eqDs_py xs ys
    | _ => simp [toPy, PyData.eqv, eqD]
  | .fl xs, b => by
    cases b with
    | fl ys => simp only [toPy, PyData.eqv, eqD]; exact eqDs_py xs ys
    | _ => simp [toPy, PyData.eqv, eqD]
  | .fd _ _, b => by cases b <;> simp [toPy, PyData.eqv, eqD]
theorem eqDs_py : ∀ a b : List D, PyData.eqvAll (toPys a) (toPys b) = eqDs a b
  | [], b => by cases b <;> simp [toPys, PyData.eqvAll, eqDs]
  | x :: xs, b => by
    cases b with
    | nil => simp [toPys, PyData.eqvAll, eqDs]
    | cons y ys => simp only [toPys, PyData.eqvAll, eqDs, eqD_py x y, eqDs_py xs ys]
end
mutual
theorem okD_py : ∀ (n : Nat) (d : D), okD n d = true → (toPy d).canLay0 = true ∧ (toPy d).depth ≤ n
  | _, .non, _ => by simp [toPy, PyData.canLay0, PyData.depth]
  | _, .bl _, _ => by simp [toPy, PyData.canLay0, PyData.depth]
  | _, .int _, _ => by simp [toPy, PyData.canLay0, PyData.depth]
  | n, .str x, h => by
    have h : PyData.strOk x = true := by cases n <;> simpa [okD] using h
    simp [toPy, PyData.canLay0, PyData.depth, h]
  | n, .fd _ _, h => by cases n <;> simp [okD] at h
  | 0, .tup _, h => by simp [okD] at h
  | 0, .fl _, h => by simp [okD] at h
  | n + 1, .tup xs, h => by
    obtain ⟨a, b⟩ := okDs_py n xs (by simpa [okD] using h)
    simp only [toPy, PyData.canLay0, PyData.depth]
    exact ⟨a, by omega⟩
  | n + 1, .fl xs, h => by
    obtain ⟨a, b⟩ := okDs_py n xs (by simpa [okD] using h)
    simp only [toPy, PyData.canLay0, PyData.depth]
    exact ⟨a, by omega⟩
theorem okDs_py : ∀ (n : Nat) (ds : List D), okDs n ds = true → PyData.canLayAll0 (toPys ds) = true ∧ PyData.depthAll (toPys ds) ≤ n
  | _, [], _ => by simp [toPys, PyData.canLayAll0, PyData.depthAll]
  | n, x :: xs, h => by
    have h' : okD n x = true ∧ okDs n xs = true := by cases n <;> simpa [okDs] using h
    obtain ⟨a1, b1⟩ := okD_py n x h'.1
    obtain ⟨a2, b2⟩ := okDs_py n xs h'.2
    simp only [toPys, PyData.canLayAll0, PyData.depthAll, a1, a2, Bool.and_self, true_and]
    omega
end
theorem shaped_of {d : D} (h : okD 60 d = true) : SeqAt.shaped (toPy d) = true := by
  obtain ⟨a, b⟩ := okD_py 60 d h
  unfold SeqAt.shaped
  rw [a, Bool.true_and]
  exact decide_eq_true (by omega)
section
variable {X : Cx} {pins : List (Addr × Obj)} {σ : L2.St} {H : Hp} {s : Shared}
mutual
theorem reads_of (I : Inv X pins σ H s) : ∀ (k : Nat) (d : D) (v : V) (u : Value), okD k d = true → RelD X.K H d v → RelV v u → ∃ as, Reads s.heap u (toPy d) as
  | _, .non, v, u, _, h, r => by simp only [RelD] at h; subst h; cases r; exact ⟨_, .none⟩
  | _, .bl b, v, u, _, h, r => by simp only [RelD] at h; subst h; cases r; exact ⟨_, .bool b⟩
  | _, .int i, v, u, _, h, r => by simp only [RelD] at h; subst h; obtain ⟨t, rfl⟩ := r; exact ⟨_, .int i t⟩
  | _, .str x, v, u, _, h, r => by simp only [RelD] at h; subst h; obtain ⟨t, rfl⟩ := r; exact ⟨_, .str x t⟩
  | _, .fd _ _, v, u, hk, h, r => by simp [okD] at hk
  | 0, .tup xs, v, u, hk, h, r => by simp [okD] at hk
  | 0, .fl xs, v, u, hk, h, r => by simp [okD] at hk
  | k + 1, .tup xs, v, u, hk, h, r => by
    simp only [RelD] at h
    obtain ⟨a, vs, rfl, q, h⟩ := h
    cases r
    obtain ⟨its, rv, ⟨o, e, c, n, hd⟩, _⟩ := I.tuple q
    obtain ⟨as, ra⟩ := readss_of I k xs vs its (by simpa [okD] using hk) h rv
    exact ⟨_, .tuple e c hd (by simpa using ra)⟩
  | k + 1, .fl xs, v, u, hk, h, r => by
    simp only [RelD] at h
    obtain ⟨a, vs, rfl, q, h⟩ := h
    cases r
    obtain ⟨its, rv, ⟨o, n, e, c, _, hd⟩, _⟩ := I.list q.sq
    obtain ⟨as, ra⟩ := readss_of I k xs vs its (by simpa [okD] using hk) h rv
    exact ⟨_, .list e c hd (by simpa using ra)⟩
theorem readss_of (I : Inv X pins σ H s) : ∀ (k : Nat) (ds : List D) (vs : List V) (us : List Value), okDs k ds = true → RelDs X.K H ds vs → Vals vs us → ∃ as, ReadsAll s.heap us (toPys ds) as
  | _, [], vs, us, _, h, r => by simp only [RelDs] at h; subst h; cases r; exact ⟨_, .nil⟩
  | k, d :: ds, vs, us, hk, h, r => by
    have hk : okD k d = true ∧ okDs k ds = true := by cases k <;> simpa [okDs] using hk
    simp only [RelDs] at h
    obtain ⟨v, vr, rfl, h1, h2⟩ := h
    cases r with
    | cons r1 r2 =>
      obtain ⟨as, q1⟩ := reads_of I k d v _ hk.1 h1 r1
      obtain ⟨bs, q2⟩ := readss_of I k ds vr _ hk.2 h2 r2
      exact ⟨_, .cons q1 q2⟩
end
end
def viewD : R → Store → Option D
  | .v d, _ => some d
  | .p n, μ => match μ[n]? with | some (.lst xs) => some (.fl xs) | some (.fz xs) => some (.fl xs) | _ => none
  | _, _ => none
def eqR (neg : Bool) : R → R → Store → Option (R × Store) := fun x y μ => (viewD x μ).bind fun a => (viewD y μ).bind fun b => if (okD 60 a && okD 60 b) = true then some (.v (.bl (if neg then !eqD a b else eqD a b)), μ) else none
def rEqD (K : PySem.W.Frag) (neg : Bool) : R2 := fun v u H Q => ∃ m μ x y d, SRel K m H μ ∧ RelR K m H x v ∧ RelR K m H y u ∧ eqR neg x y μ = some (.v (.bl d), μ) ∧ Q (.bl d) H
theorem g_eq {K : PySem.W.Frag} {neg : Bool} : GOp K (eqR neg) (rEqD K neg) := by
  intro m H μ x y d μ' v u Q s rx ry e k
  have e0 := e
  unfold eqR at e
  obtain ⟨a, e1, e⟩ := Option.bind_eq_some_iff.mp e
  obtain ⟨b, e2, e⟩ := Option.bind_eq_some_iff.mp e
  split at e
  · cases e
    exact ⟨m, μ, x, y, _, s, rx, ry, e0, k _ H m .refl s (by simp only [RelR, RelD])⟩
  · cases e
theorem view_reads {X : Cx} {pins : List (Addr × Obj)} {σ : L2.St} {H : Hp} {s : Shared} {m : List Addr} {μ : Store} {x : R} {d : D} {v : V} {u : Value} (I : Inv X pins σ H s) (S : SRel X.K m H μ) (r : RelR X.K m H x v) (ru : RelV v u) (e : viewD x μ = some d) (hk : okD 60 d = true) : ∃ as, Reads s.heap u (toPy d) as := by
  cases x with
  | v d' => cases e; exact reads_of I 60 _ _ _ hk r ru
  | s _ _ => cases e
  | x _ => cases e
  | p n =>
    have hl : ∃ xs, d = .fl xs ∧ lstD (.p n) μ = some xs := by
      simp only [viewD] at e
      split at e
      · rename_i xs q; cases e; exact ⟨xs, rfl, by simp [lstD, q]⟩
      · rename_i xs q; cases e; exact ⟨xs, rfl, by simp [lstD, q]⟩
      · cases e
    obtain ⟨xs, rfl, e2⟩ := hl
    obtain ⟨a, vs, rfl, q, rr⟩ := lst_ok S r e2
    cases ru
    obtain ⟨its, rv, ⟨o, n', e, c, _, hd⟩, _⟩ := I.list q
    obtain ⟨as, ra⟩ := readss_of I 59 xs vs its (by simpa [okD] using hk) rr rv
    exact ⟨_, .list e c hd (by simpa using ra)⟩
theorem op_eqD {X : Cx} (hu : X.A.units + 64 < cLine) : OpR X (compareOp .Eq) (rEqD X.K false) := by
  intro pins s σ H v u v' u' Q I rv ru q
  obtain ⟨m, μ, x, y, d, S, rx, ry, e, q⟩ := q
  unfold eqR at e
  obtain ⟨a, e1, e⟩ := Option.bind_eq_some_iff.mp e
  obtain ⟨b, e2, e⟩ := Option.bind_eq_some_iff.mp e
  split at e
  · rename_i z
    rw [Bool.and_eq_true] at z
    cases e
    obtain ⟨as, r1⟩ := view_reads I S rx rv e1 z.1
    obtain ⟨bs, r2⟩ := view_reads I S ry ru e2 z.2
    exact eq_dataH r1 r2 (shaped_of z.1) (shaped_of z.2) hu ⟨_, H, I, by rw [eqD_py]; rfl, q⟩
  · cases e
theorem op_neD {X : Cx} (hu : X.A.units + 64 < cLine) : OpR X (compareOp .NotEq) (rEqD X.K true) := by
  intro pins s σ H v u v' u' Q I rv ru q
  obtain ⟨m, μ, x, y, d, S, rx, ry, e, q⟩ := q
  unfold eqR at e
  obtain ⟨a, e1, e⟩ := Option.bind_eq_some_iff.mp e
  obtain ⟨b, e2, e⟩ := Option.bind_eq_some_iff.mp e
  split at e
  · rename_i z
    rw [Bool.and_eq_true] at z
    cases e
    obtain ⟨as, r1⟩ := view_reads I S rx rv e1 z.1
    obtain ⟨bs, r2⟩ := view_reads I S ry ru e2 z.2
    exact ne_dataH r1 r2 (shaped_of z.1) (shaped_of z.2) hu ⟨_, H, I, by rw [eqD_py]; rfl, q⟩
  · cases e
def isK (neg : Bool) (c : D) : R → Store → Option (R × Store) := fun x μ => match c, x with
  | .non, .v .non => some (.v (.bl (!neg)), μ)
  | .bl b, .v (.bl a) => some (.v (.bl (if neg then !(a == b) else a == b)), μ)
  | _, _ => some (.v (.bl neg), μ)
def rIsK (neg : Bool) (c : V) : R2 := fun x y H Q => y = c ∧ Q (.bl (if neg then !decide (x = c) else decide (x = c))) H
section
variable {X : Cx}
theorem op_isNon : OpR X (compareOp .Is) (rIsK false .non) := op_isN
theorem op_isNotNon : OpR X (compareOp .IsNot) (rIsK true .non) := op_notN
end
theorem isK_ok {K : PySem.W.Frag} {m : List Addr} {H : Hp} {neg : Bool} {c : D} {cv v : V} {x d : R} {μ μ' : Store} (hc : (c = .non ∧ cv = .non) ∨ ∃ b, c = .bl b ∧ cv = .bl b) (r : RelR K m H x v) (e : isK neg c x μ = some (d, μ')) :
    μ' = μ ∧ d = .v (.bl (if neg then !decide (v = cv) else decide (v = cv))) := by
  have nn : ∀ d0, d0 ≠ .non → RelD K H d0 v → v ≠ .non := fun d0 h1 h2 z => by
    subst z
    cases d0 <;> simp only [RelD] at h2 <;> first | exact h1 rfl | (obtain ⟨_, _, _, h, _⟩ := h2; cases h; done) | (obtain ⟨_, _, h, _⟩ := h2; cases h; done) | cases h2
  have nb : ∀ d0 b, (∀ a, d0 ≠ .bl a) → RelD K H d0 v → v ≠ .bl b := fun d0 b h1 h2 z => by
    subst z
    cases d0 <;> simp only [RelD] at h2 <;> first | exact h1 _ rfl | (obtain ⟨_, _, _, h, _⟩ := h2; cases h; done) | (obtain ⟨_, _, h, _⟩ := h2; cases h; done) | cases h2
  have np : ∀ n, RelR K m H (.p n) v → v ≠ .non ∧ ∀ b, v ≠ .bl b := fun n ⟨a, e, _⟩ => ⟨fun z => (by rw [e] at z; cases z), fun b z => (by rw [e] at z; cases z)⟩
  have ns : ∀ b' n, RelR K m H (.s b' n) v → v ≠ .non ∧ ∀ b, v ≠ .bl b := fun b' n ⟨a, _, e, _⟩ => ⟨fun z => (by rw [e] at z; cases z), fun b z => (by rw [e] at z; cases z)⟩
  have nx : ∀ c, RelR K m H (.x c) v → v ≠ .non ∧ ∀ b, v ≠ .bl b := fun c ⟨a, _, _, e, _⟩ => ⟨fun z => (by rw [e] at z; cases z), fun b z => (by rw [e] at z; cases z)⟩
  rcases hc with ⟨rfl, rfl⟩ | ⟨b, rfl, rfl⟩
  · cases x with
    | v d0 =>
      by_cases h0 : d0 = .non
      · subst h0
        have r : v = .non := by simpa only [RelR, RelD] using r
        subst r
        cases e
        cases neg <;> simp
      · have := nn d0 h0 r
        cases d0 <;> first | exact absurd rfl h0 | (cases e; cases neg <;> simp [this])
    | p n => have := (np n r).1; cases e; cases neg <;> simp [this]
    | s b' n => have := (ns b' n r).1; cases e; cases neg <;> simp [this]
    | x c => have := (nx c r).1; cases e; cases neg <;> simp [this]
  · cases x with
    | v d0 =>
      by_cases h0 : ∃ a, d0 = .bl a
      · obtain ⟨a, rfl⟩ := h0
        have r : v = .bl a := by simpa only [RelR, RelD] using r
        subst r
        cases e
        cases neg <;> cases a <;> cases b <;> simp
      · have := nb d0 b (fun a z => h0 ⟨a, z⟩) r
        cases d0 <;> first | exact absurd ⟨_, rfl⟩ h0 | (cases e; cases neg <;> simp [this])
    | p n => have := (np n r).2 b; cases e; cases neg <;> simp [this]
    | s b' n => have := (ns b' n r).2 b; cases e; cases neg <;> simp [this]
    | x c => have := (nx c r).2 b; cases e; cases neg <;> simp [this]
theorem rd_is {K : PySem.W.Frag} {σ : L2.St} {H : Hp} {Q : VK} {fa : FE} {neg : Bool} {c : D} {cv : V} (hc : (c = .non ∧ cv = .non) ∨ ∃ b, c = .bl b ∧ cv = .bl b) (h : rdE K (fUn (isK neg c) fa) σ H Q) : tOp (rIsK neg cv) (rdE K fa) (tC cv) σ H Q := by
  obtain ⟨ρ, μ, m, d, μ', hl, hs, e, k⟩ := h
  obtain ⟨⟨x, μ1⟩, e1, e⟩ := Option.bind_eq_some_iff.mp e
  refine ⟨ρ, μ, m, x, μ1, hl, hs, e1, fun v H1 m1 x1 s1 r1 => ⟨rfl, ?_⟩⟩
  obtain ⟨rfl, rfl⟩ := isK_ok hc r1 e
  exact k _ H1 m1 x1 s1 (by simp only [RelR, RelD])
def tyD : R → Store → Option String
  | .v .non, _ => some "NoneType"
  | .v (.bl _), _ => some "bool"
  | .v (.int _), _ => some "int"
  | .v (.str _), _ => some "str"
  | .v (.tup _), _ => some "tuple"
  | .v (.fl _), _ => some "list"
  | .v (.fd _ _), _ => some "dict"
  | .p n, μ => match μ[n]? with | some (.lst _) => some "list" | some (.fz _) => some "list" | some (.dct _) => some "dict" | _ => none
  | .s _ _, _ => none
  | .x _, _ => none
def isiD (T : String) : R → Store → Option (R × Store) := fun x μ => (tyD x μ).bind fun t => some (.v (.bl (t == T || (t == "bool" && T == "int"))), μ)
def Kinds (K : PySem.W.Frag) (T : String) : Prop := ∀ t ∈ ["NoneType", "bool", "int", "str", "tuple", "list", "dict"], PySem.W.kitOne K (.type t) (.type T) = some (t == T || (t == "bool" && T == "int"))
def rIsi (K : PySem.W.Frag) (T : String) : List V → Hp → VK → Prop := fun vs H Q => ∃ m μ x v d, vs = [v, .ty T] ∧ SRel K m H μ ∧ RelR K m H x v ∧ isiD T x μ = some (.v (.bl d), μ) ∧ Q (.bl d) H
theorem call_isi {X : Cx} {T : String} (hT : Kinds X.K T) : CallR X (.builtin "isinstance") (rIsi X.K T) := by
  intro pins s σ H vs us Q I rv q
  obtain ⟨m, μ, x, v, d, rfl, S, rx, e, q⟩ := q
  obtain ⟨t, e1, e⟩ := Option.bind_eq_some_iff.mp e
  cases e
  cases rv with
  | cons r1 rr =>
    cases rr with
    | cons r2 rr =>
      cases rr
      cases r2
      have fin : ∀ tk, EP X pins σ Q (.bool (t == T || (t == "bool" && T == "int"))) { s with toks := tk } := fun tk => ⟨.bl _, H, I.tok tk, rfl, q⟩
      cases x with
      | v d0 =>
        cases d0 with
        | non => cases e1; have r : v = .non := by simpa only [RelR, RelD] using rx
                 subst r; cases r1; exact PySem.W.kia_one PySem.W.kitx_none I.kIn True.intro (hT _ (by simp)) (fun z => nomatch z) fin
        | bl b => cases e1; have r : v = .bl b := by simpa only [RelR, RelD] using rx
                  subst r; cases r1; exact PySem.W.kia_one PySem.W.kitx_bool I.kIn True.intro (hT _ (by simp)) (fun z => nomatch z) fin
        | int i => cases e1; have r : v = .int i := by simpa only [RelR, RelD] using rx
                   subst r; obtain ⟨t, rfl⟩ := r1; exact PySem.W.kia_one PySem.W.kitx_int I.kIn True.intro (hT _ (by simp)) (fun z => nomatch z) fin
        | str i => cases e1; have r : v = .str i := by simpa only [RelR, RelD] using rx
                   subst r; obtain ⟨t, rfl⟩ := r1; exact PySem.W.kia_one PySem.W.kitx_str I.kIn True.intro (hT _ (by simp)) (fun z => nomatch z) fin
        | tup xs =>
          cases e1
          simp only [RelR, RelD] at rx
          obtain ⟨a, ws, rfl, q', _⟩ := rx
          cases r1
          obtain ⟨its, _, ⟨o, h1, h2, _⟩, _⟩ := I.tuple q'
          exact PySem.W.kia_one PySem.W.kitx_tuple I.kIn ⟨o, h1, h2⟩ (hT _ (by simp)) (fun z => nomatch z) fin
        | fl xs =>
          cases e1
          simp only [RelR, RelD] at rx
          obtain ⟨a, ws, rfl, q', _⟩ := rx
          cases r1
          obtain ⟨its, _, ⟨o, n, h1, h2, _⟩, _⟩ := I.list q'.sq
          exact PySem.W.kia_one PySem.W.kitx_list I.kIn ⟨o, h1, h2⟩ (hT _ (by simp)) (fun z => nomatch z) fin
        | fd ks ds =>
          cases e1
          simp only [RelR, RelD] at rx
          obtain ⟨a, o', es, rfl, q', _⟩ := rx
          cases r1
          obtain ⟨_, _, _, vs, _, p⟩ := (show ObjOk X.prog X.w H s.heap a (.frz o' (.dK es)) from I.hok a _ q')
          obtain ⟨o, es', ep, h1, h2, _⟩ := p
          exact PySem.W.kia_one PySem.W.kitx_dict I.kIn ⟨o, h1, h2.1⟩ (hT _ (by simp)) (fun z => nomatch z) fin
      | s _ _ => cases e1
      | x _ => cases e1
      | p n =>
        obtain ⟨a, rfl, ha⟩ := rx
        cases r1
        simp only [tyD] at e1
        split at e1
        · rename_i xs z
          cases e1
          obtain ⟨ws, q', _⟩ := S.cell n _ a z ha
          obtain ⟨its, _, ⟨o, n, h1, h2, _⟩, _⟩ := I.list (.inl (.inl q'))
          exact PySem.W.kia_one PySem.W.kitx_list I.kIn ⟨o, h1, h2⟩ (hT _ (by simp)) (fun z => nomatch z) fin
        · rename_i xs z
          cases e1
          obtain ⟨o', ws, q', _⟩ := S.cell n _ a z ha
          obtain ⟨its, _, ⟨o, n, h1, h2, _⟩, _⟩ := I.list (.inl (.inr ⟨o', q'⟩))
          exact PySem.W.kia_one PySem.W.kitx_list I.kIn ⟨o, h1, h2⟩ (hT _ (by simp)) (fun z => nomatch z) fin
        · rename_i kvs z
          cases e1
          obtain ⟨es, q', _⟩ := S.cell n _ a z ha
          obtain ⟨_, _, vs, _, p⟩ := (show ObjOk X.prog X.w H s.heap a (.dK es) from I.hok a _ q')
          obtain ⟨o, es', ep, h1, h2, _⟩ := p
          exact PySem.W.kia_one PySem.W.kitx_dict I.kIn ⟨o, h1, h2.1⟩ (hT _ (by simp)) (fun z => nomatch z) fin
        · cases e1
theorem rd_isi {K : PySem.W.Frag} {σ : L2.St} {H : Hp} {Q : VK} {fa : FE} {T : String} (h : rdE K (fUn (isiD T) fa) σ H Q) : tCB (rIsi K T) (tCons (rdE K fa) (tCons (tC (.ty T)) tNil)) σ H Q := by
  obtain ⟨ρ, μ, m, d, μ', hl, hs, e, k⟩ := h
  obtain ⟨⟨x, μ1⟩, e1, e⟩ := Option.bind_eq_some_iff.mp e
  have e0 := e
  obtain ⟨t, e2, e⟩ := Option.bind_eq_some_iff.mp e
  cases e
  exact ⟨ρ, μ, m, x, _, hl, hs, e1, fun v H1 m1 x1 s1 r1 => ⟨m1, _, x, v, _, rfl, s1, r1, e0, k _ H1 m1 x1 s1 (by simp only [RelR, RelD])⟩⟩
def boolsD : List D → Option (List Bool)
  | [] => some []
  | .bl b :: r => (boolsD r).bind fun bs => some (b :: bs)
  | _ :: _ => none
def allD (any : Bool) : List R → Store → Option (R × Store)
  | [x], μ => (lstD x μ).bind fun xs => (boolsD xs).bind fun bs => some (.v (.bl (if any then bs.any id else bs.all id)), μ)
  | _, _ => none
def rAll (K : PySem.W.Frag) (any : Bool) : List V → Hp → VK → Prop := fun vs H Q => ∃ (a : Addr) (bs : List Bool), vs = [.ref a] ∧ SqL K H a (bs.map V.bl) ∧ Q (.bl (if any then bs.any id else bs.all id)) H
theorem bools_rel {K : PySem.W.Frag} {H : Hp} : ∀ {ds : List D} {bs : List Bool} {vs : List V}, boolsD ds = some bs → RelDs K H ds vs → vs = bs.map V.bl
  | [], _, _, e, h => by cases e; simp only [RelDs] at h; exact h
  | .bl b :: r, _, _, e, h => by
    obtain ⟨bs, e1, e⟩ := Option.bind_eq_some_iff.mp e
    cases e
    simp only [RelDs] at h
    obtain ⟨v, vr, rfl, h1, h2⟩ := h
    simp only [RelD] at h1
    subst h1
    rw [bools_rel e1 h2]; rfl
  | .non :: _, _, _, e, _ => by cases e
  | .int _ :: _, _, _, e, _ => by cases e
  | .str _ :: _, _, _, e, _ => by cases e
  | .tup _ :: _, _, _, e, _ => by cases e
  | .fl _ :: _, _, _, e, _ => by cases e
  | .fd _ _ :: _, _, _, e, _ => by cases e
theorem g_all {K : PySem.W.Frag} {any : Bool} : GAr K (allD any) (rAll K any) := by
  intro m H μ xs d μ' vs Q s r e k
  unfold allD at e
  split at e
  · rename_i x
    obtain ⟨ys, e1, e⟩ := Option.bind_eq_some_iff.mp e
    obtain ⟨bs, e2, e⟩ := Option.bind_eq_some_iff.mp e
    cases e
    obtain ⟨v, rfl, r1⟩ := rel1 r
    obtain ⟨a, ws, rfl, q, r2⟩ := lst_ok s r1 e1
    rw [bools_rel e2 r2] at q
    exact ⟨a, bs, rfl, q, k _ H m .refl s (by simp only [RelR, RelD])⟩
  · cases e
theorem bools_at {bs : List Bool} {its : List Value} (r : Vals (bs.map V.bl) its) : ∀ (i : Nat) v, its.toArray[i]? = some v → v = .bool (bs.getD i false) ∧ i < bs.length := fun i v e => by
  have e : its[i]? = some v := by simpa using e
  have hi : i < its.length := (List.getElem?_eq_some_iff.mp e).1
  have hl := r.length
  rw [List.length_map] at hl
  have hb : i < bs.length := by omega
  obtain ⟨u, q1, q2⟩ := Vals.get (i := i) (x := .bl bs[i]) r (by simp [hb])
  rw [e] at q1
  cases q1
  cases q2
  simp [hb]
theorem range_all {bs : List Bool} : ((List.range bs.length).all fun i => bs.getD i false) = bs.all id := by
  rw [Bool.eq_iff_iff, List.all_eq_true, List.all_eq_true]
  constructor
  · intro h x hx
    obtain ⟨i, hi, rfl⟩ := List.getElem_of_mem hx
    have := h i (List.mem_range.mpr hi)
    simpa [hi] using this
  · intro h i hi
    have hi := List.mem_range.mp hi
    have := h bs[i] (List.getElem_mem hi)
    simpa [hi] using this
theorem call_allB {X : Cx} (hc : X.calm = true) : CallR X (.builtin "all") (rAll X.K false) := by
  intro pins s σ H vs us Q I rv q
  obtain ⟨a, bs, rfl, q', q⟩ := q
  cases rv with
  | cons r1 rr =>
    cases rr
    cases r1
    obtain ⟨its, rv, p, hz⟩ := I.list q'
    have hlt : a < s.heap.objs.size := by obtain ⟨o, n, e, _⟩ := p; exact Heap.lt_size e
    refine call_all_walk (wpAny_pyIter_list p.isList ?_)
    refine ⟨_, _, _, _, _, _, fun i => bs.getD i false, rfl, Walks.list (A := X.A.in1) (show X.A.in1.handled = none from I.ok.hd hc) s.heap.objs.size a (Nat.ne_of_lt hlt) its.toArray, ⟨⟨_, Heap.get?_push_size _ rfl, rfl, rfl⟩, p.isList.push _⟩, fun i v s' Q' E' hv hq => ?_, fun h' tk hk => ?_⟩
    · rw [(bools_at rv i v hv).1]
      exact wpAny_truthy_bool hq
    · have hl : its.toArray.size = bs.length := by have := rv.length; rw [List.length_map] at this; simp [this]
      rw [hl, range_all]
      refine ⟨.bl _, H, I.kept (t' := tk) fun b o e => hk b o ?_ (Heap.get?_push_of_some _ e), rfl, q⟩
      intro z
      rw [List.mem_singleton.mp z] at e
      exact absurd (Heap.lt_size e) (Nat.lt_irrefl _)
end HW
namespace HW
open PySem PySem.Spec PyProof.Rows L2 HS
def insI (x : Int) : List Int → List Int
  | [] => [x]
  | y :: ys => if x ≤ y then x :: y :: ys else y :: insI x ys
def isort : List Int → List Int
  | [] => []
  | x :: xs => insI x (isort xs)
theorem vals_ints : ∀ {ns : List Int} {its : List Value}, Vals (ns.map V.int) its → IntsAre its ns
  | [], its, h => by cases h; exact .nil
  | n :: ns, its, h => by
    cases h with
    | cons r t => obtain ⟨tk, rfl⟩ := r; exact .cons n tk (vals_ints t)
def intsD : List D → Option (List Int)
  | [] => some []
  | .int n :: r => (intsD r).map (n :: ·)
  | _ => none
def minD : List R → Store → Option (R × Store)
  | [.v (.int i), .v (.int j)], μ => some (.v (.int (if j < i then j else i)), μ)
  | _, _ => none
theorem rel2 {K : PySem.W.Frag} {m : List Addr} {H : Hp} {x y : R} {vs : List V} (r : RelRs K m H [x, y] vs) : ∃ v w, vs = [v, w] ∧ RelR K m H x v ∧ RelR K m H y w := by
  obtain ⟨v, r, rfl, h1, h2⟩ := r
  obtain ⟨w, r, rfl, h2, h3⟩ := h2
  have h3 : r = [] := h3
  subst h3
  exact ⟨v, w, rfl, h1, h2⟩
theorem g_min {K : PySem.W.Frag} : GAr K minD (fun xs H Q => ∃ i j, xs = [.int i, .int j] ∧ Q (.int (if j < i then j else i)) H) := by
  intro m H μ xs d μ' vs Q s r e k
  unfold minD at e
  split at e
  · cases e
    obtain ⟨v, w, rfl, r1, r2⟩ := rel2 r
    simp only [RelR, RelD] at r1 r2
    subst r1; subst r2
    exact ⟨_, _, rfl, k _ H m .refl s (by simp only [RelR, RelD])⟩
  · cases e
end HW
namespace HW
open PySem PySem.Spec PyProof.Rows L2 HS
def setQ (b : Bool) : List R → Store → Option (R × Store)
  | [x], μ => (itemsD x μ).bind fun ds => (intsD ds).bind fun ns => if ns.length < 4000 then some (.s b (metOf [] ns), μ) else none
  | _, _ => none
def sortedQ (b : Bool) : List R → Store → Option (R × Store)
  | [.s c xs], μ => if c = b ∧ xs.length < 64 then some (.p μ.length, μ ++ [.lst ((isort xs).map D.int)]) else none
  | [x], μ => (lstD x μ).bind fun ds => (intsD ds).bind fun ns => if ns.length < 64 then some (.p μ.length, μ ++ [.lst ((isort ns).map D.int)]) else none
  | _, _ => none
end HW
namespace HW
open PySem PySem.Spec PyProof.Rows L2 HS
def pairsD : List D → Option (List (Key × D))
  | [] => some []
  | .tup [.int i, d] :: r => (pairsD r).map ((.inl i, d) :: ·)
  | _ => none
def putKD (kvs : List (Key × D)) (k : Key) (v : D) : List (Key × D) := if (kvs.any fun kv => decide (kv.1 = k)) = true then kvs.map (fun kv => if kv.1 = k then (kv.1, v) else kv) else kvs ++ [(k, v)]
def putAllD (kvs ps : List (Key × D)) : List (Key × D) := ps.foldl (fun a p => putKD a p.1 p.2) kvs
def KD (K : PySem.W.Frag) (H : Hp) (kvs : List (Key × D)) (es : List (Key × V)) : Prop := es.map (·.1) = kvs.map (·.1) ∧ RelDs K H (kvs.map (·.2)) (es.map (·.2))
theorem KD.nil {K : PySem.W.Frag} {H : Hp} : KD K H [] [] := ⟨rfl, rfl⟩
theorem KD.any {K : PySem.W.Frag} {H : Hp} {kvs : List (Key × D)} {es : List (Key × V)} (r : KD K H kvs es) (k : Key) : (es.any fun kv => decide (kv.1 = k)) = (kvs.any fun kv => decide (kv.1 = k)) := by
  have h1 : ∀ {β : Type} (l : List (Key × β)), (l.any fun kv => decide (kv.1 = k)) = ((l.map (·.1)).any fun x => decide (x = k)) := fun l => by rw [List.any_map]; rfl
  rw [h1, h1, r.1]
theorem KD.cons {K : PySem.W.Frag} {H : Hp} {k k' : Key} {d : D} {v : V} {kvs : List (Key × D)} {es : List (Key × V)} : KD K H ((k, d) :: kvs) ((k', v) :: es) ↔ k' = k ∧ RelD K H d v ∧ KD K H kvs es := by
  constructor
  · rintro ⟨h1, h2⟩
    simp only [List.map_cons, List.cons.injEq] at h1
    obtain ⟨w, r, e, h3, h4⟩ := h2
    simp only [List.map_cons, List.cons.injEq] at e
    obtain ⟨rfl, rfl⟩ := e
    exact ⟨h1.1, h3, h1.2, h4⟩
  · rintro ⟨rfl, h1, h2, h3⟩
    exact ⟨by simp [h2], ⟨_, _, rfl, h1, h3⟩⟩
theorem KD.repl {K : PySem.W.Frag} {H : Hp} {k : Key} {d : D} {v : V} (rd : RelD K H d v) : ∀ {kvs : List (Key × D)} {es : List (Key × V)}, KD K H kvs es → KD K H (kvs.map fun kv => if kv.1 = k then (kv.1, d) else kv) (es.map fun kv => if kv.1 = k then (kv.1, v) else kv)
  | [], [], _ => .nil
  | [], e :: es, h => by have := h.1; simp at this
  | q :: kvs, [], h => by have := h.1; simp at this
  | (a, x) :: kvs, (b, y) :: es, h => by
    obtain ⟨rfl, h1, h2⟩ := KD.cons.mp h
    have ih := KD.repl (k := k) rd h2
    rw [List.map_cons, List.map_cons]
    by_cases e : b = k
    · rw [if_pos e, if_pos e]; exact KD.cons.mpr ⟨rfl, rd, ih⟩
    · rw [if_neg e, if_neg e]; exact KD.cons.mpr ⟨rfl, h1, ih⟩
theorem KD.snoc {K : PySem.W.Frag} {H : Hp} {k : Key} {d : D} {v : V} (rd : RelD K H d v) : ∀ {kvs : List (Key × D)} {es : List (Key × V)}, KD K H kvs es → KD K H (kvs ++ [(k, d)]) (es ++ [(k, v)])
  | [], [], _ => KD.cons.mpr ⟨rfl, rd, .nil⟩
  | [], e :: es, h => by have := h.1; simp at this
  | q :: kvs, [], h => by have := h.1; simp at this
  | (a, x) :: kvs, (b, y) :: es, h => by
    obtain ⟨rfl, h1, h2⟩ := KD.cons.mp h
    exact KD.cons.mpr ⟨rfl, h1, KD.snoc rd h2⟩
theorem KD.put {K : PySem.W.Frag} {H : Hp} {k : Key} {d : D} {v : V} {kvs : List (Key × D)} {es : List (Key × V)} (r : KD K H kvs es) (rd : RelD K H d v) : KD K H (putKD kvs k d) (putK es k v) := by
  unfold putKD putK
  rw [r.any k]
  split
  · exact r.repl rd
  · exact r.snoc rd
def dictD : List R → Store → Option (R × Store)
  | [.p n], μ => match μ[n]? with
    | some (.lst ds) => (pairsD ds).bind fun kvs => some (.p μ.length, μ ++ [.dct (putAllD [] kvs)])
    | _ => none
  | _, _ => none
end HW
namespace HW
open PySem PySem.Spec PyProof.Rows L2
mutual
def flatD : D → Bool
  | .tup xs => flatDs xs
  | .fl _ => false
  | .fd _ _ => false
  | _ => true
def flatDs : List D → Bool
  | [] => true
  | x :: xs => flatD x && flatDs xs
end
def asD : R → Store → Option D
  | .v d, _ => some d
  | .p n, μ => match μ[n]? with
    | some (.lst xs) => some (.fl xs) | some (.fz xs) => some (.fl xs)
    | some (.dct kvs) => some (.fd (kvs.map (·.1)) (kvs.map (·.2))) | some (.fzd kvs) => some (.fd (kvs.map (·.1)) (kvs.map (·.2)))
    | none => none
  | .s _ _, _ => none
  | .x _, _ => none
def valsB : List R → Store → Option (List D)
  | [], _ => some []
  | x :: xs, μ => (asD x μ).bind fun d => (valsB xs μ).bind fun ds => some (d :: ds)
def fCallQ (f : MF) (n : Nat) (fa : FA) : FE := fun ρ μ => (fa ρ μ).bind fun a => (valsB a.1 a.2).bind fun ds => if ds.length = n then (f ds).bind fun d => if flatD d = true then some (.v d, a.2) else none else none
abbrev MC := List D → Option Cell
def flatC : Cell → Bool
  | .lst xs => flatDs xs
  | .dct kvs => flatDs (kvs.map (·.2))
  | _ => false
def finN : Out → Option Cell
  | .rt (.p n) μ => match μ[n]? with | some (.lst xs) => some (.lst xs) | some (.dct kvs) => some (.dct kvs) | _ => none
  | _ => none
def runN (k : Nat) (b : FS) : MC := fun ds => (b (ds.map (fun d => some (.v d)) ++ List.replicate (k - ds.length) none) []).bind finN
def fCallN (f : MC) (n : Nat) (fa : FA) : FE := fun ρ μ => (fa ρ μ).bind fun a => (valsB a.1 a.2).bind fun ds => if ds.length = n then (f ds).bind fun c => if flatC c = true then some (.p a.2.length, a.2 ++ [c]) else none else none
def clrD : R → List R → Store → Option (R × Store)
  | .p n, [], μ => match μ[n]? with | some (.lst _) => some (.v .non, μ.set n (.lst [])) | _ => none
  | _, _, _ => none
def extD : R → List R → Store → Option (R × Store)
  | .p n, [.v (.tup ys)], μ => match μ[n]? with | some (.lst xs) => if xs.length + ys.length ≤ sizeLine then some (.v .non, μ.set n (.lst (xs ++ ys))) else none | _ => none
  | _, _, _ => none
section
variable {P : Program} {w : World} {H H0 : Hp} {h h0 : Heap} {a : Addr} {u : HO} {o : Obj} {fs ex : List Addr}
theorem HOk.thaw (ok : HOk P w H h) (e : H a = some (.frz o u)) (hu : FzOk u) : HOk P w (upd H a u) h := by
  have ne : ∀ c v, H c = some v → v ≠ .frz o u → c ≠ a := fun c v q n z => by rw [z, e] at q; exact n (Option.some.inj q).symm
  have own : ∀ c y, H c = some (.own y) → upd H a u c = some (.own y) := fun c y r => by rw [L2.upd_ne (ne c _ r (by simp))]; exact r
  have tup : ∀ c xs, H c = some (.tup xs) → upd H a u c = some (.tup xs) := fun c xs r => by rw [L2.upd_ne (ne c _ r (by simp))]; exact r
  intro b v q
  by_cases hb : b = a
  · subst hb
    rw [L2.upd_same] at q
    cases q
    exact (ok b _ e).2.stay (fun c v _ q => q) (fun c r => own c _ r) tup
  · rw [L2.upd_ne hb] at q
    exact (ok b v q).stay (fun c v _ q => q) (fun c r => own c _ r) tup
theorem Un.thaw (un : Un fs ex (upd H0 a (.frz o u)) H h0 h) (e : H0 a = some u) (hu : FzOk u) : Un fs ex H0 (upd H a u) h0 h := by
  have nn : ∀ b, H0 b = none → b ≠ a := fun b z y => by rw [y, e] at z; cases z
  have nf : ∀ b v, H0 b = some v → ¬ FzOk v → b ≠ a := fun b v q n => FzOk.ne e hu q n
  refine ⟨fun b ob q n hb hx => un.keep b ob q (by rw [L2.upd_ne (nn b n)]; exact n) hb hx, fun b ob q n hb hx => un.slot b ob q (by rw [L2.upd_ne (nn b n)]; exact n) hb hx, fun b ob q n hx => ?_, un.there, fun b xs q => ?_, fun b ob v q => ?_, fun b ps q => ?_⟩
  · rw [L2.upd_ne (nn b n)]; exact un.free b ob q (by rw [L2.upd_ne (nn b n)]; exact n) hx
  · have hb := nf b _ q fun z => z
    rw [L2.upd_ne hb]; exact un.tups b xs (by rw [L2.upd_ne hb]; exact q)
  · have hb := nf b _ q fun z => z
    rw [L2.upd_ne hb]; exact un.frzs b ob v (by rw [L2.upd_ne hb]; exact q)
  · have hb := nf b _ q fun z => z
    obtain ⟨more, r⟩ := un.tbls b ps (by rw [L2.upd_ne hb]; exact q)
    exact ⟨more, by rw [L2.upd_ne hb]; exact r⟩
end
def bor (sp : Sp) : Sp := fun vs H Q E => sp vs H Q E ∨ ∃ a u, H a = some u ∧ FzOk u ∧ ∀ o, sp vs (upd H a (.frz o u)) (fun v H2 => Q v (upd H2 a u)) E
def borN : Nat → Sp → Sp
  | 0, sp => sp
  | n + 1, sp => bor (borN n sp)
theorem FnOk.bor {P : Program} {w : World} {K : PySem.W.Frag} {mg : Str → Option Value} {base : Heap} {k : Nat} {f : Addr} {fd : FuncData} {ps : List Str} {sp : Sp} (F : FnOk P w K mg base CX0 k f fd ps sp) :
    FnOk P w K mg base CX0 k f fd ps (HW.bor sp) := by
  refine ⟨fun vs H Q E h => ?_, fun A outer s H args us vs Q E hr he hb hv hs => ?_⟩
  · rcases h with h | ⟨a, u, e, hu, h⟩
    · exact F.len vs H Q E h
    · exact F.len _ _ _ _ (h { cls := .none, data := .fields #[] })
  · rcases hs with hs | ⟨a, u, e, hu, hs⟩
    · exact F.run A outer s H args us vs Q E hr he hb hv hs
    · obtain ⟨o, ok⟩ := HOk.frz he.hok e hu
      have nn : ∀ b, H b = none → upd H a (.frz o u) b = none := fun b z => by rw [L2.upd_ne (fun y => by rw [y, e] at z; cases z)]; exact z
      refine codeAny_mono (F.run A outer s (upd H a (.frz o u)) args us vs _ E hr ⟨he.frames, he.mod, fun b ob q => ⟨(he.bs b ob q).1, nn b (he.bs b ob q).2⟩, he.bsz, he.funs, fun b hb => nn b (he.frf b hb), ok, he.bare⟩ hb hv (hs o)) fun r s' hq => ?_
      cases r with
      | error e => exact hq
      | ok fl =>
        cases fl with
        | next => exact hq
        | brk => exact hq
        | cont => exact hq
        | ret x =>
          obtain ⟨v, H', os, bare, un, hok, rv, q⟩ := hq
          exact ⟨v, _, os, bare, Un.thaw un e hu, HOk.thaw hok (un.frzs a o u L2.upd_same) hu, rv, q⟩
theorem FnOk.borN {P : Program} {w : World} {K : PySem.W.Frag} {mg : Str → Option Value} {base : Heap} {k : Nat} {f : Addr} {fd : FuncData} {ps : List Str} {sp : Sp} (F : FnOk P w K mg base CX0 k f fd ps sp) :
    ∀ n, FnOk P w K mg base CX0 k f fd ps (HW.borN n sp)
  | 0 => F
  | n + 1 => FnOk.bor (FnOk.borN F n)
def ovr (H H2 : Hp) : Hp := fun b => match H b with | some u => some u | none => H2 b
def Cz (H H1 : Hp) : Prop := ∀ b, H1 b = H b ∨ ∃ u o, H b = some u ∧ FzOk u ∧ H1 b = some (.frz o u)
section
variable {K : PySem.W.Frag} {H H1 H2 H' : Hp}
theorem Cz.refl : Cz H H := fun _ => .inl rfl
theorem Cz.upd {a : Addr} {u : HO} {o : Obj} (c : Cz H H1) (e : H1 a = some u) (hu : FzOk u) : Cz H (upd H1 a (.frz o u)) := fun b => by
  by_cases hb : b = a
  · subst hb
    rw [L2.upd_same]
    rcases c b with z | ⟨u', o', _, _, z⟩
    · exact .inr ⟨u, o, by rw [← z, e], hu, rfl⟩
    · rw [e] at z; cases z; exact hu.elim
  · rw [L2.upd_ne hb]; exact c b
theorem Cz.trans (c : Cz H H1) (c' : Cz H1 H2) : Cz H H2 := fun b => by
  rcases c' b with z | ⟨u, o, z1, z2, z3⟩
  · rw [z]; exact c b
  · rcases c b with y | ⟨u', o', _, _, y⟩
    · exact .inr ⟨u, o, by rw [← y, z1], z2, z3⟩
    · rw [z1] at y; cases y; exact z2.elim
theorem Cz.tf (c : Cz H H1) : TF H H1 := by
  refine ⟨fun a xs e => ?_, fun a o u e => ?_⟩
  · rcases c a with z | ⟨u, o, z1, z2, z3⟩
    · rw [z, e]
    · rw [e] at z1; cases z1; exact z2.elim
  · rcases c a with z | ⟨u', o', z1, z2, z3⟩
    · rw [z, e]
    · rw [e] at z1; cases z1; exact z2.elim
theorem ovr_sam (s : Sam H H2) : ovr H H2 = H2 := by
  funext b
  unfold ovr
  cases e : H b with
  | none => rfl
  | some u => exact (s b u e).symm
theorem sam_ovr : Sam H (ovr H H2) := fun a o e => by unfold ovr; rw [e]
theorem ovr_upd {a : Addr} {u v : HO} (e : H a = some u) : upd (ovr (upd H a v) H2) a u = ovr H H2 := by
  funext b
  by_cases hb : b = a
  · subst hb; rw [L2.upd_same]; unfold ovr; rw [e]
  · rw [L2.upd_ne hb]; unfold ovr; rw [L2.upd_ne hb]
theorem rd_ovr {a : Addr} {xs : List V} (c : Cz H H1) (s : Sam H1 H2) (h : SqT K H2 a xs) : SqT K (ovr H H2) a xs := by
  have back : ∀ v, ¬ FzOk v → (∀ o u, v = .frz o u → ¬ FzOk u) → H2 a = some v → ovr H H2 a = some v := fun v nf nz e => by
    unfold ovr
    cases q : H a with
    | none => exact e
    | some u =>
      rcases c a with z | ⟨u', o', z1, z2, z3⟩
      · rw [q] at z
        rw [s a u z] at e
        exact e
      · rw [s a _ z3] at e
        cases e
        exact absurd z2 (nz o' u' rfl)
  rcases h with (h | ⟨o, h⟩) | h
  · exact .inl (.inl (back _ (fun z => z) (fun _ _ z => by cases z) h))
  · exact .inl (.inr ⟨o, back _ (fun z => z) (fun o u z => by cases z; exact fun z => z) h⟩)
  · exact .inr h
mutual
theorem flat_ovr (c : Cz H H1) (s : Sam H1 H2) : ∀ (d : D) (v : V), flatD d = true → RelD K H2 d v → RelD K (ovr H H2) d v
  | .non, _, _, h => by simpa only [RelD] using h
  | .bl _, _, _, h => by simpa only [RelD] using h
  | .int _, _, _, h => by simpa only [RelD] using h
  | .str _, _, _, h => by simpa only [RelD] using h
  | .tup xs, v, f, h => by
    simp only [RelD] at h ⊢
    obtain ⟨a, vs, e, q, r⟩ := h
    exact ⟨a, vs, e, rd_ovr c s q, flats_ovr c s xs vs (by simpa only [flatD] using f) r⟩
  | .fl _, _, f, _ => by simp [flatD] at f
  | .fd _ _, _, f, _ => by simp [flatD] at f
theorem flats_ovr (c : Cz H H1) (s : Sam H1 H2) : ∀ (ds : List D) (vs : List V), flatDs ds = true → RelDs K H2 ds vs → RelDs K (ovr H H2) ds vs
  | [], _, _, h => by simpa only [RelDs] using h
  | d :: ds, vs, f, h => by
    simp only [RelDs] at h ⊢
    obtain ⟨v, r, e, h1, h2⟩ := h
    have f' : flatD d = true ∧ flatDs ds = true := by simpa [flatDs] using f
    exact ⟨v, r, e, flat_ovr c s d v f'.1 h1, flats_ovr c s ds r f'.2 h2⟩
end
end
def spX (K : PySem.W.Frag) (n : Nat) (f : List D → Option (Hp → V → Hp → Prop)) : Sp := fun vs H Q _ => ∃ ds P, ds.length = n ∧ RelDs K H ds vs ∧ f ds = some P ∧ ∀ v H', Sam H H' → P H v H' → Q v H'
section
variable {K : PySem.W.Frag} {m : List Addr} {σ : L2.St} {H H0 : Hp} {μ : Store} {Q : VK}
theorem lend {n : Nat} {f : List D → Option (Hp → V → Hp → Prop)} {P : Hp → V → Hp → Prop} {E : XK} (hs : SRel K m H0 μ) : ∀ (rs : List R) (vs vsP : List V) (ds dsP : List D) (H1 : Hp) (Q : VK), Cz H0 H1 → RelDs K H1 dsP vsP → RelRs K m H0 rs vs → valsB rs μ = some ds →
    f (dsP ++ ds) = some P → (dsP ++ ds).length = n → (∀ v H2 H1', Cz H1 H1' → Sam H1' H2 → P H1' v H2 → Q v (ovr H1 H2)) → borN rs.length (spX K n f) (vsP ++ vs) H1 Q E
  | [], vs, vsP, ds, dsP, H1, Q, c, rp, rr, ev, ef, el, k => by
    cases ev
    have rr : vs = [] := rr
    subst rr
    rw [List.append_nil] at ef el ⊢
    exact ⟨dsP, P, el, rp, ef, fun v H' s p => by have := k v H' H1 .refl s p; rwa [ovr_sam s] at this⟩
  | r :: rs, vs, vsP, ds, dsP, H1, Q, c, rp, rr, ev, ef, el, k => by
    obtain ⟨v, ws, rfl, r1, r2⟩ := rr
    obtain ⟨d, e1, ev⟩ := Option.bind_eq_some_iff.mp ev
    obtain ⟨es, e2, ev⟩ := Option.bind_eq_some_iff.mp ev
    cases ev
    have app : ∀ {α : Type} (a : List α) (x : α) (b : List α), a ++ x :: b = a ++ [x] ++ b := fun a x b => by simp
    rw [app] at ef el ⊢
    -- one more argument, its list made known or not
    have go : ∀ (H1' : Hp) (Q' : VK), Cz H1 H1' → RelD K H1' d v → (∀ v H2 H1'', Cz H1' H1'' → Sam H1'' H2 → P H1'' v H2 → Q' v (ovr H1' H2)) → borN rs.length (spX K n f) (vsP ++ [v] ++ ws) H1' Q' E := fun H1' Q' c' rd k' =>
      lend hs rs ws (vsP ++ [v]) es (dsP ++ [d]) H1' Q' (c.trans c') (RelDs.append (RelDs.tf c'.tf _ _ rp) (by simp only [RelDs]; exact ⟨_, _, rfl, rd, rfl⟩)) r2 e2 ef el k'
    cases r with
    | v d' =>
      cases e1
      exact .inl (go H1 Q .refl (RelD.tf c.tf _ _ r1) k)
    | s _ _ => cases e1
    | x _ => cases e1
    | p i =>
      obtain ⟨a, rfl, ha⟩ := r1
      have e1 : (match μ[i]? with | some (.lst xs) => some (D.fl xs) | some (.fz xs) => some (D.fl xs) | some (.dct kvs) => some (D.fd (kvs.map (·.1)) (kvs.map (·.2))) | some (.fzd kvs) => some (D.fd (kvs.map (·.1)) (kvs.map (·.2))) | none => none) = some d := e1
      have lent : ∀ u, FzOk u → H0 a = some u → (∀ H3 o, H3 a = some (.frz o u) → TF H0 H3 → RelD K H3 d (.ref a)) → borN (rs.length + 1) (spX K n f) (vsP ++ [V.ref a] ++ ws) H1 Q E := fun u hu e0 rd => by
        rcases c a with z | ⟨u', o', z1, z2, z3⟩
        · rw [e0] at z
          refine .inr ⟨a, u, z, hu, fun o => ?_⟩
          have c1 : Cz H1 (upd H1 a (.frz o u)) := Cz.refl.upd z hu
          exact go _ _ c1 (rd _ o L2.upd_same (c.tf.trans c1.tf)) fun v H2 H1'' c2 s2 p => by
            rw [ovr_upd z]
            exact k v H2 H1'' (c1.trans c2) s2 p
        · rw [e0] at z1; cases z1
          exact .inl (go H1 Q .refl (rd _ o' z3 c.tf) k)
      have known : ∀ o u, H0 a = some (.frz o u) → RelD K H1 d (.ref a) → borN (rs.length + 1) (spX K n f) (vsP ++ [V.ref a] ++ ws) H1 Q E := fun o u e0 rd => .inl (go H1 Q .refl rd k)
      split at e1
      · rename_i xs q
        cases e1
        obtain ⟨ws', ea, ra⟩ := hs.cell _ _ a q ha
        exact lent (.lst ws') trivial ea fun H3 o e3 t => by simp only [RelD]; exact ⟨a, ws', rfl, .inl ⟨o, e3⟩, RelDs.tf t _ _ ra⟩
      · rename_i xs q
        cases e1
        obtain ⟨o, ws', ea, ra⟩ := hs.cell _ _ a q ha
        exact known o _ ea (by simp only [RelD]; exact ⟨a, ws', rfl, .inl ⟨o, c.tf.frz _ _ _ ea⟩, RelDs.tf c.tf _ _ ra⟩)
      · rename_i kvs q
        cases e1
        obtain ⟨es', ea, e1, e2⟩ := hs.cell _ _ a q ha
        exact lent (.dK es') trivial ea fun H3 o e3 t => by simp only [RelD]; exact ⟨a, o, es', rfl, e3, e1, RelDs.tf t _ _ e2⟩
      · rename_i kvs q
        cases e1
        obtain ⟨o, es', ea, e1, e2⟩ := hs.cell _ _ a q ha
        exact known o _ ea (by simp only [RelD]; exact ⟨a, o, es', rfl, c.tf.frz _ _ _ ea, e1, RelDs.tf c.tf _ _ e2⟩)
      · cases e1
def cX (K : PySem.W.Frag) (f : MC) : List D → Option (Hp → V → Hp → Prop) := fun ds => (f ds).map fun c H v H' => ∃ a, v = .ref a ∧ H a = none ∧ CellR K H' c a
theorem vb_len : ∀ {rs : List R} {ds : List D}, valsB rs μ = some ds → rs.length = ds.length
  | [], _, h => by cases h; rfl
  | r :: rs, ds, h => by
    obtain ⟨d, _, h⟩ := Option.bind_eq_some_iff.mp h
    obtain ⟨es, e2, h⟩ := Option.bind_eq_some_iff.mp h
    cases h
    simp [vb_len e2]
theorem rd_callN {f n fa} {E : XK} (h : rdE K (fCallN f n fa) σ H Q) : tCall (borN n (spX K n (cX K f))) [] E (rdA K fa) σ H Q := by
  obtain ⟨ρ, μ, m, d, μ', hl, hs, e, k⟩ := h
  obtain ⟨⟨xs, μ1⟩, e1, e⟩ := Option.bind_eq_some_iff.mp e
  obtain ⟨ds, e2, e⟩ := Option.bind_eq_some_iff.mp e
  split at e
  · rename_i hn
    obtain ⟨c1, e3, e⟩ := Option.bind_eq_some_iff.mp e
    split at e
    · rename_i hf
      cases e
      refine ⟨ρ, μ, m, xs, _, hl, hs, e1, fun vs H1 m1 x1 s1 r1 => ?_⟩
      have hx : xs.length = n := (vb_len e2).trans hn
      show borN n (spX K n (cX K f)) (vs ++ []) H1 Q E
      rw [List.append_nil, ← hx]
      refine lend (dsP := []) (vsP := []) (P := fun H v H' => ∃ a, v = .ref a ∧ H a = none ∧ CellR K H' c1 a) s1 xs vs ds H1 Q .refl rfl r1 e2 ?_ (by simp [hn, hx]) fun v H2 H1' c s p => ?_
      · rw [List.nil_append]; unfold cX; rw [e3]; rfl
      · obtain ⟨a, rfl, ha, hc⟩ := p
        have h1a : H1 a = none := by
          rcases c a with z | ⟨u, o, _, _, z⟩
          · rw [← z, ha]
          · rw [ha] at z; cases z
        have at' : ∀ u, H2 a = some u → ovr H1 H2 a = some u := fun u q => by unfold ovr; rw [h1a]; exact q
        have hc' : CellR K (ovr H1 H2) c1 a := by
          cases c1 with
          | lst xs => obtain ⟨vs, q, r⟩ := hc; exact ⟨vs, at' _ q, flats_ovr c s _ _ hf r⟩
          | dct kvs => obtain ⟨es, q, q2, r⟩ := hc; exact ⟨es, at' _ q, q2, flats_ovr c s _ _ hf r⟩
          | fz xs => cases hf
          | fzd kvs => cases hf
        have hn' : a ∉ m1 := s1.fresh h1a
        have ext : Ext m1 H1 (m1 ++ [a]) (ovr H1 H2) := by
          have z := Sam.ext (m := m1) (sam_ovr (H := H1) (H2 := H2))
          exact ⟨⟨[a], rfl, fun b hb => by rw [List.mem_singleton.mp hb]; exact h1a⟩, z.tf, z.keep, z.live⟩
        have srel : SRel K (m1 ++ [a]) (ovr H1 H2) (μ1 ++ [c1]) := by
          have s1' := s1.same (sam_ovr (H := H1) (H2 := H2))
          refine ⟨List.nodup_append.mpr ⟨s1.nd, by simp, fun b hb b' hb' => ?_⟩, by simp [s1.len], fun i c' b q1 q2 => ?_⟩
          · rw [List.mem_singleton.mp hb']; rintro rfl; exact hn' hb
          · by_cases hi : i < m1.length
            · rw [List.getElem?_append_left hi] at q2
              rw [List.getElem?_append_left (by rw [← s1.len]; exact hi)] at q1
              exact s1'.cell i c' b q1 q2
            · have hl := s1.len
              rw [List.getElem?_append_right (by omega)] at q2
              rw [List.getElem?_append_right (by omega)] at q1
              have z : i - m1.length = 0 := by
                cases q : i - m1.length with
                | zero => rfl
                | succ k => rw [q] at q2; simp at q2
              have z' : i - μ1.length = 0 := by omega
              rw [z] at q2; rw [z'] at q1
              simp at q1 q2
              subst q1 q2
              exact hc'
        exact k _ _ (m1 ++ [a]) (x1.trans ext) srel ⟨a, rfl, by rw [← s1.len]; simp⟩
    · cases e
  · cases e
end
theorem Fun.okN {P : Program} {w : World} {K : PySem.W.Frag} {mg : Str → Option Value} {base : Heap} {x qual : Str} {st : Stmt} {f : Addr} {fd : FuncData} {N ps : List Str} {k : Nat} {b : FS} (F : Fun K x qual st f fd) (S : FnScope N ps (defScope st))
    (hbody : ∀ (cdv : Value) (A : Around) (outer : List Env) (s : Shared) (H : Hp) (E : XK), Room k (A.deeper (envOfC qual (defScope st) s.heap.objs.size f cdv)) → PSs (cxOf CX0 P w K mg base N qual (defScope st) f cdv A outer s H E).nox (defBody st) (rdS K b)) :
    FnOk P w K mg base CX0 (k + 1) f fd ps (spX K ps.length (cX K (runN N.length b))) := by
  have G : FnOk P w K mg base CX0 (k + 1) f fd ps (fun vs H Q _ => vs.length = ps.length ∧ rdS K b { nx := fun _ H' => Q .non H', rt := Q } (L2.start N vs) H) :=
    L2.Fun.ok F S (fun vs H Q E h => h.1) fun cdv A outer s H vs Q E hr h => ⟨_, hbody cdv A outer s H E hr, h.2⟩
  refine G.imp fun vs H Q E ⟨ds, P', hn, r, e, k⟩ => ⟨by rw [← r.length]; exact hn, ?_⟩
  obtain ⟨c, ec, rfl⟩ := Option.map_eq_some_iff.mp e
  obtain ⟨o, e1, e2⟩ := Option.bind_eq_some_iff.mp ec
  refine ⟨_, [], [], o, start_rel r, .nil, e1, ?_⟩
  cases o with
  | nx ρ μ => cases e2
  | bk ρ μ => cases e2
  | ct ρ μ => cases e2
  | rt d μ =>
    cases d with
    | v d => cases e2
    | s b xs => cases e2
    | x _ => cases e2
    | p n =>
      intro v H' m' x s' r'
      obtain ⟨a, rfl, ha⟩ := r'
      unfold finN at e2
      have cell : ∀ c', μ[n]? = some c' → CellR K H' c' a := fun c' q => s'.cell n c' a q ha
      have free : H a = none := by
        obtain ⟨e, rfl, f⟩ := x.ext
        exact f a (by simpa using List.mem_of_getElem? ha)
      simp only at e2
      split at e2
      · rename_i xs q; cases e2; exact k _ _ x.sam ⟨a, rfl, free, cell _ q⟩
      · rename_i kvs q; cases e2; exact k _ _ x.sam ⟨a, rfl, free, cell _ q⟩
      · cases e2
end HW
namespace HW
open PySem PySem.Spec PyProof.Rows L2
def rAdd0 (K : PySem.W.Frag) : R2 := fun x y H Q => ∃ a b ys, x = .ref a ∧ y = .ref b ∧ SqT K H a [] ∧ SqT K H b ys ∧ ys.length ≤ sizeLine ∧ Q (.ref b) H
theorem op_add0 {X : Cx} : OpR X (binaryOp .Add) (rAdd0 X.K) := by
  intro pins s σ H x y v u Q I rx ry h
  obtain ⟨a, b, ys, rfl, rfl, ha, hb, hz, q⟩ := h
  cases rx
  cases ry
  obtain ⟨its, r1, p1, _⟩ := I.tuple ha
  obtain ⟨its2, r2, p2, _⟩ := I.tuple hb
  cases r1
  obtain ⟨⟨cls, dd, data, sl⟩, ho, hc, n, hd⟩ := id p1
  obtain ⟨⟨cls2, dd2, data2, sl2⟩, ho2, hc2, n2, hd2⟩ := id p2
  simp only at hc hd hc2 hd2
  subst hc hd hc2 hd2
  exact concat_meets ⟨_, ho, rfl⟩ ⟨_, ho2, rfl⟩ noFill_tuple_add seq_tuple_add PySem.F.slot_tuple_add PySem.F.entry_tuple_add (PySem.F.args_tuple_add_2 _ _)
    (tuple_addW0 a b #[] its2.toArray n n2 dd dd2 sl sl2 (by simp)) ⟨ho, ho2, ⟨.ref b, H, I, rfl, q⟩⟩
def addQ : R → R → Store → Option (R × Store)
  | .v (.tup []), .v (.tup ys), μ => if ys.length ≤ sizeLine then some (.v (.tup ys), μ) else none
  | x, y, μ => addD x y μ
theorem g_addQ {K : PySem.W.Frag} : GOp K addQ (fun x y H Q => rAdd' K x y H Q ∨ rAdd0 K x y H Q) := by
  intro m H μ x y d μ' v u Q s rx ry e k
  unfold addQ at e
  split at e
  · split at e
    · rename_i z
      cases e
      have ry' := ry
      simp only [RelR, RelD] at rx ry
      obtain ⟨a, vs, rfl, qa, ra⟩ := rx
      obtain ⟨b, ws, rfl, qb, rb⟩ := ry
      have ra : vs = [] := by simpa only [RelDs] using ra
      subst ra
      exact .inr ⟨a, b, ws, rfl, rfl, qa, qb, by rw [← rb.length]; exact z, k _ H m .refl s ry'⟩
    · cases e
  · exact .inl (g_add m H μ _ _ d μ' v u Q s rx ry e k)
def intD : List R → Store → Option (R × Store)
  | [.v (.int i)], μ => some (.v (.int i), μ)
  | [.v (.bl b)], μ => some (.v (.int (if b then 1 else 0)), μ)
  | _, _ => none
def strD : List R → Store → Option (R × Store)
  | [.v (.int i)], μ => if i.natAbs.log2 < 1920 then some (.v (.str (toString i)), μ) else none
  | _, _ => none
theorem g_str {K : PySem.W.Frag} : GAr K strD (fun xs H Q => ∃ i, xs = [.int i] ∧ i.natAbs.log2 < 1920 ∧ Q (.str (toString i)) H) := by
  intro m H μ xs d μ' vs Q s r e k
  unfold strD at e
  split at e
  · split at e
    · rename_i z
      cases e
      obtain ⟨v, rfl, r1⟩ := rel1 r
      simp only [RelR, RelD] at r1
      subst r1
      exact ⟨_, rfl, z, k _ H m .refl s (by simp only [RelR, RelD])⟩
    · cases e
  · cases e
theorem PSet.or {X : Cx} {t u : TSet} (h : PSet X t) (h' : PSet X u) : PSet X (fun o i v H Q => t o i v H Q ∨ u o i v H Q) := fun pins s σ H o i v ov iv z Q I ro ri rv q => by
  rcases q with q | q
  · exact h pins s σ H o i v ov iv z Q I ro ri rv q
  · exact h' pins s σ H o i v ov iv z Q I ro ri rv q
def keyOf : R → Option Key
  | .v (.int i) => some (.inl i)
  | .v (.str x) => some (.inr x)
  | _ => none
def putC (o i : R) (dv : D) (μ : Store) : Option Store := match o with
  | .p n => match μ[n]? with
    | some (.lst xs) => (match i with | .v (.int k) => (ixN xs.length k).bind fun j => some (μ.set n (.lst (xs.set j dv))) | _ => none)
    | some (.dct kvs) => if kvs.length < sizeLine then (keyOf i).bind fun k => some (μ.set n (.dct (putKD kvs k dv))) else none
    | _ => none
  | _ => none
def gSub (fo fi : FE) : FG := fun d ρ μ => match d with | .v dv => (fo ρ μ).bind fun o => (fi ρ o.2).bind fun i => (putC o.1 i.1 dv i.2).bind fun μ' => some (ρ, μ') | _ => none
end HW
namespace HW
open PySem PySem.Spec PyProof.Rows L2
def bestOf (lt : Int → Int → Bool) (ns : List Int) : Int := ns.getD (argBest (fun i j => lt (ns.getD i 0) (ns.getD j 0)) (ns.length - 1)) 0
def bestD (lt : Int → Int → Bool) : List R → Store → Option (R × Store)
  | [x], μ => (lstD x μ).bind fun ds => (intsD ds).bind fun ns => if ns = [] then none else some (.v (.int (bestOf lt ns)), μ)
  | _, _ => none
end HW
namespace HS
open PySem PySem.Spec PyProof.Rows L2
section
variable {prog : Program} {w : World} {A : Around} {E : Value → Shared → Prop} {s : Shared}
end
end HS
namespace HW
open PySem PySem.Spec PyProof.Rows L2 HS
def intKeys : List Key → Option (List Int)
  | [] => some []
  | .inl n :: r => (intKeys r).map (n :: ·)
  | _ => none
def srtK (b : Bool) : List R → Store → Option (R × Store)
  | [.p n], μ => match μ[n]? with
    | some (.dct kvs) => (intKeys (kvs.map (·.1))).bind fun ns => if ns.length < 64 then some (.p μ.length, μ ++ [.lst ((isort ns).map D.int)]) else none
    | some (.fzd kvs) => (intKeys (kvs.map (·.1))).bind fun ns => if ns.length < 64 then some (.p μ.length, μ ++ [.lst ((isort ns).map D.int)]) else none
    | _ => sortedQ b [.p n] μ
  | xs, μ => sortedQ b xs μ
def fPairs : List (FE × FE) → Lo → Store → Option (List (R × R) × Store)
  | [], _, μ => some ([], μ)
  | (fk, fv) :: r, ρ, μ => (fk ρ μ).bind fun a => (fv ρ a.2).bind fun b => (fPairs r ρ b.2).bind fun c => some ((a.1, b.1) :: c.1, c.2)
def kvsOf : List (R × R) → Option (List (Key × D))
  | [] => some []
  | (x, .v d) :: r => (keyOf x).bind fun k => (kvsOf r).bind fun kvs => some ((k, d) :: kvs)
  | _ => none
def fDisp (prs : List (FE × FE)) : FE := fun ρ μ => (fPairs prs ρ (μ ++ [.dct []])).bind fun a => (kvsOf a.1).bind fun kvs => if kvs.length ≤ 15 then
  (match a.2[μ.length]? with | some (.dct []) => some (.p μ.length, a.2.set μ.length (.dct (putAllD [] kvs))) | _ => none) else none
section
variable {K : PySem.W.Frag} {σ : L2.St}
end
end HW
namespace HW
open PySem PySem.Spec PyProof.Rows L2
def ConstR (K : PySem.W.Frag) (mg : Str → Option Value) (x : Str) (d : D) : Prop := ∃ u v, mg x = some u ∧ RelV v u ∧ ∀ H, RelD K H d v
def CRel (K : PySem.W.Frag) (d : D) (v : V) (u : Value) : Prop := RelV v u ∧ ∀ H, RelD K H d v
def CRels (K : PySem.W.Frag) (ds : List D) (vs : List V) (us : List Value) : Prop := Vals vs us ∧ ∀ H, RelDs K H ds vs
theorem crs_nil {K : PySem.W.Frag} : CRels K [] [] [] := ⟨.nil, fun _ => rfl⟩
theorem crs_cons {K : PySem.W.Frag} {d : D} {v : V} {u : Value} {ds : List D} {vs : List V} {us : List Value} (h : CRel K d v u) (h' : CRels K ds vs us) : CRels K (d :: ds) (v :: vs) (u :: us) :=
  ⟨.cons h.1 h'.1, fun H => by simp only [RelDs]; exact ⟨_, _, rfl, h.2 H, h'.2 H⟩⟩
theorem cr_bl {K : PySem.W.Frag} {b : Bool} : CRel K (.bl b) (.bl b) (.bool b) := ⟨rfl, fun H => by simp only [RelD]⟩
theorem cr_int {K : PySem.W.Frag} {i : Int} {t : Tok} : CRel K (.int i) (.int i) (.int i t) := ⟨⟨t, rfl⟩, fun H => by simp only [RelD]⟩
theorem cr_str {K : PySem.W.Frag} {x : Str} {t : Tok} : CRel K (.str x) (.str x) (.str x t) := ⟨⟨t, rfl⟩, fun H => by simp only [RelD]⟩
theorem cr_tup {K : PySem.W.Frag} {a : Addr} {us : List Value} {n : Nat} {sl : Array (Option Value)} {ds : List D} {vs : List V} (h : K.lookup a = some ⟨.type "tuple", none, .seq us.toArray n, sl⟩) (hz : us.length ≤ sizeLine) (r : CRels K ds vs us) : CRel K (.tup ds) (.ref a) (.ref a) :=
  ⟨rfl, fun H => by simp only [RelD]; exact ⟨a, vs, rfl, .inr ⟨_, us.toArray, n, h, rfl, rfl, rfl, by simpa using hz, by simpa using r.1⟩, r.2 H⟩⟩
theorem const_of {K : PySem.W.Frag} {mg : Str → Option Value} {x : Str} {u : Value} {d : D} {v : V} (hm : mg x = some u) (r : CRel K d v u) : ConstR K mg x d := ⟨u, v, hm, r.1, r.2⟩
def stepV {α : Type} (xs : List α) (lo hi : Option Int) (k : Int) : List α := (let b := sliceBounds lo hi (some k) xs.length; sliceRange b.1 b.2.1 b.2.2).filterMap fun i => xs[i]?
end HW
namespace HW
open PySem PySem.Spec PyProof.Rows L2
def valD (kvs : List (Key × D)) (k : Key) : Option D := (kvs.find? fun kv => decide (kv.1 = k)).map (·.2)
theorem KD.val {K : PySem.W.Frag} {H : Hp} : ∀ {kvs : List (Key × D)} {es : List (Key × V)} (k : Key), KD K H kvs es → (valD kvs k = none ∧ valV es k = none) ∨ ∃ d v, valD kvs k = some d ∧ valV es k = some v ∧ RelD K H d v
  | [], es, k, h => by
    have : es = [] := by simpa using h.1
    subst this
    exact .inl ⟨rfl, rfl⟩
  | (a, d) :: kvs, [], k, h => by have := h.1; simp at this
  | (a, d) :: kvs, (b, v) :: es, k, h => by
    obtain ⟨rfl, h1, h2⟩ := KD.cons.mp h
    by_cases e : b = k
    · refine .inr ⟨d, v, ?_, ?_, h1⟩
      · simp [valD, e]
      · simp [valV, e]
    · have ih := KD.val k h2
      have e1 : valD ((b, d) :: kvs) k = valD kvs k := by simp [valD, e]
      have e2 : valV ((b, v) :: es) k = valV es k := valV_neg e
      rw [e1, e2]; exact ih
def kvsD (x : R) (μ : Store) : Option (List (Key × D)) := match x with
  | .p n => match μ[n]? with | some (.dct kvs) => some kvs | some (.fzd kvs) => some kvs | _ => none
  | _ => none
def fGet (fo fk fx : FE) : FE := fun ρ μ => (fo ρ μ).bind fun o => if (kvsD o.1 o.2).isSome = true then (fk ρ o.2).bind fun k => (fx ρ k.2).bind fun x => (kvsD o.1 x.2).bind fun kvs => (keyOf k.1).bind fun key => some ((match valD kvs key with | some d => .v d | none => x.1), x.2) else none
end HW
namespace HS
open PySem PySem.Spec PyProof.Rows
section
variable {prog : Program} {w : World} {A : Around} {E : Value → Shared → Prop} {h : Heap} {g : Array GenState} {d : Drawn} {t : Nat} {os : OsState} {a : Addr} {its : Array Value} {n : Nat} {sl : Array (Option Value)}
end
section
variable {prog : Program} {w : World} {A : Around} {E : Value → Shared → Prop} {s : Shared}
end
end HS
namespace HW
open PySem PySem.Spec PyProof.Rows L2 HS
def dictQ : List R → Store → Option (R × Store)
  | [.v (.tup ds)], μ => (pairsD ds).bind fun ps => if ps.length ≤ sizeLine then some (.p μ.length, μ ++ [.dct (putAllD [] ps)]) else none
  | xs, μ => dictD xs μ
end HW
namespace HS
open PySem PySem.Spec PyProof.Rows
section
variable {prog : Program} {w : World} {A : Around} {E : Value → Shared → Prop} {s : Shared}
end
end HS
namespace HW
open PySem PySem.Spec PyProof.Rows L2 HS
def setKs (b : Bool) : List R → Store → Option (R × Store)
  | [.p n], μ => match μ[n]? with
    | some (.dct kvs) => (intKeys (kvs.map (·.1))).bind fun ns => if ns.length < 60 then some (.s b (metOf [] ns), μ) else none
    | some (.fzd kvs) => (intKeys (kvs.map (·.1))).bind fun ns => if ns.length < 60 then some (.s b (metOf [] ns), μ) else none
    | _ => setQ b [.p n] μ
  | xs, μ => setQ b xs μ
end HW
namespace HX
open PySem
def Kp (G : Addr → Prop) (S : List Addr) (h h' : Heap) : Prop := ∀ b o, G b → h.get? b = some o → (b ∉ S → h'.get? b = some o) ∧ ∃ sl, h'.get? b = some { o with slots := sl }
abbrev eO (C : Value) (vs : Array Value) : Obj := { cls := C, dict := none, data := .fields vs, slots := #[] }
structure Fl (G : Addr → Prop) (h : Heap) (e : Addr) (C fl : Value) : Prop where
  is : ∃ vs T ts c, ¬ G e ∧ ¬ G T ∧ T ≠ e ∧ h.get? e = some (eO C vs) ∧ vs[1]? = some (.ref T) ∧ h.get? T = some (eO c ts) ∧ ts[3]? = some fl
  all : ∀ b, G b → ∃ o, h.get? b = some o
theorem Kp.refl {G S h} : Kp G S h h := fun b o _ q => ⟨fun _ => q, o.slots, q⟩
theorem Kp.trans {G S h h1 h2} (a : Kp G S h h1) (b : Kp G S h1 h2) : Kp G S h h2 := fun c o g q => by
  obtain ⟨a1, sl, a2⟩ := a c o g q
  refine ⟨fun z => (b c o g (a1 z)).1 z, ?_⟩
  obtain ⟨_, sl', b2⟩ := b c _ g a2
  exact ⟨sl', b2⟩
theorem Kp.mono {G S S' h h'} (a : Kp G S h h') (hs : ∀ b ∈ S, b ∈ S') : Kp G S' h h' := fun b o g q => ⟨fun z => (a b o g q).1 fun y => z (hs b y), (a b o g q).2⟩
theorem Kp.but {G : Addr → Prop} {S h h'} {a : Addr} (n : ¬ G a) (k : Heap.SameBut a h h') : Kp G S h h' := fun b o g q => by
  have e : h'.get? b = some o := (k.2 b fun z => n (z ▸ g)).trans q
  exact ⟨fun _ => e, o.slots, e⟩
theorem Kp.keeps {G : Addr → Prop} {S h h'} (k : ∀ b o, h.get? b = some o → h'.get? b = some o) : Kp G S h h' := fun b o g q => ⟨fun _ => k b o q, o.slots, k b o q⟩
theorem Kp.slots {G : Addr → Prop} {S h h'} (k : Heap.SlotsOnly S h h') : Kp G S h h' := fun b o g q => ⟨fun z => (k.2.1 b z).trans q, k.2.2 b o q⟩
theorem Kp.funs {G : Addr → Prop} {S h h' base} {l : List Env} (k : Kp G S h h') (g : ∀ b ∈ l.filterMap (·.frame), G b) (f : h.FunFrames base l) : h'.FunFrames base l := by
  induction l with
  | nil => trivial
  | cons env r ih =>
    obtain ⟨h1, ⟨L, o, h2, h3, h4, h5⟩, h6⟩ := f
    obtain ⟨_, sl, z⟩ := k L o (g L (by rw [List.filterMap_cons, h2]; exact List.mem_cons_self)) h4
    exact ⟨h1, ⟨L, _, h2, h3, z, h5⟩, ih (fun b hb => g b (by rw [List.filterMap_cons, h2]; exact List.mem_cons_of_mem _ hb)) h6⟩
theorem Fl.mono {G G' : Addr → Prop} {h e C fl} (x : Fl G h e C fl) (m : ∀ b, G' b → G b) : Fl G' h e C fl := by
  obtain ⟨vs, T, ts, c, a1, a2, r⟩ := x.is
  exact ⟨⟨vs, T, ts, c, fun z => a1 (m e z), fun z => a2 (m T z), r⟩, fun b z => x.all b (m b z)⟩
section
variable {prog : Program} {w : World} {A : Around} {E : Value → Shared → Prop} {s : Shared} {G : Addr → Prop} {e : Addr} {C fl : Value} {Q : Unit → Shared → Prop}
end
end HX
namespace HW
open PySem PySem.Spec PyProof.Rows L2
abbrev clsAt (K : PySem.W.Frag) (c : Str) (C : Addr) : Prop := PySem.W.nsIn K mainGlobals c = some (some (.ref C))
section
variable {P : Program} {w : World} {H H0 H1 : Hp} {h h0 h1 h2 : Heap} {a : Addr} {o : HO} {fs fs' S : List Addr} {G : Addr → Prop}
end
section
variable {P : Program} {w : World} {K : PySem.W.Frag} {mg : Str → Option Value} {base : Heap} {N : List Str} {qual : Str} {scope : Scope} {f : Addr} {cd : Value} {A : Around} {outer : List Env} {s0 : Shared} {H0 : Hp} {E : XK}
end
end HW
namespace HW
open PySem PySem.Spec PyProof.Rows L2
structure ClsX (K : PySem.W.Frag) (D : Addr) : Prop where
  dc : PySem.W.hasDictIn K D = true
  ga : PySem.W.findIn K (.ref D) "__getattribute__" = some (some (.builtin "BaseException.__getattribute__"))
  gn : PySem.W.findIn K (.ref D) "__getattr__" = some none
  fi : PySem.W.findIn K (.ref D) "__class__" = some (some (.builtin "object.__class__"))
  mr : PySem.W.mroIn K D (.type "object") = some true
  mb : PySem.W.mroIn K D (.type "BaseException") = some true
  gt : PySem.W.specialIn K (.builtin "object.__class__") "__get__" = some (some (.builtin "getset_descriptor.__get__"))
  tk : PySem.W.takesIn K (.builtin "object.__class__") = some true
def isiX (tbl : Str → Option Bool) : R → Store → Option (R × Store)
  | .x c, μ => (tbl c).bind fun b => some (.v (.bl b), μ)
  | _, _ => none
theorem class_exc {K : PySem.W.Frag} {prog : Program} {w : World} {A : Around} {E : Value → Shared → Prop} {Q : Option Value → Shared → Prop} {s : Shared} {x D : Addr} {ox : Obj} (O : ClsX K D) (X : K.In s.heap) (I : PySem.W.InstAt s.heap x ox D none) (k : Q (some (.ref D)) { s with toks := s.toks + 1 }) :
    wpAny (model prog w) A (getAttr? (.ref x) "__class__") Q E s := by
  obtain ⟨h, g, d, t, os⟩ := s
  have L0 := I.type (M := model prog w)
  have LG := PySem.W.looks_findIn (M := model prog w) X O.ga
  have LA := PySem.W.looks_findIn (M := model prog w) X O.gn
  have LC := PySem.W.looks_findIn (M := model prog w) X O.fi
  have LB := PySem.W.looks_mroIn (M := model prog w) X O.mb
  have f3 := F.attr_ValueError.ga.bind (.ref x)
  unfold getAttr?; unfold getAttrBy?; unfold getAttrBy
  refine wpAny_bind (wpAny_mkText (wpAny_bind (wpAny_attempt (wpAny_holding (wpAny_bind (L0.at (wpAny_bind (LG.at ?_))))))))
  show wpAny _ _ (if (onTheHeap (.ref D) && (Value.builtin "BaseException.__getattribute__" == Value.builtin "object.__getattribute__")) = true then _ else _) _ _ _
  rw [if_neg (show ¬ (onTheHeap (.ref D) && (Value.builtin "BaseException.__getattribute__" == Value.builtin "object.__getattribute__")) = true by rw [show (Value.builtin "BaseException.__getattribute__" == Value.builtin "object.__getattribute__") = false by decide +kernel]; simp)]
  unfold getAttrByItsOwn; unfold hookBefore; rw [if_pos (show onTheHeap (.ref D) = true from rfl)]
  refine wpAny_bind (LA.at ?_)
  repeat (any_goals (first | assumption | wp_step))
  refine codeAny_call_builtin F.attr_ValueError.ga.plain F.entry_bexc_ga ?_
  have hk : builtinKind "BaseException.__getattribute__" = some .slot := (by decide +kernel)
  have hp : splitId "BaseException.__getattribute__" = some ("BaseException", "__getattribute__") := (by decide +kernel)
  have ha := F.args_bexc_ga (.ref x) (.str "__class__" t)
  have LI : PySem.W.Looks (model prog w) h (isInstance (.ref x) (.type "BaseException")) true := L0.andThen LB
  obtain ⟨cd, hcd, _⟩ := PySem.W.any_some O.dc
  have hf : PySem.W.findObj K D none "__class__" = some (.bind (.builtin "getset_descriptor.__get__") (.builtin "object.__class__")) := by
    unfold PySem.W.findObj
    rw [hcd, Option.bind_some, O.fi, Option.bind_some]; simp [O.gt, O.tk]
  have LF := PySem.W.looks_find (M := model prog w) X I hf
  have hx := I.at_
  have hc := I.cls
  simp only [checkBuiltinCall, hk, hp]
  refine wpAny_bind (LI.at ?_)
  repeat (any_goals (first | assumption | (with_reducible refine wpAny_loadPart_at hx ?_; rw [hc]) | with_reducible refine wpAny_bind (LF.at ?_) | wp_step))
  exact PySem.W.class_get (s := ⟨h, g, d, t + 1, os⟩) X I O.mr (wpAny_pure (PySem.W.handed_on rfl (wpAny_pure k)))
theorem kitx_exc {K : PySem.W.Frag} {x D : Addr} {vs : Array Value} (O : ClsX K D) : PySem.W.KitX K (.ref x) (.ref D) (fun h => h.get? x = some (HX.eO (.ref D) vs)) := by
  have inst : ∀ h : Heap, h.get? x = some (HX.eO (.ref D) vs) → PySem.W.InstAt h x (HX.eO (.ref D) vs) D none := fun h e => ⟨e, rfl, rfl, trivial⟩
  obtain ⟨cd, hcd, _⟩ := PySem.W.any_some O.dc
  refine ⟨fun M h X e => (inst h e).type, fun M h X e => ?_, fun h tp dd its n sl X htp => ?_, fun {prog w A E Q s} X e k => ?_⟩
  · unfold PySem.W.clsIn at hcd
    split at hcd
    · rename_i ho
      intro A' Q' E' s' kk q
      unfold isType loadHead; exact wpAny_bind (wpAny_loadPart (kk _ _ (X _ _ ho)) (wpAny_pure q))
    · cases hcd
  · refine Bool.eq_false_iff.mpr fun q => ?_
    have ee : D = tp := Value.ref.inj (beq_iff_eq.mp q)
    subst ee
    unfold PySem.W.clsIn at hcd
    split at hcd
    · rename_i ho
      have z := (X _ _ ho).symm.trans htp; cases z
    · cases hcd
  · exact class_exc O X (inst _ e) k
def rIsx (K : PySem.W.Frag) (tbl : Str → Option Bool) (v : V) : List V → Hp → VK → Prop := fun vs H Q => ∃ m c b x, vs = [x, v] ∧ RelR K m H (.x c) x ∧ tbl c = some b ∧ Q (.bl b) H
def rIsxt (K : PySem.W.Frag) (tbl : Str → Option Bool) (ws : List V) : List V → Hp → VK → Prop := fun vs H Q => ∃ m c b x p, vs = [x, .ref p] ∧ SqT K H p ws ∧ RelR K m H (.x c) x ∧ tbl c = some b ∧ Q (.bl b) H
theorem call_isx {X : Cx} {tbl : Str → Option Bool} {v : V} {u : Value} (hv : RelV v u) (hu : ∀ u', RelV v u' → u' = u) (hO : ∀ c C b, tbl c = some b → clsAt X.K c C → ClsX X.K C ∧ PySem.W.kitOne X.K (.ref C) u = some b) : CallR X (.builtin "isinstance") (rIsx X.K tbl v) := by
  intro pins s σ H vs us Q I rv q
  obtain ⟨m, c, b, x, rfl, rx, e, q⟩ := q
  obtain ⟨a, ws, C, rfl, hH, hc⟩ := rx
  cases rv with
  | cons r1 rr =>
    cases rr with
    | cons r2 rr =>
      cases rr
      cases r1
      have := hu _ r2
      subst this
      obtain ⟨O, kt⟩ := hO c C b e hc
      exact PySem.W.kia_one (kitx_exc O) I.kIn (I.hok a _ hH).1 kt (fun z => nomatch z) fun tk => ⟨.bl b, H, I.tok tk, rfl, q⟩
theorem call_isxt {X : Cx} {tbl : Str → Option Bool} {ws : List V} {us' : List Value} (hu : ∀ us, Vals ws us → us = us') (hO : ∀ c C b, tbl c = some b → clsAt X.K c C → ClsX X.K C ∧ PySem.W.kitAny X.K (.ref C) us' = some b) : CallR X (.builtin "isinstance") (rIsxt X.K tbl ws) := by
  intro pins s σ H vs us Q I rv q
  obtain ⟨m, c, b, x, p, rfl, hT, rx, e, q⟩ := q
  obtain ⟨a, vs', C, rfl, hH, hc⟩ := rx
  cases rv with
  | cons r1 rr =>
    cases rr with
    | cons r2 rr =>
      cases rr
      cases r1
      cases r2
      obtain ⟨O, kt⟩ := hO c C b e hc
      obtain ⟨its, ri, ⟨⟨o, h1, h2, n, h3⟩, h4⟩, _⟩ := I.tupleD hT
      have := hu _ ri
      subst this
      have ho : o = ⟨.type "tuple", none, .seq its.toArray n, o.slots⟩ := by
        have h5 := h4 o h1
        obtain ⟨oc, od, oda, osl⟩ := o
        simp only at h2 h3 h5
        subst h2 h3 h5
        rfl
      rw [ho] at h1
      exact PySem.W.kia_tup (kitx_exc O) I.kIn (I.hok a _ hH).1 h1 kt (fun z => nomatch z) fun tk => ⟨.bl b, H, I.tok tk, rfl, q⟩
def tCs : List V → TA
  | [] => tNil
  | v :: r => tCons (tC v) (tCs r)
theorem tCs_ok {σ : L2.St} {H : Hp} : ∀ {vs : List V} {Q : List V → Hp → Prop}, Q vs H → tCs vs σ H Q
  | [], _, h => h
  | v :: r, Q, h => tCs_ok (vs := r) (Q := fun xs H2 => Q (v :: xs) H2) h
section
variable {K : PySem.W.Frag} {σ : L2.St} {H : Hp} {Q : VK} {fa : FE} {tbl : Str → Option Bool}
theorem rd_isx {v : V} (h : rdE K (fUn (isiX tbl) fa) σ H Q) : tCB (rIsx K tbl v) (tCons (rdE K fa) (tCons (tC v) tNil)) σ H Q := by
  obtain ⟨ρ, μ, m, d, μ', hl, hs, e, k⟩ := h
  obtain ⟨⟨x, μ1⟩, e1, e⟩ := Option.bind_eq_some_iff.mp e
  cases x with
  | x c =>
    obtain ⟨b, e2, e⟩ := Option.bind_eq_some_iff.mp e
    cases e
    exact ⟨ρ, μ, m, .x c, _, hl, hs, e1, fun v' H1 m1 x1 s1 r1 => ⟨m1, c, b, v', rfl, r1, e2, k _ H1 m1 x1 s1 (by simp only [RelR, RelD])⟩⟩
  | v _ => cases e
  | p _ => cases e
  | s _ _ => cases e
theorem rd_isxt {ws : List V} (hw : ws.length ≤ sizeLine) (h : rdE K (fUn (isiX tbl) fa) σ H Q) : tCB (rIsxt K tbl ws) (tCons (rdE K fa) (tCons (tTup (tCs ws)) tNil)) σ H Q := by
  obtain ⟨ρ, μ, m, d, μ', hl, hs, e, k⟩ := h
  obtain ⟨⟨x, μ1⟩, e1, e⟩ := Option.bind_eq_some_iff.mp e
  cases x with
  | x c =>
    obtain ⟨b, e2, e⟩ := Option.bind_eq_some_iff.mp e
    cases e
    refine ⟨ρ, μ, m, .x c, _, hl, hs, e1, fun v' H1 m1 x1 s1 r1 => ?_⟩
    refine tCs_ok ⟨hw, fun p hp => ?_⟩
    have x2 : Ext m1 H1 m1 (upd H1 p (.tup ws)) := .new hp
    exact ⟨m1, c, b, v', p, rfl, .inl (.inl upd_at), r1.ext x2, e2, k _ _ m1 (x1.trans x2) (s1.same (upd_keeps hp)) (by simp only [RelR, RelD])⟩
  | v _ => cases e
  | p _ => cases e
  | s _ _ => cases e
end
end HW
namespace HW
open PySem PySem.Spec PyProof.Rows L2
section
variable {X : Cx} {pins : List (Addr × Obj)} {σ : L2.St} {H : Hp} {s : Shared} {ea : Addr}
end
end HW
namespace HW
open PySem L2
section
variable {K : PySem.W.Frag} {mg : Str → Option Value} {a : Str} {q CH : Addr} {b : Bool} {l : List (Str × Bool)} {cs : List Str} {u : Value} {us : List Value}
theorem clsAt.fn {c : Str} {C C' : Addr} (h : clsAt K c C) (h' : clsAt K c C') : C = C' := by
  have := h.symm.trans h'
  cases this; rfl
end
end HW
namespace HW
open PySem PySem.Spec PyProof.Rows L2
def rSlS : V → Option Int → Option Int → Hp → VK → Prop := fun x lo hi H Q => ∃ z, x = .str z ∧ z.length ≤ sizeLine ∧ Q (.str (Txt.slice z lo hi)) H
theorem sl_str {X : Cx} : SlR X rSlS := by
  intro pins s σ H x v vl vu lo hi sl Q I rx hs pl pu h
  obtain ⟨z, rfl, hz, q⟩ := h
  obtain ⟨t, rfl⟩ := rx
  refine ⟨"str", _, PySem.F.slot_str_getitem.lookup, typeIs_str _ _ _, ?_⟩
  have fin : ∀ (l u : Option (Int × Tok)), lo = l.map (·.1) → hi = u.map (·.1) → s.heap.IsSlice sl l u none → wpAny (model X.prog X.w) X.A (getItem (.str z t) (.ref sl)) (EP X pins σ Q) X.xe s := fun l u e1 e2 hS => by
    subst e1 e2
    refine wpAny_getItem_str_slice (l := l) (u := u) (st := none) hS rfl ?_
    exact post_val_or_str ⟨Nat.le_trans (Txt.slice_le z _ _) hz, fun t' k => ⟨.str _, H, I.tok k, ⟨_, rfl⟩, q⟩⟩
  cases pl with
  | none =>
    cases pu with
    | none => exact fin none none rfl rfl hs
    | int j tj => exact fin none (some (j, tj)) rfl rfl hs
  | int i ti =>
    cases pu with
    | none => exact fin (some (i, ti)) none rfl rfl hs
    | int j tj => exact fin (some (i, ti)) (some (j, tj)) rfl rfl hs
def Its (x : Str) : It := ⟨fun i _ => i < x.cps.size, fun i H v H' => H' = H ∧ ∃ c, x.cps[i]? = some c ∧ v = .str ⟨#[c]⟩, fun i _ => x.cps.size ≤ i⟩
theorem turn_str {P : Program} {w : World} {K : PySem.W.Frag} {tg : Expr} {T : String} (hT : T = "str_ascii_iterator" ∨ T = "str_iterator") (x : Str) (t : Tok) (it : Addr) : Turn P w K tg (Its x) [it] it (fun i h => h.IsStrIter it T x t i) where
  mem := by simp
  obj := fun i h st b hb => by
    have e : b = it := by simpa using hb
    subst e
    obtain ⟨o, e, c, d⟩ := st
    exact ⟨o, e, fun v z => by rw [d] at z; cases z⟩
  keep := fun i h h' st k => let ⟨o, e, r⟩ := st; ⟨o, k it (by simp) o e, r⟩
  item := by
    intro X hP hw hK hc i pins s σ H E I hf st hg
    subst hP hw hK
    obtain ⟨f0, f1, f2, f3, f4, f5⟩ := hf it (by simp)
    have W : Walks X.prog X.w X.A it [it] [it] x.cps.size (SignAt x) (fun i h => h.IsStrIter it T x t i) := by
      rcases hT with rfl | rfl
      · exact Walks.strAscii (I.ok.hd hc) it x t
      · exact Walks.strWide (I.ok.hd hc) it x t
    refine W.item i s _ _ hg st fun v h' tk hv st' kk => ?_
    obtain ⟨c, u, hx, rfl⟩ := hv
    have I1 : Inv X pins σ H { s with heap := h', toks := tk } := I.turned (fun b o hb e => kk b o (by simpa using hb) e) f0 f1 f3 f4 f5
    obtain ⟨o, e, c1, d⟩ := id st'
    exact ⟨_, rfl, go_of (s := { s with heap := h', toks := tk }) e c1 d (by rcases hT with rfl | rfl <;> decide) ⟨.str ⟨#[c]⟩, H, I1, ⟨u, rfl⟩, ⟨rfl, c, hx, rfl⟩, st', fun b hb => (hf b hb).1⟩⟩
  done := by
    intro X hP hw hK hc i pins s σ H E I hf st hg
    subst hP hw hK
    obtain ⟨f0, f1, f2, f3, f4, f5⟩ := hf it (by simp)
    have hx : x.cps[i]? = none := Array.getElem?_eq_none hg
    rcases hT with rfl | rfl
    · exact wpAny_pyNext_ascii_end (I.ok.hd hc) st hx fun h' eb => ⟨rfl, I.turned (t' := s.toks) (fun b o hb e => eb b o hb e) f0 f1 f3 f4 f5⟩
    · exact wpAny_pyNext_wide_end (I.ok.hd hc) st hx fun h' eb => ⟨rfl, I.turned (t' := s.toks) (fun b o hb e => eb b o hb e) f0 f1 f3 f4 f5⟩
  self := fun _ _ _ _ _ st h => by
    rcases hT with rfl | rfl
    · exact wpAny_pyIter_striter_ascii st h
    · exact wpAny_pyIter_striter_wide st h
def iStr (tl : TE) : TI := fun σ H R => tl σ H fun x H1 => ∃ z, x = .str z ∧ R (Its z) H1
theorem pi_str {X : Cx} {tg l : Expr} {tl : TE} (hl : PE X l tl) : PI X tg l (iStr tl) := by
  intro pins s σ H R I h
  refine thn (hl pins s σ H _ I h) fun v s1 ⟨x, H1, I1, r1, q1⟩ => ?_
  obtain ⟨z, rfl, q⟩ := q1
  obtain ⟨t, rfl⟩ := r1
  have fin : ∀ T, (T = "str_ascii_iterator" ∨ T = "str_iterator") → PIE X pins σ tg R (.ref s1.heap.objs.size) { s1 with heap := s1.heap.push { cls := .type T, data := .fields #[.str z t, .int 0 0] } } := fun T hT => by
    refine ⟨s1.heap.objs.size, [s1.heap.objs.size], _, _, H1, rfl, I1.kept (t' := s1.toks) fun b o e => Heap.get?_push_of_some _ e, turn_str hT z t _, ⟨_, Heap.get?_push_size _ rfl, rfl, rfl⟩, fun b hb => ?_, q⟩
    have e : b = s1.heap.objs.size := by simpa using hb
    subst e
    exact I1.fpOk (Nat.le_refl _) (I1.hok.fresh (Nat.le_refl _))
  cases ha : z.cps.all (· < 128)
  · exact wpAny_pyIter_wide ha (fin _ (.inr rfl))
  · exact wpAny_pyIter_ascii ha (fin _ (.inl rfl))
def signs (x : Str) : List D := x.cps.toList.map fun c => D.str ⟨#[c]⟩
def fiStr (f : FE) : FI := fun ρ μ => (f ρ μ).bind fun a => match a.1 with | .v (.str x) => some (signs x, a.2) | _ => none
theorem its_ok {K : PySem.W.Frag} (x : Str) : ItOk K (Its x) (signs x) (fun _ => True) where
  st := fun _ _ _ _ => trivial
  stop := fun i H _ hi => by show x.cps.size ≤ i; simpa [signs] using hi
  go := fun i d H e _ => by
    have := (List.getElem?_eq_some_iff.mp e).1
    show i < x.cps.size; simpa [signs] using this
  yld := fun i d H v H' e _ ⟨e1, c, hc, e2⟩ => by
    refine ⟨e1, ?_⟩
    unfold signs at e
    rw [List.getElem?_map] at e
    have hc' : x.cps.toList[i]? = some c := by simpa using hc
    rw [hc'] at e
    cases e
    rw [e2]; simp only [RelD]
section
variable {K : PySem.W.Frag} {σ : L2.St} {H : Hp} {Q : VK} {RR : It → Hp → Prop}
theorem rd_iStr {f} (h : rdI K (fiStr f) σ H RR) : iStr (rdE K f) σ H RR := by
  obtain ⟨ρ, μ, m, xs, μ', hl, hs, e, k⟩ := h
  obtain ⟨⟨x, μ1⟩, e1, e⟩ := Option.bind_eq_some_iff.mp e
  split at e
  · rename_i z q
    cases e
    simp only at q
    subst q
    refine ⟨ρ, μ, m, _, _, hl, hs, e1, fun v H1 m1 x1 s1 r1 => ?_⟩
    simp only [RelR, RelD] at r1
    exact ⟨z, r1, k _ _ H1 m1 x1 s1 (its_ok z) trivial⟩
  · cases e
def slS (x : R) (lo hi : Option Int) (μ : Store) : Option (R × Store) := match x with
  | .v (.str z) => if z.length ≤ sizeLine then some (.v (.str (Txt.slice z lo hi)), μ) else none
  | _ => none
def ixS : R → R → Store → Option (R × Store)
  | .v (.str z), .v (.int i), μ => if 0 ≤ i ∧ i < 2 ^ 63 ∧ i < z.length then (z.cps[i.toNat]?).bind fun c => some (.v (.str ⟨#[c]⟩), μ) else none
  | _, _, _ => none
theorem g_ixS : GOp K ixS (fun x y H Q => ∃ z i c, x = .str z ∧ y = .int i ∧ 0 ≤ i ∧ i < 2 ^ 63 ∧ i < z.length ∧ z.cps[i.toNat]? = some c ∧ Q (.str ⟨#[c]⟩) H) := by
  intro m H μ x y d μ' v u Q s rx ry e k
  unfold ixS at e
  split at e
  · rename_i z i
    split at e
    · rename_i c
      obtain ⟨c', e1, e⟩ := Option.bind_eq_some_iff.mp e
      cases e
      simp only [RelR, RelD] at rx ry
      subst rx ry
      exact ⟨z, i, c', rfl, rfl, c.1, c.2.1, c.2.2, e1, k _ H m .refl s (by simp only [RelR, RelD])⟩
    · cases e
  · cases e
def lenS : List R → Store → Option (R × Store)
  | [.v (.str z)], μ => if z.length ≤ sizeLine then some (.v (.int z.length), μ) else none
  | _, _ => none
theorem g_lenS : GAr K lenS (fun xs H Q => ∃ z, xs = [.str z] ∧ z.length ≤ sizeLine ∧ Q (.int z.length) H) := by
  intro m H μ xs d μ' vs Q s r e k
  unfold lenS at e
  split at e
  · rename_i z
    split at e
    · rename_i hz
      cases e
      obtain ⟨v, rfl, r1⟩ := rel1 r
      simp only [RelR, RelD] at r1
      subst r1
      exact ⟨z, rfl, hz, k _ H m .refl s (by simp only [RelR, RelD])⟩
    · cases e
  · cases e
def intS : List R → Store → Option (R × Store)
  | [.v (.str z)], μ => if z.length ≤ 640 then (PySem.intText? z).bind fun n => some (.v (.int n), μ) else none
  | _, _ => none
def rIntS : List V → Hp → VK → Prop := fun xs H Q => ∃ z n, xs = [.str z] ∧ z.length ≤ 640 ∧ PySem.intText? z = some n ∧ Q (.int n) H
theorem call_intS {X : Cx} : CallR X (.type "int") rIntS := by
  intro pins s σ H vs us Q I r h
  obtain ⟨z, n, rfl, hz, hn, q⟩ := h
  obtain ⟨u, rfl, rx⟩ := vals1 r
  obtain ⟨t, rfl⟩ := rx
  exact PySem.W.KIN.call_text hn hz ⟨.int n, H, I.tok _, ⟨_, rfl⟩, q⟩
theorem g_intS : GAr K intS rIntS := by
  intro m H μ xs d μ' vs Q s r e k
  unfold intS at e
  split at e
  · rename_i z
    split at e
    · rename_i hz
      obtain ⟨n, e1, e⟩ := Option.bind_eq_some_iff.mp e
      cases e
      obtain ⟨v, rfl, r1⟩ := rel1 r
      simp only [RelR, RelD] at r1
      subst r1
      exact ⟨z, n, rfl, hz, e1, k _ H m .refl s (by simp only [RelR, RelD])⟩
    · cases e
  · cases e
def absD : List R → Store → Option (R × Store)
  | [.v (.int i)], μ => some (.v (.int (if i < 0 then -i else i)), μ)
  | _, _ => none
def inS (neg : Bool) : R → R → Store → Option (R × Store)
  | .v (.str i), .v (.str j), μ => some (.v (.bl (if neg then !(!(Builtin.Str.occurrences j i 0 j.length 1).isEmpty) else !(Builtin.Str.occurrences j i 0 j.length 1).isEmpty)), μ)
  | _, _, _ => none
theorem g_inS : GOp K (inS false) (fun x y H Q => ∃ i j, x = .str i ∧ y = .str j ∧ Q (.bl (!(Builtin.Str.occurrences j i 0 j.length 1).isEmpty)) H) := by
  intro m H μ x y d μ' v u Q s rx ry e k
  unfold inS at e
  split at e
  · rename_i i j
    cases e
    simp only [RelR, RelD] at rx ry
    subst rx ry
    exact ⟨i, j, rfl, rfl, k _ H m .refl s (by simp only [RelR, RelD, Bool.false_eq_true, if_false])⟩
  · cases e
def swD : R → R → Store → Option (R × Store)
  | .v (.str a), .v (.str b), μ => some (.v (.bl (decide (0 + b.length ≤ a.length) && Builtin.Str.subAt a b 0)), μ)
  | _, _, _ => none
abbrev fSw (fa fb : FE) : FE := fOp swD fa fb
def rSw : V → List V → Hp → VK → Prop := fun x ys H Q => ∃ a b, x = .str a ∧ ys = [.str b] ∧ Q (.bl (decide (0 + b.length ≤ a.length) && Builtin.Str.subAt a b 0)) H
theorem mt_sw {X : Cx} : MtR X "str.startswith" rSw := by
  intro pins s σ H x xs v us Q I rx rv h
  obtain ⟨a, b, rfl, rfl, q⟩ := h
  obtain ⟨t, rfl⟩ := rx
  obtain ⟨u, rfl, ru⟩ := vals1 rv
  obtain ⟨t', rfl⟩ := ru
  exact call_gives PySem.F.slot_str_startswith (typeIs_str _ _ _) PySem.F.entry_str_startswith (PySem.F.args_str_startswith_2 _ _) (gives_str_startswith a b t t') ⟨.bl _, H, I, rfl, q⟩
theorem rd_sw {fa fb} (h : rdE K (fSw fa fb) σ H Q) : tBM K "str" rSw (rdE K fa) (tCons (rdE K fb) tNil) σ H Q := by
  obtain ⟨ρ, μ, m, d, μ', hl, hs, e, k⟩ := h
  obtain ⟨⟨x, μ1⟩, e1, e⟩ := Option.bind_eq_some_iff.mp e
  obtain ⟨⟨y, μ2⟩, e2, e⟩ := Option.bind_eq_some_iff.mp e
  unfold swD at e
  split at e
  · rename_i a b q1 q2
    simp only at q1 q2
    subst q1 q2
    cases e
    refine ⟨ρ, μ, m, _, μ1, hl, hs, e1, fun v H1 m1 x1 s1 r1 => ?_⟩
    simp only [RelR, RelD] at r1
    subst r1
    refine ⟨rfl, ρ, μ1, m1, _, _, hl.ext x1, s1, e2, fun u H2 m2 x2 s2 r2 => ?_⟩
    simp only [RelR, RelD] at r2
    subst r2
    exact ⟨a, b, rfl, rfl, k _ H2 m2 (x1.trans x2) s2 (by simp only [RelR, RelD])⟩
  · cases e
def fCh (g g' : R → R → Store → Option (R × Store)) (fa fb fc : FE) : FE := fun ρ μ => (fa ρ μ).bind fun a => (fb ρ a.2).bind fun b => (g a.1 b.1 b.2).bind fun z => match z.1 with
  | .v (.bl k) => if k = true then (fc ρ z.2).bind fun c => g' b.1 c.1 c.2 else some (.v (.bl false), z.2)
  | _ => none
theorem rd_ch {g g' r r' fa fb fc} (hg : GOp K g r) (hg' : GOp K g' r') (h : rdE K (fCh g g' fa fb fc) σ H Q) : tChain r r' (rdE K fa) (rdE K fb) (rdE K fc) σ H Q := by
  obtain ⟨ρ, μ, m, d, μ', hl, hs, e, k⟩ := h
  obtain ⟨⟨x, μ1⟩, e1, e⟩ := Option.bind_eq_some_iff.mp e
  obtain ⟨⟨y, μ2⟩, e2, e⟩ := Option.bind_eq_some_iff.mp e
  obtain ⟨⟨z, μ3⟩, e3, e⟩ := Option.bind_eq_some_iff.mp e
  split at e
  · rename_i b q
    simp only at q
    subst q
    refine ⟨ρ, μ, m, x, μ1, hl, hs, e1, fun v H1 m1 x1 s1 r1 => ?_⟩
    refine ⟨ρ, μ1, m1, y, μ2, hl.ext x1, s1, e2, fun u H2 m2 x2 s2 r2 => ?_⟩
    refine hg m2 H2 μ2 x y _ μ3 v u _ s2 (r1.ext x2) r2 e3 fun w H3 m3 x3 s3 r3 => ?_
    simp only [RelR, RelD] at r3
    refine ⟨b, r3, ?_⟩
    cases b with
    | true =>
      rw [if_pos rfl] at e ⊢
      obtain ⟨⟨c, μ4⟩, e4, e⟩ := Option.bind_eq_some_iff.mp e
      refine ⟨ρ, μ3, m3, c, μ4, hl.ext ((x1.trans x2).trans x3), s3, e4, fun w' H4 m4 x4 s4 r4 => ?_⟩
      exact hg' m4 H4 μ4 y c d μ' u w' Q s4 ((r2.ext x3).ext x4) r4 e fun w5 H5 m5 x5 s5 r5 => k w5 H5 m5 ((((x1.trans x2).trans x3).trans x4).trans x5) s5 r5
    | false =>
      rw [if_neg Bool.false_ne_true] at e ⊢
      cases e
      exact k _ H3 m3 ((x1.trans x2).trans x3) s3 (by simp only [RelR, RelD])
  · cases e
end
end HW
namespace HW
open PySem PySem.Spec PyProof.Rows L2
theorem texts_vals : ∀ {its : List Value} {ts : List Str}, Vals (ts.map V.str) its → ∃ l : List (Str × Tok), its = strValues l ∧ l.map (·.1) = ts
  | its, [], r => by
    have := r.length
    cases its with
    | nil => exact ⟨[], rfl, rfl⟩
    | cons a b => simp at this
  | its, x :: ts, r => by
    cases r with
    | cons r1 r2 =>
      obtain ⟨l, e1, e2⟩ := texts_vals r2
      obtain ⟨t, rfl⟩ := r1
      exact ⟨(x, t) :: l, by rw [e1]; rfl, by rw [List.map_cons, e2]⟩
theorem vals_texts : ∀ (l : List (Str × Tok)), Vals ((l.map (·.1)).map V.str) (strValues l)
  | [] => .nil
  | (x, t) :: l => .cons ⟨t, rfl⟩ (vals_texts l)
def rJoin (K : PySem.W.Frag) : V → List V → Hp → VK → Prop := fun x ys H Q => ∃ a p ts, x = .str a ∧ ys = [.ref p] ∧ SqL K H p (ts.map V.str) ∧ JoinOk a ts = true ∧ Q (.str (Txt.join a ts)) H
theorem mt_join {X : Cx} : MtR X "str.join" (rJoin X.K) := by
  intro pins s σ H x xs v us Q I rx rv h
  obtain ⟨a, p, ts, rfl, rfl, hq, hok, q⟩ := h
  obtain ⟨t, rfl⟩ := rx
  obtain ⟨u, rfl, ru⟩ := vals1 rv
  cases ru
  obtain ⟨its, r', pl, hz⟩ := I.list hq
  obtain ⟨l, rfl, e2⟩ := texts_vals r'
  exact SC.join pl.isList e2 hok fun t' k => ⟨.str _, H, I.tok k, ⟨_, rfl⟩, q⟩
def rSplit : V → List V → Hp → VK → Prop := fun x ys H Q => ∃ a b, x = .str a ∧ ys = [.str b] ∧ (b.length == 0) = false ∧ a.length < 4000 ∧ ∀ p, H p = none → Q (.ref p) (upd H p (.lst ((Txt.split a b).map V.str)))
theorem parts_few (a b : Str) (hb : (b.length == 0) = false) : (Builtin.Str.partsBetween a (Builtin.Str.occurrences a b 0 a.length (a.length + 1)) b.length).length ≤ a.length + 2 := by
  have := PySem.StrLaws.occ_length_le a b 0 a.length (a.length + 1)
  have e : ∀ cuts : List Nat, (Builtin.Str.partsBetween a cuts b.length).length = cuts.length + 1 := fun cuts => by simp [Builtin.Str.partsBetween]
  rw [e]
  omega
theorem split_few (a b : Str) (hb : (b.length == 0) = false) : (Txt.split a b).length ≤ a.length + 2 := by
  unfold Txt.split
  split
  · simp
  · split
    · simp
    · exact parts_few a b hb
theorem mt_split {X : Cx} : MtR X "str.split" rSplit := by
  intro pins s σ H x xs v us Q I rx rv h
  obtain ⟨a, b, rfl, rfl, hb, hz, q⟩ := h
  obtain ⟨t, rfl⟩ := rx
  obtain ⟨u, rfl, ru⟩ := vals1 rv
  obtain ⟨t', rfl⟩ := ru
  have h4 : (4000 + 2 : Nat) ≤ sizeLine := by decide
  have hp := parts_few a b hb
  have hs := split_few a b hb
  cases h1 : (decide (a.length < b.length) || decide (Builtin.Str.strKind a < Builtin.Str.strKind b))
  · cases hf : (Builtin.Str.occurrences a b 0 a.length (a.length + 1)).isEmpty
    · refine call_meets PySem.F.slot_str_split (typeIs_str _ _ _) PySem.F.entry_str_split (PySem.F.args_str_split_2 _ _) (meets_str_split_sep a b t t' h1 hb hf (by omega) (by omega)) ?_
      have e : Txt.split a b = Builtin.Str.partsBetween a (Builtin.Str.occurrences a b 0 a.length (a.length + 1)) b.length := by
        unfold Txt.split; rw [h1, hf]; rfl
      rw [e] at q hs
      rw [strsFrom_eq]
      have hv := vals_texts (numbered s.toks (Builtin.Str.partsBetween a (Builtin.Str.occurrences a b 0 a.length (a.length + 1)) b.length))
      rw [numbered_texts] at hv
      exact ⟨.ref s.heap.objs.size, _, I.lnew hv (by rw [List.length_map]; omega), rfl, q _ I.fresh⟩
    · have e : Txt.split a b = [a] := by unfold Txt.split; rw [h1, hf]; rfl
      rw [e] at q
      exact call_meets PySem.F.slot_str_split (typeIs_str _ _ _) PySem.F.entry_str_split (PySem.F.args_str_split_2 _ _) (meets_str_split_not_found a b t t' h1 hb hf)
        ⟨.ref s.heap.objs.size, _, I.lnew (its := [.str a t]) (t' := s.toks) (vals_texts [(a, t)]) (show 1 ≤ sizeLine by decide), rfl, q _ I.fresh⟩
  · have e : Txt.split a b = [a] := by unfold Txt.split; rw [h1]; rfl
    rw [e] at q
    exact call_meets PySem.F.slot_str_split (typeIs_str _ _ _) PySem.F.entry_str_split (PySem.F.args_str_split_2 _ _) (meets_str_split_cannot_occur a b t t' h1)
      ⟨.ref s.heap.objs.size, _, I.lnew (its := [.str a t]) (t' := s.toks) (vals_texts [(a, t)]) (show 1 ≤ sizeLine by decide), rfl, q _ I.fresh⟩
structure GSm (K : PySem.W.Frag) (g : R → R → Store → Option (R × Store)) (r : V → List V → Hp → VK → Prop) : Prop where
  str : ∀ {x y μ z}, g x y μ = some z → ∃ a, x = .v (.str a)
  go : ∀ {m H μ x y d μ' v u} {Q : VK}, SRel K m H μ → RelR K m H x v → RelR K m H y u → g x y μ = some (d, μ') → (∀ w H' m', Ext m H m' H' → SRel K m' H' μ' → RelR K m' H' d w → Q w H') → r v [u] H Q
section
variable {K : PySem.W.Frag} {σ : L2.St} {H : Hp} {Q : VK}
theorem rd_bmS {g r fa fb} (hg : GSm K g r) (h : rdE K (fOp g fa fb) σ H Q) : tBM K "str" r (rdE K fa) (tCons (rdE K fb) tNil) σ H Q := by
  obtain ⟨ρ, μ, m, d, μ', hl, hs, e, k⟩ := h
  obtain ⟨⟨x, μ1⟩, e1, e⟩ := Option.bind_eq_some_iff.mp e
  obtain ⟨⟨y, μ2⟩, e2, e⟩ := Option.bind_eq_some_iff.mp e
  obtain ⟨a, hx⟩ := hg.str e
  simp only at hx
  subst hx
  refine ⟨ρ, μ, m, _, μ1, hl, hs, e1, fun v H1 m1 x1 s1 r1 => ?_⟩
  have r1' := r1
  simp only [RelR, RelD] at r1'
  subst r1'
  refine ⟨rfl, ρ, μ1, m1, _, _, hl.ext x1, s1, e2, fun u H2 m2 x2 s2 r2 => ?_⟩
  exact hg.go s2 (r1.ext x2) r2 e fun w H3 m3 x3 s3 r3 => k w H3 m3 ((x1.trans x2).trans x3) s3 r3
def textsD : List D → Option (List Str)
  | [] => some []
  | .str x :: r => (textsD r).bind fun l => some (x :: l)
  | _ => none
theorem texts_rel : ∀ {ds : List D} {ts : List Str} {vs : List V}, textsD ds = some ts → RelDs K H ds vs → vs = ts.map V.str
  | [], ts, vs, e, r => by
    cases e
    simp only [RelDs] at r
    exact r
  | d :: ds, ts, vs, e, r => by
    cases d with
    | str x =>
      obtain ⟨l, e1, e2⟩ := Option.bind_eq_some_iff.mp e
      cases e2
      simp only [RelDs] at r
      obtain ⟨v, r', rfl, h1, h2⟩ := r
      simp only [RelD] at h1
      rw [h1, texts_rel e1 h2]
      rfl
    | non => cases e
    | bl _ => cases e
    | int _ => cases e
    | tup _ => cases e
    | fl _ => cases e
    | fd _ _ => cases e
def joinD : R → R → Store → Option (R × Store)
  | .v (.str a), y, μ => (lstD y μ).bind fun ds => (textsD ds).bind fun ts => if JoinOk a ts = true then some (.v (.str (Txt.join a ts)), μ) else none
  | _, _, _ => none
theorem g_join : GSm K joinD (rJoin K) where
  str := fun {x y μ z} e => by
    unfold joinD at e
    split at e
    · exact ⟨_, rfl⟩
    · cases e
  go := fun {m H μ x y d μ' v u Q} s rx ry e k => by
    unfold joinD at e
    split at e
    · rename_i a
      obtain ⟨ds, e1, e⟩ := Option.bind_eq_some_iff.mp e
      obtain ⟨ts, e2, e⟩ := Option.bind_eq_some_iff.mp e
      split at e
      · rename_i hok
        cases e
        simp only [RelR, RelD] at rx
        subst rx
        obtain ⟨p, vs, rfl, q, rr⟩ := lst_ok s ry e1
        rw [texts_rel e2 rr] at q
        exact ⟨a, p, ts, rfl, rfl, q, hok, k _ H m .refl s (by simp only [RelR, RelD])⟩
      · cases e
    · cases e
def splD : R → R → Store → Option (R × Store)
  | .v (.str a), .v (.str b), μ => if (b.length == 0) = false ∧ a.length < 4000 then some (.p μ.length, μ ++ [.lst ((Txt.split a b).map D.str)]) else none
  | _, _, _ => none
theorem rel_texts : ∀ {ts : List Str}, RelDs K H (ts.map D.str) (ts.map V.str)
  | [] => by simp only [List.map_nil, RelDs]
  | t :: ts => by simp only [List.map_cons, RelDs]; exact ⟨_, _, rfl, by simp only [RelD], rel_texts⟩
theorem g_spl : GSm K splD rSplit where
  str := fun {x y μ z} e => by
    unfold splD at e
    split at e
    · exact ⟨_, rfl⟩
    · cases e
  go := fun {m H μ x y d μ' v u Q} s rx ry e k => by
    unfold splD at e
    split at e
    · rename_i a b
      split at e
      · rename_i hc
        cases e
        simp only [RelR, RelD] at rx ry
        subst rx ry
        refine ⟨a, b, rfl, rfl, hc.1, hc.2, fun p hp => ?_⟩
        obtain ⟨x1, x2, x3⟩ := new_lst s (rel_texts (K := K) (H := H) (ts := Txt.split a b)) hp
        exact k _ _ _ x1 x2 x3
      · cases e
    · cases e
def inW (neg : Bool) : R → R → Store → Option (R × Store)
  | .v (.str a), y, μ => (itemsD y μ).bind fun ds => (textsD ds).bind fun ts => some (.v (.bl (if neg then !(ts.any (· == a)) else ts.any (· == a))), μ)
  | _, _, _ => none
theorem inV_texts {a : Str} : ∀ {ts : List Str}, inV (.str a) (ts.map V.str) = ts.any (· == a)
  | [] => rfl
  | t :: ts => by
    have ih := inV_texts (a := a) (ts := ts)
    unfold inV at ih ⊢
    rw [List.map_cons, List.any_cons, ih, List.any_cons]
    rfl
theorem flat_texts : ∀ {ts : List Str}, (ts.map V.str).all flatV = true
  | [] => rfl
  | t :: ts => by rw [List.map_cons, List.all_cons, flat_texts]; rfl
theorem g_inW {neg : Bool} : GOp K (inW neg) (rIn K neg) := by
  intro m H μ x y d μ' v u Q s rx ry e k
  unfold inW at e
  split at e
  · obtain ⟨ds, e0, e⟩ := Option.bind_eq_some_iff.mp e
    obtain ⟨ts, e1, e⟩ := Option.bind_eq_some_iff.mp e
    cases e
    simp only [RelR, RelD] at rx
    subst rx
    obtain ⟨a, ws, rfl, q, rr⟩ := items_ok s ry e0
    rw [texts_rel e1 rr] at q
    refine ⟨a, ts.map V.str, rfl, q, rfl, flat_texts, k _ H m .refl s ?_⟩
    simp only [RelR, RelD, inV_texts]
  · cases e
end
end HW
namespace HW
open PySem PySem.Spec PyProof.Rows L2
def isStar : Expr → Bool
  | .Starred .. => true
  | _ => false
theorem star_cons {e : Expr} {es : List Expr} {env : Env} (h : isStar e = false) : starEach (e :: es) env = (false, eval e env) :: starEach es env := by
  cases e <;> first | rfl | (simp [isStar] at h)
theorem star_any {env : Env} {pos : Pos} : ∀ {es : List Expr}, es.any isStar = false → (backTo pos (starEach es env)).any (·.1) = false
  | [], _ => rfl
  | e :: es, h => by
    rw [List.any_cons, Bool.or_eq_false_iff] at h
    rw [star_cons h.1]
    have ih := star_any (env := env) (pos := pos) h.2
    unfold backTo at ih ⊢
    rw [List.map_cons, List.any_cons, ih]
    rfl
theorem getItem_tuple_whole {prog : Program} {w : World} {A : Around} {E : Value → Shared → Prop} {s : Shared} {t sl : Addr} {items : Array Value} {vl vu : Value} {lo hi : Option Int} {Q : Value → Shared → Prop} (ht : IsTup s.heap t items) (hs : s.heap.IsSliceOf sl vl vu .none) (pl : IsPart vl lo) (pu : IsPart vu hi)
    (hw : HT.sIx items.size 0 lo = 0 ∧ HT.sIx items.size items.size hi = items.size)
    (h : Q (.ref t) s) : wpAny (model prog w) A (getItem (.ref t) (.ref sl)) Q E s := by
  obtain ⟨os, hos, hcs, hds⟩ := id hs
  have hTs : s.TypeIs (.ref sl) "slice" := ⟨os, hos, hcs⟩
  unfold getItem
  try with_reducible refine wpAny_holding ?_
  first | refine wpAny_bind (wpAny_pure ?_) | skip
  refine wpAny_bind (wpAny_sequenceKey ht.typeIs (by decide) ?_)
  refine wpAny_bind (wpAny_callSpecial?_slot (name := Str.ofString "__getitem__") ht.typeIs PyProof.Rows.slot_tuple_getitem
    (wpAny_call_entry PyProof.Rows.slot_tuple_getitem ht.typeIs entry_tuple_getitem ?_ (args_tuple_getitem _ _)))
  show wpAny _ _ (Builtin.Tuple.tupleItemsOf (.ref t) >>= _) _ _ s
  refine wpAny_bind (tupleItemsOf_ ht ?_)
  refine wpAny_bind (wpAny_typeOf hTs ?_)
  rw [if_pos (by decide)]
  refine wpAny_bind (HT.sliceApplied_gen hs pl pu ?_)
  have hyes : ((((HT.sIx items.size 0 lo : Nat) : Int) == 0 && (1 : Int) == 1 && (HT.sIx items.size items.size hi - HT.sIx items.size 0 lo) == items.size) = true) := by
    rw [hw.1, hw.2]; simp
  show wpAny _ _ (if (((HT.sIx items.size 0 lo : Nat) : Int) == 0 && (1 : Int) == 1 && (HT.sIx items.size items.size hi - HT.sIx items.size 0 lo) == items.size) = true then _ else _) _ _ s
  rw [if_pos hyes]
  refine wpAny_bind (m := Builtin.Tuple.tupleIsExact (.ref t)) (wpAny_bind (wpAny_typeOf ht.typeIs (wpAny_pure ?_)))
  rw [if_pos (by decide)]
  refine wpAny_bind (wpAny_rule ?_)
  first
    | exact wpAny_pure ⟨_, rfl, wpAny_pure h⟩
    | exact wpAny_bind (wpAny_pure (wpAny_pure ⟨_, rfl, wpAny_pure h⟩))
    | exact wpAny_bind (wpAny_pure ⟨_, rfl, wpAny_pure h⟩)
def cutD (xs : List D) (lo hi : Option Int) : List D := (xs.drop (HT.sIx xs.length 0 lo)).take (HT.sIx xs.length xs.length hi - HT.sIx xs.length 0 lo)
def rSl (K : PySem.W.Frag) : V → Option Int → Option Int → Hp → VK → Prop := fun x lo hi H Q => rSlL K x lo hi H Q ∨ rSlT K x lo hi H Q ∨
  ∃ a xs, x = .ref a ∧ SqT K H a xs ∧ (HT.sIx xs.length 0 lo = 0 ∧ HT.sIx xs.length xs.length hi = xs.length) ∧ Q (.ref a) H
theorem sl_whole {X : Cx} : SlR X (fun x lo hi H Q => ∃ a xs, x = .ref a ∧ SqT X.K H a xs ∧ (HT.sIx xs.length 0 lo = 0 ∧ HT.sIx xs.length xs.length hi = xs.length) ∧ Q (.ref a) H) := by
  intro pins s σ H x v vl vu lo hi sl Q I rx hs pl pu h
  obtain ⟨a, xs, rfl, hx, hw, q⟩ := h
  cases rx
  obtain ⟨its, r, ht, hz⟩ := I.tuple hx
  have hlen : its.toArray.size = xs.length := by rw [List.size_toArray]; exact r.length.symm
  refine ⟨"tuple", _, PyProof.Rows.slot_tuple_getitem.lookup, ht.typeIs, ?_⟩
  exact getItem_tuple_whole ht hs pl pu (by rw [hlen]; exact hw) ⟨.ref a, H, I, rfl, q⟩
theorem sl_any {X : Cx} : SlR X (rSl X.K) := SlR.or sl_list (SlR.or sl_tup sl_whole)
abbrev FO := Lo → Store → Option (Option Int × Store)
def rdO (K : PySem.W.Frag) (f : FO) : TO := fun σ H Q => ∃ ρ μ m o μ', LRel K m H ρ σ ∧ SRel K m H μ ∧ f ρ μ = some (o, μ') ∧ ∀ H' m', Ext m H m' H' → SRel K m' H' μ' → Q o H'
def oNone : FO := fun _ μ => some (none, μ)
def oSome (f : FE) : FO := fun ρ μ => (f ρ μ).bind fun a => match a.1 with | .v (.int i) => some (some i, a.2) | _ => none
def slD (x : R) (lo hi : Option Int) (μ : Store) : Option (R × Store) := match x with
  | .v (.tup xs) => some (.v (.tup (cutD xs lo hi)), μ)
  | x => (lstD x μ).bind fun xs => some (.p μ.length, μ ++ [.lst (cutD xs lo hi)])
def fSl (fa : FE) (fl fh : FO) : FE := fun ρ μ => (fa ρ μ).bind fun a => (fl ρ a.2).bind fun l => (fh ρ l.2).bind fun h => slD a.1 l.1 h.1 h.2
theorem RelDs.drop {K : PySem.W.Frag} {H : Hp} : ∀ {xs : List D} {vs : List V} (n : Nat), RelDs K H xs vs → RelDs K H (xs.drop n) (vs.drop n)
  | _, _, 0, h => h
  | [], _, n + 1, h => by simp only [RelDs] at h; subst h; simp only [List.drop_nil, RelDs]
  | x :: xs, _, n + 1, h => by
    simp only [RelDs] at h
    obtain ⟨v, r, rfl, _, h2⟩ := h
    exact RelDs.drop n h2
theorem RelDs.take {K : PySem.W.Frag} {H : Hp} : ∀ {xs : List D} {vs : List V} (n : Nat), RelDs K H xs vs → RelDs K H (xs.take n) (vs.take n)
  | _, _, 0, h => by simp only [List.take_zero, RelDs]
  | [], _, n + 1, h => by simp only [RelDs] at h; subst h; simp only [List.take_nil, RelDs]
  | x :: xs, _, n + 1, h => by
    simp only [RelDs] at h
    obtain ⟨v, r, rfl, h1, h2⟩ := h
    simp only [List.take_succ_cons, RelDs]
    exact ⟨v, _, rfl, h1, RelDs.take n h2⟩
theorem RelDs.cut {K : PySem.W.Frag} {H : Hp} {xs : List D} {vs : List V} {lo hi : Option Int} (h : RelDs K H xs vs) : RelDs K H (cutD xs lo hi) (cutV vs lo hi) := by
  unfold cutD cutV
  rw [h.length]
  exact (h.drop _).take _
section
variable {K : PySem.W.Frag} {σ : L2.St} {H : Hp} {Q : VK}
theorem rd_oNone {Q : Option Int → Hp → Prop} (h : rdO K oNone σ H Q) : tNoPart σ H Q := by
  obtain ⟨ρ, μ, m, o, μ', hl, hs, e, k⟩ := h
  cases e
  exact k H m .refl hs
theorem rd_oSome {f} {Q : Option Int → Hp → Prop} (h : rdO K (oSome f) σ H Q) : tPart (rdE K f) σ H Q := by
  obtain ⟨ρ, μ, m, o, μ', hl, hs, e, k⟩ := h
  obtain ⟨⟨x, μ1⟩, e1, e⟩ := Option.bind_eq_some_iff.mp e
  split at e
  · rename_i i q
    cases e
    simp only at q
    subst q
    exact ⟨ρ, μ, m, _, μ1, hl, hs, e1, fun v H1 m1 x1 s1 r1 => ⟨i, by simpa only [RelR, RelD] using r1, k H1 m1 x1 s1⟩⟩
  · cases e
theorem sl_ok {m : List Addr} {μ μ' : Store} {x d : R} {v : V} {lo hi : Option Int} (s : SRel K m H μ) (r : RelR K m H x v) (e : slD x lo hi μ = some (d, μ')) (k : ∀ w H' m', Ext m H m' H' → SRel K m' H' μ' → RelR K m' H' d w → Q w H') : rSl K v lo hi H Q := by
  have lst : ∀ xs, lstD x μ = some xs → (some (R.p μ.length, μ ++ [Cell.lst (cutD xs lo hi)]) : Option (R × Store)) = some (d, μ') → rSl K v lo hi H Q := fun xs e1 e2 => by
    cases e2
    obtain ⟨a, vs, rfl, q, rr⟩ := lst_ok s r e1
    refine .inl ⟨a, vs, rfl, q, fun p hp => ?_⟩
    obtain ⟨x1, x2, x3⟩ := new_lst s (rr.cut (lo := lo) (hi := hi)) hp
    exact k _ _ _ x1 x2 x3
  have gen : (lstD x μ).bind (fun xs => some (R.p μ.length, μ ++ [Cell.lst (cutD xs lo hi)])) = some (d, μ') → rSl K v lo hi H Q := fun e => by
    obtain ⟨xs, e1, e⟩ := Option.bind_eq_some_iff.mp e
    exact lst xs e1 e
  cases x with
  | p n => exact gen e
  | s _ n => exact gen e
  | x n => exact gen e
  | v d0 =>
    cases d0 with
    | tup xs =>
      cases e
      simp only [RelR, RelD] at r
      obtain ⟨a, vs, rfl, q, rr⟩ := r
      by_cases hw : HT.sIx vs.length 0 lo = 0 ∧ HT.sIx vs.length vs.length hi = vs.length
      · refine .inr (.inr ⟨a, vs, rfl, q, hw, k _ H m .refl s ?_⟩)
        simp only [RelR, RelD]
        refine ⟨a, vs, rfl, q, ?_⟩
        have := rr.cut (lo := lo) (hi := hi)
        unfold cutV at this
        rw [hw.1, hw.2] at this
        simpa using this
      · refine .inr (.inl ⟨a, vs, rfl, q, hw, fun p hp => ?_⟩)
        obtain ⟨x1, x2, x3⟩ := new_tup s (rr.cut (lo := lo) (hi := hi)) hp
        exact k _ _ _ x1 x2 x3
    | non => exact gen e
    | bl _ => exact gen e
    | int _ => exact gen e
    | str _ => exact gen e
    | fl _ => exact gen e
    | fd _ _ => exact gen e
theorem rd_sl {fa fl fh} (h : rdE K (fSl fa fl fh) σ H Q) : tSl (rSl K) (rdE K fa) (rdO K fl) (rdO K fh) σ H Q := by
  obtain ⟨ρ, μ, m, d, μ', hl, hs, e, k⟩ := h
  obtain ⟨⟨x, μ1⟩, e1, e⟩ := Option.bind_eq_some_iff.mp e
  obtain ⟨⟨l, μ2⟩, e2, e⟩ := Option.bind_eq_some_iff.mp e
  obtain ⟨⟨u, μ3⟩, e3, e⟩ := Option.bind_eq_some_iff.mp e
  refine ⟨ρ, μ, m, x, μ1, hl, hs, e1, fun v H1 m1 x1 s1 r1 => ?_⟩
  refine ⟨ρ, μ1, m1, l, μ2, hl.ext x1, s1, e2, fun H2 m2 x2 s2 => ?_⟩
  refine ⟨ρ, μ2, m2, u, μ3, hl.ext (x1.trans x2), s2, e3, fun H3 m3 x3 s3 => ?_⟩
  exact sl_ok s3 (r1.ext (x2.trans x3)) e fun w H4 m4 x4 s4 r4 => k w H4 m4 (((x1.trans x2).trans x3).trans x4) s4 r4
def fSlS (fa : FE) (fl fh : FO) : FE := fun ρ μ => (fa ρ μ).bind fun a => (fl ρ a.2).bind fun l => (fh ρ l.2).bind fun h => slS a.1 l.1 h.1 h.2
theorem slS_ok {x : R} {lo hi : Option Int} {μ μ' : Store} {d : R} (e : slS x lo hi μ = some (d, μ')) : ∃ z, x = .v (.str z) ∧ z.length ≤ sizeLine ∧ d = .v (.str (Txt.slice z lo hi)) ∧ μ' = μ := by
  unfold slS at e
  split at e
  · split at e
    · rename_i hz
      cases e
      exact ⟨_, rfl, hz, rfl, rfl⟩
    · cases e
  · cases e
theorem rd_slS {fa fl fh} (h : rdE K (fSlS fa fl fh) σ H Q) : tSl rSlS (rdE K fa) (rdO K fl) (rdO K fh) σ H Q := by
  obtain ⟨ρ, μ, m, d, μ', hl, hs, e, k⟩ := h
  obtain ⟨⟨x, μ1⟩, e1, e⟩ := Option.bind_eq_some_iff.mp e
  obtain ⟨⟨l, μ2⟩, e2, e⟩ := Option.bind_eq_some_iff.mp e
  obtain ⟨⟨u, μ3⟩, e3, e⟩ := Option.bind_eq_some_iff.mp e
  refine ⟨ρ, μ, m, x, μ1, hl, hs, e1, fun v H1 m1 x1 s1 r1 => ?_⟩
  refine ⟨ρ, μ1, m1, l, μ2, hl.ext x1, s1, e2, fun H2 m2 x2 s2 => ?_⟩
  refine ⟨ρ, μ2, m2, u, μ3, hl.ext (x1.trans x2), s2, e3, fun H3 m3 x3 s3 => ?_⟩
  obtain ⟨z, rfl, hz, rfl, rfl⟩ := slS_ok e
  simp only [RelR, RelD] at r1
  exact ⟨z, r1, hz, k _ H3 m3 ((x1.trans x2).trans x3) s3 (by simp only [RelR, RelD])⟩
end
theorem PO.imp {X : Cx} {e : Option Expr} {t t' : TO} (h : PO X e t) (k : ∀ {σ H Q}, t' σ H Q → t σ H Q) : PO X e t' := fun pins s σ H Q I q => h pins s σ H Q I (k q)
def fStep (fa : FE) (fl fh : FO) (k : Int) : FE := fun ρ μ => (fa ρ μ).bind fun a => (fl ρ a.2).bind fun l => (fh ρ l.2).bind fun h => if k = 0 then none else (lstD a.1 h.2).bind fun xs => some (.p h.2.length, h.2 ++ [.lst (stepV xs l.1 h.1 k)])
def fDnew : FE := fun _ μ => some (.p μ.length, μ ++ [.dct []])
def sStuck : FS := fun _ _ => none
namespace R
section
variable {X : Cx} {a b e o : Expr} {es : List Expr} {fa fb : FE} {ga : FA} {pos p p2 apos : Pos} {x : Str}
theorem q_var (i : Nat) (hN : X.N[i]? = some x := by rfl) (hv : Vis X.env.scope x := by first | exact Or.inl rfl | exact Or.inr (Or.inl rfl) | exact Or.inr (Or.inr rfl)) (hd : (x == ("__debug__" : Str)) = false := by decide)
    (hcd : (x == ("__classdict__" : Str)) = false := by decide) : PE X (.Name x pos) (rdE X.K (fVar i)) := PE.imp (pe_var hN hv hd hcd) rd_var
theorem q_int {i j} : PE X (.Constant (.int i) j pos) (rdE X.K (fK (.int i))) := PE.imp pe_int (rd_const fun _ _ => by simp only [RelR, RelD])
theorem q_bl {i j} : PE X (.Constant (.bool i) j pos) (rdE X.K (fK (.bl i))) := PE.imp pe_bl (rd_const fun _ _ => by simp only [RelR, RelD])
theorem q_str {i j} : PE X (.Constant (.str i) j pos) (rdE X.K (fK (.str i))) := PE.imp pe_str (rd_const fun _ _ => by simp only [RelR, RelD])
theorem q_non {j} : PE X (.Constant .none j pos) (rdE X.K (fK .non)) := PE.imp pe_non (rd_const fun _ _ => by simp only [RelR, RelD])
theorem q_addQ (ha : PE X a (rdE X.K fa)) (hb : PE X b (rdE X.K fb)) : PE X (.BinOp a .Add b pos) (rdE X.K (fOp addQ fa fb)) := PE.imp (pe_op ((op_add.or (op_add_str.or (op_catT.or op_cat))).or op_add0) ha hb) (rd_op g_addQ)
theorem q_sub (ha : PE X a (rdE X.K fa)) (hb : PE X b (rdE X.K fb)) : PE X (.BinOp a .Sub b pos) (rdE X.K (fOp subD fa fb)) := PE.imp (pe_op op_sub ha hb) (rd_op g_sub)
theorem q_mul (ha : PE X a (rdE X.K fa)) (hb : PE X b (rdE X.K fb)) : PE X (.BinOp a .Mult b pos) (rdE X.K (fOp mulD fa fb)) := PE.imp (pe_op op_mul ha hb) (rd_op g_mul)
theorem q_div (ha : PE X a (rdE X.K fa)) (hb : PE X b (rdE X.K fb)) : PE X (.BinOp a .FloorDiv b pos) (rdE X.K (fOp divD fa fb)) := PE.imp (pe_op op_fdiv ha hb) (rd_op g_div)
theorem q_mod (ha : PE X a (rdE X.K fa)) (hb : PE X b (rdE X.K fb)) : PE X (.BinOp a .Mod b pos) (rdE X.K (fOp modD fa fb)) := PE.imp (pe_op op_mod ha hb) (rd_op g_mod)
theorem q_pow (ha : PE X a (rdE X.K fa)) (hb : PE X b (rdE X.K fb)) : PE X (.BinOp a .Pow b pos) (rdE X.K (fOp powD fa fb)) := PE.imp (pe_op op_pow ha hb) (rd_op g_pow)
theorem q_neg (ha : PE X a (rdE X.K fa)) : PE X (.UnaryOp .USub a pos) (rdE X.K (fUn negD fa)) := PE.imp (pe_un un_neg ha) (rd_un g_neg)
theorem q_not (ha : PE X a (rdE X.K fa)) : PE X (.UnaryOp .Not a pos) (rdE X.K (fNot fa)) := PE.imp (pe_not ha) rd_not
theorem q_eq (hu : X.A.units + 64 < cLine) (ha : PE X a (rdE X.K fa)) (hb : PE X b (rdE X.K fb)) : PE X (.Compare a [.Eq] [b] pos) (rdE X.K (fOp (eqR false) fa fb)) := PE.imp (pe_cmpR (op_eqD hu) ha hb (nomark _)) (rd_op g_eq)
theorem q_and {rest : List Expr} (ha : PE X a (rdE X.K fa)) (hb : PE X (.BoolOp .And (b :: rest) pos) (rdE X.K fb)) : PE X (.BoolOp .And (a :: b :: rest) pos) (rdE X.K (fAnd fa fb)) := PE.imp (pe_and ha hb) rd_and
theorem q_one {op} (ha : PE X a (rdE X.K fa)) : PE X (.BoolOp op [a] pos) (rdE X.K fa) := pe_one ha
theorem q_nil : PA X [] (rdA X.K fNil) := PA.imp pa_nil rd_nil
theorem q_cons (ha : PE X e (rdE X.K fa)) (hr : PA X es (rdA X.K ga)) (hs : starEach (e :: es) X.env = (false, eval e X.env) :: starEach es X.env := by exact star_cons rfl) : PA X (e :: es) (rdA X.K (fCons fa ga)) := PA.imp (pa_cons ha hr hs) rd_cons
theorem q_tup {x1} (h : PA X es (rdA X.K ga)) : PE X (.Tuple es x1 pos) (rdE X.K (fTup ga)) := PE.imp (pe_tup h) rd_tup
theorem q_lst (h : PA X es (rdA X.K ga)) : PE X (.List es pos) (rdE X.K (fLst ga)) := PE.imp (pe_lst h) rd_lst
theorem q_fz (ha : PE X a (rdE X.K fa)) : PE X a (rdE X.K (fFz fa)) := PE.imp (pe_fz0 ha) rd_fz
theorem q_ix (ha : PE X a (rdE X.K fa)) (hb : PE X b (rdE X.K fb)) (hs : PlainIx b := by intro _ _; rfl) : PE X (.Subscript a b pos) (rdE X.K (fOp ixD fa fb)) := PE.imp (pe_ix ix_seq ha hb hs) (rd_op g_ix)
theorem q_oN : PO X none (rdO X.K oNone) := PO.imp po_none rd_oNone
theorem q_oS (ha : PE X a (rdE X.K fa)) : PO X (some a) (rdO X.K (oSome fa)) := PO.imp (po_some ha) rd_oSome
theorem q_sl {lo hi : Option Expr} {fl fh : FO} (ha : PE X a (rdE X.K fa)) (hl : PO X lo (rdO X.K fl)) (hh : PO X hi (rdO X.K fh)) : PE X (.Subscript a (.Slice lo hi none p2) pos) (rdE X.K (fSl fa fl fh)) := PE.imp (pe_slice sl_any ha hl hh) rd_sl
theorem q_call {k : Nat} {f : Addr} {fd : FuncData} {ps : List Str} {n : Nat} {mf : MF} (F : FnOk X.prog X.w X.K X.mg X.base CX0 k f fd ps (spP X.K n mf)) (hr : Room k X.A) (hg : Gl X x) (hm : X.mg x = some (.ref f)) (hk : PySem.W.keepIn X.K (.ref f) = true) (hb : Binds X.K fd ps [])
    (ha : PA X (e :: es) (rdA X.K ga)) (hdb : (x == ("__debug__" : Str)) = false := by decide) (he : starEach (e :: es) X.env = (false, eval e X.env) :: starEach es X.env := by exact star_cons rfl) (hpl : (backTo pos (starEach es X.env)).any (·.1) = false := by exact star_any rfl) :
    PE X (.Call (.Name x p) (e :: es) [] pos) (rdE X.K (fCall mf n ga)) := PE.imp (pe_call F hr hg hm hk hb .nil pass0 ha hdb he hpl) rd_call
theorem q_len (hg : Gl X "len") (hm : X.mg "len" = none) (ha : PA X (e :: es) (rdA X.K ga)) (he : starEach (e :: es) X.env = (false, eval e X.env) :: starEach es X.env := by exact star_cons rfl) (hpl : (backTo pos (starEach es X.env)).any (·.1) = false := by exact star_any rfl) :
    PE X (.Call (.Name "len" p) (e :: es) [] pos) (rdE X.K (fAr lenD ga)) := PE.imp (pe_callB call_len_seq hg hm PySem.boot_len ha (he := he) (hpl := hpl)) (rd_ar g_len)
theorem q_min (hc : X.calm = true) (hg : Gl X "min") (hm : X.mg "min" = none) (ha : PA X (e :: es) (rdA X.K ga)) (he : starEach (e :: es) X.env = (false, eval e X.env) :: starEach es X.env := by exact star_cons rfl) (hpl : (backTo pos (starEach es X.env)).any (·.1) = false := by exact star_any rfl) :
    PE X (.Call (.Name "min" p) (e :: es) [] pos) (rdE X.K (fAr minD ga)) := PE.imp (pe_callB (call_min2 hc) hg hm (by decide +kernel) ha (he := he) (hpl := hpl)) (rd_ar g_min)
theorem q_strc (hg : Gl X "str") (hm : X.mg "str" = none) (ha : PA X (e :: es) (rdA X.K ga)) (he : starEach (e :: es) X.env = (false, eval e X.env) :: starEach es X.env := by exact star_cons rfl) (hpl : (backTo pos (starEach es X.env)).any (·.1) = false := by exact star_any rfl) :
    PE X (.Call (.Name "str" p) (e :: es) [] pos) (rdE X.K (fAr strD ga)) := PE.imp (pe_callTy call_str_int hg hm (by decide +kernel) ha (he := he) (hpl := hpl)) (rd_ar g_str)
theorem q_const {d : D} (h : ConstR X.K X.mg x d) (hg : Gl X x := by rfl) (hd : (x == ("__debug__" : Str)) = false := by decide) : PE X (.Name x pos) (rdE X.K (fK d)) := by
  obtain ⟨u, v, hm, r, rd⟩ := h
  exact PE.imp (pe_glob hg hm r hd) (rd_const fun _ H => rd H)
theorem q_tuple (hg : Gl X "tuple") (hm : X.mg "tuple" = none) (ha : PA X (e :: es) (rdA X.K ga)) (he : starEach (e :: es) X.env = (false, eval e X.env) :: starEach es X.env := by exact star_cons rfl) (hpl : (backTo pos (starEach es X.env)).any (·.1) = false := by exact star_any rfl) :
    PE X (.Call (.Name "tuple" p) (e :: es) [] pos) (rdE X.K (fAr tupD ga)) := PE.imp (pe_callTy call_tuple_of hg hm (by decide +kernel) ha (he := he) (hpl := hpl)) (rd_ar g_tup)
theorem q_all (hc : X.calm = true) (hg : Gl X "all") (hm : X.mg "all" = none) (ha : PA X (e :: es) (rdA X.K ga)) (he : starEach (e :: es) X.env = (false, eval e X.env) :: starEach es X.env := by exact star_cons rfl) (hpl : (backTo pos (starEach es X.env)).any (·.1) = false := by exact star_any rfl) :
    PE X (.Call (.Name "all" p) (e :: es) [] pos) (rdE X.K (fAr (allD false) ga)) := PE.imp (pe_callB (call_allB hc) hg hm PyProof.Rows.boot_all ha (he := he) (hpl := hpl)) (rd_ar g_all)
theorem q_isi {T : String} {y : Str} (hT : Kinds X.K T) (hg : Gl X "isinstance") (hm : X.mg "isinstance" = none) (hgT : Gl X y) (hmT : X.mg y = none) (hvT : bootBuiltins y = some (.type T)) (ha : PE X e (rdE X.K fa)) (hn : y ≠ "__name__" := by decide) (hdb : (y == ("__debug__" : Str)) = false := by decide)
    (he : starEach (e :: [.Name y p2]) X.env = (false, eval e X.env) :: starEach [.Name y p2] X.env := by exact star_cons rfl) (hpl : (backTo pos (starEach [.Name y p2] X.env)).any (·.1) = false := by rfl) :
    PE X (.Call (.Name "isinstance" p) [e, .Name y p2] [] pos) (rdE X.K (fUn (isiD T) fa)) :=
  PE.imp (pe_callB (call_isi hT) hg hm (by decide +kernel) (pa_cons ha (pa_cons (pe_bltn (v := .ty T) hgT hmT hvT rfl hn hdb) pa_nil rfl) he) (he := he) (hpl := hpl)) rd_isi
theorem t_tru (ha : PE X a (rdE X.K fa)) (he : ∀ whole, isTrue a X.env whole = (do let v ← whole; standAt a.pos; holding [v] (truthy v)) := by intro _; rfl) : PT X a (rdT X.K (fTru fa)) := PT.imp (pt_truth ha he) rd_tru
theorem t_cmp {op : CmpOp} {r : R2} {g : R → R → Store → Option (R × Store)} (ho : OpR X (compareOp op) r) (hg : GOp X.K g r) (ha : PE X a (rdE X.K fa)) (hb : PE X b (rdE X.K fb)) (hm : behindInMarks op b = false) : PT X (.Compare a [op] [b] pos) (rdT X.K (fB (fOp g fa fb))) :=
  PT.imp (pt_cmpR ho ha hb hm) fun h => by
    obtain ⟨ρ, μ, m, d, μ', hl, hs, e, k⟩ := rd_Test h
    exact rd_op hg ⟨ρ, μ, m, d, μ', hl, hs, e, k⟩
theorem t_lt (ha : PE X a (rdE X.K fa)) (hb : PE X b (rdE X.K fb)) : PT X (.Compare a [.Lt] [b] pos) (rdT X.K (fB (fOp ltD fa fb))) := t_cmp op_lt g_lt ha hb (nomark _)
theorem t_le (ha : PE X a (rdE X.K fa)) (hb : PE X b (rdE X.K fb)) : PT X (.Compare a [.LtE] [b] pos) (rdT X.K (fB (fOp leD fa fb))) := t_cmp op_le g_le ha hb (nomark _)
theorem t_eq (hu : X.A.units + 64 < cLine) (ha : PE X a (rdE X.K fa)) (hb : PE X b (rdE X.K fb)) : PT X (.Compare a [.Eq] [b] pos) (rdT X.K (fB (fOp (eqR false) fa fb))) := t_cmp (op_eqD hu) g_eq ha hb (nomark _)
theorem t_ne (hu : X.A.units + 64 < cLine) (ha : PE X a (rdE X.K fa)) (hb : PE X b (rdE X.K fb)) : PT X (.Compare a [.NotEq] [b] pos) (rdT X.K (fB (fOp (eqR true) fa fb))) := t_cmp (op_neD hu) g_eq ha hb (nomark _)
theorem t_is {op : CmpOp} {neg : Bool} {c : D} {cv : V} (hc : (c = .non ∧ cv = .non) ∨ ∃ b, c = .bl b ∧ cv = .bl b) (ho : OpR X (compareOp op) (rIsK neg cv)) (ha : PE X a (rdE X.K fa)) (hb : PE X b (tC cv)) (hm : behindInMarks op b = false) : PT X (.Compare a [op] [b] pos) (rdT X.K (fB (fUn (isK neg c) fa))) :=
  PT.imp (pt_cmpR ho ha hb hm) fun h => by
    obtain ⟨ρ, μ, m, d, μ', hl, hs, e, k⟩ := rd_Test h
    exact rd_is hc ⟨ρ, μ, m, d, μ', hl, hs, e, k⟩
theorem t_isN {j} (ha : PE X a (rdE X.K fa)) : PT X (.Compare a [.Is] [.Constant .none j p] pos) (rdT X.K (fB (fUn (isK false .non) fa))) := t_is (.inl ⟨rfl, rfl⟩) op_isNon ha pe_non (nomark _)
theorem t_notN {j} (ha : PE X a (rdE X.K fa)) : PT X (.Compare a [.IsNot] [.Constant .none j p] pos) (rdT X.K (fB (fUn (isK true .non) fa))) := t_is (.inl ⟨rfl, rfl⟩) op_isNotNon ha pe_non (nomark _)
variable {ta tb : FT} {rest : List Expr}
theorem t_not (ha : PT X a (rdT X.K ta)) : PT X (.UnaryOp .Not a pos) (rdT X.K (tNotF ta)) := PT.imp (pt_not ha) rd_tnot
theorem w_and (ha : PT X a (rdT X.K ta)) (hb : PW X (.BoolOp .And (b :: rest) pos) (rdT X.K tb)) : PW X (.BoolOp .And (a :: b :: rest) pos) (rdT X.K (tAndF ta tb)) := PW.imp (pw_and ha hb) rd_tand
theorem w_or (ha : PT X a (rdT X.K ta)) (hb : PW X (.BoolOp .Or (b :: rest) pos) (rdT X.K tb)) : PW X (.BoolOp .Or (a :: b :: rest) pos) (rdT X.K (tOrF ta tb)) := PW.imp (pw_or ha hb) rd_tor
theorem w_and1 (ha : PT X a (rdT X.K ta)) : PW X (.BoolOp .And [a] pos) (rdT X.K ta) := pw_and1 ha
theorem w_or1 (ha : PT X a (rdT X.K ta)) : PW X (.BoolOp .Or [a] pos) (rdT X.K ta) := pw_or1 ha
theorem t_w (h : PW X a (rdT X.K ta)) : PT X a (rdT X.K ta) := h.pt
theorem q_if {c : Expr} (hc : PT X c (rdT X.K ta)) (ha : PE X a (rdE X.K fa)) (hb : PE X b (rdE X.K fb)) : PE X (.IfExp c a b pos) (rdE X.K (fIf ta fa fb)) := PE.imp (pe_ifExp hc ha hb) rd_if
variable {st : Stmt} {sts aa bb : List Stmt} {sa sb : FS} {c tg iter : Expr}
theorem s_nil : PSs X [] (rdS X.K sNext) := PSs.imp pss_nil rd_next
theorem s_cons (h1 : PS X st (rdS X.K sa)) (h2 : PSs X sts (rdS X.K sb)) : PSs X (st :: sts) (rdS X.K (sSeq sa sb)) := PSs.imp (pss_cons h1 h2) rd_seq
theorem s_one (h1 : PS X st (rdS X.K sa)) : PSs X [st] (rdS X.K sa) := pss_one h1
theorem s_stuck : PS X st (rdS X.K sStuck) := fun pins s σ H D I h => by obtain ⟨ρ, μ, m, out, hl, hs, e, k⟩ := h; cases e
theorem s_expr (he : PE X e (rdE X.K fa)) (hs : swapsWith e none pos.line X.env = pure false := by rfl) : PS X (.Expr e pos) (rdS X.K (sDrop fa)) := PS.imp (ps_expr he hs) rd_drop
theorem s_ret (he : PE X e (rdE X.K fa)) : PS X (.Return (some e) pos) (rdS X.K (sRet fa)) := PS.imp (ps_ret he) rd_ret
theorem s_if (hc : PT X c (rdT X.K ta)) (ha : PSs X aa (rdS X.K sa)) (hb : PSs X bb (rdS X.K sb)) : PS X (.If c aa bb pos) (rdS X.K (sIf ta sa sb)) := PS.imp (ps_if hc ha hb) rd_ifS
theorem s_set (i : Nat) {pos' : Pos} (hN : X.N.Nodup) (he : PE X e (rdE X.K fa)) (hi : X.N[i]? = some x := by rfl) (hx : Loc X.env.scope x := by first | exact Or.inl rfl | exact Or.inr rfl) (hs : swapsWith e (some (.Name x pos')) pos.line X.env = pure false := by rfl) (hf : X.fn x = true ∨ X.env.scope.names.lookup x = some .local := by first | exact .inl rfl | exact .inr rfl) :
    PS X (.Assign [.Name x pos'] e pos) (rdS X.K (sSet i fa)) := PS.imp (ps_set hN hi hx he hs hf) rd_set
variable {g : FG} {gs : FGs} {fi : FI}
theorem g_nm (i : Nat) (hN : X.N.Nodup) (hi : X.N[i]? = some x := by rfl) (hx : Loc X.env.scope x := by first | exact Or.inl rfl | exact Or.inr rfl) (hf : X.fn x = true ∨ X.env.scope.names.lookup x = some .local := by first | exact .inl rfl | exact .inr rfl) : PG X (.Name x pos) (rdG X.K (gNm i)) := PG.imp (pg_name hN hi hx hf) rd_gNm
theorem i_seq (ha : PE X a (rdE X.K fa)) : PI X tg a (rdI X.K (fiSeq fa)) := PI.imp (pi_seq0 (pe_fz0 ha)) rd_iSeq
theorem i_r1 (hg : Gl X "range") (hm : X.mg "range" = none) (ha : PE X a (rdE X.K fa)) (hs : starEach [a] X.env = [(false, eval a X.env)] := by exact star_cons rfl) : PI X tg (.Call (.Name "range" p) [a] [] pos) (rdI X.K (fiR1 fa)) := PI.imp (pi_range1 hg hm (q_cons ha q_nil hs) hs) rd_iR1
theorem s_for (hc : X.calm = true) (hi : PI X tg iter (rdI X.K fi)) (hg : PG X tg (rdG X.K g)) (hb : PSs X aa (rdS X.K sa)) (hp : PassesOwn (model X.prog X.w) X.A X.env X.xe) (hs : ∀ x, foldedSetIterable iter X.env x = pure x := by intro _; rfl) : PS X (.For tg iter aa [] pos) (rdS X.K (sFor fi g sa)) := PS.imp (ps_for hp hc hi hg hb hs) rd_for
theorem PIfs.imp {ifs : List Expr} {t t' : TT} (h : PIfs X ifs t) (k : ∀ {σ H Q}, t' σ H Q → t σ H Q) : PIfs X ifs t' := fun pins s σ H Q I q => h pins s σ H Q I (k q)
theorem f_nil : PIfs X [] (rdT X.K cYes) := PIfs.imp pifs_nil rd_yes
theorem q_comp {ifs : List Expr} {scope : Scope} (ix : List Nat) (own caps : List Str) (hc : X.calm = true) (n : CompNames X.env.scope scope own caps) (hi : PI X tg iter (rdI X.K fi))
    (hb : ∀ cl C s₂ H₂ fp, PG (blockCx X scope cl C s₂ H₂ fp (own ++ caps)) tg (rdG X.K g) ∧ PIfs (blockCx X scope cl C s₂ H₂ fp (own ++ caps)) ifs (rdT X.K ta) ∧ PE (blockCx X scope cl C s₂ H₂ fp (own ++ caps)) e (rdE X.K fa))
    (hix : ix.map (fun i => X.N[i]?) = caps.map some := by rfl)
    (hs : ∀ x, foldedSetIterable iter X.env x = pure x := by intro _; rfl) : PE X (.ListComp e [⟨tg, iter, ifs, 0⟩] scope pos) (rdE X.K (fComp ix own.length fi g ta fa)) := by
  refine PE.imp (pe_comp0 (ix := ix) hc n (by simpa using congrArg List.length hix) (fun j i y h1 h2 => ?_) hi hb hs) (rd_comp rfl)
  have := congrArg (fun l => l[j]?) hix
  simp only [List.getElem?_map, h1, h2, Option.map_some] at this
  exact Option.some.inj this
end
end R
def isLst (x : R) (μ : Store) : Bool := match x with | .v (.fl _) => true | .p n => (match μ[n]? with | some (.lst _) => true | some (.fz _) => true | _ => false) | _ => false
def fMt (g : R → List R → Store → Option (R × Store)) (fa : FE) (ga : FA) : FE := fun ρ μ => (fa ρ μ).bind fun a => if isLst a.1 a.2 = true then (ga ρ a.2).bind fun b => g a.1 b.1 b.2 else none
theorem isLst_ok {K : PySem.W.Frag} {m : List Addr} {H : Hp} {μ : Store} {x : R} {v : V} (s : SRel K m H μ) (r : RelR K m H x v) (e : isLst x μ = true) : tyV K "list" v H := by
  have : ∃ xs, lstD x μ = some xs := by
    cases x with
    | v d => cases d <;> simp_all [isLst, lstD]
    | s _ _ => simp [isLst] at e
    | x _ => simp [isLst] at e
    | p n =>
      simp only [isLst] at e
      simp only [lstD]
      split at e
      · rename_i xs q; exact ⟨xs, by first | rfl | rw [q]⟩
      · rename_i xs q; exact ⟨xs, by first | rfl | rw [q]⟩
      · cases e
  obtain ⟨xs, e⟩ := this
  obtain ⟨a, vs, rfl, q, _⟩ := lst_ok s r e
  exact .inl ⟨rfl, vs, q⟩
theorem rd_mt {K : PySem.W.Frag} {σ : L2.St} {H : Hp} {Q : VK} {g r fa ga} (hg : GMt K g r) (h : rdE K (fMt g fa ga) σ H Q) : tBM K "list" r (rdE K fa) (rdA K ga) σ H Q := by
  obtain ⟨ρ, μ, m, d, μ', hl, hs, e, k⟩ := h
  obtain ⟨⟨x, μ1⟩, e1, e⟩ := Option.bind_eq_some_iff.mp e
  split at e
  · rename_i hx
    obtain ⟨⟨ys, μ2⟩, e2, e⟩ := Option.bind_eq_some_iff.mp e
    refine ⟨ρ, μ, m, x, μ1, hl, hs, e1, fun v H1 m1 x1 s1 r1 => ⟨isLst_ok s1 r1 hx, ?_⟩⟩
    refine ⟨ρ, μ1, m1, ys, μ2, hl.ext x1, s1, e2, fun vs H2 m2 x2 s2 r2 => ?_⟩
    exact hg m2 H2 μ2 x ys d μ' v vs Q s2 (r1.ext x2) r2 e fun w H3 m3 x3 s3 r3 => k w H3 m3 ((x1.trans x2).trans x3) s3 r3
  · cases e
structure DefAt (K : PySem.W.Frag) (mg : Str → Option Value) (x : Str) (st : Stmt) (ps : List Str) : Prop where
  ex : ∃ f fd, Fun K x x st f fd ∧ Binds K fd ps [] ∧ mg x = some (.ref f)
def Kept (P : Program) (w : World) (K : PySem.W.Frag) (mg : Str → Option Value) (base : Heap) (k : Nat) (x : Str) (ps : List Str) (mf : MF) : Prop :=
  ∃ f fd, FnOk P w K mg base CX0 k f fd ps (spP K ps.length mf) ∧ PySem.W.keepIn K (.ref f) = true ∧ Binds K fd ps [] ∧ mg x = some (.ref f)
def KeptN (P : Program) (w : World) (K : PySem.W.Frag) (mg : Str → Option Value) (base : Heap) (k : Nat) (x : Str) (ps : List Str) (mf : MC) : Prop :=
  ∃ f fd, FnOk P w K mg base CX0 k f fd ps (spX K ps.length (cX K mf)) ∧ PySem.W.keepIn K (.ref f) = true ∧ Binds K fd ps [] ∧ mg x = some (.ref f)
namespace R
theorem okP {P : Program} {w : World} {K : PySem.W.Frag} {mg : Str → Option Value} {base : Heap} {x : Str} {st : Stmt} {N ps : List Str} {k : Nat} {b : FS} (d : DefAt K mg x st ps) (S : FnScope N ps (defScope st))
    (hbody : ∀ (f : Addr) (cdv : Value) (A : Around) (outer : List Env) (s : Shared) (H : Hp) (E : XK), Room k (A.deeper (envOfC x (defScope st) s.heap.objs.size f cdv)) → PSs (cxOf CX0 P w K mg base N x (defScope st) f cdv A outer s H E).nox (defBody st) (rdS K b)) :
    Kept P w K mg base (k + 1) x ps (runP N.length b) := by
  obtain ⟨f, fd, F, B, M⟩ := d.ex
  exact ⟨f, fd, Fun.okP F S (hbody f), F.kp, B, M⟩
theorem q_callK {X : Cx} {k : Nat} {x : Str} {ps : List Str} {mf : MF} {e : Expr} {es : List Expr} {ga : FA} {p pos : Pos} {n : Nat} (F : Kept X.prog X.w X.K X.mg X.base k x ps mf) (hr : Room k X.A) (ha : PA X (e :: es) (rdA X.K ga)) (hg : Gl X x := by rfl) (hn : ps.length = n := by rfl)
    (hdb : (x == ("__debug__" : Str)) = false := by decide) (he : starEach (e :: es) X.env = (false, eval e X.env) :: starEach es X.env := by exact star_cons rfl) (hpl : (backTo pos (starEach es X.env)).any (·.1) = false := by exact star_any rfl) :
    PE X (.Call (.Name x p) (e :: es) [] pos) (rdE X.K (fCall mf n ga)) := by
  subst hn
  obtain ⟨f, fd, F, kp, B, M⟩ := F
  exact q_call F hr hg M kp B ha hdb he hpl
theorem okN {P : Program} {w : World} {K : PySem.W.Frag} {mg : Str → Option Value} {base : Heap} {x : Str} {st : Stmt} {N ps : List Str} {k : Nat} {b : FS} (d : DefAt K mg x st ps) (S : FnScope N ps (defScope st))
    (hbody : ∀ (f : Addr) (cdv : Value) (A : Around) (outer : List Env) (s : Shared) (H : Hp) (E : XK), Room k (A.deeper (envOfC x (defScope st) s.heap.objs.size f cdv)) → PSs (cxOf CX0 P w K mg base N x (defScope st) f cdv A outer s H E).nox (defBody st) (rdS K b)) :
    KeptN P w K mg base (k + 1) x ps (runN N.length b) := by
  obtain ⟨f, fd, F, B, M⟩ := d.ex
  exact ⟨f, fd, Fun.okN F S (hbody f), F.kp, B, M⟩
theorem q_callN {X : Cx} {k : Nat} {x : Str} {ps : List Str} {mf : MC} {e : Expr} {es : List Expr} {ga : FA} {p pos : Pos} {n : Nat} (F : KeptN X.prog X.w X.K X.mg X.base k x ps mf) (hr : Room k X.A) (ha : PA X (e :: es) (rdA X.K ga)) (hg : Gl X x := by rfl) (hn : ps.length = n := by rfl)
    (hdb : (x == ("__debug__" : Str)) = false := by decide) (he : starEach (e :: es) X.env = (false, eval e X.env) :: starEach es X.env := by exact star_cons rfl) (hpl : (backTo pos (starEach es X.env)).any (·.1) = false := by exact star_any rfl) :
    PE X (.Call (.Name x p) (e :: es) [] pos) (rdE X.K (fCallN mf n ga)) := by
  subst hn
  obtain ⟨f, fd, F, kp, B, M⟩ := F
  exact PE.imp (pe_call (FnOk.borN F ps.length) hr hg M kp B .nil pass0 ha hdb he hpl) rd_callN
theorem q_isx {X : Cx} {tbl : Str → Option Bool} {v : V} {u : Value} {e c : Expr} {fa : FE} {p pos : Pos} (hf : X.mg "isinstance" = none) (hc : PE X c (tC v)) (hv : RelV v u) (hu : ∀ u', RelV v u' → u' = u) (hO : ∀ c C b, tbl c = some b → clsAt X.K c C → ClsX X.K C ∧ PySem.W.kitOne X.K (.ref C) u = some b) (ha : PE X e (rdE X.K fa))
    (hg : Gl X "isinstance" := by rfl) (hs1 : starEach [e, c] X.env = (false, eval e X.env) :: starEach [c] X.env := by exact star_cons rfl) (hs2 : starEach [c] X.env = (false, eval c X.env) :: starEach [] X.env := by exact star_cons rfl) (hpl : (backTo pos (starEach [c] X.env)).any (·.1) = false := by exact star_any rfl) :
    PE X (.Call (.Name "isinstance" p) [e, c] [] pos) (rdE X.K (fUn (isiX tbl) fa)) :=
  PE.imp (pe_callB (call_isx hv hu hO) hg hf (by decide +kernel) (pa_cons ha (pa_cons hc pa_nil hs2) hs1) (by decide) (by decide) hs1 hpl) rd_isx
theorem q_isxt {X : Cx} {tbl : Str → Option Bool} {vs : List V} {us' : List Value} {e : Expr} {cs : List Expr} {x1 : Nat} {fa : FE} {p p2 pos : Pos} (hf : X.mg "isinstance" = none) (hc : PA X cs (tCs vs)) (hz : vs.length ≤ sizeLine) (hu : ∀ us, Vals vs us → us = us') (hO : ∀ c C b, tbl c = some b → clsAt X.K c C → ClsX X.K C ∧ PySem.W.kitAny X.K (.ref C) us' = some b) (ha : PE X e (rdE X.K fa))
    (hg : Gl X "isinstance" := by rfl) (hs1 : starEach [e, .Tuple cs x1 p2] X.env = (false, eval e X.env) :: starEach [.Tuple cs x1 p2] X.env := by exact star_cons rfl) (hs2 : starEach [.Tuple cs x1 p2] X.env = (false, eval (.Tuple cs x1 p2) X.env) :: starEach [] X.env := by exact star_cons rfl) (hpl : (backTo pos (starEach [.Tuple cs x1 p2] X.env)).any (·.1) = false := by exact star_any rfl) :
    PE X (.Call (.Name "isinstance" p) [e, .Tuple cs x1 p2] [] pos) (rdE X.K (fUn (isiX tbl) fa)) :=
  PE.imp (pe_callB (call_isxt hu hO) hg hf (by decide +kernel) (pa_cons ha (pa_cons (pe_tup hc) pa_nil hs2) hs1) (by decide) (by decide) hs1 hpl) (rd_isxt hz)
theorem q_slS {X : Cx} {a : Expr} {fa : FE} {p2 pos : Pos} {lo hi : Option Expr} {fl fh : FO} (ha : PE X a (rdE X.K fa)) (hl : PO X lo (rdO X.K fl)) (hh : PO X hi (rdO X.K fh)) : PE X (.Subscript a (.Slice lo hi none p2) pos) (rdE X.K (fSlS fa fl fh)) := PE.imp (pe_slice sl_str ha hl hh) rd_slS
theorem q_ixS {X : Cx} {a b : Expr} {fa fb : FE} {pos : Pos} (ha : PE X a (rdE X.K fa)) (hb : PE X b (rdE X.K fb)) (hs : PlainIxT b := by intro _ _; rfl) : PE X (.Subscript a b pos) (rdE X.K (fOp ixS fa fb)) := PE.imp (pe_item_str ha hb hs) (rd_op g_ixS)
theorem q_lenS {X : Cx} {e : Expr} {es : List Expr} {ga : FA} {p pos : Pos} (hg : Gl X "len") (hm : X.mg "len" = none) (ha : PA X (e :: es) (rdA X.K ga)) (he : starEach (e :: es) X.env = (false, eval e X.env) :: starEach es X.env := by exact star_cons rfl) (hpl : (backTo pos (starEach es X.env)).any (·.1) = false := by exact star_any rfl) :
    PE X (.Call (.Name "len" p) (e :: es) [] pos) (rdE X.K (fAr lenS ga)) := PE.imp (pe_callB call_len_str hg hm PySem.boot_len ha (he := he) (hpl := hpl)) (rd_ar g_lenS)
theorem q_intS {X : Cx} {e : Expr} {es : List Expr} {ga : FA} {p pos : Pos} (hg : Gl X "int") (hm : X.mg "int" = none) (ha : PA X (e :: es) (rdA X.K ga)) (he : starEach (e :: es) X.env = (false, eval e X.env) :: starEach es X.env := by exact star_cons rfl) (hpl : (backTo pos (starEach es X.env)).any (·.1) = false := by exact star_any rfl) :
    PE X (.Call (.Name "int" p) (e :: es) [] pos) (rdE X.K (fAr intS ga)) := PE.imp (pe_callTy call_intS hg hm (by decide +kernel) ha (he := he) (hpl := hpl)) (rd_ar g_intS)
theorem q_inS {X : Cx} {a b : Expr} {fa fb : FE} {pos : Pos} (ha : PE X a (rdE X.K fa)) (hb : PE X b (rdE X.K fb)) (hm : behindInMarks .In b = false := by rfl) : PE X (.Compare a [.In] [b] pos) (rdE X.K (fOp (inS false) fa fb)) := PE.imp (pe_cmpR op_in_str ha hb hm) (rd_op g_inS)
theorem q_ch {X : Cx} {a b c : Expr} {fa fb fc : FE} {pos : Pos} (ha : PE X a (rdE X.K fa)) (hb : PE X b (rdE X.K fb)) (hc : PE X c (rdE X.K fc)) (hm : lastMarks [.LtE, .LtE] [b, c] = false := by with_unfolding_all rfl) : PE X (.Compare a [.LtE, .LtE] [b, c] pos) (rdE X.K (fCh leD leD fa fb fc)) := PE.imp (pe_chain op_le op_le ha hb hc hm) (rd_ch g_le g_le)
theorem i_str {X : Cx} {tg a : Expr} {fa : FE} (ha : PE X a (rdE X.K fa)) : PI X tg a (rdI X.K (fiStr fa)) := PI.imp (pi_str ha) rd_iStr
theorem q_sw {X : Cx} {e o : Expr} {fa fb : FE} {apos cpos : Pos} (ho : PE X o (rdE X.K fa)) (hb : PE X e (rdE X.K fb)) (hbase : attributeBase o "startswith" X.env (eval o X.env) = eval o X.env := by rfl)
    (hfew : ((backTo cpos (starEach [e] X.env)).all (fun x => !x.1) && (backToKw cpos (keywordEach [] X.env)).all (fun x => x.1.isSome)
      && decide ([e].length + ([] : List Keyword).length + (if ([] : List Keyword).isEmpty then 0 else 1) < 30)) = true := by rfl)
    (hline : (apos.endLine == cpos.line) = true := by rfl) (hs : starEach [e] X.env = (false, eval e X.env) :: starEach [] X.env := by exact star_cons rfl) (hplain : (backTo cpos (starEach [] X.env)).any (·.1) = false := by exact star_any rfl) :
    PE X (.Call (.Attribute o "startswith" apos) [e] [] cpos) (rdE X.K (fSw fa fb)) :=
  PE.imp (pe_bm PySem.F.plainAttrs_str PySem.F.slot_str_startswith PySem.F.type_str_startswith mt_sw ho (pa_cons hb pa_nil hs) hbase hfew hline hs hplain) rd_sw
theorem q_join {X : Cx} {e o : Expr} {fa fb : FE} {apos cpos : Pos} (ho : PE X o (rdE X.K fa)) (hb : PE X e (rdE X.K fb)) (hbase : attributeBase o "join" X.env (eval o X.env) = eval o X.env := by rfl)
    (hfew : ((backTo cpos (starEach [e] X.env)).all (fun x => !x.1) && (backToKw cpos (keywordEach [] X.env)).all (fun x => x.1.isSome)
      && decide ([e].length + ([] : List Keyword).length + (if ([] : List Keyword).isEmpty then 0 else 1) < 30)) = true := by rfl)
    (hline : (apos.endLine == cpos.line) = true := by rfl) (hs : starEach [e] X.env = (false, eval e X.env) :: starEach [] X.env := by exact star_cons rfl) (hplain : (backTo cpos (starEach [] X.env)).any (·.1) = false := by exact star_any rfl) :
    PE X (.Call (.Attribute o "join" apos) [e] [] cpos) (rdE X.K (fOp joinD fa fb)) :=
  PE.imp (pe_bm PySem.F.plainAttrs_str PySem.F.slot_str_join PySem.F.type_str_join mt_join ho (pa_cons hb pa_nil hs) hbase hfew hline hs hplain) (rd_bmS g_join)
theorem q_split {X : Cx} {e o : Expr} {fa fb : FE} {apos cpos : Pos} (ho : PE X o (rdE X.K fa)) (hb : PE X e (rdE X.K fb)) (hbase : attributeBase o "split" X.env (eval o X.env) = eval o X.env := by rfl)
    (hfew : ((backTo cpos (starEach [e] X.env)).all (fun x => !x.1) && (backToKw cpos (keywordEach [] X.env)).all (fun x => x.1.isSome)
      && decide ([e].length + ([] : List Keyword).length + (if ([] : List Keyword).isEmpty then 0 else 1) < 30)) = true := by rfl)
    (hline : (apos.endLine == cpos.line) = true := by rfl) (hs : starEach [e] X.env = (false, eval e X.env) :: starEach [] X.env := by exact star_cons rfl) (hplain : (backTo cpos (starEach [] X.env)).any (·.1) = false := by exact star_any rfl) :
    PE X (.Call (.Attribute o "split" apos) [e] [] cpos) (rdE X.K (fOp splD fa fb)) :=
  PE.imp (pe_bm PySem.F.plainAttrs_str PySem.F.slot_str_split PySem.F.type_str_split mt_split ho (pa_cons hb pa_nil hs) hbase hfew hline hs hplain) (rd_bmS g_spl)
theorem t_ninW {X : Cx} {a b : Expr} {fa fb : FE} {pos : Pos} (ha : PE X a (rdE X.K fa)) (hb : PE X b (rdE X.K fb)) (hm : behindInMarks .NotIn b = false := by rfl) : PT X (.Compare a [.NotIn] [b] pos) (rdT X.K (fB (fOp (inW true) fa fb))) := t_cmp op_notIn_seq g_inW ha hb hm
end R
theorem kinds_of {K : PySem.W.Frag} {T : String} (h1 : PySem.W.kitOne K (.type "NoneType") (.type T) = some ("NoneType" == T || ("NoneType" == "bool" && T == "int")))
    (h2 : PySem.W.kitOne K (.type "bool") (.type T) = some ("bool" == T || ("bool" == "bool" && T == "int"))) (h3 : PySem.W.kitOne K (.type "int") (.type T) = some ("int" == T || ("int" == "bool" && T == "int")))
    (h4 : PySem.W.kitOne K (.type "str") (.type T) = some ("str" == T || ("str" == "bool" && T == "int"))) (h5 : PySem.W.kitOne K (.type "tuple") (.type T) = some ("tuple" == T || ("tuple" == "bool" && T == "int")))
    (h6 : PySem.W.kitOne K (.type "list") (.type T) = some ("list" == T || ("list" == "bool" && T == "int"))) (h7 : PySem.W.kitOne K (.type "dict") (.type T) = some ("dict" == T || ("dict" == "bool" && T == "int"))) : Kinds K T := fun t ht => by
  simp only [List.mem_cons, List.not_mem_nil, or_false] at ht
  rcases ht with rfl | rfl | rfl | rfl | rfl | rfl | rfl <;> assumption
theorem kinds_int {K : PySem.W.Frag} : Kinds K "int" := kinds_of rfl rfl rfl rfl rfl rfl rfl
theorem kinds_bool {K : PySem.W.Frag} : Kinds K "bool" := kinds_of rfl rfl rfl rfl rfl rfl rfl
theorem kinds_str {K : PySem.W.Frag} : Kinds K "str" := kinds_of rfl rfl rfl rfl rfl rfl rfl
theorem kinds_tuple {K : PySem.W.Frag} : Kinds K "tuple" := kinds_of rfl rfl rfl rfl rfl rfl rfl
theorem boot_int' : bootBuiltins "int" = some (.type "int") := by decide +kernel
theorem boot_bool' : bootBuiltins "bool" = some (.type "bool") := by decide +kernel
theorem boot_str' : bootBuiltins "str" = some (.type "str") := by decide +kernel
theorem boot_tuple' : bootBuiltins "tuple" = some (.type "tuple") := by decide +kernel
theorem law_sp {K : PySem.W.Frag} {H : Hp} {a : Addr} {ns : List Int} {mf : MF} (hO : Only H) (hS : SqL K H a (ns.map V.int)) (h : mf [.fl (ns.map .int)] = some (.bl true)) : spP K 1 mf [.ref a] H (fun v _ => v = .bl true) fun _ _ _ => False := by
  refine ⟨_, _, rfl, ?_, h, fun v H' _ r => by simpa only [RelD] using r⟩
  have rInts : ∀ {ns : List Int}, RelDs K H (ns.map .int) (ns.map V.int) := fun {ns} => by
    induction ns with
    | nil => simp only [List.map_nil, RelDs]
    | cons n ns ih => simp only [List.map_cons, RelDs]; exact ⟨_, _, rfl, by simp only [RelD], ih⟩
  simp only [RelDs]
  refine ⟨_, _, rfl, ?_, rfl⟩
  simp only [RelD]
  refine ⟨a, _, rfl, ?_, rInts⟩
  rcases hS with (hS | ⟨o, hS⟩) | hS
  · rcases hO a with z | ⟨o, xs, z⟩ <;> rw [hS] at z <;> cases z
  · exact .inl ⟨o, hS⟩
  · exact .inr (.inr hS)
namespace R
section
variable {X : Cx} {e o : Expr} {es : List Expr} {fa : FE} {ga : FA} {apos cpos : Pos}
theorem q_app (ho : PE X o (rdE X.K fa)) (ha : PA X (e :: es) (rdA X.K ga)) (hbase : attributeBase o "append" X.env (eval o X.env) = eval o X.env := by rfl)
    (hfew : ((backTo cpos (starEach (e :: es) X.env)).all (fun x => !x.1) && (backToKw cpos (keywordEach [] X.env)).all (fun x => x.1.isSome)
      && decide ((e :: es).length + ([] : List Keyword).length + (if ([] : List Keyword).isEmpty then 0 else 1) < 30)) = true := by rfl)
    (hline : (apos.endLine == cpos.line) = true := by rfl) (hs : starEach (e :: es) X.env = (false, eval e X.env) :: starEach es X.env := by exact star_cons rfl) (hplain : (backTo cpos (starEach es X.env)).any (·.1) = false := by exact star_any rfl) :
    PE X (.Call (.Attribute o "append" apos) (e :: es) [] cpos) (rdE X.K (fMt appD fa ga)) :=
  PE.imp (pe_bm PySem.F.plainAttrs_list PySem.F.slot_list_append PySem.F.type_list_append mt_append ho ha hbase hfew hline hs hplain) (rd_mt g_app)
end
end R
end HW
namespace HW
open PySem PySem.Spec PyProof.Rows L2
@[irreducible] def ZE (X : Cx) (e : Expr) (t : TE) : Prop := L2.PE X e t
@[irreducible] def ZT (X : Cx) (e : Expr) (t : TT) : Prop := L2.PT X e t
@[irreducible] def ZW (X : Cx) (e : Expr) (t : TT) : Prop := L2.PW X e t
@[irreducible] def ZA (X : Cx) (e : List Expr) (t : TA) : Prop := L2.PA X e t
@[irreducible] def ZS (X : Cx) (e : Stmt) (t : TS) : Prop := L2.PS X e t
@[irreducible] def ZSs (X : Cx) (e : List Stmt) (t : TS) : Prop := L2.PSs X e t
@[irreducible] def ZG (X : Cx) (e : Expr) (t : TG) : Prop := L2.PG X e t
@[irreducible] def ZO (X : Cx) (e : Option Expr) (t : TO) : Prop := L2.PO X e t
@[irreducible] def ZIfs (X : Cx) (e : List Expr) (t : TT) : Prop := HW.PIfs X e t
@[irreducible] def ZI (X : Cx) (tg iter : Expr) (t : TI) : Prop := L2.PI X tg iter t
section
variable {X : Cx} {a b e o : Expr} {es : List Expr} {fa fb : FE} {ga : FA} {pos p p2 apos : Pos} {x : Str}
theorem q_var (i : Nat) (hN : X.N[i]? = some x := by rfl) (hv : Vis X.env.scope x := by first | exact Or.inl rfl | exact Or.inr (Or.inl rfl) | exact Or.inr (Or.inr rfl)) (hd : (x == ("__debug__" : Str)) = false := by decide)
    (hcd : (x == ("__classdict__" : Str)) = false := by decide) : ZE X (.Name x pos) (rdE X.K (fVar i)) := by
  with_unfolding_all exact R.q_var i hN hv hd hcd
theorem q_int {i j} : ZE X (.Constant (.int i) j pos) (rdE X.K (fK (.int i))) := by
  with_unfolding_all exact R.q_int 
theorem q_bl {i j} : ZE X (.Constant (.bool i) j pos) (rdE X.K (fK (.bl i))) := by
  with_unfolding_all exact R.q_bl 
theorem q_str {i j} : ZE X (.Constant (.str i) j pos) (rdE X.K (fK (.str i))) := by
  with_unfolding_all exact R.q_str 
theorem q_non {j} : ZE X (.Constant .none j pos) (rdE X.K (fK .non)) := by
  with_unfolding_all exact R.q_non 
theorem q_addQ (ha : ZE X a (rdE X.K fa)) (hb : ZE X b (rdE X.K fb)) : ZE X (.BinOp a .Add b pos) (rdE X.K (fOp addQ fa fb)) := by
  with_unfolding_all exact R.q_addQ ha hb
theorem q_sub (ha : ZE X a (rdE X.K fa)) (hb : ZE X b (rdE X.K fb)) : ZE X (.BinOp a .Sub b pos) (rdE X.K (fOp subD fa fb)) := by
  with_unfolding_all exact R.q_sub ha hb
theorem q_mul (ha : ZE X a (rdE X.K fa)) (hb : ZE X b (rdE X.K fb)) : ZE X (.BinOp a .Mult b pos) (rdE X.K (fOp mulD fa fb)) := by
  with_unfolding_all exact R.q_mul ha hb
theorem q_div (ha : ZE X a (rdE X.K fa)) (hb : ZE X b (rdE X.K fb)) : ZE X (.BinOp a .FloorDiv b pos) (rdE X.K (fOp divD fa fb)) := by
  with_unfolding_all exact R.q_div ha hb
theorem q_mod (ha : ZE X a (rdE X.K fa)) (hb : ZE X b (rdE X.K fb)) : ZE X (.BinOp a .Mod b pos) (rdE X.K (fOp modD fa fb)) := by
  with_unfolding_all exact R.q_mod ha hb
theorem q_pow (ha : ZE X a (rdE X.K fa)) (hb : ZE X b (rdE X.K fb)) : ZE X (.BinOp a .Pow b pos) (rdE X.K (fOp powD fa fb)) := by
  with_unfolding_all exact R.q_pow ha hb
theorem q_neg (ha : ZE X a (rdE X.K fa)) : ZE X (.UnaryOp .USub a pos) (rdE X.K (fUn negD fa)) := by
  with_unfolding_all exact R.q_neg ha
theorem q_not (ha : ZE X a (rdE X.K fa)) : ZE X (.UnaryOp .Not a pos) (rdE X.K (fNot fa)) := by
  with_unfolding_all exact R.q_not ha
theorem q_eq (hu : X.A.units + 64 < cLine) (ha : ZE X a (rdE X.K fa)) (hb : ZE X b (rdE X.K fb)) : ZE X (.Compare a [.Eq] [b] pos) (rdE X.K (fOp (eqR false) fa fb)) := by
  with_unfolding_all exact R.q_eq hu ha hb
theorem q_and {rest : List Expr} (ha : ZE X a (rdE X.K fa)) (hb : ZE X (.BoolOp .And (b :: rest) pos) (rdE X.K fb)) : ZE X (.BoolOp .And (a :: b :: rest) pos) (rdE X.K (fAnd fa fb)) := by
  with_unfolding_all exact R.q_and ha hb
theorem q_one {op} (ha : ZE X a (rdE X.K fa)) : ZE X (.BoolOp op [a] pos) (rdE X.K fa) := by
  with_unfolding_all exact R.q_one ha
theorem q_nil : ZA X [] (rdA X.K fNil) := by
  with_unfolding_all exact R.q_nil 
theorem q_cons (ha : ZE X e (rdE X.K fa)) (hr : ZA X es (rdA X.K ga)) (hs : starEach (e :: es) X.env = (false, eval e X.env) :: starEach es X.env := by exact star_cons rfl) : ZA X (e :: es) (rdA X.K (fCons fa ga)) := by
  with_unfolding_all exact R.q_cons ha hr hs
theorem q_tup {x1} (h : ZA X es (rdA X.K ga)) : ZE X (.Tuple es x1 pos) (rdE X.K (fTup ga)) := by
  with_unfolding_all exact R.q_tup h
theorem q_lst (h : ZA X es (rdA X.K ga)) : ZE X (.List es pos) (rdE X.K (fLst ga)) := by
  with_unfolding_all exact R.q_lst h
theorem q_fz (ha : ZE X a (rdE X.K fa)) : ZE X a (rdE X.K (fFz fa)) := by
  with_unfolding_all exact R.q_fz ha
theorem q_ix (ha : ZE X a (rdE X.K fa)) (hb : ZE X b (rdE X.K fb)) (hs : PlainIx b := by intro _ _; rfl) : ZE X (.Subscript a b pos) (rdE X.K (fOp ixD fa fb)) := by
  with_unfolding_all exact R.q_ix ha hb hs
theorem q_oN : ZO X none (rdO X.K oNone) := by
  with_unfolding_all exact R.q_oN 
theorem q_oS (ha : ZE X a (rdE X.K fa)) : ZO X (some a) (rdO X.K (oSome fa)) := by
  with_unfolding_all exact R.q_oS ha
theorem q_sl {lo hi : Option Expr} {fl fh : FO} (ha : ZE X a (rdE X.K fa)) (hl : ZO X lo (rdO X.K fl)) (hh : ZO X hi (rdO X.K fh)) : ZE X (.Subscript a (.Slice lo hi none p2) pos) (rdE X.K (fSl fa fl fh)) := by
  with_unfolding_all exact R.q_sl ha hl hh
theorem q_len (hg : Gl X "len") (hm : X.mg "len" = none) (ha : ZA X (e :: es) (rdA X.K ga)) (he : starEach (e :: es) X.env = (false, eval e X.env) :: starEach es X.env := by exact star_cons rfl) (hpl : (backTo pos (starEach es X.env)).any (·.1) = false := by exact star_any rfl) :
    ZE X (.Call (.Name "len" p) (e :: es) [] pos) (rdE X.K (fAr lenD ga)) := by
  with_unfolding_all exact R.q_len hg hm ha he hpl
theorem q_min (hc : X.calm = true) (hg : Gl X "min") (hm : X.mg "min" = none) (ha : ZA X (e :: es) (rdA X.K ga)) (he : starEach (e :: es) X.env = (false, eval e X.env) :: starEach es X.env := by exact star_cons rfl) (hpl : (backTo pos (starEach es X.env)).any (·.1) = false := by exact star_any rfl) :
    ZE X (.Call (.Name "min" p) (e :: es) [] pos) (rdE X.K (fAr minD ga)) := by
  with_unfolding_all exact R.q_min hc hg hm ha he hpl
theorem q_strc (hg : Gl X "str") (hm : X.mg "str" = none) (ha : ZA X (e :: es) (rdA X.K ga)) (he : starEach (e :: es) X.env = (false, eval e X.env) :: starEach es X.env := by exact star_cons rfl) (hpl : (backTo pos (starEach es X.env)).any (·.1) = false := by exact star_any rfl) :
    ZE X (.Call (.Name "str" p) (e :: es) [] pos) (rdE X.K (fAr strD ga)) := by
  with_unfolding_all exact R.q_strc hg hm ha he hpl
theorem q_const {d : D} (h : ConstR X.K X.mg x d) (hg : Gl X x := by rfl) (hd : (x == ("__debug__" : Str)) = false := by decide) : ZE X (.Name x pos) (rdE X.K (fK d)) := by
  with_unfolding_all exact R.q_const h hg hd
theorem q_tuple (hg : Gl X "tuple") (hm : X.mg "tuple" = none) (ha : ZA X (e :: es) (rdA X.K ga)) (he : starEach (e :: es) X.env = (false, eval e X.env) :: starEach es X.env := by exact star_cons rfl) (hpl : (backTo pos (starEach es X.env)).any (·.1) = false := by exact star_any rfl) :
    ZE X (.Call (.Name "tuple" p) (e :: es) [] pos) (rdE X.K (fAr tupD ga)) := by
  with_unfolding_all exact R.q_tuple hg hm ha he hpl
theorem q_all (hc : X.calm = true) (hg : Gl X "all") (hm : X.mg "all" = none) (ha : ZA X (e :: es) (rdA X.K ga)) (he : starEach (e :: es) X.env = (false, eval e X.env) :: starEach es X.env := by exact star_cons rfl) (hpl : (backTo pos (starEach es X.env)).any (·.1) = false := by exact star_any rfl) :
    ZE X (.Call (.Name "all" p) (e :: es) [] pos) (rdE X.K (fAr (allD false) ga)) := by
  with_unfolding_all exact R.q_all hc hg hm ha he hpl
theorem q_isi {T : String} {y : Str} (hT : Kinds X.K T) (hg : Gl X "isinstance") (hm : X.mg "isinstance" = none) (hgT : Gl X y) (hmT : X.mg y = none) (hvT : bootBuiltins y = some (.type T)) (ha : ZE X e (rdE X.K fa)) (hn : y ≠ "__name__" := by decide) (hdb : (y == ("__debug__" : Str)) = false := by decide)
    (he : starEach (e :: [.Name y p2]) X.env = (false, eval e X.env) :: starEach [.Name y p2] X.env := by exact star_cons rfl) (hpl : (backTo pos (starEach [.Name y p2] X.env)).any (·.1) = false := by rfl) :
    ZE X (.Call (.Name "isinstance" p) [e, .Name y p2] [] pos) (rdE X.K (fUn (isiD T) fa)) := by
  with_unfolding_all exact R.q_isi hT hg hm hgT hmT hvT ha hn hdb he hpl
theorem t_tru (ha : ZE X a (rdE X.K fa)) (he : ∀ whole, isTrue a X.env whole = (do let v ← whole; standAt a.pos; holding [v] (truthy v)) := by intro _; rfl) : ZT X a (rdT X.K (fTru fa)) := by
  with_unfolding_all exact R.t_tru ha he
theorem t_lt (ha : ZE X a (rdE X.K fa)) (hb : ZE X b (rdE X.K fb)) : ZT X (.Compare a [.Lt] [b] pos) (rdT X.K (fB (fOp ltD fa fb))) := by
  with_unfolding_all exact R.t_lt ha hb
theorem t_le (ha : ZE X a (rdE X.K fa)) (hb : ZE X b (rdE X.K fb)) : ZT X (.Compare a [.LtE] [b] pos) (rdT X.K (fB (fOp leD fa fb))) := by
  with_unfolding_all exact R.t_le ha hb
theorem t_eq (hu : X.A.units + 64 < cLine) (ha : ZE X a (rdE X.K fa)) (hb : ZE X b (rdE X.K fb)) : ZT X (.Compare a [.Eq] [b] pos) (rdT X.K (fB (fOp (eqR false) fa fb))) := by
  with_unfolding_all exact R.t_eq hu ha hb
theorem t_ne (hu : X.A.units + 64 < cLine) (ha : ZE X a (rdE X.K fa)) (hb : ZE X b (rdE X.K fb)) : ZT X (.Compare a [.NotEq] [b] pos) (rdT X.K (fB (fOp (eqR true) fa fb))) := by
  with_unfolding_all exact R.t_ne hu ha hb
theorem t_isN {j} (ha : ZE X a (rdE X.K fa)) : ZT X (.Compare a [.Is] [.Constant .none j p] pos) (rdT X.K (fB (fUn (isK false .non) fa))) := by
  with_unfolding_all exact R.t_isN ha
theorem t_notN {j} (ha : ZE X a (rdE X.K fa)) : ZT X (.Compare a [.IsNot] [.Constant .none j p] pos) (rdT X.K (fB (fUn (isK true .non) fa))) := by
  with_unfolding_all exact R.t_notN ha
variable {ta tb : FT} {rest : List Expr}
theorem t_not (ha : ZT X a (rdT X.K ta)) : ZT X (.UnaryOp .Not a pos) (rdT X.K (tNotF ta)) := by
  with_unfolding_all exact R.t_not ha
theorem w_and (ha : ZT X a (rdT X.K ta)) (hb : ZW X (.BoolOp .And (b :: rest) pos) (rdT X.K tb)) : ZW X (.BoolOp .And (a :: b :: rest) pos) (rdT X.K (tAndF ta tb)) := by
  with_unfolding_all exact R.w_and ha hb
theorem w_or (ha : ZT X a (rdT X.K ta)) (hb : ZW X (.BoolOp .Or (b :: rest) pos) (rdT X.K tb)) : ZW X (.BoolOp .Or (a :: b :: rest) pos) (rdT X.K (tOrF ta tb)) := by
  with_unfolding_all exact R.w_or ha hb
theorem w_and1 (ha : ZT X a (rdT X.K ta)) : ZW X (.BoolOp .And [a] pos) (rdT X.K ta) := by
  with_unfolding_all exact R.w_and1 ha
theorem w_or1 (ha : ZT X a (rdT X.K ta)) : ZW X (.BoolOp .Or [a] pos) (rdT X.K ta) := by
  with_unfolding_all exact R.w_or1 ha
theorem t_w (h : ZW X a (rdT X.K ta)) : ZT X a (rdT X.K ta) := by
  with_unfolding_all exact R.t_w h
theorem q_if {c : Expr} (hc : ZT X c (rdT X.K ta)) (ha : ZE X a (rdE X.K fa)) (hb : ZE X b (rdE X.K fb)) : ZE X (.IfExp c a b pos) (rdE X.K (fIf ta fa fb)) := by
  with_unfolding_all exact R.q_if hc ha hb
variable {st : Stmt} {sts aa bb : List Stmt} {sa sb : FS} {c tg iter : Expr}
theorem s_nil : ZSs X [] (rdS X.K sNext) := by
  with_unfolding_all exact R.s_nil 
theorem s_cons (h1 : ZS X st (rdS X.K sa)) (h2 : ZSs X sts (rdS X.K sb)) : ZSs X (st :: sts) (rdS X.K (sSeq sa sb)) := by
  with_unfolding_all exact R.s_cons h1 h2
theorem s_one (h1 : ZS X st (rdS X.K sa)) : ZSs X [st] (rdS X.K sa) := by
  with_unfolding_all exact R.s_one h1
theorem s_stuck : ZS X st (rdS X.K sStuck) := by
  with_unfolding_all exact R.s_stuck 
theorem s_expr (he : ZE X e (rdE X.K fa)) (hs : swapsWith e none pos.line X.env = pure false := by rfl) : ZS X (.Expr e pos) (rdS X.K (sDrop fa)) := by
  with_unfolding_all exact R.s_expr he hs
theorem s_ret (he : ZE X e (rdE X.K fa)) : ZS X (.Return (some e) pos) (rdS X.K (sRet fa)) := by
  with_unfolding_all exact R.s_ret he
theorem s_if (hc : ZT X c (rdT X.K ta)) (ha : ZSs X aa (rdS X.K sa)) (hb : ZSs X bb (rdS X.K sb)) : ZS X (.If c aa bb pos) (rdS X.K (sIf ta sa sb)) := by
  with_unfolding_all exact R.s_if hc ha hb
theorem s_set (i : Nat) {pos' : Pos} (hN : X.N.Nodup) (he : ZE X e (rdE X.K fa)) (hi : X.N[i]? = some x := by rfl) (hx : Loc X.env.scope x := by first | exact Or.inl rfl | exact Or.inr rfl) (hs : swapsWith e (some (.Name x pos')) pos.line X.env = pure false := by rfl) (hf : X.fn x = true ∨ X.env.scope.names.lookup x = some .local := by first | exact .inl rfl | exact .inr rfl) :
    ZS X (.Assign [.Name x pos'] e pos) (rdS X.K (sSet i fa)) := by
  with_unfolding_all exact R.s_set i hN he hi hx hs hf
variable {g : FG} {gs : FGs} {fi : FI}
theorem g_nm (i : Nat) (hN : X.N.Nodup) (hi : X.N[i]? = some x := by rfl) (hx : Loc X.env.scope x := by first | exact Or.inl rfl | exact Or.inr rfl) (hf : X.fn x = true ∨ X.env.scope.names.lookup x = some .local := by first | exact .inl rfl | exact .inr rfl) : ZG X (.Name x pos) (rdG X.K (gNm i)) := by
  with_unfolding_all exact R.g_nm i hN hi hx hf
theorem i_seq (ha : ZE X a (rdE X.K fa)) : ZI X tg a (rdI X.K (fiSeq fa)) := by
  with_unfolding_all exact R.i_seq ha
theorem i_r1 (hg : Gl X "range") (hm : X.mg "range" = none) (ha : ZE X a (rdE X.K fa)) (hs : starEach [a] X.env = [(false, eval a X.env)] := by exact star_cons rfl) : ZI X tg (.Call (.Name "range" p) [a] [] pos) (rdI X.K (fiR1 fa)) := by
  with_unfolding_all exact R.i_r1 hg hm ha hs
theorem s_for (hc : X.calm = true) (hi : ZI X tg iter (rdI X.K fi)) (hg : ZG X tg (rdG X.K g)) (hb : ZSs X aa (rdS X.K sa)) (hp : PassesOwn (model X.prog X.w) X.A X.env X.xe) (hs : ∀ x, foldedSetIterable iter X.env x = pure x := by intro _; rfl) : ZS X (.For tg iter aa [] pos) (rdS X.K (sFor fi g sa)) := by
  with_unfolding_all exact R.s_for hc hi hg hb hp hs
theorem f_nil : ZIfs X [] (rdT X.K cYes) := by
  with_unfolding_all exact R.f_nil 
theorem q_comp {ifs : List Expr} {scope : Scope} (ix : List Nat) (own caps : List Str) (hc : X.calm = true) (n : CompNames X.env.scope scope own caps) (hi : ZI X tg iter (rdI X.K fi))
    (hb : ∀ cl C s₂ H₂ fp, ZG (blockCx X scope cl C s₂ H₂ fp (own ++ caps)) tg (rdG X.K g) ∧ ZIfs (blockCx X scope cl C s₂ H₂ fp (own ++ caps)) ifs (rdT X.K ta) ∧ ZE (blockCx X scope cl C s₂ H₂ fp (own ++ caps)) e (rdE X.K fa))
    (hix : ix.map (fun i => X.N[i]?) = caps.map some := by rfl)
    (hs : ∀ x, foldedSetIterable iter X.env x = pure x := by intro _; rfl) : ZE X (.ListComp e [⟨tg, iter, ifs, 0⟩] scope pos) (rdE X.K (fComp ix own.length fi g ta fa)) := by
  with_unfolding_all exact R.q_comp ix own caps hc n hi hb hix hs
end
theorem okP {P : Program} {w : World} {K : PySem.W.Frag} {mg : Str → Option Value} {base : Heap} {x : Str} {st : Stmt} {N ps : List Str} {k : Nat} {b : FS} (d : DefAt K mg x st ps) (S : FnScope N ps (defScope st))
    (hbody : ∀ (f : Addr) (cdv : Value) (A : Around) (outer : List Env) (s : Shared) (H : Hp) (E : XK), Room k (A.deeper (envOfC x (defScope st) s.heap.objs.size f cdv)) → ZSs (cxOf CX0 P w K mg base N x (defScope st) f cdv A outer s H E).nox (defBody st) (rdS K b)) :
    Kept P w K mg base (k + 1) x ps (runP N.length b) := by
  with_unfolding_all exact R.okP d S hbody
theorem q_callK {X : Cx} {k : Nat} {x : Str} {ps : List Str} {mf : MF} {e : Expr} {es : List Expr} {ga : FA} {p pos : Pos} {n : Nat} (F : Kept X.prog X.w X.K X.mg X.base k x ps mf) (hr : Room k X.A) (ha : ZA X (e :: es) (rdA X.K ga)) (hg : Gl X x := by rfl) (hn : ps.length = n := by rfl)
    (hdb : (x == ("__debug__" : Str)) = false := by decide) (he : starEach (e :: es) X.env = (false, eval e X.env) :: starEach es X.env := by exact star_cons rfl) (hpl : (backTo pos (starEach es X.env)).any (·.1) = false := by exact star_any rfl) :
    ZE X (.Call (.Name x p) (e :: es) [] pos) (rdE X.K (fCall mf n ga)) := by
  with_unfolding_all exact R.q_callK F hr ha hg hn hdb he hpl
theorem okN {P : Program} {w : World} {K : PySem.W.Frag} {mg : Str → Option Value} {base : Heap} {x : Str} {st : Stmt} {N ps : List Str} {k : Nat} {b : FS} (d : DefAt K mg x st ps) (S : FnScope N ps (defScope st))
    (hbody : ∀ (f : Addr) (cdv : Value) (A : Around) (outer : List Env) (s : Shared) (H : Hp) (E : XK), Room k (A.deeper (envOfC x (defScope st) s.heap.objs.size f cdv)) → ZSs (cxOf CX0 P w K mg base N x (defScope st) f cdv A outer s H E).nox (defBody st) (rdS K b)) :
    KeptN P w K mg base (k + 1) x ps (runN N.length b) := by
  with_unfolding_all exact R.okN d S hbody
theorem q_callN {X : Cx} {k : Nat} {x : Str} {ps : List Str} {mf : MC} {e : Expr} {es : List Expr} {ga : FA} {p pos : Pos} {n : Nat} (F : KeptN X.prog X.w X.K X.mg X.base k x ps mf) (hr : Room k X.A) (ha : ZA X (e :: es) (rdA X.K ga)) (hg : Gl X x := by rfl) (hn : ps.length = n := by rfl)
    (hdb : (x == ("__debug__" : Str)) = false := by decide) (he : starEach (e :: es) X.env = (false, eval e X.env) :: starEach es X.env := by exact star_cons rfl) (hpl : (backTo pos (starEach es X.env)).any (·.1) = false := by exact star_any rfl) :
    ZE X (.Call (.Name x p) (e :: es) [] pos) (rdE X.K (fCallN mf n ga)) := by
  with_unfolding_all exact R.q_callN F hr ha hg hn hdb he hpl
theorem q_isx {X : Cx} {tbl : Str → Option Bool} {v : V} {u : Value} {e c : Expr} {fa : FE} {p pos : Pos} (hf : X.mg "isinstance" = none) (hc : ZE X c (tC v)) (hv : RelV v u) (hu : ∀ u', RelV v u' → u' = u) (hO : ∀ c C b, tbl c = some b → clsAt X.K c C → ClsX X.K C ∧ PySem.W.kitOne X.K (.ref C) u = some b) (ha : ZE X e (rdE X.K fa))
    (hg : Gl X "isinstance" := by rfl) (hs1 : starEach [e, c] X.env = (false, eval e X.env) :: starEach [c] X.env := by exact star_cons rfl) (hs2 : starEach [c] X.env = (false, eval c X.env) :: starEach [] X.env := by exact star_cons rfl) (hpl : (backTo pos (starEach [c] X.env)).any (·.1) = false := by exact star_any rfl) :
    ZE X (.Call (.Name "isinstance" p) [e, c] [] pos) (rdE X.K (fUn (isiX tbl) fa)) := by
  with_unfolding_all exact R.q_isx hf hc hv hu hO ha hg hs1 hs2 hpl
theorem q_isxt {X : Cx} {tbl : Str → Option Bool} {vs : List V} {us' : List Value} {e : Expr} {cs : List Expr} {x1 : Nat} {fa : FE} {p p2 pos : Pos} (hf : X.mg "isinstance" = none) (hc : ZA X cs (tCs vs)) (hz : vs.length ≤ sizeLine) (hu : ∀ us, Vals vs us → us = us') (hO : ∀ c C b, tbl c = some b → clsAt X.K c C → ClsX X.K C ∧ PySem.W.kitAny X.K (.ref C) us' = some b) (ha : ZE X e (rdE X.K fa))
    (hg : Gl X "isinstance" := by rfl) (hs1 : starEach [e, .Tuple cs x1 p2] X.env = (false, eval e X.env) :: starEach [.Tuple cs x1 p2] X.env := by exact star_cons rfl) (hs2 : starEach [.Tuple cs x1 p2] X.env = (false, eval (.Tuple cs x1 p2) X.env) :: starEach [] X.env := by exact star_cons rfl) (hpl : (backTo pos (starEach [.Tuple cs x1 p2] X.env)).any (·.1) = false := by exact star_any rfl) :
    ZE X (.Call (.Name "isinstance" p) [e, .Tuple cs x1 p2] [] pos) (rdE X.K (fUn (isiX tbl) fa)) := by
  with_unfolding_all exact R.q_isxt hf hc hz hu hO ha hg hs1 hs2 hpl
theorem q_slS {X : Cx} {a : Expr} {fa : FE} {p2 pos : Pos} {lo hi : Option Expr} {fl fh : FO} (ha : ZE X a (rdE X.K fa)) (hl : ZO X lo (rdO X.K fl)) (hh : ZO X hi (rdO X.K fh)) : ZE X (.Subscript a (.Slice lo hi none p2) pos) (rdE X.K (fSlS fa fl fh)) := by
  with_unfolding_all exact R.q_slS ha hl hh
theorem q_ixS {X : Cx} {a b : Expr} {fa fb : FE} {pos : Pos} (ha : ZE X a (rdE X.K fa)) (hb : ZE X b (rdE X.K fb)) (hs : PlainIxT b := by intro _ _; rfl) : ZE X (.Subscript a b pos) (rdE X.K (fOp ixS fa fb)) := by
  with_unfolding_all exact R.q_ixS ha hb hs
theorem q_lenS {X : Cx} {e : Expr} {es : List Expr} {ga : FA} {p pos : Pos} (hg : Gl X "len") (hm : X.mg "len" = none) (ha : ZA X (e :: es) (rdA X.K ga)) (he : starEach (e :: es) X.env = (false, eval e X.env) :: starEach es X.env := by exact star_cons rfl) (hpl : (backTo pos (starEach es X.env)).any (·.1) = false := by exact star_any rfl) :
    ZE X (.Call (.Name "len" p) (e :: es) [] pos) (rdE X.K (fAr lenS ga)) := by
  with_unfolding_all exact R.q_lenS hg hm ha he hpl
theorem q_intS {X : Cx} {e : Expr} {es : List Expr} {ga : FA} {p pos : Pos} (hg : Gl X "int") (hm : X.mg "int" = none) (ha : ZA X (e :: es) (rdA X.K ga)) (he : starEach (e :: es) X.env = (false, eval e X.env) :: starEach es X.env := by exact star_cons rfl) (hpl : (backTo pos (starEach es X.env)).any (·.1) = false := by exact star_any rfl) :
    ZE X (.Call (.Name "int" p) (e :: es) [] pos) (rdE X.K (fAr intS ga)) := by
  with_unfolding_all exact R.q_intS hg hm ha he hpl
theorem q_inS {X : Cx} {a b : Expr} {fa fb : FE} {pos : Pos} (ha : ZE X a (rdE X.K fa)) (hb : ZE X b (rdE X.K fb)) (hm : behindInMarks .In b = false := by rfl) : ZE X (.Compare a [.In] [b] pos) (rdE X.K (fOp (inS false) fa fb)) := by
  with_unfolding_all exact R.q_inS ha hb hm
theorem q_ch {X : Cx} {a b c : Expr} {fa fb fc : FE} {pos : Pos} (ha : ZE X a (rdE X.K fa)) (hb : ZE X b (rdE X.K fb)) (hc : ZE X c (rdE X.K fc)) (hm : lastMarks [.LtE, .LtE] [b, c] = false := by with_unfolding_all rfl) : ZE X (.Compare a [.LtE, .LtE] [b, c] pos) (rdE X.K (fCh leD leD fa fb fc)) := by
  with_unfolding_all exact R.q_ch ha hb hc hm
theorem i_str {X : Cx} {tg a : Expr} {fa : FE} (ha : ZE X a (rdE X.K fa)) : ZI X tg a (rdI X.K (fiStr fa)) := by
  with_unfolding_all exact R.i_str ha
theorem q_sw {X : Cx} {e o : Expr} {fa fb : FE} {apos cpos : Pos} (ho : ZE X o (rdE X.K fa)) (hb : ZE X e (rdE X.K fb)) (hbase : attributeBase o "startswith" X.env (eval o X.env) = eval o X.env := by rfl)
    (hfew : ((backTo cpos (starEach [e] X.env)).all (fun x => !x.1) && (backToKw cpos (keywordEach [] X.env)).all (fun x => x.1.isSome)
      && decide ([e].length + ([] : List Keyword).length + (if ([] : List Keyword).isEmpty then 0 else 1) < 30)) = true := by rfl)
    (hline : (apos.endLine == cpos.line) = true := by rfl) (hs : starEach [e] X.env = (false, eval e X.env) :: starEach [] X.env := by exact star_cons rfl) (hplain : (backTo cpos (starEach [] X.env)).any (·.1) = false := by exact star_any rfl) :
    ZE X (.Call (.Attribute o "startswith" apos) [e] [] cpos) (rdE X.K (fSw fa fb)) := by
  with_unfolding_all exact R.q_sw ho hb hbase hfew hline hs hplain
theorem q_join {X : Cx} {e o : Expr} {fa fb : FE} {apos cpos : Pos} (ho : ZE X o (rdE X.K fa)) (hb : ZE X e (rdE X.K fb)) (hbase : attributeBase o "join" X.env (eval o X.env) = eval o X.env := by rfl)
    (hfew : ((backTo cpos (starEach [e] X.env)).all (fun x => !x.1) && (backToKw cpos (keywordEach [] X.env)).all (fun x => x.1.isSome)
      && decide ([e].length + ([] : List Keyword).length + (if ([] : List Keyword).isEmpty then 0 else 1) < 30)) = true := by rfl)
    (hline : (apos.endLine == cpos.line) = true := by rfl) (hs : starEach [e] X.env = (false, eval e X.env) :: starEach [] X.env := by exact star_cons rfl) (hplain : (backTo cpos (starEach [] X.env)).any (·.1) = false := by exact star_any rfl) :
    ZE X (.Call (.Attribute o "join" apos) [e] [] cpos) (rdE X.K (fOp joinD fa fb)) := by
  with_unfolding_all exact R.q_join ho hb hbase hfew hline hs hplain
theorem q_split {X : Cx} {e o : Expr} {fa fb : FE} {apos cpos : Pos} (ho : ZE X o (rdE X.K fa)) (hb : ZE X e (rdE X.K fb)) (hbase : attributeBase o "split" X.env (eval o X.env) = eval o X.env := by rfl)
    (hfew : ((backTo cpos (starEach [e] X.env)).all (fun x => !x.1) && (backToKw cpos (keywordEach [] X.env)).all (fun x => x.1.isSome)
      && decide ([e].length + ([] : List Keyword).length + (if ([] : List Keyword).isEmpty then 0 else 1) < 30)) = true := by rfl)
    (hline : (apos.endLine == cpos.line) = true := by rfl) (hs : starEach [e] X.env = (false, eval e X.env) :: starEach [] X.env := by exact star_cons rfl) (hplain : (backTo cpos (starEach [] X.env)).any (·.1) = false := by exact star_any rfl) :
    ZE X (.Call (.Attribute o "split" apos) [e] [] cpos) (rdE X.K (fOp splD fa fb)) := by
  with_unfolding_all exact R.q_split ho hb hbase hfew hline hs hplain
theorem t_ninW {X : Cx} {a b : Expr} {fa fb : FE} {pos : Pos} (ha : ZE X a (rdE X.K fa)) (hb : ZE X b (rdE X.K fb)) (hm : behindInMarks .NotIn b = false := by rfl) : ZT X (.Compare a [.NotIn] [b] pos) (rdT X.K (fB (fOp (inW true) fa fb))) := by
  with_unfolding_all exact R.t_ninW ha hb hm
section
variable {X : Cx} {e o : Expr} {es : List Expr} {fa : FE} {ga : FA} {apos cpos : Pos}
theorem q_app (ho : ZE X o (rdE X.K fa)) (ha : ZA X (e :: es) (rdA X.K ga)) (hbase : attributeBase o "append" X.env (eval o X.env) = eval o X.env := by rfl)
    (hfew : ((backTo cpos (starEach (e :: es) X.env)).all (fun x => !x.1) && (backToKw cpos (keywordEach [] X.env)).all (fun x => x.1.isSome)
      && decide ((e :: es).length + ([] : List Keyword).length + (if ([] : List Keyword).isEmpty then 0 else 1) < 30)) = true := by rfl)
    (hline : (apos.endLine == cpos.line) = true := by rfl) (hs : starEach (e :: es) X.env = (false, eval e X.env) :: starEach es X.env := by exact star_cons rfl) (hplain : (backTo cpos (starEach es X.env)).any (·.1) = false := by exact star_any rfl) :
    ZE X (.Call (.Attribute o "append" apos) (e :: es) [] cpos) (rdE X.K (fMt appD fa ga)) := by
  with_unfolding_all exact R.q_app ho ha hbase hfew hline hs hplain
end
theorem funOkP {P : Program} {w : World} {K : PySem.W.Frag} {mg : Str → Option Value} {base : Heap} {x qual : Str} {st : Stmt} {f : Addr} {fd : FuncData} {N ps : List Str} {k : Nat} {b : FS} (F : Fun K x qual st f fd) (S : FnScope N ps (defScope st))
    (hbody : ∀ (cdv : Value) (A : Around) (outer : List Env) (s : Shared) (H : Hp) (E : XK), Room k (A.deeper (envOfC qual (defScope st) s.heap.objs.size f cdv)) → ZSs (cxOf CX0 P w K mg base N qual (defScope st) f cdv A outer s H E).nox (defBody st) (rdS K b)) :
    FnOk P w K mg base CX0 (k + 1) f fd ps (spP K ps.length (runP N.length b)) := by
  with_unfolding_all exact Fun.okP F S hbody
end HW
namespace HW
open PySem L2
section
variable {ρ : Lo} {μ μ1 : Store} {x y : R} {d : D}
@[simp] theorem ev_v0 {ρ : Lo} : fVar 0 (some x :: ρ) μ = some (x, μ) := rfl
@[simp] theorem ev_vs {i : Nat} {o : Option R} {ρ : Lo} : fVar (i + 1) (o :: ρ) μ = fVar i ρ μ := by simp [fVar]
@[simp] theorem ev_k : fK d ρ μ = some (.v d, μ) := rfl
def thOp (o : Option (R × Store)) (g : R → R → Store → Option (R × Store)) (fb : FE) (ρ : Lo) : Option (R × Store) := o.bind fun a => (fb ρ a.2).bind fun b => g a.1 b.1 b.2
def thOp2 (x : R) (o : Option (R × Store)) (g : R → R → Store → Option (R × Store)) : Option (R × Store) := o.bind fun b => g x b.1 b.2
@[simp] theorem ev_op {g fa fb} : fOp g fa fb ρ μ = thOp (fa ρ μ) g fb ρ := rfl
@[simp] theorem ev_op1 {g fb} : thOp (some (x, μ)) g fb ρ = thOp2 x (fb ρ μ) g := rfl
@[simp] theorem ev_op2 {g} : thOp2 x (some (y, μ)) g = g x y μ := rfl
def thUn (o : Option (R × Store)) (g : R → Store → Option (R × Store)) : Option (R × Store) := o.bind fun a => g a.1 a.2
@[simp] theorem ev_un {g fa} : fUn g fa ρ μ = thUn (fa ρ μ) g := rfl
@[simp] theorem ev_un1 {g} : thUn (some (x, μ)) g = g x μ := rfl
@[simp] theorem ev_nil : fNil ρ μ = some ([], μ) := rfl
def thCons (o : Option (R × Store)) (fr : FA) (ρ : Lo) : Option (List R × Store) := o.bind fun a => (fr ρ a.2).bind fun r => some (a.1 :: r.1, r.2)
def thCons2 (x : R) (o : Option (List R × Store)) : Option (List R × Store) := o.bind fun r => some (x :: r.1, r.2)
@[simp] theorem ev_cons {fa fr} : fCons fa fr ρ μ = thCons (fa ρ μ) fr ρ := rfl
@[simp] theorem ev_cons1 {fr} : thCons (some (x, μ)) fr ρ = thCons2 x (fr ρ μ) := rfl
@[simp] theorem ev_cons2 {xs} : thCons2 x (some (xs, μ)) = some (x :: xs, μ) := rfl
def thAr (o : Option (List R × Store)) (g : List R → Store → Option (R × Store)) : Option (R × Store) := o.bind fun a => g a.1 a.2
@[simp] theorem ev_ar {g fa} : fAr g fa ρ μ = thAr (fa ρ μ) g := rfl
@[simp] theorem ev_ar1 {g xs} : thAr (some (xs, μ)) g = g xs μ := rfl
def thB (o : Option (R × Store)) : Option (Bool × Store) := o.bind fun a => match a.1 with | .v (.bl b) => some (b, a.2) | _ => none
@[simp] theorem ev_B {fa} : fB fa ρ μ = thB (fa ρ μ) := rfl
@[simp] theorem ev_B1 {b} : thB (some (.v (.bl b), μ)) = some (b, μ) := rfl
def thTru (o : Option (R × Store)) : Option (Bool × Store) := o.bind fun a => (truD a.1 a.2).bind fun b => some (b, a.2)
@[simp] theorem ev_tru {fa} : fTru fa ρ μ = thTru (fa ρ μ) := rfl
@[simp] theorem ev_tru1 {b} : thTru (some (.v (.bl b), μ)) = some (b, μ) := rfl
@[simp] theorem ev_tru2 {xs} : thTru (some (.v (.tup xs), μ)) = some (!xs.isEmpty, μ) := rfl
@[simp] theorem ev_tru3 {xs} : thTru (some (.v (.fl xs), μ)) = some (!xs.isEmpty, μ) := rfl
@[simp] theorem ev_tru4 {i} : thTru (some (.v (.int i), μ)) = some (i != 0, μ) := rfl
@[simp] theorem ev_tru5 : thTru (some (.v .non, μ)) = some (false, μ) := rfl
def thAnd (o : Option (Bool × Store)) (u : FT) (ρ : Lo) : Option (Bool × Store) := o.bind fun c => if c.1 = true then u ρ c.2 else some (false, c.2)
def thOr (o : Option (Bool × Store)) (u : FT) (ρ : Lo) : Option (Bool × Store) := o.bind fun c => if c.1 = true then some (true, c.2) else u ρ c.2
def thNot (o : Option (Bool × Store)) : Option (Bool × Store) := o.bind fun c => some (!c.1, c.2)
@[simp] theorem ev_tand {t u} : tAndF t u ρ μ = thAnd (t ρ μ) u ρ := rfl
@[simp] theorem ev_tand1 {b u} : thAnd (some (b, μ)) u ρ = if b = true then u ρ μ else some (false, μ) := rfl
@[simp] theorem ev_tor {t u} : tOrF t u ρ μ = thOr (t ρ μ) u ρ := rfl
@[simp] theorem ev_tor1 {b u} : thOr (some (b, μ)) u ρ = if b = true then some (true, μ) else u ρ μ := rfl
@[simp] theorem ev_tnot {t} : tNotF t ρ μ = thNot (t ρ μ) := rfl
@[simp] theorem ev_tnot1 {b} : thNot (some (b, μ)) = some (!b, μ) := rfl
def thAndV (o : Option (R × Store)) (fb : FE) (ρ : Lo) : Option (R × Store) := o.bind fun a => match a.1 with | .v (.bl c) => if c = true then fb ρ a.2 else some (.v (.bl false), a.2) | _ => none
def thOrV (o : Option (R × Store)) (fb : FE) (ρ : Lo) : Option (R × Store) := o.bind fun a => match a.1 with | .v (.bl c) => if c = true then some (.v (.bl true), a.2) else fb ρ a.2 | _ => none
def thNotV (o : Option (R × Store)) : Option (R × Store) := o.bind fun a => match a.1 with | .v (.bl c) => some (.v (.bl (!c)), a.2) | _ => none
@[simp] theorem ev_and {fa fb} : fAnd fa fb ρ μ = thAndV (fa ρ μ) fb ρ := rfl
@[simp] theorem ev_and1 {c fb} : thAndV (some (.v (.bl c), μ)) fb ρ = if c = true then fb ρ μ else some (.v (.bl false), μ) := rfl
@[simp] theorem ev_or {fa fb} : fOr fa fb ρ μ = thOrV (fa ρ μ) fb ρ := rfl
@[simp] theorem ev_or1 {c fb} : thOrV (some (.v (.bl c), μ)) fb ρ = if c = true then some (.v (.bl true), μ) else fb ρ μ := rfl
@[simp] theorem ev_not {fa} : fNot fa ρ μ = thNotV (fa ρ μ) := rfl
@[simp] theorem ev_not1 {c} : thNotV (some (.v (.bl c), μ)) = some (.v (.bl (!c)), μ) := rfl
def thIf (o : Option (Bool × Store)) (fa fb : FE) (ρ : Lo) : Option (R × Store) := o.bind fun c => if c.1 = true then fa ρ c.2 else fb ρ c.2
@[simp] theorem ev_if {t fa fb} : fIf t fa fb ρ μ = thIf (t ρ μ) fa fb ρ := rfl
@[simp] theorem ev_if1 {c fa fb} : thIf (some (c, μ)) fa fb ρ = if c = true then fa ρ μ else fb ρ μ := rfl
@[simp] theorem ev_vals0 : vals [] = some [] := rfl
@[simp] theorem ev_vals1 {r ds} (h : vals r = some ds) : vals (.v d :: r) = some (d :: ds) := by simp [vals, h]
def thTup (o : Option (List R × Store)) : Option (R × Store) := o.bind fun a => (vals a.1).bind fun ds => if ds.length ≤ sizeLine then some (.v (.tup ds), a.2) else none
def thLst (o : Option (List R × Store)) : Option (R × Store) := o.bind fun a => (vals a.1).bind fun ds => if ds.length ≤ sizeLine then some (.p a.2.length, a.2 ++ [.lst ds]) else none
@[simp] theorem ev_tup {fa} : fTup fa ρ μ = thTup (fa ρ μ) := rfl
@[simp] theorem ev_tup1 {rs ds} (h : vals rs = some ds) (hl : ds.length ≤ sizeLine) : thTup (some (rs, μ)) = some (.v (.tup ds), μ) := by simp [thTup, h, hl]
@[simp] theorem ev_lst {fa} : fLst fa ρ μ = thLst (fa ρ μ) := rfl
@[simp] theorem ev_lst1 {rs ds} (h : vals rs = some ds) (hl : ds.length ≤ sizeLine) : thLst (some (rs, μ)) = some (.p μ.length, μ ++ [.lst ds]) := by simp [thLst, h, hl]
@[simp] theorem ev_dnew : fDnew ρ μ = some (.p μ.length, μ ++ [.dct []]) := rfl
def thFz (o : Option (R × Store)) : Option (R × Store) := o.bind fun a => (fzD a.1 a.2).bind fun b => some (.v b.1, b.2)
@[simp] theorem ev_fz {fa} : fFz fa ρ μ = thFz (fa ρ μ) := rfl
@[simp] theorem ev_fz1 : thFz (some (.v d, μ)) = some (.v d, μ) := rfl
def thCall (o : Option (List R × Store)) (f : MF) (n : Nat) : Option (R × Store) := o.bind fun a => (vals a.1).bind fun ds => if ds.length = n then (f ds).bind fun d => some (.v d, a.2) else none
@[simp] theorem ev_call {f n fa} : fCall f n fa ρ μ = thCall (fa ρ μ) f n := rfl
@[simp] theorem ev_next : sNext ρ μ = some (.nx ρ μ) := rfl
def thS (o : Option Out) (b : FS) : Option Out := o.bind fun o => match o with | .nx ρ' μ' => b ρ' μ' | o => some o
@[simp] theorem ev_seq {a b} : sSeq a b ρ μ = thS (a ρ μ) b := rfl
@[simp] theorem ev_seq1 {b} : thS (some (.nx ρ μ)) b = b ρ μ := rfl
@[simp] theorem ev_seq2 {b} : thS (some (.rt x μ)) b = some (.rt x μ) := rfl
@[simp] theorem ev_seq3 {b} : thS (some (.bk ρ μ)) b = some (.bk ρ μ) := rfl
@[simp] theorem ev_seq4 {b} : thS (some (.ct ρ μ)) b = some (.ct ρ μ) := rfl
@[simp] theorem ev_break : sBreak ρ μ = some (.bk ρ μ) := rfl
@[simp] theorem ev_cont : sCont ρ μ = some (.ct ρ μ) := rfl
def thDrop (o : Option (R × Store)) (ρ : Lo) : Option Out := o.bind fun a => some (.nx ρ a.2)
@[simp] theorem ev_drop {f} : sDrop f ρ μ = thDrop (f ρ μ) ρ := rfl
@[simp] theorem ev_drop1 : thDrop (some (x, μ)) ρ = some (.nx ρ μ) := rfl
def thRet (o : Option (R × Store)) : Option Out := o.bind fun a => some (.rt a.1 a.2)
@[simp] theorem ev_ret {f} : sRet f ρ μ = thRet (f ρ μ) := rfl
@[simp] theorem ev_ret1 : thRet (some (x, μ)) = some (.rt x μ) := rfl
@[simp] theorem ev_retN : sRetN ρ μ = some (.rt (.v .non) μ) := rfl
def thIfS (o : Option (Bool × Store)) (a b : FS) (ρ : Lo) : Option Out := o.bind fun c => if c.1 = true then a ρ c.2 else b ρ c.2
@[simp] theorem ev_ifS {t a b} : sIf t a b ρ μ = thIfS (t ρ μ) a b ρ := rfl
@[simp] theorem ev_ifT {a b} : thIfS (some (true, μ)) a b ρ = a ρ μ := rfl
@[simp] theorem ev_ifF {a b} : thIfS (some (false, μ)) a b ρ = b ρ μ := rfl
def thSet (o : Option (R × Store)) (i : Nat) (ρ : Lo) : Option Out := o.bind fun a => some (.nx (ρ.set i (some a.1)) a.2)
@[simp] theorem ev_set {i f} : sSet i f ρ μ = thSet (f ρ μ) i ρ := rfl
@[simp] theorem ev_set1 {i} : thSet (some (x, μ)) i ρ = some (.nx (ρ.set i (some x)) μ) := rfl
def thFor (o : Option (List D × Store)) (g : FG) (b : FS) (ρ : Lo) : Option Out := o.bind fun a => loop g b a.1 ρ a.2
@[simp] theorem ev_for {i g b} : sFor i g b ρ μ = thFor (i ρ μ) g b ρ := Eq.trans rfl rfl
@[simp] theorem ev_for1 {xs g b} : thFor (some (xs, μ)) g b ρ = loop g b xs ρ μ := Eq.trans rfl rfl
def thSeq (o : Option (R × Store)) : Option (List D × Store) := o.bind fun a => match a.1 with | .v (.fl xs) => some (xs, a.2) | .v (.tup xs) => some (xs, a.2) | _ => none
@[simp] theorem ev_iseq {f} : fiSeq f ρ μ = thSeq (thFz (f ρ μ)) := rfl
@[simp] theorem ev_iseq1 {xs} : thSeq (some (.v (.fl xs), μ)) = some (xs, μ) := rfl
@[simp] theorem ev_iseq2 {xs} : thSeq (some (.v (.tup xs), μ)) = some (xs, μ) := rfl
def thR1 (o : Option (R × Store)) : Option (List D × Store) := o.bind fun a => match a.1 with | .v (.int j) => if -(2 ^ 62) ≤ j ∧ j < 2 ^ 62 then some ((List.range j.toNat).map fun i => .int (i : Nat), a.2) else none | _ => none
@[simp] theorem ev_r1 {f} : fiR1 f ρ μ = thR1 (f ρ μ) := Eq.trans rfl rfl
theorem ev_r11 {j : Int} (h : -(2 ^ 62) ≤ j ∧ j < 2 ^ 62) : thR1 (some (.v (.int j), μ)) = some ((List.range j.toNat).map fun i => .int (i : Nat), μ) := by
  show (if -(2 ^ 62) ≤ j ∧ j < 2 ^ 62 then _ else _) = _
  rw [if_pos h]
def thR2 (o : Option (R × Store)) (g : FE) (ρ : Lo) : Option (List D × Store) := o.bind fun a => (g ρ a.2).bind fun b => match a.1, b.1 with
  | .v (.int i), .v (.int j) => if -(2 ^ 62) ≤ i ∧ i < 2 ^ 62 ∧ -(2 ^ 62) ≤ j ∧ j < 2 ^ 62 then some ((List.range (j - i).toNat).map fun k => .int (i + (k : Nat)), b.2) else none | _, _ => none
def thR22 (x : R) (o : Option (R × Store)) : Option (List D × Store) := o.bind fun b => match x, b.1 with
  | .v (.int i), .v (.int j) => if -(2 ^ 62) ≤ i ∧ i < 2 ^ 62 ∧ -(2 ^ 62) ≤ j ∧ j < 2 ^ 62 then some ((List.range (j - i).toNat).map fun k => .int (i + (k : Nat)), b.2) else none | _, _ => none
@[simp] theorem ev_r2 {f g} : fiR2 f g ρ μ = thR2 (f ρ μ) g ρ := Eq.trans rfl rfl
@[simp] theorem ev_r21 {g} : thR2 (some (x, μ)) g ρ = thR22 x (g ρ μ) := Eq.trans rfl rfl
def thComp (o : Option (List D × Store)) (ix : List Nat) (k : Nat) (g : FG) (c : FT) (f : FE) (ρ : Lo) : Option (R × Store) := o.bind fun a => if a.1.length ≤ sizeLine then
  (compL g c f a.1 (blockLo k ix ρ) a.2).bind fun r => some (.p r.2.length, r.2 ++ [.lst r.1]) else none
@[simp] theorem ev_comp {ix k i g c f} : fComp ix k i g c f ρ μ = thComp (i ρ μ) ix k g c f ρ := Eq.trans rfl rfl
@[simp] theorem ev_yes : cYes ρ μ = some (true, μ) := rfl
def thSl (o : Option (R × Store)) (fl fh : FO) (ρ : Lo) : Option (R × Store) := o.bind fun a => (fl ρ a.2).bind fun l => (fh ρ l.2).bind fun h => slD a.1 l.1 h.1 h.2
def thSl1 (x : R) (o : Option (Option Int × Store)) (fh : FO) (ρ : Lo) : Option (R × Store) := o.bind fun l => (fh ρ l.2).bind fun h => slD x l.1 h.1 h.2
def thSl2 (x : R) (l : Option Int) (o : Option (Option Int × Store)) : Option (R × Store) := o.bind fun h => slD x l h.1 h.2
@[simp] theorem ev_sl {fa fl fh} : fSl fa fl fh ρ μ = thSl (fa ρ μ) fl fh ρ := rfl
@[simp] theorem ev_sl1 {fl fh} : thSl (some (x, μ)) fl fh ρ = thSl1 x (fl ρ μ) fh ρ := rfl
@[simp] theorem ev_sl2 {l fh} : thSl1 x (some (l, μ)) fh ρ = thSl2 x l (fh ρ μ) := rfl
@[simp] theorem ev_sl3 {l h} : thSl2 x l (some (h, μ)) = slD x l h μ := rfl
@[simp] theorem ev_slT {xs l h} : slD (.v (.tup xs)) l h μ = some (.v (.tup (cutD xs l h)), μ) := rfl
def thO (o : Option (R × Store)) : Option (Option Int × Store) := o.bind fun a => match a.1 with | .v (.int i) => some (some i, a.2) | _ => none
@[simp] theorem ev_oN : oNone ρ μ = some (none, μ) := rfl
@[simp] theorem ev_oS {f} : oSome f ρ μ = thO (f ρ μ) := rfl
@[simp] theorem ev_oS1 {i} : thO (some (.v (.int i), μ)) = some (some i, μ) := rfl
def thMt (o : Option (R × Store)) (g : R → List R → Store → Option (R × Store)) (ga : FA) (ρ : Lo) : Option (R × Store) := o.bind fun a => if isLst a.1 a.2 = true then (ga ρ a.2).bind fun b => g a.1 b.1 b.2 else none
def thMt2 (x : R) (o : Option (List R × Store)) (g : R → List R → Store → Option (R × Store)) : Option (R × Store) := o.bind fun b => g x b.1 b.2
@[simp] theorem ev_mt {g fa ga} : fMt g fa ga ρ μ = thMt (fa ρ μ) g ga ρ := rfl
@[simp] theorem ev_mt2 {g xs} : thMt2 x (some (xs, μ)) g = g x xs μ := rfl
variable {i j : Int} {b c : Bool} {xs ys : List D}
@[simp] theorem ev_add : addD (.v (.int i)) (.v (.int j)) μ = some (.v (.int (i + j)), μ) := rfl
@[simp] theorem ev_sub : subD (.v (.int i)) (.v (.int j)) μ = some (.v (.int (i - j)), μ) := rfl
@[simp] theorem ev_lt : ltD (.v (.int i)) (.v (.int j)) μ = some (.v (.bl (decide (i < j))), μ) := rfl
@[simp] theorem ev_le : leD (.v (.int i)) (.v (.int j)) μ = some (.v (.bl (decide (i ≤ j))), μ) := rfl
@[simp] theorem ev_gt : gtD (.v (.int i)) (.v (.int j)) μ = some (.v (.bl (decide (j < i))), μ) := rfl
@[simp] theorem ev_ge : geD (.v (.int i)) (.v (.int j)) μ = some (.v (.bl (decide (j ≤ i))), μ) := rfl
theorem ev_mod (h : 0 < j) : modD (.v (.int i)) (.v (.int j)) μ = some (.v (.int (i % j)), μ) := by simp [modD, iOp, h]
theorem ev_div (h : 0 < j) (h2 : j < 1073741824) : divD (.v (.int i)) (.v (.int j)) μ = some (.v (.int (i / j)), μ) := by simp [divD, iOp, h, h2]
theorem ev_mulR (h : -(2 ^ 64) < j ∧ j < 2 ^ 64) : mulD (.v (.int i)) (.v (.int j)) μ = some (.v (.int (i * j)), μ) := by
  show (if (decide (-(2 ^ 64) < i ∧ i < 2 ^ 64) || decide (-(2 ^ 64) < j ∧ j < 2 ^ 64)) = true then _ else _) = _
  rw [if_pos (by rw [Bool.or_eq_true]; exact .inr (decide_eq_true h))]
theorem ev_mulL (h : -(2 ^ 64) < i ∧ i < 2 ^ 64) : mulD (.v (.int i)) (.v (.int j)) μ = some (.v (.int (i * j)), μ) := by
  show (if (decide (-(2 ^ 64) < i ∧ i < 2 ^ 64) || decide (-(2 ^ 64) < j ∧ j < 2 ^ 64)) = true then _ else _) = _
  rw [if_pos (by rw [Bool.or_eq_true]; exact .inl (decide_eq_true h))]
theorem ev_pow (h : 0 ≤ j ∧ j ≤ 1000000 ∧ i.natAbs < 2 ^ 64) : powD (.v (.int i)) (.v (.int j)) μ = some (.v (.int (i ^ j.toNat)), μ) := by simp [powD, iOp, h]
@[simp] theorem ev_neg : negD (.v (.int i)) μ = some (.v (.int (-i)), μ) := rfl
@[simp] theorem ev_eqI : eqR false (.v (.int i)) (.v (.int j)) μ = some (.v (.bl (i == j)), μ) := rfl
@[simp] theorem ev_neI : eqR true (.v (.int i)) (.v (.int j)) μ = some (.v (.bl (!(i == j))), μ) := rfl
@[simp] theorem ev_eqB : eqR false (.v (.bl b)) (.v (.bl c)) μ = some (.v (.bl (b == c)), μ) := rfl
@[simp] theorem ev_neB : eqR true (.v (.bl b)) (.v (.bl c)) μ = some (.v (.bl (!(b == c))), μ) := rfl
@[simp] theorem ev_lenT : lenD [.v (.tup xs)] μ = some (.v (.int xs.length), μ) := rfl
@[simp] theorem ev_lenF : lenD [.v (.fl xs)] μ = some (.v (.int xs.length), μ) := rfl
@[simp] theorem ev_tupT : tupD [.v (.tup xs)] μ = some (.v (.tup xs), μ) := rfl
@[simp] theorem ev_tupF : tupD [.v (.fl xs)] μ = some (.v (.tup xs), μ) := rfl
@[simp] theorem ev_listT : listD [.v (.tup xs)] μ = some (.p μ.length, μ ++ [.lst xs]) := rfl
@[simp] theorem ev_listF : listD [.v (.fl xs)] μ = some (.p μ.length, μ ++ [.lst xs]) := rfl
theorem bools_map (bs : List Bool) : boolsD (bs.map D.bl) = some bs := by induction bs <;> simp_all [boolsD]
@[simp] theorem ev_gnm {k : Nat} : gNm k x ρ μ = some (ρ.set k (some x), μ) := rfl
theorem at_int {α : Type} {xs : List α} {i : Int} {a : α} (h0 : 0 ≤ i) (h : xs[i.toNat]? = some a) : atI xs i = some a := by
  unfold atI ixN
  have hl := (List.getElem?_eq_some_iff.mp h).1
  rw [if_pos h0, if_pos (by omega)]
  simpa using h
def finO (o : Option Out) : Option D := o.bind fin
@[simp] theorem ev_fin : finO (some (.rt (.v d) μ)) = some d := rfl
end
@[simp] theorem okDs_ints {n : Nat} (xs : List Int) : okDs n (xs.map D.int) = true := by
  induction xs with
  | nil => cases n <;> rfl
  | cons x xs ih => cases n <;> simpa [okDs, okD] using ih
@[simp] theorem eqDs_ints (xs ys : List Int) : eqDs (xs.map D.int) (ys.map D.int) = decide (xs = ys) := by
  induction xs generalizing ys with
  | nil => cases ys <;> simp [eqDs]
  | cons x xs ih =>
    cases ys with
    | nil => simp [eqDs]
    | cons y ys => simp [eqDs, eqD, ih ys]; rfl
def thG (o : Option (Lo × Store)) (b : FS) : Option Out := o.bind fun a => b a.1 a.2
@[simp] theorem ev_G {ρ : Lo} {μ : Store} {b : FS} : thG (some (ρ, μ)) b = b ρ μ := rfl
theorem loop_nx {g : FG} {b : FS} (I : Nat → Lo → Store → Prop) {xs : List D} {ρ : Lo} {μ : Store} (h0 : I 0 ρ μ)
    (hs : ∀ (i : Nat) x ρ μ, xs[i]? = some x → I i ρ μ → ∃ ρ' μ', thG (g (.v x) ρ μ) b = some (.nx ρ' μ') ∧ I (i + 1) ρ' μ') :
    ∃ ρ' μ', loop g b xs ρ μ = some (.nx ρ' μ') ∧ I xs.length ρ' μ' := by
  have key : ∀ (n : Nat) (ys : List D) (i : Nat) ρ μ, ys.length = n → xs.drop i = ys → i ≤ xs.length → I i ρ μ → ∃ ρ' μ', loop g b ys ρ μ = some (.nx ρ' μ') ∧ I xs.length ρ' μ' := by
    intro n
    induction n with
    | zero =>
      intro ys i ρ μ hn hd hi h
      have : ys = [] := List.eq_nil_of_length_eq_zero hn
      subst this
      have : i = xs.length := by
        have := congrArg List.length hd
        simp at this; omega
      subst this
      exact ⟨ρ, μ, rfl, h⟩
    | succ n ih =>
      intro ys i ρ μ hn hd hi h
      cases ys with
      | nil => simp at hn
      | cons y ys =>
        have hlt : i < xs.length := by
          have := congrArg List.length hd
          simp at this; omega
        have hc := List.drop_eq_getElem_cons hlt
        rw [hd] at hc
        injection hc with h1 h2
        obtain ⟨ρ', μ', e0, h'⟩ := hs i y ρ μ (by rw [h1]; exact List.getElem?_eq_getElem hlt) h
        obtain ⟨⟨ρ1, μ1⟩, e1, e2⟩ := Option.bind_eq_some_iff.mp e0
        obtain ⟨ρ2, μ2, e3, h3⟩ := ih ys (i + 1) ρ' μ' (by simpa using hn) h2.symm hlt h'
        exact ⟨ρ2, μ2, by simp only [loop, e1, e2, Option.bind_some]; exact e3, h3⟩
  exact key xs.length xs 0 ρ μ rfl (by simp) (Nat.zero_le _) h0
end HW
namespace HW
open PySem L2
section
variable {ρ : Lo} {μ μ1 : Store} {x y : R} {d : D}
def thCallQ (o : Option (List R × Store)) (f : MF) (n : Nat) : Option (R × Store) := o.bind fun a => (valsB a.1 a.2).bind fun ds => if ds.length = n then (f ds).bind fun d => if flatD d = true then some (.v d, a.2) else none else none
@[simp] theorem ev_callQ {f n fa} : fCallQ f n fa ρ μ = thCallQ (fa ρ μ) f n := rfl
end
end HW
namespace HW
open PySem L2
section
variable {ρ : Lo} {μ μ1 : Store} {x y : R} {d e : D} {n m : Nat} {xs ys : List D} {i j : Int} {b c : Bool}
def cMt (o : Option Cell) (n : Nat) (g : R → List R → Store → Option (R × Store)) (ga : FA) (ρ : Lo) (μ : Store) : Option (R × Store) := match o with | some (.lst _) => thMt2 (.p n) (ga ρ μ) g | some (.fz _) => thMt2 (.p n) (ga ρ μ) g | _ => none
theorem ev_mtP {g ga} : thMt (some (.p n, μ)) g ga ρ = cMt μ[n]? n g ga ρ μ := by
  cases h : μ[n]? with
  | none => simp [thMt, isLst, cMt, h]
  | some c => cases c <;> simp [thMt, isLst, cMt, thMt2, h]
theorem ev_mtC {g ga} : cMt (some (.lst xs)) n g ga ρ μ = thMt2 (.p n) (ga ρ μ) g := rfl
def cApp (o : Option Cell) (n : Nat) (d : D) (μ : Store) : Option (R × Store) := match o with | some (.lst xs) => if xs.length < sizeLine then some (.v .non, μ.set n (.lst (xs ++ [d]))) else none | _ => none
theorem ev_appP : appD (.p n) [.v d] μ = cApp μ[n]? n d μ := rfl
theorem ev_appC : cApp (some (.lst xs)) n d μ = if xs.length < sizeLine then some (.v .non, μ.set n (.lst (xs ++ [d]))) else none := rfl
def cClr (o : Option Cell) (n : Nat) (μ : Store) : Option (R × Store) := match o with | some (.lst _) => some (.v .non, μ.set n (.lst [])) | _ => none
theorem ev_clrP : clrD (.p n) [] μ = cClr μ[n]? n μ := rfl
theorem ev_clrC : cClr (some (.lst xs)) n μ = some (.v .non, μ.set n (.lst [])) := rfl
def cExt (o : Option Cell) (n : Nat) (ys : List D) (μ : Store) : Option (R × Store) := match o with | some (.lst xs) => if xs.length + ys.length ≤ sizeLine then some (.v .non, μ.set n (.lst (xs ++ ys))) else none | _ => none
theorem ev_extP : extD (.p n) [.v (.tup ys)] μ = cExt μ[n]? n ys μ := rfl
theorem ev_extC : cExt (some (.lst xs)) n ys μ = if xs.length + ys.length ≤ sizeLine then some (.v .non, μ.set n (.lst (xs ++ ys))) else none := rfl
def cIt (o : Option Cell) : Option (List D) := match o with | some (.lst xs) => some xs | some (.fz xs) => some xs | _ => none
theorem ev_itT : itemsD (.v (.tup xs)) μ = some xs := rfl
theorem ev_itF : itemsD (.v (.fl xs)) μ = some xs := rfl
theorem ev_itP : itemsD (.p n) μ = cIt μ[n]? := rfl
theorem ev_itC : cIt (some (.lst xs)) = some xs := rfl
theorem ev_itZ : cIt (some (.fz xs)) = some xs := rfl
def thIx (o : Option (List D)) (i : Int) (μ : Store) : Option (R × Store) := o.bind fun xs => (atI xs i).bind fun d => some (.v d, μ)
def thIx2 (o : Option D) (μ : Store) : Option (R × Store) := o.bind fun d => some (.v d, μ)
theorem ev_ix : ixD x (.v (.int i)) μ = thIx (itemsD x μ) i μ := rfl
theorem ev_ix1 : thIx (some xs) i μ = thIx2 (atI xs i) μ := rfl
theorem ev_ix2 : thIx2 (some d) μ = some (.v d, μ) := rfl
theorem ev_at0 {a : D} {l : List D} : atI (a :: l) 0 = some a := at_int (by decide) rfl
theorem ev_at1 {a b : D} {l : List D} : atI (a :: b :: l) 1 = some b := at_int (by decide) rfl
theorem ev_at2 {a b c : D} {l : List D} : atI (a :: b :: c :: l) 2 = some c := at_int (by decide) rfl
theorem ev_at3 {a b c d : D} {l : List D} : atI (a :: b :: c :: d :: l) 3 = some d := at_int (by decide) rfl
def thLen (o : Option (List D)) (μ : Store) : Option (R × Store) := o.bind fun xs => some (.v (.int xs.length), μ)
theorem ev_len : lenD [x] μ = thLen (itemsD x μ) μ := rfl
theorem ev_len1 : thLen (some xs) μ = some (.v (.int xs.length), μ) := rfl
def thTp (o : Option (List D)) (μ : Store) : Option (R × Store) := o.bind fun xs => some (.v (.tup xs), μ)
theorem ev_tp : tupD [x] μ = thTp (itemsD x μ) μ := rfl
theorem ev_tp1 : thTp (some xs) μ = some (.v (.tup xs), μ) := rfl
def thLs (o : Option (List D)) (μ : Store) : Option (R × Store) := o.bind fun xs => some (.p μ.length, μ ++ [.lst xs])
theorem ev_ls : listD [x] μ = thLs (itemsD x μ) μ := rfl
theorem ev_ls1 : thLs (some xs) μ = some (.p μ.length, μ ++ [.lst xs]) := rfl
def cVw (o : Option Cell) : Option D := match o with | some (.lst xs) => some (.fl xs) | some (.fz xs) => some (.fl xs) | _ => none
theorem ev_vwV : viewD (.v d) μ = some d := rfl
theorem ev_vwP : viewD (.p n) μ = cVw μ[n]? := rfl
theorem ev_vwC : cVw (some (.lst xs)) = some (.fl xs) := rfl
theorem ev_vwZ : cVw (some (.fz xs)) = some (.fl xs) := rfl
def thEq (o p : Option D) (neg : Bool) (μ : Store) : Option (R × Store) := o.bind fun a => p.bind fun b => if (okD 60 a && okD 60 b) = true then some (.v (.bl (if neg then !eqD a b else eqD a b)), μ) else none
theorem ev_eqR : eqR b x y μ = thEq (viewD x μ) (viewD y μ) b μ := rfl
theorem ev_eqF : thEq (some d) (some e) false μ = if (okD 60 d && okD 60 e) = true then some (.v (.bl (eqD d e)), μ) else none := rfl
theorem ev_eqT : thEq (some d) (some e) true μ = if (okD 60 d && okD 60 e) = true then some (.v (.bl (!eqD d e)), μ) else none := rfl
theorem ok_int : okD n (.int i) = true := by cases n <;> rfl
theorem ok_bl : okD n (.bl b) = true := by cases n <;> rfl
theorem ok_non : okD n .non = true := by cases n <;> rfl
theorem eq_int : eqD (.int i) (.int j) = (i == j) := rfl
theorem eq_bl : eqD (.bl b) (.bl c) = (b == c) := rfl
def cFin (o : Option Cell) : Option D := match o with | some (.lst xs) => some (.fl xs) | some (.fz xs) => some (.fl xs) | some (.dct kvs) => some (.fd (kvs.map (·.1)) (kvs.map (·.2))) | some (.fzd kvs) => some (.fd (kvs.map (·.1)) (kvs.map (·.2))) | none => none
theorem ev_finPP : finO (some (.rt (.p n) μ)) = cFin μ[n]? := by
  cases h : μ[n]? with
  | none => simp [finO, fin, fzD, cFin, h]
  | some c => cases c <;> simp [finO, fin, fzD, cFin, h]
theorem ev_finC : cFin (some (.lst xs)) = some (.fl xs) := rfl
theorem ev_finZ : cFin (some (.fz xs)) = some (.fl xs) := rfl
theorem ev_finN : finO (some (.nx ρ μ)) = some .non := rfl
def cFz (o : Option Cell) (n : Nat) (μ : Store) : Option (R × Store) := match o with | some (.lst xs) => some (.v (.fl xs), μ.set n (.fz xs)) | some (.fz xs) => some (.v (.fl xs), μ) | some (.dct kvs) => some (.v (.fd (kvs.map (·.1)) (kvs.map (·.2))), μ.set n (.fzd kvs)) | some (.fzd kvs) => some (.v (.fd (kvs.map (·.1)) (kvs.map (·.2))), μ) | none => none
theorem ev_fzP : thFz (some (.p n, μ)) = cFz μ[n]? n μ := by
  cases h : μ[n]? with
  | none => simp [thFz, fzD, cFz, h]
  | some c => cases c <;> simp [thFz, fzD, cFz, h]
theorem ev_fzC : cFz (some (.lst xs)) n μ = some (.v (.fl xs), μ.set n (.fz xs)) := rfl
theorem ev_fzZ : cFz (some (.fz xs)) n μ = some (.v (.fl xs), μ) := rfl
def thAs (o : Option D) (xs : List R) (μ : Store) : Option (List D) := o.bind fun d => (valsB xs μ).bind fun ds => some (d :: ds)
def thAs2 (d : D) (o : Option (List D)) : Option (List D) := o.bind fun ds => some (d :: ds)
theorem ev_vb0 : valsB [] μ = some [] := rfl
theorem ev_vb {rs} : valsB (x :: rs) μ = thAs (asD x μ) rs μ := rfl
theorem ev_vb1 {rs} : thAs (some d) rs μ = thAs2 d (valsB rs μ) := rfl
theorem ev_vb2 {ds} : thAs2 d (some ds) = some (d :: ds) := rfl
def cAs (o : Option Cell) : Option D := match o with | some (.lst xs) => some (.fl xs) | some (.fz xs) => some (.fl xs) | some (.dct kvs) => some (.fd (kvs.map (·.1)) (kvs.map (·.2))) | some (.fzd kvs) => some (.fd (kvs.map (·.1)) (kvs.map (·.2))) | none => none
theorem ev_asV : asD (.v d) μ = some d := rfl
theorem ev_asP : asD (.p n) μ = cAs μ[n]? := rfl
theorem ev_asC : cAs (some (.lst xs)) = some (.fl xs) := rfl
theorem ev_asZ : cAs (some (.fz xs)) = some (.fl xs) := rfl
def thVs (o : Option (List D)) (f : MF) (n : Nat) (μ : Store) : Option (R × Store) := o.bind fun ds => if ds.length = n then (f ds).bind fun d => some (.v d, μ) else none
def thVr (o : Option D) (μ : Store) : Option (R × Store) := o.bind fun d => some (.v d, μ)
theorem ev_c1 {rs f n} : thCall (some (rs, μ)) f n = thVs (vals rs) f n μ := rfl
theorem ev_c2 {f : MF} {ds : List D} : thVs (some ds) f n μ = if ds.length = n then thVr (f ds) μ else none := rfl
theorem ev_c3 : thVr (some d) μ = some (.v d, μ) := rfl
def thVc (d : D) (o : Option (List D)) : Option (List D) := o.bind fun ds => some (d :: ds)
theorem ev_vs0 : vals [] = some [] := rfl
theorem ev_vs1 {rs} : vals (.v d :: rs) = thVc d (vals rs) := by unfold thVc; cases h : vals rs <;> simp [vals, h]
theorem ev_vs2 {ds} : thVc d (some ds) = some (d :: ds) := rfl
def thVsQ (o : Option (List D)) (f : MF) (n : Nat) (μ : Store) : Option (R × Store) := o.bind fun ds => if ds.length = n then (f ds).bind fun d => if flatD d = true then some (.v d, μ) else none else none
def thVrQ (o : Option D) (μ : Store) : Option (R × Store) := o.bind fun d => if flatD d = true then some (.v d, μ) else none
theorem ev_q1 {rs f n} : thCallQ (some (rs, μ)) f n = thVsQ (valsB rs μ) f n μ := rfl
theorem ev_q2 {f : MF} {ds : List D} : thVsQ (some ds) f n μ = if ds.length = n then thVrQ (f ds) μ else none := rfl
theorem ev_q3 : thVrQ (some d) μ = if flatD d = true then some (.v d, μ) else none := rfl
def thTv (o : Option (List D)) (μ : Store) : Option (R × Store) := o.bind fun ds => if ds.length ≤ sizeLine then some (.v (.tup ds), μ) else none
theorem ev_tv {rs} : thTup (some (rs, μ)) = thTv (vals rs) μ := rfl
theorem ev_tv1 {ds} : thTv (some ds) μ = if ds.length ≤ sizeLine then some (.v (.tup ds), μ) else none := rfl
def thLv (o : Option (List D)) (μ : Store) : Option (R × Store) := o.bind fun ds => if ds.length ≤ sizeLine then some (.p μ.length, μ ++ [.lst ds]) else none
theorem ev_lv {rs} : thLst (some (rs, μ)) = thLv (vals rs) μ := rfl
theorem ev_lv1 {ds} : thLv (some ds) μ = if ds.length ≤ sizeLine then some (.p μ.length, μ ++ [.lst ds]) else none := rfl
def thAsg (o : Option (R × Store)) (g : FG) (ρ : Lo) : Option Out := o.bind fun a => (g a.1 ρ a.2).bind fun b => some (.nx b.1 b.2)
def thAsg2 (o : Option (Lo × Store)) : Option Out := o.bind fun b => some (.nx b.1 b.2)
theorem ev_asg {f g} : sAsg f g ρ μ = thAsg (f ρ μ) g ρ := rfl
theorem ev_asg1 {g} : thAsg (some (x, μ)) g ρ = thAsg2 (g x ρ μ) := rfl
theorem ev_asg2 : thAsg2 (some (ρ, μ)) = some (.nx ρ μ) := rfl
theorem ev_gtp {g} : gTp n g (.v (.tup xs)) ρ μ = if xs.length = n then g (xs.map .v) ρ μ else none := rfl
theorem ev_gs0 : gsNil [] ρ μ = some (ρ, μ) := rfl
def thGs (o : Option (Lo × Store)) (r : FGs) (ds : List R) : Option (Lo × Store) := o.bind fun a => r ds a.1 a.2
theorem ev_gs {g r ds} : gsCons g r (x :: ds) ρ μ = thGs (g x ρ μ) r ds := rfl
theorem ev_gs1 {r ds} : thGs (some (ρ, μ)) r ds = r ds ρ μ := rfl
theorem ev_slF {l h} : slD (.v (.fl xs)) l h μ = some (.p μ.length, μ ++ [.lst (cutD xs l h)]) := rfl
theorem ev_addQI : addQ (.v (.int i)) (.v (.int j)) μ = some (.v (.int (i + j)), μ) := rfl
theorem ev_addQT : addQ (.v (.tup xs)) (.v (.tup ys)) μ = if xs.length + ys.length ≤ sizeLine then some (.v (.tup (xs ++ ys)), μ) else none := by
  cases xs with
  | nil => simp [addQ]
  | cons x xs => simp [addQ, addD]
def cAdd (o p : Option Cell) (μ : Store) : Option (R × Store) := match o, p with | some (.lst xs), some (.lst ys) => if xs.length + ys.length ≤ sizeLine then some (.p μ.length, μ ++ [.lst (xs ++ ys)]) else none | _, _ => none
theorem ev_addQP : addQ (.p n) (.p m) μ = cAdd μ[n]? μ[m]? μ := rfl
theorem ev_addC : cAdd (some (.lst xs)) (some (.lst ys)) μ = if xs.length + ys.length ≤ sizeLine then some (.p μ.length, μ ++ [.lst (xs ++ ys)]) else none := rfl
theorem ev_intI : intD [.v (.int i)] μ = some (.v (.int i), μ) := rfl
theorem ev_intB : intD [.v (.bl b)] μ = some (.v (.int (if b then 1 else 0)), μ) := rfl
theorem ev_str : strD [.v (.int i)] μ = if i.natAbs.log2 < 1920 then some (.v (.str (toString i)), μ) else none := rfl
def thSub (o : Option (R × Store)) (fi : FE) (dv : D) (ρ : Lo) : Option (Lo × Store) := o.bind fun o => (fi ρ o.2).bind fun i => (putC o.1 i.1 dv i.2).bind fun μ' => some (ρ, μ')
def thSub2 (x : R) (o : Option (R × Store)) (dv : D) (ρ : Lo) : Option (Lo × Store) := o.bind fun i => (putC x i.1 dv i.2).bind fun μ' => some (ρ, μ')
def thSub3 (o : Option Store) (ρ : Lo) : Option (Lo × Store) := o.bind fun μ' => some (ρ, μ')
theorem ev_sub1 {fo fi} : gSub fo fi (.v d) ρ μ = thSub (fo ρ μ) fi d ρ := rfl
theorem ev_sub2 {fi} : thSub (some (x, μ)) fi d ρ = thSub2 x (fi ρ μ) d ρ := rfl
theorem ev_sub3 : thSub2 x (some (y, μ)) d ρ = thSub3 (putC x y d μ) ρ := rfl
theorem ev_sub4 : thSub3 (some μ) ρ = some (ρ, μ) := rfl
def cPut (o : Option Cell) (n : Nat) (i : R) (dv : D) (μ : Store) : Option Store := match o with
    | some (.lst xs) => (match i with | .v (.int k) => (ixN xs.length k).bind fun j => some (μ.set n (.lst (xs.set j dv))) | _ => none)
    | some (.dct kvs) => if kvs.length < sizeLine then (keyOf i).bind fun k => some (μ.set n (.dct (putKD kvs k dv))) else none
    | _ => none
theorem ev_putP : putC (.p n) x d μ = cPut μ[n]? n x d μ := rfl
def thPut (o : Option Nat) (n : Nat) (xs : List D) (d : D) (μ : Store) : Option Store := o.bind fun j => some (μ.set n (.lst (xs.set j d)))
theorem ev_putL : cPut (some (.lst xs)) n (.v (.int i)) d μ = thPut (ixN xs.length i) n xs d μ := rfl
theorem ev_putL1 {j : Nat} : thPut (some j) n xs d μ = some (μ.set n (.lst (xs.set j d))) := rfl
def thCo (o : Option (List D × Store)) : Option (R × Store) := o.bind fun r => some (.p r.2.length, r.2 ++ [.lst r.1])
theorem ev_compE {ix k g c f} : thComp (some (xs, μ)) ix k g c f ρ = if xs.length ≤ sizeLine then thCo (compL g c f xs (blockLo k ix ρ) μ) else none := Eq.trans rfl rfl
theorem ev_coE {r : List D} : thCo (some (r, μ)) = some (.p μ.length, μ ++ [.lst r]) := rfl
theorem ev_blk0 : blockLo 1 [] ρ = [none] := rfl
theorem ev_blk1 {i : Nat} : blockLo 1 [i] ρ = [none, (ρ[i]?).join] := rfl
theorem ev_blk2 {i j : Nat} : blockLo 1 [i, j] ρ = [none, (ρ[i]?).join, (ρ[j]?).join] := rfl
theorem ev_jn {x : Option R} : (some x).join = x := rfl
def thAll (o : Option (List D)) (any : Bool) (μ : Store) : Option (R × Store) := o.bind fun xs => (boolsD xs).bind fun bs => some (.v (.bl (if any then bs.any id else bs.all id)), μ)
def thAll2 (o : Option (List Bool)) (any : Bool) (μ : Store) : Option (R × Store) := o.bind fun bs => some (.v (.bl (if any then bs.any id else bs.all id)), μ)
theorem ev_all : allD b [x] μ = thAll (lstD x μ) b μ := rfl
theorem ev_all1 : thAll (some xs) b μ = thAll2 (boolsD xs) b μ := rfl
theorem ev_all2 {bs : List Bool} : thAll2 (some bs) false μ = some (.v (.bl (bs.all id)), μ) := rfl
theorem ev_any2 {bs : List Bool} : thAll2 (some bs) true μ = some (.v (.bl (bs.any id)), μ) := rfl
theorem ev_lstP : lstD (.p n) μ = cIt μ[n]? := rfl
theorem ev_lstF : lstD (.v (.fl xs)) μ = some xs := rfl
theorem ev_boolsE {bs : List Bool} : boolsD (bs.map D.bl) = some bs := bools_map bs
def thCallN (o : Option (List R × Store)) (f : MC) (n : Nat) : Option (R × Store) := o.bind fun a => (valsB a.1 a.2).bind fun ds => if ds.length = n then (f ds).bind fun c => if flatC c = true then some (.p a.2.length, a.2 ++ [c]) else none else none
def thVsN (o : Option (List D)) (f : MC) (n : Nat) (μ : Store) : Option (R × Store) := o.bind fun ds => if ds.length = n then (f ds).bind fun c => if flatC c = true then some (.p μ.length, μ ++ [c]) else none else none
def thVrN (o : Option Cell) (μ : Store) : Option (R × Store) := o.bind fun c => if flatC c = true then some (.p μ.length, μ ++ [c]) else none
theorem ev_callN {f : MC} {fa} : fCallN f n fa ρ μ = thCallN (fa ρ μ) f n := rfl
theorem ev_n1 {f : MC} {rs} : thCallN (some (rs, μ)) f n = thVsN (valsB rs μ) f n μ := rfl
theorem ev_n2 {f : MC} {ds : List D} : thVsN (some ds) f n μ = if ds.length = n then thVrN (f ds) μ else none := rfl
theorem ev_n3 {k : Cell} : thVrN (some k) μ = if flatC k = true then some (.p μ.length, μ ++ [k]) else none := rfl
theorem ev_flC : flatC (.lst xs) = flatDs xs := rfl
def finNO (o : Option Out) : Option Cell := o.bind finN
def cFinN (o : Option Cell) : Option Cell := match o with | some (.lst xs) => some (.lst xs) | some (.dct kvs) => some (.dct kvs) | _ => none
theorem ev_finNP : finNO (some (.rt (.p n) μ)) = cFinN μ[n]? := by
  cases h : μ[n]? with
  | none => simp [finNO, finN, cFinN, h]
  | some c => cases c <;> simp [finNO, finN, cFinN, h]
theorem ev_finNC : cFinN (some (.lst xs)) = some (.lst xs) := rfl
def thBest (o : Option (List D)) (lt : Int → Int → Bool) (μ : Store) : Option (R × Store) := o.bind fun ds => (intsD ds).bind fun ns => if ns = [] then none else some (.v (.int (bestOf lt ns)), μ)
def thBest2 (o : Option (List Int)) (lt : Int → Int → Bool) (μ : Store) : Option (R × Store) := o.bind fun ns => if ns = [] then none else some (.v (.int (bestOf lt ns)), μ)
theorem ev_best {lt} : bestD lt [x] μ = thBest (lstD x μ) lt μ := rfl
theorem ev_best1 {lt} : thBest (some xs) lt μ = thBest2 (intsD xs) lt μ := rfl
theorem ev_best2 {lt} {ns : List Int} : thBest2 (some ns) lt μ = if ns = [] then none else some (.v (.int (bestOf lt ns)), μ) := rfl
theorem ev_ints {ns : List Int} : intsD (ns.map D.int) = some ns := by
  induction ns with
  | nil => rfl
  | cons n ns ih => simp [intsD, ih]
def thSetQ (o : Option (List D)) (c : Bool) (μ : Store) : Option (R × Store) := o.bind fun ds => (intsD ds).bind fun ns => if ns.length < 4000 then some (.s c (HS.metOf [] ns), μ) else none
def thSetQ2 (o : Option (List Int)) (c : Bool) (μ : Store) : Option (R × Store) := o.bind fun ns => if ns.length < 4000 then some (.s c (HS.metOf [] ns), μ) else none
theorem ev_setQ : setQ c [x] μ = thSetQ (itemsD x μ) c μ := rfl
theorem ev_setQ1 : thSetQ (some xs) c μ = thSetQ2 (intsD xs) c μ := rfl
theorem ev_setQ2 {ns : List Int} : thSetQ2 (some ns) c μ = if ns.length < 4000 then some (.s c (HS.metOf [] ns), μ) else none := rfl
theorem ev_sortQ {ns : List Int} : sortedQ c [.s c ns] μ = if ns.length < 64 then some (.p μ.length, μ ++ [.lst ((isort ns).map D.int)]) else none := by simp [sortedQ]
theorem ev_sortK {ns : List Int} : srtK c [.s c ns] μ = if ns.length < 64 then some (.p μ.length, μ ++ [.lst ((isort ns).map D.int)]) else none := by simp [srtK, sortedQ]
def cSrt (o : Option Cell) (c : Bool) (n : Nat) (μ : Store) : Option (R × Store) := match o with
    | some (.dct kvs) => (intKeys (kvs.map (·.1))).bind fun ns => if ns.length < 64 then some (.p μ.length, μ ++ [.lst ((isort ns).map D.int)]) else none
    | some (.fzd kvs) => (intKeys (kvs.map (·.1))).bind fun ns => if ns.length < 64 then some (.p μ.length, μ ++ [.lst ((isort ns).map D.int)]) else none
    | _ => sortedQ c [.p n] μ
theorem ev_sortP : srtK c [.p n] μ = cSrt μ[n]? c n μ := rfl
theorem ev_sortL : cSrt (some (.lst xs)) c n μ = sortedQ c [.p n] μ := rfl
theorem ev_sortZ : cSrt (some (.fz xs)) c n μ = sortedQ c [.p n] μ := rfl
def thSrt (o : Option (List Int)) (μ : Store) : Option (R × Store) := o.bind fun ns => if ns.length < 64 then some (.p μ.length, μ ++ [.lst ((isort ns).map D.int)]) else none
theorem ev_sortD {kvs} : cSrt (some (.dct kvs)) c n μ = thSrt (intKeys (kvs.map (·.1))) μ := rfl
theorem ev_srt {ns : List Int} : thSrt (some ns) μ = if ns.length < 64 then some (.p μ.length, μ ++ [.lst ((isort ns).map D.int)]) else none := rfl
def thDs (o : Option (List (R × R) × Store)) (n : Nat) : Option (R × Store) := o.bind fun a => (kvsOf a.1).bind fun kvs => if kvs.length ≤ 15 then
  (match a.2[n]? with | some (.dct []) => some (.p n, a.2.set n (.dct (putAllD [] kvs))) | _ => none) else none
theorem ev_dsp {prs} : fDisp prs ρ μ = thDs (fPairs prs ρ (μ ++ [.dct []])) μ.length := rfl
def thDs2 (o : Option (List (Key × D))) (n : Nat) (μ : Store) : Option (R × Store) := o.bind fun kvs => if kvs.length ≤ 15 then
  (match μ[n]? with | some (.dct []) => some (.p n, μ.set n (.dct (putAllD [] kvs))) | _ => none) else none
theorem ev_dsp1 {rs} : thDs (some (rs, μ)) n = thDs2 (kvsOf rs) n μ := rfl
def cDs (o : Option Cell) (n : Nat) (kvs : List (Key × D)) (μ : Store) : Option (R × Store) := match o with | some (.dct []) => some (.p n, μ.set n (.dct (putAllD [] kvs))) | _ => none
theorem ev_dsp2 {kvs} : thDs2 (some kvs) n μ = if kvs.length ≤ 15 then cDs μ[n]? n kvs μ else none := rfl
theorem ev_dsp3 {kvs} : cDs (some (.dct [])) n kvs μ = some (.p n, μ.set n (.dct (putAllD [] kvs))) := rfl
theorem ev_prs0 : fPairs [] ρ μ = some ([], μ) := rfl
def thPr (o : Option (R × Store)) (fv : FE) (r : List (FE × FE)) (ρ : Lo) : Option (List (R × R) × Store) := o.bind fun a => (fv ρ a.2).bind fun b => (fPairs r ρ b.2).bind fun c => some ((a.1, b.1) :: c.1, c.2)
def thPr2 (x : R) (o : Option (R × Store)) (r : List (FE × FE)) (ρ : Lo) : Option (List (R × R) × Store) := o.bind fun b => (fPairs r ρ b.2).bind fun c => some ((x, b.1) :: c.1, c.2)
def thPr3 (x y : R) (o : Option (List (R × R) × Store)) : Option (List (R × R) × Store) := o.bind fun c => some ((x, y) :: c.1, c.2)
theorem ev_prs {fk fv r} : fPairs ((fk, fv) :: r) ρ μ = thPr (fk ρ μ) fv r ρ := rfl
theorem ev_prs1 {fv r} : thPr (some (x, μ)) fv r ρ = thPr2 x (fv ρ μ) r ρ := rfl
theorem ev_prs2 {r} : thPr2 x (some (y, μ)) r ρ = thPr3 x y (fPairs r ρ μ) := rfl
theorem ev_prs3 {rs} : thPr3 x y (some (rs, μ)) = some ((x, y) :: rs, μ) := rfl
def thPutD (o : Option Key) (kvs : List (Key × D)) (n : Nat) (d : D) (μ : Store) : Option Store := o.bind fun k => some (μ.set n (.dct (putKD kvs k d)))
theorem ev_putD {kvs} : cPut (some (.dct kvs)) n x d μ = if kvs.length < sizeLine then thPutD (keyOf x) kvs n d μ else none := rfl
theorem ev_putD1 {kvs k} : thPutD (some k) kvs n d μ = some (μ.set n (.dct (putKD kvs k d))) := rfl
theorem ev_key : keyOf (.v (.int i)) = some (.inl i) := rfl
theorem ev_setKT : setKs c [.v (.tup xs)] μ = thSetQ (some xs) c μ := rfl
theorem ev_setKF : setKs c [.v (.fl xs)] μ = thSetQ (some xs) c μ := rfl
def cSet (o : Option Cell) (c : Bool) (n : Nat) (μ : Store) : Option (R × Store) := match o with
    | some (.dct kvs) => (intKeys (kvs.map (·.1))).bind fun ns => if ns.length < 60 then some (.s c (HS.metOf [] ns), μ) else none
    | some (.fzd kvs) => (intKeys (kvs.map (·.1))).bind fun ns => if ns.length < 60 then some (.s c (HS.metOf [] ns), μ) else none
    | _ => setQ c [.p n] μ
theorem ev_setKs : setKs c [.p n] μ = cSet μ[n]? c n μ := rfl
theorem ev_setKL : cSet (some (.lst xs)) c n μ = setQ c [.p n] μ := rfl
theorem ev_setKZ : cSet (some (.fz xs)) c n μ = setQ c [.p n] μ := rfl
def thSk (o : Option (List Int)) (c : Bool) (μ : Store) : Option (R × Store) := o.bind fun ns => if ns.length < 60 then some (.s c (HS.metOf [] ns), μ) else none
theorem ev_setKD {kvs} : cSet (some (.dct kvs)) c n μ = thSk (intKeys (kvs.map (·.1))) c μ := rfl
theorem ev_setK1 {ns : List Int} : thSk (some ns) c μ = if ns.length < 60 then some (.s c (HS.metOf [] ns), μ) else none := rfl
theorem ev_dicT : dictQ [.v (.tup xs)] μ = (pairsD xs).bind fun ps => if ps.length ≤ sizeLine then some (.p μ.length, μ ++ [.dct (putAllD [] ps)]) else none := rfl
theorem ev_dicP : dictQ [.p n] μ = dictD [.p n] μ := rfl
def thGet (o : Option (R × Store)) (fk fx : FE) (ρ : Lo) : Option (R × Store) := o.bind fun o => if (kvsD o.1 o.2).isSome = true then (fk ρ o.2).bind fun k => (fx ρ k.2).bind fun x => (kvsD o.1 x.2).bind fun kvs => (keyOf k.1).bind fun key => some ((match valD kvs key with | some d => .v d | none => x.1), x.2) else none
def cKvs (o : Option Cell) : Option (List (Key × D)) := match o with | some (.dct kvs) => some kvs | some (.fzd kvs) => some kvs | _ => none
def thGet1 (o : Option (List (Key × D))) (x : R) (fk fx : FE) (ρ : Lo) (μ : Store) : Option (R × Store) := if o.isSome = true then (fk ρ μ).bind fun k => (fx ρ k.2).bind fun y => (kvsD x y.2).bind fun kvs => (keyOf k.1).bind fun key => some ((match valD kvs key with | some d => .v d | none => y.1), y.2) else none
def thGet2 (o : Option (R × Store)) (x : R) (fx : FE) (ρ : Lo) : Option (R × Store) := o.bind fun k => (fx ρ k.2).bind fun y => (kvsD x y.2).bind fun kvs => (keyOf k.1).bind fun key => some ((match valD kvs key with | some d => .v d | none => y.1), y.2)
def thGet3 (o : Option (R × Store)) (x k : R) : Option (R × Store) := o.bind fun y => (kvsD x y.2).bind fun kvs => (keyOf k).bind fun key => some ((match valD kvs key with | some d => .v d | none => y.1), y.2)
def thGet4 (o : Option (List (Key × D))) (k y : R) (μ : Store) : Option (R × Store) := o.bind fun kvs => (keyOf k).bind fun key => some ((match valD kvs key with | some d => .v d | none => y), μ)
def thGet5 (o : Option D) (y : R) : R := match o with | some d => .v d | none => y
theorem ev_get {fo fk fx} : fGet fo fk fx ρ μ = thGet (fo ρ μ) fk fx ρ := rfl
theorem ev_kvsP : kvsD (.p n) μ = cKvs μ[n]? := rfl
theorem ev_kvsD {kvs} : cKvs (some (.dct kvs)) = some kvs := rfl
theorem ev_kvsZ {kvs} : cKvs (some (.fzd kvs)) = some kvs := rfl
theorem ev_get0 {fk fx} : thGet (some (x, μ)) fk fx ρ = thGet1 (kvsD x μ) x fk fx ρ μ := rfl
theorem ev_get1 {kvs fk fx} : thGet1 (some kvs) x fk fx ρ μ = thGet2 (fk ρ μ) x fx ρ := rfl
theorem ev_get2 {fx} : thGet2 (some (y, μ)) x fx ρ = thGet3 (fx ρ μ) x y := rfl
theorem ev_get3 {z} : thGet3 (some (z, μ)) x y = thGet4 (kvsD x μ) y z μ := rfl
theorem ev_get4 {kvs} : thGet4 (some kvs) (.v (.int i)) y μ = some (thGet5 (valD kvs (.inl i)) y, μ) := rfl
theorem ev_get5 : thGet5 (some d) y = .v d := rfl
theorem ev_get6 : thGet5 none y = y := rfl
def thStep (o : Option (R × Store)) (fl fh : FO) (k : Int) (ρ : Lo) : Option (R × Store) := o.bind fun a => (fl ρ a.2).bind fun l => (fh ρ l.2).bind fun h => if k = 0 then none else (lstD a.1 h.2).bind fun xs => some (.p h.2.length, h.2 ++ [.lst (stepV xs l.1 h.1 k)])
def thStep1 (x : R) (o : Option (Option Int × Store)) (fh : FO) (k : Int) (ρ : Lo) : Option (R × Store) := o.bind fun l => (fh ρ l.2).bind fun h => if k = 0 then none else (lstD x h.2).bind fun xs => some (.p h.2.length, h.2 ++ [.lst (stepV xs l.1 h.1 k)])
def thStep2 (x : R) (l : Option Int) (o : Option (Option Int × Store)) (k : Int) : Option (R × Store) := o.bind fun h => if k = 0 then none else (lstD x h.2).bind fun xs => some (.p h.2.length, h.2 ++ [.lst (stepV xs l h.1 k)])
def thStep3 (o : Option (List D)) (l h : Option Int) (k : Int) (μ : Store) : Option (R × Store) := if k = 0 then none else o.bind fun xs => some (.p μ.length, μ ++ [.lst (stepV xs l h k)])
theorem ev_step {fa fl fh} {k : Int} : fStep fa fl fh k ρ μ = thStep (fa ρ μ) fl fh k ρ := rfl
theorem ev_step1 {fl fh} {k : Int} : thStep (some (x, μ)) fl fh k ρ = thStep1 x (fl ρ μ) fh k ρ := rfl
theorem ev_step2 {fh} {l : Option Int} {k : Int} : thStep1 x (some (l, μ)) fh k ρ = thStep2 x l (fh ρ μ) k := rfl
theorem ev_step3 {l h : Option Int} {k : Int} : thStep2 x l (some (h, μ)) k = thStep3 (lstD x μ) l h k μ := rfl
theorem ev_step4 {l h : Option Int} : thStep3 (some xs) l h 2 μ = some (.p μ.length, μ ++ [.lst (stepV xs l h 2)]) := by simp [thStep3]
theorem sz2 : 2 ≤ sizeLine := by decide
theorem sz0 : 0 ≤ sizeLine := by decide
theorem sz3 : 3 ≤ sizeLine := by decide
theorem sz4 : 4 ≤ sizeLine := by decide
theorem small' {n : Nat} (h : n < 4000) : n < sizeLine := Nat.lt_of_lt_of_le h (by decide)
theorem small'' {n : Nat} (h : n < 4000) : n ≤ sizeLine := Nat.le_of_lt (small' h)
end
theorem ls_set0 {α : Type} {x y : α} {l : List α} : (x :: l).set 0 y = y :: l := rfl
theorem ls_sets {α : Type} {x y : α} {l : List α} {n : Nat} : (x :: l).set (n + 1) y = x :: l.set n y := rfl
theorem ls_get0 {α : Type} {x : α} {l : List α} : (x :: l)[0]? = some x := rfl
theorem ls_gets {α : Type} {x : α} {l : List α} {n : Nat} : (x :: l)[n + 1]? = l[n]? := rfl
theorem ls_len {α : Type} {x : α} {l : List α} : (x :: l).length = l.length + 1 := rfl
theorem ls_len0 {α : Type} : ([] : List α).length = 0 := rfl
theorem ls_app {α : Type} {x : α} {l r : List α} : (x :: l) ++ r = x :: (l ++ r) := rfl
theorem ls_app0 {α : Type} {r : List α} : [] ++ r = r := rfl
theorem ls_map {α β : Type} {f : α → β} {x : α} {l : List α} : (x :: l).map f = f x :: l.map f := rfl
theorem ls_map0 {α β : Type} {f : α → β} : ([] : List α).map f = [] := rfl
theorem ls_n1 {n : Nat} : 0 + n = n := Nat.zero_add n
theorem ls_not1 : (!true) = false := rfl
theorem ls_not0 : (!false) = true := rfl
theorem ls_if1 {α : Type} {a b : α} : (if true = true then a else b) = a := rfl
theorem ls_if0 {α : Type} {a b : α} : (if false = true then a else b) = b := rfl
section
variable {g : FG} {b : FS} {ρ : Lo} {μ : Store}
def thLp (o : Option Out) (g : FG) (b : FS) (xs : List D) : Option Out := o.bind fun o => match o with
    | .nx ρ' μ' => loop g b xs ρ' μ'
    | .ct ρ' μ' => loop g b xs ρ' μ'
    | .bk ρ' μ' => some (.nx ρ' μ')
    | .rt d μ' => some (.rt d μ')
theorem loop_cons {x : D} {xs : List D} : loop g b (x :: xs) ρ μ = thLp (thG (g (.v x) ρ μ) b) g b xs := by
  show (g (.v x) ρ μ).bind _ = _
  cases e : g (.v x) ρ μ <;> rfl
theorem loop_nil : loop g b [] ρ μ = some (.nx ρ μ) := rfl
theorem lp_nx {xs} : thLp (some (.nx ρ μ)) g b xs = loop g b xs ρ μ := rfl
theorem lp_ct {xs} : thLp (some (.ct ρ μ)) g b xs = loop g b xs ρ μ := rfl
theorem lp_bk {xs} : thLp (some (.bk ρ μ)) g b xs = some (.nx ρ μ) := rfl
theorem lp_rt {xs d} : thLp (some (.rt d μ)) g b xs = some (.rt d μ) := rfl
theorem loop_inv {α σ : Type} (e : α → D) (S : σ → Lo × Store) (P : σ → List α → Prop) : ∀ (as : List α) (s : σ), P s as →
    (∀ s a r, P s (a :: r) → ∃ s', thG (g (.v (e a)) (S s).1 (S s).2) b = some (.nx (S s').1 (S s').2) ∧ P s' r) →
    ∃ s', loop g b (as.map e) (S s).1 (S s).2 = some (.nx (S s').1 (S s').2) ∧ P s' []
  | [], s, h, _ => ⟨s, rfl, h⟩
  | a :: as, s, h, k => by
    obtain ⟨s1, h1, h2⟩ := k s a as h
    obtain ⟨s2, h3, h4⟩ := loop_inv e S P as s1 h2 k
    exact ⟨s2, by rw [List.map_cons, loop_cons, h1, lp_nx, h3], h4⟩
theorem loop_range (n : Nat) (I : Nat → Lo → Store → Prop) (h0 : I 0 ρ μ)
    (hs : ∀ i < n, ∀ ρ μ, I i ρ μ → ∃ ρ' μ', thG (g (.v (.int (i : Int))) ρ μ) b = some (.nx ρ' μ') ∧ I (i + 1) ρ' μ') :
    ∃ ρ' μ', loop g b ((List.range n).map fun i => .int ((i : Nat) : Int)) ρ μ = some (.nx ρ' μ') ∧ I n ρ' μ' := by
  obtain ⟨ρ', μ', e, h⟩ := loop_nx (g := g) (b := b) I (xs := (List.range n).map fun i => D.int ((i : Nat) : Int)) h0 fun i x ρ μ hx hI => by
    rw [List.getElem?_map] at hx
    obtain ⟨k, hk, rfl⟩ := Option.map_eq_some_iff.mp hx
    obtain ⟨hl, hk⟩ := List.getElem?_eq_some_iff.mp hk
    rw [List.getElem_range] at hk
    subst hk
    exact hs i (by simpa using hl) ρ μ hI
  exact ⟨ρ', μ', e, by simpa using h⟩
end
theorem comp_typed {α : Type} {f : FE} {μ : Store} {rest : Lo} (e out : α → D) : ∀ (xs : List α) (x0 : Option R), (∀ a ∈ xs, f (some (.v (e a)) :: rest) μ = some (.v (out a), μ)) → compL (gNm 0) cYes f (xs.map e) (x0 :: rest) μ = some (xs.map out, μ)
  | [], _, _ => rfl
  | a :: xs, x0, h => by
    have h1 := h a List.mem_cons_self
    have ih := comp_typed e out xs (some (.v (e a))) fun b hb => h b (List.mem_cons_of_mem _ hb)
    simp only [List.map_cons, compL, gNm, List.set_cons_zero, Option.bind_some, cYes, if_true, h1, ih]
theorem A2 {a b : Prop} (x : a) (y : b) : a ∧ b := ⟨x, y⟩
def EV := A2 @ev_v0 (A2 @ev_vs (A2 @ev_k (A2 @ev_op (A2 @ev_op1 (A2 @ev_op2 (A2 @ev_un (A2 @ev_un1 (A2 @ev_nil (A2 @ev_cons (A2 @ev_cons1 (A2 @ev_cons2 (A2 @ev_ar (A2 @ev_ar1 (A2 @ev_B (A2 @ev_B1 (A2 @ev_tru (A2 @ev_tru1 (A2 @ev_tru2 (A2 @ev_tru3 (A2 @ev_tru4 (A2 @ev_tru5 (A2 @ev_tand (A2 @ev_tand1 (A2 @ev_tor (A2 @ev_tor1 (A2 @ev_tnot (A2 @ev_tnot1 (A2 @ev_and (A2 @ev_and1 (A2 @ev_or (A2 @ev_or1 (A2 @ev_not (A2 @ev_not1 (A2 @ev_if (A2 @ev_if1 (A2 @ev_tup (A2 @ev_lst (A2 @ev_dnew (A2 @ev_fz (A2 @ev_fz1 (A2 @ev_call (A2 @ev_next (A2 @ev_seq (A2 @ev_seq1 (A2 @ev_seq2 (A2 @ev_seq3 (A2 @ev_seq4 (A2 @ev_break (A2 @ev_cont (A2 @ev_drop (A2 @ev_drop1 (A2 @ev_ret (A2 @ev_ret1 (A2 @ev_retN (A2 @ev_ifS (A2 @ev_ifT (A2 @ev_ifF (A2 @ev_set (A2 @ev_set1 (A2 @ev_for (A2 @ev_for1 (A2 @ev_iseq (A2 @ev_iseq1 (A2 @ev_iseq2 (A2 @ev_r1 (A2 @ev_r2 (A2 @ev_r21 (A2 @ev_comp (A2 @ev_yes (A2 @ev_sl (A2 @ev_sl1 (A2 @ev_sl2 (A2 @ev_sl3 (A2 @ev_slT (A2 @ev_oN (A2 @ev_oS (A2 @ev_oS1 (A2 @ev_mt (A2 @ev_mt2 (A2 @ev_add (A2 @ev_sub (A2 @ev_lt (A2 @ev_le (A2 @ev_gt (A2 @ev_ge (A2 @ev_neg (A2 @ev_gnm (A2 @ev_fin (A2 @ev_G (A2 @ev_callQ (A2 @ev_mtP (A2 @ev_mtC (A2 @ev_appP (A2 @ev_appC (A2 @ev_clrP (A2 @ev_clrC (A2 @ev_extP (A2 @ev_extC (A2 @ev_itT (A2 @ev_itF (A2 @ev_itP (A2 @ev_itC (A2 @ev_itZ (A2 @ev_ix (A2 @ev_ix1 (A2 @ev_ix2 (A2 @ev_at0 (A2 @ev_at1 (A2 @ev_at2 (A2 @ev_at3 (A2 @ev_len (A2 @ev_len1 (A2 @ev_tp (A2 @ev_tp1 (A2 @ev_ls (A2 @ev_ls1 (A2 @ev_vwV (A2 @ev_vwP (A2 @ev_vwC (A2 @ev_vwZ (A2 @ev_eqR (A2 @ev_eqF (A2 @ev_eqT (A2 @ok_int (A2 @ok_bl (A2 @ok_non (A2 @eq_int (A2 @eq_bl (A2 @ev_finPP (A2 @ev_finC (A2 @ev_finZ (A2 @ev_finN (A2 @ev_fzP (A2 @ev_fzC (A2 @ev_fzZ (A2 @ev_vb0 (A2 @ev_vb (A2 @ev_vb1 (A2 @ev_vb2 (A2 @ev_asV (A2 @ev_asP (A2 @ev_asC (A2 @ev_asZ (A2 @ev_c1 (A2 @ev_c2 (A2 @ev_c3 (A2 @ev_vs0 (A2 @ev_vs1 (A2 @ev_vs2 (A2 @ev_q1 (A2 @ev_q2 (A2 @ev_q3 (A2 @ev_tv (A2 @ev_tv1 (A2 @ev_lv (A2 @ev_lv1 (A2 @ev_asg (A2 @ev_asg1 (A2 @ev_asg2 (A2 @ev_gtp (A2 @ev_gs0 (A2 @ev_gs (A2 @ev_gs1 (A2 @ev_slF (A2 @ev_addQI (A2 @ev_addQT (A2 @ev_addQP (A2 @ev_addC (A2 @ev_intI (A2 @ev_intB (A2 @ev_str (A2 @ev_sub1 (A2 @ev_sub2 (A2 @ev_sub3 (A2 @ev_sub4 (A2 @ev_putP (A2 @ev_putL (A2 @ev_putL1 (A2 @ev_compE (A2 @ev_coE (A2 @ev_blk0 (A2 @ev_blk1 (A2 @ev_blk2 (A2 @ev_jn (A2 @ev_all (A2 @ev_all1 (A2 @ev_all2 (A2 @ev_any2 (A2 @ev_lstP (A2 @ev_lstF (A2 @ev_boolsE (A2 @ev_callN (A2 @ev_n1 (A2 @ev_n2 (A2 @ev_n3 (A2 @ev_flC (A2 @ev_finNP (A2 @ev_finNC (A2 @ev_best (A2 @ev_best1 (A2 @ev_best2 (A2 @ev_ints (A2 @ev_setQ (A2 @ev_setQ1 (A2 @ev_setQ2 (A2 @ev_sortQ (A2 @ev_sortK (A2 @ev_sortP (A2 @ev_sortL (A2 @ev_sortZ (A2 @ev_sortD (A2 @ev_srt (A2 @ev_dsp (A2 @ev_dsp1 (A2 @ev_dsp2 (A2 @ev_dsp3 (A2 @ev_prs0 (A2 @ev_prs (A2 @ev_prs1 (A2 @ev_prs2 (A2 @ev_prs3 (A2 @ev_putD (A2 @ev_putD1 (A2 @ev_key (A2 @ev_setKT (A2 @ev_setKF (A2 @ev_setKs (A2 @ev_setKL (A2 @ev_setKZ (A2 @ev_setKD (A2 @ev_setK1 (A2 @ev_dicT (A2 @ev_dicP (A2 @ev_get (A2 @ev_kvsP (A2 @ev_kvsD (A2 @ev_kvsZ (A2 @ev_get0 (A2 @ev_get1 (A2 @ev_get2 (A2 @ev_get3 (A2 @ev_get4 (A2 @ev_get5 (A2 @ev_get6 (A2 @ev_step (A2 @ev_step1 (A2 @ev_step2 (A2 @ev_step3 (A2 @ev_step4 (A2 @sz2 (A2 @sz0 (A2 @sz3 (A2 @sz4 (A2 @ls_set0 (A2 @ls_sets (A2 @ls_get0 (A2 @ls_gets (A2 @ls_len (A2 @ls_len0 (A2 @ls_app (A2 @ls_app0 (A2 @ls_map (A2 @ls_map0 (A2 @ls_n1 (A2 @ls_not1 (A2 @ls_not0 (A2 @ls_if1 (A2 @ls_if0 (A2 @loop_nil (A2 @lp_nx (A2 @lp_ct (A2 @lp_bk (@lp_rt)))))))))))))))))))))))))))))))))))))))))))))))))))))))))))))))))))))))))))))))))))))))))))))))))))))))))))))))))))))))))))))))))))))))))))))))))))))))))))))))))))))))))))))))))))))))))))))))))))))))))))))))))))))))))))))))))))))))))))))))))))))))))))))))))))))))))))))))))
end HW
namespace LW
open PySem PySem.Spec PyProof.Rows L2 HW
def top (i : Nat) : Stmt := PySem.Challenge.pw_heldwhen_k45_tellings_written.main.body.getD i (.Pass ⟨0, 0, 0, 0⟩)
abbrev st_stretch_of : Stmt := top 6
theorem sc_stretch_of : FnScope ["low", "high"] ["low", "high"] (defScope st_stretch_of) := ⟨rfl, rfl, rfl, by decide +kernel, rfl, by decide +kernel, by decide +kernel⟩
abbrev st_check_text : Stmt := top 12
theorem sc_check_text : FnScope ["thing"] ["thing"] (defScope st_check_text) := ⟨rfl, rfl, rfl, by decide +kernel, rfl, by decide +kernel, by decide +kernel⟩
abbrev st_is_made_of : Stmt := top 13
theorem sc_is_made_of : FnScope ["text", "signs", "most"] ["text", "signs", "most"] (defScope st_is_made_of) := ⟨rfl, rfl, rfl, by decide +kernel, rfl, by decide +kernel, by decide +kernel⟩
abbrev st_write_number : Stmt := top 14
theorem sc_write_number : FnScope ["number"] ["number"] (defScope st_write_number) := ⟨rfl, rfl, rfl, by decide +kernel, rfl, by decide +kernel, by decide +kernel⟩
abbrev st_read_number : Stmt := top 15
theorem sc_read_number : FnScope ["text", "figures"] ["text"] (defScope st_read_number) := ⟨rfl, rfl, rfl, by decide +kernel, rfl, by decide +kernel, by decide +kernel⟩
abbrev st_read_number_from : Stmt := top 16
theorem sc_read_number_from : FnScope ["text", "least", "number"] ["text", "least"] (defScope st_read_number_from) := ⟨rfl, rfl, rfl, by decide +kernel, rfl, by decide +kernel, by decide +kernel⟩
abbrev st_write_numbers : Stmt := top 17
theorem sc_write_numbers : FnScope ["numbers"] ["numbers"] (defScope st_write_numbers) := ⟨rfl, rfl, rfl, by decide +kernel, rfl, by decide +kernel, by decide +kernel⟩
abbrev st_write_end : Stmt := top 18
theorem sc_write_end : FnScope ["end"] ["end"] (defScope st_write_end) := ⟨rfl, rfl, rfl, by decide +kernel, rfl, by decide +kernel, by decide +kernel⟩
abbrev st_read_end : Stmt := top 19
theorem sc_read_end : FnScope ["text"] ["text"] (defScope st_read_end) := ⟨rfl, rfl, rfl, by decide +kernel, rfl, by decide +kernel, by decide +kernel⟩
abbrev st_read_letters : Stmt := top 20
theorem sc_read_letters : FnScope ["text"] ["text"] (defScope st_read_letters) := ⟨rfl, rfl, rfl, by decide +kernel, rfl, by decide +kernel, by decide +kernel⟩
abbrev st_words_of : Stmt := top 21
theorem sc_words_of : FnScope ["text"] ["text"] (defScope st_words_of) := ⟨rfl, rfl, rfl, by decide +kernel, rfl, by decide +kernel, by decide +kernel⟩
abbrev st_write_telling : Stmt := top 22
theorem sc_write_telling : FnScope ["turn", "telling", "head"] ["turn", "telling"] (defScope st_write_telling) := ⟨rfl, rfl, rfl, by decide +kernel, rfl, by decide +kernel, by decide +kernel⟩
abbrev st_read_telling : Stmt := top 23
theorem sc_read_telling : FnScope ["text", "words", "turn", "name", "low", "high", "numbers"] ["text"] (defScope st_read_telling) := ⟨rfl, rfl, rfl, by decide +kernel, rfl, by decide +kernel, by decide +kernel⟩
abbrev st_law_draw : Stmt := top 25
theorem sc_law_draw : FnScope ["script", "k", "many", "cell", "number"] ["script", "k", "many"] (defScope st_law_draw) := ⟨rfl, rfl, rfl, by decide +kernel, rfl, by decide +kernel, by decide +kernel⟩
abbrev st_law_far : Stmt := top 26
theorem sc_law_far : FnScope ["script", "k", "number"] ["script", "k"] (defScope st_law_far) := ⟨rfl, rfl, rfl, by decide +kernel, rfl, by decide +kernel, by decide +kernel⟩
abbrev st_law_name : Stmt := top 27
theorem sc_law_name : FnScope ["script", "k", "name", "j"] ["script", "k"] (defScope st_law_name) := ⟨rfl, rfl, rfl, by decide +kernel, rfl, by decide +kernel, by decide +kernel⟩
abbrev st_law_number : Stmt := top 28
theorem sc_law_number : FnScope ["script", "k", "way"] ["script", "k"] (defScope st_law_number) := ⟨rfl, rfl, rfl, by decide +kernel, rfl, by decide +kernel, by decide +kernel⟩
abbrev st_law_whole : Stmt := top 29
theorem sc_law_whole : FnScope ["some"] ["some"] (defScope st_law_whole) := ⟨rfl, rfl, rfl, by decide +kernel, rfl, by decide +kernel, by decide +kernel⟩
abbrev st_law_tuple : Stmt := top 30
theorem sc_law_tuple : FnScope ["told", "due", "number"] ["told", "due"] (defScope st_law_tuple) := ⟨rfl, rfl, rfl, by decide +kernel, rfl, by decide +kernel, by decide +kernel⟩
abbrev st_law_telling : Stmt := top 31
theorem sc_law_telling : FnScope ["script", "k", "low", "high", "way", "row", "kind"] ["script", "k"] (defScope st_law_telling) := ⟨rfl, rfl, rfl, by decide +kernel, rfl, by decide +kernel, by decide +kernel⟩
abbrev st_law_end : Stmt := top 32
theorem sc_law_end : FnScope ["end"] ["end"] (defScope st_law_end) := ⟨rfl, rfl, rfl, by decide +kernel, rfl, by decide +kernel, by decide +kernel⟩
abbrev st_law_written : Stmt := top 33
theorem sc_law_written : FnScope ["turn", "telling", "words", "number"] ["turn", "telling"] (defScope st_law_written) := ⟨rfl, rfl, rfl, by decide +kernel, rfl, by decide +kernel, by decide +kernel⟩
abbrev st_law_alike : Stmt := top 34
theorem sc_law_alike : FnScope ["told", "turn", "telling", "some", "end"] ["told", "turn", "telling"] (defScope st_law_alike) := ⟨rfl, rfl, rfl, by decide +kernel, rfl, by decide +kernel, by decide +kernel⟩
abbrev st_law : Stmt := top 35
theorem sc_law : FnScope ["script", "k", "telling", "turn", "due", "told"] ["script"] (defScope st_law) := ⟨rfl, rfl, rfl, by decide +kernel, rfl, by decide +kernel, by decide +kernel⟩
abbrev b_stretch_of : FS := (sSeq (sIf (tAndF (fB (fUn (isK false .non) (fVar 0))) (fB (fUn (isK false .non) (fVar 1))))
    (sRet (fK (.tup [(.bl true), (.tup [])])))
    sNext)
    (sSeq (sIf (fB (fUn (isK false .non) (fVar 0)))
    (sRet (fTup (fCons (fK (.bl true)) (fCons (fTup (fCons (fVar 1) fNil)) fNil))))
    sNext)
    (sSeq (sIf (fB (fUn (isK false .non) (fVar 1)))
    (sRet (fTup (fCons (fK (.bl false)) (fCons (fTup (fCons (fVar 0) fNil)) fNil))))
    sNext)
    (sSeq (sIf (fB (fOp leD (fVar 1) (fVar 0)))
    (sRet (fK (.tup [(.bl false), (.tup [])])))
    sNext)
    (sRet (fTup (fCons (fK (.bl false)) (fCons (fTup (fCons (fVar 0) (fCons (fVar 1) fNil))) fNil))))))))
def m_stretch_of : MF := runP 2 (b_stretch_of)
abbrev b_check_text : FS := (sIf (tNotF (fTru (fUn (isiD "str") (fVar 0))))
    sStuck
    sNext)
def m_check_text : MF := runP 1 (b_check_text)
abbrev b_is_made_of : FS := (sRet (fAnd (fCh leD leD (fK (.int 1)) (fAr lenS (fCons (fVar 0) fNil)) (fVar 2)) (fAr (allD false) (fCons (fComp [1] 1 (fiStr (fVar 0)) (gNm 0) cYes (fOp (inS false) (fVar 0) (fVar 1))) fNil))))
def m_is_made_of : MF := runP 3 (b_is_made_of)
abbrev b_write_number : FS := (sRet (fAr strD (fCons (fVar 0) fNil)))
def m_write_number : MF := runP 1 (b_write_number)
abbrev b_law_draw : FS := (sSeq (sIf (fB (fOp (eqR false) (fAr lenD (fCons (fVar 0) fNil)) (fK (.int 0))))
    (sRet (fK (.int 0)))
    sNext)
    (sSeq (sSet 3 (fOp modD (fOp ixD (fVar 0) (fOp modD (fVar 1) (fAr lenD (fCons (fVar 0) fNil)))) (fK (.int 1000000007))))
    (sSeq (sSet 4 (fOp modD (fOp mulD (fOp addQ (fVar 3) (fK (.int 5))) (fOp addQ (fK (.int 40692)) (fOp mulD (fK (.int 977)) (fVar 1)))) (fK (.int 2147483629))))
    (sSeq (sSet 4 (fOp modD (fOp mulD (fOp addQ (fVar 4) (fVar 1)) (fOp addQ (fVar 4) (fK (.int 3)))) (fK (.int 2147483647))))
    (sRet (fOp modD (fOp divD (fVar 4) (fK (.int 13))) (fVar 2)))))))
def m_law_draw : MF := runP 5 (b_law_draw)
abbrev b_law_whole : FS := (sRet (fAnd (fUn (isiD "int") (fVar 0)) (fNot (fUn (isiD "bool") (fVar 0)))))
def m_law_whole : MF := runP 1 (b_law_whole)
abbrev b_law_end : FS := (sSeq (sIf (fB (fUn (isK false .non) (fVar 0)))
    (sRet (fK (.str "-")))
    sNext)
    (sRet (fAr strD (fCons (fVar 0) fNil))))
def m_law_end : MF := runP 1 (b_law_end)
abbrev b_read_number : FS := (sSeq (sDrop (fCall m_check_text 1 (fCons (fFz (fVar 0)) fNil)))
    (sSeq (sSet 1 (fIf (fTru (fSw (fVar 0) (fK (.str "-")))) (fSlS (fVar 0) (oSome (fK (.int 1))) oNone) (fVar 0)))
    (sSeq (sIf (tNotF (fTru (fCall m_is_made_of 3 (fCons (fFz (fVar 1)) (fCons (fFz (fK (.str "0123456789"))) (fCons (fFz (fK (.int (60)))) fNil))))))
    sStuck
    sNext)
    (sSeq (sIf (tAndF (fB (fOp (eqR false) (fOp ixS (fVar 1) (fK (.int 0))) (fK (.str "0")))) (fB (fOp (eqR true) (fVar 0) (fK (.str "0")))))
    sStuck
    sNext)
    (sRet (fAr intS (fCons (fVar 0) fNil)))))))
def m_read_number : MF := runP 2 (b_read_number)
abbrev b_write_numbers : FS := (sRet (fComp [] 1 (fiSeq (fVar 0)) (gNm 0) cYes (fCall m_write_number 1 (fCons (fFz (fVar 0)) fNil))))
def n_write_numbers : MC := runN 1 (b_write_numbers)
abbrev b_write_end : FS := (sRet (fIf (fB (fUn (isK false .non) (fVar 0))) (fK (.str "-")) (fCall m_write_number 1 (fCons (fFz (fVar 0)) fNil))))
def m_write_end : MF := runP 1 (b_write_end)
abbrev b_read_letters : FS := (sSeq (sIf (tNotF (fTru (fCall m_is_made_of 3 (fCons (fFz (fVar 0)) (fCons (fFz (fK (.str "abcdefghijklmnopqrstuvwxyz"))) (fCons (fFz (fK (.int (8)))) fNil))))))
    sStuck
    sNext)
    (sRet (fVar 0)))
def m_read_letters : MF := runP 1 (b_read_letters)
abbrev b_words_of : FS := (sSeq (sDrop (fCall m_check_text 1 (fCons (fFz (fVar 0)) fNil)))
    (sRet (fOp splD (fVar 0) (fK (.str " ")))))
def m_words_of : MF := runP 1 (b_words_of)
abbrev b_law_far : FS := (sSeq (sIf (fB (fOp (eqR false) (fAr lenD (fCons (fVar 0) fNil)) (fK (.int 0))))
    (sRet (fK (.int 0)))
    sNext)
    (sSeq (sSet 2 (fOp addQ (fCall m_law_draw 3 (fCons (fFz (fVar 0)) (fCons (fFz (fVar 1)) (fCons (fK (.int 100000000)) fNil)))) (fK (.int 1))))
    (sRet (fOp modD (fOp addQ (fOp mulD (fOp modD (fOp ixD (fVar 0) (fOp modD (fVar 1) (fAr lenD (fCons (fVar 0) fNil)))) (fOp powD (fK (.int 10)) (fK (.int 50)))) (fVar 2)) (fOp powD (fVar 2) (fK (.int 5)))) (fOp powD (fK (.int 10)) (fK (.int 50)))))))
def m_law_far : MF := runP 3 (b_law_far)
abbrev l_law_name_0 : FS := (sSet 2 (fOp addQ (fVar 2) (fOp ixS (fK (.str "abcdefghijklmnopqrstuvwxyz")) (fCall m_law_draw 3 (fCons (fFz (fVar 0)) (fCons (fFz (fOp addQ (fOp addQ (fVar 1) (fK (.int 1))) (fVar 3))) (fCons (fK (.int 26)) fNil)))))))
abbrev b_law_name : FS := (sSeq (sSet 2 (fK (.str "")))
    (sSeq (sFor (fiR1 (fOp addQ (fK (.int 1)) (fCall m_law_draw 3 (fCons (fFz (fVar 0)) (fCons (fFz (fVar 1)) (fCons (fK (.int 8)) fNil)))))) (gNm 3)
    l_law_name_0)
    (sRet (fVar 2))))
def m_law_name : MF := runP 4 (b_law_name)
abbrev l_law_tuple_0 : FS := (sIf (tNotF (fTru (fCall m_law_whole 1 (fCons (fFz (fVar 2)) fNil))))
    (sRet (fK (.bl false)))
    sNext)
abbrev b_law_tuple : FS := (sSeq (sIf (tOrF (tNotF (fTru (fUn (isiD "tuple") (fVar 0)))) (fB (fOp (eqR true) (fAr lenD (fCons (fVar 0) fNil)) (fAr lenD (fCons (fVar 1) fNil)))))
    (sRet (fK (.bl false)))
    sNext)
    (sSeq (sFor (fiSeq (fVar 0)) (gNm 2)
    l_law_tuple_0)
    (sRet (fOp (eqR false) (fVar 0) (fVar 1)))))
def m_law_tuple : MF := runP 3 (b_law_tuple)
abbrev l_law_written_0 : FS := (sDrop (fMt appD (fVar 2) (fCons (fAr strD (fCons (fVar 3) fNil)) fNil)))
abbrev b_law_written : FS := (sSeq (sSet 2 (fLst (fCons (fOp ixD (fVar 1) (fK (.int 0))) (fCons (fAr strD (fCons (fVar 0) fNil)) (fCons (fOp ixD (fVar 1) (fK (.int 1))) (fCons (fCall m_law_end 1 (fCons (fFz (fOp ixD (fVar 1) (fK (.int 3)))) fNil)) (fCons (fCall m_law_end 1 (fCons (fFz (fOp ixD (fVar 1) (fK (.int 4)))) fNil)) fNil)))))))
    (sSeq (sFor (fiSeq (fOp ixD (fVar 1) (fK (.int 2)))) (gNm 3)
    l_law_written_0)
    (sRet (fOp joinD (fK (.str " ")) (fOp addQ (fVar 2) (fLst (fCons (fK (.str ".")) fNil)))))))
def m_law_written : MF := runP 4 (b_law_written)
abbrev b_read_number_from : FS := (sSeq (sSet 2 (fCall m_read_number 1 (fCons (fFz (fVar 0)) fNil)))
    (sSeq (sIf (fB (fOp ltD (fVar 2) (fVar 1)))
    sStuck
    sNext)
    (sRet (fVar 2))))
def m_read_number_from : MF := runP 3 (b_read_number_from)
abbrev b_read_end : FS := (sRet (fIf (fB (fOp (eqR false) (fVar 0) (fK (.str "-")))) (fK .non) (fCall m_read_number 1 (fCons (fFz (fVar 0)) fNil))))
def m_read_end : MF := runP 1 (b_read_end)
abbrev b_write_telling : FS := (sSeq (sSet 2 (fLst (fCons (fOp ixD (fVar 1) (fK (.int 0))) (fCons (fCall m_write_number 1 (fCons (fFz (fVar 0)) fNil)) (fCons (fOp ixD (fVar 1) (fK (.int 1))) (fCons (fCall m_write_end 1 (fCons (fFz (fOp ixD (fVar 1) (fK (.int 3)))) fNil)) (fCons (fCall m_write_end 1 (fCons (fFz (fOp ixD (fVar 1) (fK (.int 4)))) fNil)) fNil)))))))
    (sRet (fOp joinD (fK (.str " ")) (fOp addQ (fOp addQ (fVar 2) (fCallN n_write_numbers 1 (fCons (fOp ixD (fVar 1) (fK (.int 2))) fNil))) (fLst (fCons (fK (.str ".")) fNil))))))
def m_write_telling : MF := runP 3 (b_write_telling)
abbrev b_law_number : FS := (sSeq (sSet 2 (fCall m_law_draw 3 (fCons (fFz (fVar 0)) (fCons (fFz (fVar 1)) (fCons (fK (.int 5)) fNil)))))
    (sSeq (sIf (fB (fOp ltD (fVar 2) (fK (.int 2))))
    (sRet (fOp subD (fCall m_law_draw 3 (fCons (fFz (fVar 0)) (fCons (fFz (fOp addQ (fVar 1) (fK (.int 1)))) (fCons (fK (.int 25)) fNil)))) (fK (.int 12))))
    sNext)
    (sSeq (sIf (fB (fOp (eqR false) (fVar 2) (fK (.int 2))))
    (sRet (fOp subD (fOp subD (fOp powD (fK (.int 10)) (fK (.int 60))) (fK (.int 1))) (fCall m_law_draw 3 (fCons (fFz (fVar 0)) (fCons (fFz (fOp addQ (fVar 1) (fK (.int 1)))) (fCons (fK (.int 3)) fNil))))))
    sNext)
    (sSeq (sIf (fB (fOp (eqR false) (fVar 2) (fK (.int 3))))
    (sRet (fOp addQ (fOp subD (fK (.int 1)) (fOp powD (fK (.int 10)) (fK (.int 60)))) (fCall m_law_draw 3 (fCons (fFz (fVar 0)) (fCons (fFz (fOp addQ (fVar 1) (fK (.int 1)))) (fCons (fK (.int 3)) fNil))))))
    sNext)
    (sRet (fOp subD (fCall m_law_far 2 (fCons (fFz (fVar 0)) (fCons (fFz (fOp addQ (fVar 1) (fK (.int 1)))) fNil))) (fOp mulD (fK (.int 5)) (fOp powD (fK (.int 10)) (fK (.int 49))))))))))
def m_law_number : MF := runP 3 (b_law_number)
abbrev l_law_alike_0 : FS := (sIf (tAndF (fB (fUn (isK true .non) (fVar 4))) (tNotF (fTru (fCall m_law_whole 1 (fCons (fFz (fVar 4)) fNil)))))
    (sRet (fK (.bl false)))
    sNext)
abbrev b_law_alike : FS := (sSeq (sIf (tOrF (tNotF (fTru (fUn (isiD "tuple") (fVar 0)))) (tOrF (fB (fOp (eqR true) (fAr lenD (fCons (fVar 0) fNil)) (fK (.int 2)))) (tOrF (tNotF (fTru (fCall m_law_whole 1 (fCons (fFz (fOp ixD (fVar 0) (fK (.int 0)))) fNil)))) (fB (fOp (eqR true) (fOp ixD (fVar 0) (fK (.int 0))) (fVar 1))))))
    (sRet (fK (.bl false)))
    sNext)
    (sSeq (sSet 3 (fOp ixD (fVar 0) (fK (.int 1))))
    (sSeq (sIf (tOrF (tNotF (fTru (fUn (isiD "tuple") (fVar 3)))) (tOrF (fB (fOp (eqR true) (fAr lenD (fCons (fVar 3) fNil)) (fK (.int 5)))) (fB (fOp (eqR true) (fSl (fVar 3) oNone (oSome (fK (.int 2)))) (fSl (fVar 2) oNone (oSome (fK (.int 2))))))))
    (sRet (fK (.bl false)))
    sNext)
    (sSeq (sIf (tNotF (fTru (fCall m_law_tuple 2 (fCons (fFz (fOp ixD (fVar 3) (fK (.int 2)))) (fCons (fFz (fOp ixD (fVar 2) (fK (.int 2)))) fNil)))))
    (sRet (fK (.bl false)))
    sNext)
    (sSeq (sFor (fiSeq (fSl (fVar 3) (oSome (fK (.int 3))) oNone)) (gNm 4)
    l_law_alike_0)
    (sRet (fOp (eqR false) (fSl (fVar 3) (oSome (fK (.int 3))) oNone) (fSl (fVar 2) (oSome (fK (.int 3))) oNone))))))))
def m_law_alike : MF := runP 5 (b_law_alike)
abbrev b_read_telling : FS := (sSeq (sSet 1 (fCall m_words_of 1 (fCons (fFz (fVar 0)) fNil)))
    (sSeq (sIf (tOrF (fB (fOp ltD (fAr lenD (fCons (fVar 1) fNil)) (fK (.int 6)))) (tOrF (fB (fOp (inW true) (fOp ixD (fVar 1) (fK (.int 0))) (fTup (fCons (fK (.str "tell")) (fCons (fK (.str "strike")) fNil))))) (fB (fOp (eqR true) (fOp ixD (fVar 1) (fUn negD (fK (.int 1)))) (fK (.str "."))))))
    sStuck
    sNext)
    (sSeq (sSet 2 (fCall m_read_number_from 2 (fCons (fFz (fOp ixD (fVar 1) (fK (.int 1)))) (fCons (fK (.int 1)) fNil))))
    (sSeq (sSet 3 (fCall m_read_letters 1 (fCons (fFz (fOp ixD (fVar 1) (fK (.int 2)))) fNil)))
    (sSeq (sSet 4 (fCall m_read_end 1 (fCons (fFz (fOp ixD (fVar 1) (fK (.int 3)))) fNil)))
    (sSeq (sSet 5 (fCall m_read_end 1 (fCons (fFz (fOp ixD (fVar 1) (fK (.int 4)))) fNil)))
    (sSeq (sIf (fB (fOp (eqR false) (fCall m_stretch_of 2 (fCons (fFz (fVar 4)) (fCons (fFz (fVar 5)) fNil))) (fK (.tup [(.bl false), (.tup [])]))))
    sStuck
    sNext)
    (sSeq (sSet 6 (fAr tupD (fCons (fComp [] 1 (fiSeq (fSl (fVar 1) (oSome (fK (.int 5))) (oSome (fUn negD (fK (.int 1)))))) (gNm 0) cYes (fCall m_read_number 1 (fCons (fFz (fVar 0)) fNil))) fNil)))
    (sRet (fTup (fCons (fVar 2) (fCons (fTup (fCons (fOp ixD (fVar 1) (fK (.int 0))) (fCons (fVar 3) (fCons (fVar 6) (fCons (fVar 4) (fCons (fVar 5) fNil)))))) fNil))))))))))))
def m_read_telling : MF := runP 7 (b_read_telling)
abbrev b_law_telling : FS := (sSeq (sSet 2 (fOp subD (fCall m_law_draw 3 (fCons (fFz (fVar 0)) (fCons (fFz (fVar 1)) (fCons (fK (.int 30)) fNil)))) (fK (.int 15))))
    (sSeq (sSet 3 (fOp addQ (fOp addQ (fVar 2) (fK (.int 1))) (fCall m_law_draw 3 (fCons (fFz (fVar 0)) (fCons (fFz (fOp addQ (fVar 1) (fK (.int 1)))) (fCons (fK (.int 9)) fNil))))))
    (sSeq (sSet 4 (fCall m_law_draw 3 (fCons (fFz (fVar 0)) (fCons (fFz (fOp addQ (fVar 1) (fK (.int 2)))) (fCons (fK (.int 8)) fNil)))))
    (sSeq (sIf (fB (fOp (eqR false) (fOp modD (fVar 4) (fK (.int 2))) (fK (.int 1))))
    (sSeq (sSet 2 (fOp subD (fVar 2) (fCall m_law_far 2 (fCons (fFz (fVar 0)) (fCons (fFz (fOp addQ (fVar 1) (fK (.int 3)))) fNil)))))
    (sSet 3 (fOp addQ (fVar 3) (fCall m_law_far 2 (fCons (fFz (fVar 0)) (fCons (fFz (fOp addQ (fVar 1) (fK (.int 4)))) fNil))))))
    sNext)
    (sSeq (sIf (tOrF (fB (fOp (eqR false) (fVar 4) (fK (.int 0)))) (fB (fOp (eqR false) (fVar 4) (fK (.int 2)))))
    (sSet 2 (fK .non))
    sNext)
    (sSeq (sIf (tOrF (fB (fOp (eqR false) (fVar 4) (fK (.int 0)))) (fB (fOp (eqR false) (fVar 4) (fK (.int 4)))))
    (sSet 3 (fK .non))
    sNext)
    (sSeq (sSet 5 (fAr tupD (fCons (fComp [0, 1] 1 (fiR1 (fCall m_law_draw 3 (fCons (fFz (fVar 0)) (fCons (fFz (fOp addQ (fVar 1) (fK (.int 5)))) (fCons (fK (.int 9)) fNil))))) (gNm 0) cYes (fCall m_law_number 2 (fCons (fFz (fVar 1)) (fCons (fFz (fOp addQ (fOp addQ (fVar 2) (fK (.int 20))) (fOp mulD (fK (.int 3)) (fVar 0)))) fNil)))) fNil)))
    (sSeq (sSet 6 (fOp ixD (fLst (fCons (fK (.str "tell")) (fCons (fK (.str "strike")) fNil))) (fCall m_law_draw 3 (fCons (fFz (fVar 0)) (fCons (fFz (fOp addQ (fVar 1) (fK (.int 6)))) (fCons (fK (.int 2)) fNil))))))
    (sRet (fTup (fCons (fVar 6) (fCons (fCall m_law_name 2 (fCons (fFz (fVar 0)) (fCons (fFz (fOp addQ (fVar 1) (fK (.int 7)))) fNil))) (fCons (fVar 5) (fCons (fVar 2) (fCons (fVar 3) fNil)))))))))))))))
def m_law_telling : MF := runP 7 (b_law_telling)
abbrev l_law_0 : FS := (sSeq (sSet 2 (fCall m_law_telling 2 (fCons (fFz (fVar 0)) (fCons (fFz (fOp mulD (fK (.int 60)) (fVar 1))) fNil))))
    (sSeq (sSet 3 (fOp addQ (fK (.int 1)) (fCall m_law_draw 3 (fCons (fFz (fVar 0)) (fCons (fFz (fVar 1)) (fCons (fK (.int 40)) fNil))))))
    (sSeq (sIf (fB (fOp (eqR false) (fCall m_law_draw 3 (fCons (fFz (fVar 0)) (fCons (fFz (fOp addQ (fVar 1) (fK (.int 63)))) (fCons (fK (.int 3)) fNil)))) (fK (.int 0))))
    (sSet 3 (fOp addQ (fK (.int 1)) (fCall m_law_far 2 (fCons (fFz (fVar 0)) (fCons (fFz (fVar 1)) fNil)))))
    sNext)
    (sSeq (sSet 4 (fCall m_law_written 2 (fCons (fFz (fVar 3)) (fCons (fFz (fVar 2)) fNil))))
    (sSeq (sSet 5 (fCall m_write_telling 2 (fCons (fFz (fVar 3)) (fCons (fFz (fVar 2)) fNil))))
    (sIf (tOrF (tNotF (fTru (fUn (isiD "str") (fVar 5)))) (tOrF (fB (fOp (eqR true) (fVar 5) (fVar 4))) (tNotF (fTru (fCall m_law_alike 3 (fCons (fFz (fCall m_read_telling 1 (fCons (fFz (fVar 4)) fNil))) (fCons (fFz (fVar 3)) (fCons (fFz (fVar 2)) fNil))))))))
    (sRet (fK (.bl false)))
    sNext))))))
abbrev b_law : FS := (sSeq (sFor (fiR1 (fAr minD (fCons (fAr lenD (fCons (fVar 0) fNil)) (fCons (fK (.int 16)) fNil)))) (gNm 1)
    l_law_0)
    (sRet (fOp (eqR false) (fCall m_read_telling 1 (fCons (fK (.str "strike 1 a - - .")) fNil)) (fTup (fCons (fK (.int 1)) (fCons (fTup (fCons (fK (.str "strike")) (fCons (fK (.str "a")) (fCons (fTup fNil) (fCons (fK .non) (fCons (fK .non) fNil)))))) fNil))))))
def m_law : MF := runP 6 (b_law)
def zs : List Str := ["isinstance", "str", "all", "len", "int", "tuple", "range", "bool", "min"]
def Zs (mg : Str → Option Value) : Prop := ∀ (i : Nat) (x : Str), zs[i]? = some x → mg x = none
section
variable {P : Program} {w : World} {K : PySem.W.Frag} {mg : Str → Option Value} {base : Heap}
set_option maxHeartbeats 4000000
theorem k_stretch_of (z : Zs mg) (d : DefAt K mg "stretch_of" st_stretch_of ["low", "high"])  (c_NO_NUMBERS : ConstR K mg "NO_NUMBERS" (.tup [(.bl false), (.tup [])])) (c_ALL_NUMBERS : ConstR K mg "ALL_NUMBERS" (.tup [(.bl true), (.tup [])])) : Kept P w K mg base 1 "stretch_of" ["low", "high"] m_stretch_of :=
  okP (k := 0) d sc_stretch_of fun f cdv A outer s H E hr =>
    (s_cons (s_if (t_w (w_and (t_isN (q_var 0)) (w_and1 (t_isN (q_var 1)))))
    (s_one (s_ret (q_const c_ALL_NUMBERS)))
    s_nil)
    (s_cons (s_if (t_isN (q_var 0))
    (s_one (s_ret (q_tup (q_cons q_bl (q_cons (q_tup (q_cons (q_var 1) q_nil)) q_nil)))))
    s_nil)
    (s_cons (s_if (t_isN (q_var 1))
    (s_one (s_ret (q_tup (q_cons q_bl (q_cons (q_tup (q_cons (q_var 0) q_nil)) q_nil)))))
    s_nil)
    (s_cons (s_if (t_le (q_var 1) (q_var 0))
    (s_one (s_ret (q_const c_NO_NUMBERS)))
    s_nil)
    (s_one (s_ret (q_tup (q_cons q_bl (q_cons (q_tup (q_cons (q_var 0) (q_cons (q_var 1) q_nil))) q_nil)))))))))
theorem k_check_text (z : Zs mg) (d : DefAt K mg "check_text" st_check_text ["thing"])  : Kept P w K mg base 1 "check_text" ["thing"] m_check_text :=
  okP (k := 0) d sc_check_text fun f cdv A outer s H E hr =>
    (s_one (s_if (t_not (t_tru (q_isi kinds_str rfl (z 0 _ rfl) rfl (z 1 _ rfl) boot_str' (q_var 0))))
    (s_one s_stuck)
    s_nil))
theorem k_is_made_of (z : Zs mg) (d : DefAt K mg "is_made_of" st_is_made_of ["text", "signs", "most"])  : Kept P w K mg base 1 "is_made_of" ["text", "signs", "most"] m_is_made_of :=
  okP (k := 0) d sc_is_made_of fun f cdv A outer s H E hr =>
    (s_one (s_ret (q_and (q_ch q_int (q_lenS rfl (z 3 _ rfl) (q_cons (q_var 0) q_nil)) (q_var 2)) (q_one (q_all rfl rfl (z 2 _ rfl) (q_cons (q_comp [1] ["sign"] ["signs"] rfl (show CompNames (defScope st_is_made_of) _ ["sign"] ["signs"] from ⟨rfl, by decide +kernel, by decide +kernel, by decide +kernel, by decide +kernel, by decide +kernel⟩) (i_str (q_var 0)) (fun cl C s₂ H₂ fp => ⟨(g_nm 0 (show (["sign", "signs"] : List Str).Nodup by decide +kernel)), f_nil, (q_inS (q_var 0) (q_var 1))⟩)) q_nil))))))
theorem k_write_number (z : Zs mg) (d : DefAt K mg "write_number" st_write_number ["number"])  : Kept P w K mg base 1 "write_number" ["number"] m_write_number :=
  okP (k := 0) d sc_write_number fun f cdv A outer s H E hr =>
    (s_one (s_ret (q_strc rfl (z 1 _ rfl) (q_cons (q_var 0) q_nil))))
theorem k_read_number (z : Zs mg) (d : DefAt K mg "read_number" st_read_number ["text"]) (h_check_text : Kept P w K mg base 1 "check_text" ["thing"] m_check_text) (h_is_made_of : Kept P w K mg base 1 "is_made_of" ["text", "signs", "most"] m_is_made_of) (c_FIGURES : ConstR K mg "FIGURES" (.str "0123456789")) (c_MOST_FIGURES : ConstR K mg "MOST_FIGURES" (.int (60))) : Kept P w K mg base 2 "read_number" ["text"] m_read_number :=
  okP (k := 1) d sc_read_number fun f cdv A outer s H E hr =>
    (s_cons (s_expr (q_callK h_check_text (hr.mono (by decide)) (q_cons (q_fz (q_var 0)) q_nil)))
    (s_cons (s_set 1 sc_read_number.nd (q_if (t_tru (q_sw (q_var 0) q_str)) (q_slS (q_var 0) (q_oS q_int) q_oN) (q_var 0)))
    (s_cons (s_if (t_not (t_tru (q_callK h_is_made_of (hr.mono (by decide)) (q_cons (q_fz (q_var 1)) (q_cons (q_fz (q_const c_FIGURES)) (q_cons (q_fz (q_const c_MOST_FIGURES)) q_nil))))))
    (s_one s_stuck)
    s_nil)
    (s_cons (s_if (t_w (w_and (t_eq hr.units (q_ixS (q_var 1) q_int) q_str) (w_and1 (t_ne hr.units (q_var 0) q_str))))
    (s_one s_stuck)
    s_nil)
    (s_one (s_ret (q_intS rfl (z 4 _ rfl) (q_cons (q_var 0) q_nil))))))))
theorem k_read_number_from (z : Zs mg) (d : DefAt K mg "read_number_from" st_read_number_from ["text", "least"]) (h_read_number : Kept P w K mg base 2 "read_number" ["text"] m_read_number) : Kept P w K mg base 3 "read_number_from" ["text", "least"] m_read_number_from :=
  okP (k := 2) d sc_read_number_from fun f cdv A outer s H E hr =>
    (s_cons (s_set 2 sc_read_number_from.nd (q_callK h_read_number (hr.mono (by decide)) (q_cons (q_fz (q_var 0)) q_nil)))
    (s_cons (s_if (t_lt (q_var 2) (q_var 1))
    (s_one s_stuck)
    s_nil)
    (s_one (s_ret (q_var 2)))))
theorem k_write_numbers (z : Zs mg) (d : DefAt K mg "write_numbers" st_write_numbers ["numbers"]) (h_write_number : Kept P w K mg base 1 "write_number" ["number"] m_write_number) : KeptN P w K mg base 2 "write_numbers" ["numbers"] n_write_numbers :=
  okN (k := 1) d sc_write_numbers fun f cdv A outer s H E hr =>
    (s_one (s_ret (q_comp [] ["number"] [] rfl (show CompNames (defScope st_write_numbers) _ ["number"] [] from ⟨rfl, by decide +kernel, by decide +kernel, by decide +kernel, by decide +kernel, by decide +kernel⟩) (i_seq (q_var 0)) (fun cl C s₂ H₂ fp => ⟨(g_nm 0 (show (["number"] : List Str).Nodup by decide +kernel)), f_nil, (q_callK h_write_number (hr.mono (by decide)) (q_cons (q_fz (q_var 0)) q_nil))⟩))))
theorem k_write_end (z : Zs mg) (d : DefAt K mg "write_end" st_write_end ["end"]) (h_write_number : Kept P w K mg base 1 "write_number" ["number"] m_write_number) : Kept P w K mg base 2 "write_end" ["end"] m_write_end :=
  okP (k := 1) d sc_write_end fun f cdv A outer s H E hr =>
    (s_one (s_ret (q_if (t_isN (q_var 0)) q_str (q_callK h_write_number (hr.mono (by decide)) (q_cons (q_fz (q_var 0)) q_nil)))))
theorem k_read_end (z : Zs mg) (d : DefAt K mg "read_end" st_read_end ["text"]) (h_read_number : Kept P w K mg base 2 "read_number" ["text"] m_read_number) : Kept P w K mg base 3 "read_end" ["text"] m_read_end :=
  okP (k := 2) d sc_read_end fun f cdv A outer s H E hr =>
    (s_one (s_ret (q_if (t_eq hr.units (q_var 0) q_str) q_non (q_callK h_read_number (hr.mono (by decide)) (q_cons (q_fz (q_var 0)) q_nil)))))
theorem k_read_letters (z : Zs mg) (d : DefAt K mg "read_letters" st_read_letters ["text"]) (h_is_made_of : Kept P w K mg base 1 "is_made_of" ["text", "signs", "most"] m_is_made_of) (c_SMALL_LETTERS : ConstR K mg "SMALL_LETTERS" (.str "abcdefghijklmnopqrstuvwxyz")) (c_MOST_LETTERS : ConstR K mg "MOST_LETTERS" (.int (8))) : Kept P w K mg base 2 "read_letters" ["text"] m_read_letters :=
  okP (k := 1) d sc_read_letters fun f cdv A outer s H E hr =>
    (s_cons (s_if (t_not (t_tru (q_callK h_is_made_of (hr.mono (by decide)) (q_cons (q_fz (q_var 0)) (q_cons (q_fz (q_const c_SMALL_LETTERS)) (q_cons (q_fz (q_const c_MOST_LETTERS)) q_nil))))))
    (s_one s_stuck)
    s_nil)
    (s_one (s_ret (q_var 0))))
theorem k_words_of (z : Zs mg) (d : DefAt K mg "words_of" st_words_of ["text"]) (h_check_text : Kept P w K mg base 1 "check_text" ["thing"] m_check_text) : Kept P w K mg base 2 "words_of" ["text"] m_words_of :=
  okP (k := 1) d sc_words_of fun f cdv A outer s H E hr =>
    (s_cons (s_expr (q_callK h_check_text (hr.mono (by decide)) (q_cons (q_fz (q_var 0)) q_nil)))
    (s_one (s_ret (q_split (q_var 0) q_str))))
theorem k_write_telling (z : Zs mg) (d : DefAt K mg "write_telling" st_write_telling ["turn", "telling"]) (h_write_number : Kept P w K mg base 1 "write_number" ["number"] m_write_number) (h_write_end : Kept P w K mg base 2 "write_end" ["end"] m_write_end) (h_write_numbers : KeptN P w K mg base 2 "write_numbers" ["numbers"] n_write_numbers) : Kept P w K mg base 3 "write_telling" ["turn", "telling"] m_write_telling :=
  okP (k := 2) d sc_write_telling fun f cdv A outer s H E hr =>
    (s_cons (s_set 2 sc_write_telling.nd (q_lst (q_cons (q_ix (q_var 1) q_int) (q_cons (q_callK h_write_number (hr.mono (by decide)) (q_cons (q_fz (q_var 0)) q_nil)) (q_cons (q_ix (q_var 1) q_int) (q_cons (q_callK h_write_end (hr.mono (by decide)) (q_cons (q_fz (q_ix (q_var 1) q_int)) q_nil)) (q_cons (q_callK h_write_end (hr.mono (by decide)) (q_cons (q_fz (q_ix (q_var 1) q_int)) q_nil)) q_nil)))))))
    (s_one (s_ret (q_join q_str (q_addQ (q_addQ (q_var 2) (q_callN h_write_numbers (hr.mono (by decide)) (q_cons (q_ix (q_var 1) q_int) q_nil))) (q_lst (q_cons q_str q_nil)))))))
theorem k_read_telling (z : Zs mg) (d : DefAt K mg "read_telling" st_read_telling ["text"]) (h_words_of : Kept P w K mg base 2 "words_of" ["text"] m_words_of) (h_read_number_from : Kept P w K mg base 3 "read_number_from" ["text", "least"] m_read_number_from) (h_read_letters : Kept P w K mg base 2 "read_letters" ["text"] m_read_letters) (h_read_end : Kept P w K mg base 3 "read_end" ["text"] m_read_end) (h_stretch_of : Kept P w K mg base 1 "stretch_of" ["low", "high"] m_stretch_of) (h_read_number : Kept P w K mg base 2 "read_number" ["text"] m_read_number) (c_NO_NUMBERS : ConstR K mg "NO_NUMBERS" (.tup [(.bl false), (.tup [])])) : Kept P w K mg base 4 "read_telling" ["text"] m_read_telling :=
  okP (k := 3) d sc_read_telling fun f cdv A outer s H E hr =>
    (s_cons (s_set 1 sc_read_telling.nd (q_callK h_words_of (hr.mono (by decide)) (q_cons (q_fz (q_var 0)) q_nil)))
    (s_cons (s_if (t_w (w_or (t_lt (q_len rfl (z 3 _ rfl) (q_cons (q_var 1) q_nil)) q_int) (w_or (t_ninW (q_ix (q_var 1) q_int) (q_tup (q_cons q_str (q_cons q_str q_nil)))) (w_or1 (t_ne hr.units (q_ix (q_var 1) (q_neg q_int)) q_str)))))
    (s_one s_stuck)
    s_nil)
    (s_cons (s_set 2 sc_read_telling.nd (q_callK h_read_number_from (hr.mono (by decide)) (q_cons (q_fz (q_ix (q_var 1) q_int)) (q_cons q_int q_nil))))
    (s_cons (s_set 3 sc_read_telling.nd (q_callK h_read_letters (hr.mono (by decide)) (q_cons (q_fz (q_ix (q_var 1) q_int)) q_nil)))
    (s_cons (s_set 4 sc_read_telling.nd (q_callK h_read_end (hr.mono (by decide)) (q_cons (q_fz (q_ix (q_var 1) q_int)) q_nil)))
    (s_cons (s_set 5 sc_read_telling.nd (q_callK h_read_end (hr.mono (by decide)) (q_cons (q_fz (q_ix (q_var 1) q_int)) q_nil)))
    (s_cons (s_if (t_eq hr.units (q_callK h_stretch_of (hr.mono (by decide)) (q_cons (q_fz (q_var 4)) (q_cons (q_fz (q_var 5)) q_nil))) (q_const c_NO_NUMBERS))
    (s_one s_stuck)
    s_nil)
    (s_cons (s_set 6 sc_read_telling.nd (q_tuple rfl (z 5 _ rfl) (q_cons (q_comp [] ["word"] [] rfl (show CompNames (defScope st_read_telling) _ ["word"] [] from ⟨rfl, by decide +kernel, by decide +kernel, by decide +kernel, by decide +kernel, by decide +kernel⟩) (i_seq (q_sl (q_var 1) (q_oS q_int) (q_oS (q_neg q_int)))) (fun cl C s₂ H₂ fp => ⟨(g_nm 0 (show (["word"] : List Str).Nodup by decide +kernel)), f_nil, (q_callK h_read_number (hr.mono (by decide)) (q_cons (q_fz (q_var 0)) q_nil))⟩)) q_nil)))
    (s_one (s_ret (q_tup (q_cons (q_var 2) (q_cons (q_tup (q_cons (q_ix (q_var 1) q_int) (q_cons (q_var 3) (q_cons (q_var 6) (q_cons (q_var 4) (q_cons (q_var 5) q_nil)))))) q_nil)))))))))))))
theorem k_law_draw (z : Zs mg) (d : DefAt K mg "_law_draw" st_law_draw ["script", "k", "many"])  : Kept P w K mg base 1 "_law_draw" ["script", "k", "many"] m_law_draw :=
  okP (k := 0) d sc_law_draw fun f cdv A outer s H E hr =>
    (s_cons (s_if (t_eq hr.units (q_len rfl (z 3 _ rfl) (q_cons (q_var 0) q_nil)) q_int)
    (s_one (s_ret q_int))
    s_nil)
    (s_cons (s_set 3 sc_law_draw.nd (q_mod (q_ix (q_var 0) (q_mod (q_var 1) (q_len rfl (z 3 _ rfl) (q_cons (q_var 0) q_nil)))) q_int))
    (s_cons (s_set 4 sc_law_draw.nd (q_mod (q_mul (q_addQ (q_var 3) q_int) (q_addQ q_int (q_mul q_int (q_var 1)))) q_int))
    (s_cons (s_set 4 sc_law_draw.nd (q_mod (q_mul (q_addQ (q_var 4) (q_var 1)) (q_addQ (q_var 4) q_int)) q_int))
    (s_one (s_ret (q_mod (q_div (q_var 4) q_int) (q_var 2))))))))
theorem k_law_far (z : Zs mg) (d : DefAt K mg "_law_far" st_law_far ["script", "k"]) (h_law_draw : Kept P w K mg base 1 "_law_draw" ["script", "k", "many"] m_law_draw) : Kept P w K mg base 2 "_law_far" ["script", "k"] m_law_far :=
  okP (k := 1) d sc_law_far fun f cdv A outer s H E hr =>
    (s_cons (s_if (t_eq hr.units (q_len rfl (z 3 _ rfl) (q_cons (q_var 0) q_nil)) q_int)
    (s_one (s_ret q_int))
    s_nil)
    (s_cons (s_set 2 sc_law_far.nd (q_addQ (q_callK h_law_draw (hr.mono (by decide)) (q_cons (q_fz (q_var 0)) (q_cons (q_fz (q_var 1)) (q_cons q_int q_nil)))) q_int))
    (s_one (s_ret (q_mod (q_addQ (q_mul (q_mod (q_ix (q_var 0) (q_mod (q_var 1) (q_len rfl (z 3 _ rfl) (q_cons (q_var 0) q_nil)))) (q_pow q_int q_int)) (q_var 2)) (q_pow (q_var 2) q_int)) (q_pow q_int q_int))))))
theorem k_law_name (z : Zs mg) (d : DefAt K mg "_law_name" st_law_name ["script", "k"]) (h_law_draw : Kept P w K mg base 1 "_law_draw" ["script", "k", "many"] m_law_draw) : Kept P w K mg base 2 "_law_name" ["script", "k"] m_law_name :=
  okP (k := 1) d sc_law_name fun f cdv A outer s H E hr =>
    (s_cons (s_set 2 sc_law_name.nd q_str)
    (s_cons (s_for rfl (i_r1 rfl (z 6 _ rfl) (q_addQ q_int (q_callK h_law_draw (hr.mono (by decide)) (q_cons (q_fz (q_var 0)) (q_cons (q_fz (q_var 1)) (q_cons q_int q_nil)))))) (g_nm 3 sc_law_name.nd)
    (s_one (s_set 2 sc_law_name.nd (q_addQ (q_var 2) (q_ixS q_str (q_callK h_law_draw (hr.mono (by decide)) (q_cons (q_fz (q_var 0)) (q_cons (q_fz (q_addQ (q_addQ (q_var 1) q_int) (q_var 3))) (q_cons q_int q_nil)))))))) PassesOwn.never)
    (s_one (s_ret (q_var 2)))))
theorem k_law_number (z : Zs mg) (d : DefAt K mg "_law_number" st_law_number ["script", "k"]) (h_law_draw : Kept P w K mg base 1 "_law_draw" ["script", "k", "many"] m_law_draw) (h_law_far : Kept P w K mg base 2 "_law_far" ["script", "k"] m_law_far) : Kept P w K mg base 3 "_law_number" ["script", "k"] m_law_number :=
  okP (k := 2) d sc_law_number fun f cdv A outer s H E hr =>
    (s_cons (s_set 2 sc_law_number.nd (q_callK h_law_draw (hr.mono (by decide)) (q_cons (q_fz (q_var 0)) (q_cons (q_fz (q_var 1)) (q_cons q_int q_nil)))))
    (s_cons (s_if (t_lt (q_var 2) q_int)
    (s_one (s_ret (q_sub (q_callK h_law_draw (hr.mono (by decide)) (q_cons (q_fz (q_var 0)) (q_cons (q_fz (q_addQ (q_var 1) q_int)) (q_cons q_int q_nil)))) q_int)))
    s_nil)
    (s_cons (s_if (t_eq hr.units (q_var 2) q_int)
    (s_one (s_ret (q_sub (q_sub (q_pow q_int q_int) q_int) (q_callK h_law_draw (hr.mono (by decide)) (q_cons (q_fz (q_var 0)) (q_cons (q_fz (q_addQ (q_var 1) q_int)) (q_cons q_int q_nil)))))))
    s_nil)
    (s_cons (s_if (t_eq hr.units (q_var 2) q_int)
    (s_one (s_ret (q_addQ (q_sub q_int (q_pow q_int q_int)) (q_callK h_law_draw (hr.mono (by decide)) (q_cons (q_fz (q_var 0)) (q_cons (q_fz (q_addQ (q_var 1) q_int)) (q_cons q_int q_nil)))))))
    s_nil)
    (s_one (s_ret (q_sub (q_callK h_law_far (hr.mono (by decide)) (q_cons (q_fz (q_var 0)) (q_cons (q_fz (q_addQ (q_var 1) q_int)) q_nil))) (q_mul q_int (q_pow q_int q_int)))))))))
theorem k_law_whole (z : Zs mg) (d : DefAt K mg "_law_whole" st_law_whole ["some"])  : Kept P w K mg base 1 "_law_whole" ["some"] m_law_whole :=
  okP (k := 0) d sc_law_whole fun f cdv A outer s H E hr =>
    (s_one (s_ret (q_and (q_isi kinds_int rfl (z 0 _ rfl) rfl (z 4 _ rfl) boot_int' (q_var 0)) (q_one (q_not (q_isi kinds_bool rfl (z 0 _ rfl) rfl (z 7 _ rfl) boot_bool' (q_var 0)))))))
theorem k_law_tuple (z : Zs mg) (d : DefAt K mg "_law_tuple" st_law_tuple ["told", "due"]) (h_law_whole : Kept P w K mg base 1 "_law_whole" ["some"] m_law_whole) : Kept P w K mg base 2 "_law_tuple" ["told", "due"] m_law_tuple :=
  okP (k := 1) d sc_law_tuple fun f cdv A outer s H E hr =>
    (s_cons (s_if (t_w (w_or (t_not (t_tru (q_isi kinds_tuple rfl (z 0 _ rfl) rfl (z 5 _ rfl) boot_tuple' (q_var 0)))) (w_or1 (t_ne hr.units (q_len rfl (z 3 _ rfl) (q_cons (q_var 0) q_nil)) (q_len rfl (z 3 _ rfl) (q_cons (q_var 1) q_nil))))))
    (s_one (s_ret q_bl))
    s_nil)
    (s_cons (s_for rfl (i_seq (q_var 0)) (g_nm 2 sc_law_tuple.nd)
    (s_one (s_if (t_not (t_tru (q_callK h_law_whole (hr.mono (by decide)) (q_cons (q_fz (q_var 2)) q_nil))))
    (s_one (s_ret q_bl))
    s_nil)) PassesOwn.never)
    (s_one (s_ret (q_eq hr.units (q_var 0) (q_var 1))))))
theorem k_law_telling (z : Zs mg) (d : DefAt K mg "_law_telling" st_law_telling ["script", "k"]) (h_law_draw : Kept P w K mg base 1 "_law_draw" ["script", "k", "many"] m_law_draw) (h_law_name : Kept P w K mg base 2 "_law_name" ["script", "k"] m_law_name) (h_law_far : Kept P w K mg base 2 "_law_far" ["script", "k"] m_law_far) (h_law_number : Kept P w K mg base 3 "_law_number" ["script", "k"] m_law_number) : Kept P w K mg base 4 "_law_telling" ["script", "k"] m_law_telling :=
  okP (k := 3) d sc_law_telling fun f cdv A outer s H E hr =>
    (s_cons (s_set 2 sc_law_telling.nd (q_sub (q_callK h_law_draw (hr.mono (by decide)) (q_cons (q_fz (q_var 0)) (q_cons (q_fz (q_var 1)) (q_cons q_int q_nil)))) q_int))
    (s_cons (s_set 3 sc_law_telling.nd (q_addQ (q_addQ (q_var 2) q_int) (q_callK h_law_draw (hr.mono (by decide)) (q_cons (q_fz (q_var 0)) (q_cons (q_fz (q_addQ (q_var 1) q_int)) (q_cons q_int q_nil))))))
    (s_cons (s_set 4 sc_law_telling.nd (q_callK h_law_draw (hr.mono (by decide)) (q_cons (q_fz (q_var 0)) (q_cons (q_fz (q_addQ (q_var 1) q_int)) (q_cons q_int q_nil)))))
    (s_cons (s_if (t_eq hr.units (q_mod (q_var 4) q_int) q_int)
    (s_cons (s_set 2 sc_law_telling.nd (q_sub (q_var 2) (q_callK h_law_far (hr.mono (by decide)) (q_cons (q_fz (q_var 0)) (q_cons (q_fz (q_addQ (q_var 1) q_int)) q_nil)))))
    (s_one (s_set 3 sc_law_telling.nd (q_addQ (q_var 3) (q_callK h_law_far (hr.mono (by decide)) (q_cons (q_fz (q_var 0)) (q_cons (q_fz (q_addQ (q_var 1) q_int)) q_nil)))))))
    s_nil)
    (s_cons (s_if (t_w (w_or (t_eq hr.units (q_var 4) q_int) (w_or1 (t_eq hr.units (q_var 4) q_int))))
    (s_one (s_set 2 sc_law_telling.nd q_non))
    s_nil)
    (s_cons (s_if (t_w (w_or (t_eq hr.units (q_var 4) q_int) (w_or1 (t_eq hr.units (q_var 4) q_int))))
    (s_one (s_set 3 sc_law_telling.nd q_non))
    s_nil)
    (s_cons (s_set 5 sc_law_telling.nd (q_tuple rfl (z 5 _ rfl) (q_cons (q_comp [0, 1] ["j"] ["script", "k"] rfl (show CompNames (defScope st_law_telling) _ ["j"] ["script", "k"] from ⟨rfl, by decide +kernel, by decide +kernel, by decide +kernel, by decide +kernel, by decide +kernel⟩) (i_r1 rfl (z 6 _ rfl) (q_callK h_law_draw (hr.mono (by decide)) (q_cons (q_fz (q_var 0)) (q_cons (q_fz (q_addQ (q_var 1) q_int)) (q_cons q_int q_nil))))) (fun cl C s₂ H₂ fp => ⟨(g_nm 0 (show (["j", "script", "k"] : List Str).Nodup by decide +kernel)), f_nil, (q_callK h_law_number (hr.mono (by decide)) (q_cons (q_fz (q_var 1)) (q_cons (q_fz (q_addQ (q_addQ (q_var 2) q_int) (q_mul q_int (q_var 0)))) q_nil)))⟩)) q_nil)))
    (s_cons (s_set 6 sc_law_telling.nd (q_ix (q_lst (q_cons q_str (q_cons q_str q_nil))) (q_callK h_law_draw (hr.mono (by decide)) (q_cons (q_fz (q_var 0)) (q_cons (q_fz (q_addQ (q_var 1) q_int)) (q_cons q_int q_nil))))))
    (s_one (s_ret (q_tup (q_cons (q_var 6) (q_cons (q_callK h_law_name (hr.mono (by decide)) (q_cons (q_fz (q_var 0)) (q_cons (q_fz (q_addQ (q_var 1) q_int)) q_nil))) (q_cons (q_var 5) (q_cons (q_var 2) (q_cons (q_var 3) q_nil))))))))))))))))
theorem k_law_end (z : Zs mg) (d : DefAt K mg "_law_end" st_law_end ["end"])  : Kept P w K mg base 1 "_law_end" ["end"] m_law_end :=
  okP (k := 0) d sc_law_end fun f cdv A outer s H E hr =>
    (s_cons (s_if (t_isN (q_var 0))
    (s_one (s_ret q_str))
    s_nil)
    (s_one (s_ret (q_strc rfl (z 1 _ rfl) (q_cons (q_var 0) q_nil)))))
theorem k_law_written (z : Zs mg) (d : DefAt K mg "_law_written" st_law_written ["turn", "telling"]) (h_law_end : Kept P w K mg base 1 "_law_end" ["end"] m_law_end) : Kept P w K mg base 2 "_law_written" ["turn", "telling"] m_law_written :=
  okP (k := 1) d sc_law_written fun f cdv A outer s H E hr =>
    (s_cons (s_set 2 sc_law_written.nd (q_lst (q_cons (q_ix (q_var 1) q_int) (q_cons (q_strc rfl (z 1 _ rfl) (q_cons (q_var 0) q_nil)) (q_cons (q_ix (q_var 1) q_int) (q_cons (q_callK h_law_end (hr.mono (by decide)) (q_cons (q_fz (q_ix (q_var 1) q_int)) q_nil)) (q_cons (q_callK h_law_end (hr.mono (by decide)) (q_cons (q_fz (q_ix (q_var 1) q_int)) q_nil)) q_nil)))))))
    (s_cons (s_for rfl (i_seq (q_ix (q_var 1) q_int)) (g_nm 3 sc_law_written.nd)
    (s_one (s_expr (q_app (q_var 2) (q_cons (q_strc rfl (z 1 _ rfl) (q_cons (q_var 3) q_nil)) q_nil)))) PassesOwn.never)
    (s_one (s_ret (q_join q_str (q_addQ (q_var 2) (q_lst (q_cons q_str q_nil))))))))
theorem k_law_alike (z : Zs mg) (d : DefAt K mg "_law_alike" st_law_alike ["told", "turn", "telling"]) (h_law_tuple : Kept P w K mg base 2 "_law_tuple" ["told", "due"] m_law_tuple) (h_law_whole : Kept P w K mg base 1 "_law_whole" ["some"] m_law_whole) : Kept P w K mg base 3 "_law_alike" ["told", "turn", "telling"] m_law_alike :=
  okP (k := 2) d sc_law_alike fun f cdv A outer s H E hr =>
    (s_cons (s_if (t_w (w_or (t_not (t_tru (q_isi kinds_tuple rfl (z 0 _ rfl) rfl (z 5 _ rfl) boot_tuple' (q_var 0)))) (w_or (t_ne hr.units (q_len rfl (z 3 _ rfl) (q_cons (q_var 0) q_nil)) q_int) (w_or (t_not (t_tru (q_callK h_law_whole (hr.mono (by decide)) (q_cons (q_fz (q_ix (q_var 0) q_int)) q_nil)))) (w_or1 (t_ne hr.units (q_ix (q_var 0) q_int) (q_var 1)))))))
    (s_one (s_ret q_bl))
    s_nil)
    (s_cons (s_set 3 sc_law_alike.nd (q_ix (q_var 0) q_int))
    (s_cons (s_if (t_w (w_or (t_not (t_tru (q_isi kinds_tuple rfl (z 0 _ rfl) rfl (z 5 _ rfl) boot_tuple' (q_var 3)))) (w_or (t_ne hr.units (q_len rfl (z 3 _ rfl) (q_cons (q_var 3) q_nil)) q_int) (w_or1 (t_ne hr.units (q_sl (q_var 3) q_oN (q_oS q_int)) (q_sl (q_var 2) q_oN (q_oS q_int)))))))
    (s_one (s_ret q_bl))
    s_nil)
    (s_cons (s_if (t_not (t_tru (q_callK h_law_tuple (hr.mono (by decide)) (q_cons (q_fz (q_ix (q_var 3) q_int)) (q_cons (q_fz (q_ix (q_var 2) q_int)) q_nil)))))
    (s_one (s_ret q_bl))
    s_nil)
    (s_cons (s_for rfl (i_seq (q_sl (q_var 3) (q_oS q_int) q_oN)) (g_nm 4 sc_law_alike.nd)
    (s_one (s_if (t_w (w_and (t_notN (q_var 4)) (w_and1 (t_not (t_tru (q_callK h_law_whole (hr.mono (by decide)) (q_cons (q_fz (q_var 4)) q_nil)))))))
    (s_one (s_ret q_bl))
    s_nil)) PassesOwn.never)
    (s_one (s_ret (q_eq hr.units (q_sl (q_var 3) (q_oS q_int) q_oN) (q_sl (q_var 2) (q_oS q_int) q_oN)))))))))
theorem k_law {f : Addr} {fd : FuncData} (z : Zs mg) (F : Fun K "law" "law" st_law f fd) (h_law_telling : Kept P w K mg base 4 "_law_telling" ["script", "k"] m_law_telling) (h_law_written : Kept P w K mg base 2 "_law_written" ["turn", "telling"] m_law_written) (h_write_telling : Kept P w K mg base 3 "write_telling" ["turn", "telling"] m_write_telling) (h_read_telling : Kept P w K mg base 4 "read_telling" ["text"] m_read_telling) (h_law_draw : Kept P w K mg base 1 "_law_draw" ["script", "k", "many"] m_law_draw) (h_law_far : Kept P w K mg base 2 "_law_far" ["script", "k"] m_law_far) (h_law_alike : Kept P w K mg base 3 "_law_alike" ["told", "turn", "telling"] m_law_alike) : FnOk P w K mg base CX0 5 f fd ["script"] (spP K 1 m_law) :=
  funOkP (k := 4) F sc_law fun cdv A outer s H E hr =>
    (s_cons (s_for rfl (i_r1 rfl (z 6 _ rfl) (q_min rfl rfl (z 8 _ rfl) (q_cons (q_len rfl (z 3 _ rfl) (q_cons (q_var 0) q_nil)) (q_cons q_int q_nil)))) (g_nm 1 sc_law.nd)
    (s_cons (s_set 2 sc_law.nd (q_callK h_law_telling (hr.mono (by decide)) (q_cons (q_fz (q_var 0)) (q_cons (q_fz (q_mul q_int (q_var 1))) q_nil))))
    (s_cons (s_set 3 sc_law.nd (q_addQ q_int (q_callK h_law_draw (hr.mono (by decide)) (q_cons (q_fz (q_var 0)) (q_cons (q_fz (q_var 1)) (q_cons q_int q_nil))))))
    (s_cons (s_if (t_eq hr.units (q_callK h_law_draw (hr.mono (by decide)) (q_cons (q_fz (q_var 0)) (q_cons (q_fz (q_addQ (q_var 1) q_int)) (q_cons q_int q_nil)))) q_int)
    (s_one (s_set 3 sc_law.nd (q_addQ q_int (q_callK h_law_far (hr.mono (by decide)) (q_cons (q_fz (q_var 0)) (q_cons (q_fz (q_var 1)) q_nil))))))
    s_nil)
    (s_cons (s_set 4 sc_law.nd (q_callK h_law_written (hr.mono (by decide)) (q_cons (q_fz (q_var 3)) (q_cons (q_fz (q_var 2)) q_nil))))
    (s_cons (s_set 5 sc_law.nd (q_callK h_write_telling (hr.mono (by decide)) (q_cons (q_fz (q_var 3)) (q_cons (q_fz (q_var 2)) q_nil))))
    (s_one (s_if (t_w (w_or (t_not (t_tru (q_isi kinds_str rfl (z 0 _ rfl) rfl (z 1 _ rfl) boot_str' (q_var 5)))) (w_or (t_ne hr.units (q_var 5) (q_var 4)) (w_or1 (t_not (t_tru (q_callK h_law_alike (hr.mono (by decide)) (q_cons (q_fz (q_callK h_read_telling (hr.mono (by decide)) (q_cons (q_fz (q_var 4)) q_nil))) (q_cons (q_fz (q_var 3)) (q_cons (q_fz (q_var 2)) q_nil))))))))))
    (s_one (s_ret q_bl))
    s_nil))))))) PassesOwn.never)
    (s_one (s_ret (q_eq hr.units (q_callK h_read_telling (hr.mono (by decide)) (q_cons q_str q_nil)) (q_tup (q_cons q_int (q_cons (q_tup (q_cons q_str (q_cons q_str (q_cons (q_tup q_nil) (q_cons q_non (q_cons q_non q_nil)))))) q_nil)))))))
end
set_option maxHeartbeats 4000000 in
theorem all_mk {l : PySem.W.OpenLaw} {w : World} {K : PySem.W.Frag} {h : Heap} {mg : Str → Option Value} {fa f0 f1 f2 f3 f4 f5 f6 f7 f8 f9 f10 f11 f12 f13 f14 f15 f16 f17 f18 f19 f20 f21 f22 f23 : Addr} (X : K.In h) (G : h.Ns mainGlobals mg) (hfa : mg "law" = some (.ref fa)) {od0 an0 od1 an1 od2 an2 od3 an3 od4 an4 od5 an5 od6 an6 od7 an7 od8 an8 od9 an9 od10 an10 od11 an11 od12 an12 od13 an13 od14 an14 od15 an15 od16 an16 od17 an17 od18 an18 od19 an19 od20 an20 od21 an21 od22 an22 od23 an23 : Option Addr} {sl0 sl1 sl2 sl3 sl4 sl5 sl6 sl7 sl8 sl9 sl10 sl11 sl12 sl13 sl14 sl15 sl16 sl17 sl18 sl19 sl20 sl21 sl22 sl23 : Array (Option Value)} {oc0 kV0 dc0 pm0 cd0 ct0 oc1 kV1 dc1 pm1 cd1 ct1 oc2 kV2 dc2 pm2 cd2 ct2 oc3 kV3 dc3 pm3 cd3 ct3 oc4 kV4 dc4 pm4 cd4 ct4 oc5 kV5 dc5 pm5 cd5 ct5 oc6 kV6 dc6 pm6 cd6 ct6 oc7 kV7 dc7 pm7 cd7 ct7 oc8 kV8 dc8 pm8 cd8 ct8 oc9 kV9 dc9 pm9 cd9 ct9 oc10 kV10 dc10 pm10 cd10 ct10 oc11 kV11 dc11 pm11 cd11 ct11 oc12 kV12 dc12 pm12 cd12 ct12 oc13 kV13 dc13 pm13 cd13 ct13 oc14 kV14 dc14 pm14 cd14 ct14 oc15 kV15 dc15 pm15 cd15 ct15 oc16 kV16 dc16 pm16 cd16 ct16 oc17 kV17 dc17 pm17 cd17 ct17 oc18 kV18 dc18 pm18 cd18 ct18 oc19 kV19 dc19 pm19 cd19 ct19 oc20 kV20 dc20 pm20 cd20 ct20 oc21 kV21 dc21 pm21 cd21 ct21 oc22 kV22 dc22 pm22 cd22 ct22 oc23 kV23 dc23 pm23 cd23 ct23 : Value}
    (a0 : PySem.W.nsIn K mainGlobals "stretch_of" = some (some (.ref f0))) (l0 : K.lookup f0 = some ⟨oc0, od0, .func (PySem.W.fnOf "stretch_of" "stretch_of" (defArgs st_stretch_of) (defBody st_stretch_of) (defScope st_stretch_of) .none kV0 dc0 pm0 an0 cd0 ct0), sl0⟩) (c0 : PySem.W.codeIn K cd0 "stretch_of" = true) (k0 : PySem.W.keepIn K (.ref f0) = true)
    (a1 : PySem.W.nsIn K mainGlobals "check_text" = some (some (.ref f1))) (l1 : K.lookup f1 = some ⟨oc1, od1, .func (PySem.W.fnOf "check_text" "check_text" (defArgs st_check_text) (defBody st_check_text) (defScope st_check_text) .none kV1 dc1 pm1 an1 cd1 ct1), sl1⟩) (c1 : PySem.W.codeIn K cd1 "check_text" = true) (k1 : PySem.W.keepIn K (.ref f1) = true)
    (a2 : PySem.W.nsIn K mainGlobals "is_made_of" = some (some (.ref f2))) (l2 : K.lookup f2 = some ⟨oc2, od2, .func (PySem.W.fnOf "is_made_of" "is_made_of" (defArgs st_is_made_of) (defBody st_is_made_of) (defScope st_is_made_of) .none kV2 dc2 pm2 an2 cd2 ct2), sl2⟩) (c2 : PySem.W.codeIn K cd2 "is_made_of" = true) (k2 : PySem.W.keepIn K (.ref f2) = true)
    (a3 : PySem.W.nsIn K mainGlobals "write_number" = some (some (.ref f3))) (l3 : K.lookup f3 = some ⟨oc3, od3, .func (PySem.W.fnOf "write_number" "write_number" (defArgs st_write_number) (defBody st_write_number) (defScope st_write_number) .none kV3 dc3 pm3 an3 cd3 ct3), sl3⟩) (c3 : PySem.W.codeIn K cd3 "write_number" = true) (k3 : PySem.W.keepIn K (.ref f3) = true)
    (a4 : PySem.W.nsIn K mainGlobals "read_number" = some (some (.ref f4))) (l4 : K.lookup f4 = some ⟨oc4, od4, .func (PySem.W.fnOf "read_number" "read_number" (defArgs st_read_number) (defBody st_read_number) (defScope st_read_number) .none kV4 dc4 pm4 an4 cd4 ct4), sl4⟩) (c4 : PySem.W.codeIn K cd4 "read_number" = true) (k4 : PySem.W.keepIn K (.ref f4) = true)
    (a5 : PySem.W.nsIn K mainGlobals "read_number_from" = some (some (.ref f5))) (l5 : K.lookup f5 = some ⟨oc5, od5, .func (PySem.W.fnOf "read_number_from" "read_number_from" (defArgs st_read_number_from) (defBody st_read_number_from) (defScope st_read_number_from) .none kV5 dc5 pm5 an5 cd5 ct5), sl5⟩) (c5 : PySem.W.codeIn K cd5 "read_number_from" = true) (k5 : PySem.W.keepIn K (.ref f5) = true)
    (a6 : PySem.W.nsIn K mainGlobals "write_numbers" = some (some (.ref f6))) (l6 : K.lookup f6 = some ⟨oc6, od6, .func (PySem.W.fnOf "write_numbers" "write_numbers" (defArgs st_write_numbers) (defBody st_write_numbers) (defScope st_write_numbers) .none kV6 dc6 pm6 an6 cd6 ct6), sl6⟩) (c6 : PySem.W.codeIn K cd6 "write_numbers" = true) (k6 : PySem.W.keepIn K (.ref f6) = true)
    (a7 : PySem.W.nsIn K mainGlobals "write_end" = some (some (.ref f7))) (l7 : K.lookup f7 = some ⟨oc7, od7, .func (PySem.W.fnOf "write_end" "write_end" (defArgs st_write_end) (defBody st_write_end) (defScope st_write_end) .none kV7 dc7 pm7 an7 cd7 ct7), sl7⟩) (c7 : PySem.W.codeIn K cd7 "write_end" = true) (k7 : PySem.W.keepIn K (.ref f7) = true)
    (a8 : PySem.W.nsIn K mainGlobals "read_end" = some (some (.ref f8))) (l8 : K.lookup f8 = some ⟨oc8, od8, .func (PySem.W.fnOf "read_end" "read_end" (defArgs st_read_end) (defBody st_read_end) (defScope st_read_end) .none kV8 dc8 pm8 an8 cd8 ct8), sl8⟩) (c8 : PySem.W.codeIn K cd8 "read_end" = true) (k8 : PySem.W.keepIn K (.ref f8) = true)
    (a9 : PySem.W.nsIn K mainGlobals "read_letters" = some (some (.ref f9))) (l9 : K.lookup f9 = some ⟨oc9, od9, .func (PySem.W.fnOf "read_letters" "read_letters" (defArgs st_read_letters) (defBody st_read_letters) (defScope st_read_letters) .none kV9 dc9 pm9 an9 cd9 ct9), sl9⟩) (c9 : PySem.W.codeIn K cd9 "read_letters" = true) (k9 : PySem.W.keepIn K (.ref f9) = true)
    (a10 : PySem.W.nsIn K mainGlobals "words_of" = some (some (.ref f10))) (l10 : K.lookup f10 = some ⟨oc10, od10, .func (PySem.W.fnOf "words_of" "words_of" (defArgs st_words_of) (defBody st_words_of) (defScope st_words_of) .none kV10 dc10 pm10 an10 cd10 ct10), sl10⟩) (c10 : PySem.W.codeIn K cd10 "words_of" = true) (k10 : PySem.W.keepIn K (.ref f10) = true)
    (a11 : PySem.W.nsIn K mainGlobals "write_telling" = some (some (.ref f11))) (l11 : K.lookup f11 = some ⟨oc11, od11, .func (PySem.W.fnOf "write_telling" "write_telling" (defArgs st_write_telling) (defBody st_write_telling) (defScope st_write_telling) .none kV11 dc11 pm11 an11 cd11 ct11), sl11⟩) (c11 : PySem.W.codeIn K cd11 "write_telling" = true) (k11 : PySem.W.keepIn K (.ref f11) = true)
    (a12 : PySem.W.nsIn K mainGlobals "read_telling" = some (some (.ref f12))) (l12 : K.lookup f12 = some ⟨oc12, od12, .func (PySem.W.fnOf "read_telling" "read_telling" (defArgs st_read_telling) (defBody st_read_telling) (defScope st_read_telling) .none kV12 dc12 pm12 an12 cd12 ct12), sl12⟩) (c12 : PySem.W.codeIn K cd12 "read_telling" = true) (k12 : PySem.W.keepIn K (.ref f12) = true)
    (a13 : PySem.W.nsIn K mainGlobals "_law_draw" = some (some (.ref f13))) (l13 : K.lookup f13 = some ⟨oc13, od13, .func (PySem.W.fnOf "_law_draw" "_law_draw" (defArgs st_law_draw) (defBody st_law_draw) (defScope st_law_draw) .none kV13 dc13 pm13 an13 cd13 ct13), sl13⟩) (c13 : PySem.W.codeIn K cd13 "_law_draw" = true) (k13 : PySem.W.keepIn K (.ref f13) = true)
    (a14 : PySem.W.nsIn K mainGlobals "_law_far" = some (some (.ref f14))) (l14 : K.lookup f14 = some ⟨oc14, od14, .func (PySem.W.fnOf "_law_far" "_law_far" (defArgs st_law_far) (defBody st_law_far) (defScope st_law_far) .none kV14 dc14 pm14 an14 cd14 ct14), sl14⟩) (c14 : PySem.W.codeIn K cd14 "_law_far" = true) (k14 : PySem.W.keepIn K (.ref f14) = true)
    (a15 : PySem.W.nsIn K mainGlobals "_law_name" = some (some (.ref f15))) (l15 : K.lookup f15 = some ⟨oc15, od15, .func (PySem.W.fnOf "_law_name" "_law_name" (defArgs st_law_name) (defBody st_law_name) (defScope st_law_name) .none kV15 dc15 pm15 an15 cd15 ct15), sl15⟩) (c15 : PySem.W.codeIn K cd15 "_law_name" = true) (k15 : PySem.W.keepIn K (.ref f15) = true)
    (a16 : PySem.W.nsIn K mainGlobals "_law_number" = some (some (.ref f16))) (l16 : K.lookup f16 = some ⟨oc16, od16, .func (PySem.W.fnOf "_law_number" "_law_number" (defArgs st_law_number) (defBody st_law_number) (defScope st_law_number) .none kV16 dc16 pm16 an16 cd16 ct16), sl16⟩) (c16 : PySem.W.codeIn K cd16 "_law_number" = true) (k16 : PySem.W.keepIn K (.ref f16) = true)
    (a17 : PySem.W.nsIn K mainGlobals "_law_whole" = some (some (.ref f17))) (l17 : K.lookup f17 = some ⟨oc17, od17, .func (PySem.W.fnOf "_law_whole" "_law_whole" (defArgs st_law_whole) (defBody st_law_whole) (defScope st_law_whole) .none kV17 dc17 pm17 an17 cd17 ct17), sl17⟩) (c17 : PySem.W.codeIn K cd17 "_law_whole" = true) (k17 : PySem.W.keepIn K (.ref f17) = true)
    (a18 : PySem.W.nsIn K mainGlobals "_law_tuple" = some (some (.ref f18))) (l18 : K.lookup f18 = some ⟨oc18, od18, .func (PySem.W.fnOf "_law_tuple" "_law_tuple" (defArgs st_law_tuple) (defBody st_law_tuple) (defScope st_law_tuple) .none kV18 dc18 pm18 an18 cd18 ct18), sl18⟩) (c18 : PySem.W.codeIn K cd18 "_law_tuple" = true) (k18 : PySem.W.keepIn K (.ref f18) = true)
    (a19 : PySem.W.nsIn K mainGlobals "_law_telling" = some (some (.ref f19))) (l19 : K.lookup f19 = some ⟨oc19, od19, .func (PySem.W.fnOf "_law_telling" "_law_telling" (defArgs st_law_telling) (defBody st_law_telling) (defScope st_law_telling) .none kV19 dc19 pm19 an19 cd19 ct19), sl19⟩) (c19 : PySem.W.codeIn K cd19 "_law_telling" = true) (k19 : PySem.W.keepIn K (.ref f19) = true)
    (a20 : PySem.W.nsIn K mainGlobals "_law_end" = some (some (.ref f20))) (l20 : K.lookup f20 = some ⟨oc20, od20, .func (PySem.W.fnOf "_law_end" "_law_end" (defArgs st_law_end) (defBody st_law_end) (defScope st_law_end) .none kV20 dc20 pm20 an20 cd20 ct20), sl20⟩) (c20 : PySem.W.codeIn K cd20 "_law_end" = true) (k20 : PySem.W.keepIn K (.ref f20) = true)
    (a21 : PySem.W.nsIn K mainGlobals "_law_written" = some (some (.ref f21))) (l21 : K.lookup f21 = some ⟨oc21, od21, .func (PySem.W.fnOf "_law_written" "_law_written" (defArgs st_law_written) (defBody st_law_written) (defScope st_law_written) .none kV21 dc21 pm21 an21 cd21 ct21), sl21⟩) (c21 : PySem.W.codeIn K cd21 "_law_written" = true) (k21 : PySem.W.keepIn K (.ref f21) = true)
    (a22 : PySem.W.nsIn K mainGlobals "_law_alike" = some (some (.ref f22))) (l22 : K.lookup f22 = some ⟨oc22, od22, .func (PySem.W.fnOf "_law_alike" "_law_alike" (defArgs st_law_alike) (defBody st_law_alike) (defScope st_law_alike) .none kV22 dc22 pm22 an22 cd22 ct22), sl22⟩) (c22 : PySem.W.codeIn K cd22 "_law_alike" = true) (k22 : PySem.W.keepIn K (.ref f22) = true)
    (a23 : PySem.W.nsIn K mainGlobals "law" = some (some (.ref f23))) (l23 : K.lookup f23 = some ⟨oc23, od23, .func (PySem.W.fnOf "law" "law" (defArgs st_law) (defBody st_law) (defScope st_law) .none kV23 dc23 pm23 an23 cd23 ct23), sl23⟩) (c23 : PySem.W.codeIn K cd23 "law" = true) (k23 : PySem.W.keepIn K (.ref f23) = true)
    {qNO_NUMBERS : Addr} {qnNO_NUMBERS : Nat} {qsNO_NUMBERS : Array (Option Value)} {qNO_NUMBERS_1 : Addr} {qnNO_NUMBERS_1 : Nat} {qsNO_NUMBERS_1 : Array (Option Value)} {qALL_NUMBERS : Addr} {qnALL_NUMBERS : Nat} {qsALL_NUMBERS : Array (Option Value)} {qALL_NUMBERS_1 : Addr} {qnALL_NUMBERS_1 : Nat} {qsALL_NUMBERS_1 : Array (Option Value)} {tkFIGURES : Tok} {tkMOST_FIGURES : Tok} {tkSMALL_LETTERS : Tok} {tkMOST_LETTERS : Tok} (gNO_NUMBERS : PySem.W.nsIn K mainGlobals "NO_NUMBERS" = some (some (.ref qNO_NUMBERS))) (LNO_NUMBERS : K.lookup qNO_NUMBERS = some ⟨.type "tuple", none, .seq ([(.bool false), (.ref qNO_NUMBERS_1)] : List Value).toArray qnNO_NUMBERS, qsNO_NUMBERS⟩) (LNO_NUMBERS_1 : K.lookup qNO_NUMBERS_1 = some ⟨.type "tuple", none, .seq ([] : List Value).toArray qnNO_NUMBERS_1, qsNO_NUMBERS_1⟩) (gALL_NUMBERS : PySem.W.nsIn K mainGlobals "ALL_NUMBERS" = some (some (.ref qALL_NUMBERS))) (LALL_NUMBERS : K.lookup qALL_NUMBERS = some ⟨.type "tuple", none, .seq ([(.bool true), (.ref qALL_NUMBERS_1)] : List Value).toArray qnALL_NUMBERS, qsALL_NUMBERS⟩) (LALL_NUMBERS_1 : K.lookup qALL_NUMBERS_1 = some ⟨.type "tuple", none, .seq ([] : List Value).toArray qnALL_NUMBERS_1, qsALL_NUMBERS_1⟩) (gFIGURES : PySem.W.nsIn K mainGlobals "FIGURES" = some (some (.str "0123456789" tkFIGURES))) (gMOST_FIGURES : PySem.W.nsIn K mainGlobals "MOST_FIGURES" = some (some (.int (60) tkMOST_FIGURES))) (gSMALL_LETTERS : PySem.W.nsIn K mainGlobals "SMALL_LETTERS" = some (some (.str "abcdefghijklmnopqrstuvwxyz" tkSMALL_LETTERS))) (gMOST_LETTERS : PySem.W.nsIn K mainGlobals "MOST_LETTERS" = some (some (.int (8) tkMOST_LETTERS))) (z0 : PySem.W.nsIn K mainGlobals "isinstance" = some none) (z1 : PySem.W.nsIn K mainGlobals "str" = some none) (z2 : PySem.W.nsIn K mainGlobals "all" = some none) (z3 : PySem.W.nsIn K mainGlobals "len" = some none) (z4 : PySem.W.nsIn K mainGlobals "int" = some none) (z5 : PySem.W.nsIn K mainGlobals "tuple" = some none) (z6 : PySem.W.nsIn K mainGlobals "range" = some none) (z7 : PySem.W.nsIn K mainGlobals "bool" = some none) (z8 : PySem.W.nsIn K mainGlobals "min" = some none) :
    ∃ fd : FuncData, (∀ (s : Shared) (v : Value), BindsTo s fd ⟨[v], []⟩ [("script", v)]) ∧ ∀ base : Heap, K.In base → base.Ns mainGlobals mg → FnOk l.prog w K mg base CX0 5 fa fd ["script"] (spP K 1 m_law) := by
  have e := hfa.symm.trans (PySem.W.mg_of X G a23)
  cases e
  have z : Zs mg := fun i x e => by
    unfold zs at e
    match i, e with
    | 0, e => cases e; exact PySem.W.mg_none_of X G z0
    | 1, e => cases e; exact PySem.W.mg_none_of X G z1
    | 2, e => cases e; exact PySem.W.mg_none_of X G z2
    | 3, e => cases e; exact PySem.W.mg_none_of X G z3
    | 4, e => cases e; exact PySem.W.mg_none_of X G z4
    | 5, e => cases e; exact PySem.W.mg_none_of X G z5
    | 6, e => cases e; exact PySem.W.mg_none_of X G z6
    | 7, e => cases e; exact PySem.W.mg_none_of X G z7
    | 8, e => cases e; exact PySem.W.mg_none_of X G z8
    | n + 9, e => simp at e
  have c_NO_NUMBERS : ConstR K mg "NO_NUMBERS" (.tup [(.bl false), (.tup [])]) := const_of (PySem.W.mg_of X G gNO_NUMBERS) (cr_tup LNO_NUMBERS (show 2 ≤ sizeLine by decide) (crs_cons cr_bl (crs_cons (cr_tup LNO_NUMBERS_1 (show 0 ≤ sizeLine by decide) crs_nil) crs_nil)))
  have c_ALL_NUMBERS : ConstR K mg "ALL_NUMBERS" (.tup [(.bl true), (.tup [])]) := const_of (PySem.W.mg_of X G gALL_NUMBERS) (cr_tup LALL_NUMBERS (show 2 ≤ sizeLine by decide) (crs_cons cr_bl (crs_cons (cr_tup LALL_NUMBERS_1 (show 0 ≤ sizeLine by decide) crs_nil) crs_nil)))
  have c_FIGURES : ConstR K mg "FIGURES" (.str "0123456789") := const_of (PySem.W.mg_of X G gFIGURES) cr_str
  have c_MOST_FIGURES : ConstR K mg "MOST_FIGURES" (.int (60)) := const_of (PySem.W.mg_of X G gMOST_FIGURES) cr_int
  have c_SMALL_LETTERS : ConstR K mg "SMALL_LETTERS" (.str "abcdefghijklmnopqrstuvwxyz") := const_of (PySem.W.mg_of X G gSMALL_LETTERS) cr_str
  have c_MOST_LETTERS : ConstR K mg "MOST_LETTERS" (.int (8)) := const_of (PySem.W.mg_of X G gMOST_LETTERS) cr_int
  have F0 := fun_mk (st := st_stretch_of) l0 c0 k0
  have d_stretch_of : DefAt K mg "stretch_of" st_stretch_of ["low", "high"] := ⟨_, _, F0, F0.binds (ps := ["low", "high"]) (fun _ _ _ _ _ _ us hl => match us, hl with | [_, _], _ => rfl), PySem.W.mg_of X G a0⟩
  have F1 := fun_mk (st := st_check_text) l1 c1 k1
  have d_check_text : DefAt K mg "check_text" st_check_text ["thing"] := ⟨_, _, F1, F1.binds (ps := ["thing"]) (fun _ _ _ _ _ _ us hl => match us, hl with | [_], _ => rfl), PySem.W.mg_of X G a1⟩
  have F2 := fun_mk (st := st_is_made_of) l2 c2 k2
  have d_is_made_of : DefAt K mg "is_made_of" st_is_made_of ["text", "signs", "most"] := ⟨_, _, F2, F2.binds (ps := ["text", "signs", "most"]) (fun _ _ _ _ _ _ us hl => match us, hl with | [_, _, _], _ => rfl), PySem.W.mg_of X G a2⟩
  have F3 := fun_mk (st := st_write_number) l3 c3 k3
  have d_write_number : DefAt K mg "write_number" st_write_number ["number"] := ⟨_, _, F3, F3.binds (ps := ["number"]) (fun _ _ _ _ _ _ us hl => match us, hl with | [_], _ => rfl), PySem.W.mg_of X G a3⟩
  have F4 := fun_mk (st := st_read_number) l4 c4 k4
  have d_read_number : DefAt K mg "read_number" st_read_number ["text"] := ⟨_, _, F4, F4.binds (ps := ["text"]) (fun _ _ _ _ _ _ us hl => match us, hl with | [_], _ => rfl), PySem.W.mg_of X G a4⟩
  have F5 := fun_mk (st := st_read_number_from) l5 c5 k5
  have d_read_number_from : DefAt K mg "read_number_from" st_read_number_from ["text", "least"] := ⟨_, _, F5, F5.binds (ps := ["text", "least"]) (fun _ _ _ _ _ _ us hl => match us, hl with | [_, _], _ => rfl), PySem.W.mg_of X G a5⟩
  have F6 := fun_mk (st := st_write_numbers) l6 c6 k6
  have d_write_numbers : DefAt K mg "write_numbers" st_write_numbers ["numbers"] := ⟨_, _, F6, F6.binds (ps := ["numbers"]) (fun _ _ _ _ _ _ us hl => match us, hl with | [_], _ => rfl), PySem.W.mg_of X G a6⟩
  have F7 := fun_mk (st := st_write_end) l7 c7 k7
  have d_write_end : DefAt K mg "write_end" st_write_end ["end"] := ⟨_, _, F7, F7.binds (ps := ["end"]) (fun _ _ _ _ _ _ us hl => match us, hl with | [_], _ => rfl), PySem.W.mg_of X G a7⟩
  have F8 := fun_mk (st := st_read_end) l8 c8 k8
  have d_read_end : DefAt K mg "read_end" st_read_end ["text"] := ⟨_, _, F8, F8.binds (ps := ["text"]) (fun _ _ _ _ _ _ us hl => match us, hl with | [_], _ => rfl), PySem.W.mg_of X G a8⟩
  have F9 := fun_mk (st := st_read_letters) l9 c9 k9
  have d_read_letters : DefAt K mg "read_letters" st_read_letters ["text"] := ⟨_, _, F9, F9.binds (ps := ["text"]) (fun _ _ _ _ _ _ us hl => match us, hl with | [_], _ => rfl), PySem.W.mg_of X G a9⟩
  have F10 := fun_mk (st := st_words_of) l10 c10 k10
  have d_words_of : DefAt K mg "words_of" st_words_of ["text"] := ⟨_, _, F10, F10.binds (ps := ["text"]) (fun _ _ _ _ _ _ us hl => match us, hl with | [_], _ => rfl), PySem.W.mg_of X G a10⟩
  have F11 := fun_mk (st := st_write_telling) l11 c11 k11
  have d_write_telling : DefAt K mg "write_telling" st_write_telling ["turn", "telling"] := ⟨_, _, F11, F11.binds (ps := ["turn", "telling"]) (fun _ _ _ _ _ _ us hl => match us, hl with | [_, _], _ => rfl), PySem.W.mg_of X G a11⟩
  have F12 := fun_mk (st := st_read_telling) l12 c12 k12
  have d_read_telling : DefAt K mg "read_telling" st_read_telling ["text"] := ⟨_, _, F12, F12.binds (ps := ["text"]) (fun _ _ _ _ _ _ us hl => match us, hl with | [_], _ => rfl), PySem.W.mg_of X G a12⟩
  have F13 := fun_mk (st := st_law_draw) l13 c13 k13
  have d_law_draw : DefAt K mg "_law_draw" st_law_draw ["script", "k", "many"] := ⟨_, _, F13, F13.binds (ps := ["script", "k", "many"]) (fun _ _ _ _ _ _ us hl => match us, hl with | [_, _, _], _ => rfl), PySem.W.mg_of X G a13⟩
  have F14 := fun_mk (st := st_law_far) l14 c14 k14
  have d_law_far : DefAt K mg "_law_far" st_law_far ["script", "k"] := ⟨_, _, F14, F14.binds (ps := ["script", "k"]) (fun _ _ _ _ _ _ us hl => match us, hl with | [_, _], _ => rfl), PySem.W.mg_of X G a14⟩
  have F15 := fun_mk (st := st_law_name) l15 c15 k15
  have d_law_name : DefAt K mg "_law_name" st_law_name ["script", "k"] := ⟨_, _, F15, F15.binds (ps := ["script", "k"]) (fun _ _ _ _ _ _ us hl => match us, hl with | [_, _], _ => rfl), PySem.W.mg_of X G a15⟩
  have F16 := fun_mk (st := st_law_number) l16 c16 k16
  have d_law_number : DefAt K mg "_law_number" st_law_number ["script", "k"] := ⟨_, _, F16, F16.binds (ps := ["script", "k"]) (fun _ _ _ _ _ _ us hl => match us, hl with | [_, _], _ => rfl), PySem.W.mg_of X G a16⟩
  have F17 := fun_mk (st := st_law_whole) l17 c17 k17
  have d_law_whole : DefAt K mg "_law_whole" st_law_whole ["some"] := ⟨_, _, F17, F17.binds (ps := ["some"]) (fun _ _ _ _ _ _ us hl => match us, hl with | [_], _ => rfl), PySem.W.mg_of X G a17⟩
  have F18 := fun_mk (st := st_law_tuple) l18 c18 k18
  have d_law_tuple : DefAt K mg "_law_tuple" st_law_tuple ["told", "due"] := ⟨_, _, F18, F18.binds (ps := ["told", "due"]) (fun _ _ _ _ _ _ us hl => match us, hl with | [_, _], _ => rfl), PySem.W.mg_of X G a18⟩
  have F19 := fun_mk (st := st_law_telling) l19 c19 k19
  have d_law_telling : DefAt K mg "_law_telling" st_law_telling ["script", "k"] := ⟨_, _, F19, F19.binds (ps := ["script", "k"]) (fun _ _ _ _ _ _ us hl => match us, hl with | [_, _], _ => rfl), PySem.W.mg_of X G a19⟩
  have F20 := fun_mk (st := st_law_end) l20 c20 k20
  have d_law_end : DefAt K mg "_law_end" st_law_end ["end"] := ⟨_, _, F20, F20.binds (ps := ["end"]) (fun _ _ _ _ _ _ us hl => match us, hl with | [_], _ => rfl), PySem.W.mg_of X G a20⟩
  have F21 := fun_mk (st := st_law_written) l21 c21 k21
  have d_law_written : DefAt K mg "_law_written" st_law_written ["turn", "telling"] := ⟨_, _, F21, F21.binds (ps := ["turn", "telling"]) (fun _ _ _ _ _ _ us hl => match us, hl with | [_, _], _ => rfl), PySem.W.mg_of X G a21⟩
  have F22 := fun_mk (st := st_law_alike) l22 c22 k22
  have d_law_alike : DefAt K mg "_law_alike" st_law_alike ["told", "turn", "telling"] := ⟨_, _, F22, F22.binds (ps := ["told", "turn", "telling"]) (fun _ _ _ _ _ _ us hl => match us, hl with | [_, _, _], _ => rfl), PySem.W.mg_of X G a22⟩
  have F23 := fun_mk (st := st_law) l23 c23 k23
  have d_law : DefAt K mg "law" st_law ["script"] := ⟨_, _, F23, F23.binds (ps := ["script"]) (fun _ _ _ _ _ _ us hl => match us, hl with | [_], _ => rfl), PySem.W.mg_of X G a23⟩
  refine ⟨PySem.W.fnOf "law" "law" (defArgs st_law) (defBody st_law) (defScope st_law) .none kV23 dc23 pm23 an23 cd23 ct23, fun s v => .of_eq rfl, fun base _ _ => ?_⟩
  have h_stretch_of := k_stretch_of (P := l.prog) (w := w) (base := base) z d_stretch_of c_NO_NUMBERS c_ALL_NUMBERS
  have h_check_text := k_check_text (P := l.prog) (w := w) (base := base) z d_check_text 
  have h_is_made_of := k_is_made_of (P := l.prog) (w := w) (base := base) z d_is_made_of 
  have h_write_number := k_write_number (P := l.prog) (w := w) (base := base) z d_write_number 
  have h_law_draw := k_law_draw (P := l.prog) (w := w) (base := base) z d_law_draw 
  have h_law_whole := k_law_whole (P := l.prog) (w := w) (base := base) z d_law_whole 
  have h_law_end := k_law_end (P := l.prog) (w := w) (base := base) z d_law_end 
  have h_read_number := k_read_number (P := l.prog) (w := w) (base := base) z d_read_number h_check_text h_is_made_of c_FIGURES c_MOST_FIGURES
  have h_write_numbers := k_write_numbers (P := l.prog) (w := w) (base := base) z d_write_numbers h_write_number
  have h_write_end := k_write_end (P := l.prog) (w := w) (base := base) z d_write_end h_write_number
  have h_read_letters := k_read_letters (P := l.prog) (w := w) (base := base) z d_read_letters h_is_made_of c_SMALL_LETTERS c_MOST_LETTERS
  have h_words_of := k_words_of (P := l.prog) (w := w) (base := base) z d_words_of h_check_text
  have h_law_far := k_law_far (P := l.prog) (w := w) (base := base) z d_law_far h_law_draw
  have h_law_name := k_law_name (P := l.prog) (w := w) (base := base) z d_law_name h_law_draw
  have h_law_tuple := k_law_tuple (P := l.prog) (w := w) (base := base) z d_law_tuple h_law_whole
  have h_law_written := k_law_written (P := l.prog) (w := w) (base := base) z d_law_written h_law_end
  have h_read_number_from := k_read_number_from (P := l.prog) (w := w) (base := base) z d_read_number_from h_read_number
  have h_read_end := k_read_end (P := l.prog) (w := w) (base := base) z d_read_end h_read_number
  have h_write_telling := k_write_telling (P := l.prog) (w := w) (base := base) z d_write_telling h_write_number h_write_end h_write_numbers
  have h_law_number := k_law_number (P := l.prog) (w := w) (base := base) z d_law_number h_law_draw h_law_far
  have h_law_alike := k_law_alike (P := l.prog) (w := w) (base := base) z d_law_alike h_law_tuple h_law_whole
  have h_read_telling := k_read_telling (P := l.prog) (w := w) (base := base) z d_read_telling h_words_of h_read_number_from h_read_letters h_read_end h_stretch_of h_read_number c_NO_NUMBERS
  have h_law_telling := k_law_telling (P := l.prog) (w := w) (base := base) z d_law_telling h_law_draw h_law_name h_law_far h_law_number
  exact k_law (P := l.prog) (w := w) (base := base) z F23 h_law_telling h_law_written h_write_telling h_read_telling h_law_draw h_law_far h_law_alike
end LW
namespace LW
open PySem HW
theorem u_stretch_of (a0 a1 : D) : m_stretch_of [a0, a1] = finO (b_stretch_of [some (.v a0), some (.v a1)] []) := rfl
theorem u_check_text (a0 : D) : m_check_text [a0] = finO (b_check_text [some (.v a0)] []) := rfl
theorem u_is_made_of (a0 a1 a2 : D) : m_is_made_of [a0, a1, a2] = finO (b_is_made_of [some (.v a0), some (.v a1), some (.v a2)] []) := rfl
theorem u_write_number (a0 : D) : m_write_number [a0] = finO (b_write_number [some (.v a0)] []) := rfl
theorem u_read_number (a0 : D) : m_read_number [a0] = finO (b_read_number [some (.v a0), none] []) := rfl
theorem u_read_number_from (a0 a1 : D) : m_read_number_from [a0, a1] = finO (b_read_number_from [some (.v a0), some (.v a1), none] []) := rfl
theorem u_write_numbers (a0 : D) : n_write_numbers [a0] = finNO (b_write_numbers [some (.v a0)] []) := rfl
theorem u_write_end (a0 : D) : m_write_end [a0] = finO (b_write_end [some (.v a0)] []) := rfl
theorem u_read_end (a0 : D) : m_read_end [a0] = finO (b_read_end [some (.v a0)] []) := rfl
theorem u_read_letters (a0 : D) : m_read_letters [a0] = finO (b_read_letters [some (.v a0)] []) := rfl
theorem u_words_of (a0 : D) : m_words_of [a0] = finO (b_words_of [some (.v a0)] []) := rfl
theorem u_write_telling (a0 a1 : D) : m_write_telling [a0, a1] = finO (b_write_telling [some (.v a0), some (.v a1), none] []) := rfl
theorem u_read_telling (a0 : D) : m_read_telling [a0] = finO (b_read_telling [some (.v a0), none, none, none, none, none, none] []) := rfl
theorem u_law_draw (a0 a1 a2 : D) : m_law_draw [a0, a1, a2] = finO (b_law_draw [some (.v a0), some (.v a1), some (.v a2), none, none] []) := rfl
theorem u_law_far (a0 a1 : D) : m_law_far [a0, a1] = finO (b_law_far [some (.v a0), some (.v a1), none] []) := rfl
theorem u_law_name (a0 a1 : D) : m_law_name [a0, a1] = finO (b_law_name [some (.v a0), some (.v a1), none, none] []) := rfl
theorem u_law_number (a0 a1 : D) : m_law_number [a0, a1] = finO (b_law_number [some (.v a0), some (.v a1), none] []) := rfl
theorem u_law_whole (a0 : D) : m_law_whole [a0] = finO (b_law_whole [some (.v a0)] []) := rfl
theorem u_law_tuple (a0 a1 : D) : m_law_tuple [a0, a1] = finO (b_law_tuple [some (.v a0), some (.v a1), none] []) := rfl
theorem u_law_telling (a0 a1 : D) : m_law_telling [a0, a1] = finO (b_law_telling [some (.v a0), some (.v a1), none, none, none, none, none] []) := rfl
theorem u_law_end (a0 : D) : m_law_end [a0] = finO (b_law_end [some (.v a0)] []) := rfl
theorem u_law_written (a0 a1 : D) : m_law_written [a0, a1] = finO (b_law_written [some (.v a0), some (.v a1), none, none] []) := rfl
theorem u_law_alike (a0 a1 a2 : D) : m_law_alike [a0, a1, a2] = finO (b_law_alike [some (.v a0), some (.v a1), some (.v a2), none, none] []) := rfl
theorem u_law (a0 : D) : m_law [a0] = finO (b_law [some (.v a0), none, none, none, none, none] []) := rfl
end LW
namespace HW
open PySem L2
abbrev Tx (l : List Nat) : Str := ⟨l.toArray⟩
theorem tx_len {l : List Nat} : (Tx l).length = l.length := by simp [Str.length]
theorem tx_ne {l r : List Nat} : (Tx l == Tx r) = (l == r) := by
  rw [Bool.eq_iff_iff, beq_iff_eq, beq_iff_eq]
  exact ⟨fun e => by injection e with e; injection e, fun e => by rw [e]⟩
theorem tx_of (x : Str) : x = Tx x.cps.toList := by cases x; simp [Tx]
theorem tx_fig : (Str.ofString "0123456789") = Tx [48, 49, 50, 51, 52, 53, 54, 55, 56, 57] := by decide +kernel
theorem tx_min : (Str.ofString "-") = Tx [45] := by decide +kernel
theorem tx_0 : (Str.ofString "0") = Tx [48] := by decide +kernel
theorem tx_nil : (Str.ofString "") = Tx [] := by decide +kernel
section
variable {ρ : Lo} {μ : Store} {a b l : List Nat} {c : Nat} {i : Int} {x y : R}
theorem sv_add : addQ (.v (.str (Tx a))) (.v (.str (Tx b))) μ = if a.length + b.length ≤ sizeLine then some (.v (.str (Tx (a ++ b))), μ) else none := by
  show (if (Tx a).length + (Tx b).length ≤ sizeLine then some (R.v (.str (Tx a ++ Tx b)), μ) else none) = _
  rw [tx_len, tx_len]
  have : Tx a ++ Tx b = Tx (a ++ b) := by show Str.append _ _ = _; simp [Str.append]
  rw [this]
theorem sv_ix (h : 0 ≤ i) (hl : l.length < 2 ^ 63) (hc : l[i.toNat]? = some c) : ixS (.v (.str (Tx l))) (.v (.int i)) μ = some (.v (.str (Tx [c])), μ) := by
  have hi := (List.getElem?_eq_some_iff.mp hc).1
  have e : (Tx l).cps[i.toNat]? = some c := by simpa using hc
  unfold ixS
  dsimp only
  rw [if_pos ⟨h, by omega, by rw [tx_len]; omega⟩, e]
  rfl
theorem sv_len (h : l.length ≤ sizeLine) : lenS [.v (.str (Tx l))] μ = some (.v (.int l.length), μ) := by
  unfold lenS; dsimp only; rw [tx_len, if_pos h]
theorem sv_in : inS false (.v (.str (Tx [c]))) (.v (.str (Tx l))) μ = some (.v (.bl (decide (c ∈ l))), μ) := by
  unfold inS
  have := PySem.StrLaws.found_one (Tx l) c
  simp only [Bool.false_eq_true, if_false]
  rw [show (Tx [c]) = ⟨#[c]⟩ from rfl, this]
theorem sv_nin : inS true (.v (.str (Tx [c]))) (.v (.str (Tx l))) μ = some (.v (.bl (!decide (c ∈ l))), μ) := by
  unfold inS
  have := PySem.StrLaws.found_one (Tx l) c
  simp only [if_true]
  rw [show (Tx [c]) = ⟨#[c]⟩ from rfl, this]
theorem sv_sw : swD (.v (.str (Tx l))) (.v (.str (Tx [c]))) μ = some (.v (.bl (l.head? == some c)), μ) := by
  unfold swD
  dsimp only
  rw [tx_len, tx_len]
  cases l with
  | nil => rfl
  | cons d r =>
    have : Builtin.Str.subAt (Tx (d :: r)) (Tx [c]) 0 = (d == c) := by
      unfold Builtin.Str.subAt
      rw [tx_len]
      by_cases h : d = c
      · subst h; simp
      · simp [h]
    rw [this]
    simp
def thSt (o : Option (R × Store)) : Option (List D × Store) := o.bind fun a => match a.1 with | .v (.str x) => some (signs x, a.2) | _ => none
theorem sv_it {f : FE} : fiStr f ρ μ = thSt (f ρ μ) := rfl
theorem sv_it1 : thSt (some (.v (.str (Tx l)), μ)) = some (l.map (fun c => D.str (Tx [c])), μ) := rfl
def thCh1 (o : Option (R × Store)) (g g' : R → R → Store → Option (R × Store)) (fb fc : FE) (ρ : Lo) : Option (R × Store) := o.bind fun a => (fb ρ a.2).bind fun b => (g a.1 b.1 b.2).bind fun z => match z.1 with
  | .v (.bl k) => if k = true then (fc ρ z.2).bind fun c => g' b.1 c.1 c.2 else some (.v (.bl false), z.2)
  | _ => none
def thCh2 (x : R) (o : Option (R × Store)) (g g' : R → R → Store → Option (R × Store)) (fc : FE) (ρ : Lo) : Option (R × Store) := o.bind fun b => (g x b.1 b.2).bind fun z => match z.1 with
  | .v (.bl k) => if k = true then (fc ρ z.2).bind fun c => g' b.1 c.1 c.2 else some (.v (.bl false), z.2)
  | _ => none
def thCh3 (y : R) (o : Option (R × Store)) (g' : R → R → Store → Option (R × Store)) (fc : FE) (ρ : Lo) : Option (R × Store) := o.bind fun z => match z.1 with
  | .v (.bl k) => if k = true then (fc ρ z.2).bind fun c => g' y c.1 c.2 else some (.v (.bl false), z.2)
  | _ => none
def thCh4 (y : R) (o : Option (R × Store)) (g' : R → R → Store → Option (R × Store)) : Option (R × Store) := o.bind fun c => g' y c.1 c.2
theorem sv_ch {g g' fa fb fc} : fCh g g' fa fb fc ρ μ = thCh1 (fa ρ μ) g g' fb fc ρ := rfl
theorem sv_ch1 {g g' fb fc} : thCh1 (some (x, μ)) g g' fb fc ρ = thCh2 x (fb ρ μ) g g' fc ρ := rfl
theorem sv_ch2 {g g' fc} : thCh2 x (some (y, μ)) g g' fc ρ = thCh3 y (g x y μ) g' fc ρ := rfl
theorem sv_ch3 {g' fc} {b : Bool} : thCh3 y (some (.v (.bl b), μ)) g' fc ρ = if b = true then thCh4 y (fc ρ μ) g' else some (.v (.bl false), μ) := rfl
theorem sv_ch4 {g'} : thCh4 y (some (x, μ)) g' = g' y x μ := rfl
theorem sv_abs : absD [.v (.int i)] μ = some (.v (.int (if i < 0 then -i else i)), μ) := rfl
def thSs1 (o : Option (R × Store)) (fl fh : FO) (ρ : Lo) : Option (R × Store) := o.bind fun a => (fl ρ a.2).bind fun l => (fh ρ l.2).bind fun h => slS a.1 l.1 h.1 h.2
def thSs2 (x : R) (o : Option (Option Int × Store)) (fh : FO) (ρ : Lo) : Option (R × Store) := o.bind fun l => (fh ρ l.2).bind fun h => slS x l.1 h.1 h.2
def thSs3 (x : R) (l : Option Int) (o : Option (Option Int × Store)) : Option (R × Store) := o.bind fun h => slS x l h.1 h.2
theorem sv_ss {fa fl fh} : fSlS fa fl fh ρ μ = thSs1 (fa ρ μ) fl fh ρ := rfl
theorem sv_ss1 {fl fh} : thSs1 (some (x, μ)) fl fh ρ = thSs2 x (fl ρ μ) fh ρ := rfl
theorem sv_ss2 {fh} {l : Option Int} : thSs2 x (some (l, μ)) fh ρ = thSs3 x l (fh ρ μ) := rfl
theorem sv_ss3 {l h : Option Int} : thSs3 x l (some (h, μ)) = slS x l h μ := rfl
theorem sl_from (l : List Nat) (n : Nat) (h : n ≤ l.length) : Txt.slice (Tx l) (some (n : Int)) none = Tx (l.drop n) := by
  have := PySem.StrLaws.sliceText_from (x := Tx l) (i := n) (by simpa using h)
  refine Eq.trans (show Txt.slice (Tx l) (some (n : Int)) none = PySem.StrLaws.sliceText (Tx l) (some (n : Int)) none from rfl) (this.trans ?_)
  simp only [Tx, Int.toNat_natCast]
  congr 2
  exact List.take_of_length_le (by simp)
theorem sv_from {n : Nat} (h : n ≤ l.length) (hl : l.length ≤ sizeLine) : slS (.v (.str (Tx l))) (some (n : Int)) none μ = some (.v (.str (Tx (l.drop n))), μ) := by
  unfold slS; dsimp only; rw [tx_len, if_pos hl, sl_from l n h]
theorem sv_int {n : Int} (hl : l.length ≤ 640) (h : PySem.intText? (Tx l) = some n) : intS [.v (.str (Tx l))] μ = some (.v (.int n), μ) := by
  unfold intS; dsimp only; rw [tx_len, if_pos hl, h]; rfl
theorem sv_ok {n : Nat} (h : ∀ c ∈ l, c < 1114112) : okD n (.str (Tx l)) = true := by
  cases n <;> (show PyData.strOk (Tx l) = true; unfold PyData.strOk; simpa using h)
theorem sv_eq : eqD (.str (Tx a)) (.str (Tx b)) = (a == b) := tx_ne
end
def SV := A2 @sv_it (A2 @sv_it1 (A2 @sv_ch (A2 @sv_ch1 (A2 @sv_ch2 (A2 @sv_ch3 (A2 @sv_ch4 (A2 @sv_abs (A2 @sv_ss (A2 @sv_ss1 (A2 @sv_ss2 (A2 @sv_ss3 (A2 @sv_add (A2 @sv_in (A2 @sv_nin (A2 @sv_sw @sv_eq)))))))))))))))
end HW
namespace LW
open PySem HW
theorem emod_b (i : Int) {j : Int} (h : 0 < j) : 0 ≤ i % j ∧ i % j < j := ⟨Int.emod_nonneg _ (by omega), Int.emod_lt_of_pos _ h⟩
theorem cell_at (ns : List Int) (k : Int) (h : ns ≠ []) : ∃ c, L2.atI (ns.map D.int) (k % (ns.length : Int)) = some (.int c) := by
  have hl : 0 < ns.length := List.length_pos_iff.mpr h
  obtain ⟨h1, h2⟩ := emod_b k (j := (ns.length : Int)) (by omega)
  refine ⟨ns[(k % (ns.length : Int)).toNat], at_int h1 ?_⟩
  simp
theorem draw_ex (ns : List Int) (k many : Int) (hm : 0 < many) : ∃ d, m_law_draw [.fl (ns.map .int), .int k, .int many] = some (.int d) ∧ 0 ≤ d ∧ d < many := by
  rw [u_law_draw]
  by_cases h : ns = []
  · subst h
    exact ⟨0, by simp only [b_law_draw, EV, Nat.reduceAdd, if_true, Bool.and_self, Int.natCast_zero, beq_self_eq_true], by omega, hm⟩
  · have hl : 0 < ns.length := List.length_pos_iff.mpr h
    have e0 : ((ns.length : Int) == 0) = false := by simp; omega
    obtain ⟨c, hc⟩ := cell_at ns k h
    have b1 := emod_b c (j := 1000000007) (by decide)
    have b2 := emod_b ((c % 1000000007 + 5) * (40692 + 977 * k)) (j := 2147483629) (by decide)
    simp only [b_law_draw, EV, Nat.reduceAdd, if_true, Bool.and_self, e0, List.length_map,
      ev_mod (i := k) (j := (ns.length : Int)) (by omega), hc, ev_mod (i := c) (j := 1000000007) (by decide),
      ev_mulL (i := 977) (j := k) (by decide), ev_mulL (i := c % 1000000007 + 5) (j := 40692 + 977 * k) (by omega),
      ev_mod (j := 2147483629) (by decide), ev_mulR (j := (c % 1000000007 + 5) * (40692 + 977 * k) % 2147483629 + 3) (by omega), ev_mod (j := 2147483647) (by decide), ev_div (j := 13) (by decide) (by decide), ev_mod (j := many) hm]
    exact ⟨_, rfl, emod_b _ hm⟩
end LW
namespace LW
open PySem HW L2 PyProof.Rows PySem.NumText PySem.W
def dg (m : Nat) : List Nat := (Nat.toDigits 10 m).map Char.toNat
theorem dg_lt {m : Nat} (h : m < 10) : dg m = [48 + m] := by
  unfold dg
  rw [Nat.toDigits_of_lt_base h]
  have : ∀ d : Nat, d < 10 → [Nat.digitChar d].map Char.toNat = [48 + d] := by decide
  exact this m h
theorem dg_ge {m : Nat} (h : 10 ≤ m) : dg m = dg (m / 10) ++ [48 + m % 10] := by
  have hm : m % 10 < 10 := Nat.mod_lt m (by decide)
  have t : Nat.toDigits 10 (m / 10) ++ Nat.toDigits 10 (m % 10) = Nat.toDigits 10 (10 * (m / 10) + m % 10) := Nat.toDigits_append_toDigits (by decide) (by omega) hm
  rw [Nat.div_add_mod] at t
  rw [← dg_lt hm]
  unfold dg
  rw [← t, List.map_append]
theorem dg_dig (m : Nat) : PySem.NumText.AllDigits (dg m) := by
  intro c hc
  obtain ⟨ch, hch, e⟩ := List.mem_map.mp hc
  rw [← e]
  exact PyProof.Rows.digit_range (Nat.isDigit_of_mem_toDigits (by decide) (by decide) hch)
theorem dg_val (m : Nat) : PySem.NumText.digitsVal (dg m) = m := PySem.W.KIN.val_back m
theorem dg_pos (m : Nat) : 1 ≤ (dg m).length := by
  unfold dg; rw [List.length_map]; exact toDigits_len_ge 10 m
theorem dg_len {m k : Nat} (hk : 1 ≤ k) (h : m < 10 ^ k) : (dg m).length ≤ k := by
  unfold dg; rw [List.length_map]; exact toDigits_len_pow (by decide) hk h
theorem dg_ne (m : Nat) : dg m ≠ [] := fun e => by have := dg_pos m; rw [e] at this; simp at this
theorem dg_head : ∀ (m : Nat), 0 < m → (dg m)[0]? ≠ some 48 := by
  intro m
  induction m using Nat.strongRecOn with
  | _ m ih =>
    intro h0
    by_cases h : m < 10
    · rw [dg_lt h]; simp; omega
    · rw [dg_ge (by omega)]
      have h1 := ih (m / 10) (by omega) (by omega)
      have := dg_pos (m / 10)
      rw [List.getElem?_append_left (by omega)]
      exact h1
theorem str_pos (m : Nat) : Str.ofString (toString (m : Int)) = Tx (dg m) := by
  rw [tx_of (Str.ofString (toString (m : Int))), PySem.W.KIN.signs_num]; rfl
theorem str_neg (m : Nat) : Str.ofString (toString (-((m + 1 : Nat) : Int))) = Tx (45 :: dg (m + 1)) := by
  rw [tx_of (Str.ofString _), PyProof.Rows.signs_ofString]
  have : (toString (-((m + 1 : Nat) : Int))).toList = '-' :: Nat.toDigits 10 (m + 1) := by
    show (Int.repr (Int.negSucc m)).toList = _
    show ("-" ++ Nat.repr (m + 1)).toList = _
    rw [String.toList_append, Nat.toList_repr]; rfl
  rw [this]; rfl
def tn (n : Int) : List Nat := if n < 0 then 45 :: dg n.natAbs else dg n.natAbs
theorem str_tn (n : Int) : Str.ofString (toString n) = Tx (tn n) := by
  unfold tn
  by_cases h : n < 0
  · rw [if_pos h]
    obtain ⟨m, rfl⟩ : ∃ m : Nat, n = -((m + 1 : Nat) : Int) := ⟨n.natAbs - 1, by omega⟩
    rw [str_neg]
    have : (-((m + 1 : Nat) : Int)).natAbs = m + 1 := by omega
    rw [this]
  · rw [if_neg h]
    obtain ⟨m, rfl⟩ : ∃ m : Nat, n = (m : Int) := ⟨n.natAbs, by omega⟩
    rw [str_pos]; rfl
theorem tn_len {n : Int} {k : Nat} (hk : 1 ≤ k) (h : n.natAbs < 10 ^ k) : (tn n).length ≤ k + 1 := by
  unfold tn
  have := dg_len hk h
  split <;> simp <;> omega
theorem tn_sig (n : Int) : ∀ c ∈ tn n, c < 1114112 := by
  intro c hc
  have : c = 45 ∨ c ∈ dg n.natAbs := by
    unfold tn at hc
    split at hc
    · simpa using hc
    · exact .inr hc
  rcases this with rfl | h
  · decide
  · have := dg_dig _ c h; omega
theorem ok_all {l : List Nat} (h : ∀ c ∈ l, c < 1114112) : okD 60 (.str (Tx l)) = true := sv_ok h
end LW
namespace LW
open PySem HW L2 PyProof.Rows PySem.NumText PySem.W
theorem wr_number (n : Int) (h : n.natAbs < 10 ^ 60) : m_write_number [.int n] = some (.str (Tx (tn n))) := by
  rw [u_write_number]
  have hl : n.natAbs.log2 < 1920 := by
    by_cases h0 : n.natAbs = 0
    · rw [h0]; decide
    · have : n.natAbs.log2 < 200 := by rw [Nat.log2_lt h0]; exact Nat.lt_trans h (by decide)
      omega
  simp only [b_write_number, EV, Nat.reduceAdd, if_true, Bool.and_self, if_pos hl, str_tn]
theorem chk (l : List Nat) : m_check_text [.str (Tx l)] = some .non := by
  rw [u_check_text]
  have : isiD "str" (.v (.str (Tx l))) [] = some (.v (.bl true), []) := rfl
  simp only [b_check_text, EV, Nat.reduceAdd, if_true, Bool.and_self, this]
theorem mem_fig {c : Nat} (h : 48 ≤ c ∧ c ≤ 57) : decide (c ∈ [48, 49, 50, 51, 52, 53, 54, 55, 56, 57]) = true := by
  have : c = 48 ∨ c = 49 ∨ c = 50 ∨ c = 51 ∨ c = 52 ∨ c = 53 ∨ c = 54 ∨ c = 55 ∨ c = 56 ∨ c = 57 := by omega
  rcases this with rfl | rfl | rfl | rfl | rfl | rfl | rfl | rfl | rfl | rfl <;> decide
theorem made_by (l sg : List Nat) (S : Str) (most : Int) (hS : S = Tx sg) (h0 : 1 ≤ l.length) (h1 : (l.length : Int) ≤ most) (h2 : l.length < 4000) (hd : ∀ c ∈ l, c ∈ sg) : m_is_made_of [.str (Tx l), .str S, .int most] = some (.bl true) := by
  subst hS
  rw [u_is_made_of]
  have a1 : (1 : Int) ≤ (l.length : Int) := by omega
  have hz : l.length ≤ sizeLine := small'' h2
  have hm : (l.map fun c => D.str (Tx [c])).length ≤ sizeLine := by rw [List.length_map]; exact hz
  have hc := comp_typed (f := fOp (inS false) (fVar 0) (fVar 1)) (μ := []) (rest := [some (.v (.str (Tx sg)))]) (fun c => D.str (Tx [c])) (fun c => D.bl (decide (c ∈ sg))) l none
    (fun c _ => by simp only [EV, Nat.reduceAdd, if_true, Bool.and_self, SV])
  have hb : boolsD (l.map fun c => D.bl (decide (c ∈ sg))) = some (l.map fun c => decide (c ∈ sg)) := by
    have := bools_map (l.map fun c => decide (c ∈ sg))
    rwa [List.map_map] at this
  have ha : (l.map fun c => decide (c ∈ sg)).all id = true := by
    rw [List.all_map, List.all_eq_true]
    exact fun c hc => decide_eq_true (hd c hc)
  simp only [b_is_made_of, EV, Nat.reduceAdd, if_true, Bool.and_self, SV, sv_len hz, a1, h1, decide_true, if_pos hm, hc, hb, ha]
theorem made_of (l : List Nat) (h0 : 1 ≤ l.length) (h1 : l.length ≤ 60) (hd : PySem.NumText.AllDigits l) : m_is_made_of [.str (Tx l), .str "0123456789", .int 60] = some (.bl true) :=
  made_by l [48, 49, 50, 51, 52, 53, 54, 55, 56, 57] _ 60 tx_fig h0 (by omega) (by omega) fun c hc => of_decide_eq_true (mem_fig (hd c hc))
theorem eq48 {c : Nat} (h : c ≠ 48) : ([c] == [48]) = false := by simp [h]
theorem rd_number (n : Int) (h : n.natAbs < 10 ^ 60) : m_read_number [.str (Tx (tn n))] = some (.int n) := by
  rw [u_read_number]
  have hl := dg_len (m := n.natAbs) (k := 60) (by decide) h
  have hp := dg_pos n.natAbs
  have hm := made_of (dg n.natAbs) hp hl (dg_dig _)
  have ht : (tn n).length ≤ 61 := tn_len (by decide) h
  have hs : (tn n).length ≤ sizeLine := small'' (by omega)
  have hi : PySem.intText? (Tx (tn n)) = some n := by
    by_cases hn : n < 0
    · have e : (Tx (tn n)).cps.toList = 45 :: dg n.natAbs := by unfold tn; rw [if_pos hn]
      rw [intText_neg e (dg_dig _) (dg_ne _) (by rw [tx_len]; omega), dg_val]
      congr 1; omega
    · have e : (Tx (tn n)).cps.toList = dg n.natAbs := by unfold tn; rw [if_neg hn]
      rw [intText_digits (by rw [e]; exact dg_dig _) (by rw [e]; exact dg_ne _) (by rw [tx_len]; omega), e, dg_val]
      congr 1; omega
  obtain ⟨c, l, hcl⟩ := List.exists_cons_of_ne_nil (dg_ne n.natAbs)
  have hc : 48 ≤ c ∧ c ≤ 57 := dg_dig n.natAbs c (by rw [hcl]; simp)
  have hg : (dg n.natAbs)[(0 : Int).toNat]? = some c := by rw [hcl]; rfl
  have hok : okD 60 (.str (Tx (tn n))) = true := ok_all (tn_sig n)
  have hok1 : okD 60 (.str (Tx [c])) = true := ok_all (by intro d hd; simp at hd; omega)
  have hok0 : okD 60 (.str (Tx [48])) = true := ok_all (by decide)
  have hsw : ((tn n).head? == some 45) = decide (n < 0) := by
    unfold tn
    by_cases hn : n < 0
    · rw [if_pos hn]; simp [hn]
    · rw [if_neg hn, hcl]; simp [hn]; omega
  have h60 : (60 : Int) = 60 := rfl
  have hfig : m_check_text [.str (Tx (tn n))] = some .non := chk _
  have hix := fun μ => sv_ix (μ := μ) (i := 0) (l := dg n.natAbs) (c := c) (by decide) (by omega) hg
  by_cases hn : n < 0
  · have hd : (tn n).drop 1 = dg n.natAbs := by unfold tn; rw [if_pos hn]; rfl
    have hfr : ∀ μ : Store, slS (.v (.str (Tx (tn n)))) (some (1 : Int)) none μ = some (.v (.str (Tx ((tn n).drop 1))), μ) := fun μ => sv_from (μ := μ) (l := tn n) (n := 1) (by unfold tn; rw [if_pos hn]; simp) hs
    have h48 : c ≠ 48 := fun e => dg_head n.natAbs (by omega) (by rw [hcl, e]; rfl)
    rw [hd] at hfr
    simp only [b_read_number, EV, Nat.reduceAdd, if_true, Bool.and_self, SV, tx_min, tx_0, hfig, hsw, hn, decide_true, hfr, hm, hix, hok1, hok0, eq48 h48, sv_int (by omega) hi]
  · have ht' : tn n = dg n.natAbs := by unfold tn; rw [if_neg hn]
    by_cases h0 : n = 0
    · subst h0
      have e : dg (Int.natAbs 0) = [48] := by rw [dg_lt (by decide)]; rfl
      have et : tn 0 = [48] := by unfold tn; rw [if_neg (by decide)]; exact e
      rw [e] at hm hix
      have hc48 : c = 48 := by rw [e] at hcl; injection hcl with h1; exact h1.symm
      subst hc48
      rw [et] at hfig hi ⊢
      have hsw : (([48] : List Nat).head? == some 45) = false := rfl
      simp only [b_read_number, EV, Nat.reduceAdd, if_true, Bool.and_self, SV, tx_min, tx_0, hfig, hsw, hm, hix, hok0, beq_self_eq_true, sv_int (by simp) hi]
    · have h48 : c ≠ 48 := fun e => dg_head n.natAbs (by omega) (by rw [hcl, e]; rfl)
      rw [ht'] at hfig hsw hi ⊢
      simp only [b_read_number, EV, Nat.reduceAdd, if_true, Bool.and_self, SV, tx_min, tx_0, hfig, hsw, hn, decide_false, hm, hix, hok1, hok0, eq48 h48, sv_int (by omega) hi]
end LW
namespace LW
open PySem HW L2 PyProof.Rows PySem.NumText PySem.W
theorem cut_at {c : Nat} : ∀ {a b u v : List Nat}, c ∉ a → c ∉ b → a ++ c :: u = b ++ c :: v → a = b ∧ u = v
  | [], [], u, v, _, _, h => by injection h with _ h; exact ⟨rfl, h⟩
  | [], y :: b, u, v, _, hb, h => by injection h with h _; exact absurd (by rw [h]; simp) hb
  | x :: a, [], u, v, ha, _, h => by injection h with h _; exact absurd (by rw [h]; simp) ha
  | x :: a, y :: b, u, v, ha, hb, h => by
    injection h with h1 h2
    obtain ⟨e1, e2⟩ := cut_at (fun q => ha (by simp [q])) (fun q => hb (by simp [q])) h2
    exact ⟨by rw [h1, e1], e2⟩
theorem join_uniq (c : Nat) : ∀ {A B : List Str}, A ≠ [] → B ≠ [] → (∀ p ∈ A, c ∉ p.cps.toList) → (∀ p ∈ B, c ∉ p.cps.toList) → Str.join ⟨#[c]⟩ A = Str.join ⟨#[c]⟩ B → A = B
  | [], _, h, _, _, _, _ => absurd rfl h
  | _, [], _, h, _, _, _ => absurd rfl h
  | [a], [b], _, _, _, _, h => by
    have : a = b := h
    rw [this]
  | [a], b :: b' :: r, _, _, ha, hb, h => by
    have e : a = b ++ ⟨#[c]⟩ ++ Str.join ⟨#[c]⟩ (b' :: r) := h
    refine absurd ?_ (ha a (by simp))
    rw [e]
    show c ∈ ((b.cps ++ #[c]) ++ (Str.join ⟨#[c]⟩ (b' :: r)).cps).toList
    simp
  | a :: a' :: q, [b], _, _, ha, hb, h => by
    have e : a ++ ⟨#[c]⟩ ++ Str.join ⟨#[c]⟩ (a' :: q) = b := h
    refine absurd ?_ (hb b (by simp))
    rw [← e]
    show c ∈ ((a.cps ++ #[c]) ++ (Str.join ⟨#[c]⟩ (a' :: q)).cps).toList
    simp
  | a :: a' :: q, b :: b' :: r, _, _, ha, hb, h => by
    have e : a ++ ⟨#[c]⟩ ++ Str.join ⟨#[c]⟩ (a' :: q) = b ++ ⟨#[c]⟩ ++ Str.join ⟨#[c]⟩ (b' :: r) := h
    have e1 : a.cps.toList ++ c :: (Str.join ⟨#[c]⟩ (a' :: q)).cps.toList = b.cps.toList ++ c :: (Str.join ⟨#[c]⟩ (b' :: r)).cps.toList := by
      have := congrArg (fun s : Str => s.cps.toList) e
      simp only [Str.cps_append, Array.toList_append] at this
      simpa using this
    obtain ⟨h1, h2⟩ := cut_at (ha a (by simp)) (hb b (by simp)) e1
    have h1' : a = b := Str.ext' (Array.toList_inj.mp h1)
    have h2' : Str.join ⟨#[c]⟩ (a' :: q) = Str.join ⟨#[c]⟩ (b' :: r) := Str.ext' (Array.toList_inj.mp h2)
    rw [h1', join_uniq c (by simp) (by simp) (fun p hp => ha p (List.mem_cons_of_mem _ hp)) (fun p hp => hb p (List.mem_cons_of_mem _ hp)) h2']
theorem split_ne (x y : Str) : Txt.split x y ≠ [] := by
  unfold Txt.split
  split
  · simp
  · split
    · simp
    · unfold Builtin.Str.partsBetween
      cases Builtin.Str.occurrences x y 0 x.length (x.length + 1) <;> simp
theorem split_join (c : Nat) (ws : List Str) (h0 : ws ≠ []) (hf : ∀ p ∈ ws, c ∉ p.cps.toList) : Txt.split (Txt.join ⟨#[c]⟩ ws) ⟨#[c]⟩ = ws := by
  refine join_uniq c (split_ne _ _) h0 (PySem.StrLaws.split_free _ c) hf ?_
  rw [PySem.StrLaws.join_split]
  exact PySem.StrLaws.glued_eq_join _ _
theorem tx_sp : (Str.ofString " ") = ⟨#[32]⟩ := by decide +kernel
theorem fold_le (k : Nat) (ws : List Str) (h : ∀ w ∈ ws, w.length ≤ k) : ∀ acc, ws.foldl (fun a w => a + w.length + (⟨#[32]⟩ : Str).length) acc ≤ acc + ws.length * (k + 1) := by
  induction ws with
  | nil => intro acc; simp
  | cons w r ih =>
    intro acc
    have h1 := h w (by simp)
    have := ih (fun v hv => h v (by simp [hv])) (acc + w.length + (⟨#[32]⟩ : Str).length)
    have e : (⟨#[32]⟩ : Str).length = 1 := rfl
    simp only [List.foldl_cons, List.length_cons]
    rw [e] at this ⊢
    refine Nat.le_trans this ?_
    rw [Nat.add_mul]
    omega
theorem join_ok (ws : List Str) (h : ∀ w ∈ ws, w.length ≤ 70) (hl : ws.length ≤ 40) : JoinOk ⟨#[32]⟩ ws = true := by
  unfold JoinOk Builtin.Str.tooLong
  have := fold_le 70 ws h 0
  rw [← List.foldl_toArray'] at this
  · simp only [Bool.not_eq_true', decide_eq_false_iff_not, Nat.not_lt]
    refine Nat.le_trans this ?_
    have h4 : (4000 : Nat) ≤ sizeLine := by decide
    have : ws.length * 71 ≤ 40 * 71 := Nat.mul_le_mul_right _ hl
    omega
  · rfl
theorem join_len (ws : List Str) (h : ∀ w ∈ ws, w.length ≤ 70) (hl : ws.length ≤ 40) : (Txt.join ⟨#[32]⟩ ws).length < 4000 := by
  have e : Txt.join ⟨#[32]⟩ ws = Str.join ⟨#[32]⟩ ws := PySem.StrLaws.glued_eq_join _ _
  rw [e]
  have h1 := PySem.StrLaws.join_length_le ⟨#[32]⟩ ws
  have h2 : (ws.map (·.length)).sum ≤ ws.length * 70 := by
    clear h1 e hl
    induction ws with
    | nil => simp
    | cons w r ih =>
      have := ih fun v hv => h v (by simp [hv])
      have := h w (by simp)
      simp only [List.map_cons, List.sum_cons, List.length_cons]
      omega
  have h3 : ws.length * 70 ≤ 40 * 70 := Nat.mul_le_mul_right _ hl
  have h4 : (⟨#[32]⟩ : Str).length = 1 := rfl
  rw [h4] at h1
  omega
end LW
namespace LW
open PySem HW L2 PyProof.Rows PySem.NumText PySem.W
theorem far_ex (ns : List Int) (k : Int) : ∃ d, m_law_far [.fl (ns.map .int), .int k] = some (.int d) ∧ 0 ≤ d ∧ d < 10 ^ 50 := by
  rw [u_law_far]
  by_cases h : ns = []
  · subst h
    exact ⟨0, by simp only [b_law_far, EV, Nat.reduceAdd, if_true, Bool.and_self, Int.natCast_zero, beq_self_eq_true], by omega, by decide⟩
  · have hl : 0 < ns.length := List.length_pos_iff.mpr h
    have e0 : ((ns.length : Int) == 0) = false := by simp; omega
    obtain ⟨c, hc⟩ := cell_at ns k h
    obtain ⟨a, ea, ba⟩ := draw_ex ns k 100000000 (by decide)
    obtain ⟨T, hT⟩ : ∃ T : Int, T = 10 ^ 50 := ⟨_, rfl⟩
    have T0 : 0 < T := by rw [hT]; decide
    have p1 : ∀ μ : Store, powD (.v (.int 10)) (.v (.int 50)) μ = some (.v (.int T), μ) := fun μ => by rw [hT]; exact ev_pow (by decide)
    rw [← hT]
    simp only [b_law_far, EV, Nat.reduceAdd, if_true, Bool.and_self, e0, List.length_map, ea, ev_mod (i := k) (j := (ns.length : Int)) (by omega), hc, p1, ev_mod (i := c) T0, ev_mulR (i := c % T) (j := a + 1) (by omega), ev_pow (i := a + 1) (j := 5) (by omega), ev_mod (j := T) T0]
    exact ⟨_, rfl, emod_b _ T0⟩
abbrev az : List Nat := [97, 98, 99, 100, 101, 102, 103, 104, 105, 106, 107, 108, 109, 110, 111, 112, 113, 114, 115, 116, 117, 118, 119, 120, 121, 122]
theorem tx_az : (Str.ofString "abcdefghijklmnopqrstuvwxyz") = Tx az := by decide +kernel
theorem az_at : ∀ m : Nat, m < 26 → ∃ c, c ∈ az ∧ az[m]? = some c := by decide
theorem az_b : ∀ c ∈ az, 97 ≤ c ∧ c ≤ 122 := by decide
theorem law_name (ns : List Int) (k : Int) : ∃ l : List Nat, m_law_name [.fl (ns.map .int), .int k] = some (.str (Tx l)) ∧ 1 ≤ l.length ∧ l.length ≤ 8 ∧ ∀ c ∈ l, c ∈ az := by
  rw [u_law_name]
  obtain ⟨d, ed, bd⟩ := draw_ex ns k 8 (by decide)
  obtain ⟨n, hn⟩ : ∃ n : Nat, 1 + d = (n : Int) := ⟨(1 + d).toNat, by omega⟩
  have h62 : -(2 ^ 62 : Int) ≤ (n : Int) ∧ (n : Int) < 2 ^ 62 := by omega
  obtain ⟨ρ', μ', e, l, x3, rfl, rfl, hl, ha⟩ := loop_range (g := gNm 3) (b := l_law_name_0) (ρ := [some (.v (.fl (ns.map .int))), some (.v (.int k)), some (.v (.str (Tx []))), none]) (μ := []) n
    (fun i ρ μ => ∃ l x3, ρ = [some (.v (.fl (ns.map .int))), some (.v (.int k)), some (.v (.str (Tx l))), x3] ∧ μ = [] ∧ l.length = i ∧ ∀ c ∈ l, c ∈ az)
    ⟨[], none, rfl, rfl, rfl, by simp⟩ (by
      rintro i hi ρ μ ⟨l, x3, rfl, rfl, hl, ha⟩
      obtain ⟨a, ea, ba⟩ := draw_ex ns (k + 1 + i) 26 (by decide)
      obtain ⟨m, rfl⟩ : ∃ m : Nat, a = (m : Int) := ⟨a.toNat, by omega⟩
      obtain ⟨c, hc, ec⟩ := az_at m (by omega)
      have hz : l.length + 1 ≤ sizeLine := small'' (by omega)
      have hix := fun μ => sv_ix (μ := μ) (i := (m : Int)) (l := az) (c := c) (by omega) (by decide) (by rw [Int.toNat_natCast]; exact ec)
      simp only [l_law_name_0, EV, Nat.reduceAdd, if_true, Bool.and_self, ea, tx_az, hix, SV, if_pos hz]
      exact ⟨_, _, rfl, l ++ [c], _, rfl, rfl, by simp; omega, by intro x hx; rcases List.mem_append.mp hx with h | h; exact ha x h; simp at h; rw [h]; exact hc⟩)
  refine ⟨l, ?_, by omega, by omega, ha⟩
  rw [← tx_nil] at e
  simp only [b_law_name, EV, Nat.reduceAdd, if_true, Bool.and_self, ed, hn, ev_r11 h62, Int.toNat_natCast, e]
def eD : Option Int → D
  | none => .non
  | some n => .int n
def eT : Option Int → List Nat
  | none => [45]
  | some n => tn n
def Sm (n : Int) : Prop := n.natAbs < 10 ^ 60
structure Tel where
  kind : Bool
  name : List Nat
  row : List Int
  low : Option Int
  high : Option Int
structure TelOk (t : Tel) : Prop where
  n1 : 1 ≤ t.name.length
  n2 : t.name.length ≤ 8
  n3 : ∀ c ∈ t.name, c ∈ az
  r1 : t.row.length ≤ 8
  r2 : ∀ n ∈ t.row, Sm n
  lo : ∀ n, t.low = some n → Sm n
  hi : ∀ n, t.high = some n → Sm n
  lt : ∀ a b, t.low = some a → t.high = some b → a < b
def kS (b : Bool) : Str := if b then "strike" else "tell"
def tD (t : Tel) : D := .tup [.str (kS t.kind), .str (Tx t.name), .tup (t.row.map .int), eD t.low, eD t.high]
theorem p60 {T : Int} (hT : T = 10 ^ 60) (μ : Store) : powD (.v (.int 10)) (.v (.int 60)) μ = some (.v (.int T), μ) := by rw [hT]; exact ev_pow (by decide)
theorem sm_of {n : Int} (h : -(10 ^ 60 : Int) < n ∧ n < 10 ^ 60) : Sm n := by
  unfold Sm
  have : ((10 ^ 60 : Nat) : Int) = 10 ^ 60 := by decide
  omega
theorem law_number (ns : List Int) (k : Int) : ∃ n, m_law_number [.fl (ns.map .int), .int k] = some (.int n) ∧ Sm n := by
  rw [u_law_number]
  obtain ⟨w, ew, bw⟩ := draw_ex ns k 5 (by decide)
  obtain ⟨a, ea, ba⟩ := draw_ex ns (k + 1) 25 (by decide)
  obtain ⟨b, eb, bb⟩ := draw_ex ns (k + 1) 3 (by decide)
  obtain ⟨f, ef, bf⟩ := far_ex ns (k + 1)
  obtain ⟨T, hT⟩ : ∃ T : Int, T = 10 ^ 60 := ⟨_, rfl⟩
  obtain ⟨U, hU⟩ : ∃ U : Int, U = 10 ^ 49 := ⟨_, rfl⟩
  have q60 := p60 hT
  have q49 : ∀ μ : Store, powD (.v (.int 10)) (.v (.int 49)) μ = some (.v (.int U), μ) := fun μ => by rw [hU]; exact ev_pow (by decide)
  have hs : ∀ n : Int, -T < n ∧ n < T → Sm n := fun n h => sm_of (by rw [← hT]; exact h)
  have T1 : 1000 < T := by rw [hT]; decide
  have TU : 10 * U < T ∧ 0 < U := by rw [hT, hU]; decide
  have bf' : f < 10 * U := by have : (10 : Int) * U = 10 ^ 50 := by rw [hU]; decide
                              rw [this]; exact bf.2
  by_cases h1 : w < 2
  · simp only [b_law_number, EV, Nat.reduceAdd, if_true, Bool.and_self, ew, ea, h1, decide_true]
    exact ⟨_, rfl, hs _ (by omega)⟩
  by_cases h2 : w = 2
  · subst h2
    simp only [b_law_number, EV, Nat.reduceAdd, if_true, Bool.and_self, ew, eb, h1, decide_false, beq_self_eq_true, q60]
    exact ⟨_, rfl, hs _ (by omega)⟩
  by_cases h3 : w = 3
  · subst h3
    simp only [b_law_number, EV, Nat.reduceAdd, if_true, Bool.and_self, ew, eb, h1, decide_false, beq_self_eq_true, q60, show ((3 : Int) == 2) = false from rfl]
    exact ⟨_, rfl, hs _ (by omega)⟩
  · have e2 : (w == 2) = false := by simp [h2]
    have e3 : (w == 3) = false := by simp [h3]
    simp only [b_law_number, EV, Nat.reduceAdd, if_true, Bool.and_self, ew, ef, h1, decide_false, e2, e3, q49, ev_mulL (i := 5) (j := U) (by decide)]
    exact ⟨_, rfl, hs _ (by omega)⟩
end LW
namespace LW
open PySem HW L2 PyProof.Rows PySem.NumText PySem.W
def num (ns : List Int) (k : Int) : Int := match m_law_number [.fl (ns.map .int), .int k] with | some (.int d) => d | _ => 0
theorem num_eq (ns : List Int) (k : Int) : m_law_number [.fl (ns.map .int), .int k] = some (.int (num ns k)) := by
  obtain ⟨d, e, _⟩ := law_number ns k
  unfold num; rw [e]
theorem num_sm (ns : List Int) (k : Int) : Sm (num ns k) := by
  obtain ⟨d, e, h⟩ := law_number ns k
  unfold num; rw [e]; exact h
theorem kind_at (n : Int) (h : 0 ≤ n ∧ n < 2) : ∃ b, L2.atI [D.str "tell", .str "strike"] n = some (.str (kS b)) := by
  have : n = 0 ∨ n = 1 := by omega
  rcases this with rfl | rfl
  · exact ⟨false, rfl⟩
  · exact ⟨true, rfl⟩
theorem law_telling (ns : List Int) (k : Int) : ∃ t : Tel, m_law_telling [.fl (ns.map .int), .int k] = some (tD t) ∧ TelOk t := by
  rw [u_law_telling]
  obtain ⟨l, el, bl⟩ := draw_ex ns k 30 (by decide)
  obtain ⟨h, eh, bh⟩ := draw_ex ns (k + 1) 9 (by decide)
  obtain ⟨w, ew, bw⟩ := draw_ex ns (k + 2) 8 (by decide)
  obtain ⟨f, ef, bf⟩ := far_ex ns (k + 3)
  obtain ⟨g, eg, bg⟩ := far_ex ns (k + 4)
  obtain ⟨r, er, br⟩ := draw_ex ns (k + 5) 9 (by decide)
  obtain ⟨kk, ek, bk⟩ := draw_ex ns (k + 6) 2 (by decide)
  obtain ⟨kb, ekb⟩ := kind_at kk bk
  obtain ⟨nm, en, n1, n2, n3⟩ := law_name ns (k + 7)
  obtain ⟨n, rfl⟩ : ∃ n : Nat, r = (n : Int) := ⟨r.toNat, by omega⟩
  have h62 : -(2 ^ 62 : Int) ≤ (n : Int) ∧ (n : Int) < 2 ^ 62 := by omega
  have hc : ∀ μ, compL (gNm 0) cYes (fCall m_law_number 2 (fCons (fFz (fVar 1)) (fCons (fFz (fOp addQ (fOp addQ (fVar 2) (fK (.int 20))) (fOp mulD (fK (.int 3)) (fVar 0)))) fNil))) ((List.range n).map fun i => D.int ((i : Nat) : Int)) [none, some (.v (.fl (ns.map .int))), some (.v (.int k))] μ = some ((List.range n).map (fun i : Nat => D.int (num ns (k + 20 + 3 * (i : Int)))), μ) := fun μ =>
    comp_typed (fun i : Nat => D.int (i : Int)) (fun i : Nat => D.int (num ns (k + 20 + 3 * (i : Int)))) (List.range n) none (fun i _ => by
      simp only [EV, Nat.reduceAdd, if_true, Bool.and_self, ev_mulL (i := 3) (j := (i : Int)) (by decide), num_eq])
  have hm : ((List.range n).map fun i => D.int ((i : Nat) : Int)).length ≤ sizeLine := small'' (by simp; omega)
  have hr : (List.range n).map (fun i : Nat => D.int (num ns (k + 20 + 3 * (i : Int)))) = ((List.range n).map (fun i : Nat => num ns (k + 20 + 3 * (i : Int)))).map D.int := by rw [List.map_map]; rfl
  have s5 : 5 ≤ sizeLine := by decide
  obtain ⟨T, hT⟩ : ∃ T : Int, T = 10 ^ 60 := ⟨_, rfl⟩
  have T1 : 1000 < T := by rw [hT]; decide
  have TU : (10 : Int) ^ 50 + 1000 < T := by rw [hT]; decide
  obtain ⟨V, hV⟩ : ∃ V : Int, V = 10 ^ 50 := ⟨_, rfl⟩
  rw [← hV] at bf bg TU
  have hs : ∀ n : Int, -T < n ∧ n < T → Sm n := fun n h => sm_of (by rw [← hT]; exact h)
  have mk : ∀ lo hi : Option Int, (∀ n, lo = some n → Sm n) → (∀ n, hi = some n → Sm n) → (∀ a b, lo = some a → hi = some b → a < b) → TelOk ⟨kb, nm, (List.range n).map (fun i : Nat => num ns (k + 20 + 3 * (i : Int))), lo, hi⟩ := fun lo hi h1 h2 h3 =>
    ⟨n1, n2, n3, by simp; omega, fun x hx => by obtain ⟨i, _, rfl⟩ := List.mem_map.mp hx; exact num_sm ns _, h1, h2, h3⟩
  have hw : w = 0 ∨ w = 1 ∨ w = 2 ∨ w = 3 ∨ w = 4 ∨ w = 5 ∨ w = 6 ∨ w = 7 := by omega
  have md : ∀ (i : Int) (μ : Store), modD (.v (.int i)) (.v (.int 2)) μ = some (.v (.int (i % 2)), μ) := fun i μ => ev_mod (by decide)
  rcases hw with rfl | rfl | rfl | rfl | rfl | rfl | rfl | rfl <;>
    simp only [b_law_telling, EV, Nat.reduceAdd, if_true, Bool.and_self, el, eh, ew, ef, eg, er, ek, ekb, en, md, ev_r11 h62, Int.toNat_natCast, if_pos hm, hc, s5, hr,
      show ((0 : Int) % 2 == 1) = false from rfl, show ((1 : Int) % 2 == 1) = true from rfl, show ((2 : Int) % 2 == 1) = false from rfl, show ((3 : Int) % 2 == 1) = true from rfl, show ((4 : Int) % 2 == 1) = false from rfl, show ((5 : Int) % 2 == 1) = true from rfl, show ((6 : Int) % 2 == 1) = false from rfl, show ((7 : Int) % 2 == 1) = true from rfl,
      show ((0 : Int) == 0) = true from rfl, show ((1 : Int) == 0) = false from rfl, show ((1 : Int) == 2) = false from rfl, show ((1 : Int) == 4) = false from rfl, show ((2 : Int) == 0) = false from rfl, show ((2 : Int) == 2) = true from rfl, show ((2 : Int) == 4) = false from rfl, show ((3 : Int) == 0) = false from rfl, show ((3 : Int) == 2) = false from rfl, show ((3 : Int) == 4) = false from rfl,
      show ((4 : Int) == 0) = false from rfl, show ((4 : Int) == 2) = false from rfl, show ((4 : Int) == 4) = true from rfl, show ((5 : Int) == 0) = false from rfl, show ((5 : Int) == 2) = false from rfl, show ((5 : Int) == 4) = false from rfl, show ((6 : Int) == 0) = false from rfl, show ((6 : Int) == 2) = false from rfl, show ((6 : Int) == 4) = false from rfl, show ((7 : Int) == 0) = false from rfl, show ((7 : Int) == 2) = false from rfl, show ((7 : Int) == 4) = false from rfl]
  · exact ⟨_, rfl, mk none none (fun _ h => nomatch h) (fun _ h => nomatch h) (fun _ _ h => nomatch h)⟩
  · exact ⟨_, rfl, mk (some _) (some _) (fun _ h => by cases h; exact hs _ (by omega)) (fun _ h => by cases h; exact hs _ (by omega)) (fun _ _ h h' => by cases h; cases h'; omega)⟩
  · exact ⟨_, rfl, mk none (some _) (fun _ h => nomatch h) (fun _ h => by cases h; exact hs _ (by omega)) (fun _ _ h => nomatch h)⟩
  · exact ⟨_, rfl, mk (some _) (some _) (fun _ h => by cases h; exact hs _ (by omega)) (fun _ h => by cases h; exact hs _ (by omega)) (fun _ _ h h' => by cases h; cases h'; omega)⟩
  · exact ⟨_, rfl, mk (some _) none (fun _ h => by cases h; exact hs _ (by omega)) (fun _ h => nomatch h) (fun _ _ _ h => nomatch h)⟩
  · exact ⟨_, rfl, mk (some _) (some _) (fun _ h => by cases h; exact hs _ (by omega)) (fun _ h => by cases h; exact hs _ (by omega)) (fun _ _ h h' => by cases h; cases h'; omega)⟩
  · exact ⟨_, rfl, mk (some _) (some _) (fun _ h => by cases h; exact hs _ (by omega)) (fun _ h => by cases h; exact hs _ (by omega)) (fun _ _ h h' => by cases h; cases h'; omega)⟩
  · exact ⟨_, rfl, mk (some _) (some _) (fun _ h => by cases h; exact hs _ (by omega)) (fun _ h => by cases h; exact hs _ (by omega)) (fun _ _ h h' => by cases h; cases h'; omega)⟩
end LW
namespace LW
open PySem HW L2 PyProof.Rows PySem.NumText PySem.W
def kT (b : Bool) : List Nat := if b then [115, 116, 114, 105, 107, 101] else [116, 101, 108, 108]
theorem kS_T (b : Bool) : kS b = Tx (kT b) := by cases b <;> decide +kernel
theorem tx_dot : (Str.ofString ".") = Tx [46] := by decide +kernel
def WS (t : Tel) (turn : Int) : List (List Nat) := kT t.kind :: tn turn :: t.name :: eT t.low :: eT t.high :: (t.row.map tn ++ [[46]])
abbrev sT (w : List Nat) : D := .str (Tx w)
def W (t : Tel) (turn : Int) : Str := Txt.join ⟨#[32]⟩ ((WS t turn).map Tx)
theorem sm_log {n : Int} (h : Sm n) : n.natAbs.log2 < 1920 := by
  by_cases h0 : n.natAbs = 0
  · rw [h0]; decide
  · have : n.natAbs.log2 < 200 := by rw [Nat.log2_lt h0]; exact Nat.lt_trans h (by decide)
    omega
theorem str_ev {n : Int} (h : Sm n) (μ : Store) : strD [.v (.int n)] μ = some (.v (sT (tn n)), μ) := by
  rw [ev_str, if_pos (sm_log h), str_tn]
theorem low_end {e : Option Int} (h : ∀ n, e = some n → Sm n) : m_law_end [eD e] = some (sT (eT e)) := by
  rw [u_law_end]
  cases e with
  | none =>
    have i1 : ∀ μ, isK false .non (.v .non) μ = some (.v (.bl true), μ) := fun _ => rfl
    simp only [b_law_end, eD, eT, EV, Nat.reduceAdd, if_true, Bool.and_self, i1, tx_min]
  | some n =>
    have i1 : ∀ μ, isK false .non (.v (.int n)) μ = some (.v (.bl false), μ) := fun _ => rfl
    simp only [b_law_end, eD, eT, ev_seq, ev_ifS, ev_B, ev_un, ev_v0, ev_vs, ev_un1, i1, ev_B1, ev_ifF, ev_next, ev_seq1, ev_ret, ev_ar, ev_cons, ev_nil, ev_cons1, ev_cons2, ev_ar1, str_ev (h n rfl), ev_ret1, ev_fin]
theorem wr_end {e : Option Int} (h : ∀ n, e = some n → Sm n) : m_write_end [eD e] = some (sT (eT e)) := by
  rw [u_write_end]
  cases e with
  | none =>
    have i1 : ∀ μ, isK false .non (.v .non) μ = some (.v (.bl true), μ) := fun _ => rfl
    simp only [b_write_end, eD, eT, EV, Nat.reduceAdd, if_true, Bool.and_self, i1, tx_min]
  | some n =>
    have i1 : ∀ μ, isK false .non (.v (.int n)) μ = some (.v (.bl false), μ) := fun _ => rfl
    simp only [b_write_end, eD, eT, EV, Nat.reduceAdd, if_true, Bool.and_self, i1, wr_number n (h n rfl)]
def thJ (o : Option (List D)) (a : Str) (μ : Store) : Option (R × Store) := o.bind fun ds => (textsD ds).bind fun ts => if JoinOk a ts = true then some (.v (.str (Txt.join a ts)), μ) else none
theorem jv1 {a : Str} {n : Nat} {μ : Store} : joinD (.v (.str a)) (.p n) μ = thJ (cIt μ[n]?) a μ := rfl
theorem texts_map (ws : List (List Nat)) : textsD (ws.map sT) = some (ws.map Tx) := by
  induction ws with
  | nil => rfl
  | cons w r ih => simp only [List.map_cons, textsD, ih, Option.bind_some]
theorem tn_len61 {n : Int} (h : Sm n) : (tn n).length ≤ 61 := tn_len (by decide) h
theorem eT_len {e : Option Int} (h : ∀ n, e = some n → Sm n) : (eT e).length ≤ 61 := by
  cases e with
  | none => simp [eT]
  | some n => exact tn_len61 (h n rfl)
theorem WS_len {t : Tel} (ok : TelOk t) {turn : Int} (ht : Sm turn) : ∀ w ∈ WS t turn, w.length ≤ 70 := by
  intro w hw
  simp only [WS, List.mem_cons, List.mem_append, List.mem_map, List.not_mem_nil, or_false] at hw
  rcases hw with rfl | rfl | rfl | rfl | rfl | ⟨n, hn, rfl⟩ | rfl
  · unfold kT; split <;> simp
  · have := tn_len61 ht; omega
  · have := ok.n2; omega
  · have := eT_len ok.lo; omega
  · have := eT_len ok.hi; omega
  · have := tn_len61 (ok.r2 n hn); omega
  · simp
theorem WS_n {t : Tel} (ok : TelOk t) {turn : Int} : (WS t turn).length ≤ 40 := by
  have := ok.r1
  simp [WS]; omega
theorem jv2 {t : Tel} (ok : TelOk t) {turn : Int} (ht : Sm turn) (μ : Store) : thJ (some ((WS t turn).map sT)) (Str.ofString " ") μ = some (.v (.str (W t turn)), μ) := by
  unfold thJ
  simp only [Option.bind_some, texts_map, tx_sp]
  rw [if_pos (join_ok _ (by intro w hw; obtain ⟨v, hv, rfl⟩ := List.mem_map.mp hw; rw [tx_len]; exact WS_len ok ht v hv) (by rw [List.length_map]; exact WS_n ok))]
  rfl
theorem at4 {a b c d e : D} {l : List D} : atI (a :: b :: c :: d :: e :: l) 4 = some e := at_int (by decide) rfl
theorem wr_numbers (row : List Int) (h1 : row.length ≤ 8) (h : ∀ n ∈ row, Sm n) : n_write_numbers [.tup (row.map .int)] = some (.lst (row.map fun n => sT (tn n))) := by
  rw [u_write_numbers]
  have hm : (row.map D.int).length ≤ sizeLine := small'' (by simp; omega)
  have hc := comp_typed (f := fCall m_write_number 1 (fCons (fFz (fVar 0)) fNil)) (μ := []) (rest := []) D.int (fun n => sT (tn n)) row none (fun n hn => by simp only [EV, Nat.reduceAdd, if_true, Bool.and_self, wr_number n (h n hn)])
  simp only [b_write_numbers, EV, Nat.reduceAdd, if_true, Bool.and_self, if_pos hm, hc]
theorem law_written {t : Tel} (ok : TelOk t) {turn : Int} (ht : Sm turn) : m_law_written [.int turn, tD t] = some (.str (W t turn)) := by
  rw [u_law_written]
  have r1 := ok.r1
  obtain ⟨⟨x3, done⟩, e, hd⟩ := loop_inv (g := gNm 3) (b := l_law_written_0) (σ := Option R × List Int) D.int (fun s => ([some (.v (.int turn)), some (.v (tD t)), some (.p 0), s.1], [.lst ((kT t.kind :: tn turn :: t.name :: eT t.low :: eT t.high :: s.2.map tn).map sT)])) (fun s r => s.2 ++ r = t.row) t.row (none, []) rfl (by
      rintro ⟨x3, done⟩ n r hr
      have hn : Sm n := ok.r2 n (by rw [← hr]; simp)
      have hl : done.length ≤ 8 := by have := congrArg List.length hr; simp at this; omega
      have hz : ((kT t.kind :: tn turn :: t.name :: eT t.low :: eT t.high :: done.map tn).map sT).length < sizeLine := small' (by simp; omega)
      refine ⟨(some (.v (.int n)), done ++ [n]), ?_, by simpa using hr⟩
      simp only [ev_gnm, ev_G, ls_set0, ls_sets, l_law_written_0, ev_drop, ev_mt, ev_v0, ev_vs, ev_mtP, ls_get0, ev_mtC, ev_cons, ev_ar, ev_nil, ev_cons1, ev_cons2, ev_ar1, str_ev hn, ev_mt2, ev_appP, ev_appC, if_pos hz, ev_drop1]
      simp)
  simp only [List.append_nil] at hd
  subst hd
  have hz : ((kT t.kind :: tn turn :: t.name :: eT t.low :: eT t.high :: t.row.map tn).map sT).length + 1 ≤ sizeLine := small'' (by simp; omega)
  have s5 : 5 ≤ sizeLine := by decide
  have s1 : 1 ≤ sizeLine := by decide
  have e1 := low_end ok.lo
  have e2 := low_end ok.hi
  simp only [List.map_nil, List.map_cons] at e
  unfold tD at e ⊢
  simp only [b_law_written, EV, Nat.reduceAdd, if_true, Bool.and_self, at4, e1, e2, str_ev ht, s5, s1, kS_T]
  simp only [kS_T] at e
  rw [e]
  have hj := jv2 ok ht
  have hW : (WS t turn).map sT = sT (kT t.kind) :: sT (tn turn) :: sT t.name :: sT (eT t.low) :: sT (eT t.high) :: (List.map sT (List.map tn t.row) ++ [sT [46]]) := by
    simp [WS]
  rw [hW] at hj
  simp only [List.map_cons, List.length_cons] at hz
  simp only [EV, Nat.reduceAdd, if_true, Bool.and_self, s1, tx_dot, if_pos hz, jv1, hj]
theorem write_telling {t : Tel} (ok : TelOk t) {turn : Int} (ht : Sm turn) : m_write_telling [.int turn, tD t] = some (.str (W t turn)) := by
  rw [u_write_telling]
  have r1 := ok.r1
  have s5 : 5 ≤ sizeLine := by decide
  have s1 : 1 ≤ sizeLine := by decide
  have e1 := wr_end ok.lo
  have e2 := wr_end ok.hi
  have e3 := wr_numbers t.row r1 ok.r2
  have hfl : flatDs (t.row.map fun n => sT (tn n)) = true := by
    generalize t.row = l
    induction l with
    | nil => rfl
    | cons a r ih => simpa [flatDs, flatD] using ih
  have hz1 : 5 + (t.row.map fun n => sT (tn n)).length ≤ sizeLine := small'' (by simp; omega)
  have hz2 : (t.row.map fun n => sT (tn n)).length + 1 + 1 + 1 + 1 + 1 + 1 ≤ sizeLine := small'' (by simp; omega)
  have hj := jv2 ok ht
  have hW : (WS t turn).map sT = sT (kT t.kind) :: sT (tn turn) :: sT t.name :: sT (eT t.low) :: sT (eT t.high) :: ((t.row.map fun n => sT (tn n)) ++ [sT [46]]) := by
    simp [WS]
  rw [hW] at hj
  unfold tD
  simp only [b_write_telling, EV, Nat.reduceAdd, if_true, Bool.and_self, at4, e1, e2, e3, wr_number turn ht, s5, s1, kS_T, hfl, if_pos hz1, tx_dot, jv1, if_pos hz2, hj]
end LW
namespace LW
open PySem HW L2 PyProof.Rows PySem.NumText PySem.W
theorem words_of {t : Tel} (ok : TelOk t) {turn : Int} (ht : Sm turn) : m_words_of [.str (W t turn)] = some (.fl ((WS t turn).map sT)) := by
  rw [u_words_of]
  have hc : m_check_text [.str (W t turn)] = some .non := by
    have := chk (W t turn).cps.toList
    rwa [← tx_of] at this
  have hlen : (W t turn).length < 4000 := join_len _ (by intro w hw; obtain ⟨v, hv, rfl⟩ := List.mem_map.mp hw; rw [tx_len]; exact WS_len ok ht v hv) (by rw [List.length_map]; exact WS_n ok)
  have hsp : ∀ μ : Store, splD (.v (.str (W t turn))) (.v (.str " ")) μ = some (.p μ.length, μ ++ [.lst ((WS t turn).map sT)]) := fun μ => by
    unfold splD
    dsimp only
    rw [if_pos ⟨by decide +kernel, hlen⟩, tx_sp]
    have : Txt.split (W t turn) ⟨#[32]⟩ = (WS t turn).map Tx := by
      refine split_join 32 _ (by simp [WS]) ?_
      intro p hp
      obtain ⟨w, hw, rfl⟩ := List.mem_map.mp hp
      have hno : ∀ n : Int, 32 ∉ tn n := fun n h => by
        unfold tn at h
        have hd : ∀ m, 32 ∉ dg m := fun m h => by have := dg_dig m 32 h; omega
        split at h
        · rcases List.mem_cons.mp h with h | h
          · cases h
          · exact hd _ h
        · exact hd _ h
      have he : ∀ e : Option Int, 32 ∉ eT e := fun e => by
        cases e with
        | none => simp [eT]
        | some n => exact hno n
      simp only [WS, List.mem_cons, List.mem_append, List.mem_map, List.not_mem_nil, or_false] at hw
      show 32 ∉ w
      rcases hw with rfl | rfl | rfl | rfl | rfl | ⟨n, hn, rfl⟩ | rfl
      · unfold kT; split <;> simp
      · exact hno _
      · intro h; have := az_b 32 (ok.n3 32 h); omega
      · exact he _
      · exact he _
      · exact hno _
      · simp
    rw [this, List.map_map]
    rfl
  simp only [b_words_of, EV, Nat.reduceAdd, if_true, Bool.and_self, hc, hsp]
theorem rd_from {n : Int} (h : Sm n) (h1 : 1 ≤ n) : m_read_number_from [sT (tn n), .int 1] = some (.int n) := by
  rw [u_read_number_from]
  have : ¬ n < 1 := by omega
  simp only [b_read_number_from, EV, Nat.reduceAdd, if_true, Bool.and_self, rd_number n h, this, decide_false]
theorem rd_letters {l : List Nat} (h1 : 1 ≤ l.length) (h2 : l.length ≤ 8) (h3 : ∀ c ∈ l, c ∈ az) : m_read_letters [sT l] = some (sT l) := by
  rw [u_read_letters]
  have := made_by l az (Str.ofString "abcdefghijklmnopqrstuvwxyz") 8 tx_az h1 (by omega) (by omega) h3
  simp only [b_read_letters, EV, Nat.reduceAdd, if_true, Bool.and_self, this]
theorem tn_no (n : Int) : (tn n == [45]) = false := by
  have h : tn n ≠ [45] := fun e => by
    unfold tn at e
    have hp := dg_ne n.natAbs
    split at e
    · injection e with _ e; exact hp e
    · have := dg_dig n.natAbs 45 (by rw [e]; simp); omega
  simpa using h
theorem rd_end {e : Option Int} (h : ∀ n, e = some n → Sm n) : m_read_end [sT (eT e)] = some (eD e) := by
  rw [u_read_end]
  have k0 : okD 60 (.str (Tx [45])) = true := ok_all (by decide)
  cases e with
  | none => simp only [b_read_end, eD, eT, EV, Nat.reduceAdd, if_true, Bool.and_self, SV, tx_min, k0, beq_self_eq_true]
  | some n =>
    have k1 : okD 60 (sT (tn n)) = true := ok_all (tn_sig n)
    simp only [b_read_end, eD, eT, EV, Nat.reduceAdd, if_true, Bool.and_self, SV, tx_min, k0, k1, tn_no, rd_number n (h n rfl)]
theorem stretch {t : Tel} (ok : TelOk t) : ∃ d, m_stretch_of [eD t.low, eD t.high] = some d ∧ okD 60 d = true ∧ eqD d (.tup [.bl false, .tup []]) = false := by
  rw [u_stretch_of]
  have iN : ∀ μ, isK false .non (.v .non) μ = some (.v (.bl true), μ) := fun _ => rfl
  have iI : ∀ (n : Int) μ, isK false .non (.v (.int n)) μ = some (.v (.bl false), μ) := fun _ _ => rfl
  have s1 : 1 ≤ sizeLine := by decide
  cases hl : t.low with
  | none =>
    cases hh : t.high with
    | none => exact ⟨.tup [.bl true, .tup []], by simp only [b_stretch_of, eD, EV, Nat.reduceAdd, if_true, Bool.and_self, iN], rfl, rfl⟩
    | some b => exact ⟨.tup [.bl true, .tup [.int b]], by simp only [b_stretch_of, eD, EV, Nat.reduceAdd, if_true, Bool.and_self, iN, iI, s1], rfl, rfl⟩
  | some a =>
    cases hh : t.high with
    | none => exact ⟨.tup [.bl false, .tup [.int a]], by simp only [b_stretch_of, eD, EV, Nat.reduceAdd, if_true, Bool.and_self, iN, iI, s1], rfl, rfl⟩
    | some b =>
      have := ok.lt a b hl hh
      have hn : ¬ b ≤ a := by omega
      exact ⟨.tup [.bl false, .tup [.int a, .int b]], by simp only [b_stretch_of, eD, EV, Nat.reduceAdd, if_true, Bool.and_self, iN, iI, hn, decide_false], rfl, rfl⟩
end LW
namespace LW
open PySem HW L2 PyProof.Rows PySem.NumText PySem.W
theorem at_last {xs : List D} {d : D} : atI (xs ++ [d]) (-1) = some d := by
  have e : ixN (xs ++ [d]).length (-1) = some xs.length := by
    unfold ixN
    rw [if_neg (by decide), if_pos (by simp; omega)]
    congr 1
    simp
    omega
  unfold atI
  rw [e]
  simp
theorem cut_mid {a b c d e z : D} {rs : List D} : HW.cutD (a :: b :: c :: d :: e :: (rs ++ [z])) (some 5) (some (-1)) = rs := by
  have h1 : HT.sIx (a :: b :: c :: d :: e :: (rs ++ [z])).length 0 (some 5) = 5 := by
    refine (HT.sIx_nat _ 0 5).trans ?_
    simp
  have h2 : HT.sIx (a :: b :: c :: d :: e :: (rs ++ [z])).length (a :: b :: c :: d :: e :: (rs ++ [z])).length (some (-1)) = 5 + rs.length := by
    show (if (-1 : Int) < 0 then ((-1 : Int) + ((a :: b :: c :: d :: e :: (rs ++ [z])).length : Int)).toNat else min (-1 : Int).toNat (a :: b :: c :: d :: e :: (rs ++ [z])).length) = 5 + rs.length
    rw [if_pos (by decide)]
    simp only [List.length_cons, List.length_append, List.length_nil]
    omega
  unfold HW.cutD
  rw [h1, h2]
  simp
theorem kin (b : Bool) (μ : Store) : inW true (.v (sT (kT b))) (.v (.tup [.str "tell", .str "strike"])) μ = some (.v (.bl false), μ) := by
  cases b <;> rfl
theorem read_telling {t : Tel} (ok : TelOk t) {turn : Int} (ht : Sm turn) (h1 : 1 ≤ turn) : m_read_telling [.str (W t turn)] = some (.tup [.int turn, tD t]) := by
  rw [u_read_telling]
  have hw := words_of ok ht
  have hW : (WS t turn).map sT = sT (kT t.kind) :: sT (tn turn) :: sT t.name :: sT (eT t.low) :: sT (eT t.high) :: ((t.row.map fun n => sT (tn n)) ++ [sT [46]]) := by
    simp [WS]
  rw [hW] at hw
  have r1 := ok.r1
  obtain ⟨sd, es, ks, qs⟩ := stretch ok
  have kn : okD 60 (.tup [.bl false, .tup []]) = true := rfl
  have hlen : ¬ (((t.row.map fun n => sT (tn n)) ++ [sT [46]]).length + 1 + 1 + 1 + 1 + 1 : Nat) < (6 : Int) := by simp; omega
  have hlast : atI (sT (kT t.kind) :: sT (tn turn) :: sT t.name :: sT (eT t.low) :: sT (eT t.high) :: ((t.row.map fun n => sT (tn n)) ++ [sT [46]])) (-1) = some (sT [46]) := at_last (xs := sT (kT t.kind) :: sT (tn turn) :: sT t.name :: sT (eT t.low) :: sT (eT t.high) :: (t.row.map fun n => sT (tn n)))
  have kd : okD 60 (.str (Tx [46])) = true := ok_all (by decide)
  have s2 : 2 ≤ sizeLine := by decide
  have s5 : 5 ≤ sizeLine := by decide
  have hm : (t.row.map fun n => sT (tn n)).length ≤ sizeLine := small'' (by simp; omega)
  have hc := fun μ => comp_typed (f := fCall m_read_number 1 (fCons (fFz (fVar 0)) fNil)) (μ := μ) (rest := []) (fun n => sT (tn n)) D.int t.row none (fun n hn => by simp only [EV, Nat.reduceAdd, if_true, Bool.and_self, rd_number n (ok.r2 n hn)])
  have e1 := rd_from ht h1
  have e2 := rd_letters ok.n1 ok.n2 ok.n3
  have e3 := rd_end ok.lo
  have e4 := rd_end ok.hi
  simp only [b_read_telling, EV, Nat.reduceAdd, if_true, Bool.and_self, hw, hlen, decide_false, s2, kin, hlast, tx_dot, kd, SV, beq_self_eq_true, e1, e2, e3, e4, at4, es, ks, kn, qs, cut_mid, if_pos hm, hc, if_pos s5]
  unfold tD
  rw [kS_T]
theorem eq_row (row : List Int) : eqDs (row.map D.int) (row.map D.int) = true := by
  induction row with
  | nil => rfl
  | cons n r ih => simp only [List.map_cons, eqDs, HW.eq_int, beq_self_eq_true, ih, Bool.and_self]
theorem ok_row (m : Nat) (row : List Int) : okDs m (row.map D.int) = true := by
  induction row with
  | nil => rfl
  | cons n r ih => simp only [List.map_cons, okDs, HW.ok_int, ih, Bool.and_self]
theorem whole (n : Int) : m_law_whole [.int n] = some (.bl true) := by
  rw [u_law_whole]
  have i2 : ∀ μ, isiD "int" (.v (.int n)) μ = some (.v (.bl true), μ) := fun _ => rfl
  have i3 : ∀ μ, isiD "bool" (.v (.int n)) μ = some (.v (.bl false), μ) := fun _ => rfl
  simp only [b_law_whole, EV, Nat.reduceAdd, if_true, Bool.and_self, i2, i3]
theorem law_tuple (row : List Int) : m_law_tuple [.tup (row.map .int), .tup (row.map .int)] = some (.bl true) := by
  rw [u_law_tuple]
  have i1 : ∀ μ, isiD "tuple" (.v (.tup (row.map .int))) μ = some (.v (.bl true), μ) := fun _ => rfl
  obtain ⟨x2, e, -⟩ := loop_inv (g := gNm 2) (b := l_law_tuple_0) (σ := Option R) D.int (fun s => ([some (.v (.tup (row.map .int))), some (.v (.tup (row.map .int))), s], [])) (fun _ _ => True) row none trivial (by
    rintro s n r -
    refine ⟨some (.v (.int n)), ?_, trivial⟩
    simp only [l_law_tuple_0, EV, Nat.reduceAdd, if_true, Bool.and_self, whole])
  have k1 : okD 60 (.tup (row.map .int)) = true := ok_row 59 row
  have e1 : eqD (.tup (row.map .int)) (.tup (row.map .int)) = true := eq_row row
  simp only at e
  simp only [b_law_tuple, EV, Nat.reduceAdd, if_true, Bool.and_self, i1, beq_self_eq_true, e, k1, e1]
theorem alike {t : Tel} (ok : TelOk t) {turn : Int} : m_law_alike [.tup [.int turn, tD t], .int turn, tD t] = some (.bl true) := by
  rw [u_law_alike]
  have i1 : ∀ xs μ, isiD "tuple" (.v (.tup xs)) μ = some (.v (.bl true), μ) := fun _ _ => rfl
  have c1 : ∀ a b c d e : D, HW.cutD [a, b, c, d, e] none (some 2) = [a, b] := fun _ _ _ _ _ => rfl
  have c2 : ∀ a b c d e : D, HW.cutD [a, b, c, d, e] (some 3) none = [d, e] := fun _ _ _ _ _ => rfl
  have kk : okD 59 (.str (kS t.kind)) = true := by rw [kS_T]; exact sv_ok (by cases t.kind <;> decide)
  have kn : okD 59 (.str (Tx t.name)) = true := sv_ok fun c hc => by have := az_b c (ok.n3 c hc); omega
  have k2 : okD 60 (.tup [.str (kS t.kind), .str (Tx t.name)]) = true := by
    show (okD 59 _ && (okD 59 _ && true)) = true
    rw [kk, kn]; rfl
  have q2 : eqD (.tup [.str (kS t.kind), .str (Tx t.name)]) (.tup [.str (kS t.kind), .str (Tx t.name)]) = true := by
    show ((kS t.kind == kS t.kind) && ((Tx t.name == Tx t.name) && true)) = true
    rw [beq_self_eq_true, beq_self_eq_true]; rfl
  have ke : ∀ e : Option Int, okD 59 (eD e) = true := fun e => by cases e <;> rfl
  have qe : ∀ e : Option Int, eqD (eD e) (eD e) = true := fun e => by
    cases e with
    | none => rfl
    | some n => exact beq_self_eq_true n
  have k3 : okD 60 (.tup [eD t.low, eD t.high]) = true := by
    show (okD 59 _ && (okD 59 _ && true)) = true
    rw [ke, ke]; rfl
  have q3 : eqD (.tup [eD t.low, eD t.high]) (.tup [eD t.low, eD t.high]) = true := by
    show (eqD _ _ && (eqD _ _ && true)) = true
    rw [qe, qe]; rfl
  have turn1 : ∀ (e : Option Int) (ρ4 : Option R) (a b c d : Option R) (μ : Store), l_law_alike_0 [a, b, c, d, some (.v (eD e))] μ = some (.nx [a, b, c, d, some (.v (eD e))] μ) := fun e _ a b c d μ => by
    cases e with
    | none =>
      have i1 : ∀ μ, isK true .non (.v .non) μ = some (.v (.bl false), μ) := fun _ => rfl
      simp only [l_law_alike_0, eD, EV, Nat.reduceAdd, if_true, Bool.and_self, i1]
    | some n =>
      have i1 : ∀ μ, isK true .non (.v (.int n)) μ = some (.v (.bl true), μ) := fun _ => rfl
      simp only [l_law_alike_0, eD, EV, Nat.reduceAdd, if_true, Bool.and_self, i1, whole]
  unfold tD
  have m2 : (((2 : Nat) : Int) == 2) = true := rfl
  have m5 : (((5 : Nat) : Int) == 5) = true := rfl
  have lp : ∀ (a b c d : Option R) (μ : Store), ∃ y, loop (gNm 4) l_law_alike_0 [eD t.low, eD t.high] [a, b, c, d, none] μ = some (.nx [a, b, c, d, y] μ) := fun a b c d μ => ⟨some (.v (eD t.high)), by
    rw [loop_cons, ev_gnm, ev_G]
    simp only [ls_set0, ls_sets, turn1 t.low none, lp_nx]
    rw [loop_cons, ev_gnm, ev_G]
    simp only [ls_set0, ls_sets, turn1 t.high none, lp_nx, loop_nil]⟩
  simp only [b_law_alike, EV, Nat.reduceAdd, if_true, Bool.and_self, i1, whole, m2, m5, beq_self_eq_true, c1, c2, k2, q2, law_tuple]
  obtain ⟨y, hy⟩ := lp (some (.v (.tup [.int turn, .tup [.str (kS t.kind), .str (Tx t.name), .tup (t.row.map .int), eD t.low, eD t.high]]))) (some (.v (.int turn))) (some (.v (.tup [.str (kS t.kind), .str (Tx t.name), .tup (t.row.map .int), eD t.low, eD t.high]))) (some (.v (.tup [.str (kS t.kind), .str (Tx t.name), .tup (t.row.map .int), eD t.low, eD t.high]))) []
  rw [hy]
  simp only [EV, Nat.reduceAdd, if_true, Bool.and_self, c2, k3, q3]
theorem W_ok {t : Tel} (ok : TelOk t) {turn : Int} : okD 60 (.str (W t turn)) = true := by
  have key : ∀ ws : List Str, (∀ w ∈ ws, ∀ c ∈ w.cps.toList, c < 1114112) → ∀ c ∈ (Str.join ⟨#[32]⟩ ws).cps.toList, c < 1114112 := by
    intro ws
    induction ws with
    | nil => intro _ c hc; exact absurd hc (by simp [Str.join, Str.empty])
    | cons w r ih =>
      intro h c hc
      cases r with
      | nil => exact h w (by simp) c hc
      | cons v q =>
        have hc' : c ∈ (w.cps ++ #[32] ++ (Str.join ⟨#[32]⟩ (v :: q)).cps).toList := hc
        simp only [Array.toList_append, List.mem_append] at hc'
        rcases hc' with (h1 | h1) | h1
        · exact h w (by simp) c h1
        · simp at h1; omega
        · exact ih (fun x hx => h x (List.mem_cons_of_mem _ hx)) c h1
  have e : W t turn = Tx (Str.join ⟨#[32]⟩ ((WS t turn).map Tx)).cps.toList := (PySem.StrLaws.glued_eq_join _ _).trans (tx_of _)
  rw [e]
  refine sv_ok (key _ ?_)
  intro p hp
  obtain ⟨w, hw, rfl⟩ := List.mem_map.mp hp
  have he : ∀ e : Option Int, ∀ c ∈ eT e, c < 1114112 := fun e => by
    cases e with
    | none => simp [eT]
    | some n => exact tn_sig n
  simp only [WS, List.mem_cons, List.mem_append, List.mem_map, List.not_mem_nil, or_false] at hw
  show ∀ c ∈ w, c < 1114112
  rcases hw with rfl | rfl | rfl | rfl | rfl | ⟨n, hn, rfl⟩ | rfl
  · cases t.kind <;> decide
  · exact tn_sig _
  · intro c hc; have := az_b c (ok.n3 c hc); omega
  · exact he _
  · exact he _
  · exact tn_sig _
  · decide
theorem turn1 (ns : List Int) (i : Nat) (x2 x3 x4 x5 : Option R) : ∃ y2 y3 y4 y5, l_law_0 [some (.v (.fl (ns.map .int))), some (.v (.int i)), x2, x3, x4, x5] [] = some (.nx [some (.v (.fl (ns.map .int))), some (.v (.int i)), y2, y3, y4, y5] []) := by
  obtain ⟨t, et, ok⟩ := law_telling ns (60 * (i : Int))
  obtain ⟨a, ea, ba⟩ := draw_ex ns i 40 (by decide)
  obtain ⟨w, ew, bw⟩ := draw_ex ns (i + 63) 3 (by decide)
  obtain ⟨f, ef, bf⟩ := far_ex ns i
  have i1 : ∀ (turn : Int) μ, isiD "str" (.v (.str (W t turn))) μ = some (.v (.bl true), μ) := fun _ _ => rfl
  have k := fun turn : Int => W_ok ok (turn := turn)
  have q : ∀ turn : Int, eqD (.str (W t turn)) (.str (W t turn)) = true := fun turn => beq_self_eq_true (W t turn)
  obtain ⟨T, hT⟩ : ∃ T : Int, T = 10 ^ 60 := ⟨_, rfl⟩
  have T1 : 1000 < T := by rw [hT]; decide
  have TU : (10 : Int) ^ 50 + 1000 < T := by rw [hT]; decide
  obtain ⟨V, hV⟩ : ∃ V : Int, V = 10 ^ 50 := ⟨_, rfl⟩
  rw [← hV] at bf TU
  have hs : ∀ n : Int, -T < n ∧ n < T → Sm n := fun n h => sm_of (by rw [← hT]; exact h)
  have hml := fun μ => ev_mulL (μ := μ) (i := 60) (j := (i : Int)) (by decide)
  by_cases h0 : w = 0
  · have ht : Sm (1 + f) := hs _ (by omega)
    have hw : (w == 0) = true := by simp [h0]
    simp only [l_law_0, EV, Nat.reduceAdd, if_true, Bool.and_self, hml, et, ea, ew, ef, hw, law_written ok ht, write_telling ok ht, i1, k, q, read_telling ok ht (by omega), alike ok]
    exact ⟨_, _, _, _, rfl⟩
  · have ht : Sm (1 + a) := hs _ (by omega)
    have hw : (w == 0) = false := by simp [h0]
    simp only [l_law_0, EV, Nat.reduceAdd, if_true, Bool.and_self, hml, et, ea, ew, hw, law_written ok ht, write_telling ok ht, i1, k, q, read_telling ok ht (by omega), alike ok]
    exact ⟨_, _, _, _, rfl⟩
theorem law_true (ns : List Int) (hl : ns.length ≤ 63) : m_law [.fl (ns.map .int)] = some (.bl true) := by
  rw [u_law]
  obtain ⟨K, hK1, hK2⟩ : ∃ K : Nat, (∀ μ, minD [.v (.int (ns.length : Int)), .v (.int 16)] μ = some (.v (.int (K : Int)), μ)) ∧ K ≤ ns.length := by
    by_cases h : (16 : Int) < ns.length
    · exact ⟨16, fun μ => by simp [minD, h], by omega⟩
    · exact ⟨ns.length, fun μ => by simp [minD, h], by omega⟩
  have h62 : -(2 ^ 62 : Int) ≤ (K : Int) ∧ (K : Int) < 2 ^ 62 := by omega
  obtain ⟨ρ', μ', e, x1, x2, x3, x4, x5, rfl, rfl⟩ := loop_range (g := gNm 1) (b := l_law_0) (ρ := [some (.v (.fl (ns.map .int))), none, none, none, none, none]) (μ := []) K
    (fun i ρ μ => ∃ x1 x2 x3 x4 x5, ρ = [some (.v (.fl (ns.map .int))), x1, x2, x3, x4, x5] ∧ μ = [])
    ⟨none, none, none, none, none, rfl, rfl⟩ (by
      rintro i hi ρ μ ⟨x1, x2, x3, x4, x5, rfl, rfl⟩
      obtain ⟨y2, y3, y4, y5, q⟩ := turn1 ns i x2 x3 x4 x5
      simp only [ev_gnm, ev_G, ls_set0, ls_sets]
      exact ⟨_, _, q, _, _, _, _, _, rfl, rfl⟩)
  have ok1 : TelOk ⟨true, [97], [], none, none⟩ := ⟨by decide, by decide, by decide, by decide, by simp, by simp, by simp, by simp⟩
  have hs1 : Sm 1 := by unfold Sm; decide
  have hW1 : Str.ofString "strike 1 a - - ." = W ⟨true, [97], [], none, none⟩ 1 := by
    have e1 : tn 1 = [49] := by unfold tn; rw [if_neg (by decide)]; exact dg_lt (by decide)
    unfold W WS
    simp only [e1]
    decide +kernel
  have hr := read_telling ok1 hs1 (by decide)
  rw [← hW1] at hr
  have k1 : okD 60 (.tup [.int 1, .tup [.str "strike", .str "a", .tup [], .non, .non]]) = true := by decide +kernel
  have q1 : eqD (.tup [.int 1, .tup [.str "strike", .str "a", .tup [], .non, .non]]) (.tup [.int 1, .tup [.str "strike", .str "a", .tup [], .non, .non]]) = true := by decide +kernel
  have ht1 : tD ⟨true, [97], [], none, none⟩ = .tup [.str "strike", .str "a", .tup [], .non, .non] := by
    have : Tx [97] = Str.ofString "a" := by decide +kernel
    unfold tD
    simp only [this]
    rfl
  rw [ht1] at hr
  have s5 : 5 ≤ sizeLine := by decide
  simp only [b_law, EV, Nat.reduceAdd, if_true, Bool.and_self, hK1, ev_r11 h62, List.length_map, Int.toNat_natCast, e, hr, if_pos s5, k1, q1]
end LW
open PySem PySem.W PyProof.Rows
set_option maxRecDepth 100000 in
set_option maxHeartbeats 0 in
theorem PySem.Challenge.cw_heldwhen_k45_tellings_written_holds : PySem.Challenge.rw_heldwhen_k45_tellings_written.Holds := by
  w_on; o_law; k_head; (case hw => w_witness2)
  k_fill
  refine L2.walk_ofK (l := PySem.Challenge.rw_heldwhen_k45_tellings_written) (n := 63) (k := 5) (x := "script") (CX := L2.CX0) (sp := fun K => HW.spP K 1 LW.m_law) rfl (by decide) rfl ⟨rfl, by decide, by decide⟩ (fun w h Y => PySem.W.kIn_of Y) ?F (fun K H a ns hl hO hS => HW.law_sp hO hS (LW.law_true ns hl)) fun _ _ _ _ z => z
  case F =>
    intro w mg fa h KX G hmg
    refine' LW.all_mk KX G hmg ?a0 ?l0 ?c0 ?k0 ?a1 ?l1 ?c1 ?k1 ?a2 ?l2 ?c2 ?k2 ?a3 ?l3 ?c3 ?k3 ?a4 ?l4 ?c4 ?k4 ?a5 ?l5 ?c5 ?k5 ?a6 ?l6 ?c6 ?k6 ?a7 ?l7 ?c7 ?k7 ?a8 ?l8 ?c8 ?k8 ?a9 ?l9 ?c9 ?k9 ?a10 ?l10 ?c10 ?k10 ?a11 ?l11 ?c11 ?k11 ?a12 ?l12 ?c12 ?k12 ?a13 ?l13 ?c13 ?k13 ?a14 ?l14 ?c14 ?k14 ?a15 ?l15 ?c15 ?k15 ?a16 ?l16 ?c16 ?k16 ?a17 ?l17 ?c17 ?k17 ?a18 ?l18 ?c18 ?k18 ?a19 ?l19 ?c19 ?k19 ?a20 ?l20 ?c20 ?k20 ?a21 ?l21 ?c21 ?k21 ?a22 ?l22 ?c22 ?k22 ?a23 ?l23 ?c23 ?k23 ?gNO_NUMBERS ?LNO_NUMBERS ?LNO_NUMBERS_1 ?gALL_NUMBERS ?LALL_NUMBERS ?LALL_NUMBERS_1 ?gFIGURES ?gMOST_FIGURES ?gSMALL_LETTERS ?gMOST_LETTERS ?z0 ?z1 ?z2 ?z3 ?z4 ?z5 ?z6 ?z7 ?z8
    (case a0 => k_is)
    (case l0 => k_is)
    (case c0 => k_is)
    (case k0 => k_is)
    (case a1 => k_is)
    (case l1 => k_is)
    (case c1 => k_is)
    (case k1 => k_is)
    (case a2 => k_is)
    (case l2 => k_is)
    (case c2 => k_is)
    (case k2 => k_is)
    (case a3 => k_is)
    (case l3 => k_is)
    (case c3 => k_is)
    (case k3 => k_is)
    (case a4 => k_is)
    (case l4 => k_is)
    (case c4 => k_is)
    (case k4 => k_is)
    (case a5 => k_is)
    (case l5 => k_is)
    (case c5 => k_is)
    (case k5 => k_is)
    (case a6 => k_is)
    (case l6 => k_is)
    (case c6 => k_is)
    (case k6 => k_is)
    (case a7 => k_is)
    (case l7 => k_is)
    (case c7 => k_is)
    (case k7 => k_is)
    (case a8 => k_is)
    (case l8 => k_is)
    (case c8 => k_is)
    (case k8 => k_is)
    (case a9 => k_is)
    (case l9 => k_is)
    (case c9 => k_is)
    (case k9 => k_is)
    (case a10 => k_is)
    (case l10 => k_is)
    (case c10 => k_is)
    (case k10 => k_is)
    (case a11 => k_is)
    (case l11 => k_is)
    (case c11 => k_is)
    (case k11 => k_is)
    (case a12 => k_is)
    (case l12 => k_is)
    (case c12 => k_is)
    (case k12 => k_is)
    (case a13 => k_is)
    (case l13 => k_is)
    (case c13 => k_is)
    (case k13 => k_is)
    (case a14 => k_is)
    (case l14 => k_is)
    (case c14 => k_is)
    (case k14 => k_is)
    (case a15 => k_is)
    (case l15 => k_is)
    (case c15 => k_is)
    (case k15 => k_is)
    (case a16 => k_is)
    (case l16 => k_is)
    (case c16 => k_is)
    (case k16 => k_is)
    (case a17 => k_is)
    (case l17 => k_is)
    (case c17 => k_is)
    (case k17 => k_is)
    (case a18 => k_is)
    (case l18 => k_is)
    (case c18 => k_is)
    (case k18 => k_is)
    (case a19 => k_is)
    (case l19 => k_is)
    (case c19 => k_is)
    (case k19 => k_is)
    (case a20 => k_is)
    (case l20 => k_is)
    (case c20 => k_is)
    (case k20 => k_is)
    (case a21 => k_is)
    (case l21 => k_is)
    (case c21 => k_is)
    (case k21 => k_is)
    (case a22 => k_is)
    (case l22 => k_is)
    (case c22 => k_is)
    (case k22 => k_is)
    (case a23 => k_is)
    (case l23 => k_is)
    (case c23 => k_is)
    (case k23 => k_is)
    (case gNO_NUMBERS => k_is)
    (case LNO_NUMBERS => k_is)
    (case LNO_NUMBERS_1 => k_is)
    (case gALL_NUMBERS => k_is)
    (case LALL_NUMBERS => k_is)
    (case LALL_NUMBERS_1 => k_is)
    (case gFIGURES => k_is)
    (case gMOST_FIGURES => k_is)
    (case gSMALL_LETTERS => k_is)
    (case gMOST_LETTERS => k_is)
    (case z0 => k_is)
    (case z1 => k_is)
    (case z2 => k_is)
    (case z3 => k_is)
    (case z4 => k_is)
    (case z5 => k_is)
    (case z6 => k_is)
    (case z7 => k_is)
    (case z8 => k_is)