import PyProof.Rows.All
import Wide.All
import OpenK.AllK
import Wide.FinOn
import Lean
import PyProof.EqAt
import PyProof.EqKinds
import PyProof.TupleCall
import PyProof.IsiH_tuple
import PyProof.NsDelKeeps
import PyProof.FString4
import PyProof.ExcBaseAll.ValueError
import PyProof.ForAny
import KE.KIsAll
import KE.KSortTup
import KE.KLam
import KE.KNestM
import PyProof.StrWalks
import PyProof.SliceStr2
import PyProof.StrBlockI
import KE.KIntText
import PyProof.StrCalls2
import PyProof.StrLawsTight
import PyProof.Rows.FStrParts
import PyProof.Rows.StrInSeq3
import PyProof.TupleKey
import PyProof.IsRules
import PyProof.SumWalkG
import PyProof.EnumFor
import PyProof.EnumStmt
import PyProof.EnumMake
import PyProof.StrBlock2
import PyProof.ZipIter
import PyProof.ListNew
import PyProof.DictIter
import PyProof.DictFindH
import PyProof.ListRange
import PyProof.TupleOfGen
import PyProof.LongRange
import PyProof.DictValues
import KE.KDictList
import KE.KEqDict
import PyProof.P3In
import PyProof.TupleIter
import PyProof.WalksMore
import PySem.Challenge.RW_heldwhen_k48_asks_written
local macro_rules | `(tactic| exists $t) => `(tactic| with_unfolding_all exact $t)
local macro_rules | `(tactic| decide) => `(tactic| decide +kernel)
local macro_rules | `(tactic| ac_rfl) => `(tactic| (constructor <;> first | rfl | decide +kernel))
local macro_rules | `({$x:term,$xs:term,*}) => `(⟨$x,$xs,*⟩)
local macro_rules | `(∅) => `(by first|omega|decide +kernel|simp)
local macro_rules | `(‹$x›) => `(by simpa using $x)
local macro_rules | `(tactic| let ⟨$xs,*⟩ := $e) => do
  let rec go (n : Nat) (s : Lean.Syntax) : Lean.MacroM (Lean.TSyntax `rcasesPat) := match n with
    | 0 => Lean.Macro.throwUnsupported
    | n+1 => match s with
      | `(term| ⟨$ys,*⟩) => do
        let zs ← ys.getElems.mapM fun y => do let z ← go n y.raw; `(Lean.Parser.Tactic.rcasesPatLo| $z:rcasesPat)
        `(rcasesPat| ⟨$zs,*⟩)
      | `(term| _) => `(rcasesPat| _)
      | s => `(rcasesPat| $(⟨s⟩):ident)
  let zs ← xs.getElems.mapM fun y => do let z ← go 9 y.raw; `(Lean.Parser.Tactic.rcasesPatLo| $z:rcasesPat)
  `(tactic| obtain ⟨$zs,*⟩ := $e)
local macro_rules | `(tactic| rwa [$rs,*] $[$l:location]?) => do
  let ys ← rs.getElems.mapM fun r => `(Lean.Parser.Tactic.simpLemma| $(⟨r.raw[1]⟩):term)
  `(tactic| simp only [$ys,*] $[$l]?)
set_option Elab.async false
set_option linter.all false
set_option genSizeOf false
set_option genInjectivity false
set_option maxRecDepth 100000
noncomputable section
open PySem PySem.Spec Builtin.List Builtin.SmallTypes
abbrev Jo.{u}:=@Option.{u}
abbrev A0.{u}:=@List.{u}
abbrev A4:=Shared
abbrev A5:=Value
abbrev A6:=Addr
abbrev A7:=Program
abbrev A9:=Bool
abbrev AB:=World
abbrev AD:=Heap
abbrev AG:=Expr
abbrev AH:=Around
abbrev AJ:=Stmt
abbrev AN.{u}:=@Array.{u}
def A8:=@if_pos
def AA:=@if_neg
def AE:=@absurd
def AL:=@congrArg
namespace Y0
open PyProof.Rows
def AM:=@Option.bind_eq_some_iff
abbrev AF:=PySem.W.Frag
def AI:=@wpAny_bind
def AU:=@Heap.get?_push_of_some
def AR:=@wpAny_pure
def Ac:=@List.length_map
def B2:=@List.getElem?_eq_some_iff
def Ad:=@List.mem_cons
def Ao:=@List.size_toArray
def Ab:=@Heap.lt_size
def B3:=@List.getElem?_append_left
def Au:=@List.mem_cons_of_mem
def An:=@List.map_cons
def Af:=@Nat.le_refl
def B1:=@Heap.get?_push_size
def Ax:=@Nat.lt_of_lt_of_le
def Aw:=@List.mem_cons_self
def BG:=@List.mem_append_right
def BA:=@List.mem_singleton
def BD:=@List.length_append
def B9:=@List.length_cons
def Bi:=@List.getElem?_append_right
def B8:=@List.map_append
def Av:=@Nat.ne_of_lt
def BL:=@List.not_mem_nil
def Bd:=@List.mem_of_getElem?
def Ay:=@wpAny_field
def BK:=@Nat.lt_irrefl
def Cf:=@List.getElem?_set_self
def D7:=@List.getElem?_eq_getElem
def Bp:=@Bool.false_eq_true
def Bo:=@PySem.W.mg_none_of
def Ba:=@decide_eq_false
def BM:=@Nat.le_trans
def Bw:=@Bool.false_ne_true
def BZ:=@Heap.size_push
def Bn:=@List.lookup_cons
def Bv:=@List.getElem?_map
def Bu:=@List.append_assoc
def Bt:=@Nat.lt_succ_of_lt
def DK:=@wpAny_callSpecial?_slot
def Bm:=@List.append_nil
def Bl:=@PySem.W.kia_one
def Ce:=@Int.toNat_natCast
def Be:=@wpAny_holding
def Bk:=@decide_eq_true
def Cd:=@wpAny_call_entry
def D6:=@List.flatMap_cons
def CR:=@List.mem_append
def zaX:=@Heap.get?_update_self
def Bj:=@List.map_nil
def D5:=@Option.bind_some
def za0:=@List.getElem?_set_ne
def Ci:=@wpAny_seqItems
def za2:=@Heap.get?_update_other
def Bx:=@List.mem_map
def za4:=@wpAny_setField_rec
def DL:=@List.forIn_cons
def za6:=@wpAny_newObj_type
def D9:=@List.any_cons
def D8:=@PySem.W.mg_of
def za9:=@Bool.and_eq_true
def zba:=@beq_self_eq_true
def zbb:=@wpAny_Call_Name_kw
def D4:=@List.map_map
def zbd:=@wpAny_truthy_bool
def DJ:=@Nat.lt_trans
def zbf:=@List.getElem_of_mem
def zbg:=@List.getElem?_replicate
def D1:=@wpAny_mono
def zbi:=@PySem.W.cellsFrom_some
def zbj:=@Nat.le_of_lt
def zbk:=@List.forIn_nil
def zbl:=@List.mem_append_left
def zbm:=@List.cons_append
def zbn:=@List.all_eq_true
def zbo:=@wpAny_passesOwn
def zbp:=@List.nodup_cons
def zbq:=@List.drop_eq_getElem_cons
def zbr:=@codeAny_mono
def zbs:=@Array.forIn_toList
def zbt:=@Nat.zero_le
def zbu:=@wpAny_attempt
def zbv:=@Nat.lt_succ_self
def zbw:=@List.flatMap_nil
def zbx:=@wpAny_specialOf
def zby:=@wpAny_rule
def zbz:=@List.find?_cons
def zbA:=@Option.map_some
def zbB:=@wpAny_updateSeq
def zbC:=@List.eq_nil_of_length_eq_zero
def zbD:=@List.filterMap_cons
def zbE:=@Array.length_toList
def zbF:=@PySem.W.plainGet_of
def zbG:=@List.length_pos_iff
def zbH:=@Array.toList_append
def zbI:=@List.eraseIdx_length_sub_one
def zbJ:=@List.set_cons_zero
def zbK:=@List.nodup_append
def zbL:=@wpAny_pyIter_list
def zbM:=@PySem.W.kitx_list
def zbN:=@PySem.W.kitx_dict
def zbO:=@List.length_take
def zbP:=@wpAny_typeOf
def zbQ:=@List.getElem_mem
def zbR:=@wpAny_execs_nil
def zbS:=@List.of_mem_zip
def zbT:=@List.length_nil
end Y0
open Y0
namespace Y1z
abbrev Ta:=A0 (A0 Int)
abbrev Tb:=A5->A4->Prop
abbrev Tc:=A0 (A6×Obj)
abbrev Td:=Str->Jo A5
abbrev Te:=A0 A5
abbrev Tf:=A0 A6
abbrev Tg:=Jo A5
abbrev Ti:=A0 Int
abbrev Tj:=AN A5
abbrev Tk:=A0 AG
abbrev Tl:=A0 AJ
abbrev Tn:=A0 Str
end Y1z
open Y1z
namespace L2
open PyProof.Rows
section
variable {prog:A7}{w:AB}{A:AH}{E:Tb}{s:A4}
def jj {Q:Int->A4->Prop}(h:Q 0xFCA86420 {s with toks:=s.toks+1}):wpAny (model prog w) A (pyHash .none) Q E s:=by
 have hT:s.TypeIs .none "NoneType":=rfl
 show wpAny _ _ (pyHashByItsType .none) _ _ s
 unfold pyHashByItsType;refine AI (wpAny_cRoomFor_byValue rfl ?_);refine AI (zbx hT F.slot_NoneType_hash.lookup ?_);rw[AA ∅];refine AI (zbx hT F.slot_NoneType_hash.lookup ?_);rw[AA ∅]
 show wpAny _ _ (callSpecialIfBoundUnlessNone? .none "__hash__" _ >>= _) Q E s
 refine AI (wpAny_callSpecialIfBoundUnlessNone?_slot hT F.slot_NoneType_hash
  (Cd F.slot_NoneType_hash hT F.entry_NoneType_hash
   (show wpAny _ _ (do ret (←mkInt 0xFCA86420)) _ _ s from wpAny_ret_mkInt ?_) (F.args_NoneType_hash_1 _)))
 show wpAny _ _ (if (decide (-(2:Int) ^ 63<=0xFCA86420)&&decide ((0xFCA86420:Int)<2 ^ 63))=true then _ else _) Q E _
 rw[A8 ∅];exact AR h
def jk {Q:A9->A4->Prop}(h:Q true s):wpAny (model prog w) A (eqBool .none .none) Q E s:=by unfold eqBool;refine Be ?_;rw[A8 ∅];exact AI (zby (AR h))
end
abbrev ci:=Sum Int (Jo Str)
noncomputable def kG:ci->A5->A9
 |.inl k,v=>Value.isInt k v
 |.inr (some x),v=>Value.isStrOf x v
 |.inr none,v=>v == .none
noncomputable def GF (w:AB):ci->Int
 |.inl k=>hashInt k
 |.inr (some x)=>hashStr w x
 |.inr none=>0xFCA86420
theorem bv:∀{k:ci} {v:A5},kG k v=true->(∃i t,k=Sum.inl i/\v=Value.int i t)\/(∃x t,k=Sum.inr (some x)/\v=Value.str x t)\/(k=Sum.inr none/\v=Value.none)
 |.inl i,v,h=>by let⟨t,e⟩:=Value.isInt_shape (k:=i) (v:=v) h;exact .inl {i,t,rfl,e}
 |.inr (some x),v,h=>by let⟨t,e⟩:=Value.isStrOf_shape (x:=x) (v:=v) h;exact .inr (.inl {x,t,rfl,e})
 |.inr none,v,h=>.inr (.inr {rfl,eq_of_beq h})
def sW (i:Int)(t:Tok):kG (.inl i) (.int i t)=true:=by simp[kG,Value.isInt]
def sU (x:Str)(t:Tok):kG (.inr (some x)) (.str x t)=true:=by simp[kG,Value.isStrOf]
def sV:kG (.inr none) .none=true:=by simp[kG]
def JBy (a b:Int):decide ((Sum.inl a:ci)=Sum.inl b)=(a == b):=by
 by_cases e:a=b
 ·subst e;simp
 ·have h:¬ (Sum.inl a:ci)=Sum.inl b:=λq=>e (Sum.inl.inj q);rw[Ba h];exact(beq_eq_false_iff_ne.mpr e).symm
def JBx (a b:Str):decide ((Sum.inr (some a):ci)=Sum.inr (some b))=decide (a=b):=by
 by_cases e:a=b
 ·subst e;simp
 ·have h:¬ (Sum.inr (some a):ci)=Sum.inr (some b):=λq=>e (Option.some.inj (Sum.inr.inj q));rw[Ba h,Ba e]
noncomputable def bG (prog:A7)(w:AB):PySem.KeyKind prog w ci where
 is:=kG
 hash:=GF w
 inj:=λv a b ha hb=>by
  rcases bv ha with⟨i,t,rfl,rfl⟩|⟨x,t,rfl,rfl⟩|⟨rfl,rfl⟩
  ·rcases bv hb with⟨j,u,rfl,e⟩|⟨y,u,rfl,e⟩|⟨rfl,e⟩
   ·injection e with e1 _;rw[e1]
   ·exact nomatch e
   ·exact nomatch e
  ·rcases bv hb with⟨j,u,rfl,e⟩|⟨y,u,rfl,e⟩|⟨rfl,e⟩
   ·exact nomatch e
   ·injection e with e1 _;rw[e1]
   ·exact nomatch e
  ·rcases bv hb with⟨j,u,rfl,e⟩|⟨y,u,rfl,e⟩|⟨rfl,e⟩
   ·exact nomatch e
   ·exact nomatch e
   ·rfl
 byValue:=λk v h=>by
  rcases bv h with⟨i,t,rfl,rfl⟩|⟨x,t,rfl,rfl⟩|⟨rfl,rfl⟩ <;> rfl
 pyHash:=λhv h=>by
  rcases bv hv with⟨i,t,rfl,rfl⟩|⟨x,t,rfl,rfl⟩|⟨rfl,rfl⟩
  ·exact wpAny_pyHash_int h
  ·exact wpAny_pyHash_str h
  ·exact jj h
 eqBool:=λhu hv h=>by
  rcases bv hu with⟨i,t,rfl,rfl⟩|⟨x,t,rfl,rfl⟩|⟨rfl,rfl⟩
  ·rcases bv hv with⟨j,u,rfl,rfl⟩|⟨y,u,rfl,rfl⟩|⟨rfl,rfl⟩
   ·rw[JBy] at h;exact wpAny_eqBool_int h
   ·exact SeqAt.EqAt.int_str i t y u _ _ _ _ ‹h›
   ·exact SeqAt.EqAt.int_none i t _ _ _ _ ‹h›
  ·rcases bv hv with⟨j,u,rfl,rfl⟩|⟨y,u,rfl,rfl⟩|⟨rfl,rfl⟩
   ·exact SeqAt.EqAt.str_int x t j u _ _ _ _ ‹h›
   ·rw[JBx] at h;exact wpAny_eqBool_str h
   ·exact SeqAt.EqAt.str_none x t _ _ _ _ ‹h›
  ·rcases bv hv with⟨j,u,rfl,rfl⟩|⟨y,u,rfl,rfl⟩|⟨rfl,rfl⟩
   ·exact SeqAt.EqAt.none_int j u _ _ _ _ ‹h›
   ·exact SeqAt.EqAt.none_str y u _ _ _ _ ‹h›
   ·exact jk ‹h›
 «strs»:=λk x t v h=>by
  rcases bv h with⟨i,u,rfl,e⟩|⟨y,u,rfl,e⟩|⟨rfl,e⟩
  ·exact nomatch e
  ·injection e with e1 _
   subst e1;cases v <;> rfl
  ·exact nomatch e
def pq (prog:A7)(w:AB)(i:Int)(t:Tok):(bG prog w).is (.inl i) (.int i t)=true:=sW i t
def pp (prog:A7)(w:AB)(x:Str)(t:Tok):(bG prog w).is (.inr (some x)) (.str x t)=true:=sU x t
set_option genInjectivity true in
inductive V where
 |non|bl (b:Bool)|int (i:Int)|str (x:Str)|byt (b:Array UInt8)|flt (b:UInt64)|ref (a:Addr)|ty (n:String)
 deriving DecidableEq
def aW:V->A5->Prop
 |.non,u=>u=Value.none
 |.bl b,u=>u=Value.bool b
 |.int i,u=>∃t,u=Value.int i t
 |.str x,u=>∃t,u=Value.str x t
 |.byt b,u=>∃t,u=Value.bytes b t
 |.flt b,u=>∃t,u=Value.float b t
 |.ref a,u=>u=Value.ref a
 |.ty n,u=>u=Value.type n
abbrev aO:A0 V->A0 A5->Prop:=Paired aW
def aO.length {xs:A0 V}{us:Te}(r:aO xs us):xs.length=us.length:=Paired.length r
theorem aO.get:∀{xs:A0 V} {us:Te} {i:Nat} {x:V},aO xs us->xs[i]?=some x->∃u,us[i]?=some u/\aW x u
 |_,_,_,_,.nil,e=>by simp at e
 |_,_,0,_,.cons r _,e=>by simp at e;subst e;exact{_,rfl,r}
 |_,_,i+1,x,.cons _ t,e=>by let⟨u,h1,h2⟩:=aO.get (i:=i) (x:=x) t ‹e›;exact{u,by simpa using h1,h2}
theorem aO.set {x:V}{u:A5}(r:aW x u):∀{xs:A0 V} {us:Te} (i:Nat),aO xs us->aO (xs.set i x) (us.set i u)
 |_,_,_,.nil=>.nil
 |_,_,0,.cons _ t=>.cons r t
 |_,_,i+1,.cons q t=>.cons q (aO.set r i t)
theorem aO.append:∀{xs ys:A0 V} {us ws:Te},aO xs us->aO ys ws->aO (xs++ys) (us++ws)
 |_,_,_,_,.nil,s=>s
 |_,_,_,_,.cons r t,s=>.cons r (aO.append t s)
theorem aO.take:∀{xs:A0 V} {us:Te} (n:Nat),aO xs us->aO (xs.take n) (us.take n)
 |_,_,0,_=>.nil
 |_,_,_+1,.nil=>.nil
 |_,_,n+1,.cons r t=>.cons r (aO.take n t)
theorem aO.drop:∀{xs:A0 V} {us:Te} (n:Nat),aO xs us->aO (xs.drop n) (us.drop n)
 |_,_,0,r=>r
 |_,_,_+1,.nil=>.nil
 |_,_,n+1,.cons _ t=>aO.drop n t
def kq:Jo V->Jo A5->Prop
 |some v,some u=>aW v u
 |none,none=>True
 |_,_=>False
def KV {κ:Type}:A0 (κ×V)->A0 (κ×A5)->Prop:=Paired λ(p:κ×V) (q:κ×A5)=>p.1=q.1/\aW p.2 q.2
noncomputable def kV:ci->V
 |.inl i=>.int i
 |.inr (some x)=>.str x
 |.inr none=>.non
inductive HO where
 |lst (xs:List V)
 |tup (xs:List V)
 |dK (kvs:List (ci×V))|dT (kvs:List (List ci×V))
 |set (S:Int->Bool) (n:Nat)
 |ins (C dx:Addr) (fs:List (Str×V))
 |own (x:Addr)
 |xd (fs:List (Str×V))
 |met (f x:Addr)
 |rng (lo hi:Int)
 |frz (o:Obj) (u:HO)
 |tbl (ps:Tj)
 |ext (φ:Heap->Prop)
abbrev Hp:=A6->Jo HO
noncomputable def upd (H:Hp)(a:A6)(o:HO):Hp:=λb=>if b=a then some o else H b
def cO {H:Hp}{a:A6}{o:HO}:upd H a o a=some o:=by unfold upd;rw[A8 rfl]
def ay {H:Hp}{a b:A6}{o:HO}(h:b≠a):upd H a o b=H b:=by unfold upd;rw[AA h]
def JDz {H:Hp}{a b:A6}{o u:HO}(h:H a=some o)(h':H b=some u)(d:o≠u):a≠b:=by intro e;subst e;rw[h] at h';exact d (Option.some.inj h')
def eN {H:Hp}{a b:A6}{o:HO}(h:H a=some o)(h':H b=none):a≠b:=by intro e;subst e;rw[h] at h';cases h'
def jh (h:AD)(a:A6)(items:Tj):Prop:=IsTup h a items/\∀o,h.get? a=some o->o.dict=none
def jh.new (h:AD)(items:Tj):jh (h.push {cls:=.type "tuple",data:=.seq items}) h.objs.size items:={IsTup.new _ _,λo e=>by rw[B1 _ rfl] at e;cases e;rfl}
section
variable (P:A7)(w:AB)
def b7 (H:Hp)(h:AD)(a:A6):HO->Prop
 |.lst xs=>xs.length<=sizeLine/\∃(its:Te) (n:Nat),aO xs its/\h.get? a=some {cls:=.type "list",data:=.seq its.toArray n}
 |.tup xs=>xs.length<=sizeLine/\∃its:Te,aO xs its/\jh h a its.toArray
 |.dK kvs=>kvs.length<=sizeLine/\(a == sysModules)=false/\∃vs,KV kvs vs/\h.DictOf (bG P w) a vs
 |.dT kvs=>kvs.length<=sizeLine/\(a == sysModules)=false/\∃xs:A0 (A0 ci×A6×A5),
   Paired (λ(p:A0 ci×V) (q:A0 ci×A6×A5)=>p.1=q.1/\H q.2.1=some (.tup (p.1.map kV))/\aW p.2 q.2.2) kvs xs /\
   ∃o es ep,h.get? a=some o/\o.ExactDict/\o.data=.dict es ep/\es.toList=xs.map (entryOfKey (tupleKind (bG P w)))/\(xs.map (·.1)).Nodup
 |.set S n=>h.SetOf (intKind P w) a S n
 |.ins C dx fs=>H dx=some (.own a)/\fs.length<=1000/\dx≠a/\h.get? a=some (PySem.W.instObj C dx) /\
   ∃mA,h.Ns1 dx mA/\(∀f,kq (fs.lookup f) (mA f))/\PySem.Within mA (fs.map (·.1))
 |.own _=>∃o,h.get? a=some o
 |.xd fs=>∃mA,h.Ns1 a mA/\∀f,kq (fs.lookup f) (mA f)
 |.rng lo hi=>∃t u v,h.get? a=some {cls:=.type "range",data:=.fields #[.int lo t,.int hi u,.int 1 v]}
 |.frz o u=>h.get? a=some o/\b7 H h a u
 |.tbl ps=>h.get? a=some {cls:=.none,data:=.fields ps}
 |.met f x=>h.get? a=some (PySem.W.methodObj (.ref f) (.ref x))
 |.ext φ=>φ h/\(∃o,h.get? a=some o)/\∀h1 h2:AD,φ h1->(∀o,h1.get? a=some o->h2.get? a=some o)->φ h2
def gc (H:Hp)(h:AD):Prop:=∀a o,H a=some o->b7 P w H h a o
end
section
variable {P:A7}{w:AB}{H H':Hp}{h h':AD}{a:A6}{o:HO}
theorem b7.lt (x:b7 P w H h a o):a<h.objs.size:=by
 cases o with
 |lst xs=>let⟨_,_,_,_,e⟩:=x;exact Ab e
 |tup xs=>let⟨_,_,_,p⟩:=x;exact p.1.lt
 |dK kvs=>let⟨_,_,_,_,o,_,_,e,_⟩:=x;exact Ab e
 |dT kvs=>let⟨_,_,_,_,o,_,_,e,_⟩:=x;exact Ab e
 |set S n=>let⟨o,_,_,_,e,_⟩:=x;exact Ab e
 |ins C dx fs=>let⟨_,_,_,e,_⟩:=x;exact Ab e
 |own y=>let⟨_,e⟩:=x;exact Ab e
 |xd fs=>let⟨_,⟨_,_,_,e,_⟩,_⟩:=x;exact Ab e
 |rng lo hi=>let⟨_,_,_,e⟩:=x;exact Ab e
 |frz ob u=>let⟨e,_⟩:=x;exact Ab e
 |tbl ps=>exact Ab (show h.get? a=some _ from x)
 |met f y=>exact Ab (show h.get? a=some _ from x)
 |ext φ=>let⟨_,⟨_,e⟩,_⟩:=x;exact Ab e
theorem Paired.mapP {Z β:Type}{F G:Z->β->Prop}{l₁:A0 Z}{l₂:A0 β}(h:Paired F l₁ l₂)(f:∀a b,F a b->G a b):Paired G l₁ l₂:=by
 induction h with
 |nil=>exact .nil
 |cons r t ih=>exact .cons (f _ _ r) ih
theorem b7.stay (x:b7 P w H h a o)(k:∀b u,(b=a\/H b=some (.own a))->h.get? b=some u->h'.get? b=some u)
  (ho:∀b,H b=some (.own a)->H' b=some (.own a)) (ht:∀b xs,H b=some (.tup xs)->H' b=some (.tup xs)):b7 P w H' h' a o:=by
 induction o with
 |lst xs=>let⟨z,its,n,r,e⟩:=x;exact{z,its,n,r,k _ _ (.inl rfl) e}
 |tup xs=>let⟨z,its,r,⟨ob,e,c⟩,dn⟩:=x;exact{z,its,r,{ob,k _ _ (.inl rfl) e,c},λo q=>by rw[k _ _ (.inl rfl) e] at q;cases q;exact dn _ e}
 |dK kvs=>let⟨z,y,vs,r,ob,es,ep,e,c⟩:=x;exact{z,y,vs,r,ob,es,ep,k _ _ (.inl rfl) e,c}
 |dT kvs=>
  let⟨z,y,xs,r,ob,es,ep,e,c⟩:=x;exact{z,y,xs,Paired.mapP r λp q z=>{z.1,ht _ _ z.2.1,z.2.2},ob,es,ep,k _ _ (.inl rfl) e,c}
 |set S n=>let⟨ob,es,ep,t,e,c⟩:=x;exact{ob,es,ep,t,k _ _ (.inl rfl) e,c}
 |ins C dx fs=>
  let⟨d,z,ne,e,mA,⟨od,es,ep,e2,c⟩,r⟩:=x;exact{ho _ d,z,ne,k _ _ (.inl rfl) e,mA,{od,es,ep,k _ _ (.inr d) e2,c},r}
 |own y=>let⟨ob,e⟩:=x;exact{ob,k _ _ (.inl rfl) e}
 |xd fs=>let⟨mA,⟨od,es,ep,e,c⟩,r⟩:=x;exact{mA,{od,es,ep,k _ _ (.inl rfl) e,c},r}
 |rng lo hi=>let⟨t,u,v,e⟩:=x;exact{t,u,v,k _ _ (.inl rfl) e}
 |frz ob u ih=>let⟨e,q⟩:=x;exact{k _ _ (.inl rfl) e,ih q}
 |tbl ps=>
  have e:h.get? a=some {cls:=.none,data:=.fields ps}:=x
  show h'.get? a=some {cls:=.none,data:=.fields ps}
  exact k a _ (.inl rfl) e
 |met f y=>
  have e:h.get? a=some (PySem.W.methodObj (.ref f) (.ref y)):=x
  show h'.get? a=some (PySem.W.methodObj (.ref f) (.ref y))
  exact k a _ (.inl rfl) e
 |ext φ=>let⟨p,⟨o,e⟩,st⟩:=x;exact{st _ _ p λo q=>k _ _ (.inl rfl) q,{o,k _ _ (.inl rfl) e},st}
def gc.lt (x:gc P w H h)(e:H a=some o):a<h.objs.size:=(x a o e).lt
theorem gc.fresh (x:gc P w H h)(e:h.objs.size<=a):H a=none:=by
 cases q:H a with
 |none=>rfl
 |some u=>exact AE (Ax (x.lt q) e) (BK _)
def gc.kept (x:gc P w H h)(k:∀b u,h.get? b=some u->h'.get? b=some u):gc P w H h':=λa o e=>
 (x a o e).stay (λb u _ q=>k b u q) (λ_ q=>q) λ_ _ q=>q
def gc.laid (x:gc P w H h)(k:∀b u,h.get? b=some u->h'.get? b=some u)(hp:h.objs.size<=a)(new:b7 P w (upd H a o) h' a o):gc P w (upd H a o) h':=λb u e=>by
 have hn:=x.fresh hp;by_cases hb:b=a
 ·subst hb;rw[cO] at e;cases e;exact new
 ·rw[ay hb] at e;exact(x b u e).stay (λc v _ q=>k c v q) (λc q=>by rw[ay (eN q hn)];exact q) λc xs q=>by rw[ay (eN q hn)];exact q
end
def Rd (H:Hp)(a:A6)(u:HO):Prop:=H a=some u\/∃o,H a=some (.frz o u)
def Rd.ok {H:Hp}{h:AD}{a:A6}{u:HO}(r:Rd H a u)(x:gc P w H h):b7 P w H h a u:=by
 rcases r with r|⟨o,r⟩
 ·exact x a u r
 ·let⟨_,q⟩:=x a _ r;exact q
def ES:Jo HO->Prop
 |some (.lst _)=>True
 |some (.dK _)=>True
 |some (.dT _)=>True
 |some (.set _ _)=>True
 |some (.ins _ _ _)=>True
 |some (.ext _)=>True
 |_=>False
section
variable {P:A7}{w:AB}{H:Hp}{h h':AD}{x e:A6}{o':HO}
def gc.write (ok:gc P w H h)(mu:ES (H x))(he:e=x\/H e=some (.own x))(k:∀b u,b≠e->h.get? b=some u->h'.get? b=some u)(heo:∃u,h'.get? e=some u)
  (new:b7 P w (upd H x o') h' x o'):gc P w (upd H x o') h':=λb u q=>by
 have nown:∀c y,H c=some (.own y)->c≠x:=λc y r z=>by subst z;rw[r] at mu;exact mu
 have ntup:∀c xs,H c=some (.tup xs)->c≠x:=λc xs r z=>by subst z;rw[r] at mu;exact mu
 by_cases hb:b=x
 ·subst hb;rw[cO] at q;cases q;exact new
 ·rw[ay hb] at q
  by_cases Df:b=e
  ·have q':H b=some (.own x):=by
    rcases he with z|z
    ·exact AE (Df.trans z) hb
    ·rw[Df];exact z
   rw[q] at q';cases q';let⟨v,hv⟩:=heo;exact{v,by rw[Df];exact hv}
  ·refine(ok b u q).stay (λc v hc r=>k c v ?_ r) (λc r=>by rw[ay (nown c b r)];exact r) λc xs r=>by rw[ay (ntup c xs r)];exact r
   rcases hc with rfl|hc
   ·exact Df
   ·rintro rfl
    rcases he with z|z
    ·exact nown c b hc z
    ·rw[hc] at z;cases z;exact hb rfl
end
structure Un (fs ex:Tf)(H H':Hp)(h h':Heap):Prop where
 keep:∀b o,h.get? b=some o->H b=none->b∉fs->b∉ex->h'.get? b=some o
 slot:∀b o,h.get? b=some o->H b=none->b∈fs->b∉ex->∃sl,h'.get? b=some {o with slots:=sl}
 free:∀b o,h.get? b=some o->H b=none->b∉ex->H' b=none
 there:∀b o,h.get? b=some o->b∉ex->∃o',h'.get? b=some o'
 tups:∀b xs,H b=some (.tup xs)->H' b=some (.tup xs)
 frzs:∀b o u,H b=some (.frz o u)->H' b=some (.frz o u)
 tbls:∀b ps,H b=some (.tbl ps)->∃more,H' b=some (.tbl (ps++more))
section
variable {fs ex:Tf}{H H1:Hp}{h h1 h':AD}{a x e:A6}{o:HO}
def Un.any (u:Un fs ex H H1 h h1){b:A6}{ob:Obj}(q:h.get? b=some ob)(n:H b=none)(hx:b∉ex):∃sl,h1.get? b=some {ob with slots:=sl}:=by
 by_cases hb:b∈fs
 ·exact u.slot b ob q n hb hx
 ·exact{ob.slots,u.keep b ob q n hb hx}
def Un.kept (k:∀b u,h.get? b=some u->h'.get? b=some u):Un fs ex H H h h' :=
 {λb ob q _ _ _=>k b ob q,λb ob q _ _ _=>{ob.slots,k b ob q},λ_ _ _ n _=>n,λb ob q _=>{ob,k b ob q},λ_ _ q=>q,λ_ _ _ q=>q,λ_ ps q=>{#[],by rw[q];simp}}
def Un.refl:Un fs ex H H h h:=Un.kept λ_ _ q=>q
def Un.laid (k:∀b u,h.get? b=some u->h'.get? b=some u)(hp:h.objs.size<=a)(hn:H a=none):Un fs ex H (upd H a o) h h' where
 keep:=λb u q _ _ _=>k b u q
 slot:=λb u q _ _ _=>{u.slots,k b u q}
 free:=λb u q n _=>by rw[ay (Av (Ax (Ab q) hp))];exact n
 there:=λb u q _=>{u,k b u q}
 tups:=λb xs q=>by rw[ay (eN q hn)];exact q
 frzs:=λb u xs q=>by rw[ay (eN q hn)];exact q
 tbls:=λb ps q=>{#[],by rw[ay (eN q hn),q];simp}
def Un.write (mu:ES (H x))(he:e=x\/H e=some (.own x))(k:∀b u,b≠e->h.get? b=some u->h'.get? b=some u)(heo:∃u,h'.get? e=some u):Un fs ex H (upd H x o) h h':=by
 have hx:∀b,H b=none->b≠x:=λb n z=>by subst z;rw[n] at mu;exact mu
 have hb:∀b,H b=none->b≠e:=λb n z=>by
  subst z;rcases he with r|r
  ·exact hx b n r
  ·rw[n] at r;cases r
 have hm:∀b u,H b=some u->¬ ES (some u)->b≠x:=λb u q nm z=>by subst z;rw[q] at mu;exact nm mu
 refine{λb u q n _ _=>k b u (hb b n) q,λb u q n _ _=>{u.slots,k b u (hb b n) q},λb u q n _=>by rw[ay (hx b n)];exact n,λb u q _=>?_,
  λb xs q=>by rw[ay (hm b _ q λz=>z)];exact q,λb u xs q=>by rw[ay (hm b _ q λz=>z)];exact q,λb ps q=>{#[],by rw[ay (hm b _ q λz=>z),q];simp}}
 by_cases Df:b=e
 ·subst Df;exact heo
 ·exact{u,k b u Df q}
end
noncomputable def E5 (h:AD)(H:Hp):Tf:=(List.range h.objs.size).filter λa=>(H a).isSome
noncomputable def oi (h:AD)(H:Hp):AD:=PySem.W.hideAll h (E5 h H)
def tw (h:AD)(H:Hp):(oi h H).objs.size=h.objs.size:=PySem.W.hideAll_size _ _
def vP {h:AD}{H:Hp}{b:A6}{o:Obj}(e:h.get? b=some o)(n:H b=none):(oi h H).get? b=some o :=
 PySem.W.hideAll_get _ e λhm=>by have q:(H b).isSome=true:=(List.mem_filter.mp hm).2;rw[n] at q;simp at q
theorem xJ {h:AD}{H:Hp}{b:A6}{o:Obj}(e:(oi h H).get? b=some o):h.get? b=some o/\H b=none:=by
 have e':h.get? b=some o:=PySem.W.of_hideAll (E5 h H) e;refine{e',?_}
 cases q:H b with
 |none=>rfl
 |some x=>
  have hm:b∈E5 h H:=List.mem_filter.mpr {List.mem_range.mpr (Ab e'),by simp[q]};have z:(oi h H).get? b=none:=PySem.W.hideAll_none (E5 h H) hm;rw[z] at e;cases e
noncomputable def yi (g h:AD)(L:A6):Tc:=(List.range h.objs.size).filterMap λa=>if a=L\/(g.get? a).isSome=true then none else (h.get? a).map λo=>(a,o)
noncomputable def rest (g h:AD)(L d:A6):Tc:=(yi g h L).filter λp=>decide (p.1≠d)
structure Mod (K:AF)(mg:Td)(base:Heap):Prop where
 kin:K.In base
 glob:base.Ns mainGlobals mg
 blt:∃mb,base.Ns builtinsNs mb/\∀x:Str,x≠"__name__"->mb x=bootBuiltins x
 nolimit:base.NoLimit
structure Cx where
 prog:Program
 w:World
 K:AF
 mg:Td
 base:Heap
 A:Around
 N:Tn
 s₀:Shared
 H₀:Hp
 env:Env
 outer:List Env
 stack:List Env
 ex:Tf
 fn:Str->Bool
 calm:Bool
 pn:Tc
 xe:Tb
noncomputable def tD (l:A0 Env):Tf:=l.filterMap (·.frame)
abbrev Cx.fs (X:Cx):Tf:=tD X.outer
def Gb (sc:Scope)(x:Str):Prop:=sc.names.lookup x=some .local\/sc.names.lookup x=some .cell\/sc.names.lookup x=some .free
def Cu (sc:Scope)(x:Str):Prop:=sc.names.lookup x=some .local\/sc.names.lookup x=some .cell
def Ik (env:Env)(h:AD)(m:Td)(x:Str)(u:A5):Prop :=
 (env.kindOf x=some .local/\m x=some u)\/((env.kindOf x=some .cell\/env.kindOf x=some .free)/\∃c,env.cells.lookup x=some c/\h.IsCell c (some u))
structure Cx.Ok (X:Cx):Prop where
 mod:Mod X.K X.mg X.base
 kind:X.env.scope.kind=.function
 glob:X.env.globals=mainGlobals
 blt:X.env.builtins=builtinsNs
 above:X.s₀.heap.objs.size<=X.env.locals
 inj:∀x y c,X.env.cells.lookup x=some c->X.env.cells.lookup y=some c->x=y
 has:∀x,(X.env.kindOf x=some .cell\/X.env.kindOf x=some .free)->∃c,X.env.cells.lookup x=some c
 cab:∀x c,X.fn x=true->X.env.cells.lookup x=some c->X.s₀.heap.objs.size<=c
 hd:X.calm=true->X.A.handled=none
 frames:X.A.frames=some X.stack
 stk:X.stack=X.outer\/(X.stack=X.env::X.outer/\X.env.frame=some X.env.locals)
 exf:∀b∈X.ex,b≠X.env.locals/\∀x c,X.env.cells.lookup x=some c->c≠b
 bs:∀b o,X.base.get? b=some o->X.s₀.heap.get? b=some o/\X.H₀ b=none
 bsz:X.base.objs.size<=X.s₀.heap.objs.size
 noex:∀b o,X.base.get? b=some o->b∉X.ex
 exfs:∀b∈X.ex,b∉X.fs
 funs:X.s₀.heap.FunFrames X.base X.outer
 frf:∀b∈X.fs,X.H₀ b=none
structure aE (X:Cx)(A1:Tc)(Y:List (Option V))(H:Hp)(s:Shared):Prop where
 ok:X.Ok
 os:s.os=X.s₀.os
 bare:AllBare s.gens
 base:Un X.fs X.ex X.H₀ H X.s₀.heap s.heap
 loc:∃m,s.heap.Ns X.env.locals m/\∀(i:Nat) (x:Str) (v:V),X.N[i]?=some x->Y[i]?=some (some v)->Gb X.env.scope x->∃u,aW v u/\Ik X.env s.heap m x u
 cell:∀x c,X.env.cells.lookup x=some c->∃v,s.heap.IsCell c v
 free:H X.env.locals=none
 freeC:∀x c,X.env.cells.lookup x=some c->H c=none
 pin:∀p∈X.pn++A1,s.heap.get? p.1=some p.2/\H p.1=none/\p.1≠X.env.locals/\p.1∉X.fs/\∀v,p.2.data≠.cell v
 hok:gc X.prog X.w H s.heap
 len:Y.length=X.N.length
section
variable {X:Cx}{A1:Tc}{Y:A0 (Jo V)}{H H':Hp}{s:A4}{h':AD}
def Cx.Ok.nofr (ok:X.Ok){b:A6}{o:Obj}(e:X.base.get? b=some o):b∉X.fs:=λhb=>by have:=(ok.funs.mem hb).1;rw[e] at this;cases this
def aE.bs (I:aE X A1 Y H s):∀b o,X.base.get? b=some o->s.heap.get? b=some o/\H b=none:=λb o e=>
 {I.base.keep b o (I.ok.bs b o e).1 (I.ok.bs b o e).2 (I.ok.nofr e) (I.ok.noex b o e),I.base.free b o (I.ok.bs b o e).1 (I.ok.bs b o e).2 (I.ok.noex b o e)}
def aE.bk (I:aE X A1 Y H s):∀b o,X.base.get? b=some o->s.heap.get? b=some o:=λb o e=>(I.bs b o e).1
def aE.mod (I:aE X A1 Y H s):Mod X.K X.mg X.base:=I.ok.mod
def aE.kIn (I:aE X A1 Y H s):X.K.In s.heap:=I.ok.mod.kin.keeps I.bk
def aE.lt (I:aE X A1 Y H s):X.env.locals<s.heap.objs.size:=let ⟨_,hn,_⟩:=I.loc;hn.lt
def aE.sz (I:aE X A1 Y H s):X.s₀.heap.objs.size<=s.heap.objs.size:=BM I.ok.above (zbj I.lt)
def aE.nofs (I:aE X A1 Y H s){a:A6}(h:s.heap.objs.size<=a):a∉X.fs:=λhb=>by let⟨_,o,ho,_⟩:=I.ok.funs.mem hb;exact AE (Ax (Ab ho) (BM I.sz h)) (BK _)
def aE.cne (I:aE X A1 Y H s):∀x c,X.env.cells.lookup x=some c->c≠X.env.locals:=λx c e z=>by let⟨v,o,ho,hd⟩:=I.cell x c e;let⟨m,⟨o',es,ep,DE,hd',_⟩,_⟩:=I.loc;rw[z,DE] at ho;cases ho;rw[hd'] at hd;cases hd
def aE.funs (I:aE X A1 Y H s):s.heap.FunFrames X.base X.outer:=by
 have all:∀(l:A0 Env),(∀b∈tD l,b∈X.fs)->X.s₀.heap.FunFrames X.base l->s.heap.FunFrames X.base l:=by
  intro l;induction l with
  |nil=>intro _ _;trivial
  |cons env r ih=>
   intro hs hl;let⟨hk,⟨L,o,hf,hn,ho,hd⟩,hr⟩:=hl;have hL:L∈X.fs:=hs L (by unfold tD;rw[zbD,hf];exact Aw);let⟨sl,e⟩:=I.base.slot L o ho (I.ok.frf L hL) hL λz=>I.ok.exfs L z hL;exact{hk,{L,_,hf,hn,e,hd},ih (λb hb=>hs b (by unfold tD;rw[zbD,hf];exact Au _ hb)) hr}
 exact all X.outer (λ_ hb=>hb) I.ok.funs
def aE.stack (I:aE X A1 Y H s):s.heap.FunFrames X.base X.stack:=by
 rcases I.ok.stk with e|⟨e,hf⟩
 ·rw[e];exact I.funs
 ·rw[e];let⟨m,hn,_⟩:=I.loc;refine .cons (by rw[I.ok.kind];decide) hf hn ?_ I.funs;exact Heap.get?_none_of_le (BM I.ok.bsz I.ok.above)
def aE.stkSub (I:aE X A1 Y H s):∀b∈tD X.stack,b∈X.env.locals::X.fs:=λb hb=>by
 rcases I.ok.stk with e|⟨e,hf⟩
 ·rw[e] at hb;exact Au _ hb
 ·rw[e] at hb;unfold tD at hb;rw[zbD,hf] at hb;exact hb
def aE.stkFree (I:aE X A1 Y H s):∀b∈tD X.stack,H b=none:=λb hb=>by
 rcases Ad.mp (I.stkSub b hb) with e|hb
 ·rw[e];exact I.free
 ·let⟨_,o,ho,_⟩:=I.ok.funs.mem hb;exact I.base.free b o ho (I.ok.frf b hb) λz=>I.ok.exfs b z hb
def aE.step {g':AN GenState}{t':Nat}{d':Drawn}{ch:Tf}(I:aE X A1 Y H s)
  (Br:∀b∈ch,(b∈X.ex\/X.s₀.heap.objs.size<=b)/\b≠X.env.locals/\(∀x c,X.env.cells.lookup x=some c->c≠b)/\∀p∈X.pn++A1,p.1≠b)
  (keep:∀b o,b≠X.env.locals->b∉X.fs->b∉ch->s.heap.get? b=some o->H b=none->h'.get? b=some o)
  (slot:∀b o,b≠X.env.locals->b∈X.fs->b∉ch->s.heap.get? b=some o->H b=none->∃sl,h'.get? b=some {o with slots:=sl}) (free:∀b o,b∉ch->s.heap.get? b=some o->H b=none->H' b=none)
  (there:∀b o,b∉ch->s.heap.get? b=some o->∃o',h'.get? b=some o')
  (tups:∀b xs,H b=some (.tup xs)->H' b=some (.tup xs)) (frzs:∀b o u,H b=some (.frz o u)->H' b=some (.frz o u)) (tbls:∀b ps,H b=some (.tbl ps)->∃more,H' b=some (.tbl (ps++more)))
  (ns:∀m,s.heap.Ns X.env.locals m->h'.Ns X.env.locals m) (hok:gc X.prog X.w H' h') (hg:AllBare g') :
  aE X A1 Y H' {s with heap:=h',gens:=g',drawn:=d',toks:=t'}:=by
 have neL:∀b o,X.s₀.heap.get? b=some o->b≠X.env.locals:=λb o e=>Av (Ax (Ab e) I.ok.above)
 have neC:∀b o,X.s₀.heap.get? b=some o->b∉X.ex->b∉ch:=λb o e hx hb=>by
  rcases (Br b hb).1 with z|z
  ·exact hx z
  ·exact AE (Ax (Ab e) z) (BK _)
 have cellK:∀x c,X.env.cells.lookup x=some c->∀v,s.heap.IsCell c v->h'.IsCell c v:=λx c e v ⟨o,ho,hd⟩=>by
  have nch:c∉ch:=λz=>(Br c z).2.2.1 x c e rfl
  by_cases hc:c∈X.fs
  ·let⟨sl,q⟩:=slot c o (I.cne x c e) hc nch ho (I.freeC x c e)
   exact{_,q,hd}
  ·exact{o,keep c o (I.cne x c e) hc nch ho (I.freeC x c e),hd}
 refine{I.ok,I.os,hg,{λb o e n hb hx=>?_,λb o e n hb hx=>?_,λb o e n hx=>?_,λb o e hx=>?_,λb xs e=>tups b xs (I.base.tups b xs e),λb o xs e=>frzs b o xs (I.base.frzs b o xs e),λb ps e=>?_},?_,λx c e=>?_,?_,λx c e=>?_,λp hp=>?_,hok,I.len}
 ·exact keep b o (neL b o e) hb (neC b o e hx) (I.base.keep b o e n hb hx) (I.base.free b o e n hx)
 ·let⟨sl,e1⟩:=I.base.slot b o e n hb hx
  let⟨sl',e2⟩:=slot b _ (neL b o e) hb (neC b o e hx) e1 (I.base.free b o e n hx);exact{sl',e2}
 ·let⟨o',e1⟩:=I.base.there b o e hx
  exact free b o' (neC b o e hx) e1 (I.base.free b o e n hx)
 ·let⟨o',e1⟩:=I.base.there b o e hx
  exact there b o' (neC b o e hx) e1
 ·let⟨m1,e1⟩:=I.base.tbls b ps e
  let⟨m2,e2⟩:=tbls b _ e1;exact{m1++m2,by rw[e2,Array.append_assoc]}
 ·let⟨m,hn,hl⟩:=I.loc
  refine{m,ns m hn,λi x v e1 e2 e3=>?_};let⟨u,r,l⟩:=hl i x v e1 e2 e3;refine{u,r,?_};rcases l with l|⟨k,c,e,z⟩
  ·exact .inl l
  ·exact .inr {k,c,e,cellK x c e _ z}
 ·let⟨v,z⟩:=I.cell x c e
  exact{v,cellK x c e v z}
 ·let⟨m,⟨o,_,_,ho,_⟩,_⟩:=I.loc
  exact free _ o (λz=>(Br _ z).2.1 rfl) ho I.free
 ·let⟨v,o,ho,hd⟩:=I.cell x c e
  exact free c o (λz=>(Br c z).2.2.1 x c e rfl) ho (I.freeC x c e)
 ·let⟨e,n,ne,nf,d⟩:=I.pin p hp
  have nch:p.1∉ch:=λz=>(Br p.1 z).2.2.2 p hp rfl;exact{keep p.1 p.2 ne nf nch e n,free p.1 p.2 nch e n,ne,nf,d}
def aE.un {t':Nat}(I:aE X A1 Y H s)(u:Un X.fs [] H H' s.heap h')(hok:gc X.prog X.w H' h'):aE X A1 Y H' {s with heap:=h',toks:=t'}:=by let⟨m,⟨o,es,ep,ho,r⟩,_⟩:=id I.loc;let⟨sl,hL⟩:=u.any ho I.free ∅;exact I.step (g':=s.gens) (d':=s.drawn) (ch:=[]) (λ_ z=>nomatch z) (λb o _ hb _ e n=>u.keep b o e n hb ∅) (λb o _ hb _ e n=>u.slot b o e n hb ∅) (λb o _ e n=>u.free b o e n ∅) (λb o _ e=>u.there b o e ∅) u.tups u.frzs u.tbls (λm' hm=>by let⟨o',B6,ep',DE,r'⟩:=hm;rw[ho] at DE;cases DE;exact{_,B6,ep',hL,r'}) hok I.bare
def aE.call {g':AN GenState}{t':Nat}{d':Drawn}{ch:Tf}(I:aE X A1 Y H s)(u:Un (tD X.stack) ch H H' s.heap h')(hok:gc X.prog X.w H' h')(hg:AllBare g')
  (Br:∀b∈ch,(b∈X.ex\/X.s₀.heap.objs.size<=b)/\b≠X.env.locals/\(∀x c,X.env.cells.lookup x=some c->c≠b)/\∀p∈X.pn++A1,p.1≠b) :
  aE X A1 Y H' {s with heap:=h',gens:=g',drawn:=d',toks:=t'}:=by
 let⟨m,⟨o,es,ep,ho,r⟩,_⟩:=id I.loc;let⟨sl,hL⟩:=u.any ho I.free λz=>(Br _ z).2.1 rfl
 exact I.step (ch:=ch) Br (λb o hL hb hc e n=>u.keep b o e n (λz=>(Ad.mp (I.stkSub b z)).elim hL hb) hc) (λb o _ _ hc e n=>u.any e n hc) (λb o hc e n=>u.free b o e n hc) (λb o hc e=>u.there b o e hc) u.tups u.frzs u.tbls (λm' hm=>by
  let⟨o',B6,ep',DE,r'⟩:=hm;rw[ho] at DE;cases DE
  exact{_,B6,ep',hL,r'}) hok hg
def aE.turned {t':Nat}{it:A6}(I:aE X A1 Y H s)(k:∀b o,b≠it->s.heap.get? b=some o->h'.get? b=some o)(hn:H it=none)(hL:it≠X.env.locals)
  (h1:it∈X.ex\/X.s₀.heap.objs.size<=it) (h2:∀x c,X.env.cells.lookup x=some c->c≠it) (h3:∀p∈X.pn++A1,p.1≠it):aE X A1 Y H {s with heap:=h',toks:=t'}:=by
 have nit:∀b u,H b=some u->b≠it:=λb u e z=>by rw[z,hn] at e;cases e
 refine I.step (g':=s.gens) (d':=s.drawn) (ch:=[it]) (λb hb=>?_) (λb o _ _ hc e _=>k b o (λz=>hc (by simp[z])) e) (λb o _ _ hc e _=>{o.slots,k b o (λz=>hc (by simp[z])) e}) (λ_ _ _ _ n=>n)
  (λb o hc e=>{o,k b o (λz=>hc (by simp[z])) e}) (λ_ _ e=>e) (λ_ _ _ e=>e) (λb ps e=>{#[],by rw[e];simp}) (λm hm=>?_) (λb u e=>?_) I.bare
 ·have e:b=it:=by simpa using hb
  subst e;exact{h1,hL,h2,h3}
 ·let⟨o,es,ep,ho,r⟩:=hm
  exact{o,es,ep,k _ o (Ne.symm hL) ho,r}
 ·refine(I.hok b u e).stay (λc v hc q=>k c v ?_ q) (λ_ q=>q) λ_ _ q=>q
  rcases hc with z|z
  ·rw[z];exact nit b u e
  ·exact nit c _ z
def aE.tok (I:aE X A1 Y H s)(t:Nat):aE X A1 Y H {s with toks:=t}:=I.un (h':=s.heap) (t':=t) Un.refl I.hok
def aE.kept {t':Nat}(I:aE X A1 Y H s)(k:∀b u,s.heap.get? b=some u->h'.get? b=some u):aE X A1 Y H {s with heap:=h',toks:=t'}:=I.un (Un.kept k) (I.hok.kept k)
def aE.laid {a:A6}{o:HO}{t':Nat}(I:aE X A1 Y H s)(k:∀b u,s.heap.get? b=some u->h'.get? b=some u)(hp:s.heap.objs.size<=a)(new:b7 X.prog X.w (upd H a o) h' a o) :
  aE X A1 Y (upd H a o) {s with heap:=h',toks:=t'}:=I.un (Un.laid k hp (I.hok.fresh hp)) (I.hok.laid k hp new)
def aE.write {x e:A6}{o:HO}{t':Nat}(I:aE X A1 Y H s)(mu:ES (H x))(he:e=x\/H e=some (.own x))(k:∀b u,b≠e->s.heap.get? b=some u->h'.get? b=some u)(heo:∃u,h'.get? e=some u)
  (new:b7 X.prog X.w (upd H x o) h' x o):aE X A1 Y (upd H x o) {s with heap:=h',toks:=t'}:=I.un (Un.write mu he k heo) (I.hok.write mu he k heo new)
def aE.pins_of {BO:Tc}(I:aE X A1 Y H s)(h:∀p∈BO,s.heap.get? p.1=some p.2/\H p.1=none/\p.1≠X.env.locals/\p.1∉X.fs/\∀v,p.2.data≠.cell v):aE X BO Y H s :=
 {I.ok,I.os,I.bare,I.base,I.loc,I.cell,I.free,I.freeC,λp hp=>(CR.mp hp).elim (λz=>I.pin p (zbl _ z)) (h p),I.hok,I.len}
def pk {N:Tn}(hN:N.Nodup){i j:Nat}{x:Str}(a:N[i]?=some x)(b:N[j]?=some x):i=j:=by let⟨h1,e1⟩:=B2.mp a;let⟨h2,e2⟩:=B2.mp b;exact(List.getElem_inj hN).mp (e1.trans e2.symm)
def ss {M:Model}{A:AH}{E:Tb}{i:Nat}{x:Str}{v:V}{u:A5}{Q:Unit->A4->Prop}(I:aE X A1 Y H s)(hN:X.N.Nodup)(hi:X.N[i]?=some x)(hx:Cu X.env.scope x)(r:aW v u)
  (h:∀s',aE X A1 (Y.set i (some v)) H s'->(∃a,Heap.SameBut a s.heap s'.heap/\(a=X.env.locals\/X.env.cells.lookup x=some a))->Q () s') (hf:X.fn x=true\/X.env.scope.names.lookup x=some .local:=by first|exact .inl rfl|exact .inr rfl|assumption):wpAny M A (storeName X.env x u) Q E s:=by
 let⟨m,hn,hl⟩:=id I.loc
 have hcls:(X.env.scope.kind == .class || (X.env.scope.kind == .module&&X.env.locals != X.env.globals))=false:=by rw[I.ok.kind];rfl
 have hiY:i<Y.length:=by rw[I.len];exact(B2.mp hi).1
 have cne:=I.cne
 have tracked:∀{a:A6} {h':AD},(∃o,s.heap.get? a=some o/\H a=none)->Heap.SameBut a s.heap h'->gc X.prog X.w H h':=λ{a h'} ha hs b ob e=>by
  let⟨_,_,DM⟩:=ha;refine(I.hok b ob e).stay (λc w' hc q=>(hs.2 c ?_).trans q) (λ_ q=>q) λ_ _ q=>q;rintro rfl;rcases hc with rfl|hc
  ·rw[DM] at e;cases e
  ·rw[DM] at hc;cases hc
 rcases hx with hk|hk
 ·refine wpAny_storeName_local hk hn (λh' Bg hs=>?_) hcls
  let⟨oL,_,_,hoL,_⟩:=id hn;refine h _ {I.ok,I.os,I.bare,{λb o e n hb hx=>?_,λb o e n hb hx=>?_,I.base.free,λb o e hx=>?_,I.base.tups,I.base.frzs,I.base.tbls},{_,Bg,λj y v' e1 e2 e3=>?_},λy c e=>?_,I.free,I.freeC,λp hp=>?_,tracked {oL,hoL,I.free} hs,by simpa using I.len} {_,hs,.inl rfl}
  ·exact(hs.2 b (Av (Ax (Ab e) I.ok.above))).trans (I.base.keep b o e n hb hx)
  ·let⟨sl,e1⟩:=I.base.slot b o e n hb hx
   exact{sl,(hs.2 b (Av (Ax (Ab e) I.ok.above))).trans e1}
  ·let⟨o',e1⟩:=I.base.there b o e hx
   exact{o',(hs.2 b (Av (Ax (Ab e) I.ok.above))).trans e1}
  ·by_cases hj:j=i
   ·subst hj
    rw[hi] at e1;cases e1;rw[Cf hiY] at e2;cases e2;exact{u,r,.inl {hk,by simp}}
   ·rw[za0 (Ne.symm hj)] at e2
    let⟨u',r',q⟩:=hl j y v' e1 e2 e3;refine{u',r',?_};rcases q with⟨k,e⟩|⟨k,c,e,z⟩
    ·refine .inl {k,?_}
     have:y≠x:=λe=>hj (pk hN e1 (e ▸ hi));simp[this,e]
    ·exact .inr {k,c,e,z.sameBut hs (cne y c e)}
  ·let⟨w',z⟩:=I.cell y c e
   exact{w',z.sameBut hs (cne y c e)}
  ·let⟨e,n,ne,nf,d⟩:=I.pin p hp
   exact{(hs.2 p.1 ne).trans e,n,ne,nf,d}
 ·have hfn:X.fn x=true:=by
   rcases hf with z|z
   ·exact z
   ·rw[z] at hk;cases hk
  let⟨c,hc⟩:=I.ok.has x (.inl hk);let⟨w',z⟩:=I.cell x c hc;refine wpAny_storeName_cell I.ok.kind hk hc z (λh' BW hs=>?_);let⟨oc,hoc,hocd⟩:=id z;refine h {s with heap:=h'} {I.ok,I.os,I.bare,{λb o e n hb hx=>?_,λb o e n hb hx=>?_,I.base.free,λb o e hx=>?_,I.base.tups,I.base.frzs,I.base.tbls},{m,hn.sameBut hs (Ne.symm (cne x c hc)),λj y v' e1 e2 e3=>?_},λy c' e=>?_,I.free,I.freeC,λp hp=>?_,tracked {oc,hoc,I.freeC x c hc} hs,by simpa using I.len} {c,hs,.inr hc}
  ·exact(hs.2 b (Av (Ax (Ab e) (I.ok.cab x c hfn hc)))).trans (I.base.keep b o e n hb hx)
  ·let⟨sl,e1⟩:=I.base.slot b o e n hb hx
   exact{sl,(hs.2 b (Av (Ax (Ab e) (I.ok.cab x c hfn hc)))).trans e1}
  ·let⟨o',e1⟩:=I.base.there b o e hx
   exact{o',(hs.2 b (Av (Ax (Ab e) (I.ok.cab x c hfn hc)))).trans e1}
  ·by_cases hj:j=i
   ·subst hj
    rw[hi] at e1;cases e1;rw[Cf hiY] at e2;cases e2;exact{u,r,.inr {.inl hk,c,hc,BW}}
   ·rw[za0 (Ne.symm hj)] at e2
    let⟨u',r',q⟩:=hl j y v' e1 e2 e3;refine{u',r',?_};rcases q with q|⟨k,c',e,z'⟩
    ·exact .inl q
    ·refine .inr {k,c',e,z'.sameBut hs ?_}
     rintro rfl;exact hj (pk hN e1 (I.ok.inj _ _ _ e hc ▸ hi))
  ·by_cases hcc:c'=c
   ·subst hcc;exact{_,BW}
   ·let⟨w2,z2⟩:=I.cell y c' e
    exact{w2,z2.sameBut hs hcc}
  ·let⟨e,n,ne,nf,d⟩:=I.pin p hp
   refine{(hs.2 p.1 ?_).trans e,n,ne,nf,d};intro q;rw[q,hoc] at e;have q':oc=p.2:=Option.some.inj e;exact d w' (by rw[←q'];exact hocd)
def lv {M:Model}{A:AH}{E:Tb}{i:Nat}{x:Str}{v:V}{u:A5}{Q:Unit->A4->Prop}(I:aE X A1 Y H s)(hN:X.N.Nodup)(hi:X.N[i]?=some x)(hx:Cu X.env.scope x)(r:aW v u)
  (h:∀s',aE X A1 (Y.set i (some v)) H s'->Q () s') (hf:X.fn x=true\/X.env.scope.names.lookup x=some .local:=by first|exact .inl rfl|exact .inr rfl|assumption):wpAny M A (storeName X.env x u) Q E s :=
 ss I hN hi hx r (λs' I' _=>h s' I') hf
def aE.call' {s':A4}{ch:Tf}(I:aE X A1 Y H s)(ho:s'.os=s.os)(u:Un (tD X.stack) ch H H' s.heap s'.heap)(hok:gc X.prog X.w H' s'.heap)(hg:AllBare s'.gens)
  (Br:∀b∈ch,(b∈X.ex\/X.s₀.heap.objs.size<=b)/\b≠X.env.locals/\(∀x c,X.env.cells.lookup x=some c->c≠b)/\∀p∈X.pn++A1,p.1≠b):aE X A1 Y H' s':=by
 let⟨h',g',d',t',o'⟩:=s';have e:o'=s.os:=ho;subst e;exact I.call (g':=g') (t':=t') (d':=d') u hok hg Br
end
abbrev XK:=A5->Jo A6->Hp->Prop
abbrev St:=A0 (Jo V)
abbrev VK:=V->Hp->Prop
abbrev TE:=St->Hp->VK->Prop
abbrev TT:=St->Hp->(A9->Hp->Prop)->Prop
abbrev TA:=St->Hp->(A0 V->Hp->Prop)->Prop
structure dZ where
 nx:St->Hp->Prop
 rt:VK
 bk:St->Hp->Prop:=λ_ _=>False
 ct:St->Hp->Prop:=λ_ _=>False
abbrev TS:=dZ->St->Hp->Prop
def EP (X:Cx)(A1:Tc)(Y:St)(Q:VK)(u:A5)(s':A4):Prop:=∃v H',aE X A1 Y H' s'/\aW v u/\Q v H'
def TP (X:Cx)(A1:Tc)(Y:St)(Q:A9->Hp->Prop)(b:A9)(s':A4):Prop:=∃H',aE X A1 Y H' s'/\Q b H'
def JAw (X:Cx)(A1:Tc)(Y:St)(Q:A0 V->Hp->Prop)(us:Te)(s':A4):Prop:=∃vs H',aE X A1 Y H' s'/\aO vs us/\Q vs H'
def SP (X:Cx)(A1:Tc)(D:dZ)(f:Flow)(s':A4):Prop :=
 match f with
 |.next=>∃Y' H',aE X A1 Y' H' s'/\D.nx Y' H'
 |.brk=>∃Y' H',aE X A1 Y' H' s'/\D.bk Y' H'
 |.cont=>∃Y' H',aE X A1 Y' H' s'/\D.ct Y' H'
 |.ret u=>∃v Y' H',aE X A1 Y' H' s'/\aW v u/\D.rt v H'
def PE (X:Cx)(e:AG)(t:TE):Prop :=
 ∀(A1:Tc) (s:A4) (Y:St) (H:Hp) (Q:VK),aE X A1 Y H s->t Y H Q->wpAny (model X.prog X.w) X.A (eval e X.env) (EP X A1 Y Q) X.xe s
def PT (X:Cx)(e:AG)(t:TT):Prop :=
 ∀(A1:Tc) (s:A4) (Y:St) (H:Hp) (Q:A9->Hp->Prop),aE X A1 Y H s->t Y H Q->wpAny (model X.prog X.w) X.A (isTrue e X.env (eval e X.env)) (TP X A1 Y Q) X.xe s
def PW (X:Cx)(e:AG)(t:TT):Prop :=
 ∀(whole:Sem A5) (A1:Tc) (s:A4) (Y:St) (H:Hp) (Q:A9->Hp->Prop),aE X A1 Y H s->t Y H Q->wpAny (model X.prog X.w) X.A (isTrue e X.env whole) (TP X A1 Y Q) X.xe s
def PW.pt {t:TT}(h:PW X e t):PT X e t:=h _
def PA (X:Cx)(es:Tk)(t:TA):Prop :=
 ∀(pos:Pos) (A1:Tc) (s:A4) (Y:St) (H:Hp) (Q:A0 V->Hp->Prop),aE X A1 Y H s->t Y H Q->wpAny (model X.prog X.w) X.A (spliced (backTo pos (starEach es X.env))) (JAw X A1 Y Q) X.xe s
def PS (X:Cx)(st:AJ)(t:TS):Prop :=
 ∀(A1:Tc) (s:A4) (Y:St) (H:Hp) (D:dZ),aE X A1 Y H s->t D Y H->wpAny (model X.prog X.w) X.A (exec st X.env) (SP X A1 D) X.xe s
def kM (X:Cx)(st:Tl)(t:TS):Prop :=
 ∀(A1:Tc) (s:A4) (Y:St) (H:Hp) (D:dZ),aE X A1 Y H s->t D Y H->wpAny (model X.prog X.w) X.A (execs st X.env) (SP X A1 D) X.xe s
def ck {Z:Type}{t:Sem Z}{Q Q':Z->A4->Prop}{M:Model}{E:Tb}{s:A4}(h:wpAny M A t Q E s)(hQ:∀a s,Q a s->Q' a s):wpAny M A t Q' E s:=D1 h hQ λ_ _ x=>x
section
variable {X:Cx}
def C4 (i:Nat):TE:=λY H Q=>∃v,Y[i]?=some (some v)/\Q v H
def tC (v:V):TE:=λ_ H Q=>Q v H
def JCj {i:Nat}{x:Str}(hN:X.N[i]?=some x)(hv:Gb X.env.scope x)(hd:(x == ("__debug__" : Str))=false:=by decide)(CA:(x == ("__classdict__" : Str))=false:=by decide):PE X (.Name x pos) (C4 i):=by
 intro A1 s Y H Q I h;let⟨v,e,h⟩:=h;let⟨m,hn,hl⟩:=I.loc;let⟨u,r,l⟩:=hl i x v hN e hv;have fin:EP X A1 Y Q u s:={v,H,I,r,h};rcases l with⟨hk,hm⟩|⟨hk,c,hc,DN⟩
 ·exact wpAny_Name (wpAny_loadName_local I.ok.kind hk hn hm fin) hd
 ·rcases hk with hk|hk
  ·exact wpAny_Name (wpAny_loadName_cell I.ok.kind hk hc DN fin) hd
  ·exact wpAny_Name (wpAny_loadName_free I.ok.kind hk hc DN fin CA) hd
def JCq {i j pos}:PE X (.Constant (.int i) j pos) (tC (.int i)):=λ_ _ _ H _ I h=>wpAny_Constant_int {.int i,H,I.tok _,{_,rfl},h}
def JDv {b j pos}:PE X (.Constant (.bool b) j pos) (tC (.bl b)):=λ_ _ _ H _ I h=>Constant_bool {.bl b,H,I,rfl,h}
def JCo {j pos}:PE X (.Constant .none j pos) (tC .non):=λ_ _ _ H _ I h=>Constant_none {.non,H,I,rfl,h}
def JCl {x j pos}:PE X (.Constant (.str x) j pos) (tC (.str x)):=λ_ _ _ H _ I h=>Calls.Constant_str {.str x,H,I.tok _,{_,rfl},h}
def Gl (X:Cx)(x:Str):Prop:=X.env.kindOf x=some .globalImplicit
def n5 {E:Tb}{s:A4}{H:Hp}{x:Str}{u:A5}{pos:Pos}{Q:Tb}(I:aE X A1 Y H s)(hg:Gl X x)(hm:X.mg x=some u)(h:Q u s)
  (hd:(x == ("__debug__" : Str))=false:=by decide):wpAny (model X.prog X.w) X.A (eval (.Name x pos) X.env) Q E s :=
 Calls.Name_function_global I.ok.kind hg (Calls.loadGlobal_global (by rw[I.ok.glob];exact I.mod.glob.keeps I.bk) hm h) hd
def j9 {E:Tb}{s:A4}{H:Hp}{x:Str}{u:A5}{pos:Pos}{Q:Tb}(I:aE X A1 Y H s)(hg:Gl X x)(hm:X.mg x=none)(hv:bootBuiltins x=some u)(h:Q u s)
  (hn:x≠"__name__":=by decide) (hd:(x == ("__debug__" : Str))=false:=by decide):wpAny (model X.prog X.w) X.A (eval (.Name x pos) X.env) Q E s:=by
 let⟨mb,h1,h2⟩:=I.mod.blt;exact Calls.Name_function_global I.ok.kind hg (Calls.loadGlobal_builtin (by rw[I.ok.glob];exact I.mod.glob.keeps I.bk) hm (by rw[I.ok.blt];exact h1.keeps I.bk) ((h2 x hn).trans hv) h) hd
def rA {x:Str}{v:V}{u:A5}(hg:Gl X x)(hm:X.mg x=some u)(r:aW v u)(hd:(x == ("__debug__" : Str))=false:=by decide):PE X (.Name x pos) (tC v) :=
 λ_ _ _ H _ I h=>n5 I hg hm {v,H,I,r,h} hd
def xz {x:Str}{v:V}{u:A5}(hg:Gl X x)(hm:X.mg x=none)(hv:bootBuiltins x=some u)(r:aW v u)(hn:x≠"__name__":=by decide)(hd:(x == ("__debug__" : Str))=false:=by decide):PE X (.Name x pos) (tC v) :=
 λ_ _ _ H _ I h=>j9 I hg hm hv {v,H,I,r,h} hn hd
variable {a b:AG}{ta tb:TE}{pos:Pos}
def tB (t:TE):TT:=λY H Q=>t Y H λx H1=>∃c,x=.bl c/\Q c H1
variable {tA tB':TT}{rest:Tk}
def Dd (t u:TT):TT:=λY H Q=>t Y H λc H1=>if c=true then u Y H1 Q else Q false H1
def IA (t u:TT):TT:=λY H Q=>t Y H λc H1=>if c=true then Q true H1 else u Y H1 Q
def C8 (t:TT):TT:=λY H Q=>t Y H λc H1=>Q (!c) H1
theorem xl (ha:PT X a tA):PW X (.BoolOp .And [a] pos) tA:=by
 intro wh A1 s Y H Q I h;refine isTrue_and (ck (ha A1 s Y H Q I h) λc s1 e=>?_)
 cases c with
 |true=>exact isTrue_and_nil e
 |false=>exact e
theorem JAf (ha:PT X a tA):PW X (.BoolOp .Or [a] pos) tA:=by
 intro wh A1 s Y H Q I h;refine isTrue_or (ck (ha A1 s Y H Q I h) λc s1 e=>?_)
 cases c with
 |false=>exact isTrue_or_nil e
 |true=>exact e
theorem JAg (ha:PT X a tA)(hb:PW X (.BoolOp .And (b::rest) pos) tB'):PW X (.BoolOp .And (a::b::rest) pos) (Dd tA tB'):=by
 intro wh A1 s Y H Q I h;refine isTrue_and (ck (ha A1 s Y H _ I h) λc s1 hh=>?_);let⟨H1,I1,q1⟩:=hh
 cases c with
 |true=>exact hb wh A1 s1 Y H1 Q I1 q1
 |false=>exact{H1,I1,q1}
theorem JDr (ha:PT X a tA)(hb:PW X (.BoolOp .Or (b::rest) pos) tB'):PW X (.BoolOp .Or (a::b::rest) pos) (IA tA tB'):=by
 intro wh A1 s Y H Q I h;refine isTrue_or (ck (ha A1 s Y H _ I h) λc s1 hh=>?_);let⟨H1,I1,q1⟩:=hh
 cases c with
 |true=>exact{H1,I1,q1}
 |false=>exact hb wh A1 s1 Y H1 Q I1 q1
def JAi (ha:PT X a tA):PT X (.UnaryOp .Not a pos) (C8 tA):=by intro A1 s Y H Q I h;exact isTrue_not (ha A1 s Y H (λc H1=>Q (!c) H1) I h)
def zm (ta tb:TE):TE:=λY H Q=>ta Y H λx H1=>∃c,x=.bl c/\if c=true then tb Y H1 Q else Q (.bl false) H1
def ze (ta:TE):TE:=λY H Q=>ta Y H λx H1=>∃c,x=.bl c/\Q (.bl (!c)) H1
def JCm {op}{t:TE}(h:PE X a t):PE X (.BoolOp op [a] pos) t:=λA1 s Y H Q I hw=>BoolOp_one (h A1 s Y H Q I hw)
theorem JCt (ha:PE X a ta)(hb:PE X (.BoolOp .And (b::rest) pos) tb):PE X (.BoolOp .And (a::b::rest) pos) (zm ta tb):=by
 intro A1 s Y H Q I h;refine BoolOp_and (ck (ha A1 s Y H _ I h) λv s1 hh=>?_);let⟨x,H1,I1,r1,q1⟩:=hh;let⟨c,rfl,q1⟩:=q1;cases r1;refine zbd ?_
 cases c with
 |true=>exact hb A1 s1 Y H1 Q I1 q1
 |false=>exact{.bl false,H1,I1,rfl,q1}
def JCn (ha:PE X a ta):PE X (.UnaryOp .Not a pos) (ze ta):=by intro A1 s Y H Q I h;refine UnaryOp_ (ck (ha A1 s Y H _ I h) λv s1 hh=>?_);let⟨x,H1,I1,r1,q1⟩:=hh;let⟨c,rfl,q1⟩:=q1;cases r1;exact not_of (zbd {.bl (!c),H1,I1,rfl,q1})
def IB (t:TT)(ta tb:TE):TE:=λY H Q=>t Y H λc H1=>if c=true then ta Y H1 Q else tb Y H1 Q
theorem vk {c:AG}(hc:PT X c tA)(ha:PE X a ta)(hb:PE X b tb):PE X (.IfExp c a b pos) (IB tA ta tb):=by
 intro A1 s Y H Q I h;refine wpAny_IfExp (ck (hc A1 s Y H _ I h) λd s1 hh=>?_);let⟨H1,I1,q1⟩:=hh
 cases d with
 |true=>exact ha A1 s1 Y H1 Q I1 q1
 |false=>exact hb A1 s1 Y H1 Q I1 q1
end
def io (K:AF)(H:Hp)(a:A6)(xs:A0 V):Prop :=
 Rd H a (.lst xs) \/
  ∃(o:Obj) (its:Tj) (n:Nat),K.lookup a=some o/\o.cls=.type "list"/\(o.dict=none/\o.slots = #[])/\o.data=.seq its n/\its.size<=sizeLine/\aO xs its.toList
def gP (K:AF)(H:Hp)(a:A6)(xs:A0 V):Prop :=
 Rd H a (.tup xs) \/
  ∃(o:Obj) (its:Tj) (n:Nat),K.lookup a=some o/\o.cls=.type "tuple"/\o.dict=none/\o.data=.seq its n/\its.size<=sizeLine/\aO xs its.toList
noncomputable def HV:A5->Jo V
 |.none=>some .non
 |.bool b=>some (.bl b)
 |.int i _=>some (.int i)
 |.str x _=>some (.str x)
 |.bytes b _=>some (.byt b)
 |.float b _=>some (.flt b)
 |.ref a=>some (.ref a)
 |.type n=>some (.ty n)
 |_=>none
theorem aW.abs {x:V}{u:A5}(r:aW x u):HV u=some x:=by
 cases x with
 |non=>cases r;rfl
 |bl _=>cases r;rfl
 |int _=>let⟨t,rfl⟩:=r;rfl
 |str _=>let⟨t,rfl⟩:=r;rfl
 |byt _=>let⟨t,rfl⟩:=r;rfl
 |flt _=>let⟨t,rfl⟩:=r;rfl
 |ref _=>cases r;rfl
 |ty _=>cases r;rfl
def aW.inj {x y:V}{u:A5}(r:aW x u)(q:aW y u):x=y:=Option.some.inj (r.abs.symm.trans q.abs)
theorem aO.inj {xs ys:A0 V}{us:Te}(h:aO xs us):aO ys us->xs=ys:=by
 induction h generalizing ys with
 |nil=>intro q;cases q;rfl
 |cons r t ih=>intro q;cases q with|cons r' t'=>rw[r.inj r',ih t']
section
variable {X:Cx}{A1:Tc}{Y:St}{H:Hp}{s:A4}{a:A6}{xs ys:A0 V}
def aE.list (I:aE X A1 Y H s)(h:io X.K H a xs):∃its:Te,aO xs its/\PlainL s.heap a its.toArray/\xs.length<=sizeLine:=by
 rcases h with h|⟨o,its,n,hk,hc,hd,hs,hz,r⟩
 ·let⟨z,its,n,r,e⟩:=h.ok I.hok;exact{its,r,{_,n,e,rfl,rfl,rfl},z}
 ·refine{its.toList,r,{o,n,I.kIn a o hk,hc,hd.1,by simpa using hs},?_};have e:=r.length;rwa[zbE] at e;omega
def aE.tuple (I:aE X A1 Y H s)(h:gP X.K H a xs):∃its:Te,aO xs its/\IsTup s.heap a its.toArray/\xs.length<=sizeLine:=by
 rcases h with h|⟨o,its,n,hk,hc,hn,hs,hz,r⟩
 ·let⟨z,its,r,p⟩:=h.ok I.hok;exact{its,r,p.1,z}
 ·refine{its.toList,r,{o,I.kIn a o hk,hc,n,by simpa using hs},?_};have e:=r.length;rwa[zbE] at e;omega
def aE.list_inj (I:aE X A1 Y H s)(h:io X.K H a xs)(h':io X.K H a ys):xs=ys:=by
 let⟨its,r,⟨o,n,e,_,_,d⟩,_⟩:=I.list h;let⟨its',r',⟨o',n',e',_,_,d'⟩,_⟩:=I.list h';rw[e] at e';cases e';rw[d] at d';injection d' with d1 _
 have:its=its':=by simpa using AL Array.toList d1
 subst this;exact r.inj r'
def aE.tuple_inj (I:aE X A1 Y H s)(h:gP X.K H a xs)(h':gP X.K H a ys):xs=ys:=by
 let⟨its,r,⟨o,e,_,n,d⟩,_⟩:=I.tuple h;let⟨its',r',⟨o',e',_,n',d'⟩,_⟩:=I.tuple h';rw[e] at e';cases e';rw[d] at d';injection d' with d1 _
 have:its=its':=by simpa using AL Array.toList d1
 subst this;exact r.inj r'
end
abbrev Cx.wish (X:Cx)(E:Tb):Cx:={X with xe:=E}
abbrev Cx.nox (X:Cx):Cx:=X.wish λ_ _=>False
def Cx.Ok.wish {X:Cx}(ok:X.Ok)(E:Tb):(X.wish E).Ok :=
 {ok.mod,ok.kind,ok.glob,ok.blt,ok.above,ok.inj,ok.has,ok.cab,ok.hd,ok.frames,ok.stk,ok.exf,ok.bs,ok.bsz,ok.noex,ok.exfs,ok.funs,ok.frf}
def Cx.Ok.unwish {X:Cx}{E:Tb}(ok:(X.wish E).Ok):X.Ok :=
 {ok.mod,ok.kind,ok.glob,ok.blt,ok.above,ok.inj,ok.has,ok.cab,ok.hd,ok.frames,ok.stk,ok.exf,ok.bs,ok.bsz,ok.noex,ok.exfs,ok.funs,ok.frf}
section
variable {X:Cx}{A1:Tc}{Y:St}{H:Hp}{s:A4}{E:Tb}
def aE.wish (I:aE X A1 Y H s)(E:Tb):aE (X.wish E) A1 Y H s:={I.ok.wish E,I.os,I.bare,I.base,I.loc,I.cell,I.free,I.freeC,I.pin,I.hok,I.len}
def aE.unwish (I:aE (X.wish E) A1 Y H s):aE X A1 Y H s:={I.ok.unwish,I.os,I.bare,I.base,I.loc,I.cell,I.free,I.freeC,I.pin,I.hok,I.len}
theorem SP.unwish {D:dZ}{f:Flow}{s':A4}(h:SP (X.wish E) A1 D f s'):SP X A1 D f s':=by
 cases f with
 |next=>let⟨Y',H',I,q⟩:=h;exact{Y',H',I.unwish,q}
 |brk=>let⟨Y',H',I,q⟩:=h;exact{Y',H',I.unwish,q}
 |cont=>let⟨Y',H',I,q⟩:=h;exact{Y',H',I.unwish,q}
 |ret u=>let⟨v,Y',H',I,r,q⟩:=h;exact{v,Y',H',I.unwish,r,q}
def kM.nox {st:Tl}{t:TS}(h:kM X.nox st t):kM X st t:=λA1 s Y H D I hw=>
 D1 (h A1 s Y H D (I.wish _) hw) (λ_ _ q=>q.unwish) λ_ _ z=>False.elim z
end
section
variable {X:Cx}{st:AJ}{rest:Tl}{t u:TS}{e:AG}{te:TE}{pos:Pos}
def zg:TS:=λD Y H=>D.nx Y H
def C6 (t u:TS):TS:=λD Y H=>t {D with nx:=u D} Y H
def xn:kM X [] zg:=λ_ _ Y H _ I h=>zbR {Y,H,I,h}
theorem ve (h1:PS X st t)(h2:kM X rest u):kM X (st::rest) (C6 t u):=by
 intro A1 s Y H D I h;refine wpAny_execs_cons (ck (h1 A1 s Y H {D with nx:=u D} I h) λf s1 q=>?_)
 cases f with
 |next=>
  let⟨Y',H',I',q⟩:=q;exact h2 A1 s1 Y' H' D I' q
 |ret v=>exact q
 |brk=>exact q
 |cont=>exact q
theorem xm (h1:PS X st t):kM X [st] t:=by
 intro A1 s Y H D I h;refine wpAny_execs_cons (ck (h1 A1 s Y H D I h) λf s1 q=>?_)
 cases f with
 |next=>exact zbR q
 |ret v=>exact q
 |brk=>exact q
 |cont=>exact q
def aE.quiet {H:Hp}{s:A4}(I:aE X A1 Y H s):interactive X.env=false:=by simp[interactive,I.ok.kind]
def zj (te:TE):TS:=λD Y H=>te Y H λ_ H1=>D.nx Y H1
def xo (he:PE X e te)(hs:swapsWith e none pos.line X.env=pure false:=by rfl):PS X (.Expr e pos) (zj te):=by intro A1 s Y H D I h;exact wpAny_Expr_any (ck (he A1 s Y H _ I h) λv s1 ⟨x,H1,I1,r1,q1⟩=>{Y,H1,I1,q1}) I.quiet hs
def C7 (te:TE):TS:=λD Y H=>te Y H D.rt
def JCb (he:PE X e te):PS X (.Return (some e) pos) (C7 te):=by intro A1 s Y H D I h;exact wpAny_Return_some (ck (he A1 s Y H _ I h) λv s1 ⟨x,H1,I1,r1,q1⟩=>{x,Y,H1,I1,r1,q1})
def Da (c:TT)(t u:TS):TS:=λD Y H=>c Y H λb H1=>if b=true then t D Y H1 else u D Y H1
theorem JDs {c:AG}{a b:Tl}{tc:TT}(hc:PT X c tc)(ha:kM X a t)(hb:kM X b u):PS X (.If c a b pos) (Da tc t u):=by
 intro A1 s Y H D I h;refine wpAny_If (ck (hc A1 s Y H _ I h) λd s1 hh=>?_);let⟨H1,I1,q1⟩:=hh
 cases d with
 |true=>exact ha A1 s1 Y H1 D I1 q1
 |false=>exact hb A1 s1 Y H1 D I1 q1
end
abbrev TG:=V->St->Hp->(St->Hp->Prop)->Prop
abbrev wt:=A0 V->St->Hp->(St->Hp->Prop)->Prop
def PG (X:Cx)(target:AG)(t:TG):Prop :=
 ∀(A1:Tc) (s:A4) (Y:St) (H:Hp) (v:V) (u:A5) (Q:St->Hp->Prop),aE X A1 Y H s->aW v u->t v Y H Q ->
  wpAny (model X.prog X.w) X.A (assign target X.env u) (λ_ s'=>∃Y' H',aE X A1 Y' H' s'/\Q Y' H') X.xe s
def wu (X:Cx)(ts:Tk)(t:wt):Prop :=
 ∀(A1:Tc) (s:A4) (Y:St) (H:Hp) (vs:A0 V) (us:Te) (Q:St->Hp->Prop),aE X A1 Y H s->aO vs us->t vs Y H Q ->
  wpAny (model X.prog X.w) X.A (assignInOrder ((assignEach ts X.env).map (·.2)) us) (λ_ s'=>∃Y' H',aE X A1 Y' H' s'/\Q Y' H') X.xe s
abbrev yp:=V->V->V->Hp->(Hp->Prop)->Prop
def pP (X:Cx)(t:yp):Prop :=
 ∀(A1:Tc) (s:A4) (Y:St) (H:Hp) (o i v:V) (ov iv u:A5) (Q:Hp->Prop),aE X A1 Y H s->aW o ov->aW i iv->aW v u->t o i v H Q ->
  wpAny (model X.prog X.w) X.A (setItem ov iv u) (λ_ s'=>∃H',aE X A1 Y H' s'/\Q H') X.xe s
section
variable {X:Cx}{pos:Pos}
def rP (i:Nat):TG:=λv Y H Q=>Q (Y.set i (some v)) H
def xw {i:Nat}{x:Str}(hN:X.N.Nodup)(hi:X.N[i]?=some x)(hx:Cu X.env.scope x)(hf:X.fn x=true\/X.env.scope.names.lookup x=some .local:=by first|exact .inl rfl|exact .inr rfl|assumption):PG X (.Name x pos) (rP i):=by intro A1 s Y H v u Q I r h;exact wpAny_assign_Name (lv I hN hi hx r (λs' I'=>{_,H,I',h}) hf)
noncomputable def Eo:wt:=λvs Y H Q=>vs=[]/\Q Y H
noncomputable def zN (t:TG)(u:wt):wt:=λvs Y H Q=>∃v r,vs=v::r/\t v Y H λY' H'=>u r Y' H' Q
def xv:wu X [] Eo:=by intro A1 s Y H vs us Q I r h;let⟨e,h⟩:=h;subst e;cases r;exact assignInOrder_nil {Y,H,I,h}
theorem vh {e:AG}{es:Tk}{t:TG}{u:wt}(h1:PG X e t)(h2:wu X es u)
  (hs:(assignEach (e::es) X.env).map (·.2)=assign e X.env::(assignEach es X.env).map (·.2):=by rfl):wu X (e::es) (zN t u):=by
 intro A1 s Y H vs us Q I r h;let⟨v,vr,e1,h⟩:=h;subst e1
 cases r with
 |cons r rr=>
  rw[hs];refine assignInOrder_cons (ck (h1 A1 s Y H _ _ _ I r h) λ_ s1 hh=>?_);let⟨Y1,H1,I1,q1⟩:=hh;exact h2 A1 s1 Y1 H1 _ _ Q I1 rr q1
def En (K:AF)(n:Nat)(t:wt):TG:=λv Y H Q=>∃a xs,v=.ref a/\gP K H a xs/\xs.length=n/\t xs Y H Q
def JCg {es:Tk}{k:Nat}{t:wt}{n:Nat}(hc:X.calm=true)(h:wu X es t)
  (hn:(assignEach es X.env).length=n:=by rfl) (hst:(assignEach es X.env).findIdx? (·.1)=none:=by rfl):PG X (.Tuple es k pos) (En X.K n t):=by
 intro A1 s Y H v u Q I r hw;let⟨a,xs,e1,hq,hl,hw⟩:=hw;subst e1;cases r;let⟨its,rv,ht,hz⟩:=I.tuple hq;refine assign_Tuple_tuple (I.ok.hd hc) ht (by simp[hn,←hl,rv.length]) hst λh' hx=>?_;have I1:aE X A1 Y H {s with heap:=h'}:=I.kept (t':=s.toks) λb o e=>hx b o (Av (Ab e)) e;exact h A1 _ Y H xs _ Q I1 ‹rv› hw
def jb (to ti:TE)(t:yp):TG:=λv Y H Q=>to Y H λo H1=>ti Y H1 λi H2=>t o i v H2 λH3=>Q Y H3
def JCh {o i:AG}{to ti:TE}{t:yp}(ho:PE X o to)(hi:PE X i ti)(hs:pP X t)
  (ha:∀v,assign (.Subscript o i pos) X.env v=(do
   let ov ←holding [v] (eval o X.env)
   let iv ←holding [v,ov] (eval i X.env)
   standAt pos
   holding [v,ov,iv] (setItem ov iv v)
   release [v,ov,iv] []):=by intro _;rfl):PG X (.Subscript o i pos) (jb to ti t):=by
 intro A1 s Y H v u Q I r h;rw[ha];refine AI (Be (ck (ho A1 s Y H _ I h) λov s1 hh=>?_));let⟨x,H1,I1,r1,q1⟩:=hh;refine AI (Be (ck (hi A1 s1 Y H1 _ I1 q1) λiv s2 hh=>?_));let⟨y,H2,I2,r2,q2⟩:=hh;refine AI (wpAny_standAt (AI (Be (ck (hs A1 s2 Y H2 x y v ov iv u _ I2 r1 r2 r q2) λ_ s3 hh=>?_))));let⟨H3,I3,q3⟩:=hh;exact wpAny_release {Y,H3,I3,q3}
def wG (te:TE)(g:TG):TS:=λD Y H=>te Y H λx H1=>g x Y H1 D.nx
def JCe {tg e:AG}{te:TE}{g:TG}(he:PE X e te)(hg:PG X tg g)(hs:swapsWithSole [tg] e pos.line X.env=pure false:=by rfl)(hw:swappedStores [tg] e X.env=pure none:=by rfl)
  (h1:(assignEach [tg] X.env).map (·.2)=[assign tg X.env]:=by rfl):PS X (.Assign [tg] e pos) (wG te g):=by
 intro A1 s Y H D I h;refine wpAny_Assign_stores (ck (he A1 s Y H _ I h) λv s1 hh=>?_) hs hw;let⟨x,H1,I1,r1,q1⟩:=hh;rw[h1];exact ck (hg A1 s1 Y H1 x v _ I1 r1 q1) λ_ s2 q=>q
def JCa {i:Nat}{x:Str}{te:TE}{pos':Pos}(hN:X.N.Nodup)(hi:X.N[i]?=some x)(hx:Cu X.env.scope x)(he:PE X e te)(hs:swapsWith e (some (.Name x pos')) pos.line X.env=pure false:=by rfl)(hf:X.fn x=true\/X.env.scope.names.lookup x=some .local:=by first|exact .inl rfl|exact .inr rfl|assumption) :
  PS X (.Assign [.Name x pos'] e pos) (wG te (rP i)):=by
 intro A1 s Y H D I h;refine wpAny_Assign_Name (ck (he A1 s Y H _ I h) λv s1 hh=>?_) hs;let⟨y,H1,I1,r1,q1⟩:=hh;exact lv I1 hN hi hx r1 (λs2 I2=>{_,H1,I2,q1}) hf
end
structure It where
 go:Nat->Hp->Prop
 yld:Nat->Hp->V->Hp->Prop
 stop:Nat->Hp->Prop
def jJ (X:Cx)(A1:Tc)(H:Hp)(b:A6):Prop :=
 H b=none/\b≠X.env.locals/\b∉X.fs/\(b∈X.ex\/X.s₀.heap.objs.size<=b)/\(∀x c,X.env.cells.lookup x=some c->c≠b)/\∀p∈X.pn++A1,p.1≠b
def aE.fpOk {H H':Hp}{s:A4}{b:A6}(I:aE X A1 Y H s)(hb:s.heap.objs.size<=b)(hn:H' b=none):jJ X A1 H' b:=by
 refine{hn,Nat.ne_of_gt (Ax I.lt hb),I.nofs hb,.inr (BM I.sz hb),λx c e z=>?_,λp hp z=>?_}
 ·let⟨v,q⟩:=I.cell x c e;exact AE (Ax q.lt (by rw[z];exact hb)) (BK _)
 ·exact AE (Ax (Ab (I.pin p hp).1) (by rw[z];exact hb)) (BK _)
structure tY (P:Program)(w:World)(K:AF)(tg:Expr)(J:It)(fp:Tf)(it:Addr)(tn:Nat->Heap->Prop):Prop where
 mem:it∈fp
 obj:∀i h,tn i h->∀b∈fp,∃o,h.get? b=some o/\∀v,o.data≠.cell v
 keep:∀i h h',tn i h->(∀b∈fp,∀o,h.get? b=some o->h'.get? b=some o)->tn i h'
 item:∀(X:Cx),X.prog=P->X.w=w->X.K=K->X.calm=true->∀(i:Nat) (A1:Tc) (s:Shared) (Y:St) (H:Hp) (E:Tb),aE X A1 Y H s->(∀b∈fp,jJ X A1 H b)->tn i s.heap->J.go i H ->
  wpAny (model P w) X.A (pyNext (.ref it)) (λr s1=>∃u,r=some u /\
   wpAny (model P w) X.A (letOwnedTupleGo tg (.ref it) u) (λ_ s2=>∃x H',aE X A1 Y H' s2/\aW x u/\J.yld i H x H'/\tn (i+1) s2.heap/\∀b∈fp,H' b=none) E s1) E s
 done:∀(X:Cx),X.prog=P->X.w=w->X.K=K->X.calm=true->∀(i:Nat) (A1:Tc) (s:Shared) (Y:St) (H:Hp) (E:Tb),aE X A1 Y H s->(∀b∈fp,jJ X A1 H b)->tn i s.heap->J.stop i H ->
  wpAny (model P w) X.A (pyNext (.ref it)) (λr s1=>r=none/\aE X A1 Y H s1) E s
 self:∀(A:Around) (i:Nat) (s:Shared) (Q:Tb) (E:Tb),tn i s.heap->Q (.ref it) s->wpAny (model P w) A (pyIter (.ref it)) Q E s
abbrev TI:=St->Hp->(It->Hp->Prop)->Prop
def Ii (X:Cx)(A1:Tc)(Y:St)(tg:AG)(R:It->Hp->Prop)(itv:A5)(s2:A4):Prop :=
 ∃(it:A6) (fp:Tf) (tn:Nat->AD->Prop) (J:It) (H':Hp),itv=.ref it/\aE X A1 Y H' s2/\tY X.prog X.w X.K tg J fp it tn/\tn 0 s2.heap/\(∀b∈fp,jJ X A1 H' b)/\R J H'
def PI (X:Cx)(tg iter:AG)(wi:TI):Prop :=
 ∀(A1:Tc) (s:A4) (Y:St) (H:Hp) (R:It->Hp->Prop),aE X A1 Y H s->wi Y H R ->
  wpAny (model X.prog X.w) X.A (eval iter X.env) (λv s1=>wpAny (model X.prog X.w) X.A (pyIter v) (Ii X A1 Y tg R) X.xe s1) X.xe s
def rO {M : Model} {A : AH} {E : Tb} {s : A4} {tg : AG} {it : A6} {u : A5} {o : Obj} {n : String} {vs : Tj} {Q : Unit -> A4 -> Prop} (ho : s.heap.get? it = some o) (hc : o.cls = .type n) (hd : o.data = .fields vs)
    (hn : ["enumerate", "zip", "dict_itemiterator", "dict_reverseitemiterator", "odict_iterator", "itertools.zip_longest", "itertools.pairwise"].contains n = false) (hQ : Q () s) : wpAny M A (letOwnedTupleGo tg (.ref it) u) Q E s := by
  unfold letOwnedTupleGo
  cases tg <;> first
    | exact AR hQ
    | (cases u <;> first
        | exact AR hQ
        | (refine AI (wpAny_load ho ?_)
           rw[hc, hd]
           show wpAny M A (if (["enumerate", "zip", "dict_itemiterator", "dict_reverseitemiterator", "odict_iterator", "itertools.zip_longest", "itertools.pairwise"].contains n&&vs[0]? == some (rawInt _)) = true then _ else _) Q E s
           rw[AA (by intro h; rw[hn, Bool.false_and] at h; cases h)]
           exact AR hQ))
def Io (K:AF)(a:A6):It :=
 {λi H=>∃xs x,io K H a xs/\xs[i]?=some x,λi H x H'=>H'=H/\∀xs,io K H a xs->xs[i]?=some x,λi H=>∃xs,io K H a xs/\xs.length<=i}
def Il (K:AF)(a:A6):It :=
 {λi H=>∃xs x,gP K H a xs/\xs[i]?=some x,λi H x H'=>H'=H/\∀xs,gP K H a xs->xs[i]?=some x,λi H=>∃xs,gP K H a xs/\xs.length<=i}
def Gc (lo:Int)(n:Nat):It:={λi _=>i<n,λi H x H'=>H'=H/\x=.int (lo+i),λi _=>n<=i}
def sn {K:AF}{tg:AG}(a it:A6):tY P w K tg (Io K a) [it] it (λi h=>h.IsListIter it a i) where
 mem:=by simp
 obj:=λi h st b hb=>by
  have e:b=it:=by simpa using hb
  subst e;let⟨o,e,c,d⟩:=st;exact{o,e,λv z=>by rw[d] at z;cases z}
 keep:=λi h h' st k=>st.at λo e=>k it ∅ o e
 item:=by intro X hP hw hK hc i A1 s Y H E I hf st hg;subst hP hw hK;let⟨xs,x,hq,hx⟩:=hg;let⟨its,rv,p,hz⟩:=I.list hq;let⟨u,hu,ru⟩:=rv.get hx;let⟨f0,f1,f2,f3,f4,f5⟩:=hf it ∅;refine wpAny_pyNext_list_item st p.isList (x:=u) ‹hu› λh' BB sb=>?_;have I1:aE X A1 Y H {s with heap:=h'}:=I.turned (t':=s.toks) (λb o hb e=>(sb.2 b hb).trans e) f0 f1 f3 f4 f5;let⟨o,e,c,d⟩:=id BB;exact{u,rfl,rO (s:={s with heap:=h'}) e c d ∅ {x,H,I1,ru,{rfl,λys hy=>by rw[I.list_inj hy hq];exact hx},BB,λb hb=>(hf b hb).1}}
 done:=by intro X hP hw hK hc i A1 s Y H E I hf st hg;subst hP hw hK;let⟨xs,hq,hx⟩:=hg;let⟨its,rv,p,hz⟩:=I.list hq;let⟨f0,f1,f2,f3,f4,f5⟩:=hf it ∅;have hl:=rv.length;exact wpAny_pyNext_list_end (I.ok.hd hc) st p.isList (by simp;omega) λh' eb=>{rfl,I.turned (t':=s.toks) (λb o hb e=>eb b o hb e) f0 f1 f3 f4 f5}
 self:=λ_ _ _ _ _ st h=>wpAny_pyIter_listiter st h
def p4 {K:AF}{tg:AG}(a it:A6):tY P w K tg (Il K a) [it] it (λi h=>h.IsTupleIter it a i) where
 mem:=by simp
 obj:=λi h st b hb=>by
  have e:b=it:=by simpa using hb
  subst e;let⟨o,e,c,d⟩:=st;exact{o,e,λv z=>by rw[d] at z;cases z}
 keep:=λi h h' st k=>st.at λo e=>k it ∅ o e
 item:=by intro X hP hw hK hc i A1 s Y H E I hf st hg;subst hP hw hK;let⟨xs,x,hq,hx⟩:=hg;let⟨its,rv,p,hz⟩:=I.tuple hq;let⟨u,hu,ru⟩:=rv.get hx;let⟨f0,f1,f2,f3,f4,f5⟩:=hf it ∅;refine wpAny_pyNext_tuple_item st (show s.heap.IsTuple a its.toArray from p) (x:=u) ‹hu› λh' BB sb=>?_;have I1:aE X A1 Y H {s with heap:=h'}:=I.turned (t':=s.toks) (λb o hb e=>(sb.2 b hb).trans e) f0 f1 f3 f4 f5;let⟨o,e,c,d⟩:=id BB;exact{u,rfl,rO (s:={s with heap:=h'}) e c d ∅ {x,H,I1,ru,{rfl,λys hy=>by rw[I.tuple_inj hy hq];exact hx},BB,λb hb=>(hf b hb).1}}
 done:=by intro X hP hw hK hc i A1 s Y H E I hf st hg;subst hP hw hK;let⟨xs,hq,hx⟩:=hg;let⟨its,rv,p,hz⟩:=I.tuple hq;let⟨f0,f1,f2,f3,f4,f5⟩:=hf it ∅;have hl:=rv.length;exact wpAny_pyNext_tuple_end (I.ok.hd hc) st (show s.heap.IsTuple a its.toArray from p) (by simp;omega) λh' eb=>{rfl,I.turned (t':=s.toks) (λb o hb e=>eb b o hb e) f0 f1 f3 f4 f5}
 self:=λ_ _ _ _ _ st h=>wpAny_pyIter_tupleiter st h
def p5 {w:AB}{K:AF}{tg:AG}(it:A6)(lo:Int)(n:Nat):tY P w K tg (Gc lo n) [it] it (λi h=>IsRangeIter h it (lo+(i:Nat)*1) ((n:Int)-(i:Nat)) 1) where
 mem:=by simp
 obj:=λi h st b hb=>by
  have e:b=it:=by simpa using hb
  subst e;exact{_,st,λv z=>by
   have z':Data.fields _=Data.cell v:=z
   cases z'}
 keep:=λi h h' st k=>k it ∅ _ st
 item:=by intro X hP hw hK hc i A1 s Y H E I hf st hg;subst hP hw hK;obtain⟨f0,f1,f2,f3,f4,f5⟩:=hf it ∅;have W:=Walks.range (prog:=X.prog) (w:=X.w) (I.ok.hd hc) it lo 1 n;refine W.item i s _ _ hg st λv h' tk hv BB kk=>?_;obtain⟨t,rfl⟩:=hv;have I1:aE X A1 Y H {s with heap:=h',toks:=tk}:=I.turned (λb o hb e=>kk b o ‹hb› e) f0 f1 f3 f4 f5;refine{_,rfl,rO (s:={s with heap:=h',toks:=tk}) (n:="range_iterator") BB rfl rfl ∅ {.int (lo+i),H,I1,{t,?_},{rfl,rfl},BB,λb hb=>(hf b hb).1}};rw[Int.mul_one]
 done:=by intro X hP hw hK hc i A1 s Y H E I hf st hg;subst hP hw hK;let⟨f0,f1,f2,f3,f4,f5⟩:=hf it ∅;exact wpAny_pyNext_range_end (I.ok.hd hc) st (by have:n<=i:=hg;omega) λh' eb=>{rfl,I.turned (t':=s.toks) (λb o hb e=>eb b o hb e) f0 f1 f3 f4 f5}
 self:=λ_ _ _ _ _ st h=>wpAny_pyIter_rangeiter st h
section
variable {X:Cx}{tg:AG}
def u3 {H:Hp}{s:A4}{R:It->Hp->Prop}{E:Tb}{lo hi:Int}{t u v:Tok}{tk:Nat}(I:aE X A1 Y H s)(h1 : -(2 ^ 62)<=lo)(h2:lo<2 ^ 62)(h3 : -(2 ^ 62)<=hi)(h4:hi<2 ^ 62)
  (q:R (Gc lo (hi-lo).toNat) H):wpAny (model X.prog X.w) X.A (pyIter (.ref s.heap.objs.size)) (Ii X A1 Y tg R) E {s with heap:=s.heap.push {cls:=.type "range",data:=.fields #[.int lo t,.int hi u,.int 1 v]},toks:=tk}:=by
 refine wpAny_pyIter_range (IsRange.new ..) (small_one h1 h2 h3 h4) ?_;have I1:aE X A1 Y H {s with heap:=s.heap.push {cls:=.type "range",data:=.fields #[.int lo t,.int hi u,.int 1 v]},toks:=tk}:=I.kept λb o e=>AU _ e
 refine{(s.heap.push {cls:=.type "range",data:=.fields #[.int lo t,.int hi u,.int 1 v]}).objs.size,[(s.heap.push {cls:=.type "range",data:=.fields #[.int lo t,.int hi u,.int 1 v]}).objs.size],_,_,H,rfl,
  I1.kept (t':=tk) λb o e=>AU _ e,p5 _ lo (hi-lo).toNat,?_,λb hb=>?_,q}
 ·have e1:lo+((0:Nat):Int)*1=lo:=by simp
  have e2:(((hi-lo).toNat:Nat):Int)-((0:Nat):Int)=Builtin.Range.rangeSize lo hi 1:=by rw[rangeSize_one];split <;> omega
  show IsRangeIter _ _ (lo+((0:Nat):Int)*1) ((((hi-lo).toNat:Nat):Int)-((0:Nat):Int)) 1
  rw[e1,e2];exact B1 _ rfl
 ·have e:b=(s.heap.push {cls:=.type "range",data:=.fields #[.int lo t,.int hi u,.int 1 v]}).objs.size:=by simpa using hb
  subst e;exact I1.fpOk (Af _) (I1.hok.fresh (Af _))
def zM (ta:TA):TI:=λY H R=>ta Y H λvs H1=>∃j:Int,vs=[.int j]/\-(2 ^ 62)<=j/\j<2 ^ 62/\R (Gc 0 j.toNat) H1
theorem sF {a:AG}{ta:TA}{p pos:Pos}(hg:Gl X "range")(hm:X.mg "range" = none)(ha:PA X [a] ta)(hs:starEach [a] X.env=[(false,eval a X.env)]:=by rfl):PI X tg (.Call (.Name "range" p) [a] [] pos) (zM ta):=by
 intro A1 s Y H R I h;refine Call_ (j9 I hg hm boot_range (PyProof.Rows.callWith_type1 (ck (ha pos A1 s Y H _ I h) λus s1 hh=>?_) hs rfl));let⟨vs,H1,I1,r1,q1⟩:=hh;let⟨j,e,q1,q2,q⟩:=q1;subst e
 cases r1 with
 |cons r rr=>
  cases rr;let⟨t,rfl⟩:=r;exact call_range_1 (u3 I1 ∅ ∅ q1 q2 ‹q›)
def Am (wi:TI)(g:TG)(tb:TS):TS:=λD Y H=>wi Y H λJ H1=>∃W:Nat->Nat->St->Hp->Prop,(∃m,W 0 m Y H1)/\∀i m Y H,W i m Y H ->
 (J.stop i H/\D.nx Y H)\/(J.go i H/\∃N:St->Hp->Prop,(∀Y' H',N Y' H'->∃m',m'<m/\W (i+1) m' Y' H')/\∀x H',J.yld i H x H'->g x Y H' λY2 H2=>tb {D with nx:=N,ct:=N,bk:=D.nx} Y2 H2)
noncomputable def i0 (fp:Tf)(h:AD):Tc:=fp.filterMap λb=>(h.get? b).map λo=>(b,o)
def dB {fp:Tf}{h:AD}{b:A6}{o:Obj}(hb:b∈fp)(e:h.get? b=some o):(b,o)∈i0 fp h:=List.mem_filterMap.mpr {b,hb,by rw[e];rfl}
theorem nw {fp:Tf}{h:AD}{p:A6×Obj}(hp:p∈i0 fp h):p.1∈fp/\h.get? p.1=some p.2:=by
 let⟨b,hb,e⟩:=List.mem_filterMap.mp hp
 cases q:h.get? b with
 |none=>rw[q] at e;cases e
 |some o=>
  rw[q] at e;have e':(b,o)=p:=Option.some.inj e;subst e';exact{hb,q}
def aE.pinned {H:Hp}{s:A4}{fp:Tf}(I:aE X A1 Y H s)(hf:∀b∈fp,jJ X A1 H b)(ho:∀b∈fp,∃o,s.heap.get? b=some o/\∀v,o.data≠.cell v):aE X (A1++i0 fp s.heap) Y H s :=
 I.pins_of λp hp=>(CR.mp hp).elim (λz=>I.pin p (BG _ z)) λz=>by let⟨hb,e⟩:=nw z;let⟨f0,f1,f2,_⟩:=hf p.1 hb;let⟨o,e',d⟩:=ho p.1 hb;rw[e] at e';cases e';exact{e,f0,f1,f2,d}
def aE.unpinned {A1 pl:Tc}{H:Hp}{s:A4}(I:aE X (A1++pl) Y H s):aE X A1 Y H s:=I.pins_of λp hp=>I.pin p (BG _ (zbl _ hp))
def JCc {iter:AG}{body:Tl}{wi:TI}{g:TG}{tb:TS}{pos:Pos}(hp:PassesOwn (model X.prog X.w) X.A X.env X.xe)(hc:X.calm=true)(hi:PI X tg iter wi)(hg:PG X tg g)(hb:kM X body tb)
  (hs:∀x,foldedSetIterable iter X.env x=pure x:=by intro _;rfl):PS X (.For tg iter body [] pos) (Am wi g tb):=by
 intro A1 s Y H D I h;refine wpAny_For (ck (hi A1 s Y H _ I h) λv s1 h1=>ck h1 λitv s2 h2=>?_) hs;let⟨it,fp,tn,J,H2,e,I2,T,st2,f2,W,⟨m0,w0⟩,turn⟩:=h2;subst e;have stat:∀{H':Hp},(∀b∈fp,H' b=none)->∀b∈fp,jJ X A1 H' b:=λhn b hb=>{hn b hb,(f2 b hb).2};refine codeAny_forLoop_any (λn s'=>∃i Y' H',aE X A1 Y' H' s'/\tn i s'.heap/\(∀b∈fp,H' b=none)/\W i n Y' H') ?_ m0 {0,Y,H2,I2,st2,λb hb=>(f2 b hb).1,w0};rintro n s3 ⟨i,Y3,H3,I3,st3,fr3,w3⟩;rcases turn i n Y3 H3 w3 with⟨stop,qn⟩|⟨go,N,hN,step⟩
 ·refine zbo hp (ck (T.done X rfl rfl rfl hc i A1 s3 Y3 H3 X.xe I3 (stat fr3) st3 stop) λr s4 hh=>?_)
  let⟨hr,I4⟩:=hh;subst hr;exact zbR {Y3,H3,I4,qn}
 ·refine zbo hp (ck (T.item X rfl rfl rfl hc i A1 s3 Y3 H3 X.xe I3 (stat fr3) st3 go) λr s4 hh=>?_)
  let⟨u,hr,h4⟩:=hh;subst hr;refine zbo hp (ck h4 λ_ s5 hh=>?_);let⟨x,H5,I5,r5,y5,DB,fr5⟩:=hh;have I5':=I5.pinned (stat fr5) (T.obj _ _ DB);refine zbo hp (ck (hg _ s5 Y3 H5 x u _ I5' r5 (step x H5 y5)) λ_ s6 hh=>?_);let⟨Y6,H6,I6,q6⟩:=hh;refine zbo hp (ck (hb _ s6 Y6 H6 _ I6 q6) λf s7 q7=>?_)
  have again:∀{Y7:St} {H7:Hp},aE X (A1++i0 fp s5.heap) Y7 H7 s7->N Y7 H7->∃m,m<n/\∃i Y' H',aE X A1 Y' H' s7/\tn i s7.heap/\(∀b∈fp,H' b=none)/\W i m Y' H':=λ{Y7 H7} I7 n7=>by
   let⟨m',hm,w7⟩:=hN Y7 H7 n7;refine{m',hm,i+1,Y7,H7,I7.unpinned,T.keep _ _ _ DB λb hb o e=>(I7.pin (b,o) (BG _ (BG _ (dB hb e)))).1,λb hb=>?_,w7};let⟨o,e,d⟩:=T.obj _ _ DB b hb;exact(I7.pin (b,o) (BG _ (BG _ (dB hb e)))).2.1
  cases f with
  |next=>let⟨Y7,H7,I7,n7⟩:=q7;exact again I7 n7
  |cont=>let⟨Y7,H7,I7,n7⟩:=q7;exact again I7 n7
  |brk=>let⟨Y7,H7,I7,q7⟩:=q7;exact{Y7,H7,I7.unpinned,q7}
  |ret v=>let⟨x7,Y7,H7,I7,r7,q7⟩:=q7;exact{x7,Y7,H7,I7.unpinned,r7,q7}
end
abbrev R2:=V->V->Hp->VK->Prop
def iD (X:Cx)(f:A5->A5->Sem A5)(r:R2):Prop :=
 ∀(A1:Tc) (s:A4) (Y:St) (H:Hp) (x y:V) (v u:A5) (Q:VK),aE X A1 Y H s->aW x v->aW y u->r x y H Q ->
  wpAny (model X.prog X.w) X.A (f v u) (EP X A1 Y Q) X.xe s
def HZ (X:Cx)(f:A5->Sem A5)(r:V->Hp->VK->Prop):Prop :=
 ∀(A1:Tc) (s:A4) (Y:St) (H:Hp) (x:V) (v:A5) (Q:VK),aE X A1 Y H s->aW x v->r x H Q ->
  wpAny (model X.prog X.w) X.A (f v) (EP X A1 Y Q) X.xe s
def ip (X:Cx)(f:A5)(r:A0 V->Hp->VK->Prop):Prop :=
 ∀(A1:Tc) (s:A4) (Y:St) (H:Hp) (xs:A0 V) (us:Te) (Q:VK),aE X A1 Y H s->aO xs us->r xs H Q ->
  wpAny (model X.prog X.w) X.A (call f us) (EP X A1 Y Q) X.xe s
def H9 (X:Cx)(r:V->Hp->(A9->Hp->Prop)->Prop):Prop :=
 ∀(A1:Tc) (s:A4) (Y:St) (H:Hp) (x:V) (v:A5) (Q:A9->Hp->Prop),aE X A1 Y H s->aW x v->r x H Q ->
  wpAny (model X.prog X.w) X.A (truthy v) (TP X A1 Y Q) X.xe s
def Al (r:R2)(ta tb:TE):TE:=λY H Q=>ta Y H λx H1=>tb Y H1 λy H2=>r x y H2 Q
def Iz (r:V->Hp->VK->Prop)(ta:TE):TE:=λY H Q=>ta Y H λx H1=>r x H1 Q
def rI (C:Int->Int->Prop)(g:Int->Int->V):R2:=λx y H Q=>∃i j,x=.int i/\y=.int j/\C i j/\Q (g i j) H
def sB (g:Int->Int->V):R2:=λx y H Q=>∃i j,x=.int i/\y=.int j/\Q (g i j) H
def rU (g:Int->V):V->Hp->VK->Prop:=λx H Q=>∃i,x=.int i/\Q (g i) H
section
variable {X:Cx}{a b:AG}{ta tb:TE}{pos:Pos}
def ye (ha:PE X a ta)(hb:PE X b tb){s:A4}{H:Hp}{R:V->V->Hp->Prop}(I:aE X A1 Y H s)
  (h:ta Y H λx H1=>tb Y H1 λy H2=>R x y H2) {Q:Tb} {f:A5->A5->Sem A5}
  (hf:∀v u s2 x y H2,aE X A1 Y H2 s2->aW x v->aW y u->R x y H2->wpAny (model X.prog X.w) X.A (f v u) Q X.xe s2) :
  wpAny (model X.prog X.w) X.A (eval a X.env) (λv s₁=>wpAny (model X.prog X.w) X.A (eval b X.env) (λu s₂=>wpAny (model X.prog X.w) X.A (f v u) Q X.xe s₂) X.xe s₁) X.xe s:=by
 refine ck (ha A1 s Y H _ I h) λv s1 hh=>?_;let⟨x,H1,I1,r1,q1⟩:=hh;refine ck (hb A1 s1 Y H1 _ I1 q1) λu s2 hh=>?_;let⟨y,H2,I2,r2,q2⟩:=hh;exact hf v u s2 x y H2 I2 r1 r2 q2
def lI {op:Operator}{r:R2}(ho:iD X (binaryOp op) r)(ha:PE X a ta)(hb:PE X b tb):PE X (.BinOp a op b pos) (Al r ta tb):=by intro A1 s Y H Q I h;exact wpAny_BinOp (ye ha hb I h λv u s2 x y H2 I2 rx ry q=>ho A1 s2 Y H2 x y v u Q I2 rx ry q)
def JDt {op:UnaryOp}{r:V->Hp->VK->Prop}(ho:HZ X (unaryOp op) r)(ha:PE X a ta):PE X (.UnaryOp op a pos) (Iz r ta):=by intro A1 s Y H Q I h;exact UnaryOp_ (ck (ha A1 s Y H _ I h) λv s1 ⟨x,H1,I1,r1,q1⟩=>ho A1 s1 Y H1 x v Q I1 r1 q1)
def E9 {f:A5->A5->Sem A5}{C:Int->Int->Prop}{g:Int->Int->Int}
  (rule:∀(i j:Int) (t u:Tok) (s:A4) (Q:Tb) (E:Tb),C i j->Q (.int (g i j) s.toks) {s with toks:=s.toks+1}->wpAny (model X.prog X.w) X.A (f (.int i t) (.int j u)) Q E s) :
  iD X f (rI C λi j=>.int (g i j)):=by
 intro A1 s Y H x y v u Q I rx ry h;let⟨i,j,rfl,rfl,hc,q⟩:=h;let⟨t,rfl⟩:=rx;let⟨t',rfl⟩:=ry;exact rule i j t t' s _ _ hc {.int (g i j),H,I.tok _,{_,rfl},q}
def DS {f:A5->A5->Sem A5}{g:Int->Int->Int}
  (rule:∀(i j:Int) (t u:Tok) (s:A4) (Q:Tb) (E:Tb),Q (.int (g i j) s.toks) {s with toks:=s.toks+1}->wpAny (model X.prog X.w) X.A (f (.int i t) (.int j u)) Q E s) :
  iD X f (sB λi j=>.int (g i j)):=by
 intro A1 s Y H x y v u Q I rx ry h;let⟨i,j,rfl,rfl,q⟩:=h;let⟨t,rfl⟩:=rx;let⟨t',rfl⟩:=ry;exact rule i j t t' s _ _ {.int (g i j),H,I.tok _,{_,rfl},q}
def BC {f:A5->A5->Sem A5}{g:Int->Int->A9}
  (rule:∀(i j:Int) (t u:Tok) (s:A4) (Q:Tb) (E:Tb),Q (.bool (g i j)) s->wpAny (model X.prog X.w) X.A (f (.int i t) (.int j u)) Q E s) :
  iD X f (sB λi j=>.bl (g i j)):=by
 intro A1 s Y H x y v u Q I rx ry h;let⟨i,j,rfl,rfl,q⟩:=h;let⟨t,rfl⟩:=rx;let⟨t',rfl⟩:=ry;exact rule i j t t' s _ _ {.bl (g i j),H,I,rfl,q}
def Cp (i j:Int):Prop:=0<j/\j<1073741824
def Co (i j:Int):Prop:=0<=j/\j<=1000000/\i.natAbs<2 ^ 64
def wm (i j:Int):Prop:=(-(2 ^ 64)<i/\i<2 ^ 64)\/(-(2 ^ 64)<j/\j<2 ^ 64)
def wm.ok {i j:Int}(h:wm i j):IntMulOk i j:=by
 rcases h with⟨h1,h2⟩|⟨h1,h2⟩
 ·exact .of_left (intBits_le_64 h1 h2)
 ·exact .of_right (intBits_le_64 h1 h2)
def JBs:iD X (binaryOp .Add) (sB λi j=>.int (i+j)):=DS λ_ _ _ _ _ _ _ q=>add_int q
def JCu:iD X (binaryOp .Sub) (sB λi j=>.int (i-j)):=DS λ_ _ _ _ _ _ _ q=>sub_int q
def JCx:iD X (binaryOp .Mult) (rI wm λi j=>.int (i*j)):=E9 λ_ _ _ _ _ _ _ hc q=>mul_int q hc.ok
def xD:iD X (binaryOp .FloorDiv) (rI Cp λi j=>.int (i / j)):=E9 λi j _ _ _ _ _ hc q=>by have h1:(0:Int)<j:=hc.1;have h2:j<1073741824:=hc.2;exact floordiv_int ∅ (by rw[Int.fdiv_eq_ediv_of_nonneg i ∅];exact q) (.inl (PyProof.noPylong_small ∅))
def JCy:iD X (binaryOp .Mod) (rI (λ_ j=>0<j) λi j=>.int (i%j)):=E9 λi j _ _ _ _ _ hc q=>by have h1:(0:Int)<j:=hc;exact mod_int' ∅ (by rw[Int.fmod_eq_emod_of_nonneg i ∅];exact q)
def JCv:iD X (binaryOp .Pow) (rI Co λi j=>.int (i ^ j.toNat)):=E9 λ_ _ _ _ _ _ _ hc q=>pow_int_small hc.1 hc.2.1 hc.2.2 q
def Ju {f:A5->Sem A5}{g:Int->Int}
  (rule:∀(i:Int) (t:Tok) (s:A4) (Q:Tb) (E:Tb),Q (.int (g i) s.toks) {s with toks:=s.toks+1}->wpAny (model X.prog X.w) X.A (f (.int i t)) Q E s) :
  HZ X f (rU λi=>.int (g i)):=by
 intro A1 s Y H x v Q I rx h;let⟨i,rfl,q⟩:=h;let⟨t,rfl⟩:=rx;exact rule i t s _ _ {.int (g i),H,I.tok _,{_,rfl},q}
def JA4:HZ X (unaryOp .USub) (rU λi=>.int (-i)):=Ju λ_ _ _ _ _ q=>neg_int q
end
section
variable {X:Cx}{a b c:AG}{ta tb tc:TE}{pos:Pos}
def vU {H:Hp}{s:A4}{Q:VK}{k k':A9}(I:aE X A1 Y H s)(q:Q (.bl k) H)(e:k=k'):EP X A1 Y Q (.bool k') s:=by subst e;exact{.bl k,H,I,rfl,q}
def JDw:iD X (compareOp .Lt) (sB λi j=>.bl (decide (i<j))):=BC λ_ _ _ _ _ _ _ q=>lt_int q
def zH:iD X (compareOp .LtE) (sB λi j=>.bl (decide (i<=j))):=BC λ_ _ _ _ _ _ _ q=>le_int q
def JDx:iD X (compareOp .Gt) (sB λi j=>.bl (decide (j<i))):=BC λ_ _ _ _ _ _ _ q=>gt_int q
def sG:iD X (compareOp .In) (λx y H Q=>∃i j,x=.str i/\y=.str j/\Q (.bl (!(Builtin.Str.occurrences j i 0 j.length 1).isEmpty)) H):=by intro A1 s Y H x y v u Q I rx ry h;let⟨i,j,rfl,rfl,q⟩:=h;let⟨t,rfl⟩:=rx;let⟨t',rfl⟩:=ry;exact in_str (vU I q rfl)
def JCz:iD X (compareOp .Is) (λx y H Q=>y=.non/\Q (.bl (decide (x=.non))) H):=by
 intro A1 s Y H x y v u Q I rx ry h;let⟨rfl,q⟩:=h;cases ry;refine is_none_gen (vU I q ?_)
 cases x <;> first
  |(cases rx;rfl)
  |(let⟨t,rfl⟩:=rx;rfl)
def iD.or {f:A5->A5->Sem A5}{r r':R2}(h:iD X f r)(h':iD X f r'):iD X f (λx y H Q=>r x y H Q\/r' x y H Q):=by
 intro A1 s Y H x y v u Q I rx ry q;rcases q with q|q
 ·exact h A1 s Y H x y v u Q I rx ry q
 ·exact h' A1 s Y H x y v u Q I rx ry q
def j8 (b:AG){op:CmpOp}(h:op≠.In:=by decide)(h2:op≠.NotIn:=by decide):behindInMarks op b=false:=by
 have e1:(op == CmpOp.In)=false:=by cases op <;> first|rfl|exact AE rfl h
 have e2:(op == CmpOp.NotIn)=false:=by cases op <;> first|rfl|exact AE rfl h2
 cases b <;> simp[behindInMarks,e1,e2]
def rB {op:CmpOp}{r:R2}(ho:iD X (compareOp op) r)(ha:PE X a ta)(hb:PE X b tb)(hm:behindInMarks op b=false):PE X (.Compare a [op] [b] pos) (Al r ta tb):=by intro A1 s Y H Q I h;exact wpAny_Compare1 (ye ha hb I h λv u s2 x y H2 I2 rx ry q=>ho A1 s2 Y H2 x y v u Q I2 rx ry q) hm
def zc (t:TE):TT:=λY H Q=>t Y H λx H'=>∃k,x=.bl k/\Q k H'
def rq {op:CmpOp}{r:R2}(ho:iD X (compareOp op) r)(ha:PE X a ta)(hb:PE X b tb)(hm:behindInMarks op b=false):PT X (.Compare a [op] [b] pos) (zc (Al r ta tb)):=by intro A1 s Y H Q I h;refine wpAny_isTrue_Compare1 (ck (ha A1 s Y H _ I h) λv s1 hh=>?_) hm;let⟨x,H1,I1,r1,q1⟩:=hh;refine ck (hb A1 s1 Y H1 _ I1 q1) λu s2 hh=>?_;let⟨y,H2,I2,r2,q2⟩:=hh;refine ck (ho A1 s2 Y H2 x y v u _ I2 r1 r2 q2) λc s3 hh=>?_;let⟨z,H3,I3,r3,k,e,q3⟩:=hh;subst e;cases r3;exact zbd {H3,I3,q3}
def uE (r r':R2)(ta tb tc:TE):TE:=λY H Q=>ta Y H λx H1=>tb Y H1 λy H2=>r x y H2 λz H3=>∃k,z=.bl k /\
 (if k=true then tc Y H3 λw' H4=>r' y w' H4 Q else Q (.bl false) H3)
theorem vp {op op':CmpOp}{r r':R2}(ho:iD X (compareOp op) r)(DE:iD X (compareOp op') r')(ha:PE X a ta)(hb:PE X b tb)(hc:PE X c tc)
  (hm:lastMarks [op,op'] [b,c]=false:=by with_unfolding_all rfl):PE X (.Compare a [op,op'] [b,c] pos) (uE r r' ta tb tc):=by
 intro A1 s Y H Q I h;refine Compare_chain (ck (ha A1 s Y H _ I h) λv s1 hh=>?_) hm;let⟨x,H1,I1,r1,q1⟩:=hh;refine chain_link (ck (hb A1 s1 Y H1 _ I1 q1) λu s2 hh=>?_);let⟨y,H2,I2,r2,q2⟩:=hh;refine ck (ho A1 s2 Y H2 x y v u _ I2 r1 r2 q2) λd s3 hh=>?_;let⟨z,H3,I3,r3,k,e,q3⟩:=hh;subst e;cases r3;refine zbd ?_
 cases k with
 |false=>exact ite_ff {.bl false,H3,I3,rfl,q3}
 |true=>exact ite_tt (chain_last (ck (hc A1 s3 Y H3 _ I3 q3) λw' s4 ⟨z',H4,I4,r4,q4⟩=>DE A1 s4 Y H4 y z' u w' Q I4 r2 r4 q4))
def yo (K:AF)(x:V)(H:Hp)(k:A9):Prop :=
 match x with
 |.non=>k=false
 |.bl b=>k=b
 |.int i=>k=(i != 0)
 |.str y=>y.length<=sizeLine/\k=((y.length:Int) != 0)
 |.byt y=>y.size<=sizeLine/\k=((y.size:Int) != 0)
 |.ref p=>(∃xs,io K H p xs/\k = !xs.isEmpty)\/(∃xs,gP K H p xs/\k = !xs.isEmpty)\/∃kvs,H p=some (.dK kvs)/\k = !kvs.isEmpty
 |_=>False
def qz {κ:Type}{kvs:A0 (κ×V)}{vs:A0 (κ×A5)}(r:KV kvs vs):(!vs.isEmpty) = !kvs.isEmpty:=by cases r <;> rfl
def lS {xs:A0 V}{its:Te}(r:aO xs its):(!its.toArray.isEmpty) = !xs.isEmpty:=by cases r <;> simp
def i5:(sizeLine:Nat)<2 ^ 63:=by rw[sizeLine_eq];decide
theorem p6:H9 X (λx H Q=>∃k,yo X.K x H k/\Q k H):=by
 intro A1 s Y H x v Q I rx h;let⟨k,e,q⟩:=h;have hl:=i5;have hs:sizeLine=16777216:=sizeLine_eq
 cases x with
 |non=>
  cases rx;have e':k=false:=e;subst e';exact truthy_none {H,I,q}
 |bl b=>
  cases rx;have e':k=b:=e;subst e';exact zbd {H,I,q}
 |int i=>
  let⟨t,rfl⟩:=rx;have e':k=(i != 0):=e;subst e';exact PySem.P.truthy_int {H,I,q}
 |str y=>
  let⟨t,rfl⟩:=rx;obtain⟨hy,e'⟩:y.length<=sizeLine/\k=((y.length:Int) != 0):=e;subst e';exact PySem.P.truthy_str ∅ {H,I.tok _,q}
 |byt y=>
  let⟨t,rfl⟩:=rx;obtain⟨hy,e'⟩:y.size<=sizeLine/\k=((y.size:Int) != 0):=e;subst e';exact PySem.W.truthy_bytes ∅ {H,I.tok _,q}
 |ref p=>
  cases rx;have e':(∃xs,io X.K H p xs/\k = !xs.isEmpty)\/(∃xs,gP X.K H p xs/\k = !xs.isEmpty)\/∃kvs,H p=some (.dK kvs)/\k = !kvs.isEmpty:=e;rcases e' with⟨xs,hx,e'⟩|⟨xs,hx,e'⟩|⟨kvs,hx,e'⟩
  ·subst e';let⟨its,r,pl,hz⟩:=I.list hx;have hlen:=r.length;exact wpAny_truthy_list pl.isList (by rwa[Ao];omega) {H,I.tok _,by rw[lS r];exact q}
  ·subst e';let⟨its,r,pl,hz⟩:=I.tuple hx;have hlen:=r.length;exact truthy_tuple pl (by rwa[Ao];omega) {H,I.tok _,by rw[lS r];exact q}
  ·subst e';obtain⟨hz,hS,vs,r,m⟩:kvs.length<=sizeLine/\(p == sysModules)=false/\∃vs,KV kvs vs/\s.heap.DictOf (bG X.prog X.w) p vs:=I.hok p _ hx;have hlen:kvs.length=vs.length:=Paired.length r;exact wpAny_truthy_dict hS m ∅ {H,I.tok _,by rw[qz r];exact q}
 |_=>exact(show False from e).elim
def vd (ha:PE X a ta)(he:∀whole,isTrue a X.env whole=(do let v ←whole;standAt a.pos;holding [v] (truthy v))) :
  PT X a (λY H Q=>ta Y H λx H'=>∃k,yo X.K x H' k/\Q k H'):=by
 intro A1 s Y H Q I h;exact isTrue_plain (ck (ha A1 s Y H _ I h) λv s1 ⟨x,H1,I1,r1,q1⟩=>p6 A1 s1 Y H1 x v Q I1 r1 q1) (he _)
def qg:iD X (binaryOp .Add) (λx y H Q=>∃i j,x=.str i/\y=.str j/\i.length+j.length<=sizeLine/\Q (.str (i++j)) H):=by intro A1 s Y H x y v u Q I rx ry h;let⟨i,j,rfl,rfl,hz,q⟩:=h;let⟨t,rfl⟩:=rx;let⟨t',rfl⟩:=ry;exact add_str (λt' tk=>{.str (i++j),H,I.tok _,{_,rfl},q}) hz
def pO (b:AG):Prop:=∀o i,subscripted b false o i=operate [o,i] (getItem o i)
def pd (ha:PE X a ta)(hb:PE X b tb)(hs:pO b) :
  PE X (.Subscript a b pos) (Al (λx y H Q=>∃z i c,x=.str z/\y=.int i/\0<=i/\i<2 ^ 63/\i<z.length/\z.cps[i.toNat]?=some c/\Q (.str ⟨#[c]⟩) H) ta tb):=by
 intro A1 s Y H Q I h;refine Subscript_ (ye ha hb I h λv u s2 x y H2 I2 rx ry q=>?_);let⟨z,i,c,rfl,rfl,h0,h63,h1,hc,q⟩:=q;let⟨t,rfl⟩:=rx;let⟨t',rfl⟩:=ry;have e:seqIndex? i z.length=some i.toNat:=PySem.StrLaws.seqIndex_nonneg h0 h1
 exact tail_any (typeIs_str s2 z t) slot_str_getitem.lookup (getItem_str (c:=c) (by
  have e1:decide (i < -(2 ^ 63:Int))=false:=Ba ∅;have e2:decide (i >= 2 ^ 63)=false:=Ba ∅
  rw[e1,e2] <;> rfl) (by rw[e];exact hc) {.str ⟨#[c]⟩,H2,I2.tok _,{_,rfl},q}) (hs _ _)
theorem kx {x:V}{us:Te}(r:aO [x] us):∃u,us=[u]/\aW x u:=by
 cases r with
 |cons r1 r2=>cases r2;exact{_,rfl,r1}
theorem yy {x y:V}{us:Te}(r:aO [x,y] us):∃u w',us=[u,w']/\aW x u/\aW y w':=by
 cases r with
 |cons r1 r2=>
  cases r2 with
  |cons r3 r4=>cases r4;exact{_,_,rfl,r1,r3}
def tJ (hc:X.calm=true):ip X (.builtin "max") (λxs H Q=>∃i j,xs=[.int i,.int j]/\Q (.int (if j>i then j else i)) H):=by
 intro A1 s Y H xs us Q I r h;let⟨i,j,rfl,q⟩:=h;let⟨u,w',rfl,⟨t,rfl⟩,⟨t',rfl⟩⟩:=yy r;refine max_two_ints (I.ok.hd hc) λh' tk k=>{_,H,I.kept k,?_,q};by_cases hj:j>i
 ·rw[A8 hj,A8 hj];exact{_,rfl}
 ·rw[AA hj,AA hj];exact{_,rfl}
def tI (hc:X.calm=true):ip X (.builtin "min") (λxs H Q=>∃i j,xs=[.int i,.int j]/\Q (.int (if j<i then j else i)) H):=by
 intro A1 s Y H xs us Q I r h;let⟨i,j,rfl,q⟩:=h;let⟨u,w',rfl,⟨t,rfl⟩,⟨t',rfl⟩⟩:=yy r;refine min_two_ints (I.ok.hd hc) λh' tk k=>{_,H,I.kept k,?_,q};by_cases hj:j<i
 ·rw[A8 hj,A8 hj];exact{_,rfl}
 ·rw[AA hj,AA hj];exact{_,rfl}
def oy:ip X (.type "str") (λxs H Q=>∃i,xs=[.int i]/\i.natAbs.log2<1920/\Q (.str (toString i)) H):=by intro A1 s Y H xs us Q I r h;obtain⟨i,rfl,hz,q⟩:=h;obtain⟨u,rfl,t,rfl⟩:=kx r;exact PySem.P.str_of_int hz {.str _,H,I.tok _,{_,rfl},q}
end
structure qS (h:Heap)(x dx C:Addr)(mA:Td):Prop where
 obj:h.get? x=some (PySem.W.instObj C dx)
 ns:h.Ns1 dx mA
 ne:dx≠x
def sR {h:AD}{dx:A6}{mA:Td}(n:h.Ns1 dx mA):∃od,h.get? dx=some od/\∀name,PySem.W.lookIn name od=some (mA name):=by
 let⟨o,es,ep,ho,hd,hk,_,hm⟩:=n;refine{o,ho,λname=>?_};have e:=hm name;unfold nsFind findBy at e;rw[←Array.find?_toList] at e;unfold PySem.W.lookIn;rw[hd];dsimp only;split
 ·rename_i y q;rw[q] at e;exact AL some e
 ·rename_i q;rw[q] at e;have a:es.toList.any (·.refKey)=false:=by rw[List.any_eq_false];intro y hy;let⟨z,t,hkey⟩:=hk y (Array.mem_toList_iff.mp hy);simp[DictEntry.refKey,hkey]
  have a':¬ es.toList.any (·.refKey)=true:=by rw[a];exact Bw
  rw[AA a'];exact AL some e
def qS.look {h:AD}{x dx C:A6}{mA:Td}(I:qS h x dx C mA):∃od,PySem.W.InstAt h x (PySem.W.instObj C dx) C (some od)/\∀name,PySem.W.lookIn name od=some (mA name) :=
 let ⟨od,ho,hl⟩:=sR I.ns
 {od,{I.obj,rfl,rfl,ho},hl}
section
variable {prog:A7}{w:AB}{A:AH}{E:Tb}{s:A4}{K:AF}{x dx C f:A6}{mA:Td}{name:Str}{v:A5}
def xX {expr:A9}{Q:Tb}(X:K.In s.heap)(I:qS s.heap x dx C mA)(hg:PySem.W.plainGet K C name=true)(hh:PySem.W.hasDictIn K C=true)
  (ha:PySem.W.findIn K (.ref C) name=some none) (hv:mA name=some v) (hv':PySem.W.handedIn v=true) (h:Q v {s with toks:=s.toks+1}) :
  wpAny (model prog w) A (getAttr (.ref x) name expr) Q E s:=by
 let⟨od,J,hl⟩:=I.look;exact PySem.W.get_value X J (zbF hg).1 (PySem.W.findObj_own hh ha rfl (by rw[hl,hv])) hv' h
def vR {pl:Sem A9}{Q:A5×A0 A5->A4->Prop}(X:K.In s.heap)(I:qS s.heap x dx C mA)(hg:PySem.W.plainGet K C name=true)
  (hf:PySem.W.findIn K (.ref C) name=some (some (.ref f))) (ht:PySem.W.isFn K (.ref f)=true) (hv:mA name=none) (h:Q (.ref f,[.ref x]) s) :
  wpAny (model prog w) A (getMethod (.ref x) name pl) Q E s:=by
 let⟨od,J,hl⟩:=I.look;exact PySem.W.method_fn X J (zbF hg).1 (zbF hg).2 hf (beq_iff_eq.mp ht) (by show(PySem.W.lookIn name od).map (·.isSome)=some false;rw[hl,hv];rfl) h
def wO {ns:Tn}{Q:Unit->A4->Prop}(X:K.In s.heap)(I:qS s.heap x dx C mA)
  (hs:PySem.W.findIn K (.ref C) "__setattr__" = some (some (.builtin "object.__setattr__"))) (hp:PySem.W.plainOver K C=true) (ht:PySem.W.takerIn K C name=some none) (hh:PySem.W.hasDictIn K C=true)
  (hw:PySem.Within mA ns) (hsz:ns.length<=sizeLine)
  (h:∀h',qS h' x dx C (λy=>if y=name then some v else mA y)->Heap.SameBut dx s.heap h'->Q () {s with heap:=h',toks:=s.toks+2}) :
  wpAny (model prog w) A (setAttr (.ref x) name v) Q E s:=by
 let⟨od,J,hl⟩:=I.look;refine PySem.W.set_plain X J hs (PySem.W.osa_open (s:={s with toks:=s.toks+1}) (r:=none) X J hp ht λb=>?_);let⟨cd,hc,hd'⟩:=PySem.W.any_some hh;have hx:s.heap.get? x=some {.ref C,some dx,.plain,#[]}:=I.obj;refine AI (AR (AI (AI (wpAny_loadPart hx (AI (PySem.W.Looks.here (s:={s with toks:=s.toks+1}) (PySem.W.looks_clsIn X hc) ?_))))));rw[hd'];refine AR (a:=some dx) (AI (AR (AI ?_)));refine wpAny_nsSet1 (s:={s with toks:=s.toks+1}) I.ns λh' Cv hs2=>?_;let⟨oD,esD,epD,hoD,hdD,hcD⟩:=Cv.count (PySem.Within.cons name v hw);refine AI (wpAny_lookBehind hoD (by rw[hdD];exact pastItsLine_dict (BM hcD (by rw[B9];omega))) ?_);exact AR (h _ {(hs2.2 _ (Ne.symm I.ne)).trans I.obj,Cv,I.ne} hs2)
def vA {R:Result->A4->Prop}{vs:Te}{kw:A0 (Str×A5)}(X:K.In s.heap)(hm:PySem.W.makesIn K C=true)
  (hi:PySem.W.findIn K (.ref C) "__init__" = some (some (.ref f))) (hf:PySem.W.typeIn K (.ref f)=some (.type "function"))
  (h:codeAny (model prog w) (A.under (.builtin "type.__call__" {.ref C::vs,kw})) (.call (.ref f) {.ref (s.heap.objs.size+1)::vs,kw}) (PySem.W.InitBack (s.heap.objs.size+1) R)
   {s with heap:=(s.heap.push PySem.W.emptyDict).push (PySem.W.instObj C s.heap.objs.size)}) :
  codeAny (model prog w) A (.call (.ref C) {vs,kw}) R s:=by
 let⟨hh,g,d,t,os⟩:=s;exact PySem.W.make_core (PySem.W.makes_of X hm) (PySem.W.looks_findIn X hi) (λself=>PySem.W.bind_fn X self hf) (.inl rfl) h
end
noncomputable def fJ (f:Str)(v:V):A0 (Str×V)->A0 (Str×V)
 |[]=>[(f,v)]
 |(g,x)::r=>if g=f then (g,v)::r else (g,x)::fJ f v r
theorem kD (f g:Str)(v:V):∀fs:A0 (Str×V),(fJ f v fs).lookup g=if g=f then some v else fs.lookup g
 |[]=>by
  show List.lookup g [(f,v)]=_
  by_cases h:g=f
  ·have hb:(g == f)=true:=beq_iff_eq.mpr h;rwa[List.lookup,hb,A8 h]
  ·have hb:(g == f)=false:=beq_eq_false_iff_ne.mpr h;rwa[List.lookup,hb,AA h]
 |(k,x)::r=>by
  have ih:=kD f g v r;rw[show fJ f v ((k,x)::r)=(if k=f then (k,v)::r else (k,x)::fJ f v r) from rfl];by_cases hk:k=f
  ·rw[A8 hk];by_cases h:g=k
   ·have hb:(g == k)=true:=beq_iff_eq.mpr h;rwa[List.lookup,hb,A8 (h.trans hk)]
   ·have hb:(g == k)=false:=beq_eq_false_iff_ne.mpr h;rwa[List.lookup,hb,AA (λe:g=f=>h (e.trans hk.symm))]
  ·rw[AA hk];by_cases h:g=k
   ·have hb:(g == k)=true:=beq_iff_eq.mpr h;rwa[List.lookup,hb,AA (λe:g=f=>hk (h.symm.trans e))]
   ·have hb:(g == k)=false:=beq_eq_false_iff_ne.mpr h;rwa[List.lookup,hb];exact ih
theorem kf (f:Str)(v:V):∀fs:A0 (Str×V),f∈(fJ f v fs).map (·.1)/\∀g,g∈fs.map (·.1)->g∈(fJ f v fs).map (·.1)
 |[]=>{by simp[fJ],λg h=>by simp at h}
 |(k,x)::r=>by
  let⟨i1,i2⟩:=kf f v r;rw[show fJ f v ((k,x)::r)=(if k=f then (k,v)::r else (k,x)::fJ f v r) from rfl];by_cases hk:k=f
  ·rw[A8 hk];subst hk;exact{by simp,λg h=>by simpa using h}
  ·rw[AA hk];refine{?_,λg h=>?_}
   ·rw[An];exact Au _ i1
   ·rw[An] at h ⊢;rcases Ad.mp h with e|e
    ·exact Ad.mpr (.inl e)
    ·exact Au _ (i2 g e)
theorem kF (f:Str)(v:V):∀fs:A0 (Str×V),(fJ f v fs).length<=fs.length+1
 |[]=>by simp[fJ]
 |(k,x)::r=>by
  have ih:=kF f v r;rw[show fJ f v ((k,x)::r)=(if k=f then (k,v)::r else (k,x)::fJ f v r) from rfl];by_cases hk:k=f
  ·rw[A8 hk,B9,B9];omega
  ·rw[AA hk,B9,B9];omega
theorem kq.some_of {v:V}{o:Tg}(r:kq (some v) o):∃u,o=some u/\aW v u:=by
 cases o with
 |none=>exact(show False from r).elim
 |some u=>exact{u,rfl,r}
theorem kq.none_of {o:Tg}(r:kq none o):o=none:=by
 cases o with
 |none=>rfl
 |some u=>exact(show False from r).elim
theorem tz {v:V}{u:A5}(r:aW v u):PySem.W.handedIn u=true:=by
 cases v with
 |non=>cases(show u=Value.none from r);rfl
 |bl b=>cases(show u=Value.bool b from r);rfl
 |int i=>let⟨t,e⟩:=(show ∃t,u=Value.int i t from r);cases e;rfl
 |str x=>let⟨t,e⟩:=(show ∃t,u=Value.str x t from r);cases e;rfl
 |byt b=>let⟨t,e⟩:=(show ∃t,u=Value.bytes b t from r);cases e;rfl
 |flt b=>let⟨t,e⟩:=(show ∃t,u=Value.float b t from r);cases e;rfl
 |ref a=>cases(show u=Value.ref a from r);rfl
 |ty n=>cases(show u=Value.type n from r);rfl
section
variable {P:A7}{w:AB}{H:Hp}{h:AD}{a C dx:A6}{fs:A0 (Str×V)}
def oh (hok:gc P w H h)(e:H a=some (.ins C dx fs)):∃mA,qS h a dx C mA/\(∀f,kq (fs.lookup f) (mA f))/\PySem.Within mA (fs.map (·.1))/\fs.length<=1000/\H dx=some (.own a):=by let⟨d,z,ne,ob,mA,n,r,q⟩:=(show b7 P w H h a (.ins C dx fs) from hok a _ e);exact{mA,{ob,n,ne},r,q,z,d}
end
structure wv (K:AF)(C:Addr):Prop where
 pg:PySem.W.plainGet K C Str.empty=true
 hd:PySem.W.hasDictIn K C=true
 po:PySem.W.plainOver K C=true
 sa:PySem.W.findIn K (.ref C) "__setattr__" = some (some (.builtin "object.__setattr__"))
def wv.get {K:AF}{C:A6}(c:wv K C)(f:Str):PySem.W.plainGet K C f=true:=c.pg
def c7 (K:AF)(C:A6)(f:Str):Prop:=PySem.W.findIn K (.ref C) f=some none
def c7.taker {K:AF}{C:A6}{f:Str}(n:c7 K C f):PySem.W.takerIn K C f=some none:=by unfold PySem.W.takerIn;rw[show PySem.W.findIn K (.ref C) f=some none from n];rfl
structure yq (K:AF)(C:Addr)(m:Str)(f:Addr):Prop where
 at_:PySem.W.findIn K (.ref C) m=some (some (.ref f))
 fn:PySem.W.isFn K (.ref f)=true
 kp:PySem.W.keepIn K (.ref f)=true
section
variable {X:Cx}{A1:Tc}{Y:St}{H:Hp}{s:A4}{a C dx:A6}{fs:A0 (Str×V)}{f:Str}{v:V}{A:AH}{E:Tb}
def lT {b:A9}{Q:Tb}(I:aE X A1 Y H s)(e:H a=some (.ins C dx fs))(c:wv X.K C)(n:c7 X.K C f)(l:fs.lookup f=some v)
  (h:∀u s',aE X A1 Y H s'->aW v u->Q u s'):wpAny (model X.prog X.w) A (getAttr (.ref a) f b) Q E s:=by
 let⟨mA,Oz,r,_,_,_⟩:=oh I.hok e;let⟨u,hu,ru⟩:=kq.some_of (v:=v) (o:=mA f) (by rw[←l];exact r f);exact xX I.kIn Oz (c.get f) c.hd n hu (tz ru) (h u _ (I.tok _) ru)
def qB {m:Str}{g:A6}{pl:Sem A9}{Q:A5×A0 A5->A4->Prop}(I:aE X A1 Y H s)(e:H a=some (.ins C dx fs))(c:wv X.K C)(k:yq X.K C m g)(l:fs.lookup m=none)
  (h:Q (.ref g,[.ref a]) s):wpAny (model X.prog X.w) A (getMethod (.ref a) m pl) Q E s:=by
 let⟨mA,Oz,r,_,_,_⟩:=oh I.hok e;have hn:mA m=none:=kq.none_of (by rw[←l];exact r m);exact vR I.kIn Oz (c.get m) k.at_ k.fn hn h
def lx {y:V}{u:A5}{Q:Unit->A4->Prop}(I:aE X A1 Y H s)(e:H a=some (.ins C dx fs))(c:wv X.K C)(n:c7 X.K C f)(hl:fs.length<1000)(ry:aW y u)
  (h:∀s',aE X A1 Y (upd H a (.ins C dx (fJ f y fs))) s'->Q () s'):wpAny (model X.prog X.w) A (setAttr (.ref a) f u) Q E s:=by
 let⟨mA,Oz,r,wi,_,ho⟩:=oh I.hok e
 have hz:(fs.map (·.1)).length<=sizeLine:=by rw[Ac,sizeLine_eq];omega
 refine wO I.kIn Oz c.sa c.po n.taker c.hd wi hz λh' O'z sb=>h _ ?_;have hd:∃o,h'.get? dx=some o:=let ⟨o,_,_,e',_⟩:=O'z.ns;{o,e'};refine I.write (x:=a) (e:=dx) (by rw[e];exact True.intro) (.inr ho) (λb q hb z=>(sb.2 b hb).trans z) hd ?_;refine{by rw[ay Oz.ne];exact ho,?_,Oz.ne,O'z.obj,_,O'z.ns,λg=>?_,λg hg=>?_}
 ·have:=kF f y fs;omega
 ·show kq ((fJ f y fs).lookup g) (if g=f then some u else mA g)
  rw[kD]
  by_cases q:g=f
  ·rw[A8 q,A8 q];exact ry
  ·rw[AA q,AA q];exact r g
 ·by_cases q:g=f
  ·rw[q];exact(kf f y fs).1
  ·refine(kf f y fs).2 g (wi g λz=>hg ?_)
   show(if g=f then some u else mA g)=none
   rw[AA q];exact z
def aE.made (I:aE X A1 Y H s):aE X A1 Y (upd (upd H s.heap.objs.size (.own (s.heap.objs.size+1))) (s.heap.objs.size+1) (.ins C s.heap.objs.size []))
  {s with heap:=(s.heap.push PySem.W.emptyDict).push (PySem.W.instObj C s.heap.objs.size)}:=by
 have e1:(s.heap.push PySem.W.emptyDict).get? s.heap.objs.size=some PySem.W.emptyDict:=B1 s.heap rfl
 have e2:((s.heap.push PySem.W.emptyDict).push (PySem.W.instObj C s.heap.objs.size)).get? (s.heap.objs.size+1)=some (PySem.W.instObj C s.heap.objs.size):=by
  have:=B1 (s.heap.push PySem.W.emptyDict) (o:=PySem.W.instObj C s.heap.objs.size) rfl
  (rw[BZ] at this;assumption)
 have e3:(s.heap.push PySem.W.emptyDict).Ns s.heap.objs.size (λ_=>none):={PySem.W.emptyDict,#[],_,e1,rfl,(λe he=>AE he ∅),λ_=>rfl};have I1:=I.laid (a:=s.heap.objs.size) (o:=.own (s.heap.objs.size+1)) (h':=s.heap.push PySem.W.emptyDict) (t':=s.toks) (λb u q=>AU _ q) (Af _) {_,e1};refine I1.laid (a:=s.heap.objs.size+1) (o:=.ins C s.heap.objs.size []) (t':=s.toks) (λb u q=>AU _ q) (Nat.le_of_eq (BZ _ _)) ?_;have ne:s.heap.objs.size≠s.heap.objs.size+1:=Av (zbv _);refine{by rw[ay ne,cO],zbt _,ne,e2,λ_=>none,(Heap.Ns1.of_empty e3).at λo q=>AU _ q,λ_=>True.intro,λy hy=>AE rfl hy}
def yf {prog:A7}{w:AB}{env:Env}{e:AG}{f:Str}{pos:Pos}{s:A4}{Q:Tb}(hb:attributeBase e f env (eval e env)=eval e env)
  (h:wpAny (model prog w) A (eval e env) (λo s₁=>wpAny (model prog w) A (getAttr o f true) Q E s₁) E s):wpAny (model prog w) A (eval (.Attribute e f pos) env) Q E s :=
 Attribute_any_ h (by rw[arm_eval_Attribute,hb])
end
def Db (K:AF)(ta:TE)(f:Str):TE:=λY H Q=>ta Y H λx H1=>∃a C dx fs v,x=.ref a/\H1 a=some (.ins C dx fs)/\wv K C/\c7 K C f/\fs.lookup f=some v/\Q v H1
def Dh (K:AF)(ta tv:TE)(f:Str):TS:=λD Y H=>tv Y H λy H1=>ta Y H1 λx H2=>∃a C dx fs,x=.ref a/\H2 a=some (.ins C dx fs)/\wv K C/\c7 K C f/\fs.length<1000 /\
 D.nx Y (upd H2 a (.ins C dx (fJ f y fs)))
def EW (X:Cx)(op:Operator)(rd:V->V->Hp->VK->Prop):Prop :=
 ∀(A1:Tc) (s:A4) (Y:St) (H:Hp) (x y:V) (u v:A5) (Q:VK),aE X A1 Y H s->aW x u->aW y v->rd x y H Q->wpAny (model X.prog X.w) X.A (inplaceOp op u v) (EP X A1 Y Q) X.xe s
def re (K:AF)(ta tv:TE)(rd:V->V->Hp->VK->Prop)(f:Str):TS:=λD Y H=>ta Y H λx H1=>∃a C dx fs v,x=.ref a/\H1 a=some (.ins C dx fs)/\wv K C/\c7 K C f/\fs.lookup f=some v /\
 tv Y H1 λy H2=>rd v y H2 λz H3=>∃Dk fs',H3 a=some (.ins C Dk fs')/\fs'.length<1000/\D.nx Y (upd H3 a (.ins C Dk (fJ f z fs')))
section
variable {X:Cx}{o e value:AG}{f:Str}{pos pos' tpos:Pos}{ta tv:TE}
def JCr (he:PE X e ta)(hb:attributeBase e f X.env (eval e X.env)=eval e X.env):PE X (.Attribute e f pos) (Db X.K ta f):=by intro A1 s Y H Q I h;refine yf hb (ck (he A1 s Y H _ I h) λu s1 hh=>?_);let⟨x,H1,I1,rx,a,C,dx,fs,v,ex,ea,c,n,l,q⟩:=hh;subst ex;obtain rfl:u=Value.ref a:=rx;exact lT I1 ea c n l λu' s2 I2 ru=>{v,H1,I2,ru,q}
def JCd (ha:PE X o ta)(hv:PE X value tv)(hs:swapsWith value (some (.Attribute o f pos')) pos.line X.env=pure false):PS X (.Assign [.Attribute o f pos'] value pos) (Dh X.K ta tv f):=by intro A1 s Y H D I h;refine plainObj_wpAny_Assign_Attribute (ck (hv A1 s Y H _ I h) λu s1 hh=>?_) hs;let⟨y,H1,I1,ry,q⟩:=hh;refine ck (ha A1 s1 Y H1 _ I1 q) λov s2 hh=>?_;let⟨x,H2,I2,rx,a,C,dx,fs,ex,ea,c,n,l,q2⟩:=hh;subst ex;obtain rfl:ov=Value.ref a:=rx;exact lx I2 ea c n l ry λs3 I3=>{Y,_,I3,q2}
def sC {op:Operator}{rd:V->V->Hp->VK->Prop}(ha:PE X o ta)(hv:PE X value tv)(hop:EW X op rd):PS X (.AugAssign (.Attribute o f tpos) op value pos) (re X.K ta tv rd f):=by intro A1 s Y H D I h;refine wpAny_AugAssign_AttributeAny (ck (ha A1 s Y H _ I h) λov s1 hh=>?_);let⟨x,H1,I1,rx,a,C,dx,fs,v,ex,ea,c,n,l,q⟩:=hh;subst ex;obtain rfl:ov=Value.ref a:=rx;refine lT I1 ea c n l λu s2 I2 ru=>ck (hv A1 s2 Y H1 _ I2 q) λw3 s3 hh=>?_;let⟨y,H2,I3,ry,q3⟩:=hh;refine ck (hop A1 s3 Y H2 v y u w3 _ I3 ru ry q3) λw4 s4 hh=>?_;let⟨z,H3,I4,rz,Dk,fs',ea',l',q4⟩:=hh;exact lx I4 ea' c n l' rz λs5 I5=>{Y,_,I5,q4}
def DC:V->V->Hp->VK->Prop:=λx y H Q=>∃i j,x=.int i/\y=.int j/\Q (.int (i+j)) H
def JB7:EW X .Add DC:=by rintro A1 s Y H x y u v Q I rx ry ⟨i,j,rfl,rfl,q⟩;let⟨t,rfl⟩:=(show ∃t,u=Value.int i t from rx);let⟨t',rfl⟩:=(show ∃t',v=Value.int j t' from ry);exact PyProof.Rows.iadd_int {.int (i+j),H,I.tok _,{_,rfl},q}
end
structure bF (k:Nat)(A:Around):Prop where
 hd:A.handled=none
 dp:A.depth+3*k+5<recursionLimit
 un:A.units+16*k+200<cLine
def bF.mono {j k:Nat}(r:bF k A)(h:j<=k):bF j A:={r.hd,by have:=r.dp;omega,by have:=r.un;omega}
def bF.deeper {k:Nat}{A:AH}(r:bF (k+1) A)(env:Env):bF k (A.deeper env) :=
 {r.hd,by have:=r.dp;show A.depth+1+3*k+5<_;omega,by have:=r.un;show A.units+3+16*k+200<_;omega}
def ql {A:AH}{C:A6}{us:Te}{kw:A0 (Str×A5)}:(A.under (.builtin "type.__call__" {.ref C::us,kw})).depth=A.depth+1:=by first|rfl|simp[Around.under,Code.weight,Code.isCreation,Code.isGuard,Code.isCaller,Code.frames,Code.isFrame,guardIds]
def qk {A:AH}{C:A6}{us:Te}{kw:A0 (Str×A5)}:(A.under (.builtin "type.__call__" {.ref C::us,kw})).units=A.units+1:=by first|rfl|simp[Around.under,Code.cUnits,Code.frames,Code.isFrame]
def bF.make {k:Nat}{A:AH}(r:bF (k+1) A)(C:A6)(us:Te)(kw:A0 (Str×A5)):bF k (A.under (.builtin "type.__call__" {.ref C::us,kw})) :=
 {r.hd,by have:=r.dp;rw[ql];omega,by have:=r.un;rw[qk];omega}
def bF.depth {k:Nat}{A:AH}(r:bF k A):A.depth<recursionLimit:=by have:=r.dp;omega
def bF.units {k:Nat}{A:AH}(r:bF k A):A.units+64<cLine:=by have:=r.un;omega
def sr:TA:=λ_ H Q=>Q [] H
def mT (ta:TE)(tr:TA):TA:=λY H Q=>ta Y H λx H1=>tr Y H1 λxs H2=>Q (x::xs) H2
section
variable {X:Cx}{e:AG}{es:Tk}{te:TE}{t:TA}{pos:Pos}
def lJ:PA X [] sr:=λ_ _ _ _ H Q I h=>Calls.spliced_nil {[],H,I,.nil,h}
def iu (ha:PE X e te)(hr:PA X es t)(hs:starEach (e::es) X.env=(false,eval e X.env)::starEach es X.env:=by rfl):PA X (e::es) (mT te t):=by
 intro pos A1 s Y H Q I h;rw[hs]
 show wpAny _ _ (spliced ((false,eval e X.env)::backTo pos (starEach es X.env))) _ _ s
 refine Calls.spliced_cons (ck (ha A1 s Y H _ I h) λu s1 hh=>?_);let⟨x,H1,I1,r1,q1⟩:=hh;exact ck (hr pos A1 s1 Y H1 _ I1 q1) λus s2 ⟨xs,H2,I2,r2,q2⟩=>{x::xs,H2,I2,.cons r1 r2,q2}
def C5 (t:TA):TE:=λY H Q=>t Y H λxs H1=>xs.length<=sizeLine/\∀p,H1 p=none->Q (.ref p) (upd H1 p (.tup xs))
def C9 (t:TA):TE:=λY H Q=>t Y H λxs H1=>xs.length<=sizeLine/\∀p,H1 p=none->Q (.ref p) (upd H1 p (.lst xs))
def JCk {x1}(h:PA X es t):PE X (.Tuple es x1 pos) (C5 t):=by intro A1 s Y H Q I hq;refine wpAny_Tuple_spliced (ck (h pos A1 s Y H _ I hq) λus s1 hh=>?_);let⟨xs,H1,I1,r,z,q⟩:=hh;refine{by rw[←r.length];exact z,?_};have hf:H1 s1.heap.objs.size=none:=I1.hok.fresh (Af _);refine{.ref s1.heap.objs.size,upd H1 s1.heap.objs.size (.tup xs),I1.laid (t':=s1.toks) (λb u e=>AU _ e) (Af _) ?_,rfl,q _ hf};exact{z,us,r,jh.new _ _}
def JCp (h:PA X es t):PE X (.List es pos) (C9 t):=by intro A1 s Y H Q I hq;refine wpAny_List_spliced (ck (h pos A1 s Y H _ I hq) λus s1 hh=>?_);let⟨xs,H1,I1,r,z,q⟩:=hh;refine{by rw[←r.length];exact z,?_};have hf:H1 s1.heap.objs.size=none:=I1.hok.fresh (Af _);refine{.ref s1.heap.objs.size,upd H1 s1.heap.objs.size (.lst xs),I1.laid (t':=s1.toks) (λb u e=>AU _ e) (Af _) ?_,rfl,q _ hf};exact{z,us,0,r,B1 _ rfl}
end
abbrev Sp:=A0 V->Hp->VK->XK->Prop
abbrev sd:=A0 Env->Hp->A4->XK->Tb
structure qT (P:Program)(w:World)(K:AF)(mg:Td)(base:Heap)(A:Around)(outer:List Env)(s:Shared)(H:Hp):Prop where
 frames:A.frames=some outer
 mod:Mod K mg base
 bs:∀b o,base.get? b=some o->s.heap.get? b=some o/\H b=none
 bsz:base.objs.size<=s.heap.objs.size
 funs:s.heap.FunFrames base outer
 frf:∀b∈tD outer,H b=none
 hok:gc P w H s.heap
 bare:AllBare s.gens
def CE (outer:A0 Env)(P:A7)(w:AB)(H:Hp)(s:A4)(Q:VK)(u:A5)(s':A4):Prop :=
 ∃v H',s'.os=s.os/\AllBare s'.gens/\Un (tD outer) [] H H' s.heap s'.heap/\gc P w H' s'.heap/\aW v u/\Q v H'
def JC4 (CX:sd)(outer:A0 Env)(P:A7)(w:AB)(H:Hp)(s:A4)(Q:VK)(E:XK)(r:Result)(s':A4):Prop :=
 match r with
 |.ok (.ret u)=>CE outer P w H s Q u s'
 |.ok _=>False
 |.error e=>CX outer H s E e s'
structure b0 (P:Program)(w:World)(K:AF)(mg:Td)(base:Heap)(CX:sd)(k:Nat)(f:Addr)(fd:FuncData)(ps:Tn)(sp:Sp):Prop where
 len:∀vs H Q E,sp vs H Q E->vs.length=ps.length
 run:∀(A:Around) (outer:List Env) (s:Shared) (H:Hp) (args:Args) (us:Te) (vs:List V) (Q:VK) (E:XK),bF k A->qT P w K mg base A outer s H->BindsTo s fd args (ps.zip us)->aO vs us->sp vs H Q E ->
  codeAny (model P w) A (.call (.ref f) args) (JC4 CX outer P w H s Q E) s
def b0.imp {P:A7}{w:AB}{K:AF}{mg:Td}{base:AD}{CX:sd}{k:Nat}{f:A6}{fd:FuncData}{ps:Tn}{sp sp':Sp}(F:b0 P w K mg base CX k f fd ps sp)
  (h:∀vs H Q E,sp' vs H Q E->sp vs H Q E):b0 P w K mg base CX k f fd ps sp' :=
 {λvs H Q E q=>F.len vs H Q E (h _ _ _ _ q),λA outer s H args us vs Q E hr he hb hv hs=>F.run A outer s H args us vs Q E hr he hb hv (h _ _ _ _ hs)}
def qT.make {K:AF}{mg:Td}{base:AD}{outer:A0 Env}{s:A4}{H:Hp}(e:qT P w K mg base A outer s H)(C:A6)(us:Te)(kw:A0 (Str×A5)) :
  qT P w K mg base (A.under (.builtin "type.__call__" {.ref C::us,kw})) outer s H:={by first|exact e.frames|(simpa[Around.under,Code.envs,Code.isFrame,pushEnvs] using e.frames),e.mod,e.bs,e.bsz,e.funs,e.frf,e.hok,e.bare}
section
variable {X:Cx}{A1:Tc}{Y:St}{H:Hp}{s s':A4}
def aE.env0 (I:aE X A1 Y H s):qT X.prog X.w X.K X.mg X.base X.A X.stack s H :=
 {I.ok.frames,I.ok.mod,I.bs,BM I.ok.bsz I.sz,I.stack,I.stkFree,I.hok,I.bare}
def aE.after {Q:VK}{u:A5}(I:aE X A1 Y H s)(h:CE X.stack X.prog X.w H s Q u s'):EP X A1 Y Q u s':=by let⟨v,H',os,bare,un,hok,r,q⟩:=h;let⟨hh,g,d,t,os'⟩:=s';obtain rfl:os'=s.os:=os;exact{v,H',I.call (h':=hh) (g':=g) (d':=d) (t':=t) (ch:=[]) un hok bare (λb z=>AE z ∅),r,q}
end
def q0 (sp:Sp)(BF:A0 V)(E:XK)(t:TA):TE:=λY H Q=>t Y H λvs H1=>sp (vs++BF) H1 Q E
def zh (C:A6)(m:Str)(sp:Sp)(BF:A0 V)(E:XK)(ta:TE)(t:TA):TE:=λY H Q=>ta Y H λx H1=>∃a dx fs,x=.ref a/\H1 a=some (.ins C dx fs)/\fs.lookup m=none /\
 t Y H1 λvs H2=>sp (x::(vs++BF)) H2 Q E
def zi (C:A6)(sp:Sp)(BF:A0 V)(E:XK)(t:TA):TE:=λY H Q=>t Y H λvs H1=>∀x dx,H1 x=none->H1 dx=none->dx≠x ->
 sp (.ref x::(vs++BF)) (upd (upd H1 dx (.own x)) x (.ins C dx [])) (λv H2=>v=.non/\Q (.ref x) H2) E
def ee (K:AF)(fd:FuncData)(ps:Tn)(ds:Te):Prop :=
 ∀(s:A4) (us:Te),K.In s.heap->(us++ds).length=ps.length->BindsTo s fd {us,[]} (ps.zip (us++ds))
def ee.all {K:AF}{ps:Tn}(h:∀us:Te,us.length=ps.length->bindArgs fd {us,[]}=pure (ps.zip us)):ee K fd ps []:=λs us _ hl=>by rw[Bm] at hl ⊢;exact .of_eq (h us hl)
def kr (CX:sd)(X:Cx)(E:XK):Prop:=∀(A1:Tc) (Y:St) (H:Hp) (s:A4) (e:A5) (s':A4),aE X A1 Y H s->CX X.stack H s E e s'->X.xe e s'
section
variable {X:Cx}{CX:sd}{k:Nat}{f C:A6}{fd:FuncData}{ps:Tn}{sp:Sp}{BF:A0 V}{ds:Te}{E:XK}{x m:Str}{p pos apos:Pos}{e o:AG}{es:Tk}{ta:TE}{t:TA}
theorem uN {A1:Tc}{Y:St}{H:Hp}{s:A4}{Q:VK}{us:Te}{vs:A0 V}(F:b0 X.prog X.w X.K X.mg X.base CX k f fd ps sp)(hr:bF k X.A)(hb:ee X.K fd ps ds)(hd:aO BF ds)(hx:kr CX X E)
  (I:aE X A1 Y H s) (r:aO vs us) (h:sp (vs++BF) H Q E):wpAny (model X.prog X.w) X.A (call (.ref f) us) (EP X A1 Y Q) X.xe s:=by
 have r2:aO (vs++BF) (us++ds):=r.append hd
 have hl:(us++ds).length=ps.length:=by rw[←r2.length];exact F.len _ _ _ _ h
 refine wpAny_call (zbr (F.run X.A X.stack s H {us,[]} (us++ds) (vs++BF) Q E hr I.env0 (hb s us I.kIn hl) r2 h) λr s' hq=>?_)
 cases r with
 |error e=>exact hx A1 Y H s e s' I hq
 |ok fl=>
  cases fl with
  |ret u=>exact I.after hq
  |next=>exact False.elim hq
  |brk=>exact False.elim hq
  |cont=>exact False.elim hq
def nY (F:b0 X.prog X.w X.K X.mg X.base CX k f fd ps sp)(hr:bF k X.A)(hg:Gl X x)(hm:X.mg x=some (.ref f))(hk:PySem.W.keepIn X.K (.ref f)=true)(hb:ee X.K fd ps ds)(hd:aO BF ds)(hx:kr CX X E)
  (ha:PA X (e::es) t) (Ar:(x == ("__debug__" : Str))=false:=by decide) (he:starEach (e::es) X.env=(false,eval e X.env)::starEach es X.env:=by rfl) (hpl:(backTo pos (starEach es X.env)).any (·.1)=false:=by rfl) :
  PE X (.Call (.Name x p) (e::es) [] pos) (q0 sp BF E t):=by
 intro A1 s Y H Q I h;refine zbb (n5 I hg hm ?_ Ar);refine PySem.W.callWith_K (h₀:=X.base) I.ok.mod.kin hk (ck (ha pos A1 s Y H _ I h) λus s1 hh=>?_) he hpl;let⟨vs,H1,I1,r,q⟩:=hh;refine{I1.kIn,?_};exact uN F hr hb hd hx I1 r q
def vj {pl:Sem A9}(he:PE X o ta)(c:wv X.K C)(hm:yq X.K C m f)(F:b0 X.prog X.w X.K X.mg X.base CX k f fd ps sp)(hr:bF k X.A)(hb:ee X.K fd ps ds)(hd:aO BF ds)(hx:kr CX X E)
  (ht:eval (.Call (.Attribute o m apos) [] [] pos) X.env=(do
   let ov ←eval o X.env
   standAt apos.atName
   let (f,first) ←holding [ov] (getMethod ov m pl)
   callWith pos f first (backTo pos (starEach [] X.env)) (backToKw pos (keywordEach [] X.env))):=by rfl) :
  PE X (.Call (.Attribute o m apos) [] [] pos) (zh C m sp BF E ta sr):=by
 intro A1 s Y H Q I h;refine PySem.W.methodCall_KW (pl:=pl) (ck (he A1 s Y H _ I h) λu s1 hh=>?_) ht;let⟨x,H1,I1,rx,a,dx,fs,ex,ea,l,q⟩:=hh;subst ex;obtain rfl:u=Value.ref a:=rx;refine qB I1 ea c hm l ?_;exact PySem.W.callWith_K0 (first:=[.ref a]) I1.kIn hm.kp (uN (us:=[.ref a]) (vs:=[.ref a]) F hr hb hd hx I1 (.cons rfl .nil) q)
structure Mk (K:AF)(C f:Addr):Prop where
 makes:PySem.W.makesIn K C=true
 init:PySem.W.findIn K (.ref C) "__init__" = some (some (.ref f))
 fn:PySem.W.isFn K (.ref f)=true
 kp:PySem.W.keepIn K (.ref C)=true
theorem uM {A1:Tc}{Y:St}{H:Hp}{s:A4}{Q:VK}{us:Te}{vs:A0 V}(M:Mk X.K C f)(F:b0 X.prog X.w X.K X.mg X.base CX k f fd ps sp)(hr:bF (k+1) X.A)(hb:ee X.K fd ps ds)(hd:aO BF ds)
  (hx:kr CX X E) (I:aE X A1 Y H s) (r:aO vs us)
  (h:∀x dx,H x=none->H dx=none->dx≠x->sp (.ref x::(vs++BF)) (upd (upd H dx (.own x)) x (.ins C dx [])) (λv H2=>v=.non/\Q (.ref x) H2) E) :
  wpAny (model X.prog X.w) X.A (call (.ref C) us) (EP X A1 Y Q) X.xe s:=by
 have hq:=h (s.heap.objs.size+1) s.heap.objs.size (I.hok.fresh (Nat.le_succ _)) (I.hok.fresh (Af _)) (Av (zbv _));have I2:=aE.made (C:=C) I;have r2:aO (V.ref (s.heap.objs.size+1)::(vs++BF)) (Value.ref (s.heap.objs.size+1)::(us++ds)):=.cons rfl (r.append hd)
 have hl:(Value.ref (s.heap.objs.size+1)::us++ds).length=ps.length:=by
  have e:=r2.length;rw[F.len _ _ _ _ hq] at e;exact e.symm
 refine wpAny_call (vA (f:=f) I.kIn M.makes M.init (beq_iff_eq.mp M.fn) (zbr (F.run _ X.stack _ _ {Value.ref (s.heap.objs.size+1)::us,[]} (Value.ref (s.heap.objs.size+1)::(us++ds)) _ _ E (hr.make C us [])
  (I2.env0.make C us []) (hb _ (Value.ref (s.heap.objs.size+1)::us) I2.kIn hl) r2 hq) λr s' hq'=>?_))
 cases r with
 |error e=>exact hx A1 Y _ _ e s' I2 hq'
 |ok fl=>
  cases fl with
  |ret u=>
   let⟨v,H',I3,rv,ev,q3⟩:=I2.after hq';subst ev;exact{rv,{V.ref (s.heap.objs.size+1),H',I3,rfl,q3}}
  |next=>exact False.elim hq'
  |brk=>exact False.elim hq'
  |cont=>exact False.elim hq'
def xx (M:Mk X.K C f)(F:b0 X.prog X.w X.K X.mg X.base CX k f fd ps sp)(hr:bF (k+1) X.A)(hg:Gl X x)(hm:X.mg x=some (.ref C))(hb:ee X.K fd ps ds)(hd:aO BF ds)(hx:kr CX X E)
  (ha:PA X (e::es) t) (Ar:(x == ("__debug__" : Str))=false:=by decide) (he:starEach (e::es) X.env=(false,eval e X.env)::starEach es X.env:=by rfl) (hpl:(backTo pos (starEach es X.env)).any (·.1)=false:=by rfl) :
  PE X (.Call (.Name x p) (e::es) [] pos) (zi C sp BF E t):=by
 intro A1 s Y H Q I h;refine zbb (n5 I hg hm ?_ Ar);refine PySem.W.callWith_K (h₀:=X.base) I.ok.mod.kin M.kp (ck (ha pos A1 s Y H _ I h) λus s1 hh=>?_) he hpl;let⟨vs,H1,I1,r,q⟩:=hh;refine{I1.kIn,?_};exact uM M F hr hb hd hx I1 r q
end
structure av (N P:Tn)(sc:Scope):Prop where
 kind:sc.kind=.function
 co:sc.isCoroutine=false
 gen:sc.isGenerator=false
 nd:N.Nodup
 pre:N.take P.length=P
 par:∀x∈P,sc.names.lookup x=some .local\/sc.names.lookup x=some .cell
 nofree:∀y∈sc.names,y.2≠.free
theorem nI {kindOf:Str->Jo NameKind}{x:Str}:∀{binds:A0 (Str×A5)} {m:Td},(∀v,(x,v)∉binds)->bindL kindOf binds m x=m x
 |[],_,_=>rfl
 |(n,v)::r,m,h=>by
  unfold bindL;rw[nI λw hw=>h w (Au _ hw)];split
  ·have:x≠n:=by rintro rfl;exact h v Aw
   simp[this]
  ·rfl
theorem nK {kindOf:Str->Jo NameKind}{x:Str}:∀{binds:A0 (Str×A5)} {m:Td},(∀v,(x,v)∉binds)->bindC kindOf binds m x=m x
 |[],_,_=>rfl
 |(n,v)::r,m,h=>by
  unfold bindC;rw[nK λw hw=>h w (Au _ hw)];split
  ·rfl
  ·have:x≠n:=by rintro rfl;exact h v Aw
   simp[this]
theorem nJ {kindOf:Str->Jo NameKind}{x:Str}{v:A5}:∀{P:Tn} {vs:Te} {i:Nat} {m:Td},P.Nodup->P[i]?=some x->vs[i]?=some v->kindOf x=some .local ->
  bindL kindOf (P.zip vs) m x=some v
 |[],_,_,_,_,h,_,_=>by simp at h
 |_::_,[],_,_,_,_,h,_=>by simp at h
 |p::P,w::vs,0,m,nd,h1,h2,hk=>by
  simp at h1 h2;subst h1;subst h2
  show bindL kindOf ((p,w)::P.zip vs) m p=_
  unfold bindL;rw[nI λv hv=>(zbp.mp nd).1 (zbS hv).1,A8 hk];simp
 |p::P,w::vs,i+1,m,nd,h1,h2,hk=>by
  show bindL kindOf ((p,w)::P.zip vs) m x=_
  unfold bindL;exact nJ (i:=i) (zbp.mp nd).2 ‹h1› ‹h2› hk
theorem nL {kindOf:Str->Jo NameKind}{x:Str}{v:A5}:∀{P:Tn} {vs:Te} {i:Nat} {m:Td},P.Nodup->P[i]?=some x->vs[i]?=some v->kindOf x≠some .local ->
  bindC kindOf (P.zip vs) m x=some v
 |[],_,_,_,_,h,_,_=>by simp at h
 |_::_,[],_,_,_,_,h,_=>by simp at h
 |p::P,w::vs,0,m,nd,h1,h2,hk=>by
  simp at h1 h2;subst h1;subst h2
  show bindC kindOf ((p,w)::P.zip vs) m p=_
  unfold bindC;rw[nK λv hv=>(zbp.mp nd).1 (zbS hv).1,AA hk];simp
 |p::P,w::vs,i+1,m,nd,h1,h2,hk=>by
  show bindC kindOf ((p,w)::P.zip vs) m x=_
  unfold bindC;exact nL (i:=i) (zbp.mp nd).2 ‹h1› ‹h2› hk
noncomputable def dJ (N:Tn)(vs:A0 V):St:=vs.map some++List.replicate (N.length-vs.length) none
noncomputable def gN (CX:sd)(P:A7)(w:AB)(K:AF)(mg:Td)(base:AD)(N:Tn)(qual:Str)(scope:Scope)(f:A6)(cd:A5)(A:AH)(outer:A0 Env)(s:A4)(H:Hp)(E:XK):Cx where
 prog:=P
 w:=w
 K:=K
 mg:=mg
 base:=base
 A:=A.deeper (envOfC qual scope s.heap.objs.size f cd)
 N:=N
 s₀:=s
 H₀:=H
 env:=envOfC qual scope s.heap.objs.size f cd
 outer:=outer
 stack:=envOfC qual scope s.heap.objs.size f cd::outer
 ex:=[]
 calm:=true
 fn:=λ_=>true
 pn:=[]
 xe:=λe s'=>wpAny (model P w) (A.deeper (envOfC qual scope s.heap.objs.size f cd)) (leaving (envOfC qual scope s.heap.objs.size f cd) e) (λ_ s''=>CX outer H s E e s'') (λe' s''=>CX outer H s E e' s'') s'
def pL {sc:Scope}{n:Nat}{x:Str}(h:sc.names.lookup x=some .cell):∃c,(cellsFrom n sc.names []).lookup x=some c:=by have q:=zbi sc.names n [] (.inl h);exact Option.isSome_iff_exists.mp q
def tp {CX:sd}{P:A7}{w:AB}{K:AF}{mg:Td}{base:AD}{N ps:Tn}{qual:Str}{scope:Scope}{f:A6}{cd:A5}{A:AH}{outer:A0 Env}{s s1:A4}{H:Hp}{E:XK}{us:Te}{vs:A0 V}
  (S:av N ps scope) (hd:A.handled=none) (e0:qT P w K mg base A outer s H) (hl:vs.length=ps.length) (r:aO vs us)
  (x:InCallC s s.heap.objs.size (bindL (envOfC qual scope s.heap.objs.size f cd).kindOf (ps.zip us) λ_=>none) (cellsFrom (s.heap.objs.size+1) scope.names []) (bindC (envOfC qual scope s.heap.objs.size f cd).kindOf (ps.zip us) λ_=>none) s1) :
  aE (gN CX P w K mg base N qual scope f cd A outer s H E) [] (dJ N vs) H s1:=by
 have hpl:ps.length<=N.length:=by have:=AL List.length S.pre;rw[zbO] at this;omega
 let⟨h1,tk,rfl,hk⟩:=x.done;have noA:∀b:A6,b∉(gN CX P w K mg base N qual scope f cd A outer s H E).ex:=λb z=>AE (show b∈([]:Tf) from z) ∅
 refine{{e0.mod,S.kind,rfl,rfl,Af _,λy z c h1 h2=>?_,λy hy=>?_,λy c _ h=>?_,λ_=>hd,Around.frames_deeper e0.frames,.inr {rfl,rfl},λb z=>AE z (noA b),e0.bs,e0.bsz,λb _ _=>noA b,λb z=>AE z (noA b),e0.funs,e0.frf},
  rfl,e0.bare,Un.kept hk,{_,x.toInCall.ns,λi y v h1 h2 h3=>?_},λy c h=>{_,x.cell y c h},e0.hok.fresh (Af _),λy c h=>?_,λp hp=>AE (show p∈([]:Tc) from hp) ∅,e0.hok.kept hk,?_}
 ·exact name_of_addr x.apart (PySem.mem_of_lookup h1) (PySem.mem_of_lookup h2)
 ·have hy:scope.names.lookup y=some .cell\/scope.names.lookup y=some .free:=hy
  rcases hy with hy|hy
  ·exact pL hy
  ·exact AE rfl (S.nofree _ (PySem.mem_of_lookup hy))
 ·exact zbj (x.above y c (PySem.mem_of_lookup h))
 ·have hi:i<vs.length:=by
   unfold dJ at h2
   by_cases hi:i<vs.length
   ·exact hi
   ·rw[Bi ‹hi›] at h2
    rw[zbg] at h2;split at h2 <;> cases h2
  have ha:vs[i]?=some v:=by
   unfold dJ at h2;rw[B3 ‹hi›,Bv] at h2
   cases e:vs[i]? with
   |none=>rw[e] at h2;cases h2
   |some a=>rw[e] at h2;cases h2;rfl
  let⟨u,hu,rv⟩:=r.get ha
  have hp:ps[i]?=some y:=by
   rw[←S.pre,List.getElem?_take_of_lt ∅];exact h1
  have ndP:ps.Nodup:=by rw[←S.pre];exact S.nd.sublist (List.take_sublist _ _)
  refine{u,rv,?_};rcases S.par y (Bd hp) with k|k
  ·exact .inl {k,nJ ndP hp hu k}
  ·let⟨c,e⟩:=pL (n:=s.heap.objs.size+1) k
   refine .inr {.inl k,c,e,?_};have q:=x.cell y c e;rw[nL ndP hp hu (by show scope.names.lookup y≠_;rw[k];decide)] at q;exact q
 ·exact e0.hok.fresh (zbj (x.above y c (PySem.mem_of_lookup h)))
 ·unfold dJ
  show _=N.length
  rw[BD,Ac,List.length_replicate];omega
theorem Ep {CX:sd}{P:A7}{w:AB}{K:AF}{mg:Td}{base:AD}{k:Nat}{f:A6}{name qual:Str}{params:Arguments}{body:Tl}{scope:Scope}{dV kV doc pm AO ct oc:A5}{an od:Jo A6}
  {Cj:AN (Tg)} {N ps:Tn} {sp:Sp} (lk:K.lookup f=some {oc,od,.func (PySem.W.fnOf name qual params body scope dV kV doc pm an AO ct),Cj}) (CA:PySem.W.codeIn K AO qual=true) (S:av N ps scope)
  (len:∀vs H Q E,sp vs H Q E->vs.length=ps.length)
  (AQ:∀(A:AH) (outer:A0 Env) (s:A4) (H:Hp) (vs:A0 V) (Q:VK) (E:XK),bF k (A.deeper (envOfC qual scope s.heap.objs.size f AO))->sp vs H Q E ->
   ∃t,kM (gN CX P w K mg base N qual scope f AO A outer s H E) body t/\t {nx:=λ_ H'=>Q .non H',rt:=Q} (dJ N vs) H) :
  b0 P w K mg base CX (k+1) f (PySem.W.fnOf name qual params body scope dV kV doc pm an AO ct) ps sp:=by
 refine{len,λA outer s H args us vs Q E hr e0 hb r Bq=>?_};have hl:=len _ _ _ _ Bq;have KX:K.In s.heap:=e0.mod.kin.keeps λb o e=>(e0.bs b o e).1;have lim:s.heap.NoLimit:=e0.mod.nolimit.keeps λb o e=>(e0.bs b o e).1
 have hkind:∀y∈ps.zip us,scope.names.lookup y.1=some .local\/(scope.names.lookup y.1=some .cell/\((cellsFrom (s.heap.objs.size+1) scope.names []).lookup y.1).isSome=true):=λ⟨n,v⟩ hy=>by
  rcases S.par n (zbS hy).1 with q|q
  ·exact .inl q
  ·exact .inr {q,zbi _ _ _ (.inl q)}
 refine codeAny_call_function hr.depth (KX _ _ lk) rfl S.co S.gen rfl (PySem.W.codeRec_of KX CA) (hb _ _ _ _ ?_);refine wpAny_newFunctionEnv_cells S.kind hkind λenv he s1 x=>?_;subst he;refine{lim.keeps x.toInCall.keep,codeAny_func ?_};let⟨t,ht,hq⟩:=AQ A outer s H vs Q E (hr.deeper _) Bq;have I:aE (gN CX P w K mg base N qual scope f AO A outer s H E) [] (dJ N vs) H s1:=tp S hr.hd e0 hl r x;refine D1 (ht [] s1 (dJ N vs) H _ I hq) (λfl s' hs=>?_) λe s' hs=>hs
 have fin:∀{Y':St} {H':Hp} {v:V} {u:A5},aE (gN CX P w K mg base N qual scope f AO A outer s H E) [] Y' H' s'->aW v u->Q v H'->CE outer P w H s Q u s' :=
  λ{Y' H' v u} J rv q=>{v,H',J.os,J.bare,J.base,J.hok,rv,q}
 cases fl with
 |ret u=>
  let⟨v,Y',H',J,rv,q⟩:=hs;exact fin J rv q
 |next=>
  let⟨Y',H',J,q⟩:=hs;exact fin (v:=V.non) (u:=Value.none) J rfl q
 |brk=>
  let⟨_,_,_,q⟩:=hs;exact False.elim q
 |cont=>
  let⟨_,_,_,q⟩:=hs;exact False.elim q
section
variable {X:Cx}{x:Str}{p pos:Pos}{e:AG}{es:Tk}{t:TA}{id T:String}{r:A0 V->Hp->VK->Prop}
def E6 (r:A0 V->Hp->VK->Prop)(t:TA):TE:=λY H Q=>t Y H λvs H1=>r vs H1 Q
def f6 (hc:ip X (.builtin id) r)(hg:Gl X x)(hm:X.mg x=none)(hv:bootBuiltins x=some (.builtin id))(ha:PA X (e::es) t)(hn:x≠"__name__":=by decide)(Ar:(x == ("__debug__" : Str))=false:=by decide)
  (he:starEach (e::es) X.env=(false,eval e X.env)::starEach es X.env:=by rfl) (hpl:(backTo pos (starEach es X.env)).any (·.1)=false:=by rfl):PE X (.Call (.Name x p) (e::es) [] pos) (E6 r t):=by
 intro A1 s Y H Q I h;refine zbb (j9 I hg hm hv ?_ hn Ar);exact PyProof.Rows.callWith_builtin1 (ck (ha pos A1 s Y H _ I h) λus s1 ⟨vs,H1,I1,r1,q1⟩=>hc A1 s1 Y H1 vs us Q I1 r1 q1) he hpl
def j6 (hc:ip X (.type T) r)(hg:Gl X x)(hm:X.mg x=none)(hv:bootBuiltins x=some (.type T))(ha:PA X (e::es) t)(hn:x≠"__name__":=by decide)(Ar:(x == ("__debug__" : Str))=false:=by decide)
  (he:starEach (e::es) X.env=(false,eval e X.env)::starEach es X.env:=by rfl) (hpl:(backTo pos (starEach es X.env)).any (·.1)=false:=by rfl):PE X (.Call (.Name x p) (e::es) [] pos) (E6 r t):=by
 intro A1 s Y H Q I h;refine zbb (j9 I hg hm hv ?_ hn Ar);exact PyProof.Rows.callWith_type1 (ck (ha pos A1 s Y H _ I h) λus s1 ⟨vs,H1,I1,r1,q1⟩=>hc A1 s1 Y H1 vs us Q I1 r1 q1) he hpl
end
end L2
namespace HT
open PyProof.Rows
section
variable {prog:A7}{w:AB}{A:AH}{E:Tb}{s:A4}
def yd {t b:A6}{vs ws:Te}{Q:Tb}(ht:IsTup s.heap t vs.toArray)(hb:IsTup s.heap b ws.toArray)(hv:vs≠[])
  (h1:ws=[]->Q (.ref t) s) (h2:ws≠[]->Q (.ref s.heap.objs.size) {s with heap:=s.heap.push {cls:=.type "tuple",data:=.seq (vs++ws).toArray}})
  (hsz:vs.length+ws.length<=sizeLine):wpAny (model prog w) A (binaryOp .Add (.ref t) (.ref b)) Q E s:=by
 let⟨⟨cls,dd,data,sl⟩,ho,hc,n,hd⟩:=id ht;let⟨⟨cls2,dd2,data2,sl2⟩,De,DO,n2,hd2⟩:=id hb;simp only at hc hd DO hd2;subst hc hd DO hd2
 have e:vs.toArray++ws.toArray=(vs++ws).toArray:=by simp
 by_cases hw:ws=[]
 ·exact concat_meets {_,ho,rfl} {_,De,rfl} noFill_tuple_add seq_tuple_add PySem.F.slot_tuple_add PySem.F.entry_tuple_add (PySem.F.args_tuple_add_2 _ _)
   (tuple_addW1 t b vs.toArray ws.toArray n n2 dd dd2 sl sl2 ‹hv› (by simp[hw])) {ho,De,h1 hw}
 ·refine concat_meets {_,ho,rfl} {_,De,rfl} noFill_tuple_add seq_tuple_add PySem.F.slot_tuple_add PySem.F.entry_tuple_add (PySem.F.args_tuple_add_2 _ _)
   (tuple_addW2 t b vs.toArray ws.toArray n n2 dd dd2 sl sl2 ‹hv› ‹hw› (by rw[Ao,Ao];exact hsz)) {ho,De,?_}
  rw[e];exact h2 hw
noncomputable def cx (n d:Nat):Jo Int->Nat
 |none=>d
 |some v=>if v<0 then (v+(n:Int)).toNat else min v.toNat n
def wQ (n d k:Nat):cx n d (some (k:Int))=min k n:=by
 show(if (k:Int)<0 then ((k:Int)+(n:Int)).toNat else min (k:Int).toNat n)=min k n
 rw[AA ∅,Ce]
theorem JBe (n d:Nat)(hd:d<=n)(o:Jo Int):cx n d o<=n:=by
 cases o with
 |none=>exact hd
 |some v=>
  show(if v<0 then (v+(n:Int)).toNat else min v.toNat n)<=n
  by_cases hv:v<0
  ·rw[A8 hv];omega
  ·rw[AA hv];exact Nat.min_le_right _ _
def rW (v:Int)(n d:Nat):(if v<0 then max (v+(n:Int)) 0 else min v (n:Int))=((cx n d (some v):Nat):Int):=by
 show(if v<0 then max (v+(n:Int)) 0 else min v (n:Int))=(((if v<0 then (v+(n:Int)).toNat else min v.toNat n):Nat):Int)
 by_cases hv:v<0
 ·rwa[A8 hv];omega
 ·rwa[AA hv];omega
def qP (lo hi:Jo Int)(n:Nat):Builtin.Slice.sliceAdjust lo hi 1 (n:Int)=(((cx n 0 lo:Nat):Int),((cx n n hi:Nat):Int)):=by
 have h1:¬ ((1:Int)<0):=by omega
 unfold Builtin.Slice.sliceAdjust;rwa[h1,if_false];refine Prod.ext ?_ ?_
 ·cases lo with
  |none=>rfl
  |some v=>exact rW v n 0
 ·cases hi with
  |none=>rfl
  |some v=>exact rW v n n
def qf (i j:Nat):Builtin.Slice.slicePlaces (i:Int) (j:Int) 1=j-i:=by
 unfold Builtin.Slice.slicePlaces;have h1:(1:Int)>0:=by omega
 rwa[h1,if_true,Int.ediv_one];split <;> omega
theorem lw {v:A5}{o:Jo Int}{Q:Jo Int->A4->Prop}(p:IsPart v o)(h:Q o s):wpAny (model prog w) A (Builtin.Slice.slicePartIndex v) Q E s:=by
 cases p with
 |none=>exact slicePart_none h
 |int i t=>exact slicePart_int h
def fY {sl:A6}{vl vu:A5}{lo hi:Jo Int}{n:Nat}{Q:Int×Int×Nat->A4->Prop}(hs:s.heap.IsSliceOf sl vl vu .none)(pl:IsPart vl lo)(pu:IsPart vu hi)
  (h:Q (((cx n 0 lo:Nat):Int),1,cx n n hi-cx n 0 lo) s):wpAny (model prog w) A (Builtin.Slice.sliceApplied (.ref sl) (pure (n:Int))) Q E s:=by
 let⟨os,DT,BU,hds⟩:=id hs;unfold Builtin.Slice.sliceApplied Builtin.Slice.sliceFields;refine AI (AI (Ay DT hds (x:=vl) rfl (AI (Ay DT hds (x:=vu) rfl (AI (Ay DT hds (x:=.none) rfl (AR ?_)))))));refine AI (slicePart_none ?_)
 show wpAny _ _ (if ((1:Int) == 0)=true then _ else _) _ _ s
 rw[AA ∅];refine AI (lw pl (AI (lw pu (AI (AR ?_)))))
 show wpAny _ _ (match Builtin.Slice.sliceAdjust lo hi 1 (n:Int) with|(lo,hi)=>pure (lo,(1:Int),Builtin.Slice.slicePlaces lo hi 1)) _ _ s
 rw[qP lo hi n]
 show wpAny _ _ (pure (((cx n 0 lo:Nat):Int),(1:Int),Builtin.Slice.slicePlaces ((cx n 0 lo:Nat):Int) ((cx n n hi:Nat):Int) 1)) _ _ s
 rw[qf];exact AR h
def vg (xs:Tj)(i k:Nat):((List.range k).filterMap λ(m:Nat)=>xs[((i:Int)+(m:Int)*1).toNat]?).toArray=((xs.toList.drop i).take k).toArray:=by
 have e:(λ(m:Nat)=>xs[((i:Int)+(m:Int)*1).toNat]?)=λm=>xs[i+m]?:=by
  funext m;have:((i:Int)+(m:Int)*1).toNat=i+m:=by omega
  rw[this]
 rw[e];have:=pick_run xs i k;rw[List.filterMap_map] at this
 have e2:((λx=>xs[x]?) ∘ λx=>i+x)=λm=>xs[i+m]?:=rfl;rw[e2] at this
 rw[this]
def jE {t sl:A6}{items:Tj}{vl vu:A5}{lo hi:Jo Int}{Q:Tb}(ht:IsTup s.heap t items)(hs:s.heap.IsSliceOf sl vl vu .none)(pl:IsPart vl lo)(pu:IsPart vu hi)
  (hw:¬ (cx items.size 0 lo=0/\cx items.size items.size hi=items.size))
  (h:Q (.ref s.heap.objs.size) {s with heap:=s.heap.push {cls:=.type "tuple",data:=.seq ((items.toList.drop (cx items.size 0 lo)).take (cx items.size items.size hi-cx items.size 0 lo)).toArray}})
  (hsz:items.size<=sizeLine):wpAny (model prog w) A (getItem (.ref t) (.ref sl)) Q E s:=by
 have Bc:sizeOk (.seq ((items.toList.drop (cx items.size 0 lo)).take (cx items.size items.size hi-cx items.size 0 lo)).toArray):=by
  show((items.toList.drop (cx items.size 0 lo)).take (cx items.size items.size hi-cx items.size 0 lo)).toArray.size<=sizeLine
  rw[Ao,zbO,List.length_drop,zbE];omega
 have hj:cx items.size items.size hi<=items.size:=JBe _ _ (Af _) hi;obtain⟨os,DT,BU,hds⟩:=id hs;have hTs:s.TypeIs (.ref sl) "slice":={os,DT,BU};unfold getItem
 try with_reducible refine Be ?_
 first|refine AI (AR ?_)|skip
 refine AI (wpAny_sequenceKey ht.typeIs ∅ ?_)
 refine AI (DK (name:=Str.ofString "__getitem__") ht.typeIs PyProof.Rows.slot_tuple_getitem
  (Cd PyProof.Rows.slot_tuple_getitem ht.typeIs entry_tuple_getitem ?_ (args_tuple_getitem _ _)))
 show wpAny _ _ (Builtin.Tuple.tupleItemsOf (.ref t) >>= _) _ _ s
 refine AI (tupleItemsOf_ ht ?_);refine AI (zbP hTs ?_);rw[A8 ∅];refine AI (fY hs pl pu ?_)
 have hno:¬ ((((cx items.size 0 lo:Nat):Int) == 0&&(1:Int) == 1&&(cx items.size items.size hi-cx items.size 0 lo) == items.size)=true):=by
  intro q;rw[za9,za9] at q;have q1:((cx items.size 0 lo:Nat):Int)=0:=eq_of_beq q.1.1;have q2:cx items.size items.size hi-cx items.size 0 lo=items.size:=eq_of_beq q.2;exact hw {by omega,by omega}
 show wpAny _ _ (if (((cx items.size 0 lo:Nat):Int) == 0&&(1:Int) == 1&&(cx items.size items.size hi-cx items.size 0 lo) == items.size)=true then _ else _) _ _ s
 rw[AA hno,vg]
 first
  |exact AI (m:=Builtin.Tuple.tupleExact _) (za6 (AR {_,rfl,AR h}) Bc)
  |exact AI (m:=Builtin.Tuple.tupleExact _) (za6 (AI (AR (AR {_,rfl,AR h}))) Bc)
  |exact AI (AI (m:=Builtin.Tuple.tupleExact _) (za6 (AR (AR {_,rfl,AR h})) Bc))
  |exact AI (AI (m:=Builtin.Tuple.tupleExact _) (za6 (AR {_,rfl,AR h}) Bc))
end
end HT
namespace L2
open PyProof.Rows
abbrev TO:=St->Hp->(Jo Int->Hp->Prop)->Prop
def PO (X:Cx)(e:Jo AG)(t:TO):Prop :=
 ∀(A1:Tc) (s:A4) (Y:St) (H:Hp) (Q:Jo Int->Hp->Prop),aE X A1 Y H s->t Y H Q ->
  wpAny (model X.prog X.w) X.A (evalPart e X.env) (λu s'=>∃o H',aE X A1 Y H' s'/\IsPart u o/\Q o H') X.xe s
def qZ:TO:=λ_ H Q=>Q none H
def zd (t:TE):TO:=λY H Q=>t Y H λx H1=>∃i,x=.int i/\Q (some i) H1
section
variable {X:Cx}{e:AG}{te:TE}{lo hi:Jo AG}{tl th:TO}{pos p2:Pos}
def xt:PO X none qZ:=by intro A1 s Y H Q I h;rw[evalPart_none];exact AR {none,H,I,.none,h}
def xr (h:PE X e te):PO X (some e) (zd te):=by intro A1 s Y H Q I hw;rw[evalPart_some];refine ck (h A1 s Y H _ I hw) λu s1 hh=>?_;let⟨x,H1,I1,r1,q1⟩:=hh;let⟨i,rfl,q⟩:=q1;let⟨t,rfl⟩:=r1;exact{some i,H1,I1,.int i t,q}
def t4 (X:Cx)(r:V->Jo Int->Jo Int->Hp->VK->Prop):Prop :=
 ∀(A1:Tc) (s:A4) (Y:St) (H:Hp) (x:V) (v vl vu:A5) (lo hi:Jo Int) (sl:A6) (Q:VK),aE X A1 Y H s->aW x v->s.heap.IsSliceOf sl vl vu .none->IsPart vl lo->IsPart vu hi->r x lo hi H Q ->
  ∃T id,typeLookup (.type T) "__getitem__" = pure (some (.builtin id))/\s.TypeIs v T/\wpAny (model X.prog X.w) X.A (getItem v (.ref sl)) (EP X A1 Y Q) X.xe s
def t4.or {r r':V->Jo Int->Jo Int->Hp->VK->Prop}(h:t4 X r)(h':t4 X r'):t4 X (λx lo hi H Q=>r x lo hi H Q\/r' x lo hi H Q):=by
 intro A1 s Y H x v vl vu lo hi sl Q I rx hs pl pu q;rcases q with q|q
 ·exact h A1 s Y H x v vl vu lo hi sl Q I rx hs pl pu q
 ·exact h' A1 s Y H x v vl vu lo hi sl Q I rx hs pl pu q
def Gf (r:V->Jo Int->Jo Int->Hp->VK->Prop)(te:TE)(tl th:TO):TE:=λY H Q=>te Y H λx H1=>tl Y H1 λl H2=>th Y H2 λu H3=>r x l u H3 Q
def pc {r:V->Jo Int->Jo Int->Hp->VK->Prop}(hr:t4 X r)(he:PE X e te)(hl:PO X lo tl)(hu:PO X hi th):PE X (.Subscript e (.Slice lo hi none p2) pos) (Gf r te tl th):=by
 intro A1 s Y H Q I h;refine Subscript_ (ck (he A1 s Y H _ I h) λv s1 hh=>?_);obtain⟨x,H1,I1,r1,q1⟩:=hh;refine wpAny_Slice (ck (hl A1 s1 Y H1 _ I1 q1) λvl s2 hh=>?_);obtain⟨l,H2,I2,pl,q2⟩:=hh;refine ck (hu A1 s2 Y H2 _ I2 q2) λvu s3 hh=>?_;obtain⟨u,H3,I3,pu,q3⟩:=hh;rw[evalPart_none];refine AR ?_;have I4:aE X A1 Y H3 {s3 with heap:=s3.heap.push {cls:=.type "slice",data:=.fields #[vl,vu,.none]}}:=I3.kept (t':=s3.toks) λb ob q=>AU _ q;obtain⟨T,id,hT,ht,hg⟩:=hr A1 {s3 with heap:=s3.heap.push {cls:=.type "slice",data:=.fields #[vl,vu,.none]}} Y H3 x v vl vu l u s3.heap.objs.size Q I4 r1 (Heap.IsSliceOf.new ..) pl pu q3
 show wpAny (model X.prog X.w) X.A (subscriptTail e (.Slice lo hi none p2) v (.ref s3.heap.objs.size)) (EP X A1 Y Q) X.xe {s3 with heap:=s3.heap.push {cls:=.type "slice",data:=.fields #[vl,vu,.none]}}
 exact tail_any (ops:=[.ref s3.heap.objs.size,v]) ht hT hg (by with_unfolding_all rfl)
noncomputable def ou (xs:A0 V)(lo hi:Jo Int):A0 V:=(xs.drop (HT.cx xs.length 0 lo)).take (HT.cx xs.length xs.length hi-HT.cx xs.length 0 lo)
def kL (xs:A0 V)(lo hi:Jo Int):(ou xs lo hi).length<=xs.length:=by unfold ou;rw[zbO,List.length_drop];omega
def Dq (K:AF):V->Jo Int->Jo Int->Hp->VK->Prop:=λx lo hi H Q=>∃a xs,x=.ref a/\gP K H a xs /\
 ¬ (HT.cx xs.length 0 lo=0/\HT.cx xs.length xs.length hi=xs.length)/\∀p,H p=none->Q (.ref p) (upd H p (.tup (ou xs lo hi)))
def JA9:t4 X (Dq X.K):=by
 intro A1 s Y H x v vl vu lo hi sl Q I rx hs pl pu h;let⟨a,xs,rfl,hx,hw,q⟩:=h;cases rx;let⟨its,r,ht,hz⟩:=I.tuple hx;have hlen:its.toArray.size=xs.length:=by rw[Ao];exact r.length.symm
 refine{"tuple",_,PyProof.Rows.slot_tuple_getitem.lookup,ht.typeIs,?_};refine HT.jE ht hs pl pu (by rw[hlen];exact hw) ?_ (by rw[hlen];exact hz);rw[hlen];refine{.ref s.heap.objs.size,_,I.laid (t':=s.toks) (o:=.tup (ou xs lo hi)) (λb ob q=>AU _ q) (Af _) ?_,rfl,q _ (I.hok.fresh (Af _))};exact{BM (kL xs lo hi) hz,_,(r.drop (HT.cx xs.length 0 lo)).take (HT.cx xs.length xs.length hi-HT.cx xs.length 0 lo),jh.new _ _}
def zB (K:AF):R2:=λx y H Q=>∃a b xs ys,x=.ref a/\y=.ref b/\gP K H a xs/\gP K H b ys/\xs≠[]/\xs.length+ys.length<=sizeLine /\
 (ys=[]->Q (.ref a) H)/\(ys≠[]->∀p,H p=none->Q (.ref p) (upd H p (.tup (xs++ys))))
theorem aO.nil_iff {xs:A0 V}{us:Te}(r:aO xs us):us=[] ↔ xs=[]:=by
 cases r with
 |nil=>simp
 |cons _ _=>simp
def xE:iD X (binaryOp .Add) (zB X.K):=by intro A1 s Y H x y v u Q I rx ry h;let⟨a,b,xs,ys,rfl,rfl,ha,hb,hx,hz,q1,q2⟩:=h;cases rx;cases ry;let⟨its,r1,p1,_⟩:=I.tuple ha;let⟨Aq,r2,p2,_⟩:=I.tuple hb;refine HT.yd p1 p2 (λz=>hx (r1.nil_iff.mp z)) (λz=>{.ref a,H,I,rfl,q1 (r2.nil_iff.mp z)}) (λz=>?_) (by rw[←r1.length,←r2.length];exact hz);refine{.ref s.heap.objs.size,_,I.laid (t':=s.toks) (o:=.tup (xs++ys)) (λb ob q=>AU _ q) (Af _) ?_,rfl,q2 (λw=>z (r2.nil_iff.mpr w)) _ (I.hok.fresh (Af _))};exact{by rw[BD];exact hz,_,r1.append r2,jh.new _ _}
end
noncomputable def tm (n:Nat)(i:Int):Jo Nat:=if 0<=i then (if i<n then some i.toNat else none) else if -(n:Int)<=i then some (i+n).toNat else none
noncomputable def jL {Z:Type}(xs:A0 Z)(i:Int):Jo Z:=(tm xs.length i).bind λj=>xs[j]?
def rL {n:Nat}{i:Int}{j:Nat}(h:tm n i=some j):seqIndex? i n=some j/\j<n/\-(n:Int)<=i/\i<n:=by
 unfold tm at h;by_cases h0:0<=i
 ·rw[A8 h0] at h;by_cases h1:i<n
  ·rw[A8 h1] at h;have e:i.toNat=j:=Option.some.inj h;exact{by rw[seqIndex_of h0 h1,e],by omega,by omega,h1}
  ·rw[AA h1] at h;cases h
 ·rw[AA h0] at h;by_cases h1 : -(n:Int)<=i
  ·rw[A8 h1] at h;have e:(i+n).toNat=j:=Option.some.inj h;exact{by rw[seqIndex_neg ∅ h1,e],by omega,h1,by omega}
  ·rw[AA h1] at h;cases h
theorem oC {Z:Type}{xs:A0 Z}{i:Int}{v:Z}(h:jL xs i=some v):∃j,seqIndex? i xs.length=some j/\xs[j]?=some v/\j<xs.length/\-(xs.length:Int)<=i/\i<xs.length:=by
 unfold jL at h
 cases e:tm xs.length i with
 |none=>rw[e] at h;cases h
 |some j=>
  rw[e] at h;let⟨h1,h2,h3,h4⟩:=rL e;exact{j,h1,h,h2,h3,h4}
def r9 (b:AG):Prop:=∀o i,subscripted b false o i=operate [o,i] (getItem o i)
def yt (X:Cx)(r:R2):Prop :=
 ∀(value slice:AG) (A1:Tc) (s:A4) (Y:St) (H:Hp) (x y:V) (v u:A5) (Q:VK),aE X A1 Y H s->aW x v->aW y u->r x y H Q ->
  subscripted slice false v u=operate [v,u] (getItem v u)->wpAny (model X.prog X.w) X.A (subscriptTail value slice v u) (EP X A1 Y Q) X.xe s
def ET (X:Cx)(id:String)(r:V->A0 V->Hp->VK->Prop):Prop :=
 ∀(A1:Tc) (s:A4) (Y:St) (H:Hp) (x:V) (xs:A0 V) (v:A5) (us:Te) (Q:VK),aE X A1 Y H s->aW x v->aO xs us->r x xs H Q ->
  wpAny (model X.prog X.w) X.A (call (.builtin id) (v::us)) (EP X A1 Y Q) X.xe s
section
variable {X:Cx}{a b:AG}{ta tb:TE}{pos:Pos}
def yt.or {r r':R2}(h:yt X r)(h':yt X r'):yt X (λx y H Q=>r x y H Q\/r' x y H Q):=by
 intro value slice A1 s Y H x y v u Q I rx ry q hs;rcases q with q|q
 ·exact h value slice A1 s Y H x y v u Q I rx ry q hs
 ·exact h' value slice A1 s Y H x y v u Q I rx ry q hs
def JDu {r:R2}(hr:yt X r)(ha:PE X a ta)(hb:PE X b tb)(hs:r9 b):PE X (.Subscript a b pos) (Al r ta tb):=by intro A1 s Y H Q I h;exact Subscript_ (ye ha hb I h λv u s2 x y H2 I2 rx ry q=>hr a b A1 s2 Y H2 x y v u Q I2 rx ry q (hs _ _))
def Dx (K:AF):R2:=λx y H Q=>∃p xs i v,x=.ref p/\y=.int i/\io K H p xs/\jL xs i=some v/\Q v H
def Dv (K:AF):R2:=λx y H Q=>∃p xs i v,x=.ref p/\y=.int i/\gP K H p xs/\jL xs i=some v/\Q v H
def Dw:R2:=λx y H Q=>∃z i c,x=.str z/\y=.int i/\z.length<=sizeLine/\jL z.cps.toList i=some c/\Q (.str ⟨#[c]⟩) H
def xW:yt X (Dx X.K):=by
 intro value slice A1 s Y H x y v u Q I rx ry h hs;let⟨p,xs,i,z,rfl,rfl,hq,he,q⟩:=h;cases rx;let⟨t,rfl⟩:=ry;let⟨its,r,pl,hz⟩:=I.list hq;let⟨j,h1,h2,h3,h4,h5⟩:=oC he;let⟨w,ew,DQ⟩:=r.get h2;have hl:=r.length;have hn:=i5;have fin:EP X A1 Y Q w s:={z,H,I,DQ,q};by_cases h0:0<=i
 ·have hj:i.toNat=j:=by
   rw[seqIndex_of h0 h5] at h1;exact Option.some.inj h1
  exact item_listR pl.isList h0 ∅ (by rw[hj];simpa using ew) fin hs
 ·have hj:(i+(its.toArray.size:Int)).toNat=j:=by
   rw[seqIndex_neg ∅ h4] at h1;rw[Ao,←hl];exact Option.some.inj h1
  exact subscriptTail_builtinR (x:=w) pl.isList.typeIs slot_list_getitem.lookup
   (wpAny_getItem_list_neg (Q:=λr s'=>r=w/\EP X A1 Y Q r s') pl.isList ∅ (by rw[Ao] <;> omega) ∅ (by rw[hj];simpa using ew) {rfl,fin}) hs
def JBz:yt X (Dv X.K):=by
 intro value slice A1 s Y H x y v u Q I rx ry h hs;let⟨p,xs,i,z,rfl,rfl,hq,he,q⟩:=h;cases rx;let⟨t,rfl⟩:=ry;let⟨its,r,pl,hz⟩:=I.tuple hq;let⟨j,h1,h2,h3,h4,h5⟩:=oC he;let⟨w,ew,DQ⟩:=r.get h2;have hl:=r.length;have hn:=i5;have fin:EP X A1 Y Q w s:={z,H,I,DQ,q};exact subscriptTail_builtinR (x:=w) pl.typeIs slot_tuple_getitem.lookup
  (getItem_tuple (j:=j) (Q:=λr s'=>r=w/\EP X A1 Y Q r s') pl ∅ ∅ (by rw[Ao,←hl];exact h1) ‹ew› {rfl,fin}) hs
def JB0:yt X Dw:=by
 intro value slice A1 s Y H x y v u Q I rx ry h hs;let⟨z,i,c,rfl,rfl,hz,he,q⟩:=h;let⟨t,rfl⟩:=rx;let⟨t',rfl⟩:=ry;let⟨j,h1,h2,h3,h4,h5⟩:=oC he;have hl:z.cps.toList.length=z.length:=by simp[Str.length]
 rw[hl] at h1 h4 h5;have hn:=i5;exact tail_any (typeIs_str s z t) slot_str_getitem.lookup (getItem_str (c:=c) (by have e1:decide (i < -(2 ^ 63:Int))=false:=Ba ∅;have e2:decide (i >= 2 ^ 63)=false:=Ba ∅;rw[e1,e2,Bool.or_false]) (by rw[h1];simpa using h2) {.str ⟨#[c]⟩,H,I.tok _,{_,rfl},q}) hs
def ID (K:AF):R2:=λx y H Q=>Dx K x y H Q\/Dv K x y H Q\/Dw x y H Q
def JB1:yt X (ID X.K):=xW.or (JBz.or JB0)
def qj (its:Te)(n j:Nat)(u:A5):Obj.mapSeq (·.setIfInBounds j u) {cls:=.type "list",data:=.seq its.toArray n}={cls:=.type "list",data:=.seq (its.set j u).toArray n}:=by simp[Obj.mapSeq]
def aE.lst {H:Hp}{s:A4}{p:A6}{xs:A0 V}(I:aE X A1 Y H s)(h:H p=some (.lst xs)) :
  ∃(its:Te) (n:Nat),aO xs its/\s.heap.get? p=some {cls:=.type "list",data:=.seq its.toArray n}/\xs.length<=sizeLine:=by
 let⟨z,its,n,r,e⟩:=I.hok p _ h;exact{its,n,r,e,z}
def aE.lstUpd {H:Hp}{s:A4}{p:A6}{xs ys:A0 V}{its its':Te}{n n':Nat}{f:Obj->Obj}(I:aE X A1 Y H s)(h:H p=some (.lst xs))
  (ho:s.heap.get? p=some {cls:=.type "list",data:=.seq its.toArray n}) (hf:f {cls:=.type "list",data:=.seq its.toArray n}={cls:=.type "list",data:=.seq its'.toArray n'}) (r:aO ys its') (hz:ys.length<=sizeLine) (t:Nat) :
  aE X A1 Y (upd H p (.lst ys)) {s with heap:=s.heap.update p f,toks:=t}:=by
 have e:(s.heap.update p f).get? p=some {cls:=.type "list",data:=.seq its'.toArray n'}:=by
  rw[zaX f ho (by rw[hf] <;> rfl),hf]
 refine I.write (x:=p) (e:=p) (by rw[h];trivial) (.inl rfl) (λb u hb q=>(za2 _ _ (Ne.symm hb)).trans q) {_,e} ?_;exact{hz,its',n',r,e}
def u5:V->V->V->Hp->(Hp->Prop)->Prop:=λo i v H Q=>∃p xs k j,o=.ref p/\i=.int k/\H p=some (.lst xs)/\tm xs.length k=some j/\Q (upd H p (.lst (xs.set j v)))
def uK:pP X u5:=by
 intro A1 s Y H o i v ov iv u Q I ro ri rv h;let⟨p,xs,k,j,rfl,rfl,hp,hj,q⟩:=h;cases ro;let⟨t,rfl⟩:=ri;let⟨its,n,r,ho,hz⟩:=I.lst hp;let⟨h1,h2,h3,h4⟩:=rL hj;have hl:=r.length;have hn:=i5;have I':aE X A1 Y (upd H p (.lst (xs.set j v))) {s with heap:=s.heap.update p (Obj.mapSeq (·.setIfInBounds j u))} :=
  I.lstUpd hp ho (qj its n j u) (r.set rv j) (by rw[List.length_set];exact hz) s.toks
 by_cases h0:0<=k
 ·have hk:k.toNat=j:=by
   rw[seqIndex_of h0 h4] at h1;exact Option.some.inj h1
  exact PySem.W.ki_setAt ho h0 ∅ (by rw[Ao,←hl];exact h4) (by rw[hk];exact{_,I',q})
 ·have hk:(k+(its.toArray.size:Int)).toNat=j:=by
   rw[seqIndex_neg ∅ h3] at h1;rw[Ao,←hl];exact Option.some.inj h1
  exact PySem.W.ki_setBack ho ∅ (by rw[Ao,←hl];exact h3) ∅ (by rw[hk];exact{_,I',q})
def nT (lo hi:Jo Int)(n:Nat):(sliceBounds lo hi none n).1=((HT.cx n 0 lo:Nat):Int)/\(sliceBounds lo hi none n).2.1=((HT.cx n n hi:Nat):Int)/\(sliceBounds lo hi none n).2.2=1:=by
 refine{?_,?_,rfl}
 ·cases lo with
  |none=>simp[sliceBounds,HT.cx]
  |some i=>
   rwa[sliceBounds,HT.cx,Option.getD_none,show(1:Int)>0 by decide,if_true];by_cases h:i<0
   ·rwa[h,if_true] <;> omega
   ·rwa[h,if_false] <;> omega
 ·cases hi with
  |none=>simp[sliceBounds,HT.cx]
  |some i=>
   rwa[sliceBounds,HT.cx,Option.getD_none,show(1:Int)>0 by decide,if_true];by_cases h:i<0
   ·rwa[h,if_true] <;> omega
   ·rwa[h,if_false] <;> omega
def mB (its:Te)(lo hi:Jo Int):slicePick its.toArray lo hi none=((its.drop (HT.cx its.length 0 lo)).take (HT.cx its.length its.length hi-HT.cx its.length 0 lo)).toArray:=by let⟨h1,h2,h3⟩:=nT lo hi its.toArray.size;unfold slicePick;rw[h1,h2,h3];rwa[sliceRange_one,pick_run,Ao] <;> rfl
def Ds (K:AF):V->Jo Int->Jo Int->Hp->VK->Prop:=λx lo hi H Q=>∃a xs,x=.ref a/\io K H a xs/\∀p,H p=none->Q (.ref p) (upd H p (.lst (ou xs lo hi)))
def wL:t4 X (Ds X.K):=by intro A1 s Y H x v vl vu lo hi sl Q I rx hs pl pu h;obtain⟨a,xs,rfl,hx,q⟩:=h;cases rx;obtain⟨its,r,ht,hz⟩:=I.list hx;have hlen:=r.length;refine{"list",_,slot_list_getitem.lookup,ht.isList.typeIs,?_};refine wpAny_getItem_list_slice ht.isList hs pl pu .none ∅ ?_ (by rw[Ao] <;> omega);rw[mB,←hlen];refine{.ref s.heap.objs.size,_,I.laid (t':=s.toks) (o:=.lst (ou xs lo hi)) (λb ob q=>AU _ q) (Af _) ?_,rfl,q _ (I.hok.fresh (Af _))};exact{BM (kL xs lo hi) hz,_,0,(r.drop (HT.cx xs.length 0 lo)).take (HT.cx xs.length xs.length hi-HT.cx xs.length 0 lo),B1 _ rfl}
noncomputable def jF:V->A9
 |.non=>true
 |.bl _=>true
 |.int _=>true
 |.str _=>true
 |_=>false
noncomputable def zP:V->V->A9
 |.non,.non=>true
 |.bl a,.bl b=>a == b
 |.bl a,.int b=>(if a then 1 else 0) == b
 |.int a,.bl b=>a == (if b then 1 else 0)
 |.int a,.int b=>a == b
 |.str a,.str b=>a == b
 |_,_=>false
theorem JC6 {s:A4}{y x:V}{u v:A5}(ry:aW y u)(rx:aW x v)(fy:jF y=true)(fx:jF x=true):SeqAt.EqAt A s u v (zP y x):=by
 cases y with
 |non=>
  cases ry
  cases x with
  |non=>cases rx;exact SeqAt.EqAt.same _
  |bl b=>cases rx;exact SeqAt.EqAt.none_bool b
  |int b=>let⟨t,rfl⟩:=rx;exact SeqAt.EqAt.none_int b t
  |str b=>let⟨t,rfl⟩:=rx;exact SeqAt.EqAt.none_str b t
  |_=>exact AE (show false=true from fx) Bw
 |bl a=>
  cases ry
  cases x with
  |non=>cases rx;exact SeqAt.EqAt.bool_none a
  |bl b=>cases rx;exact SeqAt.EqAt.bool_bool a b
  |int b=>let⟨t,rfl⟩:=rx;exact SeqAt.EqAt.bool_int a b t
  |str b=>let⟨t,rfl⟩:=rx;exact SeqAt.EqAt.bool_str a b t
  |_=>exact AE (show false=true from fx) Bw
 |int a=>
  let⟨t',rfl⟩:=ry
  cases x with
  |non=>cases rx;exact SeqAt.EqAt.int_none a t'
  |bl b=>cases rx;exact SeqAt.EqAt.int_bool a t' b
  |int b=>let⟨t,rfl⟩:=rx;exact SeqAt.EqAt.int_int a t' b t
  |str b=>let⟨t,rfl⟩:=rx;exact SeqAt.EqAt.int_str a t' b t
  |_=>exact AE (show false=true from fx) Bw
 |str a=>
  let⟨t',rfl⟩:=ry
  cases x with
  |non=>cases rx;exact SeqAt.EqAt.str_none a t'
  |bl b=>cases rx;exact SeqAt.EqAt.str_bool a t' b
  |int b=>let⟨t,rfl⟩:=rx;exact SeqAt.EqAt.str_int a t' b t
  |str b=>let⟨t,rfl⟩:=rx;exact SeqAt.EqAt.str_str a t' b t
  |_=>exact AE (show false=true from fx) Bw
 |_=>exact AE (show false=true from fy) Bw
noncomputable def yc (x:V)(u:A5):A9:=match u with
 |.none=>zP .non x
 |.bool b=>zP (.bl b) x
 |.int i _=>zP (.int i) x
 |.str z _=>zP (.str z) x
 |_=>false
theorem vY {x y:V}{u:A5}(r:aW y u)(f:jF y=true):yc x u=zP y x:=by
 cases y with
 |non=>cases r;rfl
 |bl b=>cases r;rfl
 |int i=>let⟨t,rfl⟩:=r;rfl
 |str z=>let⟨t,rfl⟩:=r;rfl
 |_=>exact AE (show false=true from f) Bw
theorem oE {x:V}:∀{xs:A0 V} {us:Te},aO xs us->xs.all jF=true->us.any (yc x)=xs.any λy=>zP y x
 |_,_,.nil,_=>rfl
 |y::xs,u::us,.cons r t,f=>by rw[List.all_cons,za9] at f;rw[D9,D9,vY r f.1,oE t f.2]
theorem lL {s:A4}{x:V}{v:A5}(rx:aW x v)(fx:jF x=true):∀{xs:A0 V} {us:Te},aO xs us->xs.all jF=true->∀u∈us,SeqAt.EqAt A s u v (yc x u)
 |_,_,.nil,_=>λu hu=>by cases hu
 |y::xs,u::us,.cons r t,f=>λu' hu=>by
  rw[List.all_cons,za9] at f;rcases Ad.mp hu with rfl|hu
  ·rw[vY r f.1];exact JC6 r rx f.1 fx
  ·exact lL rx fx t f.2 u' hu
noncomputable def Fj (x:V)(xs:A0 V):A9:=xs.any λy=>zP y x
def IE (K:AF)(neg:A9):R2:=λx y H Q=>∃p xs,y=.ref p/\(io K H p xs\/gP K H p xs)/\jF x=true/\xs.all jF=true/\Q (.bl (if neg then !Fj x xs else Fj x xs)) H
def sH:iD X (compareOp .In) (IE X.K false):=by
 intro A1 s Y H x y v u Q I rx ry h;let⟨p,xs,rfl,hq,fx,fs,q⟩:=h;cases ry;rcases hq with hq|hq
 ·let⟨its,r,pl,hz⟩:=I.list hq;refine SeqAt.in_listAt (yc x) pl.isList (λw hw=>lL rx fx r fs w ‹hw›) {.bl _,H,I,rfl,?_};rw[show its.toArray.any (yc x)=its.any (yc x) by simp,oE r fs];exact q
 ·let⟨its,r,pl,hz⟩:=I.tuple hq;refine SeqAt.in_tupleAt (yc x) pl (λw hw=>lL rx fx r fs w ‹hw›) {.bl _,H,I,rfl,?_};rw[show its.toArray.any (yc x)=its.any (yc x) by simp,oE r fs];exact q
def oB:ip X (.builtin "len") (λxs H Q=>∃p ys,xs=[.ref p]/\(io X.K H p ys\/gP X.K H p ys)/\Q (.int ys.length) H):=by
 intro A1 s Y H xs us Q I r h;let⟨p,ys,rfl,hq,q⟩:=h;let⟨u,rfl,rx⟩:=kx r;cases rx;have hn:=i5;rcases hq with hq|hq
 ·let⟨its,r',pl,hz⟩:=I.list hq;have hlen:=r'.length;exact Calls.call_len_list pl.isList (by rwa[Ao] <;> omega) {.int ys.length,H,I.tok _,{s.toks+1,by rw[Ao,hlen]},q}
 ·let⟨its,r',pl,hz⟩:=I.tuple hq;have hlen:=r'.length;exact len_tuple pl (by rwa[Ao] <;> omega) {.int ys.length,H,I.tok _,{s.toks+1,by rw[Ao,hlen]},q}
def oA:ip X (.builtin "len") (λxs H Q=>∃z,xs=[.str z]/\z.length<=sizeLine/\Q (.int z.length) H):=by intro A1 s Y H xs us Q I r h;obtain⟨z,rfl,hz,q⟩:=h;obtain⟨u,rfl,t,rfl⟩:=kx r;have hn:=i5;exact len_str ∅ {.int z.length,H,I.tok _,{_,rfl},q}
def mQ:ip X (.type "tuple") (λxs H Q=>∃p ys,xs=[.ref p]/\((io X.K H p ys/\∀l,H l=none->Q (.ref l) (upd H l (.tup ys)))\/(gP X.K H p ys/\Q (.ref p) H))):=by
 intro A1 s Y H xs us Q I r h;let⟨p,ys,rfl,h⟩:=h;let⟨u,rfl,rx⟩:=kx r;cases rx;rcases h with⟨hq,q⟩|⟨hq,q⟩
 ·obtain⟨its,r',pl,hz⟩:=I.list hq;have hlen:=r'.length;refine call_tuple_list pl.isList (λh' kp=>?_) (by rwa[Ao] <;> omega);have I1:aE X A1 Y H {s with heap:=h'}:=I.kept (t':=s.toks) kp;have I2:aE X A1 Y (upd H h'.objs.size (.tup ys)) {s with heap:=h'.push {cls:=.type "tuple",data:=.seq its.toArray}} :=
   I1.laid (t':=s.toks) (λb o e=>AU _ e) (Af _) (show b7 X.prog X.w _ _ _ (.tup ys) from{hz,its,r',jh.new _ _})
  exact{.ref h'.objs.size,_,I2,rfl,q _ (I1.hok.fresh (Af _))}
 ·let⟨its,r',pl,hz⟩:=I.tuple hq;exact call_tuple_same pl {.ref p,H,I,rfl,q}
def E4 (K:AF)(T:String)(x:V)(H:Hp):Prop:=match x with
 |.str _=>T = "str"
 |.int _=>T = "int"
 |.ref p=>(T = "list"/\∃xs,io K H p xs)\/(T = "tuple"/\∃o,K.lookup p=some o/\o.cls=.type "tuple"/\o.dict=none) \/
   (T = "dict"/\((∃kvs,H p=some (.dK kvs))\/∃kvs,H p=some (.dT kvs)))\/(T = "set"/\∃S n,H p=some (.set S n))
 |_=>False
theorem uf {H:Hp}{s:A4}{T:String}{x:V}{v:A5}(I:aE X A1 Y H s)(r:aW x v)(ty:E4 X.K T x H) :
  s.TypeIs v T/\∀a,v=.ref a->∃ob,s.heap.get? a=some ob/\ob.dict=none:=by
 cases x with
 |str z=>
  obtain⟨t,rfl⟩:=r;cases(show T = "str" from ty);exact{typeIs_str s z t,λ_ e=>nomatch e}
 |int i=>
  obtain⟨t,rfl⟩:=r;cases(show T = "int" from ty);exact{typeIs_int s i t,λ_ e=>nomatch e}
 |ref p=>
  cases r;rcases ty with⟨rfl,xs,hq⟩|⟨rfl,o,hk,hc,hd⟩|⟨rfl,hk⟩|⟨rfl,S,n,hk⟩
  ·let⟨its,_,pl,_⟩:=I.list hq
   refine{pl.isList.typeIs,λa e=>?_};cases e;let⟨o,n,e,c,hd,_⟩:=pl;exact{o,e,hd}
  ·refine{{o,I.kIn p o hk,hc},λa e=>?_}
   cases e;exact{o,I.kIn _ o hk,hd}
  ·have z:∃o,s.heap.get? p=some o/\o.ExactDict:=by
    rcases hk with⟨kvs,hk⟩|⟨kvs,hk⟩
    ·let⟨_,_,_,_,o,_,_,e,ex,_⟩:=I.hok p _ hk
     exact{o,e,ex}
    ·let⟨_,_,_,_,o,_,_,e,ex,_⟩:=I.hok p _ hk
     exact{o,e,ex}
   let⟨o,e,ex⟩:=z;refine{{o,e,ex.1},λa e2=>?_};cases e2;exact{o,e,ex.2.1}
  ·let⟨o,_,_,_,e,ex,_⟩:=I.hok p _ hk
   refine{{o,e,ex.1},λa e2=>?_};cases e2;exact{o,e,ex.2.1}
 |_=>exact False.elim ty
def Dc (K:AF)(T:String)(r:V->A0 V->Hp->VK->Prop)(to:TE):TE:=λY H Q=>to Y H λx H1=>E4 K T x H1/\r x [] H1 Q
def E7 (K:AF)(T:String)(r:V->A0 V->Hp->VK->Prop)(to:TE)(t:TA):TE:=λY H Q=>to Y H λx H1=>E4 K T x H1/\t Y H1 λxs H2=>r x xs H2 Q
variable {o e:AG}{es:Tk}{to:TE}{t:TA}{name:Str}{apos AP:Pos}{T id:String}{r:V->A0 V->Hp->VK->Prop}
def JCs (pa:PlainAttrs T)(slot:Slot T name id)(hty:typeOf (.builtin id)=pure (.type "method_descriptor"))(hm:ET X id r)(ho:PE X o to)
  (Aa:attributeBase o name X.env (eval o X.env)=eval o X.env:=by rfl) (AW:(apos.endLine == AP.line)=true:=by rfl):PE X (.Call (.Attribute o name apos) [] [] AP) (Dc X.K T r to):=by
 intro A1 s Y H Q I h;refine wpAny_Call_method0_late Aa AW (ck (ho A1 s Y H _ I h) λv s1 hh=>?_);let⟨x,H1,I1,r1,ty,q1⟩:=hh;let⟨h1,h2⟩:=uf I1 r1 ty;exact{T,id,pa,slot,hty,h1,h2,Calls.callWith_builtin rfl (PySem.evalArgs_none (hm A1 s1 Y H1 x [] v [] Q I1 r1 .nil q1))}
def pe (pa:PlainAttrs T)(slot:Slot T name id)(hty:typeOf (.builtin id)=pure (.type "method_descriptor"))(hm:ET X id r)(ho:PE X o to)(ha:PA X (e::es) t)
  (Aa:attributeBase o name X.env (eval o X.env)=eval o X.env:=by rfl)
  (Az:((backTo AP (starEach (e::es) X.env)).all (λx=>!x.1)&&(backToKw AP (keywordEach [] X.env)).all (λx=>x.1.isSome)
   && decide ((e::es).length+([]:A0 Keyword).length+(if ([]:A0 Keyword).isEmpty then 0 else 1)<30))=true:=by rfl)
  (AW:(apos.endLine == AP.line)=true:=by rfl) (hs:starEach (e::es) X.env=(false,eval e X.env)::starEach es X.env:=by rfl) (AV:(backTo AP (starEach es X.env)).any (·.1)=false:=by rfl) :
  PE X (.Call (.Attribute o name apos) (e::es) [] AP) (E7 X.K T r to t):=by
 intro A1 s Y H Q I h;refine wpAny_Call_method_late Aa Az AW rfl (ck (ho A1 s Y H _ I h) λv s1 hh=>?_);let⟨x,H1,I1,r1,ty,q1⟩:=hh;let⟨h1,h2⟩:=uf I1 r1 ty;refine{T,id,pa,slot,hty,h1,h2,?_};have hA:=ha AP A1 s1 Y H1 _ I1 q1;rw[hs] at hA ⊢;refine Calls.callWith_builtin (by show(false || (backTo AP (starEach es X.env)).any (·.1))=false;rw[AV] <;> rfl) (Calls.evalArgs_plain ?_);exact ck hA λus s2 ⟨vs,H2,I2,r2,q2⟩=>hm A1 s2 Y H2 x vs v us Q I2 r1 r2 q2
end
def Ij (X:Cx)(id:String)(r:V->A0 V->Hp->VK->Prop):Prop :=
 ∀(A1:Tc) (s:A4) (Y:St) (H:Hp) (x:V) (xs:A0 V) (v:A5) (us:Te) (Q:VK),aE X A1 Y H s->aW x v->aO xs us->r x xs H Q ->
  wpAny (model X.prog X.w) X.A (call (.builtin id) (v::us)) (EP X A1 Y Q) X.xe s
def aO.one {x:V}{us:Te}(h:aO [x] us):∃u,us=[u]/\aW x u:=by cases h with|cons r t=>cases t;exact{_,rfl,r}
theorem aO.zero:∀{us:Te},aO [] us->us=[]
 |_,.nil=>rfl
theorem aO.dropLast {xs:A0 V}{us:Te}(h:aO xs us):aO xs.dropLast us.dropLast:=by
 induction h with
 |nil=>exact .nil
 |cons r t ih=>
  cases t with
  |nil=>exact .nil
  |cons q t'=>exact .cons r ih
theorem qI {Z:Type}(l:A0 Z):l.eraseIdx (l.length-1)=l.dropLast:=by
 induction l with
 |nil=>rfl
 |cons a r ih=>
  cases r with
  |nil=>rfl
  |cons b r=>
   have e:(a::b::r).length-1=((b::r).length-1)+1:=by have h1:(a::b::r).length=r.length+2:=rfl;have h2:(b::r).length=r.length+1:=rfl;omega
   rw[e,List.eraseIdx_cons_succ,ih]
   all_goals rfl
section
variable {X:Cx}{A1:Tc}{Y:St}{H:Hp}{s:A4}{l:A6}{xs ys:A0 V}
def aE.lset {its its':Te}{n:Nat}{f:AN A5->Tj}{t':Nat}(I:aE X A1 Y H s)(hH:H l=some (.lst xs))
  (e:s.heap.get? l=some {cls:=.type "list",data:=.seq its.toArray n}) (hf:f its.toArray=its'.toArray) (hv:aO ys its') (hz:ys.length<=sizeLine) :
  aE X A1 Y (upd H l (.lst ys)) {s with heap:=s.heap.update l (Obj.mapSeq f),toks:=t'}:=by
 have q:=PySem.IsL.update e f;rw[hf] at q;refine I.write (x:=l) (e:=l) (by rw[hH];exact trivial) (.inl rfl) (λb' u hb hu=>(za2 s.heap (Obj.mapSeq f) (Ne.symm hb)).trans hu) {_,q} ?_;exact{hz,its',_,hv,q}
def aE.lnew {its:Te}{t':Nat}(I:aE X A1 Y H s)(hv:aO ys its)(hz:ys.length<=sizeLine) :
  aE X A1 Y (upd H s.heap.objs.size (.lst ys)) {s with heap:=s.heap.push {cls:=.type "list",data:=.seq its.toArray},toks:=t'} :=
 I.laid (λ_ _ q=>AU _ q) (Af _) {hz,its,0,hv,B1 _ rfl}
def aE.fresh (I:aE X A1 Y H s):H s.heap.objs.size=none:=I.hok.fresh (Af _)
def aE.lstM (I:aE X A1 Y H s)(hH:H l=some (.lst xs)):xs.length<=sizeLine/\∃(its:Te) (n:Nat),aO xs its/\xs.length=its.length/\s.heap.get? l=some {cls:=.type "list",data:=.seq its.toArray n}:=by obtain⟨z,its,n,r,e⟩:=I.hok l _ hH;exact{z,its,n,r,r.length,e}
def vw {n:Nat}(h:n<=sizeLine):listTooLong n=false:=by unfold listTooLong;exact Ba ∅
end
section
variable {X:Cx}
def rj:V->A0 V->Hp->VK->Prop:=λx vs H Q=>∃l xs y,x=.ref l/\vs=[y]/\H l=some (.lst xs)/\xs.length<sizeLine/\Q .non (upd H l (.lst (xs++[y])))
def sL:Ij X "list.append" rj:=by intro A1 s Y H x vs v us Q I rx rv h;obtain⟨l,xs,y,rfl,rfl,hH,hz,q⟩:=h;cases rx;obtain⟨u,rfl,ru⟩:=rv.one;obtain⟨z,its,n,r,hl,e⟩:=I.lstM hH;refine call_meets F.slot_list_append {_,e,rfl} F.entry_list_append (F.args_list_append_2 _ _) (PySem.list_append l its.toArray n u (by rw[Ao];omega)) {e,?_};refine{.non,_,I.lset (its':=its++[u]) hH e ∅ (r.append (.cons ru .nil)) ?_,rfl,q};rw[BD,List.length_singleton];omega
def rh:V->A0 V->Hp->VK->Prop:=λx vs H Q=>∃l b xs zs,x=.ref l/\vs=[.ref b]/\H l=some (.lst xs)/\H b=some (.lst zs)/\xs.length+zs.length<=sizeLine/\Q .non (upd H l (.lst (xs++zs)))
def sK:Ij X "list.extend" rh:=by
 intro A1 s Y H x vs v us Q I rx rv h;let⟨l,b,xs,zs,rfl,rfl,hH,hB,hz,q⟩:=h;cases rx;let⟨u,rfl,ru⟩:=rv.one;cases ru;let⟨z,its,n,r,hl,e⟩:=I.lstM hH;let⟨z2,Aq,n2,r2,hl2,e2⟩:=I.lstM hB;have hsz:its.toArray.size+Aq.toArray.size<=sizeLine:=by rw[Ao,Ao];omega
 have hlong:¬ (!its.toArray.isEmpty&&listTooLong (its.toArray.size+Aq.toArray.size))=true:=by rw[vw hsz,Bool.and_false];exact Bw
 refine call_meets F.slot_list_extend {_,e,rfl} F.entry_list_extend (F.args_list_extend_2 _ _)
  (AutoSeq1.list_extend_list_list_0 l its.toArray n b Aq.toArray n2 hlong (by rw[Ao];omega) ∅) {e,e2,?_}
 refine{.non,_,I.lset (its':=its++Aq) hH e ∅ (r.append r2) ?_,rfl,q};rw[BD];omega
def Du:V->A0 V->Hp->VK->Prop:=λx vs H Q=>∃l xs y,x=.ref l/\vs=[]/\H l=some (.lst xs)/\xs[xs.length-1]?=some y/\Q y (upd H l (.lst xs.dropLast))
def JBw:Ij X "list.pop" Du:=by
 intro A1 s Y H x vs v us Q I rx rv h;let⟨l,xs,y,rfl,rfl,hH,hy,q⟩:=h;cases rx;have hus:=rv.zero;subst hus;let⟨z,its,n,r,hl,e⟩:=I.lstM hH;let⟨u,hu,ru⟩:=r.get hy;have hy':its.toArray[its.toArray.size-1]?=some u:=by
  show its.toArray[its.length-1]?=some u
  rw[←Array.getElem?_toList,←hl];exact hu
 refine call_meets F.slot_list_pop {_,e,rfl} F.entry_list_pop (F.args_list_pop_1 _) (MeetsSeq.list_pop_last l its.toArray n u hy' (by rw[Ao];omega)) {e,?_};refine{y,_,I.lset (its':=its.dropLast) hH e ?_ r.dropLast ?_,ru,q}
 ·show its.toArray.eraseIdxIfInBounds (its.toArray.size-1)=its.dropLast.toArray
  rw[Ao,List.eraseIdxIfInBounds_toArray,qI]
 ·rw[List.length_dropLast];omega
def Dz:R2:=λx y H Q=>∃l b xs zs,x=.ref l/\y=.ref b/\H l=some (.lst xs)/\H b=some (.lst zs)/\xs.length+zs.length<=sizeLine/\∀p,H p=none->Q (.ref p) (upd H p (.lst (xs++zs)))
def JBr:iD X (binaryOp .Add) Dz:=by
 intro A1 s Y H x y v u Q I rx ry h;let⟨l,b,xs,zs,rfl,rfl,hH,hB,hz,q⟩:=h;cases rx;cases ry;let⟨z,its,n,r,hl,e⟩:=I.lstM hH;let⟨z2,Aq,n2,r2,hl2,e2⟩:=I.lstM hB;refine PySem.P.add_list e e2 ?_ (by rw[Ao,Ao];omega);have ea:its.toArray++Aq.toArray=(its++Aq).toArray:=by simp
 rw[ea];exact{.ref _,_,I.lnew (t':=s.toks) (r.append r2) (by rw[BD];omega),rfl,q _ I.fresh}
end
section
variable {κ:Type}[DecidableEq κ]
noncomputable def pU (kvs:A0 (κ×V))(k:κ):Jo V:=(kvs.find? λkv=>decide (kv.1=k)).map (·.2)
noncomputable def iZ (kvs:A0 (κ×V))(k:κ)(v:V):A0 (κ×V) :=
 if (kvs.any λkv=>decide (kv.1=k))=true then kvs.map (λkv=>if kv.1=k then (kv.1,v) else kv) else kvs++[(k,v)]
def oM {p:κ×V}{r:A0 (κ×V)}{k:κ}(e:p.1=k):pU (p::r) k=some p.2:=by simp[pU,zbz,e]
def oN {p:κ×V}{r:A0 (κ×V)}{k:κ}(e:¬ p.1=k):pU (p::r) k=pU r k:=by simp[pU,zbz,e]
theorem oO (k:κ):∀kvs:A0 (κ×V),(kvs.any λkv=>decide (kv.1=k))=(pU kvs k).isSome
 |[]=>rfl
 |p::r=>by
  rw[D9];by_cases e:p.1=k
  ·rwa[oM e,Bk e,Bool.true_or,Option.isSome_some]
  ·rw[oN e,Ba e,Bool.false_or];exact oO k r
def kE (kvs:A0 (κ×V))(k:κ)(v:V):(iZ kvs k v).length<=kvs.length+1:=by
 unfold iZ;split
 ·rw[Ac];omega
 ·rw[BD,B9,zbT];omega
theorem kq.isSome_eq {o:Jo V}{u:Tg}(r:kq o u):o.isSome=u.isSome:=by
 cases o with
 |none=>cases u with
  |none=>rfl
  |some _=>exact(show False from r).elim
 |some _=>cases u with
  |none=>exact(show False from r).elim
  |some _=>rfl
theorem KV.any {kvs:A0 (κ×V)}{vs:A0 (κ×A5)}(r:KV kvs vs)(k:κ):(kvs.any λkv=>decide (kv.1=k))=vs.any λkv=>decide (kv.1=k):=by
 unfold KV at r;induction r with
 |nil=>rfl
 |cons h t ih=>rw[D9,D9,ih,h.1]
theorem KV.repl {kvs:A0 (κ×V)}{vs:A0 (κ×A5)}(r:KV kvs vs)(k:κ){y:V}{u:A5}(ry:aW y u) :
  KV (kvs.map λkv=>if kv.1=k then (kv.1,y) else kv) (vs.map λkv=>if kv.1=k then (kv.1,u) else kv):=by
 unfold KV at r ⊢
 induction r with
 |nil=>exact .nil
 | @cons p q ps qs h t ih=>
  rw[An,An];refine .cons ?_ ih;let⟨h1,h2⟩:=h
  by_cases e:p.1=k
  ·rw[A8 e,A8 (h1.symm.trans e)];exact{h1,ry}
  ·rw[AA e,AA (λz=>e (h1.trans z))];exact{h1,h2}
def KV.put {kvs:A0 (κ×V)}{vs:A0 (κ×A5)}(r:KV kvs vs)(k:κ){y:V}{u:A5}(ry:aW y u):KV (iZ kvs k y) (stored vs k u):=by
 unfold iZ stored;rw[r.any k];by_cases e:(vs.any λkv=>decide (kv.1=k))=true
 ·rw[A8 e,A8 e];exact r.repl k ry
 ·rw[AA e,AA e];exact Paired.snoc r {rfl,ry}
def KV.length {kvs:A0 (κ×V)}{vs:A0 (κ×A5)}(r:KV kvs vs):kvs.length=vs.length:=Paired.length r
end
theorem pF {k:ci}{u:A5}(r:aW (kV k) u):(bG P w).is k u=true:=by
 cases k with
 |inl i=>let⟨t,e⟩:=(show ∃t,u=Value.int i t from r);subst e;exact pq P w i t
 |inr o=>cases o with
  |some x=>let⟨t,e⟩:=(show ∃t,u=Value.str x t from r);subst e;exact pp P w x t
  |none=>have e:u=Value.none:=r;subst e;exact sV
theorem nC :∀{ks:A0 ci} {us:Te},aO (ks.map kV) us->ItemsAre (bG P w) ks us
 |[],_,r=>by rw[Bj] at r;cases r;exact .nil
 |k::ks,_,r=>by
  rw[An] at r
  cases r with
  |cons h t=>exact .cons (pF h) (nC t)
abbrev KT (H:Hp):A0 (A0 ci×V)->A0 (A0 ci×A6×A5)->Prop:=Paired λp q=>p.1=q.1/\H q.2.1=some (.tup (p.1.map kV))/\aW p.2 q.2.2
theorem KT.val {H:Hp}{kvs:A0 (A0 ci×V)}{xs:A0 (A0 ci×A6×A5)}(r:KT H kvs xs)(k:A0 ci):kq (pU kvs k) ((atKey xs k).map (·.2)):=by
 induction r with
 |nil=>exact True.intro
 | @cons p q ps qs h t ih=>
  let⟨h1,_,h2⟩:=h;by_cases e:p.1=k
  ·have e':q.1=k:=h1.symm.trans e;have b:atKey (q::qs) k=some q.2:=(by simp[atKey,zbz,e']);rw[oM e,b];exact h2
  ·have e':¬ q.1=k:=λz=>e (h1.trans z);have b:atKey (q::qs) k=atKey qs k:=(by simp[atKey,zbz,e']);rw[oN e,b];exact ih
theorem KT.repl {H:Hp}{kvs:A0 (A0 ci×V)}{xs:A0 (A0 ci×A6×A5)}(r:KT H kvs xs)(k:A0 ci){y:V}{u:A5}(ry:aW y u) :
  KT H (kvs.map λkv=>if kv.1=k then (kv.1,y) else kv) (xs.map (putAt k u)):=by
 induction r with
 |nil=>exact .nil
 | @cons p q ps qs h t ih=>
  rw[An,An];refine .cons ?_ ih;let⟨h1,h2,h3⟩:=h;unfold putAt
  by_cases e:p.1=k
  ·rw[A8 e,A8 (h1.symm.trans e)];exact{h1,h2,ry}
  ·rw[AA e,AA (λz=>e (h1.trans z))];exact{h1,h2,h3}
def KT.put {H:Hp}{kvs:A0 (A0 ci×V)}{xs:A0 (A0 ci×A6×A5)}(r:KT H kvs xs)(k:A0 ci){b:A6}{y:V}{u:A5}(hb:H b=some (.tup (k.map kV)))(ry:aW y u) :
  KT H (iZ kvs k y) (storedH xs k b u):=by
 have e:(kvs.any λkv=>decide (kv.1=k))=(atKey xs k).isSome:=by
  rw[oO,(r.val k).isSome_eq,Option.isSome_map]
 unfold iZ storedH;rw[e]
 by_cases q:(atKey xs k).isSome=true
 ·rw[A8 q,A8 q];exact r.repl k ry
 ·rw[AA q,AA q];exact Paired.snoc r {rfl,hb,ry}
def KT.keeps {H H':Hp}{kvs:A0 (A0 ci×V)}{xs:A0 (A0 ci×A6×A5)}(r:KT H kvs xs)(ht:∀b ys,H b=some (.tup ys)->H' b=some (.tup ys)):KT H' kvs xs :=
 Paired.mapP r λ_ _ z=>{z.1,ht _ _ z.2.1,z.2.2}
section
variable {P:A7}{w:AB}{H:Hp}{h:AD}{a:A6}
def zu {u:HO}(ok:gc P w H h)(e:Rd H a u):b7 P w H h a u:=e.ok ok
def EH {kvs:A0 (ci×V)}(ok:gc P w H h)(e:Rd H a (.dK kvs)):kvs.length<=sizeLine/\(a == sysModules)=false/\∃vs,KV kvs vs/\h.DictOf (bG P w) a vs :=
 show b7 P w H h a (.dK kvs) from zu ok e
def EI {kvs:A0 (ci×V)}(ok:gc P w H h)(e:H a=some (.dK kvs)):kvs.length<=sizeLine/\(a == sysModules)=false/\∃vs,KV kvs vs/\h.DictOf (bG P w) a vs:=EH ok (.inl e)
def vI {ks:A0 ci}(ok:gc P w H h)(e:H a=some (.tup (ks.map kV))):(tupleKind (bG P w)).is h ks a:=by let⟨_,its,r,⟨o,h1,h2,n,h3⟩,_⟩:=(show b7 P w H h a (.tup (ks.map kV)) from ok a _ e);exact{o,its.toArray,n,h1,h2,h3,by simpa using nC r}
def EF {kvs:A0 (A0 ci×V)}(ok:gc P w H h)(e:Rd H a (.dT kvs)):kvs.length<=sizeLine/\(a == sysModules)=false /\
  ∃xs,KT H kvs xs/\h.DictOfH (tupleKind (bG P w)) a xs:=by
 let⟨z,y,xs,r,o,es,ep,h1,h2,h3,h4,h5⟩:=(show b7 P w H h a (.dT kvs) from zu ok e);refine{z,y,xs,r,o,es,ep,h1,h2,h3,h4,λx hx=>?_,h5}
 have all:∀{l:A0 (A0 ci×V)} {m:A0 (A0 ci×A6×A5)},KT H l m->∀x∈m,(tupleKind (bG P w)).is h x.1 x.2.1:=by
  intro l m q
  induction q with
  |nil=>intro x hx;exact nomatch hx
  | @cons p q ps qs hq t ih=>
   intro x hx;rcases Ad.mp hx with e|hx
   ·subst e
    exact vI ok (by rw[←hq.1];exact hq.2.1)
   ·exact ih x hx
 exact all r x hx
def EG {kvs:A0 (A0 ci×V)}(ok:gc P w H h)(e:H a=some (.dT kvs)):kvs.length<=sizeLine/\(a == sysModules)=false /\
  ∃xs,KT H kvs xs/\h.DictOfH (tupleKind (bG P w)) a xs:=EF ok (.inl e)
end
def yw (H:Hp)(a:A6)(y v:V)(H':Hp):Prop :=
 (∃kvs k,H a=some (.dK kvs)/\y=kV k/\kvs.length<sizeLine/\H'=upd H a (.dK (iZ kvs k v))) \/
 ∃kvs k b,H a=some (.dT kvs)/\y=.ref b/\H b=some (.tup (k.map kV))/\kvs.length<sizeLine/\H'=upd H a (.dT (iZ kvs k v))
def yw.k {H:Hp}{a:A6}{kvs:A0 (ci×V)}{k:ci}{v:V}(e:H a=some (.dK kvs))(hl:kvs.length<sizeLine):yw H a (kV k) v (upd H a (.dK (iZ kvs k v))):=.inl {kvs,k,e,rfl,hl,rfl}
section
variable {X:Cx}{A1:Tc}{Y:St}{H:Hp}{s:A4}{a:A6}{y v:V}{u r:A5}{A:AH}{E:Tb}
def rV {h':AD}{t':Nat}{ob:HO}(I:aE X A1 Y H s)(mu:ES (H a))(hs:Heap.SameBut a s.heap h')(he:∃q,h'.get? a=some q)(new:b7 X.prog X.w (upd H a ob) h' a ob) :
  aE X A1 Y (upd H a ob) {s with heap:=h',toks:=t'} :=
 I.write (x:=a) (e:=a) mu (.inl rfl) (λb q hb z=>(hs.2 b hb).trans z) he new
def JC7 {H':Hp}{h':AD}{kvs:A0 (ci×V)}{vs:A0 (ci×A5)}(z:kvs.length<=sizeLine)(hd:(a == sysModules)=false)(rel:KV kvs vs)(dd:h'.DictOf (bG P w) a vs) :
  b7 P w H' h' a (.dK kvs):={z,hd,vs,rel,dd}
def tG {H':Hp}{Q:Unit->A4->Prop}(hu:A.units+1<cLine)(I:aE X A1 Y H s)(g:yw H a y v H')(ry:aW y u)(rv:aW v r)(h:∀s',aE X A1 Y H' s'->Q () s') :
  wpAny (model X.prog X.w) A (setItem (.ref a) u r) Q E s:=by
 rcases g with⟨kvs,k,e,ey,l,eH⟩|⟨kvs,k,b,e,ey,eb,l,eH⟩
 ·subst ey eH
  let⟨z,hd,vs,rel,dd⟩:=EI I.hok e
  have hz:vs.length<=sizeLine:=by rw[←rel.length];exact z
  have hl:(iZ kvs k v).length<=sizeLine:=by have:=kE kvs k v;omega
  refine wpAny_setItem_pairs (hsz:=hz) (pF ry) dd λh' dd' hs=>h _ ?_;have he:∃q,h'.get? a=some q:=let ⟨q,_,_,hq,_⟩:=dd';{q,hq};exact rV I (by rw[e];exact True.intro) hs he (JC7 hl hd (rel.put k rv) dd')
 ·subst ey eH
  cases(show u=Value.ref b from ry);let⟨z,hd,xs,rel,dd⟩:=EG I.hok e
  have hz:xs.length<=sizeLine:=by rw[←Paired.length rel];exact z
  have hl:(iZ kvs k v).length<=sizeLine:=by have:=kE kvs k v;omega
  refine wpAny_setItem_heap (hsz:=hz) (tupleKind_room_in1 hu) (vI I.hok eb) dd λh' dd' hs=>h _ ?_;let⟨q,es,ep,hq,h2,h3,h4,_,h5⟩:=dd';refine rV I (by rw[e];exact True.intro) hs {q,hq} {hl,hd,_,(rel.put k eb rv).keeps λc ys ec=>?_,q,es,ep,hq,h2,h3,h4,h5};rw[ay (JDz ec e (λz=>nomatch z))];exact ec
end
structure M1 (X:Cx)(o:Expr)(m:Str)(apos:Pos)(e:Expr)(AP:Pos):Prop where
 base:attributeBase o m X.env (eval o X.env)=eval o X.env
 few:((backTo AP (starEach [e] X.env)).all (λx=>!x.1)&&(backToKw AP (keywordEach [] X.env)).all (λx=>x.1.isSome)
  && decide (([e]:Tk).length+([]:List Keyword).length+(if ([]:List Keyword).isEmpty then 0 else 1)<30))=true
 line:(apos.endLine == AP.line)=true
 trees:backTo AP (starEach [e] X.env)=[(false,eval e X.env)]
end L2
namespace Att
open PySem.W PySem.Calls PyProof.Rows
theorem k9 {P:Params}{h:AD}:∀(ns:Ti) (vs:Te),WellAll P h vs (ns.map WData.int)->IntsAre vs ns:=by
 intro ns;induction ns with
 |nil=>
  intro vs w;rw[Bj] at w;cases w;exact .nil
 |cons n ns ih=>
  intro vs w;rw[An] at w
  cases w with
  |cons a b=>
   cases a;exact .cons _ _ (ih _ b)
theorem sv {l:OpenLaw}{n:Nat}(hn:l.most=some n){P:Params}{h:AD}{args:A0 WData}{vals:Te}
  (DD:l.row.toRowW.claim.pre args=true) (hwl:WellAll P h vals args) :
  ∃a vs ns,vals=[Value.ref a]/\args=[WData.list (ns.map WData.int)]/\h.get? a=some {cls:=.type "list",data:=.seq vs.toArray}/\IntsAre vs ns/\ns.length<=n:=by
 have hsh:WShape.hasAll [] args [.list .int]=true:=(pre_splitW DD).1;have hc:l.pre.holds [] {args:=args}=true:=(pre_splitW DD).2;let⟨d,r,rfl,h1,h2⟩:=hasAllW_cons hsh;obtain rfl:=hasAllW_nil h2;let⟨xs,rfl,h3⟩:=hasW_list h1;let⟨ns,rfl⟩:=items_int h3
 have hlen:ns.length<=n:=by
  unfold OpenLaw.pre at hc
  have h4:(WTm.not (.lt (.lit (.int (n:Int))) (.len (.arg 0)))).holds [] {args:=[.list (ns.map .int)]}=true:=by
   have h4:=(holds_andW hc).1;rw[hn] at h4;exact h4
  have h5:=condW_of h4 (w_not (w_lt w_lit (w_len_list (w_arg rfl))));rw[Ac] at h5;refine Nat.le_of_not_lt λq=>?_
  have q':(n:Int)<((ns.length:Nat):Int):=by omega
  first
   |(rw[Bk q'] at h5;exact AE h5 ∅)
   |(simp at h5;omega)
 cases hwl with
 |cons w1 w2=>
  cases w2
  cases w1 with
  |list ho hall=>exact{_,_,ns,rfl,rfl,ho,k9 ns _ hall,hlen}
def sE (l:OpenLaw)(args:A0 WData):l.row.toRowW.claim.post args (.bool true) args=true :=
 postW_of (r:=l.row.toRowW) (X:=(true == true))
  (show WShape.has [] (.bool true) .bool=true by first|rfl|decide|simp[WShape.has,WShape.arms,WShape.armsAll])
  (show(WTm.eq .res (.lit (.bool true))).value [] {args:=args,res:=some (.bool true),after:=args}=some (.bool (true == true)) from w_eq_bool (w_res rfl) w_lit) rfl
def attach_call {l:OpenLaw}{n:Nat}{q:A7}{loose:Tn}{XP:(Td)->AD->Prop}{YP:AB->AD->Prop}{d:DefRec}
  (hn:l.most=some n) (hdf:d.params.defaults=[])
  (call:∀(w:AB) (s₀ s₁:A4) (mg mb:Td) (fa:A6) (o:Obj) (pm cd doc:A5) (a:A6) (vs:Te) (ns:Ti),
   Ground q loose [] XP w s₀ mg mb s₁.heap->YP w s₁.heap ->
   s₁.heap.get? fa=some o->o.data=.func (docDef d.name d.params d.body d.scope pm cd doc)->s₁.heap.CodeRec cd d.name->mg d.name=some (.ref fa) ->
   s₁.heap.get? a=some {cls:=.type "list",data:=.seq vs.toArray}->IntsAre vs ns->ns.length<=n->s₁.gens = #[] ->
   codeAny (model l.prog w) callerA (.call (.ref fa) {[.ref a],[]}) (λr s'=>r=.ok (.ret (.bool true))/\OldK s₁.heap s'.heap/\s'.os=s₁.os/\AllBare s'.gens) s₁) :
  WalkO q loose XP YP l.row.toRowW d [] (λf vs=>PySem.call f vs):=by
 intro w s₀ s₁ mg mb G Yz fa o pm cd doc dV kV ho hd CA hD hmg hg args vals as DD hlay hrd hwl BE;obtain rfl:dV=.none:=Dflts.none hD hdf;obtain rfl:kV=.none:=Dflts.noKw hD;let⟨a,vs,ns,rfl,rfl,DV,hints,hlen⟩:=sv hn DD hwl;refine enter_call (zbr (call w s₀ s₁ mg mb fa o pm cd doc a vs ns G Yz ho (fd_plain hd) CA hmg DV hints hlen hg) λr s' hq=>?_);let⟨rfl,h2,h3,h4⟩:=hq;exact{.inl {.bool true,.bool true,[],rfl,λ_=>rfl,.bool true,sE l _,λ_=>{List.Pairwise.nil,λ_ hm=>(nomatch hm)}},h2,h3,h4}
end Att
namespace L2
open PyProof.Rows
theorem iq:∀{vs:Te} {ns:Ti},IntsAre vs ns->aO (ns.map V.int) vs
 |_,_,.nil=>.nil
 |_,_,.cons n t h=>.cons {t,rfl} (iq h)
def wj (H:Hp):Prop:=∀b,H b=none\/∃o xs,H b=some (.frz o (.lst xs))
theorem vG {P:A7}{w:AB}{K:AF}{mg mb:Td}{CX:sd}{k:Nat}{fa a:A6}{fd:FuncData}{x:Str}{sp:Sp}{s₁:A4}{vs:Te}{ns:Ti}
  (KX:K.In s₁.heap) (hns:s₁.heap.Ns mainGlobals mg) (hb:s₁.heap.Ns builtinsNs mb) (hbb:∀x:Str,x≠"__name__"->mb x=bootBuiltins x) (hlim:s₁.heap.NoLimit) (hg:s₁.gens = #[])
  (ha:s₁.heap.get? a=some {cls:=.type "list",data:=.seq vs.toArray}) (hi:IntsAre vs ns) (hl:ns.length<=sizeLine) (hr:bF k callerA)
  (F:∀base:AD,K.In base->base.Ns mainGlobals mg->b0 P w K mg base CX k fa fd [x] sp) (hbind:∀(s:A4) (u:A5),BindsTo s fd {[u],[]} [(x,u)])
  (Bq:∀H:Hp,wj H->io K H a (ns.map V.int)->sp [.ref a] H (λv _=>v=.bl true) λ_ _ _=>False)
  (hCX:∀H e s',CX [] H s₁ (λ_ _ _=>False) e s'->False) :
  codeAny (model P w) callerA (.call (.ref fa) {[.ref a],[]}) (λr s'=>r=.ok (.ret (.bool true))/\OldK s₁.heap s'.heap/\s'.os=s₁.os/\AllBare s'.gens) s₁:=by
 have rv:=iq hi;have lenV:=hi.length
 have core:∀H:Hp,wj H->io K H a (ns.map V.int)->gc P w H s₁.heap->(∀b,H b≠none->b=a)->(H a≠none->K.lookup a=none) ->
   codeAny (model P w) callerA (.call (.ref fa) {[.ref a],[]}) (λr s'=>r=.ok (.ret (.bool true))/\OldK s₁.heap s'.heap/\s'.os=s₁.os/\AllBare s'.gens) s₁:=by
  intro H hO hS hok hA hK;have base_of:∀{b:A6} {o:Obj},s₁.heap.get? b=some o->H b=none->(oi s₁.heap H).get? b=some o:=λe n=>vP e n
  have noA:∀{b:A6} {o:Obj} {es:AN DictEntry} {ep:Nat},s₁.heap.get? b=some o->o.data=.dict es ep->H b=none:=λ{b o es ep} e d=>by
   cases q:H b with
   |none=>rfl
   |some u=>
    have e':b=a:=hA b (by rw[q];simp);subst e';rw[ha] at e;cases e;have d':Data.seq vs.toArray _=Data.dict es ep:=d;cases d'
  have nsK:∀{b:A6} {m:Td},s₁.heap.Ns b m->(oi s₁.heap H).Ns b m:=λ{b m} ⟨o,es,ep,e,d,r⟩=>{o,es,ep,base_of e (noA e d),d,r}
  have hKb:K.In (oi s₁.heap H):=λb o e=>base_of (KX b o e) (by
   cases q:H b with
   |none=>rfl
   |some u=>
    have e':b=a:=hA b (by rw[q];simp);subst e'
    rw[hK (by rw[q];simp)] at e;cases e)
  have hM:Mod K mg (oi s₁.heap H):={hKb,nsK hns,{mb,nsK hb,hbb},let ⟨mc,h1,h2⟩:=hlim;{mc,nsK h1,h2}};have e0:qT P w K mg (oi s₁.heap H) callerA [] s₁ H:={rfl,hM,λb o e=>xJ e,Nat.le_of_eq (tw _ _),trivial,λb hb=>AE (show b∈([]:Tf) from hb) ∅,hok,.of_eq hg};refine zbr ((F _ hKb (nsK hns)).run callerA [] s₁ H {[.ref a],[]} [.ref a] [.ref a] _ _ hr e0 (hbind s₁ (.ref a)) (.cons rfl .nil) (Bq H hO hS)) λr s' h=>?_
  cases r with
  |error e=>exact(hCX H e s' h).elim
  |ok fl=>
   cases fl with
   |next=>exact False.elim h
   |brk=>exact False.elim h
   |cont=>exact False.elim h
   |ret u=>
    let⟨v,H',os,bare,un,hok',r',q⟩:=h;have q':v=.bl true:=q;subst q';obtain rfl:u=Value.bool true:=r';refine{rfl,OldK.of_keep λb o e=>?_,os,bare}
    cases q:H b with
    |none=>exact un.keep b o e q (by intro z;exact AE (show b∈([]:Tf) from z) ∅) ∅
    |some u=>
     rcases hO b with z|⟨ob,xs,z⟩
     ·rw[q] at z;cases z
     ·have z2:=un.frzs b ob _ z
      let⟨e1,_⟩:=hok b _ z;let⟨e2,_⟩:=hok' b _ z2;rw[e] at e1;cases e1;exact e2
 cases hk:K.lookup a with
 |some o=>
  have e:=KX a o hk;rw[ha] at e;cases e;refine core (λ_=>none) (λ_=>.inl rfl) (.inr {_,vs.toArray,_,hk,rfl,{rfl,rfl},rfl,by rw[Ao,lenV];exact hl,by simpa using rv}) (λb u z=>by have z':(none:Jo HO)=some u:=z;cases z') (λb z=>AE rfl z) λz=>AE rfl z
 |none=>
  refine core (λb=>if b=a then some (.frz {cls:=.type "list",data:=.seq vs.toArray} (.lst (ns.map V.int))) else none) (λb=>?_) (.inl (.inr {{cls:=.type "list",data:=.seq vs.toArray},A8 rfl})) (λb u z=>?_) (λb z=>?_) λ_=>hk
  ·by_cases hb:b=a
   ·exact .inr {_,_,A8 hb}
   ·exact .inl (AA hb)
  ·by_cases hb:b=a
   ·have z':=(A8 hb).symm.trans z
    cases z';subst hb;exact{ha,by rw[Ac];exact hl,vs,_,rv,ha}
   ·have z':=(AA hb).symm.trans z
    cases z'
  ·by_cases hb:b=a
   ·exact hb
   ·exact AE (AA hb) z
def wy {l:PySem.W.OpenLaw}{n k:Nat}{q:A7}{loose:Tn}{XP:(Td)->AD->Prop}{YP:AB->AD->Prop}{d:DefRec}{K:Params->AF}{CX:AB->sd}{sp:AB->Sp}{x:Str}
  (hn:l.most=some n) (Cv:n<=sizeLine) (hdf:d.params.defaults=[]) (hr:bF k callerA)
  (hY:∀(w:AB) (h:AD),YP w h->(K w.params).In h)
  (F:∀(w:AB) (mg:Td) (fa:A6) (h:AD),(K w.params).In h->h.Ns mainGlobals mg->mg d.name=some (.ref fa) ->
   ∃fd:FuncData,(∀(s:A4) (u:A5),BindsTo s fd {[u],[]} [(x,u)]) /\
    ∀base:AD,(K w.params).In base->base.Ns mainGlobals mg->b0 l.prog w (K w.params) mg base (CX w) k fa fd [x] (sp w))
  (Bq:∀(w:AB) (H:Hp) (a:A6) (ns:Ti),ns.length<=n->wj H->io (K w.params) H a (ns.map V.int)->sp w [.ref a] H (λv _=>v=.bl true) λ_ _ _=>False)
  (hCX:∀(w:AB) (H:Hp) (s:A4) (e:A5) (s':A4),CX w [] H s (λ_ _ _=>False) e s'->False) :
  PySem.W.WalkO q loose XP YP l.row.toRowW d [] (λf vs=>PySem.call f vs):=by
 refine Att.attach_call hn hdf λw s₀ s₁ mg mb fa o pm cd doc a vs ns G Yz ho hd CA hmg DV hints hlen hg=>?_;have KX:=hY w _ Yz;let⟨fd,hb,hF⟩:=F w mg fa _ KX G.T.g hmg;exact vG KX G.T.g G.T.b G.T.builtins G.T.nolimit hg DV hints (BM hlen Cv) hr hF hb (λH hO hS=>Bq w H a ns hlen hO hS) λH e s'=>hCX w H s₁ e s'
def uc {l:PySem.W.OpenLaw}{n k:Nat}{q:A7}{loose:Tn}{XP:(Td)->AD->Prop}{YP:AB->AD->Prop}{d:DefRec}{K:Params->AF}{CX:sd}{sp:AF->Sp}{x:Str}
  (hn:l.most=some n) (Cv:n<=sizeLine) (hdf:d.params.defaults=[]) (hr:bF k callerA)
  (hY:∀(w:AB) (h:AD),YP w h->(K w.params).In h)
  (F:∀(w:AB) (mg:Td) (fa:A6) (h:AD),(K w.params).In h->h.Ns mainGlobals mg->mg d.name=some (.ref fa) ->
   ∃fd:FuncData,(∀(s:A4) (u:A5),BindsTo s fd {[u],[]} [(x,u)]) /\
    ∀base:AD,(K w.params).In base->base.Ns mainGlobals mg->b0 l.prog w (K w.params) mg base CX k fa fd [x] (sp (K w.params)))
  (Bq:∀(K:AF) (H:Hp) (a:A6) (ns:Ti),ns.length<=n->wj H->io K H a (ns.map V.int)->sp K [.ref a] H (λv _=>v=.bl true) λ_ _ _=>False)
  (hCX:∀(H:Hp) (s:A4) (e:A5) (s':A4),CX [] H s (λ_ _ _=>False) e s'->False) :
  PySem.W.WalkO q loose XP YP l.row.toRowW d [] (λf vs=>PySem.call f vs) :=
 wy (K:=K) (CX:=λ_=>CX) (sp:=λw=>sp (K w.params)) hn Cv hdf hr hY F (λw H a ns h1 h2 h3=>Bq (K w.params) H a ns h1 h2 h3) λ_ H s e s'=>hCX H s e s'
noncomputable def gv (s:AJ)(j:Nat):AJ:=match s with
 |.ClassDef _ _ _ body _ _ _ _ _ _ _=>body.getD j (.Pass {0,0,0,0})
 |_=>.Pass {0,0,0,0}
noncomputable def ek (s:AJ):Arguments:=match s with
 |.FunctionDef _ a _ _ _ _ _ _ _ _=>a
 |_=>{posonlyargs:=[],args:=[],vararg:=none,kwonlyargs:=[],kw_defaults:=[],kwarg:=none,defaults:=[]}
noncomputable def bh (s:AJ):Tl:=match s with
 |.FunctionDef _ _ b _ _ _ _ _ _ _=>b
 |_=>[]
noncomputable def ah (s:AJ):Scope:=match s with
 |.FunctionDef _ _ _ _ _ _ sc _ _ _=>sc
 |_=>{kind:=.function,names:=[],isGenerator:=false,isCoroutine:=false}
abbrev iE:sd:=λ_ _ _ _ _ _=>False
abbrev E0:XK:=λ_ _ _=>False
def ph:kr iE X E0:=λ_ _ _ _ _ _ _ h=>h.elim
structure lj (K:AF)(x qual:Str)(st:Stmt)(f:Addr)(fd:FuncData):Prop where
 ex:∃(oc:Value) (od:Option Addr) (kV doc pm:Value) (an:Option Addr) (AO ct:Value) (Cj:Array (Tg)),
  fd=PySem.W.fnOf x qual (ek st) (bh st) (ah st) .none kV doc pm an AO ct/\K.lookup f=some {oc,od,.func fd,Cj}/\PySem.W.codeIn K AO qual=true
 kp:PySem.W.keepIn K (.ref f)=true
section
variable {P:A7}{w:AB}{K:AF}{mg:Td}{base:AD}
def lj.ok {x qual:Str}{st:AJ}{f:A6}{fd:FuncData}{N ps:Tn}{k:Nat}{sp:Sp}(F:lj K x qual st f fd)(S:av N ps (ah st))(len:∀vs H Q E,sp vs H Q E->vs.length=ps.length)
  (AQ:∀(AO:A5) (A:AH) (outer:A0 Env) (s:A4) (H:Hp) (vs:A0 V) (Q:VK) (E:XK),bF k (A.deeper (envOfC qual (ah st) s.heap.objs.size f AO))->sp vs H Q E ->
   ∃t,kM (gN iE P w K mg base N qual (ah st) f AO A outer s H E).nox (bh st) t/\t {nx:=λ_ H'=>Q .non H',rt:=Q} (dJ N vs) H):b0 P w K mg base iE (k+1) f fd ps sp:=by
 let⟨oc,od,kV,doc,pm,an,AO,ct,Cj,rfl,lk,CA⟩:=F.ex;refine Ep lk CA S len λA outer s H vs Q E hr Bq=>?_;let⟨t,h,q⟩:=AQ AO A outer s H vs Q E hr Bq;exact{t,h.nox,q}
def lj.binds {x qual:Str}{st:AJ}{f:A6}{fd:FuncData}{ps:Tn}(F:lj K x qual st f fd)
  (h:∀(kV doc pm:A5) (an:Jo A6) (AO ct:A5) (us:Te),us.length=ps.length->bindArgs (PySem.W.fnOf x qual (ek st) (bh st) (ah st) .none kV doc pm an AO ct) {us,[]}=pure (ps.zip us)):ee K fd ps []:=by
 let⟨oc,od,kV,doc,pm,an,AO,ct,Cj,rfl,lk,CA⟩:=F.ex;exact .all (h kV doc pm an AO ct)
def qE {x qual:Str}{st:AJ}{f:A6}{oc:A5}{od an:Jo A6}{Cj:AN (Tg)}{kV doc pm AO ct:A5}(l:K.lookup f=some {oc,od,.func (PySem.W.fnOf x qual (ek st) (bh st) (ah st) .none kV doc pm an AO ct),Cj})
  (c:PySem.W.codeIn K AO qual=true) (k:PySem.W.keepIn K (.ref f)=true):lj K x qual st f (PySem.W.fnOf x qual (ek st) (bh st) (ah st) .none kV doc pm an AO ct):={{oc,od,kV,doc,pm,an,AO,ct,Cj,rfl,l,c},k}
end
end L2
namespace HS
def zQ (t:SetTable):Prop:=t.plain=true->t.place.toList.Pairwise (·<·)
open PyProof.Rows
noncomputable def val (e:Int×A5):Int:=match e.2 with|.int n _=>n|_=>0
def JN (e:Int×A5):Prop:=∃n t,e=(hashInt n,.int n t)
structure ER (led:Bool)(es:Array (Int×Value))(t:SetTable)(xs:Ti):Prop where
 el:∀e∈es.toList,JN e
 pm:(es.toList.map val).Perm xs
 nd:xs.Nodup
 bd:es.size<scanBound
 ft:t.fits es.size=true
 rs:zQ t
 ld:t.led=led
structure Ia (led:Bool)(es:Array (Int×Value))(t:SetTable):Prop where
 bd:es.size<scanBound
 ft:t.fits es.size=true
 rs:zQ t
 ld:t.led=led
def Ie (led:A9)(o:Obj)(xs:Ti):Prop:=∃es ep t,o.ExactSet/\o.data=.set es ep t/\ER led es t xs
section
variable {prog:A7}{w:AB}{A:AH}{E:Tb}{s:A4}
noncomputable def Jw (xs:Ti)(k:Int):Ti:=if k∈xs then xs else xs++[k]
def lv {a:A6}{o:Obj}{es B6:AN (Int×A5)}{ep:Nat}{t t':SetTable}{Q:Unit->A4->Prop}(ho:s.heap.get? a=some o)(hx:o.ExactSet)(hd:o.data=.set es ep t)
  (hb:B6.size<scanBound)
  (h:∀h',Heap.SameBut a s.heap h'->h'.get? a=some {o with data:=.set B6 (ep+1) t'}->Q () {s with heap:=h'}):wpAny (model prog w) A (storeSet a B6 t') Q E s:=by
 refine wpAny_storeSet_of ho hd (h _ (Heap.SameBut.update s.heap a _) ?_) (fits_of_scanBound hb);have q:=zaX (Obj.putSet B6 t') ho (by rw[putSet_of B6 t' hd];rfl)
 (rw[putSet_of B6 t' hd] at q;assumption)
end
variable  {prog:A7}{w:AB}
noncomputable def DW:A0 Nat:=[7,15,31,63,127,255]
section
structure Ih (h:Heap)(v key val:Value):Prop where
 ex:∃a o c,v=.ref a/\h.get? a=some o/\o.cls=.type "tuple"/\o.data=.seq #[key,val] c
end
end HS
namespace L2
open PyProof.Rows
def jI (H:Hp)(q:Str)(ps:Tj):Prop:=TriplesOk ps.toList/\∀pos cv,codeAmong pos ps.toList=some cv->∃c' oc vs t,cv=.ref c'/\H c'=some (.frz oc (.ext λ_=>True))/\oc.data=.fields vs/\vs[1]?=some (.str q t)
def jI.mono {H H':Hp}{q:Str}{ps:Tj}(g:jI H q ps)(k:∀b o u,H b=some (.frz o u)->H' b=some (.frz o u)):jI H' q ps :=
 {g.1,λpos cv e=>let ⟨c',oc,vs,t,e1,e2,r⟩:=g.2 pos cv e;{c',oc,vs,t,e1,k _ _ _ e2,r}}
structure wk (x:Str)(caps:Tn)(sc:Scope)(cl:List (Str×Addr)):Prop where
 kind:sc.kind=.function
 co:sc.isCoroutine=false
 gen:sc.isGenerator=false
 nd:(x::caps).Nodup
 par:sc.names.lookup x=some .local
 nocell:∀y∈sc.names,y.2≠.cell
 free:∀y,sc.names.lookup y=some .free->∃c,cl.lookup y=some c
 inj:∀y z c,cl.lookup y=some c->cl.lookup z=some c->y=z
end L2
namespace HW
open L2
inductive D where
 |non|bl (b:Bool)|int (i:Int)|str (x:Str)
 |tup (xs:List D)|fl (xs:List D)|fd (ks:List ci) (ds:List D)|key (ks:Ti)
structure EU where
 qual:Str
 params:Arguments
 body:Expr
 scope:Scope
 x:Str
 caps:Tn
inductive R where
 |v (d:D)|p (n:Nat)|s (b:Bool) (xs:Ti)|x (c:Str)|f (L:EU) (ds:List D)
inductive bX where
 |lst (xs:List D)|fz (xs:List D)|dct (kvs:List (ci×D))|fzd (kvs:List (ci×D))|dr (kvs:List (ci×R))|lr (xs:List R)|dt (kvs:List (Ti×D))|tb (P:Nat) (q:Str)|ob (c:Str) (fs:List (Str×R))|tr (xs:List R)|fzr (kvs:List (ci×R))|dtr (kvs:List (Ti×R))|fzt (kvs:List (Ti×D))|hk (kvs:List (ci×D))
abbrev ac:=A0 bX
abbrev Lo:=A0 (Jo R)
abbrev FE:=Lo->ac->Jo (R×ac)
abbrev FT:=Lo->ac->Jo (A9×ac)
abbrev FA:=Lo->ac->Jo (A0 R×ac)
inductive lc where
 |nx (O:Lo) (U:ac)|rt (d:R) (U:ac)|bk (O:Lo) (U:ac)|ct (O:Lo) (U:ac)
abbrev FS:=Lo->ac->Jo lc
def Cn (K:AF)(H:Hp)(a:A6)(vs:A0 V):Prop:=(∃o,H a=some (.frz o (.lst vs)))\/io K (λ_=>none) a vs
mutual
def al (K:AF)(H:Hp):D->V->Prop
 |.non,v=>v=.non
 |.bl b,v=>v=.bl b
 |.int i,v=>v=.int i
 |.str x,v=>v=.str x
 |.tup xs,v=>∃a vs,v=.ref a/\gP K H a vs/\RelDs K H xs vs
 |.fl xs,v=>∃a vs,v=.ref a/\Cn K H a vs/\RelDs K H xs vs
 |.fd ks ds,v=>∃a o es,v=.ref a/\H a=some (.frz o (.dK es))/\es.map (·.1)=ks/\RelDs K H ds (es.map (·.2))
 |.key ks,v=>∃a,v=.ref a/\H a=some (.tup (ks.map V.int))
def RelDs (K:AF)(H:Hp):A0 D->A0 V->Prop
 |[],vs=>vs=[]
 |x::xs,vs=>∃v r,vs=v::r/\al K H x v/\RelDs K H xs r
end
structure yr (K:AF)(H:Hp)(L:EU)(ds:List D)(a:Addr)(cl:List (Str×Addr))(pm D0:Value)(c':Addr):Prop where
 fn:H a=some (.frz (PySem.W.kla_obj "<lambda>" L.qual L.params L.body L.scope cl pm c' D0) (.ext λ_=>True))
 code:∃oc vs t,H c'=some (.frz oc (.ext λ_=>True))/\oc.data=.fields vs/\vs[1]?=some (.str L.qual t)
 len:ds.length=L.caps.length
 cell:∀y c,cl.lookup y=some c->∃z o,H c=some (.frz o (.ext λ_=>True))/\o.data=.cell z
 cap:∀(i:Nat) y d,L.caps[i]?=some y->ds[i]?=some d->∃c o u vy,L.scope.names.lookup y=some .free/\cl.lookup y=some c/\H c=some (.frz o (.ext λ_=>True))/\o.data=.cell (some u)/\aW vy u/\al K H d vy
 sc:wk L.x L.caps L.scope cl
def ao (K:AF)(m:Tf)(H:Hp):R->V->Prop
 |.v d,v=>al K H d v
 |.p n,v=>∃a,v=.ref a/\m[n]?=some a
 |.s b xs,v=>∃a o,v=.ref a/\H a=some (.frz o (.ext λ_=>True))/\HS.Ie b o xs
 |.x c,v=>∃a vs C,v=.ref a/\H a=some (.frz {cls:=.ref C,dict:=none,data:=.fields vs,slots:=#[]} (.ext λ_=>True))/\PySem.W.nsIn K mainGlobals c=some (some (.ref C))
 |.f L ds,v=>∃a cl pm D0 c',v=.ref a/\yr K H L ds a cl pm D0 c'
def aV (K:AF)(m:Tf)(H:Hp):A0 R->A0 V->Prop
 |[],vs=>vs=[]
 |x::xs,vs=>∃v r,vs=v::r/\ao K m H x v/\aV K m H xs r
def gK (K:AF)(m:Tf)(H:Hp):bX->A6->Prop
 |.lst xs,a=>∃vs,H a=some (.lst vs)/\RelDs K H xs vs
 |.fz xs,a=>∃o vs,H a=some (.frz o (.lst vs))/\RelDs K H xs vs
 |.dct kvs,a=>∃es,H a=some (.dK es)/\es.map (·.1)=kvs.map (·.1)/\RelDs K H (kvs.map (·.2)) (es.map (·.2))
 |.fzd kvs,a=>∃o es,H a=some (.frz o (.dK es))/\es.map (·.1)=kvs.map (·.1)/\RelDs K H (kvs.map (·.2)) (es.map (·.2))
 |.dr kvs,a=>∃es,H a=some (.dK es)/\es.map (·.1)=kvs.map (·.1)/\aV K m H (kvs.map (·.2)) (es.map (·.2))
 |.lr xs,a=>∃vs,H a=some (.lst vs)/\aV K m H xs vs
 |.tb P q,a=>a=P/\∃ps,H P=some (.tbl ps)/\jI H q ps
 |.ob c fs,a=>∃C dx es,PySem.W.nsIn K mainGlobals c=some (some (.ref C))/\H a=some (.ins C dx es)/\es.map (·.1)=fs.map (·.1)/\aV K m H (fs.map (·.2)) (es.map (·.2))
 |.tr xs,a=>∃vs,H a=some (.tup vs)/\aV K m H xs vs
 |.fzr kvs,a=>∃o es,H a=some (.frz o (.dK es))/\es.map (·.1)=kvs.map (·.1)/\aV K m H (kvs.map (·.2)) (es.map (·.2))
 |.dtr kvs,a=>∃es,H a=some (.dT es)/\es.map (·.1)=kvs.map (λp=>p.1.map Sum.inl)/\aV K m H (kvs.map (·.2)) (es.map (·.2))
 |.dt kvs,a=>∃es,H a=some (.dT es)/\es.map (·.1)=kvs.map (λp=>p.1.map Sum.inl)/\RelDs K H (kvs.map (·.2)) (es.map (·.2))
 |.fzt kvs,a=>∃o es,H a=some (.frz o (.dT es))/\es.map (·.1)=kvs.map (λp=>p.1.map Sum.inl)/\RelDs K H (kvs.map (·.2)) (es.map (·.2))
 |.hk kvs,a=>∃o es,H a=some (.frz o (.frz o (.dK es)))/\es.map (·.1)=kvs.map (·.1)/\RelDs K H (kvs.map (·.2)) (es.map (·.2))
structure aS (K:AF)(m:Tf)(H:Hp)(U:ac):Prop where
 nd:m.Nodup
 len:m.length=U.length
 cell:∀(i:Nat) c a,U[i]?=some c->m[i]?=some a->gK K m H c a
structure TF (H H':Hp):Prop where
 tup:∀a xs,H a=some (.tup xs)->H' a=some (.tup xs)
 frz:∀a o u,H a=some (.frz o u)->H' a=some (.frz o u)
structure cU (m:Tf)(H:Hp)(m':Tf)(H':Hp):Prop where
 ext:∃e,m'=m++e/\∀a∈e,H a=none
 tf:TF H H'
 keep:∀a o,H a=some o->a∉m->H' a=some o
 live:∀a,H' a=none->H a=none
def c9 (K:AF)(m:Tf)(H:Hp)(O:Lo)(Y:St):Prop :=
 O.length=Y.length/\∀(i:Nat) d,O[i]?=some (some d)->∃v,Y[i]?=some (some v)/\ao K m H d v
section
variable {K:AF}{H H' H1 H2:Hp}
def TF.refl:TF H H:={λ_ _ h=>h,λ_ _ _ h=>h}
def TF.trans (a:TF H H1)(b:TF H1 H2):TF H H2:={λ_ _ h=>b.tup _ _ (a.tup _ _ h),λ_ _ _ h=>b.frz _ _ _ (a.frz _ _ _ h)}
def TF.of (h:∀a o,H a=some o->H' a=some o):TF H H':={λ_ _ e=>h _ _ e,λ_ _ _ e=>h _ _ e}
def gP.tf {a vs}(t:TF H H')(h:gP K H a vs):gP K H' a vs:=by
 rcases h with(h|⟨o,h⟩)|h
 ·exact .inl (.inl (t.tup _ _ h))
 ·exact .inl (.inr {o,t.frz _ _ _ h})
 ·exact .inr h
def Cn.tf {a vs}(t:TF H H')(h:Cn K H a vs):Cn K H' a vs:=by
 rcases h with⟨o,h⟩|h
 ·exact .inl {o,t.frz _ _ _ h}
 ·exact .inr h
def Cn.sq {a vs}(h:Cn K H a vs):io K H a vs:=by
 rcases h with⟨o,h⟩|(h|⟨_,h⟩)|h
 ·exact .inl (.inr {o,h})
 ·cases h
 ·cases h
 ·exact .inr h
mutual
theorem al.tf (t:TF H H'):∀(d:D) (v:V),al K H d v->al K H' d v
 |.non,_,h=>by simpa only[al] using h
 |.bl _,_,h=>by simpa only[al] using h
 |.int _,_,h=>by simpa only[al] using h
 |.str _,_,h=>by simpa only[al] using h
 |.tup xs,v,h=>by rwa[al] at h ⊢;let⟨a,vs,e,s,r⟩:=h;exact{a,vs,e,gP.tf t s,RelDs.tf t xs vs r}
 |.fl xs,v,h=>by rwa[al] at h ⊢;let⟨a,vs,e,s,r⟩:=h;exact{a,vs,e,s.tf t,RelDs.tf t xs vs r}
 |.fd ks ds,v,h=>by rwa[al] at h ⊢;let⟨a,o,es,e,s,k,r⟩:=h;exact{a,o,es,e,t.frz _ _ _ s,k,RelDs.tf t ds _ r}
 |.key ks,v,h=>by rwa[al] at h ⊢;let⟨a,e,q⟩:=h;exact{a,e,t.tup _ _ q}
theorem RelDs.tf (t:TF H H'):∀(ds:A0 D) (vs:A0 V),RelDs K H ds vs->RelDs K H' ds vs
 |[],_,h=>by simpa only[RelDs] using h
 |d::ds,vs,h=>by rwa[RelDs] at h ⊢;let⟨v,r,e,h1,h2⟩:=h;exact{v,r,e,al.tf t d v h1,RelDs.tf t ds r h2}
end
def yr.tf {L ds a cl pm D0 c'}(t:TF H H')(h:yr K H L ds a cl pm D0 c'):yr K H' L ds a cl pm D0 c':=by
 refine{t.frz _ _ _ h.fn,?_,h.len,λy c e=>?_,λi y d e1 e2=>?_,h.sc}
 ·let⟨oc,vs,u,e,r⟩:=h.code;exact{oc,vs,u,t.frz _ _ _ e,r}
 ·let⟨z,o,q,r⟩:=h.cell y c e;exact{z,o,t.frz _ _ _ q,r}
 ·let⟨c,o,u,vy,k1,k2,k3,k4,k5,k6⟩:=h.cap i y d e1 e2;exact{c,o,u,vy,k1,k2,t.frz _ _ _ k3,k4,k5,al.tf t _ _ k6}
def cU.refl:cU m H m H:={{[],by simp},.refl,λ_ _ h _=>h,λ_ h=>h}
def cU.trans (x:cU m H m1 H1)(y:cU m1 H1 m2 H2):cU m H m2 H2:=by
 let⟨e1,rfl,f1⟩:=x.ext;let⟨e2,rfl,f2⟩:=y.ext;refine{{e1++e2,by simp,λa ha=>?_},x.tf.trans y.tf,λa o h n=>?_,λa h=>x.live a (y.live a h)}
 ·rcases CR.mp ha with h|h
  ·exact f1 a h
  ·exact x.live a (f2 a h)
 ·refine y.keep a o (x.keep a o h n) λz=>?_;rcases CR.mp z with z|z
  ·exact n z
  ·rw[f1 a z] at h;cases h
theorem ao.ext (x:cU m H m' H'){d:R}{v:V}(h:ao K m H d v):ao K m' H' d v:=by
 cases d with
 |v d=>exact al.tf x.tf d v h
 |p n=>
  let⟨a,e,q⟩:=h;let⟨e1,rfl,_⟩:=x.ext;refine{a,e,?_};let⟨hl,hq⟩:=B2.mp q;rw[B3 hl];exact q
 |s b xs=>
  let⟨a,o,e,q,r⟩:=h;exact{a,o,e,x.tf.frz _ _ _ q,r}
 |x c=>
  let⟨a,vs,C,e,q,r⟩:=h;exact{a,vs,C,e,x.tf.frz _ _ _ q,r}
 |f L ds=>
  let⟨a,cl,pm,D0,c',e,q⟩:=h;exact{a,cl,pm,D0,c',e,q.tf x.tf}
theorem aV.ext (x:cU m H m' H'):∀{ds:A0 R} {vs:A0 V},aV K m H ds vs->aV K m' H' ds vs
 |[],_,h=>h
 |_::_,_,⟨v,r,e,h1,h2⟩=>{v,r,e,h1.ext x,aV.ext x h2}
def c9.ext (x:cU m H m' H')(h:c9 K m H O Y):c9 K m' H' O Y :=
 {h.1,λi d e=>let ⟨v,q,r⟩:=h.2 i d e;{v,q,r.ext x}}
theorem ao.tfm (t:TF H H')(y:∃e,m'=m++e){d:R}{v:V}(h:ao K m H d v):ao K m' H' d v:=by
 cases d with
 |v d=>exact al.tf t d v h
 |p n=>
  let⟨a,e,q⟩:=h;let⟨e1,rfl⟩:=y;refine{a,e,?_};let⟨hl,hq⟩:=B2.mp q;rw[B3 hl];exact q
 |s b xs=>
  let⟨a,o,e,q,r⟩:=h;exact{a,o,e,t.frz _ _ _ q,r}
 |x c=>
  let⟨a,vs,C,e,q,r⟩:=h;exact{a,vs,C,e,t.frz _ _ _ q,r}
 |f L ds=>
  let⟨a,cl,pm,D0,c',e,q⟩:=h;exact{a,cl,pm,D0,c',e,q.tf t}
theorem aV.tfm (t:TF H H')(y:∃e,m'=m++e):∀{ds:A0 R} {vs:A0 V},aV K m H ds vs->aV K m' H' ds vs
 |[],_,h=>h
 |_::_,_,⟨v,r,e,h1,h2⟩=>{v,r,e,h1.tfm t y,aV.tfm t y h2}
theorem gK.same (s:∀a o,H a=some o->H' a=some o)(y:∃e,m'=m++e){c:bX}{a:A6}(h:gK K m H c a):gK K m' H' c a:=by
 cases c with
 |lst xs=>let⟨vs,e,r⟩:=h;exact{vs,s _ _ e,RelDs.tf (.of s) _ _ r}
 |fz xs=>let⟨o,vs,e,r⟩:=h;exact{o,vs,s _ _ e,RelDs.tf (.of s) _ _ r}
 |dct kvs=>let⟨es,e,k,r⟩:=h;exact{es,s _ _ e,k,RelDs.tf (.of s) _ _ r}
 |fzd kvs=>let⟨o,es,e,k,r⟩:=h;exact{o,es,s _ _ e,k,RelDs.tf (.of s) _ _ r}
 |fzt kvs=>let⟨o,es,e,k,r⟩:=h;exact{o,es,s _ _ e,k,RelDs.tf (.of s) _ _ r}
 |hk kvs=>let⟨o,es,e,k,r⟩:=h;exact{o,es,s _ _ e,k,RelDs.tf (.of s) _ _ r}
 |dr kvs=>let⟨es,e,k,r⟩:=h;exact{es,s _ _ e,k,aV.tfm (.of s) y r}
 |lr xs=>let⟨vs,e,r⟩:=h;exact{vs,s _ _ e,aV.tfm (.of s) y r}
 |dt kvs=>let⟨es,e,k,r⟩:=h;exact{es,s _ _ e,k,RelDs.tf (.of s) _ _ r}
 |tb P q=>let⟨e,ps,k,r⟩:=h;exact{e,ps,s _ _ k,r.mono λb o u g=>s _ _ g}
 |ob c fs=>let⟨C,dx,es,n,e,k,r⟩:=h;exact{C,dx,es,n,s _ _ e,k,aV.tfm (.of s) y r}
 |tr xs=>let⟨vs,e,r⟩:=h;exact{vs,s _ _ e,aV.tfm (.of s) y r}
 |fzr kvs=>let⟨o,es,e,k,r⟩:=h;exact{o,es,s _ _ e,k,aV.tfm (.of s) y r}
 |dtr kvs=>let⟨es,e,k,r⟩:=h;exact{es,s _ _ e,k,aV.tfm (.of s) y r}
theorem gK.some {c:bX}{a:A6}(h:gK K m H c a):∃o,H a=some o:=by
 cases c with
 |lst xs=>let⟨vs,e,r⟩:=h;exact{_,e}
 |fz xs=>let⟨o,vs,e,r⟩:=h;exact{_,e}
 |dct kvs=>let⟨es,e,k,r⟩:=h;exact{_,e}
 |fzd kvs=>let⟨o,es,e,k,r⟩:=h;exact{_,e}
 |fzt kvs=>let⟨o,es,e,k,r⟩:=h;exact{_,e}
 |hk kvs=>let⟨o,es,e,k,r⟩:=h;exact{_,e}
 |dr kvs=>let⟨es,e,k,r⟩:=h;exact{_,e}
 |lr xs=>let⟨vs,e,r⟩:=h;exact{_,e}
 |dt kvs=>let⟨es,e,k,r⟩:=h;exact{_,e}
 |tb P q=>let⟨e,ps,k,r⟩:=h;exact{_,e ▸ k}
 |ob c fs=>let⟨C,dx,es,n,e,k,r⟩:=h;exact{_,e}
 |tr xs=>let⟨vs,e,r⟩:=h;exact{_,e}
 |fzr kvs=>let⟨o,es,e,k,r⟩:=h;exact{_,e}
 |dtr kvs=>let⟨es,e,k,r⟩:=h;exact{_,e}
def aS.same (h:aS K m H U)(s:∀a o,H a=some o->H' a=some o):aS K m H' U :=
 {h.nd,h.len,λi c a e1 e2=>(h.cell i c a e1 e2).same s {[],by simp}}
def aS.mem (h:aS K m H U){a:A6}(ha:a∈m):∃o,H a=some o:=by
 let⟨i,hi,e⟩:=zbf ha;have hi':i<U.length:=by rw[←h.len];exact hi
 exact(h.cell i U[i] a (D7 hi') (by rw[←e];exact D7 hi)).some
def aS.fresh (h:aS K m H U){p:A6}(hp:H p=none):p∉m:=λz=>by let⟨o,e⟩:=h.mem z;rw[hp] at e;cases e
def aS.nil:aS K [] H []:={.nil,rfl,λi c a e=>by simp at e}
def b9 {p:A6}{o:HO}(hp:H p=none):∀a u,H a=some u->upd H p o a=some u:=λa u e=>by unfold upd;rw[AA (λz=>by rw[z,hp] at e;cases e)];exact e
def lm {p:A6}{o:HO}{a:A6}(h:upd H p o a=none):H a=none:=by
 unfold upd at h;split at h
 ·cases h
 ·exact h
def cV {p:A6}{o:HO}:upd H p o p=some o:=by unfold upd;rw[A8 rfl]
def cU.new {p:A6}{o:HO}(hp:H p=none):cU m H m (upd H p o) :=
 {{[],by simp},.of (b9 hp),λa u e _=>b9 hp a u e,λ_ h=>lm h}
def cU.newH {p:A6}{o:HO}(hp:H p=none):cU m H (m++[p]) (upd H p o) :=
 {{[p],rfl,λa h=>by rw[BA.mp h];exact hp},.of (b9 hp),λa u e _=>b9 hp a u e,λ_ h=>lm h}
def aS.newH {p:A6}{o:HO}{c:bX}(h:aS K m H U)(hp:H p=none)(hc:gK K (m++[p]) (upd H p o) c p):aS K (m++[p]) (upd H p o) (U++[c]):=by
 refine{?_,by simp[h.len],λi c' a e1 e2=>?_}
 ·refine zbK.mpr {h.nd,by simp,λa ha b hb=>?_};rw[BA.mp hb];rintro rfl;exact h.fresh hp ha
 ·by_cases hi:i<m.length
  ·rw[B3 hi] at e2;rw[B3 (by rw[←h.len];exact hi)] at e1;exact(h.cell i c' a e1 e2).same (b9 hp) {[p],rfl}
  ·rw[Bi ∅] at e2;rw[Bi (by have:=h.len;omega)] at e1;have hl:=h.len;have:i-m.length=0:=by
    cases q:i-m.length with
    |zero=>rfl
    |succ k=>rw[q] at e2;simp at e2
   have e3:i-U.length=0:=∅;rw[this] at e2;rw[e3] at e1;simp at e1 e2;subst e1 e2;exact hc
def cU.put {a:A6}{o o':HO}(ha:a∈m)(e:H a=some o)(ho:∀xs,o≠.tup xs)(hf:∀x u,o≠.frz x u):cU m H m (upd H a o'):=by
 have ne:∀b u,H b=some u->u≠o->b≠a:=λb u q n z=>by rw[z,e] at q;exact n (Option.some.inj q).symm
 refine{{[],by simp},{λb xs q=>?_,λb x u q=>?_},λb u q n=>?_,λb h=>lm h}
 ·unfold upd;rw[AA (ne b _ q λz=>ho xs z.symm)];exact q
 ·unfold upd;rw[AA (ne b _ q λz=>hf x u z.symm)];exact q
 ·unfold upd;rw[AA (λz:b=a=>n (by rw[z];exact ha))];exact q
def aS.put {n:Nat}{a:A6}{o o':HO}{c:bX}(h:aS K m H U)(hn:m[n]?=some a)(e:H a=some o)(ho:∀xs,o≠.tup xs)(hf:∀x u,o≠.frz x u)(hc:gK K m (upd H a o') c a):aS K m (upd H a o') (U.set n c):=by
 have ha:a∈m:=Bd hn;have x:cU m H m (upd H a o'):=.put ha e ho hf;refine{h.nd,by simp[h.len],λi c' b e1 e2=>?_};by_cases hi:i=n
 ·subst hi;rw[hn] at e2;cases e2;rw[Cf (by have:=(B2.mp hn).1;have:=h.len;omega)] at e1;cases e1;exact hc
 ·rw[za0 (Ne.symm hi)] at e1;have nb:b≠a:=by rintro rfl;let⟨h1,q1⟩:=B2.mp e2;let⟨h2,q2⟩:=B2.mp hn;exact hi ((List.getElem_inj h.nd).mp (q1.trans q2.symm))
  have at':∀u,H b=some u->upd H a o' b=some u:=λu q=>by unfold upd;rw[AA nb];exact q
  have z:=h.cell i c' b e1 e2
  cases c' with
  |lst xs=>let⟨vs,e,r⟩:=z;exact{vs,at' _ e,RelDs.tf x.tf _ _ r}
  |fz xs=>let⟨o,vs,e,r⟩:=z;exact{o,vs,at' _ e,RelDs.tf x.tf _ _ r}
  |dct kvs=>let⟨es,e,k,r⟩:=z;exact{es,at' _ e,k,RelDs.tf x.tf _ _ r}
  |fzd kvs=>let⟨o,es,e,k,r⟩:=z;exact{o,es,at' _ e,k,RelDs.tf x.tf _ _ r}
  |fzt kvs=>let⟨o,es,e,k,r⟩:=z;exact{o,es,at' _ e,k,RelDs.tf x.tf _ _ r}
  |hk kvs=>let⟨o,es,e,k,r⟩:=z;exact{o,es,at' _ e,k,RelDs.tf x.tf _ _ r}
  |dr kvs=>let⟨es,e,k,r⟩:=z;exact{es,at' _ e,k,aV.tfm x.tf {[],by simp} r}
  |lr xs=>let⟨vs,e,r⟩:=z;exact{vs,at' _ e,aV.tfm x.tf {[],by simp} r}
  |dt kvs=>let⟨es,e,k,r⟩:=z;exact{es,at' _ e,k,RelDs.tf x.tf _ _ r}
  |tb P q=>let⟨e,ps,k,r⟩:=z;subst e;exact{rfl,ps,at' _ k,r.mono x.tf.frz}
  |ob c fs=>let⟨C,dx,es,n,e,k,r⟩:=z;exact{C,dx,es,n,at' _ e,k,aV.tfm x.tf {[],by simp} r}
  |tr xs=>let⟨vs,e,r⟩:=z;exact{vs,at' _ e,aV.tfm x.tf {[],by simp} r}
  |fzr kvs=>let⟨o,es,e,k,r⟩:=z;exact{o,es,at' _ e,k,aV.tfm x.tf {[],by simp} r}
  |dtr kvs=>let⟨es,e,k,r⟩:=z;exact{es,at' _ e,k,aV.tfm x.tf {[],by simp} r}
end
def aA (K:AF)(f:FE):TE:=λY H Q=>∃O U m d U',c9 K m H O Y/\aS K m H U/\f O U=some (d,U') /\
 ∀v H' m',cU m H m' H'->aS K m' H' U'->ao K m' H' d v->Q v H'
def fm (K:AF)(f:FT):TT:=λY H Q=>∃O U m b U',c9 K m H O Y/\aS K m H U/\f O U=some (b,U') /\
 ∀H' m',cU m H m' H'->aS K m' H' U'->Q b H'
def gF (K:AF)(f:FA):TA:=λY H Q=>∃O U m ds U',c9 K m H O Y/\aS K m H U/\f O U=some (ds,U') /\
 ∀vs H' m',cU m H m' H'->aS K m' H' U'->aV K m' H' ds vs->Q vs H'
def dZ.of (K:AF)(m:Tf)(H:Hp)(D:dZ):lc->Prop
 |.nx O U=>∀Y H' m',cU m H m' H'->aS K m' H' U->c9 K m' H' O Y->D.nx Y H'
 |.bk O U=>∀Y H' m',cU m H m' H'->aS K m' H' U->c9 K m' H' O Y->D.bk Y H'
 |.ct O U=>∀Y H' m',cU m H m' H'->aS K m' H' U->c9 K m' H' O Y->D.ct Y H'
 |.rt d U=>∀v H' m',cU m H m' H'->aS K m' H' U->ao K m' H' d v->D.rt v H'
def dI (K:AF)(f:FS):TS:=λD Y H=>∃O U m out,c9 K m H O Y/\aS K m H U/\f O U=some out/\dZ.of K m H D out
noncomputable def ag (i:Nat):FE:=λO U=>match O[i]? with|some (some d)=>some (d,U)|_=>none
noncomputable def fK (d:D):FE:=λ_ U=>some (.v d,U)
noncomputable def aK (g:R->R->ac->Jo (R×ac))(fa fb:FE):FE:=λO U=>(fa O U).bind λa=>(fb O a.2).bind λb=>g a.1 b.1 b.2
noncomputable def d9 (g:R->ac->Jo (R×ac))(fa:FE):FE:=λO U=>(fa O U).bind λa=>g a.1 a.2
def me (K:AF)(g:R->R->ac->Jo (R×ac))(r:R2):Prop :=
 ∀m H U x y d U' v u Q,aS K m H U->ao K m H x v->ao K m H y u->g x y U=some (d,U')->(∀w H' m',cU m H m' H'->aS K m' H' U'->ao K m' H' d w->Q w H')->r v u H Q
def Jr (K:AF)(g:R->ac->Jo (R×ac))(r:V->Hp->VK->Prop):Prop :=
 ∀m H U x d U' v Q,aS K m H U->ao K m H x v->g x U=some (d,U')->(∀w H' m',cU m H m' H'->aS K m' H' U'->ao K m' H' d w->Q w H')->r v H Q
def yu (K:AF)(g:A0 R->ac->Jo (R×ac))(r:A0 V->Hp->VK->Prop):Prop :=
 ∀m H U xs d U' vs Q,aS K m H U->aV K m H xs vs->g xs U=some (d,U')->(∀w H' m',cU m H m' H'->aS K m' H' U'->ao K m' H' d w->Q w H')->r vs H Q
noncomputable def aj:FA:=λ_ U=>some ([],U)
noncomputable def ae (fa:FE)(fr:FA):FA:=λO U=>(fa O U).bind λa=>(fr O a.2).bind λr=>some (a.1::r.1,r.2)
noncomputable def eV (g:A0 R->ac->Jo (R×ac))(fa:FA):FE:=λO U=>(fa O U).bind λa=>g a.1 a.2
section
variable {K:AF}{Y:St}{H:Hp}{Q:VK}
def JAj {i:Nat}(h:aA K (ag i) Y H Q):C4 i Y H Q:=by
 let⟨O,U,m,d,U',hl,hs,e,k⟩:=h;unfold ag at e;split at e
 ·rename_i d' q
  cases e;let⟨v,q1,q2⟩:=hl.2 i _ q;exact{v,q1,k v H m .refl hs q2}
 ·cases e
def ju {d:D}{v:V}(hv:∀m H,ao K m H (.v d) v)(h:aA K (fK d) Y H Q):tC v Y H Q:=by let⟨O,U,m,d',U',hl,hs,e,k⟩:=h;cases e;exact k v H m .refl hs (hv _ _)
def gE {g r fa fb}(hg:me K g r)(h:aA K (aK g fa fb) Y H Q):Al r (aA K fa) (aA K fb) Y H Q:=by let⟨O,U,m,d,U',hl,hs,e,k⟩:=h;let⟨⟨x,U1⟩,e1,e⟩:=AM.mp e;let⟨⟨y,U2⟩,e2,e⟩:=AM.mp e;refine{O,U,m,x,U1,hl,hs,e1,λv H1 m1 x1 s1 r1=>?_};refine{O,U1,m1,y,U2,hl.ext x1,s1,e2,λu H2 m2 x2 s2 r2=>?_};exact hg m2 H2 U2 x y d U' v u Q s2 (r1.ext x2) r2 e λw H3 m3 x3 s3 r3=>k w H3 m3 ((x1.trans x2).trans x3) s3 r3
def JD3 {g r fa}(hg:Jr K g r)(h:aA K (d9 g fa) Y H Q):Iz r (aA K fa) Y H Q:=by let⟨O,U,m,d,U',hl,hs,e,k⟩:=h;let⟨⟨x,U1⟩,e1,e⟩:=AM.mp e;refine{O,U,m,x,U1,hl,hs,e1,λv H1 m1 x1 s1 r1=>?_};exact hg m1 H1 U1 x d U' v Q s1 r1 e λw H3 m3 x3 s3 r3=>k w H3 m3 (x1.trans x3) s3 r3
def uS {Q:A0 V->Hp->Prop}(h:gF K aj Y H Q):sr Y H Q:=by let⟨O,U,m,ds,U',hl,hs,e,k⟩:=h;cases e;exact k [] H m .refl hs rfl
def xc {fa fr}{Q:A0 V->Hp->Prop}(h:gF K (ae fa fr) Y H Q):mT (aA K fa) (gF K fr) Y H Q:=by let⟨O,U,m,ds,U',hl,hs,e,k⟩:=h;let⟨⟨x,U1⟩,e1,e⟩:=AM.mp e;let⟨⟨xs,U2⟩,e2,e⟩:=AM.mp e;cases e;refine{O,U,m,x,U1,hl,hs,e1,λv H1 m1 x1 s1 r1=>?_};refine{O,U1,m1,xs,U2,hl.ext x1,s1,e2,λvs H2 m2 x2 s2 r2=>?_};exact k (v::vs) H2 m2 (x1.trans x2) s2 {v,vs,rfl,r1.ext x2,r2}
def kA {g r fa}(hg:yu K g r)(h:aA K (eV g fa) Y H Q):E6 r (gF K fa) Y H Q:=by let⟨O,U,m,d,U',hl,hs,e,k⟩:=h;let⟨⟨xs,U1⟩,e1,e⟩:=AM.mp e;refine{O,U,m,xs,U1,hl,hs,e1,λvs H1 m1 x1 s1 r1=>?_};exact hg m1 H1 U1 xs d U' vs Q s1 r1 e λw H3 m3 x3 s3 r3=>k w H3 m3 (x1.trans x3) s3 r3
end
noncomputable def fB (fa:FE):FT:=λO U=>(fa O U).bind λa=>match a.1 with|.v (.bl b)=>some (b,a.2)|_=>none
noncomputable def uh:R->ac->Jo A9
 |.v .non,_=>some false
 |.v (.bl b),_=>some b
 |.v (.int i),_=>some (i != 0)
 |.v (.str x),_=>if x.length<=sizeLine then some ((x.length:Int) != 0) else none
 |.v (.tup xs),_=>some (!xs.isEmpty)
 |.v (.fl xs),_=>some (!xs.isEmpty)
 |.v (.fd _ _),_=>none
 |.v (.key _),_=>none
 |.s _ _,_=>none
 |.x _,_=>none
 |.f _ _,_=>none
 |.p n,U=>match U[n]? with|some (.lst xs)=>some (!xs.isEmpty)|some (.fz xs)=>some (!xs.isEmpty)|some (.dct kvs)=>some (!kvs.isEmpty)|_=>none
noncomputable def eU (fa:FE):FT:=λO U=>(fa O U).bind λa=>(uh a.1 a.2).bind λb=>some (b,a.2)
noncomputable def gR (t u:FT):FT:=λO U=>(t O U).bind λc=>if c.1=true then u O c.2 else some (false,c.2)
noncomputable def my (t u:FT):FT:=λO U=>(t O U).bind λc=>if c.1=true then some (true,c.2) else u O c.2
noncomputable def fW (t:FT):FT:=λO U=>(t O U).bind λc=>some (!c.1,c.2)
noncomputable def qH (fa fb:FE):FE:=λO U=>(fa O U).bind λa=>match a.1 with|.v (.bl c)=>if c=true then fb O a.2 else some (.v (.bl false),a.2)|_=>none
noncomputable def yb (fa:FE):FE:=λO U=>(fa O U).bind λa=>match a.1 with|.v (.bl c)=>some (.v (.bl (!c)),a.2)|_=>none
noncomputable def Fm (t:FT)(fa fb:FE):FE:=λO U=>(t O U).bind λc=>if c.1=true then fa O c.2 else fb O c.2
theorem RelDs.length {K:AF}{H:Hp}:∀{ds:A0 D} {vs:A0 V},RelDs K H ds vs->ds.length=vs.length
 |[],_,h=>by rwa[RelDs] at h;subst h;rfl
 |_::_,_,h=>by rwa[RelDs] at h;let⟨v,r,rfl,_,h2⟩:=h;simp[RelDs.length h2]
def RelDs.empty {K:AF}{H:Hp}{ds:A0 D}{vs:A0 V}(h:RelDs K H ds vs):ds.isEmpty=vs.isEmpty:=by have:=h.length;cases ds <;> cases vs <;> simp_all
section
variable {K:AF}{Y:St}{H:Hp}{Q:VK}{B:A9->Hp->Prop}
def Gh {fa}(h:fm K (fB fa) Y H B):tB (aA K fa) Y H B:=by
 let⟨O,U,m,d,U',hl,hs,e,k⟩:=h;let⟨⟨x,U1⟩,e1,e⟩:=AM.mp e;split at e
 ·rename_i b q
  cases e;subst q;exact{O,U,m,_,U1,hl,hs,e1,λv H1 m1 x1 s1 r1=>{_,by simpa only[ao,al] using r1,k H1 m1 x1 s1}}
 ·cases e
def rg {fa}(h:fm K (fB fa) Y H B):zc (aA K fa) Y H B:=Gh h
theorem p6 {m:Tf}{U:ac}{x:R}{b:A9}{v:V}(s:aS K m H U)(r:ao K m H x v)(e:uh x U=some b):yo K v H b:=by
 cases x with
 |v d=>
  cases d with
  |non=>cases e;cases r;rfl
  |bl c=>cases e;rwa[ao,al] at r;subst r;rfl
  |int i=>cases e;rwa[ao,al] at r;subst r;rfl
  |str x=>
   rwa[ao,al] at r;subst r
   delta uh at e
   dsimp only at e;split at e
   ·rename_i z;cases e;exact{z,rfl}
   ·cases e
  |tup xs=>
   cases e;rwa[ao,al] at r;let⟨a,vs,rfl,q,r⟩:=r;exact .inr (.inl {vs,q,by rw[r.empty]})
  |fl xs=>
   cases e;rwa[ao,al] at r;let⟨a,vs,rfl,q,r⟩:=r;exact .inl {vs,q.sq,by rw[r.empty]}
  |fd ks ds=>cases e
  |key ks=>cases e
 |s b xs=>cases e
 |x _=>cases e
 |f _ _=>cases e
 |p n=>
  let⟨a,rfl,ha⟩:=r
  delta uh at e
  dsimp only at e;split at e
  ·rename_i xs q
   cases e;let⟨vs,e,r⟩:=s.cell n _ a q ha;exact .inl {vs,.inl (.inl e),by rw[r.empty]}
  ·rename_i xs q
   cases e;let⟨o,vs,e,r⟩:=s.cell n _ a q ha;exact .inl {vs,.inl (.inr {o,e}),by rw[r.empty]}
  ·rename_i kvs q
   cases e;let⟨es,e,k,r⟩:=s.cell n _ a q ha;refine .inr (.inr {es,e,?_});have:=AL List.length k;cases es <;> cases kvs <;> simp_all
  ·cases e
def AC {fa}(h:fm K (eU fa) Y H B):(λY H (Q:A9->Hp->Prop)=>aA K fa Y H λx H1=>∃k,yo K x H1 k/\Q k H1) Y H B:=by let⟨O,U,m,d,U',hl,hs,e,k⟩:=h;let⟨⟨x,U1⟩,e1,e⟩:=AM.mp e;let⟨b,e2,e⟩:=AM.mp e;cases e;exact{O,U,m,x,_,hl,hs,e1,λv H1 m1 x1 s1 r1=>{_,p6 s1 r1 e2,k H1 m1 x1 s1}}
theorem wU {t u}(h:fm K (gR t u) Y H B):Dd (fm K t) (fm K u) Y H B:=by
 let⟨O,U,m,d,U',hl,hs,e,k⟩:=h;let⟨⟨c,U1⟩,e1,e⟩:=AM.mp e;refine{O,U,m,c,U1,hl,hs,e1,λH1 m1 x1 s1=>?_}
 cases c with
 |true=>exact{O,U1,m1,d,U',hl.ext x1,s1,e,λH2 m2 x2 s2=>k H2 m2 (x1.trans x2) s2}
 |false=>cases e;exact k H1 m1 x1 s1
theorem JAl {t u}(h:fm K (my t u) Y H B):IA (fm K t) (fm K u) Y H B:=by
 let⟨O,U,m,d,U',hl,hs,e,k⟩:=h;let⟨⟨c,U1⟩,e1,e⟩:=AM.mp e;refine{O,U,m,c,U1,hl,hs,e1,λH1 m1 x1 s1=>?_}
 cases c with
 |false=>exact{O,U1,m1,d,U',hl.ext x1,s1,e,λH2 m2 x2 s2=>k H2 m2 (x1.trans x2) s2}
 |true=>cases e;exact k H1 m1 x1 s1
def wT {t}(h:fm K (fW t) Y H B):C8 (fm K t) Y H B:=by let⟨O,U,m,d,U',hl,hs,e,k⟩:=h;let⟨⟨c,U1⟩,e1,e⟩:=AM.mp e;cases e;exact{O,U,m,c,U1,hl,hs,e1,λH1 m1 x1 s1=>k H1 m1 x1 s1}
def JA2 {fa fb}(h:aA K (qH fa fb) Y H Q):zm (aA K fa) (aA K fb) Y H Q:=by
 let⟨O,U,m,d,U',hl,hs,e,k⟩:=h;let⟨⟨x,U1⟩,e1,e⟩:=AM.mp e;split at e
 ·rename_i c q;subst q;refine{O,U,m,_,U1,hl,hs,e1,λv H1 m1 x1 s1 r1=>{c,by simpa only[ao,al] using r1,?_}}
  cases c with
  |true=>exact{O,U1,m1,d,U',hl.ext x1,s1,e,λw H2 m2 x2 s2 r2=>k w H2 m2 (x1.trans x2) s2 r2}
  |false=>cases e;exact k _ H1 m1 x1 s1 (by rwa[ao,al])
 ·cases e
def JAr {fa}(h:aA K (yb fa) Y H Q):ze (aA K fa) Y H Q:=by
 let⟨O,U,m,d,U',hl,hs,e,k⟩:=h;let⟨⟨x,U1⟩,e1,e⟩:=AM.mp e;split at e
 ·rename_i c q
  cases e;subst q;exact{O,U,m,_,U1,hl,hs,e1,λv H1 m1 x1 s1 r1=>{c,by simpa only[ao,al] using r1,k _ H1 m1 x1 s1 (by rwa[ao,al])}}
 ·cases e
theorem Dn {t fa fb}(h:aA K (Fm t fa fb) Y H Q):IB (fm K t) (aA K fa) (aA K fb) Y H Q:=by
 let⟨O,U,m,d,U',hl,hs,e,k⟩:=h;let⟨⟨c,U1⟩,e1,e⟩:=AM.mp e;refine{O,U,m,c,U1,hl,hs,e1,λH1 m1 x1 s1=>?_}
 cases c with
 |true=>exact{O,U1,m1,d,U',hl.ext x1,s1,e,λw H2 m2 x2 s2 r2=>k w H2 m2 (x1.trans x2) s2 r2}
 |false=>exact{O,U1,m1,d,U',hl.ext x1,s1,e,λw H2 m2 x2 s2 r2=>k w H2 m2 (x1.trans x2) s2 r2}
end
noncomputable def vals:A0 R->Jo (A0 D)
 |[]=>some []
 |.v d::r=>(vals r).bind λds=>some (d::ds)
 |.p _::_=>none
 |.s _ _::_=>none
 |.x _::_=>none
 |.f _ _::_=>none
theorem jm {K:AF}{m:Tf}{H:Hp}:∀{rs:A0 R} {ds:A0 D} {vs:A0 V},vals rs=some ds->aV K m H rs vs->RelDs K H ds vs
 |[],_,_,e,h=>by cases e;rwa[RelDs];exact h
 |.v d::r,_,_,e,⟨v,vs,rfl,h1,h2⟩=>by let⟨ds,e1,e⟩:=AM.mp e;cases e;rwa[RelDs];exact{v,vs,rfl,h1,jm e1 h2}
 |.p _::_,_,_,e,_=>by cases e
 |.s _ _::_,_,_,e,_=>by cases e
 |.x _::_,_,_,e,_=>by cases e
 |.f _ _::_,_,_,e,_=>by cases e
noncomputable def dS (fa:FA):FE:=λO U=>(fa O U).bind λa=>(vals a.1).bind λds=>if ds.length<=sizeLine then some (.v (.tup ds),a.2) else none
noncomputable def ic (fa:FA):FE:=λO U=>(fa O U).bind λa=>(vals a.1).bind λds=>if ds.length<=sizeLine then some (.p a.2.length,a.2++[.lst ds]) else none
section
variable {K:AF}{m:Tf}{Y:St}{H:Hp}{Q:VK}{U:ac}
def lf {ds:A0 D}{vs:A0 V}{p:A6}(s:aS K m H U)(r:RelDs K H ds vs)(hp:H p=none):cU m H m (upd H p (.tup vs))/\aS K m (upd H p (.tup vs)) U/\ao K m (upd H p (.tup vs)) (.v (.tup ds)) (.ref p):=by refine{.new hp,s.same (b9 hp),?_};rwa[ao,al];exact{p,vs,rfl,.inl (.inl cV),RelDs.tf (.of (b9 hp)) _ _ r}
def gp {ds:A0 D}{vs:A0 V}{p:A6}(s:aS K m H U)(r:RelDs K H ds vs)(hp:H p=none):cU m H (m++[p]) (upd H p (.lst vs))/\aS K (m++[p]) (upd H p (.lst vs)) (U++[.lst ds])/\ao K (m++[p]) (upd H p (.lst vs)) (.p U.length) (.ref p):=by refine{.newH hp,s.newH hp {vs,cV,RelDs.tf (.of (b9 hp)) _ _ r},p,rfl,?_};rw[←s.len];simp
def JAk {fa}(h:aA K (dS fa) Y H Q):C5 (gF K fa) Y H Q:=by
 let⟨O,U,m,d,U',hl,hs,e,k⟩:=h;let⟨⟨xs,U1⟩,e1,e⟩:=AM.mp e;let⟨ds,e2,e⟩:=AM.mp e;split at e
 ·rename_i z
  cases e;refine{O,U,m,xs,_,hl,hs,e1,λvs H1 m1 x1 s1 r1=>?_};have r2:=jm e2 r1;refine{by rw[←r2.length];exact z,λp hp=>?_};let⟨a,b,c⟩:=lf s1 r2 hp;exact k _ _ _ (x1.trans a) b c
 ·cases e
def JAt {fa}(h:aA K (ic fa) Y H Q):C9 (gF K fa) Y H Q:=by
 let⟨O,U,m,d,U',hl,hs,e,k⟩:=h;let⟨⟨xs,U1⟩,e1,e⟩:=AM.mp e;let⟨ds,e2,e⟩:=AM.mp e;split at e
 ·rename_i z
  cases e;refine{O,U,m,xs,_,hl,hs,e1,λvs H1 m1 x1 s1 r1=>?_};have r2:=jm e2 r1;refine{by rw[←r2.length];exact z,λp hp=>?_};let⟨a,b,c⟩:=gp s1 r2 hp;exact k _ _ _ (x1.trans a) b c
 ·cases e
end
noncomputable def bu:FS:=λO U=>some (.nx O U)
noncomputable def aN (a b:FS):FS:=λO U=>(a O U).bind λo=>match o with|.nx O' U'=>b O' U'|o=>some o
noncomputable def d8 (f:FE):FS:=λO U=>(f O U).bind λa=>some (.nx O a.2)
noncomputable def aZ (f:FE):FS:=λO U=>(f O U).bind λa=>some (.rt a.1 a.2)
noncomputable def fI (t:FT)(a b:FS):FS:=λO U=>(t O U).bind λc=>if c.1=true then a O c.2 else b O c.2
noncomputable def cr (i:Nat)(f:FE):FS:=λO U=>(f O U).bind λa=>some (.nx (O.set i (some a.1)) a.2)
section
variable {K:AF}{m m' m1:Tf}{Y:St}{H H' H1:Hp}{D:dZ}{U:ac}{O:Lo}
theorem dZ.of_ext {o:lc}(x:cU m H m1 H1)(h:dZ.of K m H D o):dZ.of K m1 H1 D o:=by
 cases o with
 |nx O U=>exact λY H' m' y=>h Y H' m' (x.trans y)
 |bk O U=>exact λY H' m' y=>h Y H' m' (x.trans y)
 |ct O U=>exact λY H' m' y=>h Y H' m' (x.trans y)
 |rt d U=>exact λY H' m' y=>h Y H' m' (x.trans y)
def c9.set {d:R}{v:V}(h:c9 K m H O Y)(r:ao K m H d v)(i:Nat):c9 K m H (O.set i (some d)) (Y.set i (some v)):=by
 refine{by simp[h.1],λj d' e=>?_};by_cases hj:j=i
 ·subst hj;by_cases hi:j<O.length
  ·rw[Cf hi] at e
   cases e;exact{v,Cf (by rw[←h.1];exact hi),r}
  ·rw[List.getElem?_eq_none (by simp;omega)] at e
   cases e
 ·rw[za0 (Ne.symm hj)] at e;let⟨u,q1,q2⟩:=h.2 j d' e;exact{u,by rw[za0 (Ne.symm hj)];exact q1,q2}
def wW (h:dI K bu D Y H):zg D Y H:=by let⟨O,U,m,o,hl,hs,e,k⟩:=h;cases e;exact k Y H m .refl hs hl
theorem JAo {a b}(h:dI K (aN a b) D Y H):C6 (dI K a) (dI K b) D Y H:=by
 let⟨O,U,m,o,hl,hs,e,k⟩:=h;let⟨o1,e1,e⟩:=AM.mp e;refine{O,U,m,o1,hl,hs,e1,?_}
 cases o1 with
 |nx O1 U1=>exact λY1 H1 m1 x1 s1 l1=>{O1,U1,m1,o,l1,s1,e,dZ.of_ext x1 k}
 |bk O1 U1=>cases e;exact k
 |ct O1 U1=>cases e;exact k
 |rt d U1=>cases e;exact k
def xb {f}(h:dI K (d8 f) D Y H):zj (aA K f) D Y H:=by let⟨O,U,m,o,hl,hs,e,k⟩:=h;let⟨⟨x,U1⟩,e1,e⟩:=AM.mp e;cases e;exact{O,U,m,x,U1,hl,hs,e1,λv H1 m1 x1 s1 r1=>k Y H1 m1 x1 s1 (hl.ext x1)}
def JAp {f}(h:dI K (aZ f) D Y H):C7 (aA K f) D Y H:=by let⟨O,U,m,o,hl,hs,e,k⟩:=h;let⟨⟨x,U1⟩,e1,e⟩:=AM.mp e;cases e;exact{O,U,m,x,U1,hl,hs,e1,k}
theorem JAv {t a b}(h:dI K (fI t a b) D Y H):Da (fm K t) (dI K a) (dI K b) D Y H:=by
 let⟨O,U,m,o,hl,hs,e,k⟩:=h;let⟨⟨c,U1⟩,e1,e⟩:=AM.mp e;refine{O,U,m,c,U1,hl,hs,e1,λH1 m1 x1 s1=>?_}
 cases c with
 |true=>exact{O,U1,m1,o,hl.ext x1,s1,e,dZ.of_ext x1 k}
 |false=>exact{O,U1,m1,o,hl.ext x1,s1,e,dZ.of_ext x1 k}
def JAn {i f}(h:dI K (cr i f) D Y H):wG (aA K f) (rP i) D Y H:=by let⟨O,U,m,o,hl,hs,e,k⟩:=h;let⟨⟨x,U1⟩,e1,e⟩:=AM.mp e;cases e;exact{O,U,m,x,U1,hl,hs,e1,λv H1 m1 x1 s1 r1=>k _ H1 m1 x1 s1 ((hl.ext x1).set r1 i)}
end
abbrev FG:=R->Lo->ac->Jo (Lo×ac)
def o6 (K:AF)(g:FG):TG:=λv Y H Q=>∃O U m d O' U',c9 K m H O Y/\aS K m H U/\ao K m H d v/\g d O U=some (O',U') /\
 ∀Y' H' m',cU m H m' H'->aS K m' H' U'->c9 K m' H' O' Y'->Q Y' H'
abbrev zR:=A0 R->Lo->ac->Jo (Lo×ac)
noncomputable def o5 (K:AF)(g:zR):wt:=λvs Y H Q=>∃O U m ds O' U',c9 K m H O Y/\aS K m H U/\aV K m H ds vs/\g ds O U=some (O',U') /\
 ∀Y' H' m',cU m H m' H'->aS K m' H' U'->c9 K m' H' O' Y'->Q Y' H'
noncomputable def iw (i:Nat):FG:=λd O U=>some (O.set i (some d),U)
noncomputable def pH:zR:=λds O U=>match ds with|[]=>some (O,U)|_=>none
noncomputable def ja (g:FG)(r:zR):zR:=λds O U=>match ds with|[]=>none|d::ds=>(g d O U).bind λa=>r ds a.1 a.2
noncomputable def Ct (n:Nat)(g:zR):FG:=λd O U=>match d with|.v (.tup xs)=>if xs.length=n then g (xs.map .v) O U else none|_=>none
noncomputable def lG (f:FE)(g:FG):FS:=λO U=>(f O U).bind λa=>(g a.1 O a.2).bind λb=>some (.nx b.1 b.2)
section
variable {K:AF}{m m1:Tf}{Y:St}{H H1:Hp}{D:dZ}{U:ac}{O:Lo}{v:V}{Q:St->Hp->Prop}
def JAz {i}(h:o6 K (iw i) v Y H Q):rP i v Y H Q:=by let⟨O,U,m,d,O',U',hl,hs,r,e,k⟩:=h;cases e;exact k _ H m .refl hs (hl.set r i)
theorem uU {vs}(h:o5 K pH vs Y H Q):Eo vs Y H Q:=by
 let⟨O,U,m,ds,O',U',hl,hs,r,e,k⟩:=h
 cases ds with
 |nil=>cases e;exact{r,k Y H m .refl hs hl}
 |cons d ds=>cases e
theorem sx {g r vs}(h:o5 K (ja g r) vs Y H Q):zN (o6 K g) (o5 K r) vs Y H Q:=by
 let⟨O,U,m,ds,O',U',hl,hs,rr,e,k⟩:=h
 cases ds with
 |nil=>cases e
 |cons d ds=>
  let⟨v,vr,rfl,r1,r2⟩:=rr;let⟨⟨O1,U1⟩,e1,e⟩:=AM.mp e;refine{v,vr,rfl,O,U,m,d,O1,U1,hl,hs,r1,e1,λY1 H1 m1 x1 s1 l1=>?_};exact{O1,U1,m1,ds,O',U',l1,s1,r2.ext x1,e,λY2 H2 m2 x2 s2 l2=>k Y2 H2 m2 (x1.trans x2) s2 l2}
theorem RelDs.rs:∀{ds:A0 HW.D} {vs:A0 V},RelDs K H ds vs->aV K m H (ds.map .v) vs
 |[],_,h=>by rwa[RelDs] at h;exact h
 |d::ds,_,h=>by rwa[RelDs] at h;let⟨v,r,rfl,h1,h2⟩:=h;exact{v,r,rfl,h1,RelDs.rs h2}
def JAy {n g}(h:o6 K (Ct n g) v Y H Q):En K n (o5 K g) v Y H Q:=by
 let⟨O,U,m,d,O',U',hl,hs,r,e,k⟩:=h;unfold Ct at e;split at e
 ·rename_i xs;split at e
  ·rename_i hn;rwa[ao,al] at r;let⟨a,vs,rfl,q,rr⟩:=r;exact{a,vs,rfl,q,by rw[←rr.length];exact hn,O,U,m,_,O',U',hl,hs,rr.rs,e,k}
  ·cases e
 ·cases e
def JA1 {f g}(h:dI K (lG f g) D Y H):wG (aA K f) (o6 K g) D Y H:=by let⟨O,U,m,o,hl,hs,e,k⟩:=h;let⟨⟨x,U1⟩,e1,e⟩:=AM.mp e;let⟨⟨O2,U2⟩,e2,e⟩:=AM.mp e;cases e;exact{O,U,m,x,U1,hl,hs,e1,λv H1 m1 x1 s1 r1=>{O,U1,m1,x,O2,U2,hl.ext x1,s1,r1,e2,λY2 H2 m2 x2 s2 l2=>k Y2 H2 m2 (x1.trans x2) s2 l2}}
end
def eo:HO->Prop
 |.lst _=>True
 |.set _ _=>True
 |.dK _=>True
 |.dT _=>True
 |_=>False
def Gg (t:TE):TE:=λY H Q=>t Y H λv H1=>Q v H1\/∃a u,H1 a=some u/\eo u/\∀o,Q v (upd H1 a (.frz o u))
noncomputable def B7:R->ac->Jo (D×ac)
 |.v d,U=>some (d,U)
 |.s _ _,_=>none
 |.x _,_=>none
 |.f _ _,_=>none
 |.p n,U=>match U[n]? with|some (.lst xs)=>some (.fl xs,U.set n (.fz xs))|some (.fz xs)=>some (.fl xs,U)|some (.dct kvs)=>some (.fd (kvs.map (·.1)) (kvs.map (·.2)),U.set n (.fzd kvs))|some (.fzd kvs)=>some (.fd (kvs.map (·.1)) (kvs.map (·.2)),U)|_=>none
noncomputable def bg (f:FE):FE:=λO U=>(f O U).bind λa=>(B7 a.1 a.2).bind λb=>some (.v b.1,b.2)
section
variable {K:AF}{m:Tf}{Y:St}{H:Hp}{U:ac}{Q:VK}
theorem zO {x:R}{d:D}{U':ac}{v:V}{B:Hp->Prop}(hs:aS K m H U)(r:ao K m H x v)(e:B7 x U=some (d,U'))
  (k:∀H',cU m H m H'->aS K m H' U'->al K H' d v->B H'):B H\/∃a u,H a=some u/\eo u/\∀o,B (upd H a (.frz o u)):=by
 cases x with
 |v d'=>cases e;exact .inl (k H .refl hs r)
 |s b xs=>cases e
 |x _=>cases e
 |f _ _=>cases e
 |p n=>
  let⟨a,rfl,ha⟩:=r;rwa[B7] at e;split at e
  ·rename_i xs q
   cases e;let⟨vs,ea,rr⟩:=hs.cell n _ a q ha;refine .inr {a,_,ea,trivial,λo=>?_};have x:cU m H m (upd H a (.frz o (.lst vs))):=.put (Bd ha) ea ∅ ∅;refine k _ x (hs.put ha ea ∅ ∅ {o,vs,cV,RelDs.tf x.tf _ _ rr}) ?_;rwa[al];exact{a,vs,rfl,.inl {o,cV},RelDs.tf x.tf _ _ rr}
  ·rename_i xs q
   cases e;let⟨o,vs,ea,rr⟩:=hs.cell n _ a q ha;refine .inl (k H .refl hs ?_);rwa[al];exact{a,vs,rfl,.inl {o,ea},rr}
  ·rename_i kvs q
   cases e;let⟨es,ea,ke,rr⟩:=hs.cell n _ a q ha;refine .inr {a,_,ea,trivial,λo=>?_};have x:cU m H m (upd H a (.frz o (.dK es))):=.put (Bd ha) ea ∅ ∅;refine k _ x (hs.put ha ea ∅ ∅ {o,es,cV,ke,RelDs.tf x.tf _ _ rr}) ?_;rwa[al];exact{a,o,es,rfl,cV,ke,RelDs.tf x.tf _ _ rr}
  ·rename_i kvs q
   cases e;let⟨o,es,ea,ke,rr⟩:=hs.cell n _ a q ha;refine .inl (k H .refl hs ?_);rwa[al];exact{a,o,es,rfl,ea,ke,rr}
  ·cases e
def zw {f}(h:aA K (bg f) Y H Q):Gg (aA K f) Y H Q:=by let⟨O,U,m,d,U',hl,hs,e,k⟩:=h;let⟨⟨x,U1⟩,e1,e⟩:=AM.mp e;let⟨⟨d1,U2⟩,e2,e⟩:=AM.mp e;cases e;refine{O,U,m,x,U1,hl,hs,e1,λv H1 m1 x1 s1 r1=>?_};exact zO (B:=λH'=>Q v H') s1 r1 e2 λH' y s2 r2=>k v H' m1 (x1.trans y) s2 r2
end
abbrev FI:=Lo->ac->Jo (A0 D×ac)
structure wl (K:AF)(J:It)(xs:List D)(P:Hp->Prop):Prop where
 st:∀H H',TF H H'->P H->P H'
 stop:∀i H,P H->xs.length<=i->J.stop i H
 go:∀(i:Nat) d H,xs[i]?=some d->P H->J.go i H
 yld:∀(i:Nat) d H x H',xs[i]?=some d->P H->J.yld i H x H'->H'=H/\al K H d x
def uZ (K:AF)(f:FI):TI:=λY H R=>∃O U m xs U',c9 K m H O Y/\aS K m H U/\f O U=some (xs,U') /\
 ∀J P H' m',cU m H m' H'->aS K m' H' U'->wl K J xs P->P H'->R J H'
noncomputable def fL (g:FG)(b:FS):A0 D->Lo->ac->Jo lc
 |[],O,U=>some (.nx O U)
 |x::xs,O,U=>(g (.v x) O U).bind λa=>(b a.1 a.2).bind λo=>match o with
  |.nx O' U'=>fL g b xs O' U'
  |.ct O' U'=>fL g b xs O' U'
  |.bk O' U'=>some (.nx O' U')
  |.rt d U'=>some (.rt d U')
noncomputable def kW (i:FI)(g:FG)(b:FS):FS:=λO U=>(i O U).bind λa=>fL g b a.1 O a.2
noncomputable def hZ (f:FE):FI:=λO U=>(bg f O U).bind λa=>match a.1 with|.v (.fl xs)=>some (xs,a.2)|.v (.tup xs)=>some (xs,a.2)|_=>none
def D3 (K:AF)(tl:TE):TI:=λY H R=>tl Y H λx H1=>∃a,x=.ref a/\(((∃xs,io K H1 a xs)/\R (Io K a) H1)\/((∃xs,gP K H1 a xs)/\R (Il K a) H1))
noncomputable def oo (f:FE):FI:=λO U=>(f O U).bind λa=>match a.1 with|.v (.int j)=>if -(2 ^ 62)<=j/\j<2 ^ 62 then some ((List.range j.toNat).map λi=>.int (i:Nat),a.2) else none|_=>none
section
variable {K:AF}{m:Tf}{Y:St}{H:Hp}{U:ac}{R:It->Hp->Prop}
theorem RelDs.get:∀{ds:A0 D} {vs:A0 V} {i:Nat} {d:D},RelDs K H ds vs->ds[i]?=some d->∃v,vs[i]?=some v/\al K H d v
 |[],_,_,_,_,e=>by simp at e
 |x::xs,vs,0,d,h,e=>by rwa[RelDs] at h;let⟨v,r,rfl,h1,h2⟩:=h;simp at e;subst e;exact{v,rfl,h1}
 |x::xs,vs,i+1,d,h,e=>by rwa[RelDs] at h;let⟨v,r,rfl,h1,h2⟩:=h;let⟨u,q1,q2⟩:=RelDs.get (i:=i) h2 ‹e›;exact{u,by simpa using q1,q2}
def JB5 {a vs xs}(r0:RelDs K H xs vs):wl K (Io K a) xs (λH=>Cn K H a vs/\RelDs K H xs vs) where
 st:=λH H' t ⟨f,r⟩=>{f.tf t,RelDs.tf t _ _ r}
 stop:=λi H ⟨f,r⟩ hi=>{vs,f.sq,by rw[←r.length];exact hi}
 go:=λi d H e ⟨f,r⟩=>let ⟨v,q,_⟩:=r.get e;{vs,v,f.sq,q}
 yld:=λi d H x H' e ⟨f,r⟩ ⟨e1,e2⟩=>by let⟨v,q,rv⟩:=r.get e;have:=e2 vs f.sq;rw[q] at this;cases this;exact{e1,rv}
def JB2 {a vs xs}(r0:RelDs K H xs vs):wl K (Il K a) xs (λH=>gP K H a vs/\RelDs K H xs vs) where
 st:=λH H' t ⟨f,r⟩=>{gP.tf t f,RelDs.tf t _ _ r}
 stop:=λi H ⟨f,r⟩ hi=>{vs,f,by rw[←r.length];exact hi}
 go:=λi d H e ⟨f,r⟩=>let ⟨v,q,_⟩:=r.get e;{vs,v,f,q}
 yld:=λi d H x H' e ⟨f,r⟩ ⟨e1,e2⟩=>by let⟨v,q,rv⟩:=r.get e;have:=e2 vs f;rw[q] at this;cases this;exact{e1,rv}
def JB4 (lo:Int)(n:Nat):wl K (Gc lo n) ((List.range n).map λk=>.int (lo+(k:Nat))) (λ_=>True) where
 st:=λ_ _ _ _=>trivial
 stop:=λi H _ hi=>by show n<=i;simpa using hi
 go:=λi d H e _=>by
  have:=(B2.mp e).1
  show i<n;simpa using this
 yld:=λi d H x H' e _ ⟨e1,e2⟩=>by
  have hi:=(B2.mp e).1;have hi':i<n:=by simpa using hi
  refine{e1,?_};simp[hi'] at e;subst e e2;rwa[al]
def wZ {f}(h:uZ K (hZ f) Y H R):D3 K (Gg (aA K f)) Y H R:=by
 let⟨O,U,m,xs,U',hl,hs,e,k⟩:=h;let⟨⟨x,U1⟩,e1,e⟩:=AM.mp e;refine zw {O,U,m,x,U1,hl,hs,e1,λv H1 m1 x1 s1 r1=>?_};split at e
 ·rename_i ys q
  cases e;simp only at q;subst q;rwa[ao,al] at r1;let⟨a,vs,rfl,f,r⟩:=r1;exact{a,rfl,.inl {{vs,f.sq},k _ _ H1 m1 x1 s1 (JB5 r) {f,r}}}
 ·rename_i ys q
  cases e;simp only at q;subst q;rwa[ao,al] at r1;let⟨a,vs,rfl,f,r⟩:=r1;exact{a,rfl,.inr {{vs,f},k _ _ H1 m1 x1 s1 (JB2 r) {f,r}}}
 ·cases e
def JAx {f}(h:uZ K (oo f) Y H R):zM (gF K (ae f aj)) Y H R:=by
 let⟨O,U,m,xs,U',hl,hs,e,k⟩:=h;let⟨⟨x,U1⟩,e1,e⟩:=AM.mp e;refine{O,U,m,[x],U1,hl,hs,by simp[ae,aj,e1],λvs H1 m1 x1 s1 r1=>?_};split at e
 ·rename_i j q;split at e
  ·rename_i z
   cases e;simp only at q;subst q;let⟨v,r,rfl,r1,r2⟩:=r1;have r2:r=[]:=r2;rwa[ao,al] at r1;subst r1 r2;have:=JB4 (K:=K) 0 j.toNat;rwa[Int.zero_add] at this
   exact{j,rfl,z.1,z.2,k _ _ H1 m1 x1 s1 this trivial}
  ·cases e
 ·cases e
end
end HW
namespace HW
variable {K:AF}
open L2
abbrev MF:=A0 D->Jo D
def qR (H H':Hp):Prop:=∀a o,H a=some o->H' a=some o
noncomputable def wK (K:AF)(n:Nat)(f:MF):Sp:=λvs H Q _=>∃ds d,ds.length=n/\RelDs K H ds vs/\f ds=some d/\∀v H',qR H H'->al K H' d v->Q v H'
noncomputable def fin:lc->Jo D
 |.rt r U=>(B7 r U).bind λa=>some a.1
 |.nx _ _=>some .non
 |_=>none
noncomputable def ei (k:Nat)(b:FS):MF:=λds=>(b (ds.map (λd=>some (.v d))++List.replicate (k-ds.length) none) []).bind fin
noncomputable def aI (f:MF)(n:Nat)(fa:FA):FE:=λO U=>(fa O U).bind λa=>(vals a.1).bind λds=>if ds.length=n then (f ds).bind λd=>some (.v d,a.2) else none
section
variable {K:AF}{m:Tf}{Y:St}{H H':Hp}{U:ac}{Q:VK}
theorem qR.ext (s:qR H H'):cU m H m H':={{[],by simp},.of s,λa o e _=>s a o e,λa h=>by
 cases q:H a with
 |none=>rfl
 |some o=>rw[s a o q] at h;cases h}
def xh {f n fa}{E:XK}(h:aA K (aI f n fa) Y H Q):q0 (wK K n f) [] E (gF K fa) Y H Q:=by
 let⟨O,U,m,d,U',hl,hs,e,k⟩:=h;let⟨⟨xs,U1⟩,e1,e⟩:=AM.mp e;let⟨ds,e2,e⟩:=AM.mp e;split at e
 ·rename_i hn;let⟨d1,e3,e⟩:=AM.mp e;cases e;refine{O,U,m,xs,_,hl,hs,e1,λvs H1 m1 x1 s1 r1=>?_};refine{ds,d1,hn,by simpa using jm e2 r1,e3,λv H2 z r2=>?_};exact k v H2 m1 (x1.trans z.ext) (s1.same z) r2
 ·cases e
def m6 {N:Tn}{ds:A0 D}{vs:A0 V}(r:RelDs K H ds vs):c9 K [] H (ds.map (λd=>some (.v d))++List.replicate (N.length-ds.length) none) (L2.dJ N vs):=by
 have hl:=r.length;unfold L2.dJ;refine{by simp[hl],λi d e=>?_};by_cases hi:i<ds.length
 ·rw[B3 ‹hi›,Bv] at e
  cases q:ds[i]? with
  |none=>rw[q] at e;cases e
  |some d'=>
   rw[q] at e;cases e;let⟨v,q1,q2⟩:=r.get q;exact{v,by rw[B3 (by simp;omega),Bv,q1];rfl,q2}
 ·rw[Bi ‹hi›,zbg] at e;split at e <;> cases e
noncomputable def xC (Q:VK):VK:=λv H=>Q v H\/∃a u,H a=some u/\eo u/\∀o,Q v (upd H a (.frz o u))
def cU.sam (x:cU [] H m H'):qR H H':=λa o e=>x.keep a o e ∅
theorem JBf {N:Tn}{b:FS}{ds:A0 D}{vs:A0 V}{d:D}{E:XK}(r:RelDs K H ds vs)(e:ei N.length b ds=some d)(k:∀v H',qR H H'->al K H' d v->Q v H') :
  dI K b {nx:=λ_ H'=>xC Q .non H',rt:=xC Q} (L2.dJ N vs) H:=by
 let⟨o,e1,e⟩:=AM.mp e;refine{_,[],[],o,m6 r,.nil,e1,?_}
 cases o with
 |nx O U=>
  cases e;exact λY H' m' x _ _=>.inl (k _ _ x.sam (by rwa[al]))
 |bk O U=>cases e
 |ct O U=>cases e
 |rt q U=>
  let⟨⟨d1,U1⟩,e2,e⟩:=AM.mp e;cases e;intro v H' m' x s r';exact zO (B:=λH'=>Q v H') s r' e2 λH2 y s2 r2=>k v H2 (x.trans y).sam r2
end
noncomputable def qA (C:Int->Int->A9)(f:Int->Int->D):R->R->ac->Jo (R×ac)
 |.v (.int i),.v (.int j),U=>if C i j=true then some (.v (f i j),U) else none
 |_,_,_=>none
def gI {C:Int->Int->A9}{C':Int->Int->Prop}{f:Int->Int->D}{g:Int->Int->V}(hC:∀i j,C i j=true->C' i j)(hg:∀H i j,al K H (f i j) (g i j)):me K (qA C f) (rI C' g):=by
 intro m H U x y d U' v u Q s rx ry e k;unfold qA at e;split at e
 ·rename_i i j;split at e
  ·rename_i z
   cases e;rwa[ao,al] at rx ry;subst rx ry;exact{i,j,rfl,rfl,hC i j z,k _ H m .refl s (hg H i j)}
  ·cases e
 ·cases e
def Fk {f:Int->Int->D}{g:Int->Int->V}(hg:∀H i j,al K H (f i j) (g i j)):me K (qA (λ_ _=>true) f) (sB g):=by
 intro m H U x y d U' v u Q s rx ry e k;unfold qA at e;split at e
 ·rename_i i j;split at e
  ·cases e;rwa[ao,al] at rx ry;subst rx ry;exact{i,j,rfl,rfl,k _ H m .refl s (hg H i j)}
  ·cases e
 ·cases e
abbrev nR:=qA (λ_ _=>true) λi j=>.int (i-j)
abbrev mG:=qA (λi j=>decide (-(2 ^ 64)<i/\i<2 ^ 64) || decide (-(2 ^ 64)<j/\j<2 ^ 64)) λi j=>.int (i*j)
abbrev v3:=qA (λ_ j=>decide (0<j/\j<1073741824)) λi j=>.int (i / j)
abbrev kX:=qA (λ_ j=>decide (0<j)) λi j=>.int (i%j)
abbrev j5:=qA (λi j=>decide (0<=j/\j<=1000000/\i.natAbs<2 ^ 64)) λi j=>.int (i ^ j.toNat)
abbrev BI:=qA (λ_ _=>true) λi j=>.bl (decide (i<j))
abbrev Cr:=qA (λ_ _=>true) λi j=>.bl (decide (i<=j))
abbrev vQ:=qA (λ_ _=>true) λi j=>.bl (decide (j<i))
noncomputable def dA:R->ac->Jo (R×ac)
 |.v (.int i),U=>some (.v (.int (-i)),U)
 |_,_=>none
section
variable {K:AF}
def u7 {H:Hp}{i:Int}:al K H (.int i) (.int i):=by rwa[al]
def Gm {H:Hp}{i:A9}:al K H (.bl i) (.bl i):=by rwa[al]
def JDe:me K nR (sB λi j=>.int (i-j)):=Fk λ_ _ _=>u7
def Ea:me K mG (rI wm λi j=>.int (i*j)):=gI (λi j h=>by simpa[wm] using h) λ_ _ _=>u7
def Ej:me K v3 (rI Cp λi j=>.int (i / j)):=gI (λi j h=>by simpa[Cp] using h) λ_ _ _=>u7
def Eb:me K kX (rI (λ_ j=>0<j) λi j=>.int (i%j)):=gI (λi j h=>by simpa using h) λ_ _ _=>u7
def JDh:me K j5 (rI Co λi j=>.int (i ^ j.toNat)):=gI (λi j h=>by simpa[Co] using h) λ_ _ _=>u7
def GH:me K BI (sB λi j=>.bl (decide (i<j))):=Fk λ_ _ _=>Gm
def Ef:me K Cr (sB λi j=>.bl (decide (i<=j))):=Fk λ_ _ _=>Gm
def GJ:me K vQ (sB λi j=>.bl (decide (j<i))):=Fk λ_ _ _=>Gm
def JDi:Jr K dA (rU λi=>.int (-i)):=by
 intro m H U x d U' v Q s rx e k;unfold dA at e;split at e
 ·rename_i i
  cases e;rwa[ao,al] at rx;subst rx;exact{i,rfl,k _ H m .refl s (by rwa[ao,al])}
 ·cases e
end
noncomputable def Cm:R->R->ac->Jo (R×ac)
 |.v (.int i),.v (.int j),U=>some (.v (.int (i+j)),U)
 |.v (.str x),.v (.str y),U=>if x.length+y.length<=sizeLine then some (.v (.str (x++y)),U) else none
 |.v (.tup xs),.v (.tup ys),U=>if xs≠[]/\xs.length+ys.length<=sizeLine then some (.v (.tup (xs++ys)),U) else none
 |.p a,.p b,U=>match U[a]?,U[b]? with|some (.lst xs),some (.lst ys)=>if xs.length+ys.length<=sizeLine then some (.p U.length,U++[.lst (xs++ys)]) else none|_,_=>none
 |_,_,_=>none
def JDj:R2:=λx y H Q=>∃i j,x=.str i/\y=.str j/\i.length+j.length<=sizeLine/\Q (.str (i++j)) H
def Gj (r r':R2):R2:=λx y H Q=>r x y H Q\/r' x y H Q
def zE (K:AF):R2:=Gj (sB λi j=>.int (i+j)) (Gj JDj (Gj (zB K) Dz))
theorem RelDs.append {K:AF}{H:Hp}:∀{xs ys:A0 D} {vs ws:A0 V},RelDs K H xs vs->RelDs K H ys ws->RelDs K H (xs++ys) (vs++ws)
 |[],_,_,_,h,h'=>by rwa[RelDs] at h;subst h;exact h'
 |x::xs,_,_,_,h,h'=>by
  rwa[RelDs] at h;let⟨v,r,rfl,h1,h2⟩:=h
  show RelDs K H (x::(xs++_)) _
  rwa[RelDs];exact{v,r++_,rfl,h1,RelDs.append h2 h'}
def RelDs.nil_iff {H:Hp}{xs:A0 D}{vs:A0 V}(h:RelDs K H xs vs):xs=[] ↔ vs=[]:=by have:=h.length;cases xs <;> cases vs <;> simp_all
def Em :me K Cm (zE K):=by
 intro m H U x y d U' v u Q s rx ry e k;unfold Cm at e;split at e
 ·cases e;rwa[ao,al] at rx ry;subst rx ry;exact .inl {_,_,rfl,rfl,k _ H m .refl s (by rwa[ao,al])}
 ·split at e
  ·rename_i z
   cases e;rwa[ao,al] at rx ry;subst rx ry;exact .inr (.inl {_,_,rfl,rfl,z,k _ H m .refl s (by rwa[ao,al])})
  ·cases e
 ·split at e
  ·rename_i z
   cases e;rwa[ao,al] at rx ry;let⟨a,vs,rfl,qa,ra⟩:=rx;let⟨b,ws,rfl,qb,rb⟩:=ry;refine .inr (.inr (.inl {a,b,vs,ws,rfl,rfl,qa,qb,λh=>z.1 (ra.nil_iff.mpr h),by rw[←ra.length,←rb.length];exact z.2,λh=>?_,λh p hp=>?_}))
   ·refine k _ H m .refl s ?_;have:=rb.nil_iff.mpr h;subst this;rwa[ao,al,Bm];exact{a,vs,rfl,qa,ra}
   ·let⟨x1,x2,x3⟩:=lf s (ra.append rb) hp;exact k _ _ _ x1 x2 x3
  ·cases e
 ·split at e
  ·rename_i xs ys qa qb;split at e
   ·rename_i z
    cases e;let⟨a',rfl,ha⟩:=rx;let⟨b',rfl,hb⟩:=ry;let⟨vs,ea,ra⟩:=s.cell _ _ a' qa ha;let⟨ws,eb,rb⟩:=s.cell _ _ b' qb hb;refine .inr (.inr (.inr {a',b',vs,ws,rfl,rfl,ea,eb,by rw[←ra.length,←rb.length];exact z,λp hp=>?_}));let⟨x1,x2,x3⟩:=gp s (ra.append rb) hp;exact k _ _ _ x1 x2 x3
   ·cases e
  ·cases e
 ·cases e
noncomputable def cY:R->ac->Jo (A0 D)
 |.v (.tup xs),_=>some xs
 |.v (.fl xs),_=>some xs
 |.p n,U=>match U[n]? with|some (.lst xs)=>some xs|some (.fz xs)=>some xs|_=>none
 |_,_=>none
noncomputable def i3:R->ac->Jo (A0 D)
 |.v (.fl xs),_=>some xs
 |.p n,U=>match U[n]? with|some (.lst xs)=>some xs|some (.fz xs)=>some xs|_=>none
 |_,_=>none
section
variable {K:AF}{m:Tf}{H:Hp}{U:ac}
def hJ {x:R}{xs:A0 D}{v:V}(s:aS K m H U)(r:ao K m H x v)(e:i3 x U=some xs):∃a vs,v=.ref a/\io K H a vs/\RelDs K H xs vs:=by
 unfold i3 at e;split at e
 ·cases e;rwa[ao,al] at r;let⟨a,vs,rfl,q,r⟩:=r;exact{a,vs,rfl,q.sq,r}
 ·let⟨a,rfl,ha⟩:=r;split at e
  ·rename_i q
   cases e;let⟨vs,e,r⟩:=s.cell _ _ a q ha;exact{a,vs,rfl,.inl (.inl e),r}
  ·rename_i q
   cases e;let⟨o,vs,e,r⟩:=s.cell _ _ a q ha;exact{a,vs,rfl,.inl (.inr {o,e}),r}
  ·cases e
 ·cases e
theorem f9 {x:R}{xs:A0 D}{v:V}(s:aS K m H U)(r:ao K m H x v)(e:cY x U=some xs):∃a vs,v=.ref a/\(io K H a vs\/gP K H a vs)/\RelDs K H xs vs:=by
 cases x with
 |v d=>
  cases d with
  |tup ys=>
   cases e;rwa[ao,al] at r;let⟨a,vs,rfl,q,r⟩:=r;exact{a,vs,rfl,.inr q,r}
  |fl ys=>let⟨a,vs,q1,q2,q3⟩:=hJ s r (xs:=xs) e;exact{a,vs,q1,.inl q2,q3}
  |non=>cases e
  |bl _=>cases e
  |int _=>cases e
  |str _=>cases e
  |fd _ _=>cases e
  |key _=>cases e
 |p n=>let⟨a,vs,q1,q2,q3⟩:=hJ s r (xs:=xs) e;exact{a,vs,q1,.inl q2,q3}
 |s _ _=>cases e
 |x _=>cases e
 |f _ _=>cases e
end
noncomputable def gL:R->R->ac->Jo (R×ac)
 |x,.v (.int i),U=>(cY x U).bind λxs=>(jL xs i).bind λd=>some (.v d,U)
 |_,_,_=>none
noncomputable def eR:A0 R->ac->Jo (R×ac)
 |[x],U=>(cY x U).bind λxs=>some (.v (.int xs.length),U)
 |_,_=>none
def yg {H:Hp}{xs:A0 D}{vs:A0 V}{i:Int}{d:D}(r:RelDs K H xs vs)(e:jL xs i=some d):∃v,jL vs i=some v/\al K H d v:=by let⟨j,e1,e2⟩:=AM.mp e;let⟨v,q1,q2⟩:=r.get e2;exact{v,by unfold jL;rw[←r.length,e1];exact q1,q2}
def GI :me K gL (ID K):=by
 intro m H U x y d U' v u Q s rx ry e k;unfold gL at e;split at e
 ·rename_i i;let⟨xs,e1,e⟩:=AM.mp e;let⟨d1,e2,e⟩:=AM.mp e;cases e;rwa[ao,al] at ry;subst ry;let⟨a,vs,rfl,q,r⟩:=f9 s rx e1;let⟨w,q1,q2⟩:=yg r e2;rcases q with q|q
  ·exact .inl {a,vs,i,w,rfl,rfl,q,q1,k _ H m .refl s q2}
  ·exact .inr (.inl {a,vs,i,w,rfl,rfl,q,q1,k _ H m .refl s q2})
 ·cases e
def Gk (K:AF):A0 V->Hp->VK->Prop:=λxs H Q=>∃p ys,xs=[.ref p]/\(io K H p ys\/gP K H p ys)/\Q (.int ys.length) H
def oZ {m:Tf}{H:Hp}{x:R}{vs:A0 V}(r:aV K m H [x] vs):∃v,vs=[v]/\ao K m H x v:=by let⟨v,r,rfl,h1,h2⟩:=r;have h2:r=[]:=h2;subst h2;exact{v,rfl,h1}
def Ee :yu K eR (Gk K):=by
 intro m H U xs d U' vs Q s r e k;unfold eR at e;split at e
 ·rename_i x;let⟨ys,e1,e⟩:=AM.mp e;cases e;let⟨v,rfl,r1⟩:=oZ r;let⟨a,ws,rfl,q,r⟩:=f9 s r1 e1;exact{a,ws,rfl,q,k _ H m .refl s (by rwa[ao,al];rw[r.length])}
 ·cases e
noncomputable def nQ:A0 R->ac->Jo (R×ac)
 |[x],U=>(cY x U).bind λxs=>some (.v (.tup xs),U)
 |_,_=>none
def Gi (K:AF):A0 V->Hp->VK->Prop:=λxs H Q=>∃p ys,xs=[.ref p]/\((io K H p ys/\∀l,H l=none->Q (.ref l) (upd H l (.tup ys)))\/(gP K H p ys/\Q (.ref p) H))
def JDd :yu K nQ (Gi K):=by
 intro m H U xs d U' vs Q s r e k;unfold nQ at e;split at e
 ·rename_i x;let⟨ys,e1,e⟩:=AM.mp e;cases e;let⟨v,rfl,r1⟩:=oZ r;let⟨a,ws,rfl,q,r⟩:=f9 s r1 e1;rcases q with q|q
  ·refine{a,ws,rfl,.inl {q,λp hp=>?_}};let⟨x1,x2,x3⟩:=lf s r hp;exact k _ _ _ x1 x2 x3
  ·refine{a,ws,rfl,.inr {q,k _ H m .refl s ?_}};rwa[ao,al];exact{a,ws,rfl,q,r}
 ·cases e
noncomputable def lb:R->A0 R->ac->Jo (R×ac)
 |.p n,[.v d],U=>match U[n]? with|some (.lst xs)=>if xs.length<sizeLine then some (.v .non,U.set n (.lst (xs++[d]))) else none|_=>none
 |_,_,_=>none
def EX (K:AF)(g:R->A0 R->ac->Jo (R×ac))(r:V->A0 V->Hp->VK->Prop):Prop :=
 ∀m H U x xs d U' v vs Q,aS K m H U->ao K m H x v->aV K m H xs vs->g x xs U=some (d,U')->(∀w H' m',cU m H m' H'->aS K m' H' U'->ao K m' H' d w->Q w H')->r v vs H Q
def Ek :EX K lb rj:=by
 intro m H U x xs d U' v vs Q s rx rs e k;unfold lb at e;split at e
 ·split at e
  ·rename_i ys q;split at e
   ·rename_i z
    cases e;let⟨a,rfl,ha⟩:=rx;let⟨w,rfl,DQ⟩:=oZ rs;let⟨ws,ea,ra⟩:=s.cell _ _ a q ha;have x:cU m H m (upd H a (.lst (ws++[w]))):=.put (Bd ha) ea ∅ ∅;refine{a,ws,w,rfl,rfl,ea,by rw[←ra.length];exact z,k _ _ m x (s.put ha ea ∅ ∅ {_,cV,?_}) (by rwa[ao,al])};refine RelDs.tf x.tf _ _ (ra.append ?_);rwa[RelDs];exact{w,[],rfl,DQ,rfl}
   ·cases e
  ·cases e
 ·cases e
noncomputable def fw (g:FG)(c:FT)(f:FE):A0 D->Lo->ac->Jo (A0 D×ac)
 |[],_,U=>some ([],U)
 |x::xs,O,U=>(g (.v x) O U).bind λa=>(c a.1 a.2).bind λb=>if b.1=true then (f a.1 b.2).bind λy=>match y.1 with
   |.v d=>(fw g c f xs a.1 y.2).bind λr=>some (d::r.1,r.2)
   |_=>none
  else fw g c f xs a.1 b.2
noncomputable def cT (k:Nat)(ix:A0 Nat)(O:Lo):Lo:=List.replicate k none++ix.map λi=>(O[i]?).join
noncomputable def gJ (ix:A0 Nat)(k:Nat)(i:FI)(g:FG)(c:FT)(f:FE):FE:=λO U=>(i O U).bind λa=>if a.1.length<=sizeLine then
 (fw g c f a.1 (cT k ix O) a.2).bind λr=>some (.p r.2.length,r.2++[.lst r.1]) else none
noncomputable def jG:FT:=λ_ U=>some (true,U)
open PyProof.Rows
section
variable {X:Cx}
def PE.imp {t t':TE}(h:PE X e t)(k:∀{Y H Q},t' Y H Q->t Y H Q):PE X e t':=λA1 s Y H Q I q=>h A1 s Y H Q I (k q)
def PT.imp {t t':TT}(h:PT X e t)(k:∀{Y H Q},t' Y H Q->t Y H Q):PT X e t':=λA1 s Y H Q I q=>h A1 s Y H Q I (k q)
def PW.imp {t t':TT}(h:PW X e t)(k:∀{Y H Q},t' Y H Q->t Y H Q):PW X e t':=λwh A1 s Y H Q I q=>h wh A1 s Y H Q I (k q)
def PA.imp {e:Tk}{t t':TA}(h:PA X e t)(k:∀{Y H Q},t' Y H Q->t Y H Q):PA X e t':=λpos A1 s Y H Q I q=>h pos A1 s Y H Q I (k q)
def PS.imp {e:AJ}{t t':TS}(h:PS X e t)(k:∀{D Y H},t' D Y H->t D Y H):PS X e t':=λA1 s Y H Q I q=>h A1 s Y H Q I (k q)
def kM.imp {e:Tl}{t t':TS}(h:kM X e t)(k:∀{D Y H},t' D Y H->t D Y H):kM X e t':=λA1 s Y H Q I q=>h A1 s Y H Q I (k q)
def PI.imp {tg e:AG}{t t':TI}(h:PI X tg e t)(k:∀{Y H R},t' Y H R->t Y H R):PI X tg e t':=λA1 s Y H R I q=>h A1 s Y H R I (k q)
def PG.imp {t t':TG}(h:PG X e t)(k:∀{v Y H Q},t' v Y H Q->t v Y H Q):PG X e t':=λA1 s Y H v u Q I r q=>h A1 s Y H v u Q I r (k q)
def wu.imp {e:Tk}{t t':wt}(h:wu X e t)(k:∀{v Y H Q},t' v Y H Q->t v Y H Q):wu X e t':=λA1 s Y H v u Q I r q=>h A1 s Y H v u Q I r (k q)
end
section
variable {P:A7}{w:AB}{H H0:Hp}{h h0:AD}{a:A6}{u:HO}{fs ex:Tf}
def eo.ne {b:A6}{v:HO}(e:H a=some u)(hu:eo u)(q:H b=some v)(n:¬ eo v):b≠a:=λz=>by rw[z,e] at q;cases q;exact n hu
def gc.frz (ok:gc P w H h)(e:H a=some u)(hu:eo u):∃o,gc P w (upd H a (.frz o u)) h:=by
 have ho:∃o,h.get? a=some o:=by
  have z:=ok a u e
  cases u with
  |lst xs=>let⟨_,_,_,_,q⟩:=z;exact{_,q}
  |set S n=>let⟨o,_,_,_,q,_⟩:=z;exact{_,q}
  |dK kvs=>let⟨_,_,_,_,o,_,_,q,_⟩:=z;exact{_,q}
  |dT kvs=>let⟨_,_,_,_,o,_,_,q,_⟩:=z;exact{_,q}
  |_=>exact hu.elim
 let⟨o,ho⟩:=ho;refine{o,λb v q=>?_};have own:∀c y,H c=some (.own y)->upd H a (.frz o u) c=some (.own y):=λc y r=>by rw[L2.ay (eo.ne e hu r λz=>z)];exact r
 have tup:∀c xs,H c=some (.tup xs)->upd H a (.frz o u) c=some (.tup xs):=λc xs r=>by rw[L2.ay (eo.ne e hu r λz=>z)];exact r
 by_cases hb:b=a
 ·subst hb;rw[L2.cO] at q;cases q;exact{ho,(ok b u e).stay (λc v _ q=>q) (λc r=>own c _ r) tup}
 ·rw[L2.ay hb] at q;exact(ok b v q).stay (λc v _ q=>q) (λc r=>own c _ r) tup
def Un.frz {o:Obj}(un:Un fs ex H0 H h0 h)(e:H a=some u)(hu:eo u):Un fs ex H0 (upd H a (.frz o u)) h0 h where
 keep:=un.keep
 slot:=un.slot
 free:=λb ob q n hx=>by have z:=un.free b ob q n hx;rw[L2.ay (λy=>by rw[y,e] at z;cases z)];exact z
 there:=un.there
 tups:=λb xs q=>by rw[L2.ay (eo.ne e hu (un.tups b xs q) λz=>z)];exact un.tups b xs q
 frzs:=λb ob v q=>by rw[L2.ay (eo.ne e hu (un.frzs b ob v q) λz=>z)];exact un.frzs b ob v q
 tbls:=λb ps q=>by let⟨more,r⟩:=un.tbls b ps q;exact{more,by rw[L2.ay (eo.ne e hu r λz=>z)];exact r}
def aE.frz {s:A4}(I:aE X A1 Y H s)(e:H a=some u)(hu:eo u):∃o,aE X A1 Y (upd H a (.frz o u)) s:=by
 let⟨o,ok⟩:=gc.frz I.hok e hu;have nn:∀b,H b=none->upd H a (.frz o u) b=none:=λb z=>by rw[L2.ay (λy=>by rw[y,e] at z;cases z)];exact z
 refine{o,I.ok,I.os,I.bare,Un.frz I.base e hu,I.loc,I.cell,nn _ I.free,λx c q=>nn _ (I.freeC x c q),λp hp=>?_,ok,I.len};let⟨q1,q2,q3⟩:=I.pin p hp;exact{q1,nn _ q2,q3}
end
def vm {t:TE}(h:PE X e t):PE X e (Gg t):=λA1 s Y H Q I q=>by
 refine ck (h A1 s Y H _ I q) λv s1 hh=>?_;let⟨x,H1,I1,r1,q1⟩:=hh;rcases q1 with q1|⟨a,u,e,hu,q1⟩
 ·exact{x,H1,I1,r1,q1}
 ·let⟨o,I2⟩:=aE.frz I1 e hu;exact{x,_,I2,r1,q1 o}
theorem b0.fz {mg:Td}{base:AD}{CX:sd}{k:Nat}{f:A6}{ps:Tn}{sp:Sp}(F:b0 P w K mg base CX k f fd ps sp) :
  b0 P w K mg base CX k f fd ps (λvs H Q E=>sp vs H (xC Q) E):=by
 refine{λvs H Q E h=>F.len vs H _ E h,λA outer s H args us vs Q E hr he hb hv hs=>?_};refine zbr (F.run A outer s H args us vs (xC Q) E hr he hb hv hs) λr s' hq=>?_
 cases r with
 |error e=>exact hq
 |ok fl=>
  cases fl with
  |next=>exact hq
  |brk=>exact hq
  |cont=>exact hq
  |ret u=>
   let⟨v,H',os,bare,un,hok,rv,q⟩:=hq;rcases q with q|⟨a,u',e,hu,q⟩
   ·exact{v,H',os,bare,un,hok,rv,q}
   ·let⟨o,ok⟩:=gc.frz hok e hu
    exact{v,_,os,bare,Un.frz un e hu,ok,rv,q o}
def lj.okP {P:A7}{w:AB}{K:AF}{mg:Td}{base:AD}{x qual:Str}{st:AJ}{f:A6}{fd:FuncData}{N ps:Tn}{k:Nat}{b:FS}(F:lj K x qual st f fd)(S:av N ps (ah st))
  (AQ:∀(AO:A5) (A:AH) (outer:A0 Env) (s:A4) (H:Hp) (E:XK),bF k (A.deeper (envOfC qual (ah st) s.heap.objs.size f AO))->kM (gN iE P w K mg base N qual (ah st) f AO A outer s H E).nox (bh st) (dI K b)) :
  b0 P w K mg base iE (k+1) f fd ps (wK K ps.length (ei N.length b)):=by
 have G:b0 P w K mg base iE (k+1) f fd ps (λvs H Q _=>vs.length=ps.length/\dI K b {nx:=λ_ H'=>Q .non H',rt:=Q} (L2.dJ N vs) H) :=
  L2.lj.ok F S (λvs H Q E h=>h.1) λAO A outer s H vs Q E hr h=>{_,AQ AO A outer s H E hr,h.2}
 refine(b0.fz G).imp λvs H Q E ⟨ds,d,hn,r,e,k⟩=>{by rw[←r.length];exact hn,JBf (E:=E) r e k}
def xu {X:Cx}{tg l:AG}{tl:TE}(hl:PE X l tl):PI X tg l (D3 X.K tl):=by
 intro A1 s Y H R I h;refine ck (hl A1 s Y H _ I h) λv s1 hh=>?_;let⟨x,H1,I1,r1,q1⟩:=hh;let⟨a,e,q1⟩:=q1;subst e;cases r1;rcases q1 with⟨⟨xs,hq⟩,q⟩|⟨⟨xs,hq⟩,q⟩
 ·let⟨its,rv,p,hz⟩:=I1.list hq;refine zbL p.isList ?_;refine{s1.heap.objs.size,[s1.heap.objs.size],_,_,H1,rfl,I1.kept (t':=s1.toks) λb o e=>AU _ e,sn a _,{_,B1 _ rfl,rfl,rfl},λb hb=>?_,q};have e:b=s1.heap.objs.size:=by simpa using hb
  subst e;exact I1.fpOk (Af _) (I1.hok.fresh (Af _))
 ·let⟨its,rv,p,hz⟩:=I1.tuple hq;refine wpAny_pyIter_tuple (show s1.heap.IsTuple a its.toArray from p) ?_;refine{s1.heap.objs.size,[s1.heap.objs.size],_,_,H1,rfl,I1.kept (t':=s1.toks) λb o e=>AU _ e,p4 a _,{_,B1 _ rfl,rfl,rfl},λb hb=>?_,q};have e:b=s1.heap.objs.size:=by simpa using hb
  subst e;exact I1.fpOk (Af _) (I1.hok.fresh (Af _))
theorem eL {env:Env}:∀{names:A0 (Str×NameKind)} {x:Str},
  (names.map λ(n,k)=>if (k == NameKind.free&&env.scope.kind == .function&&env.kindOf n == some .cell) then (n,NameKind.cell) else (n,k)).lookup x =
   (names.lookup x).map λk=>if (k == NameKind.free&&env.scope.kind == .function&&env.kindOf x == some .cell) then NameKind.cell else k
 |[],_=>rfl
 |(n,k)::r,x=>by
  have ih:=@eL env r x
  show List.lookup x ((if (k == NameKind.free&&env.scope.kind == .function&&env.kindOf n == some .cell)=true then (n,NameKind.cell) else (n,k))::_)=_
  cases hx:x == n with
  |true=>
   have:x=n:=eq_of_beq hx;subst this;rwa[Bn,hx,zbA]
   by_cases hc:(k == NameKind.free&&env.scope.kind == .function&&env.kindOf x == some .cell)=true
   ·simp[hc]
   ·simp[hc]
  |false=>
   by_cases hc:(k == NameKind.free&&env.scope.kind == .function&&env.kindOf n == some .cell)=true
   ·rw[A8 hc];rwa[Bn,hx];exact ih
   ·rw[AA hc];rwa[Bn,hx];exact ih
theorem gB {env:Env}:∀(names:A0 (Str×NameKind)) (acc:A0 (Str×A6)),(∀x c,acc.lookup x=some c->env.cells.lookup x=some c) ->
  (∀y∈names,y.2=.free->∃c,env.cells.lookup y.1=some c) ->
  ∃cl:A0 (Str×A6),(forIn names acc λ(x:Str×NameKind) (r:A0 (Str×A6))=>(if (x.2 == NameKind.free)=true then do let a ←cellOf env x.1;pure (ForInStep.yield ((x.1,a)::r)) else pure (ForInStep.yield r):Sem (ForInStep (A0 (Str×A6)))))=pure cl /\
   (∀x c,cl.lookup x=some c->env.cells.lookup x=some c)/\(∀x c,acc.lookup x=some c->∃c',cl.lookup x=some c')/\∀y∈names,y.2=.free->∃c,cl.lookup y.1=some c
 |[],acc,h1,_=>{acc,rfl,h1,λx c e=>{c,e},λy hy=>by simp at hy}
 |(n,k)::r,acc,h1,h2=>by
  by_cases hk:k=.free
  ·subst hk
   let⟨c,hc⟩:=h2 (n,.free) Aw rfl
   have step:∀x c',List.lookup x ((n,c)::acc)=some c'->env.cells.lookup x=some c':=λx c' e=>by
    rw[Bn] at e
    cases hx:x == n with
    |true=>rw[hx] at e;have:x=n:=eq_of_beq hx;subst this;rw[hc];exact e
    |false=>rw[hx] at e;exact h1 x c' e
   let⟨cl,e,p1,p2,p3⟩:=gB r ((n,c)::acc) step λy hy=>h2 y (Au _ hy);have hn:∃c',List.lookup n ((n,c)::acc)=some c':={c,by rw[Bn];simp};refine{cl,?_,p1,λx c' e'=>?_,λy hy hf=>?_}
   ·rw[DL]
    show((cellOf env n >>=λa=>pure (ForInStep.yield ((n,a)::acc))) >>= _)=_
    unfold cellOf;rw[hc];exact e
   ·cases hx:x == n with
    |true=>have:x=n:=eq_of_beq hx;subst this;let⟨c'',q⟩:=hn;exact p2 _ _ q
    |false=>exact p2 x c' (by rw[Bn,hx];exact e')
   ·rcases Ad.mp hy with rfl|hy
    ·let⟨c'',q⟩:=hn;exact p2 _ _ q
    ·exact p3 y hy hf
  ·let⟨cl,e,p1,p2,p3⟩:=gB r acc h1 λy hy=>h2 y (Au _ hy)
   have hb:(k == NameKind.free)=false:=by simpa using hk
   refine{cl,?_,p1,p2,λy hy hf=>?_}
   ·rw[DL]
    rwa[hb,Bp,if_false];exact e
   ·rcases Ad.mp hy with rfl|hy
    ·exact AE hf hk
    ·exact p3 y hy hf
def qM {env:Env}{scope:Scope}(h:∀y∈scope.names,y.2=.free->∃c,env.cells.lookup y.1=some c) :
  ∃cl,closureFor scope env=pure cl/\(∀x c,cl.lookup x=some c->env.cells.lookup x=some c)/\∀y∈scope.names,y.2=.free->∃c,cl.lookup y.1=some c:=by
 let⟨cl,e,p1,_,p3⟩:=gB (env:=env) scope.names [] (λx c e=>by simp at e) h;refine{cl,?_,p1,p3};unfold closureFor
 first
  |(show(forIn scope.names [] _ >>=λr=>pure r)=_;rw[e];rfl)
  |(rwa[bind_pure];exact e)
structure bp (osc scope:Scope)(own:Tn)(caps:Tn):Prop where
 kind:scope.kind=.function
 cell:∀y∈scope.names,y.2=.cell->scope.names.lookup y.1=some .cell
 loc:∀y∈scope.names,y.2=.local->scope.names.lookup y.1=some .local
 free:∀y∈scope.names,y.2=.free->osc.names.lookup y.1=some .cell\/osc.names.lookup y.1=some .free
 cap:∀y∈caps,(y,NameKind.free)∈scope.names/\scope.names.lookup y=some .free
 nd:(own++caps).Nodup
noncomputable def bi (X:Cx)(scope:Scope)(cl:A0 (Str×A6))(C:A6)(s₂:A4)(H₂:Hp)(fp:Tf)(N:Tn):Cx :=
 {X with N:=N,s₀:=s₂,H₀:=H₂,env:=compEnvC scope cl C X.env,outer:=X.stack,stack:=X.stack,ex:=fp,fn:=λx=>scope.names.lookup x == some .cell,pn:=[],xe:=λ_ _=>False}
def lM {names:A0 (Str×NameKind)}{x:Str}{k:NameKind}(h:names.lookup x=some k):(x,k)∈names:=PySem.mem_of_lookup h
structure EZ (X:Cx)(scope:Scope)(lo:Nat)(cl:List (Str×Addr)):Prop where
 src:∀x c,cl.lookup x=some c->(X.env.cells.lookup x=some c/\scope.names.lookup x≠some .cell)\/lo<c
 inj:∀x y c,cl.lookup x=some c->cl.lookup y=some c->x=y
 has:∀y∈scope.names,y.2=.free\/y.2=.cell->∃c,cl.lookup y.1=some c
 fr:∀y,scope.names.lookup y=some .free->∃c,cl.lookup y=some c/\X.env.cells.lookup y=some c
theorem l4 {X:Cx}{scope:Scope}{own caps:Tn}(n:bp X.env.scope scope own caps){cl:A0 (Str×A6)}{C:A6}{x:Str}{k:NameKind}(h:(compEnvC scope cl C X.env).kindOf x=some k)(hk:k=.cell\/k=.free) :
  ∃k,(x,k)∈scope.names/\(k=.free\/k=.cell):=by
 have h':(relabel scope X.env).names.lookup x=some k:=h;unfold relabel at h';rw[eL] at h'
 cases q:scope.names.lookup x with
 |none=>rw[q] at h';cases h'
 |some k0=>
  rw[q,zbA] at h';have m:=lM q;have h2:=Option.some.inj h'
  by_cases hf:k0=.free
  ·subst hf;exact{_,m,.inl rfl}
  ·have hb:(k0 == NameKind.free)=false:=by simpa using hf
   rwa[hb,Bool.false_and,Bp,if_false] at h2;rcases hk with hk|hk
   ·exact{_,m,.inr (h2.trans hk)}
   ·exact AE (h2.trans hk) hf
def qO {X:Cx}{scope:Scope}{cl:A0 (Str×A6)}{C:A6}{x:Str}(h:scope.names.lookup x=some .free) :
  (compEnvC scope cl C X.env).kindOf x=some .cell\/(compEnvC scope cl C X.env).kindOf x=some .free:=by
 show(relabel scope X.env).names.lookup x=some .cell\/(relabel scope X.env).names.lookup x=some .free
 unfold relabel;rw[eL,h];rwa[zbA];split
 ·exact .inl rfl
 ·exact .inr rfl
def EZ.ne {H:Hp}{lo b:Nat}{cl:A0 (Str×A6)}(B:EZ X scope lo cl)(f:jJ X A1 H b)(hb:b<lo){x:Str}{c:A6}(e:cl.lookup x=some c):c≠b:=by
 rcases B.src x c e with⟨z,_⟩|z
 ·exact f.2.2.2.2.1 x c z
 ·exact Ne.symm (Av (DJ hb z))
def wb {X:Cx}{H₂:Hp}{s₂:A4}{scope:Scope}{own caps:Tn}{cl:A0 (Str×A6)}{C:A6}{fp:Tf}(I:aE X A1 Y H₂ s₂)(n:bp X.env.scope scope own caps)
  (B:EZ X scope s₂.heap.objs.size cl) (hC:s₂.heap.objs.size<=C) (hfs:∀b∈fp,b<s₂.heap.objs.size) (hf:∀b∈fp,jJ X A1 H₂ b) :
  (bi X scope cl C s₂ H₂ fp (own++caps)).Ok:=by
 refine{I.ok.mod,n.kind,I.ok.glob,I.ok.blt,hC,B.inj,λx hx=>?_,λx c h _=>?_,I.ok.hd,I.ok.frames,.inl rfl,λb hb=>{Av (Ax (hfs b hb) hC),λx c e=>B.ne (hf b hb) (hfs b hb) e},
  I.bs,BM I.ok.bsz I.sz,λb o e hb=>?_,λb hb z=>?_,I.stack,I.stkFree}
 ·rcases hx with hx|hx
  ·let⟨k,m,hk⟩:=l4 n hx (.inl rfl);exact B.has _ m hk
  ·let⟨k,m,hk⟩:=l4 n hx (.inr rfl);exact B.has _ m hk
 ·rcases B.src x c (by assumption) with⟨_,z⟩|z
  ·exact AE (eq_of_beq h) z
  ·exact zbj z
 ·rcases (hf b hb).2.2.2.1 with z|z
  ·exact I.ok.noex b o e z
  ·exact AE (Ax (Ax (Ab e) I.ok.bsz) z) (BK _)
 ·rcases Ad.mp (I.stkSub b z) with e|e
  ·exact(hf b hb).2.1 e
  ·exact(hf b hb).2.2.1 e
noncomputable def fE (own:L2.St)(ix:A0 Nat)(Y:L2.St):L2.St:=own++ix.map λi=>(Y[i]?).join
def pM {X:Cx}{H₂:Hp}{s₂:A4}{scope:Scope}{own caps:Tn}{ix:A0 Nat}{cl:A0 (Str×A6)}{C:A6}{fp:Tf}{h₁:AD}{tk:Nat}(I:aE X A1 Y H₂ s₂)(n:bp X.env.scope scope own caps)
  (B:EZ X scope s₂.heap.objs.size cl) (hC:s₂.heap.objs.size<=C) (hfs:∀b∈fp,b<s₂.heap.objs.size) (hf:∀b∈fp,jJ X A1 H₂ b)
  (DR:∀x c,cl.lookup x=some c->s₂.heap.objs.size<c->h₁.IsCell c none) (BQ:ix.length=caps.length) (Bz:∀(j i:Nat) y,ix[j]?=some i->caps[j]?=some y->X.N[i]?=some y)
  (old:∀b o,s₂.heap.get? b=some o->h₁.get? b=some o) {m:Td} (hns:h₁.Ns C m) :
  aE (bi X scope cl C s₂ H₂ fp (own++caps)) [] (fE (own.map λ_=>none) ix Y) H₂ {s₂ with heap:=h₁,toks:=tk}:=by
 refine{wb I n B hC hfs hf,rfl,I.bare,Un.kept old,{m,hns,λi x v e1 e2 hv=>?_},λx c e=>?_,I.hok.fresh hC,λx c e=>(B.src x c e).elim (λz=>I.freeC x c z.1) λz=>I.hok.fresh (zbj z),λp hp=>?_,I.hok.kept old,?_}
 ·have e1:(own++caps)[i]?=some x:=e1
  unfold fE at e2
  by_cases hi:i<own.length
  ·rw[B3 ‹hi›,Bv] at e2
   cases q:own[i]? with
   |none=>rw[q] at e2;cases e2
   |some y=>rw[q] at e2;cases e2
  ·rw[Bi ‹hi›] at e2
   rw[Bi ∅] at e1;rwa[Ac] at e2;generalize i-own.length=j at e1 e2;rw[Bv] at e2
   cases q:ix[j]? with
   |none=>rw[q] at e2;cases e2
   |some i'=>
    rw[q] at e2;have e3:(Y[i']?).join=some v:=Option.some.inj e2
    have e4:Y[i']?=some (some v):=by
     cases z:Y[i']? with
     |none=>rw[z] at e3;cases e3
     |some w'=>rw[z] at e3;cases w' with
      |none=>cases e3
      |some _=>cases e3;rfl
    have hN:=Bz j i' x q e1;let⟨mm,hl⟩:=n.cap x (Bd e1);have hk:X.env.kindOf x=some .cell\/X.env.kindOf x=some .free:=n.free _ mm rfl;let⟨m0,hn0,hl0⟩:=I.loc
    have vis:Gb X.env.scope x:=by
     rcases hk with hk|hk
     ·exact .inr (.inl hk)
     ·exact .inr (.inr hk)
    let⟨u,r,l⟩:=hl0 i' x v hN e4 vis;refine{u,r,.inr {qO hl,?_}};let⟨c,hc,hcx⟩:=B.fr x hl;rcases l with⟨l,_⟩|⟨_,c',BW,z⟩
    ·exfalso
     rcases hk with hk|hk <;> rw[hk] at l <;> cases l
    ·rw[BW] at hcx;cases hcx
     let⟨o,ho,hd⟩:=z;exact{_,hc,o,old _ _ ho,hd}
 ·rcases B.src x c e with⟨z,_⟩|z
  ·let⟨v,o,ho,hd⟩:=I.cell x c z
   exact{v,o,old _ _ ho,hd}
  ·exact{none,DR x c e z}
 ·exact AE (show p∈([]:Tc) from hp) ∅
 ·show(fE _ ix Y).length=(own++caps).length
  unfold fE;simp[BQ]
def oF (X:Cx)(ifs:Tk)(t:TT):Prop :=
 ∀(A1:Tc) (s:A4) (Y:L2.St) (H:Hp) (Q:A9->Hp->Prop),aE X A1 Y H s->t Y H Q ->
  wpAny (model X.prog X.w) X.A (forIn ifs true λc r=>if r=true then do let ok ←isTrue c X.env (eval c X.env);pure (ForInStep.yield ok) else pure (ForInStep.yield r)) (TP X A1 Y Q) X.xe s
def C3:TT:=λ_ H Q=>Q true H
def vf:oF X [] C3:=λA1 s Y H Q I h=>wpAny_tests_nil {H,I,h}
theorem pK {prog:A7}{w:AB}{A:AH}{R:Result->A4->Prop}{s:A4}{elt target iter:AG}{ifs:Tk}{scope:Scope}{pos:Pos}{it acc:A5}{env:Env}(I:Nat->A4->Prop)
  (turn:∀n s,I n s->wpAny (model prog w) A (pyNext it) (λr s₁=>match r with
   |none=>R (.ok .next) s₁
   |some v=>wpAny (model prog w) A (letOwnedTupleGo target it v) (λ_ s₁'=>wpAny (model prog w) A (assign target env v) (λ_ s₂=>
     wpAny (model prog w) A (forIn ifs true λc r=>if r=true then do let ok ←isTrue c env (eval c env);pure (ForInStep.yield ok) else pure (ForInStep.yield r)) (λok s₃=>
      if ok=true then wpAny (model prog w) A (eval elt env) (λx s₄=>
       wpAny (model prog w) A (call (.builtin "list.append") [acc,x]) (λ_ s₅=>∃m,m<n/\I m s₅) (λ_ _=>False) s₄) (λ_ _=>False) s₃
      else ∃m,m<n/\I m s₃) (λ_ _=>False) s₂) (λ_ _=>False) s₁') (λ_ _=>False) s₁) (λ_ _=>False) s)
  (n:Nat) (h:I n s):codeAny (model prog w) A (.compLoop (.ListComp elt [{target,iter,ifs,0}] scope pos) 0 it acc env) R s:=by
 refine codeAny_loop rfl I (λn s hI=>?_) n h
 show wpAny _ A ((compTurn (.ListComp elt [{target,iter,ifs,0}] scope pos) 0 it acc env).onRaise (λx=>do noteFrame x env;theTreesLotGoes x)) _ _ s
 refine wpAny_noted ?_;rw[compTurn_list];refine AI (wpAny_standAt (AI (D1 (turn n s hI) (λr s₁ h₁=>?_) λ_ _ h'=>h'.elim)))
 cases r with
 |none=>exact AR h₁
 |some v=>
  refine AI (D1 h₁ (λ_ s₁' h₁'=>?_) λ_ _ h'=>h'.elim);refine AI (D1 h₁' (λ_ s₂ h₂=>AI (D1 h₂ (λok s₃ h₃=>?_) λ_ _ h'=>h'.elim)) λ_ _ h'=>h'.elim)
  cases ok with
  |false=>exact AR {rfl,h₃}
  |true=>
   exact AI (AI (D1 h₃ (λx s₄ h₄=>AI (D1 h₄ (λ_ s₅ h₅=>AR (AR {rfl,h₅})) λ_ _ h'=>h'.elim)) λ_ _ h'=>h'.elim))
def aE.adopt {X:Cx}{H:Hp}{s:A4}{a:A6}{o:HO}(I:aE X A1 Y H s)(f:jJ X A1 H a)(hs:X.s₀.heap.objs.size<=a)(new:b7 X.prog X.w (upd H a o) s.heap a o):aE X A1 Y (upd H a o) s:=by
 let⟨f0,f1,f2,f3,f4,f5⟩:=f;have ne:∀b u,H b=some u->b≠a:=λb u e z=>by rw[z,f0] at e;cases e
 refine{I.ok,I.os,I.bare,{I.base.keep,I.base.slot,λb ob q n hx'=>?_,I.base.there,λb xs q=>?_,λb ob u q=>?_,λb ps q=>?_},I.loc,I.cell,?_,λx c q=>?_,λp hp=>?_,λb u q=>?_,I.len}
 ·rw[L2.ay (Av (Ax (Ab q) hs))];exact I.base.free b ob q n hx'
 ·rw[L2.ay (ne _ _ (I.base.tups b xs q))];exact I.base.tups b xs q
 ·rw[L2.ay (ne _ _ (I.base.frzs b ob u q))];exact I.base.frzs b ob u q
 ·let⟨more,r⟩:=I.base.tbls b ps q;exact{more,by rw[L2.ay (ne _ _ r)];exact r}
 ·rw[L2.ay (Ne.symm f1)];exact I.free
 ·rw[L2.ay (f4 x c q)];exact I.freeC x c q
 ·let⟨q1,q2,q3⟩:=I.pin p hp;exact{q1,by rw[L2.ay (f5 p hp)];exact q2,q3}
 ·by_cases hb:b=a
  ·subst hb;rw[L2.cO] at q;cases q;exact new
  ·rw[L2.ay hb] at q;exact(I.hok b u q).stay (λc v _ q=>q) (λc r=>by rw[L2.ay (ne _ _ r)];exact r) λc xs r=>by rw[L2.ay (ne _ _ r)];exact r
def uD (ix:A0 Nat)(own:Tn)(wi:TI)(g:TG)(tc:TT)(te:TE):TE:=λY H Q=>wi Y H λJ H1=>
 ∃W:Nat->Nat->A0 V->L2.St->Hp->Prop,(∃n,W 0 n [] (fE (own.map λ_=>none) ix Y) H1)/\∀i n ys τ H,W i n ys τ H ->
  (J.stop i H/\∀p,H p=none->Q (.ref p) (upd H p (.lst ys))) \/
  (J.go i H/\ys.length<sizeLine/\∀x H',J.yld i H x H'->g x τ H' λτ2 H2=>tc τ2 H2 λb H3=>if b=true then te τ2 H3 λy H4=>∃n',n'<n/\W (i+1) n' (ys++[y]) τ2 H4 else ∃n',n'<n/\W (i+1) n' ys τ2 H3)
theorem iz:∀(names:A0 (Str×NameKind)) (k:Nat) (acc:A0 (Str×A6)),cellsFrom k names acc=cellsFrom k names []++acc
 |[],_,_=>rfl
 |(x,d)::r,k,acc=>by
  unfold cellsFrom;split
  ·rw[iz r (k+1) ((x,k)::acc),iz r (k+1) [(x,k)],Bu];rfl
  ·exact iz r k acc
theorem l0 {x:Str}{c:A6}:∀(names:A0 (Str×NameKind)) (k:Nat) (acc:A0 (Str×A6)),(x,c)∈cellsFrom k names acc->(x,c)∈acc\/(x,NameKind.cell)∈names
 |[],_,_,h=>.inl h
 |(y,d)::r,k,acc,h=>by
  unfold cellsFrom at h;split at h
  ·rename_i hk;rcases l0 r (k+1) _ h with h|h
   ·rcases Ad.mp h with e|e
    ·cases e;rw[←eq_of_beq hk];exact .inr Aw
    ·exact .inl e
   ·exact .inr (Au _ h)
  ·exact(l0 r k acc h).imp id (Au _)
theorem gq {x:Str}:∀(a b:A0 (Str×A6)),(a++b).lookup x=(a.lookup x).or (b.lookup x)
 |[],_=>rfl
 |(y,c)::a,b=>by
  rw[zbm,Bn,Bn];split
  ·rfl
  ·exact gq a b
def tU {X:Cx}{s₂ s₃:A4}{H₂:Hp}{E:Tb}{scope:Scope}{own caps:Tn}{cl:A0 (Str×A6)}{Q:Env->A4->Prop}(I:aE X A1 Y H₂ s₂)(n:bp X.env.scope scope own caps)(hs:s₂.heap.objs.size<s₃.heap.objs.size)
  (BR:∀x c,cl.lookup x=some c->X.env.cells.lookup x=some c) (Bh:∀y∈scope.names,y.2=.free->∃c,cl.lookup y.1=some c)
  (hQ:∀(h₁:AD) (cl':A0 (Str×A6)) (m:Td),(∀b o,s₃.heap.get? b=some o->h₁.get? b=some o)->h₁.Ns s₃.heap.objs.size m->EZ X scope s₂.heap.objs.size cl'->(∀x c,cl'.lookup x=some c->s₂.heap.objs.size<c->h₁.IsCell c none) ->
   Q {compEnvC scope cl' s₃.heap.objs.size X.env with scope:=scope} {s₃ with heap:=h₁}) :
  wpAny (model X.prog X.w) X.A (newFunctionEnv scope X.env.globals cl [] X.env.qual none .none (some X.env)) Q E s₃:=by
 rwa[newFunctionEnv,Option.isSome_some,if_true];refine AI (wpAny_alloc ?_);refine AI (wpAny_layCells _ (λname kind cells=>by cases hkc:kind == NameKind.cell <;> simp[hkc]) _ _ _ _ ?_);have ok:=cellsFrom_ok scope.names (s₃.heap.push {cls:=.type "dict",data:=.dict #[]}) (s₃.heap.objs.size+1) [] {λ_ _ hm=>(nomatch hm),List.Pairwise.nil} (by rw[BZ];exact Af _);have e1:=iz scope.names (s₃.heap.push {cls:=.type "dict",data:=.dict #[]}).objs.size cl;refine AR (hQ _ _ _ (λb o e=>pushCells_keeps _ _ b o (AU _ e)) ((Heap.Ns.new s₃.heap (.type "dict")).keeps (pushCells_keeps _ _)) ?_ ?_)
 all_goals
  rw[e1];generalize hO:cellsFrom (s₃.heap.push {cls:=.type "dict",data:=.dict #[]}).objs.size scope.names []=Oz at ok e1;have own:∀{x c},Oz.lookup x=some c->(pushCells (s₃.heap.push {cls:=.type "dict",data:=.dict #[]}) scope.names).IsCell c none/\s₂.heap.objs.size<c:=λ{x c} h=>{(ok.empty x c (PySem.mem_of_lookup h)).1,DJ hs (ok.empty x c (PySem.mem_of_lookup h)).2}
  have ol:∀{x c},cl.lookup x=some c->c<s₂.heap.objs.size:=λ{x c} h=>by
   let⟨v,o,q,_⟩:=I.cell x c (BR x c h);exact Ab q
  have spl:∀{x c},(Oz++cl).lookup x=some c->Oz.lookup x=some c\/(Oz.lookup x=none/\cl.lookup x=some c):=λ{x c} h=>by
   rw[gq] at h
   cases q:Oz.lookup x with
   |none=>rw[q] at h;exact .inr {rfl,h}
   |some d=>rw[q] at h;exact .inl h
 ·refine{λx c h=>?_,λx y c h1 h2=>?_,λy hy hk=>?_,λy hy=>?_}
  ·rcases spl h with h|⟨h1,h2⟩
   ·exact .inr (own h).2
   ·refine .inl {BR x c h2,λz=>?_}
    have:=zbi scope.names (s₃.heap.push {cls:=.type "dict",data:=.dict #[]}).objs.size [] (.inl z);rw[hO,h1] at this;cases this
  ·rcases spl h1 with h1|⟨_,h1⟩ <;> rcases spl h2 with h2|⟨_,h2⟩
   ·exact PySem.name_of_addr ok.apart (PySem.mem_of_lookup h1) (PySem.mem_of_lookup h2)
   ·exact AE (DJ (own h1).2 (ol h2)) (BK _)
   ·exact AE (DJ (own h2).2 (ol h1)) (BK _)
   ·exact I.ok.inj x y c (BR x c h1) (BR y c h2)
  ·rw[gq]
   cases q:Oz.lookup y.1 with
   |some d=>exact{d,rfl}
   |none=>
    rcases hk with hk|hk
    ·exact Bh y hy hk
    ·have:=zbi scope.names (s₃.heap.push {cls:=.type "dict",data:=.dict #[]}).objs.size [] (.inl (n.cell y hy hk))
     rw[hO,q] at this;cases this
  ·let⟨c,hc⟩:=Bh _ (lM hy) rfl
   refine{c,?_,BR y c hc};rw[gq]
   cases q:Oz.lookup y with
   |none=>exact hc
   |some d=>
    rw[←hO] at q;rcases l0 _ _ _ (PySem.mem_of_lookup q) with z|z
    ·cases z
    ·have:=n.cell _ z rfl
     rw[hy] at this;cases this
 ·intro x c h hc
  rcases spl h with h|⟨_,h⟩
  ·exact(own h).1
  ·exact AE (DJ hc (ol h)) (BK _)
def tO {X:Cx}{A1:Tc}{Y:L2.St}{s₂:A4}{H₂:Hp}{E:Tb}{elt tg iter:AG}{ifs:Tk}{scope:Scope}{pos:Pos}{own caps:Tn}{ix:A0 Nat}{g:TG}{tc:TT}{te:TE}{Q:VK}{cl:A0 (Str×A6)}
  {it:A6} {fp:Tf} {tn:Nat->AD->Prop} {J:It} {RR:A5->A6->Result->A4->Prop}
  (hc:X.calm=true) (I:aE X A1 Y H₂ s₂) (T:tY X.prog X.w X.K tg J fp it tn) (st:tn 0 s₂.heap) (hf:∀b∈fp,jJ X A1 H₂ b) (n:bp X.env.scope scope own caps)
  (BR:∀x c,cl.lookup x=some c->X.env.cells.lookup x=some c) (Bh:∀y∈scope.names,y.2=.free->∃c,cl.lookup y.1=some c)
  (BQ:ix.length=caps.length) (Bz:∀(j i:Nat) y,ix[j]?=some i->caps[j]?=some y->X.N[i]?=some y)
  (hg:∀cl C,PG (bi X scope cl C s₂ H₂ fp (own++caps)) tg g) (ht:∀cl C,oF (bi X scope cl C s₂ H₂ fp (own++caps)) ifs tc) (he:∀cl C,PE (bi X scope cl C s₂ H₂ fp (own++caps)) elt te)
  (W:Nat->Nat->A0 V->L2.St->Hp->Prop) (hW0:∃n,W 0 n [] (fE (own.map λ_=>none) ix Y) H₂)
  (hW:∀i n ys τ H,W i n ys τ H->(J.stop i H/\∀p,H p=none->Q (.ref p) (upd H p (.lst ys))) \/
   (J.go i H/\ys.length<sizeLine/\∀x H',J.yld i H x H'->g x τ H' λτ2 H2=>tc τ2 H2 λb H3=>if b=true then te τ2 H3 λy H4=>∃n',n'<n/\W (i+1) n' (ys++[y]) τ2 H4 else ∃n',n'<n/\W (i+1) n' ys τ2 H3))
  (hRR:∀(D C:A6) (s':A4) m H' ys,s'.heap.Ns C m->aE X A1 Y (upd H' D (.lst ys)) s'->jJ X A1 (upd H' D (.lst ys)) C->Q (.ref D) (upd H' D (.lst ys))->RR (.ref D) C (.ok .next) s') :
  wpAny (model X.prog X.w) X.A (newList []) (λacc s₃=>wpAny (model X.prog X.w) X.A (newFunctionEnv scope X.env.globals cl [] X.env.qual none .none (some X.env)) (λcenv s₄=>
   codeAny (model X.prog X.w) X.A (.compStart (.ListComp elt [{tg,iter,ifs,0}] scope pos) 0 (.ref it) acc {cenv with scope:=relabel scope X.env}) (RR acc cenv.locals) s₄) E s₃) E s₂:=by
 refine za6 (tU (s₂:=s₂) I n (by show s₂.heap.objs.size<(s₂.heap.push _).objs.size;rw[BZ];exact zbv _) BR Bh λh₁ cl m₁ kp1 DG B DR=>?_);dsimp only at DG kp1 ⊢;generalize hH2:s₂.heap.push {cls:=.type "list",dict:=none,data:=.seq ([]:Te).toArray}=H2 at DG kp1 ⊢
 have hC:H2.objs.size=s₂.heap.objs.size+1:=by rw[←hH2,BZ]
 have below:∀b,b<s₂.heap.objs.size->b≠H2.objs.size/\b≠s₂.heap.objs.size:=λb hb=>{by rw[hC];exact Av (Bt hb),Av hb}
 have hDC:s₂.heap.objs.size≠H2.objs.size:=by rw[hC];exact Av (zbv _)
 have old:∀b o,s₂.heap.get? b=some o->h₁.get? b=some o:=λb o e=>kp1 b o (hH2 ▸ AU _ e);have B0:h₁.get? s₂.heap.objs.size=some {cls:=.type "list",data:=.seq ([]:Te).toArray}:=kp1 _ _ (hH2 ▸ B1 _ rfl)
 have DH:∀b∈fp,b<s₂.heap.objs.size:=λb hb=>by let⟨o,e,_⟩:=T.obj _ _ st b hb;exact Ab e
 have Dj:s₂.heap.objs.size<=H2.objs.size:=by rw[hC];exact Nat.le_succ _
 have hfC:∀b∈fp,b<H2.objs.size:=λb hb=>Ax (DH b hb) Dj;have st1:tn 0 h₁:=T.keep 0 _ _ st λb _ o e=>old b o e;have I₀:=pM (tk:=s₂.toks) I n B Dj DH hf DR BQ Bz old DG;clear DG kp1
 have cellD:∀x c,cl.lookup x=some c->c≠s₂.heap.objs.size:=λx c e=>by
  rcases B.src x c e with⟨z,_⟩|z
  ·let⟨v,o,q,_⟩:=I.cell x c z;exact Av (Ab q)
  ·exact Ne.symm (Av z)
 have stkD:∀b∈tD X.stack,b<s₂.heap.objs.size:=λb hb=>by
  rcases Ad.mp (I.stkSub b hb) with e|e
  ·rw[e];exact I.lt
  ·let⟨_,o,q,_⟩:=I.funs.mem e;exact Ab q
 have fpok:∀{ps:Tc} {H:Hp},(∀b∈fp,H b=none)->(∀p∈ps,p.1∉fp)->∀b∈fp,jJ (bi X scope cl H2.objs.size s₂ H₂ fp (own++caps)) ps H b:=λ{ps H} hn hp b hb=>
  {hn b hb,Av (hfC b hb),λz=>by
   rcases Ad.mp (I.stkSub b z) with e|e
   ·exact(hf b hb).2.1 e
   ·exact(hf b hb).2.2.1 e,.inl hb,λx c e=>B.ne (hf b hb) (DH b hb) e,λp hp' z=>hp p (by simpa[bi] using hp') (z ▸ hb)}
 have Dfp:s₂.heap.objs.size∉fp:=λz=>BK _ (DH _ z)
 have pinD:∀{H:Hp} {h:AD} {its:Te} {k:Nat},H s₂.heap.objs.size=none->h.get? s₂.heap.objs.size=some {cls:=.type "list",data:=.seq its.toArray k} ->
   ∀p∈[((s₂.heap.objs.size,{cls:=.type "list",data:=.seq its.toArray k}):A6×Obj)],h.get? p.1=some p.2/\H p.1=none/\p.1≠H2.objs.size/\p.1∉tD X.stack/\∀v,p.2.data≠.cell v:=λ{H h its k} hn e p hp=>by
  rw[BA.mp hp];exact{e,hn,hDC,λz=>BK _ (stkD _ z),λv z=>by cases z}
 have fL:∀s₃:A4,s₃={s₂ with heap:=h₁} ->
   codeAny (model X.prog X.w) X.A (.compLoop (.ListComp elt [{tg,iter,ifs,0}] scope pos) 0 (.ref it) (.ref s₂.heap.objs.size) (compEnvC scope cl H2.objs.size X.env)) (RR (.ref s₂.heap.objs.size) H2.objs.size) s₃:=by
  rintro s₃ rfl;let⟨n0,hW0⟩:=hW0
  refine pK (λn s'=>∃i ys its k τ H,aE (bi X scope cl H2.objs.size s₂ H₂ fp (own++caps)) [(s₂.heap.objs.size,{cls:=.type "list",data:=.seq its.toArray k})] τ H s'/\tn i s'.heap/\(∀b∈fp,H b=none)/\aO ys its/\ys.length<=sizeLine/\W i n ys τ H) ?_ n0
   {0,[],[],0,_,H₂,I₀.pins_of (pinD (I.hok.fresh (Af _)) B0),st1,λb hb=>(hf b hb).1,.nil,zbt _,hW0}
  rintro n s3 ⟨i,ys,its,k,τ,H,I3,st3,fr3,rv,hz,w3⟩;have hD3:=I3.pin _ (BG _ Aw)
  have pfp:∀p∈[((s₂.heap.objs.size,{cls:=.type "list",data:=.seq its.toArray k}):A6×Obj)],p.1∉fp:=λp hp=>by rw[BA.mp hp];exact Dfp
  rcases hW i n ys τ H w3 with⟨stop,q⟩|⟨go,Ap,step⟩
  ·refine ck (T.done (bi X scope cl H2.objs.size s₂ H₂ fp (own++caps)) rfl rfl rfl hc i _ s3 τ H (λ_ _=>False) I3 (fpok fr3 pfp) st3 stop) λr s4 hh=>?_
   let⟨hr,I4⟩:=hh;subst hr;have hD4:=I4.pin _ (BG _ Aw);let⟨m,hm,_⟩:=id I4.loc;have IX:aE X A1 Y H s4:=I.call' (ch:=fp) I4.os I4.base I4.hok I4.bare λb hb=>{(hf b hb).2.2.2.1,(hf b hb).2.1,(hf b hb).2.2.2.2};have fD:jJ X A1 H s₂.heap.objs.size:=I.fpOk (Af _) hD4.2.1;have IY:=aE.adopt (o:=.lst ys) IX fD I.sz {hz,its,k,rv,hD4.1};exact hRR _ _ s4 m H ys hm IY (I.fpOk Dj (by rw[L2.ay (Ne.symm hDC)];exact I4.free)) (q _ hD4.2.1)
  ·refine ck (T.item (bi X scope cl H2.objs.size s₂ H₂ fp (own++caps)) rfl rfl rfl hc i _ s3 τ H (λ_ _=>False) I3 (fpok fr3 pfp) st3 go) λr s4 hh=>?_
   let⟨u,hr,h4⟩:=hh;subst hr;refine ck h4 λ_ s5 hh=>?_;let⟨x,H5,I5,r5,y5,DB,fr5⟩:=hh;have I5':=I5.pinned (fpok fr5 pfp) (T.obj _ _ DB);refine ck (hg _ _ _ s5 τ H5 x u _ I5' r5 (step x H5 y5)) λ_ s6 hh=>?_;let⟨Y6,H6,I6,q6⟩:=hh;refine ck (ht _ _ _ s6 Y6 H6 _ I6 q6) λok s7 hh=>?_;let⟨H7,I7,q7⟩:=hh;have memD:∀p∈i0 fp s5.heap,p.1≠s₂.heap.objs.size:=λp hp z=>Dfp (z ▸ (nw hp).1)
   cases ok with
   |true=>
    refine ck (he _ _ _ s7 Y6 H7 _ I7 q7) λu8 s8 hh=>?_;let⟨y,H8,I8,r8,n',Bg,w8⟩:=hh;have hD8:=I8.pin (s₂.heap.objs.size,_) (BG _ (zbl _ Aw));refine append_at (hsz:=by rw[Ao,←rv.length];exact hz) hD8.1 λh9 sb hD9=>?_;have I8':aE (bi X scope cl H2.objs.size s₂ H₂ fp (own++caps)) (i0 fp s5.heap) Y6 H8 s8:=I8.pins_of λp hp=>I8.pin p (BG _ (BG _ hp))
    have I9:aE (bi X scope cl H2.objs.size s₂ H₂ fp (own++caps)) (i0 fp s5.heap) Y6 H8 {s8 with heap:=h9}:=I8'.turned (t':=s8.toks) (it:=s₂.heap.objs.size) (λb o hb e=>sb.extBut b o hb e) hD8.2.1 hDC (.inr (Af _))
     cellD λp hp=>memD p (by simpa[bi] using hp)
    have e9:(its.toArray.push u8)=(its++[u8]).toArray:=by simp
    rw[e9] at hD9;refine{n',Bg,i+1,ys++[y],its++[u8],k+1,Y6,H8,I9.pins_of (pinD hD8.2.1 hD9),T.keep _ _ _ DB λb hb o e=>(I9.pin (b,o) (BG _ (dB hb e))).1,λb hb=>?_,rv.append (.cons r8 .nil),by rw[BD];exact Ap,w8};let⟨o,e,d⟩:=T.obj _ _ DB b hb;exact(I9.pin (b,o) (BG _ (dB hb e))).2.1
   |false=>
    let⟨n',Bg,w8⟩:=q7;have hD7:=I7.pin (s₂.heap.objs.size,_) (BG _ (zbl _ Aw));refine{n',Bg,i+1,ys,its,k,Y6,H7,I7.pins_of (pinD hD7.2.1 hD7.1),T.keep _ _ _ DB λb hb o e=>(I7.pin (b,o) (BG _ (BG _ (dB hb e)))).1,λb hb=>?_,rv,hz,w8};let⟨o,e,d⟩:=T.obj _ _ DB b hb;exact(I7.pin (b,o) (BG _ (BG _ (dB hb e)))).2.1
 exact codeAny_compStart_list (fL _ rfl) (T.self _ 0 _ _ _ st1 (fL _ rfl))
def vn {X:Cx}{elt tg iter:AG}{ifs:Tk}{scope:Scope}{pos:Pos}{own caps:Tn}{ix:A0 Nat}{wi:TI}{g:TG}{tc:TT}{te:TE}(hc:X.calm=true)(n:bp X.env.scope scope own caps)
  (BQ:ix.length=caps.length) (Bz:∀(j i:Nat) y,ix[j]?=some i->caps[j]?=some y->X.N[i]?=some y) (hi:PI X tg iter wi)
  (hb:∀cl C s₂ H₂ fp,PG (bi X scope cl C s₂ H₂ fp (own++caps)) tg g/\oF (bi X scope cl C s₂ H₂ fp (own++caps)) ifs tc/\PE (bi X scope cl C s₂ H₂ fp (own++caps)) elt te)
  (hs:∀x,foldedSetIterable iter X.env x=pure x:=by intro _;rfl):PE X (.ListComp elt [{tg,iter,ifs,0}] scope pos) (uD ix own wi g tc te):=by
 intro A1 s Y H Q I h;let⟨cl,hclos,BR,Bh⟩:=qM (env:=X.env) (scope:=scope) λy hy hf=>I.ok.has y.1 (n.free y hy hf);rw[eval_ListComp];refine wpAny_comprehension_free (use:=none) rfl hs hclos n.kind n.loc (ck (hi A1 s Y H _ I h) λv s1 h1=>ck h1 λitv s2 h2=>?_);let⟨it,fp,tn,J,H2,e,I2,T,st2,f2,W,w0,turn⟩:=h2;subst e;refine tO (RR:=λacc C=>compPost (model X.prog X.w) X.A X.xe none (EP X A1 Y Q) acc C) hc I2 T st2 f2 n BR Bh BQ Bz (λcl C=>(hb cl C s2 H2 fp).1) (λcl C=>(hb cl C s2 H2 fp).2.1) (λcl C=>(hb cl C s2 H2 fp).2.2) W w0 turn ?_;intro D C s' m H' ys hm IY fC q;refine{m,hm,λh' sb=>{.ref D,_,IY.turned (t':=s'.toks) (it:=C) (λb o hb e=>sb.extBut b o hb e) fC.1 fC.2.1 fC.2.2.2.1 fC.2.2.2.2.1 fC.2.2.2.2.2,rfl,q}}
section
variable {K:AF}{m:Tf}{Y:L2.St}{H:Hp}{U:ac}
def JBi {B:A9->Hp->Prop}(h:fm K jG Y H B):C3 Y H B:=by let⟨O,U,m,d,U',hl,hs,e,k⟩:=h;cases e;exact k H m .refl hs
def tR {O:Lo}{k:Nat}{ix:A0 Nat}{own:Tn}(hk:own.length=k)(h:c9 K m H O Y):c9 K m H (cT k ix O) (fE (own.map λ_=>none) ix Y):=by
 subst hk;unfold cT fE;refine{by simp,λi d e=>?_};by_cases hi:i<own.length
 ·rw[B3 ‹hi›,zbg] at e;split at e <;> cases e
 ·rw[Bi ‹hi›] at e;rw[Bi ‹hi›];rwa[List.length_replicate,Ac] at e ⊢;generalize i-own.length=j at e ⊢;rw[Bv] at e ⊢
  cases q:ix[j]? with
  |none=>rw[q] at e;cases e
  |some i'=>
   rw[q] at e;have e3:(O[i']?).join=some d:=Option.some.inj e;have e4:O[i']?=some (some d):=by
    cases z:O[i']? with
    |none=>rw[z] at e3;cases e3
    |some w'=>rw[z] at e3;cases w' with
     |none=>cases e3
     |some _=>cases e3;rfl
   let⟨v,q1,q2⟩:=h.2 i' d e4;exact{v,by simp[q1],q2}
end
mutual
noncomputable def jq:D->PyData
 |.non=>.none
 |.bl b=>.bool b
 |.int i=>.int i
 |.str x=>.str x
 |.tup xs=>.tuple (toPys xs)
 |.fl xs=>.list (toPys xs)
 |.fd _ _=>.none
 |.key _=>.none
noncomputable def toPys:A0 D->A0 PyData
 |[]=>[]
 |x::xs=>jq x::toPys xs
end
mutual
noncomputable def dk:Nat->D->A9
 |_,.non=>true
 |_,.bl _=>true
 |_,.int _=>true
 |_,.str x=>PyData.strOk x
 |_,.fd _ _=>false
 |_,.key _=>false
 |0,.tup _=>false
 |0,.fl _=>false
 |n+1,.tup xs=>okDs n xs
 |n+1,.fl xs=>okDs n xs
noncomputable def okDs:Nat->A0 D->A9
 |_,[]=>true
 |n,x::xs=>dk n x&&okDs n xs
end
mutual
noncomputable def iH:D->D->A9
 |.bl a,y=>match y with|.bl b=>a == b|.int j=>(if a then 1 else 0) == j|_=>false
 |.int i,y=>match y with|.bl b=>i == (if b then 1 else 0)|.int j=>i == j|_=>false
 |.str x,y=>match y with|.str z=>x == z|_=>false
 |.tup xs,y=>match y with|.tup ys=>eqDs xs ys|_=>false
 |.fl xs,y=>match y with|.fl ys=>eqDs xs ys|_=>false
 |_,y=>match y with|.non=>true|.fd _ _=>true|.key _=>true|_=>false
noncomputable def eqDs:A0 D->A0 D->A9
 |[],[]=>true
 |x::xs,y::ys=>iH x y&&eqDs xs ys
 |_,_=>false
end
def tF (x y:D)(xs ys:A0 D):eqDs (x::xs) (y::ys)=(iH x y&&eqDs xs ys):=rfl
mutual
theorem qJ:∀a b:D,PyData.eqv (jq a) (jq b)=iH a b
 |.non,b=>by cases b <;> rfl
 |.bl _,b=>by cases b <;> rfl
 |.int _,b=>by cases b <;> rfl
 |.str _,b=>by cases b <;> rfl
 |.tup xs,b=>by
  cases b with
  |tup ys=>exact eqDs_py xs ys
  |_=>rfl
 |.fl xs,b=>by
  cases b with
  |fl ys=>exact eqDs_py xs ys
  |_=>rfl
 |.fd _ _,b=>by cases b <;> rfl
 |.key _,b=>by cases b <;> rfl
theorem eqDs_py:∀a b:A0 D,PyData.eqvAll (toPys a) (toPys b)=eqDs a b
 |[],b=>by cases b <;> rfl
 |x::xs,b=>by
  cases b with
  |nil=>rfl
  |cons y ys=>rw[tF,←qJ x y,←eqDs_py xs ys];rfl
end
mutual
theorem vv:∀(n:Nat) (d:D),dk n d=true->(jq d).canLay0=true/\(jq d).depth<=n
 |_,.non,_=>by simp[jq,PyData.canLay0,PyData.depth]
 |_,.bl _,_=>by simp[jq,PyData.canLay0,PyData.depth]
 |_,.int _,_=>by simp[jq,PyData.canLay0,PyData.depth]
 |n,.str x,h=>by
  have h:PyData.strOk x=true:=by cases n <;> simpa[dk] using h
  simp[jq,PyData.canLay0,PyData.depth,h]
 |n,.fd _ _,h=>by cases n <;> simp[dk] at h
 |n,.key _,h=>by cases n <;> simp[dk] at h
 |0,.tup _,h=>by simp[dk] at h
 |0,.fl _,h=>by simp[dk] at h
 |n+1,.tup xs,h=>by let⟨a,b⟩:=okDs_py n xs (by simpa[dk] using h);rwa[jq,PyData.canLay0,PyData.depth];exact{a,by omega}
 |n+1,.fl xs,h=>by let⟨a,b⟩:=okDs_py n xs (by simpa[dk] using h);rwa[jq,PyData.canLay0,PyData.depth];exact{a,by omega}
theorem okDs_py:∀(n:Nat) (ds:A0 D),okDs n ds=true->PyData.canLayAll0 (toPys ds)=true/\PyData.depthAll (toPys ds)<=n
 |_,[],_=>by simp[toPys,PyData.canLayAll0,PyData.depthAll]
 |n,x::xs,h=>by
  have h':dk n x=true/\okDs n xs=true:=by cases n <;> simpa[okDs] using h
  let⟨a1,b1⟩:=vv n x h'.1;let⟨a2,b2⟩:=okDs_py n xs h'.2;rwa[toPys,PyData.canLayAll0,PyData.depthAll,a1,a2,Bool.and_self,true_and];omega
end
def ir {d:D}(h:dk 60 d=true):SeqAt.shaped (jq d)=true:=by let⟨a,b⟩:=vv 60 d h;unfold SeqAt.shaped;rw[a,Bool.true_and];exact Bk ∅
section
variable {X:Cx}{A1:Tc}{Y:L2.St}{H:Hp}{s:A4}
mutual
theorem o0 (I:aE X A1 Y H s):∀(k:Nat) (d:D) (v:V) (u:A5),dk k d=true->al X.K H d v->aW v u->∃as,Reads s.heap u (jq d) as
 |_,.non,v,u,_,h,r=>by rwa[al] at h;subst h;cases r;exact{_,.none}
 |_,.bl b,v,u,_,h,r=>by rwa[al] at h;subst h;cases r;exact{_,.bool b}
 |_,.int i,v,u,_,h,r=>by rwa[al] at h;subst h;let⟨t,rfl⟩:=r;exact{_,.int i t}
 |_,.str x,v,u,_,h,r=>by rwa[al] at h;subst h;let⟨t,rfl⟩:=r;exact{_,.str x t}
 |_,.fd _ _,v,u,hk,h,r=>by simp[dk] at hk
 |_,.key _,v,u,hk,h,r=>by simp[dk] at hk
 |0,.tup xs,v,u,hk,h,r=>by simp[dk] at hk
 |0,.fl xs,v,u,hk,h,r=>by simp[dk] at hk
 |k+1,.tup xs,v,u,hk,h,r=>by rwa[al] at h;let⟨a,vs,rfl,q,h⟩:=h;cases r;let⟨its,rv,⟨o,e,c,n,hd⟩,_⟩:=I.tuple q;let⟨as,ra⟩:=readss_of I k xs vs its (by simpa[dk] using hk) h rv;exact{_,.tuple e c hd ‹ra›}
 |k+1,.fl xs,v,u,hk,h,r=>by rwa[al] at h;let⟨a,vs,rfl,q,h⟩:=h;cases r;let⟨its,rv,⟨o,n,e,c,_,hd⟩,_⟩:=I.list q.sq;let⟨as,ra⟩:=readss_of I k xs vs its (by simpa[dk] using hk) h rv;exact{_,.list e c hd ‹ra›}
theorem readss_of (I:aE X A1 Y H s):∀(k:Nat) (ds:A0 D) (vs:A0 V) (us:Te),okDs k ds=true->RelDs X.K H ds vs->aO vs us->∃as,ReadsAll s.heap us (toPys ds) as
 |_,[],vs,us,_,h,r=>by rwa[RelDs] at h;subst h;cases r;exact{_,.nil}
 |k,d::ds,vs,us,hk,h,r=>by
  have hk:dk k d=true/\okDs k ds=true:=by cases k <;> simpa[okDs] using hk
  rwa[RelDs] at h;let⟨v,vr,rfl,h1,h2⟩:=h
  cases r with
  |cons r1 r2=>
   let⟨as,q1⟩:=o0 I k d v _ hk.1 h1 r1;let⟨bs,q2⟩:=readss_of I k ds vr _ hk.2 h2 r2;exact{_,.cons q1 q2}
end
end
noncomputable def ll:R->ac->Jo D
 |.v d,_=>some d
 |.p n,U=>match U[n]? with|some (.lst xs)=>some (.fl xs)|some (.fz xs)=>some (.fl xs)|_=>none
 |_,_=>none
noncomputable def gM (neg:A9):R->R->ac->Jo (R×ac):=λx y U=>(ll x U).bind λa=>(ll y U).bind λb=>if (dk 60 a&&dk 60 b)=true then some (.v (.bl (if neg then !iH a b else iH a b)),U) else none
def AY (K:AF)(neg:A9):R2:=λv u H Q=>∃m U x y d,aS K m H U/\ao K m H x v/\ao K m H y u/\gM neg x y U=some (.v (.bl d),U)/\Q (.bl d) H
def B4 {neg:A9}:me K (gM neg) (AY K neg):=by
 intro m H U x y d U' v u Q s rx ry e k;have e0:=e;unfold gM at e;let⟨a,e1,e⟩:=AM.mp e;let⟨b,e2,e⟩:=AM.mp e;split at e
 ·cases e;exact{m,U,x,y,_,s,rx,ry,e0,k _ H m .refl s (by rwa[ao,al])}
 ·cases e
theorem gf {X:Cx}{H:Hp}{s:A4}{m:Tf}{U:ac}{x:R}{d:D}{v:V}{u:A5}(I:aE X A1 Y H s)(S:aS X.K m H U)(r:ao X.K m H x v)(ru:aW v u)(e:ll x U=some d)(hk:dk 60 d=true):∃as,Reads s.heap u (jq d) as:=by
 cases x with
 |v d'=>cases e;exact o0 I 60 _ _ _ hk r ru
 |s _ _=>cases e
 |x _=>cases e
 |f _ _=>cases e
 |p n=>
  have hl:∃xs,d=.fl xs/\i3 (.p n) U=some xs:=by
   rwa[ll] at e;split at e
   ·rename_i xs q;cases e;exact{xs,rfl,by simp[i3,q]}
   ·rename_i xs q;cases e;exact{xs,rfl,by simp[i3,q]}
   ·cases e
  let⟨xs,rfl,e2⟩:=hl;let⟨a,vs,rfl,q,rr⟩:=hJ S r e2;cases ru;let⟨its,rv,⟨o,n',e,c,_,hd⟩,_⟩:=I.list q;let⟨as,ra⟩:=readss_of I 59 xs vs its (by simpa[dk] using hk) rr rv;exact{_,.list e c hd ‹ra›}
def vt {X:Cx}(hu:X.A.units+64<cLine):iD X (compareOp .Eq) (AY X.K false):=by
 intro A1 s Y H v u v' u' Q I rv ru q;let⟨m,U,x,y,d,S,rx,ry,e,q⟩:=q;unfold gM at e;let⟨a,e1,e⟩:=AM.mp e;let⟨b,e2,e⟩:=AM.mp e;split at e
 ·rename_i z;rw[za9] at z;cases e;let⟨as,r1⟩:=gf I S rx rv e1 z.1;let⟨bs,r2⟩:=gf I S ry ru e2 z.2;exact eq_dataH r1 r2 (ir z.1) (ir z.2) hu {_,H,I,by rw[qJ];rfl,q}
 ·cases e
def JCw {X:Cx}(hu:X.A.units+64<cLine):iD X (compareOp .NotEq) (AY X.K true):=by
 intro A1 s Y H v u v' u' Q I rv ru q;let⟨m,U,x,y,d,S,rx,ry,e,q⟩:=q;unfold gM at e;let⟨a,e1,e⟩:=AM.mp e;let⟨b,e2,e⟩:=AM.mp e;split at e
 ·rename_i z;rw[za9] at z;cases e;let⟨as,r1⟩:=gf I S rx rv e1 z.1;let⟨bs,r2⟩:=gf I S ry ru e2 z.2;exact ne_dataH r1 r2 (ir z.1) (ir z.2) hu {_,H,I,by rw[qJ];rfl,q}
 ·cases e
noncomputable def Cs (neg:A9)(c:D):R->ac->Jo (R×ac):=λx U=>match c,x with
 |.non,.v .non=>some (.v (.bl (!neg)),U)
 |.bl b,.v (.bl a)=>some (.v (.bl (if neg then !(a == b) else a == b)),U)
 |_,_=>some (.v (.bl neg),U)
def AX (neg:A9)(c:V):R2:=λx y H Q=>y=c/\Q (.bl (if neg then !decide (x=c) else decide (x=c))) H
section
variable {X:Cx}
def vq:iD X (compareOp .Is) (AX false .non):=JCz
end
def JB6 {m:Tf}{H:Hp}{neg:A9}{c:D}{cv v:V}{x d:R}{U U':ac}(hc:(c=.non/\cv=.non)\/∃b,c=.bl b/\cv=.bl b)(r:ao K m H x v)(e:Cs neg c x U=some (d,U')) :
  U'=U/\d=.v (.bl (if neg then !decide (v=cv) else decide (v=cv))):=by
 have fin:v≠cv->some (R.v (.bl neg),U)=some (d,U')->U'=U/\d=.v (.bl (if neg then !decide (v=cv) else decide (v=cv))):=λh e=>by
  cases e;cases neg <;> simp[h]
 have nn:∀d0,d0≠.non->al K H d0 v->v≠.non:=λd0 h1 h2 z=>by
  subst z;cases d0 <;> rwa[al] at h2 <;> first|exact h1 rfl|(let⟨_,_,_,h,_⟩:=h2;cases h;done)|(let⟨_,_,h,_⟩:=h2;cases h;done)|(let⟨_,h,_⟩:=h2;cases h;done)|cases h2
 have nb:∀d0 b,(∀a,d0≠.bl a)->al K H d0 v->v≠.bl b:=λd0 b h1 h2 z=>by
  subst z;cases d0 <;> rwa[al] at h2 <;> first|exact h1 _ rfl|(let⟨_,_,_,h,_⟩:=h2;cases h;done)|(let⟨_,_,h,_⟩:=h2;cases h;done)|(let⟨_,h,_⟩:=h2;cases h;done)|cases h2
 have np:∀n,ao K m H (.p n) v->v≠.non/\∀b,v≠.bl b:=λn ⟨a,e,_⟩=>{λz=>(by rw[e] at z;cases z),λb z=>(by rw[e] at z;cases z)};have ns:∀b' n,ao K m H (.s b' n) v->v≠.non/\∀b,v≠.bl b:=λb' n ⟨a,_,e,_⟩=>{λz=>(by rw[e] at z;cases z),λb z=>(by rw[e] at z;cases z)};have nx:∀c,ao K m H (.x c) v->v≠.non/\∀b,v≠.bl b:=λc ⟨a,_,_,e,_⟩=>{λz=>(by rw[e] at z;cases z),λb z=>(by rw[e] at z;cases z)};have nf:∀L ds,ao K m H (.f L ds) v->v≠.non/\∀b,v≠.bl b:=λL ds ⟨a,_,_,_,_,e,_⟩=>{λz=>(by rw[e] at z;cases z),λb z=>(by rw[e] at z;cases z)};rcases hc with⟨rfl,rfl⟩|⟨b,rfl,rfl⟩
 ·cases x with
  |v d0=>
   by_cases h0:d0=.non
   ·subst h0
    have r:v=.non:=by simpa only[ao,al] using r
    subst r;cases e;cases neg <;> simp
   ·have:=nn d0 h0 r
    cases d0 <;> first|exact AE rfl h0|exact fin this e
  |p n=>have:=(np n r).1;exact fin this e
  |s b' n=>have:=(ns b' n r).1;exact fin this e
  |x c=>have:=(nx c r).1;exact fin this e
  |f L ds=>have:=(nf L ds r).1;exact fin this e
 ·cases x with
  |v d0=>
   by_cases h0:∃a,d0=.bl a
   ·let⟨a,rfl⟩:=h0
    have r:v=.bl a:=by simpa only[ao,al] using r
    subst r;cases e;cases neg <;> cases a <;> cases b <;> simp
   ·have:=nb d0 b (λa z=>h0 {a,z}) r
    cases d0 <;> first|exact AE {_,rfl} h0|exact fin this e
  |p n=>have:=(np n r).2 b;exact fin this e
  |s b' n=>have:=(ns b' n r).2 b;exact fin this e
  |x c=>have:=(nx c r).2 b;exact fin this e
  |f L ds=>have:=(nf L ds r).2 b;exact fin this e
def Dm {H:Hp}{Q:VK}{fa:FE}{neg:A9}{c:D}{cv:V}(hc:(c=.non/\cv=.non)\/∃b,c=.bl b/\cv=.bl b)(h:aA K (d9 (Cs neg c) fa) Y H Q):Al (AX neg cv) (aA K fa) (tC cv) Y H Q:=by let⟨O,U,m,d,U',hl,hs,e,k⟩:=h;let⟨⟨x,U1⟩,e1,e⟩:=AM.mp e;refine{O,U,m,x,U1,hl,hs,e1,λv H1 m1 x1 s1 r1=>{rfl,?_}};let⟨rfl,rfl⟩:=JB6 hc r1 e;exact k _ H1 m1 x1 s1 (by rwa[ao,al])
noncomputable def Iw:R->ac->Jo String
 |.v .non,_=>some "NoneType"
 |.v (.bl _),_=>some "bool"
 |.v (.int _),_=>some "int"
 |.v (.str _),_=>some "str"
 |.v (.tup _),_=>some "tuple"
 |.v (.fl _),_=>some "list"
 |.v (.fd _ _),_=>some "dict"
 |.v (.key _),_=>some "tuple"
 |.p n,U=>match U[n]? with|some (.lst _)=>some "list" | some (.fz _)=>some "list" | some (.dct _)=>some "dict" | some (.dr _)=>some "dict" | _=>none
 |.s _ _,_=>none
 |.x _,_=>none
 |.f _ _,_=>none
noncomputable def cD (T:String):R->ac->Jo (R×ac):=λx U=>(Iw x U).bind λt=>some (.v (.bl (t == T || (t == "bool" && T == "int"))),U)
def l8 (K:AF)(T:String):Prop:=∀t∈["NoneType","bool","int","str","tuple","list","dict"],PySem.W.kitOne K (.type t) (.type T)=some (t == T || (t == "bool" && T == "int"))
def Dy (K:AF)(T:String):A0 V->Hp->VK->Prop:=λvs H Q=>∃m U x v d,vs=[v,.ty T]/\aS K m H U/\ao K m H x v/\cD T x U=some (.v (.bl d),U)/\Q (.bl d) H
def v9 {X : Cx} {T : String} (hT : l8 X.K T) : ip X (.builtin "isinstance") (Dy X.K T) := by
  intro A1 s Y H vs us Q I rv q
  obtain⟨m, U, x, v, d, rfl, S, rx, e, q⟩ := q
  obtain⟨t, e1, e⟩ := AM.mp e
  cases e
  cases rv with
  | cons r1 rr=>
    cases rr with
    | cons r2 rr=>
      cases rr
      cases r2
      have fin : ∀ tk, EP X A1 Y Q (.bool (t == T || (t == "bool" && T == "int"))) { s with toks := tk } :=λtk=> {.bl _, H, I.tok tk, rfl, q}
      cases x with
      | v d0=>
        cases d0 with
        | non => cases e1; have r : v = .non := by simpa only [ao, al] using rx
                 subst r; cases r1; exact Bl PySem.W.kitx_none I.kIn True.intro (hT _ ∅) (λz=> nomatch z) fin
        | bl b => cases e1; have r : v = .bl b := by simpa only [ao, al] using rx
                  subst r; cases r1; exact Bl PySem.W.kitx_bool I.kIn True.intro (hT _ ∅) (λz=> nomatch z) fin
        | int i => cases e1; have r : v = .int i := by simpa only [ao, al] using rx
                   subst r; obtain⟨t, rfl⟩ := r1; exact Bl PySem.W.kitx_int I.kIn True.intro (hT _ ∅) (λz=> nomatch z) fin
        | str i => cases e1; have r : v = .str i := by simpa only [ao, al] using rx
                   subst r; obtain⟨t, rfl⟩ := r1; exact Bl PySem.W.kitx_str I.kIn True.intro (hT _ ∅) (λz=> nomatch z) fin
        | tup xs=>
          cases e1
          rwa[ao, al] at rx
          obtain⟨a, ws, rfl, q', _⟩ := rx
          cases r1
          obtain⟨its, _, ⟨o, h1, h2, _⟩, _⟩ := I.tuple q'
          exact Bl PySem.W.kitx_tuple I.kIn {o, h1, h2} (hT _ ∅) (λz=> nomatch z) fin
        | fl xs=>
          cases e1
          rwa[ao, al] at rx
          obtain⟨a, ws, rfl, q', _⟩ := rx
          cases r1
          obtain⟨its, _, ⟨o, n, h1, h2, _⟩, _⟩ := I.list q'.sq
          exact Bl zbM I.kIn {o, h1, h2} (hT _ ∅) (λz=> nomatch z) fin
        | fd ks ds=>
          cases e1
          rwa[ao, al] at rx
          obtain⟨a, o', es, rfl, q', _⟩ := rx
          cases r1
          obtain⟨_, _, _, vs, _, p⟩ := (show b7 X.prog X.w H s.heap a (.frz o' (.dK es)) from I.hok a _ q')
          obtain⟨o, B6, ep, h1, h2, _⟩ := p
          exact Bl zbN I.kIn {o, h1, h2.1} (hT _ ∅) (λz=> nomatch z) fin
        | key ks=>
          cases e1
          rwa[ao, al] at rx
          obtain⟨a, rfl, q'⟩ := rx
          cases r1
          obtain⟨its, _, ⟨o, h1, h2, _⟩, _⟩ := I.tuple (.inl (.inl q'))
          exact Bl PySem.W.kitx_tuple I.kIn {o, h1, h2} (hT _ ∅) (λz=> nomatch z) fin
      | s _ _=> cases e1
      | x _=> cases e1
      | f _ _=> cases e1
      | p n=>
        obtain⟨a, rfl, ha⟩ := rx
        cases r1
        delta Iw at e1
        dsimp only at e1
        split at e1
        · rename_i xs z
          cases e1
          obtain⟨ws, q', _⟩ := S.cell n _ a z ha
          obtain⟨its, _, ⟨o, n, h1, h2, _⟩, _⟩ := I.list (.inl (.inl q'))
          exact Bl zbM I.kIn {o, h1, h2} (hT _ ∅) (λz=> nomatch z) fin
        · rename_i xs z
          cases e1
          obtain⟨o', ws, q', _⟩ := S.cell n _ a z ha
          obtain⟨its, _, ⟨o, n, h1, h2, _⟩, _⟩ := I.list (.inl (.inr {o', q'}))
          exact Bl zbM I.kIn {o, h1, h2} (hT _ ∅) (λz=> nomatch z) fin
        · rename_i kvs z
          cases e1
          obtain⟨es, q', _⟩ := S.cell n _ a z ha
          obtain⟨_, _, vs, _, p⟩ := (show b7 X.prog X.w H s.heap a (.dK es) from I.hok a _ q')
          obtain⟨o, B6, ep, h1, h2, _⟩ := p
          exact Bl zbN I.kIn {o, h1, h2.1} (hT _ ∅) (λz=> nomatch z) fin
        · rename_i kvs z
          cases e1
          obtain⟨es, q', _⟩ := S.cell n _ a z ha
          obtain⟨_, _, vs, _, p⟩ := (show b7 X.prog X.w H s.heap a (.dK es) from I.hok a _ q')
          obtain⟨o, B6, ep, h1, h2, _⟩ := p
          exact Bl zbN I.kIn {o, h1, h2.1} (hT _ ∅) (λz=> nomatch z) fin
        · cases e1
def JAu {H:Hp}{Q:VK}{fa:FE}{T:String}(h:aA K (d9 (cD T) fa) Y H Q):E6 (Dy K T) (mT (aA K fa) (mT (tC (.ty T)) sr)) Y H Q:=by let⟨O,U,m,d,U',hl,hs,e,k⟩:=h;let⟨⟨x,U1⟩,e1,e⟩:=AM.mp e;have e0:=e;let⟨t,e2,e⟩:=AM.mp e;cases e;exact{O,U,m,x,_,hl,hs,e1,λv H1 m1 x1 s1 r1=>{m1,_,x,v,_,rfl,s1,r1,e0,k _ H1 m1 x1 s1 (by rwa[ao,al])}}
noncomputable def ii:A0 D->Jo (A0 A9)
 |[]=>some []
 |.bl b::r=>(ii r).bind λbs=>some (b::bs)
 |_::_=>none
noncomputable def we (any:A9):A0 R->ac->Jo (R×ac)
 |[x],U=>(i3 x U).bind λxs=>(ii xs).bind λbs=>some (.v (.bl (if any then bs.any id else bs.all id)),U)
 |_,_=>none
def DA (K:AF)(any:A9):A0 V->Hp->VK->Prop:=λvs H Q=>∃(a:A6) (bs:A0 A9),vs=[.ref a]/\io K H a (bs.map V.bl)/\Q (.bl (if any then bs.any id else bs.all id)) H
theorem nH {K:AF}{H:Hp}:∀{ds:A0 D} {bs:A0 A9} {vs:A0 V},ii ds=some bs->RelDs K H ds vs->vs=bs.map V.bl
 |[],_,_,e,h=>by cases e;rwa[RelDs] at h;exact h
 |.bl b::r,_,_,e,h=>by let⟨bs,e1,e⟩:=AM.mp e;cases e;rwa[RelDs] at h;let⟨v,vr,rfl,h1,h2⟩:=h;rwa[al] at h1;subst h1;rw[nH e1 h2];rfl
 |.non::_,_,_,e,_=>by cases e
 |.int _::_,_,_,e,_=>by cases e
 |.str _::_,_,_,e,_=>by cases e
 |.tup _::_,_,_,e,_=>by cases e
 |.fl _::_,_,_,e,_=>by cases e
 |.fd _ _::_,_,_,e,_=>by cases e
 |.key _::_,_,_,e,_=>by cases e
def El {any:A9}:yu K (we any) (DA K any):=by
 intro m H U xs d U' vs Q s r e k;unfold we at e;split at e
 ·rename_i x;let⟨ys,e1,e⟩:=AM.mp e;let⟨bs,e2,e⟩:=AM.mp e;cases e;let⟨v,rfl,r1⟩:=oZ r;let⟨a,ws,rfl,q,r2⟩:=hJ s r1 e1;rw[nH e2 r2] at q;exact{a,bs,rfl,q,k _ H m .refl s (by rwa[ao,al])}
 ·cases e
def wa {bs:A0 A9}{its:Te}(r:aO (bs.map V.bl) its):∀(i:Nat) v,its.toArray[i]?=some v->v=.bool (bs.getD i false)/\i<bs.length:=λi v e=>by
 have e:its[i]?=some v:=by simpa using e
 have hi:i<its.length:=(B2.mp e).1;have hl:=r.length;rw[Ac] at hl;have hb:i<bs.length:=by omega
 let⟨u,q1,q2⟩:=aO.get (i:=i) (x:=.bl bs[i]) r (by simp[hb]);rw[e] at q1;cases q1;cases q2;simp[hb]
def sA {bs:A0 A9}:((List.range bs.length).all λi=>bs.getD i false)=bs.all id:=by
 rw[Bool.eq_iff_iff,zbn,zbn];constructor
 ·intro h x hx;let⟨i,hi,rfl⟩:=zbf hx;have:=h i (List.mem_range.mpr hi);simpa[hi] using this
 ·intro h i hi;have hi:=List.mem_range.mp hi;have:=h bs[i] (zbQ hi);simpa[hi] using this
theorem tL {X:Cx}(hc:X.calm=true):ip X (.builtin "all") (DA X.K false):=by
 intro A1 s Y H vs us Q I rv q;let⟨a,bs,rfl,q',q⟩:=q
 cases rv with
 |cons r1 rr=>
  cases rr;cases r1;let⟨its,rv,p,hz⟩:=I.list q';have Ap:a<s.heap.objs.size:=by let⟨o,n,e,_⟩:=p;exact Ab e
  refine call_all_walk (zbL p.isList ?_);refine{_,_,_,_,_,_,λi=>bs.getD i false,rfl,Walks.list (A:=X.A.in1) (show X.A.in1.handled=none from I.ok.hd hc) s.heap.objs.size a (Av Ap) its.toArray,{{_,B1 _ rfl,rfl,rfl},p.isList.push _},λi v s' Q' E' hv hq=>?_,λh' tk hk=>?_}
  ·rw[(wa rv i v hv).1];exact zbd hq
  ·have hl:its.toArray.size=bs.length:=by have:=rv.length;rw[Ac] at this;simp[this]
   rw[hl,sA];refine{.bl _,H,I.kept (t':=tk) λb o e=>hk b o ?_ (AU _ e),rfl,q};intro z;rw[BA.mp z] at e;exact AE (Ab e) (BK _)
end HW
namespace HW
variable {K:AF}
open PyProof.Rows L2 HS
theorem iq:∀{ns:Ti} {its:Te},aO (ns.map V.int) its->IntsAre its ns
 |[],its,h=>by cases h;exact .nil
 |n::ns,its,h=>by
  cases h with
  |cons r t=>let⟨tk,rfl⟩:=r;exact .cons n tk (iq t)
noncomputable def vz:A0 R->ac->Jo (R×ac)
 |[.v (.int i),.v (.int j)],U=>some (.v (.int (if j<i then j else i)),U)
 |_,_=>none
noncomputable def mH:A0 R->ac->Jo (R×ac)
 |[.v (.int i),.v (.int j)],U=>some (.v (.int (if j>i then j else i)),U)
 |_,_=>none
def Di {m:Tf}{H:Hp}{x y:R}{vs:A0 V}(r:aV K m H [x,y] vs):∃v w,vs=[v,w]/\ao K m H x v/\ao K m H y w:=by let⟨v,r,rfl,h1,h2⟩:=r;let⟨w,r,rfl,h2,h3⟩:=h2;have h3:r=[]:=h3;subst h3;exact{v,w,rfl,h1,h2}
def Ec :yu K vz (λxs H Q=>∃i j,xs=[.int i,.int j]/\Q (.int (if j<i then j else i)) H):=by
 intro m H U xs d U' vs Q s r e k;unfold vz at e;split at e
 ·cases e;let⟨v,w,rfl,r1,r2⟩:=Di r;rwa[ao,al] at r1 r2;subst r1;subst r2;exact{_,_,rfl,k _ H m .refl s (by rwa[ao,al])}
 ·cases e
def Ed :yu K mH (λxs H Q=>∃i j,xs=[.int i,.int j]/\Q (.int (if j>i then j else i)) H):=by
 intro m H U xs d U' vs Q s r e k;unfold mH at e;split at e
 ·cases e;let⟨v,w,rfl,r1,r2⟩:=Di r;rwa[ao,al] at r1 r2;subst r1;subst r2;exact{_,_,rfl,k _ H m .refl s (by rwa[ao,al])}
 ·cases e
noncomputable def rm (kvs:A0 (ci×D))(k:ci)(v:D):A0 (ci×D):=if (kvs.any λkv=>decide (kv.1=k))=true then kvs.map (λkv=>if kv.1=k then (kv.1,v) else kv) else kvs++[(k,v)]
def KD (K:AF)(H:Hp)(kvs:A0 (ci×D))(es:A0 (ci×V)):Prop:=es.map (·.1)=kvs.map (·.1)/\RelDs K H (kvs.map (·.2)) (es.map (·.2))
def KD.nil {H:Hp}:KD K H [] []:={rfl,rfl}
def KD.any {H:Hp}{kvs:A0 (ci×D)}{es:A0 (ci×V)}(r:KD K H kvs es)(k:ci):(es.any λkv=>decide (kv.1=k))=(kvs.any λkv=>decide (kv.1=k)):=by
 have h1:∀{β:Type} (l:A0 (ci×β)),(l.any λkv=>decide (kv.1=k))=((l.map (·.1)).any λx=>decide (x=k)):=λl=>by rw[List.any_map];rfl
 rw[h1,h1,r.1]
def KD.cons {K:AF}{H:Hp}{k k':ci}{d:D}{v:V}{kvs:A0 (ci×D)}{es:A0 (ci×V)}:KD K H ((k,d)::kvs) ((k',v)::es) ↔ k'=k/\al K H d v/\KD K H kvs es:=by
 constructor
 ·rintro⟨h1,h2⟩;rwa[An,List.cons.injEq] at h1;let⟨w,r,e,h3,h4⟩:=h2;rwa[An,List.cons.injEq] at e;let⟨rfl,rfl⟩:=e;exact{h1.1,h3,h1.2,h4}
 ·rintro⟨rfl,h1,h2,h3⟩;exact{by simp[h2],{_,_,rfl,h1,h3}}
theorem KD.repl {K:AF}{H:Hp}{k:ci}{d:D}{v:V}(rd:al K H d v):∀{kvs:A0 (ci×D)} {es:A0 (ci×V)},KD K H kvs es->KD K H (kvs.map λkv=>if kv.1=k then (kv.1,d) else kv) (es.map λkv=>if kv.1=k then (kv.1,v) else kv)
 |[],[],_=>.nil
 |[],e::es,h=>by have:=h.1;simp at this
 |q::kvs,[],h=>by have:=h.1;simp at this
 |(a,x)::kvs,(b,y)::es,h=>by
  let⟨rfl,h1,h2⟩:=KD.cons.mp h;have ih:=KD.repl (k:=k) rd h2;rw[An,An];by_cases e:b=k
  ·rw[A8 e,A8 e];exact KD.cons.mpr {rfl,rd,ih}
  ·rw[AA e,AA e];exact KD.cons.mpr {rfl,h1,ih}
theorem KD.snoc {K:AF}{H:Hp}{k:ci}{d:D}{v:V}(rd:al K H d v):∀{kvs:A0 (ci×D)} {es:A0 (ci×V)},KD K H kvs es->KD K H (kvs++[(k,d)]) (es++[(k,v)])
 |[],[],_=>KD.cons.mpr {rfl,rd,.nil}
 |[],e::es,h=>by have:=h.1;simp at this
 |q::kvs,[],h=>by have:=h.1;simp at this
 |(a,x)::kvs,(b,y)::es,h=>by let⟨rfl,h1,h2⟩:=KD.cons.mp h;exact KD.cons.mpr {rfl,h1,KD.snoc rd h2}
def KD.put {H:Hp}{k:ci}{d:D}{v:V}{kvs:A0 (ci×D)}{es:A0 (ci×V)}(r:KD K H kvs es)(rd:al K H d v):KD K H (rm kvs k d) (iZ es k v):=by
 unfold rm iZ;rw[r.any k];split
 ·exact r.repl rd
 ·exact r.snoc rd
theorem RelDs.erase {K:AF}{H:Hp}:∀{ds:A0 D} {vs:A0 V} (k:Nat),RelDs K H ds vs->RelDs K H (ds.eraseIdx k) (vs.eraseIdx k)
 |[],vs,k,h=>by have h:vs=[]:=h;subst h;cases k <;> exact rfl
 |d::ds,vs,0,h=>by let⟨v,r,rfl,_,h2⟩:=h;exact h2
 |d::ds,vs,k+1,h=>by let⟨v,r,rfl,h1,h2⟩:=h;exact{v,r.eraseIdx k,rfl,h1,RelDs.erase k h2}
end HW
namespace HW
open PyProof.Rows L2
mutual
noncomputable def dO:D->A9
 |.tup xs=>flatDs xs
 |.fl _=>false
 |.fd _ _=>false
 |_=>true
noncomputable def flatDs:A0 D->A9
 |[]=>true
 |x::xs=>dO x&&flatDs xs
end
noncomputable def HU:R->ac->Jo D
 |.v d,_=>some d
 |.p n,U=>match U[n]? with
  |some (.lst xs)=>some (.fl xs)|some (.fz xs)=>some (.fl xs)
  |some (.dct kvs)=>some (.fd (kvs.map (·.1)) (kvs.map (·.2)))|some (.fzd kvs)=>some (.fd (kvs.map (·.1)) (kvs.map (·.2)))
  |_=>none
 |.s _ _,_=>none
 |.x _,_=>none
 |.f _ _,_=>none
noncomputable def iJ:A0 R->ac->Jo (A0 D)
 |[],_=>some []
 |x::xs,U=>(HU x U).bind λd=>(iJ xs U).bind λds=>some (d::ds)
abbrev MC:=A0 D->Jo bX
noncomputable def nE:bX->A9
 |.lst xs=>flatDs xs
 |.dct kvs=>flatDs (kvs.map (·.2))
 |_=>false
noncomputable def vV:lc->Jo bX
 |.rt (.p n) U=>match U[n]? with|some (.lst xs)=>some (.lst xs)|some (.dct kvs)=>some (.dct kvs)|_=>none
 |_=>none
noncomputable def jt (k:Nat)(b:FS):MC:=λds=>(b (ds.map (λd=>some (.v d))++List.replicate (k-ds.length) none) []).bind vV
noncomputable def cj (f:MC)(n:Nat)(fa:FA):FE:=λO U=>(fa O U).bind λa=>(iJ a.1 a.2).bind λds=>if ds.length=n then (f ds).bind λc=>if nE c=true then some (.p a.2.length,a.2++[c]) else none else none
section
variable {P:A7}{w:AB}{H H0:Hp}{h h0:AD}{a:A6}{u:HO}{o:Obj}{fs ex:Tf}
def gc.thaw (ok:gc P w H h)(e:H a=some (.frz o u))(hu:eo u):gc P w (upd H a u) h:=by
 have ne:∀c v,H c=some v->v≠.frz o u->c≠a:=λc v q n z=>by rw[z,e] at q;exact n (Option.some.inj q).symm
 have own:∀c y,H c=some (.own y)->upd H a u c=some (.own y):=λc y r=>by rw[L2.ay (ne c _ r ∅)];exact r
 have tup:∀c xs,H c=some (.tup xs)->upd H a u c=some (.tup xs):=λc xs r=>by rw[L2.ay (ne c _ r ∅)];exact r
 intro b v q;by_cases hb:b=a
 ·subst hb;rw[L2.cO] at q;cases q;exact(ok b _ e).2.stay (λc v _ q=>q) (λc r=>own c _ r) tup
 ·rw[L2.ay hb] at q;exact(ok b v q).stay (λc v _ q=>q) (λc r=>own c _ r) tup
def Un.thaw (un:Un fs ex (upd H0 a (.frz o u)) H h0 h)(e:H0 a=some u)(hu:eo u):Un fs ex H0 (upd H a u) h0 h:=by
 have nn:∀b,H0 b=none->b≠a:=λb z y=>by rw[y,e] at z;cases z
 have nf:∀b v,H0 b=some v->¬ eo v->b≠a:=λb v q n=>eo.ne e hu q n;refine{λb ob q n hb hx=>un.keep b ob q (by rw[L2.ay (nn b n)];exact n) hb hx,λb ob q n hb hx=>un.slot b ob q (by rw[L2.ay (nn b n)];exact n) hb hx,λb ob q n hx=>?_,un.there,λb xs q=>?_,λb ob v q=>?_,λb ps q=>?_}
 ·rw[L2.ay (nn b n)];exact un.free b ob q (by rw[L2.ay (nn b n)];exact n) hx
 ·have hb:=nf b _ q λz=>z;rw[L2.ay hb];exact un.tups b xs (by rw[L2.ay hb];exact q)
 ·have hb:=nf b _ q λz=>z;rw[L2.ay hb];exact un.frzs b ob v (by rw[L2.ay hb];exact q)
 ·have hb:=nf b _ q λz=>z;let⟨more,r⟩:=un.tbls b ps (by rw[L2.ay hb];exact q);exact{more,by rw[L2.ay hb];exact r}
end
noncomputable def bor (sp:Sp):Sp:=λvs H Q E=>sp vs H Q E\/∃a u,H a=some u/\eo u/\∀o,sp vs (upd H a (.frz o u)) (λv H2=>Q v (upd H2 a u)) E
noncomputable def borN:Nat->Sp->Sp
 |0,sp=>sp
 |n+1,sp=>bor (borN n sp)
def b0.bor {K:AF}{mg:Td}{base:AD}{k:Nat}{f:A6}{ps:Tn}{sp:Sp}(F:b0 P w K mg base iE k f fd ps sp) :
  b0 P w K mg base iE k f fd ps (HW.bor sp):=by
 refine{λvs H Q E h=>?_,λA outer s H args us vs Q E hr he hb hv hs=>?_}
 ·rcases h with h|⟨a,u,e,hu,h⟩
  ·exact F.len vs H Q E h
  ·exact F.len _ _ _ _ (h {cls:=.none,data:=.fields #[]})
 ·rcases hs with hs|⟨a,u,e,hu,hs⟩
  ·exact F.run A outer s H args us vs Q E hr he hb hv hs
  ·let⟨o,ok⟩:=gc.frz he.hok e hu
   have nn:∀b,H b=none->upd H a (.frz o u) b=none:=λb z=>by rw[L2.ay (λy=>by rw[y,e] at z;cases z)];exact z
   refine zbr (F.run A outer s (upd H a (.frz o u)) args us vs _ E hr {he.frames,he.mod,λb ob q=>{(he.bs b ob q).1,nn b (he.bs b ob q).2},he.bsz,he.funs,λb hb=>nn b (he.frf b hb),ok,he.bare} hb hv (hs o)) λr s' hq=>?_
   cases r with
   |error e=>exact hq
   |ok fl=>
    cases fl with
    |next=>exact hq
    |brk=>exact hq
    |cont=>exact hq
    |ret x=>
     let⟨v,H',os,bare,un,hok,rv,q⟩:=hq;exact{v,_,os,bare,Un.thaw un e hu,gc.thaw hok (un.frzs a o u L2.cO) hu,rv,q}
theorem b0.borN {K:AF}{mg:Td}{base:AD}{k:Nat}{f:A6}{ps:Tn}{sp:Sp}(F:b0 P w K mg base iE k f fd ps sp) :
  ∀n,b0 P w K mg base iE k f fd ps (HW.borN n sp)
 |0=>F
 |n+1=>b0.bor (b0.borN F n)
noncomputable def md (H H2:Hp):Hp:=λb=>match H b with|some u=>some u|none=>H2 b
def Cz (H H1:Hp):Prop:=∀b,H1 b=H b\/∃u o,H b=some u/\eo u/\H1 b=some (.frz o u)
section
variable {K:AF}{H H1 H2:Hp}
def Cz.refl:Cz H H:=λ_=>.inl rfl
def Cz.upd {a:A6}{u:HO}{o:Obj}(c:Cz H H1)(e:H1 a=some u)(hu:eo u):Cz H (upd H1 a (.frz o u)):=λb=>by
 by_cases hb:b=a
 ·subst hb;rw[L2.cO];rcases c b with z|⟨u',o',_,_,z⟩
  ·exact .inr {u,o,by rw[←z,e],hu,rfl}
  ·rw[e] at z;cases z;exact hu.elim
 ·rw[L2.ay hb];exact c b
def Cz.trans (c:Cz H H1)(c':Cz H1 H2):Cz H H2:=λb=>by
 rcases c' b with z|⟨u,o,z1,z2,z3⟩
 ·rw[z];exact c b
 ·rcases c b with y|⟨u',o',_,_,y⟩
  ·exact .inr {u,o,by rw[←y,z1],z2,z3}
  ·rw[z1] at y;cases y;exact z2.elim
def Cz.tf (c:Cz H H1):TF H H1:=by
 refine{λa xs e=>?_,λa o u e=>?_}
 ·rcases c a with z|⟨u,o,z1,z2,z3⟩
  ·rw[z,e]
  ·rw[e] at z1;cases z1;exact z2.elim
 ·rcases c a with z|⟨u',o',z1,z2,z3⟩
  ·rw[z,e]
  ·rw[e] at z1;cases z1;exact z2.elim
theorem xB (s:qR H H2):md H H2=H2:=by
 funext b;unfold md
 cases e:H b with
 |none=>rfl
 |some u=>exact(s b u e).symm
def q9:qR H (md H H2):=λa o e=>by unfold md;rw[e]
def xA {a:A6}{u v:HO}(e:H a=some u):upd (md (upd H a v) H2) a u=md H H2:=by
 funext b;by_cases hb:b=a
 ·subst hb;rw[L2.cO];unfold md;rw[e]
 ·rw[L2.ay hb];unfold md;rw[L2.ay hb]
def JAq {a:A6}{xs:A0 V}(c:Cz H H1)(s:qR H1 H2)(h:gP K H2 a xs):gP K (md H H2) a xs:=by
 have back:∀v,¬ eo v->(∀o u,v=.frz o u->¬ eo u)->H2 a=some v->md H H2 a=some v:=λv nf nz e=>by
  unfold md
  cases q:H a with
  |none=>exact e
  |some u=>
   rcases c a with z|⟨u',o',z1,z2,z3⟩
   ·rw[q] at z;rw[s a u z] at e;exact e
   ·rw[s a _ z3] at e
    cases e;exact AE z2 (nz o' u' rfl)
 rcases h with(h|⟨o,h⟩)|h
 ·exact .inl (.inl (back _ (λz=>z) (λ_ _ z=>by cases z) h))
 ·exact .inl (.inr {o,back _ (λz=>z) (λo u z=>by cases z;exact λz=>z) h})
 ·exact .inr h
theorem wA {a:A6}{xs:A0 V}(c:Cz H H1)(s:qR H1 H2)(e:H2 a=some (.tup xs)):md H H2 a=some (.tup xs):=by
 unfold md
 cases q:H a with
 |none=>exact e
 |some u=>
  rcases c a with z|⟨u',o',z1,z2,z3⟩
  ·rw[q] at z;rw[s a u z] at e;exact e
  ·rw[s a _ z3] at e
   cases e
mutual
theorem vS (c:Cz H H1)(s:qR H1 H2):∀(d:D) (v:V),dO d=true->al K H2 d v->al K (md H H2) d v
 |.non,_,_,h=>by simpa only[al] using h
 |.bl _,_,_,h=>by simpa only[al] using h
 |.int _,_,_,h=>by simpa only[al] using h
 |.str _,_,_,h=>by simpa only[al] using h
 |.tup xs,v,f,h=>by rwa[al] at h ⊢;let⟨a,vs,e,q,r⟩:=h;exact{a,vs,e,JAq c s q,flats_ovr c s xs vs (by simpa only[dO] using f) r}
 |.fl _,_,f,_=>by simp[dO] at f
 |.fd _ _,_,f,_=>by simp[dO] at f
 |.key _,_,_,h=>by rwa[al] at h ⊢;let⟨a,e,q⟩:=h;exact{a,e,wA c s q}
theorem flats_ovr (c:Cz H H1)(s:qR H1 H2):∀(ds:A0 D) (vs:A0 V),flatDs ds=true->RelDs K H2 ds vs->RelDs K (md H H2) ds vs
 |[],_,_,h=>by simpa only[RelDs] using h
 |d::ds,vs,f,h=>by
  rwa[RelDs] at h ⊢;let⟨v,r,e,h1,h2⟩:=h;have f':dO d=true/\flatDs ds=true:=by simpa[flatDs] using f
  exact{v,r,e,vS c s d v f'.1 h1,flats_ovr c s ds r f'.2 h2}
end
end
noncomputable def zq (K:AF)(n:Nat)(f:A0 D->Jo (Hp->V->Hp->Prop)):Sp:=λvs H Q _=>∃ds P,ds.length=n/\RelDs K H ds vs/\f ds=some P/\∀v H',qR H H'->P H v H'->Q v H'
section
variable {K:AF}{m:Tf}{Y:L2.St}{H H0:Hp}{U:ac}{Q:VK}
theorem DZ {n:Nat}{f:A0 D->Jo (Hp->V->Hp->Prop)}{P:Hp->V->Hp->Prop}{E:XK}(hs:aS K m H0 U):∀(rs:A0 R) (vs vsP:A0 V) (ds dsP:A0 D) (H1:Hp) (Q:VK),Cz H0 H1->RelDs K H1 dsP vsP->aV K m H0 rs vs->iJ rs U=some ds ->
  f (dsP++ds)=some P->(dsP++ds).length=n->(∀v H2 Bs,Cz H1 Bs->qR Bs H2->P Bs v H2->Q v (md H1 H2))->borN rs.length (zq K n f) (vsP++vs) H1 Q E
 |[],vs,vsP,ds,dsP,H1,Q,c,rp,rr,ev,ef,el,k=>by
  cases ev;have rr:vs=[]:=rr;subst rr;rw[Bm] at ef el ⊢;exact{dsP,P,el,rp,ef,λv H' s p=>by have:=k v H' H1 .refl s p;(rw[xB s] at this;assumption)}
 |r::rs,vs,vsP,ds,dsP,H1,Q,c,rp,rr,ev,ef,el,k=>by
  let⟨v,ws,rfl,r1,r2⟩:=rr;let⟨d,e1,ev⟩:=AM.mp ev;let⟨es,e2,ev⟩:=AM.mp ev;cases ev
  have app:∀{Z:Type} (a:A0 Z) (x:Z) (b:A0 Z),a++x::b=a++[x]++b:=λa x b=>by simp
  rw[app] at ef el ⊢
  have go:∀(Bs:Hp) (Q':VK),Cz H1 Bs->al K Bs d v->(∀v H2 CC,Cz Bs CC->qR CC H2->P CC v H2->Q' v (md Bs H2))->borN rs.length (zq K n f) (vsP++[v]++ws) Bs Q' E:=λBs Q' c' rd k'=>
   DZ hs rs ws (vsP++[v]) es (dsP++[d]) Bs Q' (c.trans c') (RelDs.append (RelDs.tf c'.tf _ _ rp) (by rwa[RelDs];exact{_,_,rfl,rd,rfl})) r2 e2 ef el k'
  cases r with
  |v d'=>
   cases e1;exact .inl (go H1 Q .refl (al.tf c.tf _ _ r1) k)
  |s _ _=>cases e1
  |x _=>cases e1
  |f _ _=>cases e1
  |p i=>
   let⟨a,rfl,ha⟩:=r1;have e1:(match U[i]? with|some (.lst xs)=>some (D.fl xs)|some (.fz xs)=>some (D.fl xs)|some (.dct kvs)=>some (D.fd (kvs.map (·.1)) (kvs.map (·.2)))|some (.fzd kvs)=>some (D.fd (kvs.map (·.1)) (kvs.map (·.2)))|_=>none)=some d:=e1
   have lent:∀u,eo u->H0 a=some u->(∀H3 o,H3 a=some (.frz o u)->TF H0 H3->al K H3 d (.ref a))->borN (rs.length+1) (zq K n f) (vsP++[V.ref a]++ws) H1 Q E:=λu hu e0 rd=>by
    rcases c a with z|⟨u',o',z1,z2,z3⟩
    ·rw[e0] at z
     refine .inr {a,u,z,hu,λo=>?_};have c1:Cz H1 (upd H1 a (.frz o u)):=Cz.refl.upd z hu
     exact go _ _ c1 (rd _ o L2.cO (c.tf.trans c1.tf)) λv H2 CC c2 s2 p=>by
      rw[xA z];exact k v H2 CC (c1.trans c2) s2 p
    ·rw[e0] at z1;cases z1
     exact .inl (go H1 Q .refl (rd _ o' z3 c.tf) k)
   have known:∀o u,H0 a=some (.frz o u)->al K H1 d (.ref a)->borN (rs.length+1) (zq K n f) (vsP++[V.ref a]++ws) H1 Q E:=λo u e0 rd=>.inl (go H1 Q .refl rd k);split at e1
   ·rename_i xs q
    cases e1;let⟨ws',ea,ra⟩:=hs.cell _ _ a q ha
    exact lent (.lst ws') trivial ea λH3 o e3 t=>by rwa[al];exact{a,ws',rfl,.inl {o,e3},RelDs.tf t _ _ ra}
   ·rename_i xs q
    cases e1;let⟨o,ws',ea,ra⟩:=hs.cell _ _ a q ha;exact known o _ ea (by rwa[al];exact{a,ws',rfl,.inl {o,c.tf.frz _ _ _ ea},RelDs.tf c.tf _ _ ra})
   ·rename_i kvs q
    cases e1;let⟨B6,ea,e1,e2⟩:=hs.cell _ _ a q ha
    exact lent (.dK B6) trivial ea λH3 o e3 t=>by rwa[al];exact{a,o,B6,rfl,e3,e1,RelDs.tf t _ _ e2}
   ·rename_i kvs q
    cases e1;let⟨o,B6,ea,e1,e2⟩:=hs.cell _ _ a q ha;exact known o _ ea (by rwa[al];exact{a,o,B6,rfl,c.tf.frz _ _ _ ea,e1,RelDs.tf c.tf _ _ e2})
   ·cases e1
noncomputable def cX (K:AF)(f:MC):A0 D->Jo (Hp->V->Hp->Prop):=λds=>(f ds).map λc H v H'=>∃a,v=.ref a/\H a=none/\gK K [] H' c a
theorem ud:∀{rs:A0 R} {ds:A0 D},iJ rs U=some ds->rs.length=ds.length
 |[],_,h=>by cases h;rfl
 |r::rs,ds,h=>by let⟨d,_,h⟩:=AM.mp h;let⟨es,e2,h⟩:=AM.mp h;cases h;simp[ud e2]
def uX {f n fa}{E:XK}(h:aA K (cj f n fa) Y H Q):q0 (borN n (zq K n (cX K f))) [] E (gF K fa) Y H Q:=by
 let⟨O,U,m,d,U',hl,hs,e,k⟩:=h;let⟨⟨xs,U1⟩,e1,e⟩:=AM.mp e;let⟨ds,e2,e⟩:=AM.mp e;split at e
 ·rename_i hn;let⟨c1,e3,e⟩:=AM.mp e;split at e
  ·rename_i hf
   cases e;refine{O,U,m,xs,_,hl,hs,e1,λvs H1 m1 x1 s1 r1=>?_};have hx:xs.length=n:=(ud e2).trans hn
   show borN n (zq K n (cX K f)) (vs++[]) H1 Q E
   rw[Bm,←hx];refine DZ (dsP:=[]) (vsP:=[]) (P:=λH v H'=>∃a,v=.ref a/\H a=none/\gK K [] H' c1 a) s1 xs vs ds H1 Q .refl rfl r1 e2 ?_ (by simp[hn,hx]) λv H2 Bs c s p=>?_
   ·rw[List.nil_append];unfold cX;rw[e3];rfl
   ·let⟨a,rfl,ha,hc⟩:=p;have h1a:H1 a=none:=by
     rcases c a with z|⟨u,o,_,_,z⟩
     ·rw[←z,ha]
     ·rw[ha] at z;cases z
    have at':∀u,H2 a=some u->md H1 H2 a=some u:=λu q=>(by unfold md;rw[h1a];exact q);have BW:gK K (m1++[a]) (md H1 H2) c1 a:=by
     cases c1 with
     |lst xs=>let⟨vs,q,r⟩:=hc;exact{vs,at' _ q,flats_ovr c s _ _ hf r}
     |dct kvs=>let⟨es,q,q2,r⟩:=hc;exact{es,at' _ q,q2,flats_ovr c s _ _ hf r}
     |fz xs=>cases hf
     |fzt kvs=>cases hf
     |hk kvs=>cases hf
     |fzd kvs=>cases hf
     |dr kvs=>cases hf
     |lr xs=>cases hf
     |dt kvs=>cases hf
     |tb _ _=>cases hf
     |ob _ _=>cases hf
     |tr _=>cases hf
     |fzr _=>cases hf
     |dtr _=>cases hf
    have Bg:a∉m1:=s1.fresh h1a;have ext:cU m1 H1 (m1++[a]) (md H1 H2):=by have z:=qR.ext (m:=m1) (q9 (H:=H1) (H2:=H2));exact{{[a],rfl,λb hb=>by rw[BA.mp hb];exact h1a},z.tf,z.keep,z.live}
    have srel:aS K (m1++[a]) (md H1 H2) (U1++[c1]):=by
     have s1':=s1.same (q9 (H:=H1) (H2:=H2));refine{zbK.mpr {s1.nd,by simp,λb hb b' hb'=>?_},by simp[s1.len],λi c' b q1 q2=>?_}
     ·rw[BA.mp hb'];rintro rfl;exact Bg hb
     ·by_cases hi:i<m1.length
      ·rw[B3 hi] at q2;rw[B3 (by rw[←s1.len];exact hi)] at q1;exact(s1'.cell i c' b q1 q2).same (λ_ _ z=>z) {[a],rfl}
      ·have hl:=s1.len;rw[Bi ∅] at q2;rw[Bi ∅] at q1;have z:i-m1.length=0:=by
        cases q:i-m1.length with
        |zero=>rfl
        |succ k=>rw[q] at q2;simp at q2
       have z':i-U1.length=0:=∅;rw[z] at q2;rw[z'] at q1;simp at q1 q2;subst q1 q2;exact BW
    exact k _ _ (m1++[a]) (x1.trans ext) srel {a,rfl,by rw[←s1.len];simp}
  ·cases e
 ·cases e
end
theorem lj.okN {P:A7}{w:AB}{K:AF}{mg:Td}{base:AD}{x qual:Str}{st:AJ}{f:A6}{fd:FuncData}{N ps:Tn}{k:Nat}{b:FS}(F:lj K x qual st f fd)(S:av N ps (ah st))
  (AQ:∀(AO:A5) (A:AH) (outer:A0 Env) (s:A4) (H:Hp) (E:XK),bF k (A.deeper (envOfC qual (ah st) s.heap.objs.size f AO))->kM (gN iE P w K mg base N qual (ah st) f AO A outer s H E).nox (bh st) (dI K b)) :
  b0 P w K mg base iE (k+1) f fd ps (zq K ps.length (cX K (jt N.length b))):=by
 have G:b0 P w K mg base iE (k+1) f fd ps (λvs H Q _=>vs.length=ps.length/\dI K b {nx:=λ_ H'=>Q .non H',rt:=Q} (L2.dJ N vs) H) :=
  L2.lj.ok F S (λvs H Q E h=>h.1) λAO A outer s H vs Q E hr h=>{_,AQ AO A outer s H E hr,h.2}
 refine G.imp λvs H Q E hh=>?_;let⟨ds,P',hn,r,e,k⟩:=hh;refine{by rw[←r.length];exact hn,?_};let⟨c,ec,rfl⟩:=Option.map_eq_some_iff.mp e;let⟨o,e1,e2⟩:=AM.mp ec;refine{_,[],[],o,m6 r,.nil,e1,?_}
 cases o with
 |nx O U=>cases e2
 |bk O U=>cases e2
 |ct O U=>cases e2
 |rt d U=>
  cases d with
  |v d=>cases e2
  |s b xs=>cases e2
  |x _=>cases e2
  |f _ _=>cases e2
  |p n=>
   intro v H' m' x s' r';let⟨a,rfl,ha⟩:=r';unfold vV at e2;have cell:∀c',U[n]?=some c'->gK K m' H' c' a:=λc' q=>s'.cell n c' a q ha
   have free:H a=none:=by
    let⟨e,rfl,f⟩:=x.ext;exact f a ‹Bd ha›
   simp only at e2;split at e2
   ·rename_i xs q;cases e2;exact k _ _ x.sam {a,rfl,free,cell _ q}
   ·rename_i kvs q;cases e2;exact k _ _ x.sam {a,rfl,free,cell _ q}
   ·cases e2
end HW
namespace HW
variable {K:AF}
open PyProof.Rows L2
def zD (K:AF):R2:=λx y H Q=>∃a b ys,x=.ref a/\y=.ref b/\gP K H a []/\gP K H b ys/\ys.length<=sizeLine/\Q (.ref b) H
def xG {X:Cx}:iD X (binaryOp .Add) (zD X.K):=by
 intro A1 s Y H x y v u Q I rx ry h;let⟨a,b,ys,rfl,rfl,ha,hb,hz,q⟩:=h;cases rx;cases ry;let⟨its,r1,p1,_⟩:=I.tuple ha;let⟨Aq,r2,p2,_⟩:=I.tuple hb;cases r1;let⟨⟨cls,dd,data,sl⟩,ho,hc,n,hd⟩:=id p1;let⟨⟨cls2,dd2,data2,sl2⟩,De,DO,n2,hd2⟩:=id p2;simp only at hc hd DO hd2;subst hc hd DO hd2;exact concat_meets {_,ho,rfl} {_,De,rfl} noFill_tuple_add seq_tuple_add PySem.F.slot_tuple_add PySem.F.entry_tuple_add (PySem.F.args_tuple_add_2 _ _)
  (tuple_addW0 a b #[] Aq.toArray n n2 dd dd2 sl sl2 ∅) {ho,De,{.ref b,H,I,rfl,q}}
noncomputable def bH:R->R->ac->Jo (R×ac)
 |.v (.tup []),.v (.tup ys),U=>if ys.length<=sizeLine then some (.v (.tup ys),U) else none
 |x,y,U=>Cm x y U
def JBn :me K bH (λx y H Q=>zE K x y H Q\/zD K x y H Q):=by
 intro m H U x y d U' v u Q s rx ry e k;unfold bH at e;split at e
 ·split at e
  ·rename_i z
   cases e;have ry':=ry;rwa[ao,al] at rx ry;let⟨a,vs,rfl,qa,ra⟩:=rx;let⟨b,ws,rfl,qb,rb⟩:=ry;have ra:vs=[]:=(by simpa only[RelDs] using ra);subst ra;exact .inr {a,b,ws,rfl,rfl,qa,qb,by rw[←rb.length];exact z,k _ H m .refl s ry'}
  ·cases e
 ·exact .inl (Em m H U _ _ d U' v u Q s rx ry e k)
noncomputable def mz:A0 R->ac->Jo (R×ac)
 |[.v (.int i)],U=>if i.natAbs.log2<1920 then some (.v (.str (toString i)),U) else none
 |_,_=>none
def JDf :yu K mz (λxs H Q=>∃i,xs=[.int i]/\i.natAbs.log2<1920/\Q (.str (toString i)) H):=by
 intro m H U xs d U' vs Q s r e k;unfold mz at e;split at e
 ·split at e
  ·rename_i z
   cases e;let⟨v,rfl,r1⟩:=oZ r;rwa[ao,al] at r1;subst r1;exact{_,rfl,z,k _ H m .refl s (by rwa[ao,al])}
  ·cases e
 ·cases e
def u6:V->V->V->Hp->(Hp->Prop)->Prop:=λo i v H Q=>∃p kvs k,o=.ref p/\i=kV k/\H p=some (.dK kvs)/\kvs.length<sizeLine/\Q (upd H p (.dK (iZ kvs k v)))
def uL {X:Cx}(hu:X.A.units+1<cLine):pP X u6:=by intro A1 s Y H o i v ov iv u Q I ro ri rv h;let⟨p,kvs,k,rfl,rfl,hp,hl,q⟩:=h;cases ro;exact tG hu I (yw.k hp hl) ri rv λs' I'=>{_,I',q}
def pP.or {t u:yp}(h:pP X t)(h':pP X u):pP X (λo i v H Q=>t o i v H Q\/u o i v H Q):=λA1 s Y H o i v ov iv z Q I ro ri rv q=>by
 rcases q with q|q
 ·exact h A1 s Y H o i v ov iv z Q I ro ri rv q
 ·exact h' A1 s Y H o i v ov iv z Q I ro ri rv q
noncomputable def rH:R->Jo ci
 |.v (.int i)=>some (.inl i)
 |.v (.str x)=>some (.inr (some x))
 |.v .non=>some (.inr none)
 |_=>none
noncomputable def qe (o i:R)(dv:D)(U:ac):Jo ac:=match o with
 |.p n=>match U[n]? with
  |some (.lst xs)=>(match i with|.v (.int k)=>(tm xs.length k).bind λj=>some (U.set n (.lst (xs.set j dv)))|_=>none)
  |some (.dct kvs)=>if kvs.length<sizeLine then (rH i).bind λk=>some (U.set n (.dct (rm kvs k dv))) else none
  |_=>none
 |_=>none
noncomputable def jb (fo fi:FE):FG:=λd O U=>match d with|.v dv=>(fo O U).bind λo=>(fi O o.2).bind λi=>(qe o.1 i.1 dv i.2).bind λU'=>some (O,U')|_=>none
theorem RelDs.setAt {K:AF}{H:Hp}{d:D}{v:V}(h:al K H d v):∀{ds:A0 D} {vs:A0 V} (j:Nat),RelDs K H ds vs->RelDs K H (ds.set j d) (vs.set j v)
 |[],vs,j,r=>by have r:vs=[]:=r;subst r;exact rfl
 |_::_,_,0,⟨v',r,e,h1,h2⟩=>by subst e;exact{v,r,rfl,h,h2}
 |_::_,_,j+1,⟨v',r,e,h1,h2⟩=>by subst e;exact{v',_,rfl,h1,RelDs.setAt h j h2}
def xU {m:Tf}{H:Hp}{x:R}{v:V}{k:ci}(r:ao K m H x v)(e:rH x=some k):v=kV k:=by
 unfold rH at e;split at e
 ·cases e;simpa only[ao,al,kV] using r
 ·cases e;simpa only[ao,al,kV] using r
 ·cases e;simpa only[ao,al,kV] using r
 ·cases e
def JAh {K:AF}{m:Tf}{H:Hp}{U U':ac}{o i:R}{dv:D}{vo vi v:V}{Q:Hp->Prop}(s:aS K m H U)(ro:ao K m H o vo)(ri:ao K m H i vi)(rv:al K H dv v)(e:qe o i dv U=some U')
  (k:∀H',cU m H m H'->aS K m H' U'->Q H'):u5 vo vi v H Q\/u6 vo vi v H Q:=by
 unfold qe at e;split at e
 ·rename_i n
  split at e
  ·rename_i xs q
   split at e
   ·rename_i j
    let⟨w,e1,e⟩:=AM.mp e;cases e;let⟨a,rfl,ha⟩:=ro
    have ri:vi=.int j:=by simpa only[ao,al] using ri
    subst ri;let⟨ws,ea,ra⟩:=s.cell _ _ a q ha;have x:cU m H m (upd H a (.lst (ws.set w v))):=.put (Bd ha) ea ∅ ∅;exact .inl {a,ws,j,w,rfl,rfl,ea,by rw[←ra.length];exact e1,k _ x (s.put ha ea ∅ ∅ {_,cV,RelDs.tf x.tf _ _ (RelDs.setAt rv w ra)})}
   ·cases e
  ·rename_i kvs q
   split at e
   ·rename_i hl
    let⟨w,e1,e⟩:=AM.mp e;cases e;let⟨a,rfl,ha⟩:=ro;let⟨es,ea,q1,q2⟩:=s.cell _ _ a q ha;have kd:KD K H kvs es:={q1,q2};have kd':=kd.put (k:=w) rv;have x:cU m H m (upd H a (.dK (iZ es w v))):=.put (Bd ha) ea ∅ ∅;exact .inr {a,es,w,rfl,xU ri e1,ea,by have:=AL List.length q1;simp at this;omega,k _ x (s.put ha ea ∅ ∅ {_,cV,kd'.1,RelDs.tf x.tf _ _ kd'.2})}
   ·cases e
  ·cases e
 ·cases e
def w6 {fo fi:FE}{v:V}{H:Hp}{Q:L2.St->Hp->Prop}(h:o6 K (jb fo fi) v Y H Q):L2.jb (aA K fo) (aA K fi) (λo i v H Q=>u5 o i v H Q\/u6 o i v H Q) v Y H Q:=by
 let⟨O,U,m,d,O',U',hl,hs,r,e,k⟩:=h;unfold jb at e;split at e
 ·rename_i dv;let⟨⟨o,U1⟩,e1,e⟩:=AM.mp e;let⟨⟨i,U2⟩,e2,e⟩:=AM.mp e;let⟨U3,e3,e⟩:=AM.mp e;cases e;refine{O,U,m,o,U1,hl,hs,e1,λvo H1 m1 x1 s1 r1=>?_};refine{O,U1,m1,i,U2,hl.ext x1,s1,e2,λvi H2 m2 x2 s2 r2=>?_};exact JAh s2 (r1.ext x2) r2 (al.tf (x1.tf.trans x2.tf) _ _ r) e3 λH3 x3 s3=>k Y H3 m2 ((x1.trans x2).trans x3) s3 (hl.ext ((x1.trans x2).trans x3))
 ·cases e
noncomputable def HQ (lt:Int->Int->A9)(ns:Ti):Int:=ns.getD (argBest (λi j=>lt (ns.getD i 0) (ns.getD j 0)) (ns.length-1)) 0
end HW
namespace HS
open PyProof.Rows L2
end HS
namespace HW
open PyProof.Rows L2 HS
end HW
namespace HW
variable {K:AF}
open PyProof.Rows L2
def dG (K:AF)(mg:Td)(x:Str)(d:D):Prop:=∃u v,mg x=some u/\aW v u/\∀H,al K H d v
def tZ (K:AF)(d:D)(v:V)(u:A5):Prop:=aW v u/\∀H,al K H d v
def se (K:AF)(ds:A0 D)(vs:A0 V)(us:Te):Prop:=aO vs us/\∀H,RelDs K H ds vs
def em :se K [] [] []:={.nil,λ_=>rfl}
def aR {d:D}{v:V}{u:A5}{ds:A0 D}{vs:A0 V}{us:Te}(h:tZ K d v u)(h':se K ds vs us):se K (d::ds) (v::vs) (u::us) :=
 {.cons h.1 h'.1,λH=>by rwa[RelDs];exact{_,_,rfl,h.2 H,h'.2 H}}
def qL {i:Int}{t:Tok}:tZ K (.int i) (.int i) (.int i t):={{t,rfl},λH=>by rwa[al]}
def bx {x:Str}{t:Tok}:tZ K (.str x) (.str x) (.str x t):={{t,rfl},λH=>by rwa[al]}
def gA {K:AF}{a:A6}{us:Te}{n:Nat}{sl:AN (Tg)}{ds:A0 D}{vs:A0 V}(h:K.lookup a=some {.type "tuple",none,.seq us.toArray n,sl})(hz:us.length<=sizeLine)(r:se K ds vs us):tZ K (.tup ds) (.ref a) (.ref a) :=
 {rfl,λH=>by rwa[al];exact{a,vs,rfl,.inr {_,us.toArray,n,h,rfl,rfl,rfl,by simpa using hz,by simpa using r.1},r.2 H}}
def ig {mg:Td}{x:Str}{u:A5}{d:D}{v:V}(hm:mg x=some u)(r:tZ K d v u):dG K mg x d:={u,v,hm,r.1,r.2}
def uF (i j c:Int):Prop:=c≠0/\-(2 ^ 30)<c/\c<2 ^ 30
instance {i j c:Int}:Decidable (uF i j c):=by unfold uF;infer_instance
end HW
namespace L2
open PyProof.Rows
end L2
namespace HW
open PyProof.Rows L2
structure EV (K:AF)(J:It)(xs:List D)(P:Hp->Prop):Prop where
 st:∀H H',TF H H'->P H->P H'
 stop:∀i H,P H->xs.length<=i->J.stop i H
 go:∀(i:Nat) d H,xs[i]?=some d->P H->J.go i H
 yld:∀(i:Nat) d H x H',xs[i]?=some d->P H->J.yld i H x H'->(∀a o,H a=some o->H' a=some o)/\al K H' d x
def Dp (K:AF)(f:FI):TI:=λY H R=>∃O U m xs U',c9 K m H O Y/\aS K m H U/\f O U=some (xs,U') /\
 ∀J P H' m',cU m H m' H'->aS K m' H' U'->EV K J xs P->P H'->R J H'
def pJ {m:Tf}{H H':Hp}(s:∀a o,H a=some o->H' a=some o):cU m H m H' :=
 {{[],by simp,λ_ z=>nomatch z},{λa xs e=>s _ _ e,λa o x e=>s _ _ e},λa o e _=>s _ _ e,λa e=>by
  cases q:H a with
  |none=>rfl
  |some o=>rw[s _ _ q] at e;cases e}
section
variable {K:AF}{m:Tf}{Y:L2.St}{H:Hp}{U:ac}{D:dZ}
def xa {fi g b}(h:dI K (kW fi g b) D Y H):Am (Dp K fi) (o6 K g) (dI K b) D Y H:=by
 let⟨O,U,m,o,hl,hs,e,k⟩:=h;let⟨⟨xs,U1⟩,e1,e⟩:=AM.mp e;refine{O,U,m,xs,U1,hl,hs,e1,λJ P H1 m1 x1 s1 ok p1=>?_};refine{λi n Y H=>n=xs.length-i/\i<=xs.length/\P H/\∃O U m,c9 K m H O Y/\aS K m H U/\fL g b (xs.drop i) O U=some o/\dZ.of K m H D o,
  {_,rfl,zbt _,p1,O,U1,m1,c9.ext x1 hl,s1,by simpa using e,dZ.of_ext x1 k},?_}
 rintro i n Y H ⟨rfl,hi,p,O,U,m,hl,hs,e,k⟩;by_cases Ap:i<xs.length
 ·have hx:xs[i]?=some xs[i]:=D7 Ap;rw[zbq Ap,fL] at e;let⟨⟨O1,U1⟩,e1,e⟩:=AM.mp e;let⟨o1,e2,e⟩:=AM.mp e;refine .inr {ok.go i _ H hx p,λY H=>i+1<=xs.length/\P H/\∃O U m,c9 K m H O Y/\aS K m H U/\fL g b (xs.drop (i+1)) O U=some o/\dZ.of K m H D o,
   λY' H' z=>{xs.length-(i+1),by omega,rfl,z},λx H' y=>?_}
  let⟨xe,rx⟩:=ok.yld i _ H x H' hx p y;have x0:cU m H m H':=pJ xe;refine{O,U,m,.v xs[i],O1,U1,c9.ext x0 hl,hs.same xe,rx,e1,λY1 H1 m1 x1 s1 l1=>?_};have x1:=x0.trans x1;refine{O1,U1,m1,o1,l1,s1,e2,?_}
  cases o1 with
  |nx O2 U2=>exact λY2 H2 m2 x2 s2 l2=>{Ap,ok.st _ _ (x1.trans x2).tf p,O2,U2,m2,l2,s2,e,dZ.of_ext (x1.trans x2) k}
  |ct O2 U2=>exact λY2 H2 m2 x2 s2 l2=>{Ap,ok.st _ _ (x1.trans x2).tf p,O2,U2,m2,l2,s2,e,dZ.of_ext (x1.trans x2) k}
  |bk O2 U2=>cases e;exact λY2 H2 m2 x2 s2 l2=>k Y2 H2 m2 (x1.trans x2) s2 l2
  |rt d U2=>cases e;exact λv H2 m2 x2 s2 l2=>k v H2 m2 (x1.trans x2) s2 l2
 ·have:i=xs.length:=by omega
  subst this;rw[List.drop_length,fL] at e;cases e;exact .inl {ok.stop _ H p (Af _),k Y H m .refl hs hl}
def AT {fi g b}(h:dI K (kW fi g b) D Y H):Am (uZ K fi) (o6 K g) (dI K b) D Y H :=
 let ⟨O,U,m,xs,U',hl,hs,e,k⟩:=xa h
 {O,U,m,xs,U',hl,hs,e,λJ P H' m' x s ok p=>k J P H' m' x s {ok.st,ok.stop,ok.go,λi d H x H' e p y=>by let⟨rfl,r⟩:=ok.yld i d H x H' e p y;exact{λ_ _ z=>z,r}} p}
end
end HW
namespace HS
open PyProof.Rows
end HS
namespace HW
open PyProof.Rows L2 HS
end HW
namespace HS
open PyProof.Rows
end HS
namespace HW
open PyProof.Rows L2 HS
end HW
namespace HX
abbrev eO (C:A5)(vs:Tj):Obj:={cls:=C,dict:=none,data:=.fields vs,slots:=#[]}
structure Fl (G:Addr->Prop)(h:Heap)(e:Addr)(C fl:Value):Prop where
 is:∃vs T ts c,¬ G e/\¬ G T/\T≠e/\h.get? e=some (eO C vs)/\vs[1]?=some (.ref T)/\h.get? T=some (eO c ts)/\ts[3]?=some fl
 all:∀b,G b->∃o,h.get? b=some o
end HX
namespace HW
open PyProof.Rows L2
abbrev JAa (K:AF)(c:Str)(C:A6):Prop:=PySem.W.nsIn K mainGlobals c=some (some (.ref C))
structure JO (K:AF)(D:Addr):Prop where
 dc:PySem.W.hasDictIn K D=true
 ga:PySem.W.findIn K (.ref D) "__getattribute__" = some (some (.builtin "BaseException.__getattribute__"))
 gn:PySem.W.findIn K (.ref D) "__getattr__" = some none
 fi:PySem.W.findIn K (.ref D) "__class__" = some (some (.builtin "object.__class__"))
 mr:PySem.W.mroIn K D (.type "object")=some true
 mb:PySem.W.mroIn K D (.type "BaseException")=some true
 gt:PySem.W.specialIn K (.builtin "object.__class__") "__get__" = some (some (.builtin "getset_descriptor.__get__"))
 tk:PySem.W.takesIn K (.builtin "object.__class__")=some true
end HW
namespace HW
open L2
end HW
namespace HX
end HX
namespace HW
open PyProof.Rows L2
def Dr:V->Jo Int->Jo Int->Hp->VK->Prop:=λx lo hi H Q=>∃z,x=.str z/\z.length<=sizeLine/\Q (.str (Txt.slice z lo hi)) H
theorem JBa:t4 X Dr:=by
 intro A1 s Y H x v vl vu lo hi sl Q I rx hs pl pu h;obtain⟨z,rfl,hz,q⟩:=h;obtain⟨t,rfl⟩:=rx;refine{"str",_,PySem.F.slot_str_getitem.lookup,typeIs_str _ _ _,?_};have fin:∀(l u:Jo (Int×Tok)),lo=l.map (·.1)->hi=u.map (·.1)->s.heap.IsSlice sl l u none->wpAny (model X.prog X.w) X.A (getItem (.str z t) (.ref sl)) (EP X A1 Y Q) X.xe s:=λl u e1 e2 hS=>by subst e1 e2;refine wpAny_getItem_str_slice (l:=l) (u:=u) (st:=none) hS rfl ?_;exact post_val_or_str {BM (Txt.slice_le z _ _) hz,λt' k=>{.str _,H,I.tok k,{_,rfl},q}}
 cases pl with
 |none=>
  cases pu with
  |none=>exact fin none none rfl rfl hs
  |int j tj=>exact fin none (some (j,tj)) rfl rfl hs
 |int i ti=>
  cases pu with
  |none=>exact fin (some (i,ti)) none rfl rfl hs
  |int j tj=>exact fin (some (i,ti)) (some (j,tj)) rfl rfl hs
def Im (x:Str):It:={λi _=>i<x.cps.size,λi H v H'=>H'=H/\∃c,x.cps[i]?=some c/\v=.str ⟨#[c]⟩,λi _=>x.cps.size<=i}
def ug {K:AF}{tg:AG}{T:String}(hT:T = "str_ascii_iterator"\/T = "str_iterator")(x:Str)(t:Tok)(it:A6):tY P w K tg (Im x) [it] it (λi h=>h.IsStrIter it T x t i) where
 mem:=by simp
 obj:=λi h st b hb=>by
  have e:b=it:=by simpa using hb
  subst e;let⟨o,e,c,d⟩:=st;exact{o,e,λv z=>by rw[d] at z;cases z}
 keep:=λi h h' st k=>let ⟨o,e,r⟩:=st;{o,k it ∅ o e,r}
 item:=by
  intro X hP hw hK hc i A1 s Y H E I hf st hg;subst hP hw hK;let⟨f0,f1,f2,f3,f4,f5⟩:=hf it ∅;have W:Walks X.prog X.w X.A it [it] [it] x.cps.size (SignAt x) (λi h=>h.IsStrIter it T x t i):=by
   rcases hT with rfl|rfl
   ·exact Walks.strAscii (I.ok.hd hc) it x t
   ·exact Walks.strWide (I.ok.hd hc) it x t
  refine W.item i s _ _ hg st λv h' tk hv BB kk=>?_;let⟨c,u,hx,rfl⟩:=hv;have I1:aE X A1 Y H {s with heap:=h',toks:=tk}:=I.turned (λb o hb e=>kk b o ‹hb› e) f0 f1 f3 f4 f5;let⟨o,e,c1,d⟩:=id BB;exact{_,rfl,rO (s:={s with heap:=h',toks:=tk}) e c1 d (by rcases hT with rfl|rfl <;> decide) {.str ⟨#[c]⟩,H,I1,{u,rfl},{rfl,c,hx,rfl},BB,λb hb=>(hf b hb).1}}
 done:=by
  intro X hP hw hK hc i A1 s Y H E I hf st hg;subst hP hw hK;let⟨f0,f1,f2,f3,f4,f5⟩:=hf it ∅;have hx:x.cps[i]?=none:=Array.getElem?_eq_none hg;rcases hT with rfl|rfl
  ·exact wpAny_pyNext_ascii_end (I.ok.hd hc) st hx λh' eb=>{rfl,I.turned (t':=s.toks) (λb o hb e=>eb b o hb e) f0 f1 f3 f4 f5}
  ·exact wpAny_pyNext_wide_end (I.ok.hd hc) st hx λh' eb=>{rfl,I.turned (t':=s.toks) (λb o hb e=>eb b o hb e) f0 f1 f3 f4 f5}
 self:=λ_ _ _ _ _ st h=>by
  rcases hT with rfl|rfl
  ·exact wpAny_pyIter_striter_ascii st h
  ·exact wpAny_pyIter_striter_wide st h
def D2 (tl:TE):TI:=λY H R=>tl Y H λx H1=>∃z,x=.str z/\R (Im z) H1
def JCf {tg l:AG}{tl:TE}(hl:PE X l tl):PI X tg l (D2 tl):=by
 intro A1 s Y H R I h;refine ck (hl A1 s Y H _ I h) λv s1 hh=>?_;obtain⟨x,H1,I1,r1,q1⟩:=hh;obtain⟨z,rfl,q⟩:=q1;obtain⟨t,rfl⟩:=r1;have fin:∀T,(T = "str_ascii_iterator"\/T = "str_iterator")->Ii X A1 Y tg R (.ref s1.heap.objs.size) {s1 with heap:=s1.heap.push {cls:=.type T,data:=.fields #[.str z t,.int 0 0]}}:=λT hT=>by
  refine{s1.heap.objs.size,[s1.heap.objs.size],_,_,H1,rfl,I1.kept (t':=s1.toks) λb o e=>AU _ e,ug hT z t _,{_,B1 _ rfl,rfl,rfl},λb hb=>?_,q};have e:b=s1.heap.objs.size:=by simpa using hb
  subst e;exact I1.fpOk (Af _) (I1.hok.fresh (Af _))
 cases ha:z.cps.all (·<128)
 ·exact wpAny_pyIter_wide ha (fin _ (.inr rfl))
 ·exact wpAny_pyIter_ascii ha (fin _ (.inl rfl))
noncomputable def m7 (x:Str):A0 D:=x.cps.toList.map λc=>D.str ⟨#[c]⟩
noncomputable def rR (f:FE):FI:=λO U=>(f O U).bind λa=>match a.1 with|.v (.str x)=>some (m7 x,a.2)|_=>none
def JB3 {K:AF}(x:Str):wl K (Im x) (m7 x) (λ_=>True) where
 st:=λ_ _ _ _=>trivial
 stop:=λi H _ hi=>by show x.cps.size<=i;simpa[m7] using hi
 go:=λi d H e _=>by
  have:=(B2.mp e).1
  show i<x.cps.size;simpa[m7] using this
 yld:=λi d H v H' e _ ⟨e1,c,hc,e2⟩=>by
  refine{e1,?_};unfold m7 at e;rw[Bv] at e;have BW:x.cps.toList[i]?=some c:=by simpa using hc
  rw[BW] at e;cases e;rw[e2];rwa[al]
section
variable {K:AF}{Y:L2.St}{H:Hp}{Q:VK}{RR:It->Hp->Prop}
def wY {f}(h:uZ K (rR f) Y H RR):D2 (aA K f) Y H RR:=by
 let⟨O,U,m,xs,U',hl,hs,e,k⟩:=h;let⟨⟨x,U1⟩,e1,e⟩:=AM.mp e;split at e
 ·rename_i z q
  cases e;simp only at q;subst q;refine{O,U,m,_,_,hl,hs,e1,λv H1 m1 x1 s1 r1=>?_};rwa[ao,al] at r1;exact{z,r1,k _ _ H1 m1 x1 s1 (JB3 z) trivial}
 ·cases e
noncomputable def wq (x:R)(lo hi:Jo Int)(U:ac):Jo (R×ac):=match x with
 |.v (.str z)=>if z.length<=sizeLine then some (.v (.str (Txt.slice z lo hi)),U) else none
 |_=>none
noncomputable def BP:R->R->ac->Jo (R×ac)
 |.v (.str z),.v (.int i),U=>if 0<=i/\i<2 ^ 63/\i<z.length then (z.cps[i.toNat]?).bind λc=>some (.v (.str ⟨#[c]⟩),U) else none
 |_,_,_=>none
def Eg:me K BP (λx y H Q=>∃z i c,x=.str z/\y=.int i/\0<=i/\i<2 ^ 63/\i<z.length/\z.cps[i.toNat]?=some c/\Q (.str ⟨#[c]⟩) H):=by
 intro m H U x y d U' v u Q s rx ry e k;unfold BP at e;split at e
 ·rename_i z i;split at e
  ·rename_i c;let⟨c',e1,e⟩:=AM.mp e;cases e;rwa[ao,al] at rx ry;subst rx ry;exact{z,i,c',rfl,rfl,c.1,c.2.1,c.2.2,e1,k _ H m .refl s (by rwa[ao,al])}
  ·cases e
 ·cases e
noncomputable def sS:A0 R->ac->Jo (R×ac)
 |[.v (.str z)],U=>if z.length<=sizeLine then some (.v (.int z.length),U) else none
 |_,_=>none
def JBj:yu K sS (λxs H Q=>∃z,xs=[.str z]/\z.length<=sizeLine/\Q (.int z.length) H):=by
 intro m H U xs d U' vs Q s r e k;unfold sS at e;split at e
 ·rename_i z;split at e
  ·rename_i hz
   cases e;let⟨v,rfl,r1⟩:=oZ r;rwa[ao,al] at r1;subst r1;exact{z,rfl,hz,k _ H m .refl s (by rwa[ao,al])}
  ·cases e
 ·cases e
noncomputable def tq:A0 R->ac->Jo (R×ac)
 |[.v (.str z)],U=>if z.length<=640 then (PySem.intText? z).bind λn=>some (.v (.int n),U) else none
 |_,_=>none
def zy:A0 V->Hp->VK->Prop:=λxs H Q=>∃z n,xs=[.str z]/\z.length<=640/\PySem.intText? z=some n/\Q (.int n) H
def tK:ip X (.type "int") zy:=by intro A1 s Y H vs us Q I r h;obtain⟨z,n,rfl,hz,hn,q⟩:=h;obtain⟨u,rfl,rx⟩:=kx r;obtain⟨t,rfl⟩:=rx;exact PySem.W.KIN.call_text hn hz {.int n,H,I.tok _,{_,rfl},q}
def JBl:yu K tq zy:=by
 intro m H U xs d U' vs Q s r e k;unfold tq at e;split at e
 ·rename_i z;split at e
  ·rename_i hz;let⟨n,e1,e⟩:=AM.mp e;cases e;let⟨v,rfl,r1⟩:=oZ r;rwa[ao,al] at r1;subst r1;exact{z,n,rfl,hz,e1,k _ H m .refl s (by rwa[ao,al])}
  ·cases e
 ·cases e
noncomputable def BX (neg:A9):R->R->ac->Jo (R×ac)
 |.v (.str i),.v (.str j),U=>some (.v (.bl (if neg then !(!(Builtin.Str.occurrences j i 0 j.length 1).isEmpty) else !(Builtin.Str.occurrences j i 0 j.length 1).isEmpty)),U)
 |_,_,_=>none
def Ei:me K (BX false) (λx y H Q=>∃i j,x=.str i/\y=.str j/\Q (.bl (!(Builtin.Str.occurrences j i 0 j.length 1).isEmpty)) H):=by
 intro m H U x y d U' v u Q s rx ry e k;unfold BX at e;split at e
 ·rename_i i j
  cases e;rwa[ao,al] at rx ry;subst rx ry;exact{i,j,rfl,rfl,k _ H m .refl s (by rwa[ao,al,Bp,if_false])}
 ·cases e
noncomputable def E8:R->R->ac->Jo (R×ac)
 |.v (.str a),.v (.str b),U=>some (.v (.bl (decide (0+b.length<=a.length)&&Builtin.Str.subAt a b 0)),U)
 |_,_,_=>none
abbrev GK (fa fb:FE):FE:=aK E8 fa fb
def IC:V->A0 V->Hp->VK->Prop:=λx ys H Q=>∃a b,x=.str a/\ys=[.str b]/\Q (.bl (decide (0+b.length<=a.length)&&Builtin.Str.subAt a b 0)) H
def JD0:ET X "str.startswith" IC:=by intro A1 s Y H x xs v us Q I rx rv h;obtain⟨a,b,rfl,rfl,q⟩:=h;obtain⟨t,rfl⟩:=rx;obtain⟨u,rfl,ru⟩:=kx rv;obtain⟨t',rfl⟩:=ru;exact call_gives PySem.F.slot_str_startswith (typeIs_str _ _ _) PySem.F.entry_str_startswith (PySem.F.args_str_startswith_2 _ _) (gives_str_startswith a b t t') {.bl _,H,I,rfl,q}
def JD4 {fa fb}(h:aA K (GK fa fb) Y H Q):E7 K "str" IC (aA K fa) (mT (aA K fb) sr) Y H Q:=by
 let⟨O,U,m,d,U',hl,hs,e,k⟩:=h;let⟨⟨x,U1⟩,e1,e⟩:=AM.mp e;let⟨⟨y,U2⟩,e2,e⟩:=AM.mp e;unfold E8 at e;split at e
 ·rename_i a b q1 q2;simp only at q1 q2;subst q1 q2;cases e;refine{O,U,m,_,U1,hl,hs,e1,λv H1 m1 x1 s1 r1=>?_};rwa[ao,al] at r1;subst r1;refine{rfl,O,U1,m1,_,_,hl.ext x1,s1,e2,λu H2 m2 x2 s2 r2=>?_};rwa[ao,al] at r2;subst r2;exact{a,b,rfl,rfl,k _ H2 m2 (x1.trans x2) s2 (by rwa[ao,al])}
 ·cases e
noncomputable def Fn (g g':R->R->ac->Jo (R×ac))(fa fb fc:FE):FE:=λO U=>(fa O U).bind λa=>(fb O a.2).bind λb=>(g a.1 b.1 b.2).bind λz=>match z.1 with
 |.v (.bl k)=>if k=true then (fc O z.2).bind λc=>g' b.1 c.1 c.2 else some (.v (.bl false),z.2)
 |_=>none
def Do {g g' r r' fa fb fc}(hg:me K g r)(hg':me K g' r')(h:aA K (Fn g g' fa fb fc) Y H Q):uE r r' (aA K fa) (aA K fb) (aA K fc) Y H Q:=by
 let⟨O,U,m,d,U',hl,hs,e,k⟩:=h;let⟨⟨x,U1⟩,e1,e⟩:=AM.mp e;let⟨⟨y,U2⟩,e2,e⟩:=AM.mp e;let⟨⟨z,U3⟩,e3,e⟩:=AM.mp e;split at e
 ·rename_i b q;simp only at q;subst q;refine{O,U,m,x,U1,hl,hs,e1,λv H1 m1 x1 s1 r1=>?_};refine{O,U1,m1,y,U2,hl.ext x1,s1,e2,λu H2 m2 x2 s2 r2=>?_};refine hg m2 H2 U2 x y _ U3 v u _ s2 (r1.ext x2) r2 e3 λw H3 m3 x3 s3 r3=>?_;rwa[ao,al] at r3;refine{b,r3,?_}
  cases b with
  |true=>
   rw[A8 rfl] at e ⊢;let⟨⟨c,U4⟩,e4,e⟩:=AM.mp e;refine{O,U3,m3,c,U4,hl.ext ((x1.trans x2).trans x3),s3,e4,λw' H4 m4 x4 s4 r4=>?_};exact hg' m4 H4 U4 y c d U' u w' Q s4 ((r2.ext x3).ext x4) r4 e λw5 H5 m5 x5 s5 r5=>k w5 H5 m5 ((((x1.trans x2).trans x3).trans x4).trans x5) s5 r5
  |false=>
   rw[AA Bw] at e ⊢;cases e;exact k _ H3 m3 ((x1.trans x2).trans x3) s3 (by rwa[ao,al])
 ·cases e
end
theorem lu:∀{its:Te} {ts:Tn},aO (ts.map V.str) its->∃l:A0 (Str×Tok),its=strValues l/\l.map (·.1)=ts
 |its,[],r=>by
  have:=r.length
  cases its with
  |nil=>exact{[],rfl,rfl}
  |cons a b=>simp at this
 |its,x::ts,r=>by
  cases r with
  |cons r1 r2=>
   let⟨l,e1,e2⟩:=lu r2;let⟨t,rfl⟩:=r1;exact{(x,t)::l,by rw[e1];rfl,by rw[An,e2]}
theorem gg:∀(l:A0 (Str×Tok)),aO ((l.map (·.1)).map V.str) (strValues l)
 |[]=>.nil
 |(x,t)::l=>.cons {t,rfl} (gg l)
def zx (K:AF):V->A0 V->Hp->VK->Prop:=λx ys H Q=>∃a p ts,x=.str a/\ys=[.ref p]/\io K H p (ts.map V.str)/\JoinOk a ts=true/\Q (.str (Txt.join a ts)) H
def xK {X:Cx}:ET X "str.join" (zx X.K):=by intro A1 s Y H x xs v us Q I rx rv h;obtain⟨a,p,ts,rfl,rfl,hq,hok,q⟩:=h;obtain⟨t,rfl⟩:=rx;obtain⟨u,rfl,ru⟩:=kx rv;cases ru;obtain⟨its,r',pl,hz⟩:=I.list hq;obtain⟨l,rfl,e2⟩:=lu r';exact SC.join pl.isList e2 hok λt' k=>{.str _,H,I.tok k,{_,rfl},q}
def u4:V->A0 V->Hp->VK->Prop:=λx ys H Q=>∃a b,x=.str a/\ys=[.str b]/\(b.length == 0)=false/\a.length<1000000/\∀p,H p=none->Q (.ref p) (upd H p (.lst ((Txt.split a b).map V.str)))
def nu (a b:Str)(hb:(b.length == 0)=false):(Builtin.Str.partsBetween a (Builtin.Str.occurrences a b 0 a.length (a.length+1)) b.length).length<=a.length+2:=by
 have:=PySem.StrLaws.occ_length_le a b 0 a.length (a.length+1);have e:∀cuts:A0 Nat,(Builtin.Str.partsBetween a cuts b.length).length=cuts.length+1:=λcuts=>by simp[Builtin.Str.partsBetween]
 rw[e];omega
def su (a b:Str)(hb:(b.length == 0)=false):(Txt.split a b).length<=a.length+2:=by
 unfold Txt.split;split
 ·simp
 ·split
  ·simp
  ·exact nu a b hb
def vx:ET X "str.split" u4:=by
 intro A1 s Y H x xs v us Q I rx rv h;let⟨a,b,rfl,rfl,hb,hz,q⟩:=h;let⟨t,rfl⟩:=rx;let⟨u,rfl,ru⟩:=kx rv;let⟨t',rfl⟩:=ru;have h4:(1000000+2:Nat)<=sizeLine:=by decide
 have hp:=nu a b hb;have hs:=su a b hb;cases h1:(decide (a.length<b.length) || decide (Builtin.Str.strKind a<Builtin.Str.strKind b))
 ·cases hf:(Builtin.Str.occurrences a b 0 a.length (a.length+1)).isEmpty
  ·refine call_meets PySem.F.slot_str_split (typeIs_str _ _ _) PySem.F.entry_str_split (PySem.F.args_str_split_2 _ _) (meets_str_split_sep a b t t' h1 hb hf ∅ ∅) ?_;have e:Txt.split a b=Builtin.Str.partsBetween a (Builtin.Str.occurrences a b 0 a.length (a.length+1)) b.length:=by unfold Txt.split;rw[h1,hf];rfl
   rw[e] at q hs;rw[strsFrom_eq];have hv:=gg (numbered s.toks (Builtin.Str.partsBetween a (Builtin.Str.occurrences a b 0 a.length (a.length+1)) b.length));rw[numbered_texts] at hv;exact{.ref s.heap.objs.size,_,I.lnew hv (by rw[Ac];omega),rfl,q _ I.fresh}
  ·have e:Txt.split a b=[a]:=by unfold Txt.split;rw[h1,hf];rfl
   rw[e] at q;exact call_meets PySem.F.slot_str_split (typeIs_str _ _ _) PySem.F.entry_str_split (PySem.F.args_str_split_2 _ _) (meets_str_split_not_found a b t t' h1 hb hf)
    {.ref s.heap.objs.size,_,I.lnew (its:=[.str a t]) (t':=s.toks) (gg [(a,t)]) (show 1<=sizeLine by decide),rfl,q _ I.fresh}
 ·have e:Txt.split a b=[a]:=by unfold Txt.split;rw[h1];rfl
  rw[e] at q;exact call_meets PySem.F.slot_str_split (typeIs_str _ _ _) PySem.F.entry_str_split (PySem.F.args_str_split_2 _ _) (meets_str_split_cannot_occur a b t t' h1)
   {.ref s.heap.objs.size,_,I.lnew (its:=[.str a t]) (t':=s.toks) (gg [(a,t)]) (show 1<=sizeLine by decide),rfl,q _ I.fresh}
structure Ip (K:AF)(g:R->R->ac->Option (R×ac))(r:V->List V->Hp->VK->Prop):Prop where
 str:∀{x y U z},g x y U=some z->∃a,x=.v (.str a)
 go:∀{m H U x y d U' v u} {Q:VK},aS K m H U->ao K m H x v->ao K m H y u->g x y U=some (d,U')->(∀w H' m',cU m H m' H'->aS K m' H' U'->ao K m' H' d w->Q w H')->r v [u] H Q
section
variable {K:AF}{Y:L2.St}{H:Hp}{Q:VK}
def uY {g r fa fb}(hg:Ip K g r)(h:aA K (aK g fa fb) Y H Q):E7 K "str" r (aA K fa) (mT (aA K fb) sr) Y H Q:=by obtain⟨O,U,m,d,U',hl,hs,e,k⟩:=h;obtain⟨⟨x,U1⟩,e1,e⟩:=AM.mp e;obtain⟨⟨y,U2⟩,e2,e⟩:=AM.mp e;obtain⟨a,hx⟩:=hg.str e;simp only at hx;subst hx;refine{O,U,m,_,U1,hl,hs,e1,λv H1 m1 x1 s1 r1=>?_};have r1':=r1;rwa[ao,al] at r1';subst r1';refine{rfl,O,U1,m1,_,_,hl.ext x1,s1,e2,λu H2 m2 x2 s2 r2=>?_};exact hg.go s2 (r1.ext x2) r2 e λw H3 m3 x3 s3 r3=>k w H3 m3 ((x1.trans x2).trans x3) s3 r3
noncomputable def gQ:A0 D->Jo (Tn)
 |[]=>some []
 |.str x::r=>(gQ r).bind λl=>some (x::l)
 |_=>none
theorem jO:∀{ds:A0 D} {ts:Tn} {vs:A0 V},gQ ds=some ts->RelDs K H ds vs->vs=ts.map V.str
 |[],ts,vs,e,r=>by cases e;rwa[RelDs] at r;exact r
 |d::ds,ts,vs,e,r=>by
  cases d with
  |str x=>
   let⟨l,e1,e2⟩:=AM.mp e;cases e2;rwa[RelDs] at r;let⟨v,r',rfl,h1,h2⟩:=r;rwa[al] at h1;rw[h1,jO e1 h2];rfl
  |non=>cases e
  |bl _=>cases e
  |int _=>cases e
  |tup _=>cases e
  |fl _=>cases e
  |fd _ _=>cases e
  |key _=>cases e
noncomputable def lR:R->R->ac->Jo (R×ac)
 |.v (.str a),y,U=>(i3 y U).bind λds=>(gQ ds).bind λts=>if JoinOk a ts=true then some (.v (.str (Txt.join a ts)),U) else none
 |_,_,_=>none
def JBk:Ip K lR (zx K) where
 str:=λ{x y U z} e=>by
  unfold lR at e;split at e
  ·exact{_,rfl}
  ·cases e
 go:=λ{m H U x y d U' v u Q} s rx ry e k=>by
  unfold lR at e;split at e
  ·rename_i a;let⟨ds,e1,e⟩:=AM.mp e;let⟨ts,e2,e⟩:=AM.mp e;split at e
   ·rename_i hok
    cases e;rwa[ao,al] at rx;subst rx;let⟨p,vs,rfl,q,rr⟩:=hJ s ry e1;rw[jO e2 rr] at q;exact{a,p,ts,rfl,rfl,q,hok,k _ H m .refl s (by rwa[ao,al])}
   ·cases e
  ·cases e
noncomputable def qc:R->R->ac->Jo (R×ac)
 |.v (.str a),.v (.str b),U=>if (b.length == 0)=false/\a.length<1000000 then some (.p U.length,U++[.lst ((Txt.split a b).map D.str)]) else none
 |_,_,_=>none
theorem m9:∀{ts:Tn},RelDs K H (ts.map D.str) (ts.map V.str)
 |[]=>by rwa[Bj,RelDs]
 |t::ts=>by rwa[An,RelDs];exact{_,_,rfl,by rwa[al],m9}
def JDg:Ip K qc u4 where
 str:=λ{x y U z} e=>by
  unfold qc at e;split at e
  ·exact{_,rfl}
  ·cases e
 go:=λ{m H U x y d U' v u Q} s rx ry e k=>by
  unfold qc at e;split at e
  ·rename_i a b;split at e
   ·rename_i hc
    cases e;rwa[ao,al] at rx ry;subst rx ry;refine{a,b,rfl,rfl,hc.1,hc.2,λp hp=>?_};let⟨x1,x2,x3⟩:=gp s (m9 (K:=K) (H:=H) (ts:=Txt.split a b)) hp;exact k _ _ _ x1 x2 x3
   ·cases e
  ·cases e
noncomputable def tt (neg:A9):R->R->ac->Jo (R×ac)
 |.v (.str a),y,U=>(cY y U).bind λds=>(gQ ds).bind λts=>some (.v (.bl (if neg then !(ts.any (· == a)) else ts.any (· == a))),U)
 |_,_,_=>none
theorem nD {a:Str}:∀{ts:Tn},Fj (.str a) (ts.map V.str)=ts.any (· == a)
 |[]=>rfl
 |t::ts=>by have ih:=nD (a:=a) (ts:=ts);unfold Fj at ih ⊢;rw[An,D9,ih,D9];rfl
theorem lU:∀{ts:Tn},(ts.map V.str).all jF=true
 |[]=>rfl
 |t::ts=>by rw[An,List.all_cons,lU];rfl
def Eh {neg:A9}:me K (tt neg) (IE K neg):=by
 intro m H U x y d U' v u Q s rx ry e k;unfold tt at e;split at e
 ·let⟨ds,e0,e⟩:=AM.mp e;let⟨ts,e1,e⟩:=AM.mp e;cases e;rwa[ao,al] at rx;subst rx;let⟨a,ws,rfl,q,rr⟩:=f9 s ry e0;rw[jO e1 rr] at q;refine{a,ts.map V.str,rfl,q,rfl,lU,k _ H m .refl s ?_};rwa[ao,al,nD]
 ·cases e
end
end HW
namespace HS
open PyProof.Rows
def Ic (xs:AN Keyed)(lo hi:Nat):Prop:=∀i j,lo<=i->i<=j->j<hi->K xs i<=K xs j
def lc (lo hi:Nat)(xs ys:AN Keyed):Prop:=∀k,¬ (lo<=k/\k<hi)->ys[k]?=xs[k]?
structure SB (a₀:Array Keyed)(st:SortSt):Prop where
 perm:(arrOf st).Perm a₀
 kind:kindOf st=oneType'
 ok:failedOf st=none
structure JR (a₀:Array Keyed)(lo hi:Nat)(st BB:SortSt):Prop where
 b:SB a₀ BB
 pend:pendingOf BB=pendingOf st
 out:lc lo hi (arrOf st) (arrOf BB)
section
variable {prog:A7}{w:AB}{A:AH}{E:Tb}{s:A4}
def DX {st:SortSt}{a b:Int}{t u:Tok}{p q:A5}{Q:Jo A9->SortSt->Prop}(hk:kindOf st=oneType')(h:Q (some (decide (a<b))) st):wpS (model prog w) A E s (lt' (.int a t,p) (.int b u,q)) Q st:=by rw[lt'_eq];refine wpS_bind (wpS_get ?_);rw[hk,keyLt'_oneType];exact wpS_bind (wpS_lift (zbu (oneLt_int {rfl,wpS_pure h})))
def IK (xs:AN Keyed):Prop:=∀i,i<xs.size->∃t q,xs[i]?=some (.int (K xs i) t,q)
end
noncomputable def kk (p:Keyed):Int:=numOf p.1
def Le (x y:Keyed):Prop:=kk x<=kk y
structure Mg (A B Oz:List Keyed)(ia ib:Nat):Prop where
 perm:(Oz++A.drop ia++B.drop ib).Perm (A++B)
 srt:Oz.Pairwise Le
 toA:∀x∈Oz,∀y∈A.drop ia,Le x y
 toB:∀x∈Oz,∀y∈B.drop ib,Le x y
 len:Oz.length=ia+ib
structure Jp (st BB:SortSt):Prop where
 kind:kindOf BB=kindOf st
 arr:arrOf BB=arrOf st
 pend:pendingOf BB=pendingOf st
 ok:failedOf BB=failedOf st
section
structure JS (a b:Array Keyed):Prop where
 ka:IK a
 kb:IK b
 sa:Ic a 0 a.size
 sb:Ic b 0 b.size
 na:0<a.size
 nb:0<b.size
end
structure Mh (A B Oz:List Keyed)(na nb:Nat):Prop where
 perm:(A.take na++B.take nb++Oz).Perm (A++B)
 srt:Oz.Pairwise Le
 toA:∀x∈A.take na,∀y∈Oz,Le x y
 toB:∀x∈B.take nb,∀y∈Oz,Le x y
def Ig (xs:AN Keyed):A0 (Nat×Nat×Nat)->Nat->Nat->Prop
 |[],b,e=>b=e
 |(a,n,_)::r,b,e=>a=b/\0<n/\Ic xs a (a+n)/\Ig xs r (b+n) e
open L2
end HS
namespace HW
open PyProof.Rows L2 HS
end HW
namespace HS
open PyProof.Rows
end HS
namespace HW
open PyProof.Rows L2 HS
end HW
namespace HW
open PyProof.Rows L2
end HW
namespace DI
open PySem.W PyProof.Rows
section
variable {r:Nat->Int}{n:Nat}{s:A4}{cmp:Nat->Nat->(A9->A4->Prop)->A4->Prop}
abbrev key (r:Nat->Int)(p:AN Nat)(k:Nat):Int:=r (p.getD k 0)
structure Pm (n:Nat)(p:Array Nat):Prop where
 pm:p.toList.Perm (List.range n)
structure Rk (r:Nat->Int)(n:Nat)(s:Shared)(cmp:Nat->Nat->(Bool->Shared->Prop)->Shared->Prop):Prop where
 inj:∀i j,i<n->j<n->r i=r j->i=j
 ask:∀i j,i<n->j<n->∀C:Bool->Shared->Prop,C (decide (r i<r j)) s->cmp i j C s
end
end DI
namespace HK
open PyProof.Rows L2
section
variable {prog:A7}{w:AB}{A:AH}{E:Tb}{s:A4}{it:A6}
noncomputable def nv:String->Builtin:=(show{f:String->Builtin // f "dict_keyiterator.__next__" = Builtin.«dict_keyiterator.__next__»} from{_,rfl}).1
def WK (prog:A7)(w:AB)(T id:String)(b:Nat):Prop:=Slot T (Str.ofString "__next__") id/\entryFor table id=some (nv id)/\(∀a,argsOk id {pos:=[a]})/\(if Builtin.Dict_items.ownsTuple T=true then 2 else 0)=b /\
 ∀(A:AH) (E:Tb) (s:A4) (it:A6),s.TypeIs (.ref it) T->(∀(Q:String->A4->Prop),Q T s->wpAny (model prog w) A (typeNameOfWhole (.ref it)) Q E s) /\
 ∀(l:A0 String) (Q:A9->A4->Prop),Q (l.any λt=>[Value.type T,.type "object"].contains (.type t)) s->wpAny (model prog w) A (Builtin.Dict_items.isOneOf (.ref it) l) Q E s
end
open DI
end HK
namespace HW
open PyProof.Rows L2 HS DI HK
abbrev kk (k:Ti):A0 ci:=k.map Sum.inl
def vO {X:Cx}{H:Hp}{s:A4}(I:aE X A1 Y H s){b:A6}{zs:A0 V}(h:io X.K H b zs):∃(its:Te) (n:Nat),aO zs its/\s.heap.get? b=some {cls:=.type "list",data:=.seq its.toArray n}:=by
 rcases h with h|⟨o,its,n,hk,hc,hd,hs,hz,r⟩
 ·let⟨z,its,n,r,e⟩:=h.ok I.hok;exact{its,n,r,e}
 ·refine{its.toList,n,r,?_};have e:=I.kIn b o hk;let⟨c,d,dt,sl⟩:=o;simp only at hc hd hs;let⟨hd,hl⟩:=hd;subst hc hd hs hl;simpa using e
def zC (K:AF):R2:=λx y H Q=>∃l b xs zs,x=.ref l/\y=.ref b/\io K H l xs/\io K H b zs/\xs.length+zs.length<=sizeLine/\∀p,H p=none->Q (.ref p) (upd H p (.lst (xs++zs)))
def xF {X:Cx}:iD X (binaryOp .Add) (zC X.K):=by intro A1 s Y H x y v u Q I rx ry h;let⟨l,b,xs,zs,rfl,rfl,hH,hB,hz,q⟩:=h;cases rx;cases ry;let⟨its,n,r,e⟩:=vO I hH;let⟨Aq,n2,r2,e2⟩:=vO I hB;have l1:=r.length;have l2:=r2.length;refine PySem.P.add_list e e2 ?_ (by rw[Ao,Ao];omega);rw[show its.toArray++Aq.toArray=(its++Aq).toArray by simp];exact{.ref _,_,I.lnew (t':=s.toks) (r.append r2) (by rw[BD];omega),rfl,q _ I.fresh}
noncomputable def iW:R->ac->Jo (A0 D)
 |.p a,U=>(match U[a]? with|some (.lst xs)=>some xs|some (.fz xs)=>some xs|_=>none)
 |.v (.fl xs),_=>some xs
 |_,_=>none
theorem q5 {K:AF}{m:Tf}{H:Hp}{U:ac}(s:aS K m H U){x:R}{v:V}{xs:A0 D}(e:iW x U=some xs)(r:ao K m H x v):∃a vs,v=.ref a/\io K H a vs/\RelDs K H xs vs:=by
 refine hJ s r ?_;rw[←e]
 cases x with
 |v d=>cases d <;> rfl
 |_=>rfl
noncomputable def jH (x y:R)(U:ac):Jo (R×ac):=(iW x U).bind λxs=>(iW y U).bind λys=>if xs.length+ys.length<=sizeLine then some (.p U.length,U++[.lst (xs++ys)]) else none
def JBo {K:AF}:me K jH (zC K):=by
 intro m H U x y d U' v u Q s rx ry e k;unfold jH at e;let⟨xs,e1,e⟩:=AM.mp e;let⟨ys,e2,e⟩:=AM.mp e;split at e
 ·rename_i hz
  cases e;let⟨b,vs,rfl,ea,r1⟩:=q5 s e1 rx;let⟨c,ws,rfl,f,r2⟩:=q5 s e2 ry;refine{b,c,vs,ws,rfl,rfl,ea,f,by rw[←r1.length,←r2.length];exact hz,λp hp=>?_};let⟨x1,x2,x3⟩:=gp s (r1.append r2) hp;exact k _ _ _ x1 x2 x3
 ·cases e
end HW
namespace PySem
end PySem
namespace HW
open PyProof.Rows L2
end HW
namespace L2
open PyProof.Rows
end L2
namespace HW
open PyProof.Rows L2
end HW
namespace HW
def fT (b:A9)(h:AD)(it l:A6)(k:Nat)(xs:Tj):Prop:=match b with
 |false=>h.IsListIter it l k/\h.IsList l xs
 |true=>h.IsTupleIter it l k/\h.IsTuple l xs
section
variable {prog:A7}{w:AB}{A:AH}{E:Tb}{s:A4}{b:A9}{it l:A6}{k:Nat}{xs:Tj}
theorem fT.at {h h':AD}(Zz:fT b h it l k xs)(f:∀o,h.get? it=some o->h'.get? it=some o)(g:∀o,h.get? l=some o->h'.get? l=some o):fT b h' it l k xs:=by
 cases b with
 |false=>exact{Zz.1.at f,Zz.2.at g}
 |true=>
  let⟨⟨o,e,r⟩,p,q,t⟩:=Zz;exact{{o,f o e,r},p,g p q,t}
theorem fT.live {h:AD}(Zz:fT b h it l k xs):∃o,h.get? it=some o:=by
 cases b with
 |false=>let⟨⟨o,e,_⟩,_⟩:=Zz;exact{o,e}
 |true=>let⟨⟨o,e,_⟩,_⟩:=Zz;exact{o,e}
theorem fT.item {x:A5}{Q:Tb}(Zz:fT b s.heap it l k xs)(hx:xs[k]?=some x)(hne:l≠it)(hQ:∀h',fT b h' it l (k+1) xs->Heap.SameBut it s.heap h'->Q x {s with heap:=h'}) :
  wpAny (model prog w) A (nextOf (.ref it)) Q E s:=by
 cases b with
 |false=>exact wpAny_nextOf_list_item Zz.1 Zz.2 hx λh' a c=>hQ h' {a,Zz.2.extBut c.extBut hne} c
 |true=>
  obtain⟨⟨o,ho,hc,hd⟩,ol,hol,ht,nl,hdl⟩:=id Zz;have ty:s.TypeIs (.ref it) "tuple_iterator":={o,ho,hc};unfold nextOf;refine AI (DK (name:=Str.ofString "__next__") ty F.slot_tuple_iterator_next (Cd F.slot_tuple_iterator_next ty F.entry_tuple_iterator_next ?_ (F.args_tuple_iterator_next_1 _)));refine(show wpAny _ _ (field (.ref it) 0 >>= _) _ _ s from AI (Ay ho hd (x:=.ref l) rfl ?_));refine(show wpAny _ _ (if (Value.ref l == Value.none)=true then _ else _) _ _ s from ?_);rw[AA (by exact Bw)];refine(show wpAny _ _ (field (.ref it) 1 >>= _) _ _ s from AI (Ay ho hd (x:=.int k 0) rfl ?_));refine(show wpAny _ _ (seqItems? (.ref l) >>= _) _ _ s from AI (Ci hol hdl ?_));rwa[Ce,hx];refine AI (wpAny_setField ho hd ∅ (AR {x,rfl,?_}));have c:Heap.SameBut it s.heap (s.heap.update it (Obj.mapFields (·.setIfInBounds 1 (rawInt ((k:Int)+1))))):=Heap.SameBut.update ..;refine AR (hQ _ {{_,zaX _ ho (Obj.isFreed_of_fields (Obj.data_mapFields hd _)),(Obj.cls_mapFields ..).trans hc,?_},ol,c.extBut _ _ hne hol,ht,nl,hdl} c);rw[Obj.data_mapFields hd];simp[rawInt]
theorem fT.done {Q:Tb}(hh:A.handled=none)(Zz:fT b s.heap it l k xs)(hx:xs[k]?=none)(hE:∀h' e,Heap.ExtBut it s.heap h'->(∃o,h'.get? e=some o/\o.cls=.type "StopIteration")->E (.ref e) {s with heap:=h'}) :
  wpAny (model prog w) A (nextOf (.ref it)) Q E s:=by
 cases b with
 |false=>exact wpAny_nextOf_list_end hh Zz.1 Zz.2 hx hE
 |true=>
  obtain⟨⟨o,ho,hc,hd⟩,ol,hol,ht,nl,hdl⟩:=id Zz;have ty:s.TypeIs (.ref it) "tuple_iterator":={o,ho,hc};unfold nextOf;refine AI (DK (name:=Str.ofString "__next__") ty F.slot_tuple_iterator_next (Cd F.slot_tuple_iterator_next ty F.entry_tuple_iterator_next ?_ (F.args_tuple_iterator_next_1 _)));refine(show wpAny _ _ (field (.ref it) 0 >>= _) _ _ s from AI (Ay ho hd (x:=.ref l) rfl ?_));refine(show wpAny _ _ (if (Value.ref l == Value.none)=true then _ else _) _ _ s from ?_);rw[AA (by exact Bw)];refine(show wpAny _ _ (field (.ref it) 1 >>= _) _ _ s from AI (Ay ho hd (x:=.int k 0) rfl ?_));refine(show wpAny _ _ (seqItems? (.ref l) >>= _) _ _ s from AI (Ci hol hdl ?_));rwa[Ce,hx];refine AI (zby (AI (wpAny_setField ho hd ∅ ?_)));refine(show wpAny _ _ (newExc (.type "StopIteration") [] >>= _) _ _ _ from AI ?_);rwa[newExc,newTuple];refine AI (za6 (AI (m:=firstArgMember _ _) (wpAny_of_eq (a:=Value.none) (by first|rfl|(rwa[firstArgMember];rfl)) (za6 ?_ (by size_fits)))) (by size_fits));rwa[raiseNew];refine AI (wpAny_handled ?_);rw[show A.in1.handled=none by exact hh];exact AI (AR (wpAny_throw (hE _ _ (((Heap.SameBut.update ..).extBut.push _).push _) {_,B1 _ rfl,rfl})))
end
abbrev e6 (h:AD)(z TI TO T:A6)(fl:A9):Prop :=
 h.get? z=some {cls:=.type "zip",dict:=none,data:=.fields #[rawInt T,.bool fl,.bool false,.ref TI,.ref TO],slots:=#[]}
section
variable {prog:A7}{w:AB}{A:AH}{E:Tb}{s:A4}
def kt {M:Model}{a:A6}{Q:Jo Obj->A4->Prop}(h:Q (s.heap.get? a) s):wpAny M A (loadIfAlive a) Q E s :=
 λΓ p _=>by
  show Sem.wp M Γ (.loadIfAlive a .pure) _ _ p s
  rw[Sem.wp_loadIfAlive];exact(AR (M:=M) (A:=A) (E:=E) h) Γ p (by assumption)
theorem mh {z TI TO T i1 i2 l1 l2:A6}{k1 k2:Nat}{b1 b2:A9}{xs ys:Tj}{x y:A5}{fl:A9}{oT:Obj}{Q:Tb}(D:ZipApart z TI TO i1 i2 l1 l2)
  (hz:e6 s.heap z TI TO T fl) (hT:s.heap.get? T=some oT) (BY:IsPair s.heap TI (.ref i1) (.ref i2))
  (h1:fT b1 s.heap i1 l1 k1 xs) (h2:fT b2 s.heap i2 l2 k2 ys) (hx:xs[k1]?=some x) (hy:ys[k2]?=some y)
  (hQ:∀h',e6 h' z TI TO T true->fT b1 h' i1 l1 (k1+1) xs->fT b2 h' i2 l2 (k2+1) ys->IsPair h' s.heap.objs.size x y->h'.objs.size=s.heap.objs.size+1 ->
   (∀c o,c≠z->c≠i1->c≠i2->s.heap.get? c=some o->h'.get? c=some o)->Q (.ref s.heap.objs.size) {s with heap:=h'}) :
  wpAny (model prog w) A (Builtin.«zip.__next__» {[.ref z],[]}) (λfin s'=>∃v,fin=.done (.ret v)/\Q v s') E s:=by
 show wpAny _ _ (field (.ref z) 2 >>= _) _ _ _
 refine AI (Ay hz rfl (x:=.bool false) rfl ?_)
 show wpAny _ _ (field (.ref z) 3 >>= _) _ _ _
 refine AI (Ay hz rfl (x:=.ref TI) rfl ?_);refine AI (Ci BY rfl ?_)
 show wpAny _ _ (ownedTupleIsFree (.ref z) >>= _) _ _ _
 refine AI ?_;unfold ownedTupleIsFree;refine AI (Ay hz rfl (x:=rawInt T) rfl ?_)
 show wpAny _ _ (loadIfAlive (Int.toNat (T:Int)) >>= _) _ _ _
 refine AI (kt ?_);rw[Ce,hT];rwa[Option.isNone_some,Bp,if_false];refine AI (Ay hz rfl (x:=.bool fl) rfl ?_)
 cases fl with
 |false=>
  show wpAny _ _ (setField (.ref z) 1 (.bool true) >>=λ_=>pure false) _ _ _
  refine AI (za4 hz ∅ λh₁ hz1 B5=>AR ?_)
  replace hz1:e6 h₁ z TI TO T true:=hz1
  rwa[Bp,if_false];rw[←zbs];rwa[DL,zbk];refine AI (AI (AI (Be ?_)))
  show wpAny _ _ (nextOf (.ref i1) >>= _) _ _ _
  refine AI ((h1.at (λo e=>B5.extBut _ _ D.i1z e) λo e=>B5.extBut _ _ D.l1z e).item hx D.l1i1 λh₂ h12 BV=>AR ?_);refine AR ?_;refine AI (AI (Be ?_))
  show wpAny _ _ (nextOf (.ref i2) >>= _) _ _ _
  refine AI ((h2.at (λo e=>BV.extBut _ _ D.i12.symm (B5.extBut _ _ D.i2z e)) λo e=>BV.extBut _ _ D.l2i1 (B5.extBut _ _ D.l2z e)).item hy D.l2i2 λh₃ h23 By=>AR ?_);refine AR (AR ?_);refine AI (wpAny_newTuple ?_ (show 2<=sizeLine by decide))
  have hsz:h₃.objs.size=s.heap.objs.size:=by rw[By.1,BV.1,B5.1]
  have hz3:e6 h₃ z TI TO T true:=By.extBut _ _ D.i2z.symm (BV.extBut _ _ D.i1z.symm hz1);have h13:fT b1 h₃ i1 l1 (k1+1) xs:=h12.at (λo e=>By.extBut _ _ D.i12 e) λo e=>By.extBut _ _ D.l1i2 e;have pz:IsPair (h₃.push {cls:=.type "tuple",data:=.seq #[x,y]}) h₃.objs.size x y:=B1 _ rfl;refine AR {_,rfl,?_}
  show Q (.ref h₃.objs.size) _
  rw[hsz] at pz ⊢;exact hQ _ (AU _ hz3) (h13.at (λo e=>AU _ e) λo e=>AU _ e) (h23.at (λo e=>AU _ e) λo e=>AU _ e) pz (by rw[BZ,hsz]) λc o c1 c2 c3 e=>AU _ (By.extBut _ _ c3 (BV.extBut _ _ c2 (B5.extBut _ _ c1 e)))
 |true=>
  have hz1:e6 s.heap z TI TO T true:=hz;have B5:Heap.SameBut z s.heap s.heap:={rfl,λ_ _=>rfl}
  show wpAny _ _ (pure false) _ _ _
  refine AR ?_;rwa[Bp,if_false];rw[←zbs];rwa[DL,zbk];refine AI (AI (AI (Be ?_)))
  show wpAny _ _ (nextOf (.ref i1) >>= _) _ _ _
  refine AI ((h1.at (λo e=>B5.extBut _ _ D.i1z e) λo e=>B5.extBut _ _ D.l1z e).item hx D.l1i1 λh₂ h12 BV=>AR ?_);refine AR ?_;refine AI (AI (Be ?_))
  show wpAny _ _ (nextOf (.ref i2) >>= _) _ _ _
  refine AI ((h2.at (λo e=>BV.extBut _ _ D.i12.symm (B5.extBut _ _ D.i2z e)) λo e=>BV.extBut _ _ D.l2i1 (B5.extBut _ _ D.l2z e)).item hy D.l2i2 λh₃ h23 By=>AR ?_);refine AR (AR ?_);refine AI (wpAny_newTuple ?_ (show 2<=sizeLine by decide))
  have hsz:h₃.objs.size=s.heap.objs.size:=by rw[By.1,BV.1,B5.1]
  have hz3:e6 h₃ z TI TO T true:=By.extBut _ _ D.i2z.symm (BV.extBut _ _ D.i1z.symm hz1);have h13:fT b1 h₃ i1 l1 (k1+1) xs:=h12.at (λo e=>By.extBut _ _ D.i12 e) λo e=>By.extBut _ _ D.l1i2 e;have pz:IsPair (h₃.push {cls:=.type "tuple",data:=.seq #[x,y]}) h₃.objs.size x y:=B1 _ rfl;refine AR {_,rfl,?_}
  show Q (.ref h₃.objs.size) _
  rw[hsz] at pz ⊢;exact hQ _ (AU _ hz3) (h13.at (λo e=>AU _ e) λo e=>AU _ e) (h23.at (λo e=>AU _ e) λo e=>AU _ e) pz (by rw[BZ,hsz]) λc o c1 c2 c3 e=>AU _ (By.extBut _ _ c3 (BV.extBut _ _ c2 (B5.extBut _ _ c1 e)))
theorem nM {z TI TO T i1 i2 l1 l2:A6}{k1:Nat}{b1:A9}{xs:Tj}{fl:A9}{oT:Obj}{Q:Fin->A4->Prop}(hh:A.handled=none)(D:ZipApart z TI TO i1 i2 l1 l2)
  (hz:e6 s.heap z TI TO T fl) (hT:s.heap.get? T=some oT) (BY:IsPair s.heap TI (.ref i1) (.ref i2))
  (h1:fT b1 s.heap i1 l1 k1 xs) (hx:xs[k1]?=none)
  (hE:∀h' e,(∀c o,c≠z->c≠i1->s.heap.get? c=some o->h'.get? c=some o)->(∃o,h'.get? e=some o/\o.cls=.type "StopIteration")->E (.ref e) {s with heap:=h'}) :
  wpAny (model prog w) A (Builtin.«zip.__next__» {[.ref z],[]}) Q E s:=by
 show wpAny _ _ (field (.ref z) 2 >>= _) _ _ _
 refine AI (Ay hz rfl (x:=.bool false) rfl ?_)
 show wpAny _ _ (field (.ref z) 3 >>= _) _ _ _
 refine AI (Ay hz rfl (x:=.ref TI) rfl ?_);refine AI (Ci BY rfl ?_)
 show wpAny _ _ (ownedTupleIsFree (.ref z) >>= _) _ _ _
 refine AI ?_;unfold ownedTupleIsFree;refine AI (Ay hz rfl (x:=rawInt T) rfl ?_)
 show wpAny _ _ (loadIfAlive (Int.toNat (T:Int)) >>= _) _ _ _
 refine AI (kt ?_);rw[Ce,hT];rwa[Option.isNone_some,Bp,if_false];refine AI (Ay hz rfl (x:=.bool fl) rfl ?_)
 cases fl with
 |false=>
  show wpAny _ _ (setField (.ref z) 1 (.bool true) >>=λ_=>pure false) _ _ _
  refine AI (za4 hz ∅ λh₁ hz1 B5=>AR ?_);rwa[Bp,if_false];rw[←zbs];rwa[DL,zbk];refine AI (AI (AI (Be ?_)))
  show wpAny _ _ (nextOf (.ref i1) >>= _) _ _ _
  exact AI (fT.done hh (h1.at (λo e=>B5.extBut _ _ D.i1z e) λo e=>B5.extBut _ _ D.l1z e) hx λh₂ e BV he=>hE h₂ e (λc o c1 c3 q=>BV _ _ c3 (B5.extBut _ _ c1 q)) he)
 |true=>
  have B5:Heap.SameBut z s.heap s.heap:={rfl,λ_ _=>rfl}
  show wpAny _ _ (pure false) _ _ _
  refine AR ?_;rwa[Bp,if_false];rw[←zbs];rwa[DL,zbk];refine AI (AI (AI (Be ?_)))
  show wpAny _ _ (nextOf (.ref i1) >>= _) _ _ _
  exact AI (fT.done hh (h1.at (λo e=>B5.extBut _ _ D.i1z e) λo e=>B5.extBut _ _ D.l1z e) hx λh₂ e BV he=>hE h₂ e (λc o c1 c3 q=>BV _ _ c3 (B5.extBut _ _ c1 q)) he)
def mi {z TI TO i1 i2 l1 l2:A6}{k1 k2:Nat}{b1 b2:A9}{xs ys:Tj}{x y a b:A5}{Q:Tb}(D:ZipApart z TI TO i1 i2 l1 l2)
  (hz:IsZip s.heap z TI TO .none) (BY:IsPair s.heap TI (.ref i1) (.ref i2)) (hTO:IsPair s.heap TO a b) (h1:fT b1 s.heap i1 l1 k1 xs) (h2:fT b2 s.heap i2 l2 k2 ys) (hx:xs[k1]?=some x) (hy:ys[k2]?=some y)
  (hQ:∀h',IsZip h' z TI TO (rawInt s.heap.objs.size)->IsPair h' TO x y->fT b1 h' i1 l1 (k1+1) xs->fT b2 h' i2 l2 (k2+1) ys->IsPair h' s.heap.objs.size x y->h'.objs.size=s.heap.objs.size+1 ->
   (∀c o,c≠z->c≠TO->c≠i1->c≠i2->s.heap.get? c=some o->h'.get? c=some o)->Q (.ref s.heap.objs.size) {s with heap:=h'}) :
  wpAny (model prog w) A (Builtin.«zip.__next__» {[.ref z],[]}) (λfin s'=>∃v,fin=.done (.ret v)/\Q v s') E s:=by
 refine(show wpAny _ _ (field (.ref z) 2 >>= _) _ _ _ from AI (Ay hz rfl (x:=.bool false) rfl ?_));refine(show wpAny _ _ (field (.ref z) 3 >>= _) _ _ _ from AI (Ay hz rfl (x:=.ref TI) rfl (AI (Ci BY rfl ?_))));refine(show wpAny _ _ (ownedTupleIsFree (.ref z) >>= _) _ _ _ from AI ?_);unfold ownedTupleIsFree;refine AI (Ay hz rfl (x:=.none) rfl (AR ?_));rwa[if_true];refine AI (zby (AI (Ay hz rfl (x:=.ref TO) rfl (AI (za4 hz ∅ λg₁ q₁ c₁=>AI ?_)))));have q₁:IsZip g₁ z TI TO .ellipsis:=q₁;rwa[List.zipIdx_cons,List.zipIdx_nil,DL,zbk];refine AI (AI (wpAny_onRaise ?_));refine(show wpAny _ _ (nextOf (.ref i1) >>= _) _ _ _ from AI ((h1.at (λo e=>c₁.extBut _ _ D.i1z e) λo e=>c₁.extBut _ _ D.l1z e).item hx D.l1i1 λg₂ p₂ c₂=>AR ?_));have t₂:IsPair g₂ TO a b:=c₂.extBut _ _ D.TOi1 (c₁.extBut _ _ D.TOz hTO);refine AI (Ci t₂ rfl (AI (wpAny_updateSeq_pair t₂ λg₃ t₃ c₃=>AI (wpAny_letGo (AR ?_)))));have t₃:IsPair g₃ TO x b:=t₃;refine AI (AI (wpAny_onRaise ?_));have s₃:fT b2 g₃ i2 l2 k2 ys:=h2.at (λo e=>c₃.extBut _ _ D.TOi2.symm (c₂.extBut _ _ D.i12.symm (c₁.extBut _ _ D.i2z e))) λo e=>c₃.extBut _ _ D.l2TO (c₂.extBut _ _ D.l2i1 (c₁.extBut _ _ D.l2z e));refine(show wpAny _ _ (nextOf (.ref i2) >>= _) _ _ _ from AI (s₃.item hy D.l2i2 λg₄ p₄ c₄=>AR ?_));have t₄:IsPair g₄ TO x b:=c₄.extBut _ _ D.TOi2 t₃;refine AI (Ci t₄ rfl (AI (wpAny_updateSeq_pair t₄ λg₅ t₅ c₅=>AI (wpAny_letGo (AR (AR ?_))))));have t₅:IsPair g₅ TO x y:=t₅;refine AI (Ci t₅ rfl (AI (wpAny_newTuple ?_)))
 have sz:g₅.objs.size=s.heap.objs.size:=by rw[c₅.1,c₄.1,c₃.1,c₂.1,c₁.1]
 have q₅:IsZip g₅ z TI TO .ellipsis:=c₅.extBut _ _ D.TOz.symm (c₄.extBut _ _ D.i2z.symm (c₃.extBut _ _ D.TOz.symm (c₂.extBut _ _ D.i1z.symm q₁)));have k₅:∀c o,c≠z->c≠TO->c≠i1->c≠i2->s.heap.get? c=some o->g₅.get? c=some o:=λc o d1 d2 d3 d4 e=>c₅.extBut _ _ d2 (c₄.extBut _ _ d4 (c₃.extBut _ _ d2 (c₂.extBut _ _ d3 (c₁.extBut _ _ d1 e))));have u1:fT b1 g₅ i1 l1 (k1+1) xs:=p₂.at (λo e=>c₅.extBut _ _ D.TOi1.symm (c₄.extBut _ _ D.i12 (c₃.extBut _ _ D.TOi1.symm e))) λo e=>c₅.extBut _ _ D.l1TO (c₄.extBut _ _ D.l1i2 (c₃.extBut _ _ D.l1TO e));have u2:fT b2 g₅ i2 l2 (k2+1) ys:=p₄.at (λo e=>c₅.extBut _ _ D.TOi2.symm e) λo e=>c₅.extBut _ _ D.l2TO e;have zl:z<g₅.objs.size:=Ab q₅;refine(show wpAny _ _ (ownedTupleHandOut (.ref z) (.ref g₅.objs.size) >>= _) _ _ _ from AI ?_);unfold ownedTupleHandOut;have q₆:IsZip (g₅.push {cls:=.type "tuple",data:=.seq #[x,y]}) z TI TO .ellipsis:=AU _ q₅;refine AI (za4 q₆ ∅ λg₇ q₇ c₇=>?_);have q₇:IsZip g₇ z TI TO (rawInt g₅.objs.size):=q₇;refine za4 q₇ ∅ λg₈ q₈ c₈=>AR {_,rfl,?_};have q₈:IsZip g₈ z TI TO (rawInt g₅.objs.size):=q₈;have up:∀c o,c≠z->g₅.get? c=some o->g₈.get? c=some o:=λc o d1 e=>c₈.extBut _ _ d1 (c₇.extBut _ _ d1 (AU _ e));have tn:IsPair g₈ g₅.objs.size x y:=c₈.extBut _ _ (Nat.ne_of_gt zl) (c₇.extBut _ _ (Nat.ne_of_gt zl) (B1 _ rfl))
 have s8:g₈.objs.size=g₅.objs.size+1:=by rw[c₈.1,c₇.1,BZ]
 show Q (.ref g₅.objs.size) _
 rw[sz] at q₈ tn s8 ⊢;exact hQ g₈ q₈ (up _ _ D.TOz t₅) (u1.at (λo e=>up _ o D.i1z e) λo e=>up _ o D.l1z e) (u2.at (λo e=>up _ o D.i2z e) λo e=>up _ o D.l2z e) tn s8 λc o d1 d2 d3 d4 e=>up c o d1 (k₅ c o d1 d2 d3 d4 e)
def nN {z TI TO i1 i2 l1 l2:A6}{k1:Nat}{b1:A9}{xs:Tj}{Q:Fin->A4->Prop}(hh:A.handled=none)(D:ZipApart z TI TO i1 i2 l1 l2)
  (hz:IsZip s.heap z TI TO .none) (BY:IsPair s.heap TI (.ref i1) (.ref i2)) (h1:fT b1 s.heap i1 l1 k1 xs) (hx:xs[k1]?=none)
  (hE:∀h' e,(∀c o,c≠z->c≠i1->s.heap.get? c=some o->h'.get? c=some o)->(∃o,h'.get? e=some o/\o.cls=.type "StopIteration")->E (.ref e) {s with heap:=h'}) :
  wpAny (model prog w) A (Builtin.«zip.__next__» {[.ref z],[]}) Q E s:=by
 refine(show wpAny _ _ (field (.ref z) 2 >>= _) _ _ _ from AI (Ay hz rfl (x:=.bool false) rfl ?_));refine(show wpAny _ _ (field (.ref z) 3 >>= _) _ _ _ from AI (Ay hz rfl (x:=.ref TI) rfl (AI (Ci BY rfl ?_))));refine(show wpAny _ _ (ownedTupleIsFree (.ref z) >>= _) _ _ _ from AI ?_);unfold ownedTupleIsFree;refine AI (Ay hz rfl (x:=.none) rfl (AR ?_));rwa[if_true];refine AI (zby (AI (Ay hz rfl (x:=.ref TO) rfl (AI (za4 hz ∅ λg₁ q₁ c₁=>AI ?_)))));have q₁:IsZip g₁ z TI TO .ellipsis:=q₁;rwa[List.zipIdx_cons,List.zipIdx_nil,DL,zbk];refine AI (AI (wpAny_onRaise ?_));refine(show wpAny _ _ (nextOf (.ref i1) >>= _) _ _ _ from AI (fT.done hh (h1.at (λo e=>c₁.extBut _ _ D.i1z e) λo e=>c₁.extBut _ _ D.l1z e) hx λg₂ e c₂ he=>?_));let⟨oe,he1,he2⟩:=he;have q₂:IsZip g₂ z TI TO .ellipsis:=c₂ _ _ D.i1z.symm q₁;refine za4 q₂ ∅ λg₃ q₃ c₃=>?_
 have ne:e≠z:=λy=>by rw[y,q₂] at he1;cases he1;exact AE (show Value.type "zip" = Value.type "StopIteration" from he2) ∅
 exact hE g₃ e (λc o d1 d3 q=>c₃.extBut _ _ d1 (c₂ _ _ d3 (c₁.extBut _ _ d1 q))) {oe,c₃.extBut _ _ ne he1,he2}
end
open L2 PyProof.Rows
def pQ (b:A9)(h:AD)(l:A6)(xs:Tj):Prop:=match b with
 |false=>h.IsList l xs
 |true=>h.IsTuple l xs
noncomputable def zL (b:A9)(l:A6):Obj:={cls:=.type (bif b then "tuple_iterator" else "list_iterator"),data:=.fields #[.ref l,.int 0 0]}
theorem pQ.at {b:A9}{h h':AD}{l:A6}{xs:Tj}(Zz:pQ b h l xs)(g:∀o,h.get? l=some o->h'.get? l=some o):pQ b h' l xs:=by
 cases b with
 |false=>exact Heap.IsList.at Zz g
 |true=>let⟨p,q,t⟩:=Zz;exact{p,g p q,t}
theorem pQ.lt {b:A9}{h:AD}{l:A6}{xs:Tj}(Zz:pQ b h l xs):l<h.objs.size:=by
 cases b with
 |false=>let⟨o,e,_⟩:=Zz;exact Ab e
 |true=>let⟨o,e,_⟩:=Zz;exact Ab e
theorem pQ.it {b:A9}{h:AD}{i l:A6}{xs:Tj}(Zz:pQ b h l xs)(e:h.get? i=some (zL b l)):fT b h i l 0 xs:=by
 cases b with
 |false=>exact{{_,e,rfl,rfl},Zz}
 |true=>exact{{_,e,rfl,rfl},Zz}
section
variable {prog:A7}{w:AB}{A:AH}{E:Tb}{s:A4}{b b1 b2:A9}{l l1 l2:A6}{xs ys:Tj}
theorem nr {Q:Tb}(Zz:pQ b s.heap l xs)(hQ:Q (.ref s.heap.objs.size) {s with heap:=s.heap.push (zL b l)}):wpAny (model prog w) A (pyIter (.ref l)) Q E s:=by
 cases b with
 |false=>exact zbL Zz hQ
 |true=>exact wpAny_pyIter_tuple Zz hQ
abbrev E3 (h:AD)(b1 b2:A9)(l1 l2:A6):AD:=(h.push (zL b1 l1)).push (zL b2 l2)
abbrev E2 (h:AD)(b1 b2:A9)(l1 l2:A6):AD:=(E3 h b1 b2 l1 l2).push {cls:=.type "tuple",data:=.seq #[.ref h.objs.size,.ref (h.push (zL b1 l1)).objs.size]}
abbrev E1 (h:AD)(b1 b2:A9)(l1 l2:A6):AD:=(E2 h b1 b2 l1 l2).push {cls:=.type "tuple",data:=.seq #[.none,.none]}
abbrev yx (h:AD)(b1 b2:A9)(l1 l2:A6):AD:=(E1 h b1 b2 l1 l2).push {cls:=.type "zip",data:=.fields #[.none,.bool false,.bool false,.ref (E3 h b1 b2 l1 l2).objs.size,.ref (E2 h b1 b2 l1 l2).objs.size]}
def qi (b1 b2:A9)(l1 l2:A6)(xs ys:Tj):Meets (Builtin.«zip.__new__» {[.type "zip",.ref l1,.ref l2],[]}) (λ_ R s=>pQ b1 s.heap l1 xs/\pQ b2 s.heap l2 ys/\R (.ok (.ret (.ref (E1 s.heap b1 b2 l1 l2).objs.size))) {s with heap:=yx s.heap b1 b2 l1 l2}) :=
 .of_wp λprog w A R s h=>by
  let⟨hp,g,d,tk,os⟩:=s;let⟨q1,q2,h⟩:=h;have hsub:=PySem.sub_zip;have Q1:pQ b1 (Shared.heap ⟨hp,g,d,tk,os⟩) l1 xs:=q1;have Q2:pQ b2 (Shared.heap ⟨hp.push (zL b1 l1),g,d,tk,os⟩) l2 ys:=pQ.at q2 λo e=>AU _ e
  wp_walk using nr Q1,nr Q2
  exact{_,rfl,h}
def tH {Q:Tb}(q1:pQ b1 s.heap l1 xs)(q2:pQ b2 s.heap l2 ys)
  (h:∀h',IsZip h' (s.heap.objs.size+4) (s.heap.objs.size+2) (s.heap.objs.size+3) .none->IsPair h' (s.heap.objs.size+2) (.ref s.heap.objs.size) (.ref (s.heap.objs.size+1))->IsPair h' (s.heap.objs.size+3) .none .none ->
   fT b1 h' s.heap.objs.size l1 0 xs->fT b2 h' (s.heap.objs.size+1) l2 0 ys->h'.objs.size=s.heap.objs.size+5->(∀c o,s.heap.get? c=some o->h'.get? c=some o)->Q (.ref (s.heap.objs.size+4)) {s with heap:=h'}) :
  wpAny (model prog w) A (call (.type "zip") [.ref l1,.ref l2]) Q E s:=by
 refine callType_new F.called_zip ∅ (F.typeCall_zip_2 _ _) (F.newCall_zip_2 _ _) (λobj=>F.args_object_init_3 obj _ _) F.entry_zip_new (qi b1 b2 l1 l2 xs ys) {q1,q2,?_};have kp:∀c o,s.heap.get? c=some o->(yx s.heap b1 b2 l1 l2).get? c=some o:=λc o e=>AU _ (AU _ (AU _ (AU _ (AU _ e))));have z1:(s.heap.push (zL b1 l1)).objs.size=s.heap.objs.size+1:=BZ ..
 have z2:(E3 s.heap b1 b2 l1 l2).objs.size=s.heap.objs.size+2:=by rw[BZ,z1]
 have z3:(E2 s.heap b1 b2 l1 l2).objs.size=s.heap.objs.size+3:=by rw[BZ,z2]
 have z4:(E1 s.heap b1 b2 l1 l2).objs.size=s.heap.objs.size+4:=by rw[BZ,z3]
 have z5:(yx s.heap b1 b2 l1 l2).objs.size=s.heap.objs.size+5:=by rw[BZ,z4]
 have g5:(yx s.heap b1 b2 l1 l2).get? (E1 s.heap b1 b2 l1 l2).objs.size=some _:=B1 _ rfl;have g4:(yx s.heap b1 b2 l1 l2).get? (E2 s.heap b1 b2 l1 l2).objs.size=some _:=AU _ (B1 _ rfl);have g3:(yx s.heap b1 b2 l1 l2).get? (E3 s.heap b1 b2 l1 l2).objs.size=some _:=AU _ (AU _ (B1 _ rfl));have g2:(yx s.heap b1 b2 l1 l2).get? (s.heap.push (zL b1 l1)).objs.size=some _:=AU _ (AU _ (AU _ (B1 _ rfl)));have g1:(yx s.heap b1 b2 l1 l2).get? s.heap.objs.size=some _:=AU _ (AU _ (AU _ (AU _ (B1 _ rfl))));refine(show _/\_ from ?_);rw[z2,z3,z4] at g5;rw[z1,z2] at g3;rw[z3] at g4;rw[z1] at g2;rw[z4];exact{{_,g5,rfl},h _ g5 g3 g4 ((q1.at λo e=>kp _ _ e).it g1) ((q2.at λo e=>kp _ _ e).it g2) z5 kp}
end
def pR:typeLookup (.type "zip") "__len__" = pure none:=by rw[typeLookup_type,builtinLookup_eq_fast];kernel_rfl
def oH:typeLookup (.type "zip") "__length_hint__" = pure none:=by rw[typeLookup_type,builtinLookup_eq_fast];kernel_rfl
structure yn (b1 b2:Bool)(h:Heap)(S z TI TO i1 i2 l1 l2:Addr)(xs ys:Tj)(k:Nat):Prop where
 st:(k=0/\IsZip h z TI TO .none/\IsPair h TO .none .none)\/∃T fl oT,e6 h z TI TO T fl/\h.get? T=some oT/\T∉[S,z,TO,i1,i2]
 ti:IsPair h TI (.ref i1) (.ref i2)
 h1:fT b1 h i1 l1 k xs
 h2:fT b2 h i2 l2 k ys
 to:∃o,h.get? TO=some o
section
variable {prog:A7}{w:AB}{A:AH}{E:Tb}{s:A4}{S z TI TO i1 i2 l1 l2:A6}{b1 b2:A9}{xs ys:Tj}{k:Nat}
def yn.ty {h:AD}(Zz:yn b1 b2 h S z TI TO i1 i2 l1 l2 xs ys k):∃o,h.get? z=some o/\o.cls=.type "zip":=by
 rcases Zz.st with⟨_,h,_⟩|⟨T,fl,oT,h,_⟩
 ·exact{_,h,rfl}
 ·exact{_,h,rfl}
def o7 {T:A6}{x y:A5}{fl:A9}{oT:Obj}{k1 k2:Nat}{Q:Jo A5->A4->Prop}(D:ZipApart z TI TO i1 i2 l1 l2)
  (hz:e6 s.heap z TI TO T fl) (hT:s.heap.get? T=some oT) (BY:IsPair s.heap TI (.ref i1) (.ref i2))
  (h1:fT b1 s.heap i1 l1 k1 xs) (h2:fT b2 s.heap i2 l2 k2 ys) (hx:xs[k1]?=some x) (hy:ys[k2]?=some y)
  (hQ:∀h',e6 h' z TI TO T true->fT b1 h' i1 l1 (k1+1) xs->fT b2 h' i2 l2 (k2+1) ys->IsPair h' s.heap.objs.size x y->h'.objs.size=s.heap.objs.size+1 ->
   (∀c o,c≠z->c≠i1->c≠i2->s.heap.get? c=some o->h'.get? c=some o)->Q (some (.ref s.heap.objs.size)) {s with heap:=h'}) :
  wpAny (model prog w) A (pyNext (.ref z)) Q E s:=by
 have CB:s.TypeIs (.ref z) "zip":={_,hz,rfl};unfold pyNext
 exact AI (zbu (DK (name:=Str.ofString "__next__") CB F.slot_zip_next
  (Cd F.slot_zip_next CB F.entry_zip_next
   (mh D hz hT BY h1 h2 hx hy λh' a1 a2 a3 a4 a5 a6=>AR (hQ h' a1 a2 a3 a4 a5 a6)) (F.args_zip_next_1 _))))
def pb {T:A6}{fl:A9}{oT:Obj}{k1:Nat}{Q:Jo A5->A4->Prop}(hh:A.handled=none)(D:ZipApart z TI TO i1 i2 l1 l2)
  (hz:e6 s.heap z TI TO T fl) (hT:s.heap.get? T=some oT) (BY:IsPair s.heap TI (.ref i1) (.ref i2))
  (h1:fT b1 s.heap i1 l1 k1 xs) (hx:xs[k1]?=none)
  (hQ:∀h',(∀c o,c≠z->c≠i1->s.heap.get? c=some o->h'.get? c=some o)->Q none {s with heap:=h'}):wpAny (model prog w) A (pyNext (.ref z)) Q E s:=by
 have CB:s.TypeIs (.ref z) "zip":={_,hz,rfl};unfold pyNext
 refine AI (zbu (DK (name:=Str.ofString "__next__") CB F.slot_zip_next
  (Cd F.slot_zip_next CB F.entry_zip_next (nM hh D hz hT BY h1 hx λh' e hk he=>?_) (F.args_zip_next_1 _))))
 obtain⟨o,ho,hc⟩:=he;refine AI (wpAny_isInstance (T:="StopIteration") (b:=true) {o,ho,hc} isSubtype_stop ?_);exact AR (hQ _ hk)
def o9 {x y a b:A5}{k1 k2:Nat}{Q:Jo A5->A4->Prop}(D:ZipApart z TI TO i1 i2 l1 l2)(hz:IsZip s.heap z TI TO .none)(BY:IsPair s.heap TI (.ref i1) (.ref i2))(hTO:IsPair s.heap TO a b)
  (h1:fT b1 s.heap i1 l1 k1 xs) (h2:fT b2 s.heap i2 l2 k2 ys) (hx:xs[k1]?=some x) (hy:ys[k2]?=some y)
  (hQ:∀h',IsZip h' z TI TO (rawInt s.heap.objs.size)->IsPair h' TO x y->fT b1 h' i1 l1 (k1+1) xs->fT b2 h' i2 l2 (k2+1) ys->IsPair h' s.heap.objs.size x y->h'.objs.size=s.heap.objs.size+1 ->
   (∀c o,c≠z->c≠TO->c≠i1->c≠i2->s.heap.get? c=some o->h'.get? c=some o)->Q (some (.ref s.heap.objs.size)) {s with heap:=h'}):wpAny (model prog w) A (pyNext (.ref z)) Q E s:=by
 have CB:s.TypeIs (.ref z) "zip":={_,hz,rfl};unfold pyNext
 exact AI (zbu (DK (name:=Str.ofString "__next__") CB F.slot_zip_next (Cd F.slot_zip_next CB F.entry_zip_next
   (mi D hz BY hTO h1 h2 hx hy λh' a1 a2 a3 a4 a5 a6 a7=>AR (hQ h' a1 a2 a3 a4 a5 a6 a7)) (F.args_zip_next_1 _))))
def o8 {k1:Nat}{Q:Jo A5->A4->Prop}(hh:A.handled=none)(D:ZipApart z TI TO i1 i2 l1 l2)(hz:IsZip s.heap z TI TO .none)(BY:IsPair s.heap TI (.ref i1) (.ref i2))(h1:fT b1 s.heap i1 l1 k1 xs)(hx:xs[k1]?=none)
  (hQ:∀h',(∀c o,c≠z->c≠i1->s.heap.get? c=some o->h'.get? c=some o)->Q none {s with heap:=h'}):wpAny (model prog w) A (pyNext (.ref z)) Q E s:=by
 have CB:s.TypeIs (.ref z) "zip":={_,hz,rfl};unfold pyNext;refine AI (zbu (DK (name:=Str.ofString "__next__") CB F.slot_zip_next (Cd F.slot_zip_next CB F.entry_zip_next (nN hh D hz BY h1 hx λh' e hk he=>?_) (F.args_zip_next_1 _))));obtain⟨o,ho,hc⟩:=he;exact AI (wpAny_isInstance (T:="StopIteration") (b:=true) {o,ho,hc} isSubtype_stop (AR (hQ _ hk)))
def t5 {x y:A5}{Q:Jo A5->A4->Prop}(D:ZipApart z TI TO i1 i2 l1 l2)(hS:∃o,s.heap.get? S=some o)(Zz:yn b1 b2 s.heap S z TI TO i1 i2 l1 l2 xs ys k)(hx:xs[k]?=some x)(hy:ys[k]?=some y)
  (hQ:∀h',yn b1 b2 h' S z TI TO i1 i2 l1 l2 xs ys (k+1)->IsPair h' s.heap.objs.size x y->h'.objs.size=s.heap.objs.size+1->(∀c o,c∉[z,TO,i1,i2]->s.heap.get? c=some o->h'.get? c=some o)->Q (some (.ref s.heap.objs.size)) {s with heap:=h'}) :
  wpAny (model prog w) A (pyNext (.ref z)) Q E s:=by
 have lt:∀{b:A6} {o:Obj},s.heap.get? b=some o->b≠s.heap.objs.size:=λe=>Av (Ab e);let⟨oS,hS⟩:=hS
 have fresh:∀{oz oto:Obj},s.heap.get? z=some oz->s.heap.get? TO=some oto->s.heap.objs.size∉[S,z,TO,i1,i2]:=λhz hto z=>by
  let⟨o1,e1⟩:=Zz.h1.live;let⟨o2,e2⟩:=Zz.h2.live;rwa[Ad,BL,or_false] at z;rcases z with z|z|z|z|z
  ·exact lt hS z.symm
  ·exact lt hz z.symm
  ·exact lt hto z.symm
  ·exact lt e1 z.symm
  ·exact lt e2 z.symm
 rcases Zz.st with⟨rfl,hz,hto⟩|⟨T,fl,oT,hz,hT,hTn⟩
 ·refine o9 D hz Zz.ti hto Zz.h1 Zz.h2 hx hy λh' a1 a2 a3 a4 a5 a6 a7=>?_
  have kp:∀c o,c∉[z,TO,i1,i2]->s.heap.get? c=some o->h'.get? c=some o:=λc o hc e=>by
   rwa[Ad,BL,or_false,not_or] at hc;exact a7 c o hc.1 hc.2.1 hc.2.2.1 hc.2.2.2 e
  refine hQ h' {.inr {_,false,_,a1,a5,fresh hz hto},a7 _ _ D.TIz D.TITO D.TIi1 D.TIi2 Zz.ti,a3,a4,{_,a2}} a5 a6 kp
 ·refine o7 D hz hT Zz.ti Zz.h1 Zz.h2 hx hy λh' a1 a3 a4 a5 a6 a7=>?_
  rwa[Ad,BL,or_false,not_or] at hTn
  have kp:∀c o,c∉[z,TO,i1,i2]->s.heap.get? c=some o->h'.get? c=some o:=λc o hc e=>by
   rwa[Ad,BL,or_false,not_or] at hc;exact a7 c o hc.1 hc.2.2.1 hc.2.2.2 e
  refine hQ h' {.inr {T,true,oT,a1,a7 _ _ hTn.2.1 hTn.2.2.2.1 hTn.2.2.2.2 hT,by rwa[Ad,BL,or_false,not_or];exact hTn},a7 _ _ D.TIz D.TIi1 D.TIi2 Zz.ti,a3,a4,Zz.to.imp λo e=>a7 _ _ D.TOz D.TOi1 D.TOi2 e} a5 a6 kp
def t6 {Q:Jo A5->A4->Prop}(hh:A.handled=none)(D:ZipApart z TI TO i1 i2 l1 l2)(Zz:yn b1 b2 s.heap S z TI TO i1 i2 l1 l2 xs ys k)(hx:xs[k]?=none)
  (hQ:∀h',(∀c o,c∉[z,TO,i1,i2]->s.heap.get? c=some o->h'.get? c=some o)->Q none {s with heap:=h'}):wpAny (model prog w) A (pyNext (.ref z)) Q E s:=by
 rcases Zz.st with⟨rfl,hz,hto⟩|⟨T,fl,oT,hz,hT,hTn⟩
 ·refine o8 hh D hz Zz.ti Zz.h1 hx λh' a7=>hQ h' λc o hc e=>?_
  rwa[Ad,BL,or_false,not_or] at hc;exact a7 c o hc.1 hc.2.2.1 e
 ·refine pb hh D hz hT Zz.ti Zz.h1 hx λh' a7=>hQ h' λc o hc e=>?_
  rwa[Ad,BL,or_false,not_or] at hc;exact a7 c o hc.1 hc.2.2.1 e
def qQ (h:AD)(n0:Nat)(no:Tf)(xs ys:Tj)(acc:Tj)(k:Nat):Prop:=acc.size=k/\∃ts:Tf,ts.length=k/\acc=(ts.map Value.ref).toArray/\ts.Nodup/\∀(i:Nat) t,ts[i]?=some t->n0<=t/\t∉no/\∃x y,xs[i]?=some x/\ys[i]?=some y/\IsPair h t x y
def qQ.keep {h h':AD}{n0:Nat}{no:Tf}{xs ys acc:Tj}{k:Nat}(Zz:qQ h n0 no xs ys acc k)(kp:∀c o,c∉no->h.get? c=some o->h'.get? c=some o):qQ h' n0 no xs ys acc k:=by let⟨h1,ts,h2,h3,h4,h5⟩:=Zz;exact{h1,ts,h2,h3,h4,λi t e=>let ⟨a,b,x,y,p,q,r⟩:=h5 i t e;{a,b,x,y,p,q,kp _ _ b r}}
theorem t8 (hh:A.handled=none){R:Result->A4->Prop}(D:ZipApart z TI TO i1 i2 l1 l2)(hsz:xs.size=ys.size)(hn:xs.size<=sizeLine)(hSn:S∉[z,TI,TO,i1,i2,l1,l2])(n0:Nat)(res:A5) :
  ∀(m i:Nat) (s:A4) (acc:Tj) (c:Nat),xs.size-i=m->i<=xs.size->n0<=s.heap.objs.size->yn b1 b2 s.heap S z TI TO i1 i2 l1 l2 xs ys i->s.heap.get? S=some {cls:=.type "list",dict:=none,data:=.seq acc c,slots:=#[]}->qQ s.heap n0 [S,z,TO,i1,i2] xs ys acc i ->
  (∀h' AS c',(∀b o,b∉[S,z,TO,i1,i2]->s.heap.get? b=some o->h'.get? b=some o)->h'.get? S=some {cls:=.type "list",dict:=none,data:=.seq AS c',slots:=#[]}->qQ h' n0 [S,z,TO,i1,i2] xs ys AS xs.size->R (.ok (.ret res)) {s with heap:=h'}) ->
  codeAny (model prog w) A (.builtin "list.extend.loop" {[.ref S,.ref z,res],[]}) R s:=by
 have hS4:S∉[z,TO,i1,i2]:=λq=>hSn (by rwa[Ad,BL,or_false] at q ⊢;rcases q with q|q|q|q <;> simp[q]);have sub:∀c,c∉[S,z,TO,i1,i2]->c∉[z,TO,i1,i2]:=λc h q=>h (Au _ q);intro m
 induction m with
 |zero=>
  intro i s acc c hk hi h0 Zz hS B0 hR
  have hin:i=xs.size:=by omega
  subst hin;refine codeAny_builtin F.entry_extend_loop ?_;rw[Around.under_plainId F.plain_extend_loop _]
  show wpAny _ A.in1 (pyNext (.ref z) >>= _) _ _ s
  refine AI (t6 (show A.in1.handled=none from hh) D Zz ∅ λh' kp=>?_);exact AR (hR h' acc c (λb o hb e=>kp b o (sub b hb) e) (kp S _ hS4 hS) (B0.keep λc o hc e=>kp c o (sub c hc) e))
 |succ m ih=>
  intro i s acc c hk hi h0 Zz hS B0 hR
  have Ap:i<xs.size:=by omega
  refine codeAny_builtin F.entry_extend_loop ?_;rw[Around.under_plainId F.plain_extend_loop _]
  show wpAny _ A.in1 (pyNext (.ref z) >>= _) _ _ s
  have hx:xs[i]?=some xs[i]:=Array.getElem?_eq_getElem Ap;have hy:ys[i]?=some (ys[i]'∅):=Array.getElem?_eq_getElem ∅;refine AI (t5 D {_,hS} Zz hx hy λh' Z' hp hs' kp=>?_);have hS':=kp S _ hS4 hS
  show wpAny _ A.in1 (updateSeq S (·.push (.ref s.heap.objs.size)) >>= _) _ _ _
  have hTS:s.heap.objs.size≠S:=λq=>BK _ (q ▸ Ab hS:s.heap.objs.size<s.heap.objs.size);have up:∀b o,b≠S->h'.get? b=some o->(h'.update S (Obj.mapSeq (·.push (.ref s.heap.objs.size)))).get? b=some o:=λb o hb e=>(za2 _ _ (Ne.symm hb)).trans e;have nS:∀{b:A6},b∈[z,TI,TO,i1,i2,l1,l2]->b≠S:=λhb q=>hSn (q ▸ hb)
  have Z2:yn b1 b2 (h'.update S (Obj.mapSeq (·.push (.ref s.heap.objs.size)))) S z TI TO i1 i2 l1 l2 xs ys (i+1):=by
   refine{?_,up _ _ (nS ∅) Z'.ti,Z'.h1.at (λo e=>up _ _ (nS ∅) e) (λo e=>up _ _ (nS ∅) e),Z'.h2.at (λo e=>up _ _ (nS ∅) e) (λo e=>up _ _ (nS ∅) e),Z'.to.imp λo e=>up _ _ (nS ∅) e};rcases Z'.st with⟨q,_⟩|⟨T,fl,oT,q1,q2,q3⟩
   ·omega
   ·exact .inr {T,fl,oT,up _ _ (nS ∅) q1,up _ _ (λq=>q3 (by simp[q])) q2,q3}
  have oz:=Zz.ty
  have fr:s.heap.objs.size∉[S,z,TO,i1,i2]:=by
   rcases Z'.st with⟨q,_⟩|⟨T,fl,oT,q1,q2,q3⟩
   ·omega
   ·intro q
    let⟨o1,e1⟩:=Zz.h1.live;let⟨o2,e2⟩:=Zz.h2.live;let⟨o3,e3,_⟩:=oz;rwa[Ad,BL,or_false] at q;rcases q with q|q|q|q|q
    ·exact hTS q
    ·exact BK _ (q ▸ Ab e3:s.heap.objs.size<s.heap.objs.size)
    ·let⟨o4,e4⟩:=Zz.to
     exact BK _ (q ▸ Ab e4:s.heap.objs.size<s.heap.objs.size)
    ·exact BK _ (q ▸ Ab e1:s.heap.objs.size<s.heap.objs.size)
    ·exact BK _ (q ▸ Ab e2:s.heap.objs.size<s.heap.objs.size)
  have A2:qQ (h'.update S (Obj.mapSeq (·.push (.ref s.heap.objs.size)))) n0 [S,z,TO,i1,i2] xs ys (acc.push (.ref s.heap.objs.size)) (i+1):=by
   let⟨c1,ts,c2,c3,c4,c5⟩:=B0;refine{by rw[Array.size_push,c1],ts++[s.heap.objs.size],by simp[c2],by rw[c3];simp,?_,λj t e=>?_}
   ·rw[zbK]
    refine{c4,by simp,λa ha b hb=>?_};rw[BA.mp hb];let⟨j,hj,e⟩:=zbf ha;let⟨_,_,x,y,_,_,p⟩:=c5 j a (by rw[←e];exact D7 hj);exact Av (Ab p)
   ·by_cases hj:j<ts.length
    ·rw[B3 hj] at e
     let⟨a,b,x,y,p,q,r⟩:=c5 j t e;exact{a,b,x,y,p,q,up _ _ (λq=>b (by simp[q])) (kp _ _ (sub _ b) r)}
    ·rw[Bi ∅] at e
     have hj2:j-ts.length=0:=by
      cases q:j-ts.length with
      |zero=>rfl
      |succ n=>rw[q] at e;simp at e
     have hji:j=i:=by omega
     rw[hj2] at e;simp at e;subst e hji;exact{h0,fr,_,_,hx,hy,up _ _ hTS hp}
  refine AI ?_
  refine zbB hS' rfl (AR {plainId_quiet F.plain_extend_loop _,ih (i+1) _ (acc.push (.ref s.heap.objs.size)) _ ∅ Ap ?_ Z2 (zaX _ hS' rfl) A2 λh'' AS c' kp'' hS'' hacc'=>?_})
   (by rw[B0.1];omega) (by show(acc.push (.ref s.heap.objs.size)).size<=sizeLine+1;rw[Array.size_push,B0.1];omega)
  ·show n0<=(h'.update S (Obj.mapSeq (·.push (.ref s.heap.objs.size)))).objs.size
   have h9:s.heap.objs.size<(h'.update S (Obj.mapSeq (·.push (.ref s.heap.objs.size)))).objs.size:=Ab (up _ _ hTS hp);exact zbj (Nat.lt_of_le_of_lt h0 h9)
  ·exact hR h'' AS c' (λb o hb e=>kp'' b o hb (up _ _ (λq=>hb (by simp[q])) (kp b o (sub b hb) e))) hS'' hacc'
def mR {Q:Tb}(hh:A.handled=none)(D:ZipApart z TI TO i1 i2 l1 l2)(hsz:xs.size=ys.size)(hn:xs.size<=sizeLine)(Ap:∀b∈[z,TI,TO,i1,i2,l1,l2],b<s.heap.objs.size)(Zz:∀S,yn b1 b2 s.heap S z TI TO i1 i2 l1 l2 xs ys 0)
  (hQ:∀h' AS c',(∀b o,b∉[s.heap.objs.size,z,TO,i1,i2]->s.heap.get? b=some o->h'.get? b=some o)->h'.get? s.heap.objs.size=some {cls:=.type "list",dict:=none,data:=.seq AS c',slots:=#[]}->qQ h' (s.heap.objs.size+1) [s.heap.objs.size,z,TO,i1,i2] xs ys AS xs.size->Q (.ref s.heap.objs.size) {s with heap:=h'}) :
  wpAny (model prog w) A (call (.type "list") [.ref z]) Q E s:=by
 refine callType_codes (Q₁:=λobj s₁=>obj=.ref s.heap.objs.size/\s₁={s with heap:=s.heap.push {cls:=.type "list",data:=.seq #[]}}) F.called_list (F.typeCall_list_1 _) F.entry_list_init
  (code_list_new _ {rfl,rfl}) λobj s₁ h₁=>?_
 obtain⟨rfl,rfl⟩:=h₁;have hS:(s.heap.push {cls:=.type "list",data:=.seq #[]}).get? s.heap.objs.size=some {cls:=.type "list",data:=.seq #[]}:=B1 _ rfl;have Bq:(s.heap.push {cls:=.type "list",data:=.seq #[]}).objs.size=s.heap.objs.size+1:=BZ ..;have hSn:s.heap.objs.size∉[z,TI,TO,i1,i2,l1,l2]:=λq=>BK _ (Ap _ q);have nS:∀{b:A6},b∈[z,TI,TO,i1,i2,l1,l2]->b≠s.heap.objs.size:=λhb q=>hSn (q ▸ hb);refine{{_,hS,rfl},F.args_list_init_2 _ _,?_};generalize hSa:s.heap.objs.size=S at *;have k0:∀b o,s.heap.get? b=some o->(s.heap.push {cls:=.type "list",data:=.seq #[]}).get? b=some o:=λb o e=>AU _ e;generalize hh1:s.heap.push {cls:=.type "list",data:=.seq #[]}=h1 at *
 show wpAny _ A.in1.in1 (do let old ←listItems (.ref S);listUpdate (.ref S) (λ_=>#[]);letGo old.toList.reverse;listExtendWith (.ref S) (.ref z) .none) _ _ _
 refine AI ?_;unfold listItems;refine AI (Ci hS rfl (AR ?_))
 show wpAny _ A.in1.in1 (updateSeq S (λ_=>#[]) >>=λ_=>letGo (#[]:Tj).toList.reverse >>=λ_=>listExtendWith (.ref S) (.ref z) .none) _ _ _
 refine AI (zbB hS rfl ?_);have hS2:=zaX (Obj.mapSeq (λ_=>(#[]:Tj))) hS rfl
 have oth:∀b o,b≠S->h1.get? b=some o->(h1.update S (Obj.mapSeq (λ_=>(#[]:Tj)))).get? b=some o :=
  λb o hb e=>(za2 _ _ (Ne.symm hb)).trans e
 have hsz2:(h1.update S (Obj.mapSeq (λ_=>(#[]:Tj)))).objs.size=h1.objs.size:=(Heap.SameBut.update ..).1;generalize hh2:h1.update S (Obj.mapSeq (λ_=>(#[]:Tj)))=h2 at *;refine AI (wpAny_letGo ?_);have Z0:=Zz S;have k2:∀b o,b≠S->s.heap.get? b=some o->h2.get? b=some o:=λb o hb e=>oth b o hb (k0 b o e)
 have Zk:∀{h3:AD},(∀b o,b≠S->s.heap.get? b=some o->h3.get? b=some o)->yn b1 b2 h3 S z TI TO i1 i2 l1 l2 xs ys 0:=λ{h3} kk=>by
  refine{?_,kk _ _ (nS ∅) Z0.ti,Z0.h1.at (λo e=>kk _ _ (nS ∅) e) (λo e=>kk _ _ (nS ∅) e),Z0.h2.at (λo e=>kk _ _ (nS ∅) e) (λo e=>kk _ _ (nS ∅) e),Z0.to.imp λo e=>kk _ _ (nS ∅) e};rcases Z0.st with⟨q,q1,q2⟩|⟨T,fl,oT,q1,q2,q3⟩
  ·exact .inl {q,kk _ _ (nS ∅) q1,kk _ _ (nS ∅) q2}
  ·exact .inr {T,fl,oT,kk _ _ (nS ∅) q1,kk _ _ (λq=>q3 (by simp[q])) q2,q3}
 have hT2:Shared.TypeIs {s with heap:=h2} (.ref z) "zip":=(Zk k2).ty;unfold listExtendWith;refine AI (zbP hT2 ?_)
 have e1:listSameRef (.ref S) (.ref z)=false:=by simp[listSameRef,Ne.symm (nS (b:=z) ∅)]
 have e2:(Value.type "zip" == Value.type "list")=false:=by decide
 have e3:(Value.type "zip" == Value.type "tuple")=false:=by decide
 rwa[e1,e2,e3,Bool.or_false,Bp,if_false]
 have itz:∀{Q':Tb} {E':Tb},Q' (.ref z) {s with heap:=h2}->wpAny (model prog w) A.in1.in1 (pyIter (.ref z)) Q' E' {s with heap:=h2}:=λ{Q' E'} hq=>by
  refine wpAny_pyIter_slot hT2 F.slot_zip_iter (Cd F.slot_zip_iter hT2 F.entry_zip_iter ?_ (F.args_zip_iter_1 _))
  show wpAny _ _ (ret (.ref z)) _ _ _
  exact AR {_,rfl,"zip",_,hT2,F.slot_zip_next.lookup,hq}
 refine AI (itz ?_);refine AI (Be ?_);unfold listLengthHint;refine AI (zbx hT2 pR ?_)
 show wpAny _ A.in1.in1 (specialOf (Value.ref z) (Str.ofString "__length_hint__") >>= _) _ _ _
 refine AI (zbx hT2 oH ?_);refine AR ?_
 show wpAny _ A.in1.in1 (rule "list.extend.makes-room" >>=λ_=>listTouch (.ref S) >>=λ_=>
  again (.builtin "list.extend.loop" {[.ref S,.ref z,.none],[]})) _ _ _
 refine AI (zby ?_);refine AI ?_
 show wpAny _ A.in1.in1 (updateSeq S (·.push .none) >>=λ_=>updateSeq S (·.pop)) _ _ _
 refine AI (zbB hS2 rfl ?_);have hS3:=zaX (Obj.mapSeq (·.push Value.none)) hS2 rfl;refine zbB (s:={s with heap:=_}) (hz:=by seq_fits) hS3 rfl ?_;have hS₄:=zaX (Obj.mapSeq (·.pop)) hS3 rfl
 have oth2:∀b o,b≠S->h2.get? b=some o->((h2.update S (Obj.mapSeq (·.push Value.none))).update S (Obj.mapSeq (·.pop))).get? b=some o :=
  λb o hb e=>(za2 _ _ (Ne.symm hb)).trans ((za2 _ _ (Ne.symm hb)).trans e)
 have hsz3:((h2.update S (Obj.mapSeq (·.push Value.none))).update S (Obj.mapSeq (·.pop))).objs.size=S+1:=by
  rw[(Heap.SameBut.update ..).1,(Heap.SameBut.update ..).1,hsz2,Bq]
 generalize hh4:(h2.update S (Obj.mapSeq (·.push Value.none))).update S (Obj.mapSeq (·.pop))=h4 at *;have k4:∀b o,b≠S->s.heap.get? b=some o->h4.get? b=some o:=λb o hb e=>oth2 b o hb (k2 b o hb e);refine AR {plainId_quiet F.plain_extend_loop _,t8 (s:={s with heap:=h4}) (show A.in1.handled=none from hh) D hsz hn hSn (S+1) .none xs.size 0 _ _ rfl (zbt _) (by show S+1<=h4.objs.size;rw[hsz3];exact Af _) (Zk k4) hS₄ {rfl,[],rfl,rfl,List.nodup_nil,λi t e=>by simp at e} λh' AS c' kp hS' B0=>?_};refine{rfl,hQ h' AS c' (λb o hb e=>kp b o hb (k4 b o (λq=>hb (by simp[q])) e)) hS' B0}
end
inductive kN:List (V×V)->List Addr->Hp->Hp->Prop
 |nil {H}:kN [] [] H H
 |cons {x y ps t ts H H'}:H t=none->kN ps ts (upd H t (.tup [x,y])) H'->kN ((x,y)::ps) (t::ts) H H'
def C2 (K:AF)(t:TA):TE:=λY H Q=>t Y H λvs H1=>∃a b xs ys,vs=[.ref a,.ref b]/\(io K H1 a xs\/gP K H1 a xs)/\(io K H1 b ys\/gP K H1 b ys)/\xs.length=ys.length/\xs.length<=sizeLine /\
 ∀ts H2 l,kN (xs.zip ys) ts H1 H2->H2 l=none->Q (.ref l) (upd H2 l (.lst (ts.map .ref)))
theorem l7 {s0 s:A4}{H0:Hp}(I0:aE X A1 Y H0 s0):∀(ps:A0 (V×V)) (us:A0 (A5×A5)) (ts:Tf) (H:Hp),aE X A1 Y H s->ts.Nodup->(∀t∈ts,s0.heap.objs.size<=t/\H t=none)->ps.length=ts.length->us.length=ts.length ->
  (∀(i:Nat) t p u,ts[i]?=some t->ps[i]?=some p->us[i]?=some u->aW p.1 u.1/\aW p.2 u.2/\IsPair s.heap t u.1 u.2)->∃H',kN ps ts H H'/\aE X A1 Y H' s/\∀b,b∉ts->H' b=H b
 |[],[],[],H,I,_,_,_,_,_=>{H,.nil,I,λ_ _=>rfl}
 |[],_::_,[],_,_,_,_,_,h,_=>by simp at h
 |_::_,_,[],_,_,_,_,h,_,_=>by simp at h
 |[],_,_::_,_,_,_,_,h,_,_=>by simp at h
 |_::_,[],_::_,_,_,_,_,_,h,_=>by simp at h
 |(x,y)::ps,(u,v)::us,t::ts,H,I,nd,hn,h1,h2,h3=>by
  rw[zbp] at nd;let⟨hge,ht⟩:=hn t Aw;let⟨r1,r2,hp⟩:=h3 0 t (x,y) (u,v) rfl rfl rfl;have ok:b7 X.prog X.w (upd H t (.tup [x,y])) s.heap t (.tup [x,y]):={(by show 2<=sizeLine;decide),[u,v],.cons r1 (.cons r2 .nil),{{_,hp,rfl,_,rfl},λo e=>by rw[hp] at e;cases e;rfl}};have I1:=aE.adopt I (I0.fpOk hge ht) (BM I0.sz hge) ok
  let⟨H',l,I',k⟩:=l7 I0 ps us ts (upd H t (.tup [x,y])) I1 nd.2 (λb hb=>{(hn b (Au _ hb)).1,by rw[ay (λ(z:b=t)=>nd.1 (by rw[←z];exact hb))];exact(hn b (Au _ hb)).2}) ‹h1› ‹h2›
   λi t' p' u' e1 e2 e3=>h3 (i+1) t' p' u' ‹e1› ‹e2› ‹e3›
  refine{H',.cons ht l,I',λb hb=>?_};rw[k b λz=>hb (Au _ z),ay (λ(z:b=t)=>hb (by rw[z];exact Aw))]
theorem JCi {X:Cx}{a b:AG}{t:TA}{p p2 pos BN:Pos}(hc:X.calm=true)(hg:Gl X "list")(hm:X.mg "list" = none)(hg2:Gl X "zip")(hm2:X.mg "zip" = none)(ha:PA X [a,b] t)
  (hs:starEach [.Call (.Name "zip" p2) [a,b] [] BN] X.env=[(false,eval (.Call (.Name "zip" p2) [a,b] [] BN) X.env)]:=by rfl)
  (he:starEach [a,b] X.env=(false,eval a X.env)::starEach [b] X.env:=by rfl) (hpl:(backTo BN (starEach [b] X.env)).any (·.1)=false:=by rfl) :
  PE X (.Call (.Name "list" p) [.Call (.Name "zip" p2) [a,b] [] BN] [] pos) (C2 X.K t):=by
 intro A1 s Y H Q I h;refine zbb (j9 I hg hm (by decide:bootBuiltins "list" = some (.type "list")) ?_ ∅ ∅);refine PyProof.Rows.callWith_type1 ?_ hs rfl;rw[hs]
 show wpAny _ _ (spliced [(false,eval (.Call (.Name "zip" p2) [a,b] [] BN) X.env)]) _ _ s
 refine Calls.spliced_cons ?_;refine zbb (j9 I hg2 hm2 (by decide:bootBuiltins "zip" = some (.type "zip")) ?_ ∅ ∅);refine PyProof.Rows.callWith_type1 (ck (ha BN A1 s Y H _ I h) λus s1 hh=>?_) he hpl;obtain⟨vs,H1,I1,r1,q1⟩:=hh;obtain⟨l1,l2,xs,ys,rfl,hx,hy,hlen,hz,q⟩:=q1
 cases r1 with
 |cons ra rr=>
  cases rr with
  |cons rb rr=>
   cases rr;cases ra;cases rb
   have sq:∀{l:A6} {xs:A0 V},(io X.K H1 l xs\/gP X.K H1 l xs)->∃(b:A9) (its:Te),aO xs its/\pQ b s1.heap l its.toArray:=λ{l xs} q=>by
    rcases q with q|q
    ·let⟨its,r,p,_⟩:=I1.list q;exact{false,its,r,p.isList}
    ·let⟨its,r,p,_⟩:=I1.tuple q;exact{true,its,r,p}
   let⟨b1,i1,rv1,p1⟩:=sq hx;let⟨b2,i2,rv2,p2'⟩:=sq hy;have hl1:=rv1.length;have hl2:=rv2.length;have lt1:=p1.lt;have DX:=p2'.lt;refine tH p1 p2' λh' z1 z2 z3 z4 z5 z6 z7=>Calls.spliced_nil ?_;have D:ZipApart (s1.heap.objs.size+4) (s1.heap.objs.size+2) (s1.heap.objs.size+3) s1.heap.objs.size (s1.heap.objs.size+1) l1 l2:=PyProof.Rows.zipApart_new lt1 DX;refine mR (s:={s1 with heap:=h'}) (I1.ok.hd hc) D (by simp;omega) (by simp;omega) (λb hb=>?_) (λS=>{.inl {rfl,z1,z3},z2,z4,z5,{_,z3}}) λh2 acc c kp hS B0=>?_
   ·show b<h'.objs.size
    rw[z6];rwa[Ad,BL,or_false] at hb;have lt1:(l1:Nat)<s1.heap.objs.size:=lt1;have DX:(l2:Nat)<s1.heap.objs.size:=DX
    have:(b:Nat)<s1.heap.objs.size+5:=by
     rcases hb with h|h|h|h|h|h|h <;> (rw[h];first|exact Bt (Bt (Bt (Bt (Bt lt1))))|exact Bt (Bt (Bt (Bt (Bt DX))))|exact Nat.add_lt_add_left ∅ _|exact Nat.lt_add_of_pos_right ∅)
    exact this
   ·let⟨c1,ts,c2,c3,c4,c5⟩:=B0
    have big:∀b o,s1.heap.get? b=some o->h2.get? b=some o:=λb o e=>by
     have Ap:=Ab e;refine kp b o (λhb=>?_) (z7 b o e);have hb:b∈[h'.objs.size,s1.heap.objs.size+4,s1.heap.objs.size+3,s1.heap.objs.size,s1.heap.objs.size+1]:=hb;rw[z6] at hb;rwa[Ad,BL,or_false] at hb
     have hge:s1.heap.objs.size<=(b:Nat):=by
      rcases hb with h|h|h|h|h <;> (rw[h];first|exact Nat.le_add_right _ _|exact Af _)
     exact AE Ap (Nat.not_lt.mpr hge)
    have I2:aE X A1 Y H1 {s1 with heap:=h2}:=I1.kept (t':=s1.toks) big
    have n1:i1.toArray.size=xs.length:=by simp;omega
    rw[n1] at c1 c2;have hL:H1 h'.objs.size=none:=I1.hok.fresh (by rw[z6];omega)
    let⟨H2,lay,I3,k⟩:=l7 I1 (xs.zip ys) (i1.zip i2) ts H1 I2 c4 (λt ht=>by
     let⟨j,hj,e⟩:=zbf ht;let⟨b1,_⟩:=c5 j t (by rw[←e];exact D7 hj);have b1:h'.objs.size+1<=t:=b1
     have b2:s1.heap.objs.size<=t:=by rw[z6] at b1;exact BM (Nat.le_add_right _ 6) b1
     exact{b2,I1.hok.fresh b2}) (by rw[List.length_zip,c2];omega) (by rw[List.length_zip,c2];omega) λj t p u e1 e2 e3=>by
      let⟨_,_,x,y,w1,w2,w3⟩:=c5 j t e1;let⟨px,py⟩:=p;let⟨ux,uy⟩:=u;rw[List.getElem?_zip_eq_some] at e2 e3
      have w1:i1[j]?=some x:=by simpa using w1
      have w2:i2[j]?=some y:=by simpa using w2
      let⟨a1,a2,a3⟩:=rv1.get e2.1;let⟨b1,b2,b3⟩:=rv2.get e2.2;have q1:=e3.1.symm.trans w1;have q2:=e3.2.symm.trans w2;cases q1;cases q2;have q3:=a2.symm.trans w1;have q4:=b2.symm.trans w2;cases q3;cases q4;exact{a3,b3,w3}
    have hL2:H2 h'.objs.size=none:=by
     rw[k _ λhin=>?_]
     ·exact hL
     ·let⟨j,hj,e⟩:=zbf hin
      have e':ts[j]?=some h'.objs.size:=(D7 hj).trans (AL some e);let⟨b1,_⟩:=c5 j _ e';exact AE (show h'.objs.size+1<=h'.objs.size from b1) (Nat.not_succ_le_self _)
    have vals:∀ts:Tf,aO (ts.map V.ref) (ts.map Value.ref):=λts=>by
     induction ts with
     |nil=>exact .nil
     |cons t ts ih=>exact .cons rfl ih
    have I4:=aE.adopt (o:=.lst (ts.map .ref)) I3 (I1.fpOk (by rw[z6];omega) hL2) (BM I1.sz (by rw[z6];omega)) {by rw[Ac,c2];exact hz,ts.map Value.ref,c,vals ts,by rw[←c3];exact hS};exact{.ref h'.objs.size,_,I4,rfl,q ts H2 _ lay hL2}
noncomputable def mS (xs ys:A0 D):A0 D:=(xs.zip ys).map λp=>.tup [p.1,p.2]
noncomputable def pI (fa fb:FE):FE:=λO U=>(fa O U).bind λa=>(fb O a.2).bind λb=>(cY a.1 b.2).bind λxs=>(cY b.1 b.2).bind λys=>if xs.length=ys.length/\xs.length<=sizeLine then some (.p b.2.length,b.2++[.lst (mS xs ys)]) else none
theorem vD {ps:A0 (V×V)}{ts:Tf}{H H':Hp}(h:kN ps ts H H'):∀a o,H a=some o->H' a=some o:=by
 induction h with
 |nil=>exact λ_ _ e=>e
 |cons hn _ ih=>exact λa o e=>ih a o (b9 hn a o e)
theorem rG {ps:A0 (V×V)}{ts:Tf}{H H':Hp}{m:Tf}(h:kN ps ts H H'):cU m H m H':=by
 induction h with
 |nil=>exact .refl
 |cons hn _ ih=>exact(cU.new hn).trans ih
theorem xS {K:AF}{ps:A0 (V×V)}{ts:Tf}{H H':Hp}(h:kN ps ts H H'):∀{xs ys:A0 D},xs.length=ys.length->RelDs K H xs (ps.map (·.1))->RelDs K H ys (ps.map (·.2))->RelDs K H' (mS xs ys) (ts.map .ref):=by
 induction h with
 |nil=>
  intro xs ys hl r1 r2;have:xs=[]:=zbC (by rw[r1.length];rfl);subst this;rwa[mS,List.zip_nil_left,Bj,RelDs]
 | @cons x y ps t ts H H' hn l ih=>
  intro xs ys hl r1 r2
  cases xs with
  |nil=>simp[RelDs] at r1
  |cons dx xs=>
   cases ys with
   |nil=>simp at hl
   |cons dy ys=>
    rwa[An,RelDs] at r1 r2;let⟨v1,w1,e1,a1,b1⟩:=r1;let⟨v2,w2,e2,a2,b2⟩:=r2;rwa[List.cons.injEq] at e1 e2;let⟨rfl,rfl⟩:=e1;let⟨rfl,rfl⟩:=e2;have tf:TF H (upd H t (.tup [x,y])):=(cU.new (m:=[]) hn).tf;have tf2:TF (upd H t (.tup [x,y])) H':=(rG (m:=[]) l).tf;have:=ih ‹hl› (RelDs.tf tf _ _ b1) (RelDs.tf tf _ _ b2)
    show RelDs K H' (.tup [dx,dy]::mS xs ys) (.ref t::ts.map .ref)
    rwa[RelDs,al];refine{_,_,rfl,{t,[x,y],rfl,.inl (.inl (tf2.tup _ _ cV)),?_},this};exact{x,[y],rfl,al.tf (tf.trans tf2) _ _ a1,y,[],rfl,al.tf (tf.trans tf2) _ _ a2,rfl}
def JBh {K:AF}{H:Hp}{Q:VK}{fa fb}(h:aA K (pI fa fb) Y H Q):C2 K (gF K (ae fa (ae fb aj))) Y H Q:=by
 let⟨O,U,m,d,U',hl,hs,e,k⟩:=h;let⟨⟨x,U1⟩,e1,e⟩:=AM.mp e;let⟨⟨y,U2⟩,e2,e⟩:=AM.mp e;let⟨xs,e3,e⟩:=AM.mp e;let⟨ys,e4,e⟩:=AM.mp e;split at e
 ·rename_i hz
  cases e;refine{O,U,m,[x,y],U2,hl,hs,by simp[ae,e1,e2,aj],λvs H1 m1 x1 s1 r1=>?_};let⟨v,r,rfl,ra,rr⟩:=r1;let⟨u,r',rfl,rb,rn⟩:=rr;have rn:r'=[]:=rn;subst rn;let⟨a,vs,rfl,qa,ma⟩:=f9 s1 ra e3;let⟨b,us,rfl,qb,mb⟩:=f9 s1 rb e4;have h1:=ma.length;have h2:=mb.length;refine{a,b,vs,us,rfl,qa,qb,by omega,by omega,λts H2 l lay hn=>?_};have x2:cU m1 H1 m1 H2:=rG lay;have z1:(vs.zip us).map (·.1)=vs:=List.map_fst_zip ∅;have z2:(vs.zip us).map (·.2)=us:=List.map_snd_zip ∅;have rel:=xS (K:=K) lay hz.1 (by rw[z1];exact ma) (by rw[z2];exact mb);let⟨y1,y2,y3⟩:=gp (s1.same (vD lay)) rel hn;exact k _ _ _ ((x1.trans x2).trans y1) y2 y3
 ·cases e
end HW
namespace HK
open PyProof.Rows L2
section
variable {prog:A7}{w:AB}
def wi:WK prog w "dict_itemiterator" "dict_itemiterator.__next__" 2:={F.slot_dict_itemiterator_next,F.entry_dict_itemiterator_next,F.args_dict_itemiterator_next_1,by decide,λ_ _ _ _ y=>{λ_=>wpAny_typeNameOfWhole_itemiter y,λ_ _=>wpAny_isOneOf_itemiter y}}
end
end HK
namespace L2
open PyProof.Rows HK
end L2
namespace HW
open PyProof.Rows L2
end HW
namespace HS
open PyProof.Rows
end HS
namespace HW
open PyProof.Rows L2 HS
end HW
namespace HS
open PyProof.Rows
noncomputable def Ck (t:SetTable):Nat->SetTable.Probe->SetTable.Probe
 |0,p=>p
 |n+1,p=>Ck t n (t.advance p)
noncomputable def fr (m i p:Nat):SetTable.Probe:={j:=i,more:=SetTable.runEnd m i-i,i:=i,perturb:=p,dummy:=none}
section
variable {prog:A7}{w:AB}
abbrev Jq (prog:A7)(w:AB)(h:AD)(ks:Ti)(a:A6):Prop:=IsTupleKey (intKind prog w) h ks a
theorem items_int {prog:A7}{ks:Ti}{vs:Te}(h:ItemsAre (intKind prog w) ks vs):∀v∈vs,∃n t,v=.int n t:=by
 induction h with
 |nil=>intro v hv;simp at hv
 | @cons k v' ks vs h1 _ ih=>
  intro v hv;rcases Ad.mp hv with rfl|hv
  ·cases v with
   |int n t=>exact{n,t,rfl}
   |_=>simp[intKind,Value.isInt] at h1
  ·exact ih v hv
structure Ib (prog:Program)(w:World)(led:Bool)(h:Heap)(es:Array (Int×Value))(t:SetTable)(vs:Te):Prop where
 W:Ia led es t
 ms:t.mask∈DW
 dm:t.dummies = #[]
 pl:t.plain=true
 lo:t.place.size*5<t.mask*3
 pm:(es.toList.map (·.2)).Perm vs
 el:∀e∈es.toList,∃b ls,e.2=.ref b/\Jq prog w h ls b
end
end HS
namespace HW
open PyProof.Rows L2 HS DI
end HW
namespace HK
open PyProof.Rows L2 HS DI
end HK
namespace HW
open PyProof.Rows L2 HS DI HK
end HW
namespace HK
open PyProof.Rows L2 DI
end HK
namespace PySem
end PySem
namespace HW
open PyProof.Rows L2 HK DI
end HW
namespace HS
open PyProof.Rows
def EY (t:SetTable)(h:Int)(j:Nat):Prop:=∃n,(Ck t n (t.probeStart h)).j=j/\∀k<n,t.slot (Ck t k (t.probeStart h)).j≠.empty
def Iu (es:AN (Int×A5))(t:SetTable):Prop:=∀(i:Nat) (e:Int×A5) (j:Nat),es[i]?=some e->t.place[i]?=some j->EY t e.1 j
section
variable {prog:A7}{w:AB}
structure JL (prog:Program)(w:World)(TH:List Int->Int)(led:Bool)(h:Heap)(es:Array (Int×Value))(t:SetTable)(vs:Te):Prop where
 T:Ib prog w led h es t vs
 ch:Iu es t
 hh:∀e∈es.toList,∃b ls,e.2=.ref b/\Jq prog w h ls b/\e.1=TH ls
end
end HS
namespace HW
open PyProof.Rows L2 HS DI
noncomputable def JJ (acc:Ta)(k:Ti):Ta:=if k∈acc then acc else acc++[k]
noncomputable def dd (L:Ta):Ta:=L.foldl JJ []
end HW
namespace HW
variable {K:AF}
open PyProof.Rows L2
open Classical in
noncomputable def JF (cl:A0 (Str×A6))(H:Hp):Hp:=λb=>if (∃y,cl.lookup y=some b) then none else H b
structure JM (P:Addr)(q:Str)(H H':Hp):Prop where
 keep:∀b o,b≠P->H b=some o->H' b=some o
 tab:∃ps,H' P=some (.tbl ps)/\jI H' q ps
structure Iq (K:AF)(x:Str)(st:Stmt)(f:Addr)(fd:FuncData)(c:Addr):Prop where
 ex:∃(oc:Value) (od:Option Addr) (kV doc pm:Value) (an:Option Addr) (ct:Value) (Cj:Array (Tg)),
  fd=PySem.W.fnOf x x (ek st) (bh st) (ah st) .none kV doc pm an (.ref c) ct/\K.lookup f=some {oc,od,.func fd,Cj}/\PySem.W.codeIn K (.ref c) x=true
 kp:PySem.W.keepIn K (.ref f)=true
section
variable {K:AF}{m:Tf}{H:Hp}
theorem aV.length:∀{ds:A0 R} {vs:A0 V},aV K m H ds vs->ds.length=vs.length
 |[],_,h=>by cases(show _=[] from h);rfl
 |_::_,_,⟨v,r,e,h1,h2⟩=>by subst e;simp[aV.length h2]
theorem aV.get:∀{ds:A0 R} {vs:A0 V} {i:Nat} {d:R},aV K m H ds vs->ds[i]?=some d->∃v,vs[i]?=some v/\ao K m H d v
 |[],_,_,_,_,e=>by simp at e
 |_::_,_,0,_,⟨v,r,e,h1,h2⟩,q=>by subst e;simp at q;subst q;exact{v,rfl,h1}
 |_::_,_,i+1,_,⟨v,r,e,h1,h2⟩,q=>by subst e;simp at q;let⟨w,a,b⟩:=aV.get h2 q;exact{w,by simpa using a,b}
end
abbrev MW:=A0 R->ac->Jo (R×ac)
noncomputable def lV:lc->Jo (R×ac)
 |.rt r U=>some (r,U)
 |.nx _ U=>some (.v .non,U)
 |_=>none
noncomputable def iY (k:Nat)(b:FS):MW:=λrs U=>(b (rs.map some++List.replicate (k-rs.length) none) U).bind lV
noncomputable def Cq (K:AF)(n:Nat)(f:MW):Sp:=λvs H Q _=>∃U m rs d U',rs.length=n/\aS K m H U/\aV K m H rs vs/\f rs U=some (d,U') /\
 ∀v H' m',cU m H m' H'->aS K m' H' U'->ao K m' H' d v->Q v H'
def uG {m:Tf}{H:Hp}{N:Tn}{rs:A0 R}{vs:A0 V}(r:aV K m H rs vs):c9 K m H (rs.map some++List.replicate (N.length-rs.length) none) (L2.dJ N vs):=by
 have hl:=r.length;refine{by simp[L2.dJ,hl],λi d e=>?_};by_cases hi:i<rs.length
 ·rw[B3 ‹hi›,Bv] at e
  cases q:rs[i]? with
  |none=>rw[q] at e;cases e
  |some x=>
   rw[q] at e;cases e;let⟨v,q1,q2⟩:=r.get q;refine{v,?_,q2};unfold L2.dJ;rw[B3 (by simp;omega),Bv,q1];rfl
 ·rw[Bi ‹hi›,zbg] at e;split at e <;> cases e
theorem lj.okW {P:A7}{w:AB}{K:AF}{mg:Td}{base:AD}{x qual:Str}{st:AJ}{f:A6}{fd:FuncData}{N ps:Tn}{k:Nat}{b:FS}(F:lj K x qual st f fd)(S:av N ps (ah st))
  (AQ:∀(AO:A5) (A:AH) (outer:A0 Env) (s:A4) (H:Hp) (E:XK),bF k (A.deeper (envOfC qual (ah st) s.heap.objs.size f AO))->kM (gN iE P w K mg base N qual (ah st) f AO A outer s H E).nox (bh st) (dI K b)) :
  b0 P w K mg base iE (k+1) f fd ps (Cq K ps.length (iY N.length b)):=by
 have G:b0 P w K mg base iE (k+1) f fd ps (λvs H Q _=>vs.length=ps.length/\dI K b {nx:=λ_ H'=>Q .non H',rt:=Q} (L2.dJ N vs) H) :=
  L2.lj.ok F S (λvs H Q E h=>h.1) λAO A outer s H vs Q E hr h=>{_,AQ AO A outer s H E hr,h.2}
 refine G.imp λvs H Q E hh=>?_;let⟨U,m,rs,d,U',hn,hs,r,e,k⟩:=hh;refine{by rw[←r.length];exact hn,?_};let⟨o,e1,e⟩:=AM.mp e;refine{_,U,m,o,uG r,hs,e1,?_}
 cases o with
 |nx O U1=>cases e;exact λY H' m' x1 s1 _=>k _ H' m' x1 s1 (by rwa[ao,al])
 |rt d U1=>cases e;exact λv H' m' x1 s1 r1=>k _ H' m' x1 s1 r1
 |bk O U1=>cases e
 |ct O U1=>cases e
noncomputable def fN (f:MW)(n:Nat)(fa:FA):FE:=λO U=>(fa O U).bind λa=>if a.1.length=n then f a.1 a.2 else none
structure jK (K:AF)(mg:Td)(c:Str)(C:Addr):Prop where
 ns:PySem.W.nsIn K mainGlobals c=some (some (.ref C))
 mg:mg c=some (.ref C)
 cl:wv K C
noncomputable def n3 (c:Str)(U:ac)(x:R):Jo (A0 (Str×R)):=match x with
 |.p n=>(match U[n]? with|some (.ob c' fs)=>if c'=c then some fs else none|_=>none)
 |_=>none
noncomputable def iL (f:Str)(v:R):A0 (Str×R)->A0 (Str×R)
 |[]=>[(f,v)]
 |(g,x)::r=>if g=f then (g,v)::r else (g,x)::iL f v r
def FR (K:AF)(m:Tf)(H:Hp)(fs:A0 (Str×R))(es:A0 (Str×V)):Prop:=es.map (·.1)=fs.map (·.1)/\aV K m H (fs.map (·.2)) (es.map (·.2))
section
variable {K:AF}{m m':Tf}{H H':Hp}
def FR.cons {k k':Str}{d:R}{v:V}{fs:A0 (Str×R)}{es:A0 (Str×V)}:FR K m H ((k,d)::fs) ((k',v)::es) ↔ k'=k/\ao K m H d v/\FR K m H fs es:=by
 constructor
 ·rintro⟨h1,h2⟩;rwa[An,List.cons.injEq] at h1;let⟨w,r,e,h3,h4⟩:=h2;rwa[An,List.cons.injEq] at e;let⟨rfl,rfl⟩:=e;exact{h1.1,h3,h1.2,h4}
 ·rintro⟨rfl,h1,h2,h3⟩;exact{by simp[h2],{_,_,rfl,h1,h3}}
theorem FR.look:∀{fs:A0 (Str×R)} {es:A0 (Str×V)} (f:Str),FR K m H fs es->(fs.lookup f=none/\es.lookup f=none)\/∃d v,fs.lookup f=some d/\es.lookup f=some v/\ao K m H d v
 |[],es,f,h=>by
  have:es=[]:=by simpa using h.1
  subst this;exact .inl {rfl,rfl}
 |(a,d)::fs,[],f,h=>by have:=h.1;simp at this
 |(a,d)::fs,(b,v)::es,f,h=>by
  let⟨rfl,h1,h2⟩:=FR.cons.mp h;rwa[Bn]
  cases q:f == b with
  |true=>exact .inr {d,v,rfl,rfl,h1}
  |false=>exact FR.look f h2
theorem FR.put {f:Str}{d:R}{v:V}(rd:ao K m H d v):∀{fs:A0 (Str×R)} {es:A0 (Str×V)},FR K m H fs es->FR K m H (iL f d fs) (fJ f v es)
 |[],es,h=>by
  have:es=[]:=by simpa using h.1
  subst this;exact FR.cons.mpr {rfl,rd,rfl,rfl}
 |(a,x)::fs,[],h=>by have:=h.1;simp at this
 |(a,x)::fs,(b,y)::es,h=>by
  let⟨rfl,h1,h2⟩:=FR.cons.mp h;unfold iL fJ;by_cases q:b=f
  ·rw[A8 q,A8 q];exact FR.cons.mpr {rfl,rd,h2}
  ·rw[AA q,AA q];exact FR.cons.mpr {rfl,h1,FR.put rd h2}
def FR.ext (x:cU m H m' H'){fs:A0 (Str×R)}{es:A0 (Str×V)}(h:FR K m H fs es):FR K m' H' fs es:={h.1,aV.ext x h.2}
def FR.len {fs:A0 (Str×R)}{es:A0 (Str×V)}(h:FR K m H fs es):es.length=fs.length:=by simpa using AL List.length h.1
def pi {mg:Td}{c:Str}{C:A6}{U:ac}{x:R}{v:V}{fs:A0 (Str×R)}(N:jK K mg c C)(s:aS K m H U)(r:ao K m H x v)(e:n3 c U x=some fs) :
  ∃n a dx es,x=.p n/\m[n]?=some a/\v=.ref a/\H a=some (.ins C dx es)/\FR K m H fs es:=by
 unfold n3 at e;split at e
 ·rename_i n
  split at e
  ·rename_i c' gs q
   split at e
   ·rename_i hc
    cases e;subst hc;let⟨a,rfl,ha⟩:=r;let⟨C',dx,es,h1,h2,h3,h4⟩:=s.cell _ _ a q ha;rw[N.ns] at h1;cases h1;exact{n,a,dx,es,rfl,ha,rfl,h2,h3,h4}
   ·cases e
  ·cases e
 ·cases e
end
noncomputable def la (c f:Str)(fo:FE):FE:=λO U=>(fo O U).bind λo=>(n3 c o.2 o.1).bind λfs=>(fs.lookup f).bind λd=>some (d,o.2)
noncomputable def lF (c f:Str)(fo fv:FE):FS:=λO U=>(fv O U).bind λv=>(fo O v.2).bind λo=>(n3 c o.2 o.1).bind λfs=>if fs.length<1000 then (match o.1 with|.p n=>some (.nx O (o.2.set n (.ob c (iL f v.1 fs))))|_=>none) else none
noncomputable def cq (c nm:Str)(f:MW)(n:Nat)(fo:FE)(fa:FA):FE:=λO U=>(fo O U).bind λo=>(n3 c o.2 o.1).bind λfs=>if (fs.lookup nm).isNone=true then (fa O o.2).bind λa=>if a.1.length+1=n then f (o.1::a.1) a.2 else none else none
section
variable {K:AF}{Y:L2.St}{H:Hp}{Q:VK}{mg:Td}{c:Str}{C:A6}
def uW {f:MW}{n:Nat}{fa}{E:XK}(h:aA K (fN f n fa) Y H Q):q0 (Cq K n f) [] E (gF K fa) Y H Q:=by
 let⟨O,U,m,d,U',hl,hs,e,k⟩:=h;let⟨⟨xs,U1⟩,e1,e⟩:=AM.mp e;split at e
 ·rename_i hn;refine{O,U,m,xs,U1,hl,hs,e1,λvs H1 m1 x1 s1 r1=>?_};exact{U1,m1,xs,d,U',hn,s1,by rw[Bm];exact r1,e,λv H' m' x2 s2 r2=>k v H' m' (x1.trans x2) s2 r2}
 ·cases e
def JA0 {f:Str}{fo}(N:jK K mg c C)(hf:c7 K C f)(h:aA K (la c f fo) Y H Q):Db K (aA K fo) f Y H Q:=by
 let⟨O,U,m,d,U',hl,hs,e,k⟩:=h;let⟨⟨o,U1⟩,e1,e⟩:=AM.mp e;let⟨fs,e2,e⟩:=AM.mp e;let⟨d',e3,e⟩:=AM.mp e;cases e;refine{O,U,m,o,U1,hl,hs,e1,λv H1 m1 x1 s1 r1=>?_};let⟨n,a,dx,es,rfl,ha,rfl,ea,fr⟩:=pi N s1 r1 e2;rcases fr.look f with⟨z,_⟩|⟨d0,v0,z1,z2,z3⟩
 ·rw[z] at e3;cases e3
 ·rw[z1] at e3;cases e3;exact{a,C,dx,es,v0,rfl,ea,N.cl,hf,z2,k _ H1 m1 x1 s1 z3}
def wV {f:Str}{fo fv}{D:dZ}(N:jK K mg c C)(hf:c7 K C f)(h:dI K (lF c f fo fv) D Y H):Dh K (aA K fo) (aA K fv) f D Y H:=by
 let⟨O,U,m,o,hl,hs,e,k⟩:=h;let⟨⟨v,U1⟩,e1,e⟩:=AM.mp e;let⟨⟨ob,U2⟩,e2,e⟩:=AM.mp e;let⟨fs,e3,e⟩:=AM.mp e;split at e
 ·rename_i Ap;refine{O,U,m,v,U1,hl,hs,e1,λy H1 m1 x1 s1 r1=>?_};refine{O,U1,m1,ob,U2,hl.ext x1,s1,e2,λvo H2 m2 x2 s2 r2=>?_};let⟨n,a,dx,es,rfl,ha,rfl,ea,fr⟩:=pi N s2 r2 e3;dsimp only at e;cases e;have x:cU m2 H2 m2 (upd H2 a (.ins C dx (fJ f y es))):=.put (Bd ha) ea ∅ ∅;refine{a,C,dx,es,rfl,ea,N.cl,hf,by rw[fr.len];exact Ap,?_};have x3:=(x1.trans x2).trans x;have fr2:=(FR.put (f:=f) (r1.ext x2) fr).ext x;exact k _ _ m2 x3 (s2.put ha ea ∅ ∅ {C,dx,_,N.ns,cV,fr2.1,fr2.2}) (hl.ext x3)
 ·cases e
def wX {nm:Str}{f:MW}{n:Nat}{fo fa}{E:XK}(N:jK K mg c C)(h:aA K (cq c nm f n fo fa) Y H Q):zh C nm (Cq K n f) [] E (aA K fo) (gF K fa) Y H Q:=by
 let⟨O,U,m,d,U',hl,hs,e,k⟩:=h;let⟨⟨o,U1⟩,e1,e⟩:=AM.mp e;let⟨fs,e2,e⟩:=AM.mp e;split at e
 ·rename_i hno;let⟨⟨xs,U2⟩,e3,e⟩:=AM.mp e;split at e
  ·rename_i hn;refine{O,U,m,o,U1,hl,hs,e1,λv H1 m1 x1 s1 r1=>?_};let⟨i,a,dx,es,rfl,ha,rfl,ea,fr⟩:=pi N s1 r1 e2;have hlook:es.lookup nm=none:=by
    rcases fr.look nm with⟨_,z⟩|⟨d0,v0,z1,z2,z3⟩
    ·exact z
    ·rw[z1] at hno;cases hno
   refine{a,dx,es,rfl,ea,hlook,?_};refine{O,U1,m1,xs,U2,hl.ext x1,s1,e3,λvs H2 m2 x2 s2 r2=>?_};exact{U2,m2,.p i::xs,d,U',by simpa using hn,s2,{_,_,rfl,r1.ext x2,by rw[Bm];exact r2},e,λv H' m' x3 s3 r3=>k v H' m' ((x1.trans x2).trans x3) s3 r3}
  ·cases e
 ·cases e
end
def u0 {f:FE}{H:Hp}{Q Q':VK}(h:aA K f Y H Q)(k:∀v H',Q v H'->Q' v H'):aA K f Y H Q' :=
 let ⟨O,U,m,d,U',hl,hs,e,q⟩:=h
 {O,U,m,d,U',hl,hs,e,λv H' m' x s r=>k v H' (q v H' m' x s r)}
open HS
noncomputable def lX (c:Str)(f:MW)(n:Nat)(fa:FA):FE:=λO U=>(fa O U).bind λa=>if a.1.length+1=n then (f (.p a.2.length::a.1) (a.2++[.ob c []])).bind λr=>match r.1 with|.v .non=>some (.p a.2.length,r.2)|_=>none else none
def uT {mg:Td}{c:Str}{C:A6}{H:Hp}{Q:VK}{f:MW}{n:Nat}{fa:FA}{E:XK}(N:jK K mg c C)(h:aA K (lX c f n fa) Y H Q):zi C (Cq K n f) [] E (gF K fa) Y H Q:=by
 let⟨O,U,m,d,U',hl,hs,e,k⟩:=h;let⟨⟨xs,U0⟩,e0,e⟩:=AM.mp e;dsimp only at e;split at e
 ·rename_i hn;let⟨⟨r,U1⟩,e1,e⟩:=AM.mp e;dsimp only at e;split at e
  ·cases e;refine{O,U,m,xs,U0,hl,hs,e0,λvs H1 m1 x1 s1 r1=>?_};intro x dx hx hdx hne;have y1:cU m1 H1 m1 (upd H1 dx (.own x)):=.new hdx;have t1:=s1.same (b9 hdx (o:=HO.own x));have hx1:upd H1 dx (.own x) x=none:=(by unfold upd;rw[AA (Ne.symm hne)];exact hx);have y2:cU m1 (upd H1 dx (.own x)) (m1++[x]) (upd (upd H1 dx (.own x)) x (.ins C dx [])):=.newH hx1;have s2:=t1.newH (c:=.ob c []) hx1 {C,dx,[],N.ns,cV,rfl,rfl};have hp:(m1++[x])[U0.length]?=some x:=(by rw[←s1.len];simp);refine{_,_,.p U0.length::xs,_,_,by simpa using hn,s2,{_,_,rfl,{x,rfl,hp},by rw[Bm];exact r1.ext (y1.trans y2)},e1,λv H' m' x3 s3 r3=>?_};refine{by simpa only[ao,al] using r3,k _ H' m' ((x1.trans (y1.trans y2)).trans x3) s3 ?_};exact ao.ext x3 (show ao K (m1++[x]) _ (.p U0.length) (.ref x) from{x,rfl,hp})
  ·cases e
 ·cases e
end HW
namespace HW
open PyProof.Rows L2
open HK
structure Tw (H H':Hp):Prop where
 tup:∀a xs,H a=some (.tup xs)->H' a=some (.tup xs)
 frz:∀a o u,(∀o' u',u≠.frz o' u')->H a=some (.frz o u)->H' a=some (.frz o u)
end HW
namespace L2
open PyProof.Rows HK HW
end L2
namespace HW
open PyProof.Rows L2
section
variable {K:AF}{Y:L2.St}{H:Hp}{Q:VK}
def uV {ix:A0 Nat}{k:Nat}{own:Tn}{fi:FI}{g:FG}{c:FT}{f:FE}(hk:own.length=k)(h:aA K (gJ ix k fi g c f) Y H Q):uD ix own (Dp K fi) (o6 K g) (fm K c) (aA K f) Y H Q:=by
 let⟨O,U,m,d,U',hl,hs,e,kk⟩:=h;let⟨⟨xs,U1⟩,e1,e⟩:=AM.mp e;split at e
 ·rename_i hz;let⟨⟨r,Ur⟩,e2,e⟩:=AM.mp e;cases e;refine{O,U,m,xs,U1,hl,hs,e1,λJ P H1 m1 x1 s1 ok p1=>?_};refine{λi n ys τ H=>n=xs.length-i/\i<=xs.length/\ys.length<=i/\P H/\∃O U m ds r',c9 K m H O τ/\aS K m H U/\RelDs K H ds ys/\fw g c f (xs.drop i) O U=some (r',Ur)/\r=ds++r' /\
   ∀v H' m',cU m H m' H'->aS K m' H' (Ur++[.lst r])->ao K m' H' (.p Ur.length) v->Q v H',
   {_,rfl,zbt _,Af _,p1,_,U1,m1,[],r,tR hk (hl.ext x1),s1,by rwa[RelDs],by simpa using e2,rfl,λv H' m' x2 s2 r2=>kk v H' m' (x1.trans x2) s2 r2},?_}
  rintro i n ys τ H ⟨rfl,hi,hy,p,O,U,m,ds,r',hl,hs,rs,e,er,kk⟩;by_cases Ap:i<xs.length
  ·have hx:xs[i]?=some xs[i]:=D7 Ap;rw[zbq Ap,fw] at e;let⟨⟨O1,U2⟩,q1,e⟩:=AM.mp e;let⟨⟨b,U3⟩,q2,e⟩:=AM.mp e;refine .inr {ok.go i _ H hx p,Nat.lt_of_le_of_lt hy (Ax Ap hz),λx H' y=>?_};let⟨xe,rx⟩:=ok.yld i _ H x H' hx p y;have x0:cU m H m H':=pJ xe;refine{O,U,m,.v xs[i],O1,U2,c9.ext x0 hl,hs.same xe,rx,q1,λY1 H1 m1 x1 s1 l1=>?_};have x1:=x0.trans x1;refine{O1,U2,m1,b,U3,l1,s1,q2,λH2 m2 x2 s2=>?_}
   cases b with
   |true=>
    rwa[if_true] at e ⊢;let⟨⟨y',U4⟩,q3,e⟩:=AM.mp e;refine{O1,U3,m2,y',U4,l1.ext x2,s2,q3,λw H3 m3 x3 s3 r3=>?_}
    cases y' with
    |p _=>cases e
    |s _ _=>cases e
    |x _=>cases e
    |f _ _=>cases e
    |v d1=>
     let⟨⟨r1,U5⟩,q4,e⟩:=AM.mp e;cases e;have x4:=(x1.trans x2).trans x3;refine{_,(by omega:xs.length-(i+1)<xs.length-i),rfl,Ap,by rw[BD];exact Nat.succ_le_succ hy,ok.st _ _ x4.tf p,O1,U4,m3,ds++[d1],r1,l1.ext (x2.trans x3),s3,
      (RelDs.tf x4.tf _ _ rs).append (by rwa[RelDs];exact{w,[],rfl,r3,rfl}),q4,by rw[er,Bu];rfl,λv H' m' x5 s5 r5=>kk v H' m' (x4.trans x5) s5 r5}
   |false=>
    rwa[Bp,if_false] at e ⊢;have x4:=x1.trans x2;exact{_,(by omega:xs.length-(i+1)<xs.length-i),rfl,Ap,Nat.le_succ_of_le hy,ok.st _ _ x4.tf p,O1,U3,m2,ds,r',l1.ext x2,s2,RelDs.tf x4.tf _ _ rs,e,er,λv H' m' x5 s5 r5=>kk v H' m' (x4.trans x5) s5 r5}
  ·have:i=xs.length:=by omega
   subst this;rw[List.drop_length,fw] at e;cases e;refine .inl {ok.stop _ H p (Af _),λp hp=>?_};let⟨a1,a2,a3⟩:=gp hs rs hp;rw[Bm] at er;subst er;exact kk _ _ _ a1 a2 a3
 ·cases e
def xf {ix:A0 Nat}{k:Nat}{own:Tn}{fi:FI}{g:FG}{c:FT}{f:FE}(hk:own.length=k)(h:aA K (gJ ix k fi g c f) Y H Q):uD ix own (uZ K fi) (o6 K g) (fm K c) (aA K f) Y H Q :=
 let ⟨O,U,m,xs,U',hl,hs,e,k⟩:=uV hk h
 {O,U,m,xs,U',hl,hs,e,λJ P H' m' x s ok p=>k J P H' m' x s {ok.st,ok.stop,ok.go,λi d H x H' e p y=>by let⟨rfl,r⟩:=ok.yld i d H x H' e p y;exact{λ_ _ z=>z,r}} p}
end
end HW
namespace L2
open PyProof.Rows
end L2
namespace HW
open PyProof.Rows L2
end HW
namespace L2
open PyProof.Rows HK
end L2
namespace HW
open PyProof.Rows L2
example (w:AB) (x:Str):hashStr w x=PyData.keyHash w.params x:=rfl
inductive t0 (K:AF) (w:World):List (Str×D)->List DictEntry->List V->Prop
 |nil:t0 K w [] [] []
 |cons {x:Str} {d:D} {t:Tok} {u:Value} {v:V} {l es vs}:tZ K d v u->t0 K w l es vs->t0 K w ((x,d)::l) ({hashStr w x,.str x t,u}::es) (v::vs)
def sf (K:AF)(w:AB)(mg:Td)(x:Str)(l:A0 (Str×D)):Prop :=
 ∃a ep es vs,mg x=some (.ref a)/\K.lookup a=some {.type "dict",none,.dict (List.toArray es) ep,#[]}/\(a == sysModules)=false/\(l.map (·.1)).Nodup/\t0 K w l es vs
noncomputable def qD (l:A0 (Str×D))(x:Str):D:=match l.find? λp=>decide (p.1=x) with|some p=>p.2|none=>.non
section
variable {X:Cx}{K:AF}{w:AB}{l:A0 (Str×D)}{es:A0 DictEntry}{vs:A0 V}
theorem t0.keys (h:t0 K w l es vs):KeysOf (bG P w) es.toArray/\∃kvs:A0 (ci×A5),Pairs (bG P w) es kvs/\kvs.map (·.1)=l.map (λp=>.inr (some p.1))/\∀x,∃v,aW v ((valueAt kvs (.inr (some x))).getD .none)/\∀H,al K H (qD l x) v:=by
 induction h with
 |nil=>exact{λe he=>by simp at he,[],.nil,rfl,λx=>{.non,rfl,λH=>by rwa[qD,List.find?_nil,al]}}
 | @cons x d t u v l es vs hr _ ih=>
  let⟨k1,kvs,p,hm,hv⟩:=ih;refine{λe he=>?_,(.inr (some x),u)::kvs,.cons (pF (k:=.inr (some x)) (show aW (.str x) (.str x t) from{t,rfl})) rfl p,by rw[An,An,hm],λy=>?_}
  ·rcases Ad.mp ‹he› with rfl|he
   ·exact{.inr (some x),pF (k:=.inr (some x)) (show aW (.str x) (.str x t) from{t,rfl}),rfl}
   ·exact k1 e ‹he›
  ·by_cases hxy:x=y
   ·subst hxy;refine{v,?_,λH=>?_}
    ·rw[valueAt,List.find?_cons_of_pos ∅];exact hr.1
    ·rw[qD,List.find?_cons_of_pos ∅];exact hr.2 H
   ·let⟨v',h1,h2⟩:=hv y;refine{v',?_,λH=>?_}
    ·rw[valueAt,List.find?_cons_of_neg ‹hxy›];exact h1
    ·rw[qD,List.find?_cons_of_neg ‹hxy›];exact h2 H
def zk (K:AF)(l:A0 (Str×D))(ty:TE):TE:=λY H Q=>ty Y H λy H1=>∃x,y=.str x/\∀v,(∀H,al K H (qD l x) v)->Q v H1
def xy {x:Str}{p apos AP:Pos}{ty:TE}(h:sf X.K X.w X.mg x l)(hg:Gl X x)(hd:(x == ("__debug__" : Str))=false)(he:PE X e ty)(m:M1 X (.Name x p) "get" apos e AP):PE X (.Call (.Attribute (.Name x p) "get" apos) [e] [] AP) (zk X.K l ty):=by
 intro A1 s Y H Q I q;let⟨a,ep,es,vs,hm,hk,hs,nd,ce⟩:=h;let⟨k1,kvs,pr,km,hv⟩:=ce.keys (P:=X.prog);have dd:∀{s':A4} {H':Hp} {Y':L2.St} {BO:Tc},aE X BO Y' H' s'->s'.heap.DictOf (bG X.prog X.w) a kvs:=λ{s' H' Y' BO} I'=>by
  refine{_,es.toArray,ep,I'.kIn a _ hk,{rfl,rfl,rfl},rfl,k1,by simpa using pr,?_};rw[km];have:(l.map λp=>(Sum.inr (some p.1):ci))=(l.map (·.1)).map λx=>.inr (some x):=by rw[D4];rfl
  rw[this];exact List.Pairwise.map _ (λa b h e=>h ‹e›) nd
 refine wpAny_Call_method m.base m.few m.line PySem.F.plainAttrs_dict PySem.F.slot_dict_get PySem.F.type_dict_get (ck (rA (v:=.ref a) hg hm rfl hd A1 s Y H (λv H'=>v=.ref a/\ty Y H' λy H1=>∃x,y=.str x/\∀v,(∀H,al X.K H (qD l x) v)->Q v H1) I {rfl,q}) λu s1 hh=>?_);let⟨x1,H1,I1,rx,ex,q1⟩:=hh;subst ex;obtain rfl:u=Value.ref a:=rx;have d1:=dd I1;refine{d1.typeIs,λb e=>by cases e;exact{_,I1.kIn a _ hk,rfl},?_};rw[m.trees];refine Calls.callWith_builtin rfl (Calls.evalArgs_plain (Calls.spliced_cons (ck (he A1 s1 Y H1 _ I1 q1) λiv s2 hh=>?_)));let⟨y,H2,I2,ry,x,ey,q2⟩:=hh;subst ey;refine Calls.spliced_nil ?_;have d2:=dd I2;let⟨v,r1,r2⟩:=hv x;refine call_meetsIn PySem.F.slot_dict_get d2.typeIs PySem.F.entry_dict_get (PySem.F.args_dict_get_2 _ _) (meets_dict_get (bG X.prog X.w) a (pF (k:=.inr (some x)) ry) hs) {_,d2.mapOf,{v,H2,I2.tok _,r1,q2 v r2}}
noncomputable def vW (l:A0 (Str×D))(fk:FE):FE:=λO U=>(fk O U).bind λk=>match k.1 with|.v (.str x)=>some (.v (qD l x),k.2)|_=>none
theorem xg {H:Hp}{Q:VK}{fk}(h:aA K (vW l fk) Y H Q):zk K l (aA K fk) Y H Q:=by
 let⟨O,U,m,d,U',hl,hs,e,k⟩:=h;let⟨⟨x,U1⟩,e1,e⟩:=AM.mp e;refine{O,U,m,x,U1,hl,hs,e1,λv H1 m1 x1 s1 r1=>?_}
 cases x with
 |v d=>
  cases d with
  |str x=>
   cases e;exact{x,by simpa only[ao,al] using r1,λv hv=>k v H1 m1 x1 s1 (hv H1)}
  |_=>cases e
 |_=>cases e
end
end HW
namespace L2
open PyProof.Rows HW
end L2
namespace HW
variable {K:AF}
open PyProof.Rows L2
noncomputable def oq:R->A0 R->ac->Jo (R×ac)
 |.p n,[.p m],U=>match U[n]?,U[m]? with
  |some (.lst xs),some (.lst ys)=>if xs.length+ys.length<=sizeLine then some (.v .non,U.set n (.lst (xs++ys))) else none
  |_,_=>none
 |_,_,_=>none
def JBm :EX K oq rh:=by
 intro m H U x xs d U' v vs Q s rx rs e k;unfold oq at e;split at e
 ·rename_i n j;split at e
  ·rename_i zs ys q q';split at e
   ·rename_i hz
    cases e;let⟨a,rfl,ha⟩:=rx;let⟨w,rfl,DQ⟩:=oZ rs;let⟨b,rfl,hb⟩:=DQ;let⟨ws,ea,ra⟩:=s.cell _ _ a q ha;let⟨us,eb,rb⟩:=s.cell _ _ b q' hb;have x:cU m H m (upd H a (.lst (ws++us))):=.put (Bd ha) ea ∅ ∅;refine{a,b,ws,us,rfl,rfl,ea,eb,by have:=ra.length;have:=rb.length;omega,k _ _ m x (s.put ha ea ∅ ∅ {_,cV,RelDs.tf x.tf _ _ (RelDs.append ra rb)}) (by rwa[ao,al])}
   ·cases e
  ·cases e
 ·cases e
noncomputable def g8:R->A0 R->ac->Jo (R×ac)
 |.p n,[],U=>match U[n]? with
  |some (.lst xs)=>(xs[xs.length-1]?).bind λd=>some (.v d,U.set n (.lst xs.dropLast))
  |_=>none
 |_,_,_=>none
def JB9 :EX K g8 Du:=by
 intro m H U x xs d U' v vs Q s rx rs e k;unfold g8 at e;split at e
 ·rename_i n;split at e
  ·rename_i ys q;let⟨d1,e1,e⟩:=AM.mp e;cases e;let⟨a,rfl,ha⟩:=rx;have rs:vs=[]:=rs;subst rs;let⟨ws,ea,ra⟩:=s.cell _ _ a q ha;have hl:=ra.length;let⟨y,hy,ry⟩:=ra.get e1;have x:cU m H m (upd H a (.lst ws.dropLast)):=.put (Bd ha) ea ∅ ∅;rw[hl] at hy;have dl:RelDs K H ys.dropLast ws.dropLast:=by rw[←zbI,←zbI,←hl];exact RelDs.erase _ ra
   exact{a,ws,y,rfl,rfl,ea,hy,k _ _ m x (s.put ha ea ∅ ∅ {_,cV,RelDs.tf x.tf _ _ dl}) (al.tf x.tf _ _ ry)}
  ·cases e
 ·cases e
noncomputable def oY (c f:Str)(fo:FE)(j:Int):FS:=λO U=>(fo O U).bind λo=>(n3 c o.2 o.1).bind λfs=>match fs.lookup f with
 |some (.v (.int i))=>if fs.length<1000 then (match o.1 with|.p n=>some (.nx O (o.2.set n (.ob c (iL f (.v (.int (i+j))) fs))))|_=>none) else none
 |_=>none
def xi {H:Hp}{mg:Td}{c:Str}{C:A6}{f:Str}{fo:FE}{j:Int}{D:dZ}(N:jK K mg c C)(hf:c7 K C f)(h:dI K (oY c f fo j) D Y H) :
  re K (aA K fo) (aA K (fK (.int j))) DC f D Y H:=by
 let⟨O,U,m,o,hl,hs,e,k⟩:=h;let⟨⟨ob,U1⟩,e1,e⟩:=AM.mp e;let⟨fs,e2,e⟩:=AM.mp e;split at e
 ·rename_i i hi
  split at e
  ·rename_i Ap
   refine{O,U,m,ob,U1,hl,hs,e1,λvo H1 m1 x1 s1 r1=>?_};let⟨n,a,dx,es,rfl,ha,rfl,ea,fr⟩:=pi N s1 r1 e2;dsimp only at e;cases e;rcases fr.look f with⟨z,_⟩|⟨d0,v0,z1,z2,z3⟩
   ·rw[z] at hi;cases hi
   ·rw[z1] at hi;cases hi
    rwa[ao,al] at z3;subst z3;refine{a,C,dx,es,_,rfl,ea,N.cl,hf,z2,O,U1,m1,_,_,hl.ext x1,s1,rfl,λy H2 m2 x2 s2 r2=>?_};rwa[ao,al] at r2;subst r2;let⟨n',a',Dk,B6,hn,BS,hr,ea',fr'⟩:=pi N s2 (r1.ext x2) e2;cases hr;cases hn;refine{i,j,rfl,rfl,Dk,B6,ea',by rw[fr'.len];exact Ap,?_};have x:cU m2 H2 m2 (upd H2 a (.ins C Dk (fJ f (.int (i+j)) B6))):=.put (Bd BS) ea' ∅ ∅;have x3:=(x1.trans x2).trans x;have fr2:=(FR.put (f:=f) (d:=.v (.int (i+j))) (v:=.int (i+j)) (by rwa[ao,al]) fr').ext x;exact k _ _ m2 x3 (s2.put BS ea' ∅ ∅ {C,Dk,_,N.ns,cV,fr2.1,fr2.2}) (hl.ext x3)
  ·cases e
 ·cases e
abbrev m8 (e:AG)(es:Tk)(X:Cx):Prop:=starEach (e::es) X.env=(false,eval e X.env)::starEach es X.env
noncomputable def i7:AG->A9
 |.Starred ..=>true
 |_=>false
def aB {es:Tk}{env:Env}(h:i7 e=false):starEach (e::es) env=(false,eval e env)::starEach es env:=by cases e <;> first|rfl|(simp[i7] at h)
theorem aP {env:Env}{pos:Pos}:∀{es:Tk},es.any i7=false->(backTo pos (starEach es env)).any (·.1)=false
 |[],_=>rfl
 |e::es,h=>by rw[D9,Bool.or_eq_false_iff] at h;rw[aB h.1];have ih:=aP (env:=env) (pos:=pos) h.2;unfold backTo at ih ⊢;rw[An,D9,ih];rfl
def pN {es:Tk}{env:Env}(h:i7 e=false):(assignEach (e::es) env).map (·.2)=assign e env::(assignEach es env).map (·.2):=by cases e <;> first|rfl|(simp[i7] at h)
def iF {prog:A7}{w:AB}{A:AH}{E:Tb}{s:A4}{t sl:A6}{items:Tj}{vl vu:A5}{lo hi:Jo Int}{Q:Tb}(ht:IsTup s.heap t items)(hs:s.heap.IsSliceOf sl vl vu .none)(pl:IsPart vl lo)(pu:IsPart vu hi)
  (hw:HT.cx items.size 0 lo=0/\HT.cx items.size items.size hi=items.size)
  (h:Q (.ref t) s):wpAny (model prog w) A (getItem (.ref t) (.ref sl)) Q E s:=by
 obtain⟨os,DT,BU,hds⟩:=id hs;have hTs:s.TypeIs (.ref sl) "slice":={os,DT,BU};unfold getItem
 try with_reducible refine Be ?_
 first|refine AI (AR ?_)|skip
 refine AI (wpAny_sequenceKey ht.typeIs ∅ ?_)
 refine AI (DK (name:=Str.ofString "__getitem__") ht.typeIs PyProof.Rows.slot_tuple_getitem
  (Cd PyProof.Rows.slot_tuple_getitem ht.typeIs entry_tuple_getitem ?_ (args_tuple_getitem _ _)))
 show wpAny _ _ (Builtin.Tuple.tupleItemsOf (.ref t) >>= _) _ _ s
 refine AI (tupleItemsOf_ ht ?_);refine AI (zbP hTs ?_);rw[A8 ∅];refine AI (HT.fY hs pl pu ?_)
 have hyes:((((HT.cx items.size 0 lo:Nat):Int) == 0&&(1:Int) == 1&&(HT.cx items.size items.size hi-HT.cx items.size 0 lo) == items.size)=true):=by
  rw[hw.1,hw.2];simp
 show wpAny _ _ (if (((HT.cx items.size 0 lo:Nat):Int) == 0&&(1:Int) == 1&&(HT.cx items.size items.size hi-HT.cx items.size 0 lo) == items.size)=true then _ else _) _ _ s
 rw[A8 hyes];refine AI (m:=Builtin.Tuple.tupleIsExact (.ref t)) (AI (zbP ht.typeIs (AR ?_)));rw[A8 ∅];refine AI (zby ?_)
 first
  |exact AR {_,rfl,AR h}
  |exact AI (AR (AR {_,rfl,AR h}))
  |exact AI (AR {_,rfl,AR h})
noncomputable def ow (xs:A0 D)(lo hi:Jo Int):A0 D:=(xs.drop (HT.cx xs.length 0 lo)).take (HT.cx xs.length xs.length hi-HT.cx xs.length 0 lo)
def Dt (K:AF):V->Jo Int->Jo Int->Hp->VK->Prop:=λx lo hi H Q=>Ds K x lo hi H Q\/Dq K x lo hi H Q \/
 ∃a xs,x=.ref a/\gP K H a xs/\(HT.cx xs.length 0 lo=0/\HT.cx xs.length xs.length hi=xs.length)/\Q (.ref a) H
def uI {X:Cx}:t4 X (λx lo hi H Q=>∃a xs,x=.ref a/\gP X.K H a xs/\(HT.cx xs.length 0 lo=0/\HT.cx xs.length xs.length hi=xs.length)/\Q (.ref a) H):=by
 intro A1 s Y H x v vl vu lo hi sl Q I rx hs pl pu h;let⟨a,xs,rfl,hx,hw,q⟩:=h;cases rx;let⟨its,r,ht,hz⟩:=I.tuple hx;have hlen:its.toArray.size=xs.length:=by rw[Ao];exact r.length.symm
 refine{"tuple",_,PyProof.Rows.slot_tuple_getitem.lookup,ht.typeIs,?_};exact iF ht hs pl pu (by rw[hlen];exact hw) {.ref a,H,I,rfl,q}
def JBb {X:Cx}:t4 X (Dt X.K):=t4.or wL (t4.or JA9 uI)
abbrev FO:=Lo->ac->Jo (Jo Int×ac)
def sy (K:AF)(f:FO):TO:=λY H Q=>∃O U m o U',c9 K m H O Y/\aS K m H U/\f O U=some (o,U')/\∀H' m',cU m H m' H'->aS K m' H' U'->Q o H'
noncomputable def kC:FO:=λ_ U=>some (none,U)
noncomputable def jA (f:FE):FO:=λO U=>(f O U).bind λa=>match a.1 with|.v (.int i)=>some (some i,a.2)|_=>none
noncomputable def As (x:R)(lo hi:Jo Int)(U:ac):Jo (R×ac):=match x with
 |.v (.tup xs)=>some (.v (.tup (ow xs lo hi)),U)
 |x=>(i3 x U).bind λxs=>some (.p U.length,U++[.lst (ow xs lo hi)])
noncomputable def Cc (fa:FE)(fl fh:FO):FE:=λO U=>(fa O U).bind λa=>(fl O a.2).bind λl=>(fh O l.2).bind λh=>As a.1 l.1 h.1 h.2
theorem RelDs.drop {K:AF}{H:Hp}:∀{xs:A0 D} {vs:A0 V} (n:Nat),RelDs K H xs vs->RelDs K H (xs.drop n) (vs.drop n)
 |_,_,0,h=>h
 |[],_,n+1,h=>by rwa[RelDs] at h;subst h;rwa[List.drop_nil,RelDs]
 |x::xs,_,n+1,h=>by rwa[RelDs] at h;let⟨v,r,rfl,_,h2⟩:=h;exact RelDs.drop n h2
theorem RelDs.take {K:AF}{H:Hp}:∀{xs:A0 D} {vs:A0 V} (n:Nat),RelDs K H xs vs->RelDs K H (xs.take n) (vs.take n)
 |_,_,0,h=>by rwa[List.take_zero,RelDs]
 |[],_,n+1,h=>by rwa[RelDs] at h;subst h;rwa[List.take_nil,RelDs]
 |x::xs,_,n+1,h=>by rwa[RelDs] at h;let⟨v,r,rfl,h1,h2⟩:=h;rwa[List.take_succ_cons,RelDs];exact{v,_,rfl,h1,RelDs.take n h2}
def RelDs.cut {H:Hp}{xs:A0 D}{vs:A0 V}{lo hi:Jo Int}(h:RelDs K H xs vs):RelDs K H (ow xs lo hi) (ou vs lo hi):=by unfold ow ou;rw[h.length];exact(h.drop _).take _
section
variable {K:AF}{Y:L2.St}{H:Hp}{Q:VK}
def uR {Q:Jo Int->Hp->Prop}(h:sy K kC Y H Q):qZ Y H Q:=by let⟨O,U,m,o,U',hl,hs,e,k⟩:=h;cases e;exact k H m .refl hs
def uQ {f}{Q:Jo Int->Hp->Prop}(h:sy K (jA f) Y H Q):zd (aA K f) Y H Q:=by
 let⟨O,U,m,o,U',hl,hs,e,k⟩:=h;let⟨⟨x,U1⟩,e1,e⟩:=AM.mp e;split at e
 ·rename_i i q
  cases e;simp only at q;subst q;exact{O,U,m,_,U1,hl,hs,e1,λv H1 m1 x1 s1 r1=>{i,by simpa only[ao,al] using r1,k H1 m1 x1 s1}}
 ·cases e
theorem JD2 {m:Tf}{U U':ac}{x d:R}{v:V}{lo hi:Jo Int}(s:aS K m H U)(r:ao K m H x v)(e:As x lo hi U=some (d,U'))(k:∀w H' m',cU m H m' H'->aS K m' H' U'->ao K m' H' d w->Q w H'):Dt K v lo hi H Q:=by
 have lst:∀xs,i3 x U=some xs->(some (R.p U.length,U++[bX.lst (ow xs lo hi)]):Jo (R×ac))=some (d,U')->Dt K v lo hi H Q:=λxs e1 e2=>by cases e2;let⟨a,vs,rfl,q,rr⟩:=hJ s r e1;refine .inl {a,vs,rfl,q,λp hp=>?_};let⟨x1,x2,x3⟩:=gp s (rr.cut (lo:=lo) (hi:=hi)) hp;exact k _ _ _ x1 x2 x3
 have gen:(i3 x U).bind (λxs=>some (R.p U.length,U++[bX.lst (ow xs lo hi)]))=some (d,U')->Dt K v lo hi H Q:=λe=>by let⟨xs,e1,e⟩:=AM.mp e;exact lst xs e1 e
 cases x with
 |p n=>exact gen e
 |s _ n=>exact gen e
 |x n=>exact gen e
 |f L ds=>exact gen e
 |v d0=>
  cases d0 with
  |tup xs=>
   cases e;rwa[ao,al] at r;let⟨a,vs,rfl,q,rr⟩:=r;by_cases hw:HT.cx vs.length 0 lo=0/\HT.cx vs.length vs.length hi=vs.length
   ·refine .inr (.inr {a,vs,rfl,q,hw,k _ H m .refl s ?_});rwa[ao,al];refine{a,vs,rfl,q,?_};have:=rr.cut (lo:=lo) (hi:=hi);unfold ou at this
    rw[hw.1,hw.2] at this
    simpa using this
   ·refine .inr (.inl {a,vs,rfl,q,hw,λp hp=>?_});let⟨x1,x2,x3⟩:=lf s (rr.cut (lo:=lo) (hi:=hi)) hp;exact k _ _ _ x1 x2 x3
  |non=>exact gen e
  |bl _=>exact gen e
  |int _=>exact gen e
  |str _=>exact gen e
  |fl _=>exact gen e
  |fd _ _=>exact gen e
  |key _=>exact gen e
def Dl {fa fl fh}(h:aA K (Cc fa fl fh) Y H Q):Gf (Dt K) (aA K fa) (sy K fl) (sy K fh) Y H Q:=by let⟨O,U,m,d,U',hl,hs,e,k⟩:=h;let⟨⟨x,U1⟩,e1,e⟩:=AM.mp e;let⟨⟨l,U2⟩,e2,e⟩:=AM.mp e;let⟨⟨u,U3⟩,e3,e⟩:=AM.mp e;refine{O,U,m,x,U1,hl,hs,e1,λv H1 m1 x1 s1 r1=>?_};refine{O,U1,m1,l,U2,hl.ext x1,s1,e2,λH2 m2 x2 s2=>?_};refine{O,U2,m2,u,U3,hl.ext (x1.trans x2),s2,e3,λH3 m3 x3 s3=>?_};exact JD2 s3 (r1.ext (x2.trans x3)) e λw H4 m4 x4 s4 r4=>k w H4 m4 (((x1.trans x2).trans x3).trans x4) s4 r4
noncomputable def ya (fa:FE)(fl fh:FO):FE:=λO U=>(fa O U).bind λa=>(fl O a.2).bind λl=>(fh O l.2).bind λh=>wq a.1 l.1 h.1 h.2
def JBc {x:R}{lo hi:Jo Int}{U U':ac}{d:R}(e:wq x lo hi U=some (d,U')):∃z,x=.v (.str z)/\z.length<=sizeLine/\d=.v (.str (Txt.slice z lo hi))/\U'=U:=by
 unfold wq at e;split at e
 ·split at e
  ·rename_i hz
   cases e;exact{_,rfl,hz,rfl,rfl}
  ·cases e
 ·cases e
def JAm {fa fl fh}(h:aA K (ya fa fl fh) Y H Q):Gf Dr (aA K fa) (sy K fl) (sy K fh) Y H Q:=by let⟨O,U,m,d,U',hl,hs,e,k⟩:=h;let⟨⟨x,U1⟩,e1,e⟩:=AM.mp e;let⟨⟨l,U2⟩,e2,e⟩:=AM.mp e;let⟨⟨u,U3⟩,e3,e⟩:=AM.mp e;refine{O,U,m,x,U1,hl,hs,e1,λv H1 m1 x1 s1 r1=>?_};refine{O,U1,m1,l,U2,hl.ext x1,s1,e2,λH2 m2 x2 s2=>?_};refine{O,U2,m2,u,U3,hl.ext (x1.trans x2),s2,e3,λH3 m3 x3 s3=>?_};let⟨z,rfl,hz,rfl,rfl⟩:=JBc e;rwa[ao,al] at r1;exact{z,r1,hz,k _ H3 m3 ((x1.trans x2).trans x3) s3 (by rwa[ao,al])}
end
def PO.imp {e:Jo AG}{t t':TO}(h:PO X e t)(k:∀{Y H Q},t' Y H Q->t Y H Q):PO X e t':=λA1 s Y H Q I q=>h A1 s Y H Q I (k q)
noncomputable def cu:FS:=λ_ _=>none
namespace R
section
variable {X:Cx}{a b e:AG}{es:Tk}{fa fb:FE}{ga:FA}{pos p:Pos}{x:Str}
def am {i j}:PE X (.Constant (.int i) j pos) (aA X.K (fK (.int i))):=PE.imp JCq (ju λ_ _=>by rwa[ao,al])
def fZ (ha:PE X a (aA X.K fa)):PE X (.UnaryOp .USub a pos) (aA X.K (d9 dA fa)):=PE.imp (JDt JA4 ha) (JD3 JDi)
def vb (ha:PE X a (aA X.K fa)):PO X (some a) (sy X.K (jA fa)):=PO.imp (xr ha) uQ
def JAe {k:Nat}{f:A6}{fd:FuncData}{ps:Tn}{n:Nat}{mf:MF}(F:b0 X.prog X.w X.K X.mg X.base iE k f fd ps (wK X.K n mf))(hr:bF k X.A)(hg:Gl X x)(hm:X.mg x=some (.ref f))(hk:PySem.W.keepIn X.K (.ref f)=true)(hb:ee X.K fd ps [])
  (ha:PA X (e::es) (gF X.K ga)) (Ar:(x == ("__debug__" : Str))=false:=by decide) (he:m8 e es X:=by exact aB rfl) (hpl:(backTo pos (starEach es X.env)).any (·.1)=false:=by exact aP rfl) :
  PE X (.Call (.Name x p) (e::es) [] pos) (aA X.K (aI mf n ga)):=PE.imp (nY F hr hg hm hk hb .nil ph ha Ar he hpl) xh
def gl {d:D}(h:dG X.K X.mg x d)(hg:Gl X x:=by rfl)(hd:(x == ("__debug__" : Str))=false:=by decide):PE X (.Name x pos) (aA X.K (fK d)):=by obtain⟨u,v,hm,r,rd⟩:=h;exact PE.imp (rA hg hm r hd) (ju λ_ H=>rd H)
def oW {op:CmpOp}{r:R2}{g:R->R->ac->Jo (R×ac)}(ho:iD X (compareOp op) r)(hg:me X.K g r)(ha:PE X a (aA X.K fa))(hb:PE X b (aA X.K fb))(hm:behindInMarks op b=false):PT X (.Compare a [op] [b] pos) (fm X.K (fB (aK g fa fb))) :=
 PT.imp (rq ho ha hb hm) λh=>by let⟨O,U,m,d,U',hl,hs,e,k⟩:=rg h;exact gE hg {O,U,m,d,U',hl,hs,e,k}
def Ge {op:CmpOp}{neg:A9}{c:D}{cv:V}(hc:(c=.non/\cv=.non)\/∃b,c=.bl b/\cv=.bl b)(ho:iD X (compareOp op) (AX neg cv))(ha:PE X a (aA X.K fa))(hb:PE X b (tC cv))(hm:behindInMarks op b=false):PT X (.Compare a [op] [b] pos) (fm X.K (fB (d9 (Cs neg c) fa))) :=
 PT.imp (rq ho ha hb hm) λh=>by let⟨O,U,m,d,U',hl,hs,e,k⟩:=rg h;exact Dm hc {O,U,m,d,U',hl,hs,e,k}
variable {ta:FT}
variable {st:AJ}{c tg iter:AG}
def di:PS X st (dI X.K cu):=λA1 s Y H D I h=>by let⟨O,U,m,out,hl,hs,e,k⟩:=h;cases e
variable {g:FG}{fi:FI}
def oF.imp {ifs:Tk}{t t':TT}(h:oF X ifs t)(k:∀{Y H Q},t' Y H Q->t Y H Q):oF X ifs t':=λA1 s Y H Q I q=>h A1 s Y H Q I (k q)
def gm {ifs:Tk}{scope:Scope}(ix:A0 Nat)(own caps:Tn)(hc:X.calm=true)(n:bp X.env.scope scope own caps)(hi:PI X tg iter (uZ X.K fi))
  (hb:∀cl C s₂ H₂ fp,PG (bi X scope cl C s₂ H₂ fp (own++caps)) tg (o6 X.K g)/\oF (bi X scope cl C s₂ H₂ fp (own++caps)) ifs (fm X.K ta)/\PE (bi X scope cl C s₂ H₂ fp (own++caps)) e (aA X.K fa))
  (BQ:ix.map (λi=>X.N[i]?)=caps.map some:=by rfl)
  (hs:∀x,foldedSetIterable iter X.env x=pure x:=by intro _;rfl):PE X (.ListComp e [{tg,iter,ifs,0}] scope pos) (aA X.K (gJ ix own.length fi g ta fa)):=by
 refine PE.imp (vn (ix:=ix) hc n ‹AL List.length BQ› (λj i y h1 h2=>?_) hi hb hs) (xf rfl);have:=AL (λl=>l[j]?) BQ
 rwa[Bv,h1,h2,zbA] at this
 exact Option.some.inj this
end
end R
noncomputable def iM (x:R)(U:ac):A9:=match x with|.v (.fl _)=>true|.p n=>(match U[n]? with|some (.lst _)=>true|some (.fz _)=>true|_=>false)|_=>false
noncomputable def nF (g:R->A0 R->ac->Jo (R×ac))(fa:FE)(ga:FA):FE:=λO U=>(fa O U).bind λa=>if iM a.1 a.2=true then (ga O a.2).bind λb=>g a.1 b.1 b.2 else none
def pG {m:Tf}{H:Hp}{U:ac}{x:R}{v:V}(s:aS K m H U)(r:ao K m H x v)(e:iM x U=true):E4 K "list" v H:=by
 have:∃xs,i3 x U=some xs:=by
  cases x with
  |v d=>cases d <;> simp_all[iM,i3]
  |s _ _=>simp[iM] at e
  |x _=>simp[iM] at e
  |f _ _=>simp[iM] at e
  |p n=>
   rwa[iM] at e;rwa[i3];split at e
   ·rename_i xs q;exact{xs,by first|rfl|rw[q]}
   ·rename_i xs q;exact{xs,by first|rfl|rw[q]}
   ·cases e
 let⟨xs,e⟩:=this;let⟨a,vs,rfl,q,_⟩:=hJ s r e;exact .inl {rfl,vs,q}
def zv {H:Hp}{Q:VK}{g r fa ga}(hg:EX K g r)(h:aA K (nF g fa ga) Y H Q):E7 K "list" r (aA K fa) (gF K ga) Y H Q:=by
 let⟨O,U,m,d,U',hl,hs,e,k⟩:=h;let⟨⟨x,U1⟩,e1,e⟩:=AM.mp e;split at e
 ·rename_i hx;let⟨⟨ys,U2⟩,e2,e⟩:=AM.mp e;refine{O,U,m,x,U1,hl,hs,e1,λv H1 m1 x1 s1 r1=>{pG s1 r1 hx,?_}};refine{O,U1,m1,ys,U2,hl.ext x1,s1,e2,λvs H2 m2 x2 s2 r2=>?_};exact hg m2 H2 U2 x ys d U' v vs Q s2 (r1.ext x2) r2 e λw H3 m3 x3 s3 r3=>k w H3 m3 ((x1.trans x2).trans x3) s3 r3
 ·cases e
def JAs {H:Hp}{Q:VK}{g r fa}(hg:EX K g r)(h:aA K (nF g fa aj) Y H Q):Dc K "list" r (aA K fa) Y H Q:=by
 let⟨O,U,m,d,U',hl,hs,e,k⟩:=h;let⟨⟨x,U1⟩,e1,e⟩:=AM.mp e;split at e
 ·rename_i hx;exact{O,U,m,x,U1,hl,hs,e1,λv H1 m1 x1 s1 r1=>{pG s1 r1 hx,hg m1 H1 U1 x [] d U' v [] Q s1 r1 rfl e λw H3 m3 x3 s3 r3=>k w H3 m3 (x1.trans x3) s3 r3}}
 ·cases e
structure bj (K:AF)(mg:Td)(x:Str)(st:Stmt)(ps:Tn):Prop where
 ex:∃f fd,lj K x x st f fd/\ee K fd ps []/\mg x=some (.ref f)
structure Ir (K:AF)(mg:Td)(x:Str)(st:Stmt)(ps:Tn)(c:Addr):Prop where
 ex:∃f fd,Iq K x st f fd c/\ee K fd ps []/\mg x=some (.ref f)
def bz (P:A7)(w:AB)(K:AF)(mg:Td)(base:AD)(k:Nat)(x:Str)(ps:Tn)(mf:MF):Prop :=
 ∃f fd,b0 P w K mg base iE k f fd ps (wK K ps.length mf)/\PySem.W.keepIn K (.ref f)=true/\ee K fd ps []/\mg x=some (.ref f)
def b8 (P:A7)(w:AB)(K:AF)(mg:Td)(base:AD)(k:Nat)(x:Str)(ps:Tn)(mf:MC):Prop :=
 ∃f fd,b0 P w K mg base iE k f fd ps (zq K ps.length (cX K mf))/\PySem.W.keepIn K (.ref f)=true/\ee K fd ps []/\mg x=some (.ref f)
def kO (P:A7)(w:AB)(K:AF)(mg:Td)(base:AD)(k:Nat)(x:Str)(ps:Tn)(mf:MW):Prop :=
 ∃f fd,b0 P w K mg base iE k f fd ps (Cq K ps.length mf)/\PySem.W.keepIn K (.ref f)=true/\ee K fd ps []/\mg x=some (.ref f)
structure fU (K:AF)(C:Addr)(nm qual:Str)(st:Stmt)(ps:Tn):Prop where
 ex:∃f fd,lj K nm qual st f fd/\ee K fd ps []/\yq K C nm f
def bS (P:A7)(w:AB)(K:AF)(mg:Td)(base:AD)(k:Nat)(nm:Str)(C:A6)(ps:Tn)(mf:MW):Prop :=
 ∃f fd,b0 P w K mg base iE k f fd ps (Cq K ps.length mf)/\ee K fd ps []/\yq K C nm f
namespace R
def okP {P:A7}{w:AB}{K:AF}{mg:Td}{base:AD}{x:Str}{st:AJ}{N ps:Tn}{k:Nat}{b:FS}(d:bj K mg x st ps)(S:av N ps (ah st))
  (AQ:∀(f:A6) (AO:A5) (A:AH) (outer:A0 Env) (s:A4) (H:Hp) (E:XK),bF k (A.deeper (envOfC x (ah st) s.heap.objs.size f AO))->kM (gN iE P w K mg base N x (ah st) f AO A outer s H E).nox (bh st) (dI K b)) :
  bz P w K mg base (k+1) x ps (ei N.length b):=by
 let⟨f,fd,F,B,M⟩:=d.ex;exact{f,fd,lj.okP F S (AQ f),F.kp,B,M}
def ax {X:Cx}{k:Nat}{x:Str}{ps:Tn}{mf:MF}{e:AG}{es:Tk}{ga:FA}{p pos:Pos}{n:Nat}(F:bz X.prog X.w X.K X.mg X.base k x ps mf)(hr:bF k X.A)(ha:PA X (e::es) (gF X.K ga))(hg:Gl X x:=by rfl)(hn:ps.length=n:=by rfl)
  (Ar:(x == ("__debug__" : Str))=false:=by decide) (he:m8 e es X:=by exact aB rfl) (hpl:(backTo pos (starEach es X.env)).any (·.1)=false:=by exact aP rfl) :
  PE X (.Call (.Name x p) (e::es) [] pos) (aA X.K (aI mf n ga)):=by
 subst hn;let⟨f,fd,F,kp,B,M⟩:=F;exact JAe F hr hg M kp B ha Ar he hpl
def okN {P:A7}{w:AB}{K:AF}{mg:Td}{base:AD}{x:Str}{st:AJ}{N ps:Tn}{k:Nat}{b:FS}(d:bj K mg x st ps)(S:av N ps (ah st))
  (AQ:∀(f:A6) (AO:A5) (A:AH) (outer:A0 Env) (s:A4) (H:Hp) (E:XK),bF k (A.deeper (envOfC x (ah st) s.heap.objs.size f AO))->kM (gN iE P w K mg base N x (ah st) f AO A outer s H E).nox (bh st) (dI K b)) :
  b8 P w K mg base (k+1) x ps (jt N.length b):=by
 let⟨f,fd,F,B,M⟩:=d.ex;exact{f,fd,lj.okN F S (AQ f),F.kp,B,M}
def cn {X:Cx}{k:Nat}{x:Str}{ps:Tn}{mf:MC}{e:AG}{es:Tk}{ga:FA}{p pos:Pos}{n:Nat}(F:b8 X.prog X.w X.K X.mg X.base k x ps mf)(hr:bF k X.A)(ha:PA X (e::es) (gF X.K ga))(hg:Gl X x:=by rfl)(hn:ps.length=n:=by rfl)
  (Ar:(x == ("__debug__" : Str))=false:=by decide) (he:m8 e es X:=by exact aB rfl) (hpl:(backTo pos (starEach es X.env)).any (·.1)=false:=by exact aP rfl) :
  PE X (.Call (.Name x p) (e::es) [] pos) (aA X.K (cj mf n ga)):=by
 subst hn;let⟨f,fd,F,kp,B,M⟩:=F;exact PE.imp (nY (b0.borN F ps.length) hr hg M kp B .nil ph ha Ar he hpl) uX
def okW {P:A7}{w:AB}{K:AF}{mg:Td}{base:AD}{x:Str}{st:AJ}{N ps:Tn}{k:Nat}{b:FS}(d:bj K mg x st ps)(S:av N ps (ah st))
  (AQ:∀(f:A6) (AO:A5) (A:AH) (outer:A0 Env) (s:A4) (H:Hp) (E:XK),bF k (A.deeper (envOfC x (ah st) s.heap.objs.size f AO))->kM (gN iE P w K mg base N x (ah st) f AO A outer s H E).nox (bh st) (dI K b)) :
  kO P w K mg base (k+1) x ps (iY N.length b):=by
 let⟨f,fd,F,B,M⟩:=d.ex;exact{f,fd,lj.okW F S (AQ f),F.kp,B,M}
def xI {P:A7}{w:AB}{K:AF}{mg:Td}{base:AD}{nm qual:Str}{C:A6}{st:AJ}{N ps:Tn}{k:Nat}{b:FS}(d:fU K C nm qual st ps)(S:av N ps (ah st))
  (AQ:∀(f:A6) (AO:A5) (A:AH) (outer:A0 Env) (s:A4) (H:Hp) (E:XK),bF k (A.deeper (envOfC qual (ah st) s.heap.objs.size f AO))->kM (gN iE P w K mg base N qual (ah st) f AO A outer s H E).nox (bh st) (dI K b)) :
  bS P w K mg base (k+1) nm C ps (iY N.length b):=by
 let⟨f,fd,F,B,M⟩:=d.ex;exact{f,fd,lj.okW F S (AQ f),B,M}
def jw {X:Cx}{k:Nat}{x:Str}{ps:Tn}{mf:MW}{e:AG}{es:Tk}{ga:FA}{p pos:Pos}{n:Nat}(F:kO X.prog X.w X.K X.mg X.base k x ps mf)(hr:bF k X.A)(ha:PA X (e::es) (gF X.K ga))(hg:Gl X x:=by rfl)(hn:ps.length=n:=by rfl)
  (Ar:(x == ("__debug__" : Str))=false:=by decide) (he:m8 e es X:=by exact aB rfl) (hpl:(backTo pos (starEach es X.env)).any (·.1)=false:=by exact aP rfl) :
  PE X (.Call (.Name x p) (e::es) [] pos) (aA X.K (fN mf n ga)):=by
 subst hn;let⟨f,fd,F,kp,B,M⟩:=F;exact PE.imp (nY F hr hg M kp B .nil ph ha Ar he hpl) uW
def b5 {X:Cx}{k:Nat}{c nm:Str}{C:A6}{ps:Tn}{mf:MW}{o:AG}{fo:FE}{apos pos:Pos}{n:Nat}{pl:Sem A9}(N:jK X.K X.mg c C)(F:bS X.prog X.w X.K X.mg X.base k nm C ps mf)(hr:bF k X.A)(ho:PE X o (aA X.K fo))(hn:ps.length=n:=by rfl)
  (ht:eval (.Call (.Attribute o nm apos) [] [] pos) X.env=(do
   let ov ←eval o X.env
   standAt apos.atName
   let (mth,first) ←holding [ov] (getMethod ov nm pl)
   callWith pos mth first (backTo pos (starEach [] X.env)) (backToKw pos (keywordEach [] X.env))):=by rfl) :
  PE X (.Call (.Attribute o nm apos) [] [] pos) (aA X.K (cq c nm mf n fo aj)):=by
 subst hn;let⟨f,fd,F,B,M⟩:=F;exact PE.imp (vj ho N.cl M F hr B .nil ph ht) λh=>u0 (wX N h) λx H1 ⟨a,dx,fs,e,ea,l,t⟩=>{a,dx,fs,e,ea,l,uS t}
def nW {X:Cx}{k:Nat}{c:Str}{C:A6}{ps:Tn}{mf:MW}{e:AG}{es:Tk}{ga:FA}{p pos:Pos}{n:Nat}(N:jK X.K X.mg c C)(hk:PySem.W.makesIn X.K C=true)(hp:PySem.W.keepIn X.K (.ref C)=true)(F:bS X.prog X.w X.K X.mg X.base k "__init__" C ps mf)(hr:bF (k+1) X.A)(ha:PA X (e::es) (gF X.K ga))(hg:Gl X c:=by rfl)(hn:ps.length=n:=by rfl)
  (Ar:(c == ("__debug__" : Str))=false:=by decide) (he:m8 e es X:=by exact aB rfl) (hpl:(backTo pos (starEach es X.env)).any (·.1)=false:=by exact aP rfl):PE X (.Call (.Name c p) (e::es) [] pos) (aA X.K (lX c mf n ga)):=by
 subst hn;let⟨f,fd,F,B,M⟩:=F;exact PE.imp (xx {hk,M.at_,M.fn,hp} F hr hg N.mg B .nil ph ha Ar he hpl) (uT N)
def fX {X:Cx}{b:Tl}:kM X b (dI X.K cu):=λA1 s Y H D I h=>by let⟨O,U,m,out,hl,hs,e,k⟩:=h;cases e
end R
def jC {K:AF}{T:String}(h1:PySem.W.kitOne K (.type "NoneType") (.type T)=some ("NoneType" == T || ("NoneType" == "bool" && T == "int")))
  (h2:PySem.W.kitOne K (.type "bool") (.type T)=some ("bool" == T || ("bool" == "bool" && T == "int"))) (h3:PySem.W.kitOne K (.type "int") (.type T)=some ("int" == T || ("int" == "bool" && T == "int")))
  (h4:PySem.W.kitOne K (.type "str") (.type T)=some ("str" == T || ("str" == "bool" && T == "int"))) (h5:PySem.W.kitOne K (.type "tuple") (.type T)=some ("tuple" == T || ("tuple" == "bool" && T == "int")))
  (h6:PySem.W.kitOne K (.type "list") (.type T)=some ("list" == T || ("list" == "bool" && T == "int"))) (h7:PySem.W.kitOne K (.type "dict") (.type T)=some ("dict" == T || ("dict" == "bool" && T == "int"))):l8 K T:=λt ht=>by
 rwa[Ad,BL,or_false] at ht;rcases ht with rfl|rfl|rfl|rfl|rfl|rfl|rfl <;> assumption
def sT :l8 K "int":=jC rfl rfl rfl rfl rfl rfl rfl
def qt :l8 K "bool":=jC rfl rfl rfl rfl rfl rfl rfl
def eB :l8 K "str":=jC rfl rfl rfl rfl rfl rfl rfl
def fu :l8 K "tuple":=jC rfl rfl rfl rfl rfl rfl rfl
def tM:bootBuiltins "int" = some (.type "int"):=by decide
def qN:bootBuiltins "bool" = some (.type "bool"):=by decide
def eC:bootBuiltins "str" = some (.type "str"):=by decide
def fA:bootBuiltins "tuple" = some (.type "tuple"):=by decide
def BJ {H:Hp}{a:A6}{ns:Ti}{mf:MF}(hO:wj H)(hS:io K H a (ns.map V.int))(h:mf [.fl (ns.map .int)]=some (.bl true)):wK K 1 mf [.ref a] H (λv _=>v=.bl true) λ_ _ _=>False:=by
 refine{_,_,rfl,?_,h,λv H' _ r=>by simpa only[al] using r};have rInts:∀{ns:Ti},RelDs K H (ns.map .int) (ns.map V.int):=λ{ns}=>by
  induction ns with
  |nil=>rwa[Bj,RelDs]
  |cons n ns ih=>rwa[An,RelDs];exact{_,_,rfl,by rwa[al],ih}
 rwa[RelDs];refine{_,_,rfl,?_,rfl};rwa[al];refine{a,_,rfl,?_,rInts};rcases hS with(hS|⟨o,hS⟩)|hS
 ·rcases hO a with z|⟨o,xs,z⟩ <;> rw[hS] at z <;> cases z
 ·exact .inl {o,hS}
 ·exact .inr (.inr hS)
namespace R
end R
@[irreducible] def ZE (X:Cx)(e:AG)(t:TE):Prop:=L2.PE X e t
@[irreducible] def ZT (X:Cx)(e:AG)(t:TT):Prop:=L2.PT X e t
@[irreducible] def ZW (X:Cx)(e:AG)(t:TT):Prop:=L2.PW X e t
@[irreducible] def ZA (X:Cx)(e:Tk)(t:TA):Prop:=L2.PA X e t
@[irreducible] def ZS (X:Cx)(e:AJ)(t:TS):Prop:=L2.PS X e t
@[irreducible] def tX (X:Cx)(e:Tl)(t:TS):Prop:=L2.kM X e t
@[irreducible] def ZG (X:Cx)(e:AG)(t:TG):Prop:=L2.PG X e t
@[irreducible] def Ga (X:Cx)(e:Tk)(t:wt):Prop:=L2.wu X e t
@[irreducible] def ZO (X:Cx)(e:Jo AG)(t:TO):Prop:=L2.PO X e t
@[irreducible] def EQ (X:Cx)(e:Tk)(t:TT):Prop:=HW.oF X e t
@[irreducible] def ZI (X:Cx)(tg iter:AG)(t:TI):Prop:=L2.PI X tg iter t
section
variable {X:Cx}{a b e:AG}{es:Tk}{fa fb:FE}{ga:FA}{pos p p2:Pos}{x:Str}
def af (i:Nat)(hN:X.N[i]?=some x:=by rfl)(hv:Gb X.env.scope x:=by first|exact Or.inl rfl|exact Or.inr (Or.inl rfl)|exact Or.inr (Or.inr rfl))(hd:(x == ("__debug__" : Str))=false:=by decide)
  (CA:(x == ("__classdict__" : Str))=false:=by decide):ZE X (.Name x pos) (aA X.K (ag i)):=by
 exists PE.imp (JCj hN hv hd CA) JAj
def am {i j}:ZE X (.Constant (.int i) j pos) (aA X.K (fK (.int i))):=by exists R.am
def xk {i j}:ZE X (.Constant (.bool i) j pos) (aA X.K (fK (.bl i))):=by exists PE.imp JDv (ju λ_ _=>by rwa[ao,al])
def aF {i j}:ZE X (.Constant (.str i) j pos) (aA X.K (fK (.str i))):=by exists PE.imp JCl (ju λ_ _=>by rwa[ao,al])
def aT (ha:ZE X a (aA X.K fa))(hb:ZE X b (aA X.K fb)):ZE X (.BinOp a .Add b pos) (aA X.K (aK bH fa fb)):=by exists PE.imp (lI ((JBs.or (qg.or (xE.or JBr))).or xG) ha hb) (gE JBn)
def ng (ha:ZE X a (aA X.K fa))(hb:ZE X b (aA X.K fb)):ZE X (.BinOp a .Sub b pos) (aA X.K (aK nR fa fb)):=by exists PE.imp (lI JCu ha hb) (gE JDe)
def ni (ha:ZE X a (aA X.K fa))(hb:ZE X b (aA X.K fb)):ZE X (.BinOp a .Mult b pos) (aA X.K (aK mG fa fb)):=by exists PE.imp (lI JCx ha hb) (gE Ea)
def JDp (ha:ZE X a (aA X.K fa))(hb:ZE X b (aA X.K fb)):ZE X (.BinOp a .FloorDiv b pos) (aA X.K (aK v3 fa fb)):=by exists PE.imp (lI xD ha hb) (gE Ej)
def kB (ha:ZE X a (aA X.K fa))(hb:ZE X b (aA X.K fb)):ZE X (.BinOp a .Mod b pos) (aA X.K (aK kX fa fb)):=by exists PE.imp (lI JCy ha hb) (gE Eb)
def nh (ha:ZE X a (aA X.K fa))(hb:ZE X b (aA X.K fb)):ZE X (.BinOp a .Pow b pos) (aA X.K (aK j5 fa fb)):=by exists PE.imp (lI JCv ha hb) (gE JDh)
def fZ (ha:ZE X a (aA X.K fa)):ZE X (.UnaryOp .USub a pos) (aA X.K (d9 dA fa)):=by exists R.fZ ha
def JDm (ha:ZE X a (aA X.K fa)):ZE X (.UnaryOp .Not a pos) (aA X.K (yb fa)):=by exists PE.imp (JCn ha) JAr
def A3 (hu:X.A.units+64<cLine)(ha:ZE X a (aA X.K fa))(hb:ZE X b (aA X.K fb)):ZE X (.Compare a [.Eq] [b] pos) (aA X.K (aK (gM false) fa fb)):=by exists PE.imp (rB (vt hu) ha hb (j8 _)) (gE B4)
def rk {rest:Tk}(ha:ZE X a (aA X.K fa))(hb:ZE X (.BoolOp .And (b::rest) pos) (aA X.K fb)):ZE X (.BoolOp .And (a::b::rest) pos) (aA X.K (qH fa fb)):=by exists PE.imp (JCt ha hb) JA2
def va {op}(ha:ZE X a (aA X.K fa)):ZE X (.BoolOp op [a] pos) (aA X.K fa):=by exists JCm ha
def ai:ZA X [] (gF X.K aj):=by exists PA.imp lJ uS
def ab (ha:ZE X e (aA X.K fa))(hr:ZA X es (gF X.K ga))(hs:m8 e es X:=by exact aB rfl):ZA X (e::es) (gF X.K (ae fa ga)):=by exists PA.imp (iu ha hr hs) xc
def dL {x1}(h:ZA X es (gF X.K ga)):ZE X (.Tuple es x1 pos) (aA X.K (dS ga)):=by exists PE.imp (JCk h) JAk
def fq (h:ZA X es (gF X.K ga)):ZE X (.List es pos) (aA X.K (ic ga)):=by exists PE.imp (JCp h) JAt
def aJ (ha:ZE X a (aA X.K fa)):ZE X a (aA X.K (bg fa)):=by exists PE.imp (vm ha) zw
def e8 (ha:ZE X a (aA X.K fa))(hb:ZE X b (aA X.K fb))(hs:r9 b:=by intro _ _;rfl):ZE X (.Subscript a b pos) (aA X.K (aK gL fa fb)):=by exists PE.imp (JDu JB1 ha hb hs) (gE GI)
def AZ:ZO X none (sy X.K kC):=by exists PO.imp xt uR
def vb (ha:ZE X a (aA X.K fa)):ZO X (some a) (sy X.K (jA fa)):=by exists R.vb ha
def DF {lo hi:Jo AG}{fl fh:FO}(ha:ZE X a (aA X.K fa))(hl:ZO X lo (sy X.K fl))(hh:ZO X hi (sy X.K fh)):ZE X (.Subscript a (.Slice lo hi none p2) pos) (aA X.K (Cc fa fl fh)):=by exists PE.imp (pc JBb ha hl hh) Dl
def eM (hg:Gl X "len")(hm:X.mg "len" = none)(ha:ZA X (e::es) (gF X.K ga))(he:m8 e es X:=by exact aB rfl)(hpl:(backTo pos (starEach es X.env)).any (·.1)=false:=by exact aP rfl) :
  ZE X (.Call (.Name "len" p) (e::es) [] pos) (aA X.K (eV eR ga)):=by
 exists PE.imp (f6 oB hg hm PySem.boot_len ha (he:=he) (hpl:=hpl)) (kA Ee)
def JDn (hc:X.calm=true)(hg:Gl X "min")(hm:X.mg "min" = none)(ha:ZA X (e::es) (gF X.K ga))(he:m8 e es X:=by exact aB rfl)(hpl:(backTo pos (starEach es X.env)).any (·.1)=false:=by exact aP rfl) :
  ZE X (.Call (.Name "min" p) (e::es) [] pos) (aA X.K (eV vz ga)):=by
 exists PE.imp (f6 (tI hc) hg hm ∅ ha (he:=he) (hpl:=hpl)) (kA Ec)
def zF (hc:X.calm=true)(hg:Gl X "max")(hm:X.mg "max" = none)(ha:ZA X (e::es) (gF X.K ga))(he:m8 e es X:=by exact aB rfl)(hpl:(backTo pos (starEach es X.env)).any (·.1)=false:=by exact aP rfl) :
  ZE X (.Call (.Name "max" p) (e::es) [] pos) (aA X.K (eV mH ga)):=by
 exists PE.imp (f6 (tJ hc) hg hm ∅ ha (he:=he) (hpl:=hpl)) (kA Ed)
def j4 (hg:Gl X "str")(hm:X.mg "str" = none)(ha:ZA X (e::es) (gF X.K ga))(he:m8 e es X:=by exact aB rfl)(hpl:(backTo pos (starEach es X.env)).any (·.1)=false:=by exact aP rfl) :
  ZE X (.Call (.Name "str" p) (e::es) [] pos) (aA X.K (eV mz ga)):=by
 exists PE.imp (j6 oy hg hm ∅ ha (he:=he) (hpl:=hpl)) (kA JDf)
def gl {d:D}(h:dG X.K X.mg x d)(hg:Gl X x:=by rfl)(hd:(x == ("__debug__" : Str))=false:=by decide):ZE X (.Name x pos) (aA X.K (fK d)):=by exists R.gl h hg hd
def jv (hg:Gl X "tuple")(hm:X.mg "tuple" = none)(ha:ZA X (e::es) (gF X.K ga))(he:m8 e es X:=by exact aB rfl)(hpl:(backTo pos (starEach es X.env)).any (·.1)=false:=by exact aP rfl) :
  ZE X (.Call (.Name "tuple" p) (e::es) [] pos) (aA X.K (eV nQ ga)):=by
 exists PE.imp (j6 mQ hg hm ∅ ha (he:=he) (hpl:=hpl)) (kA JDd)
def JDq (hc:X.calm=true)(hg:Gl X "all")(hm:X.mg "all" = none)(ha:ZA X (e::es) (gF X.K ga))(he:m8 e es X:=by exact aB rfl)(hpl:(backTo pos (starEach es X.env)).any (·.1)=false:=by exact aP rfl) :
  ZE X (.Call (.Name "all" p) (e::es) [] pos) (aA X.K (eV (we false) ga)):=by
 exists PE.imp (f6 (tL hc) hg hm PyProof.Rows.boot_all ha (he:=he) (hpl:=hpl)) (kA El)
def gG {T:String}{y:Str}(hT:l8 X.K T)(hg:Gl X "isinstance")(hm:X.mg "isinstance" = none)(hgT:Gl X y)(hmT:X.mg y=none)(hvT:bootBuiltins y=some (.type T))(ha:ZE X e (aA X.K fa))(hn:y≠"__name__":=by decide)(Ar:(y == ("__debug__" : Str))=false:=by decide)
  (he:starEach (e::[.Name y p2]) X.env=(false,eval e X.env)::starEach [.Name y p2] X.env:=by exact aB rfl) (hpl:(backTo pos (starEach [.Name y p2] X.env)).any (·.1)=false:=by rfl) :
  ZE X (.Call (.Name "isinstance" p) [e,.Name y p2] [] pos) (aA X.K (d9 (cD T) fa)):=by
 exists PE.imp (f6 (v9 hT) hg hm ∅ (iu ha (iu (xz (v:=.ty T) hgT hmT hvT rfl hn Ar) lJ rfl) he) (he:=he) (hpl:=hpl)) JAu
def fe (ha:ZE X a (aA X.K fa))(he:∀whole,isTrue a X.env whole=(do let v ←whole;standAt a.pos;holding [v] (truthy v)):=by intro _;rfl):ZT X a (fm X.K (eU fa)):=by exists PT.imp (vd ha he) AC
def Aj (ha:ZE X a (aA X.K fa))(hb:ZE X b (aA X.K fb)):ZT X (.Compare a [.Lt] [b] pos) (fm X.K (fB (aK BI fa fb))):=by exists R.oW JDw GH ha hb (j8 _)
def wF (ha:ZE X a (aA X.K fa))(hb:ZE X b (aA X.K fb)):ZT X (.Compare a [.Gt] [b] pos) (fm X.K (fB (aK vQ fa fb))):=by exists R.oW JDx GJ ha hb (j8 _)
def fF (hu:X.A.units+64<cLine)(ha:ZE X a (aA X.K fa))(hb:ZE X b (aA X.K fb)):ZT X (.Compare a [.Eq] [b] pos) (fm X.K (fB (aK (gM false) fa fb))):=by exists R.oW (vt hu) B4 ha hb (j8 _)
def wE (hu:X.A.units+64<cLine)(ha:ZE X a (aA X.K fa))(hb:ZE X b (aA X.K fb)):ZT X (.Compare a [.NotEq] [b] pos) (fm X.K (fB (aK (gM true) fa fb))):=by exists R.oW (JCw hu) B4 ha hb (j8 _)
def JC0 {j}(ha:ZE X a (aA X.K fa)):ZT X (.Compare a [.Is] [.Constant .none j p] pos) (fm X.K (fB (d9 (Cs false .non) fa))):=by exists R.Ge (.inl {rfl,rfl}) vq ha JCo (j8 _)
variable {ta tb:FT}{rest:Tk}
def ky (ha:ZT X a (fm X.K ta)):ZT X (.UnaryOp .Not a pos) (fm X.K (fW ta)):=by exists PT.imp (JAi ha) wT
def qV (ha:ZT X a (fm X.K ta))(hb:ZW X (.BoolOp .And (b::rest) pos) (fm X.K tb)):ZW X (.BoolOp .And (a::b::rest) pos) (fm X.K (gR ta tb)):=by exists PW.imp (JAg ha hb) wU
def sh (ha:ZT X a (fm X.K ta))(hb:ZW X (.BoolOp .Or (b::rest) pos) (fm X.K tb)):ZW X (.BoolOp .Or (a::b::rest) pos) (fm X.K (my ta tb)):=by exists PW.imp (JDr ha hb) JAl
def pT (ha:ZT X a (fm X.K ta)):ZW X (.BoolOp .And [a] pos) (fm X.K ta):=by exists xl ha
def oK (ha:ZT X a (fm X.K ta)):ZW X (.BoolOp .Or [a] pos) (fm X.K ta):=by exists JAf ha
def y4 (h:ZW X a (fm X.K ta)):ZT X a (fm X.K ta):=by exists h.pt
def Go {c:AG}(hc:ZT X c (fm X.K ta))(ha:ZE X a (aA X.K fa))(hb:ZE X b (aA X.K fb)):ZE X (.IfExp c a b pos) (aA X.K (Fm ta fa fb)):=by exists PE.imp (vk hc ha hb) Dn
variable {st:AJ}{sts aa bb:Tl}{sa sb:FS}{c tg iter:AG}
def bB:tX X [] (dI X.K bu):=by exists kM.imp xn wW
def ap (h1:ZS X st (dI X.K sa))(h2:tX X sts (dI X.K sb)):tX X (st::sts) (dI X.K (aN sa sb)):=by exists kM.imp (ve h1 h2) JAo
def aq (h1:ZS X st (dI X.K sa)):tX X [st] (dI X.K sa):=by exists xm h1
def di:ZS X st (dI X.K cu):=by exists R.di
def eK (he:ZE X e (aA X.K fa))(hs:swapsWith e none pos.line X.env=pure false:=by rfl):ZS X (.Expr e pos) (dI X.K (d8 fa)):=by exists PS.imp (xo he hs) xb
def aL (he:ZE X e (aA X.K fa)):ZS X (.Return (some e) pos) (dI X.K (aZ fa)):=by exists PS.imp (JCb he) JAp
def b6 (hc:ZT X c (fm X.K ta))(ha:tX X aa (dI X.K sa))(hb:tX X bb (dI X.K sb)):ZS X (.If c aa bb pos) (dI X.K (fI ta sa sb)):=by exists PS.imp (JDs hc ha hb) JAv
def bD (i:Nat){pos':Pos}(hN:X.N.Nodup)(he:ZE X e (aA X.K fa))(hi:X.N[i]?=some x:=by rfl)(hx:Cu X.env.scope x:=by first|exact Or.inl rfl|exact Or.inr rfl)(hs:swapsWith e (some (.Name x pos')) pos.line X.env=pure false:=by rfl)(hf:X.fn x=true\/X.env.scope.names.lookup x=some .local:=by first|exact .inl rfl|exact .inr rfl) :
  ZS X (.Assign [.Name x pos'] e pos) (dI X.K (cr i fa)):=by
 exists PS.imp (JCa hN hi hx he hs hf) JAn
variable {g:FG}{gs:zR}{fi:FI}
def iG (i:Nat)(hN:X.N.Nodup)(hi:X.N[i]?=some x:=by rfl)(hx:Cu X.env.scope x:=by first|exact Or.inl rfl|exact Or.inr rfl)(hf:X.fn x=true\/X.env.scope.names.lookup x=some .local:=by first|exact .inl rfl|exact .inr rfl):ZG X (.Name x pos) (o6 X.K (iw i)):=by exists PG.imp (xw hN hi hx hf) JAz
def JB8:Ga X [] (o5 X.K pH):=by exists wu.imp xv uU
def rN (h1:ZG X e (o6 X.K g))(h2:Ga X es (o5 X.K gs))(hs:(assignEach (e::es) X.env).map (·.2)=assign e X.env::(assignEach es X.env).map (·.2):=by exact pN rfl):Ga X (e::es) (o5 X.K (ja g gs)):=by exists wu.imp (vh h1 h2 hs) sx
def GG {k n:Nat}(hc:X.calm=true)(h:Ga X es (o5 X.K gs))(hn:(assignEach es X.env).length=n:=by rfl)(hst:(assignEach es X.env).findIdx? (·.1)=none:=by rfl):ZG X (.Tuple es k pos) (o6 X.K (Ct n gs)):=by exists PG.imp (JCg hc h hn hst) JAy
def xY (hu : X.A.units + 64 < cLine) (ha : ZE X a (aA X.K fa)) (hb : ZE X b (aA X.K fb)) (hq : ∀ v, assign (.Subscript a b pos) X.env v = (do
      let ov ← holding [v] (eval a X.env)
      let iv ← holding [v, ov] (eval b X.env)
      standAt pos
      holding [v, ov, iv] (setItem ov iv v)
      release [v, ov, iv] []) := by intro _; rfl) : ZG X (.Subscript a b pos) (o6 X.K (jb fa fb)) := by
  exists PG.imp (JCh ha hb (pP.or uK (uL ∅)) hq) w6
def kK (ha:ZE X a (aA X.K fa)):ZI X tg a (uZ X.K (hZ fa)):=by exists PI.imp (xu (vm ha)) wZ
def tu (hg:Gl X "range")(hm:X.mg "range" = none)(ha:ZE X a (aA X.K fa))(hs:starEach [a] X.env=[(false,eval a X.env)]:=by exact aB rfl):ZI X tg (.Call (.Name "range" p) [a] [] pos) (uZ X.K (oo fa)):=by exists PI.imp (sF hg hm (ab ha ai hs) hs) JAx
def kz (hc:X.calm=true)(hi:ZI X tg iter (uZ X.K fi))(hg:ZG X tg (o6 X.K g))(hb:tX X aa (dI X.K sa))(hp:PassesOwn (model X.prog X.w) X.A X.env X.xe)(hs:∀x,foldedSetIterable iter X.env x=pure x:=by intro _;rfl):ZS X (.For tg iter aa [] pos) (dI X.K (kW fi g sa)):=by exists PS.imp (JCc hp hc hi hg hb hs) AT
def rc (he:ZE X e (aA X.K fa))(hg:ZG X tg (o6 X.K g))(hs:swapsWithSole [tg] e pos.line X.env=pure false:=by rfl)(hw:swappedStores [tg] e X.env=pure none:=by rfl)(h1:(assignEach [tg] X.env).map (·.2)=[assign tg X.env]:=by rfl):ZS X (.Assign [tg] e pos) (dI X.K (lG fa g)):=by exists PS.imp (JCe he hg hs hw h1) JA1
def lW:EQ X [] (fm X.K jG):=by exists R.oF.imp vf JBi
def gm {ifs:Tk}{scope:Scope}(ix:A0 Nat)(own caps:Tn)(hc:X.calm=true)(n:bp X.env.scope scope own caps)(hi:ZI X tg iter (uZ X.K fi))
  (hb:∀cl C s₂ H₂ fp,ZG (bi X scope cl C s₂ H₂ fp (own++caps)) tg (o6 X.K g)/\EQ (bi X scope cl C s₂ H₂ fp (own++caps)) ifs (fm X.K ta)/\ZE (bi X scope cl C s₂ H₂ fp (own++caps)) e (aA X.K fa))
  (BQ:ix.map (λi=>X.N[i]?)=caps.map some:=by rfl)
  (hs:∀x,foldedSetIterable iter X.env x=pure x:=by intro _;rfl):ZE X (.ListComp e [{tg,iter,ifs,0}] scope pos) (aA X.K (gJ ix own.length fi g ta fa)):=by
 exists R.gm ix own caps hc n hi hb BQ hs
end
def okP {P:A7}{w:AB}{K:AF}{mg:Td}{base:AD}{x:Str}{st:AJ}{N ps:Tn}{k:Nat}{b:FS}(d:bj K mg x st ps)(S:av N ps (ah st))
  (AQ:∀(f:A6) (AO:A5) (A:AH) (outer:A0 Env) (s:A4) (H:Hp) (E:XK),bF k (A.deeper (envOfC x (ah st) s.heap.objs.size f AO))->tX (gN iE P w K mg base N x (ah st) f AO A outer s H E).nox (bh st) (dI K b)) :
  bz P w K mg base (k+1) x ps (ei N.length b):=by
 exists R.okP d S AQ
def ax {X:Cx}{k:Nat}{x:Str}{ps:Tn}{mf:MF}{e:AG}{es:Tk}{ga:FA}{p pos:Pos}{n:Nat}(F:bz X.prog X.w X.K X.mg X.base k x ps mf)(hr:bF k X.A)(ha:ZA X (e::es) (gF X.K ga))(hg:Gl X x:=by rfl)(hn:ps.length=n:=by rfl)
  (Ar:(x == ("__debug__" : Str))=false:=by decide) (he:m8 e es X:=by exact aB rfl) (hpl:(backTo pos (starEach es X.env)).any (·.1)=false:=by exact aP rfl) :
  ZE X (.Call (.Name x p) (e::es) [] pos) (aA X.K (aI mf n ga)):=by
 exists R.ax F hr ha hg hn Ar he hpl
def okN {P:A7}{w:AB}{K:AF}{mg:Td}{base:AD}{x:Str}{st:AJ}{N ps:Tn}{k:Nat}{b:FS}(d:bj K mg x st ps)(S:av N ps (ah st))
  (AQ:∀(f:A6) (AO:A5) (A:AH) (outer:A0 Env) (s:A4) (H:Hp) (E:XK),bF k (A.deeper (envOfC x (ah st) s.heap.objs.size f AO))->tX (gN iE P w K mg base N x (ah st) f AO A outer s H E).nox (bh st) (dI K b)) :
  b8 P w K mg base (k+1) x ps (jt N.length b):=by
 exists R.okN d S AQ
def cn {X:Cx}{k:Nat}{x:Str}{ps:Tn}{mf:MC}{e:AG}{es:Tk}{ga:FA}{p pos:Pos}{n:Nat}(F:b8 X.prog X.w X.K X.mg X.base k x ps mf)(hr:bF k X.A)(ha:ZA X (e::es) (gF X.K ga))(hg:Gl X x:=by rfl)(hn:ps.length=n:=by rfl)
  (Ar:(x == ("__debug__" : Str))=false:=by decide) (he:m8 e es X:=by exact aB rfl) (hpl:(backTo pos (starEach es X.env)).any (·.1)=false:=by exact aP rfl) :
  ZE X (.Call (.Name x p) (e::es) [] pos) (aA X.K (cj mf n ga)):=by
 exists R.cn F hr ha hg hn Ar he hpl
def okW {P:A7}{w:AB}{K:AF}{mg:Td}{base:AD}{x:Str}{st:AJ}{N ps:Tn}{k:Nat}{b:FS}(d:bj K mg x st ps)(S:av N ps (ah st))
  (AQ:∀(f:A6) (AO:A5) (A:AH) (outer:A0 Env) (s:A4) (H:Hp) (E:XK),bF k (A.deeper (envOfC x (ah st) s.heap.objs.size f AO))->tX (gN iE P w K mg base N x (ah st) f AO A outer s H E).nox (bh st) (dI K b)) :
  kO P w K mg base (k+1) x ps (iY N.length b):=by
 exists R.okW d S AQ
def xI {P:A7}{w:AB}{K:AF}{mg:Td}{base:AD}{nm qual:Str}{C:A6}{st:AJ}{N ps:Tn}{k:Nat}{b:FS}(d:fU K C nm qual st ps)(S:av N ps (ah st))
  (AQ:∀(f:A6) (AO:A5) (A:AH) (outer:A0 Env) (s:A4) (H:Hp) (E:XK),bF k (A.deeper (envOfC qual (ah st) s.heap.objs.size f AO))->tX (gN iE P w K mg base N qual (ah st) f AO A outer s H E).nox (bh st) (dI K b)) :
  bS P w K mg base (k+1) nm C ps (iY N.length b):=by
 exists R.xI d S AQ
def jw {X:Cx}{k:Nat}{x:Str}{ps:Tn}{mf:MW}{e:AG}{es:Tk}{ga:FA}{p pos:Pos}{n:Nat}(F:kO X.prog X.w X.K X.mg X.base k x ps mf)(hr:bF k X.A)(ha:ZA X (e::es) (gF X.K ga))(hg:Gl X x:=by rfl)(hn:ps.length=n:=by rfl)
  (Ar:(x == ("__debug__" : Str))=false:=by decide) (he:m8 e es X:=by exact aB rfl) (hpl:(backTo pos (starEach es X.env)).any (·.1)=false:=by exact aP rfl) :
  ZE X (.Call (.Name x p) (e::es) [] pos) (aA X.K (fN mf n ga)):=by
 exists R.jw F hr ha hg hn Ar he hpl
def b5 {X:Cx}{k:Nat}{c nm:Str}{C:A6}{ps:Tn}{mf:MW}{o:AG}{fo:FE}{apos pos:Pos}{n:Nat}{pl:Sem A9}(N:jK X.K X.mg c C)(F:bS X.prog X.w X.K X.mg X.base k nm C ps mf)(hr:bF k X.A)(ho:ZE X o (aA X.K fo))(hn:ps.length=n:=by rfl)
  (ht:eval (.Call (.Attribute o nm apos) [] [] pos) X.env=(do
   let ov ←eval o X.env
   standAt apos.atName
   let (mth,first) ←holding [ov] (getMethod ov nm pl)
   callWith pos mth first (backTo pos (starEach [] X.env)) (backToKw pos (keywordEach [] X.env))):=by rfl) :
  ZE X (.Call (.Attribute o nm apos) [] [] pos) (aA X.K (cq c nm mf n fo aj)):=by
 exists R.b5 N F hr ho hn ht
def nW {X:Cx}{k:Nat}{c:Str}{C:A6}{ps:Tn}{mf:MW}{e:AG}{es:Tk}{ga:FA}{p pos:Pos}{n:Nat}(N:jK X.K X.mg c C)(hk:PySem.W.makesIn X.K C=true)(hp:PySem.W.keepIn X.K (.ref C)=true)(F:bS X.prog X.w X.K X.mg X.base k "__init__" C ps mf)(hr:bF (k+1) X.A)(ha:ZA X (e::es) (gF X.K ga))(hg:Gl X c:=by rfl)(hn:ps.length=n:=by rfl)
  (Ar:(c == ("__debug__" : Str))=false:=by decide) (he:m8 e es X:=by exact aB rfl) (hpl:(backTo pos (starEach es X.env)).any (·.1)=false:=by exact aP rfl):ZE X (.Call (.Name c p) (e::es) [] pos) (aA X.K (lX c mf n ga)):=by
 exists R.nW N hk hp F hr ha hg hn Ar he hpl
def nj {X:Cx}{c f:Str}{C:A6}{o:AG}{fo:FE}(N:jK X.K X.mg c C)(hf:c7 X.K C f)(ho:ZE X o (aA X.K fo))(hb:attributeBase o f X.env (eval o X.env)=eval o X.env:=by rfl):ZE X (.Attribute o f pos) (aA X.K (la c f fo)):=by exists PE.imp (JCr ho hb) (JA0 N hf)
def zr {X:Cx}{c f:Str}{C:A6}{o e:AG}{fo fv:FE}{pos pos':Pos}(N:jK X.K X.mg c C)(hf:c7 X.K C f)(ho:ZE X o (aA X.K fo))(hv:ZE X e (aA X.K fv))(hs:swapsWith e (some (.Attribute o f pos')) pos.line X.env=pure false:=by rfl):ZS X (.Assign [.Attribute o f pos'] e pos) (dI X.K (lF c f fo fv)):=by exists PS.imp (JCd ho hv hs) (wV N hf)
def JBd {X:Cx}{c f:Str}{C:A6}{o:AG}{fo:FE}{j:Int}{kk}{q pos pos':Pos}(N:jK X.K X.mg c C)(hf:c7 X.K C f)(ho:ZE X o (aA X.K fo))(hv:ZE X (.Constant (.int j) kk q) (aA X.K (fK (.int j)))):ZS X (.AugAssign (.Attribute o f pos') .Add (.Constant (.int j) kk q) pos) (dI X.K (oY c f fo j)):=by exists PS.imp (sC ho hv JB7) (xi N hf)
def JDl {X:Cx}{a:AG}{fa:FE}{p2 pos:Pos}{lo hi:Jo AG}{fl fh:FO}(ha:ZE X a (aA X.K fa))(hl:ZO X lo (sy X.K fl))(hh:ZO X hi (sy X.K fh)):ZE X (.Subscript a (.Slice lo hi none p2) pos) (aA X.K (ya fa fl fh)):=by exists PE.imp (pc JBa ha hl hh) JAm
def zG {X:Cx}{a b:AG}{fa fb:FE}(ha:ZE X a (aA X.K fa))(hb:ZE X b (aA X.K fb))(hs:pO b:=by intro _ _;rfl):ZE X (.Subscript a b pos) (aA X.K (aK BP fa fb)):=by exists PE.imp (pd ha hb hs) (gE Eg)
def JAb {X:Cx}{es:Tk}{ga:FA}{p pos:Pos}(hg:Gl X "len")(hm:X.mg "len" = none)(ha:ZA X (e::es) (gF X.K ga))(he:m8 e es X:=by exact aB rfl)(hpl:(backTo pos (starEach es X.env)).any (·.1)=false:=by exact aP rfl) :
  ZE X (.Call (.Name "len" p) (e::es) [] pos) (aA X.K (eV sS ga)):=by
 exists PE.imp (f6 oA hg hm PySem.boot_len ha (he:=he) (hpl:=hpl)) (kA JBj)
def JAc {X:Cx}{es:Tk}{ga:FA}{p pos:Pos}(hg:Gl X "int")(hm:X.mg "int" = none)(ha:ZA X (e::es) (gF X.K ga))(he:m8 e es X:=by exact aB rfl)(hpl:(backTo pos (starEach es X.env)).any (·.1)=false:=by exact aP rfl) :
  ZE X (.Call (.Name "int" p) (e::es) [] pos) (aA X.K (eV tq ga)):=by
 exists PE.imp (j6 tK hg hm ∅ ha (he:=he) (hpl:=hpl)) (kA JBl)
def JDo {X:Cx}{a b:AG}{fa fb:FE}(ha:ZE X a (aA X.K fa))(hb:ZE X b (aA X.K fb))(hm:behindInMarks .In b=false:=by rfl):ZE X (.Compare a [.In] [b] pos) (aA X.K (aK (BX false) fa fb)):=by exists PE.imp (rB sG ha hb hm) (gE Ei)
def Gp {X:Cx}{a b c:AG}{fa fb fc:FE}(ha:ZE X a (aA X.K fa))(hb:ZE X b (aA X.K fb))(hc:ZE X c (aA X.K fc))(hm:lastMarks [.LtE,.LtE] [b,c]=false:=by with_unfolding_all rfl):ZE X (.Compare a [.LtE,.LtE] [b,c] pos) (aA X.K (Fn Cr Cr fa fb fc)):=by exists PE.imp (vp zH zH ha hb hc hm) (Do Ef Ef)
def JDc {X:Cx}{tg a:AG}{fa:FE}(ha:ZE X a (aA X.K fa)):ZI X tg a (uZ X.K (rR fa)):=by exists PI.imp (JCf ha) wY
def Gn {X:Cx}{e o:AG}{fa fb:FE}{apos AP:Pos}(ho:ZE X o (aA X.K fa))(hb:ZE X e (aA X.K fb))(Aa:attributeBase o "startswith" X.env (eval o X.env)=eval o X.env:=by rfl)
  (Az:((backTo AP (starEach [e] X.env)).all (λx=>!x.1)&&(backToKw AP (keywordEach [] X.env)).all (λx=>x.1.isSome)
   && decide ([e].length+([]:A0 Keyword).length+(if ([]:A0 Keyword).isEmpty then 0 else 1)<30))=true:=by rfl)
  (AW:(apos.endLine == AP.line)=true:=by rfl) (hs:starEach [e] X.env=(false,eval e X.env)::starEach [] X.env:=by exact aB rfl) (AV:(backTo AP (starEach [] X.env)).any (·.1)=false:=by exact aP rfl) :
  ZE X (.Call (.Attribute o "startswith" apos) [e] [] AP) (aA X.K (GK fa fb)):=by
 exists PE.imp (pe PySem.F.plainAttrs_str PySem.F.slot_str_startswith PySem.F.type_str_startswith JD0 ho (iu hb lJ hs) Aa Az AW hs AV) JD4
def vc {X:Cx}{e o:AG}{fa fb:FE}{apos AP:Pos}(ho:ZE X o (aA X.K fa))(hb:ZE X e (aA X.K fb))(Aa:attributeBase o "join" X.env (eval o X.env)=eval o X.env:=by rfl)
  (Az:((backTo AP (starEach [e] X.env)).all (λx=>!x.1)&&(backToKw AP (keywordEach [] X.env)).all (λx=>x.1.isSome)
   && decide ([e].length+([]:A0 Keyword).length+(if ([]:A0 Keyword).isEmpty then 0 else 1)<30))=true:=by rfl)
  (AW:(apos.endLine == AP.line)=true:=by rfl) (hs:starEach [e] X.env=(false,eval e X.env)::starEach [] X.env:=by exact aB rfl) (AV:(backTo AP (starEach [] X.env)).any (·.1)=false:=by exact aP rfl) :
  ZE X (.Call (.Attribute o "join" apos) [e] [] AP) (aA X.K (aK lR fa fb)):=by
 exists PE.imp (pe PySem.F.plainAttrs_str PySem.F.slot_str_join PySem.F.type_str_join xK ho (iu hb lJ hs) Aa Az AW hs AV) (uY JBk)
def xj {X:Cx}{e o:AG}{fa fb:FE}{apos AP:Pos}(ho:ZE X o (aA X.K fa))(hb:ZE X e (aA X.K fb))(Aa:attributeBase o "split" X.env (eval o X.env)=eval o X.env:=by rfl)
  (Az:((backTo AP (starEach [e] X.env)).all (λx=>!x.1)&&(backToKw AP (keywordEach [] X.env)).all (λx=>x.1.isSome)
   && decide ([e].length+([]:A0 Keyword).length+(if ([]:A0 Keyword).isEmpty then 0 else 1)<30))=true:=by rfl)
  (AW:(apos.endLine == AP.line)=true:=by rfl) (hs:starEach [e] X.env=(false,eval e X.env)::starEach [] X.env:=by exact aB rfl) (AV:(backTo AP (starEach [] X.env)).any (·.1)=false:=by exact aP rfl) :
  ZE X (.Call (.Attribute o "split" apos) [e] [] AP) (aA X.K (aK qc fa fb)):=by
 exists PE.imp (pe PySem.F.plainAttrs_str PySem.F.slot_str_split PySem.F.type_str_split vx ho (iu hb lJ hs) Aa Az AW hs AV) (uY JDg)
def zb {X:Cx}{a b:AG}{fa fb:FE}(ha:ZE X a (aA X.K fa))(hb:ZE X b (aA X.K fb))(hm:behindInMarks .In b=false:=by rfl):ZT X (.Compare a [.In] [b] pos) (fm X.K (fB (aK (tt false) fa fb))):=by exists R.oW sH Eh ha hb hm
def nX {X:Cx}{a b:AG}{fa fb:FE}(ha:ZE X a (aA X.K fa))(hb:ZE X b (aA X.K fb)):ZE X (.BinOp a .Add b pos) (aA X.K (aK jH fa fb)):=by exists PE.imp (lI xF ha hb) (gE JBo)
def JDk {X:Cx}{a b:AG}{fa fb:FE}{p p2 pos BN:Pos}(hc:X.calm=true)(hg:Gl X "list")(hm:X.mg "list" = none)(hg2:Gl X "zip")(hm2:X.mg "zip" = none)(ha:ZE X a (aA X.K fa))(hb:ZE X b (aA X.K fb))(sa:i7 a=false:=by rfl)(sb:i7 b=false:=by rfl) :
  ZE X (.Call (.Name "list" p) [.Call (.Name "zip" p2) [a,b] [] BN] [] pos) (aA X.K (pI fa fb)):=by
 exists PE.imp (JCi hc hg hm hg2 hm2 (ab ha (ab hb ai (aB sb)) (aB sa)) (aB rfl) (aB sa) (aP (by simp[sb]))) JBh
def JAd {X:Cx}{x:Str}{p apos AP:Pos}{fa:FE}{l:A0 (Str×D)}(h:sf X.K X.w X.mg x l)(he:ZE X e (aA X.K fa))(m:M1 X (.Name x p) "get" apos e AP:=by exact{rfl,rfl,rfl,rfl})(hg:Gl X x:=by rfl)(hd:(x == ("__debug__" : Str))=false:=by decide):ZE X (.Call (.Attribute (.Name x p) "get" apos) [e] [] AP) (aA X.K (vW l fa)):=by exists PE.imp (xy h hg hd he m) xg
def fX {X:Cx}{b:Tl}:tX X b (dI X.K cu):=by exists R.fX
section
variable {X:Cx}{e o:AG}{es:Tk}{fa:FE}{ga:FA}{apos AP:Pos}
def nq (ho:ZE X o (aA X.K fa))(ha:ZA X (e::es) (gF X.K ga))(Aa:attributeBase o "append" X.env (eval o X.env)=eval o X.env:=by rfl)
  (Az:((backTo AP (starEach (e::es) X.env)).all (λx=>!x.1)&&(backToKw AP (keywordEach [] X.env)).all (λx=>x.1.isSome)
   && decide ((e::es).length+([]:A0 Keyword).length+(if ([]:A0 Keyword).isEmpty then 0 else 1)<30))=true:=by rfl)
  (AW:(apos.endLine == AP.line)=true:=by rfl) (hs:m8 e es X:=by exact aB rfl) (AV:(backTo AP (starEach es X.env)).any (·.1)=false:=by exact aP rfl) :
  ZE X (.Call (.Attribute o "append" apos) (e::es) [] AP) (aA X.K (nF lb fa ga)):=by
 exists PE.imp (pe PySem.F.plainAttrs_list PySem.F.slot_list_append PySem.F.type_list_append sL ho ha Aa Az AW hs AV) (zv Ek)
def u9 (ho:ZE X o (aA X.K fa))(Aa:attributeBase o "pop" X.env (eval o X.env)=eval o X.env:=by rfl)(AW:(apos.endLine == AP.line)=true:=by rfl) :
  ZE X (.Call (.Attribute o "pop" apos) [] [] AP) (aA X.K (nF g8 fa aj)):=by
 exists PE.imp (JCs PySem.F.plainAttrs_list PySem.F.slot_list_pop PySem.F.type_list_pop JBw ho Aa AW) (JAs JB9)
def nk (ho:ZE X o (aA X.K fa))(ha:ZA X (e::es) (gF X.K ga))(Aa:attributeBase o "extend" X.env (eval o X.env)=eval o X.env:=by rfl)
  (Az:((backTo AP (starEach (e::es) X.env)).all (λx=>!x.1)&&(backToKw AP (keywordEach [] X.env)).all (λx=>x.1.isSome)
   && decide ((e::es).length+([]:A0 Keyword).length+(if ([]:A0 Keyword).isEmpty then 0 else 1)<30))=true:=by rfl)
  (AW:(apos.endLine == AP.line)=true:=by rfl) (hs:m8 e es X:=by exact aB rfl) (AV:(backTo AP (starEach es X.env)).any (·.1)=false:=by exact aP rfl) :
  ZE X (.Call (.Attribute o "extend" apos) (e::es) [] AP) (aA X.K (nF oq fa ga)):=by
 exists PE.imp (pe PySem.F.plainAttrs_list PySem.F.slot_list_extend PySem.F.type_list_extend sK ho ha Aa Az AW hs AV) (zv JBm)
end
def JBp {P:A7}{w:AB}{K:AF}{mg:Td}{base:AD}{x qual:Str}{st:AJ}{f:A6}{fd:FuncData}{N ps:Tn}{k:Nat}{b:FS}(F:lj K x qual st f fd)(S:av N ps (ah st))
  (AQ:∀(AO:A5) (A:AH) (outer:A0 Env) (s:A4) (H:Hp) (E:XK),bF k (A.deeper (envOfC qual (ah st) s.heap.objs.size f AO))->tX (gN iE P w K mg base N qual (ah st) f AO A outer s H E).nox (bh st) (dI K b)) :
  b0 P w K mg base iE (k+1) f fd ps (wK K ps.length (ei N.length b)):=by
 exists lj.okP F S AQ
def Jt {P:A0 A5->Prop}(h:P []):∀us:Te,us.length=0->P us:=λus e=>by rw[List.length_eq_zero_iff.mp e];exact h
theorem Cw {P:A0 A5->Prop}{n:Nat}(h:∀a us,us.length=n->P (a::us)):∀us:Te,us.length=n+1->P us:=λus e=>by
 cases us with
 |nil=>cases e
 |cons a us=>exact h a us (Nat.succ.inj e)
def l9 {P:A0 A5->Prop}(h:∀a,P [a]):∀us:Te,us.length=1->P us:=Cw λa=>Jt (P:=λus=>P (a::us)) (h a)
def wn {P:A0 A5->Prop}(h:∀a b,P [a,b]):∀us:Te,us.length=2->P us:=Cw λa=>l9 (P:=λus=>P (a::us)) (h a)
def Cy {P:A0 A5->Prop}(h:∀a b c,P [a,b,c]):∀us:Te,us.length=3->P us:=Cw λa=>wn (P:=λus=>P (a::us)) (h a)
def Iv {P:A0 A5->Prop}(h:∀a b c d,P [a,b,c,d]):∀us:Te,us.length=4->P us:=Cw λa=>Cy (P:=λus=>P (a::us)) (h a)
def Js {P:A0 A5->Prop}(h:∀a b c d e,P [a,b,c,d,e]):∀us:Te,us.length=5->P us:=Cw λa=>Iv (P:=λus=>P (a::us)) (h a)
section
variable {K:AF}{h:AD}{mg:Td}{x:Str}{st:AJ}{ps:Tn}
def FK (K:AF)(x:Str)(st:AJ):Prop:=∃f:A6,PySem.W.nsIn K mainGlobals x=some (some (.ref f))/\∃(oc:A5) (od:Jo A6) (kV dc pm:A5) (an:Jo A6) (cd ct:A5) (sl:AN (Tg)),
 K.lookup f=some {oc,od,.func (PySem.W.fnOf x x (ek st) (bh st) (ah st) .none kV dc pm an cd ct),sl}/\PySem.W.codeIn K cd x=true/\PySem.W.keepIn K (.ref f)=true
abbrev zS (x:Str)(st:AJ)(ps:Tn):Prop:=∀(kV doc pm:A5) (an:Jo A6) (AO ct:A5) (us:Te),us.length=ps.length->bindArgs (PySem.W.fnOf x x (ek st) (bh st) (ah st) .none kV doc pm an AO ct) {us,[]}=pure (ps.zip us)
def FK.at_ (a:FK K x st)(X:K.In h)(G:h.Ns mainGlobals mg)(hb:zS x st ps):bj K mg x st ps:=by let⟨f,a,oc,od,kV,dc,pm,an,cd,ct,sl,l,c,k⟩:=a;have F:=qE l c k;exact{_,_,F,F.binds hb,D8 X G a}
def yv (K:AF)(C:A6)(nm qual:Str)(st:AJ):Prop:=∃f:A6,PySem.W.findIn K (.ref C) nm=some (some (.ref f))/\PySem.W.isFn K (.ref f)=true/\∃(oc:A5) (od:Jo A6) (kV dc pm:A5) (an:Jo A6) (cd ct:A5) (sl:AN (Tg)),
 K.lookup f=some {oc,od,.func (PySem.W.fnOf nm qual (ek st) (bh st) (ah st) .none kV dc pm an cd ct),sl}/\PySem.W.codeIn K cd qual=true/\PySem.W.keepIn K (.ref f)=true
def yv.at_ {C:A6}{nm qual:Str}(a:yv K C nm qual st)(hb:∀(kV doc pm:A5) (an:Jo A6) (AO ct:A5) (us:Te),us.length=ps.length->bindArgs (PySem.W.fnOf nm qual (ek st) (bh st) (ah st) .none kV doc pm an AO ct) {us,[]}=pure (ps.zip us)):fU K C nm qual st ps:=by let⟨f,a,i,oc,od,kV,dc,pm,an,cd,ct,sl,l,c,k⟩:=a;have F:=qE l c k;exact{_,_,F,F.binds hb,{a,i,k}}
def FK.law {fa:A6}(a:FK K x st)(X:K.In h)(G:h.Ns mainGlobals mg)(e:mg x=some (.ref fa))(hb:zS x st ps):∃fd,lj K x x st fa fd/\∀(s:A4) (us:Te),us.length=ps.length->BindsTo s fd {us,[]} (ps.zip us):=by let⟨f,a,oc,od,kV,dc,pm,an,cd,ct,sl,l,c,k⟩:=a;have:=e.symm.trans (D8 X G a);cases this;exact{_,qE l c k,λs us hl=>.of_eq (hb _ _ _ _ _ _ us hl)}
end
end HW
namespace HW
open L2
section
variable {O:Lo}{U:ac}{x y:R}{d:D}
def IJ {O:Lo}:ag 0 (some x::O) U=some (x,U):=rfl
def IH {i:Nat}{o:Jo R}{O:Lo}:ag (i+1) (o::O) U=ag i O U:=by simp[ag]
def JG:fK d O U=some (.v d,U):=rfl
noncomputable def CP (o:Jo (R×ac))(g:R->R->ac->Jo (R×ac))(fb:FE)(O:Lo):Jo (R×ac):=o.bind λa=>(fb O a.2).bind λb=>g a.1 b.1 b.2
noncomputable def yN (x:R)(o:Jo (R×ac))(g:R->R->ac->Jo (R×ac)):Jo (R×ac):=o.bind λb=>g x b.1 b.2
def IR {g fa fb}:aK g fa fb O U=CP (fa O U) g fb O:=rfl
def G9 {g fb}:CP (some (x,U)) g fb O=yN x (fb O U) g:=rfl
def G8 {g}:yN x (some (y,U)) g=g x y U:=rfl
noncomputable def CI (o:Jo (R×ac))(g:R->ac->Jo (R×ac)):Jo (R×ac):=o.bind λa=>g a.1 a.2
def IL {g fa}:d9 g fa O U=CI (fa O U) g:=rfl
def GS {g}:CI (some (x,U)) g=g x U:=rfl
def Hc:aj O U=some ([],U):=rfl
noncomputable def uu (o:Jo (R×ac))(fr:FA)(O:Lo):Jo (A0 R×ac):=o.bind λa=>(fr O a.2).bind λr=>some (a.1::r.1,r.2)
noncomputable def qX (x:R)(o:Jo (A0 R×ac)):Jo (A0 R×ac):=o.bind λr=>some (x::r.1,r.2)
def FV {fa fr}:ae fa fr O U=uu (fa O U) fr O:=rfl
def EA {fr}:uu (some (x,U)) fr O=qX x (fr O U):=rfl
def Ez {xs}:qX x (some (xs,U))=some (x::xs,U):=rfl
noncomputable def C0 (o:Jo (A0 R×ac))(g:A0 R->ac->Jo (R×ac)):Jo (R×ac):=o.bind λa=>g a.1 a.2
def Jm {g fa}:eV g fa O U=C0 (fa O U) g:=rfl
def HL {g xs}:C0 (some (xs,U)) g=g xs U:=rfl
noncomputable def Iy (o:Jo (R×ac)):Jo (A9×ac):=o.bind λa=>match a.1 with|.v (.bl b)=>some (b,a.2)|_=>none
def JI {fa}:fB fa O U=Iy (fa O U):=rfl
def Jn {b}:Iy (some (.v (.bl b),U))=some (b,U):=rfl
noncomputable def yE (o:Jo (R×ac)):Jo (A9×ac):=o.bind λa=>(uh a.1 a.2).bind λb=>some (b,a.2)
def GW {fa}:eU fa O U=yE (fa O U):=rfl
def Fo {b}:yE (some (.v (.bl b),U))=some (b,U):=rfl
noncomputable def yZ (o:Jo (A9×ac))(u:FT)(O:Lo):Jo (A9×ac):=o.bind λc=>if c.1=true then u O c.2 else some (false,c.2)
noncomputable def CO (o:Jo (A9×ac))(u:FT)(O:Lo):Jo (A9×ac):=o.bind λc=>if c.1=true then some (true,c.2) else u O c.2
noncomputable def yO (o:Jo (A9×ac)):Jo (A9×ac):=o.bind λc=>some (!c.1,c.2)
def Fs {t u}:gR t u O U=yZ (t O U) u O:=rfl
def Es {b u}:yZ (some (b,U)) u O=if b=true then u O U else some (false,U):=rfl
def GY {t u}:my t u O U=CO (t O U) u O:=rfl
def Fp {b u}:CO (some (b,U)) u O=if b=true then some (true,U) else u O U:=rfl
def Fq {t}:fW t O U=yO (t O U):=rfl
def Er {b}:yO (some (b,U))=some (!b,U):=rfl
noncomputable def uA (o:Jo (R×ac))(fb:FE)(O:Lo):Jo (R×ac):=o.bind λa=>match a.1 with|.v (.bl c)=>if c=true then fb O a.2 else some (.v (.bl false),a.2)|_=>none
noncomputable def uq (o:Jo (R×ac)):Jo (R×ac):=o.bind λa=>match a.1 with|.v (.bl c)=>some (.v (.bl (!c)),a.2)|_=>none
def HM {fa fb}:qH fa fb O U=uA (fa O U) fb O:=rfl
def F3 {c fb}:uA (some (.v (.bl c),U)) fb O=if c=true then fb O U else some (.v (.bl false),U):=rfl
def Hb {fa}:yb fa O U=uq (fa O U):=rfl
def FF {c}:uq (some (.v (.bl c),U))=some (.v (.bl (!c)),U):=rfl
noncomputable def CU (o:Jo (A9×ac))(fa fb:FE)(O:Lo):Jo (R×ac):=o.bind λc=>if c.1=true then fa O c.2 else fb O c.2
def Jf {t fa fb}:Fm t fa fb O U=CU (t O U) fa fb O:=rfl
def Hr {c fa fb}:CU (some (c,U)) fa fb O=if c=true then fa O U else fb O U:=rfl
noncomputable def yD (o:Jo (A0 R×ac)):Jo (R×ac):=o.bind λa=>(vals a.1).bind λds=>if ds.length<=sizeLine then some (.v (.tup ds),a.2) else none
noncomputable def yP (o:Jo (A0 R×ac)):Jo (R×ac):=o.bind λa=>(vals a.1).bind λds=>if ds.length<=sizeLine then some (.p a.2.length,a.2++[.lst ds]) else none
def GV {fa}:dS fa O U=yD (fa O U):=rfl
def Hi {fa}:ic fa O U=yP (fa O U):=rfl
noncomputable def so (o:Jo (R×ac)):Jo (R×ac):=o.bind λa=>(B7 a.1 a.2).bind λb=>some (.v b.1,b.2)
def Ji {fa}:bg fa O U=so (fa O U):=rfl
def Hy:so (some (.v d,U))=some (.v d,U):=rfl
noncomputable def uw (o:Jo (A0 R×ac))(f:MF)(n:Nat):Jo (R×ac):=o.bind λa=>(vals a.1).bind λds=>if ds.length=n then (f ds).bind λd=>some (.v d,a.2) else none
def FX {f n fa}:aI f n fa O U=uw (fa O U) f n:=rfl
def FH:bu O U=some (.nx O U):=rfl
noncomputable def Gd (o:Jo lc)(b:FS):Jo lc:=o.bind λo=>match o with|.nx O' U'=>b O' U'|o=>some o
def G6 {a b}:aN a b O U=Gd (a O U) b:=rfl
def Fz {b}:Gd (some (.nx O U)) b=b O U:=rfl
def Fy {b}:Gd (some (.rt x U)) b=some (.rt x U):=rfl
noncomputable def ut (o:Jo (R×ac))(O:Lo):Jo lc:=o.bind λa=>some (.nx O a.2)
def FU {f}:d8 f O U=ut (f O U) O:=rfl
def Ey:ut (some (x,U)) O=some (.nx O U):=rfl
noncomputable def uo (o:Jo (R×ac)):Jo lc:=o.bind λa=>some (.rt a.1 a.2)
def G7 {f}:aZ f O U=uo (f O U):=rfl
def FB:uo (some (x,U))=some (.rt x U):=rfl
noncomputable def ur (o:Jo (A9×ac))(a b:FS)(O:Lo):Jo lc:=o.bind λc=>if c.1=true then a O c.2 else b O c.2
def eW {t a b}:fI t a b O U=ur (t O U) a b O:=rfl
def vX {a b}:ur (some (true,U)) a b O=a O U:=rfl
def gz {a b}:ur (some (false,U)) a b O=b O U:=rfl
noncomputable def yL (o:Jo (R×ac))(i:Nat)(O:Lo):Jo lc:=o.bind λa=>some (.nx (O.set i (some a.1)) a.2)
def G5 {i f}:cr i f O U=yL (f O U) i O:=rfl
def Fx {i}:yL (some (x,U)) i O=some (.nx (O.set i (some x)) U):=rfl
noncomputable def yS (o:Jo (A0 D×ac))(g:FG)(b:FS)(O:Lo):Jo lc:=o.bind λa=>fL g b a.1 O a.2
def Hz {i g b}:kW i g b O U=yS (i O U) g b O:=Eq.trans rfl rfl
def FP {xs g b}:yS (some (xs,U)) g b O=fL g b xs O U:=Eq.trans rfl rfl
noncomputable def um (o:Jo (R×ac)):Jo (A0 D×ac):=o.bind λa=>match a.1 with|.v (.fl xs)=>some (xs,a.2)|.v (.tup xs)=>some (xs,a.2)|_=>none
def FN {f}:hZ f O U=um (so (f O U)):=rfl
def Ev {xs}:um (some (.v (.fl xs),U))=some (xs,U):=rfl
def Eu {xs}:um (some (.v (.tup xs),U))=some (xs,U):=rfl
noncomputable def CN (o:Jo (R×ac)):Jo (A0 D×ac):=o.bind λa=>match a.1 with|.v (.int j)=>if -(2 ^ 62)<=j/\j<2 ^ 62 then some ((List.range j.toNat).map λi=>.int (i:Nat),a.2) else none|_=>none
def IQ {f}:oo f O U=CN (f O U):=Eq.trans rfl rfl
def kn {j:Int}(h : -(2 ^ 62)<=j/\j<2 ^ 62):CN (some (.v (.int j),U))=some ((List.range j.toNat).map λi=>.int (i:Nat),U):=by
 show(if -(2 ^ 62)<=j/\j<2 ^ 62 then _ else _)=_
 rw[A8 h]
noncomputable def uv (o:Jo (A0 D×ac))(ix:A0 Nat)(k:Nat)(g:FG)(c:FT)(f:FE)(O:Lo):Jo (R×ac):=o.bind λa=>if a.1.length<=sizeLine then
 (fw g c f a.1 (cT k ix O) a.2).bind λr=>some (.p r.2.length,r.2++[.lst r.1]) else none
def FW {ix k i g c f}:gJ ix k i g c f O U=uv (i O U) ix k g c f O:=Eq.trans rfl rfl
noncomputable def CM (o:Jo (R×ac))(fl fh:FO)(O:Lo):Jo (R×ac):=o.bind λa=>(fl O a.2).bind λl=>(fh O l.2).bind λh=>As a.1 l.1 h.1 h.2
noncomputable def yK (x:R)(o:Jo (Jo Int×ac))(fh:FO)(O:Lo):Jo (R×ac):=o.bind λl=>(fh O l.2).bind λh=>As x l.1 h.1 h.2
noncomputable def yJ (x:R)(l:Jo Int)(o:Jo (Jo Int×ac)):Jo (R×ac):=o.bind λh=>As x l h.1 h.2
def IP {fa fl fh}:Cc fa fl fh O U=CM (fa O U) fl fh O:=rfl
def G4 {fl fh}:CM (some (x,U)) fl fh O=yK x (fl O U) fh O:=rfl
def G3 {l fh}:yK x (some (l,U)) fh O=yJ x l (fh O U):=rfl
def G2 {l h}:yJ x l (some (h,U))=As x l h U:=rfl
def G1 {xs l h}:As (.v (.tup xs)) l h U=some (.v (.tup (ow xs l h)),U):=rfl
noncomputable def Ix (o:Jo (R×ac)):Jo (Jo Int×ac):=o.bind λa=>match a.1 with|.v (.int i)=>some (some i,a.2)|_=>none
def IT:kC O U=some (none,U):=rfl
def IS {f}:jA f O U=Ix (f O U):=rfl
def Ha {i}:Ix (some (.v (.int i),U))=some (some i,U):=rfl
noncomputable def wD (o:Jo (R×ac))(g:R->A0 R->ac->Jo (R×ac))(ga:FA)(O:Lo):Jo (R×ac):=o.bind λa=>if iM a.1 a.2=true then (ga O a.2).bind λb=>g a.1 b.1 b.2 else none
noncomputable def oV (x:R)(o:Jo (A0 R×ac))(g:R->A0 R->ac->Jo (R×ac)):Jo (R×ac):=o.bind λb=>g x b.1 b.2
def IZ {g fa ga}:nF g fa ga O U=wD (fa O U) g ga O:=rfl
def Hg {g xs}:oV x (some (xs,U)) g=g x xs U:=rfl
variable {i j:Int}{b c:A9}{xs:A0 D}
def GZ:nR (.v (.int i)) (.v (.int j)) U=some (.v (.int (i-j)),U):=rfl
def Jb:BI (.v (.int i)) (.v (.int j)) U=some (.v (.bl (decide (i<j))),U):=rfl
def Jc:Cr (.v (.int i)) (.v (.int j)) U=some (.v (.bl (decide (i<=j))),U):=rfl
def Jg:vQ (.v (.int i)) (.v (.int j)) U=some (.v (.bl (decide (j<i))),U):=rfl
def ie (h:0<j):kX (.v (.int i)) (.v (.int j)) U=some (.v (.int (i%j)),U):=by simp[kX,qA,h]
def JC5 (h:0<j)(h2:j<1073741824):v3 (.v (.int i)) (.v (.int j)) U=some (.v (.int (i / j)),U):=by simp[v3,qA,h,h2]
def rS (h : -(2 ^ 64)<j/\j<2 ^ 64):mG (.v (.int i)) (.v (.int j)) U=some (.v (.int (i*j)),U):=by
 show(if (decide (-(2 ^ 64)<i/\i<2 ^ 64) || decide (-(2 ^ 64)<j/\j<2 ^ 64))=true then _ else _)=_
 rw[A8 (by rw[Bool.or_eq_true];exact .inr (Bk h))]
def lh (h : -(2 ^ 64)<i/\i<2 ^ 64):mG (.v (.int i)) (.v (.int j)) U=some (.v (.int (i*j)),U):=by
 show(if (decide (-(2 ^ 64)<i/\i<2 ^ 64) || decide (-(2 ^ 64)<j/\j<2 ^ 64))=true then _ else _)=_
 rw[A8 (by rw[Bool.or_eq_true];exact .inl (Bk h))]
def ot (h:0<=j/\j<=1000000/\i.natAbs<2 ^ 64):j5 (.v (.int i)) (.v (.int j)) U=some (.v (.int (i ^ j.toNat)),U):=by simp[j5,qA,h]
def Hd:dA (.v (.int i)) U=some (.v (.int (-i)),U):=rfl
def tN (bs:A0 A9):ii (bs.map D.bl)=some bs:=by induction bs <;> simp_all[ii]
def Hv {k:Nat}:iw k x O U=some (O.set k (some x),U):=rfl
def l6 {Z:Type}{xs:A0 Z}{i:Int}{a:Z}(h0:0<=i)(h:xs[i.toNat]?=some a):jL xs i=some a:=by unfold jL tm;have hl:=(B2.mp h).1;rw[A8 h0,A8 ∅];simpa using h
noncomputable def gy (o:Jo lc):Jo D:=o.bind fin
def HB:gy (some (.rt (.v d) U))=some d:=rfl
end
noncomputable def CW (o:Jo (Lo×ac))(b:FS):Jo lc:=o.bind λa=>b a.1 a.2
def JH {O:Lo}{U:ac}{b:FS}:CW (some (O,U)) b=b O U:=rfl
def xQ {g:FG}{b:FS}(I:Nat->Lo->ac->Prop){xs:A0 D}{O:Lo}{U:ac}(h0:I 0 O U)
  (hs:∀(i:Nat) x O U,xs[i]?=some x->I i O U->∃O' U',CW (g (.v x) O U) b=some (.nx O' U')/\I (i+1) O' U') :
  ∃O' U',fL g b xs O U=some (.nx O' U')/\I xs.length O' U':=by
 have key:∀(n:Nat) (ys:A0 D) (i:Nat) O U,ys.length=n->xs.drop i=ys->i<=xs.length->I i O U->∃O' U',fL g b ys O U=some (.nx O' U')/\I xs.length O' U':=by
  intro n
  induction n with
  |zero=>
   intro ys i O U hn hd hi h;have:ys=[]:=zbC hn;subst this
   have:i=xs.length:=by
    have:=AL List.length hd;simp at this;omega
   subst this;exact{O,U,rfl,h}
  |succ n ih=>
   intro ys i O U hn hd hi h
   cases ys with
   |nil=>simp at hn
   |cons y ys=>
    have Ap:i<xs.length:=by
     have:=AL List.length hd;simp at this;omega
    have hc:=zbq Ap;rw[hd] at hc
    injection hc with h1 h2
    let⟨O',U',e0,h'⟩:=hs i y O U (by rw[h1];exact D7 Ap) h;let⟨⟨O1,U1⟩,e1,e2⟩:=AM.mp e0;let⟨O2,U2,e3,h3⟩:=ih ys (i+1) O' U' ‹hn› h2.symm Ap h';exact{O2,U2,by rwa[fL,e1,e2,D5];exact e3,h3}
 exact key xs.length xs 0 O U rfl ∅ (zbt _) h0
section
variable {O:Lo}{U:ac}{x y:R}{d e:D}{n:Nat}{xs:A0 D}{i j:Int}{b c:A9}
noncomputable def F6 (o:Jo bX)(n:Nat)(g:R->A0 R->ac->Jo (R×ac))(ga:FA)(O:Lo)(U:ac):Jo (R×ac):=match o with|some (.lst _)=>oV (.p n) (ga O U) g|some (.fz _)=>oV (.p n) (ga O U) g|_=>none
theorem He {g ga}:wD (some (.p n,U)) g ga O=F6 U[n]? n g ga O U:=by
 cases h:U[n]? with
 |none=>simp[wD,iM,F6,h]
 |some c=>cases c <;> simp[wD,iM,F6,oV,h]
def Hf {g ga}:F6 (some (.lst xs)) n g ga O U=oV (.p n) (ga O U) g:=rfl
noncomputable def EM (o:Jo bX)(n:Nat)(d:D)(U:ac):Jo (R×ac):=match o with|some (.lst xs)=>if xs.length<sizeLine then some (.v .non,U.set n (.lst (xs++[d]))) else none|_=>none
def F1:lb (.p n) [.v d] U=EM U[n]? n d U:=rfl
def F2:EM (some (.lst xs)) n d U=if xs.length<sizeLine then some (.v .non,U.set n (.lst (xs++[d]))) else none:=rfl
noncomputable def F7 (o:Jo bX):Jo (A0 D):=match o with|some (.lst xs)=>some xs|some (.fz xs)=>some xs|_=>none
def Hm:cY (.v (.tup xs)) U=some xs:=rfl
def Ho:cY (.v (.fl xs)) U=some xs:=rfl
def Hn:cY (.p n) U=F7 U[n]?:=rfl
def Hq:F7 (some (.lst xs))=some xs:=rfl
noncomputable def CT (o:Jo (A0 D))(i:Int)(U:ac):Jo (R×ac):=o.bind λxs=>(jL xs i).bind λd=>some (.v d,U)
noncomputable def yR (o:Jo D)(U:ac):Jo (R×ac):=o.bind λd=>some (.v d,U)
def Je:gL x (.v (.int i)) U=CT (cY x U) i U:=rfl
def Hl:CT (some xs) i U=yR (jL xs i) U:=rfl
def Hk:yR (some d) U=some (.v d,U):=rfl
def HH {a:D}{l:A0 D}:jL (a::l) 0=some a:=l6 ∅ rfl
def HG {a b:D}{l:A0 D}:jL (a::b::l) 1=some b:=l6 ∅ rfl
noncomputable def yQ (o:Jo (A0 D))(U:ac):Jo (R×ac):=o.bind λxs=>some (.v (.int xs.length),U)
def Hj:eR [x] U=yQ (cY x U) U:=rfl
def FM:yQ (some xs) U=some (.v (.int xs.length),U):=rfl
noncomputable def CK (o:Jo (A0 D))(U:ac):Jo (R×ac):=o.bind λxs=>some (.v (.tup xs),U)
def IN:nQ [x] U=CK (cY x U) U:=rfl
def GX:CK (some xs) U=some (.v (.tup xs),U):=rfl
def GL:ll (.v d) U=some d:=rfl
noncomputable def Ai (o p:Jo D)(neg:A9)(U:ac):Jo (R×ac):=o.bind λa=>p.bind λb=>if (dk 60 a&&dk 60 b)=true then some (.v (.bl (if neg then !iH a b else iH a b)),U) else none
def HD:gM b x y U=Ai (ll x U) (ll y U) b U:=rfl
def HE:Ai (some d) (some e) false U=if (dk 60 d&&dk 60 e)=true then some (.v (.bl (iH d e)),U) else none:=rfl
def HC:Ai (some d) (some e) true U=if (dk 60 d&&dk 60 e)=true then some (.v (.bl (!iH d e)),U) else none:=rfl
def Gq:dk n (.int i)=true:=by cases n <;> rfl
def HP:iH (.int i) (.int j)=(i == j):=rfl
def FQ:gy (some (.nx O U))=some .non:=rfl
noncomputable def F8 (o:Jo bX)(n:Nat)(U:ac):Jo (R×ac):=match o with|some (.lst xs)=>some (.v (.fl xs),U.set n (.fz xs))|some (.fz xs)=>some (.v (.fl xs),U)|some (.dct kvs)=>some (.v (.fd (kvs.map (·.1)) (kvs.map (·.2))),U.set n (.fzd kvs))|some (.fzd kvs)=>some (.v (.fd (kvs.map (·.1)) (kvs.map (·.2))),U)|_=>none
theorem Hw:so (some (.p n,U))=F8 U[n]? n U:=by
 cases h:U[n]? with
 |none=>simp[so,B7,F8,h]
 |some c=>cases c <;> simp[so,B7,F8,h]
def Hx:F8 (some (.lst xs)) n U=some (.v (.fl xs),U.set n (.fz xs)):=rfl
noncomputable def CZ (o:Jo D)(xs:A0 R)(U:ac):Jo (A0 D):=o.bind λd=>(iJ xs U).bind λds=>some (d::ds)
noncomputable def yY (d:D)(o:Jo (A0 D)):Jo (A0 D):=o.bind λds=>some (d::ds)
def GR:iJ [] U=some []:=rfl
def II {rs}:iJ (x::rs) U=CZ (HU x U) rs U:=rfl
def GQ {rs}:CZ (some d) rs U=yY d (iJ rs U):=rfl
def GP {ds}:yY d (some ds)=some (d::ds):=rfl
def HJ:HU (.v d) U=some d:=rfl
noncomputable def CD (o:Jo (A0 D))(f:MF)(n:Nat)(U:ac):Jo (R×ac):=o.bind λds=>if ds.length=n then (f ds).bind λd=>some (.v d,U) else none
noncomputable def CG (o:Jo D)(U:ac):Jo (R×ac):=o.bind λd=>some (.v d,U)
def Jl {rs f n}:uw (some (rs,U)) f n=CD (vals rs) f n U:=rfl
def Jk {f:MF}{ds:A0 D}:CD (some ds) f n U=if ds.length=n then CG (f ds) U else none:=rfl
def Jj:CG (some d) U=some (.v d,U):=rfl
noncomputable def Ah (d:D)(o:Jo (A0 D)):Jo (A0 D):=o.bind λds=>some (d::ds)
def GO:vals []=some []:=rfl
def GN {rs}:vals (.v d::rs)=Ah d (vals rs):=by unfold Ah;cases h:vals rs <;> simp[vals,h]
def GM {ds}:Ah d (some ds)=some (d::ds):=rfl
noncomputable def CJ (o:Jo (A0 D))(U:ac):Jo (R×ac):=o.bind λds=>if ds.length<=sizeLine then some (.v (.tup ds),U) else none
def IM {rs}:yD (some (rs,U))=CJ (vals rs) U:=rfl
def GU {ds}:CJ (some ds) U=if ds.length<=sizeLine then some (.v (.tup ds),U) else none:=rfl
noncomputable def CQ (o:Jo (A0 D))(U:ac):Jo (R×ac):=o.bind λds=>if ds.length<=sizeLine then some (.p U.length,U++[.lst ds]) else none
def Ja {rs}:yP (some (rs,U))=CQ (vals rs) U:=rfl
def Hh {ds}:CQ (some ds) U=if ds.length<=sizeLine then some (.p U.length,U++[.lst ds]) else none:=rfl
noncomputable def yX (o:Jo (R×ac))(g:FG)(O:Lo):Jo lc:=o.bind λa=>(g a.1 O a.2).bind λb=>some (.nx b.1 b.2)
noncomputable def uz (o:Jo (Lo×ac)):Jo lc:=o.bind λb=>some (.nx b.1 b.2)
def HI {f g}:lG f g O U=yX (f O U) g O:=rfl
def F0 {g}:yX (some (x,U)) g O=uz (g x O U):=rfl
def FZ:uz (some (O,U))=some (.nx O U):=rfl
def Hs {g}:Ct n g (.v (.tup xs)) O U=if xs.length=n then g (xs.map .v) O U else none:=rfl
def Hu:pH [] O U=some (O,U):=rfl
noncomputable def CV (o:Jo (Lo×ac))(r:zR)(ds:A0 R):Jo (Lo×ac):=o.bind λa=>r ds a.1 a.2
def Jh {g r ds}:ja g r (x::ds) O U=CV (g x O U) r ds:=rfl
def Ht {r ds}:CV (some (O,U)) r ds=r ds O U:=rfl
def ED:bH (.v (.int i)) (.v (.int j)) U=some (.v (.int (i+j)),U):=rfl
def G0:mz [.v (.int i)] U=if i.natAbs.log2<1920 then some (.v (.str (toString i)),U) else none:=rfl
noncomputable def yF (o:Jo (R×ac))(fi:FE)(dv:D)(O:Lo):Jo (Lo×ac):=o.bind λo=>(fi O o.2).bind λi=>(qe o.1 i.1 dv i.2).bind λU'=>some (O,U')
noncomputable def ul (x:R)(o:Jo (R×ac))(dv:D)(O:Lo):Jo (Lo×ac):=o.bind λi=>(qe x i.1 dv i.2).bind λU'=>some (O,U')
noncomputable def uk (o:Jo ac)(O:Lo):Jo (Lo×ac):=o.bind λU'=>some (O,U')
def Fw {fo fi}:jb fo fi (.v d) O U=yF (fo O U) fi d O:=rfl
def Fv {fi}:yF (some (x,U)) fi d O=ul x (fi O U) d O:=rfl
def Fu:ul x (some (y,U)) d O=uk (qe x y d U) O:=rfl
def Ft:uk (some U) O=some (O,U):=rfl
noncomputable def EL (o:Jo bX)(n:Nat)(i:R)(dv:D)(U:ac):Jo ac:=match o with
  |some (.lst xs)=>(match i with|.v (.int k)=>(tm xs.length k).bind λj=>some (U.set n (.lst (xs.set j dv)))|_=>none)
  |some (.dct kvs)=>if kvs.length<sizeLine then (rH i).bind λk=>some (U.set n (.dct (rm kvs k dv))) else none
  |_=>none
def FC:qe (.p n) x d U=EL U[n]? n x d U:=rfl
noncomputable def yM (o:Jo Nat)(n:Nat)(xs:A0 D)(d:D)(U:ac):Jo ac:=o.bind λj=>some (U.set n (.lst (xs.set j d)))
def FD:EL (some (.lst xs)) n (.v (.int i)) d U=yM (tm xs.length i) n xs d U:=rfl
def Et {j:Nat}:yM (some j) n xs d U=some (U.set n (.lst (xs.set j d))):=rfl
noncomputable def CY (o:Jo (A0 D×ac)):Jo (R×ac):=o.bind λr=>some (.p r.2.length,r.2++[.lst r.1])
def EB {ix k g c f}:uv (some (xs,U)) ix k g c f O=if xs.length<=sizeLine then CY (fw g c f xs (cT k ix O) U) else none:=Eq.trans rfl rfl
def HF {r:A0 D}:CY (some (r,U))=some (.p U.length,U++[.lst r]):=rfl
def FY {i:Nat}:cT 1 [i] O=[none,(O[i]?).join]:=rfl
def Jd {x:Jo R}:(some x).join=x:=rfl
noncomputable def y0 (o:Jo (A0 D))(any:A9)(U:ac):Jo (R×ac):=o.bind λxs=>(ii xs).bind λbs=>some (.v (.bl (if any then bs.any id else bs.all id)),U)
noncomputable def uB (o:Jo (A0 A9))(any:A9)(U:ac):Jo (R×ac):=o.bind λbs=>some (.v (.bl (if any then bs.any id else bs.all id)),U)
def HN:we b [x] U=y0 (i3 x U) b U:=rfl
def F5:y0 (some xs) b U=uB (ii xs) b U:=rfl
def F4 {bs:A0 A9}:uB (some bs) false U=some (.v (.bl (bs.all id)),U):=rfl
def FJ:i3 (.p n) U=F7 U[n]?:=rfl
noncomputable def qY (o:Jo (A0 R×ac))(f:MC)(n:Nat):Jo (R×ac):=o.bind λa=>(iJ a.1 a.2).bind λds=>if ds.length=n then (f ds).bind λc=>if nE c=true then some (.p a.2.length,a.2++[c]) else none else none
noncomputable def yB (o:Jo (A0 D))(f:MC)(n:Nat)(U:ac):Jo (R×ac):=o.bind λds=>if ds.length=n then (f ds).bind λc=>if nE c=true then some (.p U.length,U++[c]) else none else none
noncomputable def yC (o:Jo bX)(U:ac):Jo (R×ac):=o.bind λc=>if nE c=true then some (.p U.length,U++[c]) else none
def EC {f:MC}{fa}:cj f n fa O U=qY (fa O U) f n:=rfl
def IW {f:MC}{rs}:qY (some (rs,U)) f n=yB (iJ rs U) f n U:=rfl
def IV {f:MC}{ds:A0 D}:yB (some ds) f n U=if ds.length=n then yC (f ds) U else none:=rfl
def IU {k:bX}:yC (some k) U=if nE k=true then some (.p U.length,U++[k]) else none:=rfl
def HA:nE (.lst xs)=flatDs xs:=rfl
noncomputable def gH (o:Jo lc):Jo bX:=o.bind vV
noncomputable def rY (o:Jo bX):Jo bX:=match o with|some (.lst xs)=>some (.lst xs)|some (.dct kvs)=>some (.dct kvs)|_=>none
theorem Ew:gH (some (.rt (.p n) U))=rY U[n]?:=by
 cases h:U[n]? with
 |none=>simp[gH,vV,rY,h]
 |some c=>cases c <;> simp[gH,vV,rY,h]
def Ex:rY (some (.lst xs))=some (.lst xs):=rfl
def JQ:2<=sizeLine:=by decide
def JP:3<=sizeLine:=by decide
def iV {n:Nat}(h:n<4000):n<sizeLine:=Ax h ∅
def aQ {n:Nat}(h:n<4000):n<=sizeLine:=zbj (iV h)
end
def Fb {Z:Type}{x y:Z}{l:A0 Z}:(x::l).set 0 y=y::l:=rfl
def Fa {Z:Type}{x y:Z}{l:A0 Z}{n:Nat}:(x::l).set (n+1) y=x::l.set n y:=rfl
def Fh {Z:Type}{x:Z}{l:A0 Z}:(x::l)[0]?=some x:=rfl
def Fg {Z:Type}{x:Z}{l:A0 Z}{n:Nat}:(x::l)[n+1]?=l[n]?:=rfl
def GB {Z:Type}{x:Z}{l:A0 Z}:(x::l).length=l.length+1:=rfl
def Ff {Z:Type}:([]:A0 Z).length=0:=rfl
def GD {Z:Type}{x:Z}{l r:A0 Z}:(x::l)++r=x::(l++r):=rfl
def Fi {Z:Type}{r:A0 Z} : []++r=r:=rfl
def Gz {Z β:Type}{f:Z->β}{x:Z}{l:A0 Z}:(x::l).map f=f x::l.map f:=rfl
def Fe {Z β:Type}{f:Z->β}:([]:A0 Z).map f=[]:=rfl
def IF {n:Nat}:0+n=n:=Nat.zero_add n
def Fc:(!true)=false:=rfl
def Fd:(!false)=true:=rfl
def GC {Z:Type}{a b:Z}:(if false=true then a else b)=b:=rfl
section
variable {g:FG}{b:FS}{O:Lo}{U:ac}
noncomputable def CS (o:Jo lc)(g:FG)(b:FS)(xs:A0 D):Jo lc:=o.bind λo=>match o with
  |.nx O' U'=>fL g b xs O' U'
  |.ct O' U'=>fL g b xs O' U'
  |.bk O' U'=>some (.nx O' U')
  |.rt d U'=>some (.rt d U')
def sQ {x:D}{xs:A0 D}:fL g b (x::xs) O U=CS (CW (g (.v x) O U) b) g b xs:=by
 show(g (.v x) O U).bind _=_
 cases e:g (.v x) O U <;> rfl
def DY {xs}:CS (some (.nx O U)) g b xs=fL g b xs O U:=rfl
theorem eQ {Z Y:Type}(e:Z->D)(S:Y->Lo×ac)(P:Y->A0 Z->Prop):∀(as:A0 Z) (s:Y),P s as ->
  (∀s a r,P s (a::r)->∃s',CW (g (.v (e a)) (S s).1 (S s).2) b=some (.nx (S s').1 (S s').2)/\P s' r) ->
  ∃s',fL g b (as.map e) (S s).1 (S s).2=some (.nx (S s').1 (S s').2)/\P s' []
 |[],s,h,_=>{s,rfl,h}
 |a::as,s,h,k=>by
  let⟨s1,h1,h2⟩:=k s a as h;let⟨s2,h3,h4⟩:=eQ e S P as s1 h2 k;exact{s2,by rw[An,sQ,h1,DY,h3],h4}
def i4 (n:Nat)(I:Nat->Lo->ac->Prop)(h0:I 0 O U)
  (hs:∀i<n,∀O U,I i O U->∃O' U',CW (g (.v (.int (i:Int))) O U) b=some (.nx O' U')/\I (i+1) O' U') :
  ∃O' U',fL g b ((List.range n).map λi=>.int ((i:Nat):Int)) O U=some (.nx O' U')/\I n O' U':=by
 let⟨O',U',e,h⟩:=xQ (g:=g) (b:=b) I (xs:=(List.range n).map λi=>D.int ((i:Nat):Int)) h0 λi x O U hx hI=>by
  rw[Bv] at hx;let⟨k,hk,rfl⟩:=Option.map_eq_some_iff.mp hx;let⟨hl,hk⟩:=B2.mp hk;rw[List.getElem_range] at hk;subst hk;exact hs i ‹hl› O U hI
 exact{O',U',e,by simpa using h}
end
theorem eX {Z:Type}{f:FE}{U:ac}{rest:Lo}(e out:Z->D):∀(xs:A0 Z) (x0:Jo R),(∀a∈xs,f (some (.v (e a))::rest) U=some (.v (out a),U))->fw (iw 0) jG f (xs.map e) (x0::rest) U=some (xs.map out,U)
 |[],_,_=>rfl
 |a::xs,x0,h=>by have h1:=h a Aw;have ih:=eX e out xs (some (.v (e a))) λb hb=>h b (Au _ hb);rwa[An,fw,iw,zbJ,D5,jG,if_true,h1,ih]
def A2 {a b:Prop}(x:a)(y:b):a/\b:={x,y}
end HW
namespace LW
open HW
abbrev jl (i:Int):Jo R:=some (.v (.int i))
abbrev e7 (n:Nat):Jo R:=some (.p n)
end LW
local macro_rules
 | `(tactic| push_cast [$xs,*] $[$loc]?) => do
  let ids : Array (Lean.TSyntax `term) := ("JQ JP Fb Fa Fh Fg GB Ff GD Fi Gz Fe IF Fc Fd GC DY IJ IH JG IR G9 G8 IL GS Hc Jm HL JI Jn GW Fo Fs Es GY Fp Fq Er HM F3 Hb FF Jf Hr GV Hi Ji Hy FX FH G6 Fz Fy FU Ey G7 FB eW vX gz Hz FP FN Ev Eu IQ IZ Hg GZ Jb Jc Jg Hd Hv HB JH He Hf F1 F2 Hm Ho Hn Hq Je Hl Hk HH HG Hj FM IN GX GL HD HE HC Gq HP Hw Hx GR II GQ GP HJ Jl Jk Jj GO GN GM IM GU Ja Hh HI F0 FZ Hs Hu Jh Ht ED FJ FV EA Ez G5 Fx FW IP G4 G3 G2 G1 IT IS Ha FQ G0 Fw Fv Fu Ft FC FD Et EB HF FY Jd HN F5 F4 EC IW IV IU HA Ew Ex".splitOn " ").toArray.map fun n => ⟨(Lean.mkIdent (String.toName ("HW." ++ n))).raw⟩
  `(tactic| simp -implicitDefEqProofs only [$xs,*, $[$ids:term],*, Nat.reduceAdd, if_true, Bool.and_self] $[$loc]?)
namespace LW
open PyProof.Rows L2 HW
noncomputable def gO (i:Nat):AJ:=PySem.Challenge.pw_heldwhen_k48_asks_written.main.body.getD i (.Pass {0,0,0,0})
noncomputable section
abbrev eI:AJ:=L2.gv (gO 22) 0
def lE:av ["self","text"] ["self","text"] (ah eI):=by ac_rfl
abbrev eF:AJ:=L2.gv (gO 22) 1
def lC:av ["self"] ["self"] (ah eF):=by ac_rfl
abbrev df:AJ:=L2.gv (gO 22) 3
def js:av ["self"] ["self"] (ah df):=by ac_rfl
abbrev dw:AJ:=L2.gv (gO 22) 4
def j2:av ["self"] ["self"] (ah dw):=by ac_rfl
abbrev eG:AJ:=L2.gv (gO 22) 5
def lD:av ["self"] ["self"] (ah eG):=by ac_rfl
abbrev cm:AJ:=L2.gv (gO 22) 6
def jr:av ["self"] ["self"] (ah cm):=by ac_rfl
abbrev dz:AJ:=L2.gv (gO 22) 7
def j3:av ["self"] ["self"] (ah dz):=by ac_rfl
abbrev iU:AJ:=gO 6
def qd:av ["word"] ["word"] (ah iU):=by ac_rfl
abbrev jZ:AJ:=gO 7
def sw:av ["ask"] ["ask"] (ah jZ):=by ac_rfl
abbrev fH:AJ:=gO 13
def mF:av ["thing"] ["thing"] (ah fH):=by ac_rfl
abbrev dH:AJ:=gO 14
def mD:av ["text","signs","most"] ["text","signs","most"] (ah dH):=by ac_rfl
abbrev dP:AJ:=gO 15
def kT:av ["number"] ["number"] (ah dP):=by ac_rfl
abbrev eE:AJ:=gO 16
def gZ:av ["text","figures"] ["text"] (ah eE):=by ac_rfl
abbrev cN:AJ:=gO 17
def d6:av ["text","least","number"] ["text","least"] (ah cN):=by ac_rfl
abbrev cG:AJ:=gO 18
def j0:av ["numbers"] ["numbers"] (ah cG):=by ac_rfl
abbrev du:AJ:=gO 19
def j1:av ["numbers"] ["numbers"] (ah du):=by ac_rfl
abbrev dQ:AJ:=gO 20
def kU:av ["text"] ["text"] (ah dQ):=by ac_rfl
abbrev gS:AJ:=gO 21
def oX:av ["text"] ["text"] (ah gS):=by ac_rfl
abbrev db:AJ:=gO 25
def ly:av ["kind","thing"] ["kind","thing"] (ah db):=by ac_rfl
abbrev eD:AJ:=gO 26
def eJ:av ["pairs","words","pair"] ["pairs"] (ah eD):=by ac_rfl
abbrev gk:AJ:=gO 27
def dh:av ["ask","words","kind","thing"] ["ask"] (ah gk):=by ac_rfl
abbrev gh:AJ:=gO 28
def nU:av ["ask"] ["ask"] (ah gh):=by ac_rfl
abbrev cP:AJ:=gO 29
def mC:av ["reader","kind","deep"] ["reader","kind","deep"] (ah cP):=by ac_rfl
abbrev eg:AJ:=gO 30
def eh:av ["reader","deep","word","form"] ["reader","deep"] (ah eg):=by ac_rfl
abbrev gT:AJ:=gO 31
def g0:av ["text","reader","ask"] ["text"] (ah gT):=by ac_rfl
abbrev gX:AJ:=gO 33
def fj:av ["script","k","many","cell","number"] ["script","k","many"] (ah gX):=by ac_rfl
abbrev iR:AJ:=gO 34
def lB:av ["script","k","number"] ["script","k"] (ah iR):=by ac_rfl
abbrev gW:AJ:=gO 35
def fg:av ["script","k","name","j"] ["script","k"] (ah gW):=by ac_rfl
abbrev fG:AJ:=gO 36
def iK:av ["script","k","way"] ["script","k"] (ah fG):=by ac_rfl
abbrev de:AJ:=gO 37
def g7:av ["script","k","many"] ["script","k"] (ah de):=by ac_rfl
abbrev iQ:AJ:=gO 38
def iX:av ["script","k","kind","part","word"] ["script","k","kind","part"] (ah iQ):=by ac_rfl
abbrev gj:AJ:=gO 39
def lz:av ["script","k","kind","part","other","columns"] ["script","k","kind","part","other"] (ah gj):=by ac_rfl
abbrev gY:AJ:=gO 40
def bN:av ["script","many","base","asks","deep","k","kinds","kind","at","other","more"] ["script","many","base"] (ah gY):=by ac_rfl
abbrev gi:AJ:=gO 41
def b4:av ["ask","words","part","one"] ["ask"] (ah gi):=by ac_rfl
abbrev gU:AJ:=gO 42
def g6:av ["told","due","k"] ["told","due"] (ah gU):=by ac_rfl
abbrev p8:AJ:=gO 43
def nV:av ["script","ask","due","told"] ["script"] (ah p8):=by ac_rfl
noncomputable def l3:A0 (Str×D):=[("table",(.tup [(.str "name")])),("pick",(.tup [(.str "ask"),(.str "column"),(.str "word"),(.str "number")])),("twins",(.tup [(.str "ask"),(.str "column"),(.str "column")])),("columns",(.tup [(.str "ask"),(.str "columns")])),("joined",(.tup [(.str "ask"),(.str "ask"),(.str "word")])),("matched",(.tup [(.str "ask"),(.str "ask"),(.str "pairs")])),("counted",(.tup [(.str "ask"),(.str "columns")])),("summed",(.tup [(.str "ask"),(.str "columns"),(.str "column")])),("lifted",(.tup [(.str "ask"),(.str "word"),(.str "number")]))]
abbrev fQ:FS:=(aN (fI (fB (aK (gM false) (la "Reader" "place" (ag 0)) (eV eR (ae (la "Reader" "words" (ag 0)) aj))))
  cu
  bu)
  (aN (oY "Reader" "place" (ag 0) 1)
  (aZ (aK gL (la "Reader" "words" (ag 0)) (aK nR (la "Reader" "place" (ag 0)) (fK (.int 1)))))))
noncomputable def aU:MW:=iY 1 (fQ)
abbrev dY:FS:=(fI (fB (aK (gM true) (la "Reader" "place" (ag 0)) (eV eR (ae (la "Reader" "words" (ag 0)) aj))))
  cu
  bu)
noncomputable def bI:MW:=iY 1 (dY)
abbrev tV:FS:=(aZ (vW l3 (ag 0)))
noncomputable def cI:MF:=ei 1 (tV)
abbrev en:FS:=(fI (fW (eU (d9 (cD "str") (ag 0))))
  cu
  bu)
noncomputable def bA:MF:=ei 1 (en)
abbrev gD:FS:=(aZ (qH (Fn Cr Cr (fK (.int 1)) (eV sS (ae (ag 0) aj)) (ag 2)) (eV (we false) (ae (gJ [1] 1 (rR (ag 0)) (iw 0) jG (aK (BX false) (ag 0) (ag 1))) aj))))
noncomputable def bQ:MF:=ei 3 (gD)
abbrev eY:FS:=(aZ (eV mz (ae (ag 0) aj)))
noncomputable def aM:MF:=ei 1 (eY)
abbrev gC:FS:=(aN (fI (fB (aK (gM false) (eV eR (ae (ag 0) aj)) (fK (.int 0))))
  (aZ (fK (.int 0)))
  bu)
  (aN (cr 3 (aK kX (aK gL (ag 0) (aK kX (ag 1) (eV eR (ae (ag 0) aj)))) (fK (.int 1000000007))))
  (aN (cr 4 (aK kX (aK mG (aK bH (ag 3) (fK (.int 5))) (aK bH (fK (.int 40692)) (aK mG (fK (.int 977)) (ag 1)))) (fK (.int 2147483629))))
  (aN (cr 4 (aK kX (aK mG (aK bH (ag 4) (ag 1)) (aK bH (ag 4) (fK (.int 3)))) (fK (.int 2147483647))))
  (aZ (aK kX (aK v3 (ag 4) (fK (.int 13))) (ag 2)))))))
noncomputable def ar:MF:=ei 5 (gC)
abbrev l5:FS:=(aZ (pI (aI cI 1 (ae (bg (aK gL (ag 0) (fK (.int 0)))) aj)) (Cc (ag 0) (jA (fK (.int 1))) kC)))
noncomputable def hG:MC:=jt 1 (l5)
abbrev cR:FS:=(aN (d8 (aI bA 1 (ae (bg (ag 0)) aj)))
  (aN (cr 1 (Fm (eU (GK (ag 0) (fK (.str "-")))) (ya (ag 0) (jA (fK (.int 1))) kC) (ag 0)))
  (aN (fI (fW (eU (aI bQ 3 (ae (bg (ag 1)) (ae (bg (fK (.str "0123456789"))) (ae (bg (fK (.int (60)))) aj))))))
  cu
  bu)
  (aN (fI (gR (fB (aK (gM false) (aK BP (ag 1) (fK (.int 0))) (fK (.str "0")))) (fB (aK (gM true) (ag 0) (fK (.str "0")))))
  cu
  bu)
  (aZ (eV tq (ae (ag 0) aj)))))))
noncomputable def bV:MF:=ei 2 (cR)
abbrev dU:FS:=(aZ (gJ [] 1 (hZ (ag 0)) (iw 0) jG (aI aM 1 (ae (bg (ag 0)) aj))))
noncomputable def be:MC:=jt 1 (dU)
abbrev eZ:FS:=(aN (fI (fW (eU (aI bQ 3 (ae (bg (ag 0)) (ae (bg (fK (.str "abcdefghijklmnopqrstuvwxyz"))) (ae (bg (fK (.int (8)))) aj))))))
  cu
  bu)
  (aZ (ag 0)))
noncomputable def bZ:MF:=ei 1 (eZ)
abbrev jd:FS:=(aN (d8 (aI bA 1 (ae (bg (ag 0)) aj)))
  (aZ (aK qc (ag 0) (fK (.str " ")))))
noncomputable def cW:MC:=jt 1 (jd)
abbrev iC:FS:=(aN (fI (fB (aK (gM false) (eV eR (ae (ag 0) aj)) (fK (.int 0))))
  (aZ (fK (.int 0)))
  bu)
  (aN (cr 2 (aK bH (aI ar 3 (ae (bg (ag 0)) (ae (bg (ag 1)) (ae (fK (.int 100000000)) aj)))) (fK (.int 1))))
  (aZ (aK kX (aK bH (aK mG (aK kX (aK gL (ag 0) (aK kX (ag 1) (eV eR (ae (ag 0) aj)))) (aK j5 (fK (.int 10)) (fK (.int 50)))) (ag 2)) (aK j5 (ag 2) (fK (.int 5)))) (aK j5 (fK (.int 10)) (fK (.int 50)))))))
noncomputable def f8:MF:=ei 3 (iC)
abbrev gu:FS:=(cr 2 (aK bH (ag 2) (aK BP (fK (.str "abcdefghijklmnopqrstuvwxyz")) (aI ar 3 (ae (bg (ag 0)) (ae (bg (aK bH (aK bH (ag 1) (fK (.int 1))) (ag 3))) (ae (fK (.int 26)) aj)))))))
abbrev jf:FS:=(aN (cr 2 (fK (.str "")))
  (aN (kW (oo (aK bH (fK (.int 1)) (aI ar 3 (ae (bg (ag 0)) (ae (bg (ag 1)) (ae (fK (.int 8)) aj)))))) (iw 3)
  gu)
  (aZ (ag 2))))
noncomputable def cC:MF:=ei 4 (jf)
abbrev fP:FS:=(aN (cr 2 (aI ar 3 (ae (bg (ag 0)) (ae (bg (ag 1)) (ae (fK (.int 4)) aj)))))
  (aZ (eV nQ (ae (gJ [0,1] 1 (oo (ag 2)) (iw 0) jG (aI ar 3 (ae (bg (ag 1)) (ae (bg (aK bH (aK bH (ag 2) (fK (.int 1))) (ag 0))) (ae (fK (.int 9)) aj))))) aj))))
noncomputable def bC:MF:=ei 3 (fP)
abbrev fS:FS:=(aN (lF "Reader" "words" (ag 0) (cj cW 1 (ae (ag 1) aj)))
  (lF "Reader" "place" (ag 0) (fK (.int 0))))
noncomputable def bT:MW:=iY 2 (fS)
abbrev dF:FS:=(aZ (aI bZ 1 (ae (bg (cq "Reader" "word" aU 1 (ag 0) aj)) aj)))
noncomputable def bo:MW:=iY 1 (dF)
abbrev dX:FS:=(aZ (aI bV 1 (ae (bg (cq "Reader" "word" aU 1 (ag 0) aj)) aj)))
noncomputable def aG:MW:=iY 1 (dX)
abbrev c0:FS:=(aN (cr 2 (aI bV 1 (ae (bg (ag 0)) aj)))
  (aN (fI (fB (aK BI (ag 2) (ag 1)))
  cu
  bu)
  (aZ (ag 2))))
noncomputable def bE:MF:=ei 3 (c0)
abbrev dW:FS:=(aZ (aK jH (ic (ae (aI aM 1 (ae (bg (eV eR (ae (ag 0) aj))) aj)) aj)) (cj be 1 (ae (ag 0) aj))))
noncomputable def bJ:MC:=jt 1 (dW)
abbrev dR:FS:=(d8 (nF oq (ag 1) (ae (cj be 1 (ae (ag 2) aj)) aj)))
abbrev fO:FS:=(aN (cr 1 (ic (ae (aI aM 1 (ae (bg (eV eR (ae (ag 0) aj))) aj)) aj)))
  (aN (kW (hZ (ag 0)) (iw 2)
  dR)
  (aZ (ag 1))))
noncomputable def cb:MC:=jt 3 (fO)
abbrev cM:FS:=(aN (cr 2 (aI ar 3 (ae (bg (ag 0)) (ae (bg (ag 1)) (ae (fK (.int 5)) aj)))))
  (aN (fI (fB (aK BI (ag 2) (fK (.int 2))))
  (aZ (aK nR (aI ar 3 (ae (bg (ag 0)) (ae (bg (aK bH (ag 1) (fK (.int 1)))) (ae (fK (.int 25)) aj)))) (fK (.int 12))))
  bu)
  (aN (fI (fB (aK (gM false) (ag 2) (fK (.int 2))))
  (aZ (aK nR (aK nR (aK j5 (fK (.int 10)) (fK (.int 60))) (fK (.int 1))) (aI ar 3 (ae (bg (ag 0)) (ae (bg (aK bH (ag 1) (fK (.int 1)))) (ae (fK (.int 3)) aj))))))
  bu)
  (aN (fI (fB (aK (gM false) (ag 2) (fK (.int 3))))
  (aZ (aK bH (aK nR (fK (.int 1)) (aK j5 (fK (.int 10)) (fK (.int 60)))) (aI ar 3 (ae (bg (ag 0)) (ae (bg (aK bH (ag 1) (fK (.int 1)))) (ae (fK (.int 3)) aj))))))
  bu)
  (aZ (aK nR (aI f8 2 (ae (bg (ag 0)) (ae (bg (aK bH (ag 1) (fK (.int 1)))) aj))) (aK mG (fK (.int 5)) (aK j5 (fK (.int 10)) (fK (.int 49))))))))))
noncomputable def cH:MF:=ei 3 (cM)
abbrev iA:FS:=(aN (fI (fB (aK (gM false) (ag 2) (fK (.str "joined"))))
  (aZ (dS (ae (ag 2) (ae (ag 3) (ae (ag 4) (ae (aK gL (ic (ae (fK (.str "both")) (ae (fK (.str "either")) (ae (fK (.str "less")) (ae (fK (.str "just")) (ae (fK (.str "table")) aj)))))) (aI ar 3 (ae (bg (ag 0)) (ae (bg (aK bH (ag 1) (fK (.int 1)))) (ae (fK (.int 5)) aj))))) aj))))))
  bu)
  (aN (cr 5 (aI bC 2 (ae (bg (ag 0)) (ae (bg (aK bH (ag 1) (fK (.int 1)))) aj))))
  (aZ (dS (ae (ag 2) (ae (ag 3) (ae (ag 4) (ae (eV nQ (ae (gJ [0,1] 1 (hZ (ag 5)) (iw 0) jG (dS (ae (ag 0) (ae (aI ar 3 (ae (bg (ag 1)) (ae (bg (aK bH (ag 2) (fK (.int 6)))) (ae (fK (.int 9)) aj)))) aj)))) aj)) aj))))))))
noncomputable def ez:MF:=ei 6 (iA)
abbrev fR:FS:=(aZ (aI bE 2 (ae (bg (cq "Reader" "word" aU 1 (ag 0) aj)) (ae (fK (.int 0)) aj))))
noncomputable def bq:MW:=iY 1 (fR)
abbrev c8:FS:=(aN (fI (fB (aK (gM false) (ag 2) (fK (.str "pick"))))
  (aN (cr 4 (aK gL (ic (ae (fK (.str "is")) (ae (fK (.str "under")) (ae (fK (.str "over")) (ae (fK (.str "abcdefgh")) aj))))) (aI ar 3 (ae (bg (ag 0)) (ae (bg (aK bH (ag 1) (fK (.int 1)))) (ae (fK (.int 4)) aj))))))
  (aZ (dS (ae (ag 2) (ae (ag 3) (ae (aI ar 3 (ae (bg (ag 0)) (ae (bg (aK bH (ag 1) (fK (.int 2)))) (ae (fK (.int 9)) aj)))) (ae (ag 4) (ae (aI cH 2 (ae (bg (ag 0)) (ae (bg (aK bH (ag 1) (fK (.int 3)))) aj))) aj))))))))
  bu)
  (aN (fI (fB (aK (gM false) (ag 2) (fK (.str "twins"))))
  (aZ (dS (ae (ag 2) (ae (ag 3) (ae (aI ar 3 (ae (bg (ag 0)) (ae (bg (aK bH (ag 1) (fK (.int 1)))) (ae (fK (.int 9)) aj)))) (ae (aI ar 3 (ae (bg (ag 0)) (ae (bg (aK bH (ag 1) (fK (.int 2)))) (ae (fK (.int 9)) aj)))) aj))))))
  bu)
  (aN (fI (fB (aK (gM false) (ag 2) (fK (.str "lifted"))))
  (aN (cr 4 (aK gL (ic (ae (fK (.str "moved")) (ae (fK (.str "ever")) (ae (fK (.str "always")) (ae (fK (.str "known")) (ae (fK (.str "asof")) (ae (fK (.str "from")) (ae (fK (.str "q")) aj)))))))) (aI ar 3 (ae (bg (ag 0)) (ae (bg (aK bH (ag 1) (fK (.int 1)))) (ae (fK (.int 7)) aj))))))
  (aZ (dS (ae (ag 2) (ae (ag 3) (ae (ag 4) (ae (aI cH 2 (ae (bg (ag 0)) (ae (bg (aK bH (ag 1) (fK (.int 2)))) aj))) aj)))))))
  bu)
  (aN (fI (fB (aK (gM false) (ag 2) (fK (.str "summed"))))
  (aZ (dS (ae (ag 2) (ae (ag 3) (ae (aI bC 2 (ae (bg (ag 0)) (ae (bg (aK bH (ag 1) (fK (.int 1)))) aj))) (ae (aI ar 3 (ae (bg (ag 0)) (ae (bg (aK bH (ag 1) (fK (.int 6)))) (ae (fK (.int 9)) aj)))) aj))))))
  bu)
  (aZ (dS (ae (ag 2) (ae (ag 3) (ae (aI bC 2 (ae (bg (ag 0)) (ae (bg (aK bH (ag 1) (fK (.int 1)))) aj))) aj)))))))))
noncomputable def eA:MF:=ei 5 (c8)
abbrev dE:FS:=(aZ (eV nQ (ae (gJ [0] 1 (oo (cq "Reader" "many" bq 1 (ag 0) aj)) (iw 0) jG (cq "Reader" "number" aG 1 (ag 1) aj)) aj)))
noncomputable def bm:MW:=iY 1 (dE)
abbrev br (F:MC):FS:=(aN (fI (fB (aK (gM false) (ag 0) (fK (.str "ask"))))
  (aZ (cj F 1 (ae (ag 1) aj)))
  bu)
  (aN (fI (my (fB (aK (gM false) (ag 0) (fK (.str "column")))) (fB (aK (gM false) (ag 0) (fK (.str "number")))))
  (aZ (ic (ae (aI aM 1 (ae (bg (ag 1)) aj)) aj)))
  bu)
  (aN (fI (fB (aK (gM false) (ag 0) (fK (.str "columns"))))
  (aZ (cj bJ 1 (ae (ag 1) aj)))
  bu)
  (aN (fI (fB (aK (gM false) (ag 0) (fK (.str "pairs"))))
  (aZ (cj cb 1 (ae (ag 1) aj)))
  bu)
  (aZ (ic (ae (ag 1) aj)))))))
noncomputable def ca (F:MC):MC:=jt 2 (br F)
abbrev cJ:FS:=(aN (cr 6 (ic (ae (fK (.str "table")) (ae (fK (.str "pick")) (ae (fK (.str "twins")) (ae (fK (.str "columns")) (ae (fK (.str "counted")) (ae (fK (.str "summed")) (ae (fK (.str "lifted")) (ae (fK (.str "joined")) (ae (fK (.str "matched")) (ae (fK (.str "joined")) aj))))))))))))
  (aN (cr 7 (aK gL (ag 6) (aI ar 3 (ae (bg (ag 0)) (ae (bg (ag 5)) (ae (fK (.int 10)) aj))))))
  (aN (cr 8 (aK bH (aK bH (ag 2) (fK (.int 20))) (aK mG (fK (.int 10)) (ag 5))))
  (fI (gR (fB (aK (tt false) (ag 7) (dS (ae (fK (.str "joined")) (ae (fK (.str "matched")) aj))))) (gR (fB (aK vQ (eV eR (ae (ag 3) aj)) (fK (.int 1)))) (fB (aK BI (eV mH (ae (aK gL (ag 4) (d9 dA (fK (.int 1)))) (ae (aK gL (ag 4) (d9 dA (fK (.int 2)))) aj))) (fK (.int 20))))))
  (aN (cr 9 (nF g8 (ag 3) aj))
  (aN (cr 10 (nF g8 (ag 4) aj))
  (aN (lG (bg (aI ez 5 (ae (bg (ag 0)) (ae (bg (ag 8)) (ae (bg (ag 7)) (ae (bg (aK gL (ag 3) (d9 dA (fK (.int 1))))) (ae (bg (ag 9)) aj))))))) (jb (ag 3) (d9 dA (fK (.int 1)))))
  (lG (bg (aK bH (fK (.int 1)) (eV mH (ae (aK gL (ag 4) (d9 dA (fK (.int 1)))) (ae (ag 10) aj))))) (jb (ag 4) (d9 dA (fK (.int 1))))))))
  (fI (my (fB (aK (tt false) (ag 7) (dS (ae (fK (.str "table")) (ae (fK (.str "joined")) (ae (fK (.str "matched")) aj)))))) (fB (aK vQ (aK gL (ag 4) (d9 dA (fK (.int 1)))) (fK (.int 19)))))
  (aN (d8 (nF lb (ag 3) (ae (dS (ae (fK (.str "table")) (ae (aI cC 2 (ae (bg (ag 0)) (ae (bg (ag 8)) aj))) aj))) aj)))
  (d8 (nF lb (ag 4) (ae (fK (.int 1)) aj))))
  (aN (lG (bg (aI eA 4 (ae (bg (ag 0)) (ae (bg (ag 8)) (ae (bg (ag 7)) (ae (bg (aK gL (ag 3) (d9 dA (fK (.int 1))))) aj)))))) (jb (ag 3) (d9 dA (fK (.int 1)))))
  (lG (bg (aK bH (aK gL (ag 4) (d9 dA (fK (.int 1)))) (fK (.int 1)))) (jb (ag 4) (d9 dA (fK (.int 1)))))))))))
abbrev jg:FS:=(aN (cr 3 (ic (ae (dS (ae (fK (.str "table")) (ae (aI cC 2 (ae (bg (ag 0)) (ae (bg (ag 2)) aj))) aj))) aj)))
  (aN (cr 4 (ic (ae (fK (.int 1)) aj)))
  (aN (kW (oo (ag 1)) (iw 5)
  cJ)
  (aZ (ag 3)))))
noncomputable def eP:MC:=jt 11 (jg)
abbrev bR (F:MW):FS:=(aN (fI (fB (aK (gM false) (ag 1) (fK (.str "ask"))))
  (aZ (fN F 2 (ae (ag 0) (ae (aK bH (ag 2) (fK (.int 1))) aj))))
  bu)
  (aN (fI (my (fB (aK (gM false) (ag 1) (fK (.str "column")))) (fB (aK (gM false) (ag 1) (fK (.str "number")))))
  (aZ (cq "Reader" "number" aG 1 (ag 0) aj))
  bu)
  (aN (fI (fB (aK (gM false) (ag 1) (fK (.str "columns"))))
  (aZ (cq "Reader" "numbers" bm 1 (ag 0) aj))
  bu)
  (aN (fI (fB (aK (gM false) (ag 1) (fK (.str "pairs"))))
  (aZ (eV nQ (ae (gJ [0] 1 (oo (cq "Reader" "many" bq 1 (ag 0) aj)) (iw 0) jG (dS (ae (cq "Reader" "number" aG 1 (ag 1) aj) (ae (cq "Reader" "number" aG 1 (ag 1) aj) aj)))) aj)))
  bu)
  (aZ (cq "Reader" "letters" bo 1 (ag 0) aj))))))
noncomputable def aY (F:MW):MW:=iY 3 (bR F)
abbrev cQ (F:MC):FS:=(fI (eU (d9 (cD "tuple") (ag 3)))
  (cr 1 (aK jH (ag 1) (ic (ae (eV mz (ae (aK gL (ag 3) (fK (.int 0))) aj)) (ae (eV mz (ae (aK gL (ag 3) (fK (.int 1))) aj)) aj)))))
  (d8 (nF lb (ag 1) (ae (eV mz (ae (ag 3) aj)) aj))))
abbrev aX (F:MC):FS:=(fI (eU (d9 (cD "str") (ag 2)))
  (d8 (nF lb (ag 1) (ae (ag 2) aj)))
  (fI (fW (eU (d9 (cD "tuple") (ag 2))))
  (d8 (nF lb (ag 1) (ae (eV mz (ae (ag 2) aj)) aj)))
  (fI (gR (fB (aK vQ (eV eR (ae (ag 2) aj)) (fK (.int 0)))) (eU (d9 (cD "str") (aK gL (ag 2) (fK (.int 0))))))
  (cr 1 (aK jH (ag 1) (cj F 1 (ae (ag 2) aj))))
  (aN (d8 (nF lb (ag 1) (ae (eV mz (ae (eV eR (ae (ag 2) aj)) aj)) aj)))
  (kW (hZ (ag 2)) (iw 3)
  (cQ F))))))
abbrev il (F:MC):FS:=(aN (cr 1 (ic (ae (aK gL (ag 0) (fK (.int 0))) aj)))
  (aN (kW (hZ (Cc (ag 0) (jA (fK (.int 1))) kC)) (iw 2)
  (aX F))
  (aZ (ag 1))))
noncomputable def bO:Nat->MC
 |0=>jt 4 cu
 |n+1=>jt 4 (il (bO n))
abbrev gr (F:MF):FS:=(fI (fW (eU (aI F 2 (ae (bg (aK gL (ag 0) (ag 2))) (ae (bg (aK gL (ag 1) (ag 2))) aj)))))
  (aZ (fK (.bl false)))
  bu)
abbrev e5 (F:MF):FS:=(aN (fI (eU (d9 (cD "tuple") (ag 1)))
  (aN (fI (my (fW (eU (d9 (cD "tuple") (ag 0)))) (fB (aK (gM true) (eV eR (ae (ag 0) aj)) (eV eR (ae (ag 1) aj)))))
  (aZ (fK (.bl false)))
  bu)
  (aN (kW (oo (eV eR (ae (ag 1) aj))) (iw 2)
  (gr F))
  (aZ (fK (.bl true)))))
  bu)
  (aN (fI (eU (d9 (cD "str") (ag 1)))
  (aZ (qH (d9 (cD "str") (ag 0)) (aK (gM false) (ag 0) (ag 1))))
  bu)
  (aZ (qH (d9 (cD "int") (ag 0)) (qH (yb (d9 (cD "bool") (ag 0))) (aK (gM false) (ag 0) (ag 1)))))))
noncomputable def cB:Nat->MF
 |0=>ei 3 cu
 |n+1=>ei 3 (e5 (cB n))
abbrev fM (F:MC):FS:=(d8 (nF oq (ag 1) (ae (cj (ca F) 2 (ae (ag 2) (ae (ag 3) aj))) aj)))
abbrev im (F:MC):FS:=(aN (cr 1 (ic (ae (aK gL (ag 0) (fK (.int 0))) aj)))
  (aN (kW (hZ (cj hG 1 (ae (ag 0) aj))) (Ct 2 (ja (iw 2) (ja (iw 3) pH)))
  (fM F))
  (aZ (ag 1))))
noncomputable def bP:Nat->MC
 |0=>jt 4 cu
 |n+1=>jt 4 (im (bP n))
abbrev ij:FS:=(aZ (aK lR (fK (.str " ")) (cj (bP 24) 1 (ae (ag 0) aj))))
noncomputable def dM:MF:=ei 1 (ij)
abbrev ik (F:MW):FS:=(aN (fI (fB (aK vQ (ag 1) (fK (.int (20)))))
  cu
  bu)
  (aN (cr 2 (cq "Reader" "word" aU 1 (ag 0) aj))
  (aN (cr 3 (aI cI 1 (ae (bg (ag 2)) aj)))
  (aN (fI (fB (d9 (Cs false .non) (ag 3)))
  cu
  bu)
  (aZ (eV nQ (ae (aK jH (ic (ae (ag 2) aj)) (gJ [0,1] 1 (hZ (ag 3)) (iw 0) jG (fN (aY F) 3 (ae (ag 1) (ae (ag 0) (ae (ag 2) aj)))))) aj)))))))
noncomputable def bt:Nat->MW
 |0=>iY 4 cu
 |n+1=>iY 4 (ik (bt n))
abbrev je:FS:=(aN (cr 1 (lX "Reader" bT 2 (ae (ag 0) aj)))
  (aN (cr 2 (fN (bt 24) 2 (ae (ag 1) (ae (fK (.int 1)) aj))))
  (aN (d8 (cq "Reader" "finish" bI 1 (ag 1) aj))
  (aZ (ag 2)))))
noncomputable def cA:MF:=ei 3 (je)
abbrev n6:FS:=(aN (cr 2 (aK lR (fK (.str " ")) (cj (bO 24) 1 (ae (ag 1) aj))))
  (aN (cr 3 (aI dM 1 (ae (bg (ag 1)) aj)))
  (fI (my (fW (eU (d9 (cD "str") (ag 3)))) (my (fB (aK (gM true) (ag 3) (ag 2))) (fW (eU (aI (cB 24) 2 (ae (bg (aI cA 1 (ae (bg (ag 2)) aj))) (ae (bg (ag 1)) aj)))))))
  (aZ (fK (.bl false)))
  bu)))
abbrev wc:FS:=(aN (kW (hZ (cj eP 3 (ae (ag 0) (ae (eV vz (ae (eV eR (ae (ag 0) aj)) (ae (fK (.int 63)) aj))) (ae (fK (.int 63)) aj))))) (iw 1)
  n6)
  (aZ (aK (gM false) (aI cA 1 (ae (fK (.str "joined table a pick table b 0 over 5 less")) aj)) (dS (ae (fK (.str "joined")) (ae (dS (ae (fK (.str "table")) (ae (fK (.str "a")) aj))) (ae (dS (ae (fK (.str "pick")) (ae (dS (ae (fK (.str "table")) (ae (fK (.str "b")) aj))) (ae (fK (.int 0)) (ae (fK (.str "over")) (ae (fK (.int 5)) aj)))))) (ae (fK (.str "less")) aj))))))))
noncomputable def pv:MF:=ei 4 (wc)
noncomputable def zs:Tn:=["len","range","tuple","list","zip","isinstance","str","all","int","max","bool","min"]
def F9 (mg:Td)(l:Tn):Prop:=∀(i:Nat) (x:Str),l[i]?=some x->mg x=none
def zT {mg:Td}:F9 mg []:=λi x e=>by simp at e
theorem cS {mg:Td}{x:Str}{l:Tn}(h:mg x=none)(t:F9 mg l):F9 mg (x::l):=λi y e=>by
 cases i with
 |zero=>cases e;exact h
 |succ i=>exact t i y e
def Zs (mg:Td):Prop:=F9 mg zs
structure CF (K:AF)(mg:Td)(C:Addr):Prop where
 n:jK K mg "Reader" C
 a_words:c7 K C "words"
 a_place:c7 K C "place"
 mks:PySem.W.makesIn K C=true
 kp:PySem.W.keepIn K (.ref C)=true
section
variable {P:A7}{w:AB}{K:AF}{mg:Td}{base:AD}{qC:A6}(cf:CF K mg qC)
include cf
set_option maxHeartbeats 4000000
theorem mO (z:Zs mg)(d:fU K qC "__init__" "Reader.__init__" eI ["self","text"])(i8:b8 P w K mg base 2 "words_of" ["text"] cW):bS P w K mg base 3 "__init__" qC ["self","text"] bT :=
 xI (k:=2) d lE λf AO A outer s H E hr=>
  (ap (zr cf.n cf.a_words (af 0) (cn i8 (hr.mono ∅) (ab (af 1) ai)))
  (aq (zr cf.n cf.a_place (af 0) am)))
theorem mM (z:Zs mg)(d:fU K qC "word" "Reader.word" eF ["self"])  : bS P w K mg base 1 "word" qC ["self"] aU :=
 xI (k:=0) d lC λf AO A outer s H E hr=>
  (ap (b6 (fF hr.units (nj cf.n cf.a_place (af 0)) (eM rfl (z 0 _ rfl) (ab (nj cf.n cf.a_words (af 0)) ai)))
  (aq di)
  bB)
  (ap (JBd cf.n cf.a_place (af 0) am)
  (aq (aL (e8 (nj cf.n cf.a_words (af 0)) (ng (nj cf.n cf.a_place (af 0)) am))))))
theorem kh (z:Zs mg)(d:fU K qC "letters" "Reader.letters" df ["self"])(eS:bz P w K mg base 2 "read_letters" ["text"] bZ)(Jaa:bS P w K mg base 1 "word" qC ["self"] aU):bS P w K mg base 3 "letters" qC ["self"] bo :=
 xI (k:=2) d js λf AO A outer s H E hr=>
  (aq (aL (ax eS (hr.mono ∅) (ab (aJ (b5 cf.n Jaa (hr.mono ∅) (af 0))) ai))))
theorem k7 (z:Zs mg)(d:fU K qC "number" "Reader.number" dw ["self"])(cg:bz P w K mg base 2 "read_number" ["text"] bV)(Jaa:bS P w K mg base 1 "word" qC ["self"] aU):bS P w K mg base 3 "number" qC ["self"] aG :=
 xI (k:=2) d j2 λf AO A outer s H E hr=>
  (aq (aL (ax cg (hr.mono ∅) (ab (aJ (b5 cf.n Jaa (hr.mono ∅) (af 0))) ai))))
theorem mN (z:Zs mg)(d:fU K qC "many" "Reader.many" eG ["self"])(cZ:bz P w K mg base 3 "read_number_from" ["text","least"] bE)(Jaa:bS P w K mg base 1 "word" qC ["self"] aU):bS P w K mg base 4 "many" qC ["self"] bq :=
 xI (k:=3) d lD λf AO A outer s H E hr=>
  (aq (aL (ax cZ (hr.mono ∅) (ab (aJ (b5 cf.n Jaa (hr.mono ∅) (af 0))) (ab am ai)))))
theorem kg (z:Zs mg)(d:fU K qC "numbers" "Reader.numbers" cm ["self"])(Jab:bS P w K mg base 3 "number" qC ["self"] aG)(Jac:bS P w K mg base 4 "many" qC ["self"] bq):bS P w K mg base 5 "numbers" qC ["self"] bm :=
 xI (k:=4) d jr λf AO A outer s H E hr=>
  (aq (aL (jv rfl (z 2 _ rfl) (ab (gm [0] ["place"] ["self"] rfl (show bp (ah cm) _ ["place"] ["self"] by ac_rfl) (tu rfl (z 1 _ rfl) (b5 cf.n Jac (hr.mono ∅) (af 0))) (λcl C s₂ H₂ fp=>{(iG 0 (show(["place","self"]:Tn).Nodup by decide)),lW,(b5 cf.n Jab (hr.mono ∅) (af 1))})) ai))))
theorem k8 (z:Zs mg)(d:fU K qC "finish" "Reader.finish" dz ["self"])  : bS P w K mg base 1 "finish" qC ["self"] bI :=
 xI (k:=0) d j3 λf AO A outer s H E hr=>
  (aq (b6 (wE hr.units (nj cf.n cf.a_place (af 0)) (eM rfl (z 0 _ rfl) (ab (nj cf.n cf.a_words (af 0)) ai)))
  (aq di)
  bB))
theorem s9 (z:Zs mg)(d:bj K mg "form_of" iU ["word"])(Ja9:sf K w mg "FORMS" l3):bz P w K mg base 1 "form_of" ["word"] cI :=
 okP (k:=0) d qd λf AO A outer s H E hr=>
  (aq (aL (JAd Ja9 (af 0))))
theorem vL (z:Zs mg)(d:bj K mg "formed" jZ ["ask"])(dC:bz P w K mg base 1 "form_of" ["word"] cI):b8 P w K mg base 2 "formed" ["ask"] hG :=
 okN (k:=1) d sw λf AO A outer s H E hr=>
  (aq (aL (JDk rfl rfl (z 3 _ rfl) rfl (z 4 _ rfl) (ax dC (hr.mono ∅) (ab (aJ (e8 (af 0) am)) ai)) (DF (af 0) (vb am) AZ))))
theorem og (z:Zs mg)(d:bj K mg "check_text" fH ["thing"])  : bz P w K mg base 1 "check_text" ["thing"] bA :=
 okP (k:=0) d mF λf AO A outer s H E hr=>
  (aq (b6 (ky (fe (gG eB rfl (z 5 _ rfl) rfl (z 6 _ rfl) eC (af 0))))
  (aq di)
  bB))
theorem oa (z:Zs mg)(d:bj K mg "is_made_of" dH ["text","signs","most"])  : bz P w K mg base 1 "is_made_of" ["text","signs","most"] bQ :=
 okP (k:=0) d mD λf AO A outer s H E hr=>
  (aq (aL (rk (Gp am (JAb rfl (z 0 _ rfl) (ab (af 0) ai)) (af 2)) (va (JDq rfl rfl (z 7 _ rfl) (ab (gm [1] ["sign"] ["signs"] rfl (show bp (ah dH) _ ["sign"] ["signs"] by ac_rfl) (JDc (af 0)) (λcl C s₂ H₂ fp=>{(iG 0 (show(["sign","signs"]:Tn).Nodup by decide)),lW,(JDo (af 0) (af 1))})) ai))))))
theorem lO (z:Zs mg)(d:bj K mg "write_number" dP ["number"])  : bz P w K mg base 1 "write_number" ["number"] aM :=
 okP (k:=0) d kT λf AO A outer s H E hr=>
  (aq (aL (j4 rfl (z 6 _ rfl) (ab (af 0) ai))))
theorem mK (z:Zs mg)(d:bj K mg "read_number" eE ["text"])(cL:bz P w K mg base 1 "check_text" ["thing"] bA)(cK:bz P w K mg base 1 "is_made_of" ["text","signs","most"] bQ)(Jaq:dG K mg "FIGURES" (.str "0123456789"))(Jaj:dG K mg "MOST_FIGURES" (.int (60))):bz P w K mg base 2 "read_number" ["text"] bV :=
 okP (k:=1) d gZ λf AO A outer s H E hr=>
  (ap (eK (ax cL (hr.mono ∅) (ab (aJ (af 0)) ai)))
  (ap (bD 1 gZ.nd (Go (fe (Gn (af 0) aF)) (JDl (af 0) (vb am) AZ) (af 0)))
  (ap (b6 (ky (fe (ax cK (hr.mono ∅) (ab (aJ (af 1)) (ab (aJ (gl Jaq)) (ab (aJ (gl Jaj)) ai))))))
  (aq di)
  bB)
  (ap (b6 (y4 (qV (fF hr.units (zG (af 1) am) aF) (pT (wE hr.units (af 0) aF))))
  (aq di)
  bB)
  (aq (aL (JAc rfl (z 8 _ rfl) (ab (af 0) ai))))))))
theorem i6 (z:Zs mg)(d:bj K mg "read_number_from" cN ["text","least"])(cg:bz P w K mg base 2 "read_number" ["text"] bV):bz P w K mg base 3 "read_number_from" ["text","least"] bE :=
 okP (k:=2) d d6 λf AO A outer s H E hr=>
  (ap (bD 2 d6.nd (ax cg (hr.mono ∅) (ab (aJ (af 0)) ai)))
  (ap (b6 (Aj (af 2) (af 1))
  (aq di)
  bB)
  (aq (aL (af 2)))))
theorem kY (z:Zs mg)(d:bj K mg "write_numbers" cG ["numbers"])(aH:bz P w K mg base 1 "write_number" ["number"] aM):b8 P w K mg base 2 "write_numbers" ["numbers"] be :=
 okN (k:=1) d j0 λf AO A outer s H E hr=>
  (aq (aL (gm [] ["number"] [] rfl (show bp (ah cG) _ ["number"] [] by ac_rfl) (kK (af 0)) (λcl C s₂ H₂ fp=>{(iG 0 (show(["number"]:Tn).Nodup by decide)),lW,(ax aH (hr.mono ∅) (ab (aJ (af 0)) ai))}))))
theorem kZ (z:Zs mg)(d:bj K mg "write_counted" du ["numbers"])(bK:b8 P w K mg base 2 "write_numbers" ["numbers"] be)(aH:bz P w K mg base 1 "write_number" ["number"] aM):b8 P w K mg base 3 "write_counted" ["numbers"] bJ :=
 okN (k:=2) d j1 λf AO A outer s H E hr=>
  (aq (aL (nX (fq (ab (ax aH (hr.mono ∅) (ab (aJ (eM rfl (z 0 _ rfl) (ab (af 0) ai))) ai)) ai)) (cn bK (hr.mono ∅) (ab (af 0) ai)))))
theorem lP (z:Zs mg)(d:bj K mg "read_letters" dQ ["text"])(cK:bz P w K mg base 1 "is_made_of" ["text","signs","most"] bQ)(Jag:dG K mg "SMALL_LETTERS" (.str "abcdefghijklmnopqrstuvwxyz"))(Jak:dG K mg "MOST_LETTERS" (.int (8))):bz P w K mg base 2 "read_letters" ["text"] bZ :=
 okP (k:=1) d kU λf AO A outer s H E hr=>
  (ap (b6 (ky (fe (ax cK (hr.mono ∅) (ab (aJ (af 0)) (ab (aJ (gl Jag)) (ab (aJ (gl Jak)) ai))))))
  (aq di)
  bB)
  (aq (aL (af 0))))
theorem qu (z:Zs mg)(d:bj K mg "words_of" gS ["text"])(cL:bz P w K mg base 1 "check_text" ["thing"] bA):b8 P w K mg base 2 "words_of" ["text"] cW :=
 okN (k:=1) d oX λf AO A outer s H E hr=>
  (ap (eK (ax cL (hr.mono ∅) (ab (aJ (af 0)) ai)))
  (aq (aL (xj (af 0) aF))))
theorem mI {F:MC}{L:Nat}(hL:4<=L)(z:Zs mg)(d:bj K mg "write_thing" db ["kind","thing"])(bM:b8 P w K mg base 3 "write_counted" ["numbers"] bJ)(cc:b8 P w K mg base 3 "write_pairs" ["pairs"] cb)(aH:bz P w K mg base 1 "write_number" ["number"] aM)(cF:b8 P w K mg base L "ask_words" ["ask"] F):b8 P w K mg base (L+1) "write_thing" ["kind","thing"] (ca F) :=
 okN (k:=L) d ly λf AO A outer s H E hr=>
  (ap (b6 (fF hr.units (af 0) aF)
  (aq (aL (cn cF (hr.mono ∅) (ab (af 1) ai))))
  bB)
  (ap (b6 (y4 (sh (fF hr.units (af 0) aF) (oK (fF hr.units (af 0) aF))))
  (aq (aL (fq (ab (ax aH (hr.mono ∅) (ab (aJ (af 1)) ai)) ai))))
  bB)
  (ap (b6 (fF hr.units (af 0) aF)
  (aq (aL (cn bM (hr.mono ∅) (ab (af 1) ai))))
  bB)
  (ap (b6 (fF hr.units (af 0) aF)
  (aq (aL (cn cc (hr.mono ∅) (ab (af 1) ai))))
  bB)
  (aq (aL (fq (ab (af 1) ai))))))))
theorem mJ (z:Zs mg)(d:bj K mg "write_pairs" eD ["pairs"])(aH:bz P w K mg base 1 "write_number" ["number"] aM)(bK:b8 P w K mg base 2 "write_numbers" ["numbers"] be):b8 P w K mg base 3 "write_pairs" ["pairs"] cb :=
 okN (k:=2) d eJ λf AO A outer s H E hr=>
  (ap (bD 1 eJ.nd (fq (ab (ax aH (hr.mono ∅) (ab (aJ (eM rfl (z 0 _ rfl) (ab (af 0) ai))) ai)) ai)))
  (ap (kz rfl (kK (af 0)) (iG 2 eJ.nd)
  (aq (eK (nk (af 1) (ab (cn bK (hr.mono ∅) (ab (af 2) ai)) ai)))) PassesOwn.never)
  (aq (aL (af 1)))))
theorem kJ (z:Zs mg)(d:bj K mg "ask_words" gk ["ask"])(Jaf:bj K mg "write_thing" db ["kind","thing"])(jD:b8 P w K mg base 2 "formed" ["ask"] hG)(bM:b8 P w K mg base 3 "write_counted" ["numbers"] bJ)(cc:b8 P w K mg base 3 "write_pairs" ["pairs"] cb)(aH:bz P w K mg base 1 "write_number" ["number"] aM):∀n,b8 P w K mg base (5+2*n) "ask_words" ["ask"] (bP n)
 |0=>okN (k:=4) d dh λf AO A outer s H E hr=>fX
 |n+1=>by
  have cF:=kJ z d Jaf jD bM cc aH n;have mP:=mI cf (L:=5+2*n) ∅ z Jaf bM cc aH cF;exact okN (k:=5+2*n+1) d dh λf AO A outer s H E hr=>
  (ap (bD 1 dh.nd (fq (ab (e8 (af 0) am) ai)))
  (ap (kz rfl (kK (cn jD (hr.mono ∅) (ab (af 0) ai))) (GG rfl (rN (iG 2 dh.nd) (rN (iG 3 dh.nd) JB8)))
  (aq (eK (nk (af 1) (ab (cn mP (hr.mono ∅) (ab (af 2) (ab (af 3) ai))) ai)))) PassesOwn.never)
  (aq (aL (af 1)))))
theorem pC (z:Zs mg)(d:bj K mg "write_ask" gh ["ask"])(cF:b8 P w K mg base 53 "ask_words" ["ask"] (bP 24)):bz P w K mg base 54 "write_ask" ["ask"] dM :=
 okP (k:=53) d nU λf AO A outer s H E hr=>
  (aq (aL (vc aF (cn cF (hr.mono ∅) (ab (af 0) ai)))))
theorem n8 {F:MW}{L:Nat}(hL:6<=L)(z:Zs mg)(d:bj K mg "read_thing" cP ["reader","kind","deep"])(Jad:bS P w K mg base 3 "letters" qC ["self"] bo)(Jab:bS P w K mg base 3 "number" qC ["self"] aG)(Jae:bS P w K mg base 5 "numbers" qC ["self"] bm)(Jac:bS P w K mg base 4 "many" qC ["self"] bq)(cE:kO P w K mg base L "read_part" ["reader","deep"] F):kO P w K mg base (L+1) "read_thing" ["reader","kind","deep"] (aY F) :=
 okW (k:=L) d mC λf AO A outer s H E hr=>
  (ap (b6 (fF hr.units (af 1) aF)
  (aq (aL (jw cE (hr.mono ∅) (ab (af 0) (ab (aT (af 2) am) ai)))))
  bB)
  (ap (b6 (y4 (sh (fF hr.units (af 1) aF) (oK (fF hr.units (af 1) aF))))
  (aq (aL (b5 cf.n Jab (hr.mono ∅) (af 0))))
  bB)
  (ap (b6 (fF hr.units (af 1) aF)
  (aq (aL (b5 cf.n Jae (hr.mono ∅) (af 0))))
  bB)
  (ap (b6 (fF hr.units (af 1) aF)
  (aq (aL (jv rfl (z 2 _ rfl) (ab (gm [0] ["place"] ["reader"] rfl (show bp (ah cP) _ ["place"] ["reader"] by ac_rfl) (tu rfl (z 1 _ rfl) (b5 cf.n Jac (hr.mono ∅) (af 0))) (λcl C s₂ H₂ fp=>{(iG 0 (show(["place","reader"]:Tn).Nodup by decide)),lW,(dL (ab (b5 cf.n Jab (hr.mono ∅) (af 1)) (ab (b5 cf.n Jab (hr.mono ∅) (af 1)) ai)))})) ai))))
  bB)
  (aq (aL (b5 cf.n Jad (hr.mono ∅) (af 0))))))))
theorem kH (z:Zs mg)(d:bj K mg "read_part" eg ["reader","deep"])(Jah:bj K mg "read_thing" cP ["reader","kind","deep"])(Jaa:bS P w K mg base 1 "word" qC ["self"] aU)(dC:bz P w K mg base 1 "form_of" ["word"] cI)(Jap:dG K mg "DEEPEST" (.int (20)))(Jad:bS P w K mg base 3 "letters" qC ["self"] bo)(Jab:bS P w K mg base 3 "number" qC ["self"] aG)(Jae:bS P w K mg base 5 "numbers" qC ["self"] bm)(Jac:bS P w K mg base 4 "many" qC ["self"] bq):∀n,kO P w K mg base (7+2*n) "read_part" ["reader","deep"] (bt n)
 |0=>okW (k:=6) d eh λf AO A outer s H E hr=>fX
 |n+1=>by
  have cE:=kH z d Jah Jaa dC Jap Jad Jab Jae Jac n;have om:=n8 cf (L:=7+2*n) ∅ z Jah Jad Jab Jae Jac cE;exact okW (k:=7+2*n+1) d eh λf AO A outer s H E hr=>
  (ap (b6 (wF (af 1) (gl Jap))
  (aq di)
  bB)
  (ap (bD 2 eh.nd (b5 cf.n Jaa (hr.mono ∅) (af 0)))
  (ap (bD 3 eh.nd (ax dC (hr.mono ∅) (ab (aJ (af 2)) ai)))
  (ap (b6 (JC0 (af 3))
  (aq di)
  bB)
  (aq (aL (jv rfl (z 2 _ rfl) (ab (nX (fq (ab (af 2) ai)) (gm [0,1] ["kind"] ["reader","deep"] rfl (show bp (ah eg) _ ["kind"] ["reader","deep"] by ac_rfl) (kK (af 3)) (λcl C s₂ H₂ fp=>{(iG 0 (show(["kind","reader","deep"]:Tn).Nodup by decide)),lW,(jw om (hr.mono ∅) (ab (af 1) (ab (af 0) (ab (af 2) ai))))}))) ai))))))))
theorem qv (z:Zs mg)(d:bj K mg "read_ask" gT ["text"])(Jam:bS P w K mg base 3 "__init__" qC ["self","text"] bT)(cE:kO P w K mg base 55 "read_part" ["reader","deep"] (bt 24))(Jai:bS P w K mg base 1 "finish" qC ["self"] bI):bz P w K mg base 56 "read_ask" ["text"] cA :=
 okP (k:=55) d g0 λf AO A outer s H E hr=>
  (ap (bD 1 g0.nd (nW cf.n cf.mks cf.kp Jam (hr.mono ∅) (ab (af 0) ai)))
  (ap (bD 2 g0.nd (jw cE (hr.mono ∅) (ab (af 1) (ab am ai))))
  (ap (eK (b5 cf.n Jai (hr.mono ∅) (af 1)))
  (aq (aL (af 2))))))
theorem qx (z:Zs mg)(d:bj K mg "_law_draw" gX ["script","k","many"])  : bz P w K mg base 1 "_law_draw" ["script","k","many"] ar :=
 okP (k:=0) d fj λf AO A outer s H E hr=>
  (ap (b6 (fF hr.units (eM rfl (z 0 _ rfl) (ab (af 0) ai)) am)
  (aq (aL am))
  bB)
  (ap (bD 3 fj.nd (kB (e8 (af 0) (kB (af 1) (eM rfl (z 0 _ rfl) (ab (af 0) ai)))) am))
  (ap (bD 4 fj.nd (kB (ni (aT (af 3) am) (aT am (ni am (af 1)))) am))
  (ap (bD 4 fj.nd (kB (ni (aT (af 4) (af 1)) (aT (af 4) am)) am))
  (aq (aL (kB (JDp (af 4) am) (af 2))))))))
theorem sZ (z:Zs mg)(d:bj K mg "_law_far" iR ["script","k"])(au:bz P w K mg base 1 "_law_draw" ["script","k","many"] ar):bz P w K mg base 2 "_law_far" ["script","k"] f8 :=
 okP (k:=1) d lB λf AO A outer s H E hr=>
  (ap (b6 (fF hr.units (eM rfl (z 0 _ rfl) (ab (af 0) ai)) am)
  (aq (aL am))
  bB)
  (ap (bD 2 lB.nd (aT (ax au (hr.mono ∅) (ab (aJ (af 0)) (ab (aJ (af 1)) (ab am ai)))) am))
  (aq (aL (kB (aT (ni (kB (e8 (af 0) (kB (af 1) (eM rfl (z 0 _ rfl) (ab (af 0) ai)))) (nh am am)) (af 2)) (nh (af 2) am)) (nh am am))))))
theorem qw (z:Zs mg)(d:bj K mg "_law_name" gW ["script","k"])(au:bz P w K mg base 1 "_law_draw" ["script","k","many"] ar):bz P w K mg base 2 "_law_name" ["script","k"] cC :=
 okP (k:=1) d fg λf AO A outer s H E hr=>
  (ap (bD 2 fg.nd aF)
  (ap (kz rfl (tu rfl (z 1 _ rfl) (aT am (ax au (hr.mono ∅) (ab (aJ (af 0)) (ab (aJ (af 1)) (ab am ai)))))) (iG 3 fg.nd)
  (aq (bD 2 fg.nd (aT (af 2) (zG aF (ax au (hr.mono ∅) (ab (aJ (af 0)) (ab (aJ (aT (aT (af 1) am) (af 3))) (ab am ai)))))))) PassesOwn.never)
  (aq (aL (af 2)))))
theorem n9 (z:Zs mg)(d:bj K mg "_law_number" fG ["script","k"])(au:bz P w K mg base 1 "_law_draw" ["script","k","many"] ar)(kl:bz P w K mg base 2 "_law_far" ["script","k"] f8):bz P w K mg base 3 "_law_number" ["script","k"] cH :=
 okP (k:=2) d iK λf AO A outer s H E hr=>
  (ap (bD 2 iK.nd (ax au (hr.mono ∅) (ab (aJ (af 0)) (ab (aJ (af 1)) (ab am ai)))))
  (ap (b6 (Aj (af 2) am)
  (aq (aL (ng (ax au (hr.mono ∅) (ab (aJ (af 0)) (ab (aJ (aT (af 1) am)) (ab am ai)))) am)))
  bB)
  (ap (b6 (fF hr.units (af 2) am)
  (aq (aL (ng (ng (nh am am) am) (ax au (hr.mono ∅) (ab (aJ (af 0)) (ab (aJ (aT (af 1) am)) (ab am ai)))))))
  bB)
  (ap (b6 (fF hr.units (af 2) am)
  (aq (aL (aT (ng am (nh am am)) (ax au (hr.mono ∅) (ab (aJ (af 0)) (ab (aJ (aT (af 1) am)) (ab am ai)))))))
  bB)
  (aq (aL (ng (ax kl (hr.mono ∅) (ab (aJ (af 0)) (ab (aJ (aT (af 1) am)) ai))) (ni am (nh am am)))))))))
theorem mL (z:Zs mg)(d:bj K mg "_law_columns" de ["script","k"])(au:bz P w K mg base 1 "_law_draw" ["script","k","many"] ar):bz P w K mg base 2 "_law_columns" ["script","k"] bC :=
 okP (k:=1) d g7 λf AO A outer s H E hr=>
  (ap (bD 2 g7.nd (ax au (hr.mono ∅) (ab (aJ (af 0)) (ab (aJ (af 1)) (ab am ai)))))
  (aq (aL (jv rfl (z 2 _ rfl) (ab (gm [0,1] ["j"] ["script","k"] rfl (show bp (ah de) _ ["j"] ["script","k"] by ac_rfl) (tu rfl (z 1 _ rfl) (af 2)) (λcl C s₂ H₂ fp=>{(iG 0 (show(["j","script","k"]:Tn).Nodup by decide)),lW,(ax au (hr.mono ∅) (ab (aJ (af 1)) (ab (aJ (aT (aT (af 2) am) (af 0))) (ab am ai))))})) ai)))))
theorem sY (z:Zs mg)(d:bj K mg "_law_one" iQ ["script","k","kind","part"])(bW:bz P w K mg base 2 "_law_columns" ["script","k"] bC)(au:bz P w K mg base 1 "_law_draw" ["script","k","many"] ar)(ej:bz P w K mg base 3 "_law_number" ["script","k"] cH):bz P w K mg base 4 "_law_one" ["script","k","kind","part"] eA :=
 okP (k:=3) d iX λf AO A outer s H E hr=>
  (ap (b6 (fF hr.units (af 2) aF)
  (ap (bD 4 iX.nd (e8 (fq (ab aF (ab aF (ab aF (ab aF ai))))) (ax au (hr.mono ∅) (ab (aJ (af 0)) (ab (aJ (aT (af 1) am)) (ab am ai))))))
  (aq (aL (dL (ab (af 2) (ab (af 3) (ab (ax au (hr.mono ∅) (ab (aJ (af 0)) (ab (aJ (aT (af 1) am)) (ab am ai)))) (ab (af 4) (ab (ax ej (hr.mono ∅) (ab (aJ (af 0)) (ab (aJ (aT (af 1) am)) ai))) ai)))))))))
  bB)
  (ap (b6 (fF hr.units (af 2) aF)
  (aq (aL (dL (ab (af 2) (ab (af 3) (ab (ax au (hr.mono ∅) (ab (aJ (af 0)) (ab (aJ (aT (af 1) am)) (ab am ai)))) (ab (ax au (hr.mono ∅) (ab (aJ (af 0)) (ab (aJ (aT (af 1) am)) (ab am ai)))) ai)))))))
  bB)
  (ap (b6 (fF hr.units (af 2) aF)
  (ap (bD 4 iX.nd (e8 (fq (ab aF (ab aF (ab aF (ab aF (ab aF (ab aF (ab aF ai)))))))) (ax au (hr.mono ∅) (ab (aJ (af 0)) (ab (aJ (aT (af 1) am)) (ab am ai))))))
  (aq (aL (dL (ab (af 2) (ab (af 3) (ab (af 4) (ab (ax ej (hr.mono ∅) (ab (aJ (af 0)) (ab (aJ (aT (af 1) am)) ai))) ai))))))))
  bB)
  (ap (b6 (fF hr.units (af 2) aF)
  (aq (aL (dL (ab (af 2) (ab (af 3) (ab (ax bW (hr.mono ∅) (ab (aJ (af 0)) (ab (aJ (aT (af 1) am)) ai))) (ab (ax au (hr.mono ∅) (ab (aJ (af 0)) (ab (aJ (aT (af 1) am)) (ab am ai)))) ai)))))))
  bB)
  (aq (aL (dL (ab (af 2) (ab (af 3) (ab (ax bW (hr.mono ∅) (ab (aJ (af 0)) (ab (aJ (aT (af 1) am)) ai))) ai))))))))))
theorem sX (z:Zs mg)(d:bj K mg "_law_two" gj ["script","k","kind","part","other"])(bW:bz P w K mg base 2 "_law_columns" ["script","k"] bC)(au:bz P w K mg base 1 "_law_draw" ["script","k","many"] ar):bz P w K mg base 3 "_law_two" ["script","k","kind","part","other"] ez :=
 okP (k:=2) d lz λf AO A outer s H E hr=>
  (ap (b6 (fF hr.units (af 2) aF)
  (aq (aL (dL (ab (af 2) (ab (af 3) (ab (af 4) (ab (e8 (fq (ab aF (ab aF (ab aF (ab aF (ab aF ai)))))) (ax au (hr.mono ∅) (ab (aJ (af 0)) (ab (aJ (aT (af 1) am)) (ab am ai))))) ai)))))))
  bB)
  (ap (bD 5 lz.nd (ax bW (hr.mono ∅) (ab (aJ (af 0)) (ab (aJ (aT (af 1) am)) ai))))
  (aq (aL (dL (ab (af 2) (ab (af 3) (ab (af 4) (ab (jv rfl (z 2 _ rfl) (ab (gm [0,1] ["column"] ["script","k"] rfl (show bp (ah gj) _ ["column"] ["script","k"] by ac_rfl) (kK (af 5)) (λcl C s₂ H₂ fp=>{(iG 0 (show(["column","script","k"]:Tn).Nodup by decide)),lW,(dL (ab (af 0) (ab (ax au (hr.mono ∅) (ab (aJ (af 1)) (ab (aJ (aT (af 2) am)) (ab am ai)))) ai)))})) ai)) ai)))))))))
theorem qy (z:Zs mg)(d:bj K mg "_law_asks" gY ["script","many","base"])(gx:bz P w K mg base 2 "_law_name" ["script","k"] cC)(au:bz P w K mg base 1 "_law_draw" ["script","k","many"] ar)(ki:bz P w K mg base 3 "_law_two" ["script","k","kind","part","other"] ez)(kj:bz P w K mg base 4 "_law_one" ["script","k","kind","part"] eA):b8 P w K mg base 5 "_law_asks" ["script","many","base"] eP :=
 okN (k:=4) d bN λf AO A outer s H E hr=>
  (ap (bD 3 bN.nd (fq (ab (dL (ab aF (ab (ax gx (hr.mono ∅) (ab (aJ (af 0)) (ab (aJ (af 2)) ai))) ai))) ai)))
  (ap (bD 4 bN.nd (fq (ab am ai)))
  (ap (kz rfl (tu rfl (z 1 _ rfl) (af 1)) (iG 5 bN.nd)
  (ap (bD 6 bN.nd (fq (ab aF (ab aF (ab aF (ab aF (ab aF (ab aF (ab aF (ab aF (ab aF (ab aF ai))))))))))))
  (ap (bD 7 bN.nd (e8 (af 6) (ax au (hr.mono ∅) (ab (aJ (af 0)) (ab (aJ (af 5)) (ab am ai))))))
  (ap (bD 8 bN.nd (aT (aT (af 2) am) (ni am (af 5))))
  (aq (b6 (y4 (qV (zb (af 7) (dL (ab aF (ab aF ai)))) (qV (wF (eM rfl (z 0 _ rfl) (ab (af 3) ai)) am) (pT (Aj (zF rfl rfl (z 9 _ rfl) (ab (e8 (af 4) (fZ am)) (ab (e8 (af 4) (fZ am)) ai))) am)))))
  (ap (bD 9 bN.nd (u9 (af 3)))
  (ap (bD 10 bN.nd (u9 (af 4)))
  (ap (rc (aJ (ax ki (hr.mono ∅) (ab (aJ (af 0)) (ab (aJ (af 8)) (ab (aJ (af 7)) (ab (aJ (e8 (af 3) (fZ am))) (ab (aJ (af 9)) ai))))))) (xY hr.units (af 3) (fZ am)))
  (aq (rc (aJ (aT am (zF rfl rfl (z 9 _ rfl) (ab (e8 (af 4) (fZ am)) (ab (af 10) ai))))) (xY hr.units (af 4) (fZ am)))))))
  (aq (b6 (y4 (sh (zb (af 7) (dL (ab aF (ab aF (ab aF ai))))) (oK (wF (e8 (af 4) (fZ am)) am))))
  (ap (eK (nq (af 3) (ab (dL (ab aF (ab (ax gx (hr.mono ∅) (ab (aJ (af 0)) (ab (aJ (af 8)) ai))) ai))) ai)))
  (aq (eK (nq (af 4) (ab am ai)))))
  (ap (rc (aJ (ax kj (hr.mono ∅) (ab (aJ (af 0)) (ab (aJ (af 8)) (ab (aJ (af 7)) (ab (aJ (e8 (af 3) (fZ am))) ai)))))) (xY hr.units (af 3) (fZ am)))
  (aq (rc (aJ (aT (e8 (af 4) (fZ am)) am)) (xY hr.units (af 4) (fZ am)))))))))))) PassesOwn.never)
  (aq (aL (af 3))))))
theorem kI (z:Zs mg)(d:bj K mg "_law_words" gi ["ask"])   : ∀n,b8 P w K mg base (2+1*n) "_law_words" ["ask"] (bO n)
 |0=>okN (k:=1) d b4 λf AO A outer s H E hr=>fX
 |n+1=>by
  have dN:=kI z d   n;exact okN (k:=2+1*n) d b4 λf AO A outer s H E hr=>
  (ap (bD 1 b4.nd (fq (ab (e8 (af 0) am) ai)))
  (ap (kz rfl (kK (DF (af 0) (vb am) AZ)) (iG 2 b4.nd)
  (aq (b6 (fe (gG eB rfl (z 5 _ rfl) rfl (z 6 _ rfl) eC (af 2)))
  (aq (eK (nq (af 1) (ab (af 2) ai))))
  (aq (b6 (ky (fe (gG fu rfl (z 5 _ rfl) rfl (z 2 _ rfl) fA (af 2))))
  (aq (eK (nq (af 1) (ab (j4 rfl (z 6 _ rfl) (ab (af 2) ai)) ai))))
  (aq (b6 (y4 (qV (wF (eM rfl (z 0 _ rfl) (ab (af 2) ai)) am) (pT (fe (gG eB rfl (z 5 _ rfl) rfl (z 6 _ rfl) eC (e8 (af 2) am))))))
  (aq (bD 1 b4.nd (nX (af 1) (cn dN (hr.mono ∅) (ab (af 2) ai)))))
  (ap (eK (nq (af 1) (ab (j4 rfl (z 6 _ rfl) (ab (eM rfl (z 0 _ rfl) (ab (af 2) ai)) ai)) ai)))
  (aq (kz rfl (kK (af 2)) (iG 3 b4.nd)
  (aq (b6 (fe (gG fu rfl (z 5 _ rfl) rfl (z 2 _ rfl) fA (af 3)))
  (aq (bD 1 b4.nd (nX (af 1) (fq (ab (j4 rfl (z 6 _ rfl) (ab (e8 (af 3) am) ai)) (ab (j4 rfl (z 6 _ rfl) (ab (e8 (af 3) am) ai)) ai))))))
  (aq (eK (nq (af 1) (ab (j4 rfl (z 6 _ rfl) (ab (af 3) ai)) ai)))))) PassesOwn.never))))))))) PassesOwn.never)
  (aq (aL (af 1)))))
theorem lQ (z:Zs mg)(d:bj K mg "_law_same" gU ["told","due"])   : ∀n,bz P w K mg base (2+1*n) "_law_same" ["told","due"] (cB n)
 |0=>okP (k:=1) d g6 λf AO A outer s H E hr=>fX
 |n+1=>by
  have eT:=lQ z d   n;exact okP (k:=2+1*n) d g6 λf AO A outer s H E hr=>
  (ap (b6 (fe (gG fu rfl (z 5 _ rfl) rfl (z 2 _ rfl) fA (af 1)))
  (ap (b6 (y4 (sh (ky (fe (gG fu rfl (z 5 _ rfl) rfl (z 2 _ rfl) fA (af 0)))) (oK (wE hr.units (eM rfl (z 0 _ rfl) (ab (af 0) ai)) (eM rfl (z 0 _ rfl) (ab (af 1) ai))))))
  (aq (aL xk))
  bB)
  (ap (kz rfl (tu rfl (z 1 _ rfl) (eM rfl (z 0 _ rfl) (ab (af 1) ai))) (iG 2 g6.nd)
  (aq (b6 (ky (fe (ax eT (hr.mono ∅) (ab (aJ (e8 (af 0) (af 2))) (ab (aJ (e8 (af 1) (af 2))) ai)))))
  (aq (aL xk))
  bB)) PassesOwn.never)
  (aq (aL xk))))
  bB)
  (ap (b6 (fe (gG eB rfl (z 5 _ rfl) rfl (z 6 _ rfl) eC (af 1)))
  (aq (aL (rk (gG eB rfl (z 5 _ rfl) rfl (z 6 _ rfl) eC (af 0)) (va (A3 hr.units (af 0) (af 1))))))
  bB)
  (aq (aL (rk (gG sT rfl (z 5 _ rfl) rfl (z 8 _ rfl) tM (af 0)) (rk (JDm (gG qt rfl (z 5 _ rfl) rfl (z 10 _ rfl) qN (af 0))) (va (A3 hr.units (af 0) (af 1)))))))))
theorem JDb {f:A6}(z:Zs mg)(F:lj K "law" "law" p8 f fd)(i9:b8 P w K mg base 5 "_law_asks" ["script","many","base"] eP)(hX:bz P w K mg base 54 "write_ask" ["ask"] dM)(gw:bz P w K mg base 56 "read_ask" ["text"] cA)(dN:b8 P w K mg base 26 "_law_words" ["ask"] (bO 24))(eT:bz P w K mg base 26 "_law_same" ["told","due"] (cB 24)):b0 P w K mg base iE 57 f fd ["script"] (wK K 1 pv) :=
 JBp (k:=56) F nV λAO A outer s H E hr=>
  (ap (kz rfl (kK (cn i9 (hr.mono ∅) (ab (af 0) (ab (JDn rfl rfl (z 11 _ rfl) (ab (eM rfl (z 0 _ rfl) (ab (af 0) ai)) (ab am ai))) (ab am ai))))) (iG 1 nV.nd)
  (ap (bD 2 nV.nd (vc aF (cn dN (hr.mono ∅) (ab (af 1) ai))))
  (ap (bD 3 nV.nd (ax hX (hr.mono ∅) (ab (aJ (af 1)) ai)))
  (aq (b6 (y4 (sh (ky (fe (gG eB rfl (z 5 _ rfl) rfl (z 6 _ rfl) eC (af 3)))) (sh (wE hr.units (af 3) (af 2)) (oK (ky (fe (ax eT (hr.mono ∅) (ab (aJ (ax gw (hr.mono ∅) (ab (aJ (af 2)) ai))) (ab (aJ (af 1)) ai)))))))))
  (aq (aL xk))
  bB)))) PassesOwn.never)
  (aq (aL (A3 hr.units (ax gw (hr.mono ∅) (ab aF ai)) (dL (ab aF (ab (dL (ab aF (ab aF ai))) (ab (dL (ab aF (ab (dL (ab aF (ab aF ai))) (ab am (ab aF (ab am ai)))))) (ab aF ai)))))))))
end
set_option maxHeartbeats 4000000 in
def Cg {l:PySem.W.OpenLaw}{w:AB}{K:AF}{h:AD}{mg:Td}{fa qC:A6}(X:K.In h)(G:h.Ns mainGlobals mg)(hfa:mg "law" = some (.ref fa))
  (aC:PySem.W.nsIn K mainGlobals "Reader" = some (some (.ref qC))) (pg:PySem.W.plainGet K qC Str.empty=true) (hd:PySem.W.hasDictIn K qC=true) (po:PySem.W.plainOver K qC=true) (sa:PySem.W.findIn K (.ref qC) "__setattr__" = some (some (.builtin "object.__setattr__"))) (mk:PySem.W.makesIn K qC=true) (kc:PySem.W.keepIn K (.ref qC)=true)
  (n_words:PySem.W.findIn K (.ref qC) "words" = some none)
  (n_place:PySem.W.findIn K (.ref qC) "place" = some none)
  (a0:yv K qC "__init__" "Reader.__init__" eI)
  (a1:yv K qC "word" "Reader.word" eF)
  (a2:yv K qC "letters" "Reader.letters" df)
  (a3:yv K qC "number" "Reader.number" dw)
  (a4:yv K qC "many" "Reader.many" eG)
  (a5:yv K qC "numbers" "Reader.numbers" cm)
  (a6:yv K qC "finish" "Reader.finish" dz)
  (a7:FK K "form_of" iU)
  (a8:FK K "formed" jZ)
  (a9:FK K "check_text" fH)
  (a10:FK K "is_made_of" dH)
  (a11:FK K "write_number" dP)
  (a12:FK K "read_number" eE)
  (a13:FK K "read_number_from" cN)
  (a14:FK K "write_numbers" cG)
  (a15:FK K "write_counted" du)
  (a16:FK K "read_letters" dQ)
  (a17:FK K "words_of" gS)
  (a18:FK K "write_thing" db)
  (a19:FK K "write_pairs" eD)
  (a20:FK K "ask_words" gk)
  (a21:FK K "write_ask" gh)
  (a22:FK K "read_thing" cP)
  (a23:FK K "read_part" eg)
  (a24:FK K "read_ask" gT)
  (a25:FK K "_law_draw" gX)
  (a26:FK K "_law_far" iR)
  (a27:FK K "_law_name" gW)
  (a28:FK K "_law_number" fG)
  (a29:FK K "_law_columns" de)
  (a30:FK K "_law_one" iQ)
  (a31:FK K "_law_two" gj)
  (a32:FK K "_law_asks" gY)
  (a33:FK K "_law_words" gi)
  (a34:FK K "_law_same" gU)
  (a35:FK K "law" p8)
  {tkFIGURES:Tok} {tkMOST_FIGURES:Tok} {tkSMALL_LETTERS:Tok} {tkMOST_LETTERS:Tok} {tkDEEPEST:Tok} (Jas:PySem.W.nsIn K mainGlobals "FIGURES" = some (some (.str "0123456789" tkFIGURES))) (Jan:PySem.W.nsIn K mainGlobals "MOST_FIGURES" = some (some (.int (60) tkMOST_FIGURES))) (Jal:PySem.W.nsIn K mainGlobals "SMALL_LETTERS" = some (some (.str "abcdefghijklmnopqrstuvwxyz" tkSMALL_LETTERS))) (Jao:PySem.W.nsIn K mainGlobals "MOST_LETTERS" = some (some (.int (8) tkMOST_LETTERS))) (Jat:PySem.W.nsIn K mainGlobals "DEEPEST" = some (some (.int (20) tkDEEPEST))) {Jbi:A6} {epFORMS:Nat} {Jbj:A6} {nFORMS_0:Nat} {sFORMS_0:AN (Tg)} {tkFORMS_0 tFORMS_0_0:Tok} {Jbk:A6} {nFORMS_1:Nat} {sFORMS_1:AN (Tg)} {tkFORMS_1 tFORMS_1_0 tFORMS_1_1 tFORMS_1_2 tFORMS_1_3:Tok} {Jbl:A6} {nFORMS_2:Nat} {sFORMS_2:AN (Tg)} {tkFORMS_2 tFORMS_2_0 tFORMS_2_1 tFORMS_2_2:Tok} {Jbm:A6} {nFORMS_3:Nat} {sFORMS_3:AN (Tg)} {tkFORMS_3 tFORMS_3_0 tFORMS_3_1:Tok} {Jbn:A6} {nFORMS_4:Nat} {sFORMS_4:AN (Tg)} {tkFORMS_4 tFORMS_4_0 tFORMS_4_1 tFORMS_4_2:Tok} {Jbo:A6} {nFORMS_5:Nat} {sFORMS_5:AN (Tg)} {tkFORMS_5 tFORMS_5_0 tFORMS_5_1 tFORMS_5_2:Tok} {Jbp:A6} {nFORMS_6:Nat} {sFORMS_6:AN (Tg)} {tkFORMS_6 tFORMS_6_0 tFORMS_6_1:Tok} {Jbq:A6} {nFORMS_7:Nat} {sFORMS_7:AN (Tg)} {tkFORMS_7 tFORMS_7_0 tFORMS_7_1 tFORMS_7_2:Tok} {Jbr:A6} {nFORMS_8:Nat} {sFORMS_8:AN (Tg)} {tkFORMS_8 tFORMS_8_0 tFORMS_8_1 tFORMS_8_2:Tok} (Jbs:PySem.W.nsIn K mainGlobals "FORMS" = some (some (.ref Jbi))) (Jbt:K.lookup Jbi=some {.type "dict",none,.dict (List.toArray [{hashStr w "table",.str "table" tkFORMS_0,.ref Jbj},{hashStr w "pick",.str "pick" tkFORMS_1,.ref Jbk},{hashStr w "twins",.str "twins" tkFORMS_2,.ref Jbl},{hashStr w "columns",.str "columns" tkFORMS_3,.ref Jbm},{hashStr w "joined",.str "joined" tkFORMS_4,.ref Jbn},{hashStr w "matched",.str "matched" tkFORMS_5,.ref Jbo},{hashStr w "counted",.str "counted" tkFORMS_6,.ref Jbp},{hashStr w "summed",.str "summed" tkFORMS_7,.ref Jbq},{hashStr w "lifted",.str "lifted" tkFORMS_8,.ref Jbr}]) epFORMS,#[]}) (Jau:K.lookup Jbj=some {.type "tuple",none,.seq ([.str "name" tFORMS_0_0]:Te).toArray nFORMS_0,sFORMS_0}) (Jav:K.lookup Jbk=some {.type "tuple",none,.seq ([.str "ask" tFORMS_1_0,.str "column" tFORMS_1_1,.str "word" tFORMS_1_2,.str "number" tFORMS_1_3]:Te).toArray nFORMS_1,sFORMS_1}) (Jaw:K.lookup Jbl=some {.type "tuple",none,.seq ([.str "ask" tFORMS_2_0,.str "column" tFORMS_2_1,.str "column" tFORMS_2_2]:Te).toArray nFORMS_2,sFORMS_2}) (Jax:K.lookup Jbm=some {.type "tuple",none,.seq ([.str "ask" tFORMS_3_0,.str "columns" tFORMS_3_1]:Te).toArray nFORMS_3,sFORMS_3}) (Jay:K.lookup Jbn=some {.type "tuple",none,.seq ([.str "ask" tFORMS_4_0,.str "ask" tFORMS_4_1,.str "word" tFORMS_4_2]:Te).toArray nFORMS_4,sFORMS_4}) (Jaz:K.lookup Jbo=some {.type "tuple",none,.seq ([.str "ask" tFORMS_5_0,.str "ask" tFORMS_5_1,.str "pairs" tFORMS_5_2]:Te).toArray nFORMS_5,sFORMS_5}) (Ja0:K.lookup Jbp=some {.type "tuple",none,.seq ([.str "ask" tFORMS_6_0,.str "columns" tFORMS_6_1]:Te).toArray nFORMS_6,sFORMS_6}) (Ja1:K.lookup Jbq=some {.type "tuple",none,.seq ([.str "ask" tFORMS_7_0,.str "columns" tFORMS_7_1,.str "column" tFORMS_7_2]:Te).toArray nFORMS_7,sFORMS_7}) (Ja2:K.lookup Jbr=some {.type "tuple",none,.seq ([.str "ask" tFORMS_8_0,.str "word" tFORMS_8_1,.str "number" tFORMS_8_2]:Te).toArray nFORMS_8,sFORMS_8}) (smFORMS:(Jbi == sysModules)=false) (z0:PySem.W.nsIn K mainGlobals "len" = some none) (z1:PySem.W.nsIn K mainGlobals "range" = some none) (z2:PySem.W.nsIn K mainGlobals "tuple" = some none) (z3:PySem.W.nsIn K mainGlobals "list" = some none) (z4:PySem.W.nsIn K mainGlobals "zip" = some none) (z5:PySem.W.nsIn K mainGlobals "isinstance" = some none) (z6:PySem.W.nsIn K mainGlobals "str" = some none) (z7:PySem.W.nsIn K mainGlobals "all" = some none) (z8:PySem.W.nsIn K mainGlobals "int" = some none) (z9:PySem.W.nsIn K mainGlobals "max" = some none) (z10:PySem.W.nsIn K mainGlobals "bool" = some none) (z11:PySem.W.nsIn K mainGlobals "min" = some none) :
  ∃fd:FuncData,(∀(s:A4) (v:A5),BindsTo s fd {[v],[]} [("script",v)])/\∀base:AD,K.In base->base.Ns mainGlobals mg->b0 l.prog w K mg base iE 57 fa fd ["script"] (wK K 1 pv):=by
 have z:Zs mg:=(cS (Bo X G z0) (cS (Bo X G z1) (cS (Bo X G z2) (cS (Bo X G z3) (cS (Bo X G z4) (cS (Bo X G z5) (cS (Bo X G z6) (cS (Bo X G z7) (cS (Bo X G z8) (cS (Bo X G z9) (cS (Bo X G z10) (cS (Bo X G z11) zT))))))))))));have Jaq:dG K mg "FIGURES" (.str "0123456789"):=ig (D8 X G Jas) bx;have Jaj:dG K mg "MOST_FIGURES" (.int (60)):=ig (D8 X G Jan) qL;have Jag:dG K mg "SMALL_LETTERS" (.str "abcdefghijklmnopqrstuvwxyz"):=ig (D8 X G Jal) bx;have Jak:dG K mg "MOST_LETTERS" (.int (8)):=ig (D8 X G Jao) qL;have Jap:dG K mg "DEEPEST" (.int (20)):=ig (D8 X G Jat) qL;have Ja9:sf K w mg "FORMS" l3:={_,_,_,_,D8 X G Jbs,Jbt,smFORMS,by decide,(.cons (gA Jau (show 1<=sizeLine by decide) (aR bx em)) (.cons (gA Jav (show 4<=sizeLine by decide) (aR bx (aR bx (aR bx (aR bx em))))) (.cons (gA Jaw (show 3<=sizeLine by decide) (aR bx (aR bx (aR bx em)))) (.cons (gA Jax (show 2<=sizeLine by decide) (aR bx (aR bx em))) (.cons (gA Jay (show 3<=sizeLine by decide) (aR bx (aR bx (aR bx em)))) (.cons (gA Jaz (show 3<=sizeLine by decide) (aR bx (aR bx (aR bx em)))) (.cons (gA Ja0 (show 2<=sizeLine by decide) (aR bx (aR bx em))) (.cons (gA Ja1 (show 3<=sizeLine by decide) (aR bx (aR bx (aR bx em)))) (.cons (gA Ja2 (show 3<=sizeLine by decide) (aR bx (aR bx (aR bx em)))) .nil)))))))))};have cf:CF K mg qC:={{aC,D8 X G aC,⟨pg,hd,po,sa⟩},n_words,n_place,mk,kc};have Jbc:=a0.at_ (ps:=["self","text"]) (λ_ _ _ _ _ _=>wn λ_ _=>rfl);have Jbd:=a1.at_ (ps:=["self"]) (λ_ _ _ _ _ _=>l9 λ_=>rfl);have Ja3:=a2.at_ (ps:=["self"]) (λ_ _ _ _ _ _=>l9 λ_=>rfl);have Ja5:=a3.at_ (ps:=["self"]) (λ_ _ _ _ _ _=>l9 λ_=>rfl);have Jbe:=a4.at_ (ps:=["self"]) (λ_ _ _ _ _ _=>l9 λ_=>rfl);have Ja4:=a5.at_ (ps:=["self"]) (λ_ _ _ _ _ _=>l9 λ_=>rfl);have Ja6:=a6.at_ (ps:=["self"]) (λ_ _ _ _ _ _=>l9 λ_=>rfl);have Jb7:=a7.at_ (ps:=["word"]) X G (λ_ _ _ _ _ _=>l9 λ_=>rfl);have Jcb:=a8.at_ (ps:=["ask"]) X G (λ_ _ _ _ _ _=>l9 λ_=>rfl);have Jbu:=a9.at_ (ps:=["thing"]) X G (λ_ _ _ _ _ _=>l9 λ_=>rfl);have Jbv:=a10.at_ (ps:=["text","signs","most"]) X G (λ_ _ _ _ _ _=>Cy λ_ _ _=>rfl);have Jba:=a11.at_ (ps:=["number"]) X G (λ_ _ _ _ _ _=>l9 λ_=>rfl);have Jbf:=a12.at_ (ps:=["text"]) X G (λ_ _ _ _ _ _=>l9 λ_=>rfl);have Jar:=a13.at_ (ps:=["text","least"]) X G (λ_ _ _ _ _ _=>wn λ_ _=>rfl);have Ja7:=a14.at_ (ps:=["numbers"]) X G (λ_ _ _ _ _ _=>l9 λ_=>rfl);have Ja8:=a15.at_ (ps:=["numbers"]) X G (λ_ _ _ _ _ _=>l9 λ_=>rfl);have Jbb:=a16.at_ (ps:=["text"]) X G (λ_ _ _ _ _ _=>l9 λ_=>rfl);have Jb1:=a17.at_ (ps:=["text"]) X G (λ_ _ _ _ _ _=>l9 λ_=>rfl);have Jaf:=a18.at_ (ps:=["kind","thing"]) X G (λ_ _ _ _ _ _=>wn λ_ _=>rfl);have Jbg:=a19.at_ (ps:=["pairs"]) X G (λ_ _ _ _ _ _=>l9 λ_=>rfl);have Jbx:=a20.at_ (ps:=["ask"]) X G (λ_ _ _ _ _ _=>l9 λ_=>rfl);have Jby:=a21.at_ (ps:=["ask"]) X G (λ_ _ _ _ _ _=>l9 λ_=>rfl);have Jah:=a22.at_ (ps:=["reader","kind","deep"]) X G (λ_ _ _ _ _ _=>Cy λ_ _ _=>rfl);have Jbz:=a23.at_ (ps:=["reader","deep"]) X G (λ_ _ _ _ _ _=>wn λ_ _=>rfl);have Jb2:=a24.at_ (ps:=["text"]) X G (λ_ _ _ _ _ _=>l9 λ_=>rfl);have Jb3:=a25.at_ (ps:=["script","k","many"]) X G (λ_ _ _ _ _ _=>Cy λ_ _ _=>rfl);have Jb8:=a26.at_ (ps:=["script","k"]) X G (λ_ _ _ _ _ _=>wn λ_ _=>rfl);have Jb4:=a27.at_ (ps:=["script","k"]) X G (λ_ _ _ _ _ _=>wn λ_ _=>rfl);have Jbw:=a28.at_ (ps:=["script","k"]) X G (λ_ _ _ _ _ _=>wn λ_ _=>rfl);have Jbh:=a29.at_ (ps:=["script","k"]) X G (λ_ _ _ _ _ _=>wn λ_ _=>rfl);have Jb9:=a30.at_ (ps:=["script","k","kind","part"]) X G (λ_ _ _ _ _ _=>Iv λ_ _ _ _=>rfl);have Jca:=a31.at_ (ps:=["script","k","kind","part","other"]) X G (λ_ _ _ _ _ _=>Js λ_ _ _ _ _=>rfl);have Jb5:=a32.at_ (ps:=["script","many","base"]) X G (λ_ _ _ _ _ _=>Cy λ_ _ _=>rfl);have Jb0:=a33.at_ (ps:=["ask"]) X G (λ_ _ _ _ _ _=>l9 λ_=>rfl);have Jb6:=a34.at_ (ps:=["told","due"]) X G (λ_ _ _ _ _ _=>wn λ_ _=>rfl);obtain⟨fdL,FL,bL⟩:=a35.law (ps:=["script"]) X G hfa (λ_ _ _ _ _ _=>l9 λ_=>rfl);refine{fdL,λs v=>bL s [v] rfl,λbase _ _=>?_};have Jaa:=mM (P:=l.prog) (w:=w) (base:=base) cf z Jbd;have Jai:=k8 (P:=l.prog) (w:=w) (base:=base) cf z Ja6;have dC:=s9 (P:=l.prog) (w:=w) (base:=base) cf z Jb7 Ja9;have cL:=og (P:=l.prog) (w:=w) (base:=base) cf z Jbu;have cK:=oa (P:=l.prog) (w:=w) (base:=base) cf z Jbv;have aH:=lO (P:=l.prog) (w:=w) (base:=base) cf z Jba;have au:=qx (P:=l.prog) (w:=w) (base:=base) cf z Jb3;have jD:=vL (P:=l.prog) (w:=w) (base:=base) cf z Jcb dC;have cg:=mK (P:=l.prog) (w:=w) (base:=base) cf z Jbf cL cK Jaq Jaj;have bK:=kY (P:=l.prog) (w:=w) (base:=base) cf z Ja7 aH;have eS:=lP (P:=l.prog) (w:=w) (base:=base) cf z Jbb cK Jag Jak;have i8:=qu (P:=l.prog) (w:=w) (base:=base) cf z Jb1 cL;have kl:=sZ (P:=l.prog) (w:=w) (base:=base) cf z Jb8 au;have gx:=qw (P:=l.prog) (w:=w) (base:=base) cf z Jb4 au;have bW:=mL (P:=l.prog) (w:=w) (base:=base) cf z Jbh au;have Jam:=mO (P:=l.prog) (w:=w) (base:=base) cf z Jbc i8;have Jad:=kh (P:=l.prog) (w:=w) (base:=base) cf z Ja3 eS Jaa;have Jab:=k7 (P:=l.prog) (w:=w) (base:=base) cf z Ja5 cg Jaa;have cZ:=i6 (P:=l.prog) (w:=w) (base:=base) cf z Jar cg;have bM:=kZ (P:=l.prog) (w:=w) (base:=base) cf z Ja8 bK aH;have cc:=mJ (P:=l.prog) (w:=w) (base:=base) cf z Jbg aH bK;have ej:=n9 (P:=l.prog) (w:=w) (base:=base) cf z Jbw au kl;have ki:=sX (P:=l.prog) (w:=w) (base:=base) cf z Jca bW au;have Jac:=mN (P:=l.prog) (w:=w) (base:=base) cf z Jbe cZ Jaa;have kj:=sY (P:=l.prog) (w:=w) (base:=base) cf z Jb9 bW au ej;have Jae:=kg (P:=l.prog) (w:=w) (base:=base) cf z Ja4 Jab Jac;have i9:=qy (P:=l.prog) (w:=w) (base:=base) cf z Jb5 gx au ki kj;have dN:=kI (P:=l.prog) (w:=w) (base:=base) cf z Jb0   24;have eT:=lQ (P:=l.prog) (w:=w) (base:=base) cf z Jb6   24;have cF:=kJ (P:=l.prog) (w:=w) (base:=base) cf z Jbx Jaf jD bM cc aH 24;have hX:=pC (P:=l.prog) (w:=w) (base:=base) cf z Jby cF;have cE:=kH (P:=l.prog) (w:=w) (base:=base) cf z Jbz Jah Jaa dC Jap Jad Jab Jae Jac 24;have gw:=qv (P:=l.prog) (w:=w) (base:=base) cf z Jb2 Jam cE Jai;exact JDb (P:=l.prog) (w:=w) (base:=base) cf z FL i9 hX gw dN eT
end
end LW
namespace LW
open HW
def mw (a0 a1:R)(U:ac):bT [a0,a1] U=(fS [some a0,some a1] U).bind lV:=rfl
def mq (a0:R)(U:ac):aU [a0] U=(fQ [some a0] U).bind lV:=rfl
def jN (a0:R)(U:ac):bo [a0] U=(dF [some a0] U).bind lV:=rfl
def kR (a0:R)(U:ac):aG [a0] U=(dX [some a0] U).bind lV:=rfl
def mv (a0:R)(U:ac):bq [a0] U=(fR [some a0] U).bind lV:=rfl
def jM (a0:R)(U:ac):bm [a0] U=(dE [some a0] U).bind lV:=rfl
def kS (a0:R)(U:ac):bI [a0] U=(dY [some a0] U).bind lV:=rfl
def ue (a0:D):hG [a0]=gH (l5 [some (.v a0)] []):=rfl
def jp (a0:D):bA [a0]=gy (en [some (.v a0)] []):=rfl
def nP (a0 a1 a2:D):bQ [a0,a1,a2]=gy (gD [some (.v a0),some (.v a1),some (.v a2)] []):=rfl
def lp (a0:D):aM [a0]=gy (eY [some (.v a0)] []):=rfl
def ml (a0:D):bV [a0]=gy (cR [some (.v a0),none] []):=rfl
def iO (a0 a1:D):bE [a0,a1]=gy (c0 [some (.v a0),some (.v a1),none] []):=rfl
def kP (a0:D):be [a0]=gH (dU [some (.v a0)] []):=rfl
def kQ (a0:D):bJ [a0]=gH (dW [some (.v a0)] []):=rfl
def lq (a0:D):bZ [a0]=gy (eZ [some (.v a0)] []):=rfl
def pV (a0:D):cW [a0]=gH (jd [some (.v a0)] []):=rfl
def bU (F:MC)(a0 a1:D):ca F [a0,a1]=gH (br F [some (.v a0),some (.v a1)] []):=rfl
def mj (a0:D):cb [a0]=gH (fO [some (.v a0),none,none] []):=rfl
def oU (n:Nat)(a0:D):bP (n+1) [a0]=gH (im (bP n) [some (.v a0),none,none,none] []):=rfl
def oP (a0:D):dM [a0]=gy (ij [some (.v a0)] []):=rfl
def da (F:MW)(a0 a1 a2:R)(U:ac):aY F [a0,a1,a2] U=(bR F [some a0,some a1,some a2] U).bind lV:=rfl
def oQ (n:Nat)(a0 a1:R)(U:ac):bt (n+1) [a0,a1] U=(ik (bt n) [some a0,some a1,none,none] U).bind lV:=rfl
def pW (a0:D):cA [a0]=gy (je [some (.v a0),none,none] []):=rfl
def pY (a0 a1 a2:D):ar [a0,a1,a2]=gy (gC [some (.v a0),some (.v a1),some (.v a2),none,none] []):=rfl
def sk (a0 a1:D):f8 [a0,a1]=gy (iC [some (.v a0),some (.v a1),none] []):=rfl
def pX (a0 a1:D):cC [a0,a1]=gy (jf [some (.v a0),some (.v a1),none,none] []):=rfl
def nO (a0 a1:D):cH [a0,a1]=gy (cM [some (.v a0),some (.v a1),none] []):=rfl
def mo (a0 a1:D):bC [a0,a1]=gy (fP [some (.v a0),some (.v a1),none] []):=rfl
def sj (a0 a1 a2 a3:D):eA [a0,a1,a2,a3]=gy (c8 [some (.v a0),some (.v a1),some (.v a2),some (.v a3),none] []):=rfl
def si (a0 a1 a2 a3 a4:D):ez [a0,a1,a2,a3,a4]=gy (iA [some (.v a0),some (.v a1),some (.v a2),some (.v a3),some (.v a4),none] []):=rfl
def pZ (a0 a1 a2:D):eP [a0,a1,a2]=gH (jg [some (.v a0),some (.v a1),some (.v a2),none,none,none,none,none,none,none,none] []):=rfl
def oR (n:Nat)(a0:D):bO (n+1) [a0]=gH (il (bO n) [some (.v a0),none,none,none] []):=rfl
def iP (n:Nat)(a0 a1:D):cB (n+1) [a0,a1]=gy (e5 (cB n) [some (.v a0),some (.v a1),none] []):=rfl
def JC1 (a0:D):pv [a0]=gy (wc [some (.v a0),none,none,none] []):=rfl
end LW
namespace HW
open L2
abbrev Tx (l:A0 Nat):Str:=⟨l.toArray⟩
def dq {l:A0 Nat}:(Tx l).length=l.length:=by simp[Str.length]
def JC2 {l r:A0 Nat}:(Tx l == Tx r)=(l == r):=by rw[Bool.eq_iff_iff,beq_iff_eq,beq_iff_eq];exact{λe=>by injection e with e;injection e,λe=>by rw[e]}
def qW (x:Str):x=Tx x.cps.toList:=by cases x;simp[Tx]
def JA6:(Str.ofString "0123456789")=Tx [48,49,50,51,52,53,54,55,56,57]:=by decide
def p0:(Str.ofString "-")=Tx [45]:=by decide
def Ae:(Str.ofString "0")=Tx [48]:=by decide
def JA5:(Str.ofString "")=Tx []:=by decide
section
variable {O:Lo}{U:ac}{a b l:A0 Nat}{c:Nat}{i:Int}{x y:R}
def jX:bH (.v (.str (Tx a))) (.v (.str (Tx b))) U=if a.length+b.length<=sizeLine then some (.v (.str (Tx (a++b))),U) else none:=by
 show(if (Tx a).length+(Tx b).length<=sizeLine then some (R.v (.str (Tx a++Tx b)),U) else none)=_
 rw[dq,dq];have:Tx a++Tx b=Tx (a++b):=by show Str.append _ _=_;simp[Str.append]
 rw[this]
def zp (h:0<=i)(hl:l.length<2 ^ 63)(hc:l[i.toNat]?=some c):BP (.v (.str (Tx l))) (.v (.int i)) U=some (.v (.str (Tx [c])),U):=by
 have hi:=(B2.mp hc).1;have e:(Tx l).cps[i.toNat]?=some c:=by simpa using hc
 unfold BP;dsimp only;rw[A8 {h,by omega,by rw[dq];omega},e];rfl
def JA8 (h:l.length<=sizeLine):sS [.v (.str (Tx l))] U=some (.v (.int l.length),U):=by unfold sS;dsimp only;rw[dq,A8 h]
def mX:BX false (.v (.str (Tx [c]))) (.v (.str (Tx l))) U=some (.v (.bl (decide (c∈l))),U):=by unfold BX;have:=PySem.StrLaws.found_one (Tx l) c;rwa[Bp,if_false];rw[show(Tx [c])=⟨#[c]⟩ from rfl,this]
theorem mU:E8 (.v (.str (Tx l))) (.v (.str (Tx [c]))) U=some (.v (.bl (l.head? == some c)),U):=by
 unfold E8;dsimp only;rw[dq,dq]
 cases l with
 |nil=>rfl
 |cons d r=>
  have:Builtin.Str.subAt (Tx (d::r)) (Tx [c]) 0=(d == c):=by
   unfold Builtin.Str.subAt;rw[dq];by_cases h:d=c
   ·subst h;simp
   ·simp[h]
  rw[this];simp
noncomputable def CL (o:Jo (R×ac)):Jo (A0 D×ac):=o.bind λa=>match a.1 with|.v (.str x)=>some (m7 x,a.2)|_=>none
def mW {f:FE}:rR f O U=CL (f O U):=rfl
def jS:CL (some (.v (.str (Tx l)),U))=some (l.map (λc=>D.str (Tx [c])),U):=rfl
noncomputable def yW (o:Jo (R×ac))(g g':R->R->ac->Jo (R×ac))(fb fc:FE)(O:Lo):Jo (R×ac):=o.bind λa=>(fb O a.2).bind λb=>(g a.1 b.1 b.2).bind λz=>match z.1 with
 |.v (.bl k)=>if k=true then (fc O z.2).bind λc=>g' b.1 c.1 c.2 else some (.v (.bl false),z.2)
 |_=>none
noncomputable def yV (x:R)(o:Jo (R×ac))(g g':R->R->ac->Jo (R×ac))(fc:FE)(O:Lo):Jo (R×ac):=o.bind λb=>(g x b.1 b.2).bind λz=>match z.1 with
 |.v (.bl k)=>if k=true then (fc O z.2).bind λc=>g' b.1 c.1 c.2 else some (.v (.bl false),z.2)
 |_=>none
noncomputable def yU (y:R)(o:Jo (R×ac))(g':R->R->ac->Jo (R×ac))(fc:FE)(O:Lo):Jo (R×ac):=o.bind λz=>match z.1 with
 |.v (.bl k)=>if k=true then (fc O z.2).bind λc=>g' y c.1 c.2 else some (.v (.bl false),z.2)
 |_=>none
noncomputable def yT (y:R)(o:Jo (R×ac))(g':R->R->ac->Jo (R×ac)):Jo (R×ac):=o.bind λc=>g' y c.1 c.2
def mZ {g g' fa fb fc}:Fn g g' fa fb fc O U=yW (fa O U) g g' fb fc O:=rfl
def jW {g g' fb fc}:yW (some (x,U)) g g' fb fc O=yV x (fb O U) g g' fc O:=rfl
def jV {g g' fc}:yV x (some (y,U)) g g' fc O=yU y (g x y U) g' fc O:=rfl
def jU {g' fc}{b:A9}:yU y (some (.v (.bl b),U)) g' fc O=if b=true then yT y (fc O U) g' else some (.v (.bl false),U):=rfl
def jT {g'}:yT y (some (x,U)) g'=g' y x U:=rfl
noncomputable def yI (o:Jo (R×ac))(fl fh:FO)(O:Lo):Jo (R×ac):=o.bind λa=>(fl O a.2).bind λl=>(fh O l.2).bind λh=>wq a.1 l.1 h.1 h.2
noncomputable def yH (x:R)(o:Jo (Jo Int×ac))(fh:FO)(O:Lo):Jo (R×ac):=o.bind λl=>(fh O l.2).bind λh=>wq x l.1 h.1 h.2
noncomputable def yG (x:R)(l:Jo Int)(o:Jo (Jo Int×ac)):Jo (R×ac):=o.bind λh=>wq x l h.1 h.2
def mV {fa fl fh}:ya fa fl fh O U=yI (fa O U) fl fh O:=rfl
def jR {fl fh}:yI (some (x,U)) fl fh O=yH x (fl O U) fh O:=rfl
def jQ {fh}{l:Jo Int}:yH x (some (l,U)) fh O=yG x l (fh O U):=rfl
def jP {l h:Jo Int}:yG x l (some (h,U))=wq x l h U:=rfl
def wM (l:A0 Nat)(n:Nat)(h:n<=l.length):Txt.slice (Tx l) (some (n:Int)) none=Tx (l.drop n):=by have:=PySem.StrLaws.sliceText_from (x:=Tx l) (i:=n) ‹h›;refine Eq.trans (show Txt.slice (Tx l) (some (n:Int)) none=PySem.StrLaws.sliceText (Tx l) (some (n:Int)) none from rfl) (this.trans ?_);rwa[Tx,Ce];congr 2;exact List.take_of_length_le ∅
def wH {n:Nat}(h:n<=l.length)(hl:l.length<=sizeLine):wq (.v (.str (Tx l))) (some (n:Int)) none U=some (.v (.str (Tx (l.drop n))),U):=by unfold wq;dsimp only;rw[dq,A8 hl,wM l n h]
def p7 {n:Int}(hl:l.length<=640)(h:PySem.intText? (Tx l)=some n):tq [.v (.str (Tx l))] U=some (.v (.int n),U):=by unfold tq;dsimp only;rw[dq,A8 hl,h];rfl
def zo {n:Nat}(h:∀c∈l,c<1114112):dk n (.str (Tx l))=true:=by cases n <;> (show PyData.strOk (Tx l)=true;unfold PyData.strOk;simpa using h)
def mY:iH (.str (Tx a)) (.str (Tx b))=(a == b):=JC2
end
end HW
namespace LW
open HW
def lY (i:Int){j:Int}(h:0<j):0<=i%j/\i%j<j:={Int.emod_nonneg _ ∅,Int.emod_lt_of_pos _ h}
def rX (ns:Ti)(k:Int)(h:ns≠[]):∃c,L2.jL (ns.map D.int) (k%(ns.length:Int))=some (.int c):=by have hl:0<ns.length:=zbG.mpr h;let⟨h1,h2⟩:=lY k (j:=(ns.length:Int)) ∅;refine{ns[(k%(ns.length:Int)).toNat],l6 h1 ?_};simp
def bY (ns:Ti)(k many:Int)(hm:0<many):∃d,ar [.fl (ns.map .int),.int k,.int many]=some (.int d)/\0<=d/\d<many:=by
 rw[pY];by_cases h:ns=[]
 ·subst h;exact{0,by push_cast [gC,Int.natCast_zero,zba],by omega,hm}
 ·have hl:0<ns.length:=zbG.mpr h;have e0:((ns.length:Int) == 0)=false:=by simp;omega
  let⟨c,hc⟩:=rX ns k h;have b1:=lY c (j:=1000000007) ∅;have b2:=lY ((c%1000000007+5)*(40692+977*k)) (j:=2147483629) ∅;push_cast [gC,e0,Ac,ie (i:=k) (j:=(ns.length:Int)) ∅,hc,ie (i:=c) (j:=1000000007) ∅,lh (i:=977) (j:=k) ∅,lh (i:=c%1000000007+5) (j:=40692+977*k) ∅,ie (j:=2147483629) ∅,rS (j:=(c%1000000007+5)*(40692+977*k)%2147483629+3) ∅,ie (j:=2147483647) ∅,JC5 (j:=13) ∅ ∅,ie (j:=many) hm];exact{_,rfl,lY _ hm}
open L2 PyProof.Rows PySem.NumText PySem.W
noncomputable def dg (m:Nat):A0 Nat:=(Nat.toDigits 10 m).map Char.toNat
def v6 {m:Nat}(h:m<10):dg m=[48+m]:=by
 unfold dg;rw[Nat.toDigits_of_lt_base h];have:∀d:Nat,d<10->[Nat.digitChar d].map Char.toNat=[48+d]:=by decide
 exact this m h
def EJ {m:Nat}(h:10<=m):dg m=dg (m / 10)++[48+m%10]:=by have hm:m%10<10:=Nat.mod_lt m ∅;have t:Nat.toDigits 10 (m / 10)++Nat.toDigits 10 (m%10)=Nat.toDigits 10 (10*(m / 10)+m%10):=Nat.toDigits_append_toDigits ∅ ∅ hm;rw[Nat.div_add_mod] at t;rw[←v6 hm];unfold dg;rw[←t,B8]
def ko (m:Nat):PySem.NumText.AllDigits (dg m):=by intro c hc;let⟨ch,Br,e⟩:=Bx.mp hc;rw[←e];exact PyProof.Rows.digit_range (Nat.isDigit_of_mem_toDigits ∅ ∅ Br)
def v4 (m:Nat):PySem.NumText.digitsVal (dg m)=m:=PySem.W.KIN.val_back m
def qK (m:Nat):1<=(dg m).length:=by unfold dg;rw[Ac];exact toDigits_len_ge 10 m
def v7 {m k:Nat}(hk:1<=k)(h:m<10 ^ k):(dg m).length<=k:=by unfold dg;rw[Ac];exact toDigits_len_pow ∅ hk h
def v5 (m:Nat):dg m≠[]:=λe=>by have:=qK m;rw[e] at this;simp at this
theorem rT:∀(m:Nat),0<m->(dg m)[0]?≠some 48:=by
 intro m;induction m using Nat.strongRecOn with
 |_ m ih=>
  intro h0;by_cases h:m<10
  ·rw[v6 h];simp;omega
  ·rw[EJ ∅];have h1:=ih (m / 10) ∅ ∅;have:=qK (m / 10);rw[B3 ∅];exact h1
def wI (m:Nat):Str.ofString (toString (m:Int))=Tx (dg m):=by rw[qW (Str.ofString (toString (m:Int))),PySem.W.KIN.signs_num];rfl
def wJ (m:Nat):Str.ofString (toString (-((m+1:Nat):Int)))=Tx (45::dg (m+1)):=by
 rw[qW (Str.ofString _),PyProof.Rows.signs_ofString];have:(toString (-((m+1:Nat):Int))).toList = '-'::Nat.toDigits 10 (m+1):=by
  show(Int.repr (Int.negSucc m)).toList=_
  show("-"++Nat.repr (m+1)).toList=_
  rw[String.toList_append,Nat.toList_repr];rfl
 rw[this];rfl
noncomputable def tn (n:Int):A0 Nat:=if n<0 then 45::dg n.natAbs else dg n.natAbs
def jY (n:Int):Str.ofString (toString n)=Tx (tn n):=by
 unfold tn;by_cases h:n<0
 ·rw[A8 h];obtain⟨m,rfl⟩:∃m:Nat,n = -((m+1:Nat):Int):={n.natAbs-1,by omega};rw[wJ];have:(-((m+1:Nat):Int)).natAbs=m+1:=by omega
  rw[this]
 ·rw[AA h];obtain⟨m,rfl⟩:∃m:Nat,n=(m:Int):={n.natAbs,by omega};rw[wI];rfl
def uj {n:Int}{k:Nat}(hk:1<=k)(h:n.natAbs<10 ^ k):(tn n).length<=k+1:=by unfold tn;have:=v7 hk h;split <;> simp <;> omega
def ui (n:Int):∀c∈tn n,c<1114112:=by
 intro c hc;have:c=45\/c∈dg n.natAbs:=by
  unfold tn at hc;split at hc
  ·simpa using hc
  ·exact .inr hc
 rcases this with rfl|h
 ·decide
 ·have:=ko _ c h;omega
def nZ {l:A0 Nat}(h:∀c∈l,c<1114112):dk 60 (.str (Tx l))=true:=zo h
def fV (n:Int)(h:n.natAbs<10 ^ 60):aM [.int n]=some (.str (Tx (tn n))):=by
 rw[lp];have hl:n.natAbs.log2<1920:=by
  by_cases h0:n.natAbs=0
  ·rw[h0];decide
  ·have:n.natAbs.log2<200:=by rw[Nat.log2_lt h0];exact DJ h ∅
   omega
 push_cast [eY,A8 hl,jY]
def JK (l:A0 Nat):bA [.str (Tx l)]=some .non:=by rw[jp];have:cD "str" (.v (.str (Tx l))) []=some (.v (.bl true),[]):=rfl;push_cast [en,this]
def xL {c:Nat}(h:48<=c/\c<=57):decide (c∈[48,49,50,51,52,53,54,55,56,57])=true:=by
 have:c=48\/c=49\/c=50\/c=51\/c=52\/c=53\/c=54\/c=55\/c=56\/c=57:=by omega
 rcases this with rfl|rfl|rfl|rfl|rfl|rfl|rfl|rfl|rfl|rfl <;> decide
def rE (l sg:A0 Nat)(S:Str)(most:Int)(hS:S=Tx sg)(h0:1<=l.length)(h1:(l.length:Int)<=most)(h2:l.length<4000)(hd:∀c∈l,c∈sg):bQ [.str (Tx l),.str S,.int most]=some (.bl true):=by
 subst hS;rw[nP];have a1:(1:Int)<=(l.length:Int):=by omega
 have hz:l.length<=sizeLine:=aQ h2;have hm:(l.map λc=>D.str (Tx [c])).length<=sizeLine:=by rw[Ac];exact hz
 have hc:=eX (f:=aK (BX false) (ag 0) (ag 1)) (U:=[]) (rest:=[some (.v (.str (Tx sg)))]) (λc=>D.str (Tx [c])) (λc=>D.bl (decide (c∈sg))) l none
  (λc _=>by push_cast [mW,jS,mZ,jW,jV,jU,jT,mV,jR,jQ,jP,jX,mX,mU,mY])
 have hb:ii (l.map λc=>D.bl (decide (c∈sg)))=some (l.map λc=>decide (c∈sg)):=by
  have:=tN (l.map λc=>decide (c∈sg))
  (rw[D4] at this;assumption)
 have ha:(l.map λc=>decide (c∈sg)).all id=true:=by rw[List.all_map,zbn];exact λc hc=>Bk (hd c hc)
 push_cast [gD,mW,jS,mZ,jW,jV,jU,jT,mV,jR,jQ,jP,jX,mX,mU,mY,JA8 hz,a1,h1,decide_true,A8 hm,hc,hb,ha]
def xN (l:A0 Nat)(h0:1<=l.length)(h1:l.length<=60)(hd:PySem.NumText.AllDigits l):bQ [.str (Tx l),.str "0123456789",.int 60]=some (.bl true) :=
 rE l [48,49,50,51,52,53,54,55,56,57] _ 60 JA6 h0 ∅ ∅ λc hc=>of_decide_eq_true (xL (hd c hc))
def EE {c:Nat}(h:c≠48):([c] == [48])=false:=by simp[h]
def nc (n:Int)(h:n.natAbs<10 ^ 60):bV [.str (Tx (tn n))]=some (.int n):=by
 rw[ml];have hl:=v7 (m:=n.natAbs) (k:=60) ∅ h;have hp:=qK n.natAbs;have hm:=xN (dg n.natAbs) hp hl (ko _);have ht:(tn n).length<=61:=uj ∅ h;have hs:(tn n).length<=sizeLine:=aQ ∅;have hi:PySem.intText? (Tx (tn n))=some n:=by
  by_cases hn:n<0
  ·have e:(Tx (tn n)).cps.toList=45::dg n.natAbs:=by unfold tn;rw[A8 hn]
   rw[intText_neg e (ko _) (v5 _) (by rw[dq];omega),v4];congr 1;omega
  ·have e:(Tx (tn n)).cps.toList=dg n.natAbs:=by unfold tn;rw[AA hn]
   rw[intText_digits (by rw[e];exact ko _) (by rw[e];exact v5 _) (by rw[dq];omega),e,v4];congr 1;omega
 let⟨c,l,BR⟩:=List.exists_cons_of_ne_nil (v5 n.natAbs);have hc:48<=c/\c<=57:=ko n.natAbs c (by rw[BR];simp);have hg:(dg n.natAbs)[(0:Int).toNat]?=some c:=by rw[BR];rfl
 have hok:dk 60 (.str (Tx (tn n)))=true:=nZ (ui n);have hok1:dk 60 (.str (Tx [c]))=true:=nZ (by intro d hd;simp at hd;omega);have DU:dk 60 (.str (Tx [48]))=true:=nZ ∅;have hsw:((tn n).head? == some 45)=decide (n<0):=by
  unfold tn;by_cases hn:n<0
  ·rw[A8 hn];simp[hn]
  ·rw[AA hn,BR];simp[hn];omega
 have h60:(60:Int)=60:=rfl;have C1:bA [.str (Tx (tn n))]=some .non:=JK _;have BQ:=λU=>zp (U:=U) (i:=0) (l:=dg n.natAbs) (c:=c) ∅ ∅ hg;by_cases hn:n<0
 ·have hd:(tn n).drop 1=dg n.natAbs:=by unfold tn;rw[A8 hn];rfl
  have hfr:∀U:ac,wq (.v (.str (Tx (tn n)))) (some (1:Int)) none U=some (.v (.str (Tx ((tn n).drop 1))),U):=λU=>wH (U:=U) (l:=tn n) (n:=1) (by unfold tn;rw[A8 hn];simp) hs;have h48:c≠48:=λe=>rT n.natAbs ∅ (by rw[BR,e];rfl);rw[hd] at hfr;push_cast [cR,mW,jS,mZ,jW,jV,jU,jT,mV,jR,jQ,jP,jX,mX,mU,mY,p0,Ae,C1,hsw,hn,decide_true,hfr,hm,BQ,hok1,DU,EE h48,p7 ∅ hi]
 ·have ht':tn n=dg n.natAbs:=by unfold tn;rw[AA hn]
  by_cases h0:n=0
  ·subst h0;have e:dg (Int.natAbs 0)=[48]:=(by rw[v6 ∅];rfl);have et:tn 0=[48]:=(by unfold tn;rw[AA ∅];exact e);rw[e] at hm BQ;have hc48:c=48:=by rw[e] at BR;injection BR with h1;exact h1.symm
   subst hc48;rw[et] at C1 hi ⊢;have hsw:(([48]:A0 Nat).head? == some 45)=false:=rfl;push_cast [cR,mW,jS,mZ,jW,jV,jU,jT,mV,jR,jQ,jP,jX,mX,mU,mY,p0,Ae,C1,hsw,hm,BQ,DU,zba,p7 ∅ hi]
  ·have h48:c≠48:=λe=>rT n.natAbs ∅ (by rw[BR,e];rfl);rw[ht'] at C1 hsw hi ⊢;push_cast [cR,mW,jS,mZ,jW,jV,jU,jT,mV,jR,jQ,jP,jX,mX,mU,mY,p0,Ae,C1,hsw,hn,decide_false,hm,BQ,hok1,DU,EE h48,p7 ∅ hi]
theorem v8 {c:Nat}:∀{a b u v:A0 Nat},c∉a->c∉b->a++c::u=b++c::v->a=b/\u=v
 |[],[],u,v,_,_,h=>by injection h with _ h;exact{rfl,h}
 |[],y::b,u,v,_,hb,h=>by injection h with h _;exact AE (by rw[h];simp) hb
 |x::a,[],u,v,ha,_,h=>by injection h with h _;exact AE (by rw[h];simp) ha
 |x::a,y::b,u,v,ha,hb,h=>by
  injection h with h1 h2
  let⟨e1,e2⟩:=v8 (λq=>ha (by simp[q])) (λq=>hb (by simp[q])) h2;exact{by rw[h1,e1],e2}
theorem nB (c:Nat):∀{A B:Tn},A≠[]->B≠[]->(∀p∈A,c∉p.cps.toList)->(∀p∈B,c∉p.cps.toList)->Str.join ⟨#[c]⟩ A=Str.join ⟨#[c]⟩ B->A=B
 |[],_,h,_,_,_,_=>AE rfl h
 |_,[],_,h,_,_,_=>AE rfl h
 |[a],[b],_,_,_,_,h=>by have:a=b:=h;rw[this]
 |[a],b::b'::r,_,_,ha,hb,h=>by
  have e:a=b++⟨#[c]⟩++Str.join ⟨#[c]⟩ (b'::r):=h;refine AE ?_ (ha a ∅);rw[e]
  show c∈((b.cps++#[c])++(Str.join ⟨#[c]⟩ (b'::r)).cps).toList
  simp
 |a::a'::q,[b],_,_,ha,hb,h=>by
  have e:a++⟨#[c]⟩++Str.join ⟨#[c]⟩ (a'::q)=b:=h;refine AE ?_ (hb b ∅);rw[←e]
  show c∈((a.cps++#[c])++(Str.join ⟨#[c]⟩ (a'::q)).cps).toList
  simp
 |a::a'::q,b::b'::r,_,_,ha,hb,h=>by
  have e:a++⟨#[c]⟩++Str.join ⟨#[c]⟩ (a'::q)=b++⟨#[c]⟩++Str.join ⟨#[c]⟩ (b'::r):=h;have e1:a.cps.toList++c::(Str.join ⟨#[c]⟩ (a'::q)).cps.toList=b.cps.toList++c::(Str.join ⟨#[c]⟩ (b'::r)).cps.toList:=by
   have:=AL (λs:Str=>s.cps.toList) e;rwa[Str.cps_append,zbH] at this
   simpa using this
  let⟨h1,h2⟩:=v8 (ha a ∅) (hb b ∅) e1;have h1':a=b:=Str.ext' (Array.toList_inj.mp h1);have h2':Str.join ⟨#[c]⟩ (a'::q)=Str.join ⟨#[c]⟩ (b'::r):=Str.ext' (Array.toList_inj.mp h2);rw[h1',nB c ∅ ∅ (λp hp=>ha p (Au _ hp)) (λp hp=>hb p (Au _ hp)) h2']
def uH (x y:Str):Txt.split x y≠[]:=by
 unfold Txt.split;split
 ·simp
 ·split
  ·simp
  ·unfold Builtin.Str.partsBetween
   cases Builtin.Str.occurrences x y 0 x.length (x.length+1) <;> simp
def p9 (c:Nat)(ws:Tn)(h0:ws≠[])(hf:∀p∈ws,c∉p.cps.toList):Txt.split (Txt.join ⟨#[c]⟩ ws) ⟨#[c]⟩=ws:=by refine nB c (uH _ _) h0 (PySem.StrLaws.split_free _ c) hf ?_;rw[PySem.StrLaws.join_split];exact PySem.StrLaws.glued_eq_join _ _
def yz:(Str.ofString " ")=⟨#[32]⟩:=by decide
theorem xZ (k:Nat)(ws:Tn)(h:∀w∈ws,w.length<=k):∀acc,ws.foldl (λa w=>a+w.length+(⟨#[32]⟩:Str).length) acc<=acc+ws.length*(k+1):=by
 induction ws with
 |nil=>intro acc;simp
 |cons w r ih=>
  intro acc;have h1:=h w ∅;have:=ih (λv hv=>h v (by simp[hv])) (acc+w.length+(⟨#[32]⟩:Str).length);have e:(⟨#[32]⟩:Str).length=1:=rfl;rwa[List.foldl_cons,B9];rw[e] at this ⊢;refine BM this ?_;rw[Nat.add_mul];omega
def xV (ws:Tn)(h:∀w∈ws,w.length<=70)(hl:ws.length<4000):JoinOk ⟨#[32]⟩ ws=true:=by
 unfold JoinOk Builtin.Str.tooLong;have:=xZ 70 ws h 0;rw[←List.foldl_toArray'] at this
 ·rwa[Bool.not_eq_true',decide_eq_false_iff_not,Nat.not_lt];refine BM this ?_;have h4:(1000000:Nat)<=sizeLine:=by decide
  have:ws.length*71<=4000*71:=Nat.mul_le_mul_right _ ∅;omega
 ·rfl
def vM (ws:Tn)(h:∀w∈ws,w.length<=70)(hl:ws.length<4000):(Txt.join ⟨#[32]⟩ ws).length<1000000:=by
 have e:Txt.join ⟨#[32]⟩ ws=Str.join ⟨#[32]⟩ ws:=PySem.StrLaws.glued_eq_join _ _;rw[e];have h1:=PySem.StrLaws.join_length_le ⟨#[32]⟩ ws;have h2:(ws.map (·.length)).sum<=ws.length*70:=by
  clear h1 e hl;induction ws with
  |nil=>simp
  |cons w r ih=>
   have:=ih λv hv=>h v (by simp[hv]);have:=h w ∅;rwa[An,List.sum_cons,B9];omega
 have h3:ws.length*70<=4000*70:=Nat.mul_le_mul_right _ ∅;have h4:(⟨#[32]⟩:Str).length=1:=rfl;rw[h4] at h1;omega
def JBq (ns:Ti)(k:Int):∃d,f8 [.fl (ns.map .int),.int k]=some (.int d)/\0<=d/\d<10 ^ 50:=by
 rw[sk];by_cases h:ns=[]
 ·subst h;exact{0,by push_cast [iC,Int.natCast_zero,zba],by omega,by decide}
 ·have hl:0<ns.length:=zbG.mpr h;have e0:((ns.length:Int) == 0)=false:=by simp;omega
  let⟨c,hc⟩:=rX ns k h;let⟨a,ea,ba⟩:=bY ns k 100000000 ∅;obtain⟨T,hT⟩:∃T:Int,T=10 ^ 50:={_,rfl};have T0:0<T:=by rw[hT];decide
  have p1:∀U:ac,j5 (.v (.int 10)) (.v (.int 50)) U=some (.v (.int T),U):=λU=>by rw[hT];exact ot ∅
  rw[←hT];push_cast [iC,e0,Ac,ea,ie (i:=k) (j:=(ns.length:Int)) ∅,hc,p1,ie (i:=c) T0,rS (i:=c%T) (j:=a+1) ∅,ot (i:=a+1) (j:=5) ∅,ie (j:=T) T0];exact{_,rfl,lY _ T0}
abbrev az:A0 Nat:=[97,98,99,100,101,102,103,104,105,106,107,108,109,110,111,112,113,114,115,116,117,118,119,120,121,122]
def yA:(Str.ofString "abcdefghijklmnopqrstuvwxyz")=Tx az:=by decide
def EN:∀m:Nat,m<26->∃c,c∈az/\az[m]?=some c:=by decide
def HR:∀c∈az,97<=c/\c<=122:=by decide
def vF (ns:Ti)(k:Int):∃l:A0 Nat,cC [.fl (ns.map .int),.int k]=some (.str (Tx l))/\1<=l.length/\l.length<=8/\∀c∈l,c∈az:=by
 rw[pX];let⟨d,ed,bd⟩:=bY ns k 8 ∅;obtain⟨n,hn⟩:∃n:Nat,1+d=(n:Int):={(1+d).toNat,by omega};have h62 : -(2 ^ 62:Int)<=(n:Int)/\(n:Int)<2 ^ 62:=by omega
 let⟨O',U',e,l,x3,rfl,rfl,hl,ha⟩:=i4 (g:=iw 3) (b:=gu) (O:=[some (.v (.fl (ns.map .int))),jl k,some (.v (.str (Tx []))),none]) (U:=[]) n
  (λi O U=>∃l x3,O=[some (.v (.fl (ns.map .int))),jl k,some (.v (.str (Tx l))),x3]/\U=[]/\l.length=i/\∀c∈l,c∈az)
  {[],none,rfl,rfl,rfl,by simp} (by rintro i hi O U ⟨l,x3,rfl,rfl,hl,ha⟩;let⟨a,ea,ba⟩:=bY ns (k+1+i) 26 ∅;obtain⟨m,rfl⟩:∃m:Nat,a=(m:Int):={a.toNat,by omega};let⟨c,hc,ec⟩:=EN m ∅;have hz:l.length+1<=sizeLine:=aQ ∅;have BQ:=λU=>zp (U:=U) (i:=(m:Int)) (l:=az) (c:=c) ∅ ∅ (by rw[Ce];exact ec);push_cast [gu,ea,yA,BQ,mW,jS,mZ,jW,jV,jU,jT,mV,jR,jQ,jP,jX,mX,mU,mY,A8 hz];exact{_,_,rfl,l++[c],_,rfl,rfl,by simp;omega,by intro x hx;rcases CR.mp hx with h|h;exact ha x h;simp at h;rw[h];exact hc})
 refine{l,?_,by omega,by omega,ha};rw[←JA5] at e;push_cast [jf,ed,hn,kn h62,Ce,e]
def Sm (n:Int):Prop:=n.natAbs<10 ^ 60
def Jx {T:Int}(hT:T=10 ^ 60)(U:ac):j5 (.v (.int 10)) (.v (.int 60)) U=some (.v (.int T),U):=by rw[hT];exact ot ∅
def JD1 {n:Int}(h : -(10 ^ 60:Int)<n/\n<10 ^ 60):Sm n:=by
 unfold Sm;have:((10 ^ 60:Nat):Int)=10 ^ 60:=by decide
 omega
def lN (ns:Ti)(k:Int):∃n,cH [.fl (ns.map .int),.int k]=some (.int n)/\Sm n:=by
  rw[nO];let⟨w,ew,bw⟩:=bY ns k 5 ∅;let⟨a,ea,ba⟩:=bY ns (k+1) 25 ∅;let⟨b,eb,bb⟩:=bY ns (k+1) 3 ∅;let⟨f,ef,bf⟩:=JBq ns (k+1);obtain⟨T,hT⟩:∃T:Int,T=10 ^ 60:={_,rfl};obtain⟨Uz,hU⟩:∃Uz:Int,Uz=10 ^ 49:={_,rfl};have q60:=Jx hT
  have q49:∀U:ac,j5 (.v (.int 10)) (.v (.int 49)) U=some (.v (.int Uz),U):=λU=>by rw[hU];exact ot ∅
  have hs:∀n:Int,-T<n/\n<T->Sm n:=λn h=>JD1 (by rw[←hT];exact h)
  have T1:1000<T:=by rw[hT];decide
  have TU:10*Uz<T/\0<Uz:=by rw[hT,hU];decide
  have bf':f < 10 * Uz:=by have:(10:Int) * Uz=10 ^ 50:=by rw [hU];decide
                              rw[this];exact bf.2
  by_cases h1:w<2
  · push_cast [cM,ew,ea,h1,decide_true]
    exact{_,rfl,hs _ ∅}
  by_cases h2:w=2
  · subst h2
    push_cast [cM,ew,eb,h1,decide_false,zba,q60];exact{_,rfl,hs _ ∅}
  by_cases h3:w=3
  · subst h3
    push_cast [cM,ew,eb,h1,decide_false,zba,q60,show((3:Int) == 2)=false from rfl];exact{_,rfl,hs _ ∅}
  · have e2:(w == 2)=false:=by simp[h2]
    have e3:(w == 3)=false:=by simp[h3]
    push_cast [cM,ew,ef,h1,decide_false,e2,e3,q49,lh (i:=5) (j:=Uz) ∅];exact{_,rfl,hs _ ∅}
end LW
namespace LW
open HW L2
section
variable {O:Lo}{U U' U1:ac}{r q i n:Nat}{W:Tn}{w:Str}{d:D}
abbrev ji (q:Nat)(i:Int):A0 (Str×R):=[("words",.p q),("place",.v (.int i))]
def Jv:(("place" : Str) == "words")=false:=by decide
def Dg:¬ (("words" : Str) = "place"):=by decide
structure RS (r q:Nat)(W:Tn)(i:Nat)(U:ac):Prop where
 ob:U[r]?=some (.ob "Reader" (ji q i))
 ws:U[q]?=some (.lst (W.map .str))
 sm:W.length<4000
structure Fr (r:Nat)(U U':ac):Prop where
 le:U.length<=U'.length
 eq:∀n,n<U.length->n≠r->U'[n]?=U[n]?
def Fr.refl:Fr r U U:={Af _,λ_ _ _=>rfl}
def Fr.trans (a:Fr r U U1)(b:Fr r U1 U'):Fr r U U':={BM a.le b.le,λn h h'=>(b.eq n (Ax h a.le) h').trans (a.eq n h h')}
def Fr.new (c:bX):Fr r U (U++[c]):={by simp,λn h _=>B3 h}
def Fr.set (c:bX):Fr r U (U.set r c):={by simp,λn _ h=>za0 (Ne.symm h)}
def RS.lt (h:RS r q W i U):r<U.length:=(B2.mp h.ob).1
def RS.qlt (h:RS r q W i U):q<U.length:=(B2.mp h.ws).1
def RS.qr (h:RS r q W i U):q≠r:=λe=>by have:=h.ws;rw[e,h.ob] at this;cases this
def RS.new (h:RS r q W i U)(c:bX):RS r q W i (U++[c]):={by rw[B3 h.lt];exact h.ob,by rw[B3 h.qlt];exact h.ws,h.sm}
def RS.put (h:RS r q W i U)(j:Nat):RS r q W j (U.set r (.ob "Reader" (ji q j))) :=
 {Cf h.lt,by rw[za0 (Ne.symm h.qr)];exact h.ws,h.sm}
def Rd (o:Jo (R×ac))(r q:Nat)(W:Tn)(U:ac)(j:Nat)(d:D):Prop:=∃U',o=some (.v d,U')/\RS r q W j U'/\Fr r U U'
def rZ {xs:Tn}{k:Nat}{a:Str}(h:xs[k]?=some a):L2.jL (xs.map D.str) (k:Int)=some (.str a):=by have hk:=(B2.mp h).1;refine l6 ∅ ?_;simp[h]
def vZ {c fl:Str}{fs:A0 (Str×R)}{x:R}{s:Nat}{fo:FE}(ho:fo O U=some (.p s,U))(h:U[s]?=some (.ob c fs))(hf:fs.lookup fl=some x):la c fl fo O U=some (x,U):=by simp[la,ho,n3,h,hf]
def JE {j:Int}:(ji q j).lookup ("words" : Str)=some (R.p q):=by simp[Bn]
def IG {j:Int}:(ji q j).lookup ("place" : Str)=some (R.v (.int j)):=by simp[Bn,Jv]
def Ca {fo:FE}(h:RS r q W i U)(ho:fo O U=some (.p r,U)):la "Reader" "words" fo O U=some (.p q,U):=vZ ho h.ob JE
def Cb {fo:FE}(h:RS r q W i U)(ho:fo O U=some (.p r,U)):la "Reader" "place" fo O U=some (.v (.int i),U):=vZ ho h.ob IG
def HY (h:RS r q W i U):oY "Reader" "place" (ag 0) 1 [e7 r] U=some (.nx [e7 r] (U.set r (.ob "Reader" (ji q (i+1:Nat))))):=by
 have e:(ag 0) [some (R.p r)] U=some (.p r,U):=rfl;have pf:iL "place" (.v (.int ((i:Int)+1))) (ji q i)=ji q (i+1:Nat):=by simp[iL,Dg]
 unfold oY;rwa[e,D5,n3,h.ob,if_true,IG];rw[pf];simp
def iy {nm:Str}{f:MW}{fo:FE}{m:Nat}(h:RS r q W i U)(ho:fo O U=some (.p r,U))(h1:(nm == "words")=false)(h2:(nm == "place")=false):cq "Reader" nm f 1 fo aj O U=f [.p r] U:=by simp[cq,ho,n3,h.ob,Bn,h1,h2,aj]
def rF (h:RS r q W i U):eR [.p q] U=some (.v (.int W.length),U):=by have z:(W.map D.str).length<=sizeLine:=aQ (by rw[Ac];exact h.sm);push_cast [h.ws,z,if_true,Ac]
def wx (h:RS r q W i U)(hw:W[i]?=some w):aU [.p r] U=some (.v (.str w),U.set r (.ob "Reader" (ji q (i+1:Nat)))):=by
 have hi:=(B2.mp hw).1;have z:(W.map D.str).length<=sizeLine:=aQ (by rw[Ac];exact h.sm);have e0:((i:Int) == (W.length:Int))=false:=by simp;omega
 have p2:=h.put (i+1);have a1:L2.jL (W.map D.str) ((i+1:Nat)-1:Int)=some (.str w):=by rw[show((i+1:Nat)-1:Int)=(i:Int) by omega];exact rZ hw
 rw[mq];push_cast [fQ,Ca h (fo:=ag 0) (O:=[some (R.p r)]) rfl,Cb h (fo:=ag 0) (O:=[some (R.p r)]) rfl,rF h,e0,HY h,Ca p2 (fo:=ag 0) (O:=[some (R.p r)]) rfl,Cb p2 (fo:=ag 0) (O:=[some (R.p r)]) rfl,p2.ws,a1,if_true,Nat.reduceAdd,Bool.and_self];rfl
end
section
variable {O:Lo}{U U' U1:ac}{r q i:Nat}{W:Tn}{w:Str}
def At (W:Tn)(i:Nat)(ws:Tn):Prop:=ws <+: W.drop i
def At.left {a b:Tn}(h:At W i (a++b)):At W i a:=(List.prefix_append a b).trans h
def At.right {a b:Tn}(h:At W i (a++b)):At W (i+a.length) b:=by let⟨t,e⟩:=h;refine{t,?_};rw[←List.drop_drop,←e,Bu,List.drop_left]
def At.head {a:Str}{b:Tn}(h:At W i (a::b)):W[i]?=some a:=by let⟨t,e⟩:=h;have:=AL (λl=>l[0]?) e;simpa using this.symm
def At.tail {a:Str}{b:Tn}(h:At W i (a::b)):At W (i+1) b:=At.right (a:=[a]) h
def Jy:(("word" : Str) == "words")=false:=by decide
def Gr:(("word" : Str) == "place")=false:=by decide
def JC:(("letters" : Str) == "words")=false:=by decide
def Gw:(("letters" : Str) == "place")=false:=by decide
def JA:(("number" : Str) == "words")=false:=by decide
def Gu:(("number" : Str) == "place")=false:=by decide
def JB:(("many" : Str) == "words")=false:=by decide
def Gv:(("many" : Str) == "place")=false:=by decide
def Jz:(("numbers" : Str) == "words")=false:=by decide
def Gs:(("numbers" : Str) == "place")=false:=by decide
def JD:(("finish" : Str) == "words")=false:=by decide
def Gx:(("finish" : Str) == "place")=false:=by decide
def n4 {fo:FE}(h:RS r q W i U)(ho:fo O U=some (.p r,U))(hw:W[i]?=some w):cq "Reader" "word" aU 1 fo aj O U=some (.v (.str w),U.set r (.ob "Reader" (ji q (i+1:Nat)))):=by rw[iy (m:=1) h ho Jy Gr,wx h hw]
def qq (h:RS r q W i U)(hw:W[i]?=some w)(hl:bZ [.str w]=some (.str w)):bo [.p r] U=some (.v (.str w),U.set r (.ob "Reader" (ji q (i+1:Nat)))):=by rw[jN];push_cast [dF,n4 h (O:=[some (R.p r)]) (fo:=ag 0) rfl hw,hl];rfl
def sI {k:Int}(h:RS r q W i U)(hw:W[i]?=some (Tx (tn k)))(hk:k.natAbs<10 ^ 60):aG [.p r] U=some (.v (.int k),U.set r (.ob "Reader" (ji q (i+1:Nat)))):=by rw[kR];push_cast [dX,n4 h (O:=[some (R.p r)]) (fo:=ag 0) rfl hw,nc k hk];rfl
def w9 {k:Int}(h0:0<=k)(hk:k.natAbs<10 ^ 60):bE [.str (Tx (tn k)),.int 0]=some (.int k):=by have e:decide (k<0)=false:=Ba ∅;rw[iO];push_cast [c0,nc k hk,e]
def xM {k:Int}(h:RS r q W i U)(hw:W[i]?=some (Tx (tn k)))(h0:0<=k)(hk:k.natAbs<10 ^ 60):bq [.p r] U=some (.v (.int k),U.set r (.ob "Reader" (ji q (i+1:Nat)))):=by rw[mv];push_cast [fR,n4 h (O:=[some (R.p r)]) (fo:=ag 0) rfl hw,w9 h0 hk];rfl
def jB {fo:FE}{k:Int}(h:RS r q W i U)(ho:fo O U=some (.p r,U))(hw:W[i]?=some (Tx (tn k)))(hk:k.natAbs<10 ^ 60):cq "Reader" "number" aG 1 fo aj O U=some (.v (.int k),U.set r (.ob "Reader" (ji q (i+1:Nat)))):=by rw[iy (m:=1) h ho JA Gu,sI h hw hk]
def vB {fo:FE}{k:Int}(h:RS r q W i U)(ho:fo O U=some (.p r,U))(hw:W[i]?=some (Tx (tn k)))(h0:0<=k)(hk:k.natAbs<10 ^ 60):cq "Reader" "many" bq 1 fo aj O U=some (.v (.int k),U.set r (.ob "Reader" (ji q (i+1:Nat)))):=by rw[iy (m:=1) h ho JB Gv,xM h hw h0 hk]
theorem ox {f:FE}{rest:Lo}:∀(pw:A0 (D×Tn×D)) (i:Nat) (U:ac) (x0:Jo R),RS r q W i U->At W i (pw.flatMap (·.2.1)) ->
  (∀p∈pw,∀i U,RS r q W i U->At W i p.2.1->Rd (f (some (.v p.1)::rest) U) r q W U (i+p.2.1.length) p.2.2) ->
  ∃U',fw (iw 0) jG f (pw.map (·.1)) (x0::rest) U=some (pw.map (·.2.2),U')/\RS r q W (i+(pw.flatMap (·.2.1)).length) U'/\Fr r U U'
 |[],i,U,x0,h,ha,hp=>{U,rfl,h,Fr.refl}
 |p::pw,i,U,x0,h,ha,hp=>by
  rw[D6] at ha;let⟨U1,e1,h1,f1⟩:=hp p Aw i U h ha.left;let⟨U2,e2,h2,f2⟩:=ox pw _ U1 (some (.v p.1)) h1 ha.right λp' hp'=>hp p' (Au _ hp');refine{U2,?_,by rw[D6,BD,←Nat.add_assoc];exact h2,f1.trans f2};rw[An,fw]
  show((f (some (.v p.1)::rest) U).bind _)=_
  rw[e1]
  show(fw (iw 0) jG f (pw.map (·.1)) (some (.v p.1)::rest) U1).bind _=_
  rw[e2];rfl
abbrev wN (k:Int):Str:=Tx (tn k)
abbrev wC (cs:Ti):Tn:=wN cs.length::cs.map wN
abbrev lH (p:Int×Int):D:=.tup [.int p.1,.int p.2]
abbrev wP (ps:A0 (Int×Int)):Tn:=wN ps.length::ps.flatMap λp=>[wN p.1,wN p.2]
def Nm (k:Int):Prop:=k.natAbs<10 ^ 60
def g9 {Z:Type}{l:A0 Z}(h:l.length<1000):Nm (l.length:Int):=by
 show((l.length:Nat):Int).natAbs<10 ^ 60
 rw[Int.natAbs_natCast];exact DJ h ∅
def ww {Z:Type}(l:A0 Z):l.zipIdx.map (λp=>D.int (p.2:Nat))=(List.range l.length).map λi=>D.int (i:Nat):=by
 have:l.zipIdx.map (λp=>D.int (p.2:Nat))=(l.zipIdx.map Prod.snd).map λi=>D.int (i:Nat):=by rw[D4];rfl
 rw[this,List.zipIdx_map_snd,List.range_eq_range']
def qU {Z β:Type}(l:A0 Z)(f:Z->β):l.zipIdx.map (λp=>f p.1)=l.map f:=by
 have:l.zipIdx.map (λp=>f p.1)=(l.zipIdx.map Prod.fst).map f:=by rw[D4];rfl
 rw[this,List.zipIdx_map_fst]
def oI {Z β:Type}(l:A0 Z)(f:Z->A0 β):l.zipIdx.flatMap (λp=>f p.1)=l.flatMap f:=by rw[List.flatMap_def,qU,←List.flatMap_def]
theorem vT {Z β:Type}{f:Z->β}:∀l:A0 Z,l.flatMap (λc=>[f c])=l.map f
 |[]=>rfl
 |a::l=>by rw[D6,vT l];rfl
def xR {cs:A0 bX}{c:bX}:(cs++[c])[cs.length]?=some c:=by simp
def nG {Z:Type}{f:FE}{rest:Lo}(ws:Z->Tn)(out:Z->D)(l:A0 Z)(h:RS r q W i U)(ha:At W i (l.flatMap ws))(x0:Jo R)
  (hp:∀a∈l,∀x i U,RS r q W i U->At W i (ws a)->Rd (f (x::rest) U) r q W U (i+(ws a).length) (out a)) :
  ∃U',fw (iw 0) jG f ((List.range l.length).map λi=>D.int (i:Nat)) (x0::rest) U=some (l.map out,U')/\RS r q W (i+(l.flatMap ws).length) U'/\Fr r U U':=by
 have c:=ox (f:=f) (rest:=rest) (l.zipIdx.map λp=>(D.int (p.2:Nat),ws p.1,out p.1)) i U x0 h (by rw[List.flatMap_map];rwa[oI];exact ha) (by
  intro p hp' i U h' BS;let⟨p',hm,rfl⟩:=Bx.mp hp'
  exact hp p'.1 (by have:=List.mem_map_of_mem (f:=Prod.fst) hm;(rw[List.zipIdx_map_fst] at this;assumption)) _ i U h' BS)
 rw[List.flatMap_map,D4,D4] at c;rwa[Function.comp_def,oI,ww,qU] at c;exact c
def qh {cs:Ti}(h:RS r q W i U)(ha:At W i (wC cs))(hl:cs.length<1000)(hc:∀c∈cs,Nm c):Rd (bm [.p r] U) r q W U (i+(wC cs).length) (.tup (cs.map .int)):=by
 have m:=vB (O:=[some (R.p r)]) (fo:=ag 0) h rfl ha.head ∅ (g9 hl);have p1:=h.put (i+1);obtain⟨U2,e2,h2,f2⟩:=nG (f:=cq "Reader" "number" aG 1 (ag 1) aj) (rest:=[e7 r]) (λc=>[wN c]) D.int cs p1 (by rw[vT];exact ha.tail) none (λc BW x i U h' BS=>{_,jB h' rfl BS.head (hc c BW),h'.put (i+1),Fr.set _})
 have z:((List.range cs.length).map λi=>D.int (i:Nat)).length<=sizeLine:=aQ (by simp;omega);have b:cT 1 [0] [some (R.p r)]=[none,e7 r]:=rfl;have tn:((cs.length:Int)).toNat=cs.length:=by simp
 have r1:=kn (j:=(cs.length:Int)) (U:=U.set r (.ob "Reader" (ji q (i+1:Nat)))) ∅;have len:(wC cs).length=1+(cs.flatMap (λc=>[wN c])).length:=by rw[vT];simp[Nat.add_comm]
 refine{_,?_,?_,((Fr.set _).trans f2).trans (Fr.new (.lst (cs.map .int)))}
 ·rw[jM];push_cast [dE,m,r1,tn,z,b,e2,xR];rfl
 ·rw[len,←Nat.add_assoc];exact h2.new _
end
def f7:dk 60 (.str "ask")=true:=by kernel_rfl
def cz:dk 60 (.str "column")=true:=by kernel_rfl
def eu:dk 60 (.str "columns")=true:=by kernel_rfl
def cy:dk 60 (.str "number")=true:=by kernel_rfl
def jy:dk 60 (.str "pairs")=true:=by kernel_rfl
def JBu:dk 60 (.str "word")=true:=by kernel_rfl
def JBv:dk 60 (.str "name")=true:=by kernel_rfl
structure Kd (s:Str)(a c n cs ps:Bool):Prop where
 ok:dk 60 (.str s)=true
 a:iH (.str s) (.str "ask")=a
 c:iH (.str s) (.str "column")=c
 n:iH (.str s) (.str "number")=n
 cs:iH (.str s) (.str "columns")=cs
 ps:iH (.str s) (.str "pairs")=ps
def zJ:Kd "ask" true false false false false:={by kernel_rfl,by kernel_rfl,by kernel_rfl,by kernel_rfl,by kernel_rfl,by kernel_rfl}
def pE:Kd "column" false true false false false:={by kernel_rfl,by kernel_rfl,by kernel_rfl,by kernel_rfl,by kernel_rfl,by kernel_rfl}
def pD:Kd "number" false false true false false:={by kernel_rfl,by kernel_rfl,by kernel_rfl,by kernel_rfl,by kernel_rfl,by kernel_rfl}
def nA:Kd "columns" false false false true false:={by kernel_rfl,by kernel_rfl,by kernel_rfl,by kernel_rfl,by kernel_rfl,by kernel_rfl}
def rJ:Kd "pairs" false false false false true:={by kernel_rfl,by kernel_rfl,by kernel_rfl,by kernel_rfl,by kernel_rfl,by kernel_rfl}
def vJ:Kd "word" false false false false false:={by kernel_rfl,by kernel_rfl,by kernel_rfl,by kernel_rfl,by kernel_rfl,by kernel_rfl}
def vK:Kd "name" false false false false false:={by kernel_rfl,by kernel_rfl,by kernel_rfl,by kernel_rfl,by kernel_rfl,by kernel_rfl}
structure Lt (w:Str):Prop where
 rd:bZ [.str w]=some (.str w)
 ok:dk 60 (.str w)=true
 sp:32∉w.cps.toList
 le:w.length<=61
inductive Th (A:D->List Str->Prop):D×Tn×D->Prop
 |ask {a ws}:A a ws->Th A (.str "ask",ws,a)
 |col {k:Int}:Nm k->Th A (.str "column",[wN k],.int k)
 |num {k:Int}:Nm k->Th A (.str "number",[wN k],.int k)
 |cols {cs:Ti}:cs.length<10->(∀c∈cs,Nm c)->Th A (.str "columns",wC cs,.tup (cs.map .int))
 |pairs {ps:List (Int×Int)}:ps.length<10->(∀p∈ps,Nm p.1/\Nm p.2)->Th A (.str "pairs",wP ps,.tup (ps.map lH))
 |word {w}:Lt w->Th A (.str "word",[w],.str w)
 |name {w}:Lt w->Th A (.str "name",[w],.str w)
def AK:Nat->D->A0 Str->Prop
 |0=>λ_ _=>False
 |k+1=>λa ws=>∃(wd:Str) (pw:A0 (D×Tn×D)),cI [.str wd]=some (.tup (pw.map (·.1)))/\Lt wd/\a=.tup (.str wd::pw.map (·.2.2))/\ws=wd::pw.flatMap (·.2.1)/\pw.length<10/\∀p∈pw,Th (AK k) p
theorem Th.mono {A B:D->A0 Str->Prop}(h:∀a ws,A a ws->B a ws){p}(t:Th A p):Th B p:=by
 cases t with
 |ask t=>exact .ask (h _ _ t)
 |col t=>exact .col t
 |num t=>exact .num t
 |cols t u=>exact .cols t u
 |pairs t u=>exact .pairs t u
 |word t=>exact .word t
 |name t=>exact .name t
theorem AK.up:∀{k a ws},AK k a ws->AK (k+1) a ws
 |0,_,_,h=>h.elim
 |k+1,a,ws,hh=>let ⟨wd,pw,h1,h2,h3,h4,h5,h6⟩:=hh;{wd,pw,h1,h2,h3,h4,h5,λp hp=>(h6 p hp).mono λ_ _=>AK.up}
theorem AK.le {k m a ws}(h:AK k a ws)(hm:k<=m):AK m a ws:=by
 induction hm with
 |refl=>exact h
 |step _ ih=>exact ih.up
section
variable {O:Lo}{U U':ac}{r q i n:Nat}{W:Tn}{w:Str}{F:MW}{dp:Int}{s:Str}
def JBg:aY F [.p r,.v (.str "ask"),.v (.int dp)] U=F [.p r,.v (.int (dp+1))] U:=by
 have k:=zJ;have e:∀o:Jo (R×ac),(uo o).bind lV=o:=λo=>by cases o <;> rfl
 have c:fN F 2 (ae (ag 0) (ae (aK bH (ag 2) (fK (.int 1))) aj)) [e7 r,some (.v (.str "ask")),jl dp] U=F [.p r,.v (.int (dp+1))] U:=rfl;rw[da];push_cast [bR,f7,k.a,c];generalize F [.p r,.v (.int (dp+1))] U=o;cases o <;> rfl
def uP {k:Int}{a b:A9}(kd:Kd s false a b false false)(hab:(a || b)=true)(h:RS r q W i U)(ha:At W i [wN k])(hk:Nm k):aY F [.p r,.v (.str s),.v (.int dp)] U=some (.v (.int k),U.set r (.ob "Reader" (ji q (i+1:Nat)))):=by
 have m:=jB (O:=[e7 r,some (.v (.str s)),jl dp]) (fo:=ag 0) h rfl ha.head hk;rw[da];cases a
 ·cases b
  ·cases hab
  ·push_cast [bR,kd.ok,f7,cz,cy,kd.a,kd.c,kd.n,m];rfl
 ·push_cast [bR,kd.ok,f7,cz,cy,kd.a,kd.c,kd.n,m];rfl
def rf (kd:Kd s false false false false false)(h:RS r q W i U)(ha:At W i [w])(hl:Lt w):aY F [.p r,.v (.str s),.v (.int dp)] U=some (.v (.str w),U.set r (.ob "Reader" (ji q (i+1:Nat)))):=by have m:=iy (O:=[e7 r,some (.v (.str s)),jl dp]) (fo:=ag 0) (f:=bo) (m:=1) h rfl JC Gw;rw[qq h ha.head hl.rd] at m;rw[da];push_cast [bR,kd.ok,f7,cz,cy,eu,jy,kd.a,kd.c,kd.n,kd.cs,kd.ps,m];rfl
def wR {cs:Ti}(h:RS r q W i U)(ha:At W i (wC cs))(hl:cs.length<1000)(hc:∀c∈cs,Nm c):Rd (aY F [.p r,.v (.str "columns"),.v (.int dp)] U) r q W U (i+(wC cs).length) (.tup (cs.map .int)):=by obtain⟨U',e,h',f'⟩:=qh h ha hl hc;have m:=iy (O:=[e7 r,some (.v (.str "columns")),jl dp]) (fo:=ag 0) (f:=bm) (m:=1) h rfl Jz Gs;rw[e] at m;have kd:=nA;refine{U',?_,h',f'};rw[da];push_cast [bR,kd.ok,f7,cz,cy,kd.a,kd.c,kd.n,kd.cs,m];rfl
def uO {ps:A0 (Int×Int)}(h:RS r q W i U)(ha:At W i (wP ps))(hl:ps.length<1000)(hc:∀p∈ps,Nm p.1/\Nm p.2):Rd (aY F [.p r,.v (.str "pairs"),.v (.int dp)] U) r q W U (i+(wP ps).length) (.tup (ps.map lH)):=by
 have m:=vB (O:=[e7 r,some (.v (.str "pairs")),jl dp]) (fo:=ag 0) h rfl ha.head ∅ (g9 hl);have p1:=h.put (i+1);obtain⟨U2,e2,h2,f2⟩:=nG (f:=dS (ae (cq "Reader" "number" aG 1 (ag 1) aj) (ae (cq "Reader" "number" aG 1 (ag 1) aj) aj))) (rest:=[e7 r]) (λp:Int×Int=>[wN p.1,wN p.2]) lH ps p1 ha.tail none (λc BW x i U h' BS=>by have q1:=jB (O:=[x,e7 r]) (fo:=ag 1) h' rfl BS.head (hc c BW).1;have q2:=jB (O:=[x,e7 r]) (fo:=ag 1) (h'.put (i+1)) rfl BS.tail.head (hc c BW).2;refine{_,?_,(h'.put (i+1)).put (i+1+1),(Fr.set _).trans (Fr.set _)};push_cast [q1,q2])
 have z:((List.range ps.length).map λi=>D.int (i:Nat)).length<=sizeLine:=aQ (by simp;omega);have b:cT 1 [0] [some (R.p r),some (.v (.str "pairs")),jl dp]=[none,e7 r]:=rfl;have tn:((ps.length:Int)).toNat=ps.length:=by simp
 have r1:=kn (j:=(ps.length:Int)) (U:=U.set r (.ob "Reader" (ji q (i+1:Nat)))) ∅;have len:(wP ps).length=1+(ps.flatMap (λp:Int×Int=>[wN p.1,wN p.2])).length:=by simp[Nat.add_comm]
 have kd:=rJ;refine{_,?_,?_,((Fr.set _).trans f2).trans (Fr.new (.lst (ps.map lH)))}
 ·rw[da];push_cast [bR,kd.ok,f7,cz,cy,eu,jy,kd.a,kd.c,kd.n,kd.cs,kd.ps,m,r1,tn,z,b,e2,xR];rfl
 ·rw[len,←Nat.add_assoc];exact h2.new _
theorem rC:∀{k:Nat} {a:D} {ws:Tn},AK k a ws->∀(e i:Nat) (U:ac) (dp:Int),dp+k<=21->RS r q W i U->At W i ws->Rd (bt (k+e) [.p r,.v (.int dp)] U) r q W U (i+ws.length) a
 |0,_,_,h=>h.elim
 |k+1,a,ws,hh=>by
  intro ex i U dp hd h ha;let⟨wd,pw,h1,h2,rfl,rfl,h5,h6⟩:=hh;have m:=n4 (O:=[e7 r,jl dp,none,none]) (fo:=ag 0) h rfl ha.head;have p1:=h.put (i+1);have p2:=p1.new (.lst [.str wd]);let⟨U2,e2,hr2,f2⟩:=ox (f:=fN (aY (bt (k+ex))) 3 (ae (ag 1) (ae (ag 0) (ae (ag 2) aj)))) (rest:=[e7 r,jl dp]) pw (i+1) _ none p2 ha.tail (λp hp i U h' BS=>by
   have c:fN (aY (bt (k+ex))) 3 (ae (ag 1) (ae (ag 0) (ae (ag 2) aj))) [some (.v p.1),e7 r,jl dp] U=aY (bt (k+ex)) [.p r,.v p.1,.v (.int dp)] U:=rfl;rw[c];have t:=h6 p hp;clear c hp
   cases t with
   |ask t=>rw[JBg];exact rC t _ _ _ _ ∅ h' BS
   |col t=>exact{_,uP pE rfl h' BS t,h'.put (i+1),Fr.set _}
   |num t=>exact{_,uP pD rfl h' BS t,h'.put (i+1),Fr.set _}
   |cols t u=>exact wR h' BS ∅ u
   |pairs t u=>exact uO h' BS ∅ u
   |word t=>exact{_,rf vJ h' BS t,h'.put (i+1),Fr.set _}
   |name t=>exact{_,rf vK h' BS t,h'.put (i+1),Fr.set _})
  have g:decide (dp>20)=false:=Ba ∅;have z:(pw.map (·.1)).length<=sizeLine:=aQ (by rw[Ac];omega);have b:cT 1 [0,1] [some (R.p r),jl dp,some (.v (.str wd)),some (.v (.tup (pw.map (·.1))))]=[none,e7 r,jl dp]:=rfl;have n1:Cs false .non (.v (.tup (pw.map (·.1)))) (U.set r (.ob "Reader" (ji q (i+1:Nat))))=some (.v (.bl false),U.set r (.ob "Reader" (ji q (i+1:Nat)))):=by kernel_rfl
  have kp:U2[(U.set r (.ob "Reader" (ji q (i+1:Nat)))).length]?=some (.lst [.str wd]):=by rw[f2.eq _ ∅ (by have:=h.lt;simp;omega),xR]
  have kp2:(U2++[.lst (pw.map (·.2.2))])[(U.set r (.ob "Reader" (ji q (i+1:Nat)))).length]?=some (.lst [.str wd]):=by rw[B3 (by have:=(B2.mp kp).1;exact this)];exact kp
  have z2:1+(pw.map (·.2.2)).length<=sizeLine:=aQ (by rw[Ac];omega);have Bb:1<=sizeLine:=by decide
  have ad:jH (.p (U.set r (.ob "Reader" (ji q (i+1:Nat)))).length) (.p U2.length) (U2++[.lst (pw.map (·.2.2))])=some (.p (U2++[bX.lst (pw.map (·.2.2))]).length,U2++[.lst (pw.map (·.2.2))]++[.lst (.str wd::pw.map (·.2.2))]):=by have s1:iW (.p (U.set r (.ob "Reader" (ji q (i+1:Nat)))).length) (U2++[.lst (pw.map (·.2.2))])=some [.str wd]:=(by unfold iW;rwa[kp2]);have s2:iW (.p U2.length) (U2++[.lst (pw.map (·.2.2))])=some (pw.map (·.2.2)):=(by unfold iW;rwa[xR]);unfold jH;rwa[s1,s2,D5,B9,zbT,Nat.zero_add,z2,if_true,List.singleton_append]
  refine{U2++[.lst (pw.map (·.2.2))]++[.lst (.str wd::pw.map (·.2.2))],?_,?_,((((Fr.set _).trans (Fr.new _)).trans f2).trans (Fr.new _)).trans (Fr.new _)}
  ·rw[show k+1+ex=k+ex+1 by omega,oQ];push_cast [ik,g,m,h1,n1,z,b,e2,ad,xR,Bb];rfl
  ·rw[show i+(wd::pw.flatMap (·.2.1)).length=i+1+(pw.flatMap (·.2.1)).length by simp;omega];exact(hr2.new _).new _
end
section
variable {U:ac}{n:Nat}{w:Str}{F:MC}
abbrev sD (ws:Tn):A0 D:=ws.map D.str
theorem dj:∀l:Tn,flatDs (sD l)=true
 |[]=>rfl
 |i::l=>by rw[sD,An,flatDs];simp[dO,dj l]
def EK (x:D)(xs:A0 D):ow (x::xs) (some 1) none=xs:=by unfold ow;have h1:HT.cx (x::xs).length 0 (some (1:Int))=min 1 (x::xs).length:=HT.wQ _ _ 1;have h2:HT.cx (x::xs).length (x::xs).length none=(x::xs).length:=rfl;rw[h1,h2];simp
theorem t7:∀pw:A0 (D×Tn×D),mS (pw.map (·.1)) (pw.map (·.2.2))=pw.map λp=>.tup [p.1,p.2.2]
 |[]=>rfl
 |p::pw=>by have:=t7 pw;unfold mS at this ⊢;rwa[An,List.zip_cons_cons,this]
def tE {wd:Str}{pw:A0 (D×Tn×D)}(h1:cI [.str wd]=some (.tup (pw.map (·.1))))(h2:pw.length<10):hG [.tup (.str wd::pw.map (·.2.2))]=some (.lst (pw.map λp=>.tup [p.1,p.2.2])):=by
 have c:(aI cI 1 (ae (bg (aK gL (ag 0) (fK (.int 0)))) aj)) [some (.v (.tup (.str wd::pw.map (·.2.2))))] []=some (.v (.tup (pw.map (·.1))),[]):=by push_cast [h1]
 have c2:(Cc (ag 0) (jA (fK (.int 1))) kC) [some (.v (.tup (.str wd::pw.map (·.2.2))))] []=some (.v (.tup (pw.map (·.2.2))),[]):=by push_cast [EK]
 have z:(pw.map (·.1)).length=(pw.map (·.2.2)).length/\(pw.map (·.1)).length<=sizeLine:={by simp,aQ (by rw[Ac];omega)};have e:(pI (aI cI 1 (ae (bg (aK gL (ag 0) (fK (.int 0)))) aj)) (Cc (ag 0) (jA (fK (.int 1))) kC)) [some (.v (.tup (.str wd::pw.map (·.2.2))))] []=some (.p 0,[.lst (pw.map λp=>.tup [p.1,p.2.2])]):=by unfold pI;rw[c];dsimp only[D5];rw[c2];dsimp only[D5];have i1:cY (.v (.tup (pw.map (·.1)))) []=some (pw.map (·.1)):=rfl;have i2:cY (.v (.tup (pw.map (·.2.2)))) []=some (pw.map (·.2.2)):=rfl;rw[i1,i2];dsimp only[D5];rw[A8 z,t7];rfl
 rw[ue];push_cast [l5,e]
def t9 {cs:Ti}(hl:cs.length<1000)(hc:∀c∈cs,Nm c):be [.tup (cs.map .int)]=some (.lst (sD (cs.map wN))):=by
 have co:=eX (f:=aI aM 1 (ae (bg (ag 0)) aj)) (U:=[]) (rest:=[]) D.int (λc=>D.str (wN c)) cs none λc h=>by push_cast [fV c (hc c h)]
 have z:(cs.map D.int).length<=sizeLine:=aQ (by rw[Ac];omega);have b:cT 1 [] [some (R.v (.tup (cs.map .int)))]=[none]:=rfl;rw[kP];push_cast [dU,z,b,co];rw[sD,D4];rfl
def zV {cs:Ti}(hl:cs.length<1000)(hc:∀c∈cs,Nm c):bJ [.tup (cs.map .int)]=some (.lst (sD (wC cs))):=by
 have w1:=fV (cs.length:Int) (g9 hl);have w2:=t9 hl hc;have fl:=dj (cs.map wN);have z:(cs.map D.int).length<=sizeLine:=aQ (by rw[Ac];omega);have z2:1+(sD (cs.map wN)).length<=sizeLine:=aQ (by simp;omega);have Bb:1<=sizeLine:=by decide
 have ad:jH (.p 0) (.p 1) [.lst [.str (wN cs.length)],.lst (sD (cs.map wN))]=some (.p 2,[.lst [.str (wN cs.length)],.lst (sD (cs.map wN)),.lst (sD (wC cs))]):=by
  show(if 1+(sD (cs.map wN)).length<=sizeLine then _ else none)=_
  rw[A8 z2];rfl
 rw[kQ];push_cast [dW,Ac,w1,w2,fl,z,Bb,ad]
def zU {ps:A0 (Int×Int)}(hl:ps.length<1000)(hc:∀p∈ps,Nm p.1/\Nm p.2):cb [.tup (ps.map lH)]=some (.lst (sD (wP ps))):=by
 have w1:=fV (ps.length:Int) (g9 hl);have z:(ps.map lH).length<=sizeLine:=aQ (by rw[Ac];omega);have Bb:1<=sizeLine:=by decide
 let⟨⟨acc,x2,cs⟩,BE,h1,h2⟩:=eQ (g:=iw 2) (b:=dR) lH
  (λst:Tn×Jo R×A0 bX=>([some (.v (.tup (ps.map lH))),e7 0,st.2.1],.lst (sD st.1)::st.2.2))
  (λst rem=>(∀p∈rem,Nm p.1/\Nm p.2)/\st.1++(rem.flatMap λp=>[wN p.1,wN p.2])=wP ps) ps ([wN ps.length],none,[]) {hc,rfl} (by
   rintro⟨acc,x2,cs⟩ p rem ⟨h1,h2⟩;have w:=t9 (cs:=[p.1,p.2]) ∅ (λc hc=>by
    rcases Ad.mp hc with rfl|hc
    ·exact(h1 p Aw).1
    ·rw[BA.mp hc];exact(h1 p Aw).2)
   have fl:=dj [wN p.1,wN p.2];have zz:(sD acc).length+2<=sizeLine:=aQ (by
    have:=AL List.length h2;simp at this
    simp;have e:∀l:A0 (Int×Int),(l.map (λ_=>2)).sum=2*l.length:=λl=>by induction l with|nil=>rfl|cons a l ih=>simp[ih];omega
    rwa[e] at this
    omega)
   refine{(acc++[wN p.1,wN p.2],some (.v (lH p)),cs++[.lst (sD [wN p.1,wN p.2])]),?_,λp' hp=>h1 p' (Au _ hp),by rw[Bu];exact h2};have ex:oq (.p 0) [.p (cs.length+1)] (.lst (sD acc)::(cs++[.lst (sD [wN p.1,wN p.2])]))=some (.v .non,.lst (sD (acc++[wN p.1,wN p.2]))::(cs++[.lst (sD [wN p.1,wN p.2])])):=by have g1:(bX.lst (sD acc)::(cs++[.lst (sD [wN p.1,wN p.2])]))[cs.length+1]?=some (.lst (sD [wN p.1,wN p.2])):=∅;unfold oq;rwa[List.getElem?_cons_zero,g1];rw[A8 (show(sD acc).length+(sD [wN p.1,wN p.2]).length<=sizeLine from zz),zbJ,sD,sD,sD,B8]
   have w':be [lH p]=some (.lst (sD [wN p.1,wN p.2])):=w;generalize hV : [wN p.1,wN p.2]=V at w' fl ex;push_cast [dR,w',fl,B9,zbm,ex])
 rw[zbw,Bm] at h2;subst h2;rw[mj];push_cast [fO,Ac,z,w1,Bb];rwa[sD,An,Bj] at BE;push_cast [BE]
theorem JDa {k:Nat}{p:D×Tn×D}(hF:∀a ws,AK k a ws->ws.length<=p.2.1.length->F [a]=some (.lst (sD ws)))(t:Th (AK k) p):ca F [p.1,p.2.2]=some (.lst (sD p.2.1)):=by
 have Bb:1<=sizeLine:=by decide
 cases t with
 | @ask a ws t=>
  have k:=zJ;have fl:=dj ws;have f:=hF a ws t (Af _);rw[bU];push_cast [br,f7,k.a,f,fl]
 | @col n t=>
  have k:=pE;rw[bU];push_cast [br,f7,cz,cy,k.a,k.c,k.n,fV n t,Bb]
 | @num n t=>
  have k:=pD;rw[bU];push_cast [br,f7,cz,cy,k.a,k.c,k.n,fV n t,Bb]
 | @cols cs t u=>
  have k:=nA;have fl:=dj (wC cs);have e:=zV ∅ u
  show ca F [.str "columns",.tup (cs.map .int)]=some (.lst (sD (wC cs)))
  generalize wC cs=V at e fl;rw[bU];push_cast [br,f7,cz,cy,eu,k.a,k.c,k.n,k.cs,e,fl]
 | @pairs ps t u=>
  have k:=rJ;have fl:=dj (wP ps);have e:=zU ∅ u
  show ca F [.str "pairs",.tup (ps.map lH)]=some (.lst (sD (wP ps)))
  generalize wP ps=V at e fl;rw[bU];push_cast [br,f7,cz,cy,eu,jy,k.a,k.c,k.n,k.cs,k.ps,e,fl]
 | @word w t=>
  have k:=vJ;rw[bU];push_cast [br,f7,cz,cy,eu,jy,JBu,k.a,k.c,k.n,k.cs,k.ps,Bb]
 | @name w t=>
  have k:=vK;rw[bU];push_cast [br,f7,cz,cy,eu,jy,JBv,k.a,k.c,k.n,k.cs,k.ps,Bb]
end
theorem on:∀l:Ti,flatDs (l.map D.int)=true
 |[]=>rfl
 |i::l=>by rw[An,flatDs,on l];rfl
theorem qF:∀l:A0 (Int×Int),flatDs (l.map lH)=true
 |[]=>rfl
 |i::l=>by rw[An,flatDs,qF l];rfl
theorem qG {xs:A0 D}(h:∀d∈xs,dO d=true):flatDs xs=true:=by
 induction xs with
 |nil=>rfl
 |cons x xs ih=>rw[flatDs,h x Aw,ih λd hd=>h d (Au _ hd)];rfl
theorem AK.flat:∀{k:Nat} {a:D} {ws:Tn},AK k a ws->dO a=true
 |0,_,_,h=>h.elim
 |k+1,a,ws,hh=>by
  let⟨wd,pw,h1,h2,rfl,rfl,h5,h6⟩:=hh;have:flatDs (pw.map (·.2.2))=true:=qG λd hd=>by
   let⟨p,hp,rfl⟩:=Bx.mp hd;have t:=h6 p hp
   cases t with
   |ask t=>exact AK.flat t
   |col t=>rfl
   |num t=>rfl
   |cols t u=>rwa[dO];exact on _
   |pairs t u=>rwa[dO];exact qF _
   |word t=>rfl
   |name t=>rfl
  simp[dO,flatDs,this]
theorem Th.flat {k:Nat}{p}(t:Th (AK k) p):dO p.1=true/\dO p.2.2=true:=by
 cases t with
 |ask t=>exact{rfl,AK.flat t}
 |col t=>exact{rfl,rfl}
 |num t=>exact{rfl,rfl}
 |cols t u=>exact{rfl,by rwa[dO];exact on _}
 |pairs t u=>exact{rfl,by rwa[dO];exact qF _}
 |word t=>exact{rfl,rfl}
 |name t=>exact{rfl,rfl}
theorem rQ {pw:A0 (D×Tn×D)}{p}(h:p∈pw):p.2.1.length<=(pw.flatMap (·.2.1)).length:=by
 induction pw with
 |nil=>cases h
 |cons a pw ih=>
  rw[D6,BD];rcases Ad.mp h with rfl|h
  ·omega
  ·have:=ih h;omega
theorem oJ:∀{k:Nat} {a:D} {ws:Tn},AK k a ws->ws.length<4000->bP k [a]=some (.lst (sD ws))
 |0,_,_,h=>h.elim
 |k+1,a,ws,hh=>by
  intro hz;let⟨wd,pw,h1,h2,rfl,rfl,h5,h6⟩:=hh;rw[B9] at hz;have fo:=tE h1 h5;have ff:flatDs (pw.map λp=>D.tup [p.1,p.2.2])=true:=qG λd hd=>by let⟨p,hp,rfl⟩:=Bx.mp hd;let⟨f1,f2⟩:=(h6 p hp).flat;simp[dO,flatDs,f1,f2]
  have zf:(pw.map λp=>D.tup [p.1,p.2.2]).length<=sizeLine:=aQ (by rw[Ac];omega);have Bb:1<=sizeLine:=by decide
  let⟨⟨acc,x2,x3,cs⟩,BE,h7,h8⟩:=eQ (g:=Ct 2 (ja (iw 2) (ja (iw 3) pH))) (b:=fM (bP k)) (λp:D×Tn×D=>D.tup [p.1,p.2.2])
   (λst:Tn×Jo R×Jo R×A0 bX=>([some (.v (.tup (.str wd::pw.map (·.2.2)))),e7 0,st.2.1,st.2.2.1],.lst (sD st.1)::st.2.2.2))
   (λst rem=>(∀p∈rem,p∈pw)/\st.1++rem.flatMap (·.2.1)=wd::pw.flatMap (·.2.1)) pw ([wd],none,none,[.fz (pw.map λp=>D.tup [p.1,p.2.2])]) {λ_ h=>h,rfl} (by
    rintro⟨acc,x2,x3,cs⟩ p rem ⟨h7,h8⟩;have hp:=h7 p Aw;have w:=JDa (F:=bP k) (p:=p) (k:=k) (λa ws' t hl=>oJ t (by have:=rQ hp;omega)) (h6 p hp);have fl:=dj p.2.1;have zz:(sD acc).length+(sD p.2.1).length<=sizeLine:=aQ (by
     have:=AL List.length h8;rw[D6] at this
     rwa[BD,B9] at this
     rwa[Ac];omega)
    refine{(acc++p.2.1,some (.v p.1),some (.v p.2.2),cs++[.lst (sD p.2.1)]),?_,λp' hp=>h7 p' (Au _ hp),by rw[Bu];exact h8};have ex:oq (.p 0) [.p (cs.length+1)] (.lst (sD acc)::(cs++[.lst (sD p.2.1)]))=some (.v .non,.lst (sD (acc++p.2.1))::(cs++[.lst (sD p.2.1)])):=by have g1:(bX.lst (sD acc)::(cs++[.lst (sD p.2.1)]))[cs.length+1]?=some (.lst (sD p.2.1)):=∅;unfold oq;rwa[List.getElem?_cons_zero,g1];rw[A8 zz,zbJ,sD,sD,sD,B8]
    push_cast [fM,w,fl,B9,zbm,ex])
  rw[zbw,Bm] at h8;rw[oU];rwa[sD,An,Bj] at BE;have h8:acc=wd::pw.flatMap (·.2.1):=h8;rw[h8] at BE;push_cast [im,Bb,fo,ff,zf,BE]
section
variable {F:MC}
theorem xO {k:Nat}{p:D×Tn×D}{acc:Tn}{x0 x2 x3:Jo R}{n:Nat}{U:ac}(hF:∀a ws,AK k a ws->ws.length<=p.2.1.length->F [a]=some (.lst (sD ws)))(t:Th (AK k) p)(hz:acc.length+p.2.1.length<4000)(hn:U[n]?=some (.lst (sD acc))) :
  ∃n' U' Bf,aX F [x0,e7 n,some (.v p.2.2),x3] U=some (.nx [x0,e7 n',some (.v p.2.2),Bf] U')/\U'[n']?=some (.lst (sD (acc++p.2.1))):=by
 have Bg:=(B2.mp hn).1
 have ps:∀(w:Str),(U.set n (.lst (sD acc++[.str w])))[n]?=some (.lst (sD (acc++[w]))):=λw=>by
  rw[Cf Bg,sD,sD,B8];rfl
 have z1:(sD acc).length<sizeLine:=iV (by rw[Ac];omega)
 have lg:∀k:Int,Nm k->k.natAbs.log2<1920:=λk hk=>by
  have hk:k.natAbs<10 ^ 60:=hk
  by_cases h0:k.natAbs=0
  ·rw[h0];decide
  ·have:k.natAbs.log2<200:=by rw[Nat.log2_lt h0];exact DJ hk ∅
   omega
 have iI:∀(i:Int) (U:ac),cD "str" (.v (.int i)) U=some (.v (.bl false),U):=λi U=>by kernel_rfl
 have iT:∀(i:Int) (U:ac),cD "tuple" (.v (.int i)) U=some (.v (.bl false),U):=λi U=>by kernel_rfl
 have iS:∀(s:Str) (U:ac),cD "str" (.v (.str s)) U=some (.v (.bl true),U):=λi U=>by kernel_rfl
 have tS:∀(xs:A0 D) (U:ac),cD "str" (.v (.tup xs)) U=some (.v (.bl false),U):=λi U=>by kernel_rfl
 have tT:∀(xs:A0 D) (U:ac),cD "tuple" (.v (.tup xs)) U=some (.v (.bl true),U):=λi U=>by kernel_rfl
 have one:∀k:Int,Nm k->∃n' U' Bf,aX F [x0,e7 n,jl k,x3] U=some (.nx [x0,e7 n',jl k,Bf] U')/\U'[n']?=some (.lst (sD (acc++[wN k]))):=λk hk=>by
  refine{n,_,x3,?_,ps _};push_cast [aX,iI,iT,lg k hk,jY,hn,z1]
 have wrd:∀w:Str,∃n' U' Bf,aX F [x0,e7 n,some (.v (.str w)),x3] U=some (.nx [x0,e7 n',some (.v (.str w)),Bf] U')/\U'[n']?=some (.lst (sD (acc++[w]))):=λw=>by
  refine{n,_,x3,?_,ps _};push_cast [aX,iS,hn,z1]
 cases t with
 | @ask a ws t=>
  have f:=hF a ws t (Af _);have fl:=dj ws
  cases k with
  |zero=>exact t.elim
  |succ k=>
   let⟨wd,pw,h1,h2,rfl,h4,h5,h6⟩:=t;have zt:(D.str wd::pw.map (·.2.2)).length<=sizeLine:=aQ (by simp;omega);have gt:decide (((pw.map (·.2.2)).length+1:Nat)>(0:Int))=true:=Bk ∅
   have kp:(U++[.lst (sD ws)])[n]?=some (.lst (sD acc)):=by rw[B3 Bg];exact hn
   have ad:jH (.p n) (.p U.length) (U++[.lst (sD ws)])=some (.p (U++[bX.lst (sD ws)]).length,U++[.lst (sD ws)]++[.lst (sD acc++sD ws)]):=by
    have s1:iW (.p n) (U++[.lst (sD ws)])=some (sD acc):=by unfold iW;rwa[kp]
    have s2:iW (.p U.length) (U++[.lst (sD ws)])=some (sD ws):=by unfold iW;rwa[xR]
    unfold jH;rwa[s1,s2,D5];rw[A8 (aQ ‹hz›)]
   refine{(U++[bX.lst (sD ws)]).length,U++[.lst (sD ws)]++[.lst (sD acc++sD ws)],x3,?_,?_}
   ·push_cast [aX,tS,tT,iS,zt,gt,f,fl,ad]
   ·rw[xR,sD,sD,sD,B8]
 | @col k t=>exact one k t
 | @num k t=>exact one k t
 | @word w t=>exact wrd w
 | @name w t=>exact wrd w
 | @cols cs t u=>
  have hz:acc.length+(cs.length+1)<4000:=by simpa using hz
  have zt:(cs.map D.int).length<=sizeLine:=aQ (by rw[Ac];omega)
  have nt:∀U,gR (fB (aK vQ (eV eR (ae (ag 2) aj)) (fK (.int 0)))) (eU (d9 (cD "str") (aK gL (ag 2) (fK (.int 0))))) [x0,e7 n,some (.v (.tup (cs.map .int))),x3] U=some (false,U):=λU=>by
   cases cs with
   |nil=>kernel_rfl
   |cons c cs=>
    have gt:decide (((cs.map D.int).length+1:Nat)>(0:Int))=true:=Bk ∅;push_cast [zt,gt,iI]
  let⟨⟨AS,Bf⟩,BE,h1⟩:=eQ (g:=iw 3) (b:=cQ F) D.int
   (λst:Tn×Jo R=>([x0,e7 n,some (.v (.tup (cs.map .int))),st.2],U.set n (.lst (sD st.1))))
   (λst rem=>(∀c∈rem,Nm c)/\st.1++rem.map wN=acc++wC cs) cs (acc++[wN cs.length],x3) {u,by rw[Bu];rfl} (by
    rintro⟨AS,Bf⟩ c rem ⟨h1,h2⟩
    have zl:(sD AS).length<sizeLine:=iV (by
     have:=AL List.length h2
     simp at this
     rw[Ac]
     omega)
    refine{(AS++[wN c],some (.v (.int c))),?_,λc' hc=>h1 c' (Au _ hc),by rw[Bu];exact h2};have g1:(U.set n (.lst (sD AS)))[n]?=some (.lst (sD AS)):=Cf Bg
    have sa:sD AS++[.str (wN c)]=sD (AS++[wN c]):=by rw[sD,sD,B8];rfl
    push_cast [cQ,iT,lg c (h1 c Aw),jY,g1,zl,sa,List.set_set])
  refine{n,U.set n (.lst (sD AS)),Bf,?_,?_}
  ·have sa:sD acc++[.str (wN cs.length)]=sD (acc++[wN cs.length]):=by rw[sD,sD,B8];rfl
   have lg1:=lg (cs.length:Int) (g9 ∅)
   have t1:eU (d9 (cD "str") (ag 2)) [x0,e7 n,some (.v (.tup (cs.map .int))),x3] U=some (false,U):=by push_cast [tS]
   have t2:fW (eU (d9 (cD "tuple") (ag 2))) [x0,e7 n,some (.v (.tup (cs.map .int))),x3] U=some (false,U):=by push_cast [tT]
   rw[aX,eW,t1,gz,eW,t2,gz,eW,nt,gz];have z1':acc.length<sizeLine:=iV ∅;push_cast [lg1,jY,hn,z1',zt,Ac,sa,BE]
  ·rw[Cf Bg,←h1.2]
   simp
 | @pairs ps t u=>
  have fl2:∀l:A0 (Int×Int),(l.flatMap λp=>[wN p.1,wN p.2]).length=2*l.length:=λl=>by
   induction l with
   |nil=>rfl
   |cons a l ih=>rw[D6,BD,ih];simp;omega
  have hz:acc.length+(2*ps.length+1)<4000:=by
   have hz:acc.length+((ps.flatMap λp=>[wN p.1,wN p.2]).length+1)<4000:=hz
   (rw[fl2] at hz;assumption)
  have zt:(ps.map lH).length<=sizeLine:=aQ (by rw[Ac];omega)
  have nt:∀U,gR (fB (aK vQ (eV eR (ae (ag 2) aj)) (fK (.int 0)))) (eU (d9 (cD "str") (aK gL (ag 2) (fK (.int 0))))) [x0,e7 n,some (.v (.tup (ps.map lH))),x3] U=some (false,U):=λU=>by
   cases ps with
   |nil=>kernel_rfl
   |cons c ps=>
    have gt:decide (((ps.map lH).length+1:Nat)>(0:Int))=true:=Bk ∅;push_cast [zt,gt,tS]
  have Cv:(U.set n (.lst (sD (acc++[wN ps.length]))))[n]?=some (.lst (sD (acc++[wN ps.length]))):=Cf Bg
  let⟨⟨AS,Bf,n',U'⟩,BE,h0,h1,h2⟩:=eQ (g:=iw 3) (b:=cQ F) lH
   (λst:Tn×Jo R×Nat×ac=>([x0,e7 st.2.2.1,some (.v (.tup (ps.map lH))),st.2.1],st.2.2.2))
   (λst rem=>(∀c∈rem,Nm c.1/\Nm c.2)/\st.2.2.2[st.2.2.1]?=some (.lst (sD st.1))/\st.1++(rem.flatMap λp=>[wN p.1,wN p.2])=acc++wP ps) ps (acc++[wN ps.length],x3,n,U.set n (.lst (sD (acc++[wN ps.length])))) {u,Cv,by rw[Bu];rfl} (by
    rintro⟨AS,Bf,n',U'⟩ c rem ⟨h0,h1,h2⟩;have h1:U'[n']?=some (.lst (sD AS)):=h1;let⟨c1,c2⟩:=h0 c Aw
    have zl:(sD AS).length+2<=sizeLine:=aQ (by
     have:=AL List.length h2
     rw[D6] at this
     rwa[BD,B9,fl2,zbT] at this
     rw[Ac]
     omega)
    have kp:(U'++[.lst [.str (wN c.1),.str (wN c.2)]])[n']?=some (.lst (sD AS)):=by rw[B3 (B2.mp h1).1];exact h1
    have ad:jH (.p n') (.p U'.length) (U'++[.lst [.str (wN c.1),.str (wN c.2)]])=some (.p (U'++[bX.lst [.str (wN c.1),.str (wN c.2)]]).length,U'++[.lst [.str (wN c.1),.str (wN c.2)]]++[.lst (sD AS++[.str (wN c.1),.str (wN c.2)])]):=by
     have s1:iW (.p n') (U'++[.lst [.str (wN c.1),.str (wN c.2)]])=some (sD AS):=by unfold iW;rwa[kp]
     have s2:iW (.p U'.length) (U'++[.lst [.str (wN c.1),.str (wN c.2)]])=some [.str (wN c.1),.str (wN c.2)]:=by unfold iW;rwa[xR]
     unfold jH;rwa[s1,s2,D5];rw[A8 (show(sD AS).length + [D.str (wN c.1),D.str (wN c.2)].length<=sizeLine from zl)]
    refine{(AS++[wN c.1,wN c.2],some (.v (lH c)),(U'++[bX.lst [.str (wN c.1),.str (wN c.2)]]).length,U'++[.lst [.str (wN c.1),.str (wN c.2)]]++[.lst (sD AS++[.str (wN c.1),.str (wN c.2)])]),?_,λc' hc=>h0 c' (Au _ hc),?_,by rw[Bu];exact h2}
    ·have s22:2<=sizeLine:=by decide
     push_cast [cQ,tT,lg c.1 c1,lg c.2 c2,jY,s22,ad]
    ·show(_++[_])[_]?=_
     rw[xR,sD,sD,B8]
     rfl)
  refine{n',U',Bf,?_,?_}
  ·have sa:sD acc++[.str (wN ps.length)]=sD (acc++[wN ps.length]):=by rw[sD,sD,B8];rfl
   have lg1:=lg (ps.length:Int) (g9 ∅)
   have t1:eU (d9 (cD "str") (ag 2)) [x0,e7 n,some (.v (.tup (ps.map lH))),x3] U=some (false,U):=by push_cast [tS]
   have t2:fW (eU (d9 (cD "tuple") (ag 2))) [x0,e7 n,some (.v (.tup (ps.map lH))),x3] U=some (false,U):=by push_cast [tT]
   rw[aX,eW,t1,gz,eW,t2,gz,eW,nt,gz];have z1':acc.length<sizeLine:=iV ∅;push_cast [lg1,jY,hn,z1',zt,Ac,sa,BE]
  ·show U'[n']?=some (.lst (sD (acc++wP ps)))
   rw[←h2,zbw,Bm];exact h1
end
theorem ny:∀{k:Nat} {a:D} {ws:Tn},AK k a ws->ws.length<4000->bO k [a]=some (.lst (sD ws))
 |0,_,_,h=>h.elim
 |k+1,a,ws,hh=>by
  intro hz;let⟨wd,pw,h1,h2,rfl,rfl,h5,h6⟩:=hh;rw[B9] at hz;have zf:(pw.map (·.2.2)).length<=sizeLine:=aQ (by rw[Ac];omega);have Bb:1<=sizeLine:=by decide
  let⟨⟨acc,x2,x3,n,U⟩,BE,h7,h8,h9⟩:=eQ (g:=iw 2) (b:=aX (bO k)) (λp:D×Tn×D=>p.2.2)
   (λst:Tn×Jo R×Jo R×Nat×ac=>([some (.v (.tup (.str wd::pw.map (·.2.2)))),e7 st.2.2.2.1,st.2.1,st.2.2.1],st.2.2.2.2))
   (λst rem=>(∀p∈rem,p∈pw)/\st.2.2.2.2[st.2.2.2.1]?=some (.lst (sD st.1))/\st.1++rem.flatMap (·.2.1)=wd::pw.flatMap (·.2.1)) pw ([wd],none,none,0,[.lst [.str wd]]) {λ_ h=>h,rfl,rfl} (by
    rintro⟨acc,x2,x3,n,U⟩ p rem ⟨h7,h8,h9⟩;have hp:=h7 p Aw;let⟨n',U',Bf,e1,e2⟩:=xO (F:=bO k) (p:=p) (k:=k) (acc:=acc) (x0:=some (.v (.tup (.str wd::pw.map (·.2.2))))) (x2:=x2) (x3:=x3) (n:=n) (U:=U) (λa ws' t hl=>ny t (by have:=rQ hp;omega)) (h6 p hp) (by
     have:=AL List.length h9;rw[D6] at this
     rwa[BD,B9] at this
     omega) h8
    exact{(acc++p.2.1,some (.v p.2.2),Bf,n',U'),e1,λp' hp=>h7 p' (Au _ hp),e2,by rw[Bu];exact h9})
  rw[zbw,Bm] at h9;have h9:acc=wd::pw.flatMap (·.2.1):=h9;have h8:U[n]?=some (.lst (sD acc)):=h8;rw[h9] at h8;rw[oR];push_cast [il,Bb,EK,zf,BE,h8]
inductive Pl:Nat->D->Prop
 |int {n i}:Pl (n+1) (.int i)
 |str {n s}:dk 60 (.str s)=true->Pl (n+1) (.str s)
 |tup {n ds}:(∀d∈ds,Pl n d)->ds.length<4000->Pl (n+1) (.tup ds)
theorem Pl.up {n:Nat}{d:D}(h:Pl n d):Pl (n+1) d:=by
 induction h with
 |int=>exact .int
 |str h=>exact .str h
 |tup _ h ih=>exact .tup ih h
def jc (s:Str):iH (.str s) (.str s)=true:=by show(s == s)=true;exact zba s
theorem q8:∀{n:Nat} {d:D},Pl n d->cB n [d,d]=some (.bl true)
 |0,_,h=>nomatch h
 |n+1,d,h=>by
  cases h with
  | @int _ i=>
   have iI:∀(U:ac),cD "str" (.v (.int i)) U=some (.v (.bl false),U):=λU=>(by kernel_rfl);have iT:∀(U:ac),cD "tuple" (.v (.int i)) U=some (.v (.bl false),U):=λU=>(by kernel_rfl);have iN:∀(U:ac),cD "int" (.v (.int i)) U=some (.v (.bl true),U):=λU=>(by kernel_rfl);have iB:∀(U:ac),cD "bool" (.v (.int i)) U=some (.v (.bl false),U):=λU=>(by kernel_rfl);rw[iP];push_cast [e5,iI,iT,iN,iB,zba]
  | @str _ s h=>
   have iI:∀(U:ac),cD "str" (.v (.str s)) U=some (.v (.bl true),U):=λU=>(by kernel_rfl);have iT:∀(U:ac),cD "tuple" (.v (.str s)) U=some (.v (.bl false),U):=λU=>(by kernel_rfl);rw[iP];push_cast [e5,iI,iT,h,jc]
  | @tup _ ds h hl=>
   have iT:∀(U:ac),cD "tuple" (.v (.tup ds)) U=some (.v (.bl true),U):=λU=>(by kernel_rfl);have z:ds.length<=sizeLine:=aQ hl;have e0:(!((ds.length:Int) == (ds.length:Int)))=false:=∅;have r1:=kn (j:=(ds.length:Int)) (U:=([]:ac)) ∅;have tn:((ds.length:Int)).toNat=ds.length:=∅;obtain⟨O,U,BE,x2,rfl,rfl⟩:=i4 (g:=iw 2) (b:=gr (cB n)) (O:=[some (.v (.tup ds)),some (.v (.tup ds)),none]) (U:=[]) ds.length
    (λi O U=>∃x2:Jo R,O=[some (.v (.tup ds)),some (.v (.tup ds)),x2]/\U=[]) {none,rfl,rfl} (by rintro i hi O U ⟨x2,rfl,rfl⟩;have a1:jL ds (i:Int)=some ds[i]:=l6 ∅ (by simp[hi]);have s1:=q8 (h ds[i] (zbQ hi));refine{_,_,?_,jl ((i:Int)),rfl,rfl};push_cast [gr,a1,s1])
   rw[iP];push_cast [e5,iT,z,e0,r1,tn,BE]
def Pl.ints {n:Nat}{cs:Ti}(h:cs.length<4000):Pl (n+2) (.tup (cs.map .int)):=.tup (λd hd=>by let⟨c,_,rfl⟩:=Bx.mp hd;exact .int) (by rw[Ac];exact h)
theorem AK.pl:∀{k:Nat} {a:D} {ws:Tn},AK k a ws->Pl (k+3) a
 |0,_,_,h=>h.elim
 |k+1,a,ws,hh=>by
  let⟨wd,pw,h1,h2,rfl,rfl,h5,h6⟩:=hh;refine .tup (λd hd=>?_) (by simp;omega);rcases Ad.mp hd with rfl|hd
  ·exact .str h2.ok
  ·let⟨p,hp,rfl⟩:=Bx.mp hd;have t:=h6 p hp
   cases t with
   |ask t=>exact AK.pl t
   |col t=>exact .int
   |num t=>exact .int
   |cols t u=>exact Pl.ints ∅
   |pairs t u=>exact .tup (λd hd=>by let⟨p,_,rfl⟩:=Bx.mp hd;exact Pl.ints (cs:=[p.1,p.2]) ∅) (by rw[Ac];omega)
   |word t=>exact .str t.ok
   |name t=>exact .str t.ok
def JC3 (k:Int):32∉tn k:=by
 intro hc;have:(32:Nat)=45\/32∈dg k.natAbs:=by
  unfold tn at hc;split at hc
  ·simpa using hc
  ·exact .inr hc
 rcases this with h|h
 ·omega
 ·have:=ko _ 32 h;omega
def xH {w:Str}(h:dk 60 (.str w)=true):∀c∈w.cps.toList,c<1114112:=by obtain⟨l,rfl⟩:∃l,w=Tx l:={_,qW w};have o:PyData.strOk (Tx l)=true:=h;unfold PyData.strOk at o;rwa[Tx,List.all_toArray,zbn,decide_eq_true_eq] at o ⊢;exact o
def Wd (w:Str):Prop:=32∉w.cps.toList/\w.length<=70/\∀c∈w.cps.toList,c<1114112
def pS {k:Int}(h:Nm k):Wd (wN k):={JC3 k,by rw[dq];have:=uj (n:=k) (k:=60) ∅ h;omega,ui k}
def Lt.wd {w:Str}(h:Lt w):Wd w:={h.sp,by have:=h.le;omega,xH h.ok}
theorem AK.wd:∀{k:Nat} {a:D} {ws:Tn},AK k a ws->∀w∈ws,Wd w
 |0,_,_,h=>h.elim
 |k+1,a,ws,hh=>by
  intro w hw;let⟨wd,pw,h1,h2,rfl,rfl,h5,h6⟩:=hh;rcases Ad.mp hw with rfl|hw
  ·exact h2.wd
  ·let⟨p,hp,hw⟩:=List.mem_flatMap.mp hw;have t:=h6 p hp
   cases t with
   |ask t=>exact AK.wd t w hw
   |col t=>rw[BA.mp hw];exact pS t
   |num t=>rw[BA.mp hw];exact pS t
   |cols t u=>
    rcases Ad.mp hw with rfl|hw
    ·exact pS (g9 ∅)
    ·let⟨c,hc,rfl⟩:=Bx.mp hw;exact pS (u c hc)
   |pairs t u=>
    rcases Ad.mp hw with rfl|hw
    ·exact pS (g9 ∅)
    ·let⟨c,hc,hw⟩:=List.mem_flatMap.mp hw;rcases Ad.mp hw with rfl|hw
     ·exact pS (u c hc).1
     ·rw[BA.mp hw];exact pS (u c hc).2
   |word t=>rw[BA.mp hw];exact t.wd
   |name t=>rw[BA.mp hw];exact t.wd
theorem AK.ne {k:Nat}{a:D}{ws:Tn}(h:AK k a ws):ws≠[]:=by
 cases k with
 |zero=>exact h.elim
 |succ k=>let⟨wd,pw,h1,h2,rfl,rfl,h5,h6⟩:=h;simp
abbrev jn (ws:Tn):Str:=Txt.join ⟨#[32]⟩ ws
theorem zK:∀{ws:Tn},(∀w∈ws,Wd w)->∀c∈(Str.join ⟨#[32]⟩ ws).cps.toList,c<1114112
 |[],_,c,hc=>by have hc:c∈([]:A0 Nat):=hc;cases hc
 |[a],h,c,hc=>(h a Aw).2.2 c hc
 |a::b::r,h,c,hc=>by
  have e:Str.join ⟨#[32]⟩ (a::b::r)=a++⟨#[32]⟩++Str.join ⟨#[32]⟩ (b::r):=rfl;rw[e,Str.cps_append,Str.cps_append,zbH,zbH] at hc;rcases CR.mp hc with hc|hc
  ·rcases CR.mp hc with hc|hc
   ·exact(h a Aw).2.2 c hc
   ·have:c=32:=by simpa using hc
    omega
  ·exact zK (λw hw=>h w (Au _ hw)) c hc
def JDy {ws:Tn}(h:∀w∈ws,Wd w):dk 60 (.str (jn ws))=true:=by have e:jn ws=Str.join ⟨#[32]⟩ ws:=PySem.StrLaws.glued_eq_join _ _;rw[e,qW (Str.join ⟨#[32]⟩ ws)];exact zo (zK h)
theorem uC (ws:Tn):gQ (sD ws)=some ws:=by
 induction ws with
 |nil=>rfl
 |cons w r ih=>rwa[sD,An,gQ] at ih ⊢;rw[ih];rfl
def rK {ws:Tn}{n:Nat}{U:ac}(h:U[n]?=some (.lst (sD ws)))(hw:∀w∈ws,Wd w)(hl:ws.length<4000):lR (.v (.str " ")) (.p n) U=some (.v (.str (jn ws)),U):=by
 show((F7 U[n]?).bind λds=>(gQ ds).bind λts=>if JoinOk (Str.ofString " ") ts=true then some (R.v (.str (Txt.join (Str.ofString " ") ts)),U) else none)=_
 rw[h]
 show((gQ (sD ws)).bind λts=>if JoinOk (Str.ofString " ") ts=true then some (R.v (.str (Txt.join (Str.ofString " ") ts)),U) else none)=_
 rw[uC,yz]
 show(if JoinOk ⟨#[32]⟩ ws=true then some (R.v (.str (Txt.join ⟨#[32]⟩ ws)),U) else none)=_
 rw[A8 (xV ws (λw h=>(hw w h).2.1) hl)]
def ua {a:D}{ws:Tn}(h:AK 24 a ws)(hl:ws.length<4000):dM [a]=some (.str (jn ws)):=by have e:=oJ h hl;have fl:=dj ws;have j:=rK (n:=0) (U:=[.lst (sD ws)]) rfl h.wd hl;rw[oP];push_cast [ij,e,fl,j]
def rM (s:Str)(U:ac):cD "str" (.v (.str s)) U=some (.v (.bl true),U):=by kernel_rfl
def zW {ws:Tn}(h0:ws≠[])(hw:∀w∈ws,Wd w)(hl:ws.length<4000):cW [.str (jn ws)]=some (.lst (sD ws)):=by
 have c:bA [.str (jn ws)]=some .non:=by rw[jp];push_cast [en,rM]
 have s:qc (.v (.str (jn ws))) (.v (.str " ")) []=some (.p 0,[.lst (sD ws)]):=by unfold qc;rw[yz];dsimp only;rw[A8 {rfl,vM ws (λw h=>(hw w h).2.1) hl},p9 32 ws h0 λw h=>(hw w h).1];rfl
 rw[pV];push_cast [jd,c,s]
def wS {a:D}{ws:Tn}(h:AK 20 a ws)(hl:ws.length<4000):cA [.str (jn ws)]=some a:=by
 have wo:=zW h.ne h.wd hl;have fl:=dj ws;have ini:bT [.p 0,.v (.str (jn ws))] [.ob "Reader" []]=some (.v .non,[.ob "Reader" (ji 1 0),.lst (sD ws)]):=by
  have e1:(cj cW 1 (ae (ag 1) aj)) [e7 0,some (.v (.str (jn ws)))] [.ob "Reader" []]=some (.p 1,[.ob "Reader" [],.lst (sD ws)]):=by push_cast [wo,fl]
  have f1:lF "Reader" "words" (ag 0) (cj cW 1 (ae (ag 1) aj)) [e7 0,some (.v (.str (jn ws)))] [.ob "Reader" []]=some (.nx [e7 0,some (.v (.str (jn ws)))] [.ob "Reader" [("words",.p 1)],.lst (sD ws)]):=by unfold lF;rw[e1];rfl
  have f2:lF "Reader" "place" (ag 0) (fK (.int 0)) [e7 0,some (.v (.str (jn ws)))] [.ob "Reader" [("words",.p 1)],.lst (sD ws)]=some (.nx [e7 0,some (.v (.str (jn ws)))] [.ob "Reader" (ji 1 0),.lst (sD ws)]):=by
   have pf:iL "place" (.v (.int 0)) [("words",.p 1)]=ji 1 0:=by simp[iL,Dg]
   show some (lc.nx _ [.ob "Reader" (iL "place" (.v (.int 0)) [("words",.p 1)]),.lst (sD ws)])=_
   rw[pf]
  rw[mw];push_cast [fS,f1,f2];rfl
 have mk:lX "Reader" bT 2 (ae (ag 0) aj) [some (.v (.str (jn ws))),none,none] []=some (.p 0,[.ob "Reader" (ji 1 0),.lst (sD ws)]):=by
  show((bT [.p 0,.v (.str (jn ws))] [.ob "Reader" []]).bind _)=_
  rw[ini];rfl
 have rs:RS 0 1 ws 0 [.ob "Reader" (ji 1 0),.lst (sD ws)]:={rfl,rfl,hl};obtain⟨U',e1,h1,f1⟩:=rC h 4 0 _ 1 ∅ rs (by show ws <+: ws.drop 0;rw[List.drop_zero];exact List.prefix_refl _);rw[Nat.zero_add] at h1;have cw:fN (bt 24) 2 (ae (ag 1) (ae (fK (.int 1)) aj)) [some (.v (.str (jn ws))),e7 0,none] [.ob "Reader" (ji 1 0),.lst (sD ws)]=some (.v a,U'):=e1;have fin:bI [.p 0] U'=some (.v .non,U'):=by
  have e0:(!((ws.length:Int) == (ws.length:Int)))=false:=by simp
  rw[kS];push_cast [dY,Ca h1 (fo:=ag 0) (O:=[some (R.p 0)]) rfl,Cb h1 (fo:=ag 0) (O:=[some (R.p 0)]) rfl,rF h1,e0];rfl
 have mf:=iy (O:=[some (.v (.str (jn ws))),e7 0,some (.v a)]) (fo:=ag 1) (f:=bI) (m:=1) h1 rfl JD Gx;rw[fin] at mf;rw[pW];push_cast [je,mk,cw,mf]
def zI {l:A0 Nat}(h1:1<=l.length)(h2:l.length<=8)(h:∀c∈l,c∈az):Lt (Tx l):=by have m:=rE l az _ 8 yA h1 ∅ ∅ h;have hb:∀c∈l,97<=c/\c<=122:=λc hc=>HR c (h c hc);refine{?_,nZ λc hc=>by have:=hb c hc;omega,λhc=>by have:=hb 32 hc;omega,by rw[dq];omega};rw[lq];push_cast [eZ,m]
def cp {w:Str}{l:A0 Nat}(e:w=Tx l)(h:(decide (1<=l.length)&&decide (l.length<=8)&&l.all (λc=>az.contains c))=true):Lt w:=by subst e;rwa[za9,decide_eq_true_eq,zbn,List.contains_iff_mem] at h;exact zI h.1.1 h.1.2 h.2
def pA:Lt "table":=cp (l:=[116,97,98,108,101]) ∅ ∅
def xP:Lt "pick":=cp (l:=[112,105,99,107]) ∅ ∅
def vC:Lt "twins":=cp (l:=[116,119,105,110,115]) ∅ ∅
def qp:Lt "columns":=cp (l:=[99,111,108,117,109,110,115]) ∅ ∅
def qo:Lt "counted":=cp (l:=[99,111,117,110,116,101,100]) ∅ ∅
def sN:Lt "summed":=cp (l:=[115,117,109,109,101,100]) ∅ ∅
def sO:Lt "lifted":=cp (l:=[108,105,102,116,101,100]) ∅ ∅
def sP:Lt "joined":=cp (l:=[106,111,105,110,101,100]) ∅ ∅
def qm:Lt "matched":=cp (l:=[109,97,116,99,104,101,100]) ∅ ∅
def zY:∀w∈(["is","under","over","abcdefgh"]:Tn),Lt w:=by
 intro w hw;rwa[Ad,BL,or_false] at hw;rcases hw with rfl|rfl|rfl|rfl
 ·exact cp (l:=[105,115]) ∅ ∅
 ·exact cp (l:=[117,110,100,101,114]) ∅ ∅
 ·exact cp (l:=[111,118,101,114]) ∅ ∅
 ·exact cp (l:=[97,98,99,100,101,102,103,104]) ∅ ∅
def zZ:∀w∈(["moved","ever","always","known","asof","from","q"]:Tn),Lt w:=by
 intro w hw;rwa[Ad,BL,or_false] at hw;rcases hw with rfl|rfl|rfl|rfl|rfl|rfl|rfl
 ·exact cp (l:=[109,111,118,101,100]) ∅ ∅
 ·exact cp (l:=[101,118,101,114]) ∅ ∅
 ·exact cp (l:=[97,108,119,97,121,115]) ∅ ∅
 ·exact cp (l:=[107,110,111,119,110]) ∅ ∅
 ·exact cp (l:=[97,115,111,102]) ∅ ∅
 ·exact cp (l:=[102,114,111,109]) ∅ ∅
 ·exact cp (l:=[113]) ∅ ∅
def JA3:∀w∈(["both","either","less","just","table"]:Tn),Lt w:=by
 intro w hw;rwa[Ad,BL,or_false] at hw;rcases hw with rfl|rfl|rfl|rfl|rfl
 ·exact cp (l:=[98,111,116,104]) ∅ ∅
 ·exact cp (l:=[101,105,116,104,101,114]) ∅ ∅
 ·exact cp (l:=[108,101,115,115]) ∅ ∅
 ·exact cp (l:=[106,117,115,116]) ∅ ∅
 ·exact pA
section
variable {k:Nat}{a b:D}{u v:Tn}
def BH {P:D×Tn×D->Prop}{x y}(h1:P x)(h2:P y):∀p∈[x,y],P p:=λp hp=>by
 rcases Ad.mp hp with rfl|hp
 ·exact h1
 ·rw[BA.mp hp];exact h2
def sM {P:D×Tn×D->Prop}{x y z}(h1:P x)(h2:P y)(h3:P z):∀p∈[x,y,z],P p:=λp hp=>by
 rcases Ad.mp hp with rfl|hp
 ·exact h1
 ·exact BH h2 h3 p hp
def Gy {P:D×Tn×D->Prop}{x y z t}(h1:P x)(h2:P y)(h3:P z)(h4:P t):∀p∈[x,y,z,t],P p:=λp hp=>by
 rcases Ad.mp hp with rfl|hp
 ·exact h1
 ·exact sM h2 h3 h4 p hp
def wg {w:Str}(h:Lt w):AK (k+1) (.tup [.str "table",.str w]) ["table",w] :=
 {"table",[(.str "name",[w],.str w)],by kernel_rfl,pA,rfl,rfl,by simp,λp hp=>by rw[BA.mp hp];exact .name h}
def yj {c n:Int}{w:Str}(h:AK k a u)(hc:Nm c)(hw:Lt w)(hn:Nm n):AK (k+1) (.tup [.str "pick",a,.int c,.str w,.int n]) ("pick" :: (u++[wN c,w,wN n])) :=
 {"pick",[(.str "ask",u,a),(.str "column",[wN c],.int c),(.str "word",[w],.str w),(.str "number",[wN n],.int n)],by kernel_rfl,xP,rfl,by simp,by simp,Gy (.ask h) (.col hc) (.word hw) (.num hn)}
def wf {c c':Int}(h:AK k a u)(hc:Nm c)(BW:Nm c'):AK (k+1) (.tup [.str "twins",a,.int c,.int c']) ("twins" :: (u++[wN c,wN c'])) :=
 {"twins",[(.str "ask",u,a),(.str "column",[wN c],.int c),(.str "column",[wN c'],.int c')],by kernel_rfl,vC,rfl,by simp,by simp,sM (.ask h) (.col hc) (.col BW)}
def yk {n:Int}{w:Str}(h:AK k a u)(hw:Lt w)(hn:Nm n):AK (k+1) (.tup [.str "lifted",a,.str w,.int n]) ("lifted" :: (u++[w,wN n])) :=
 {"lifted",[(.str "ask",u,a),(.str "word",[w],.str w),(.str "number",[wN n],.int n)],by kernel_rfl,sO,rfl,by simp,by simp,sM (.ask h) (.word hw) (.num hn)}
def Ch {cs:Ti}{c:Int}(h:AK k a u)(hl:cs.length<10)(BU:∀c∈cs,Nm c)(hc:Nm c):AK (k+1) (.tup [.str "summed",a,.tup (cs.map .int),.int c]) ("summed" :: (u++(wC cs++[wN c]))) :=
 {"summed",[(.str "ask",u,a),(.str "columns",wC cs,.tup (cs.map .int)),(.str "column",[wN c],.int c)],by kernel_rfl,sN,rfl,by simp,by simp,sM (.ask h) (.cols hl BU) (.col hc)}
def ym {cs:Ti}(h:AK k a u)(hl:cs.length<10)(BU:∀c∈cs,Nm c):AK (k+1) (.tup [.str "columns",a,.tup (cs.map .int)]) ("columns" :: (u++wC cs)) :=
 {"columns",[(.str "ask",u,a),(.str "columns",wC cs,.tup (cs.map .int))],by kernel_rfl,qp,rfl,by simp,by simp,BH (.ask h) (.cols hl BU)}
def JC9 {cs:Ti}(h:AK k a u)(hl:cs.length<10)(BU:∀c∈cs,Nm c):AK (k+1) (.tup [.str "counted",a,.tup (cs.map .int)]) ("counted" :: (u++wC cs)) :=
 {"counted",[(.str "ask",u,a),(.str "columns",wC cs,.tup (cs.map .int))],by kernel_rfl,qo,rfl,by simp,by simp,BH (.ask h) (.cols hl BU)}
def yl {w:Str}(h:AK k a u)(h':AK k b v)(hw:Lt w):AK (k+1) (.tup [.str "joined",a,b,.str w]) ("joined" :: (u++(v++[w]))) :=
 {"joined",[(.str "ask",u,a),(.str "ask",v,b),(.str "word",[w],.str w)],by kernel_rfl,sP,rfl,by simp,by simp,sM (.ask h) (.ask h') (.word hw)}
def JC8 {ps:A0 (Int×Int)}(h:AK k a u)(h':AK k b v)(hl:ps.length<10)(hp:∀p∈ps,Nm p.1/\Nm p.2):AK (k+1) (.tup [.str "matched",a,b,.tup (ps.map lH)]) ("matched" :: (u++(v++wP ps))) :=
 {"matched",[(.str "ask",u,a),(.str "ask",v,b),(.str "pairs",wP ps,.tup (ps.map lH))],by kernel_rfl,qm,rfl,by simp,by simp,sM (.ask h) (.ask h') (.pairs hl hp)}
end
def sJ {k:Int}(h:0<=k/\k<9):Nm k:=by
 show k.natAbs<10 ^ 60
 exact Ax (show k.natAbs<9 by omega) ∅
def lZ (ns:Ti)(k:Int):∃cs:Ti,bC [.fl (ns.map .int),.int k]=some (.tup (cs.map .int))/\cs.length<=3/\∀c∈cs,Nm c:=by
 let⟨d,ed,bd⟩:=bY ns k 4 ∅;obtain⟨m,rfl⟩:∃m:Nat,d=(m:Int):={d.toNat,by omega};have ex:∀j:Nat,∃c:Int,ar [.fl (ns.map .int),.int (k+1+j),.int 9]=some (.int c)/\Nm c:=λj=>by let⟨c,ec,bc⟩:=bY ns (k+1+j) 9 ∅;exact{c,ec,sJ bc}
 obtain⟨f,hf⟩:∃f:Nat->Int,∀j:Nat,ar [.fl (ns.map .int),.int (k+1+j),.int 9]=some (.int (f j))/\Nm (f j):={λj=>(ex j).choose,λj=>(ex j).choose_spec};have co:=eX (f:=aI ar 3 (ae (bg (ag 1)) (ae (bg (aK bH (aK bH (ag 2) (fK (.int 1))) (ag 0))) (ae (fK (.int 9)) aj)))) (U:=[]) (rest:=[some (.v (.fl (ns.map .int))),jl k]) (λi:Nat=>D.int (i:Int)) (λi=>D.int (f i)) (List.range m) none (λi _=>by push_cast [(hf i).1])
 have r1:=kn (j:=(m:Int)) (U:=([]:ac)) ∅;have z:((List.range m).map λi:Nat=>D.int (i:Int)).length<=sizeLine:=aQ (by simp;omega);have b:cT 1 [0,1] [some (R.v (.fl (ns.map .int))),jl k,jl m]=[none,some (.v (.fl (ns.map .int))),jl k]:=rfl;refine{(List.range m).map f,?_,by simp;omega,λc hc=>by let⟨j,_,rfl⟩:=Bx.mp hc;exact(hf j).2};rw[mo];push_cast [fP,ed,r1,Ce,z,b,co];rw[D4];rfl
def li {ws:Tn}{i:Int}(h:0<=i/\i<(ws.length:Int)):∃w∈ws,jL (sD ws) i=some (.str w):=by
 obtain⟨j,rfl⟩:∃j:Nat,(j:Int)=i:={i.toNat,Int.toNat_of_nonneg h.1};have hj:j<ws.length:=by omega
 exact{ws[j],zbQ hj,rZ (D7 hj)}
def j7:dk 60 (.str "pick")=true:=by kernel_rfl
def jx:dk 60 (.str "twins")=true:=by kernel_rfl
def jz:dk 60 (.str "lifted")=true:=by kernel_rfl
def lK:dk 60 (.str "summed")=true:=by kernel_rfl
def pj:dk 60 (.str "joined")=true:=by kernel_rfl
def JBt {ns:Ti}{at_:Int}{kind:Str}{k:Nat}{a:D}{u:Tn}(hk:kind∈(["pick","twins","columns","counted","summed","lifted"]:Tn))(h:AK k a u) :
  ∃a' ws,eA [.fl (ns.map .int),.int at_,.str kind,a]=some a'/\AK (k+1) a' ws/\ws.length<=u.length+9:=by
 obtain⟨n,hn,bn⟩:=lN ns (at_+3);obtain⟨n2,Cv,bn2⟩:=lN ns (at_+2);obtain⟨c1,hc1,bc1⟩:=bY ns (at_+1) 9 ∅;obtain⟨c2,DO,bc2⟩:=bY ns (at_+2) 9 ∅;obtain⟨c6,hc6,bc6⟩:=bY ns (at_+6) 9 ∅;obtain⟨d4,hd4,bd4⟩:=bY ns (at_+1) 4 ∅;obtain⟨d7,hd7,bd7⟩:=bY ns (at_+1) 7 ∅;obtain⟨cs,BU,lcs,ncs⟩:=lZ ns (at_+1);obtain⟨w,hw,aw⟩:=li (ws:=["is","under","over","abcdefgh"]) (i:=d4) bd4;obtain⟨w',hw',aw'⟩:=li (ws:=["moved","ever","always","known","asof","from","q"]) (i:=d7) bd7;rwa[sD,An,Bj] at aw aw'
 have s4:4<=sizeLine:=by decide
 have s5:5<=sizeLine:=by decide
 have s7:7<=sizeLine:=by decide
 have s3:3<=sizeLine:=by decide
 rwa[Ad,BL,or_false] at hk;rw[sj];rcases hk with rfl|rfl|rfl|rfl|rfl|rfl
 ·refine{_,_,?_,yj h (sJ bc2) (zY w hw) bn,by simp}
  push_cast [c8,j7,jc,hd4,aw,DO,hn,s4,s5]
 ·have e1:iH (.str "twins") (.str "pick")=false:=by kernel_rfl
  refine{_,_,?_,wf h (sJ bc1) (sJ bc2),by simp};push_cast [c8,j7,jx,jc,e1,hc1,DO,s4]
 ·have e0:dk 60 (.str "columns")=true:=by kernel_rfl
  have e1:iH (.str "columns") (.str "pick")=false:=by kernel_rfl
  have e2:iH (.str "columns") (.str "twins")=false:=by kernel_rfl
  have e3:iH (.str "columns") (.str "lifted")=false:=by kernel_rfl
  have e4:iH (.str "columns") (.str "summed")=false:=by kernel_rfl
  refine{_,_,?_,ym h ∅ ncs,by simp;omega};push_cast [c8,j7,jx,jz,lK,e0,e1,e2,e3,e4,BU,s3]
 ·have e0:dk 60 (.str "counted")=true:=by kernel_rfl
  have e1:iH (.str "counted") (.str "pick")=false:=by kernel_rfl
  have e2:iH (.str "counted") (.str "twins")=false:=by kernel_rfl
  have e3:iH (.str "counted") (.str "lifted")=false:=by kernel_rfl
  have e4:iH (.str "counted") (.str "summed")=false:=by kernel_rfl
  refine{_,_,?_,JC9 h ∅ ncs,by simp;omega};push_cast [c8,j7,jx,jz,lK,e0,e1,e2,e3,e4,BU,s3]
 ·have e1:iH (.str "summed") (.str "pick")=false:=by kernel_rfl
  have e2:iH (.str "summed") (.str "twins")=false:=by kernel_rfl
  have e3:iH (.str "summed") (.str "lifted")=false:=by kernel_rfl
  refine{_,_,?_,Ch h ∅ ncs (sJ bc6),by simp;omega};push_cast [c8,j7,jx,jz,lK,jc,e1,e2,e3,BU,hc6,s4]
 ·have e1:iH (.str "lifted") (.str "pick")=false:=by kernel_rfl
  have e2:iH (.str "lifted") (.str "twins")=false:=by kernel_rfl
  refine{_,_,?_,yk h (zZ w' hw') bn2,by simp};push_cast [c8,j7,jx,jz,jc,e1,e2,hd7,aw',Cv,s4,s7]
def JA7 {ns:Ti}{at_:Int}{kind:Str}{k:Nat}{a b:D}{u v:Tn}(hk:kind = "joined"\/kind = "matched")(h:AK k a u)(h':AK k b v) :
  ∃a' ws,ez [.fl (ns.map .int),.int at_,.str kind,a,b]=some a'/\AK (k+1) a' ws/\ws.length<=u.length+v.length+9:=by
 obtain⟨c6,hc6,bc6⟩:=bY ns (at_+6) 9 ∅;obtain⟨d5,hd5,bd5⟩:=bY ns (at_+1) 5 ∅;obtain⟨cs,BU,lcs,ncs⟩:=lZ ns (at_+1);obtain⟨w,hw,aw⟩:=li (ws:=["both","either","less","just","table"]) (i:=d5) bd5;rwa[sD,An,Bj] at aw
 have s4:4<=sizeLine:=by decide
 have s5:5<=sizeLine:=by decide
 rw[si];rcases hk with rfl|rfl
 ·refine{_,_,?_,yl h h' (JA3 w hw),by simp;omega}
  push_cast [iA,pj,jc,hd5,aw,s4,s5]
 ·have e0:dk 60 (.str "matched")=true:=by kernel_rfl
  have e1:iH (.str "matched") (.str "joined")=false:=by kernel_rfl
  have fl2:∀l:A0 (Int×Int),(l.flatMap λp=>[wN p.1,wN p.2]).length=2*l.length:=λl=>by
   induction l with
   |nil=>rfl
   |cons a l ih=>rw[D6,BD,ih];simp;omega
  refine{_,_,?_,JC8 h h' (ps:=cs.map λc=>(c,c6)) (by simp;omega) (λp hp=>by let⟨c,hc,rfl⟩:=Bx.mp hp;exact{ncs c hc,sJ bc6}),by
   have:=fl2 (cs.map λc=>(c,c6));rw[B9,BD,BD,B9,this,Ac]
   omega}
  have co:=eX (f:=dS (ae (ag 0) (ae (aI ar 3 (ae (bg (ag 1)) (ae (bg (aK bH (ag 2) (fK (.int 6)))) (ae (fK (.int 9)) aj)))) aj))) (U:=[]) (rest:=[some (.v (.fl (ns.map .int))),jl at_]) D.int (λc=>lH (c,c6)) cs none (λc _=>by
   push_cast [hc6])
  have z:(cs.map D.int).length<=sizeLine:=aQ (by rw[Ac];omega);have bl:cT 1 [0,1] [some (R.v (.fl (ns.map .int))),jl at_,some (.v (.str "matched")),some (.v a),some (.v b),some (.v (.tup (cs.map .int)))]=[none,some (.v (.fl (ns.map .int))),jl at_]:=rfl;push_cast [iA,pj,e0,e1,BU,z,bl,co,s4];rw[D4];rfl
section
variable {xs:A0 D}{x y:D}
def vN:tm (xs++[x]).length (-1)=some xs.length:=by unfold tm;rw[AA ∅,A8 (by simp;omega)];simp;omega
def r6:jL (xs++[x]) (-1)=some x:=by unfold jL;rw[vN];simp
def EO:jL (xs++[y,x]) (-2)=some y:=by
 have:tm (xs++[y,x]).length (-2)=some xs.length:=by unfold tm;rw[AA ∅,A8 (by simp;omega)];simp;omega
 unfold jL;rw[this];simp
end
def xq {xs:A0 D}{x:D}{U:ac}:g8 (.p 0) [] (.lst (xs++[x])::U)=some (.v x,.lst xs::U):=by simp[g8]
def xp {xs:A0 D}{x:D}{c:bX}{U:ac}:g8 (.p 1) [] (c :: .lst (xs++[x])::U)=some (.v x,c :: .lst xs::U):=by simp[g8]
def uJ {xs:A0 D}{x y:D}:(xs++[x]).set xs.length y=xs++[y]:=by simp
abbrev Ak:=D×Tn×Nat
abbrev aD (a:Ak):D:=a.1
abbrev dD (a:Ak):D:=.int (a.2.2:Int)
noncomputable def ub (as:A0 Ak):Nat:=(as.map λa=>a.2.1.length).sum
structure GA (m:Nat)(as:List Ak):Prop where
 ak:∀a∈as,AK a.2.2 a.1 a.2.1/\a.2.2<=20
 wd:ub as<=10*m
 ln:as.length<=m
def gd (as bs:A0 Ak):ub (as++bs)=ub as+ub bs:=by simp[ub]
def ku (a:Ak):ub [a]=a.2.1.length:=by simp[ub]
theorem zX {as:A0 Ak}{a:Ak}(h:a∈as):a.2.1.length<=ub as:=by
 induction as with
 |nil=>cases h
 |cons b as ih=>
  rw[←List.singleton_append,gd,ku];rcases Ad.mp h with rfl|h
  ·omega
  ·have:=ih h;omega
def vH {w:Str}(h:w∈(["table","pick","twins","columns","counted","summed","lifted","joined","matched","joined"]:Tn)) :
  ((w = "joined"\/w = "matched")/\(∀U,tt false (.v (.str w)) (.v (.tup [.str "joined",.str "matched"])) U=some (.v (.bl true),U))/\∀U,tt false (.v (.str w)) (.v (.tup [.str "table",.str "joined",.str "matched"])) U=some (.v (.bl true),U)) \/
  ((∀U,tt false (.v (.str w)) (.v (.tup [.str "joined",.str "matched"])) U=some (.v (.bl false),U))/\∀U,tt false (.v (.str w)) (.v (.tup [.str "table",.str "joined",.str "matched"])) U=some (.v (.bl true),U)) \/
  (w∈(["pick","twins","columns","counted","summed","lifted"]:Tn)/\(∀U,tt false (.v (.str w)) (.v (.tup [.str "joined",.str "matched"])) U=some (.v (.bl false),U))/\∀U,tt false (.v (.str w)) (.v (.tup [.str "table",.str "joined",.str "matched"])) U=some (.v (.bl false),U)):=by
 rwa[Ad,BL,or_false] at h;rcases h with rfl|rfl|rfl|rfl|rfl|rfl|rfl|rfl|rfl|rfl
 ·exact .inr (.inl {λU=>by kernel_rfl,λU=>by kernel_rfl})
 ·exact .inr (.inr {by simp,λU=>by kernel_rfl,λU=>by kernel_rfl})
 ·exact .inr (.inr {by simp,λU=>by kernel_rfl,λU=>by kernel_rfl})
 ·exact .inr (.inr {by simp,λU=>by kernel_rfl,λU=>by kernel_rfl})
 ·exact .inr (.inr {by simp,λU=>by kernel_rfl,λU=>by kernel_rfl})
 ·exact .inr (.inr {by simp,λU=>by kernel_rfl,λU=>by kernel_rfl})
 ·exact .inr (.inr {by simp,λU=>by kernel_rfl,λU=>by kernel_rfl})
 ·exact .inl {.inl rfl,λU=>by kernel_rfl,λU=>by kernel_rfl}
 ·exact .inl {.inr rfl,λU=>by kernel_rfl,λU=>by kernel_rfl}
 ·exact .inl {.inl rfl,λU=>by kernel_rfl,λU=>by kernel_rfl}
def rD (ns:Ti)(k:Int):∃w:Str,cC [.fl (ns.map .int),.int k]=some (.str w)/\Lt w:=by let⟨l,e,h1,h2,h3⟩:=vF ns k;exact{_,e,zI h1 h2 h3}
abbrev oG:A0 D:=[.str "table",.str "pick",.str "twins",.str "columns",.str "counted",.str "summed",.str "lifted",.str "joined",.str "matched",.str "joined"]
abbrev wB:FT:=gR (fB (aK (tt false) (ag 7) (dS (ae (fK (.str "joined")) (ae (fK (.str "matched")) aj))))) (gR (fB (aK vQ (eV eR (ae (ag 3) aj)) (fK (.int 1)))) (fB (aK BI (eV mH (ae (aK gL (ag 4) (d9 dA (fK (.int 1)))) (ae (aK gL (ag 4) (d9 dA (fK (.int 2)))) aj))) (fK (.int 20)))))
abbrev Ag:FT:=my (fB (aK (tt false) (ag 7) (dS (ae (fK (.str "table")) (ae (fK (.str "joined")) (ae (fK (.str "matched")) aj)))))) (fB (aK vQ (aK gL (ag 4) (d9 dA (fK (.int 1)))) (fK (.int 19))))
section
variable {ns:Ti}{n0 base:Int}{x5 x6 x7 x8 x9 x10:Jo R}{cs:A0 bX}{i:Nat}
abbrev tW (ns:Ti)(n0 base:Int)(x5 x6 x7 x8 x9 x10:Jo R):Lo:=[some (.v (.fl (ns.map .int))),jl n0,jl base,e7 0,e7 1,x5,x6,x7,x8,x9,x10]
def wz {ys:A0 Ak}{a:Ak}(g:GA (i+1) (ys++[a]))(hi:i<70):∃(zs:A0 Ak) (b:Ak) (cs':A0 bX) (x6' x7' x8' x9' DP:Jo R),GA (i+2) (zs++[b]) /\
  cJ (tW ns n0 base (some (.v (.int (i:Int)))) x6 x7 x8 x9 x10) (.lst ((ys++[a]).map aD) :: .lst ((ys++[a]).map dD)::cs)=some (.nx (tW ns n0 base (some (.v (.int (i:Int)))) x6' x7' x8' x9' DP) (.lst ((zs++[b]).map aD) :: .lst ((zs++[b]).map dD)::cs')):=by
 obtain⟨d,hd,bd⟩:=bY ns (i:Int) 10 ∅;obtain⟨w,hw,aw⟩:=li (ws:=["table","pick","twins","columns","counted","summed","lifted","joined","matched","joined"]) (i:=d) bd;have aw:jL oG d=some (.str w):=aw;obtain⟨nm,hnm,lnm⟩:=rD ns (base+20+10*i)
 have s10:10<=sizeLine:=by decide
 have ga:=g.ak a ∅;have wd:=g.wd;have ln:=g.ln;rw[gd,ku] at wd;rw[BD,List.length_singleton] at ln
 have step:∀{o:Jo lc},fI wB
  (aN (cr 9 (nF g8 (ag 3) aj))
  (aN (cr 10 (nF g8 (ag 4) aj))
  (aN (lG (bg (aI ez 5 (ae (bg (ag 0)) (ae (bg (ag 8)) (ae (bg (ag 7)) (ae (bg (aK gL (ag 3) (d9 dA (fK (.int 1))))) (ae (bg (ag 9)) aj))))))) (jb (ag 3) (d9 dA (fK (.int 1)))))
  (lG (bg (aK bH (fK (.int 1)) (eV mH (ae (aK gL (ag 4) (d9 dA (fK (.int 1)))) (ae (ag 10) aj))))) (jb (ag 4) (d9 dA (fK (.int 1))))))))
  (fI Ag
  (aN (d8 (nF lb (ag 3) (ae (dS (ae (fK (.str "table")) (ae (aI cC 2 (ae (bg (ag 0)) (ae (bg (ag 8)) aj))) aj))) aj)))
  (d8 (nF lb (ag 4) (ae (fK (.int 1)) aj))))
  (aN (lG (bg (aI eA 4 (ae (bg (ag 0)) (ae (bg (ag 8)) (ae (bg (ag 7)) (ae (bg (aK gL (ag 3) (d9 dA (fK (.int 1))))) aj)))))) (jb (ag 3) (d9 dA (fK (.int 1)))))
  (lG (bg (aK bH (aK gL (ag 4) (d9 dA (fK (.int 1)))) (fK (.int 1)))) (jb (ag 4) (d9 dA (fK (.int 1)))))))
  (tW ns n0 base (some (.v (.int (i:Int)))) (some (.p (cs.length+2))) (some (.v (.str w))) (some (.v (.int (base+20+10*i)))) x9 x10) (.lst ((ys++[a]).map aD) :: .lst ((ys++[a]).map dD)::(cs++[.lst oG]))=o ->
  cJ (tW ns n0 base (some (.v (.int (i:Int)))) x6 x7 x8 x9 x10) (.lst ((ys++[a]).map aD) :: .lst ((ys++[a]).map dD)::cs)=o:=λe=>by
  rw[←e]
  have g1:(bX.lst ((ys++[a]).map aD) :: .lst ((ys++[a]).map dD)::(cs++[.lst oG]))[cs.length+2]?=some (.lst oG):=by simp
  have m10:=lh (i:=10) (j:=(i:Int)) (U:=.lst ((ys++[a]).map aD) :: .lst ((ys++[a]).map dD)::(cs++[.lst oG])) ∅;push_cast [cJ,s10,hd,B9,zbm,g1,aw,m10]
 obtain⟨A,hA⟩:∃A,A=ys.map aD:={_,rfl};obtain⟨E,hE⟩:∃E,E=ys.map dD:={_,rfl}
 have mA:(ys++[a]).map aD=A++[aD a]:=by rw[B8,hA];rfl
 have mE:(ys++[a]).map dD=E++[dD a]:=by rw[B8,hE];rfl
 have lA:(A++[aD a]).length=ys.length+1:=by rw[hA];simp
 have zA:(A++[aD a]).length<=sizeLine:=aQ (by rw[lA];omega);have zA':(A++[aD a]).length<sizeLine:=iV (by rw[lA];omega);have zE':(E++[dD a]).length<sizeLine:=iV (by rw[hE];simp;omega)
 have tab:GA (i+2) ((ys++[a])++[((D.tup [.str "table",.str nm],(["table",nm]:Tn),1):Ak)]):={λb hb=>by
   rcases CR.mp hb with hb|hb
   ·exact g.ak b hb
   ·rw[BA.mp hb];exact{wg lnm,show 1<=20 by decide},by
   rw[gd,gd,ku,ku]
   show ub ys+a.2.1.length+2<=10*(i+2)
   omega,by simp;omega}
 have B:∀{c:A0 bX},wB (tW ns n0 base (some (.v (.int (i:Int)))) (some (.p (cs.length+2))) (some (.v (.str w))) (some (.v (.int (base+20+10*i)))) x9 x10) (.lst (A++[aD a]) :: .lst (E++[dD a])::(cs++[.lst oG]))=some (false,.lst (A++[aD a]) :: .lst (E++[dD a])::(cs++[.lst oG])) ->
  Ag (tW ns n0 base (some (.v (.int (i:Int)))) (some (.p (cs.length+2))) (some (.v (.str w))) (some (.v (.int (base+20+10*i)))) x9 x10) (.lst (A++[aD a]) :: .lst (E++[dD a])::(cs++[.lst oG]))=some (true,.lst (A++[aD a]) :: .lst (E++[dD a])::(cs++[.lst oG])) ->
  ∃(zs:A0 Ak) (b:Ak) (cs':A0 bX) (x6' x7' x8' x9' DP:Jo R),GA (i+2) (zs++[b]) /\
  cJ (tW ns n0 base (some (.v (.int (i:Int)))) x6 x7 x8 x9 x10) (.lst ((ys++[a]).map aD) :: .lst ((ys++[a]).map dD)::cs)=some (.nx (tW ns n0 base (some (.v (.int (i:Int)))) x6' x7' x8' x9' DP) (.lst ((zs++[b]).map aD) :: .lst ((zs++[b]).map dD)::cs')):=λt2 t3=>by
  refine{ys++[a],(D.tup [.str "table",.str nm],(["table",nm]:Tn),1),cs++[.lst oG],e7 ((cs.length+2)),some (.v (.str w)),jl ((base+20+10*i)),x9,x10,tab,step ?_};rw[B8 (l₁:=ys++[a]),B8 (l₁:=ys++[a]),mA,mE,eW,t2,gz,eW,t3,vX];push_cast [hnm,zA',zE',An,Bj];rfl
 rcases vH hw with⟨k1,k2,k3⟩|⟨k2,k3⟩|⟨k1,k2,k3⟩
 ·rcases List.eq_nil_or_concat ys with e|⟨zs,b,e⟩
  ·refine B (c:=[]) ?_ ?_
   ·have c1:decide (((A++[aD a]).length:Int)>1)=false:=Ba (by rw[lA,e];simp)
    have c1':decide ((1:Int)<(A++[aD a]).length)=false:=c1;push_cast [k2,zA,c1']
   ·push_cast [k3]
  ·rw[List.concat_eq_append] at e
   have c1:decide ((1:Int)<(A++[aD a]).length)=true:=Bk (by rw[lA,e];simp;omega)
   have mE2:E++[dD a]=zs.map dD++[dD b,dD a]:=by rw[hE,e,B8,Bu];rfl
   have gb:=g.ak b (by rw[e];simp);have a1:jL (E++[dD a]) (-1)=some (dD a):=r6
   have a2:jL (E++[dD a]) (-2)=some (dD b):=by rw[mE2];exact EO
   by_cases hm:(if (b.2.2:Int)>(a.2.2:Int) then (b.2.2:Int) else (a.2.2:Int))<20
   ·obtain⟨M,hM⟩:∃M:Nat,M=max b.2.2 a.2.2:={_,rfl}
    have hM20:M<20:=by split at hm <;> omega
    let⟨a',ws,e1,e2,e3⟩:=JA7 (ns:=ns) (at_:=base+20+10*i) k1 (gb.1.le (show b.2.2<=M by omega)) (ga.1.le (show a.2.2<=M by omega))
    have mx:∀U:ac,mH [.v (dD b),.v (dD a)] U=some (.v (.int (M:Int)),U):=λU=>by
     show some (R.v (.int (if (a.2.2:Int)>(b.2.2:Int) then (a.2.2:Int) else (b.2.2:Int))),U)=_
     rw[show(if (a.2.2:Int)>(b.2.2:Int) then (a.2.2:Int) else (b.2.2:Int))=(M:Int) by split <;> omega]
    have mx':∀U:ac,mH [.v (dD a),.v (dD b)] U=some (.v (.int (M:Int)),U):=λU=>by
     show some (R.v (.int (if (b.2.2:Int)>(a.2.2:Int) then (b.2.2:Int) else (a.2.2:Int))),U)=_
     rw[show(if (b.2.2:Int)>(a.2.2:Int) then (b.2.2:Int) else (a.2.2:Int))=(M:Int) by split <;> omega]
    have c2:decide ((M:Int)<20)=true:=Bk ∅
    have t2:wB (tW ns n0 base (some (.v (.int (i:Int)))) (some (.p (cs.length+2))) (some (.v (.str w))) (some (.v (.int (base+20+10*i)))) x9 x10) (.lst (A++[aD a]) :: .lst (E++[dD a])::(cs++[.lst oG]))=some (true,.lst (A++[aD a]) :: .lst (E++[dD a])::(cs++[.lst oG])):=by
     push_cast [k2,zA,c1,a1,a2,mx',c2]
    refine{zs,(a',ws,M+1),cs++[.lst oG],e7 ((cs.length+2)),some (.v (.str w)),jl ((base+20+10*i)),some (.v (aD a)),some (.v (dD a)),{λc hc=>?_,?_,?_},step ?_}
    ·rcases CR.mp hc with hc|hc
     ·exact g.ak c (by rw[e];simp[hc])
     ·rw[BA.mp hc];exact{e2,by show M+1<=20;omega}
    ·rw[gd,ku]
     rw[e,gd,ku] at wd
     show ub zs+ws.length<=10*(i+2)
     omega
    ·rw[e] at ln
     simp at ln ⊢;omega
    ·have m1:A=zs.map aD++[aD b]:=by rw[hA,e,B8];rfl
     have m2:E=zs.map dD++[dD b]:=by rw[hE,e,B8];rfl
     rw[mA,mE,eW,t2,vX,B8 (l₁:=zs),B8 (l₁:=zs)];have hv:dD (a',ws,M+1)=.int (1+(M:Int)):=AL D.int (show((M+1:Nat):Int)=1+(M:Int) by omega);push_cast [xq,xp];rw[m1,m2];push_cast [r6,e1,vN,uJ,mx,An,Bj];rw[hv]
   ·have mx':∀U:ac,mH [.v (dD a),.v (dD b)] U=some (.v (.int (if (b.2.2:Int)>(a.2.2:Int) then (b.2.2:Int) else (a.2.2:Int))),U):=λU=>rfl
    have c2:=Ba hm;refine B (c:=[]) ?_ ?_
    ·push_cast [k2,zA,c1,a1,a2,mx',c2]
    ·push_cast [k3]
 ·refine B (c:=[]) ?_ ?_
  ·push_cast [k2]
  ·push_cast [k3]
 ·have a1:jL (E++[dD a]) (-1)=some (dD a):=r6
  have t2:wB (tW ns n0 base (some (.v (.int (i:Int)))) (some (.p (cs.length+2))) (some (.v (.str w))) (some (.v (.int (base+20+10*i)))) x9 x10) (.lst (A++[aD a]) :: .lst (E++[dD a])::(cs++[.lst oG]))=some (false,.lst (A++[aD a]) :: .lst (E++[dD a])::(cs++[.lst oG])):=by
   push_cast [k2]
  by_cases h19:(19:Int)<(a.2.2:Int)
  ·refine B (c:=[]) t2 ?_
   have c2:decide ((19:Int)<(a.2.2:Int))=true:=Bk h19;push_cast [k3,a1,c2]
  ·have c2:decide ((19:Int)<(a.2.2:Int))=false:=Ba h19
   let⟨a',ws,e1,e2,e3⟩:=JBt (ns:=ns) (at_:=base+20+10*i) k1 ga.1
   have t3:Ag (tW ns n0 base (some (.v (.int (i:Int)))) (some (.p (cs.length+2))) (some (.v (.str w))) (some (.v (.int (base+20+10*i)))) x9 x10) (.lst (A++[aD a]) :: .lst (E++[dD a])::(cs++[.lst oG]))=some (false,.lst (A++[aD a]) :: .lst (E++[dD a])::(cs++[.lst oG])):=by
    push_cast [k3,a1,c2]
   refine{ys,(a',ws,a.2.2+1),cs++[.lst oG],e7 ((cs.length+2)),some (.v (.str w)),jl ((base+20+10*i)),x9,x10,{λc hc=>?_,?_,?_},step ?_}
   ·rcases CR.mp hc with hc|hc
    ·exact g.ak c (by simp[hc])
    ·rw[BA.mp hc];exact{e2,by show a.2.2+1<=20;omega}
   ·rw[gd,ku]
    show ub ys+ws.length<=10*(i+2)
    omega
   ·simp;omega
   ·rw[mA,mE,eW,t2,gz,eW,t3,gz,B8 (l₁:=ys),B8 (l₁:=ys),←hA,←hE]
    have hv:dD (a',ws,a.2.2+1)=.int ((a.2.2:Int)+1):=AL D.int (show((a.2.2+1:Nat):Int)=(a.2.2:Int)+1 by omega);push_cast [r6,e1,vN,uJ,An,Bj];rw[hv]
end
def yh (ns:Ti)(m:Nat)(hm:m<=63):∃as:A0 Ak,eP [.fl (ns.map .int),.int (m:Int),.int 63]=some (.lst (as.map aD))/\(∀a∈as,AK 20 a.1 a.2.1/\a.2.1.length<4000)/\as.length<=64:=by
 let⟨nm,hnm,lnm⟩:=rD ns 63;have s1:1<=sizeLine:=by decide
 have r1:=kn (j:=(m:Int)) (U:=[.lst [.tup [.str "table",.str nm]],.lst [.int 1]]) ∅;obtain⟨O,U,BE,ys,a,cs,x5,x6,x7,x8,x9,x10,rfl,rfl,g⟩:=i4 (g:=iw 5) (b:=cJ) (O:=tW ns m 63 none none none none none none) (U:=[.lst [.tup [.str "table",.str nm]],.lst [.int 1]]) m
  (λi O U=>∃(ys:A0 Ak) (a:Ak) (cs:A0 bX) (x5 x6 x7 x8 x9 x10:Jo R),O=tW ns m 63 x5 x6 x7 x8 x9 x10/\U=.lst ((ys++[a]).map aD) :: .lst ((ys++[a]).map dD)::cs/\GA (i+1) (ys++[a]))
  {[],(.tup [.str "table",.str nm],["table",nm],1),[],none,none,none,none,none,none,rfl,rfl,{λb hb=>by rw[BA.mp hb];exact{wg lnm,show 1<=20 by decide},by rw[List.nil_append,ku];show 2<=10*(0+1);decide,by simp}} (by rintro i hi O U ⟨ys,a,cs,x5,x6,x7,x8,x9,x10,rfl,rfl,g⟩;obtain⟨zs,b,cs',y6,y7,y8,y9,y10,g',e⟩:=wz (ns:=ns) (n0:=m) (base:=63) (x6:=x6) (x7:=x7) (x8:=x8) (x9:=x9) (x10:=x10) (cs:=cs) g ∅;exact{_,_,e,zs,b,cs',jl ((i:Int)),y6,y7,y8,y9,y10,rfl,rfl,g'})
 refine{ys++[a],?_,λb hb=>{(g.ak b hb).1.le (g.ak b hb).2,by have:=zX hb;have:=g.wd;omega},by have:=g.ln;omega};rw[pZ];push_cast [jg,hnm,s1,r1,Ce,BE]
abbrev pB:D:=.tup [.str "joined",.tup [.str "table",.str "a"],.tup [.str "pick",.tup [.str "table",.str "b"],.int 0,.str "over",.int 5],.str "less"]
def xT:cA [.str "joined table a pick table b 0 over 5 less"]=some pB:=by kernel_rfl
def vE (ns:Ti)(hl:ns.length<=63):pv [.fl (ns.map .int)]=some (.bl true):=by
 let⟨as,has,ha,hal⟩:=yh ns ns.length hl;have fl:flatDs (as.map aD)=true:=qG λd hd=>by let⟨a,hm,rfl⟩:=Bx.mp hd;exact(ha a hm).1.flat
 have za:(as.map aD).length<=sizeLine:=aQ (by rw[Ac];omega);have zn:(ns.map D.int).length<=sizeLine:=aQ (by rw[Ac];omega);have mn:∀U:ac,vz [.v (.int (ns.length:Int)),.v (.int 63)] U=some (.v (.int (ns.length:Int)),U):=λU=>by
  show some (R.v (.int (if (63:Int)<(ns.length:Int) then 63 else (ns.length:Int))),U)=_
  rw[AA ∅]
 let⟨⟨x1,x2,x3,cs⟩,BE,_⟩:=eQ (g:=iw 1) (b:=n6) aD
  (λst:Jo R×Jo R×Jo R×A0 bX=>([some (.v (.fl (ns.map .int))),st.1,st.2.1,st.2.2.1],.fz (as.map aD)::st.2.2.2))
  (λst rem=>∀a∈rem,a∈as) as (none,none,none,[]) (λ_ h=>h) (by rintro⟨x1,x2,x3,cs⟩ a rem h1;let⟨k1,k2⟩:=ha a (h1 a Aw);have k4:=k1.le (show 20<=24 by decide);have e1:=ny k4 k2;have e2:=ua k4 k2;have e3:=wS k1 k2;have e4:=q8 (n:=24) k1.pl.up;have fs:=dj a.2.1;have jo:=rK (n:=cs.length+1) (U:=.fz (as.map aD)::(cs++[.lst (sD a.2.1)])) ∅ k4.wd k2;have oj:dk 60 (.str (jn a.2.1))=true:=JDy k4.wd;refine{(some (.v a.1),some (.v (.str (jn a.2.1))),some (.v (.str (jn a.2.1))),cs++[.lst (sD a.2.1)]),?_,λb hb=>h1 b (Au _ hb)};push_cast [n6,e1,fs,B9,zbm,jo,e2,rM,oj,jc,Bool.not_true,e3,e4])
 have rl:cA [.str "joined table a pick table b 0 over 5 less"]=some pB:=xT;have ol:dk 60 pB=true:=by kernel_rfl
 have el:iH pB pB=true:=by kernel_rfl
 have s5:5<=sizeLine:=by decide
 have s4:4<=sizeLine:=by decide
 rw[JC1];push_cast [wc,zn,Ac,mn,has,fl,za,BE,rl,ol,el,s4,s5]
end LW
structure PySem.W.Fast:Prop where
 (tw14301569866912293567 tw6362614057784708330 tw8682745191411114351 tw4551804324182684797 tw386853560680109714 tw5974569096306010520 tw17257918908226958442 tw5851634332652876385 tw8894254289978803086 tw620025843325620917 tw1784385311711802610 tw13063364095633597614 tw8043054035906832164 tw11620423931326274173 tw17460148576675121878 tw3848849659165199623 tw12540215565649954451 tw11608206740768659596 tw12301074544939424114 tw2895840144786303905 tw13320349128440111713 tw8584311810470629278 tw14384822670876352733 tw7397790029329003540 tw15619047359832833055 tw7560712262056500238 tw10020965799306391814 tw8186889938216894186 tw11141869094593303571 tw13678782044716096422 tw17168541452568773133 tw125112645531628646 tw3555608448594498504 tw12260743243725971495 tw12190850673594581707 tw13425130211438323412 tw7458847203980987734 tw18305972628868410297 tw17246989963809086762 tw5409722474664486384 tw9472216827807148159 tw15206062072092867166 tw9255329908750355649 tw3992744109990026955 tw6539966346010390530 tw4774334797948739815 tw6620447949406508947 tw11509555654881110066 tw10199525876749672319 tw9114075157853453581 tw1105520598518632483 tw6455962379225091593 tw9442479907874952671 tw9097030848827114495 tw12286852732258228677 tw12613730532350997631 tw6864458251862075312 tw11595501437933256339 tw2875730492902646957 tw15420170842947560965 tw5790027638760344666 tw1238382861118077710 tw13658386322268142353 tw5148140818093956832 tw13026826787918006917 tw10884286734355089118 tw1762697033950836697 tw2325186671028722852 tw10645216562986015690 tw1202768509321522661 tw9781474211636773926 tw10989896354020369542 tw17221333537979803091 tw15107437936237698415 tw4917455506337727806 tw13550292253691664868 tw15954339095845273344 tw14894338968504504146 tw1421859391970631100 tw17405179007077640226 tw17959087885219523856 tw590267351374222954 tw15619377171230856574 tw2743349708915786112 tw4540467256186427159 tw4557192215278885888 tw9585797855729330190 tw14010701630463964724 tw15552787565511014835 tw7363209802132923578 tw10233609220243391576 tw9452811281318148656 tw17194552582936787294 tw9154981320476388819 tw8759891160934224137 tw1399330669092937012 tw11911823857516765135 tw6347153859868205929 tw10717706727542039843 tw6042345230835944627 tw14402878611434572090 tw7296704224603525464 tw2101331374019379017 tw3714162582632300072 tw13203973584304437060 tw12587562568720104222 tw4566884194477184351 tw13094336726310184119 tw6343595537016690972 tw6704773594246255905 tw1775246835185519251 tw2240788524575926328 tw10006584565069268017 tw15367884913001878154 tw5254363346926217335 tw11021981351462080485 tw1949433085185110279 tw16348932877902443864 tw1902220656493679194 tw4045565559483840123 tw16430047136708531628 tw8307244336815210589 tw10796801108627346609 tw14890481996094601168 tw9933561094400953048 tw7844565590843946190 tw16196026353430608681 tw18105579134410943419 tw16572566972308028682 tw8749127390069353075 tw12848219604520836575 tw6077275643583882951 tw14464813761152489278 tw12078827673467713018 tw18071509242991342975 tw2543509919014937455 tw1077117542876192958 tw17995141165109991825 tw14046931969046913562 tw16768681836138303353 tw4956643284897424989 tw2102216103171884501 tw15205859444421834029 tw4740765267069932407 tw10064619188759497791 tw10991734221753356218 tw15240118460077620371 tw6830009992155831182 tw3423974914965350047 tw11000389088300642669 tw17041428391614504272 tw11003236216831167262 tw16241939216012782957 tw7921924838910591822 tw9812738392520988770 tw3477027414356769721 tw15434033539902801048 tw4758510844225312767 tw11748850300595507538 tw3244363700935928494 tw225687009823847161 tw9661901444468425874 tw11470134167655090599 tw13494013820366226209 tw11186093677899077209 tw7777026908762329650 tw13604376468977642693 tw14866430546859728802:True)
open PySem.W PyProof.Rows
set_option maxRecDepth 100000 in
set_option maxHeartbeats 0 in
theorem PySem.Challenge.cw_heldwhen_k48_asks_written_holds : PySem.Challenge.rw_heldwhen_k48_asks_written.Holds := by
 w_on; o_law; k_head; (case hw => w_witness2)
 k_fill
 refine L2.uc (l := PySem.Challenge.rw_heldwhen_k48_asks_written) (n := 63) (k := 57) (x := "script") (CX := L2.iE) (sp := fun K => HW.wK K 1 LW.pv) rfl (by decide) rfl ⟨rfl, by decide, by decide⟩ (fun w h Yz => PySem.W.kIn_of Yz) ?F (fun K H a ns hl hO hS => HW.BJ hO hS (LW.vE ns hl)) fun _ _ _ _ z => z
 case F =>
  intro w mg fa h KX G hmg
  refine' LW.Cg KX G hmg ?aC ?pg ?hd ?po ?sa ?mk ?kc ?n_words ?n_place ?a0 ?a1 ?a2 ?a3 ?a4 ?a5 ?a6 ?a7 ?a8 ?a9 ?a10 ?a11 ?a12 ?a13 ?a14 ?a15 ?a16 ?a17 ?a18 ?a19 ?a20 ?a21 ?a22 ?a23 ?a24 ?a25 ?a26 ?a27 ?a28 ?a29 ?a30 ?a31 ?a32 ?a33 ?a34 ?a35 ?Jas ?Jan ?Jal ?Jao ?Jat ?Jbs ?Jbt ?Jau ?Jav ?Jaw ?Jax ?Jay ?Jaz ?Ja0 ?Ja1 ?Ja2 ?smFORMS ?z0 ?z1 ?z2 ?z3 ?z4 ?z5 ?z6 ?z7 ?z8 ?z9 ?z10 ?z11
  (case aC | pg | hd | po | sa | mk | kc | n_words | n_place => k_is)
  (case a0 | a1 | a2 | a3 | a4 | a5 | a6 => exact ⟨_, by k_is, by k_is, _, _, _, _, _, _, _, _, _, by k_is, by k_is, by k_is⟩)
  (case a7 | a8 | a9 | a10 | a11 | a12 | a13 | a14 | a15 | a16 | a17 | a18 | a19 | a20 | a21 | a22 | a23 | a24 | a25 | a26 | a27 | a28 | a29 | a30 | a31 | a32 | a33 | a34 | a35 => exact ⟨_, by k_is, _, _, _, _, _, _, _, _, _, by k_is, by k_is, by k_is⟩)
  (case Jas | Jan | Jal | Jao | Jat | Jbs | Jbt | Jau | Jav | Jaw | Jax | Jay | Jaz | Ja0 | Ja1 | Ja2 | z0 | z1 | z2 | z3 | z4 | z5 | z6 | z7 | z8 | z9 | z10 | z11 => k_is)
  (case smFORMS => rfl)
