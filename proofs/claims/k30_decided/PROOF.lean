import PyProof.Rows.All
import Wide.All
import OpenK.AllK
import Wide.FinOn
import Lean
import PyProof.EqAt
import PyProof.EqKinds
import PyProof.TupleCall
import PyProof.IsiH_tuple
import PyProof.NsDelKeeps
import PyProof.FString4
import PyProof.ExcBaseAll.ValueError
import PyProof.ForAny
import KE.KIsAll
import KE.KSortTup
import KE.KLam
import KE.KNestM
import PyProof.StrWalks
import PyProof.SliceStr2
import PyProof.StrBlockI
import KE.KIntText
import PyProof.StrCalls2
import PyProof.StrLawsTight
import PyProof.Rows.FStrParts
import PyProof.Rows.StrInSeq3
import PyProof.TupleKey
import PyProof.IsRules
import PyProof.SumWalkG
import PyProof.EnumFor
import PyProof.EnumStmt
import PyProof.EnumMake
import PyProof.StrBlock2
import PyProof.ZipIter
import PyProof.ListNew
import PyProof.DictIter
import PyProof.DictFindH
import PyProof.ListRange
import PyProof.TupleOfGen
import PyProof.LongRange
import PySem.Challenge.RW_heldwhen_k30_decided
local macro_rules | `(tactic| exists $t) => `(tactic| with_unfolding_all exact $t)
local macro_rules | `(tactic| decide) => `(tactic| decide +kernel)
local macro_rules | `(tactic| ac_rfl) => `(tactic| (constructor <;> first | rfl | decide +kernel))
set_option Elab.async false
set_option linter.all false
set_option maxRecDepth 100000
noncomputable section
open PySem PySem.Spec SetTable Builtin.List
namespace Y0
open PyProof.Rows
def zaa:=@wpAny_bind
def zab:=@Option.bind_eq_some_iff
abbrev zac:=PySem.W.Frag
def zad:=@wpAny_pure
def zae:=@Heap.get?_push_of_some
def zaf:=@List.map_cons
def zag:=@List.length_map
def zah:=@Heap.lt_size
def zai:=@List.getElem?_append_left
def zaj:=@List.mem_cons
def zak:=@Heap.get?_push_size
def zal:=@Nat.le_refl
def zam:=@Nat.ne_of_lt
def zan:=@List.mem_cons_of_mem
def zao:=@List.mem_cons_self
def zap:=@List.getElem?_eq_getElem
def zaq:=@List.size_toArray
def zar:=@Bool.false_eq_true
def zas:=@List.getElem?_eq_some_iff
def zat:=@Array.getElem?_eq_getElem
def zau:=@Nat.lt_of_lt_of_le
def zav:=@List.mem_singleton
def zaw:=@decide_eq_false
def zax:=@List.getElem?_set_ne
def zay:=@Option.bind_some
def zaz:=@wpAny_setState_of
def zaA:=@List.mem_append_right
def zaB:=@List.getElem?_map
def zaC:=@Heap.get?_update_other
def zaD:=@List.length_cons
def zaE:=@wpAny_newObj_type
def zaF:=@decide_eq_true
def zaG:=@wpAny_call_entry
def zaH:=@wpAny_holding
def zaI:=@List.not_mem_nil
def zaJ:=@List.getElem?_append_right
def zaK:=@Option.map_eq_some_iff
def zaL:=@List.nodup_cons
def zaM:=@List.length_append
def zaN:=@Nat.lt_irrefl
def zaO:=@List.mem_of_getElem?
def zaP:=@Heap.get?_update_self
def zaQ:=@List.pairwise_cons
def zaR:=@List.getElem?_set_self
def zaS:=@List.mem_map
def zaT:=@List.map_append
def zaU:=@codeAny_builtin
def zaV:=@Around.under_plainId
def zaW:=@List.append_assoc
def zaX:=@wpAny_callSpecial?_slot
def zaY:=@List.mem_append
def zaZ:=@Heap.size_push
def za0:=@Nat.ne_of_gt
def za1:=@Bool.false_ne_true
def za2:=@Array.getD_eq_getD_getElem?
def za3:=@PySem.W.mg_none_of
def za4:=@Array.length_toList
def za5:=@List.lookup_cons
def za6:=@List.append_nil
def za7:=@List.mem_map_of_mem
def za8:=@List.map_nil
def za9:=@List.nil_append
def zba:=@Nat.zero_le
def zbb:=@List.drop_eq_getElem_cons
def zbc:=@Int.toNat_natCast
def zbd:=@List.nodup_append
def zbe:=@Nat.le_trans
def zbf:=@codeAny_mono
def zbg:=@wpAny_fieldsOf
def zbh:=@sizeLine_eq
def zbi:=@List.foldl_cons
def zbj:=@PySem.W.kia_one
def zbk:=@Bool.and_eq_true
def zbl:=@wpAny_askSetting
def zbm:=@List.getD_eq_getElem?_getD
def zbn:=@Nat.lt_succ_of_lt
def zbo:=@List.getElem_of_mem
def zbp:=@List.length_nil
def zbq:=@Array.getElem?_toList
def zbr:=@wpAny_typeOf
def zbs:=@List.getElem_mem
def zbt:=@wpAny_isInstance
def zbu:=@plainId_quiet
def zbv:=@Bool.not_true
def zbw:=@wpAny_mono
def zbx:=@Option.map_some
def zby:=@List.map_map
def zbz:=@List.any_cons
def zbA:=@wpAny_setField
def zbB:=@Bool.not_false
def zbC:=@Nat.le_of_lt
def zbD:=@List.filterMap_cons_some
def zbE:=@wpAny_typeNameOfWhole_itemiter
def zbF:=@wpAny_dictEntries
def zbG:=@wpAny_attempt
def zbH:=@Bool.true_and
def zbI:=@wpAny_typeNameOfWhole_keyiter
def zbJ:=@List.mem_range
def zbK:=@List.getElem_inj
def zbL:=@Bool.false_and
def zbM:=@Nat.lt_succ_self
def zbN:=@wpAny_rule
def zbO:=@builtinLookup_eq_fast
def zbP:=@List.pairwise_map
def zbQ:=@List.pairwise_iff_getElem
def zbR:=@codeAny_call_builtin
def zbS:=@wpAny_typeNameOf_itemiter
def zbT:=@Nat.le_succ
def zbU:=@List.length_take
def zbV:=@Option.getD_some
def zbW:=@List.getElem_map
def zbX:=@wpAny_typeNameOf_keyiter
def zbY:=@List.getElem?_replicate
def zbZ:=@List.filter_cons_of_pos
def zb0:=@List.find?_cons
def zb1:=@codeAny_of_tree
def zb2:=@wpAny_dictEpoch
def zb3:=@wpAny_setField_rec
def zb4:=@List.set_cons_zero
def zb5:=@PySem.W.cellsFrom_some
def zb6:=@Array.getElem?_eq_none
def zb7:=@List.find?_cons_of_pos
def zb8:=@List.find?_cons_of_neg
def zb9:=@wpAny_isOneOf_itemiter
def zca:=@wpAny_truthy_bool
def zcb:=@wpAny_pyIter_slot
def zcc:=@Nat.lt_trans
def zcd:=@List.getElem?_eq_none
def zce:=@List.mem_append_left
def zcf:=@Array.getElem_toList
def zcg:=@List.filter_cons
def zch:=@PySem.W.mg_of
def zci:=@wpAny_field
def zcj:=@List.filterMap_cons
def zck:=@List.length_pos_iff
def zcl:=@Int.toNat_of_nonneg
def zcm:=@wpAny_passesOwn
def zcn:=@typeLookup_type
def zco:=@wpAny_Call_Name_kw
def zcp:=@Option.isSome_iff_exists
def zcq:=@Option.isSome_some
def zcr:=@Around.under_plain
def zcs:=@Nat.zero_add
def zct:=@List.filterMap_cons_none
def zcu:=@List.nodup_nil
def zcv:=@List.length_eq_zero_iff
def zcw:=@List.pairwise_singleton
def zcx:=@List.filter_cons_of_neg
def zcy:=@wpAny_pyIter_list
def zcz:=@List.drop_of_length_le
def zcA:=@List.length_drop
def zcB:=@List.any_eq_true
def zcC:=@List.cons_append
def zcD:=@wpAny_notOrdered_dict
def zcE:=@wpAny_isOneOf_keyiter
def zcF:=@wpAny_specialOf
def zcG:=@List.mem_filter
def zcH:=@wpAny_call
def zcI:=@List.mem_iff_getElem
def zcJ:=@wpAny_updateSeq
def zcK:=@List.any_map
def zcL:=@List.eq_nil_of_length_eq_zero
def zcM:=@PySem.W.plainGet_of
def zcN:=@wpAny_runValue
def zcO:=@wpAny_seqItems
def zcP:=@wpAny_of_eq
def zcQ:=@PySem.W.callWith_K
def zcR:=@Int.emod_lt_of_pos
def zcS:=@List.getElem_range
def zcT:=@Bool.and_true
def zcU:=@PySem.W.kitx_list
def zcV:=@Nat.min_le_right
def zcW:=@Nat.lt_or_ge
def zcX:=@List.drop_length
def zcY:=@Heap.size_update
def zcZ:=@beq_self_eq_true
def zc0:=@List.ext_getElem
def zc1:=@wpAny_execs_nil
def zc2:=@List.of_mem_zip
def zc3:=@Int.emod_nonneg
def zc4:=@Bool.decide_and
end Y0
open Y0
namespace Y1z
abbrev Ta:=List (List Int)
abbrev Tb:=Value->Shared->Prop
abbrev Tc:=List (Addr×Obj)
abbrev Td:=Str->Option Value
abbrev Te:=List Value
abbrev Tf:=List Addr
abbrev Tg:=Option Value
abbrev Th:=List Int
abbrev Ti:=Array Value
abbrev Tj:=List Expr
abbrev Tk:=List Stmt
abbrev Tn:=List Str
end Y1z
open Y1z
namespace L2
open PyProof.Rows
section
variable {prog:Program}{w:World}{A:Around}{E:Tb}{s:Shared}
theorem kJ {Q:Int->Shared->Prop}(h:Q 0xFCA86420 {s with toks:=s.toks+1}):wpAny (model prog w) A (pyHash .none) Q E s:=by
 have hT:s.TypeIs .none "NoneType":=rfl
 show wpAny _ _ (pyHashByItsType .none) _ _ s
 unfold pyHashByItsType;refine zaa (wpAny_cRoomFor_byValue rfl ?_);refine zaa (zcF hT F.slot_NoneType_hash.lookup ?_);rw [if_neg (by decide)];refine zaa (zcF hT F.slot_NoneType_hash.lookup ?_);rw [if_neg (by decide)]
 show wpAny _ _ (callSpecialIfBoundUnlessNone? .none "__hash__" _ >>= _) Q E s
 refine zaa (wpAny_callSpecialIfBoundUnlessNone?_slot hT F.slot_NoneType_hash
  (zaG F.slot_NoneType_hash hT F.entry_NoneType_hash
   (show wpAny _ _ (do ret (←mkInt 0xFCA86420)) _ _ s from wpAny_ret_mkInt ?_) (F.args_NoneType_hash_1 _)))
 show wpAny _ _ (if (decide (-(2:Int) ^ 63<=0xFCA86420) && decide ((0xFCA86420:Int) < 2 ^ 63))=true then _ else _) Q E _
 rw [if_pos (by decide)];exact zad h
def kK {Q:Bool->Shared->Prop}(h:Q true s):wpAny (model prog w) A (eqBool .none .none) Q E s:=by unfold eqBool;refine zaH ?_;rw [if_pos (by decide)];exact zaa (zbN (zad h))
end
abbrev aI:=Sum Int (Option Str)
def mF:aI->Value->Bool
 |.inl k,v=>Value.isInt k v
 |.inr (some x),v=>Value.isStrOf x v
 |.inr none,v=>v == .none
def Nv (w:World):aI->Int
 |.inl k=>hashInt k
 |.inr (some x)=>hashStr w x
 |.inr none=>0xFCA86420
theorem bA:∀{k:aI} {v:Value},mF k v=true->(∃i t,k=Sum.inl i/\v=Value.int i t)\/(∃x t,k=Sum.inr (some x)/\v=Value.str x t)\/(k=Sum.inr none/\v=Value.none)
 |.inl i,v,h=>by obtain ⟨t,e⟩:=Value.isInt_shape (k:=i) (v:=v) h;exact .inl ⟨i,t,rfl,e⟩
 |.inr (some x),v,h=>by obtain ⟨t,e⟩:=Value.isStrOf_shape (x:=x) (v:=v) h;exact .inr (.inl ⟨x,t,rfl,e⟩)
 |.inr none,v,h=>.inr (.inr ⟨rfl,eq_of_beq h⟩)
def yh (i:Int)(t:Tok):mF (.inl i) (.int i t)=true:=by simp [mF,Value.isInt]
def yf (x:Str)(t:Tok):mF (.inr (some x)) (.str x t)=true:=by simp [mF,Value.isStrOf]
def yg:mF (.inr none) .none=true:=by simp [mF]
def Ie (a b:Int):decide ((Sum.inl a:aI)=Sum.inl b)=(a == b):=by
 by_cases e:a=b
 ·subst e;simp
 ·have h:¬ (Sum.inl a:aI)=Sum.inl b:=fun q=>e (Sum.inl.inj q);rw [zaw h];exact (beq_eq_false_iff_ne.mpr e).symm
def Ic (a b:Str):decide ((Sum.inr (some a):aI)=Sum.inr (some b))=decide (a=b):=by
 by_cases e:a=b
 ·subst e;simp
 ·have h:¬ (Sum.inr (some a):aI)=Sum.inr (some b):=fun q=>e (Option.some.inj (Sum.inr.inj q));rw [zaw h,zaw e]
def bC (prog:Program)(w:World):PySem.KeyKind prog w aI where
 is:=mF
 hash:=Nv w
 inj:=fun v a b ha hb=>by
  rcases bA ha with ⟨i,t,rfl,rfl⟩|⟨x,t,rfl,rfl⟩|⟨rfl,rfl⟩
  ·rcases bA hb with ⟨j,u,rfl,e⟩|⟨y,u,rfl,e⟩|⟨rfl,e⟩
   ·injection e with e1 _;rw [e1]
   ·exact nomatch e
   ·exact nomatch e
  ·rcases bA hb with ⟨j,u,rfl,e⟩|⟨y,u,rfl,e⟩|⟨rfl,e⟩
   ·exact nomatch e
   ·injection e with e1 _;rw [e1]
   ·exact nomatch e
  ·rcases bA hb with ⟨j,u,rfl,e⟩|⟨y,u,rfl,e⟩|⟨rfl,e⟩
   ·exact nomatch e
   ·exact nomatch e
   ·rfl
 byValue:=fun k v h=>by rcases bA h with ⟨i,t,rfl,rfl⟩|⟨x,t,rfl,rfl⟩|⟨rfl,rfl⟩ <;> rfl
 pyHash:=fun hv h=>by
  rcases bA hv with ⟨i,t,rfl,rfl⟩|⟨x,t,rfl,rfl⟩|⟨rfl,rfl⟩
  ·exact wpAny_pyHash_int h
  ·exact wpAny_pyHash_str h
  ·exact kJ h
 eqBool:=fun hu hv h=>by
  rcases bA hu with ⟨i,t,rfl,rfl⟩|⟨x,t,rfl,rfl⟩|⟨rfl,rfl⟩
  ·rcases bA hv with ⟨j,u,rfl,rfl⟩|⟨y,u,rfl,rfl⟩|⟨rfl,rfl⟩
   ·rw [Ie] at h;exact wpAny_eqBool_int h
   ·exact SeqAt.EqAt.int_str i t y u _ _ _ _ (by simpa using h)
   ·exact SeqAt.EqAt.int_none i t _ _ _ _ (by simpa using h)
  ·rcases bA hv with ⟨j,u,rfl,rfl⟩|⟨y,u,rfl,rfl⟩|⟨rfl,rfl⟩
   ·exact SeqAt.EqAt.str_int x t j u _ _ _ _ (by simpa using h)
   ·rw [Ic] at h;exact wpAny_eqBool_str h
   ·exact SeqAt.EqAt.str_none x t _ _ _ _ (by simpa using h)
  ·rcases bA hv with ⟨j,u,rfl,rfl⟩|⟨y,u,rfl,rfl⟩|⟨rfl,rfl⟩
   ·exact SeqAt.EqAt.none_int j u _ _ _ _ (by simpa using h)
   ·exact SeqAt.EqAt.none_str y u _ _ _ _ (by simpa using h)
   ·exact kK (by simpa using h)
 «strs»:=fun k x t v h=>by
  rcases bA h with ⟨i,u,rfl,e⟩|⟨y,u,rfl,e⟩|⟨rfl,e⟩
  ·exact nomatch e
  ·injection e with e1 _
   subst e1;cases v <;> rfl
  ·exact nomatch e
def tq (prog:Program)(w:World)(i:Int)(t:Tok):(bC prog w).is (.inl i) (.int i t)=true:=yh i t
def tm (prog:Program)(w:World)(x:Str)(t:Tok):(bC prog w).is (.inr (some x)) (.str x t)=true:=yf x t
inductive V where
 |non|bl (b:Bool)|int (i:Int)|str (x:Str)|byt (b:Array UInt8)|flt (b:UInt64)|ref (a:Addr)|ty (n:String)
 deriving DecidableEq
def aW:V->Value->Prop
 |.non,u=>u=Value.none
 |.bl b,u=>u=Value.bool b
 |.int i,u=>∃t,u=Value.int i t
 |.str x,u=>∃t,u=Value.str x t
 |.byt b,u=>∃t,u=Value.bytes b t
 |.flt b,u=>∃t,u=Value.float b t
 |.ref a,u=>u=Value.ref a
 |.ty n,u=>u=Value.type n
abbrev aS:List V->List Value->Prop:=Paired aW
def aS.length {xs:List V}{us:Te}(r:aS xs us):xs.length=us.length:=Paired.length r
theorem aS.get:∀{xs:List V} {us:Te} {i:Nat} {x:V},aS xs us->xs[i]?=some x->∃u,us[i]?=some u/\aW x u
 |_,_,_,_,.nil,e=>by simp at e
 |_,_,0,_,.cons r _,e=>by simp at e;subst e;exact ⟨_,rfl,r⟩
 |_,_,i+1,x,.cons _ t,e=>by obtain ⟨u,h1,h2⟩:=aS.get (i:=i) (x:=x) t (by simpa using e);exact ⟨u,by simpa using h1,h2⟩
theorem aS.set {x:V}{u:Value}(r:aW x u):∀{xs:List V} {us:Te} (i:Nat),aS xs us->aS (xs.set i x) (us.set i u)
 |_,_,_,.nil=>.nil
 |_,_,0,.cons _ t=>.cons r t
 |_,_,i+1,.cons q t=>.cons q (aS.set r i t)
theorem aS.append:∀{xs ys:List V} {us ws:Te},aS xs us->aS ys ws->aS (xs++ys) (us++ws)
 |_,_,_,_,.nil,s=>s
 |_,_,_,_,.cons r t,s=>.cons r (aS.append t s)
theorem aS.take:∀{xs:List V} {us:Te} (n:Nat),aS xs us->aS (xs.take n) (us.take n)
 |_,_,0,_=>.nil
 |_,_,_+1,.nil=>.nil
 |_,_,n+1,.cons r t=>.cons r (aS.take n t)
theorem aS.drop:∀{xs:List V} {us:Te} (n:Nat),aS xs us->aS (xs.drop n) (us.drop n)
 |_,_,0,r=>r
 |_,_,_+1,.nil=>.nil
 |_,_,n+1,.cons _ t=>aS.drop n t
def jS:Option V->Option Value->Prop
 |some v,some u=>aW v u
 |none,none=>True
 |_,_=>False
def KV {κ:Type}:List (κ×V)->List (κ×Value)->Prop:=Paired fun (p:κ×V) (q:κ×Value)=>p.1=q.1/\aW p.2 q.2
def kV:aI->V
 |.inl i=>.int i
 |.inr (some x)=>.str x
 |.inr none=>.non
inductive HO where
 |lst (xs:List V)
 |tup (xs:List V)
 |dK (kvs:List (aI×V))|dT (kvs:List (List aI×V))
 |set (S:Int->Bool) (n:Nat)
 |ins (C dx:Addr) (fs:List (Str×V))
 |own (x:Addr)
 |xd (fs:List (Str×V))
 |met (f x:Addr)
 |rng (lo hi:Int)
 |frz (o:Obj) (u:HO)
 |tbl (ps:Ti)
 |ext (φ:Heap->Prop)
abbrev Hp:=Addr->Option HO
def upd (H:Hp)(a:Addr)(o:HO):Hp:=fun b=>if b=a then some o else H b
def bn {H:Hp}{a:Addr}{o:HO}:upd H a o a=some o:=by unfold upd;rw [if_pos rfl]
def av {H:Hp}{a b:Addr}{o:HO}(h:b≠a):upd H a o b=H b:=by unfold upd;rw [if_neg h]
def FF {H:Hp}{a b:Addr}{o u:HO}(h:H a=some o)(h':H b=some u)(d:o≠u):a≠b:=by intro e;subst e;rw [h] at h';exact d (Option.some.inj h')
def f7 {H:Hp}{a b:Addr}{o:HO}(h:H a=some o)(h':H b=none):a≠b:=by intro e;subst e;rw [h] at h';cases h'
def jA (h:Heap)(a:Addr)(items:Ti):Prop:=IsTup h a items/\∀o,h.get? a=some o->o.dict=none
def jA.new (h:Heap)(items:Ti):jA (h.push {cls:=.type "tuple",data:=.seq items}) h.objs.size items:=⟨IsTup.new _ _,fun o e=>by rw [zak _ rfl] at e;cases e;rfl⟩
section
variable (P:Program)(w:World)
def bq (H:Hp)(h:Heap)(a:Addr):HO->Prop
 |.lst xs=>xs.length<=sizeLine/\∃(its:Te) (n:Nat),aS xs its/\h.get? a=some {cls:=.type "list",data:=.seq its.toArray n}
 |.tup xs=>xs.length<=sizeLine/\∃its:Te,aS xs its/\jA h a its.toArray
 |.dK kvs=>kvs.length<=sizeLine/\(a == sysModules)=false/\∃vs,KV kvs vs/\h.DictOf (bC P w) a vs
 |.dT kvs=>kvs.length<=sizeLine/\(a == sysModules)=false/\∃xs:List (List aI×Addr×Value),
   Paired (fun (p:List aI×V) (q:List aI×Addr×Value)=>p.1=q.1/\H q.2.1=some (.tup (p.1.map kV))/\aW p.2 q.2.2) kvs xs /\
   ∃o es ep,h.get? a=some o/\o.ExactDict/\o.data=.dict es ep/\es.toList=xs.map (entryOfKey (tupleKind (bC P w)))/\(xs.map (·.1)).Nodup
 |.set S n=>h.SetOf (intKind P w) a S n
 |.ins C dx fs=>H dx=some (.own a)/\fs.length<=1000/\dx≠a/\h.get? a=some (PySem.W.instObj C dx) /\
   ∃mA,h.Ns1 dx mA/\(∀f,jS (fs.lookup f) (mA f))/\PySem.Within mA (fs.map (·.1))
 |.own _=>∃o,h.get? a=some o
 |.xd fs=>∃mA,h.Ns1 a mA/\∀f,jS (fs.lookup f) (mA f)
 |.rng lo hi=>∃t u v,h.get? a=some {cls:=.type "range",data:=.fields #[.int lo t,.int hi u,.int 1 v]}
 |.frz o u=>h.get? a=some o/\bq H h a u
 |.tbl ps=>h.get? a=some {cls:=.none,data:=.fields ps}
 |.met f x=>h.get? a=some (PySem.W.methodObj (.ref f) (.ref x))
 |.ext φ=>φ h/\(∃o,h.get? a=some o)/\∀h1 h2:Heap,φ h1->(∀o,h1.get? a=some o->h2.get? a=some o)->φ h2
def ig (H:Hp)(h:Heap):Prop:=∀a o,H a=some o->bq P w H h a o
end
section
variable {P:Program}{w:World}{H H':Hp}{h h':Heap}{a:Addr}{o:HO}
theorem bq.lt (x:bq P w H h a o):a < h.objs.size:=by
 cases o with
 |lst xs=>obtain ⟨_,_,_,_,e⟩:=x;exact zah e
 |tup xs=>obtain ⟨_,_,_,p⟩:=x;exact p.1.lt
 |dK kvs=>obtain ⟨_,_,_,_,o,_,_,e,_⟩:=x;exact zah e
 |dT kvs=>obtain ⟨_,_,_,_,o,_,_,e,_⟩:=x;exact zah e
 |set S n=>obtain ⟨o,_,_,_,e,_⟩:=x;exact zah e
 |ins C dx fs=>obtain ⟨_,_,_,e,_⟩:=x;exact zah e
 |own y=>obtain ⟨_,e⟩:=x;exact zah e
 |xd fs=>obtain ⟨_,⟨_,_,_,e,_⟩,_⟩:=x;exact zah e
 |rng lo hi=>obtain ⟨_,_,_,e⟩:=x;exact zah e
 |frz ob u=>obtain ⟨e,_⟩:=x;exact zah e
 |tbl ps=>exact zah (show h.get? a=some _ from x)
 |met f y=>exact zah (show h.get? a=some _ from x)
 |ext φ=>obtain ⟨_,⟨_,e⟩,_⟩:=x;exact zah e
theorem Paired.mapP {Z β:Type}{F G:Z->β->Prop}{l₁:List Z}{l₂:List β}(h:Paired F l₁ l₂)(f:∀a b,F a b->G a b):Paired G l₁ l₂:=by
 induction h with
 |nil=>exact .nil
 |cons r t ih=>exact .cons (f _ _ r) ih
theorem bq.stay (x:bq P w H h a o)(k:∀b u,(b=a\/H b=some (.own a))->h.get? b=some u->h'.get? b=some u)
  (ho:∀b,H b=some (.own a)->H' b=some (.own a)) (ht:∀b xs,H b=some (.tup xs)->H' b=some (.tup xs)):bq P w H' h' a o:=by
 induction o with
 |lst xs=>obtain ⟨z,its,n,r,e⟩:=x;exact ⟨z,its,n,r,k _ _ (.inl rfl) e⟩
 |tup xs=>obtain ⟨z,its,r,⟨ob,e,c⟩,dn⟩:=x;exact ⟨z,its,r,⟨ob,k _ _ (.inl rfl) e,c⟩,fun o q=>by rw [k _ _ (.inl rfl) e] at q;cases q;exact dn _ e⟩
 |dK kvs=>obtain ⟨z,y,vs,r,ob,es,ep,e,c⟩:=x;exact ⟨z,y,vs,r,ob,es,ep,k _ _ (.inl rfl) e,c⟩
 |dT kvs =>
  obtain ⟨z,y,xs,r,ob,es,ep,e,c⟩:=x;exact ⟨z,y,xs,Paired.mapP r fun p q z=>⟨z.1,ht _ _ z.2.1,z.2.2⟩,ob,es,ep,k _ _ (.inl rfl) e,c⟩
 |set S n=>obtain ⟨ob,es,ep,t,e,c⟩:=x;exact ⟨ob,es,ep,t,k _ _ (.inl rfl) e,c⟩
 |ins C dx fs =>
  obtain ⟨d,z,ne,e,mA,⟨od,es,ep,e2,c⟩,r⟩:=x;exact ⟨ho _ d,z,ne,k _ _ (.inl rfl) e,mA,⟨od,es,ep,k _ _ (.inr d) e2,c⟩,r⟩
 |own y=>obtain ⟨ob,e⟩:=x;exact ⟨ob,k _ _ (.inl rfl) e⟩
 |xd fs=>obtain ⟨mA,⟨od,es,ep,e,c⟩,r⟩:=x;exact ⟨mA,⟨od,es,ep,k _ _ (.inl rfl) e,c⟩,r⟩
 |rng lo hi=>obtain ⟨t,u,v,e⟩:=x;exact ⟨t,u,v,k _ _ (.inl rfl) e⟩
 |frz ob u ih=>obtain ⟨e,q⟩:=x;exact ⟨k _ _ (.inl rfl) e,ih q⟩
 |tbl ps =>
  have e:h.get? a=some {cls:=.none,data:=.fields ps}:=x
  show h'.get? a=some {cls:=.none,data:=.fields ps}
  exact k a _ (.inl rfl) e
 |met f y =>
  have e:h.get? a=some (PySem.W.methodObj (.ref f) (.ref y)):=x
  show h'.get? a=some (PySem.W.methodObj (.ref f) (.ref y))
  exact k a _ (.inl rfl) e
 |ext φ=>obtain ⟨p,⟨o,e⟩,st⟩:=x;exact ⟨st _ _ p fun o q=>k _ _ (.inl rfl) q,⟨o,k _ _ (.inl rfl) e⟩,st⟩
def ig.lt (x:ig P w H h)(e:H a=some o):a < h.objs.size:=(x a o e).lt
theorem ig.fresh (x:ig P w H h)(e:h.objs.size<=a):H a=none:=by
 cases q:H a with
 |none=>rfl
 |some u=>exact absurd (zau (x.lt q) e) (zaN _)
def ig.kept (x:ig P w H h)(k:∀b u,h.get? b=some u->h'.get? b=some u):ig P w H h':=fun a o e =>
 (x a o e).stay (fun b u _ q=>k b u q) (fun _ q=>q) fun _ _ q=>q
def ig.laid (x:ig P w H h)(k:∀b u,h.get? b=some u->h'.get? b=some u)(hp:h.objs.size<=a)(new:bq P w (upd H a o) h' a o):ig P w (upd H a o) h':=fun b u e=>by
 have hn:=x.fresh hp;by_cases hb:b=a
 ·subst hb;rw [bn] at e;cases e;exact new
 ·rw [av hb] at e;exact (x b u e).stay (fun c v _ q=>k c v q) (fun c q=>by rw [av (f7 q hn)];exact q) fun c xs q=>by rw [av (f7 q hn)];exact q
end
def Rd (H:Hp)(a:Addr)(u:HO):Prop:=H a=some u\/∃o,H a=some (.frz o u)
def Rd.ok {H:Hp}{h:Heap}{a:Addr}{u:HO}(r:Rd H a u)(x:ig P w H h):bq P w H h a u:=by
 rcases r with r|⟨o,r⟩
 ·exact x a u r
 ·obtain ⟨_,q⟩:=x a _ r;exact q
def L4:Option HO->Prop
 |some (.lst _)=>True
 |some (.dK _)=>True
 |some (.dT _)=>True
 |some (.set _ _)=>True
 |some (.ins _ _ _)=>True
 |some (.ext _)=>True
 |_=>False
section
variable {P:Program}{w:World}{H:Hp}{h h':Heap}{x e:Addr}{o':HO}
theorem ig.write (ok:ig P w H h)(mu:L4 (H x))(he:e=x\/H e=some (.own x))(k:∀b u,b≠e->h.get? b=some u->h'.get? b=some u)(heo:∃u,h'.get? e=some u)
  (new:bq P w (upd H x o') h' x o'):ig P w (upd H x o') h':=fun b u q=>by
 have nown:∀c y,H c=some (.own y)->c≠x:=fun c y r z=>by subst z;rw [r] at mu;exact mu
 have ntup:∀c xs,H c=some (.tup xs)->c≠x:=fun c xs r z=>by subst z;rw [r] at mu;exact mu
 by_cases hb:b=x
 ·subst hb;rw [bn] at q;cases q;exact new
 ·rw [av hb] at q
  by_cases hbe:b=e
  ·have q':H b=some (.own x):=by
    rcases he with z|z
    ·exact absurd (hbe.trans z) hb
    ·rw [hbe];exact z
   rw [q] at q';cases q';obtain ⟨v,hv⟩:=heo;exact ⟨v,by rw [hbe];exact hv⟩
  ·refine (ok b u q).stay (fun c v hc r=>k c v ?_ r) (fun c r=>by rw [av (nown c b r)];exact r) fun c xs r=>by rw [av (ntup c xs r)];exact r
   rcases hc with rfl|hc
   ·exact hbe
   ·rintro rfl
    rcases he with z|z
    ·exact nown c b hc z
    ·rw [hc] at z;cases z;exact hb rfl
end
structure Un (fs ex:Tf)(H H':Hp)(h h':Heap):Prop where
 keep:∀b o,h.get? b=some o->H b=none->b∉fs->b∉ex->h'.get? b=some o
 slot:∀b o,h.get? b=some o->H b=none->b∈fs->b∉ex->∃sl,h'.get? b=some {o with slots:=sl}
 free:∀b o,h.get? b=some o->H b=none->b∉ex->H' b=none
 there:∀b o,h.get? b=some o->b∉ex->∃o',h'.get? b=some o'
 tups:∀b xs,H b=some (.tup xs)->H' b=some (.tup xs)
 frzs:∀b o u,H b=some (.frz o u)->H' b=some (.frz o u)
 tbls:∀b ps,H b=some (.tbl ps)->∃more,H' b=some (.tbl (ps++more))
section
variable {fs ex:Tf}{H H1:Hp}{h h1 h':Heap}{a x e:Addr}{o:HO}
def Un.any (u:Un fs ex H H1 h h1){b:Addr}{ob:Obj}(q:h.get? b=some ob)(n:H b=none)(hx:b∉ex):∃sl,h1.get? b=some {ob with slots:=sl}:=by
 by_cases hb:b∈fs
 ·exact u.slot b ob q n hb hx
 ·exact ⟨ob.slots,u.keep b ob q n hb hx⟩
def Un.kept (k:∀b u,h.get? b=some u->h'.get? b=some u):Un fs ex H H h h' :=
 ⟨fun b ob q _ _ _=>k b ob q,fun b ob q _ _ _=>⟨ob.slots,k b ob q⟩,fun _ _ _ n _=>n,fun b ob q _=>⟨ob,k b ob q⟩,fun _ _ q=>q,fun _ _ _ q=>q,fun _ ps q=>⟨#[],by rw [q];simp⟩⟩
def Un.refl:Un fs ex H H h h:=Un.kept fun _ _ q=>q
def Un.laid (k:∀b u,h.get? b=some u->h'.get? b=some u)(hp:h.objs.size<=a)(hn:H a=none):Un fs ex H (upd H a o) h h' where
 keep:=fun b u q _ _ _=>k b u q
 slot:=fun b u q _ _ _=>⟨u.slots,k b u q⟩
 free:=fun b u q n _=>by rw [av (zam (zau (zah q) hp))];exact n
 there:=fun b u q _=>⟨u,k b u q⟩
 tups:=fun b xs q=>by rw [av (f7 q hn)];exact q
 frzs:=fun b u xs q=>by rw [av (f7 q hn)];exact q
 tbls:=fun b ps q=>⟨#[],by rw [av (f7 q hn),q];simp⟩
def Un.write (mu:L4 (H x))(he:e=x\/H e=some (.own x))(k:∀b u,b≠e->h.get? b=some u->h'.get? b=some u)(heo:∃u,h'.get? e=some u):Un fs ex H (upd H x o) h h':=by
 have hx:∀b,H b=none->b≠x:=fun b n z=>by subst z;rw [n] at mu;exact mu
 have hb:∀b,H b=none->b≠e:=fun b n z=>by
  subst z;rcases he with r|r
  ·exact hx b n r
  ·rw [n] at r;cases r
 have hm:∀b u,H b=some u->¬ L4 (some u)->b≠x:=fun b u q nm z=>by subst z;rw [q] at mu;exact nm mu
 refine ⟨fun b u q n _ _=>k b u (hb b n) q,fun b u q n _ _=>⟨u.slots,k b u (hb b n) q⟩,fun b u q n _=>by rw [av (hx b n)];exact n,fun b u q _=>?_,
  fun b xs q=>by rw [av (hm b _ q fun z=>z)];exact q,fun b u xs q=>by rw [av (hm b _ q fun z=>z)];exact q,fun b ps q=>⟨#[],by rw [av (hm b _ q fun z=>z),q];simp⟩⟩
 by_cases hbe:b=e
 ·subst hbe;exact heo
 ·exact ⟨u,k b u hbe q⟩
end
def Ma (h:Heap)(H:Hp):Tf:=(List.range h.objs.size).filter fun a=>(H a).isSome
def rc (h:Heap)(H:Hp):Heap:=PySem.W.hideAll h (Ma h H)
def yr (h:Heap)(H:Hp):(rc h H).objs.size=h.objs.size:=PySem.W.hideAll_size _ _
def Bi {h:Heap}{H:Hp}{b:Addr}{o:Obj}(e:h.get? b=some o)(n:H b=none):(rc h H).get? b=some o :=
 PySem.W.hideAll_get _ e fun hm=>by have q:(H b).isSome=true:=(zcG.mp hm).2;rw [n] at q;simp at q
theorem Dv {h:Heap}{H:Hp}{b:Addr}{o:Obj}(e:(rc h H).get? b=some o):h.get? b=some o/\H b=none:=by
 have e':h.get? b=some o:=PySem.W.of_hideAll (Ma h H) e;refine ⟨e',?_⟩
 cases q:H b with
 |none=>rfl
 |some x =>
  have hm:b∈Ma h H:=zcG.mpr ⟨zbJ.mpr (zah e'),by simp [q]⟩;have z:(rc h H).get? b=none:=PySem.W.hideAll_none (Ma h H) hm;rw [z] at e;cases e
def El (g h:Heap)(L:Addr):Tc:=(List.range h.objs.size).filterMap fun a=>if a=L\/(g.get? a).isSome=true then none else (h.get? a).map fun o=>(a,o)
def rest (g h:Heap)(L d:Addr):Tc:=(El g h L).filter fun p=>decide (p.1≠d)
structure Mod (K:zac)(mg:Td)(base:Heap):Prop where
 kin:K.In base
 glob:base.Ns mainGlobals mg
 blt:∃mb,base.Ns builtinsNs mb/\∀x:Str,x≠"__name__"->mb x=bootBuiltins x
 nolimit:base.NoLimit
structure Cx where
 prog:Program
 w:World
 K:zac
 mg:Td
 base:Heap
 A:Around
 N:Tn
 s₀:Shared
 H₀:Hp
 env:Env
 outer:List Env
 stack:List Env
 ex:Tf
 fn:Str->Bool
 calm:Bool
 pn:Tc
 xe:Tb
def yw (l:List Env):Tf:=l.filterMap (·.frame)
abbrev Cx.fs (X:Cx):Tf:=yw X.outer
def M0 (sc:Scope)(x:Str):Prop:=sc.names.lookup x=some .local\/sc.names.lookup x=some .cell\/sc.names.lookup x=some .free
def Ew (sc:Scope)(x:Str):Prop:=sc.names.lookup x=some .local\/sc.names.lookup x=some .cell
def OI (env:Env)(h:Heap)(m:Td)(x:Str)(u:Value):Prop :=
 (env.kindOf x=some .local/\m x=some u)\/((env.kindOf x=some .cell\/env.kindOf x=some .free)/\∃c,env.cells.lookup x=some c/\h.IsCell c (some u))
structure Cx.Ok (X:Cx):Prop where
 mod:Mod X.K X.mg X.base
 kind:X.env.scope.kind=.function
 glob:X.env.globals=mainGlobals
 blt:X.env.builtins=builtinsNs
 above:X.s₀.heap.objs.size<=X.env.locals
 inj:∀x y c,X.env.cells.lookup x=some c->X.env.cells.lookup y=some c->x=y
 has:∀x,(X.env.kindOf x=some .cell\/X.env.kindOf x=some .free)->∃c,X.env.cells.lookup x=some c
 cab:∀x c,X.fn x=true->X.env.cells.lookup x=some c->X.s₀.heap.objs.size<=c
 hd:X.calm=true->X.A.handled=none
 frames:X.A.frames=some X.stack
 stk:X.stack=X.outer\/(X.stack=X.env::X.outer/\X.env.frame=some X.env.locals)
 exf:∀b∈X.ex,b≠X.env.locals/\∀x c,X.env.cells.lookup x=some c->c≠b
 bs:∀b o,X.base.get? b=some o->X.s₀.heap.get? b=some o/\X.H₀ b=none
 bsz:X.base.objs.size<=X.s₀.heap.objs.size
 noex:∀b o,X.base.get? b=some o->b∉X.ex
 exfs:∀b∈X.ex,b∉X.fs
 funs:X.s₀.heap.FunFrames X.base X.outer
 frf:∀b∈X.fs,X.H₀ b=none
structure ay (X:Cx)(pins:Tc)(Y:List (Option V))(H:Hp)(s:Shared):Prop where
 ok:X.Ok
 os:s.os=X.s₀.os
 bare:AllBare s.gens
 base:Un X.fs X.ex X.H₀ H X.s₀.heap s.heap
 loc:∃m,s.heap.Ns X.env.locals m/\∀(i:Nat) (x:Str) (v:V),X.N[i]?=some x->Y[i]?=some (some v)->M0 X.env.scope x->∃u,aW v u/\OI X.env s.heap m x u
 cell:∀x c,X.env.cells.lookup x=some c->∃v,s.heap.IsCell c v
 free:H X.env.locals=none
 freeC:∀x c,X.env.cells.lookup x=some c->H c=none
 pin:∀p∈X.pn++pins,s.heap.get? p.1=some p.2/\H p.1=none/\p.1≠X.env.locals/\p.1∉X.fs/\∀v,p.2.data≠.cell v
 hok:ig X.prog X.w H s.heap
 len:Y.length=X.N.length
section
variable {X:Cx}{pins:Tc}{Y:List (Option V)}{H H':Hp}{s:Shared}{h':Heap}
def Cx.Ok.nofr (ok:X.Ok){b:Addr}{o:Obj}(e:X.base.get? b=some o):b∉X.fs:=fun hb=>by have:=(ok.funs.mem hb).1;rw [e] at this;cases this
def ay.bs (I:ay X pins Y H s):∀b o,X.base.get? b=some o->s.heap.get? b=some o/\H b=none:=fun b o e =>
 ⟨I.base.keep b o (I.ok.bs b o e).1 (I.ok.bs b o e).2 (I.ok.nofr e) (I.ok.noex b o e),I.base.free b o (I.ok.bs b o e).1 (I.ok.bs b o e).2 (I.ok.noex b o e)⟩
def ay.bk (I:ay X pins Y H s):∀b o,X.base.get? b=some o->s.heap.get? b=some o:=fun b o e=>(I.bs b o e).1
def ay.mod (I:ay X pins Y H s):Mod X.K X.mg X.base:=I.ok.mod
def ay.kIn (I:ay X pins Y H s):X.K.In s.heap:=I.ok.mod.kin.keeps I.bk
def ay.lt (I:ay X pins Y H s):X.env.locals < s.heap.objs.size:=let ⟨_,hn,_⟩:=I.loc;hn.lt
def ay.sz (I:ay X pins Y H s):X.s₀.heap.objs.size<=s.heap.objs.size:=zbe I.ok.above (zbC I.lt)
def ay.nofs (I:ay X pins Y H s){a:Addr}(h:s.heap.objs.size<=a):a∉X.fs:=fun hb=>by obtain ⟨_,o,ho,_⟩:=I.ok.funs.mem hb;exact absurd (zau (zah ho) (zbe I.sz h)) (zaN _)
def ay.cne (I:ay X pins Y H s):∀x c,X.env.cells.lookup x=some c->c≠X.env.locals:=fun x c e z=>by obtain ⟨v,o,ho,hd⟩:=I.cell x c e;obtain ⟨m,⟨o',es,ep,ho',hd',_⟩,_⟩:=I.loc;rw [z,ho'] at ho;cases ho;rw [hd'] at hd;cases hd
def ay.funs (I:ay X pins Y H s):s.heap.FunFrames X.base X.outer:=by
 have all:∀(l:List Env),(∀b∈yw l,b∈X.fs)->X.s₀.heap.FunFrames X.base l->s.heap.FunFrames X.base l:=by
  intro l;induction l with
  |nil=>intro _ _;trivial
  |cons env r ih =>
   intro hs hl;obtain ⟨hk,⟨L,o,hf,hn,ho,hd⟩,hr⟩:=hl;have hL:L∈X.fs:=hs L (by unfold yw;rw [zcj,hf];exact zao);obtain ⟨sl,e⟩:=I.base.slot L o ho (I.ok.frf L hL) hL fun z=>I.ok.exfs L z hL;exact ⟨hk,⟨L,_,hf,hn,e,hd⟩,ih (fun b hb=>hs b (by unfold yw;rw [zcj,hf];exact zan _ hb)) hr⟩
 exact all X.outer (fun _ hb=>hb) I.ok.funs
def ay.stack (I:ay X pins Y H s):s.heap.FunFrames X.base X.stack:=by
 rcases I.ok.stk with e|⟨e,hf⟩
 ·rw [e];exact I.funs
 ·rw [e];obtain ⟨m,hn,_⟩:=I.loc;refine .cons (by rw [I.ok.kind];decide) hf hn ?_ I.funs;exact Heap.get?_none_of_le (zbe I.ok.bsz I.ok.above)
def ay.stkSub (I:ay X pins Y H s):∀b∈yw X.stack,b∈X.env.locals::X.fs:=fun b hb=>by
 rcases I.ok.stk with e|⟨e,hf⟩
 ·rw [e] at hb;exact zan _ hb
 ·rw [e] at hb;unfold yw at hb;rw [zcj,hf] at hb;exact hb
def ay.stkFree (I:ay X pins Y H s):∀b∈yw X.stack,H b=none:=fun b hb=>by
 rcases zaj.mp (I.stkSub b hb) with e|hb
 ·rw [e];exact I.free
 ·obtain ⟨_,o,ho,_⟩:=I.ok.funs.mem hb;exact I.base.free b o ho (I.ok.frf b hb) fun z=>I.ok.exfs b z hb
def ay.step {g':Array GenState}{t':Nat}{d':Drawn}{ch:Tf}(I:ay X pins Y H s)
  (hch:∀b∈ch,(b∈X.ex\/X.s₀.heap.objs.size<=b)/\b≠X.env.locals/\(∀x c,X.env.cells.lookup x=some c->c≠b)/\∀p∈X.pn++pins,p.1≠b)
  (keep:∀b o,b≠X.env.locals->b∉X.fs->b∉ch->s.heap.get? b=some o->H b=none->h'.get? b=some o)
  (slot:∀b o,b≠X.env.locals->b∈X.fs->b∉ch->s.heap.get? b=some o->H b=none->∃sl,h'.get? b=some {o with slots:=sl}) (free:∀b o,b∉ch->s.heap.get? b=some o->H b=none->H' b=none)
  (there:∀b o,b∉ch->s.heap.get? b=some o->∃o',h'.get? b=some o')
  (tups:∀b xs,H b=some (.tup xs)->H' b=some (.tup xs)) (frzs:∀b o u,H b=some (.frz o u)->H' b=some (.frz o u)) (tbls:∀b ps,H b=some (.tbl ps)->∃more,H' b=some (.tbl (ps++more)))
  (ns:∀m,s.heap.Ns X.env.locals m->h'.Ns X.env.locals m) (hok:ig X.prog X.w H' h') (hg:AllBare g') :
  ay X pins Y H' {s with heap:=h',gens:=g',drawn:=d',toks:=t'}:=by
 have neL:∀b o,X.s₀.heap.get? b=some o->b≠X.env.locals:=fun b o e=>zam (zau (zah e) I.ok.above)
 have neC:∀b o,X.s₀.heap.get? b=some o->b∉X.ex->b∉ch:=fun b o e hx hb=>by
  rcases (hch b hb).1 with z|z
  ·exact hx z
  ·exact absurd (zau (zah e) z) (zaN _)
 have cellK:∀x c,X.env.cells.lookup x=some c->∀v,s.heap.IsCell c v->h'.IsCell c v:=fun x c e v ⟨o,ho,hd⟩=>by
  have nch:c∉ch:=fun z=>(hch c z).2.2.1 x c e rfl
  by_cases hc:c∈X.fs
  ·obtain ⟨sl,q⟩:=slot c o (I.cne x c e) hc nch ho (I.freeC x c e)
   exact ⟨_,q,hd⟩
  ·exact ⟨o,keep c o (I.cne x c e) hc nch ho (I.freeC x c e),hd⟩
 refine ⟨I.ok,I.os,hg,⟨fun b o e n hb hx=>?_,fun b o e n hb hx=>?_,fun b o e n hx=>?_,fun b o e hx=>?_,fun b xs e=>tups b xs (I.base.tups b xs e),fun b o xs e=>frzs b o xs (I.base.frzs b o xs e),fun b ps e=>?_⟩,?_,fun x c e=>?_,?_,fun x c e=>?_,fun p hp=>?_,hok,I.len⟩
 ·exact keep b o (neL b o e) hb (neC b o e hx) (I.base.keep b o e n hb hx) (I.base.free b o e n hx)
 ·obtain ⟨sl,e1⟩:=I.base.slot b o e n hb hx
  obtain ⟨sl',e2⟩:=slot b _ (neL b o e) hb (neC b o e hx) e1 (I.base.free b o e n hx);exact ⟨sl',e2⟩
 ·obtain ⟨o',e1⟩:=I.base.there b o e hx
  exact free b o' (neC b o e hx) e1 (I.base.free b o e n hx)
 ·obtain ⟨o',e1⟩:=I.base.there b o e hx
  exact there b o' (neC b o e hx) e1
 ·obtain ⟨m1,e1⟩:=I.base.tbls b ps e
  obtain ⟨m2,e2⟩:=tbls b _ e1;exact ⟨m1++m2,by rw [e2,Array.append_assoc]⟩
 ·obtain ⟨m,hn,hl⟩:=I.loc
  refine ⟨m,ns m hn,fun i x v e1 e2 e3=>?_⟩;obtain ⟨u,r,l⟩:=hl i x v e1 e2 e3;refine ⟨u,r,?_⟩;rcases l with l|⟨k,c,e,z⟩
  ·exact .inl l
  ·exact .inr ⟨k,c,e,cellK x c e _ z⟩
 ·obtain ⟨v,z⟩:=I.cell x c e
  exact ⟨v,cellK x c e v z⟩
 ·obtain ⟨m,⟨o,_,_,ho,_⟩,_⟩:=I.loc
  exact free _ o (fun z=>(hch _ z).2.1 rfl) ho I.free
 ·obtain ⟨v,o,ho,hd⟩:=I.cell x c e
  exact free c o (fun z=>(hch c z).2.2.1 x c e rfl) ho (I.freeC x c e)
 ·obtain ⟨e,n,ne,nf,d⟩:=I.pin p hp
  have nch:p.1∉ch:=fun z=>(hch p.1 z).2.2.2 p hp rfl;exact ⟨keep p.1 p.2 ne nf nch e n,free p.1 p.2 nch e n,ne,nf,d⟩
theorem ay.un {t':Nat}(I:ay X pins Y H s)(u:Un X.fs [] H H' s.heap h')(hok:ig X.prog X.w H' h'):ay X pins Y H' {s with heap:=h',toks:=t'}:=by obtain ⟨m,⟨o,es,ep,ho,r⟩,_⟩:=id I.loc;obtain ⟨sl,hL⟩:=u.any ho I.free (by simp);exact I.step (g':=s.gens) (d':=s.drawn) (ch:=[]) (fun _ z=>nomatch z) (fun b o _ hb _ e n=>u.keep b o e n hb (by simp)) (fun b o _ hb _ e n=>u.slot b o e n hb (by simp)) (fun b o _ e n=>u.free b o e n (by simp)) (fun b o _ e=>u.there b o e (by simp)) u.tups u.frzs u.tbls (fun m' hm=>by obtain ⟨o',es',ep',ho',r'⟩:=hm;rw [ho] at ho';cases ho';exact ⟨_,es',ep',hL,r'⟩) hok I.bare
theorem ay.call {g':Array GenState}{t':Nat}{d':Drawn}{ch:Tf}(I:ay X pins Y H s)(u:Un (yw X.stack) ch H H' s.heap h')(hok:ig X.prog X.w H' h')(hg:AllBare g')
  (hch:∀b∈ch,(b∈X.ex\/X.s₀.heap.objs.size<=b)/\b≠X.env.locals/\(∀x c,X.env.cells.lookup x=some c->c≠b)/\∀p∈X.pn++pins,p.1≠b) :
  ay X pins Y H' {s with heap:=h',gens:=g',drawn:=d',toks:=t'}:=by
 obtain ⟨m,⟨o,es,ep,ho,r⟩,_⟩:=id I.loc;obtain ⟨sl,hL⟩:=u.any ho I.free fun z=>(hch _ z).2.1 rfl
 exact I.step (ch:=ch) hch (fun b o hL hb hc e n=>u.keep b o e n (fun z=>(zaj.mp (I.stkSub b z)).elim hL hb) hc) (fun b o _ _ hc e n=>u.any e n hc) (fun b o hc e n=>u.free b o e n hc) (fun b o hc e=>u.there b o e hc) u.tups u.frzs u.tbls (fun m' hm=>by
  obtain ⟨o',es',ep',ho',r'⟩:=hm;rw [ho] at ho';cases ho'
  exact ⟨_,es',ep',hL,r'⟩) hok hg
def ay.turned {t':Nat}{it:Addr}(I:ay X pins Y H s)(k:∀b o,b≠it->s.heap.get? b=some o->h'.get? b=some o)(hn:H it=none)(hL:it≠X.env.locals)
  (h1:it∈X.ex\/X.s₀.heap.objs.size<=it) (h2:∀x c,X.env.cells.lookup x=some c->c≠it) (h3:∀p∈X.pn++pins,p.1≠it):ay X pins Y H {s with heap:=h',toks:=t'}:=by
 have nit:∀b u,H b=some u->b≠it:=fun b u e z=>by rw [z,hn] at e;cases e
 refine I.step (g':=s.gens) (d':=s.drawn) (ch:=[it]) (fun b hb=>?_) (fun b o _ _ hc e _=>k b o (fun z=>hc (by simp [z])) e) (fun b o _ _ hc e _=>⟨o.slots,k b o (fun z=>hc (by simp [z])) e⟩) (fun _ _ _ _ n=>n)
  (fun b o hc e=>⟨o,k b o (fun z=>hc (by simp [z])) e⟩) (fun _ _ e=>e) (fun _ _ _ e=>e) (fun b ps e=>⟨#[],by rw [e];simp⟩) (fun m hm=>?_) (fun b u e=>?_) I.bare
 ·have e:b=it:=by simpa using hb
  subst e;exact ⟨h1,hL,h2,h3⟩
 ·obtain ⟨o,es,ep,ho,r⟩:=hm
  exact ⟨o,es,ep,k _ o (Ne.symm hL) ho,r⟩
 ·refine (I.hok b u e).stay (fun c v hc q=>k c v ?_ q) (fun _ q=>q) fun _ _ q=>q
  rcases hc with z|z
  ·rw [z];exact nit b u e
  ·exact nit c _ z
def ay.tok (I:ay X pins Y H s)(t:Nat):ay X pins Y H {s with toks:=t}:=I.un (h':=s.heap) (t':=t) Un.refl I.hok
def ay.kept {t':Nat}(I:ay X pins Y H s)(k:∀b u,s.heap.get? b=some u->h'.get? b=some u):ay X pins Y H {s with heap:=h',toks:=t'}:=I.un (Un.kept k) (I.hok.kept k)
def ay.laid {a:Addr}{o:HO}{t':Nat}(I:ay X pins Y H s)(k:∀b u,s.heap.get? b=some u->h'.get? b=some u)(hp:s.heap.objs.size<=a)(new:bq X.prog X.w (upd H a o) h' a o) :
  ay X pins Y (upd H a o) {s with heap:=h',toks:=t'}:=I.un (Un.laid k hp (I.hok.fresh hp)) (I.hok.laid k hp new)
def ay.write {x e:Addr}{o:HO}{t':Nat}(I:ay X pins Y H s)(mu:L4 (H x))(he:e=x\/H e=some (.own x))(k:∀b u,b≠e->s.heap.get? b=some u->h'.get? b=some u)(heo:∃u,h'.get? e=some u)
  (new:bq X.prog X.w (upd H x o) h' x o):ay X pins Y (upd H x o) {s with heap:=h',toks:=t'}:=I.un (Un.write mu he k heo) (I.hok.write mu he k heo new)
def ay.pins_of {pins':Tc}(I:ay X pins Y H s)(h:∀p∈pins',s.heap.get? p.1=some p.2/\H p.1=none/\p.1≠X.env.locals/\p.1∉X.fs/\∀v,p.2.data≠.cell v):ay X pins' Y H s :=
 ⟨I.ok,I.os,I.bare,I.base,I.loc,I.cell,I.free,I.freeC,fun p hp=>(zaY.mp hp).elim (fun z=>I.pin p (zce _ z)) (h p),I.hok,I.len⟩
def s9 {N:Tn}(hN:N.Nodup){i j:Nat}{x:Str}(a:N[i]?=some x)(b:N[j]?=some x):i=j:=by obtain ⟨h1,e1⟩:=zas.mp a;obtain ⟨h2,e2⟩:=zas.mp b;exact (zbK hN).mp (e1.trans e2.symm)
theorem pM {M:Model}{A:Around}{E:Tb}{i:Nat}{x:Str}{v:V}{u:Value}{Q:Unit->Shared->Prop}(I:ay X pins Y H s)(hN:X.N.Nodup)(hi:X.N[i]?=some x)(hx:Ew X.env.scope x)(r:aW v u)
  (h:∀s',ay X pins (Y.set i (some v)) H s'->(∃a,Heap.SameBut a s.heap s'.heap/\(a=X.env.locals\/X.env.cells.lookup x=some a))->Q () s') (hf:X.fn x=true\/X.env.scope.names.lookup x=some .local:=by first|exact .inl rfl|exact .inr rfl|assumption):wpAny M A (storeName X.env x u) Q E s:=by
 obtain ⟨m,hn,hl⟩:=id I.loc
 have hcls:(X.env.scope.kind == .class || (X.env.scope.kind == .module && X.env.locals != X.env.globals))=false:=by rw [I.ok.kind];rfl
 have hiY:i < Y.length:=by rw [I.len];exact (zas.mp hi).1
 have cne:=I.cne
 have tracked:∀{a:Addr} {h':Heap},(∃o,s.heap.get? a=some o/\H a=none)->Heap.SameBut a s.heap h'->ig X.prog X.w H h':=fun {a h'} ha hs b ob e=>by
  obtain ⟨_,_,hfree⟩:=ha;refine (I.hok b ob e).stay (fun c w' hc q=>(hs.2 c ?_).trans q) (fun _ q=>q) fun _ _ q=>q;rintro rfl;rcases hc with rfl|hc
  ·rw [hfree] at e;cases e
  ·rw [hfree] at hc;cases hc
 rcases hx with hk|hk
 ·refine wpAny_storeName_local hk hn (fun h' hn' hs=>?_) hcls
  obtain ⟨oL,_,_,hoL,_⟩:=id hn;refine h _ ⟨I.ok,I.os,I.bare,⟨fun b o e n hb hx=>?_,fun b o e n hb hx=>?_,I.base.free,fun b o e hx=>?_,I.base.tups,I.base.frzs,I.base.tbls⟩,⟨_,hn',fun j y v' e1 e2 e3=>?_⟩,fun y c e=>?_,I.free,I.freeC,fun p hp=>?_,tracked ⟨oL,hoL,I.free⟩ hs,by simpa using I.len⟩ ⟨_,hs,.inl rfl⟩
  ·exact (hs.2 b (zam (zau (zah e) I.ok.above))).trans (I.base.keep b o e n hb hx)
  ·obtain ⟨sl,e1⟩:=I.base.slot b o e n hb hx
   exact ⟨sl,(hs.2 b (zam (zau (zah e) I.ok.above))).trans e1⟩
  ·obtain ⟨o',e1⟩:=I.base.there b o e hx
   exact ⟨o',(hs.2 b (zam (zau (zah e) I.ok.above))).trans e1⟩
  ·by_cases hj:j=i
   ·subst hj
    rw [hi] at e1;cases e1;rw [zaR hiY] at e2;cases e2;exact ⟨u,r,.inl ⟨hk,by simp⟩⟩
   ·rw [zax (Ne.symm hj)] at e2
    obtain ⟨u',r',q⟩:=hl j y v' e1 e2 e3;refine ⟨u',r',?_⟩;rcases q with ⟨k,e⟩|⟨k,c,e,z⟩
    ·refine .inl ⟨k,?_⟩
     have:y≠x:=fun e=>hj (s9 hN e1 (e ▸ hi));simp [this,e]
    ·exact .inr ⟨k,c,e,z.sameBut hs (cne y c e)⟩
  ·obtain ⟨w',z⟩:=I.cell y c e
   exact ⟨w',z.sameBut hs (cne y c e)⟩
  ·obtain ⟨e,n,ne,nf,d⟩:=I.pin p hp
   exact ⟨(hs.2 p.1 ne).trans e,n,ne,nf,d⟩
 ·have hfn:X.fn x=true:=by
   rcases hf with z|z
   ·exact z
   ·rw [z] at hk;cases hk
  obtain ⟨c,hc⟩:=I.ok.has x (.inl hk);obtain ⟨w',z⟩:=I.cell x c hc;refine wpAny_storeName_cell I.ok.kind hk hc z (fun h' hc' hs=>?_);obtain ⟨oc,hoc,hocd⟩:=id z;refine h {s with heap:=h'} ⟨I.ok,I.os,I.bare,⟨fun b o e n hb hx=>?_,fun b o e n hb hx=>?_,I.base.free,fun b o e hx=>?_,I.base.tups,I.base.frzs,I.base.tbls⟩,⟨m,hn.sameBut hs (Ne.symm (cne x c hc)),fun j y v' e1 e2 e3=>?_⟩,fun y c' e=>?_,I.free,I.freeC,fun p hp=>?_,tracked ⟨oc,hoc,I.freeC x c hc⟩ hs,by simpa using I.len⟩ ⟨c,hs,.inr hc⟩
  ·exact (hs.2 b (zam (zau (zah e) (I.ok.cab x c hfn hc)))).trans (I.base.keep b o e n hb hx)
  ·obtain ⟨sl,e1⟩:=I.base.slot b o e n hb hx
   exact ⟨sl,(hs.2 b (zam (zau (zah e) (I.ok.cab x c hfn hc)))).trans e1⟩
  ·obtain ⟨o',e1⟩:=I.base.there b o e hx
   exact ⟨o',(hs.2 b (zam (zau (zah e) (I.ok.cab x c hfn hc)))).trans e1⟩
  ·by_cases hj:j=i
   ·subst hj
    rw [hi] at e1;cases e1;rw [zaR hiY] at e2;cases e2;exact ⟨u,r,.inr ⟨.inl hk,c,hc,hc'⟩⟩
   ·rw [zax (Ne.symm hj)] at e2
    obtain ⟨u',r',q⟩:=hl j y v' e1 e2 e3;refine ⟨u',r',?_⟩;rcases q with q|⟨k,c',e,z'⟩
    ·exact .inl q
    ·refine .inr ⟨k,c',e,z'.sameBut hs ?_⟩
     rintro rfl;exact hj (s9 hN e1 (I.ok.inj _ _ _ e hc ▸ hi))
  ·by_cases hcc:c'=c
   ·subst hcc;exact ⟨_,hc'⟩
   ·obtain ⟨w2,z2⟩:=I.cell y c' e
    exact ⟨w2,z2.sameBut hs hcc⟩
  ·obtain ⟨e,n,ne,nf,d⟩:=I.pin p hp
   refine ⟨(hs.2 p.1 ?_).trans e,n,ne,nf,d⟩;intro q;rw [q,hoc] at e;have q':oc=p.2:=Option.some.inj e;exact d w' (by rw [←q'];exact hocd)
def dP {M:Model}{A:Around}{E:Tb}{i:Nat}{x:Str}{v:V}{u:Value}{Q:Unit->Shared->Prop}(I:ay X pins Y H s)(hN:X.N.Nodup)(hi:X.N[i]?=some x)(hx:Ew X.env.scope x)(r:aW v u)
  (h:∀s',ay X pins (Y.set i (some v)) H s'->Q () s') (hf:X.fn x=true\/X.env.scope.names.lookup x=some .local:=by first|exact .inl rfl|exact .inr rfl|assumption):wpAny M A (storeName X.env x u) Q E s :=
 pM I hN hi hx r (fun s' I' _=>h s' I') hf
def ay.call' {s':Shared}{ch:Tf}(I:ay X pins Y H s)(ho:s'.os=s.os)(u:Un (yw X.stack) ch H H' s.heap s'.heap)(hok:ig X.prog X.w H' s'.heap)(hg:AllBare s'.gens)
  (hch:∀b∈ch,(b∈X.ex\/X.s₀.heap.objs.size<=b)/\b≠X.env.locals/\(∀x c,X.env.cells.lookup x=some c->c≠b)/\∀p∈X.pn++pins,p.1≠b):ay X pins Y H' s':=by
 obtain ⟨h',g',d',t',o'⟩:=s';have e:o'=s.os:=ho;subst e;exact I.call (g':=g') (t':=t') (d':=d') u hok hg hch
end
abbrev XK:=Value->Option Addr->Hp->Prop
abbrev St:=List (Option V)
abbrev VK:=V->Hp->Prop
abbrev TE:=St->Hp->VK->Prop
abbrev TT:=St->Hp->(Bool->Hp->Prop)->Prop
abbrev TA:=St->Hp->(List V->Hp->Prop)->Prop
structure d6 where
 nx:St->Hp->Prop
 rt:VK
 bk:St->Hp->Prop:=fun _ _=>False
 ct:St->Hp->Prop:=fun _ _=>False
abbrev TS:=d6->St->Hp->Prop
def EP (X:Cx)(pins:Tc)(Y:St)(Q:VK)(u:Value)(s':Shared):Prop:=∃v H',ay X pins Y H' s'/\aW v u/\Q v H'
def TP (X:Cx)(pins:Tc)(Y:St)(Q:Bool->Hp->Prop)(b:Bool)(s':Shared):Prop:=∃H',ay X pins Y H' s'/\Q b H'
def AP (X:Cx)(pins:Tc)(Y:St)(Q:List V->Hp->Prop)(us:Te)(s':Shared):Prop:=∃vs H',ay X pins Y H' s'/\aS vs us/\Q vs H'
def SP (X:Cx)(pins:Tc)(D:d6)(f:Flow)(s':Shared):Prop :=
 match f with
 |.next=>∃Y' H',ay X pins Y' H' s'/\D.nx Y' H'
 |.brk=>∃Y' H',ay X pins Y' H' s'/\D.bk Y' H'
 |.cont=>∃Y' H',ay X pins Y' H' s'/\D.ct Y' H'
 |.ret u=>∃v Y' H',ay X pins Y' H' s'/\aW v u/\D.rt v H'
def PE (X:Cx)(e:Expr)(t:TE):Prop :=
 ∀(pins:Tc) (s:Shared) (Y:St) (H:Hp) (Q:VK),ay X pins Y H s->t Y H Q->wpAny (model X.prog X.w) X.A (eval e X.env) (EP X pins Y Q) X.xe s
def PT (X:Cx)(e:Expr)(t:TT):Prop :=
 ∀(pins:Tc) (s:Shared) (Y:St) (H:Hp) (Q:Bool->Hp->Prop),ay X pins Y H s->t Y H Q->wpAny (model X.prog X.w) X.A (isTrue e X.env (eval e X.env)) (TP X pins Y Q) X.xe s
def PW (X:Cx)(e:Expr)(t:TT):Prop :=
 ∀(whole:Sem Value) (pins:Tc) (s:Shared) (Y:St) (H:Hp) (Q:Bool->Hp->Prop),ay X pins Y H s->t Y H Q->wpAny (model X.prog X.w) X.A (isTrue e X.env whole) (TP X pins Y Q) X.xe s
def PW.pt {t:TT}(h:PW X e t):PT X e t:=h _
def PA (X:Cx)(es:Tj)(t:TA):Prop :=
 ∀(pos:Pos) (pins:Tc) (s:Shared) (Y:St) (H:Hp) (Q:List V->Hp->Prop),ay X pins Y H s->t Y H Q->wpAny (model X.prog X.w) X.A (spliced (backTo pos (starEach es X.env))) (AP X pins Y Q) X.xe s
def PS (X:Cx)(st:Stmt)(t:TS):Prop :=
 ∀(pins:Tc) (s:Shared) (Y:St) (H:Hp) (D:d6),ay X pins Y H s->t D Y H->wpAny (model X.prog X.w) X.A (exec st X.env) (SP X pins D) X.xe s
def m8 (X:Cx)(st:Tk)(t:TS):Prop :=
 ∀(pins:Tc) (s:Shared) (Y:St) (H:Hp) (D:d6),ay X pins Y H s->t D Y H->wpAny (model X.prog X.w) X.A (execs st X.env) (SP X pins D) X.xe s
def cR {Z:Type}{t:Sem Z}{Q Q':Z->Shared->Prop}{M:Model}{E:Tb}{s:Shared}(h:wpAny M A t Q E s)(hQ:∀a s,Q a s->Q' a s):wpAny M A t Q' E s:=zbw h hQ fun _ _ x=>x
section
variable {X:Cx}
def J1 (i:Nat):TE:=fun Y H Q=>∃v,Y[i]?=some (some v)/\Q v H
def tC (v:V):TE:=fun _ H Q=>Q v H
def Hv {i:Nat}{x:Str}(hN:X.N[i]?=some x)(hv:M0 X.env.scope x)(hd:(x == ("__debug__" : Str))=false:=by decide)(hcd:(x == ("__classdict__" : Str))=false:=by decide):PE X (.Name x pos) (J1 i):=by
 intro pins s Y H Q I h;obtain ⟨v,e,h⟩:=h;obtain ⟨m,hn,hl⟩:=I.loc;obtain ⟨u,r,l⟩:=hl i x v hN e hv;have fin:EP X pins Y Q u s:=⟨v,H,I,r,h⟩;rcases l with ⟨hk,hm⟩|⟨hk,c,hc,hcell⟩
 ·exact wpAny_Name (wpAny_loadName_local I.ok.kind hk hn hm fin) hd
 ·rcases hk with hk|hk
  ·exact wpAny_Name (wpAny_loadName_cell I.ok.kind hk hc hcell fin) hd
  ·exact wpAny_Name (wpAny_loadName_free I.ok.kind hk hc hcell fin hcd) hd
def HB {i j pos}:PE X (.Constant (.int i) j pos) (tC (.int i)):=fun _ _ _ H _ I h=>wpAny_Constant_int ⟨.int i,H,I.tok _,⟨_,rfl⟩,h⟩
def KW {b j pos}:PE X (.Constant (.bool b) j pos) (tC (.bl b)):=fun _ _ _ H _ I h=>Constant_bool ⟨.bl b,H,I,rfl,h⟩
def qN {j pos}:PE X (.Constant .none j pos) (tC .non):=fun _ _ _ H _ I h=>Constant_none ⟨.non,H,I,rfl,h⟩
def Hx {x j pos}:PE X (.Constant (.str x) j pos) (tC (.str x)):=fun _ _ _ H _ I h=>Calls.Constant_str ⟨.str x,H,I.tok _,⟨_,rfl⟩,h⟩
def Gl (X:Cx)(x:Str):Prop:=X.env.kindOf x=some .globalImplicit
def qT {E:Tb}{s:Shared}{H:Hp}{x:Str}{u:Value}{pos:Pos}{Q:Tb}(I:ay X pins Y H s)(hg:Gl X x)(hm:X.mg x=some u)(h:Q u s)
  (hd:(x == ("__debug__" : Str))=false:=by decide):wpAny (model X.prog X.w) X.A (eval (.Name x pos) X.env) Q E s :=
 Calls.Name_function_global I.ok.kind hg (Calls.loadGlobal_global (by rw [I.ok.glob];exact I.mod.glob.keeps I.bk) hm h) hd
def oH {E:Tb}{s:Shared}{H:Hp}{x:Str}{u:Value}{pos:Pos}{Q:Tb}(I:ay X pins Y H s)(hg:Gl X x)(hm:X.mg x=none)(hv:bootBuiltins x=some u)(h:Q u s)
  (hn:x≠"__name__":=by decide) (hd:(x == ("__debug__" : Str))=false:=by decide):wpAny (model X.prog X.w) X.A (eval (.Name x pos) X.env) Q E s:=by
 obtain ⟨mb,h1,h2⟩:=I.mod.blt;exact Calls.Name_function_global I.ok.kind hg (Calls.loadGlobal_builtin (by rw [I.ok.glob];exact I.mod.glob.keeps I.bk) hm (by rw [I.ok.blt];exact h1.keeps I.bk) ((h2 x hn).trans hv) h) hd
def Dj {x:Str}{v:V}{u:Value}(hg:Gl X x)(hm:X.mg x=some u)(r:aW v u)(hd:(x == ("__debug__" : Str))=false:=by decide):PE X (.Name x pos) (tC v) :=
 fun _ _ _ H _ I h=>qT I hg hm ⟨v,H,I,r,h⟩ hd
def Dk {x:Str}{v:V}{u:Value}(hg:Gl X x)(hm:X.mg x=none)(hv:bootBuiltins x=some u)(r:aW v u)(hn:x≠"__name__":=by decide)(hd:(x == ("__debug__" : Str))=false:=by decide):PE X (.Name x pos) (tC v) :=
 fun _ _ _ H _ I h=>oH I hg hm hv ⟨v,H,I,r,h⟩ hn hd
variable {a b:Expr}{ta tb:TE}{pos:Pos}
def tB (t:TE):TT:=fun Y H Q=>t Y H fun x H1=>∃c,x=.bl c/\Q c H1
variable {tA tB':TT}{rest:Tj}
def Ka (t u:TT):TT:=fun Y H Q=>t Y H fun c H1=>if c=true then u Y H1 Q else Q false H1
def O0 (t u:TT):TT:=fun Y H Q=>t Y H fun c H1=>if c=true then Q true H1 else u Y H1 Q
def J6 (t:TT):TT:=fun Y H Q=>t Y H fun c H1=>Q (!c) H1
theorem C5 (ha:PT X a tA):PW X (.BoolOp .And [a] pos) tA:=by
 intro wh pins s Y H Q I h;refine isTrue_and (cR (ha pins s Y H Q I h) fun c s1 e=>?_)
 cases c with
 |true=>exact isTrue_and_nil e
 |false=>exact e
theorem Hi (ha:PT X a tA):PW X (.BoolOp .Or [a] pos) tA:=by
 intro wh pins s Y H Q I h;refine isTrue_or (cR (ha pins s Y H Q I h) fun c s1 e=>?_)
 cases c with
 |false=>exact isTrue_or_nil e
 |true=>exact e
theorem Hj (ha:PT X a tA)(hb:PW X (.BoolOp .And (b::rest) pos) tB'):PW X (.BoolOp .And (a::b::rest) pos) (Ka tA tB'):=by
 intro wh pins s Y H Q I h;refine isTrue_and (cR (ha pins s Y H _ I h) fun c s1 hh=>?_);obtain ⟨H1,I1,q1⟩:=hh
 cases c with
 |true=>exact hb wh pins s1 Y H1 Q I1 q1
 |false=>exact ⟨H1,I1,q1⟩
theorem KO (ha:PT X a tA)(hb:PW X (.BoolOp .Or (b::rest) pos) tB'):PW X (.BoolOp .Or (a::b::rest) pos) (O0 tA tB'):=by
 intro wh pins s Y H Q I h;refine isTrue_or (cR (ha pins s Y H _ I h) fun c s1 hh=>?_);obtain ⟨H1,I1,q1⟩:=hh
 cases c with
 |true=>exact ⟨H1,I1,q1⟩
 |false=>exact hb wh pins s1 Y H1 Q I1 q1
def Hn (ha:PT X a tA):PT X (.UnaryOp .Not a pos) (J6 tA):=by intro pins s Y H Q I h;exact isTrue_not (ha pins s Y H (fun c H1=>Q (!c) H1) I h)
def Ff (ta tb:TE):TE:=fun Y H Q=>ta Y H fun x H1=>∃c,x=.bl c/\if c=true then tb Y H1 Q else Q (.bl false) H1
def J5 (ta tb:TE):TE:=fun Y H Q=>ta Y H fun x H1=>∃c,x=.bl c/\if c=true then Q (.bl true) H1 else tb Y H1 Q
def Fa (ta:TE):TE:=fun Y H Q=>ta Y H fun x H1=>∃c,x=.bl c/\Q (.bl (!c)) H1
def Hy {op}{t:TE}(h:PE X a t):PE X (.BoolOp op [a] pos) t:=fun pins s Y H Q I hw=>BoolOp_one (h pins s Y H Q I hw)
theorem HE (ha:PE X a ta)(hb:PE X (.BoolOp .And (b::rest) pos) tb):PE X (.BoolOp .And (a::b::rest) pos) (Ff ta tb):=by
 intro pins s Y H Q I h;refine BoolOp_and (cR (ha pins s Y H _ I h) fun v s1 hh=>?_);obtain ⟨x,H1,I1,r1,q1⟩:=hh;obtain ⟨c,rfl,q1⟩:=q1;cases r1;refine zca ?_
 cases c with
 |true=>exact hb pins s1 Y H1 Q I1 q1
 |false=>exact ⟨.bl false,H1,I1,rfl,q1⟩
theorem KS (ha:PE X a ta)(hb:PE X (.BoolOp .Or (b::rest) pos) tb):PE X (.BoolOp .Or (a::b::rest) pos) (J5 ta tb):=by
 intro pins s Y H Q I h;refine BoolOp_or (cR (ha pins s Y H _ I h) fun v s1 hh=>?_);obtain ⟨x,H1,I1,r1,q1⟩:=hh;obtain ⟨c,rfl,q1⟩:=q1;cases r1;refine zca ?_
 cases c with
 |false=>exact hb pins s1 Y H1 Q I1 q1
 |true=>exact ⟨.bl true,H1,I1,rfl,q1⟩
def Hz (ha:PE X a ta):PE X (.UnaryOp .Not a pos) (Fa ta):=by intro pins s Y H Q I h;refine UnaryOp_ (cR (ha pins s Y H _ I h) fun v s1 hh=>?_);obtain ⟨x,H1,I1,r1,q1⟩:=hh;obtain ⟨c,rfl,q1⟩:=q1;cases r1;exact not_of (zca ⟨.bl (!c),H1,I1,rfl,q1⟩)
def O1z (t:TT)(ta tb:TE):TE:=fun Y H Q=>t Y H fun c H1=>if c=true then ta Y H1 Q else tb Y H1 Q
theorem AC {c:Expr}(hc:PT X c tA)(ha:PE X a ta)(hb:PE X b tb):PE X (.IfExp c a b pos) (O1z tA ta tb):=by
 intro pins s Y H Q I h;refine wpAny_IfExp (cR (hc pins s Y H _ I h) fun d s1 hh=>?_);obtain ⟨H1,I1,q1⟩:=hh
 cases d with
 |true=>exact ha pins s1 Y H1 Q I1 q1
 |false=>exact hb pins s1 Y H1 Q I1 q1
end
def iZ (K:zac)(H:Hp)(a:Addr)(xs:List V):Prop :=
 Rd H a (.lst xs) \/
  ∃(o:Obj) (its:Ti) (n:Nat),K.lookup a=some o/\o.cls=.type "list"/\(o.dict=none/\o.slots = #[])/\o.data=.seq its n/\its.size<=sizeLine/\aS xs its.toList
def gU (K:zac)(H:Hp)(a:Addr)(xs:List V):Prop :=
 Rd H a (.tup xs) \/
  ∃(o:Obj) (its:Ti) (n:Nat),K.lookup a=some o/\o.cls=.type "tuple"/\o.dict=none/\o.data=.seq its n/\its.size<=sizeLine/\aS xs its.toList
def OB:Value->Option V
 |.none=>some .non
 |.bool b=>some (.bl b)
 |.int i _=>some (.int i)
 |.str x _=>some (.str x)
 |.bytes b _=>some (.byt b)
 |.float b _=>some (.flt b)
 |.ref a=>some (.ref a)
 |.type n=>some (.ty n)
 |_=>none
theorem aW.abs {x:V}{u:Value}(r:aW x u):OB u=some x:=by
 cases x with
 |non=>cases r;rfl
 |bl _=>cases r;rfl
 |int _=>obtain ⟨t,rfl⟩:=r;rfl
 |str _=>obtain ⟨t,rfl⟩:=r;rfl
 |byt _=>obtain ⟨t,rfl⟩:=r;rfl
 |flt _=>obtain ⟨t,rfl⟩:=r;rfl
 |ref _=>cases r;rfl
 |ty _=>cases r;rfl
def aW.inj {x y:V}{u:Value}(r:aW x u)(q:aW y u):x=y:=Option.some.inj (r.abs.symm.trans q.abs)
theorem aS.inj {xs ys:List V}{us:Te}(h:aS xs us):aS ys us->xs=ys:=by
 induction h generalizing ys with
 |nil=>intro q;cases q;rfl
 |cons r t ih=>intro q;cases q with|cons r' t'=>rw [r.inj r',ih t']
section
variable {X:Cx}{pins:Tc}{Y:St}{H:Hp}{s:Shared}{a:Addr}{xs ys:List V}
def gU.of {K:zac}(h:H a=some (.tup xs)):gU K H a xs:=.inl (.inl h)
def ay.list (I:ay X pins Y H s)(h:iZ X.K H a xs):∃its:Te,aS xs its/\PlainL s.heap a its.toArray/\xs.length<=sizeLine:=by
 rcases h with h|⟨o,its,n,hk,hc,hd,hs,hz,r⟩
 ·obtain ⟨z,its,n,r,e⟩:=h.ok I.hok;exact ⟨its,r,⟨_,n,e,rfl,rfl,rfl⟩,z⟩
 ·refine ⟨its.toList,r,⟨o,n,I.kIn a o hk,hc,hd.1,by simpa using hs⟩,?_⟩;have e:=r.length;simp only [za4] at e;omega
def ay.tuple (I:ay X pins Y H s)(h:gU X.K H a xs):∃its:Te,aS xs its/\IsTup s.heap a its.toArray/\xs.length<=sizeLine:=by
 rcases h with h|⟨o,its,n,hk,hc,hn,hs,hz,r⟩
 ·obtain ⟨z,its,r,p⟩:=h.ok I.hok;exact ⟨its,r,p.1,z⟩
 ·refine ⟨its.toList,r,⟨o,I.kIn a o hk,hc,n,by simpa using hs⟩,?_⟩;have e:=r.length;simp only [za4] at e;omega
def ay.list_inj (I:ay X pins Y H s)(h:iZ X.K H a xs)(h':iZ X.K H a ys):xs=ys:=by
 obtain ⟨its,r,⟨o,n,e,_,_,d⟩,_⟩:=I.list h;obtain ⟨its',r',⟨o',n',e',_,_,d'⟩,_⟩:=I.list h';rw [e] at e';cases e';rw [d] at d';injection d' with d1 _
 have:its=its':=by simpa using congrArg Array.toList d1
 subst this;exact r.inj r'
def ay.tuple_inj (I:ay X pins Y H s)(h:gU X.K H a xs)(h':gU X.K H a ys):xs=ys:=by
 obtain ⟨its,r,⟨o,e,_,n,d⟩,_⟩:=I.tuple h;obtain ⟨its',r',⟨o',e',_,n',d'⟩,_⟩:=I.tuple h';rw [e] at e';cases e';rw [d] at d';injection d' with d1 _
 have:its=its':=by simpa using congrArg Array.toList d1
 subst this;exact r.inj r'
end
abbrev Cx.wish (X:Cx)(E:Tb):Cx:={X with xe:=E}
abbrev Cx.nox (X:Cx):Cx:=X.wish fun _ _=>False
def Cx.Ok.wish {X:Cx}(ok:X.Ok)(E:Tb):(X.wish E).Ok :=
 ⟨ok.mod,ok.kind,ok.glob,ok.blt,ok.above,ok.inj,ok.has,ok.cab,ok.hd,ok.frames,ok.stk,ok.exf,ok.bs,ok.bsz,ok.noex,ok.exfs,ok.funs,ok.frf⟩
def Cx.Ok.unwish {X:Cx}{E:Tb}(ok:(X.wish E).Ok):X.Ok :=
 ⟨ok.mod,ok.kind,ok.glob,ok.blt,ok.above,ok.inj,ok.has,ok.cab,ok.hd,ok.frames,ok.stk,ok.exf,ok.bs,ok.bsz,ok.noex,ok.exfs,ok.funs,ok.frf⟩
section
variable {X:Cx}{pins:Tc}{Y:St}{H:Hp}{s:Shared}{E:Tb}
def ay.wish (I:ay X pins Y H s)(E:Tb):ay (X.wish E) pins Y H s:=⟨I.ok.wish E,I.os,I.bare,I.base,I.loc,I.cell,I.free,I.freeC,I.pin,I.hok,I.len⟩
def ay.unwish (I:ay (X.wish E) pins Y H s):ay X pins Y H s:=⟨I.ok.unwish,I.os,I.bare,I.base,I.loc,I.cell,I.free,I.freeC,I.pin,I.hok,I.len⟩
theorem SP.unwish {D:d6}{f:Flow}{s':Shared}(h:SP (X.wish E) pins D f s'):SP X pins D f s':=by
 cases f with
 |next=>obtain ⟨Y',H',I,q⟩:=h;exact ⟨Y',H',I.unwish,q⟩
 |brk=>obtain ⟨Y',H',I,q⟩:=h;exact ⟨Y',H',I.unwish,q⟩
 |cont=>obtain ⟨Y',H',I,q⟩:=h;exact ⟨Y',H',I.unwish,q⟩
 |ret u=>obtain ⟨v,Y',H',I,r,q⟩:=h;exact ⟨v,Y',H',I.unwish,r,q⟩
def m8.nox {st:Tk}{t:TS}(h:m8 X.nox st t):m8 X st t:=fun pins s Y H D I hw =>
 zbw (h pins s Y H D (I.wish _) hw) (fun _ _ q=>q.unwish) fun _ _ z=>False.elim z
end
section
variable {X:Cx}{st:Stmt}{rest:Tk}{t u:TS}{e:Expr}{te:TE}{pos:Pos}
def Fb:TS:=fun D Y H=>D.nx Y H
def J3 (t u:TS):TS:=fun D Y H=>t {D with nx:=u D} Y H
def Da:m8 X [] Fb:=fun _ _ Y H _ I h=>zc1 ⟨Y,H,I,h⟩
theorem At (h1:PS X st t)(h2:m8 X rest u):m8 X (st::rest) (J3 t u):=by
 intro pins s Y H D I h;refine wpAny_execs_cons (cR (h1 pins s Y H {D with nx:=u D} I h) fun f s1 q=>?_)
 cases f with
 |next =>
  obtain ⟨Y',H',I',q⟩:=q;exact h2 pins s1 Y' H' D I' q
 |ret v=>exact q
 |brk=>exact q
 |cont=>exact q
theorem C9 (h1:PS X st t):m8 X [st] t:=by
 intro pins s Y H D I h;refine wpAny_execs_cons (cR (h1 pins s Y H D I h) fun f s1 q=>?_)
 cases f with
 |next=>exact zc1 q
 |ret v=>exact q
 |brk=>exact q
 |cont=>exact q
def ay.quiet {H:Hp}{s:Shared}(I:ay X pins Y H s):interactive X.env=false:=by simp [interactive,I.ok.kind]
def Fe (te:TE):TS:=fun D Y H=>te Y H fun _ H1=>D.nx Y H1
theorem Db (he:PE X e te)(hs:swapsWith e none pos.line X.env=pure false:=by rfl):PS X (.Expr e pos) (Fe te):=by intro pins s Y H D I h;exact wpAny_Expr_any (cR (he pins s Y H _ I h) fun v s1 ⟨x,H1,I1,r1,q1⟩=>⟨Y,H1,I1,q1⟩) I.quiet hs
def J4 (te:TE):TS:=fun D Y H=>te Y H D.rt
def Hq (he:PE X e te):PS X (.Return (some e) pos) (J4 te):=by intro pins s Y H D I h;exact wpAny_Return_some (cR (he pins s Y H _ I h) fun v s1 ⟨x,H1,I1,r1,q1⟩=>⟨x,Y,H1,I1,r1,q1⟩)
def J8 (c:TT)(t u:TS):TS:=fun D Y H=>c Y H fun b H1=>if b=true then t D Y H1 else u D Y H1
theorem KP {c:Expr}{a b:Tk}{tc:TT}(hc:PT X c tc)(ha:m8 X a t)(hb:m8 X b u):PS X (.If c a b pos) (J8 tc t u):=by
 intro pins s Y H D I h;refine wpAny_If (cR (hc pins s Y H _ I h) fun d s1 hh=>?_);obtain ⟨H1,I1,q1⟩:=hh
 cases d with
 |true=>exact ha pins s1 Y H1 D I1 q1
 |false=>exact hb pins s1 Y H1 D I1 q1
end
abbrev TG:=V->St->Hp->(St->Hp->Prop)->Prop
abbrev Cf:=List V->St->Hp->(St->Hp->Prop)->Prop
def PG (X:Cx)(target:Expr)(t:TG):Prop :=
 ∀(pins:Tc) (s:Shared) (Y:St) (H:Hp) (v:V) (u:Value) (Q:St->Hp->Prop),ay X pins Y H s->aW v u->t v Y H Q ->
  wpAny (model X.prog X.w) X.A (assign target X.env u) (fun _ s'=>∃Y' H',ay X pins Y' H' s'/\Q Y' H') X.xe s
def Cg (X:Cx)(ts:Tj)(t:Cf):Prop :=
 ∀(pins:Tc) (s:Shared) (Y:St) (H:Hp) (vs:List V) (us:Te) (Q:St->Hp->Prop),ay X pins Y H s->aS vs us->t vs Y H Q ->
  wpAny (model X.prog X.w) X.A (assignInOrder ((assignEach ts X.env).map (·.2)) us) (fun _ s'=>∃Y' H',ay X pins Y' H' s'/\Q Y' H') X.xe s
abbrev Et:=V->V->V->Hp->(Hp->Prop)->Prop
def ux (X:Cx)(t:Et):Prop :=
 ∀(pins:Tc) (s:Shared) (Y:St) (H:Hp) (o i v:V) (ov iv u:Value) (Q:Hp->Prop),ay X pins Y H s->aW o ov->aW i iv->aW v u->t o i v H Q ->
  wpAny (model X.prog X.w) X.A (setItem ov iv u) (fun _ s'=>∃H',ay X pins Y H' s'/\Q H') X.xe s
section
variable {X:Cx}{pos:Pos}
def p6 (i:Nat):TG:=fun v Y H Q=>Q (Y.set i (some v)) H
def Dg {i:Nat}{x:Str}(hN:X.N.Nodup)(hi:X.N[i]?=some x)(hx:Ew X.env.scope x)(hf:X.fn x=true\/X.env.scope.names.lookup x=some .local:=by first|exact .inl rfl|exact .inr rfl|assumption):PG X (.Name x pos) (p6 i):=by intro pins s Y H v u Q I r h;exact wpAny_assign_Name (dP I hN hi hx r (fun s' I'=>⟨_,H,I',h⟩) hf)
def LB:Cf:=fun vs Y H Q=>vs=[]/\Q Y H
def FQ (t:TG)(u:Cf):Cf:=fun vs Y H Q=>∃v r,vs=v::r/\t v Y H fun Y' H'=>u r Y' H' Q
def Df:Cg X [] LB:=by intro pins s Y H vs us Q I r h;obtain ⟨e,h⟩:=h;subst e;cases r;exact assignInOrder_nil ⟨Y,H,I,h⟩
theorem AB {e:Expr}{es:Tj}{t:TG}{u:Cf}(h1:PG X e t)(h2:Cg X es u)
  (hs:(assignEach (e::es) X.env).map (·.2)=assign e X.env::(assignEach es X.env).map (·.2):=by rfl):Cg X (e::es) (FQ t u):=by
 intro pins s Y H vs us Q I r h;obtain ⟨v,vr,e1,h⟩:=h;subst e1
 cases r with
 |cons r rr =>
  rw [hs];refine assignInOrder_cons (cR (h1 pins s Y H _ _ _ I r h) fun _ s1 hh=>?_);obtain ⟨Y1,H1,I1,q1⟩:=hh;exact h2 pins s1 Y1 H1 _ _ Q I1 rr q1
def LA (K:zac)(n:Nat)(t:Cf):TG:=fun v Y H Q=>∃a xs,v=.ref a/\gU K H a xs/\xs.length=n/\t xs Y H Q
theorem Ht {es:Tj}{k:Nat}{t:Cf}{n:Nat}(hc:X.calm=true)(h:Cg X es t)
  (hn:(assignEach es X.env).length=n:=by rfl) (hst:(assignEach es X.env).findIdx? (·.1)=none:=by rfl):PG X (.Tuple es k pos) (LA X.K n t):=by
 intro pins s Y H v u Q I r hw;obtain ⟨a,xs,e1,hq,hl,hw⟩:=hw;subst e1;cases r;obtain ⟨its,rv,ht,hz⟩:=I.tuple hq;refine assign_Tuple_tuple (I.ok.hd hc) ht (by simp [hn,←hl,rv.length]) hst fun h' hx=>?_;have I1:ay X pins Y H {s with heap:=h'}:=I.kept (t':=s.toks) fun b o e=>hx b o (zam (zah e)) e;exact h pins _ Y H xs _ Q I1 (by simpa using rv) hw
def rg (to ti:TE)(t:Et):TG:=fun v Y H Q=>to Y H fun o H1=>ti Y H1 fun i H2=>t o i v H2 fun H3=>Q Y H3
def Hu {o i:Expr}{to ti:TE}{t:Et}(ho:PE X o to)(hi:PE X i ti)(hs:ux X t)
  (ha:∀v,assign (.Subscript o i pos) X.env v=(do
   let ov ←holding [v] (eval o X.env)
   let iv ←holding [v,ov] (eval i X.env)
   standAt pos
   holding [v,ov,iv] (setItem ov iv v)
   release [v,ov,iv] []):=by intro _;rfl):PG X (.Subscript o i pos) (rg to ti t):=by
 intro pins s Y H v u Q I r h;rw [ha];refine zaa (zaH (cR (ho pins s Y H _ I h) fun ov s1 hh=>?_));obtain ⟨x,H1,I1,r1,q1⟩:=hh;refine zaa (zaH (cR (hi pins s1 Y H1 _ I1 q1) fun iv s2 hh=>?_));obtain ⟨y,H2,I2,r2,q2⟩:=hh;refine zaa (wpAny_standAt (zaa (zaH (cR (hs pins s2 Y H2 x y v ov iv u _ I2 r1 r2 r q2) fun _ s3 hh=>?_))));obtain ⟨H3,I3,q3⟩:=hh;exact wpAny_release ⟨Y,H3,I3,q3⟩
def zB (te:TE)(g:TG):TS:=fun D Y H=>te Y H fun x H1=>g x Y H1 D.nx
theorem Hs {tg e:Expr}{te:TE}{g:TG}(he:PE X e te)(hg:PG X tg g)(hs:swapsWithSole [tg] e pos.line X.env=pure false:=by rfl)(hw:swappedStores [tg] e X.env=pure none:=by rfl)
  (h1:(assignEach [tg] X.env).map (·.2)=[assign tg X.env]:=by rfl):PS X (.Assign [tg] e pos) (zB te g):=by
 intro pins s Y H D I h;refine wpAny_Assign_stores (cR (he pins s Y H _ I h) fun v s1 hh=>?_) hs hw;obtain ⟨x,H1,I1,r1,q1⟩:=hh;rw [h1];exact cR (hg pins s1 Y H1 x v _ I1 r1 q1) fun _ s2 q=>q
theorem Ho {i:Nat}{x:Str}{te:TE}{pos':Pos}(hN:X.N.Nodup)(hi:X.N[i]?=some x)(hx:Ew X.env.scope x)(he:PE X e te)(hs:swapsWith e (some (.Name x pos')) pos.line X.env=pure false:=by rfl)(hf:X.fn x=true\/X.env.scope.names.lookup x=some .local:=by first|exact .inl rfl|exact .inr rfl|assumption) :
  PS X (.Assign [.Name x pos'] e pos) (zB te (p6 i)):=by
 intro pins s Y H D I h;refine wpAny_Assign_Name (cR (he pins s Y H _ I h) fun v s1 hh=>?_) hs;obtain ⟨y,H1,I1,r1,q1⟩:=hh;exact dP I1 hN hi hx r1 (fun s2 I2=>⟨_,H1,I2,q1⟩) hf
end
structure It where
 go:Nat->Hp->Prop
 yld:Nat->Hp->V->Hp->Prop
 stop:Nat->Hp->Prop
def lA (X:Cx)(pins:Tc)(H:Hp)(b:Addr):Prop :=
 H b=none/\b≠X.env.locals/\b∉X.fs/\(b∈X.ex\/X.s₀.heap.objs.size<=b)/\(∀x c,X.env.cells.lookup x=some c->c≠b)/\∀p∈X.pn++pins,p.1≠b
def ay.fpOk {H H':Hp}{s:Shared}{b:Addr}(I:ay X pins Y H s)(hb:s.heap.objs.size<=b)(hn:H' b=none):lA X pins H' b:=by
 refine ⟨hn,za0 (zau I.lt hb),I.nofs hb,.inr (zbe I.sz hb),fun x c e z=>?_,fun p hp z=>?_⟩
 ·obtain ⟨v,q⟩:=I.cell x c e;exact absurd (zau q.lt (by rw [z];exact hb)) (zaN _)
 ·exact absurd (zau (zah (I.pin p hp).1) (by rw [z];exact hb)) (zaN _)
structure uv (P:Program)(w:World)(K:zac)(tg:Expr)(J:It)(fp:Tf)(it:Addr)(tn:Nat->Heap->Prop):Prop where
 mem:it∈fp
 obj:∀i h,tn i h->∀b∈fp,∃o,h.get? b=some o/\∀v,o.data≠.cell v
 keep:∀i h h',tn i h->(∀b∈fp,∀o,h.get? b=some o->h'.get? b=some o)->tn i h'
 item:∀(X:Cx),X.prog=P->X.w=w->X.K=K->X.calm=true->∀(i:Nat) (pins:Tc) (s:Shared) (Y:St) (H:Hp) (E:Tb),ay X pins Y H s->(∀b∈fp,lA X pins H b)->tn i s.heap->J.go i H ->
  wpAny (model P w) X.A (pyNext (.ref it)) (fun r s1=>∃u,r=some u /\
   wpAny (model P w) X.A (letOwnedTupleGo tg (.ref it) u) (fun _ s2=>∃x H',ay X pins Y H' s2/\aW x u/\J.yld i H x H'/\tn (i+1) s2.heap/\∀b∈fp,H' b=none) E s1) E s
 done:∀(X:Cx),X.prog=P->X.w=w->X.K=K->X.calm=true->∀(i:Nat) (pins:Tc) (s:Shared) (Y:St) (H:Hp) (E:Tb),ay X pins Y H s->(∀b∈fp,lA X pins H b)->tn i s.heap->J.stop i H ->
  wpAny (model P w) X.A (pyNext (.ref it)) (fun r s1=>r=none/\ay X pins Y H s1) E s
 self:∀(A:Around) (i:Nat) (s:Shared) (Q:Tb) (E:Tb),tn i s.heap->Q (.ref it) s->wpAny (model P w) A (pyIter (.ref it)) Q E s
abbrev TI:=St->Hp->(It->Hp->Prop)->Prop
def OH (X:Cx)(pins:Tc)(Y:St)(tg:Expr)(R:It->Hp->Prop)(itv:Value)(s2:Shared):Prop :=
 ∃(it:Addr) (fp:Tf) (tn:Nat->Heap->Prop) (J:It) (H':Hp),itv=.ref it/\ay X pins Y H' s2/\uv X.prog X.w X.K tg J fp it tn/\tn 0 s2.heap/\(∀b∈fp,lA X pins H' b)/\R J H'
def PI (X:Cx)(tg iter:Expr)(wi:TI):Prop :=
 ∀(pins:Tc) (s:Shared) (Y:St) (H:Hp) (R:It->Hp->Prop),ay X pins Y H s->wi Y H R ->
  wpAny (model X.prog X.w) X.A (eval iter X.env) (fun v s1=>wpAny (model X.prog X.w) X.A (pyIter v) (OH X pins Y tg R) X.xe s1) X.xe s
def tS {M : Model} {A : Around} {E : Tb} {s : Shared} {tg : Expr} {it : Addr} {u : Value} {o : Obj} {n : String} {vs : Ti} {Q : Unit -> Shared -> Prop} (ho : s.heap.get? it = some o) (hc : o.cls = .type n) (hd : o.data = .fields vs)
    (hn : ["enumerate", "zip", "dict_itemiterator", "dict_reverseitemiterator", "odict_iterator", "itertools.zip_longest", "itertools.pairwise"].contains n = false) (hQ : Q () s) : wpAny M A (letOwnedTupleGo tg (.ref it) u) Q E s := by
  unfold letOwnedTupleGo
  cases tg <;> first
    | exact zad hQ
    | (cases u <;> first
        | exact zad hQ
        | (refine zaa (wpAny_load ho ?_)
           rw [hc, hd]
           show wpAny M A (if (["enumerate", "zip", "dict_itemiterator", "dict_reverseitemiterator", "odict_iterator", "itertools.zip_longest", "itertools.pairwise"].contains n && vs[0]? == some (rawInt _)) = true then _ else _) Q E s
           rw [if_neg (by intro h; rw [hn, zbL] at h; cases h)]
           exact zad hQ))
def OK (K:zac)(a:Addr):It :=
 ⟨fun i H=>∃xs x,iZ K H a xs/\xs[i]?=some x,fun i H x H'=>H'=H/\∀xs,iZ K H a xs->xs[i]?=some x,fun i H=>∃xs,iZ K H a xs/\xs.length<=i⟩
def OJ (K:zac)(a:Addr):It :=
 ⟨fun i H=>∃xs x,gU K H a xs/\xs[i]?=some x,fun i H x H'=>H'=H/\∀xs,gU K H a xs->xs[i]?=some x,fun i H=>∃xs,gU K H a xs/\xs.length<=i⟩
def M4 (lo:Int)(n:Nat):It:=⟨fun i _=>i < n,fun i H x H'=>H'=H/\x=.int (lo+i),fun i _=>n<=i⟩
theorem xy {K:zac}{tg:Expr}(a it:Addr):uv P w K tg (OK K a) [it] it (fun i h=>h.IsListIter it a i) where
 mem:=by simp
 obj:=fun i h st b hb=>by
  have e:b=it:=by simpa using hb
  subst e;obtain ⟨o,e,c,d⟩:=st;exact ⟨o,e,fun v z=>by rw [d] at z;cases z⟩
 keep:=fun i h h' st k=>st.at fun o e=>k it (by simp) o e
 item:=by intro X hP hw hK hc i pins s Y H E I hf st hg;subst hP hw hK;obtain ⟨xs,x,hq,hx⟩:=hg;obtain ⟨its,rv,p,hz⟩:=I.list hq;obtain ⟨u,hu,ru⟩:=rv.get hx;obtain ⟨f0,f1,f2,f3,f4,f5⟩:=hf it (by simp);refine wpAny_pyNext_list_item st p.isList (x:=u) (by simpa using hu) fun h' st' sb=>?_;have I1:ay X pins Y H {s with heap:=h'}:=I.turned (t':=s.toks) (fun b o hb e=>(sb.2 b hb).trans e) f0 f1 f3 f4 f5;obtain ⟨o,e,c,d⟩:=id st';exact ⟨u,rfl,tS (s:={s with heap:=h'}) e c d (by decide) ⟨x,H,I1,ru,⟨rfl,fun ys hy=>by rw [I.list_inj hy hq];exact hx⟩,st',fun b hb=>(hf b hb).1⟩⟩
 done:=by intro X hP hw hK hc i pins s Y H E I hf st hg;subst hP hw hK;obtain ⟨xs,hq,hx⟩:=hg;obtain ⟨its,rv,p,hz⟩:=I.list hq;obtain ⟨f0,f1,f2,f3,f4,f5⟩:=hf it (by simp);have hl:=rv.length;exact wpAny_pyNext_list_end (I.ok.hd hc) st p.isList (by simp;omega) fun h' eb=>⟨rfl,I.turned (t':=s.toks) (fun b o hb e=>eb b o hb e) f0 f1 f3 f4 f5⟩
 self:=fun _ _ _ _ _ st h=>wpAny_pyIter_listiter st h
theorem uL {K:zac}{tg:Expr}(a it:Addr):uv P w K tg (OJ K a) [it] it (fun i h=>h.IsTupleIter it a i) where
 mem:=by simp
 obj:=fun i h st b hb=>by
  have e:b=it:=by simpa using hb
  subst e;obtain ⟨o,e,c,d⟩:=st;exact ⟨o,e,fun v z=>by rw [d] at z;cases z⟩
 keep:=fun i h h' st k=>st.at fun o e=>k it (by simp) o e
 item:=by intro X hP hw hK hc i pins s Y H E I hf st hg;subst hP hw hK;obtain ⟨xs,x,hq,hx⟩:=hg;obtain ⟨its,rv,p,hz⟩:=I.tuple hq;obtain ⟨u,hu,ru⟩:=rv.get hx;obtain ⟨f0,f1,f2,f3,f4,f5⟩:=hf it (by simp);refine wpAny_pyNext_tuple_item st (show s.heap.IsTuple a its.toArray from p) (x:=u) (by simpa using hu) fun h' st' sb=>?_;have I1:ay X pins Y H {s with heap:=h'}:=I.turned (t':=s.toks) (fun b o hb e=>(sb.2 b hb).trans e) f0 f1 f3 f4 f5;obtain ⟨o,e,c,d⟩:=id st';exact ⟨u,rfl,tS (s:={s with heap:=h'}) e c d (by decide) ⟨x,H,I1,ru,⟨rfl,fun ys hy=>by rw [I.tuple_inj hy hq];exact hx⟩,st',fun b hb=>(hf b hb).1⟩⟩
 done:=by intro X hP hw hK hc i pins s Y H E I hf st hg;subst hP hw hK;obtain ⟨xs,hq,hx⟩:=hg;obtain ⟨its,rv,p,hz⟩:=I.tuple hq;obtain ⟨f0,f1,f2,f3,f4,f5⟩:=hf it (by simp);have hl:=rv.length;exact wpAny_pyNext_tuple_end (I.ok.hd hc) st (show s.heap.IsTuple a its.toArray from p) (by simp;omega) fun h' eb=>⟨rfl,I.turned (t':=s.toks) (fun b o hb e=>eb b o hb e) f0 f1 f3 f4 f5⟩
 self:=fun _ _ _ _ _ st h=>wpAny_pyIter_tupleiter st h
def uM {w:World}{K:zac}{tg:Expr}(it:Addr)(lo:Int)(n:Nat):uv P w K tg (M4 lo n) [it] it (fun i h=>IsRangeIter h it (lo+(i:Nat) * 1) ((n:Int) - (i:Nat)) 1) where
 mem:=by simp
 obj:=fun i h st b hb=>by
  have e:b=it:=by simpa using hb
  subst e;exact ⟨_,st,fun v z=>by
   have z':Data.fields _=Data.cell v:=z
   cases z'⟩
 keep:=fun i h h' st k=>k it (by simp) _ st
 item:=by intro X hP hw hK hc i pins s Y H E I hf st hg;subst hP hw hK;obtain ⟨f0,f1,f2,f3,f4,f5⟩:=hf it (by simp);have W:=Walks.range (prog:=X.prog) (w:=X.w) (I.ok.hd hc) it lo 1 n;refine W.item i s _ _ hg st fun v h' tk hv st' kk=>?_;obtain ⟨t,rfl⟩:=hv;have I1:ay X pins Y H {s with heap:=h',toks:=tk}:=I.turned (fun b o hb e=>kk b o (by simpa using hb) e) f0 f1 f3 f4 f5;refine ⟨_,rfl,tS (s:={s with heap:=h',toks:=tk}) (n:="range_iterator") st' rfl rfl (by decide) ⟨.int (lo+i),H,I1,⟨t,?_⟩,⟨rfl,rfl⟩,st',fun b hb=>(hf b hb).1⟩⟩;rw [Int.mul_one]
 done:=by intro X hP hw hK hc i pins s Y H E I hf st hg;subst hP hw hK;obtain ⟨f0,f1,f2,f3,f4,f5⟩:=hf it (by simp);exact wpAny_pyNext_range_end (I.ok.hd hc) st (by have:n<=i:=hg;omega) fun h' eb=>⟨rfl,I.turned (t':=s.toks) (fun b o hb e=>eb b o hb e) f0 f1 f3 f4 f5⟩
 self:=fun _ _ _ _ _ st h=>wpAny_pyIter_rangeiter st h
section
variable {X:Cx}{tg:Expr}
def Ad {H:Hp}{s:Shared}{R:It->Hp->Prop}{E:Tb}{lo hi:Int}{t u v:Tok}{tk:Nat}(I:ay X pins Y H s)(h1 : -(2 ^ 62)<=lo)(h2:lo < 2 ^ 62)(h3 : -(2 ^ 62)<=hi)(h4:hi < 2 ^ 62)
  (q:R (M4 lo (hi - lo).toNat) H):wpAny (model X.prog X.w) X.A (pyIter (.ref s.heap.objs.size)) (OH X pins Y tg R) E {s with heap:=s.heap.push {cls:=.type "range",data:=.fields #[.int lo t,.int hi u,.int 1 v]},toks:=tk}:=by
 refine wpAny_pyIter_range (IsRange.new ..) (small_one h1 h2 h3 h4) ?_;have I1:ay X pins Y H {s with heap:=s.heap.push {cls:=.type "range",data:=.fields #[.int lo t,.int hi u,.int 1 v]},toks:=tk}:=I.kept fun b o e=>zae _ e
 refine ⟨(s.heap.push {cls:=.type "range",data:=.fields #[.int lo t,.int hi u,.int 1 v]}).objs.size,[(s.heap.push {cls:=.type "range",data:=.fields #[.int lo t,.int hi u,.int 1 v]}).objs.size],_,_,H,rfl,
  I1.kept (t':=tk) fun b o e=>zae _ e,uM _ lo (hi - lo).toNat,?_,fun b hb=>?_,q⟩
 ·have e1:lo+((0:Nat):Int) * 1=lo:=by simp
  have e2:(((hi - lo).toNat:Nat):Int) - ((0:Nat):Int)=Builtin.Range.rangeSize lo hi 1:=by rw [rangeSize_one];split <;> omega
  show IsRangeIter _ _ (lo+((0:Nat):Int) * 1) ((((hi - lo).toNat:Nat):Int) - ((0:Nat):Int)) 1
  rw [e1,e2];exact zak _ rfl
 ·have e:b=(s.heap.push {cls:=.type "range",data:=.fields #[.int lo t,.int hi u,.int 1 v]}).objs.size:=by simpa using hb
  subst e;exact I1.fpOk (zal _) (I1.hok.fresh (zal _))
def FP (ta:TA):TI:=fun Y H R=>ta Y H fun vs H1=>∃j:Int,vs=[.int j]/\-(2 ^ 62)<=j/\j < 2 ^ 62/\R (M4 0 j.toNat) H1
theorem xO {a:Expr}{ta:TA}{p pos:Pos}(hg:Gl X "range")(hm:X.mg "range" = none)(ha:PA X [a] ta)(hs:starEach [a] X.env=[(false,eval a X.env)]:=by rfl):PI X tg (.Call (.Name "range" p) [a] [] pos) (FP ta):=by
 intro pins s Y H R I h;refine Call_ (oH I hg hm boot_range (PyProof.Rows.callWith_type1 (cR (ha pos pins s Y H _ I h) fun us s1 hh=>?_) hs rfl));obtain ⟨vs,H1,I1,r1,q1⟩:=hh;obtain ⟨j,e,q1,q2,q⟩:=q1;subst e
 cases r1 with
 |cons r rr =>
  cases rr;obtain ⟨t,rfl⟩:=r;exact call_range_1 (Ad I1 (by omega) (by omega) q1 q2 (by simpa using q))
def Gm (wi:TI)(g:TG)(tb:TS):TS:=fun D Y H=>wi Y H fun J H1=>∃W:Nat->Nat->St->Hp->Prop,(∃m,W 0 m Y H1)/\∀i m Y H,W i m Y H ->
 (J.stop i H/\D.nx Y H)\/(J.go i H/\∃N:St->Hp->Prop,(∀Y' H',N Y' H'->∃m',m' < m/\W (i+1) m' Y' H')/\∀x H',J.yld i H x H'->g x Y H' fun Y2 H2=>tb {D with nx:=N,ct:=N,bk:=D.nx} Y2 H2)
def ki (fp:Tf)(h:Heap):Tc:=fp.filterMap fun b=>(h.get? b).map fun o=>(b,o)
def ez {fp:Tf}{h:Heap}{b:Addr}{o:Obj}(hb:b∈fp)(e:h.get? b=some o):(b,o)∈ki fp h:=List.mem_filterMap.mpr ⟨b,hb,by rw [e];rfl⟩
theorem pW {fp:Tf}{h:Heap}{p:Addr×Obj}(hp:p∈ki fp h):p.1∈fp/\h.get? p.1=some p.2:=by
 obtain ⟨b,hb,e⟩:=List.mem_filterMap.mp hp
 cases q:h.get? b with
 |none=>rw [q] at e;cases e
 |some o =>
  rw [q] at e;have e':(b,o)=p:=Option.some.inj e;subst e';exact ⟨hb,q⟩
def ay.pinned {H:Hp}{s:Shared}{fp:Tf}(I:ay X pins Y H s)(hf:∀b∈fp,lA X pins H b)(ho:∀b∈fp,∃o,s.heap.get? b=some o/\∀v,o.data≠.cell v):ay X (pins++ki fp s.heap) Y H s :=
 I.pins_of fun p hp=>(zaY.mp hp).elim (fun z=>I.pin p (zaA _ z)) fun z=>by obtain ⟨hb,e⟩:=pW z;obtain ⟨f0,f1,f2,_⟩:=hf p.1 hb;obtain ⟨o,e',d⟩:=ho p.1 hb;rw [e] at e';cases e';exact ⟨e,f0,f1,f2,d⟩
def ay.unpinned {pins pl:Tc}{H:Hp}{s:Shared}(I:ay X (pins++pl) Y H s):ay X pins Y H s:=I.pins_of fun p hp=>I.pin p (zaA _ (zce _ hp))
def Au {iter:Expr}{body:Tk}{wi:TI}{g:TG}{tb:TS}{pos:Pos}(hp:PassesOwn (model X.prog X.w) X.A X.env X.xe)(hc:X.calm=true)(hi:PI X tg iter wi)(hg:PG X tg g)(hb:m8 X body tb)
  (hs:∀x,foldedSetIterable iter X.env x=pure x:=by intro _;rfl):PS X (.For tg iter body [] pos) (Gm wi g tb):=by
 intro pins s Y H D I h;refine wpAny_For (cR (hi pins s Y H _ I h) fun v s1 h1=>cR h1 fun itv s2 h2=>?_) hs;obtain ⟨it,fp,tn,J,H2,e,I2,T,st2,f2,W,⟨m0,w0⟩,turn⟩:=h2;subst e;have stat:∀{H':Hp},(∀b∈fp,H' b=none)->∀b∈fp,lA X pins H' b:=fun hn b hb=>⟨hn b hb,(f2 b hb).2⟩;refine codeAny_forLoop_any (fun n s'=>∃i Y' H',ay X pins Y' H' s'/\tn i s'.heap/\(∀b∈fp,H' b=none)/\W i n Y' H') ?_ m0 ⟨0,Y,H2,I2,st2,fun b hb=>(f2 b hb).1,w0⟩;rintro n s3 ⟨i,Y3,H3,I3,st3,fr3,w3⟩;rcases turn i n Y3 H3 w3 with ⟨stop,qn⟩|⟨go,N,hN,step⟩
 ·refine zcm hp (cR (T.done X rfl rfl rfl hc i pins s3 Y3 H3 X.xe I3 (stat fr3) st3 stop) fun r s4 hh=>?_)
  obtain ⟨hr,I4⟩:=hh;subst hr;exact zc1 ⟨Y3,H3,I4,qn⟩
 ·refine zcm hp (cR (T.item X rfl rfl rfl hc i pins s3 Y3 H3 X.xe I3 (stat fr3) st3 go) fun r s4 hh=>?_)
  obtain ⟨u,hr,h4⟩:=hh;subst hr;refine zcm hp (cR h4 fun _ s5 hh=>?_);obtain ⟨x,H5,I5,r5,y5,st5,fr5⟩:=hh;have I5':=I5.pinned (stat fr5) (T.obj _ _ st5);refine zcm hp (cR (hg _ s5 Y3 H5 x u _ I5' r5 (step x H5 y5)) fun _ s6 hh=>?_);obtain ⟨Y6,H6,I6,q6⟩:=hh;refine zcm hp (cR (hb _ s6 Y6 H6 _ I6 q6) fun f s7 q7=>?_)
  have again:∀{Y7:St} {H7:Hp},ay X (pins++ki fp s5.heap) Y7 H7 s7->N Y7 H7->∃m,m < n/\∃i Y' H',ay X pins Y' H' s7/\tn i s7.heap/\(∀b∈fp,H' b=none)/\W i m Y' H':=fun {Y7 H7} I7 n7=>by
   obtain ⟨m',hm,w7⟩:=hN Y7 H7 n7;refine ⟨m',hm,i+1,Y7,H7,I7.unpinned,T.keep _ _ _ st5 fun b hb o e=>(I7.pin (b,o) (zaA _ (zaA _ (ez hb e)))).1,fun b hb=>?_,w7⟩;obtain ⟨o,e,d⟩:=T.obj _ _ st5 b hb;exact (I7.pin (b,o) (zaA _ (zaA _ (ez hb e)))).2.1
  cases f with
  |next=>obtain ⟨Y7,H7,I7,n7⟩:=q7;exact again I7 n7
  |cont=>obtain ⟨Y7,H7,I7,n7⟩:=q7;exact again I7 n7
  |brk=>obtain ⟨Y7,H7,I7,q7⟩:=q7;exact ⟨Y7,H7,I7.unpinned,q7⟩
  |ret v=>obtain ⟨x7,Y7,H7,I7,r7,q7⟩:=q7;exact ⟨x7,Y7,H7,I7.unpinned,r7,q7⟩
end
abbrev R2:=V->V->Hp->VK->Prop
def jy (X:Cx)(f:Value->Value->Sem Value)(r:R2):Prop :=
 ∀(pins:Tc) (s:Shared) (Y:St) (H:Hp) (x y:V) (v u:Value) (Q:VK),ay X pins Y H s->aW x v->aW y u->r x y H Q ->
  wpAny (model X.prog X.w) X.A (f v u) (EP X pins Y Q) X.xe s
def OD (X:Cx)(f:Value->Sem Value)(r:V->Hp->VK->Prop):Prop :=
 ∀(pins:Tc) (s:Shared) (Y:St) (H:Hp) (x:V) (v:Value) (Q:VK),ay X pins Y H s->aW x v->r x H Q ->
  wpAny (model X.prog X.w) X.A (f v) (EP X pins Y Q) X.xe s
def fm (X:Cx)(f:Value)(r:List V->Hp->VK->Prop):Prop :=
 ∀(pins:Tc) (s:Shared) (Y:St) (H:Hp) (xs:List V) (us:Te) (Q:VK),ay X pins Y H s->aS xs us->r xs H Q ->
  wpAny (model X.prog X.w) X.A (call f us) (EP X pins Y Q) X.xe s
def OE (X:Cx)(r:V->Hp->(Bool->Hp->Prop)->Prop):Prop :=
 ∀(pins:Tc) (s:Shared) (Y:St) (H:Hp) (x:V) (v:Value) (Q:Bool->Hp->Prop),ay X pins Y H s->aW x v->r x H Q ->
  wpAny (model X.prog X.w) X.A (truthy v) (TP X pins Y Q) X.xe s
def Gk (r:R2)(ta tb:TE):TE:=fun Y H Q=>ta Y H fun x H1=>tb Y H1 fun y H2=>r x y H2 Q
def OZ (r:V->Hp->VK->Prop)(ta:TE):TE:=fun Y H Q=>ta Y H fun x H1=>r x H1 Q
def rI (C:Int->Int->Prop)(g:Int->Int->V):R2:=fun x y H Q=>∃i j,x=.int i/\y=.int j/\C i j/\Q (g i j) H
def xI (g:Int->Int->V):R2:=fun x y H Q=>∃i j,x=.int i/\y=.int j/\Q (g i j) H
def rU (g:Int->V):V->Hp->VK->Prop:=fun x H Q=>∃i,x=.int i/\Q (g i) H
section
variable {X:Cx}{a b:Expr}{ta tb:TE}{pos:Pos}
def Eh (ha:PE X a ta)(hb:PE X b tb){s:Shared}{H:Hp}{R:V->V->Hp->Prop}(I:ay X pins Y H s)
  (h:ta Y H fun x H1=>tb Y H1 fun y H2=>R x y H2) {Q:Tb} {f:Value->Value->Sem Value}
  (hf:∀v u s2 x y H2,ay X pins Y H2 s2->aW x v->aW y u->R x y H2->wpAny (model X.prog X.w) X.A (f v u) Q X.xe s2) :
  wpAny (model X.prog X.w) X.A (eval a X.env) (fun v s₁=>wpAny (model X.prog X.w) X.A (eval b X.env) (fun u s₂=>wpAny (model X.prog X.w) X.A (f v u) Q X.xe s₂) X.xe s₁) X.xe s:=by
 refine cR (ha pins s Y H _ I h) fun v s1 hh=>?_;obtain ⟨x,H1,I1,r1,q1⟩:=hh;refine cR (hb pins s1 Y H1 _ I1 q1) fun u s2 hh=>?_;obtain ⟨y,H2,I2,r2,q2⟩:=hh;exact hf v u s2 x y H2 I2 r1 r2 q2
def mB {op:Operator}{r:R2}(ho:jy X (binaryOp op) r)(ha:PE X a ta)(hb:PE X b tb):PE X (.BinOp a op b pos) (Gk r ta tb):=by intro pins s Y H Q I h;exact wpAny_BinOp (Eh ha hb I h fun v u s2 x y H2 I2 rx ry q=>ho pins s2 Y H2 x y v u Q I2 rx ry q)
def KQ {op:UnaryOp}{r:V->Hp->VK->Prop}(ho:OD X (unaryOp op) r)(ha:PE X a ta):PE X (.UnaryOp op a pos) (OZ r ta):=by intro pins s Y H Q I h;exact UnaryOp_ (cR (ha pins s Y H _ I h) fun v s1 ⟨x,H1,I1,r1,q1⟩=>ho pins s1 Y H1 x v Q I1 r1 q1)
def Me {f:Value->Value->Sem Value}{C:Int->Int->Prop}{g:Int->Int->Int}
  (rule:∀(i j:Int) (t u:Tok) (s:Shared) (Q:Tb) (E:Tb),C i j->Q (.int (g i j) s.toks) {s with toks:=s.toks+1}->wpAny (model X.prog X.w) X.A (f (.int i t) (.int j u)) Q E s) :
  jy X f (rI C fun i j=>.int (g i j)):=by
 intro pins s Y H x y v u Q I rx ry h;obtain ⟨i,j,rfl,rfl,hc,q⟩:=h;obtain ⟨t,rfl⟩:=rx;obtain ⟨t',rfl⟩:=ry;exact rule i j t t' s _ _ hc ⟨.int (g i j),H,I.tok _,⟨_,rfl⟩,q⟩
def K0 {f:Value->Value->Sem Value}{g:Int->Int->Int}
  (rule:∀(i j:Int) (t u:Tok) (s:Shared) (Q:Tb) (E:Tb),Q (.int (g i j) s.toks) {s with toks:=s.toks+1}->wpAny (model X.prog X.w) X.A (f (.int i t) (.int j u)) Q E s) :
  jy X f (xI fun i j=>.int (g i j)):=by
 intro pins s Y H x y v u Q I rx ry h;obtain ⟨i,j,rfl,rfl,q⟩:=h;obtain ⟨t,rfl⟩:=rx;obtain ⟨t',rfl⟩:=ry;exact rule i j t t' s _ _ ⟨.int (g i j),H,I.tok _,⟨_,rfl⟩,q⟩
def HN {f:Value->Value->Sem Value}{g:Int->Int->Bool}
  (rule:∀(i j:Int) (t u:Tok) (s:Shared) (Q:Tb) (E:Tb),Q (.bool (g i j)) s->wpAny (model X.prog X.w) X.A (f (.int i t) (.int j u)) Q E s) :
  jy X f (xI fun i j=>.bl (g i j)):=by
 intro pins s Y H x y v u Q I rx ry h;obtain ⟨i,j,rfl,rfl,q⟩:=h;obtain ⟨t,rfl⟩:=rx;obtain ⟨t',rfl⟩:=ry;exact rule i j t t' s _ _ ⟨.bl (g i j),H,I,rfl,q⟩
def Jf (i j:Int):Prop:=0 < j/\j < 1073741824
def Je (i j:Int):Prop:=0<=j/\j<=1000000/\i.natAbs < 2 ^ 64
def B9 (i j:Int):Prop:=(-(2 ^ 64) < i/\i < 2 ^ 64)\/(-(2 ^ 64) < j/\j < 2 ^ 64)
def B9.ok {i j:Int}(h:B9 i j):IntMulOk i j:=by
 rcases h with ⟨h1,h2⟩|⟨h1,h2⟩
 ·exact .of_left (intBits_le_64 h1 h2)
 ·exact .of_right (intBits_le_64 h1 h2)
def HM:jy X (binaryOp .Add) (xI fun i j=>.int (i+j)):=K0 fun _ _ _ _ _ _ _ q=>add_int q
def HF:jy X (binaryOp .Sub) (xI fun i j=>.int (i - j)):=K0 fun _ _ _ _ _ _ _ q=>sub_int q
def HH:jy X (binaryOp .Mult) (rI B9 fun i j=>.int (i * j)):=Me fun _ _ _ _ _ _ _ hc q=>mul_int q hc.ok
def Dr:jy X (binaryOp .FloorDiv) (rI Jf fun i j=>.int (i / j)):=Me fun i j _ _ _ _ _ hc q=>by have h1:(0:Int) < j:=hc.1;have h2:j < 1073741824:=hc.2;exact floordiv_int (by omega) (by rw [Int.fdiv_eq_ediv_of_nonneg i (by omega)];exact q) (.inl (PyProof.noPylong_small (by omega)))
def HI:jy X (binaryOp .Mod) (rI (fun _ j=>0 < j) fun i j=>.int (i % j)):=Me fun i j _ _ _ _ _ hc q=>by have h1:(0:Int) < j:=hc;exact mod_int' (by omega) (by rw [Int.fmod_eq_emod_of_nonneg i (by omega)];exact q)
def HG:jy X (binaryOp .Pow) (rI Je fun i j=>.int (i ^ j.toNat)):=Me fun _ _ _ _ _ _ _ hc q=>pow_int_small hc.1 hc.2.1 hc.2.2 q
def PR {f:Value->Sem Value}{g:Int->Int}
  (rule:∀(i:Int) (t:Tok) (s:Shared) (Q:Tb) (E:Tb),Q (.int (g i) s.toks) {s with toks:=s.toks+1}->wpAny (model X.prog X.w) X.A (f (.int i t)) Q E s) :
  OD X f (rU fun i=>.int (g i)):=by
 intro pins s Y H x v Q I rx h;obtain ⟨i,rfl,q⟩:=h;obtain ⟨t,rfl⟩:=rx;exact rule i t s _ _ ⟨.int (g i),H,I.tok _,⟨_,rfl⟩,q⟩
def Gb:OD X (unaryOp .USub) (rU fun i=>.int (-i)):=PR fun _ _ _ _ _ q=>neg_int q
end
section
variable {X:Cx}{a b c:Expr}{ta tb:TE}{pos:Pos}
def Bq {H:Hp}{s:Shared}{Q:VK}{k k':Bool}(I:ay X pins Y H s)(q:Q (.bl k) H)(e:k=k'):EP X pins Y Q (.bool k') s:=by subst e;exact ⟨.bl k,H,I,rfl,q⟩
def FB:jy X (compareOp .Lt) (xI fun i j=>.bl (decide (i < j))):=HN fun _ _ _ _ _ _ _ q=>lt_int q
def KY:jy X (compareOp .LtE) (xI fun i j=>.bl (decide (i<=j))):=HN fun _ _ _ _ _ _ _ q=>le_int q
def KZ:jy X (compareOp .Gt) (xI fun i j=>.bl (decide (j < i))):=HN fun _ _ _ _ _ _ _ q=>gt_int q
theorem HJ:jy X (compareOp .Is) (fun x y H Q=>y=.non/\Q (.bl (decide (x=.non))) H):=by
 intro pins s Y H x y v u Q I rx ry h;obtain ⟨rfl,q⟩:=h;cases ry;refine is_none_gen (Bq I q ?_)
 cases x <;> first
  |(cases rx;rfl)
  |(obtain ⟨t,rfl⟩:=rx;rfl)
theorem Dq:jy X (compareOp .IsNot) (fun x y H Q=>y=.non/\Q (.bl (!decide (x=.non))) H):=by
 intro pins s Y H x y v u Q I rx ry h;obtain ⟨rfl,q⟩:=h;cases ry;refine isnot_none_gen (Bq I q ?_)
 cases x <;> first
  |(cases rx;rfl)
  |(obtain ⟨t,rfl⟩:=rx;rfl)
def jy.or {f:Value->Value->Sem Value}{r r':R2}(h:jy X f r)(h':jy X f r'):jy X f (fun x y H Q=>r x y H Q\/r' x y H Q):=by
 intro pins s Y H x y v u Q I rx ry q;rcases q with q|q
 ·exact h pins s Y H x y v u Q I rx ry q
 ·exact h' pins s Y H x y v u Q I rx ry q
def dW (b:Expr){op:CmpOp}(h:op≠.In:=by decide)(h2:op≠.NotIn:=by decide):behindInMarks op b=false:=by
 have e1:(op == CmpOp.In)=false:=by cases op <;> first|rfl|exact absurd rfl h
 have e2:(op == CmpOp.NotIn)=false:=by cases op <;> first|rfl|exact absurd rfl h2
 cases b <;> simp [behindInMarks,e1,e2]
def kX {op:CmpOp}{r:R2}(ho:jy X (compareOp op) r)(ha:PE X a ta)(hb:PE X b tb)(hm:behindInMarks op b=false):PE X (.Compare a [op] [b] pos) (Gk r ta tb):=by intro pins s Y H Q I h;exact wpAny_Compare1 (Eh ha hb I h fun v u s2 x y H2 I2 rx ry q=>ho pins s2 Y H2 x y v u Q I2 rx ry q) hm
def E8 (t:TE):TT:=fun Y H Q=>t Y H fun x H'=>∃k,x=.bl k/\Q k H'
def wC {op:CmpOp}{r:R2}(ho:jy X (compareOp op) r)(ha:PE X a ta)(hb:PE X b tb)(hm:behindInMarks op b=false):PT X (.Compare a [op] [b] pos) (E8 (Gk r ta tb)):=by intro pins s Y H Q I h;refine wpAny_isTrue_Compare1 (cR (ha pins s Y H _ I h) fun v s1 hh=>?_) hm;obtain ⟨x,H1,I1,r1,q1⟩:=hh;refine cR (hb pins s1 Y H1 _ I1 q1) fun u s2 hh=>?_;obtain ⟨y,H2,I2,r2,q2⟩:=hh;refine cR (ho pins s2 Y H2 x y v u _ I2 r1 r2 q2) fun c s3 hh=>?_;obtain ⟨z,H3,I3,r3,k,e,q3⟩:=hh;subst e;cases r3;exact zca ⟨H3,I3,q3⟩
def Er (K:zac)(x:V)(H:Hp)(k:Bool):Prop :=
 match x with
 |.non=>k=false
 |.bl b=>k=b
 |.int i=>k=(i != 0)
 |.str y=>y.length<=sizeLine/\k=((y.length:Int) != 0)
 |.byt y=>y.size<=sizeLine/\k=((y.size:Int) != 0)
 |.ref p=>(∃xs,iZ K H p xs/\k = !xs.isEmpty)\/(∃xs,gU K H p xs/\k = !xs.isEmpty)\/∃kvs,H p=some (.dK kvs)/\k = !kvs.isEmpty
 |_=>False
theorem vA {κ:Type}{kvs:List (κ×V)}{vs:List (κ×Value)}(r:KV kvs vs):(!vs.isEmpty) = !kvs.isEmpty:=by cases r <;> rfl
def oM {xs:List V}{its:Te}(r:aS xs its):(!its.toArray.isEmpty) = !xs.isEmpty:=by cases r <;> simp
def kj:(sizeLine:Nat) < 2 ^ 63:=by rw [zbh];decide
theorem uO:OE X (fun x H Q=>∃k,Er X.K x H k/\Q k H):=by
 intro pins s Y H x v Q I rx h;obtain ⟨k,e,q⟩:=h;have hl:=kj;have hs:sizeLine=16777216:=zbh
 cases x with
 |non =>
  cases rx;have e':k=false:=e;subst e';exact truthy_none ⟨H,I,q⟩
 |bl b =>
  cases rx;have e':k=b:=e;subst e';exact zca ⟨H,I,q⟩
 |int i =>
  obtain ⟨t,rfl⟩:=rx;have e':k=(i != 0):=e;subst e';exact PySem.P.truthy_int ⟨H,I,q⟩
 |str y =>
  obtain ⟨t,rfl⟩:=rx;obtain ⟨hy,e'⟩:y.length<=sizeLine/\k=((y.length:Int) != 0):=e;subst e';exact PySem.P.truthy_str (by omega) ⟨H,I.tok _,q⟩
 |byt y =>
  obtain ⟨t,rfl⟩:=rx;obtain ⟨hy,e'⟩:y.size<=sizeLine/\k=((y.size:Int) != 0):=e;subst e';exact PySem.W.truthy_bytes (by omega) ⟨H,I.tok _,q⟩
 |ref p =>
  cases rx;have e':(∃xs,iZ X.K H p xs/\k = !xs.isEmpty)\/(∃xs,gU X.K H p xs/\k = !xs.isEmpty)\/∃kvs,H p=some (.dK kvs)/\k = !kvs.isEmpty:=e;rcases e' with ⟨xs,hx,e'⟩|⟨xs,hx,e'⟩|⟨kvs,hx,e'⟩
  ·subst e';obtain ⟨its,r,pl,hz⟩:=I.list hx;have hlen:=r.length;exact wpAny_truthy_list pl.isList (by simp only [zaq];omega) ⟨H,I.tok _,by rw [oM r];exact q⟩
  ·subst e';obtain ⟨its,r,pl,hz⟩:=I.tuple hx;have hlen:=r.length;exact truthy_tuple pl (by simp only [zaq];omega) ⟨H,I.tok _,by rw [oM r];exact q⟩
  ·subst e';obtain ⟨hz,hS,vs,r,m⟩:kvs.length<=sizeLine/\(p == sysModules)=false/\∃vs,KV kvs vs/\s.heap.DictOf (bC X.prog X.w) p vs:=I.hok p _ hx;have hlen:kvs.length=vs.length:=Paired.length r;exact wpAny_truthy_dict hS m (by omega) ⟨H,I.tok _,by rw [vA r];exact q⟩
 |_=>exact (show False from e).elim
def As (ha:PE X a ta)(he:∀whole,isTrue a X.env whole=(do let v ←whole;standAt a.pos;holding [v] (truthy v))) :
  PT X a (fun Y H Q=>ta Y H fun x H'=>∃k,Er X.K x H' k/\Q k H'):=by
 intro pins s Y H Q I h;exact isTrue_plain (cR (ha pins s Y H _ I h) fun v s1 ⟨x,H1,I1,r1,q1⟩=>uO pins s1 Y H1 x v Q I1 r1 q1) (he _)
def u7:jy X (binaryOp .Add) (fun x y H Q=>∃i j,x=.str i/\y=.str j/\i.length+j.length<=sizeLine/\Q (.str (i++j)) H):=by intro pins s Y H x y v u Q I rx ry h;obtain ⟨i,j,rfl,rfl,hz,q⟩:=h;obtain ⟨t,rfl⟩:=rx;obtain ⟨t',rfl⟩:=ry;exact add_str (fun t' tk=>⟨.str (i++j),H,I.tok _,⟨_,rfl⟩,q⟩) hz
def uw (b:Expr):Prop:=∀o i,subscripted b false o i=operate [o,i] (getItem o i)
def sV (ha:PE X a ta)(hb:PE X b tb)(hs:uw b) :
  PE X (.Subscript a b pos) (Gk (fun x y H Q=>∃z i c,x=.str z/\y=.int i/\0<=i/\i < 2 ^ 63/\i < z.length/\z.cps[i.toNat]?=some c/\Q (.str ⟨#[c]⟩) H) ta tb):=by
 intro pins s Y H Q I h;refine Subscript_ (Eh ha hb I h fun v u s2 x y H2 I2 rx ry q=>?_);obtain ⟨z,i,c,rfl,rfl,h0,h63,h1,hc,q⟩:=q;obtain ⟨t,rfl⟩:=rx;obtain ⟨t',rfl⟩:=ry;have e:seqIndex? i z.length=some i.toNat:=PySem.StrLaws.seqIndex_nonneg h0 h1
 exact tail_any (typeIs_str s2 z t) slot_str_getitem.lookup (getItem_str (c:=c) (by
  have e1:decide (i < -(2 ^ 63:Int))=false:=zaw (by omega);have e2:decide (i >= 2 ^ 63)=false:=zaw (by omega)
  rw [e1,e2] <;> rfl) (by rw [e];exact hc) ⟨.str ⟨#[c]⟩,H2,I2.tok _,⟨_,rfl⟩,q⟩) (hs _ _)
theorem iQ {x:V}{us:Te}(r:aS [x] us):∃u,us=[u]/\aW x u:=by
 cases r with
 |cons r1 r2=>cases r2;exact ⟨_,rfl,r1⟩
theorem EE {x y:V}{us:Te}(r:aS [x,y] us):∃u w',us=[u,w']/\aW x u/\aW y w':=by
 cases r with
 |cons r1 r2 =>
  cases r2 with
  |cons r3 r4=>cases r4;exact ⟨_,_,rfl,r1,r3⟩
def yM (hc:X.calm=true):fm X (.builtin "max") (fun xs H Q=>∃i j,xs=[.int i,.int j]/\Q (.int (if j > i then j else i)) H):=by
 intro pins s Y H xs us Q I r h;obtain ⟨i,j,rfl,q⟩:=h;obtain ⟨u,w',rfl,⟨t,rfl⟩,⟨t',rfl⟩⟩:=EE r;refine max_two_ints (I.ok.hd hc) fun h' tk k=>⟨_,H,I.kept k,?_,q⟩;by_cases hj:j > i
 ·rw [if_pos hj,if_pos hj];exact ⟨_,rfl⟩
 ·rw [if_neg hj,if_neg hj];exact ⟨_,rfl⟩
def yL (hc:X.calm=true):fm X (.builtin "min") (fun xs H Q=>∃i j,xs=[.int i,.int j]/\Q (.int (if j < i then j else i)) H):=by
 intro pins s Y H xs us Q I r h;obtain ⟨i,j,rfl,q⟩:=h;obtain ⟨u,w',rfl,⟨t,rfl⟩,⟨t',rfl⟩⟩:=EE r;refine min_two_ints (I.ok.hd hc) fun h' tk k=>⟨_,H,I.kept k,?_,q⟩;by_cases hj:j < i
 ·rw [if_pos hj,if_pos hj];exact ⟨_,rfl⟩
 ·rw [if_neg hj,if_neg hj];exact ⟨_,rfl⟩
end
structure vY (h:Heap)(x dx C:Addr)(mA:Td):Prop where
 obj:h.get? x=some (PySem.W.instObj C dx)
 ns:h.Ns1 dx mA
 ne:dx≠x
def xV {h:Heap}{dx:Addr}{mA:Td}(n:h.Ns1 dx mA):∃od,h.get? dx=some od/\∀name,PySem.W.lookIn name od=some (mA name):=by
 obtain ⟨o,es,ep,ho,hd,hk,_,hm⟩:=n;refine ⟨o,ho,fun name=>?_⟩;have e:=hm name;unfold nsFind findBy at e;rw [←Array.find?_toList] at e;unfold PySem.W.lookIn;rw [hd];dsimp only;split
 ·rename_i y q;rw [q] at e;exact congrArg some e
 ·rename_i q;rw [q] at e;have a:es.toList.any (·.refKey)=false:=by rw [List.any_eq_false];intro y hy;obtain ⟨z,t,hkey⟩:=hk y (Array.mem_toList_iff.mp hy);simp [DictEntry.refKey,hkey]
  have a':¬ es.toList.any (·.refKey)=true:=by rw [a];exact za1
  rw [if_neg a'];exact congrArg some e
def vY.look {h:Heap}{x dx C:Addr}{mA:Td}(I:vY h x dx C mA):∃od,PySem.W.InstAt h x (PySem.W.instObj C dx) C (some od)/\∀name,PySem.W.lookIn name od=some (mA name) :=
 let ⟨od,ho,hl⟩:=xV I.ns
 ⟨od,⟨I.obj,rfl,rfl,ho⟩,hl⟩
section
variable {prog:Program}{w:World}{A:Around}{E:Tb}{s:Shared}{K:zac}{x dx C f:Addr}{mA:Td}{name:Str}{v:Value}
def DO {expr:Bool}{Q:Tb}(X:K.In s.heap)(I:vY s.heap x dx C mA)(hg:PySem.W.plainGet K C name=true)(hh:PySem.W.hasDictIn K C=true)
  (ha:PySem.W.findIn K (.ref C) name=some none) (hv:mA name=some v) (hv':PySem.W.handedIn v=true) (h:Q v {s with toks:=s.toks+1}) :
  wpAny (model prog w) A (getAttr (.ref x) name expr) Q E s:=by
 obtain ⟨od,J,hl⟩:=I.look;exact PySem.W.get_value X J (zcM hg).1 (PySem.W.findObj_own hh ha rfl (by rw [hl,hv])) hv' h
def Bj {pl:Sem Bool}{Q:Value×List Value->Shared->Prop}(X:K.In s.heap)(I:vY s.heap x dx C mA)(hg:PySem.W.plainGet K C name=true)
  (hf:PySem.W.findIn K (.ref C) name=some (some (.ref f))) (ht:PySem.W.isFn K (.ref f)=true) (hv:mA name=none) (h:Q (.ref f,[.ref x]) s) :
  wpAny (model prog w) A (getMethod (.ref x) name pl) Q E s:=by
 obtain ⟨od,J,hl⟩:=I.look;exact PySem.W.method_fn X J (zcM hg).1 (zcM hg).2 hf (beq_iff_eq.mp ht) (by show (PySem.W.lookIn name od).map (·.isSome)=some false;rw [hl,hv];rfl) h
def CD {ns:Tn}{Q:Unit->Shared->Prop}(X:K.In s.heap)(I:vY s.heap x dx C mA)
  (hs:PySem.W.findIn K (.ref C) "__setattr__" = some (some (.builtin "object.__setattr__"))) (hp:PySem.W.plainOver K C=true) (ht:PySem.W.takerIn K C name=some none) (hh:PySem.W.hasDictIn K C=true)
  (hw:PySem.Within mA ns) (hsz:ns.length<=sizeLine)
  (h:∀h',vY h' x dx C (fun y=>if y=name then some v else mA y)->Heap.SameBut dx s.heap h'->Q () {s with heap:=h',toks:=s.toks+2}) :
  wpAny (model prog w) A (setAttr (.ref x) name v) Q E s:=by
 obtain ⟨od,J,hl⟩:=I.look;refine PySem.W.set_plain X J hs (PySem.W.osa_open (s:={s with toks:=s.toks+1}) (r:=none) X J hp ht fun b=>?_);obtain ⟨cd,hc,hd'⟩:=PySem.W.any_some hh;have hx:s.heap.get? x=some ⟨.ref C,some dx,.plain,#[]⟩:=I.obj;refine zaa (zad (zaa (zaa (wpAny_loadPart hx (zaa (PySem.W.Looks.here (s:={s with toks:=s.toks+1}) (PySem.W.looks_clsIn X hc) ?_))))));rw [hd'];refine zad (a:=some dx) (zaa (zad (zaa ?_)));refine wpAny_nsSet1 (s:={s with toks:=s.toks+1}) I.ns fun h' hn2 hs2=>?_;obtain ⟨oD,esD,epD,hoD,hdD,hcD⟩:=hn2.count (PySem.Within.cons name v hw);refine zaa (wpAny_lookBehind hoD (by rw [hdD];exact pastItsLine_dict (zbe hcD (by rw [zaD];omega))) ?_);exact zad (h _ ⟨(hs2.2 _ (Ne.symm I.ne)).trans I.obj,hn2,I.ne⟩ hs2)
def AW {R:Result->Shared->Prop}{vs:Te}{kw:List (Str×Value)}(X:K.In s.heap)(hm:PySem.W.makesIn K C=true)
  (hi:PySem.W.findIn K (.ref C) "__init__" = some (some (.ref f))) (hf:PySem.W.typeIn K (.ref f)=some (.type "function"))
  (h:codeAny (model prog w) (A.under (.builtin "type.__call__" ⟨.ref C::vs,kw⟩)) (.call (.ref f) ⟨.ref (s.heap.objs.size+1)::vs,kw⟩) (PySem.W.InitBack (s.heap.objs.size+1) R)
   {s with heap:=(s.heap.push PySem.W.emptyDict).push (PySem.W.instObj C s.heap.objs.size)}) :
  codeAny (model prog w) A (.call (.ref C) ⟨vs,kw⟩) R s:=by
 obtain ⟨hh,g,d,t,os⟩:=s;exact PySem.W.make_core (PySem.W.makes_of X hm) (PySem.W.looks_findIn X hi) (fun self=>PySem.W.bind_fn X self hf) (.inl rfl) h
end
def iu (f:Str)(v:V):List (Str×V)->List (Str×V)
 |[]=>[(f,v)]
 |(g,x)::r=>if g=f then (g,v)::r else (g,x)::iu f v r
theorem mD (f g:Str)(v:V):∀fs:List (Str×V),(iu f v fs).lookup g=if g=f then some v else fs.lookup g
 |[]=>by
  show List.lookup g [(f,v)]=_
  by_cases h:g=f
  ·have hb:(g == f)=true:=beq_iff_eq.mpr h;simp only [List.lookup,hb,if_pos h]
  ·have hb:(g == f)=false:=beq_eq_false_iff_ne.mpr h;simp only [List.lookup,hb,if_neg h]
 |(k,x)::r=>by
  have ih:=mD f g v r;rw [show iu f v ((k,x)::r)=(if k=f then (k,v)::r else (k,x)::iu f v r) from rfl];by_cases hk:k=f
  ·rw [if_pos hk];by_cases h:g=k
   ·have hb:(g == k)=true:=beq_iff_eq.mpr h;simp only [List.lookup,hb,if_pos (h.trans hk)]
   ·have hb:(g == k)=false:=beq_eq_false_iff_ne.mpr h;simp only [List.lookup,hb,if_neg (fun e:g=f=>h (e.trans hk.symm))]
  ·rw [if_neg hk];by_cases h:g=k
   ·have hb:(g == k)=true:=beq_iff_eq.mpr h;simp only [List.lookup,hb,if_neg (fun e:g=f=>hk (h.symm.trans e))]
   ·have hb:(g == k)=false:=beq_eq_false_iff_ne.mpr h;simp only [List.lookup,hb];exact ih
theorem lU (f:Str)(v:V):∀fs:List (Str×V),f∈(iu f v fs).map (·.1)/\∀g,g∈fs.map (·.1)->g∈(iu f v fs).map (·.1)
 |[]=>⟨by simp [iu],fun g h=>by simp at h⟩
 |(k,x)::r=>by
  obtain ⟨i1,i2⟩:=lU f v r;rw [show iu f v ((k,x)::r)=(if k=f then (k,v)::r else (k,x)::iu f v r) from rfl];by_cases hk:k=f
  ·rw [if_pos hk];subst hk;exact ⟨by simp,fun g h=>by simpa using h⟩
  ·rw [if_neg hk];refine ⟨?_,fun g h=>?_⟩
   ·rw [zaf];exact zan _ i1
   ·rw [zaf] at h ⊢;rcases zaj.mp h with e|e
    ·exact zaj.mpr (.inl e)
    ·exact zan _ (i2 g e)
theorem mE (f:Str)(v:V):∀fs:List (Str×V),(iu f v fs).length<=fs.length+1
 |[]=>by simp [iu]
 |(k,x)::r=>by
  have ih:=mE f v r;rw [show iu f v ((k,x)::r)=(if k=f then (k,v)::r else (k,x)::iu f v r) from rfl];by_cases hk:k=f
  ·rw [if_pos hk,zaD,zaD];omega
  ·rw [if_neg hk,zaD,zaD];omega
theorem jS.some_of {v:V}{o:Tg}(r:jS (some v) o):∃u,o=some u/\aW v u:=by
 cases o with
 |none=>exact (show False from r).elim
 |some u=>exact ⟨u,rfl,r⟩
theorem jS.none_of {o:Tg}(r:jS none o):o=none:=by
 cases o with
 |none=>rfl
 |some u=>exact (show False from r).elim
theorem yt {v:V}{u:Value}(r:aW v u):PySem.W.handedIn u=true:=by
 cases v with
 |non=>cases (show u=Value.none from r);rfl
 |bl b=>cases (show u=Value.bool b from r);rfl
 |int i=>obtain ⟨t,e⟩:=(show ∃t,u=Value.int i t from r);cases e;rfl
 |str x=>obtain ⟨t,e⟩:=(show ∃t,u=Value.str x t from r);cases e;rfl
 |byt b=>obtain ⟨t,e⟩:=(show ∃t,u=Value.bytes b t from r);cases e;rfl
 |flt b=>obtain ⟨t,e⟩:=(show ∃t,u=Value.float b t from r);cases e;rfl
 |ref a=>cases (show u=Value.ref a from r);rfl
 |ty n=>cases (show u=Value.type n from r);rfl
section
variable {P:Program}{w:World}{H:Hp}{h:Heap}{a C dx:Addr}{fs:List (Str×V)}
def q9 (hok:ig P w H h)(e:H a=some (.ins C dx fs)):∃mA,vY h a dx C mA/\(∀f,jS (fs.lookup f) (mA f))/\PySem.Within mA (fs.map (·.1))/\fs.length<=1000/\H dx=some (.own a):=by obtain ⟨d,z,ne,ob,mA,n,r,q⟩:=(show bq P w H h a (.ins C dx fs) from hok a _ e);exact ⟨mA,⟨ob,n,ne⟩,r,q,z,d⟩
end
structure EB (K:zac)(C:Addr):Prop where
 pg:PySem.W.plainGet K C Str.empty=true
 hd:PySem.W.hasDictIn K C=true
 po:PySem.W.plainOver K C=true
 sa:PySem.W.findIn K (.ref C) "__setattr__" = some (some (.builtin "object.__setattr__"))
def EB.get {K:zac}{C:Addr}(c:EB K C)(f:Str):PySem.W.plainGet K C f=true:=c.pg
def eE (K:zac)(C:Addr)(f:Str):Prop:=PySem.W.findIn K (.ref C) f=some none
theorem eE.taker {K:zac}{C:Addr}{f:Str}(n:eE K C f):PySem.W.takerIn K C f=some none:=by unfold PySem.W.takerIn;rw [show PySem.W.findIn K (.ref C) f=some none from n];rfl
structure Ev (K:zac)(C:Addr)(m:Str)(f:Addr):Prop where
 at_:PySem.W.findIn K (.ref C) m=some (some (.ref f))
 fn:PySem.W.isFn K (.ref f)=true
 kp:PySem.W.keepIn K (.ref f)=true
section
variable {X:Cx}{pins:Tc}{Y:St}{H:Hp}{s:Shared}{a C dx:Addr}{fs:List (Str×V)}{f:Str}{v:V}{A:Around}{E:Tb}
def vD {b:Bool}{Q:Tb}(I:ay X pins Y H s)(e:H a=some (.ins C dx fs))(c:EB X.K C)(n:eE X.K C f)(l:fs.lookup f=some v)
  (h:∀u s',ay X pins Y H s'->aW v u->Q u s'):wpAny (model X.prog X.w) A (getAttr (.ref a) f b) Q E s:=by
 obtain ⟨mA,Ozz,r,_,_,_⟩:=q9 I.hok e;obtain ⟨u,hu,ru⟩:=jS.some_of (v:=v) (o:=mA f) (by rw [←l];exact r f);exact DO I.kIn Ozz (c.get f) c.hd n hu (yt ru) (h u _ (I.tok _) ru)
def vC {m:Str}{g:Addr}{pl:Sem Bool}{Q:Value×List Value->Shared->Prop}(I:ay X pins Y H s)(e:H a=some (.ins C dx fs))(c:EB X.K C)(k:Ev X.K C m g)(l:fs.lookup m=none)
  (h:Q (.ref g,[.ref a]) s):wpAny (model X.prog X.w) A (getMethod (.ref a) m pl) Q E s:=by
 obtain ⟨mA,Ozz,r,_,_,_⟩:=q9 I.hok e;have hn:mA m=none:=jS.none_of (by rw [←l];exact r m);exact Bj I.kIn Ozz (c.get m) k.at_ k.fn hn h
def uV {y:V}{u:Value}{Q:Unit->Shared->Prop}(I:ay X pins Y H s)(e:H a=some (.ins C dx fs))(c:EB X.K C)(n:eE X.K C f)(hl:fs.length < 1000)(ry:aW y u)
  (h:∀s',ay X pins Y (upd H a (.ins C dx (iu f y fs))) s'->Q () s'):wpAny (model X.prog X.w) A (setAttr (.ref a) f u) Q E s:=by
 obtain ⟨mA,Ozz,r,wi,_,ho⟩:=q9 I.hok e
 have hz:(fs.map (·.1)).length<=sizeLine:=by rw [zag,zbh];omega
 refine CD I.kIn Ozz c.sa c.po n.taker c.hd wi hz fun h' O'z sb=>h _ ?_;have hd:∃o,h'.get? dx=some o:=let ⟨o,_,_,e',_⟩:=O'z.ns;⟨o,e'⟩;refine I.write (x:=a) (e:=dx) (by rw [e];exact True.intro) (.inr ho) (fun b q hb z=>(sb.2 b hb).trans z) hd ?_;refine ⟨by rw [av Ozz.ne];exact ho,?_,Ozz.ne,O'z.obj,_,O'z.ns,fun g=>?_,fun g hg=>?_⟩
 ·have:=mE f y fs;omega
 ·show jS ((iu f y fs).lookup g) (if g=f then some u else mA g)
  rw [mD]
  by_cases q:g=f
  ·rw [if_pos q,if_pos q];exact ry
  ·rw [if_neg q,if_neg q];exact r g
 ·by_cases q:g=f
  ·rw [q];exact (lU f y fs).1
  ·refine (lU f y fs).2 g (wi g fun z=>hg ?_)
   show (if g=f then some u else mA g)=none
   rw [if_neg q];exact z
def ay.made (I:ay X pins Y H s):ay X pins Y (upd (upd H s.heap.objs.size (.own (s.heap.objs.size+1))) (s.heap.objs.size+1) (.ins C s.heap.objs.size []))
  {s with heap:=(s.heap.push PySem.W.emptyDict).push (PySem.W.instObj C s.heap.objs.size)}:=by
 have e1:(s.heap.push PySem.W.emptyDict).get? s.heap.objs.size=some PySem.W.emptyDict:=zak s.heap rfl
 have e2:((s.heap.push PySem.W.emptyDict).push (PySem.W.instObj C s.heap.objs.size)).get? (s.heap.objs.size+1)=some (PySem.W.instObj C s.heap.objs.size):=by
  have:=zak (s.heap.push PySem.W.emptyDict) (o:=PySem.W.instObj C s.heap.objs.size) rfl
  rwa [zaZ] at this
 have e3:(s.heap.push PySem.W.emptyDict).Ns s.heap.objs.size (fun _=>none):=⟨PySem.W.emptyDict,#[],_,e1,rfl,(fun e he=>absurd he (by simp)),fun _=>rfl⟩;have I1:=I.laid (a:=s.heap.objs.size) (o:=.own (s.heap.objs.size+1)) (h':=s.heap.push PySem.W.emptyDict) (t':=s.toks) (fun b u q=>zae _ q) (zal _) ⟨_,e1⟩;refine I1.laid (a:=s.heap.objs.size+1) (o:=.ins C s.heap.objs.size []) (t':=s.toks) (fun b u q=>zae _ q) (Nat.le_of_eq (zaZ _ _)) ?_;have ne:s.heap.objs.size≠s.heap.objs.size+1:=zam (zbM _);refine ⟨by rw [av ne,bn],zba _,ne,e2,fun _=>none,(Heap.Ns1.of_empty e3).at fun o q=>zae _ q,fun _=>True.intro,fun y hy=>absurd rfl hy⟩
def Ei {prog:Program}{w:World}{env:Env}{e:Expr}{f:Str}{pos:Pos}{s:Shared}{Q:Tb}(hb:attributeBase e f env (eval e env)=eval e env)
  (h:wpAny (model prog w) A (eval e env) (fun o s₁=>wpAny (model prog w) A (getAttr o f true) Q E s₁) E s):wpAny (model prog w) A (eval (.Attribute e f pos) env) Q E s :=
 Attribute_any_ h (by rw [arm_eval_Attribute,hb])
end
def J9 (K:zac)(ta:TE)(f:Str):TE:=fun Y H Q=>ta Y H fun x H1=>∃a C dx fs v,x=.ref a/\H1 a=some (.ins C dx fs)/\EB K C/\eE K C f/\fs.lookup f=some v/\Q v H1
def Kl (K:zac)(ta tv:TE)(f:Str):TS:=fun D Y H=>tv Y H fun y H1=>ta Y H1 fun x H2=>∃a C dx fs,x=.ref a/\H2 a=some (.ins C dx fs)/\EB K C/\eE K C f/\fs.length < 1000 /\
 D.nx Y (upd H2 a (.ins C dx (iu f y fs)))
section
variable {X:Cx}{o e value:Expr}{f:Str}{pos pos':Pos}{ta tv:TE}
def HC (he:PE X e ta)(hb:attributeBase e f X.env (eval e X.env)=eval e X.env):PE X (.Attribute e f pos) (J9 X.K ta f):=by intro pins s Y H Q I h;refine Ei hb (cR (he pins s Y H _ I h) fun u s1 hh=>?_);obtain ⟨x,H1,I1,rx,a,C,dx,fs,v,ex,ea,c,n,l,q⟩:=hh;subst ex;obtain rfl:u=Value.ref a:=rx;exact vD I1 ea c n l fun u' s2 I2 ru=>⟨v,H1,I2,ru,q⟩
def Hr (ha:PE X o ta)(hv:PE X value tv)(hs:swapsWith value (some (.Attribute o f pos')) pos.line X.env=pure false):PS X (.Assign [.Attribute o f pos'] value pos) (Kl X.K ta tv f):=by intro pins s Y H D I h;refine plainObj_wpAny_Assign_Attribute (cR (hv pins s Y H _ I h) fun u s1 hh=>?_) hs;obtain ⟨y,H1,I1,ry,q⟩:=hh;refine cR (ha pins s1 Y H1 _ I1 q) fun ov s2 hh=>?_;obtain ⟨x,H2,I2,rx,a,C,dx,fs,ex,ea,c,n,l,q2⟩:=hh;subst ex;obtain rfl:ov=Value.ref a:=rx;exact uV I2 ea c n l ry fun s3 I3=>⟨Y,_,I3,q2⟩
end
structure bG (k:Nat)(A:Around):Prop where
 hd:A.handled=none
 dp:A.depth+3 * k+5 < recursionLimit
 un:A.units+16 * k+200 < cLine
def bG.mono {j k:Nat}(r:bG k A)(h:j<=k):bG j A:=⟨r.hd,by have:=r.dp;omega,by have:=r.un;omega⟩
def bG.deeper {k:Nat}{A:Around}(r:bG (k+1) A)(env:Env):bG k (A.deeper env) :=
 ⟨r.hd,by have:=r.dp;show A.depth+1+3 * k+5 < _;omega,by have:=r.un;show A.units+3+16 * k+200 < _;omega⟩
def vf {A:Around}{C:Addr}{us:Te}{kw:List (Str×Value)}:(A.under (.builtin "type.__call__" ⟨.ref C::us,kw⟩)).depth=A.depth+1:=by first|rfl|simp [Around.under,Code.weight,Code.isCreation,Code.isGuard,Code.isCaller,Code.frames,Code.isFrame,guardIds]
def ve {A:Around}{C:Addr}{us:Te}{kw:List (Str×Value)}:(A.under (.builtin "type.__call__" ⟨.ref C::us,kw⟩)).units=A.units+1:=by first|rfl|simp [Around.under,Code.cUnits,Code.frames,Code.isFrame]
def bG.make {k:Nat}{A:Around}(r:bG (k+1) A)(C:Addr)(us:Te)(kw:List (Str×Value)):bG k (A.under (.builtin "type.__call__" ⟨.ref C::us,kw⟩)) :=
 ⟨r.hd,by have:=r.dp;rw [vf];omega,by have:=r.un;rw [ve];omega⟩
def bG.depth {k:Nat}{A:Around}(r:bG k A):A.depth < recursionLimit:=by have:=r.dp;omega
def bG.units {k:Nat}{A:Around}(r:bG k A):A.units+64 < cLine:=by have:=r.un;omega
def Cs:TA:=fun _ H Q=>Q [] H
def so (ta:TE)(tr:TA):TA:=fun Y H Q=>ta Y H fun x H1=>tr Y H1 fun xs H2=>Q (x::xs) H2
section
variable {X:Cx}{e:Expr}{es:Tj}{te:TE}{t:TA}{pos:Pos}
def u5:PA X [] Cs:=fun _ _ _ _ H Q I h=>Calls.spliced_nil ⟨[],H,I,.nil,h⟩
theorem nt (ha:PE X e te)(hr:PA X es t)(hs:starEach (e::es) X.env=(false,eval e X.env)::starEach es X.env:=by rfl):PA X (e::es) (so te t):=by
 intro pos pins s Y H Q I h;rw [hs]
 show wpAny _ _ (spliced ((false,eval e X.env)::backTo pos (starEach es X.env))) _ _ s
 refine Calls.spliced_cons (cR (ha pins s Y H _ I h) fun u s1 hh=>?_);obtain ⟨x,H1,I1,r1,q1⟩:=hh;exact cR (hr pos pins s1 Y H1 _ I1 q1) fun us s2 ⟨xs,H2,I2,r2,q2⟩=>⟨x::xs,H2,I2,.cons r1 r2,q2⟩
def J2 (t:TA):TE:=fun Y H Q=>t Y H fun xs H1=>xs.length<=sizeLine/\∀p,H1 p=none->Q (.ref p) (upd H1 p (.tup xs))
def J7 (t:TA):TE:=fun Y H Q=>t Y H fun xs H1=>xs.length<=sizeLine/\∀p,H1 p=none->Q (.ref p) (upd H1 p (.lst xs))
def Hw {x1}(h:PA X es t):PE X (.Tuple es x1 pos) (J2 t):=by intro pins s Y H Q I hq;refine wpAny_Tuple_spliced (cR (h pos pins s Y H _ I hq) fun us s1 hh=>?_);obtain ⟨xs,H1,I1,r,z,q⟩:=hh;refine ⟨by rw [←r.length];exact z,?_⟩;have hf:H1 s1.heap.objs.size=none:=I1.hok.fresh (zal _);refine ⟨.ref s1.heap.objs.size,upd H1 s1.heap.objs.size (.tup xs),I1.laid (t':=s1.toks) (fun b u e=>zae _ e) (zal _) ?_,rfl,q _ hf⟩;exact ⟨z,us,r,jA.new _ _⟩
def HA (h:PA X es t):PE X (.List es pos) (J7 t):=by intro pins s Y H Q I hq;refine wpAny_List_spliced (cR (h pos pins s Y H _ I hq) fun us s1 hh=>?_);obtain ⟨xs,H1,I1,r,z,q⟩:=hh;refine ⟨by rw [←r.length];exact z,?_⟩;have hf:H1 s1.heap.objs.size=none:=I1.hok.fresh (zal _);refine ⟨.ref s1.heap.objs.size,upd H1 s1.heap.objs.size (.lst xs),I1.laid (t':=s1.toks) (fun b u e=>zae _ e) (zal _) ?_,rfl,q _ hf⟩;exact ⟨z,us,0,r,zak _ rfl⟩
end
abbrev Sp:=List V->Hp->VK->XK->Prop
abbrev xk:=List Env->Hp->Shared->XK->Tb
structure v4 (P:Program)(w:World)(K:zac)(mg:Td)(base:Heap)(A:Around)(outer:List Env)(s:Shared)(H:Hp):Prop where
 frames:A.frames=some outer
 mod:Mod K mg base
 bs:∀b o,base.get? b=some o->s.heap.get? b=some o/\H b=none
 bsz:base.objs.size<=s.heap.objs.size
 funs:s.heap.FunFrames base outer
 frf:∀b∈yw outer,H b=none
 hok:ig P w H s.heap
 bare:AllBare s.gens
def CE (outer:List Env)(P:Program)(w:World)(H:Hp)(s:Shared)(Q:VK)(u:Value)(s':Shared):Prop :=
 ∃v H',s'.os=s.os/\AllBare s'.gens/\Un (yw outer) [] H H' s.heap s'.heap/\ig P w H' s'.heap/\aW v u/\Q v H'
def CR (CX:xk)(outer:List Env)(P:Program)(w:World)(H:Hp)(s:Shared)(Q:VK)(E:XK)(r:Result)(s':Shared):Prop :=
 match r with
 |.ok (.ret u)=>CE outer P w H s Q u s'
 |.ok _=>False
 |.error e=>CX outer H s E e s'
structure ca (P:Program)(w:World)(K:zac)(mg:Td)(base:Heap)(CX:xk)(k:Nat)(f:Addr)(fd:FuncData)(ps:Tn)(sp:Sp):Prop where
 len:∀vs H Q E,sp vs H Q E->vs.length=ps.length
 run:∀(A:Around) (outer:List Env) (s:Shared) (H:Hp) (args:Args) (us:Te) (vs:List V) (Q:VK) (E:XK),bG k A->v4 P w K mg base A outer s H->BindsTo s fd args (ps.zip us)->aS vs us->sp vs H Q E ->
  codeAny (model P w) A (.call (.ref f) args) (CR CX outer P w H s Q E) s
def ca.imp {P:Program}{w:World}{K:zac}{mg:Td}{base:Heap}{CX:xk}{k:Nat}{f:Addr}{fd:FuncData}{ps:Tn}{sp sp':Sp}(F:ca P w K mg base CX k f fd ps sp)
  (h:∀vs H Q E,sp' vs H Q E->sp vs H Q E):ca P w K mg base CX k f fd ps sp' :=
 ⟨fun vs H Q E q=>F.len vs H Q E (h _ _ _ _ q),fun A outer s H args us vs Q E hr he hb hv hs=>F.run A outer s H args us vs Q E hr he hb hv (h _ _ _ _ hs)⟩
def v4.make {K:zac}{mg:Td}{base:Heap}{outer:List Env}{s:Shared}{H:Hp}(e:v4 P w K mg base A outer s H)(C:Addr)(us:Te)(kw:List (Str×Value)) :
  v4 P w K mg base (A.under (.builtin "type.__call__" ⟨.ref C::us,kw⟩)) outer s H:=⟨by first|exact e.frames|(simpa [Around.under,Code.envs,Code.isFrame,pushEnvs] using e.frames),e.mod,e.bs,e.bsz,e.funs,e.frf,e.hok,e.bare⟩
section
variable {X:Cx}{pins:Tc}{Y:St}{H:Hp}{s s':Shared}
def ay.env0 (I:ay X pins Y H s):v4 X.prog X.w X.K X.mg X.base X.A X.stack s H :=
 ⟨I.ok.frames,I.ok.mod,I.bs,zbe I.ok.bsz I.sz,I.stack,I.stkFree,I.hok,I.bare⟩
def ay.after {Q:VK}{u:Value}(I:ay X pins Y H s)(h:CE X.stack X.prog X.w H s Q u s'):EP X pins Y Q u s':=by obtain ⟨v,H',os,bare,un,hok,r,q⟩:=h;obtain ⟨hh,g,d,t,os'⟩:=s';obtain rfl:os'=s.os:=os;exact ⟨v,H',I.call (h':=hh) (g':=g) (d':=d) (t':=t) (ch:=[]) un hok bare (fun b z=>absurd z (by simp)),r,q⟩
end
def ss (sp:Sp)(dvs:List V)(E:XK)(t:TA):TE:=fun Y H Q=>t Y H fun vs H1=>sp (vs++dvs) H1 Q E
def Fc (C:Addr)(m:Str)(sp:Sp)(dvs:List V)(E:XK)(ta:TE)(t:TA):TE:=fun Y H Q=>ta Y H fun x H1=>∃a dx fs,x=.ref a/\H1 a=some (.ins C dx fs)/\fs.lookup m=none /\
 t Y H1 fun vs H2=>sp (x::(vs++dvs)) H2 Q E
def Fd (C:Addr)(sp:Sp)(dvs:List V)(E:XK)(t:TA):TE:=fun Y H Q=>t Y H fun vs H1=>∀x dx,H1 x=none->H1 dx=none->dx≠x ->
 sp (.ref x::(vs++dvs)) (upd (upd H1 dx (.own x)) x (.ins C dx [])) (fun v H2=>v=.non/\Q (.ref x) H2) E
def fq (K:zac)(fd:FuncData)(ps:Tn)(ds:Te):Prop :=
 ∀(s:Shared) (us:Te),K.In s.heap->(us++ds).length=ps.length->BindsTo s fd ⟨us,[]⟩ (ps.zip (us++ds))
def fq.all {K:zac}{ps:Tn}(h:∀us:Te,us.length=ps.length->bindArgs fd ⟨us,[]⟩=pure (ps.zip us)):fq K fd ps []:=fun s us _ hl=>by rw [za6] at hl ⊢;exact .of_eq (h us hl)
def mo (CX:xk)(X:Cx)(E:XK):Prop:=∀(pins:Tc) (Y:St) (H:Hp) (s:Shared) (e:Value) (s':Shared),ay X pins Y H s->CX X.stack H s E e s'->X.xe e s'
section
variable {X:Cx}{CX:xk}{k:Nat}{f C:Addr}{fd:FuncData}{ps:Tn}{sp:Sp}{dvs:List V}{ds:Te}{E:XK}{x m:Str}{p pos apos:Pos}{e o:Expr}{es:Tj}{ta:TE}{t:TA}
theorem zQ {pins:Tc}{Y:St}{H:Hp}{s:Shared}{Q:VK}{us:Te}{vs:List V}(F:ca X.prog X.w X.K X.mg X.base CX k f fd ps sp)(hr:bG k X.A)(hb:fq X.K fd ps ds)(hd:aS dvs ds)(hx:mo CX X E)
  (I:ay X pins Y H s) (r:aS vs us) (h:sp (vs++dvs) H Q E):wpAny (model X.prog X.w) X.A (call (.ref f) us) (EP X pins Y Q) X.xe s:=by
 have r2:aS (vs++dvs) (us++ds):=r.append hd
 have hl:(us++ds).length=ps.length:=by rw [←r2.length];exact F.len _ _ _ _ h
 refine zcH (zbf (F.run X.A X.stack s H ⟨us,[]⟩ (us++ds) (vs++dvs) Q E hr I.env0 (hb s us I.kIn hl) r2 h) fun r s' hq=>?_)
 cases r with
 |error e=>exact hx pins Y H s e s' I hq
 |ok fl =>
  cases fl with
  |ret u=>exact I.after hq
  |next=>exact False.elim hq
  |brk=>exact False.elim hq
  |cont=>exact False.elim hq
theorem nr (F:ca X.prog X.w X.K X.mg X.base CX k f fd ps sp)(hr:bG k X.A)(hg:Gl X x)(hm:X.mg x=some (.ref f))(hk:PySem.W.keepIn X.K (.ref f)=true)(hb:fq X.K fd ps ds)(hd:aS dvs ds)(hx:mo CX X E)
  (ha:PA X (e::es) t) (hdb:(x == ("__debug__" : Str))=false:=by decide) (he:starEach (e::es) X.env=(false,eval e X.env)::starEach es X.env:=by rfl) (hpl:(backTo pos (starEach es X.env)).any (·.1)=false:=by rfl) :
  PE X (.Call (.Name x p) (e::es) [] pos) (ss sp dvs E t):=by
 intro pins s Y H Q I h;refine zco (qT I hg hm ?_ hdb);refine zcQ (h₀:=X.base) I.ok.mod.kin hk (cR (ha pos pins s Y H _ I h) fun us s1 hh=>?_) he hpl;obtain ⟨vs,H1,I1,r,q⟩:=hh;refine ⟨I1.kIn,?_⟩;exact zQ F hr hb hd hx I1 r q
theorem Dh {pl:Sem Bool}(he:PE X o ta)(c:EB X.K C)(hm:Ev X.K C m f)(F:ca X.prog X.w X.K X.mg X.base CX k f fd ps sp)(hr:bG k X.A)(hb:fq X.K fd ps ds)(hd:aS dvs ds)(hx:mo CX X E)(ha:PA X (e::es) t)
  (hst:starEach (e::es) X.env=(false,eval e X.env)::starEach es X.env:=by rfl) (hpl:(backTo pos (starEach es X.env)).any (·.1)=false:=by rfl)
  (ht:eval (.Call (.Attribute o m apos) (e::es) [] pos) X.env=(do
   let ov ←eval o X.env
   standAt apos.atName
   let (f,first) ←holding [ov] (getMethod ov m pl)
   callWith pos f first (backTo pos (starEach (e::es) X.env)) (backToKw pos (keywordEach [] X.env))):=by rfl) :
  PE X (.Call (.Attribute o m apos) (e::es) [] pos) (Fc C m sp dvs E ta t):=by
 intro pins s Y H Q I h;refine PySem.W.methodCall_KW (pl:=pl) (cR (he pins s Y H _ I h) fun u s1 hh=>?_) ht;obtain ⟨x,H1,I1,rx,a,dx,fs,ex,ea,l,q⟩:=hh;subst ex;obtain rfl:u=Value.ref a:=rx;refine vC I1 ea c hm l ?_;refine zcQ (first:=[.ref a]) (h₀:=X.base) I.ok.mod.kin hm.kp (cR (ha pos pins s1 Y H1 _ I1 q) fun us s2 hh=>?_) hst hpl;obtain ⟨vs,H2,I2,r,q2⟩:=hh;refine ⟨I2.kIn,?_⟩;exact zQ (us:=.ref a::us) (vs:=.ref a::vs) F hr hb hd hx I2 (.cons rfl r) q2
structure Mk (K:zac)(C f:Addr):Prop where
 makes:PySem.W.makesIn K C=true
 init:PySem.W.findIn K (.ref C) "__init__" = some (some (.ref f))
 fn:PySem.W.isFn K (.ref f)=true
 kp:PySem.W.keepIn K (.ref C)=true
theorem zP {pins:Tc}{Y:St}{H:Hp}{s:Shared}{Q:VK}{us:Te}{vs:List V}(M:Mk X.K C f)(F:ca X.prog X.w X.K X.mg X.base CX k f fd ps sp)(hr:bG (k+1) X.A)(hb:fq X.K fd ps ds)(hd:aS dvs ds)
  (hx:mo CX X E) (I:ay X pins Y H s) (r:aS vs us)
  (h:∀x dx,H x=none->H dx=none->dx≠x->sp (.ref x::(vs++dvs)) (upd (upd H dx (.own x)) x (.ins C dx [])) (fun v H2=>v=.non/\Q (.ref x) H2) E) :
  wpAny (model X.prog X.w) X.A (call (.ref C) us) (EP X pins Y Q) X.xe s:=by
 have hq:=h (s.heap.objs.size+1) s.heap.objs.size (I.hok.fresh (zbT _)) (I.hok.fresh (zal _)) (zam (zbM _));have I2:=ay.made (C:=C) I;have r2:aS (V.ref (s.heap.objs.size+1)::(vs++dvs)) (Value.ref (s.heap.objs.size+1)::(us++ds)):=.cons rfl (r.append hd)
 have hl:(Value.ref (s.heap.objs.size+1)::us++ds).length=ps.length:=by
  have e:=r2.length;rw [F.len _ _ _ _ hq] at e;exact e.symm
 refine zcH (AW (f:=f) I.kIn M.makes M.init (beq_iff_eq.mp M.fn) (zbf (F.run _ X.stack _ _ ⟨Value.ref (s.heap.objs.size+1)::us,[]⟩ (Value.ref (s.heap.objs.size+1)::(us++ds)) _ _ E (hr.make C us [])
  (I2.env0.make C us []) (hb _ (Value.ref (s.heap.objs.size+1)::us) I2.kIn hl) r2 hq) fun r s' hq'=>?_))
 cases r with
 |error e=>exact hx pins Y _ _ e s' I2 hq'
 |ok fl =>
  cases fl with
  |ret u =>
   obtain ⟨v,H',I3,rv,ev,q3⟩:=I2.after hq';subst ev;exact ⟨rv,⟨V.ref (s.heap.objs.size+1),H',I3,rfl,q3⟩⟩
  |next=>exact False.elim hq'
  |brk=>exact False.elim hq'
  |cont=>exact False.elim hq'
theorem Di (M:Mk X.K C f)(F:ca X.prog X.w X.K X.mg X.base CX k f fd ps sp)(hr:bG (k+1) X.A)(hg:Gl X x)(hm:X.mg x=some (.ref C))(hb:fq X.K fd ps ds)(hd:aS dvs ds)(hx:mo CX X E)
  (ha:PA X (e::es) t) (hdb:(x == ("__debug__" : Str))=false:=by decide) (he:starEach (e::es) X.env=(false,eval e X.env)::starEach es X.env:=by rfl) (hpl:(backTo pos (starEach es X.env)).any (·.1)=false:=by rfl) :
  PE X (.Call (.Name x p) (e::es) [] pos) (Fd C sp dvs E t):=by
 intro pins s Y H Q I h;refine zco (qT I hg hm ?_ hdb);refine zcQ (h₀:=X.base) I.ok.mod.kin M.kp (cR (ha pos pins s Y H _ I h) fun us s1 hh=>?_) he hpl;obtain ⟨vs,H1,I1,r,q⟩:=hh;refine ⟨I1.kIn,?_⟩;exact zP M F hr hb hd hx I1 r q
end
structure ax (N P:Tn)(sc:Scope):Prop where
 kind:sc.kind=.function
 co:sc.isCoroutine=false
 gen:sc.isGenerator=false
 nd:N.Nodup
 pre:N.take P.length=P
 par:∀x∈P,sc.names.lookup x=some .local\/sc.names.lookup x=some .cell
 nofree:∀y∈sc.names,y.2≠.free
theorem qi {kindOf:Str->Option NameKind}{x:Str}:∀{binds:List (Str×Value)} {m:Td},(∀v,(x,v)∉binds)->bindL kindOf binds m x=m x
 |[],_,_=>rfl
 |(n,v)::r,m,h=>by
  unfold bindL;rw [qi fun w hw=>h w (zan _ hw)];split
  ·have:x≠n:=by rintro rfl;exact h v zao
   simp [this]
  ·rfl
theorem qk {kindOf:Str->Option NameKind}{x:Str}:∀{binds:List (Str×Value)} {m:Td},(∀v,(x,v)∉binds)->bindC kindOf binds m x=m x
 |[],_,_=>rfl
 |(n,v)::r,m,h=>by
  unfold bindC;rw [qk fun w hw=>h w (zan _ hw)];split
  ·rfl
  ·have:x≠n:=by rintro rfl;exact h v zao
   simp [this]
theorem qj {kindOf:Str->Option NameKind}{x:Str}{v:Value}:∀{P:Tn} {vs:Te} {i:Nat} {m:Td},P.Nodup->P[i]?=some x->vs[i]?=some v->kindOf x=some .local ->
  bindL kindOf (P.zip vs) m x=some v
 |[],_,_,_,_,h,_,_=>by simp at h
 |_::_,[],_,_,_,_,h,_=>by simp at h
 |p::P,w::vs,0,m,nd,h1,h2,hk=>by
  simp at h1 h2;subst h1;subst h2
  show bindL kindOf ((p,w)::P.zip vs) m p=_
  unfold bindL;rw [qi fun v hv=>(zaL.mp nd).1 (zc2 hv).1,if_pos hk];simp
 |p::P,w::vs,i+1,m,nd,h1,h2,hk=>by
  show bindL kindOf ((p,w)::P.zip vs) m x=_
  unfold bindL;exact qj (i:=i) (zaL.mp nd).2 (by simpa using h1) (by simpa using h2) hk
theorem ql {kindOf:Str->Option NameKind}{x:Str}{v:Value}:∀{P:Tn} {vs:Te} {i:Nat} {m:Td},P.Nodup->P[i]?=some x->vs[i]?=some v->kindOf x≠some .local ->
  bindC kindOf (P.zip vs) m x=some v
 |[],_,_,_,_,h,_,_=>by simp at h
 |_::_,[],_,_,_,_,h,_=>by simp at h
 |p::P,w::vs,0,m,nd,h1,h2,hk=>by
  simp at h1 h2;subst h1;subst h2
  show bindC kindOf ((p,w)::P.zip vs) m p=_
  unfold bindC;rw [qk fun v hv=>(zaL.mp nd).1 (zc2 hv).1,if_neg hk];simp
 |p::P,w::vs,i+1,m,nd,h1,h2,hk=>by
  show bindC kindOf ((p,w)::P.zip vs) m x=_
  unfold bindC;exact ql (i:=i) (zaL.mp nd).2 (by simpa using h1) (by simpa using h2) hk
def eM (N:Tn)(vs:List V):St:=vs.map some++List.replicate (N.length - vs.length) none
def iX (CX:xk)(P:Program)(w:World)(K:zac)(mg:Td)(base:Heap)(N:Tn)(qual:Str)(scope:Scope)(f:Addr)(cd:Value)(A:Around)(outer:List Env)(s:Shared)(H:Hp)(E:XK):Cx where
 prog:=P
 w:=w
 K:=K
 mg:=mg
 base:=base
 A:=A.deeper (envOfC qual scope s.heap.objs.size f cd)
 N:=N
 s₀:=s
 H₀:=H
 env:=envOfC qual scope s.heap.objs.size f cd
 outer:=outer
 stack:=envOfC qual scope s.heap.objs.size f cd::outer
 ex:=[]
 calm:=true
 fn:=fun _=>true
 pn:=[]
 xe:=fun e s'=>wpAny (model P w) (A.deeper (envOfC qual scope s.heap.objs.size f cd)) (leaving (envOfC qual scope s.heap.objs.size f cd) e) (fun _ s''=>CX outer H s E e s'') (fun e' s''=>CX outer H s E e' s'') s'
def uj {sc:Scope}{n:Nat}{x:Str}(h:sc.names.lookup x=some .cell):∃c,(cellsFrom n sc.names []).lookup x=some c:=by have q:=zb5 sc.names n [] (.inl h);exact zcp.mp q
def yo {CX:xk}{P:Program}{w:World}{K:zac}{mg:Td}{base:Heap}{N ps:Tn}{qual:Str}{scope:Scope}{f:Addr}{cd:Value}{A:Around}{outer:List Env}{s s1:Shared}{H:Hp}{E:XK}{us:Te}{vs:List V}
  (S:ax N ps scope) (hd:A.handled=none) (e0:v4 P w K mg base A outer s H) (hl:vs.length=ps.length) (r:aS vs us)
  (x:InCallC s s.heap.objs.size (bindL (envOfC qual scope s.heap.objs.size f cd).kindOf (ps.zip us) fun _=>none) (cellsFrom (s.heap.objs.size+1) scope.names []) (bindC (envOfC qual scope s.heap.objs.size f cd).kindOf (ps.zip us) fun _=>none) s1) :
  ay (iX CX P w K mg base N qual scope f cd A outer s H E) [] (eM N vs) H s1:=by
 have hpl:ps.length<=N.length:=by have:=congrArg List.length S.pre;rw [zbU] at this;omega
 obtain ⟨h1,tk,rfl,hk⟩:=x.done;have noA:∀b:Addr,b∉(iX CX P w K mg base N qual scope f cd A outer s H E).ex:=fun b z=>absurd (show b∈([]:Tf) from z) (by simp)
 refine ⟨⟨e0.mod,S.kind,rfl,rfl,zal _,fun y z c h1 h2=>?_,fun y hy=>?_,fun y c _ h=>?_,fun _=>hd,Around.frames_deeper e0.frames,.inr ⟨rfl,rfl⟩,fun b z=>absurd z (noA b),e0.bs,e0.bsz,fun b _ _=>noA b,fun b z=>absurd z (noA b),e0.funs,e0.frf⟩,
  rfl,e0.bare,Un.kept hk,⟨_,x.toInCall.ns,fun i y v h1 h2 h3=>?_⟩,fun y c h=>⟨_,x.cell y c h⟩,e0.hok.fresh (zal _),fun y c h=>?_,fun p hp=>absurd (show p∈([]:Tc) from hp) (by simp),e0.hok.kept hk,?_⟩
 ·exact name_of_addr x.apart (PySem.mem_of_lookup h1) (PySem.mem_of_lookup h2)
 ·have hy:scope.names.lookup y=some .cell\/scope.names.lookup y=some .free:=hy
  rcases hy with hy|hy
  ·exact uj hy
  ·exact absurd rfl (S.nofree _ (PySem.mem_of_lookup hy))
 ·exact zbC (x.above y c (PySem.mem_of_lookup h))
 ·have hi:i < vs.length:=by
   unfold eM at h2
   by_cases hi:i < vs.length
   ·exact hi
   ·rw [zaJ (by simpa using hi)] at h2
    rw [zbY] at h2;split at h2 <;> cases h2
  have ha:vs[i]?=some v:=by
   unfold eM at h2;rw [zai (by simpa using hi),zaB] at h2
   cases e:vs[i]? with
   |none=>rw [e] at h2;cases h2
   |some a=>rw [e] at h2;cases h2;rfl
  obtain ⟨u,hu,rv⟩:=r.get ha
  have hp:ps[i]?=some y:=by
   rw [←S.pre,List.getElem?_take_of_lt (by omega)];exact h1
  have ndP:ps.Nodup:=by rw [←S.pre];exact S.nd.sublist (List.take_sublist _ _)
  refine ⟨u,rv,?_⟩;rcases S.par y (zaO hp) with k|k
  ·exact .inl ⟨k,qj ndP hp hu k⟩
  ·obtain ⟨c,e⟩:=uj (n:=s.heap.objs.size+1) k
   refine .inr ⟨.inl k,c,e,?_⟩;have q:=x.cell y c e;rw [ql ndP hp hu (by show scope.names.lookup y≠_;rw [k];decide)] at q;exact q
 ·exact e0.hok.fresh (zbC (x.above y c (PySem.mem_of_lookup h)))
 ·unfold eM
  show _=N.length
  rw [zaM,zag,List.length_replicate];omega
theorem LC {CX:xk}{P:Program}{w:World}{K:zac}{mg:Td}{base:Heap}{k:Nat}{f:Addr}{name qual:Str}{params:Arguments}{body:Tk}{scope:Scope}{dV kV doc pm cdv ct oc:Value}{an od:Option Addr}
  {osl:Array (Tg)} {N ps:Tn} {sp:Sp} (lk:K.lookup f=some ⟨oc,od,.func (PySem.W.fnOf name qual params body scope dV kV doc pm an cdv ct),osl⟩) (hcd:PySem.W.codeIn K cdv qual=true) (S:ax N ps scope)
  (len:∀vs H Q E,sp vs H Q E->vs.length=ps.length)
  (hbody:∀(A:Around) (outer:List Env) (s:Shared) (H:Hp) (vs:List V) (Q:VK) (E:XK),bG k (A.deeper (envOfC qual scope s.heap.objs.size f cdv))->sp vs H Q E ->
   ∃t,m8 (iX CX P w K mg base N qual scope f cdv A outer s H E) body t/\t {nx:=fun _ H'=>Q .non H',rt:=Q} (eM N vs) H) :
  ca P w K mg base CX (k+1) f (PySem.W.fnOf name qual params body scope dV kV doc pm an cdv ct) ps sp:=by
 refine ⟨len,fun A outer s H args us vs Q E hr e0 hb r hsp=>?_⟩;have hl:=len _ _ _ _ hsp;have KX:K.In s.heap:=e0.mod.kin.keeps fun b o e=>(e0.bs b o e).1;have lim:s.heap.NoLimit:=e0.mod.nolimit.keeps fun b o e=>(e0.bs b o e).1
 have hkind:∀y∈ps.zip us,scope.names.lookup y.1=some .local\/(scope.names.lookup y.1=some .cell/\((cellsFrom (s.heap.objs.size+1) scope.names []).lookup y.1).isSome=true):=fun ⟨n,v⟩ hy=>by
  rcases S.par n (zc2 hy).1 with q|q
  ·exact .inl q
  ·exact .inr ⟨q,zb5 _ _ _ (.inl q)⟩
 refine codeAny_call_function hr.depth (KX _ _ lk) rfl S.co S.gen rfl (PySem.W.codeRec_of KX hcd) (hb _ _ _ _ ?_);refine wpAny_newFunctionEnv_cells S.kind hkind fun env he s1 x=>?_;subst he;refine ⟨lim.keeps x.toInCall.keep,codeAny_func ?_⟩;obtain ⟨t,ht,hq⟩:=hbody A outer s H vs Q E (hr.deeper _) hsp;have I:ay (iX CX P w K mg base N qual scope f cdv A outer s H E) [] (eM N vs) H s1:=yo S hr.hd e0 hl r x;refine zbw (ht [] s1 (eM N vs) H _ I hq) (fun fl s' hs=>?_) fun e s' hs=>hs
 have fin:∀{Y':St} {H':Hp} {v:V} {u:Value},ay (iX CX P w K mg base N qual scope f cdv A outer s H E) [] Y' H' s'->aW v u->Q v H'->CE outer P w H s Q u s' :=
  fun {Y' H' v u} J rv q=>⟨v,H',J.os,J.bare,J.base,J.hok,rv,q⟩
 cases fl with
 |ret u =>
  obtain ⟨v,Y',H',J,rv,q⟩:=hs;exact fin J rv q
 |next =>
  obtain ⟨Y',H',J,q⟩:=hs;exact fin (v:=V.non) (u:=Value.none) J rfl q
 |brk =>
  obtain ⟨_,_,_,q⟩:=hs;exact False.elim q
 |cont =>
  obtain ⟨_,_,_,q⟩:=hs;exact False.elim q
section
variable {X:Cx}{x:Str}{p pos:Pos}{e:Expr}{es:Tj}{t:TA}{id T:String}{r:List V->Hp->VK->Prop}
def Md (r:List V->Hp->VK->Prop)(t:TA):TE:=fun Y H Q=>t Y H fun vs H1=>r vs H1 Q
theorem f6 (hc:fm X (.builtin id) r)(hg:Gl X x)(hm:X.mg x=none)(hv:bootBuiltins x=some (.builtin id))(ha:PA X (e::es) t)(hn:x≠"__name__":=by decide)(hdb:(x == ("__debug__" : Str))=false:=by decide)
  (he:starEach (e::es) X.env=(false,eval e X.env)::starEach es X.env:=by rfl) (hpl:(backTo pos (starEach es X.env)).any (·.1)=false:=by rfl):PE X (.Call (.Name x p) (e::es) [] pos) (Md r t):=by
 intro pins s Y H Q I h;refine zco (oH I hg hm hv ?_ hn hdb);exact PyProof.Rows.callWith_builtin1 (cR (ha pos pins s Y H _ I h) fun us s1 ⟨vs,H1,I1,r1,q1⟩=>hc pins s1 Y H1 vs us Q I1 r1 q1) he hpl
theorem et (hc:fm X (.type T) r)(hg:Gl X x)(hm:X.mg x=none)(hv:bootBuiltins x=some (.type T))(ha:PA X (e::es) t)(hn:x≠"__name__":=by decide)(hdb:(x == ("__debug__" : Str))=false:=by decide)
  (he:starEach (e::es) X.env=(false,eval e X.env)::starEach es X.env:=by rfl) (hpl:(backTo pos (starEach es X.env)).any (·.1)=false:=by rfl):PE X (.Call (.Name x p) (e::es) [] pos) (Md r t):=by
 intro pins s Y H Q I h;refine zco (oH I hg hm hv ?_ hn hdb);exact PyProof.Rows.callWith_type1 (cR (ha pos pins s Y H _ I h) fun us s1 ⟨vs,H1,I1,r1,q1⟩=>hc pins s1 Y H1 vs us Q I1 r1 q1) he hpl
end
end L2
namespace HT
open PyProof.Rows
section
variable {prog:Program}{w:World}{A:Around}{E:Tb}{s:Shared}
theorem Ee {t b:Addr}{vs ws:Te}{Q:Tb}(ht:IsTup s.heap t vs.toArray)(hb:IsTup s.heap b ws.toArray)(hv:vs≠[])
  (h1:ws=[]->Q (.ref t) s) (h2:ws≠[]->Q (.ref s.heap.objs.size) {s with heap:=s.heap.push {cls:=.type "tuple",data:=.seq (vs++ws).toArray}})
  (hsz:vs.length+ws.length<=sizeLine):wpAny (model prog w) A (binaryOp .Add (.ref t) (.ref b)) Q E s:=by
 obtain ⟨⟨cls,dd,data,sl⟩,ho,hc,n,hd⟩:=id ht;obtain ⟨⟨cls2,dd2,data2,sl2⟩,ho2,hc2,n2,hd2⟩:=id hb;simp only at hc hd hc2 hd2;subst hc hd hc2 hd2
 have e:vs.toArray++ws.toArray=(vs++ws).toArray:=by simp
 by_cases hw:ws=[]
 ·exact concat_meets ⟨_,ho,rfl⟩ ⟨_,ho2,rfl⟩ noFill_tuple_add seq_tuple_add PySem.F.slot_tuple_add PySem.F.entry_tuple_add (PySem.F.args_tuple_add_2 _ _)
   (tuple_addW1 t b vs.toArray ws.toArray n n2 dd dd2 sl sl2 (by simpa using hv) (by simp [hw])) ⟨ho,ho2,h1 hw⟩
 ·refine concat_meets ⟨_,ho,rfl⟩ ⟨_,ho2,rfl⟩ noFill_tuple_add seq_tuple_add PySem.F.slot_tuple_add PySem.F.entry_tuple_add (PySem.F.args_tuple_add_2 _ _)
   (tuple_addW2 t b vs.toArray ws.toArray n n2 dd dd2 sl sl2 (by simpa using hv) (by simpa using hw) (by rw [zaq,zaq];exact hsz)) ⟨ho,ho2,?_⟩
  rw [e];exact h2 hw
def cW (n d:Nat):Option Int->Nat
 |none=>d
 |some v=>if v < 0 then (v+(n:Int)).toNat else min v.toNat n
def CI (n d k:Nat):cW n d (some (k:Int))=min k n:=by
 show (if (k:Int) < 0 then ((k:Int)+(n:Int)).toNat else min (k:Int).toNat n)=min k n
 rw [if_neg (by omega),zbc]
theorem GA (n d:Nat)(hd:d<=n)(o:Option Int):cW n d o<=n:=by
 cases o with
 |none=>exact hd
 |some v =>
  show (if v < 0 then (v+(n:Int)).toNat else min v.toNat n)<=n
  by_cases hv:v < 0
  ·rw [if_pos hv];omega
  ·rw [if_neg hv];exact zcV _ _
def xh (v:Int)(n d:Nat):(if v < 0 then max (v+(n:Int)) 0 else min v (n:Int))=((cW n d (some v):Nat):Int):=by
 show (if v < 0 then max (v+(n:Int)) 0 else min v (n:Int))=(((if v < 0 then (v+(n:Int)).toNat else min v.toNat n):Nat):Int)
 by_cases hv:v < 0
 ·simp only [if_pos hv];omega
 ·simp only [if_neg hv];omega
def vW (lo hi:Option Int)(n:Nat):Builtin.Slice.sliceAdjust lo hi 1 (n:Int)=(((cW n 0 lo:Nat):Int),((cW n n hi:Nat):Int)):=by
 have h1:¬ ((1:Int) < 0):=by omega
 unfold Builtin.Slice.sliceAdjust;simp only [h1,if_false];refine Prod.ext ?_ ?_
 ·cases lo with
  |none=>rfl
  |some v=>exact xh v n 0
 ·cases hi with
  |none=>rfl
  |some v=>exact xh v n n
def u3 (i j:Nat):Builtin.Slice.slicePlaces (i:Int) (j:Int) 1=j - i:=by
 unfold Builtin.Slice.slicePlaces;have h1:(1:Int) > 0:=by omega
 simp only [h1,if_true,Int.ediv_one];split <;> omega
theorem nW {v:Value}{o:Option Int}{Q:Option Int->Shared->Prop}(p:IsPart v o)(h:Q o s):wpAny (model prog w) A (Builtin.Slice.slicePartIndex v) Q E s:=by
 cases p with
 |none=>exact slicePart_none h
 |int i t=>exact slicePart_int h
theorem gY {sl:Addr}{vl vu:Value}{lo hi:Option Int}{n:Nat}{Q:Int×Int×Nat->Shared->Prop}(hs:s.heap.IsSliceOf sl vl vu .none)(pl:IsPart vl lo)(pu:IsPart vu hi)
  (h:Q (((cW n 0 lo:Nat):Int),1,cW n n hi - cW n 0 lo) s):wpAny (model prog w) A (Builtin.Slice.sliceApplied (.ref sl) (pure (n:Int))) Q E s:=by
 obtain ⟨os,hos,hcs,hds⟩:=id hs;unfold Builtin.Slice.sliceApplied Builtin.Slice.sliceFields;refine zaa (zaa (zci hos hds (x:=vl) rfl (zaa (zci hos hds (x:=vu) rfl (zaa (zci hos hds (x:=.none) rfl (zad ?_)))))));refine zaa (slicePart_none ?_)
 show wpAny _ _ (if ((1:Int) == 0)=true then _ else _) _ _ s
 rw [if_neg (by decide)];refine zaa (nW pl (zaa (nW pu (zaa (zad ?_)))))
 show wpAny _ _ (match Builtin.Slice.sliceAdjust lo hi 1 (n:Int) with|(lo,hi)=>pure (lo,(1:Int),Builtin.Slice.slicePlaces lo hi 1)) _ _ s
 rw [vW lo hi n]
 show wpAny _ _ (pure (((cW n 0 lo:Nat):Int),(1:Int),Builtin.Slice.slicePlaces ((cW n 0 lo:Nat):Int) ((cW n n hi:Nat):Int) 1)) _ _ s
 rw [u3];exact zad h
theorem Az (xs:Ti)(i k:Nat):((List.range k).filterMap fun (m:Nat)=>xs[((i:Int)+(m:Int) * 1).toNat]?).toArray=((xs.toList.drop i).take k).toArray:=by
 have e:(fun (m:Nat)=>xs[((i:Int)+(m:Int) * 1).toNat]?)=fun m=>xs[i+m]?:=by
  funext m;have:((i:Int)+(m:Int) * 1).toNat=i+m:=by omega
  rw [this]
 rw [e];have:=pick_run xs i k;rw [List.filterMap_map] at this
 have e2:((fun x=>xs[x]?) ∘ fun x=>i+x)=fun m=>xs[i+m]?:=rfl;rw [e2] at this
 rw [this]
theorem lh {t sl:Addr}{items:Ti}{vl vu:Value}{lo hi:Option Int}{Q:Tb}(ht:IsTup s.heap t items)(hs:s.heap.IsSliceOf sl vl vu .none)(pl:IsPart vl lo)(pu:IsPart vu hi)
  (hw:¬ (cW items.size 0 lo=0/\cW items.size items.size hi=items.size))
  (h:Q (.ref s.heap.objs.size) {s with heap:=s.heap.push {cls:=.type "tuple",data:=.seq ((items.toList.drop (cW items.size 0 lo)).take (cW items.size items.size hi - cW items.size 0 lo)).toArray}})
  (hsz:items.size<=sizeLine):wpAny (model prog w) A (getItem (.ref t) (.ref sl)) Q E s:=by
 have htake:sizeOk (.seq ((items.toList.drop (cW items.size 0 lo)).take (cW items.size items.size hi - cW items.size 0 lo)).toArray):=by
  show ((items.toList.drop (cW items.size 0 lo)).take (cW items.size items.size hi - cW items.size 0 lo)).toArray.size<=sizeLine
  rw [zaq,zbU,zcA,za4];omega
 have hj:cW items.size items.size hi<=items.size:=GA _ _ (zal _) hi;obtain ⟨os,hos,hcs,hds⟩:=id hs;have hTs:s.TypeIs (.ref sl) "slice":=⟨os,hos,hcs⟩;unfold getItem
 try with_reducible refine zaH ?_
 first|refine zaa (zad ?_)|skip
 refine zaa (wpAny_sequenceKey ht.typeIs (by decide) ?_)
 refine zaa (zaX (name:=Str.ofString "__getitem__") ht.typeIs PyProof.Rows.slot_tuple_getitem
  (zaG PyProof.Rows.slot_tuple_getitem ht.typeIs entry_tuple_getitem ?_ (args_tuple_getitem _ _)))
 show wpAny _ _ (Builtin.Tuple.tupleItemsOf (.ref t) >>= _) _ _ s
 refine zaa (tupleItemsOf_ ht ?_);refine zaa (zbr hTs ?_);rw [if_pos (by decide)];refine zaa (gY hs pl pu ?_)
 have hno:¬ ((((cW items.size 0 lo:Nat):Int) == 0 && (1:Int) == 1 && (cW items.size items.size hi - cW items.size 0 lo) == items.size)=true):=by
  intro q;rw [zbk,zbk] at q;have q1:((cW items.size 0 lo:Nat):Int)=0:=eq_of_beq q.1.1;have q2:cW items.size items.size hi - cW items.size 0 lo=items.size:=eq_of_beq q.2;exact hw ⟨by omega,by omega⟩
 show wpAny _ _ (if (((cW items.size 0 lo:Nat):Int) == 0 && (1:Int) == 1 && (cW items.size items.size hi - cW items.size 0 lo) == items.size)=true then _ else _) _ _ s
 rw [if_neg hno,Az]
 first
  |exact zaa (m:=Builtin.Tuple.tupleExact _) (zaE (zad ⟨_,rfl,zad h⟩) htake)
  |exact zaa (m:=Builtin.Tuple.tupleExact _) (zaE (zaa (zad (zad ⟨_,rfl,zad h⟩))) htake)
  |exact zaa (zaa (m:=Builtin.Tuple.tupleExact _) (zaE (zad (zad ⟨_,rfl,zad h⟩)) htake))
  |exact zaa (zaa (m:=Builtin.Tuple.tupleExact _) (zaE (zad ⟨_,rfl,zad h⟩) htake))
end
end HT
namespace L2
open PyProof.Rows
abbrev TO:=St->Hp->(Option Int->Hp->Prop)->Prop
def PO (X:Cx)(e:Option Expr)(t:TO):Prop :=
 ∀(pins:Tc) (s:Shared) (Y:St) (H:Hp) (Q:Option Int->Hp->Prop),ay X pins Y H s->t Y H Q ->
  wpAny (model X.prog X.w) X.A (evalPart e X.env) (fun u s'=>∃o H',ay X pins Y H' s'/\IsPart u o/\Q o H') X.xe s
def wl:TO:=fun _ H Q=>Q none H
def E9 (t:TE):TO:=fun Y H Q=>t Y H fun x H1=>∃i,x=.int i/\Q (some i) H1
section
variable {X:Cx}{e:Expr}{te:TE}{lo hi:Option Expr}{tl th:TO}{pos p2:Pos}
def Dd:PO X none wl:=by intro pins s Y H Q I h;rw [evalPart_none];exact zad ⟨none,H,I,.none,h⟩
def Dc (h:PE X e te):PO X (some e) (E9 te):=by intro pins s Y H Q I hw;rw [evalPart_some];refine cR (h pins s Y H _ I hw) fun u s1 hh=>?_;obtain ⟨x,H1,I1,r1,q1⟩:=hh;obtain ⟨i,rfl,q⟩:=q1;obtain ⟨t,rfl⟩:=r1;exact ⟨some i,H1,I1,.int i t,q⟩
def yU (X:Cx)(r:V->Option Int->Option Int->Hp->VK->Prop):Prop :=
 ∀(pins:Tc) (s:Shared) (Y:St) (H:Hp) (x:V) (v vl vu:Value) (lo hi:Option Int) (sl:Addr) (Q:VK),ay X pins Y H s->aW x v->s.heap.IsSliceOf sl vl vu .none->IsPart vl lo->IsPart vu hi->r x lo hi H Q ->
  ∃T id,typeLookup (.type T) "__getitem__" = pure (some (.builtin id))/\s.TypeIs v T/\wpAny (model X.prog X.w) X.A (getItem v (.ref sl)) (EP X pins Y Q) X.xe s
def yU.or {r r':V->Option Int->Option Int->Hp->VK->Prop}(h:yU X r)(h':yU X r'):yU X (fun x lo hi H Q=>r x lo hi H Q\/r' x lo hi H Q):=by
 intro pins s Y H x v vl vu lo hi sl Q I rx hs pl pu q;rcases q with q|q
 ·exact h pins s Y H x v vl vu lo hi sl Q I rx hs pl pu q
 ·exact h' pins s Y H x v vl vu lo hi sl Q I rx hs pl pu q
def Nf (r:V->Option Int->Option Int->Hp->VK->Prop)(te:TE)(tl th:TO):TE:=fun Y H Q=>te Y H fun x H1=>tl Y H1 fun l H2=>th Y H2 fun u H3=>r x l u H3 Q
theorem sU {r:V->Option Int->Option Int->Hp->VK->Prop}(hr:yU X r)(he:PE X e te)(hl:PO X lo tl)(hu:PO X hi th):PE X (.Subscript e (.Slice lo hi none p2) pos) (Nf r te tl th):=by
 intro pins s Y H Q I h;refine Subscript_ (cR (he pins s Y H _ I h) fun v s1 hh=>?_);obtain ⟨x,H1,I1,r1,q1⟩:=hh;refine wpAny_Slice (cR (hl pins s1 Y H1 _ I1 q1) fun vl s2 hh=>?_);obtain ⟨l,H2,I2,pl,q2⟩:=hh;refine cR (hu pins s2 Y H2 _ I2 q2) fun vu s3 hh=>?_;obtain ⟨u,H3,I3,pu,q3⟩:=hh;rw [evalPart_none];refine zad ?_;have I4:ay X pins Y H3 {s3 with heap:=s3.heap.push {cls:=.type "slice",data:=.fields #[vl,vu,.none]}}:=I3.kept (t':=s3.toks) fun b ob q=>zae _ q;obtain ⟨T,id,hT,ht,hg⟩:=hr pins {s3 with heap:=s3.heap.push {cls:=.type "slice",data:=.fields #[vl,vu,.none]}} Y H3 x v vl vu l u s3.heap.objs.size Q I4 r1 (Heap.IsSliceOf.new ..) pl pu q3
 show wpAny (model X.prog X.w) X.A (subscriptTail e (.Slice lo hi none p2) v (.ref s3.heap.objs.size)) (EP X pins Y Q) X.xe {s3 with heap:=s3.heap.push {cls:=.type "slice",data:=.fields #[vl,vu,.none]}}
 exact tail_any (ops:=[.ref s3.heap.objs.size,v]) ht hT hg (by with_unfolding_all rfl)
def rJ (xs:List V)(lo hi:Option Int):List V:=(xs.drop (HT.cW xs.length 0 lo)).take (HT.cW xs.length xs.length hi - HT.cW xs.length 0 lo)
def mK (xs:List V)(lo hi:Option Int):(rJ xs lo hi).length<=xs.length:=by unfold rJ;rw [zbU,zcA];omega
def Ku (K:zac):V->Option Int->Option Int->Hp->VK->Prop:=fun x lo hi H Q=>∃a xs,x=.ref a/\gU K H a xs /\
 ¬ (HT.cW xs.length 0 lo=0/\HT.cW xs.length xs.length hi=xs.length)/\∀p,H p=none->Q (.ref p) (upd H p (.tup (rJ xs lo hi)))
def Gv:yU X (Ku X.K):=by
 intro pins s Y H x v vl vu lo hi sl Q I rx hs pl pu h;obtain ⟨a,xs,rfl,hx,hw,q⟩:=h;cases rx;obtain ⟨its,r,ht,hz⟩:=I.tuple hx;have hlen:its.toArray.size=xs.length:=by rw [zaq];exact r.length.symm
 refine ⟨"tuple",_,PyProof.Rows.slot_tuple_getitem.lookup,ht.typeIs,?_⟩;refine HT.lh ht hs pl pu (by rw [hlen];exact hw) ?_ (by rw [hlen];exact hz);rw [hlen];refine ⟨.ref s.heap.objs.size,_,I.laid (t':=s.toks) (o:=.tup (rJ xs lo hi)) (fun b ob q=>zae _ q) (zal _) ?_,rfl,q _ (I.hok.fresh (zal _))⟩;exact ⟨zbe (mK xs lo hi) hz,_,(r.drop (HT.cW xs.length 0 lo)).take (HT.cW xs.length xs.length hi - HT.cW xs.length 0 lo),jA.new _ _⟩
def Fp (K:zac):R2:=fun x y H Q=>∃a b xs ys,x=.ref a/\y=.ref b/\gU K H a xs/\gU K H b ys/\xs≠[]/\xs.length+ys.length<=sizeLine /\
 (ys=[]->Q (.ref a) H)/\(ys≠[]->∀p,H p=none->Q (.ref p) (upd H p (.tup (xs++ys))))
theorem aS.nil_iff {xs:List V}{us:Te}(r:aS xs us):us=[] ↔ xs=[]:=by
 cases r with
 |nil=>simp
 |cons _ _=>simp
def Ds:jy X (binaryOp .Add) (Fp X.K):=by intro pins s Y H x y v u Q I rx ry h;obtain ⟨a,b,xs,ys,rfl,rfl,ha,hb,hx,hz,q1,q2⟩:=h;cases rx;cases ry;obtain ⟨its,r1,p1,_⟩:=I.tuple ha;obtain ⟨its2,r2,p2,_⟩:=I.tuple hb;refine HT.Ee p1 p2 (fun z=>hx (r1.nil_iff.mp z)) (fun z=>⟨.ref a,H,I,rfl,q1 (r2.nil_iff.mp z)⟩) (fun z=>?_) (by rw [←r1.length,←r2.length];exact hz);refine ⟨.ref s.heap.objs.size,_,I.laid (t':=s.toks) (o:=.tup (xs++ys)) (fun b ob q=>zae _ q) (zal _) ?_,rfl,q2 (fun w=>z (r2.nil_iff.mpr w)) _ (I.hok.fresh (zal _))⟩;exact ⟨by rw [zaM];exact hz,_,r1.append r2,jA.new _ _⟩
end
def Cb (n:Nat)(i:Int):Option Nat:=if 0<=i then (if i < n then some i.toNat else none) else if -(n:Int)<=i then some (i+n).toNat else none
def kI {Z:Type}(xs:List Z)(i:Int):Option Z:=(Cb xs.length i).bind fun j=>xs[j]?
def wS {n:Nat}{i:Int}{j:Nat}(h:Cb n i=some j):seqIndex? i n=some j/\j < n/\-(n:Int)<=i/\i < n:=by
 unfold Cb at h;by_cases h0:0<=i
 ·rw [if_pos h0] at h;by_cases h1:i < n
  ·rw [if_pos h1] at h;have e:i.toNat=j:=Option.some.inj h;exact ⟨by rw [seqIndex_of h0 h1,e],by omega,by omega,h1⟩
  ·rw [if_neg h1] at h;cases h
 ·rw [if_neg h0] at h;by_cases h1 : -(n:Int)<=i
  ·rw [if_pos h1] at h;have e:(i+n).toNat=j:=Option.some.inj h;exact ⟨by rw [seqIndex_neg (by omega) h1,e],by omega,h1,by omega⟩
  ·rw [if_neg h1] at h;cases h
theorem rT {Z:Type}{xs:List Z}{i:Int}{v:Z}(h:kI xs i=some v):∃j,seqIndex? i xs.length=some j/\xs[j]?=some v/\j < xs.length/\-(xs.length:Int)<=i/\i < xs.length:=by
 unfold kI at h
 cases e:Cb xs.length i with
 |none=>rw [e] at h;cases h
 |some j =>
  rw [e] at h;obtain ⟨h1,h2,h3,h4⟩:=wS e;exact ⟨j,h1,h,h2,h3,h4⟩
def xj (b:Expr):Prop:=∀o i,subscripted b false o i=operate [o,i] (getItem o i)
def Ey (X:Cx)(r:R2):Prop :=
 ∀(value slice:Expr) (pins:Tc) (s:Shared) (Y:St) (H:Hp) (x y:V) (v u:Value) (Q:VK),ay X pins Y H s->aW x v->aW y u->r x y H Q ->
  subscripted slice false v u=operate [v,u] (getItem v u)->wpAny (model X.prog X.w) X.A (subscriptTail value slice v u) (EP X pins Y Q) X.xe s
def PH (X:Cx)(id:String)(r:V->List V->Hp->VK->Prop):Prop :=
 ∀(pins:Tc) (s:Shared) (Y:St) (H:Hp) (x:V) (xs:List V) (v:Value) (us:Te) (Q:VK),ay X pins Y H s->aW x v->aS xs us->r x xs H Q ->
  wpAny (model X.prog X.w) X.A (call (.builtin id) (v::us)) (EP X pins Y Q) X.xe s
section
variable {X:Cx}{a b:Expr}{ta tb:TE}{pos:Pos}
def Ey.or {r r':R2}(h:Ey X r)(h':Ey X r'):Ey X (fun x y H Q=>r x y H Q\/r' x y H Q):=by
 intro value slice pins s Y H x y v u Q I rx ry q hs;rcases q with q|q
 ·exact h value slice pins s Y H x y v u Q I rx ry q hs
 ·exact h' value slice pins s Y H x y v u Q I rx ry q hs
def KU {r:R2}(hr:Ey X r)(ha:PE X a ta)(hb:PE X b tb)(hs:xj b):PE X (.Subscript a b pos) (Gk r ta tb):=by intro pins s Y H Q I h;exact Subscript_ (Eh ha hb I h fun v u s2 x y H2 I2 rx ry q=>hr a b pins s2 Y H2 x y v u Q I2 rx ry q (hs _ _))
def KB (K:zac):R2:=fun x y H Q=>∃p xs i v,x=.ref p/\y=.int i/\iZ K H p xs/\kI xs i=some v/\Q v H
def Kz (K:zac):R2:=fun x y H Q=>∃p xs i v,x=.ref p/\y=.int i/\gU K H p xs/\kI xs i=some v/\Q v H
def KA:R2:=fun x y H Q=>∃z i c,x=.str z/\y=.int i/\z.length<=sizeLine/\kI z.cps.toList i=some c/\Q (.str ⟨#[c]⟩) H
def DG:Ey X (KB X.K):=by
 intro value slice pins s Y H x y v u Q I rx ry h hs;obtain ⟨p,xs,i,z,rfl,rfl,hq,he,q⟩:=h;cases rx;obtain ⟨t,rfl⟩:=ry;obtain ⟨its,r,pl,hz⟩:=I.list hq;obtain ⟨j,h1,h2,h3,h4,h5⟩:=rT he;obtain ⟨w,ew,rw'⟩:=r.get h2;have hl:=r.length;have hn:=kj;have fin:EP X pins Y Q w s:=⟨z,H,I,rw',q⟩;by_cases h0:0<=i
 ·have hj:i.toNat=j:=by
   rw [seqIndex_of h0 h5] at h1;exact Option.some.inj h1
  exact item_listR pl.isList h0 (by omega) (by rw [hj];simpa using ew) fin hs
 ·have hj:(i+(its.toArray.size:Int)).toNat=j:=by
   rw [seqIndex_neg (by omega) h4] at h1;rw [zaq,←hl];exact Option.some.inj h1
  exact subscriptTail_builtinR (x:=w) pl.isList.typeIs slot_list_getitem.lookup
   (wpAny_getItem_list_neg (Q:=fun r s'=>r=w/\EP X pins Y Q r s') pl.isList (by omega) (by rw [zaq] <;> omega) (by omega) (by rw [hj];simpa using ew) ⟨rfl,fin⟩) hs
def Ig:Ey X (Kz X.K):=by
 intro value slice pins s Y H x y v u Q I rx ry h hs;obtain ⟨p,xs,i,z,rfl,rfl,hq,he,q⟩:=h;cases rx;obtain ⟨t,rfl⟩:=ry;obtain ⟨its,r,pl,hz⟩:=I.tuple hq;obtain ⟨j,h1,h2,h3,h4,h5⟩:=rT he;obtain ⟨w,ew,rw'⟩:=r.get h2;have hl:=r.length;have hn:=kj;have fin:EP X pins Y Q w s:=⟨z,H,I,rw',q⟩;exact subscriptTail_builtinR (x:=w) pl.typeIs slot_tuple_getitem.lookup
  (getItem_tuple (j:=j) (Q:=fun r s'=>r=w/\EP X pins Y Q r s') pl (by omega) (by omega) (by rw [zaq,←hl];exact h1) (by simpa using ew) ⟨rfl,fin⟩) hs
def Ih:Ey X KA:=by
 intro value slice pins s Y H x y v u Q I rx ry h hs;obtain ⟨z,i,c,rfl,rfl,hz,he,q⟩:=h;obtain ⟨t,rfl⟩:=rx;obtain ⟨t',rfl⟩:=ry;obtain ⟨j,h1,h2,h3,h4,h5⟩:=rT he;have hl:z.cps.toList.length=z.length:=by simp [Str.length]
 rw [hl] at h1 h4 h5;have hn:=kj;exact tail_any (typeIs_str s z t) slot_str_getitem.lookup (getItem_str (c:=c) (by have e1:decide (i < -(2 ^ 63:Int))=false:=zaw (by omega);have e2:decide (i >= 2 ^ 63)=false:=zaw (by omega);rw [e1,e2,Bool.or_false]) (by rw [h1];simpa using h2) ⟨.str ⟨#[c]⟩,H,I.tok _,⟨_,rfl⟩,q⟩) hs
def O3 (K:zac):R2:=fun x y H Q=>KB K x y H Q\/Kz K x y H Q\/KA x y H Q
def Ii:Ey X (O3 X.K):=DG.or (Ig.or Ih)
def vd (its:Te)(n j:Nat)(u:Value):Obj.mapSeq (·.setIfInBounds j u) {cls:=.type "list",data:=.seq its.toArray n}={cls:=.type "list",data:=.seq (its.set j u).toArray n}:=by simp [Obj.mapSeq]
def ay.lst {H:Hp}{s:Shared}{p:Addr}{xs:List V}(I:ay X pins Y H s)(h:H p=some (.lst xs)) :
  ∃(its:Te) (n:Nat),aS xs its/\s.heap.get? p=some {cls:=.type "list",data:=.seq its.toArray n}/\xs.length<=sizeLine:=by
 obtain ⟨z,its,n,r,e⟩:=I.hok p _ h;exact ⟨its,n,r,e,z⟩
def ay.lstUpd {H:Hp}{s:Shared}{p:Addr}{xs ys:List V}{its its':Te}{n n':Nat}{f:Obj->Obj}(I:ay X pins Y H s)(h:H p=some (.lst xs))
  (ho:s.heap.get? p=some {cls:=.type "list",data:=.seq its.toArray n}) (hf:f {cls:=.type "list",data:=.seq its.toArray n}={cls:=.type "list",data:=.seq its'.toArray n'}) (r:aS ys its') (hz:ys.length<=sizeLine) (t:Nat) :
  ay X pins Y (upd H p (.lst ys)) {s with heap:=s.heap.update p f,toks:=t}:=by
 have e:(s.heap.update p f).get? p=some {cls:=.type "list",data:=.seq its'.toArray n'}:=by
  rw [zaP f ho (by rw [hf] <;> rfl),hf]
 refine I.write (x:=p) (e:=p) (by rw [h];trivial) (.inl rfl) (fun b u hb q=>(zaC _ _ (Ne.symm hb)).trans q) ⟨_,e⟩ ?_;exact ⟨hz,its',n',r,e⟩
def Af:V->V->V->Hp->(Hp->Prop)->Prop:=fun o i v H Q=>∃p xs k j,o=.ref p/\i=.int k/\H p=some (.lst xs)/\Cb xs.length k=some j/\Q (upd H p (.lst (xs.set j v)))
def zI:ux X Af:=by
 intro pins s Y H o i v ov iv u Q I ro ri rv h;obtain ⟨p,xs,k,j,rfl,rfl,hp,hj,q⟩:=h;cases ro;obtain ⟨t,rfl⟩:=ri;obtain ⟨its,n,r,ho,hz⟩:=I.lst hp;obtain ⟨h1,h2,h3,h4⟩:=wS hj;have hl:=r.length;have hn:=kj;have I':ay X pins Y (upd H p (.lst (xs.set j v))) {s with heap:=s.heap.update p (Obj.mapSeq (·.setIfInBounds j u))} :=
  I.lstUpd hp ho (vd its n j u) (r.set rv j) (by rw [List.length_set];exact hz) s.toks
 by_cases h0:0<=k
 ·have hk:k.toNat=j:=by
   rw [seqIndex_of h0 h4] at h1;exact Option.some.inj h1
  exact PySem.W.ki_setAt ho h0 (by omega) (by rw [zaq,←hl];exact h4) (by rw [hk];exact ⟨_,I',q⟩)
 ·have hk:(k+(its.toArray.size:Int)).toNat=j:=by
   rw [seqIndex_neg (by omega) h3] at h1;rw [zaq,←hl];exact Option.some.inj h1
  exact PySem.W.ki_setBack ho (by omega) (by rw [zaq,←hl];exact h3) (by omega) (by rw [hk];exact ⟨_,I',q⟩)
def qB (lo hi:Option Int)(n:Nat):(sliceBounds lo hi none n).1=((HT.cW n 0 lo:Nat):Int)/\(sliceBounds lo hi none n).2.1=((HT.cW n n hi:Nat):Int)/\(sliceBounds lo hi none n).2.2=1:=by
 refine ⟨?_,?_,rfl⟩
 ·cases lo with
  |none=>simp [sliceBounds,HT.cW]
  |some i =>
   simp only [sliceBounds,HT.cW,Option.getD_none,show (1:Int) > 0 by decide,if_true];by_cases h:i < 0
   ·simp only [h,if_true] <;> omega
   ·simp only [h,if_false] <;> omega
 ·cases hi with
  |none=>simp [sliceBounds,HT.cW]
  |some i =>
   simp only [sliceBounds,HT.cW,Option.getD_none,show (1:Int) > 0 by decide,if_true];by_cases h:i < 0
   ·simp only [h,if_true] <;> omega
   ·simp only [h,if_false] <;> omega
theorem pw (its:Te)(lo hi:Option Int):slicePick its.toArray lo hi none=((its.drop (HT.cW its.length 0 lo)).take (HT.cW its.length its.length hi - HT.cW its.length 0 lo)).toArray:=by obtain ⟨h1,h2,h3⟩:=qB lo hi its.toArray.size;unfold slicePick;rw [h1,h2,h3];simp only [sliceRange_one,pick_run,zaq] <;> rfl
def Kw (K:zac):V->Option Int->Option Int->Hp->VK->Prop:=fun x lo hi H Q=>∃a xs,x=.ref a/\iZ K H a xs/\∀p,H p=none->Q (.ref p) (upd H p (.lst (rJ xs lo hi)))
def CA:yU X (Kw X.K):=by intro pins s Y H x v vl vu lo hi sl Q I rx hs pl pu h;obtain ⟨a,xs,rfl,hx,q⟩:=h;cases rx;obtain ⟨its,r,ht,hz⟩:=I.list hx;have hlen:=r.length;refine ⟨"list",_,slot_list_getitem.lookup,ht.isList.typeIs,?_⟩;refine wpAny_getItem_list_slice ht.isList hs pl pu .none (by simp) ?_ (by rw [zaq] <;> omega);rw [pw,←hlen];refine ⟨.ref s.heap.objs.size,_,I.laid (t':=s.toks) (o:=.lst (rJ xs lo hi)) (fun b ob q=>zae _ q) (zal _) ?_,rfl,q _ (I.hok.fresh (zal _))⟩;exact ⟨zbe (mK xs lo hi) hz,_,0,(r.drop (HT.cW xs.length 0 lo)).take (HT.cW xs.length xs.length hi - HT.cW xs.length 0 lo),zak _ rfl⟩
def lj:V->Bool
 |.non=>true
 |.bl _=>true
 |.int _=>true
 |.str _=>true
 |_=>false
def D6:V->V->Bool
 |.non,.non=>true
 |.bl a,.bl b=>a == b
 |.bl a,.int b=>(if a then 1 else 0) == b
 |.int a,.bl b=>a == (if b then 1 else 0)
 |.int a,.int b=>a == b
 |.str a,.str b=>a == b
 |_,_=>false
theorem IS {s:Shared}{y x:V}{u v:Value}(ry:aW y u)(rx:aW x v)(fy:lj y=true)(fx:lj x=true):SeqAt.EqAt A s u v (D6 y x):=by
 cases y with
 |non =>
  cases ry
  cases x with
  |non=>cases rx;exact SeqAt.EqAt.same _
  |bl b=>cases rx;exact SeqAt.EqAt.none_bool b
  |int b=>obtain ⟨t,rfl⟩:=rx;exact SeqAt.EqAt.none_int b t
  |str b=>obtain ⟨t,rfl⟩:=rx;exact SeqAt.EqAt.none_str b t
  |_=>exact absurd (show false=true from fx) za1
 |bl a =>
  cases ry
  cases x with
  |non=>cases rx;exact SeqAt.EqAt.bool_none a
  |bl b=>cases rx;exact SeqAt.EqAt.bool_bool a b
  |int b=>obtain ⟨t,rfl⟩:=rx;exact SeqAt.EqAt.bool_int a b t
  |str b=>obtain ⟨t,rfl⟩:=rx;exact SeqAt.EqAt.bool_str a b t
  |_=>exact absurd (show false=true from fx) za1
 |int a =>
  obtain ⟨t',rfl⟩:=ry
  cases x with
  |non=>cases rx;exact SeqAt.EqAt.int_none a t'
  |bl b=>cases rx;exact SeqAt.EqAt.int_bool a t' b
  |int b=>obtain ⟨t,rfl⟩:=rx;exact SeqAt.EqAt.int_int a t' b t
  |str b=>obtain ⟨t,rfl⟩:=rx;exact SeqAt.EqAt.int_str a t' b t
  |_=>exact absurd (show false=true from fx) za1
 |str a =>
  obtain ⟨t',rfl⟩:=ry
  cases x with
  |non=>cases rx;exact SeqAt.EqAt.str_none a t'
  |bl b=>cases rx;exact SeqAt.EqAt.str_bool a t' b
  |int b=>obtain ⟨t,rfl⟩:=rx;exact SeqAt.EqAt.str_int a t' b t
  |str b=>obtain ⟨t,rfl⟩:=rx;exact SeqAt.EqAt.str_str a t' b t
  |_=>exact absurd (show false=true from fx) za1
 |_=>exact absurd (show false=true from fy) za1
def D7 (x:V)(u:Value):Bool:=match u with
 |.none=>D6 .non x
 |.bool b=>D6 (.bl b) x
 |.int i _=>D6 (.int i) x
 |.str z _=>D6 (.str z) x
 |_=>false
theorem BF {x y:V}{u:Value}(r:aW y u)(f:lj y=true):D7 x u=D6 y x:=by
 cases y with
 |non=>cases r;rfl
 |bl b=>cases r;rfl
 |int i=>obtain ⟨t,rfl⟩:=r;rfl
 |str z=>obtain ⟨t,rfl⟩:=r;rfl
 |_=>exact absurd (show false=true from f) za1
theorem rW {x:V}:∀{xs:List V} {us:Te},aS xs us->xs.all lj=true->us.any (D7 x)=xs.any fun y=>D6 y x
 |_,_,.nil,_=>rfl
 |y::xs,u::us,.cons r t,f=>by rw [List.all_cons,zbk] at f;rw [zbz,zbz,BF r f.1,rW t f.2]
theorem oC {s:Shared}{x:V}{v:Value}(rx:aW x v)(fx:lj x=true):∀{xs:List V} {us:Te},aS xs us->xs.all lj=true->∀u∈us,SeqAt.EqAt A s u v (D7 x u)
 |_,_,.nil,_=>fun u hu=>by cases hu
 |y::xs,u::us,.cons r t,f=>fun u' hu=>by
  rw [List.all_cons,zbk] at f;rcases zaj.mp hu with rfl|hu
  ·rw [BF r f.1];exact IS r rx f.1 fx
  ·exact oC rx fx t f.2 u' hu
def Mp (x:V)(xs:List V):Bool:=xs.any fun y=>D6 y x
def Nl (K:zac)(neg:Bool):R2:=fun x y H Q=>∃p xs,y=.ref p/\(iZ K H p xs\/gU K H p xs)/\lj x=true/\xs.all lj=true/\Q (.bl (if neg then !Mp x xs else Mp x xs)) H
def xQ:jy X (compareOp .In) (Nl X.K false):=by
 intro pins s Y H x y v u Q I rx ry h;obtain ⟨p,xs,rfl,hq,fx,fs,q⟩:=h;cases ry;rcases hq with hq|hq
 ·obtain ⟨its,r,pl,hz⟩:=I.list hq;refine SeqAt.in_listAt (D7 x) pl.isList (fun w hw=>oC rx fx r fs w (by simpa using hw)) ⟨.bl _,H,I,rfl,?_⟩;rw [show its.toArray.any (D7 x)=its.any (D7 x) by simp,rW r fs];exact q
 ·obtain ⟨its,r,pl,hz⟩:=I.tuple hq;refine SeqAt.in_tupleAt (D7 x) pl (fun w hw=>oC rx fx r fs w (by simpa using hw)) ⟨.bl _,H,I,rfl,?_⟩;rw [show its.toArray.any (D7 x)=its.any (D7 x) by simp,rW r fs];exact q
def rQ:fm X (.builtin "len") (fun xs H Q=>∃p ys,xs=[.ref p]/\(iZ X.K H p ys\/gU X.K H p ys)/\Q (.int ys.length) H):=by
 intro pins s Y H xs us Q I r h;obtain ⟨p,ys,rfl,hq,q⟩:=h;obtain ⟨u,rfl,rx⟩:=iQ r;cases rx;have hn:=kj;rcases hq with hq|hq
 ·obtain ⟨its,r',pl,hz⟩:=I.list hq;have hlen:=r'.length;exact Calls.call_len_list pl.isList (by simp only [zaq] <;> omega) ⟨.int ys.length,H,I.tok _,⟨s.toks+1,by rw [zaq,hlen]⟩,q⟩
 ·obtain ⟨its,r',pl,hz⟩:=I.tuple hq;have hlen:=r'.length;exact len_tuple pl (by simp only [zaq] <;> omega) ⟨.int ys.length,H,I.tok _,⟨s.toks+1,by rw [zaq,hlen]⟩,q⟩
def rP:fm X (.builtin "len") (fun xs H Q=>∃z,xs=[.str z]/\z.length<=sizeLine/\Q (.int z.length) H):=by intro pins s Y H xs us Q I r h;obtain ⟨z,rfl,hz,q⟩:=h;obtain ⟨u,rfl,t,rfl⟩:=iQ r;have hn:=kj;exact len_str (by omega) ⟨.int z.length,H,I.tok _,⟨_,rfl⟩,q⟩
def rO:fm X (.type "list") (fun xs H Q=>∃p ys,xs=[.ref p]/\(iZ X.K H p ys\/gU X.K H p ys)/\∀l,H l=none->Q (.ref l) (upd H l (.lst ys))):=by
 intro pins s Y H xs us Q I r h;obtain ⟨p,ys,rfl,hq,q⟩:=h;obtain ⟨u,rfl,rx⟩:=iQ r;cases rx;have fin:∀(its:Te),aS ys its->ys.length<=sizeLine->∀(h':Heap) (c':Nat),(∀b o',s.heap.get? b=some o'->h'.get? b=some o') ->
   h'.get? s.heap.objs.size=some {cls:=.type "list",dict:=none,data:=.seq its.toArray c',slots:=#[]}->EP X pins Y Q (.ref s.heap.objs.size) {s with heap:=h'}:=fun its r' hz h' c' kp e =>
  ⟨.ref s.heap.objs.size,_,I.laid (t':=s.toks) kp (zal _) (show bq X.prog X.w _ h' _ (.lst ys) from ⟨hz,its,c',r',e⟩),rfl,q _ (I.hok.fresh (zal _))⟩
 rcases hq with hq|hq
 ·obtain ⟨its,r',pl,hz⟩:=I.list hq;have hlen:=r'.length;obtain ⟨o,ho,hc,n,hd⟩:=pl.isList;exact call_list_seq p (.inl rfl) ho hc hd (fun h' c' kp e=>fin its r' hz h' c' kp e) (by simp only [zaq] <;> omega)
 ·obtain ⟨its,r',pl,hz⟩:=I.tuple hq;have hlen:=r'.length;obtain ⟨o,ho,hc,n,hd⟩:=pl;exact call_list_seq p (.inr rfl) ho hc hd (fun h' c' kp e=>fin its r' hz h' c' kp e) (by simp only [zaq] <;> omega)
def jY:fm X (.type "tuple") (fun xs H Q=>∃p ys,xs=[.ref p]/\((iZ X.K H p ys/\∀l,H l=none->Q (.ref l) (upd H l (.tup ys)))\/(gU X.K H p ys/\Q (.ref p) H))):=by
 intro pins s Y H xs us Q I r h;obtain ⟨p,ys,rfl,h⟩:=h;obtain ⟨u,rfl,rx⟩:=iQ r;cases rx;rcases h with ⟨hq,q⟩|⟨hq,q⟩
 ·obtain ⟨its,r',pl,hz⟩:=I.list hq;have hlen:=r'.length;refine call_tuple_list pl.isList (fun h' kp=>?_) (by simp only [zaq] <;> omega);have I1:ay X pins Y H {s with heap:=h'}:=I.kept (t':=s.toks) kp;have I2:ay X pins Y (upd H h'.objs.size (.tup ys)) {s with heap:=h'.push {cls:=.type "tuple",data:=.seq its.toArray}} :=
   I1.laid (t':=s.toks) (fun b o e=>zae _ e) (zal _) (show bq X.prog X.w _ _ _ (.tup ys) from ⟨hz,its,r',jA.new _ _⟩)
  exact ⟨.ref h'.objs.size,_,I2,rfl,q _ (I1.hok.fresh (zal _))⟩
 ·obtain ⟨its,r',pl,hz⟩:=I.tuple hq;exact call_tuple_same pl ⟨.ref p,H,I,rfl,q⟩
def Nc (K:zac)(T:String)(x:V)(H:Hp):Prop:=match x with
 |.str _=>T = "str"
 |.int _=>T = "int"
 |.ref p=>(T = "list"/\∃xs,iZ K H p xs)\/(T = "tuple"/\∃o,K.lookup p=some o/\o.cls=.type "tuple"/\o.dict=none) \/
   (T = "dict"/\((∃kvs,H p=some (.dK kvs))\/∃kvs,H p=some (.dT kvs)))\/(T = "set"/\∃S n,H p=some (.set S n))
 |_=>False
theorem Gc {H:Hp}{s:Shared}{T:String}{x:V}{v:Value}(I:ay X pins Y H s)(r:aW x v)(ty:Nc X.K T x H) :
  s.TypeIs v T/\∀a,v=.ref a->∃ob,s.heap.get? a=some ob/\ob.dict=none:=by
 cases x with
 |str z =>
  obtain ⟨t,rfl⟩:=r;cases (show T = "str" from ty);exact ⟨typeIs_str s z t,fun _ e=>nomatch e⟩
 |int i =>
  obtain ⟨t,rfl⟩:=r;cases (show T = "int" from ty);exact ⟨typeIs_int s i t,fun _ e=>nomatch e⟩
 |ref p =>
  cases r;rcases ty with ⟨rfl,xs,hq⟩|⟨rfl,o,hk,hc,hd⟩|⟨rfl,hk⟩|⟨rfl,S,n,hk⟩
  ·obtain ⟨its,_,pl,_⟩:=I.list hq
   refine ⟨pl.isList.typeIs,fun a e=>?_⟩;cases e;obtain ⟨o,n,e,c,hd,_⟩:=pl;exact ⟨o,e,hd⟩
  ·refine ⟨⟨o,I.kIn p o hk,hc⟩,fun a e=>?_⟩
   cases e;exact ⟨o,I.kIn _ o hk,hd⟩
  ·have z:∃o,s.heap.get? p=some o/\o.ExactDict:=by
    rcases hk with ⟨kvs,hk⟩|⟨kvs,hk⟩
    ·obtain ⟨_,_,_,_,o,_,_,e,ex,_⟩:=I.hok p _ hk
     exact ⟨o,e,ex⟩
    ·obtain ⟨_,_,_,_,o,_,_,e,ex,_⟩:=I.hok p _ hk
     exact ⟨o,e,ex⟩
   obtain ⟨o,e,ex⟩:=z;refine ⟨⟨o,e,ex.1⟩,fun a e2=>?_⟩;cases e2;exact ⟨o,e,ex.2.1⟩
  ·obtain ⟨o,_,_,_,e,ex,_⟩:=I.hok p _ hk
   refine ⟨⟨o,e,ex.1⟩,fun a e2=>?_⟩;cases e2;exact ⟨o,e,ex.2.1⟩
 |_=>exact False.elim ty
def Ng (K:zac)(T:String)(r:V->List V->Hp->VK->Prop)(to:TE)(t:TA):TE:=fun Y H Q=>to Y H fun x H1=>Nc K T x H1/\t Y H1 fun xs H2=>r x xs H2 Q
variable {o e:Expr}{es:Tj}{to:TE}{t:TA}{name:Str}{apos cpos:Pos}{T id:String}{r:V->List V->Hp->VK->Prop}
theorem Fz (pa:PlainAttrs T)(slot:Slot T name id)(hty:typeOf (.builtin id)=pure (.type "method_descriptor"))(hm:PH X id r)(ho:PE X o to)(ha:PA X (e::es) t)
  (hbase:attributeBase o name X.env (eval o X.env)=eval o X.env:=by rfl)
  (hfew:((backTo cpos (starEach (e::es) X.env)).all (fun x=>!x.1) && (backToKw cpos (keywordEach [] X.env)).all (fun x=>x.1.isSome)
   && decide ((e::es).length+([]:List Keyword).length+(if ([]:List Keyword).isEmpty then 0 else 1) < 30))=true:=by rfl)
  (hline:(apos.endLine == cpos.line)=true:=by rfl) (hs:starEach (e::es) X.env=(false,eval e X.env)::starEach es X.env:=by rfl) (hplain:(backTo cpos (starEach es X.env)).any (·.1)=false:=by rfl) :
  PE X (.Call (.Attribute o name apos) (e::es) [] cpos) (Ng X.K T r to t):=by
 intro pins s Y H Q I h;refine wpAny_Call_method_late hbase hfew hline rfl (cR (ho pins s Y H _ I h) fun v s1 hh=>?_);obtain ⟨x,H1,I1,r1,ty,q1⟩:=hh;obtain ⟨h1,h2⟩:=Gc I1 r1 ty;refine ⟨T,id,pa,slot,hty,h1,h2,?_⟩;have hA:=ha cpos pins s1 Y H1 _ I1 q1;rw [hs] at hA ⊢;refine Calls.callWith_builtin (by show (false || (backTo cpos (starEach es X.env)).any (·.1))=false;rw [hplain] <;> rfl) (Calls.evalArgs_plain ?_);exact cR hA fun us s2 ⟨vs,H2,I2,r2,q2⟩=>hm pins s2 Y H2 x vs v us Q I2 r1 r2 q2
end
def Qb (X:Cx)(id:String)(r:V->List V->Hp->VK->Prop):Prop :=
 ∀(pins:Tc) (s:Shared) (Y:St) (H:Hp) (x:V) (xs:List V) (v:Value) (us:Te) (Q:VK),ay X pins Y H s->aW x v->aS xs us->r x xs H Q ->
  wpAny (model X.prog X.w) X.A (call (.builtin id) (v::us)) (EP X pins Y Q) X.xe s
def aS.one {x:V}{us:Te}(h:aS [x] us):∃u,us=[u]/\aW x u:=by cases h with|cons r t=>cases t;exact ⟨_,rfl,r⟩
section
variable {X:Cx}{pins:Tc}{Y:St}{H:Hp}{s:Shared}{l:Addr}{xs ys:List V}
def ay.lset {its its':Te}{n:Nat}{f:Array Value->Ti}{t':Nat}(I:ay X pins Y H s)(hH:H l=some (.lst xs))
  (e:s.heap.get? l=some {cls:=.type "list",data:=.seq its.toArray n}) (hf:f its.toArray=its'.toArray) (hv:aS ys its') (hz:ys.length<=sizeLine) :
  ay X pins Y (upd H l (.lst ys)) {s with heap:=s.heap.update l (Obj.mapSeq f),toks:=t'}:=by
 have q:=PySem.IsL.update e f;rw [hf] at q;refine I.write (x:=l) (e:=l) (by rw [hH];exact trivial) (.inl rfl) (fun b' u hb hu=>(zaC s.heap (Obj.mapSeq f) (Ne.symm hb)).trans hu) ⟨_,q⟩ ?_;exact ⟨hz,its',_,hv,q⟩
def ay.lnew {its:Te}{t':Nat}(I:ay X pins Y H s)(hv:aS ys its)(hz:ys.length<=sizeLine) :
  ay X pins Y (upd H s.heap.objs.size (.lst ys)) {s with heap:=s.heap.push {cls:=.type "list",data:=.seq its.toArray},toks:=t'} :=
 I.laid (fun _ _ q=>zae _ q) (zal _) ⟨hz,its,0,hv,zak _ rfl⟩
def ay.fresh (I:ay X pins Y H s):H s.heap.objs.size=none:=I.hok.fresh (zal _)
def ay.lstM (I:ay X pins Y H s)(hH:H l=some (.lst xs)):xs.length<=sizeLine/\∃(its:Te) (n:Nat),aS xs its/\xs.length=its.length/\s.heap.get? l=some {cls:=.type "list",data:=.seq its.toArray n}:=by obtain ⟨z,its,n,r,e⟩:=I.hok l _ hH;exact ⟨z,its,n,r,r.length,e⟩
end
section
variable {X:Cx}
def wv:V->List V->Hp->VK->Prop:=fun x vs H Q=>∃l xs y,x=.ref l/\vs=[y]/\H l=some (.lst xs)/\xs.length < sizeLine/\Q .non (upd H l (.lst (xs++[y])))
def xU:Qb X "list.append" wv:=by intro pins s Y H x vs v us Q I rx rv h;obtain ⟨l,xs,y,rfl,rfl,hH,hz,q⟩:=h;cases rx;obtain ⟨u,rfl,ru⟩:=rv.one;obtain ⟨z,its,n,r,hl,e⟩:=I.lstM hH;refine call_meets F.slot_list_append ⟨_,e,rfl⟩ F.entry_list_append (F.args_list_append_2 _ _) (PySem.list_append l its.toArray n u (by rw [zaq];omega)) ⟨e,?_⟩;refine ⟨.non,_,I.lset (its':=its++[u]) hH e (by simp) (r.append (.cons ru .nil)) ?_,rfl,q⟩;rw [zaM,List.length_singleton];omega
def KE:R2:=fun x y H Q=>∃l b xs zs,x=.ref l/\y=.ref b/\H l=some (.lst xs)/\H b=some (.lst zs)/\xs.length+zs.length<=sizeLine/\∀p,H p=none->Q (.ref p) (upd H p (.lst (xs++zs)))
def HL:jy X (binaryOp .Add) KE:=by
 intro pins s Y H x y v u Q I rx ry h;obtain ⟨l,b,xs,zs,rfl,rfl,hH,hB,hz,q⟩:=h;cases rx;cases ry;obtain ⟨z,its,n,r,hl,e⟩:=I.lstM hH;obtain ⟨z2,its2,n2,r2,hl2,e2⟩:=I.lstM hB;refine PySem.P.add_list e e2 ?_ (by rw [zaq,zaq];omega);have ea:its.toArray++its2.toArray=(its++its2).toArray:=by simp
 rw [ea];exact ⟨.ref _,_,I.lnew (t':=s.toks) (r.append r2) (by rw [zaM];omega),rfl,q _ I.fresh⟩
end
section
variable {κ:Type}[DecidableEq κ]
def dh (kvs:List (κ×V))(k:κ):Option V:=(kvs.find? fun kv=>decide (kv.1=k)).map (·.2)
def em (kvs:List (κ×V))(k:κ)(v:V):List (κ×V) :=
 if (kvs.any fun kv=>decide (kv.1=k))=true then kvs.map (fun kv=>if kv.1=k then (kv.1,v) else kv) else kvs++[(k,v)]
def kN {p:κ×V}{r:List (κ×V)}{k:κ}(e:p.1=k):dh (p::r) k=some p.2:=by simp [dh,zb0,e]
def gX {p:κ×V}{r:List (κ×V)}{k:κ}(e:¬ p.1=k):dh (p::r) k=dh r k:=by simp [dh,zb0,e]
theorem nI (k:κ):∀kvs:List (κ×V),(kvs.any fun kv=>decide (kv.1=k))=(dh kvs k).isSome
 |[]=>rfl
 |p::r=>by
  rw [zbz];by_cases e:p.1=k
  ·simp only [kN e,zaF e,Bool.true_or,zcq]
  ·rw [gX e,zaw e,Bool.false_or];exact nI k r
def jj (kvs:List (κ×V))(k:κ)(v:V):(em kvs k v).length<=kvs.length+1:=by
 unfold em;split
 ·rw [zag];omega
 ·rw [zaM,zaD,zbp];omega
def Aq {kvs:List (κ×V)}{k:κ}(v:V)(h:dh kvs k=none):em kvs k v=kvs++[(k,v)]:=by unfold em;rw [nI,h];exact if_neg (by decide)
theorem jS.isSome_eq {o:Option V}{u:Tg}(r:jS o u):o.isSome=u.isSome:=by
 cases o with
 |none=>cases u with
  |none=>rfl
  |some _=>exact (show False from r).elim
 |some _=>cases u with
  |none=>exact (show False from r).elim
  |some _=>rfl
theorem KV.val {kvs:List (κ×V)}{vs:List (κ×Value)}(r:KV kvs vs)(k:κ):jS (dh kvs k) (valueAt vs k):=by
 unfold KV at r;induction r with
 |nil=>exact True.intro
 | @cons p q ps qs h t ih =>
  obtain ⟨h1,h2⟩:=h;by_cases e:p.1=k
  ·have e':q.1=k:=h1.symm.trans e;have b:valueAt (q::qs) k=some q.2:=(by simp [valueAt,zb0,e']);rw [kN e,b];exact h2
  ·have e':¬ q.1=k:=fun z=>e (h1.trans z);have b:valueAt (q::qs) k=valueAt qs k:=(by simp [valueAt,zb0,e']);rw [gX e,b];exact ih
theorem KV.any {kvs:List (κ×V)}{vs:List (κ×Value)}(r:KV kvs vs)(k:κ):(kvs.any fun kv=>decide (kv.1=k))=vs.any fun kv=>decide (kv.1=k):=by
 unfold KV at r;induction r with
 |nil=>rfl
 |cons h t ih=>rw [zbz,zbz,ih,h.1]
theorem KV.repl {kvs:List (κ×V)}{vs:List (κ×Value)}(r:KV kvs vs)(k:κ){y:V}{u:Value}(ry:aW y u) :
  KV (kvs.map fun kv=>if kv.1=k then (kv.1,y) else kv) (vs.map fun kv=>if kv.1=k then (kv.1,u) else kv):=by
 unfold KV at r ⊢
 induction r with
 |nil=>exact .nil
 | @cons p q ps qs h t ih =>
  rw [zaf,zaf];refine .cons ?_ ih;obtain ⟨h1,h2⟩:=h
  by_cases e:p.1=k
  ·rw [if_pos e,if_pos (h1.symm.trans e)];exact ⟨h1,ry⟩
  ·rw [if_neg e,if_neg (fun z=>e (h1.trans z))];exact ⟨h1,h2⟩
def KV.put {kvs:List (κ×V)}{vs:List (κ×Value)}(r:KV kvs vs)(k:κ){y:V}{u:Value}(ry:aW y u):KV (em kvs k y) (stored vs k u):=by
 unfold em stored;rw [r.any k];by_cases e:(vs.any fun kv=>decide (kv.1=k))=true
 ·rw [if_pos e,if_pos e];exact r.repl k ry
 ·rw [if_neg e,if_neg e];exact Paired.snoc r ⟨rfl,ry⟩
def KV.length {kvs:List (κ×V)}{vs:List (κ×Value)}(r:KV kvs vs):kvs.length=vs.length:=Paired.length r
end
theorem tN {k:aI}{u:Value}(r:aW (kV k) u):(bC P w).is k u=true:=by
 cases k with
 |inl i=>obtain ⟨t,e⟩:=(show ∃t,u=Value.int i t from r);subst e;exact tq P w i t
 |inr o=>cases o with
  |some x=>obtain ⟨t,e⟩:=(show ∃t,u=Value.str x t from r);subst e;exact tm P w x t
  |none=>have e:u=Value.none:=r;subst e;exact yg
theorem p4 :∀{ks:List aI} {us:Te},aS (ks.map kV) us->ItemsAre (bC P w) ks us
 |[],_,r=>by rw [za8] at r;cases r;exact .nil
 |k::ks,_,r=>by
  rw [zaf] at r
  cases r with
  |cons h t=>exact .cons (tN h) (p4 t)
abbrev KT (H:Hp):List (List aI×V)->List (List aI×Addr×Value)->Prop:=Paired fun p q=>p.1=q.1/\H q.2.1=some (.tup (p.1.map kV))/\aW p.2 q.2.2
theorem KT.val {H:Hp}{kvs:List (List aI×V)}{xs:List (List aI×Addr×Value)}(r:KT H kvs xs)(k:List aI):jS (dh kvs k) ((atKey xs k).map (·.2)):=by
 induction r with
 |nil=>exact True.intro
 | @cons p q ps qs h t ih =>
  obtain ⟨h1,_,h2⟩:=h;by_cases e:p.1=k
  ·have e':q.1=k:=h1.symm.trans e;have b:atKey (q::qs) k=some q.2:=(by simp [atKey,zb0,e']);rw [kN e,b];exact h2
  ·have e':¬ q.1=k:=fun z=>e (h1.trans z);have b:atKey (q::qs) k=atKey qs k:=(by simp [atKey,zb0,e']);rw [gX e,b];exact ih
theorem KT.repl {H:Hp}{kvs:List (List aI×V)}{xs:List (List aI×Addr×Value)}(r:KT H kvs xs)(k:List aI){y:V}{u:Value}(ry:aW y u) :
  KT H (kvs.map fun kv=>if kv.1=k then (kv.1,y) else kv) (xs.map (putAt k u)):=by
 induction r with
 |nil=>exact .nil
 | @cons p q ps qs h t ih =>
  rw [zaf,zaf];refine .cons ?_ ih;obtain ⟨h1,h2,h3⟩:=h;unfold putAt
  by_cases e:p.1=k
  ·rw [if_pos e,if_pos (h1.symm.trans e)];exact ⟨h1,h2,ry⟩
  ·rw [if_neg e,if_neg (fun z=>e (h1.trans z))];exact ⟨h1,h2,h3⟩
def KT.put {H:Hp}{kvs:List (List aI×V)}{xs:List (List aI×Addr×Value)}(r:KT H kvs xs)(k:List aI){b:Addr}{y:V}{u:Value}(hb:H b=some (.tup (k.map kV)))(ry:aW y u) :
  KT H (em kvs k y) (storedH xs k b u):=by
 have e:(kvs.any fun kv=>decide (kv.1=k))=(atKey xs k).isSome:=by
  rw [nI,(r.val k).isSome_eq,Option.isSome_map]
 unfold em storedH;rw [e]
 by_cases q:(atKey xs k).isSome=true
 ·rw [if_pos q,if_pos q];exact r.repl k ry
 ·rw [if_neg q,if_neg q];exact Paired.snoc r ⟨rfl,hb,ry⟩
def KT.keeps {H H':Hp}{kvs:List (List aI×V)}{xs:List (List aI×Addr×Value)}(r:KT H kvs xs)(ht:∀b ys,H b=some (.tup ys)->H' b=some (.tup ys)):KT H' kvs xs :=
 Paired.mapP r fun _ _ z=>⟨z.1,ht _ _ z.2.1,z.2.2⟩
section
variable {P:Program}{w:World}{H:Hp}{h:Heap}{a:Addr}
def Fj {u:HO}(ok:ig P w H h)(e:Rd H a u):bq P w H h a u:=e.ok ok
def ub {kvs:List (aI×V)}(ok:ig P w H h)(e:Rd H a (.dK kvs)):kvs.length<=sizeLine/\(a == sysModules)=false/\∃vs,KV kvs vs/\h.DictOf (bC P w) a vs :=
 show bq P w H h a (.dK kvs) from Fj ok e
def LU {kvs:List (aI×V)}(ok:ig P w H h)(e:H a=some (.dK kvs)):kvs.length<=sizeLine/\(a == sysModules)=false/\∃vs,KV kvs vs/\h.DictOf (bC P w) a vs:=ub ok (.inl e)
def lV {ks:List aI}(ok:ig P w H h)(e:H a=some (.tup (ks.map kV))):(tupleKind (bC P w)).is h ks a:=by obtain ⟨_,its,r,⟨o,h1,h2,n,h3⟩,_⟩:=(show bq P w H h a (.tup (ks.map kV)) from ok a _ e);exact ⟨o,its.toArray,n,h1,h2,h3,by simpa using p4 r⟩
def ua {kvs:List (List aI×V)}(ok:ig P w H h)(e:Rd H a (.dT kvs)):kvs.length<=sizeLine/\(a == sysModules)=false /\
  ∃xs,KT H kvs xs/\h.DictOfH (tupleKind (bC P w)) a xs:=by
 obtain ⟨z,y,xs,r,o,es,ep,h1,h2,h3,h4,h5⟩:=(show bq P w H h a (.dT kvs) from Fj ok e);refine ⟨z,y,xs,r,o,es,ep,h1,h2,h3,h4,fun x hx=>?_,h5⟩
 have all:∀{l:List (List aI×V)} {m:List (List aI×Addr×Value)},KT H l m->∀x∈m,(tupleKind (bC P w)).is h x.1 x.2.1:=by
  intro l m q
  induction q with
  |nil=>intro x hx;exact nomatch hx
  | @cons p q ps qs hq t ih =>
   intro x hx;rcases zaj.mp hx with e|hx
   ·subst e
    exact lV ok (by rw [←hq.1];exact hq.2.1)
   ·exact ih x hx
 exact all r x hx
def FZ {kvs:List (List aI×V)}(ok:ig P w H h)(e:H a=some (.dT kvs)):kvs.length<=sizeLine/\(a == sysModules)=false /\
  ∃xs,KT H kvs xs/\h.DictOfH (tupleKind (bC P w)) a xs:=ua ok (.inl e)
end
def EA (H:Hp)(a:Addr)(y:V)(r:Option V):Prop :=
 (∃kvs k,Rd H a (.dK kvs)/\y=kV k/\r=dh kvs k)\/∃kvs k b,Rd H a (.dT kvs)/\y=.ref b/\H b=some (.tup (k.map kV))/\r=dh kvs k
def Ez (H:Hp)(a:Addr)(y v:V)(H':Hp):Prop :=
 (∃kvs k,H a=some (.dK kvs)/\y=kV k/\kvs.length < sizeLine/\H'=upd H a (.dK (em kvs k v))) \/
 ∃kvs k b,H a=some (.dT kvs)/\y=.ref b/\H b=some (.tup (k.map kV))/\kvs.length < sizeLine/\H'=upd H a (.dT (em kvs k v))
def Ez.k {H:Hp}{a:Addr}{kvs:List (aI×V)}{k:aI}{v:V}(e:H a=some (.dK kvs))(hl:kvs.length < sizeLine):Ez H a (kV k) v (upd H a (.dK (em kvs k v))):=.inl ⟨kvs,k,e,rfl,hl,rfl⟩
section
variable {X:Cx}{pins:Tc}{Y:St}{H:Hp}{s:Shared}{a:Addr}{y v:V}{u r:Value}{o:Option V}{A:Around}{E:Tb}
def ay.big (I:ay X pins Y H s):sysModules < s.heap.objs.size:=by have h:mainGlobals < s.heap.objs.size:=(I.mod.glob.keeps I.bk).lt;exact zcc (by decide) h
def yG {Q:Tb}(hu:A.units+1 < cLine)(I:ay X pins Y H s)(g:EA H a y (some v))(ry:aW y u)(h:∀w' s',ay X pins Y H s'->aW v w'->Q w' s') :
  wpAny (model X.prog X.w) A (getItem (.ref a) u) Q E s:=by
 rcases g with ⟨kvs,k,e,ey,l⟩|⟨kvs,k,b,e,ey,eb,l⟩
 ·subst ey
  obtain ⟨z,hd,vs,rel,dd⟩:=ub I.hok e;obtain ⟨w',hw,rw'⟩:=jS.some_of (v:=v) (o:=valueAt vs k) (by rw [l];exact rel.val k);exact wpAny_getItem_of (tN ry) dd.mapOf hw (h w' _ (I.tok _) rw')
 ·subst ey
  cases (show u=Value.ref b from ry);obtain ⟨z,hd,xs,rel,dd⟩:=ua I.hok e;obtain ⟨w',hw,rw'⟩:=jS.some_of (v:=v) (o:=(atKey xs k).map (·.2)) (by rw [l];exact rel.val k);obtain ⟨p,hp,hp2⟩:=zaK.mp hw;refine wpAny_getItem_heap (tupleKind_room_in1 hu) (lV I.hok eb) dd hp ?_;rw [hp2];exact h w' _ (I.tok _) rw'
def Ox {Q:Tb}(hu:A.units+1 < cLine)(I:ay X pins Y H s)(g:EA H a y o)(ry:aW y u)(h:∀s',ay X pins Y H s'->Q (.bool o.isSome) s') :
  wpAny (model X.prog X.w) A (compareOp .In u (.ref a)) Q E s:=by
 rcases g with ⟨kvs,k,e,ey,l⟩|⟨kvs,k,b,e,ey,eb,l⟩
 ·subst ey
  obtain ⟨z,hd,vs,rel,dd⟩:=ub I.hok e;refine wpAny_in_of (tN ry) hd dd.mapOf ?_;rw [←(rel.val k).isSome_eq,←l];exact h _ (I.tok _)
 ·subst ey
  cases (show u=Value.ref b from ry);obtain ⟨z,hd,xs,rel,dd⟩:=ua I.hok e;refine wpAny_in_heap (tupleKind_room_in1 hu) (lV I.hok eb) hd dd ?_;have q:=(rel.val k).isSome_eq;rw [Option.isSome_map] at q;rw [←q,←l];exact h _ (I.tok _)
def rH {h':Heap}{t':Nat}{ob:HO}(I:ay X pins Y H s)(mu:L4 (H a))(hs:Heap.SameBut a s.heap h')(he:∃q,h'.get? a=some q)(new:bq X.prog X.w (upd H a ob) h' a ob) :
  ay X pins Y (upd H a ob) {s with heap:=h',toks:=t'} :=
 I.write (x:=a) (e:=a) mu (.inl rfl) (fun b q hb z=>(hs.2 b hb).trans z) he new
def IT {H':Hp}{h':Heap}{kvs:List (aI×V)}{vs:List (aI×Value)}(z:kvs.length<=sizeLine)(hd:(a == sysModules)=false)(rel:KV kvs vs)(dd:h'.DictOf (bC P w) a vs) :
  bq P w H' h' a (.dK kvs):=⟨z,hd,vs,rel,dd⟩
def yF {H':Hp}{Q:Unit->Shared->Prop}(hu:A.units+1 < cLine)(I:ay X pins Y H s)(g:Ez H a y v H')(ry:aW y u)(rv:aW v r)(h:∀s',ay X pins Y H' s'->Q () s') :
  wpAny (model X.prog X.w) A (setItem (.ref a) u r) Q E s:=by
 rcases g with ⟨kvs,k,e,ey,l,eH⟩|⟨kvs,k,b,e,ey,eb,l,eH⟩
 ·subst ey eH
  obtain ⟨z,hd,vs,rel,dd⟩:=LU I.hok e
  have hz:vs.length<=sizeLine:=by rw [←rel.length];exact z
  have hl:(em kvs k v).length<=sizeLine:=by have:=jj kvs k v;omega
  refine wpAny_setItem_pairs (hsz:=hz) (tN ry) dd fun h' dd' hs=>h _ ?_;have he:∃q,h'.get? a=some q:=let ⟨q,_,_,hq,_⟩:=dd';⟨q,hq⟩;exact rH I (by rw [e];exact True.intro) hs he (IT hl hd (rel.put k rv) dd')
 ·subst ey eH
  cases (show u=Value.ref b from ry);obtain ⟨z,hd,xs,rel,dd⟩:=FZ I.hok e
  have hz:xs.length<=sizeLine:=by rw [←Paired.length rel];exact z
  have hl:(em kvs k v).length<=sizeLine:=by have:=jj kvs k v;omega
  refine wpAny_setItem_heap (hsz:=hz) (tupleKind_room_in1 hu) (lV I.hok eb) dd fun h' dd' hs=>h _ ?_;obtain ⟨q,es,ep,hq,h2,h3,h4,_,h5⟩:=dd';refine rH I (by rw [e];exact True.intro) hs ⟨q,hq⟩ ⟨hl,hd,_,(rel.put k eb rv).keeps fun c ys ec=>?_,q,es,ep,hq,h2,h3,h4,h5⟩;rw [av (FF ec e (fun z=>nomatch z))];exact ec
end
def Eu (i:Expr):Prop:=∀ov iv,subscripted i false ov iv=operate [ov,iv] (getItem ov iv)
def Cu {prog:Program}{w:World}{A:Around}{E:Tb}{s:Shared}{env:Env}{value slice:Expr}{pos:Pos}{T id:String}{Q:Tb}
  (hl:typeLookup (.type T) "__getitem__" = pure (some (.builtin id))) (hs:Eu slice)
  (h:wpAny (model prog w) A (eval value env) (fun o s₁=>wpAny (model prog w) A (eval slice env) (fun i s₂=>s₂.TypeIs o T/\wpAny (model prog w) A (getItem o i) Q E s₂) E s₁) E s) :
  wpAny (model prog w) A (eval (.Subscript value slice pos) env) Q E s:=by
 refine Subscript_ (zbw h (fun o s₁ h₁=>zbw h₁ (fun i s₂ h₂=>?_) fun _ _ x=>x) fun _ _ x=>x);obtain ⟨hT,h₂⟩:=h₂;unfold subscriptTail;refine zaa ?_;rw [getitemInPython_of_ne hT.not_modules];refine zaa (zcF hT hl ?_)
 have fin:wpAny (model prog w) A (subscripted slice false o i) (fun r s₃=>wpAny (model prog w) A (letTemporaryGo value o r >>= fun _=>pure r) Q E s₃) E s₂:=by
  rw [hs o i];exact wpAny_operating (zbw h₂ (fun r s₃ h₃=>zaa (wpAny_letTemporaryGo (zad h₃))) fun _ _ x=>x)
 first
  |exact zad (zaa fin)
  |exact zaa (zad (zaa fin))
  |exact zaa fin
def ud {H:Hp}{s:Shared}{a:Addr}{y:V}{o:Option V}(I:ay X pins Y H s)(g:EA H a y o):s.TypeIs (.ref a) "dict":=by
 rcases g with ⟨kvs,k,e,_,_⟩|⟨kvs,k,b,e,_,_,_⟩
 ·obtain ⟨_,_,vs,_,dd⟩:=ub I.hok e;exact dd.typeIs
 ·obtain ⟨_,_,xs,_,dd⟩:=ua I.hok e;exact dd.typeIs
def zy (td ty:TE):TE:=fun Y H Q=>td Y H fun x H1=>ty Y H1 fun y H2=>∃a v,x=.ref a/\EA H2 a y (some v)/\Q v H2
section
variable {X:Cx}{o i:Expr}{pos:Pos}{td ty:TE}
def wG (hu:X.A.units+1 < cLine)(ho:PE X o td)(hi:PE X i ty)(hs:Eu i):PE X (.Subscript o i pos) (zy td ty):=by intro pins s Y H Q I h;refine Cu PySem.F.slot_dict_getitem.lookup hs (cR (ho pins s Y H _ I h) fun u s1 hh=>?_);obtain ⟨x,H1,I1,rx,q1⟩:=hh;refine cR (hi pins s1 Y H1 _ I1 q1) fun iv s2 hh=>?_;obtain ⟨y,H2,I2,ry,a,v,ex,g,q2⟩:=hh;subst ex;obtain rfl:u=Value.ref a:=rx;exact ⟨ud I2 g,yG hu I2 g ry fun w' s3 I3 rw'=>⟨v,H2,I3,rw',q2⟩⟩
end
def BK {H:Hp}(h:Heap)(hb:sysModules < h.objs.size):bq P w H (h.push {cls:=.type "dict",data:=.dict #[]}) h.objs.size (.dT []) :=
 ⟨zba _,beq_eq_false_iff_ne.mpr (Ne.symm (zam hb)),[],.nil,_,#[],0,zak _ rfl,⟨rfl,rfl,rfl⟩,rfl,rfl,zcu⟩
def zx:TE:=fun _ H Q=>∀p,H p=none->Q (.ref p) (upd H p (.dT []))
section
variable {X:Cx}{pos:Pos}
def AD:PE X (.Dict [] [] pos) zx:=fun pins s Y H Q I h =>
 wpAny_Dict_empty ⟨.ref s.heap.objs.size,_,I.laid (a:=s.heap.objs.size) (o:=.dT []) (t':=s.toks) (fun _ _ q=>zae _ q) (zal _) (BK s.heap I.big),rfl,h _ (I.hok.fresh (zal _))⟩
end
structure M1 (X:Cx)(o:Expr)(m:Str)(apos:Pos)(e:Expr)(cpos:Pos):Prop where
 base:attributeBase o m X.env (eval o X.env)=eval o X.env
 few:((backTo cpos (starEach [e] X.env)).all (fun x=>!x.1) && (backToKw cpos (keywordEach [] X.env)).all (fun x=>x.1.isSome)
  && decide (([e]:Tj).length+([]:List Keyword).length+(if ([]:List Keyword).isEmpty then 0 else 1) < 30))=true
 line:(apos.endLine == cpos.line)=true
 trees:backTo cpos (starEach [e] X.env)=[(false,eval e X.env)]
structure M2 (X:Cx)(o:Expr)(m:Str)(apos:Pos)(e f:Expr)(cpos:Pos):Prop where
 base:attributeBase o m X.env (eval o X.env)=eval o X.env
 few:((backTo cpos (starEach [e,f] X.env)).all (fun x=>!x.1) && (backToKw cpos (keywordEach [] X.env)).all (fun x=>x.1.isSome)
  && decide (([e,f]:Tj).length+([]:List Keyword).length+(if ([]:List Keyword).isEmpty then 0 else 1) < 30))=true
 line:(apos.endLine == cpos.line)=true
 trees:backTo cpos (starEach [e,f] X.env)=[(false,eval e X.env),(false,eval f X.env)]
def PK (H:Hp)(a:Addr):Prop:=(∃kvs,Rd H a (.dK kvs))\/∃kvs,Rd H a (.dT kvs)
def Be {H:Hp}{s:Shared}{a:Addr}(I:ay X pins Y H s)(d:PK H a) :
  s.TypeIs (.ref a) "dict"/\(∀b,Value.ref a=.ref b->∃ob,s.heap.get? b=some ob/\ob.dict=none)/\(a == sysModules)=false:=by
 rcases d with ⟨kvs,e⟩|⟨kvs,e⟩
 ·obtain ⟨_,hd,vs,_,dd⟩:=ub I.hok e
  refine ⟨dd.typeIs,fun b q=>?_,hd⟩;cases q;obtain ⟨ob,_,_,h1,h2,_⟩:=dd;exact ⟨ob,h1,h2.2.1⟩
 ·obtain ⟨_,hd,xs,_,dd⟩:=ua I.hok e
  refine ⟨dd.typeIs,fun b q=>?_,hd⟩;cases q;obtain ⟨ob,_,_,h1,h2,_⟩:=dd;exact ⟨ob,h1,h2.2.1⟩
end L2
namespace Att
open PySem.W PySem.Calls PyProof.Rows
theorem m5 {P:Params}{h:Heap}:∀(ns:Th) (vs:Te),WellAll P h vs (ns.map WData.int)->IntsAre vs ns:=by
 intro ns;induction ns with
 |nil =>
  intro vs w;rw [za8] at w;cases w;exact .nil
 |cons n ns ih =>
  intro vs w;rw [zaf] at w
  cases w with
  |cons a b =>
   cases a;exact .cons _ _ (ih _ b)
theorem xD {l:OpenLaw}{n:Nat}(hn:l.most=some n){P:Params}{h:Heap}{args:List WData}{vals:Te}
  (hpre:l.row.toRowW.claim.pre args=true) (hwl:WellAll P h vals args) :
  ∃a vs ns,vals=[Value.ref a]/\args=[WData.list (ns.map WData.int)]/\h.get? a=some {cls:=.type "list",data:=.seq vs.toArray}/\IntsAre vs ns/\ns.length<=n:=by
 have hsh:WShape.hasAll [] args [.list .int]=true:=(pre_splitW hpre).1;have hc:l.pre.holds [] {args:=args}=true:=(pre_splitW hpre).2;obtain ⟨d,r,rfl,h1,h2⟩:=hasAllW_cons hsh;obtain rfl:=hasAllW_nil h2;obtain ⟨xs,rfl,h3⟩:=hasW_list h1;obtain ⟨ns,rfl⟩:=items_int h3
 have hlen:ns.length<=n:=by
  unfold OpenLaw.pre at hc
  have h4:(WTm.not (.lt (.lit (.int (n:Int))) (.len (.arg 0)))).holds [] {args:=[.list (ns.map .int)]}=true:=by
   have h4:=(holds_andW hc).1;rw [hn] at h4;exact h4
  have h5:=condW_of h4 (w_not (w_lt w_lit (w_len_list (w_arg rfl))));rw [zag] at h5;refine Nat.le_of_not_lt fun q=>?_
  have q':(n:Int) < ((ns.length:Nat):Int):=by omega
  first
   |(rw [zaF q'] at h5;exact absurd h5 (by decide))
   |(simp at h5;omega)
 cases hwl with
 |cons w1 w2 =>
  cases w2
  cases w1 with
  |list ho hall=>exact ⟨_,_,ns,rfl,rfl,ho,m5 ns _ hall,hlen⟩
theorem xK (l:OpenLaw)(args:List WData):l.row.toRowW.claim.post args (.bool true) args=true :=
 postW_of (r:=l.row.toRowW) (X:=(true == true))
  (show WShape.has [] (.bool true) .bool=true by first|rfl|decide|simp [WShape.has,WShape.arms,WShape.armsAll])
  (show (WTm.eq .res (.lit (.bool true))).value [] {args:=args,res:=some (.bool true),after:=args}=some (.bool (true == true)) from w_eq_bool (w_res rfl) w_lit) rfl
def attach_call {l:OpenLaw}{n:Nat}{q:Program}{loose:Tn}{XP:(Td)->Heap->Prop}{YP:World->Heap->Prop}{d:DefRec}
  (hn:l.most=some n) (hdf:d.params.defaults=[])
  (call:∀(w:World) (s₀ s₁:Shared) (mg mb:Td) (fa:Addr) (o:Obj) (pm cd doc:Value) (a:Addr) (vs:Te) (ns:Th),
   Ground q loose [] XP w s₀ mg mb s₁.heap->YP w s₁.heap ->
   s₁.heap.get? fa=some o->o.data=.func (docDef d.name d.params d.body d.scope pm cd doc)->s₁.heap.CodeRec cd d.name->mg d.name=some (.ref fa) ->
   s₁.heap.get? a=some {cls:=.type "list",data:=.seq vs.toArray}->IntsAre vs ns->ns.length<=n->s₁.gens = #[] ->
   codeAny (model l.prog w) callerA (.call (.ref fa) ⟨[.ref a],[]⟩) (fun r s'=>r=.ok (.ret (.bool true))/\OldK s₁.heap s'.heap/\s'.os=s₁.os/\AllBare s'.gens) s₁) :
  WalkO q loose XP YP l.row.toRowW d [] (fun f vs=>PySem.call f vs):=by
 intro w s₀ s₁ mg mb G Yz fa o pm cd doc dV kV ho hd hcd hD hmg hg args vals as hpre hlay hrd hwl hlo;obtain rfl:dV=.none:=Dflts.none hD hdf;obtain rfl:kV=.none:=Dflts.noKw hD;obtain ⟨a,vs,ns,rfl,rfl,hobj,hints,hlen⟩:=xD hn hpre hwl;refine enter_call (zbf (call w s₀ s₁ mg mb fa o pm cd doc a vs ns G Yz ho (fd_plain hd) hcd hmg hobj hints hlen hg) fun r s' hq=>?_);obtain ⟨rfl,h2,h3,h4⟩:=hq;exact ⟨.inl ⟨.bool true,.bool true,[],rfl,fun _=>rfl,.bool true,xK l _,fun _=>⟨List.Pairwise.nil,fun _ hm=>(nomatch hm)⟩⟩,h2,h3,h4⟩
end Att
namespace L2
open PyProof.Rows
theorem dG:∀{vs:Te} {ns:Th},IntsAre vs ns->aS (ns.map V.int) vs
 |_,_,.nil=>.nil
 |_,_,.cons n t h=>.cons ⟨t,rfl⟩ (dG h)
def B3 (H:Hp):Prop:=∀b,H b=none\/∃o xs,H b=some (.frz o (.lst xs))
theorem A3 {P:Program}{w:World}{K:zac}{mg mb:Td}{CX:xk}{k:Nat}{fa a:Addr}{fd:FuncData}{x:Str}{sp:Sp}{s₁:Shared}{vs:Te}{ns:Th}
  (KX:K.In s₁.heap) (hns:s₁.heap.Ns mainGlobals mg) (hb:s₁.heap.Ns builtinsNs mb) (hbb:∀x:Str,x≠"__name__"->mb x=bootBuiltins x) (hlim:s₁.heap.NoLimit) (hg:s₁.gens = #[])
  (ha:s₁.heap.get? a=some {cls:=.type "list",data:=.seq vs.toArray}) (hi:IntsAre vs ns) (hl:ns.length<=sizeLine) (hr:bG k callerA)
  (F:∀base:Heap,K.In base->base.Ns mainGlobals mg->ca P w K mg base CX k fa fd [x] sp) (hbind:∀(s:Shared) (u:Value),BindsTo s fd ⟨[u],[]⟩ [(x,u)])
  (hsp:∀H:Hp,B3 H->iZ K H a (ns.map V.int)->sp [.ref a] H (fun v _=>v=.bl true) fun _ _ _=>False)
  (hCX:∀H e s',CX [] H s₁ (fun _ _ _=>False) e s'->False) :
  codeAny (model P w) callerA (.call (.ref fa) ⟨[.ref a],[]⟩) (fun r s'=>r=.ok (.ret (.bool true))/\OldK s₁.heap s'.heap/\s'.os=s₁.os/\AllBare s'.gens) s₁:=by
 have rv:=dG hi;have lenV:=hi.length
 have core:∀H:Hp,B3 H->iZ K H a (ns.map V.int)->ig P w H s₁.heap->(∀b,H b≠none->b=a)->(H a≠none->K.lookup a=none) ->
   codeAny (model P w) callerA (.call (.ref fa) ⟨[.ref a],[]⟩) (fun r s'=>r=.ok (.ret (.bool true))/\OldK s₁.heap s'.heap/\s'.os=s₁.os/\AllBare s'.gens) s₁:=by
  intro H hOz hS hok hA hK;have base_of:∀{b:Addr} {o:Obj},s₁.heap.get? b=some o->H b=none->(rc s₁.heap H).get? b=some o:=fun e n=>Bi e n
  have noA:∀{b:Addr} {o:Obj} {es:Array DictEntry} {ep:Nat},s₁.heap.get? b=some o->o.data=.dict es ep->H b=none:=fun {b o es ep} e d=>by
   cases q:H b with
   |none=>rfl
   |some u =>
    have e':b=a:=hA b (by rw [q];simp);subst e';rw [ha] at e;cases e;have d':Data.seq vs.toArray _=Data.dict es ep:=d;cases d'
  have nsK:∀{b:Addr} {m:Td},s₁.heap.Ns b m->(rc s₁.heap H).Ns b m:=fun {b m} ⟨o,es,ep,e,d,r⟩=>⟨o,es,ep,base_of e (noA e d),d,r⟩
  have hKb:K.In (rc s₁.heap H):=fun b o e=>base_of (KX b o e) (by
   cases q:H b with
   |none=>rfl
   |some u =>
    have e':b=a:=hA b (by rw [q];simp);subst e'
    rw [hK (by rw [q];simp)] at e;cases e)
  have hM:Mod K mg (rc s₁.heap H):=⟨hKb,nsK hns,⟨mb,nsK hb,hbb⟩,let ⟨mc,h1,h2⟩:=hlim;⟨mc,nsK h1,h2⟩⟩;have e0:v4 P w K mg (rc s₁.heap H) callerA [] s₁ H:=⟨rfl,hM,fun b o e=>Dv e,Nat.le_of_eq (yr _ _),trivial,fun b hb=>absurd (show b∈([]:Tf) from hb) (by simp),hok,.of_eq hg⟩;refine zbf ((F _ hKb (nsK hns)).run callerA [] s₁ H ⟨[.ref a],[]⟩ [.ref a] [.ref a] _ _ hr e0 (hbind s₁ (.ref a)) (.cons rfl .nil) (hsp H hOz hS)) fun r s' h=>?_
  cases r with
  |error e=>exact (hCX H e s' h).elim
  |ok fl =>
   cases fl with
   |next=>exact False.elim h
   |brk=>exact False.elim h
   |cont=>exact False.elim h
   |ret u =>
    obtain ⟨v,H',os,bare,un,hok',r',q⟩:=h;have q':v=.bl true:=q;subst q';obtain rfl:u=Value.bool true:=r';refine ⟨rfl,OldK.of_keep fun b o e=>?_,os,bare⟩
    cases q:H b with
    |none=>exact un.keep b o e q (by intro z;exact absurd (show b∈([]:Tf) from z) (by simp)) (by simp)
    |some u =>
     rcases hOz b with z|⟨ob,xs,z⟩
     ·rw [q] at z;cases z
     ·have z2:=un.frzs b ob _ z
      obtain ⟨e1,_⟩:=hok b _ z;obtain ⟨e2,_⟩:=hok' b _ z2;rw [e] at e1;cases e1;exact e2
 cases hk:K.lookup a with
 |some o =>
  have e:=KX a o hk;rw [ha] at e;cases e;refine core (fun _=>none) (fun _=>.inl rfl) (.inr ⟨_,vs.toArray,_,hk,rfl,⟨rfl,rfl⟩,rfl,by rw [zaq,lenV];exact hl,by simpa using rv⟩) (fun b u z=>by have z':(none:Option HO)=some u:=z;cases z') (fun b z=>absurd rfl z) fun z=>absurd rfl z
 |none =>
  refine core (fun b=>if b=a then some (.frz {cls:=.type "list",data:=.seq vs.toArray} (.lst (ns.map V.int))) else none) (fun b=>?_) (.inl (.inr ⟨{cls:=.type "list",data:=.seq vs.toArray},if_pos rfl⟩)) (fun b u z=>?_) (fun b z=>?_) fun _=>hk
  ·by_cases hb:b=a
   ·exact .inr ⟨_,_,if_pos hb⟩
   ·exact .inl (if_neg hb)
  ·by_cases hb:b=a
   ·have z':=(if_pos hb).symm.trans z
    cases z';subst hb;exact ⟨ha,by rw [zag];exact hl,vs,_,rv,ha⟩
   ·have z':=(if_neg hb).symm.trans z
    cases z'
  ·by_cases hb:b=a
   ·exact hb
   ·exact absurd (if_neg hb) z
def Cj {l:PySem.W.OpenLaw}{n k:Nat}{q:Program}{loose:Tn}{XP:(Td)->Heap->Prop}{YP:World->Heap->Prop}{d:DefRec}{K:Params->zac}{CX:World->xk}{sp:World->Sp}{x:Str}
  (hn:l.most=some n) (hn2:n<=sizeLine) (hdf:d.params.defaults=[]) (hr:bG k callerA)
  (hY:∀(w:World) (h:Heap),YP w h->(K w.params).In h)
  (F:∀(w:World) (mg:Td) (fa:Addr) (h:Heap),(K w.params).In h->h.Ns mainGlobals mg->mg d.name=some (.ref fa) ->
   ∃fd:FuncData,(∀(s:Shared) (u:Value),BindsTo s fd ⟨[u],[]⟩ [(x,u)]) /\
    ∀base:Heap,(K w.params).In base->base.Ns mainGlobals mg->ca l.prog w (K w.params) mg base (CX w) k fa fd [x] (sp w))
  (hsp:∀(w:World) (H:Hp) (a:Addr) (ns:Th),ns.length<=n->B3 H->iZ (K w.params) H a (ns.map V.int)->sp w [.ref a] H (fun v _=>v=.bl true) fun _ _ _=>False)
  (hCX:∀(w:World) (H:Hp) (s:Shared) (e:Value) (s':Shared),CX w [] H s (fun _ _ _=>False) e s'->False) :
  PySem.W.WalkO q loose XP YP l.row.toRowW d [] (fun f vs=>PySem.call f vs):=by
 refine Att.attach_call hn hdf fun w s₀ s₁ mg mb fa o pm cd doc a vs ns G Yz ho hd hcd hmg hobj hints hlen hg=>?_;have KX:=hY w _ Yz;obtain ⟨fd,hb,hF⟩:=F w mg fa _ KX G.T.g hmg;exact A3 KX G.T.g G.T.b G.T.builtins G.T.nolimit hg hobj hints (zbe hlen hn2) hr hF hb (fun H hOz hS=>hsp w H a ns hlen hOz hS) fun H e s'=>hCX w H s₁ e s'
def yW {l:PySem.W.OpenLaw}{n k:Nat}{q:Program}{loose:Tn}{XP:(Td)->Heap->Prop}{YP:World->Heap->Prop}{d:DefRec}{K:Params->zac}{CX:xk}{sp:zac->Sp}{x:Str}
  (hn:l.most=some n) (hn2:n<=sizeLine) (hdf:d.params.defaults=[]) (hr:bG k callerA)
  (hY:∀(w:World) (h:Heap),YP w h->(K w.params).In h)
  (F:∀(w:World) (mg:Td) (fa:Addr) (h:Heap),(K w.params).In h->h.Ns mainGlobals mg->mg d.name=some (.ref fa) ->
   ∃fd:FuncData,(∀(s:Shared) (u:Value),BindsTo s fd ⟨[u],[]⟩ [(x,u)]) /\
    ∀base:Heap,(K w.params).In base->base.Ns mainGlobals mg->ca l.prog w (K w.params) mg base CX k fa fd [x] (sp (K w.params)))
  (hsp:∀(K:zac) (H:Hp) (a:Addr) (ns:Th),ns.length<=n->B3 H->iZ K H a (ns.map V.int)->sp K [.ref a] H (fun v _=>v=.bl true) fun _ _ _=>False)
  (hCX:∀(H:Hp) (s:Shared) (e:Value) (s':Shared),CX [] H s (fun _ _ _=>False) e s'->False) :
  PySem.W.WalkO q loose XP YP l.row.toRowW d [] (fun f vs=>PySem.call f vs) :=
 Cj (K:=K) (CX:=fun _=>CX) (sp:=fun w=>sp (K w.params)) hn hn2 hdf hr hY F (fun w H a ns h1 h2 h3=>hsp (K w.params) H a ns h1 h2 h3) fun _ H s e s'=>hCX H s e s'
def lg (s:Stmt)(j:Nat):Stmt:=match s with
 |.ClassDef _ _ _ body _ _ _ _ _ _ _=>body.getD j (.Pass ⟨0,0,0,0⟩)
 |_=>.Pass ⟨0,0,0,0⟩
def fM (s:Stmt):Arguments:=match s with
 |.FunctionDef _ a _ _ _ _ _ _ _ _=>a
 |_=>{posonlyargs:=[],args:=[],vararg:=none,kwonlyargs:=[],kw_defaults:=[],kwarg:=none,defaults:=[]}
def bm (s:Stmt):Tk:=match s with
 |.FunctionDef _ _ b _ _ _ _ _ _ _=>b
 |_=>[]
def ai (s:Stmt):Scope:=match s with
 |.FunctionDef _ _ _ _ _ _ sc _ _ _=>sc
 |_=>{kind:=.function,names:=[],isGenerator:=false,isCoroutine:=false}
abbrev jN:xk:=fun _ _ _ _ _ _=>False
abbrev E0:XK:=fun _ _ _=>False
def pT:mo jN X E0:=fun _ _ _ _ _ _ _ h=>h.elim
structure nG (K:zac)(x qual:Str)(st:Stmt)(f:Addr)(fd:FuncData):Prop where
 ex:∃(oc:Value) (od:Option Addr) (kV doc pm:Value) (an:Option Addr) (cdv ct:Value) (osl:Array (Tg)),
  fd=PySem.W.fnOf x qual (fM st) (bm st) (ai st) .none kV doc pm an cdv ct/\K.lookup f=some ⟨oc,od,.func fd,osl⟩/\PySem.W.codeIn K cdv qual=true
 kp:PySem.W.keepIn K (.ref f)=true
section
variable {P:Program}{w:World}{K:zac}{mg:Td}{base:Heap}
def nG.ok {x qual:Str}{st:Stmt}{f:Addr}{fd:FuncData}{N ps:Tn}{k:Nat}{sp:Sp}(F:nG K x qual st f fd)(S:ax N ps (ai st))(len:∀vs H Q E,sp vs H Q E->vs.length=ps.length)
  (hbody:∀(cdv:Value) (A:Around) (outer:List Env) (s:Shared) (H:Hp) (vs:List V) (Q:VK) (E:XK),bG k (A.deeper (envOfC qual (ai st) s.heap.objs.size f cdv))->sp vs H Q E ->
   ∃t,m8 (iX jN P w K mg base N qual (ai st) f cdv A outer s H E).nox (bm st) t/\t {nx:=fun _ H'=>Q .non H',rt:=Q} (eM N vs) H):ca P w K mg base jN (k+1) f fd ps sp:=by
 obtain ⟨oc,od,kV,doc,pm,an,cdv,ct,osl,rfl,lk,hcd⟩:=F.ex;refine LC lk hcd S len fun A outer s H vs Q E hr hsp=>?_;obtain ⟨t,h,q⟩:=hbody cdv A outer s H vs Q E hr hsp;exact ⟨t,h.nox,q⟩
def nG.binds {x qual:Str}{st:Stmt}{f:Addr}{fd:FuncData}{ps:Tn}(F:nG K x qual st f fd)
  (h:∀(kV doc pm:Value) (an:Option Addr) (cdv ct:Value) (us:Te),us.length=ps.length->bindArgs (PySem.W.fnOf x qual (fM st) (bm st) (ai st) .none kV doc pm an cdv ct) ⟨us,[]⟩=pure (ps.zip us)):fq K fd ps []:=by
 obtain ⟨oc,od,kV,doc,pm,an,cdv,ct,osl,rfl,lk,hcd⟩:=F.ex;exact .all (h kV doc pm an cdv ct)
def vE {x qual:Str}{st:Stmt}{f:Addr}{oc:Value}{od an:Option Addr}{osl:Array (Tg)}{kV doc pm cdv ct:Value}(l:K.lookup f=some ⟨oc,od,.func (PySem.W.fnOf x qual (fM st) (bm st) (ai st) .none kV doc pm an cdv ct),osl⟩)
  (c:PySem.W.codeIn K cdv qual=true) (k:PySem.W.keepIn K (.ref f)=true):nG K x qual st f (PySem.W.fnOf x qual (fM st) (bm st) (ai st) .none kV doc pm an cdv ct):=⟨⟨oc,od,kV,doc,pm,an,cdv,ct,osl,rfl,l,c⟩,k⟩
end
end L2
namespace HS
theorem BX (xs:Array Nat)(j:Nat)(hs:xs.toList.Pairwise (· < ·)):∀(fuel lo hi:Nat),hi - lo<=fuel->lo<=hi->hi<=xs.size ->
  (∀i (h:i < xs.size),i < lo->xs[i] < j)->(∀i (h:i < xs.size),hi<=i->j<=xs[i]) ->
  SetTable.below.go xs j fuel lo hi<=xs.size/\(∀i (h:i < xs.size),i < SetTable.below.go xs j fuel lo hi->xs[i] < j)/\(∀i (h:i < xs.size),SetTable.below.go xs j fuel lo hi<=i->j<=xs[i]):=by
 intro fuel
 have mono:∀i k (hi:i < xs.size) (hk:k < xs.size),i<=k->xs[i]<=xs[k]:=fun i k hi hk h=>by
  rcases zcW i k with h|h
  ·have:=zbQ.mp hs i k (by simpa using hi) (by simpa using hk) h
   simp at this;omega
  ·have:i=k:=by omega
   subst this;omega
 induction fuel with
 |zero =>
  intro lo hi hf hle hsz h1 h2
  have:lo=hi:=by omega
  subst this;exact ⟨hsz,h1,h2⟩
 |succ fuel ih =>
  intro lo hi hf hle hsz h1 h2;unfold SetTable.below.go
  by_cases hlt:lo < hi
  ·rw [if_pos hlt]
   dsimp only
   have hm:(lo+hi) / 2 < xs.size:=by omega
   have hg:xs.getD ((lo+hi) / 2) j=xs[(lo+hi) / 2]:=by simp [Array.getD,hm]
   rw [hg];split
   ·rename_i hc
    exact ih _ _ (by omega) (by omega) hsz (fun i h hi'=>Nat.lt_of_le_of_lt (mono i _ h hm (by omega)) hc) h2
   ·rename_i hc
    exact ih _ _ (by omega) (by omega) (by omega) h1 (fun i h hi'=>zbe (by omega) (mono _ i hm h hi'))
  ·rw [if_neg hlt]
   have:lo=hi:=by omega
   subst this;exact ⟨hsz,h1,h2⟩
def uq {xs:Array Nat}(j:Nat)(hs:xs.toList.Pairwise (· < ·)) :
  SetTable.below xs j<=xs.size/\(∀i (h:i < xs.size),i < SetTable.below xs j->xs[i] < j)/\(∀i (h:i < xs.size),SetTable.below xs j<=i->j<=xs[i]) :=
 BX xs j hs xs.size 0 xs.size (by omega) (by omega) (by omega) (fun _ _ h=>by omega) (fun _ h h'=>by omega)
def qm (t:SetTable):Prop:=t.plain=true->t.place.toList.Pairwise (· < ·)
def q8 {xs:Array Nat}{j:Nat}(hs:xs.toList.Pairwise (· < ·))(hn:xs[SetTable.below xs j]?≠some j):(insertAt xs (SetTable.below xs j) j).toList.Pairwise (· < ·):=by
 obtain ⟨b1,b2,b3⟩:=uq j hs;rw [toList_insertAt];generalize SetTable.below xs j=p at *;rw [List.pairwise_append];refine ⟨hs.sublist (List.take_sublist _ _),zaQ.mpr ⟨fun y hy=>?_,hs.sublist (List.drop_sublist _ _)⟩,fun x hx y hy=>?_⟩
 ·obtain ⟨i,hi,rfl⟩:=zcI.mp hy;simp only [zcA,za4] at hi;rw [List.getElem_drop,zcf];have h1:=b3 (p+i) (by omega) (by omega);rcases Nat.lt_or_eq_of_le h1 with h|h
  ·exact h
  ·exfalso;rcases Nat.eq_zero_or_pos i with rfl|hi0
   ·exact hn (by rw [zat (by omega)];simp only [Nat.add_zero] at h;rw [←h])
   ·have h2:=b3 p (by omega) (by omega);have h3:=zbQ.mp hs p (p+i) (by simp;omega) (by simp;omega) (by omega);simp only [zcf] at h3;omega
 ·obtain ⟨i,hi,rfl⟩:=zcI.mp hx;simp only [zbU,za4] at hi;rw [List.getElem_take,zcf];have h1:=b2 i (by omega) (by omega);rcases zaj.mp hy with rfl|hy
  ·exact h1
  ·obtain ⟨k,hk,rfl⟩:=zcI.mp hy;simp only [zcA,za4] at hk;rw [List.getElem_drop,zcf];have:=b3 (p+k) (by omega) (by omega);omega
theorem oq (t:SetTable)(hashAt:Nat->Int)(h:Int):∀(fuel:Nat) (p:Probe),(∀d,p.dummy=some d->t.place[SetTable.below t.place d]?≠some d) ->
  ∀j dm,probe.go t hashAt h fuel p=some (.empty j dm)->t.place[SetTable.below t.place j]?≠some j/\∀d,dm=some d->t.place[SetTable.below t.place d]?≠some d
 |0,_,_,_,_,e=>by simp [probe.go] at e
 |fuel+1,p,hp,j,dm,e=>by
  unfold probe.go at e
  have adv:∀q:Probe,(t.advance q).dummy=q.dummy:=fun q=>by
   unfold advance;split <;> rfl
  split at e
  ·rename_i hs
   cases e;refine ⟨?_,hp⟩;intro hq;unfold SetTable.slot at hs;simp [hq] at hs
  ·rename_i hs
   refine oq t hashAt h fuel _ (fun d hd=>?_) j dm e;rw [adv] at hd;cases hd;intro hq;unfold SetTable.slot at hs;simp [hq] at hs
  ·split at e
   ·cases e
   ·exact oq t hashAt h fuel _ (fun d hd=>hp d (by rwa [adv] at hd)) j dm e
def pH {t:SetTable}{h:Int}{j:Nat}{b:Bool}(e:t.freeSlot h=some (j,b)):t.place[SetTable.below t.place j]?≠some j:=by
 unfold freeSlot at e;split at e
 ·rename_i j' dm hp
  cases e;obtain ⟨h1,h2⟩:=oq t _ h _ _ (by intro d hd;simp [probeStart] at hd) _ _ hp
  cases dm with
  |none=>exact h1
  |some d=>exact h2 d rfl
 ·cases e
def eF (t:SetTable)(n:Nat):qm (t.standIn n):=fun h=>by simp [standIn] at h
def qU {t:SetTable}(es:Array (Int×Value))(h:Int)(x:Value)(r:qm t):qm (layNew t es h x).2.1/\(layNew t es h x).2.1.led=t.led:=by
 unfold layNew;split
 ·rename_i slot wd hf;dsimp only;unfold orStandIn;split
  ·refine ⟨fun hp=>?_,rfl⟩;exact q8 (r hp) (pH hf)
  ·exact ⟨eF _ _,rfl⟩
 ·exact ⟨eF _ _,rfl⟩
def ko {mask finger moves:Nat}{led plain:Bool}{hs:Array Int}{t':SetTable}{o:Array Nat}(e:laid mask finger moves led plain hs=some (t',o)):t'.place.toList.Pairwise (· < ·)/\t'.led=led:=by
 unfold laid at e;simp only [bind,Option.bind,pure] at e;split at e
 ·cases e
 ·cases e;refine ⟨?_,rfl⟩;rw [zbP,List.pairwise_filterMap];refine List.Pairwise.imp ?_ (List.pairwise_lt_range);intro a b hab x hx y hy;simp only [zaK] at hx hy;obtain ⟨_,_,rfl⟩:=hx;obtain ⟨_,_,rfl⟩:=hy;exact hab
def n8 (t:SetTable)(es:Array (Int×Value))(wanted:Nat):qm (relayAll t es wanted).2.1/\(relayAll t es wanted).2.1.led=t.led:=by
 unfold relayAll;split
 ·rename_i t' order h;dsimp only;split
  ·exact ⟨fun _=>(ko h).1,(ko h).2⟩
  ·exact ⟨eF _ _,rfl⟩
 ·exact ⟨eF _ _,rfl⟩
open PyProof.Rows
def val (e:Int×Value):Int:=match e.2 with|.int n _=>n|_=>0
def Ja (e:Int×Value):Prop:=∃n t,e=(hashInt n,.int n t)
structure cH (led:Bool)(es:Array (Int×Value))(t:SetTable)(xs:Th):Prop where
 el:∀e∈es.toList,Ja e
 pm:(es.toList.map val).Perm xs
 nd:xs.Nodup
 bd:es.size < scanBound
 ft:t.fits es.size=true
 rs:qm t
 ld:t.led=led
structure m6 (led:Bool)(es:Array (Int×Value))(t:SetTable):Prop where
 bd:es.size < scanBound
 ft:t.fits es.size=true
 rs:qm t
 ld:t.led=led
def cH.w {led:Bool}{es:Array (Int×Value)}{t:SetTable}{xs:Th}(g:cH led es t xs):m6 led es t:=⟨g.bd,g.ft,g.rs,g.ld⟩
def cO (led:Bool)(o:Obj)(xs:Th):Prop:=∃es ep t,o.ExactSet/\o.data=.set es ep t/\cH led es t xs
def cO.len {led:Bool}{es:Array (Int×Value)}{t:SetTable}{xs:Th}(g:cH led es t xs):es.size=xs.length:=by have:=g.pm.length_eq;simpa using this
def FX {prog:Program}{l:List (Int×Value)}(h:∀e∈l,Ja e):ElemsOf (intKind prog w) l:=fun e he=>by obtain ⟨n,t,rfl⟩:=h e he;exact ⟨⟨n,intKind_is _ _ _ _,rfl⟩,rfl⟩
def Bc {prog:Program}{e:Int×Value}(h:Ja e)(k:Int):(intKind prog w).is k e.2=true ↔ val e=k:=by obtain ⟨n,t,rfl⟩:=h;simp [intKind,Value.isInt,val]
section
variable {prog:Program}{w:World}{A:Around}{E:Tb}{s:Shared}
def cj (xs:Th)(k:Int):Th:=if k∈xs then xs else xs++[k]
def ot {xs:Th}{k:Int}(h:xs.Nodup):(cj xs k).Nodup:=by
 unfold cj;split
 ·exact h
 ·rename_i hk;rw [zbd];exact ⟨h,by simp,fun a ha b hb=>by simp at hb;subst hb;exact fun e=>hk (e ▸ ha)⟩
def dP {a:Addr}{o:Obj}{es es':Array (Int×Value)}{ep:Nat}{t t':SetTable}{Q:Unit->Shared->Prop}(ho:s.heap.get? a=some o)(hx:o.ExactSet)(hd:o.data=.set es ep t)
  (hb:es'.size < scanBound)
  (h:∀h',Heap.SameBut a s.heap h'->h'.get? a=some {o with data:=.set es' (ep+1) t'}->Q () {s with heap:=h'}):wpAny (model prog w) A (storeSet a es' t') Q E s:=by
 refine wpAny_storeSet_of ho hd (h _ (Heap.SameBut.update s.heap a _) ?_) (fits_of_scanBound hb);have q:=zaP (Obj.putSet es' t') ho (by rw [putSet_of es' t' hd];rfl)
 rwa [putSet_of es' t' hd] at q
def wT {g:Bool->Sem Unit}(hg:g=fun b=>match b with|true=>rule "set.scan.the-table-gave-way" | false=>pure ()){b:Bool}{Q:Unit->Shared->Prop}(h:Q () s):wpAny (model prog w) A (g b) Q E s:=by
 subst hg;cases b
 ·exact zad h
 ·exact zbN h
theorem B1 {a:Addr}{led:Bool}{o:Obj}{xs:Th}{k:Int}{tk:Tok}{Q:Bool->Shared->Prop}(ho:s.heap.get? a=some o)(hS:cO led o xs)(hroom:xs.length+1 < scanBound)
  (h:∀h' o' b,Heap.SameBut a s.heap h'->h'.get? a=some o'->cO led o' (cj xs k)->Q b {s with heap:=h'}) :
  wpAny (model prog w) A (setAddHashed a (.int k tk) (hashInt k)) Q E s:=by
 obtain ⟨es,ep,t,hx,hd,G⟩:=hS;have hlen:=cO.len G;unfold setAddHashed setAddHashedIn;refine zaH (zaa (zaz ho hd G.ft ?_));dsimp only;rw [byScan_of (knd:=intKind prog w) (x:=.int k tk) rfl G.bd (FX G.el),if_pos rfl];unfold setAddByScan;refine zaa (zaa (zbN (zaa ?_)));refine wpAny_setScan_of (knd:=intKind prog w) (k:=k) (intKind_is _ _ _ _) ho hd G.ft (FX G.el) ?_
 cases hr:List.findIdx? (fun e=>(intKind prog w).is k e.2) es.toList with
 |some j =>
  obtain ⟨hj,hpj,_⟩:=List.findIdx?_eq_some_iff_getElem.mp hr
  have hin:k∈xs:=by
   refine G.pm.mem_iff.mp (zaS.mpr ⟨_,zbs hj,?_⟩);exact (Bc (G.el _ (zbs hj)) k).mp hpj
  dsimp only;refine zad (zad ?_);have:=h s.heap o false (Heap.SameBut.refl a s.heap) ho
  unfold cj at this
  rw [if_pos hin] at this
  have e:s={s with heap:=s.heap}:=by cases s;rfl
  rw [e];exact this ⟨es,ep,t,hx,hd,G⟩
 |none =>
  have hout:k∉xs:=fun hk=>by
   obtain ⟨e,he,hv⟩:=zaS.mp (G.pm.mem_iff.mpr hk);have:=List.findIdx?_eq_none_iff.mp hr e he;rw [(Bc (G.el e he) k).mpr hv] at this;cases this
  dsimp only;have p1:=layNew_perm t es (hashInt k) (.int k tk);have f1:=layNew_fits t es (hashInt k) (.int k tk);have r1:=qU es (hashInt k) (.int k tk) G.rs;generalize hL:layNew t es (hashInt k) (.int k tk)=L at p1 f1 r1;obtain ⟨es1,t1,wd,gv⟩:=L;have hL':layNew t es ((intKind prog w).hash k) (.int k tk)=(es1,t1,wd,gv):=hL
  try rw [hL']
  dsimp only at p1 f1 r1 ⊢;rw [Array.toList_push] at p1
  have G1:cH led es1 t1 (cj xs k):=by
   have hm:(es1.toList.map val).Perm (xs++[k]):=by
    refine (p1.map val).trans ?_;rw [zaT];exact G.pm.append (List.Perm.refl _)
   have hsz:es1.size=xs.length+1:=by have:=hm.length_eq;simpa using this
   refine ⟨fun e he=>?_,?_,ot G.nd,by omega,f1,r1.1,r1.2.trans G.ld⟩
   ·rcases zaY.mp (p1.mem_iff.mp he) with he|he
    ·exact G.el e he
    ·rw [zav] at he;exact ⟨k,tk,he⟩
   ·unfold cj;rw [if_neg hout];exact hm
  refine zaa (wT rfl ?_)
  have tail:∀t2,t2=t1->wpAny (model prog w) A (do
    storeSet a es1 t2
    if (!wd && t2.tooFull)=true then do
      (match (relayAll t2 es1 (grown es1.size)).2.2 with|true=>rule "set.scan.the-table-gave-way" | false=>pure ())
      storeSet a (relayAll t2 es1 (grown es1.size)).1 (relayAll t2 es1 (grown es1.size)).2.1
      pure (some true)
     else pure (some true)) (fun r s'=>wpAny (model prog w) A (match r with|some added=>pure added|none=>setAddHashedIn a (.int k tk) ((intKind prog w).hash k) 99999) Q E s') E s:=by
   intro t2 ht2;subst ht2;refine zaa (dP ho hx hd G1.bd fun h1 b1 g1=>?_);split
   ·have p2:=relayAll_perm t2 es1 (grown es1.size)
    have f2:=relayAll_fits t2 es1 (grown es1.size);have r2:=n8 t2 es1 (grown es1.size);generalize relayAll t2 es1 (grown es1.size)=Rl at p2 f2 r2 ⊢;obtain ⟨es2,t3,gv2⟩:=Rl;dsimp only at p2 f2 r2 ⊢
    have hsz:es2.size=es1.size:=by have:=p2.length_eq;simpa using this
    refine zaa (wT (g:=fun b=>match b with|true=>rule "set.scan.the-table-gave-way" | false=>pure ()) rfl ?_);refine zaa (dP (s:={s with heap:=h1}) g1 hx rfl (by rw [hsz];exact G1.bd) fun h2 b2 g2=>zad (zad ?_));refine h h2 _ true (b1.trans b2) g2 ⟨es2,_,t3,hx,rfl,fun e he=>G1.el e (p2.mem_iff.mp he),(p2.map val).trans G1.pm,G1.nd,by rw [hsz];exact G1.bd,f2,r2.1,r2.2.trans G1.ld⟩
   ·exact zad (zad (h h1 _ true b1 g1 ⟨es1,_,t2,hx,rfl,G1⟩))
  split
  ·refine zaa ?_
   rw [hashByValue_scannable 8 (x:=.int k tk) rfl];exact zad (tail _ rfl)
  ·exact zaa (zad (tail _ rfl))
end
def su:isSubtype (.type "tuple") (.type "set")=pure false:=by rw [isSubtype_type];kernel_rfl
def sv:isSubtype (.type "tuple") (.type "frozenset")=pure false:=by rw [isSubtype_type];kernel_rfl
def ou (xs:Th)(k:Int):(cj xs k).length<=xs.length+1:=by unfold cj;split <;> simp
def aG (xs:Th)(ns:Th):Th:=ns.foldl cj xs
abbrev aO (led:Bool):Obj:={cls:=.type "set",dict:=none,data:=.set #[] 0 (.fresh 0 0 led)}
def iG (led:Bool):cO led (aO led) [] :=
 ⟨#[],0,_,⟨rfl,rfl,rfl⟩,rfl,⟨fun _ h=>by simp at h,List.Perm.refl _,zcu,by decide,by rfl,fun _=>List.Pairwise.nil,rfl⟩⟩
section
variable {prog:Program}{w:World}{A:Around}{R:Result->Shared->Prop}{I:Addr}{fp wr:Tf}{G:Array GenState->Array GenState->Prop}{n:Nat}{P:Nat->Value->Prop}{St:Nat->Shared->Prop}
theorem mt (W:WalksS prog w A.in1 I fp wr G n P St)(S:Addr)(hSf:S∉fp){led:Bool}(ms:Th)(hms:ms.length=n)(hval:∀i v,P i v->∃t,v=.int (ms.getD i 0) t) :
  ∀(k i:Nat) (s:Shared) (o:Obj) (xs:Th),n - i=k->i<=n->St i s->s.heap.get? S=some o->cO led o xs->xs.length+k+1 < scanBound ->
   (∀s' o',Moved (S::wr) G s s'->s'.heap.get? S=some o'->cO led o' (aG xs (ms.drop i))->R (.ok (.ret .none)) s') ->
   codeAny (model prog w) A (.builtin "set.update.loop" ⟨[.ref S,.ref I],[]⟩) R s:=by
 have nw:S∉wr:=fun h=>hSf (W.sub _ h);have up:∀b∈wr,b∈S::wr:=fun b hb=>zan _ hb;intro k
 induction k with
 |zero =>
  intro i s o xs hk hi hst ho hS hb hR
  have hin:i=n:=by omega
  subst hin;refine zaU F.entry_set_update_loop ?_;rw [zaV F.plain_set_update_loop _];refine (show wpAny _ A.in1 (pyNext (.ref I) >>= _) _ _ s from zaa (W.done s _ _ hst fun s' hm=>?_));refine (show wpAny _ A.in1 (ret Value.none) _ _ s' from zad (hR s' o (hm.mono up) (hm.heap S _ nw ho) ?_));rw [zcz (by omega)];exact hS
 |succ k ih =>
  intro i s o xs hk hi hst ho hS hb hR
  have hlt:i < n:=by omega
  refine zaU F.entry_set_update_loop ?_;rw [zaV F.plain_set_update_loop _];refine (show wpAny _ A.in1 (pyNext (.ref I) >>= _) _ _ s from zaa (W.item i s _ _ hlt hst fun v s' hP hst' hm=>?_));obtain ⟨t,rfl⟩:=hval i v hP;have ho':=hm.heap S _ nw ho;refine (show wpAny _ A.in1 (holding [Value.int (ms.getD i 0) t] (setAdd S (.int (ms.getD i 0) t)) >>= _) _ _ s' from zaa (zaH ?_));unfold setAdd;refine zaH (zaa ((intKind prog w).pyHash (k:=ms.getD i 0) (intKind_is _ _ _ _) ?_));refine B1 (s:={s' with toks:=s'.toks+1}) ho' hS (by omega) fun h' o' _ hsb ho2 hS2=>?_
  have hdrop:ms.drop i=ms.getD i 0::ms.drop (i+1):=by
   have hl:i < ms.length:=by omega
   rw [zbb hl];simp [List.getD,hl]
  refine zad ⟨zbu F.plain_set_update_loop _,ih (i+1) _ o' _ (by omega) hlt (W.frame _ s' _ _ hst' (zbT _) fun b hb o e=>?_) ho2 hS2 (by have:=ou xs (ms.getD i 0);omega) fun s2 o2 hm2 q2 g2=>?_⟩
  ·rw [hsb.2 b (fun h:b=S=>hSf (h ▸ hb))];exact e
  ·refine hR s2 o2 (Moved.trans W.gtrans ((hm.mono up).then_heap (zbT _) fun b o hb e=>?_) hm2) q2 (by rw [hdrop];exact g2)
   rw [hsb.2 b (fun h:b=S=>hb (by rw [h];exact zao))];exact e
end
section
variable {prog:Program}{w:World}{A:Around}{E:Tb}{s:Shared}
def AQ (a:Value){Q₁:Tb}(h:Q₁ (.ref s.heap.objs.size) {s with heap:=s.heap.push (aO (!w.params.followText "set-order"))}) :
  codeAny (model prog w) A (.call (.builtin "set.__new__") ⟨[.type "set",a],[]⟩) (wants Q₁ E) s:=by
 refine zb1 (show wpAny _ A.in1 (do checkBuiltinCall "set.__new__" ⟨[.type "set",a],[]⟩;again (.builtin "set.__new__" ⟨[.type "set",a],[]⟩)) _ _ s from ?_);refine zaa (zcP (F.newCall_set_1 a) (zad ⟨zbu F.plain_set_new _,zaU F.entry_set_new ?_⟩));rw [zaV F.plain_set_new _];have hsub:=sub_set_self;unfold Builtin.«set.__new__» Builtin.Frozenset.newClass;obtain ⟨hp,g,d,tk,os⟩:=s;dsimp only;wp_walk;refine zbl (zad ?_);dsimp only;simp only [newObj];exact zaa (wpAny_alloc (zad (zad h)))
set_option maxHeartbeats 3200000 in
theorem CC {l:Addr}{its:Ti}{ns:Th}{Q:Tb}
  (hh:A.handled=none) (hl:s.heap.IsTuple l its) (hi:IntsAre its.toList ns) (hb:its.size+1 < scanBound)
  (h:∀(h':Heap) (tk:Nat) (o:Obj),h'.get? s.heap.objs.size=some o->cO (!w.params.followText "set-order") o (aG [] ns) ->
   (∀b o,s.heap.get? b=some o->h'.get? b=some o)->s.toks<=tk->Q (.ref s.heap.objs.size) {s with heap:=h',toks:=tk}) :
  wpAny (model prog w) A (call (.type "set") [.ref l]) Q E s:=by
 obtain ⟨c,tl,hmro⟩:=F.called_set.mro;have hmade:=F.called_set.made;have hsub:=F.called_set.sub;refine zcH (zb1 (show wpAny _ _ (callAny (.type "set") _) _ _ _ from ?_));refine zad ⟨Code.quiet_builtin _ (by decide),zaU F.entry_type_call ?_⟩;rw [zcr (weight_type_call_type "set" [.ref l] []) rfl];have h1:=F.called_set.notType;have h2:=F.called_set.canCreate;have hct:=F.typeCall_set_1 (.ref l)
 repeat (any_goals (first|assumption|wp_step))
 refine zbf (AQ (.ref l) (E:=E) (Q₁:=fun obj s₁=>obj=.ref s.heap.objs.size/\s₁={s with heap:=s.heap.push (aO (!w.params.followText "set-order"))}) ⟨rfl,rfl⟩) fun r s₁ hr=>?_;generalize hled:(!w.params.followText "set-order")=led at *
 cases r with
 |error e=>exact hr
 |ok fl =>
  cases fl with
  |ret obj =>
   obtain ⟨rfl,rfl⟩:=hr;have hS:(s.heap.push (aO led)).get? s.heap.objs.size=some (aO led):=zak _ rfl;have hT:Shared.TypeIs {s with heap:=s.heap.push (aO led)} (.ref s.heap.objs.size) "set":=⟨_,hS,rfl⟩;have hli:=F.called_set.init.lookup;have hbi:=F.called_set.init.bind (.ref s.heap.objs.size)
   repeat (any_goals (first|assumption|wp_step))
   refine zbf (zbR (R:=wants (fun r s₂=>r=.none/\∃h' tk o,s₂={s with heap:=h',toks:=tk}/\h'.get? s.heap.objs.size=some o/\cO led o (aG [] ns) /\
     (∀b o,s.heap.get? b=some o->h'.get? b=some o)/\s.toks<=tk) E) F.called_set.init.plain F.entry_set_init (check_set_init_1 hT ?_)) fun r₂ s₂ hr2=>?_
   ·obtain ⟨ol,hol,hcl,nl,hdl⟩:=hl
    obtain ⟨ocls,odict,odata,oslots⟩:=ol;simp only at hcl hdl;subst hcl;subst hdl;have hol':(s.heap.push (aO led)).get? l=some {cls:=.type "tuple",dict:=odict,data:=.seq its nl,slots:=oslots}:=zae _ hol;have hs1:=su;have hs2:=sv
    have hne:(Value.type "tuple" == Value.type "dict")=false:=by decide
    have hl1:(s.heap.push (aO led)).IsTuple l its:=⟨_,hol',rfl,nl,rfl⟩;unfold Builtin.«set.__init__» noKeywords Builtin.Frozenset.updateFrom;generalize hPI:pyIter=PI
    wp_walk;subst hPI
    refine wpAny_pyIter_tuple hl1 (zaa (zcN ?_));have hlS:l < s.heap.objs.size:=zah hol
    have hh3:A.in1.in1.in1.handled=none:=by simp [hh]
    have hneI:l≠(s.heap.push (aO led)).objs.size:=by rw [zaZ];exact zam (zbn hlS)
    have hSf:s.heap.objs.size∉[(s.heap.push (aO led)).objs.size,l]:=by
     rw [zaZ];simp only [zaj,zaI,or_false,not_or];exact ⟨zam (zbM _),za0 hlS⟩
    refine mt ((Walks.tuple hh3 _ l hneI its).toS) s.heap.objs.size hSf (led:=led) ns (by have:=IntsAre.length hi;simpa using this.symm)
     (fun i v hv=>IntsAre.int_at hi i v (by rw [zbq];exact hv)) (its.size - 0) 0 _ (aO led) [] (by omega) (zba _)
     ⟨⟨_,zak _ rfl,rfl,rfl⟩,(hl1.at fun o e=>zae _ e)⟩ (zae _ hS) (iG led) (by simpa using hb) fun s' o' hm ho' hS'=>?_
    obtain ⟨h',g',d',tk',os'⟩:=s';have eg:g'=s.gens:=hm.gens;have ed:d'=s.drawn:=hm.drawn;have eo:os'=s.os:=hm.os;subst eg;subst ed;subst eo;refine (show wpAny _ _ _ _ _ _ from zad (show wpAny _ _ (ret Value.none) _ _ _ from zad ⟨rfl,h',tk',o',rfl,ho',hS',fun b o e=>?_,hm.toks⟩));have hbs:=zah e;refine hm.heap b o ?_ (zae _ (zae _ e));rw [zaZ];simp only [zaj,zaI,or_false,not_or];exact ⟨zam hbs,zam (zbn hbs)⟩
   ·cases r₂ with
    |error e=>exact hr2
    |ok fl₂ =>
     cases fl₂ with
     |ret r =>
      obtain ⟨rfl,h',tk,o,rfl,ho,hS',hk',ht⟩:=hr2
      repeat (any_goals (first|assumption|wp_step))
      exact h _ _ o ho hS' hk' ht
     |_=>exact hr2.elim
  |_=>exact hr.elim
end
def bc:Slot "set_iterator" "__next__" "set_iterator.__next__":=by
 refine .of (owner:="set_iterator") (n:="__next__") ?_ (by decide) (by decide) (by decide) ?_ ?_
 ·rw [zcn,zbO];kernel_rfl
 ·first|exact .inl (by decide)|exact .inr (by decide)
 ·rw [isSubtype_type];kernel_rfl
def eK:entryFor table "set_iterator.__next__" = some Builtin.«set_iterator.__next__»:=entryFor_of_tree (by kernel_rfl)
def fN (a:Value):argsOk "set_iterator.__next__" ⟨[a],[]⟩:=by unfold argsOk;kernel_rfl
def rF:entryFor table "set.__iter__" = some Builtin.«frozenset.__iter__» :=
 entryFor_alias (id':="frozenset.__iter__") (by kernel_rfl) (by first|rfl|decide) (by decide) (by kernel_rfl)
theorem kD {Z:Type}:∀{l:List Z} {i:Nat} (h:i < l.length),(l[i]::l.eraseIdx i).Perm l
 |x::xs,0,_=>by simp
 |x::xs,i+1,h=>by simp only [List.getElem_cons_succ,List.eraseIdx_cons_succ];exact (List.Perm.swap _ _ _).trans ((kD (by simpa using h)).cons x)
section
variable {Z:Type}{M:Model}{A:Around}{E:Tb}{s:Shared}
def yI {src:Source}{n:Nat}{Q:Nat->Shared->Prop}(hn:0 < n)(h:∀i d,i < n->Q i {s with drawn:=d}):wpAny M A (choose src n) Q E s :=
 fun _ _ _=>⟨Nat.pos_iff_ne_zero.mp hn,h _ _ (Nat.mod_lt _ hn)⟩
theorem Eb (n:Nat):∀(xs:List Z) (s:Shared) (Q:List Z->Shared->Prop),xs.length=n->(∀ys d,ys.Perm xs->Q ys {s with drawn:=d})->wpAny M A (drawOrder n xs) Q E s:=by
 induction n with
 |zero =>
  intro xs s Q hl h;have e:xs=[]:=zcv.mp hl;subst e;exact zad (h [] s.drawn (List.Perm.refl _))
 |succ n ih =>
  intro xs s Q hl h
  cases xs with
  |nil=>cases hl
  |cons x xs =>
   unfold drawOrder;refine zaa (yI (by simp) fun i d hi=>?_);rw [zap hi];dsimp only;refine zaa (ih _ _ _ (by rw [List.length_eraseIdx_of_lt hi];simp at hl;simp;omega) fun ys d' hp=>zad ?_);exact h _ d' ((hp.cons _).trans (kD hi))
end
abbrev bt (w:World):Bool:=w.params.followText "set-order"
def jk (f:Value)(i:Nat)(a:Addr)(n ep:Nat):Obj:={cls:=.type "set_iterator",data:=.fields #[f,.int i 0,.ref a,.int n 0,.int ep 0]}
def Bb {s:Shared}{I:Addr}{f:Value}{i:Nat}{a:Addr}{n ep:Nat}(h:s.heap.get? I=some (jk f i a n ep)):s.TypeIs (.ref I) "set_iterator":=⟨_,h,rfl⟩
def BY {t:SetTable}(r:t.place.toList.Pairwise (· < ·))(i:Nat)(hi:i<=t.place.size):SetTable.below t.place (if h:0 < i then t.place[i - 1]'(by omega)+1 else 0)=i:=by
 obtain ⟨b1,b2,b3⟩:=uq (if h:0 < i then t.place[i - 1]'(by omega)+1 else 0) r;generalize hB:SetTable.below t.place (if h:0 < i then t.place[i - 1]'(by omega)+1 else 0)=B at *;have lt:∀(x y:Nat) (hx:x < t.place.size) (hy:y < t.place.size),x < y->t.place[x] < t.place[y]:=fun x y hx hy hxy=>by have:=zbQ.mp r x y (by simpa using hx) (by simpa using hy) hxy;simpa using this
 rcases Nat.lt_trichotomy B i with h|h|h
 ·exfalso;have hp:0 < i:=by omega
  simp only [hp,dite_true] at b3;have h1:=b3 B (by omega) (zal _);rcases zcW B (i - 1) with h2|h2
  ·have:=lt B (i - 1) (by omega) (by omega) h2;omega
  ·have:B=i - 1:=by omega
   subst this;omega
 ·exact h
 ·exfalso;have h1:=b2 i (by omega) h;by_cases hp:0 < i
  ·simp only [hp,dite_true] at h1;have:=lt (i - 1) i (by omega) (by omega) (by omega);omega
  ·simp only [hp,dite_false] at h1;omega
section
variable {prog:Program}{w:World}{A:Around}{E:Tb}{s:Shared}
def vb {led:Bool}{a:Addr}{o:Obj}{es:Array (Int×Value)}{ep:Nat}{t:SetTable}{i:Nat}{Q:Option (Value×Nat)->Shared->Prop}(hb:bt w=false)(hl:led=true)
  (ho:s.heap.get? a=some o) (hd:o.data=.set es ep t) (G:m6 led es t) (hdr:(!t.plain && decide (es.size > 1))=false) (hi:i<=es.size) (hp:t.place.size=es.size)
  (h:Q (if hlt:i < es.size then some (es[i].2,t.place[i]+1) else none) s) :
  wpAny (model prog w) A (setNext a (if h:0 < i then t.place[i - 1]'(by omega)+1 else 0) i ep) Q E s:=by
 have r:t.place.toList.Pairwise (· < ·):=by
  cases hpl:t.plain with
  |true=>exact G.rs hpl
  |false =>
   have h1:¬ es.size > 1:=by simpa [hpl] using hdr
   have:t.place.toList.length<=1:=by simp;omega
   match hq:t.place.toList,this with
   |[],_=>exact List.Pairwise.nil
   |[x],_=>exact zcw _ _
 unfold setNext;refine zaa (zaz ho hd G.ft ?_);dsimp only;unfold setsByText;refine zaa (zaa (zbl (zad ?_)));dsimp only;rw [show ((model prog w).w.params.followText "set-order")=false from hb];simp only [zar,↓reduceIte];split
 ·rename_i hc
  have:(!t.plain && decide (es.size > 1))=true:=hc;rw [hdr] at this;cases this
 ·refine zaa (show wpAny _ _ (if (!t.led && !es.isEmpty)=true then unsupported "set:maker-not-led" else pure ()) _ _ _ from ?_)
  rw [if_neg (by rw [G.ld,hl];simp)];refine zad ?_;rw [BY r i (by omega)];refine zad ?_
  by_cases hlt:i < es.size
  ·have h2:i < t.place.size:=by omega
   rw [dif_pos hlt] at h;rw [zat hlt,zat h2];exact h
  ·rw [dif_neg hlt] at h
   rw [zb6 (by omega)];exact h
theorem wD {Z:Type}(nx:Nat->Nat):∀(fuel k:Nat) (left:List Z) (out:Array Z),left.length=fuel->(pickOrder.go nx fuel k left out).toList.Perm (out.toList++left)
 |0,k,[],out,_=>by unfold pickOrder.go;simp
 |fuel+1,k,x::xs,out,hl=>by unfold pickOrder.go;have hlt:nx k % (x::xs).length < (x::xs).length:=Nat.mod_lt _ (by simp);generalize nx k % (x::xs).length=j at hlt;rw [zap hlt];dsimp only;refine (wD nx fuel (k+1) _ _ (by rw [List.length_eraseIdx_of_lt hlt];simp at hl;simp;omega)).trans ?_;rw [Array.toList_push,zaW];exact (List.Perm.refl _).append (kD hlt)
def lL {Z:Type}(nx:Nat->Nat)(xs:Array Z):(pickOrder nx xs).toList.Perm xs.toList:=by have:=wD nx xs.size 0 xs.toList #[] (by simp);simpa [pickOrder] using this
def xS {led:Bool}{a:Addr}{o:Obj}{es:Array (Int×Value)}{ep:Nat}{t:SetTable}{sl i:Nat}{Q:Option (Value×Nat)->Shared->Prop}(hb:bt w=true)
  (ho:s.heap.get? a=some o) (hd:o.data=.set es ep t) (G:m6 led es t)
  (h:Q (((pickOrder (w.params.setOrder a ep) es)[i]?).map fun e=>(e.2,sl)) s) :
  wpAny (model prog w) A (setNext a sl i ep) Q E s:=by
 unfold setNext;refine zaa (zaz ho hd G.ft ?_);dsimp only;unfold setsByText;refine zaa (zaa (zbl (zad ?_)));dsimp only;rw [show ((model prog w).w.params.followText "set-order")=true from hb];simp only [bne_self_eq_false,zar,↓reduceIte];unfold setWalk setsByText;refine zaa (zaa (zaz ho hd G.ft (zaa (zaa (zbl (zad ?_))))));dsimp only;rw [show ((model prog w).w.params.followText "set-order")=true from hb];simp only [↓reduceIte];refine zaa (zbl (zad (zad ?_)));exact h
end
section
variable {prog:Program}{w:World}{A:Around}{E:Tb}{s:Shared}
def xc {M:Model}{E:Tb}{s:Shared}{A:Around}{Q:Fin->Shared->Prop}(hh:A.handled=none)
  (h:∀h' a,(∀b o,s.heap.get? b=some o->h'.get? b=some o)->Shared.TypeIs {s with heap:=h'} (.ref a) "StopIteration"->E (.ref a) {s with heap:=h'}) :
  wpAny M A (newExc (.type "StopIteration") [] >>= fun e=>raiseNew e) Q E s:=by
 refine zaa ?_;simp only [newExc,newTuple];refine zaa (zaE ?_ (by size_fits));refine zaa (m:=firstArgMember _ _) (zcP (a:=Value.none) (by first|rfl|(simp only [firstArgMember];rfl)) ?_);refine zaE ?_ (by size_fits);simp only [raiseNew];refine zaa (wpAny_handled ?_);rw [hh];refine zaa (zad (wpAny_throw (h _ _ (fun b o e=>zae _ (zae _ e)) ?_)));exact ⟨_,zak _ rfl,rfl⟩
theorem DI {led:Bool}{I a:Addr}{o:Obj}{es:Array (Int×Value)}{ep:Nat}{t:SetTable}{i sl sl':Nat}{x:Value}{Q:Option Value->Shared->Prop}
  (hI:s.heap.get? I=some (jk (.int sl 0) i a es.size ep)) (ho:s.heap.get? a=some o) (hd:o.data=.set es ep t) (G:m6 led es t)
  (hnx:∀A' E' (Q':Option (Value×Nat)->Shared->Prop),Q' (some (x,sl')) s->wpAny (model prog w) A' (setNext a sl i ep) Q' E' s)
  (h:∀h',h'.get? I=some (jk (.int sl' 0) (i+1) a es.size ep)->Heap.SameBut I s.heap h'->Q (some x) {s with heap:=h'}):wpAny (model prog w) A (pyNext (.ref I)) Q E s:=by
 unfold pyNext;refine zaa (zbG (zaX (name:=Str.ofString "__next__") (Bb hI) bc (zaG bc (Bb hI) eK ?_ (fN _))));unfold Builtin.«set_iterator.__next__»;refine zaa (show wpAny _ _ (pure (Value.ref I,([]:Te))) _ _ _ from zad ?_);refine zaa (zbg hI rfl ?_);dsimp only;unfold setEntries;refine zaa (zaa (zaz ho hd G.ft (zad ?_)));dsimp only;rw [if_neg (by simp)];refine zaa (show wpAny _ _ (setNext a sl i ep) _ _ _ from hnx _ _ _ ?_);dsimp only;refine zaa (zbA hI rfl (by simp) ?_);have h1:=zaP (Obj.mapFields (·.setIfInBounds 0 (rawInt (sl':Int)))) hI rfl;refine zaa (zbA (s:={s with heap:=_}) h1 rfl (by simp) ?_);have h2:=zaP (Obj.mapFields (·.setIfInBounds 1 (rawInt ((i:Int)+1)))) h1 rfl;refine zad ⟨x,rfl,zad (h _ (h2.trans ?_) ((Heap.SameBut.update ..).trans (Heap.SameBut.update ..)))⟩;rfl
def Io {led:Bool}{I a:Addr}{o:Obj}{es:Array (Int×Value)}{ep:Nat}{t:SetTable}{i sl:Nat}{Q:Option Value->Shared->Prop}(hh:A.handled=none)
  (hI:s.heap.get? I=some (jk (.int sl 0) i a es.size ep)) (ho:s.heap.get? a=some o) (hd:o.data=.set es ep t) (G:m6 led es t)
  (hnx:∀A' E' (Q':Option (Value×Nat)->Shared->Prop),Q' none s->wpAny (model prog w) A' (setNext a sl i ep) Q' E' s)
  (h:∀h',(∀b o,b∉[I]->s.heap.get? b=some o->h'.get? b=some o)->Q none {s with heap:=h'}):wpAny (model prog w) A (pyNext (.ref I)) Q E s:=by
 unfold pyNext;refine zaa (zbG (zaX (name:=Str.ofString "__next__") (Bb hI) bc (zaG bc (Bb hI) eK ?_ (fN _))));unfold Builtin.«set_iterator.__next__»;refine zaa (show wpAny _ _ (pure (Value.ref I,([]:Te))) _ _ _ from zad ?_);refine zaa (zbg hI rfl ?_);dsimp only;unfold setEntries;refine zaa (zaa (zaz ho hd G.ft (zad ?_)));dsimp only;rw [if_neg (by simp)];refine zaa (show wpAny _ _ (setNext a sl i ep) _ _ _ from hnx _ _ _ ?_);dsimp only;refine zaa (zbA hI rfl (by simp) ?_);refine xc (show A.in1.handled=none from hh) fun h' b kp hT=>?_;refine zaa (zbt (T:="StopIteration") (b:=true) hT isSubtype_stop ?_);exact zad (h _ fun b o hb e=>kp b o (by rw [zaC _ _ (fun q:I=b=>hb (by simp [q]))];exact e))
def Ba {led:Bool}{I a tp:Addr}{o:Obj}{es:Array (Int×Value)}{ep:Nat}{t:SetTable}{i:Nat}{pl:List Nat}{x:Int×Value}{p:Nat}{Q:Option Value->Shared->Prop}
  (hI:s.heap.get? I=some (jk (.ref tp) i a es.size ep)) (htp:s.heap.get? tp=some {cls:=.type "tuple",data:=.seq (pl.map fun i:Nat=>rawInt i).toArray})
  (ho:s.heap.get? a=some o) (hd:o.data=.set es ep t) (G:m6 led es t) (hp:pl[i]?=some p) (hx:es[p]?=some x)
  (h:∀h',h'.get? I=some (jk (.ref tp) (i+1) a es.size ep)->Heap.SameBut I s.heap h'->Q (some x.2) {s with heap:=h'}):wpAny (model prog w) A (pyNext (.ref I)) Q E s:=by
 unfold pyNext;refine zaa (zbG (zaX (name:=Str.ofString "__next__") (Bb hI) bc (zaG bc (Bb hI) eK ?_ (fN _))));unfold Builtin.«set_iterator.__next__»;refine zaa (show wpAny _ _ (pure (Value.ref I,([]:Te))) _ _ _ from zad ?_);refine zaa (zbg hI rfl ?_);dsimp only;unfold setEntries;refine zaa (zaa (zaz ho hd G.ft (zad ?_)));dsimp only;rw [if_neg (by simp)];refine zaa (zcO htp rfl ?_);dsimp only
 have hq:(pl.map fun i:Nat=>rawInt i).toArray[((i:Nat):Int).toNat]?=some (.int p 0):=by simp [hp,rawInt]
 rw [hq];dsimp only;unfold setNextDrawn;refine zaa (zaa (zaz ho hd G.ft ?_));dsimp only;rw [if_neg (by simp)];simp only [zbc,hx];refine zad (zaa (zbA hI rfl (by simp) ?_));have h1:=zaP (Obj.mapFields (·.setIfInBounds 1 (rawInt ((i:Int)+1)))) hI rfl;exact zad ⟨x.2,rfl,zad (h _ (h1.trans rfl) (Heap.SameBut.update ..))⟩
def DJ {led:Bool}{I a tp:Addr}{o:Obj}{es:Array (Int×Value)}{ep:Nat}{t:SetTable}{i:Nat}{pl:List Nat}{Q:Option Value->Shared->Prop}(hh:A.handled=none)
  (hI:s.heap.get? I=some (jk (.ref tp) i a es.size ep)) (htp:s.heap.get? tp=some {cls:=.type "tuple",data:=.seq (pl.map fun i:Nat=>rawInt i).toArray})
  (ho:s.heap.get? a=some o) (hd:o.data=.set es ep t) (G:m6 led es t) (hp:pl.length<=i)
  (h:∀h',(∀b o,b∉[I]->s.heap.get? b=some o->h'.get? b=some o)->Q none {s with heap:=h'}):wpAny (model prog w) A (pyNext (.ref I)) Q E s:=by
 unfold pyNext;refine zaa (zbG (zaX (name:=Str.ofString "__next__") (Bb hI) bc (zaG bc (Bb hI) eK ?_ (fN _))));unfold Builtin.«set_iterator.__next__»;refine zaa (show wpAny _ _ (pure (Value.ref I,([]:Te))) _ _ _ from zad ?_);refine zaa (zbg hI rfl ?_);dsimp only;unfold setEntries;refine zaa (zaa (zaz ho hd G.ft (zad ?_)));dsimp only;rw [if_neg (by simp)];refine zaa (zcO htp rfl ?_);dsimp only
 have hq:(pl.map fun i:Nat=>rawInt i).toArray[((i:Nat):Int).toNat]?=none:=by simp;omega
 rw [hq];dsimp only;refine zaa (zbA hI rfl (by simp) ?_);have h1:=zaP (Obj.mapFields (·.setIfInBounds 0 (rawInt 0))) hI rfl;refine zaa (zbA (s:={s with heap:=_}) h1 rfl (by simp) ?_);refine xc (show A.in1.handled=none from hh) fun h' b kp hT=>?_;refine zaa (zbt (T:="StopIteration") (b:=true) hT isSubtype_stop ?_);refine zad (h _ fun b o hb e=>kp b o ?_);have ne:I≠b:=fun q=>hb (by simp [q]);rw [zaC _ _ ne,zaC _ _ ne];exact e
end
def kS:Slot "set_iterator" "__iter__" "set_iterator.__iter__":=by
 refine .of (owner:="set_iterator") (n:="__iter__") ?_ (by decide) (by decide) (by decide) ?_ ?_
 ·rw [zcn,zbO];kernel_rfl
 ·first|exact .inl (by decide)|exact .inr (by decide)
 ·rw [isSubtype_type];kernel_rfl
def rV (a:Value):argsOk "set_iterator.__iter__" ⟨[a],[]⟩:=by unfold argsOk;kernel_rfl
def pI:entryFor table "set_iterator.__iter__" = some Builtin.«dict_keyiterator.__iter__» :=
 entryFor_alias (id':="dict_keyiterator.__iter__") (by kernel_rfl) (by first|rfl|decide) (by decide) (by kernel_rfl)
section
variable {prog:Program}{w:World}{A:Around}{E:Tb}{s:Shared}
def wn {I:Addr}{f:Value}{i:Nat}{a:Addr}{n ep:Nat}{Q:Tb}(hI:s.heap.get? I=some (jk f i a n ep))(h:Q (.ref I) s):wpAny (model prog w) A (pyIter (.ref I)) Q E s:=by refine zcb (Bb hI) kS (zaG kS (Bb hI) pI ?_ (rV _));exact (show wpAny _ _ (ret (.ref I)) _ _ s from zad ⟨_,rfl,"set_iterator",_,Bb hI,bc.lookup,h⟩)
end
variable  {prog:Program}{w:World}
abbrev Jj (ord:List (Int×Value))(i:Nat)(x:Value):Prop:=(ord[i]?).map (·.2)=some x
def yV {A:Around}(hh:A.handled=none){led:Bool}{I a:Addr}(hne:a≠I){o:Obj}{es:Array (Int×Value)}{ep:Nat}{t:SetTable}(hd:o.data=.set es ep t)(G:m6 led es t)
  (ord:List (Int×Value)) (hl:ord.length=es.size) (sl:Nat->Nat)
  (hnx:∀i (s:Shared) A' E' (Q':Option (Value×Nat)->Shared->Prop),i<=es.size->s.heap.get? a=some o->Q' ((ord[i]?).map fun e=>(e.2,sl (i+1))) s->wpAny (model prog w) A' (setNext a (sl i) i ep) Q' E' s) :
  Walks prog w A I [I,a] [I] ord.length (Jj ord) (fun i h=>h.get? I=some (jk (.int (sl i) 0) i a es.size ep)/\h.get? a=some o) where
 sub:=fun b hb=>by simp at hb;simp [hb]
 frame:=fun _ _ _ st hk=>⟨hk I (by simp) _ st.1,hk a (by simp) _ st.2⟩
 item:=fun i s Q E hi st hQ=>by
  have hx:ord[i]?=some ord[i]:=zap hi;refine DI (x:=ord[i].2) (sl':=sl (i+1)) st.1 st.2 hd G (fun A' E' Q' q=>hnx i s A' E' Q' (by omega) st.2 (by rw [hx];exact q)) fun h' hI' hs=>?_;refine hQ _ h' s.toks (by simp [Jj,hx]) ⟨hI',hs.extBut a o hne st.2⟩ fun b o hb e=>hs.extBut b o (fun h=>hb (by simp [h])) e
 done:=fun s Q E st hQ=>by
  refine Io hh st.1 st.2 hd G (fun A' E' Q' q=>hnx _ s A' E' Q' (by omega) st.2 (by rw [zcd (by omega)];exact q)) fun h' hk=>hQ h' s.toks hk
 self:=fun _ _ _ _ st hQ=>wn st.1 hQ
def F8 {A:Around}(hh:A.handled=none){led:Bool}{I a tp:Addr}(hne:a≠I)(hnt:tp≠I){o:Obj}{es:Array (Int×Value)}{ep:Nat}{t:SetTable}(hd:o.data=.set es ep t)(G:m6 led es t)
  (pl:List Nat) (hpl:∀p∈pl,p < es.size) :
  Walks prog w A I [I,a,tp] [I] pl.length (Jj (pl.filterMap (es[·]?))) (fun i h=>h.get? I=some (jk (.ref tp) i a es.size ep)/\h.get? a=some o/\h.get? tp=some {cls:=.type "tuple",data:=.seq (pl.map fun i:Nat=>rawInt i).toArray}) where
 sub:=fun b hb=>by simp at hb;simp [hb]
 frame:=fun _ _ _ st hk=>⟨hk I (by simp) _ st.1,hk a (by simp) _ st.2.1,hk tp (by simp) _ st.2.2⟩
 item:=fun i s Q E hi st hQ=>by
  have hp:pl[i]?=some pl[i]:=zap hi;have hx:es[pl[i]]?=some (es[pl[i]]'(hpl _ (zbs hi))):=zat _
  have hmap:pl.filterMap (es[·]?)=pl.pmap (fun p h=>es[p]'h) hpl:=by
   clear hQ st hp hx hi
   induction pl with
   |nil=>rfl
   |cons p ps ih=>rw [zbD (b:=es[p]'(hpl p (by simp))) (zat _),ih (fun q hq=>hpl q (by simp [hq]))];rfl
  refine Ba st.1 st.2.2 st.2.1 hd G hp hx fun h' hI' hs=>?_;refine hQ _ h' s.toks ?_ ⟨hI',hs.extBut a o hne st.2.1,hs.extBut tp _ hnt st.2.2⟩ fun b o hb e=>hs.extBut b o (fun h=>hb (by simp [h])) e;rw [hmap];simp [Jj,hp]
 done:=fun s Q E st hQ=>DJ hh st.1 st.2.2 st.2.1 hd G (zal _) fun h' hk=>hQ h' s.toks hk
 self:=fun _ _ _ _ st hQ=>wn st.1 hQ
def jo {es:Array (Int×Value)}{pl:List Nat}(h:pl.Perm (List.range es.size)):(pl.filterMap (es[·]?)).Perm es.toList :=
 (h.filterMap _).trans (by rw [filterMap_getElem?_range])
def vF {es:Array (Int×Value)}{pl:List Nat}(h:pl.Perm (List.range es.size)):(pl.filterMap (es[·]?)).length=pl.length:=by rw [(jo h).length_eq,h.length_eq];simp
def nV (t:SetTable)(i:Nat):Nat:=if h:0 < i/\i<=t.place.size then t.place[i - 1]'(by omega)+1 else 0
section
variable {prog:Program}{w:World}{A:Around}{E:Tb}{s:Shared}
def A9 {a:Addr}{o:Obj}{es:Array (Int×Value)}{ep:Nat}{t:SetTable}{Q:Tb}(ho:s.heap.get? a=some o)(hx:o.ExactSet)(hd:o.data=.set es ep t)(G:m6 (!bt w) es t)
  (h:∀(h':Heap) (d:Drawn) (I:Addr) (fp:Tf) (St:Nat->Heap->Prop) (ord:List (Int×Value)),(∀A',A'.handled=none->Walks prog w A' I fp [I] ord.length (Jj ord) St)->St 0 h'->(∀b∈fp,b=a\/s.heap.objs.size<=b) ->
   (∀b o,s.heap.get? b=some o->h'.get? b=some o)->s.heap.objs.size<=I->ord.Perm es.toList->Q (.ref I) {s with heap:=h',drawn:=d}) :
  wpAny (model prog w) A (pyIter (.ref a)) Q E s:=by
 have hlt:=zah ho;have hT:s.TypeIs (.ref a) "set":=⟨o,ho,hx.1⟩
 have hpz:t.place.size=es.size:=by have:=G.ft;simp [fits] at this;exact this.1
 refine zcb hT F.slot_set_iter (zaG F.slot_set_iter hT rF ?_ (F.args_set_iter_1 _));unfold Builtin.«frozenset.__iter__» Builtin.Frozenset.slot0 Builtin.Frozenset.sizeOf;refine zaa (zaa (show wpAny _ _ (pure (Value.ref a,([]:Te))) _ _ _ from zad (show wpAny _ _ (pure a) _ _ _ from zad ?_)));unfold setEntries;refine zaa (zaa (zaa (zaz ho hd G.ft (zad (zad ?_)))));dsimp only;unfold setDrawn setsByText;refine zaa (zaa (zaz ho hd G.ft (zaa (zaa (zbl (zad (zad ?_)))))));dsimp only;split
 ·rename_i hc
  have hdr:(!bt w && (!t.plain && decide (es.size > 1)))=true:=hc;simp only [zbk] at hdr;refine zaa (Eb es.size (List.range es.size) _ _ (by simp) fun pl d hp=>?_);unfold newTuple;refine zaa (zaE ?_ (show (pl.map fun i:Nat=>rawInt i).toArray.size<=sizeLine by have:=fits_of_scanBound G.bd;rw [zaq,zag,hp.length_eq,List.length_range];exact this));unfold setEpoch;refine zaa (zaa (zaz (zae _ ho) hd G.ft (zad ?_)));unfold newFields;refine zaa (zaE (zad ⟨_,rfl,"set_iterator",_,⟨_,zak _ rfl,rfl⟩,bc.lookup,?_⟩));have hz:(s.heap.push {cls:=.type "tuple",data:=.seq (pl.map fun i:Nat=>rawInt i).toArray}).objs.size=s.heap.objs.size+1:=zaZ ..;refine h _ d _ [_,a,s.heap.objs.size] _ (pl.filterMap (es[·]?)) (fun A' hA=>by rw [vF hp];exact F8 hA (I:=(s.heap.push {cls:=.type "tuple",data:=.seq (pl.map fun i:Nat=>rawInt i).toArray}).objs.size) (tp:=s.heap.objs.size) (by rw [hz];exact zam (zbn hlt)) (by rw [hz];exact zam (zbM _)) hd G pl (fun p hp'=>by simpa using hp.mem_iff.mp hp')) ?_ ?_ ?_ ?_ (jo hp)
  ·exact ⟨zak _ rfl,zae _ (zae _ ho),zae _ (zak _ rfl)⟩
  ·intro b hb
   simp only [zaj,zaI,or_false] at hb;rcases hb with rfl|rfl|rfl
   ·right;rw [hz];exact zbT _
   ·left;rfl
   ·right;exact zal _
  ·exact fun b o e=>zae _ (zae _ e)
  ·rw [hz];exact zbT _
 ·rename_i hc
  have hdr:¬ (!bt w && (!t.plain && decide (es.size > 1)))=true:=hc;refine zaa (zad ?_);unfold setEpoch;refine zaa (zaa (zaz ho hd G.ft (zad ?_)));unfold newFields;refine zaa (zaE (zad ⟨_,rfl,"set_iterator",_,⟨_,zak _ rfl,rfl⟩,bc.lookup,?_⟩));have kp:∀b o,s.heap.get? b=some o->(s.heap.push (jk (.int ((0:Nat):Int) 0) 0 a es.size ep)).get? b=some o:=fun b o e=>zae _ e
  have fpo:∀b∈[s.heap.objs.size,a],b=a\/s.heap.objs.size<=b:=fun b hb=>by
   simp only [zaj,zaI,or_false] at hb;rcases hb with rfl|rfl
   ·right;exact zal _
   ·left;rfl
  cases hb:bt w with
  |true =>
   refine h _ s.drawn _ [s.heap.objs.size,a] _ (pickOrder (w.params.setOrder a ep) es).toList (fun A' hA=>yV hA (zam hlt) hd G _ (by have:=(lL (w.params.setOrder a ep) es).length_eq;simpa using this) (fun _=>0) ?_) ⟨zak _ rfl,kp _ _ ho⟩ fpo kp (zal _) (lL _ _);intro i s' A' E' Q' hi ho' q;exact xS hb ho' hd G (by rw [zbq] at q;exact q)
  |false =>
   rw [hb] at hdr G
   have hdr':(!t.plain && decide (es.size > 1))=false:=by simpa using hdr
   refine h _ s.drawn _ [s.heap.objs.size,a] _ es.toList (fun A' hA=>yV hA (zam hlt) hd G es.toList (by simp) (nV t) ?_) ⟨zak _ rfl,kp _ _ ho⟩ fpo kp (zal _) (List.Perm.refl _);intro i s' A' E' Q' hi ho' q
   have e1:nV t i=(if h:0 < i then t.place[i - 1]'(by omega)+1 else 0):=by
    by_cases h0:0 < i
    ·unfold nV;rw [dif_pos ⟨h0,by omega⟩,dif_pos h0]
    ·unfold nV;rw [dif_neg (fun h=>h0 h.1),dif_neg h0]
   rw [e1];refine vb hb rfl ho' hd G hdr' hi hpz ?_
   by_cases hlt:i < es.size
   ·rw [dif_pos hlt]
    rw [zbq,zat hlt] at q;simp only [zbx] at q;unfold nV at q;rw [dif_pos ⟨by omega,by omega⟩] at q;exact q
   ·rw [dif_neg hlt]
    rw [zcd (by simp;omega)] at q;exact q
theorem Eo {ord:List (Int×Value)}{acc:Ti}(h:ItemsOf (Jj ord) acc ord.length):acc.toList=ord.map (·.2):=by
 refine List.ext_getElem? fun i=>?_;rw [zaB,zbq];rcases zcW i ord.length with hi|hi
 ·have hs:i < acc.size:=by rw [h.1];exact hi
  have:=h.2 i acc[i] (zat hs);rw [zat hs];exact this.symm
 ·rw [zcd hi,zb6 (by rw [h.1];exact hi)];rfl
theorem AG {ord:List (Int×Value)}(h:∀e∈ord,Ja e):IntsAre (ord.map (·.2)) (ord.map val):=by
 induction ord with
 |nil=>exact .nil
 |cons e r ih =>
  obtain ⟨n,t,rfl⟩:=h _ (zao ..);exact .cons n t (ih fun e he=>h e (zan _ he))
def Bh {a : Addr} {Q : Bool -> Shared -> Prop} (hT : s.TypeIs (.ref a) "set") (h : Q false s) : wpAny (model prog w) A (listLengthHint (.ref a)) Q E s := by
  unfold listLengthHint
  refine zaa (zcF hT F.slot_set_len.lookup ?_)
  have hsp : splitId "set.__len__" = some ("set", "__len__") := by decide
  simp only [hsp]
  refine zaa (zbt hT sub_set_self ?_)
  simp only [zbv, zar, ↓reduceIte]
  refine (show wpAny _ _ (do let .ref _ ← typeOf (Value.ref a) | return false
                             let some k ← asInt? (← call (.builtin "len") [.ref a]) | unsupported "internal:len-gave-no-int"
                             return k != 0) _ _ _ from zaa (zbr hT (zad h)))
def yH {a:Addr}{o:Obj}{es:Array (Int×Value)}{ep:Nat}{t:SetTable}{Q:List Value->Shared->Prop}(hh:A.handled=none)(ho:s.heap.get? a=some o)(hx:o.ExactSet)(hd:o.data=.set es ep t)(G:m6 (!bt w) es t)
  (h:∀(ord:List (Int×Value)) (h':Heap) (d:Drawn) (tk:Nat),ord.Perm es.toList->(∀b o,s.heap.get? b=some o->h'.get? b=some o)->s.toks<=tk->s.heap.objs.size<=h'.objs.size->Q (ord.map (·.2)) {s with heap:=h',drawn:=d,toks:=tk}) :
  wpAny (model prog w) A (collect (.ref a)) Q E s:=by
 have hlt:=zah ho;unfold collect;refine zaa (zcN (zaU F.entry_proto_collect ?_));rw [zaV F.plain_proto_collect _];refine (show wpAny _ A.in1 (newList [] >>= fun l=>again (.builtin "list.__iadd__" ⟨[l,.ref a],[]⟩)) _ _ s from zaa (zaE ?_));refine zad ⟨zbu F.plain_list_iadd _,zaU F.entry_list_iadd ?_⟩;rw [zaV F.plain_list_iadd _];refine (show wpAny _ A.in1 (listExtendWith (.ref s.heap.objs.size) (.ref a) (.ref s.heap.objs.size)) _ _ _ from ?_);unfold listExtendWith;have ho1:(s.heap.push {cls:=.type "list",data:=.seq ([]:Te).toArray}).get? a=some o:=zae _ ho;have hT:Shared.TypeIs {s with heap:=s.heap.push {cls:=.type "list",data:=.seq ([]:Te).toArray}} (.ref a) "set":=⟨o,ho1,hx.1⟩;refine zaa (zbr hT ?_)
 have h1:listSameRef (.ref s.heap.objs.size) (.ref a)=false:=by simp [listSameRef,za0 hlt]
 simp only [h1,show (Value.type "set" == Value.type "list")=false by decide,show (Value.type "set" == Value.type "tuple")=false by decide,Bool.or_false,zar,if_false];refine zaa (A9 ho1 hx hd G fun h1 d I fp St ord W st hfp kp hI hord=>?_);have hTa:Shared.TypeIs {s with heap:=h1,drawn:=d} (.ref a) "set":=⟨o,kp _ _ ho1,hx.1⟩;refine zaa (zaH (Bh hTa ?_))
 refine (show wpAny _ A.in1 (rule "list.extend.makes-room" >>= fun _=>listTouch (.ref s.heap.objs.size) >>= fun _ =>
  again (.builtin "list.extend.loop" ⟨[.ref s.heap.objs.size,.ref I,.ref s.heap.objs.size],[]⟩)) _ _ _ from zaa (zbN (zaa ?_)))
 have hL:h1.get? s.heap.objs.size=some {cls:=.type "list",data:=.seq ([]:Te).toArray}:=kp _ _ (zak _ rfl);have hsz:(s.heap.push {cls:=.type "list",data:=.seq ([]:Te).toArray}).objs.size=s.heap.objs.size+1:=zaZ ..
 have hSf:s.heap.objs.size∉fp:=fun hm=>by
  rcases hfp _ hm with e|e
  ·exact zaN _ (e ▸ hlt)
  ·rw [hsz] at e;exact zaN _ e
 refine (show wpAny _ A.in1 (updateSeq s.heap.objs.size (·.push .none) >>= fun _=>updateSeq s.heap.objs.size (·.pop)) _ _ _ from zaa (zcJ hL rfl ?_));have hL2:=zaP (Obj.mapSeq (·.push Value.none)) hL rfl;refine zcJ (s:={s with heap:=_,drawn:=d}) hL2 rfl ?_;have hL3:=zaP (Obj.mapSeq (·.pop)) hL2 rfl
 have oth:∀b o,b≠s.heap.objs.size->h1.get? b=some o->((h1.update s.heap.objs.size (Obj.mapSeq (·.push Value.none))).update s.heap.objs.size (Obj.mapSeq (·.pop))).get? b=some o :=
  fun b o hb e=>(zaC _ _ (Ne.symm hb)).trans ((zaC _ _ (Ne.symm hb)).trans e)
 have W1:=W A.in1 (show A.in1.handled=none from hh)
 have hol:ord.length=es.size:=by have:=hord.length_eq;simpa using this
 refine zad ⟨zbu F.plain_extend_loop _,codeAny_extend_loopS W1.toS (by rw [hol];exact fits_of_scanBound G.bd) _ hSf _ ord.length 0 _ _ _ rfl (zba _)
  (W1.frame 0 h1 _ st fun b hb o e=>oth b o (fun q=>hSf (q ▸ hb)) e) hL3 (ItemsOf.nil _) fun s' acc c hm hS' hacc=>?_⟩
 refine (show wpAny _ A (load s.heap.objs.size >>= _) _ _ s' from zaa (wpAny_load hS' ?_));dsimp only;obtain ⟨h',g',d',tk',os'⟩:=s';have eg:g'=s.gens:=hm.gens;have ed:d'=d:=hm.drawn;have eo:os'=s.os:=hm.os;subst eg;subst ed;subst eo;refine zad ?_;rw [Eo hacc];refine h ord h' d' tk' hord (fun b o e=>hm.heap b o (fun hb=>?_) (oth b o (fun q=>?_) (kp _ _ (zae _ e)))) hm.toks (zbC (zah hS'))
 ·have hb1:=zah e
  simp only [zaj,zaI,or_false] at hb;rcases hb with q|q
  ·exact zaN _ (q ▸ hb1)
  ·rw [hsz,←q] at hI;exact zaN _ (zau hb1 (Nat.le_of_succ_le hI))
 ·exact zaN _ (q ▸ zah e)
def ui {a:Addr}{o:Obj}{xs:Th}{Q:List Value->Shared->Prop}(hh:A.handled=none)(ho:s.heap.get? a=some o)(hS:cO (!bt w) o xs)
  (h:∀(vs:Te) (ns:Th) (h':Heap) (d:Drawn) (tk:Nat),IntsAre vs ns->ns.Perm xs->(∀b o,s.heap.get? b=some o->h'.get? b=some o)->s.toks<=tk->s.heap.objs.size<=h'.objs.size->Q vs {s with heap:=h',drawn:=d,toks:=tk}) :
  wpAny (model prog w) A (collect (.ref a)) Q E s:=by
 obtain ⟨es,ep,t,hx,hd,G⟩:=hS;exact yH hh ho hx hd G.w fun ord h' d tk hord k1 k2 k3=>h _ _ h' d tk (AG fun e he=>G.el e (hord.mem_iff.mp he)) ((hord.map val).trans G.pm) k1 k2 k3
def uT {a:Addr}{o:Obj}{xs:Th}{Q:Tb}(hh:A.handled=none)(ho:s.heap.get? a=some o)(hS:cO (!bt w) o xs)(h64:xs.length < 64)
  (h:∀(out:Ti) (ns:Th) (h':Heap) (d:Drawn) (tk:Nat) (l:Addr) (c:Nat),IntsAre out.toList ns->ns.Perm xs->ns.Pairwise (·<=·)->(∀b o,s.heap.get? b=some o->h'.get? b=some o)->s.toks<=tk ->
   s.heap.objs.size<=l->h'.get? l=some (seqObj "list" out c)->Q (.ref l) {s with heap:=h',drawn:=d,toks:=tk}) :
  wpAny (model prog w) A (call (.builtin "sorted") [.ref a]) Q E s:=by
 refine Calls.call_function_entry kind_sorted plain_sorted entry_sorted (args_sorted1 _) ?_;unfold Builtin.«sorted»;refine zaa (m:=checkCount "sorted" 1 1 _) (zad (zaa (ui (show A.in1.handled=none from hh) ho hS fun vs ns h' d tk hI hp kp ht hge=>?_)))
 have hvl:vs.length=xs.length:=by rw [IntsAre.length hI,hp.length_eq]
 refine zaa (wpAny_newList ?_ (by rw [hvl,zbh];omega));have hoL:(h'.push (seqObj "list" vs.toArray 0)).get? h'.objs.size=some (seqObj "list" vs.toArray 0):=zak _ rfl;refine zaa (zaH (zaG (s:={s with heap:=h'.push (seqObj "list" vs.toArray 0),drawn:=d,toks:=tk}) slot_list_sort ⟨_,hoL,rfl⟩ entry_list_sort (list_sort_tree hoL hI (by omega) fun out ns' a1 a2 a3=>⟨_,rfl,?_⟩) (args_list_sort _)))
 obtain ⟨c,hc⟩:∃c,(sortedHeap (h'.push (seqObj "list" vs.toArray 0)) h'.objs.size vs out).get? h'.objs.size=some (seqObj "list" out c):=by
  unfold sortedHeap;obtain ⟨e1,q1⟩:∃e1,((h'.push (seqObj "list" vs.toArray 0)).update h'.objs.size (Obj.mapSeq fun _=>#[])).get? h'.objs.size=some (seqObj "list" #[] e1):=⟨_,get?_update_seq hoL (fun _=>#[])⟩;exact ⟨_,get?_update_seq (zae _ (zae _ q1)) (fun _=>out)⟩
 refine zad ⟨_,rfl,h out ns' _ d tk h'.objs.size c a1 (a2.trans hp) a3 (fun b o e=>?_) ht hge hc⟩;have hb:=kp b o e;have ne:h'.objs.size≠b:=za0 (zah hb);unfold sortedHeap;rw [zaC _ _ ne];refine zae _ (zae _ ?_);rw [zaC _ _ ne];exact zae _ hb
end
def zD (M i:Nat):Nat:=(i * 5+1) % M
def Ca (M:Nat):Nat->Nat->Nat
 |0,i=>i
 |t+1,i=>Ca M t (zD M i)
theorem nu (M:Nat):∀s t i,Ca M (s+t) i=Ca M t (Ca M s i)
 |0,t,i=>by rw [zcs];rfl
 |s+1,t,i=>by rw [Nat.succ_add];exact nu M s t _
def dX:List Nat:=[7,15,31,63,127,255]
def AH:∀m∈dX,Ca (m+1) (m+1) 0=0:=by decide
def sX:∀m∈dX,∀j < m+1,∃t < m+1,Ca (m+1) t 0=j:=by
 have:∀m∈dX,∀j < m+1,((List.range (m+1)).any fun t=>Ca (m+1) t 0 == j)=true:=by decide
 intro m hm j hj;obtain ⟨t,ht,e⟩:=zcB.mp (this m hm j hj);exact ⟨t,by simpa using ht,by simpa using e⟩
def Do {m:Nat}(hm:m∈dX){i j:Nat}(hi:i < m+1)(hj:j < m+1):∃t < m+1,Ca (m+1) t i=j:=by
 obtain ⟨s,hs,rfl⟩:=sX m hm i hi;obtain ⟨t,ht,rfl⟩:=sX m hm j hj;rcases zcW t s with h|h
 ·refine ⟨m+1 - s+t,by omega,?_⟩;rw [←nu,show s+(m+1 - s+t)=(m+1)+t by omega,nu,AH m hm]
 ·refine ⟨t - s,by omega,?_⟩;rw [←nu,show s+(t - s)=t by omega]
theorem oP (m:Nat)(owner:Array (Option Nat)):∀fuel i p r,layClean.free m owner fuel i p=some r->owner[r]?=some none
 |0,i,p,r,e=>by simp [layClean.free] at e
 |fuel+1,i,p,r,e=>by
  unfold layClean.free at e;split at e
  ·rename_i k hk
   cases e;have:=List.find?_some hk;simp only [Array.getD] at this
   split at this
   ·rename_i hlt;rw [zat hlt];simpa using this
   ·simp at this
  ·exact oP m owner fuel _ _ r e
def j7 (m:Nat):Nat->Nat->Nat->Nat×Nat
 |0,i,p=>(i,p)
 |t+1,i,p=>j7 m t (leap m i p).1 (leap m i p).2
theorem p7 (m:Nat)(owner:Array (Option Nat)):∀fuel i p,layClean.free m owner fuel i p=none->∀t < fuel,owner[(j7 m t i p).1]?≠some none
 |0,i,p,_,t,ht=>by omega
 |fuel+1,i,p,e,t,ht=>by
  unfold layClean.free at e;split at e
  ·cases e
  ·rename_i hk
   cases t with
   |zero =>
    intro hq;have h0:=List.find?_eq_none.mp hk 0 (by have:i<=runEnd m i:=(by unfold runEnd;split <;> omega);simp;omega)
    simp only [j7] at hq;obtain ⟨hlt,hq⟩:=Array.getElem?_eq_some_iff.mp hq;simp [Array.getD,hlt,hq] at h0
   |succ t=>exact p7 m owner fuel _ _ e t (by omega)
theorem zN (m:Nat):∀t i p,(j7 m t i p).2=p / 32 ^ t
 |0,i,p=>by simp [j7]
 |t+1,i,p=>by unfold j7;rw [zN m t];simp only [leap];rw [Nat.div_div_eq_div_mul,Nat.pow_succ,Nat.mul_comm]
theorem sA (m:Nat):∀s t i p,j7 m (s+t) i p=j7 m t (j7 m s i p).1 (j7 m s i p).2
 |0,t,i,p=>by rw [zcs];rfl
 |s+1,t,i,p=>by rw [Nat.succ_add];exact sA m s t _ _
theorem pP (m:Nat):∀t i,(j7 m t i 0).1=Ca (m+1) t i
 |0,i=>rfl
 |t+1,i=>by
  have e:leap m i 0=(zD (m+1) i,0):=by simp [leap,zD]
  unfold j7 Ca;rw [e];exact pP m t _
theorem wo (m:Nat):∀t i p,i < m+1->(j7 m t i p).1 < m+1
 |0,i,p,h=>h
 |t+1,i,p,h=>wo m t _ _ (Nat.mod_lt _ (by omega))
theorem DT {m:Nat}(hm:m∈dX){owner:Array (Option Nat)}(h:Int){j:Nat}(hj:j < m+1)(hf:owner[j]?=some none) :
  ∃r,layClean.free m owner (turns m) (bits h % (m+1)) (bits h)=some r/\owner[r]?=some none:=by
 cases e:layClean.free m owner (turns m) (bits h % (m+1)) (bits h) with
 |some r=>exact ⟨r,rfl,oP m owner _ _ _ r e⟩
 |none =>
  exfalso
  have hn:=p7 m owner _ _ _ e
  have hb:bits h < 2 ^ 64:=by
   unfold bits;have:=zcR h (show (0:Int) < 2 ^ 64 by decide);have:=zc3 h (show (2 ^ 64:Int)≠0 by decide);omega
  have hp:(j7 m 13 (bits h % (m+1)) (bits h)).2=0:=by
   rw [zN];exact Nat.div_eq_of_lt (zcc hb (by decide))
  have hi:(j7 m 13 (bits h % (m+1)) (bits h)).1 < m+1:=wo m _ _ _ (Nat.mod_lt _ (by omega));obtain ⟨t,ht,e⟩:=Do hm hi hj;refine hn (13+t) (by unfold turns;omega) ?_;rw [sA,hp,pP,e];exact hf
def eY (M:Nat)(owner:Array (Option Nat)):List (Nat×Nat):=(List.range M).filterMap fun j=>(owner.getD j none).map (j,·)
theorem wV {Z β:Type}{f g:Z->Option β}:∀{l:List Z},(∀y∈l,g y=f y)->l.filterMap g=l.filterMap f
 |[],_=>rfl
 |x::l,h=>by have ih:=wV (l:=l) fun y hy=>h y (by simp [hy]);simp only [zcj,h x (by simp),ih]
theorem Bp {f g:Nat->Option (Nat×Nat)}{j:Nat}{v:Nat×Nat}(hf:f j=none)(hg:g j=some v)(hx:∀x,x≠j->g x=f x):∀{l:List Nat},l.Nodup->j∈l->(l.filterMap g).Perm (v::l.filterMap f)
 |[],_,h=>by simp at h
 |x::l,hn,h=>by
  obtain ⟨h1,h2⟩:=zaL.mp hn;by_cases e:x=j
  ·subst e;have:l.filterMap g=l.filterMap f:=wV fun y hy=>hx y fun z=>h1 (z ▸ hy);rw [zbD hg,zct hf,this]
  ·have hj:j∈l:=by
    rcases zaj.mp h with q|q
    ·exact absurd q.symm e
    ·exact q
   have ih:=Bp hf hg hx h2 hj
   cases q:f x with
   |none=>rw [zct (by rw [hx x e];exact q),zct q];exact ih
   |some u =>
    rw [zbD (by rw [hx x e];exact q),zbD q];exact (ih.cons u).trans (.swap _ _ _)
theorem AY {M k r:Nat}{owner:Array (Option Nat)}(hs:owner.size=M)(hr:owner[r]?=some none):(eY M (owner.setIfInBounds r (some k))).Perm ((r,k)::eY M owner):=by
 obtain ⟨hlt,hq⟩:=Array.getElem?_eq_some_iff.mp hr;refine Bp (j:=r) (v:=(r,k)) ?_ ?_ ?_ List.nodup_range (zbJ.mpr (by omega))
 ·simp [Array.getD,hlt,hq]
 ·simp [Array.getD,hlt]
 ·intro x hx;simp only [Array.getD,Array.size_setIfInBounds];split
  ·rename_i h;have e:(owner.setIfInBounds r (some k))[x]'(by simpa using h)=owner[x]:=Array.getElem_setIfInBounds_ne _ (Ne.symm hx);exact congrArg _ e
  ·rfl
def xX {M:Nat}{owner:Array (Option Nat)}(hs:owner.size=M)(h:∀j < M,owner[j]?≠some none):(eY M owner).length=M:=by
 have:∀l:List Nat,(∀j∈l,j < M)->(l.filterMap fun j=>(owner.getD j none).map (j,·)).length=l.length:=by
  intro l;induction l with
  |nil=>intro _;rfl
  |cons x l ih =>
   intro hl;have hx:=hl x (by simp);have hlt:x < owner.size:=by omega
   cases q:owner[x] with
   |none=>exact absurd (by rw [zat hlt,q]) (h x hx)
   |some v =>
    rw [zbD (b:=(x,v)) (by simp [Array.getD,hlt,q])];rw [zaD,ih fun j hj=>hl j (by simp [hj]),zaD]
 have:=this (List.range M) (by simp);simpa [eY] using this
theorem wU {m:Nat}(hm:m∈dX):∀(hs:Th) (owner:Array (Option Nat)) (k:Nat),owner.size=m+1->((eY (m+1) owner).map (·.2)).Perm (List.range k)->k+hs.length<=m+1 ->
  ∃owner',(hs.foldl (init:=some (owner,k)) fun acc h=>do
   let (owner,k) ←acc
   let j ←layClean.free m owner (turns m) (bits h % (m+1)) (bits h)
   pure (owner.setIfInBounds j (some k),k+1))=some (owner',k+hs.length)/\owner'.size=m+1/\((eY (m+1) owner').map (·.2)).Perm (List.range (k+hs.length))
 |[],owner,k,h1,h2,h3=>⟨owner,by simp,h1,by simpa using h2⟩
 |h::hs,owner,k,h1,h2,h3=>by
  have hex:∃j,j < m+1/\owner[j]?=some none:=by
   refine Classical.byContradiction fun hc=>?_;have:=xX h1 fun j hj q=>hc ⟨j,hj,q⟩;have h4:=h2.length_eq;simp at h4 h3;omega
  obtain ⟨j,hj,hf⟩:=hex;obtain ⟨r,e,hr⟩:=DT hm h hj hf
  have ih:=wU hm hs (owner.setIfInBounds r (some k)) (k+1) (by simpa using h1) (by
   refine ((AY h1 hr).map (·.2)).trans ?_;rw [zaf,List.range_succ]
   exact (h2.cons k).trans (List.perm_append_singleton k _).symm) (by simp at h3;omega)
  obtain ⟨o',e1,e2,e3⟩:=ih;refine ⟨o',?_,e2,?_⟩
  ·rw [zbi]
   simp only [bind,Option.bind,e,pure];rw [show k+(h::hs).length=k+1+hs.length by simp;omega];exact e1
  ·rw [show k+(h::hs).length=k+1+hs.length by simp;omega];exact e3
theorem BQ {m:Nat}(hm:m∈dX)(hs:Array Int)(hl:hs.size<=m+1):∃owner,layClean m hs=some owner/\owner.size=m+1/\((eY (m+1) owner).map (·.2)).Perm (List.range hs.size):=by
 obtain ⟨o,e1,e2,e3⟩:=wU hm hs.toList (Array.replicate (m+1) none) 0 (by simp) (by
  have:eY (m+1) (Array.replicate (m+1) none)=[]:=by unfold eY;rw [List.filterMap_eq_nil_iff];intro j hj;simp at hj;simp [Array.getD,hj]
  rw [this];exact .refl _) (by simpa using hl)
 refine ⟨o,?_,e2,by simpa using e3⟩;unfold layClean;rw [←Array.foldl_toList,e1];rfl
def DA {m finger moves:Nat}{led plain:Bool}(hm:m∈dX)(hs:Array Int)(hl:hs.size<=m) :
  ∃t o,laid m finger moves led plain hs=some (t,o)/\o.toList.Perm (List.range hs.size)/\t.fits hs.size=true/\t.place.toList.Pairwise (· < ·)/\t.led=led/\t.plain=plain/\t.mask=m/\t.dummies = #[]/\t.place.size=hs.size:=by
 obtain ⟨owner,e,e2,e3⟩:=BQ hm hs (by omega)
 have hlen:(eY (m+1) owner).length=hs.size:=by have:=e3.length_eq;simpa using this
 have hlaid:laid m finger moves led plain hs=some (({mask:=m,place:=((eY (m+1) owner).map (·.1)).toArray,dummies:=#[],finger,led,moves,plain}:SetTable),((eY (m+1) owner).map (·.2)).toArray):=by
  unfold laid;rw [e];rfl
 refine ⟨_,_,hlaid,by simpa using e3,?_,(ko hlaid).1,rfl,rfl,rfl,rfl,by simpa using hlen⟩;simp [fits,SetTable.fill,hlen];omega
def B2:∀n < 256,sizeAbove n - 1∈dX/\n < sizeAbove n/\sizeAbove n<=256:=by decide
def cH.perm {led:Bool}{es:Array (Int×Value)}{t:SetTable}{xs ys:Th}(g:cH led es t xs)(p:xs.Perm ys):cH led es t ys :=
 ⟨g.el,g.pm.trans p,p.nodup_iff.mp g.nd,g.bd,g.ft,g.rs,g.ld⟩
def cH.place {led:Bool}{es:Array (Int×Value)}{t:SetTable}{xs:Th}(g:cH led es t xs):t.place.size=es.size/\t.fill<=t.mask:=by have:=g.ft;simp [fits] at this;exact this
section
variable {prog:Program}{w:World}{A:Around}{E:Tb}{s:Shared}
def tD {led l' plain:Bool}{es:Array (Int×Value)}{t:SetTable}{xs:Th}(G:cH led es t xs){m finger moves:Nat}(hm:m∈dX)(hl:xs.length<=m)(hl':l'=led) :
  ∃t' o,laid m finger moves l' plain (es.map (·.1))=some (t',o)/\cH led (o.filterMap (es[·]?)) t' xs/\(o.filterMap (es[·]?)).size=es.size/\t'.mask=m/\t'.dummies = #[]:=by
 have hz:=cO.len G;obtain ⟨t',o,e,h1,h2,h3,h4,h5,h6,h7,h8⟩:=DA (finger:=finger) (moves:=moves) (led:=l') (plain:=plain) hm (es.map (·.1)) (by rw [Array.size_map];omega);rw [Array.size_map] at h1 h2 h8
 have hp:(o.filterMap (es[·]?)).toList.Perm es.toList:=by rw [Array.toList_filterMap];exact jo h1
 have hsz:(o.filterMap (es[·]?)).size=es.size:=by have:=hp.length_eq;rwa [za4,za4] at this
 exact ⟨t',o,e,⟨fun x hx=>G.el x (hp.mem_iff.mp hx),(hp.map val).trans G.pm,G.nd,by rw [hsz];exact G.bd,by rw [hsz];exact h2,fun _=>h3,h4.trans hl'⟩,hsz,h6,h7⟩
def zT {led:Bool}{a:Addr}{o:Obj}{es:Array (Int×Value)}{ep:Nat}{t:SetTable}{xs:Th}{wanted:Nat}{Q:Unit->Shared->Prop}(ho:s.heap.get? a=some o)(hx:o.ExactSet)(hd:o.data=.set es ep t)(G:cH led es t xs)(hw:wanted < 256)(hl:xs.length<=wanted)
  (h:∀h' es' t',Heap.SameBut a s.heap h'->h'.get? a=some {o with data:=.set es' (ep+1) t'}->cH led es' t' xs->t'.mask∈dX->wanted<=t'.mask->t'.dummies = #[]->Q () {s with heap:=h'}) :
  wpAny (model prog w) A (setRelay a wanted) Q E s:=by
 obtain ⟨m1,m2,m3⟩:=B2 wanted hw;unfold setRelay;refine zaa (zaz ho hd G.ft ?_);dsimp only;rw [if_neg (by rw [zbh];omega)];obtain ⟨t',ord,e,G',hsz,hm,hdm⟩:=tD (l':=t.led) (plain:=t.plain) (finger:=t.finger) (moves:=t.movedTo (sizeAbove wanted - 1)) G m1 (by omega) G.ld;have e':t.relaid (es.map (·.1)) wanted=some (t',ord):=e;rw [e'];refine zaa (show wpAny _ _ (if ((ord.filterMap (es[·]?)).size != es.size)=true then (do unsupported "internal:set-table-lost-an-element";pure (ord.filterMap (es[·]?),t')) else pure (ord.filterMap (es[·]?),t')) _ _ _ from ?_);rw [if_neg (by simp [hsz])];refine zad (dP ho hx hd G'.bd fun h' b1 g1=>?_);exact h h' _ t' b1 g1 G' (by rw [hm];exact m1) (by rw [hm];omega) hdm
def CJ {led:Bool}{a:Addr}{o:Obj}{es:Array (Int×Value)}{ep:Nat}{t:SetTable}{xs:Th}{more:Nat}{Q:Unit->Shared->Prop}(ho:s.heap.get? a=some o)(hx:o.ExactSet)(hd:o.data=.set es ep t)(G:cH led es t xs)(hw:xs.length+more < 128)
  (h:∀h' es' ep' t',Heap.SameBut a s.heap h'->h'.get? a=some {o with data:=.set es' ep' t'}->cH led es' t' xs->((t'=t/\(t.fill+more) * 5 < t.mask * 3)\/(t'.mask∈dX/\xs.length+more<=t'.mask/\t'.dummies = #[]))->Q () {s with heap:=h'}) :
  wpAny (model prog w) A (setRoomFor a more) Q E s:=by
 have hz:=cO.len G;have hpl:=G.place;unfold setRoomFor;refine zaa (zaz ho hd G.ft ?_);dsimp only;unfold roomFor
 by_cases hc:(t.fill+more) * 5 >= t.mask * 3
 ·rw [if_pos hc]
  dsimp only;refine zT ho hx hd G (by omega) (by omega) fun h' es' t' b g G' m1 m2 m3=>h h' es' _ t' b g G' (.inr ⟨m1,by omega,m3⟩)
 ·rw [if_neg hc]
  dsimp only;refine zad ?_
  have e:s={s with heap:=s.heap}:=by cases s;rfl
  have hoo:s.heap.get? a=some {o with data:=.set es ep t}:=by rw [ho];obtain ⟨c1,c2,c3,c4⟩:=o;simp only at hd;subst hd;rfl
  rw [e];exact h s.heap es ep t (Heap.SameBut.refl a s.heap) hoo G (.inl ⟨rfl,by omega⟩)
end
def xM {xs ys:Th}(p:xs.Perm ys)(k:Int):(cj xs k).Perm (cj ys k):=by
 unfold cj;by_cases h:k∈xs
 ·rw [if_pos h,if_pos (p.mem_iff.mp h)];exact p
 ·rw [if_neg h,if_neg (fun q=>h (p.mem_iff.mpr q))];exact p.append (.refl _)
def xL (xs:Th)(a b:Int):(cj (cj xs a) b).Perm (cj (cj xs b) a):=by
 have h1:∀x k,k∈cj xs x ↔ k∈xs\/k=x:=fun x k=>by
  unfold cj;split
  ·rename_i h;exact ⟨.inl,fun q=>q.elim id fun e=>e ▸ h⟩
  ·simp
 by_cases ha:a∈xs
 ·by_cases hb:b∈xs
  ·simp [cj,ha,hb]
  ·simp [cj,ha,hb]
 ·by_cases hb:b∈xs
  ·simp [cj,ha,hb]
  ·by_cases e:a=b
   ·subst e;exact .refl _
   ·have e1:cj (cj xs a) b=xs++([a]++[b]):=by
     have:b∉xs++[a]:=by simp [hb,Ne.symm e]
     rw [show cj xs a=xs++[a] by simp [cj,ha]];unfold cj;rw [if_neg this,zaW]
    have e2:cj (cj xs b) a=xs++([b]++[a]):=by
     have:a∉xs++[b]:=by simp [ha,e]
     rw [show cj xs b=xs++[b] by simp [cj,hb]];unfold cj;rw [if_neg this,zaW]
    rw [e1,e2];exact (List.Perm.refl xs).append (.swap _ _ _)
theorem pY:∀{ns:Th} {xs ys:Th},xs.Perm ys->(aG xs ns).Perm (aG ys ns)
 |[],_,_,p=>p
 |n::ns,_,_,p=>pY (ns:=ns) (xM p n)
theorem AT {ns ms:Th}(p:ns.Perm ms):∀(xs:Th),(aG xs ns).Perm (aG xs ms):=by
 induction p with
 |nil=>exact fun _=>.refl _
 |cons x _ ih=>exact fun xs=>ih _
 |swap x y l=>exact fun xs=>pY (xL xs y x)
 |trans _ _ h1 h2=>exact fun xs=>(h1 xs).trans (h2 xs)
def wK {ns:Th}(h:ns.Nodup):(aG [] ns).Perm ns:=by
 have:∀{es acc:Th},(acc++es).Nodup->aG acc es=acc++es:=by
  intro es;induction es with
  |nil=>intro acc _;simp [aG]
  |cons e es ih =>
   intro acc h;have hn:e∉acc:=fun he=>by rw [zbd] at h;exact h.2.2 e he e (by simp) rfl
   have:=ih (acc:=acc++[e]) (by simpa using h);simp only [aG,zbi,cj,if_neg hn] at this ⊢;rw [this];simp
 rw [this (by simpa using h)];simp
theorem jG:∀(ns xs:Th),(aG xs ns).length<=xs.length+ns.length
 |[],xs=>by simp [aG]
 |n::ns,xs=>by have h1:=jG ns (cj xs n);have h2:=ou xs n;simp only [aG,zbi,zaD] at h1 ⊢;omega
section
variable {prog:Program}{w:World}{A:Around}{E:Tb}{s:Shared}
def DV {led:Bool}{r:Addr}{or oo:Obj}{es eo:Array (Int×Value)}{ep eq:Nat}{ts to:SetTable}{ys:Th}{Q:Unit->Shared->Prop}(hr:s.heap.get? r=some or)(hxr:or.ExactSet)(hdr:or.data=.set es ep ts)(Gr:cH led es ts [])
  (hm:ts.mask∈dX) (hdm:ts.dummies = #[]) (hl:ys.length<=ts.mask) (hdo:oo.data=.set eo eq to) (Go:cH led eo to ys)
  (h:∀h' o',Heap.SameBut r s.heap h'->h'.get? r=some o'->cO led o' ys->Q () {s with heap:=h'}) {k:Sem Unit} :
  wpAny (model prog w) A (match ts.road to with
   |.slotForSlot=>storeSet r eo {to with finger:=ts.finger,led:=ts.led && to.led,moves:=ts.moves,plain:=ts.plain && to.plain}
   |.clean=>do
    let (es,t) ←(do
     let some (t,order):=laid ts.mask ts.finger ts.moves (led:=ts.led && to.led) (plain:=ts.plain && to.plain) (eo.map (·.1))|unsupported "internal:set-table-without-room"
     let es':=order.filterMap (eo[·]?)
     if es'.size != eo.size then unsupported "internal:set-table-lost-an-element"
     pure (es',t):Sem (Array (Int×Value)×SetTable))
    storeSet r es t
   |.oneByOne=>k) Q E s:=by
 have hes:es.size=0:=cO.len Gr
 have hpz:ts.place.size=0:=by rw [Gr.place.1,hes]
 have hfill:ts.fill=0:=by unfold SetTable.fill;rw [hpz,hdm];rfl
 have hled:(ts.led && to.led)=led:=by rw [Gr.ld,Go.ld];simp
 unfold road;rw [hfill];simp only [bne_self_eq_false,zar,if_false]
 by_cases hc:(ts.mask == to.mask && to.dummies.isEmpty)=true
 ·rw [if_pos hc]
  refine dP hr hxr hdr Go.bd fun h' b g=>h h' _ b g ⟨eo,_,_,hxr,rfl,⟨Go.el,Go.pm,Go.nd,Go.bd,Go.ft,fun hp=>?_,hled⟩⟩;simp only [zbk] at hp;exact Go.rs hp.2
 ·rw [if_neg hc]
  dsimp only;obtain ⟨t',ord,e,G',hsz,hm',hdm'⟩:=tD (l':=ts.led && to.led) (plain:=ts.plain && to.plain) (finger:=ts.finger) (moves:=ts.moves) Go hm hl hled;rw [e];dsimp only;rw [if_neg (by simp [hsz])];refine zaa (zad (dP hr hxr hdr G'.bd fun h' b g=>h h' _ b g ⟨_,_,t',hxr,rfl,G'⟩))
def Ak {sets:Tf}{Q:Bool->Shared->Prop}(h:∀a∈sets,∃o es ep t,s.heap.get? a=some o/\o.data=.set es ep t/\t.fits es.size=true/\∀e∈es.toList,Ja e)(hQ:Q true s):wpAny (model prog w) A (setsQuiet sets) Q E s:=by
 unfold setsQuiet;refine zaa (wpAny_forIn_list _ (fun rest b s'=>b=(none,())/\s'=s/\∀a∈rest,a∈sets) _ ?_ ?_ _ _ ⟨rfl,rfl,fun a ha=>ha⟩)
 ·rintro a rest b s' ⟨rfl,rfl,hs⟩;obtain ⟨o,es,ep,t,ho,hd,hf,he⟩:=h a (hs a (by simp));unfold setEntries;refine zaa (zaa (zaz ho hd hf (zad (zaa ?_))));dsimp only;refine forIn_array_ _ (fun rest b s''=>b=(none,())/\s''=s'/\∀e∈rest,Ja e) _ ?_ ?_ _ _ ⟨rfl,rfl,he⟩
  ·rintro e rest' b s'' ⟨rfl,rfl,hE⟩;obtain ⟨n,tk,rfl⟩:=hE e (by simp);exact zad ⟨rfl,rfl,fun e he=>hE e (by simp [he])⟩
  ·rintro b s'' ⟨rfl,rfl,_⟩;exact zad ⟨rfl,rfl,fun a ha=>hs a (by simp [ha])⟩
 ·rintro b s' ⟨rfl,rfl,_⟩;exact zad hQ
theorem xn {led:Bool}(hled:led = !bt w){r o:Addr}(hne:r≠o){or oo:Obj}{es eo:Array (Int×Value)}{ep eq:Nat}{ts to:SetTable}{xs ys:Th}{Q:Array (Int×Value)->Shared->Prop}(hr:s.heap.get? r=some or)(hxr:or.ExactSet)(hdr:or.data=.set es ep ts)(Gr:cH led es ts xs)
  (ho:s.heap.get? o=some oo) (hdo:oo.data=.set eo eq to) (Go:cH led eo to ys)
  (h:∀ord h' o' d,ord.toList.Perm eo.toList->Heap.SameBut r s.heap h'->h'.get? r=some o'->cO led o' xs->Q ord {s with heap:=h',drawn:=d}) :
  wpAny (model prog w) A (setWalkUnseen o [r] (some r)) Q E s:=by
 have hS:cO led or xs:=⟨es,ep,ts,hxr,hdr,Gr⟩;have same:∀(ord:Array (Int×Value)) d,ord.toList.Perm eo.toList->Q ord {s with drawn:=d}:=fun ord d p=>h ord s.heap or d p (Heap.SameBut.refl r s.heap) hr hS;unfold setWalkUnseen;refine zaa (zaz ho hdo Go.ft ?_);dsimp only;unfold setsByText;refine zaa (zaa (zbl (zad ?_)));dsimp only;have hbt:(model prog w).w.params.followText "set-order" = bt w:=rfl;rw [hbt]
 by_cases hc:(bt w || (to.led && to.plain) || decide (eo.size<=1))=true
 ·rw [if_pos hc]
  unfold setWalk setsByText;refine zaa (zaz ho hdo Go.ft ?_);dsimp only;refine zaa (zaa (zbl (zad ?_)));dsimp only;rw [hbt]
  cases hb:bt w with
  |true =>
   simp only [↓reduceIte];exact zaa (zbl (zad (same _ s.drawn (lL _ _))))
  |false =>
   simp only [zar,↓reduceIte];rw [hb] at hc hled;split
   ·rename_i hdr'
    have hdr':(!to.plain && decide (eo.size > 1))=true:=hdr';simp only [zbk,Bool.not_eq_true',decide_eq_true_eq] at hdr'
    exfalso
    simp [hdr'.1] at hc;omega
   ·refine zaa (show wpAny _ _ (if (!to.led && decide (eo.size > 1))=true then unsupported "set:maker-not-led" else pure ()) _ _ _ from ?_)
    rw [if_neg (by rw [Go.ld,hled];simp)];exact zad (zad (same eo s.drawn (.refl _)))
 ·rw [if_neg hc]
  refine zaa (Ak (fun b hb=>?_) ?_)
  ·simp only [zaj,zaI,or_false] at hb
   rcases hb with rfl|rfl
   ·exact ⟨oo,eo,eq,to,ho,hdo,Go.ft,Go.el⟩
   ·exact ⟨or,es,ep,ts,hr,hdr,Gr.ft,Gr.el⟩
  ·simp only [zbv,zar,↓reduceIte]
   refine zaa (zbN (zaa (zaz hr hdr Gr.ft ?_)));dsimp only;split
   ·refine zaa (dP hr hxr hdr Gr.bd fun h' b g=>zad ?_)
    refine h eo h' _ s.drawn (.refl _) b g ⟨es,_,_,hxr,rfl,⟨Gr.el,Gr.pm,Gr.nd,Gr.bd,Gr.ft,fun hp=>?_,by rw [Gr.ld,Go.ld];simp⟩⟩;simp only [zbk] at hp;exact Gr.rs hp.1
   ·exact zad (same eo s.drawn (.refl _))
def tt {led:Bool}(hled:led = !bt w){r o:Addr}(hne:r≠o){or oo:Obj}{es eo:Array (Int×Value)}{ep eq:Nat}{ts to:SetTable}{xs ys:Th}{each:Sem Unit}{Q:Unit->Shared->Prop}(hr:s.heap.get? r=some or)(hxr:or.ExactSet)(hdr:or.data=.set es ep ts)(Gr:cH led es ts xs)
  (hempty:xs=[]->ts.mask∈dX/\ts.dummies = #[])
  (ho:s.heap.get? o=some oo) (hdo:oo.data=.set eo eq to) (Go:cH led eo to ys) (hz:xs.length+ys.length < 128)
  (heach:∀(s':Shared) (Q':Unit->Shared->Prop),s'.heap.get? o=some oo->Q' () s'->wpAny (model prog w) A each Q' E s')
  (h:∀h' o' d,Heap.SameBut r s.heap h'->h'.get? r=some o'->cO led o' (aG xs ys)->Q () {s with heap:=h',drawn:=d}) :
  wpAny (model prog w) A (setMerge r o each) Q E s:=by
 have hyl:=cO.len Go;unfold setMerge;rw [if_neg (by simpa using hne)];refine zaa (zaz ho hdo Go.ft ?_);dsimp only
 by_cases hem:eo.isEmpty=true
 ·rw [if_pos hem]
  have hy:ys=[]:=by
   have:eo.size=0:=by simpa [Array.isEmpty] using hem
   exact zcL (by omega)
  subst hy;exact zad (h s.heap or s.drawn (Heap.SameBut.refl r s.heap) hr ⟨es,ep,ts,hxr,hdr,Gr⟩)
 ·rw [if_neg hem]
  refine zaa (CJ hr hxr hdr Gr (by omega) fun h1 es1 ep1 t1 b1 g1 G1 c1=>?_)
  have ho1:h1.get? o=some oo:=by rw [b1.2 o (Ne.symm hne)];exact ho
  refine zaa (zaz g1 rfl G1.ft ?_);dsimp only
  by_cases hx:xs=[]
  ·subst hx
   have hm:t1.mask∈dX/\t1.dummies = #[]/\ys.length<=t1.mask:=by
    rcases c1 with ⟨rfl,q⟩|⟨m1,m2,m3⟩
    ·obtain ⟨m1,m2⟩:=hempty rfl
     exact ⟨m1,m2,by simp only [hyl] at q;omega⟩
    ·exact ⟨m1,m3,by simpa [hyl] using m2⟩
   refine DV (s:={s with heap:=h1}) g1 hxr rfl G1 hm.1 hm.2.1 hm.2.2 hdo Go fun h2 o2 b2 g2 S2=>?_;obtain ⟨e2,q2,t2,x2,d2,G2⟩:=S2;exact h h2 o2 s.drawn (b1.trans b2) g2 ⟨e2,q2,t2,x2,d2,cH.perm G2 (wK Go.nd).symm⟩
  ·have hfill:(t1.fill != 0)=true:=by
    have h0:0 < xs.length:=zck.mpr hx;have:=G1.place.1;have:=cO.len G1;refine bne_iff_ne.mpr ?_;unfold SetTable.fill;omega
   unfold road;rw [if_pos hfill];dsimp only;refine zaa (xn (s:={s with heap:=h1}) hled hne g1 hxr rfl G1 ho1 hdo Go fun ord h2 o2 d hp b2 g2 S2=>?_)
   have ho2:h2.get? o=some oo:=by rw [b2.2 o (Ne.symm hne)];exact ho1
   refine zaa (forIn_array_ _ (fun rest _ s'=>∃h3 o3 zs,s'={s with heap:=h3,drawn:=d}/\Heap.SameBut r s.heap h3/\h3.get? r=some o3/\cO led o3 zs/\aG zs (rest.map val)=aG xs (ord.toList.map val)/\(∀e∈rest,Ja e)/\zs.length+rest.length<=127) _ ?_ ?_ _ _
    ⟨h2,o2,xs,rfl,b1.trans b2,g2,S2,rfl,fun e he=>Go.el e (hp.mem_iff.mp he),by have:=hp.length_eq;simp only [za4] at this ⊢;omega⟩)
   ·rintro e rest b s' ⟨h3,o3,zs,rfl,b3,g3,S3,m3,e3,l3⟩
    obtain ⟨n,tk,rfl⟩:=e3 e (by simp)
    have ho3:h3.get? o=some oo:=by rw [b3.2 o (Ne.symm hne)];exact ho
    dsimp only;refine zaa (zaH (B1 (s:={s with heap:=h3,drawn:=d}) g3 S3 (by simp at l3;unfold scanBound;omega) fun h4 o4 bb b4 g4 S4=>?_))
    have ho4:h4.get? o=some oo:=by rw [b4.2 o (Ne.symm hne)];exact ho3
    refine zaa (heach _ _ ho4 (zaa (zaz (s:={s with heap:=h4,drawn:=d}) ho4 hdo Go.ft ?_)));dsimp only;rw [if_neg (by simp)];refine zad ⟨h4,o4,cj zs n,rfl,b3.trans b4,g4,S4,m3,fun e he=>e3 e (by simp [he]),?_⟩;have:=ou zs n;simp at l3;omega
   ·rintro b s' ⟨h3,o3,zs,rfl,b3,g3,S3,m3,_,_⟩
    have m3:zs=aG xs (ord.toList.map val):=m3;obtain ⟨e4,q4,t4,x4,d4,G4⟩:=S3;refine zad (h h3 o3 d b3 g3 ⟨e4,q4,t4,x4,d4,cH.perm G4 ?_⟩);rw [m3];exact AT ((hp.map val).trans Go.pm) xs
end
def vN:entryFor table "set.__or__" = some Builtin.«frozenset.__or__» :=
 entryFor_alias (id':="frozenset.__or__") (by kernel_rfl) (by first|rfl|decide) (by decide) (by kernel_rfl)
theorem AS {xs ys:Th}(h:∀y∈ys,y∈xs):aG xs ys=xs:=by
 induction ys with
 |nil=>rfl
 |cons y ys ih =>
  have:cj xs y=xs:=by unfold cj;rw [if_pos (h y (by simp))]
  simp only [aG,zbi,this];exact ih fun z hz=>h z (by simp [hz])
section
variable {prog:Program}{w:World}{A:Around}{E:Tb}{s:Shared}
def mj {a:Addr}{Q:Bool->Shared->Prop}(hT:s.TypeIs (.ref a) "set")(h:Q true s):wpAny (model prog w) A (Builtin.Frozenset.isAnySet (.ref a)) Q E s:=by unfold Builtin.Frozenset.isAnySet;unfold orM;exact zaa (zbt hT sub_set_self (zad h))
def Ec {l:Addr}{ol:Obj}{xs:Th}{Q:Tb}(hl:s.heap.get? l=some ol)(Sl:cO (!bt w) ol xs)(hz:xs.length < 128)
  (h:∀h' d o',(∀b o,s.heap.get? b=some o->h'.get? b=some o)->h'.get? s.heap.objs.size=some o'->cO (!bt w) o' xs->(xs=[]->o'=aO (!bt w))->Q (.ref s.heap.objs.size) {s with heap:=h',drawn:=d}) :
  wpAny (model prog w) A (Builtin.Frozenset.copyOf l) Q E s:=by
 obtain ⟨eo,eq,to,hx,hd,Go⟩:=Sl;have hlt:=zah hl;have hT:s.TypeIs (.ref l) "set":=⟨ol,hl,hx.1⟩;unfold Builtin.Frozenset.copyOf Builtin.Frozenset.baseOf;refine zaa (zaa (zbt hT sub_set_self (zad ?_)));simp only [↓reduceIte];unfold newSet setsByText;refine zaa (zaa (zaa (zbl (zad ?_))));dsimp only;refine zaE ?_;refine zaa (show wpAny _ _ (pure s.heap.objs.size) _ _ _ from zad ?_);have hS:(s.heap.push (aO (!bt w))).get? s.heap.objs.size=some (aO (!bt w)):=zak _ rfl
 by_cases hxs:xs=[]
 ·subst hxs
  have hem:eo.isEmpty=true:=by have:=cO.len Go;simpa [Array.isEmpty] using this
  unfold setMerge;rw [if_neg (by simpa using za0 hlt)];refine zaa (zaa (zaz (zae _ hl) hd Go.ft ?_));dsimp only;rw [if_pos hem];exact zad (zad (h _ s.drawn (aO (!bt w)) (fun c u e=>zae _ e) hS (iG _) fun _=>rfl))
 ·obtain ⟨fe,fp,ft,fx,fd,Gf⟩:=iG (!bt w)
  cases fd;refine zaa (tt (s:={s with heap:=s.heap.push (aO (!bt w))}) rfl (za0 hlt) hS fx rfl Gf (fun _=>⟨show (7:Nat)∈dX by decide,rfl⟩) (zae _ hl) hd Go (by simpa using hz) (fun s' Q' _ q=>zad q) fun h' o' d b g S=>zad ?_)
  have hk:∀c u,s.heap.get? c=some u->h'.get? c=some u:=fun c u e=>by
   rw [b.2 c (zam (zah e))];exact zae _ e
  obtain ⟨e4,q4,t4,x4,d4,G4⟩:=S;exact h h' d o' hk g ⟨e4,q4,t4,x4,d4,cH.perm G4 (wK Go.nd)⟩ fun z=>absurd z hxs
def i5 {l r:Addr}{ol or:Obj}{xs ys:Th}{Q:Tb}(hl:s.heap.get? l=some ol)(Sl:cO (!bt w) ol xs)(hr:s.heap.get? r=some or)(Sr:cO (!bt w) or ys)(hz:xs.length+ys.length < 128)
  (h:∀h' d o',(∀b o,s.heap.get? b=some o->h'.get? b=some o)->h'.get? s.heap.objs.size=some o'->cO (!bt w) o' (aG xs ys)->Q (.ref s.heap.objs.size) {s with heap:=h',drawn:=d}) :
  wpAny (model prog w) A (binaryOp .BitOr (.ref l) (.ref r)) Q E s:=by
 have hTl:s.TypeIs (.ref l) "set":=by obtain ⟨_,_,_,hx,_⟩:=Sl;exact ⟨ol,hl,hx.1⟩
 have hTr:s.TypeIs (.ref r) "set":=by obtain ⟨_,_,_,hx,_⟩:=Sr;exact ⟨or,hr,hx.1⟩
 refine wpAny_binaryOp_same hTl hTr F.fills_set_or F.slot_set_or (zaG F.slot_set_or hTl vN ?_ (F.args_set_or_2 _ _))
 refine (show wpAny _ _ (do
  let (self,other) ←Builtin.Frozenset.slot1 "__or__" ⟨[.ref l,.ref r],[]⟩
  if !(←Builtin.Frozenset.isAnySet self <&&> Builtin.Frozenset.isAnySet other) then rule s!"frozenset.{"__or__"}.declined";return ←ret .notImplemented
  ret (←(do
   let result ←Builtin.Frozenset.copyOf (←Builtin.Frozenset.addrOf self)
   if other != .ref l then holding [result] (Builtin.Frozenset.updateFrom s!"frozenset.{"__or__"}" (←Builtin.Frozenset.addrOf result) other)
   return result:Sem Value))) _ _ _ from ?_)
 refine zaa (show wpAny _ _ (pure (Value.ref l,Value.ref r)) _ _ _ from zad ?_);dsimp only;unfold andM;refine zaa (zaa (mj hTl ?_));refine (show wpAny _ _ (Builtin.Frozenset.isAnySet (.ref r)) _ _ _ from mj hTr ?_);simp only [zbv,zar,↓reduceIte];refine zaa ?_;refine zaa (show wpAny _ _ (pure l) _ _ _ from zad ?_);refine zaa (Ec hl Sl (by omega) fun h1 d1 o1 k1 g1 S1 f1=>?_)
 have fin:∀h' d o',(∀b o,s.heap.get? b=some o->h'.get? b=some o)->h'.get? s.heap.objs.size=some o'->cO (!bt w) o' (aG xs ys) ->
   wpAny (model prog w) A.in1 (pure (Value.ref s.heap.objs.size)) (fun a s'=>wpAny (model prog w) A.in1 (ret a) (fun fin s'=>∃v,fin=Fin.done (Flow.ret v)/\v≠Value.notImplemented/\Q v s') E s') E {s with heap:=h',drawn:=d} :=
  fun h' d o' k g S=>zad (zad ⟨_,rfl,by simp,h h' d o' k g S⟩)
 by_cases hlr:r=l
 ·subst hlr
  rw [if_neg (by simp)];refine fin h1 d1 o1 k1 g1 ?_;rw [hl] at hr;cases hr;obtain ⟨e1,q1,t1,x1,d1',G1⟩:=Sl;obtain ⟨e2,q2,t2,x2,d2,G2⟩:=Sr;rw [d1'] at d2;cases d2;rw [AS fun y hy=>(G1.pm.symm.trans G2.pm).mem_iff.mpr hy];exact S1
 ·rw [if_pos (by simpa using hlr)]
  have hr1:=k1 _ _ hr;have hrl:=zah hr
  have hT1:Shared.TypeIs {s with heap:=h1,drawn:=d1} (.ref r) "set":=by obtain ⟨_,_,_,hx,_⟩:=Sr;exact ⟨or,hr1,hx.1⟩
  refine zaa (show wpAny _ _ (pure s.heap.objs.size) _ _ _ from zad ?_);refine zaa (zaH ?_);unfold Builtin.Frozenset.updateFrom;refine zaa (mj hT1 ?_);simp only [↓reduceIte];refine zaa (show wpAny _ _ (pure r) _ _ _ from zad ?_);unfold Builtin.Frozenset.merge;obtain ⟨eo,eq,to,hxo,hdo,Go⟩:=Sr;refine zaa (wpAny_setEpoch_of hr1 hdo Go.ft ?_)
  have hem:xs=[]->∀e q t,o1.data=.set e q t->t.mask∈dX/\t.dummies = #[]:=fun z e q t ed=>by
   rw [f1 z] at ed;cases ed;exact ⟨show (7:Nat)∈dX by decide,rfl⟩
  obtain ⟨e1,q1,t1,x1,dd1,G1⟩:=S1;refine tt (s:={s with heap:=h1,drawn:=d1}) rfl (za0 hrl) g1 x1 dd1 G1 (fun z=>hem z _ _ _ dd1) hr1 hdo Go hz (fun s' Q' q' z=>?_) fun h' o' d b g S=>?_
  ·unfold Builtin.Frozenset.unchanged
   refine zaa (wpAny_setEpoch_of q' hdo Go.ft ?_);rw [if_neg (by simp)];exact zad z
  ·refine fin h' d o' (fun c u e=>?_) g S
   rw [b.2 c (zam (zah e))];exact k1 c u e
end
section
variable {prog:Program}{w:World}{A:Around}{E:Tb}{s:Shared}
set_option maxHeartbeats 3200000 in
theorem CG {l:Addr}{its:Ti}{ns:Th}{Q:Tb}
  (hh:A.handled=none) (hl:s.heap.IsList l its) (hi:IntsAre its.toList ns) (hb:its.size+1 < scanBound)
  (h:∀(h':Heap) (tk:Nat) (o:Obj),h'.get? s.heap.objs.size=some o->cO (!w.params.followText "set-order") o (aG [] ns) ->
   (∀b o,s.heap.get? b=some o->h'.get? b=some o)->s.toks<=tk->Q (.ref s.heap.objs.size) {s with heap:=h',toks:=tk}) :
  wpAny (model prog w) A (call (.type "set") [.ref l]) Q E s:=by
 obtain ⟨c,tl,hmro⟩:=F.called_set.mro;have hmade:=F.called_set.made;have hsub:=F.called_set.sub;refine zcH (zb1 (show wpAny _ _ (callAny (.type "set") _) _ _ _ from ?_));refine zad ⟨Code.quiet_builtin _ (by decide),zaU F.entry_type_call ?_⟩;rw [zcr (weight_type_call_type "set" [.ref l] []) rfl];have h1:=F.called_set.notType;have h2:=F.called_set.canCreate;have hct:=F.typeCall_set_1 (.ref l)
 repeat (any_goals (first|assumption|wp_step))
 refine zbf (AQ (.ref l) (E:=E) (Q₁:=fun obj s₁=>obj=.ref s.heap.objs.size/\s₁={s with heap:=s.heap.push (aO (!w.params.followText "set-order"))}) ⟨rfl,rfl⟩) fun r s₁ hr=>?_;generalize hled:(!w.params.followText "set-order")=led at *
 cases r with
 |error e=>exact hr
 |ok fl =>
  cases fl with
  |ret obj =>
   obtain ⟨rfl,rfl⟩:=hr;have hS:(s.heap.push (aO led)).get? s.heap.objs.size=some (aO led):=zak _ rfl;have hT:Shared.TypeIs {s with heap:=s.heap.push (aO led)} (.ref s.heap.objs.size) "set":=⟨_,hS,rfl⟩;have hli:=F.called_set.init.lookup;have hbi:=F.called_set.init.bind (.ref s.heap.objs.size)
   repeat (any_goals (first|assumption|wp_step))
   refine zbf (zbR (R:=wants (fun r s₂=>r=.none/\∃h' tk o,s₂={s with heap:=h',toks:=tk}/\h'.get? s.heap.objs.size=some o/\cO led o (aG [] ns) /\
     (∀b o,s.heap.get? b=some o->h'.get? b=some o)/\s.toks<=tk) E) F.called_set.init.plain F.entry_set_init (check_set_init_1 hT ?_)) fun r₂ s₂ hr2=>?_
   ·obtain ⟨ol,hol,hcl,nl,hdl⟩:=hl
    obtain ⟨ocls,odict,odata,oslots⟩:=ol;simp only at hcl hdl;subst hcl;subst hdl;have hol':(s.heap.push (aO led)).get? l=some {cls:=.type "list",dict:=odict,data:=.seq its nl,slots:=oslots}:=zae _ hol;have hs1:=F.sub_list_set;have hs2:=F.sub_list_frozenset
    have hne:(Value.type "list" == Value.type "dict")=false:=by decide
    have hl1:(s.heap.push (aO led)).IsList l its:=⟨_,hol',rfl,nl,rfl⟩;unfold Builtin.«set.__init__» noKeywords Builtin.Frozenset.updateFrom;generalize hPI:pyIter=PI
    wp_walk;subst hPI
    refine zcy hl1 (zaa (zcN ?_));have hlS:l < s.heap.objs.size:=zah hol
    have hh3:A.in1.in1.in1.handled=none:=by simp [hh]
    have hneI:l≠(s.heap.push (aO led)).objs.size:=by rw [zaZ];exact zam (zbn hlS)
    have hSf:s.heap.objs.size∉[(s.heap.push (aO led)).objs.size,l]:=by
     rw [zaZ];simp only [zaj,zaI,or_false,not_or];exact ⟨zam (zbM _),za0 hlS⟩
    refine mt ((Walks.list hh3 _ l hneI its).toS) s.heap.objs.size hSf (led:=led) ns (by have:=IntsAre.length hi;simpa using this.symm)
     (fun i v hv=>IntsAre.int_at hi i v (by rw [zbq];exact hv)) (its.size - 0) 0 _ (aO led) [] (by omega) (zba _)
     ⟨⟨_,zak _ rfl,rfl,rfl⟩,(hl1.push _)⟩ (zae _ hS) (iG led) (by simpa using hb) fun s' o' hm ho' hS'=>?_
    obtain ⟨h',g',d',tk',os'⟩:=s';have eg:g'=s.gens:=hm.gens;have ed:d'=s.drawn:=hm.drawn;have eo:os'=s.os:=hm.os;subst eg;subst ed;subst eo;refine (show wpAny _ _ _ _ _ _ from zad (show wpAny _ _ (ret Value.none) _ _ _ from zad ⟨rfl,h',tk',o',rfl,ho',hS',fun b o e=>?_,hm.toks⟩));have hbs:=zah e;refine hm.heap b o ?_ (zae _ (zae _ e));rw [zaZ];simp only [zaj,zaI,or_false,not_or];exact ⟨zam hbs,zam (zbn hbs)⟩
   ·cases r₂ with
    |error e=>exact hr2
    |ok fl₂ =>
     cases fl₂ with
     |ret r =>
      obtain ⟨rfl,h',tk,o,rfl,ho,hS',hk',ht⟩:=hr2
      repeat (any_goals (first|assumption|wp_step))
      exact h _ _ o ho hS' hk' ht
     |_=>exact hr2.elim
  |_=>exact hr.elim
end
def qS:typeLookup (.type "list") "keys" = pure none:=by rw [zcn,zbO];kernel_rfl
section
variable {prog:Program}{w:World}{A:Around}{E:Tb}{h:Heap}{g:Array GenState}{d:Drawn}{t:Nat}{os:OsState}{a:Addr}{its:Ti}{n:Nat}
set_option maxHeartbeats 2000000 in
def vc {tk:Tok}{Q:Fin->Shared->Prop}(hh:A.handled=none)(hx:h.get? a=some {cls:=.type "list",data:=.seq its n})
  (hq:∀h' tk' e,Heap.NewAttrErr h h' e (.ref a) "keys"->E (.ref e) ⟨h',g,d,tk',os⟩) :
  wpAny (model prog w) A (Builtin.«object.__getattribute__» ⟨[.ref a,.str "keys" tk],[]⟩) Q E ⟨h,g,d,t,os⟩:=by
 have hT:(⟨h,g,d,t,os⟩:Shared).TypeIs (.ref a) "list":=⟨_,hx,rfl⟩;have f4:=qS
 repeat (any_goals (first|assumption|wp_step))
 exact wpAny_raiseAttrError hh hq (attrMsg_fits (by decide) (by size_fits))
def Dy {tk:Tok}{Q:Tb}(hh:A.handled=none)(hx:h.get? a=some {cls:=.type "list",data:=.seq its n})
  (hq:∀h' tk' e,Heap.NewAttrErr h h' e (.ref a) "keys"->E (.ref e) ⟨h',g,d,tk',os⟩) :
  wpAny (model prog w) A (getAttrBy (.ref a) (.str "keys" tk) false) Q E ⟨h,g,d,t,os⟩:=by
 have hT:(⟨h,g,d,t,os⟩:Shared).TypeIs (.ref a) "list":=⟨_,hx,rfl⟩;have f2:=F.slot_list_getattribute.lookup;have f3:=F.slot_list_getattribute.bind (.ref a)
 repeat (any_goals (first|assumption|wp_step))
 refine zbR F.slot_list_getattribute.plain F.entry_list_ga (F.slot_list_getattribute.check _ _ _ _ _ _ _ _ hT (F.args_list_getattribute_2 _ _) ?_);refine vc (show A.in1.handled=none from hh) hx fun h' tk' e hx'=>?_;obtain ⟨t',u',he⟩:=hx'.there;have f1:=sub_AttributeError;have f5:typeLookup (.type "list") "__getattr__" = pure none:=am_miss_of_fast (by kernel_rfl);refine (show wpAny _ _ (getattributeRaised _ _ _ _ _ _ _) _ _ _ from ?_);unfold getattributeRaised
 repeat (any_goals (first|assumption|wp_step))
 exact hq _ _ _ hx'
def wJ {Q:Option Value->Shared->Prop}(hh:A.handled=none)(hx:h.get? a=some {cls:=.type "list",data:=.seq its n})
  (hq:∀h' tk',(∀c u,h.get? c=some u->h'.get? c=some u)->Q none ⟨h',g,d,tk',os⟩) :
  wpAny (model prog w) A (getAttr? (.ref a) "keys") Q E ⟨h,g,d,t,os⟩:=by
 unfold getAttr? getAttrBy?;refine zaa (wpAny_mkText (zaa (zbG (Dy hh hx fun h' tk' e hx'=>?_))));obtain ⟨t',u',he⟩:=hx'.there;exact zaa (zbt (T:="AttributeError") ⟨_,he,rfl⟩ sub_AttributeError (zad (hq _ _ hx'.keeps)))
end
def fL:entryFor table "dict.update.loop" = some Builtin.«dict.update.loop»:=entryFor_of_tree (by kernel_rfl)
def bW:plainId "dict.update.loop" = true:=by decide
section
variable {prog:Program}{w:World}{A:Around}{R:Result->Shared->Prop}{I:Addr}{fp wr:Tf}{n:Nat}{P:Nat->Value->Prop}{St:Nat->Heap->Prop}
structure gq (h:Heap)(v key val:Value):Prop where
 ex:∃a o c,v=.ref a/\h.get? a=some o/\o.cls=.type "tuple"/\o.data=.seq #[key,val] c
def gq.keep {h h':Heap}{v key val:Value}(p:gq h v key val)(k:∀a o,v=.ref a->h.get? a=some o->h'.get? a=some o):gq h' v key val:=by obtain ⟨a,o,c,rfl,h1,h2,h3⟩:=p.ex;exact ⟨a,o,c,rfl,k a o rfl h1,h2,h3⟩
def putAll {K:Type}[DecidableEq K](kvs:List (K×Value))(ps:List (K×Value)):List (K×Value):=ps.foldl (fun a p=>stored a p.1 p.2) kvs
theorem yE {K:Type}[DecidableEq K]{knd:KeyKind prog w K}(W:Walks prog w A.in1 I fp wr n P St)(S:Addr)(hSf:S∉fp)(ps:List (K×Value))(hps:ps.length=n)(h₀:Heap)
  (hP:∀i v,P i v->∃k x key,ps[i]?=some (k,x)/\knd.is k key=true/\gq h₀ v key x/\∀a,v=.ref a->a≠S/\a∉wr) :
  ∀(k i:Nat) (s:Shared) (c:Int) (kvs:List (K×Value)),n - i=k->i<=n->St i s.heap->(∀b o,b≠S->b∉wr->h₀.get? b=some o->s.heap.get? b=some o)->s.heap.DictOf knd S kvs->kvs.length+k<=sizeLine ->
   (∀h' tk,(∀b o,b≠S->b∉wr->s.heap.get? b=some o->h'.get? b=some o)->s.toks<=tk\/True->h'.DictOf knd S (putAll kvs (ps.drop i))->R (.ok (.ret .none)) {s with heap:=h',toks:=tk}) ->
   codeAny (model prog w) A (.builtin "dict.update.loop" ⟨[.ref S,.ref I,.int c 0,.none],[]⟩) R s:=by
 have nw:S∉wr:=fun h=>hSf (W.sub _ h);intro k
 induction k with
 |zero =>
  intro i s c kvs hk hi hst h0 hS hb hR
  have hin:i=n:=by omega
  subst hin;refine zaU fL ?_;rw [zaV bW _];refine (show wpAny _ A.in1 (pyNext (.ref I) >>= _) _ _ s from zaa (W.done s _ _ hst fun h' tk hk'=>?_));refine (show wpAny _ A.in1 (do Builtin.Dict.addKeywords S [];ret Value.none) _ _ _ from zaa (show wpAny _ _ (pure ()) _ _ _ from zad (zad ?_)));refine hR h' tk (fun b o _ hb e=>hk' b o hb e) (.inr trivial) ?_;rw [zcz (by omega)];obtain ⟨o,es,ep,ho,r⟩:=hS;exact ⟨o,es,ep,hk' S o nw ho,r⟩
 |succ k ih =>
  intro i s c kvs hk hi hst h0 hS hb hR
  have hlt:i < n:=by omega
  refine zaU fL ?_;rw [zaV bW _];refine (show wpAny _ A.in1 (pyNext (.ref I) >>= _) _ _ s from zaa (W.item i s _ _ hlt hst fun v h1 tk1 hPv hst1 hk1=>?_));obtain ⟨kk,x,key,hpi,hkey,hpair,hap⟩:=hP i v hPv;have hpair1:gq h1 v key x:=hpair.keep fun a o e q=>hk1 a o (hap a e).2 (h0 a o (hap a e).1 (hap a e).2 q);obtain ⟨a,o,cc,rfl,ho,hc,hd⟩:=hpair1.ex
  have hS1:h1.DictOf knd S kvs:=by
   obtain ⟨o,es,ep,ho,r⟩:=hS;exact ⟨o,es,ep,hk1 S o nw ho,r⟩
  refine zaa (zaH (zaa (wpAny_tryCatch ?_)));unfold Builtin.Dict.pairItems;refine zaa (zbr (T:="tuple") ⟨o,ho,hc⟩ ?_);rw [if_pos (by decide)];refine zaa (zcO ho hd (zad ?_));refine (show wpAny _ _ (holding [key,x] (dictSet S key x)) _ _ _ from zaH (wpAny_dictSet_pairs (s:={s with heap:=h1,toks:=tk1}) hkey hS1 (fun h2 hS2 hsb=>?_) (by omega)))
  have hdrop:ps.drop i=(kk,x)::ps.drop (i+1):=by
   obtain ⟨hl,e⟩:=zas.mp hpi;rw [zbb hl,e]
  have hlen:(stored kvs kk x).length<=kvs.length+1:=stored_length_le kvs kk x;refine zad ⟨zbu bW _,ih (i+1) {s with heap:=h2,toks:=tk1+1} (c+1) _ (by omega) hlt (W.frame _ h1 _ hst1 fun b hb o e=>?_) (fun b o n1 n2 e=>?_) hS2 (by omega) fun h' tk' hk' ht hD=>?_⟩
  ·rw [hsb.2 b (fun h:b=S=>hSf (h ▸ hb))];exact e
  ·rw [hsb.2 b n1];exact hk1 b o n2 (h0 b o n1 n2 e)
  ·refine hR h' tk' (fun b o n1 n2 e=>hk' b o n1 n2 ?_) (.inr trivial) (by rw [hdrop];exact hD)
   show h2.get? b=some o
   rw [hsb.2 b n1];exact hk1 b o n2 e
end
def AR:mroOf (.type "dict")=pure [.type "dict",.type "object"]:=by rw [mroOf_type];kernel_rfl
def qR:typeLookup (.type "dict") "__new__" = pure (some (.builtin "dict.__new__")):=by rw [zcn,zbO];kernel_rfl
def sy:Slot "dict" "__init__" "dict.__init__":=by
 refine .of (owner:="dict") (n:="__init__") ?_ (by decide) (by decide) (by decide) ?_ ?_
 ·rw [zcn,zbO];kernel_rfl
 ·first|exact .inl (by decide)|exact .inr (by decide)
 ·rw [isSubtype_type];kernel_rfl
def bF:TypeCalled "dict" "dict.__new__" "dict.__init__" :=
 ⟨by decide,by decide,⟨_,_,AR⟩,madeBy_type AR qR (by decide),by decide,by rw [isSubtype_type];kernel_rfl,sy⟩
def nO (a:Value):checkTypeCall "dict" ⟨[a],[]⟩=pure ():=by kernel_rfl
def xT (a:Value):checkBuiltinCall "dict.__new__" ⟨[.type "dict",a],[]⟩=pure ():=by kernel_rfl
def t7:entryFor table "dict.__new__" = some Builtin.«dict.__new__»:=entryFor_of_tree (by kernel_rfl)
def mz:plainId "dict.__new__" = true:=by decide
def lp:entryFor table "dict.__init__" = some Builtin.«dict.__init__»:=entryFor_of_tree (by kernel_rfl)
def nR:isSubtype (.type "dict") (.type "dict")=pure true:=by rw [isSubtype_type];kernel_rfl
def tG:builtinKind "dict.__init__" = some .slot:=by kernel_rfl
def qA:splitId "dict.__init__" = some ("dict","__init__"):=by kernel_rfl
def uU:Manifest.signature? "dict.__init__" = some ⟨.positional,"dict","dict",.self,[⟨"other",.posOnly,false⟩,⟨"kwargs",.varKw,false⟩]⟩:=by kernel_rfl
section
variable {prog:Program}{w:World}{A:Around}{E:Tb}{s:Shared}
abbrev bu:Obj:={cls:=.type "dict",dict:=none,data:=.dict #[]}
def uf (a:Value){Q₁:Tb}(h:Q₁ (.ref s.heap.objs.size) {s with heap:=s.heap.push bu}) :
  codeAny (model prog w) A (.call (.builtin "dict.__new__") ⟨[.type "dict",a],[]⟩) (wants Q₁ E) s:=by
 refine zb1 (show wpAny _ A.in1 (do checkBuiltinCall "dict.__new__" ⟨[.type "dict",a],[]⟩;again (.builtin "dict.__new__" ⟨[.type "dict",a],[]⟩)) _ _ s from ?_);refine zaa (zcP (xT a) (zad ⟨zbu mz _,zaU t7 ?_⟩));rw [zaV mz _];have hsub:=nR;have hmro:=AR;unfold Builtin.«dict.__new__»;obtain ⟨hp,g,d,tk,os⟩:=s;dsimp only
 repeat (any_goals (first|assumption|wp_step))
def lx {M:Model}{self a:Value}{Q:Unit->Shared->Prop}(hT:s.TypeIs self "dict")(hQ:Q () s) :
  wpAny M A (checkBuiltinCall "dict.__init__" ⟨[self,a],[]⟩) Q E s:=by
 simp only [checkBuiltinCall,tG,qA,uU];refine zaa (zbt hT nR ?_);simp only [zbv,zar,if_false];unfold Bind.checkArgs;dsimp only;refine zaa (m:=Bind.printed "dict" true _ _) (PyProof.Rows.printed_name (by decide) ?_);refine zaa (m:=Bind.printed "dict" false _ _) (PyProof.Rows.printed_name (by decide) ?_)
 have hrn:(Manifest.Receiver.self == Manifest.Receiver.none)=false:=by decide
 have hn:(if (Manifest.Receiver.self == Manifest.Receiver.none)=true then [self,a].length else [self,a].length - 1)=1:=by simp [hrn]
 rw [hn];simp only [za8]
 have hc:Bind.check ⟨.positional,"dict","dict",.self,[⟨"other",.posOnly,false⟩,⟨"kwargs",.varKw,false⟩]⟩ "dict" "dict" 1 []=pure ():=by kernel_rfl
 rw [hc];exact wpAny_onRaise (zad hQ)
set_option maxHeartbeats 3200000 in
theorem BL {K:Type}[DecidableEq K]{knd:KeyKind prog w K}{l:Addr}{its:Ti}{c:Nat}{ps:List (K×Value)}{Q:Tb}
  (hh:A.handled=none) (hl:s.heap.get? l=some {cls:=.type "list",data:=.seq its c}) (hps:ps.length=its.size) (hz:its.size<=sizeLine)
  (hP:∀(i:Nat) v,its[i]?=some v->∃k x key,ps[i]?=some (k,x)/\knd.is k key=true/\gq s.heap v key x)
  (h:∀(h':Heap) (tk:Nat),h'.DictOf knd s.heap.objs.size (putAll [] ps)->(∀b o,s.heap.get? b=some o->h'.get? b=some o)->Q (.ref s.heap.objs.size) {s with heap:=h',toks:=tk}) :
  wpAny (model prog w) A (call (.type "dict") [.ref l]) Q E s:=by
 obtain ⟨cc,tl,hmro⟩:=bF.mro;have hmade:=bF.made;have hsub:=bF.sub;refine zcH (zb1 (show wpAny _ _ (callAny (.type "dict") _) _ _ _ from ?_));refine zad ⟨Code.quiet_builtin _ (by decide),zaU F.entry_type_call ?_⟩;rw [zcr (weight_type_call_type "dict" [.ref l] []) rfl];have h1:=bF.notType;have h2:=bF.canCreate;have hct:=nO (.ref l)
 repeat (any_goals (first|assumption|wp_step))
 refine zbf (uf (.ref l) (E:=E) (Q₁:=fun obj s₁=>obj=.ref s.heap.objs.size/\s₁={s with heap:=s.heap.push bu}) ⟨rfl,rfl⟩) fun r s₁ hr=>?_
 cases r with
 |error e=>exact hr
 |ok fl =>
  cases fl with
  |ret obj =>
   obtain ⟨rfl,rfl⟩:=hr;have hS:(s.heap.push bu).get? s.heap.objs.size=some bu:=zak _ rfl;have hT:Shared.TypeIs {s with heap:=s.heap.push bu} (.ref s.heap.objs.size) "dict":=⟨_,hS,rfl⟩;have hli:=bF.init.lookup;have hbi:=bF.init.bind (.ref s.heap.objs.size)
   repeat (any_goals (first|assumption|wp_step))
   refine zbf (zbR (R:=wants (fun r s₂=>r=.none/\∃h' tk,s₂={s with heap:=h',toks:=tk}/\h'.DictOf knd s.heap.objs.size (putAll [] ps) /\
     (∀b o,s.heap.get? b=some o->h'.get? b=some o)) E) bF.init.plain lp (lx hT ?_)) fun r₂ s₂ hr2=>?_
   ·have hlS:l < s.heap.objs.size:=zah hl
    have hl1:(s.heap.push bu).get? l=some {cls:=.type "list",data:=.seq its c}:=zae _ hl;have hTl:Shared.TypeIs {s with heap:=s.heap.push bu} (.ref l) "list":=⟨_,hl1,rfl⟩;unfold Builtin.«dict.__init__» Builtin.Dict.selfAndRest Builtin.Dict.notOrdered;refine zaa (zaa ?_);rw [if_pos (by decide)];refine zaa (zbr hT ?_);rw [if_neg (by decide)];refine zad (zaa (show wpAny _ _ (pure s.heap.objs.size) _ _ _ from zad (zad ?_)));refine (show wpAny _ _ (Builtin.Dict.updateFrom "dict.__init__" s.heap.objs.size (.ref l) [] .none) _ _ _ from ?_);unfold Builtin.Dict.updateFrom;refine zaa (zbr hTl ?_);rw [if_pos (by decide)];refine zaa (wJ (show A.in1.in1.handled=none from hh) hl1 fun h2 tk2 kp2=>?_);rw [if_pos (show (none:Tg).isNone=true from rfl)];have hl2:=kp2 _ _ hl1;have hS2:=kp2 _ _ hS;have hl3:h2.IsList l its:=⟨_,hl2,rfl,c,rfl⟩;refine zaa (zbN (zaa (zcy hl3 ?_)));have hlI:l≠h2.objs.size:=zam (zah hl2);have hSI:s.heap.objs.size≠h2.objs.size:=zam (zah hS2)
    have hSf:s.heap.objs.size∉[h2.objs.size,l]:=by
     simp only [zaj,zaI,or_false,not_or];exact ⟨hSI,za0 hlS⟩
    have hD0:(h2.push {cls:=.type "list_iterator",data:=.fields #[.ref l,.int 0 0]}).DictOf knd s.heap.objs.size [] :=
     ⟨bu,#[],0,zae _ hS2,⟨rfl,rfl,rfl⟩,rfl,fun e he=>by simp at he,.nil,zcu⟩
    refine zad ⟨zbu bW _,yE (Walks.list (by simp [hh]) h2.objs.size l hlI its) s.heap.objs.size hSf ps hps s.heap (fun i v hv=>?_) (its.size - 0) 0 _ 0 [] (by omega) (zba _)
     ⟨⟨_,zak _ rfl,rfl,rfl⟩,hl3.push _⟩ (fun b o _ _ e=>zae _ (kp2 _ _ (zae _ e))) hD0 (by simpa using hz) fun h' tk' hk' _ hD=>?_⟩
    ·obtain ⟨k,x,key,e1,e2,e3⟩:=hP i v hv
     refine ⟨k,x,key,e1,e2,e3,fun a e=>?_⟩;obtain ⟨a',o',c',q1,q2,_,_⟩:=e3.ex;rw [q1] at e;cases e;refine ⟨zam (zah q2),?_⟩;simp only [zaj,zaI,or_false];exact zam (zah (kp2 _ _ (zae _ q2)))
    ·refine ⟨rfl,h',tk',rfl,by simpa using hD,fun b o e=>hk' b o (zam (zah e)) ?_ (zae _ (kp2 _ _ (zae _ e)))⟩
     simp only [zaj,zaI,or_false];exact zam (zah (kp2 _ _ (zae _ e)))
   ·cases r₂ with
    |error e=>exact hr2
    |ok fl₂ =>
     cases fl₂ with
     |ret r =>
      obtain ⟨rfl,h',tk,rfl,hS',hk'⟩:=hr2
      repeat (any_goals (first|assumption|wp_step))
      exact h _ _ hS' hk'
     |_=>exact hr2.elim
  |_=>exact hr.elim
end
end HS
namespace L2
open PyProof.Rows
def lz (H:Hp)(q:Str)(ps:Ti):Prop:=TriplesOk ps.toList/\∀pos cv,codeAmong pos ps.toList=some cv->∃c' oc vs t,cv=.ref c'/\H c'=some (.frz oc (.ext fun _=>True))/\oc.data=.fields vs/\vs[1]?=some (.str q t)
def lz.mono {H H':Hp}{q:Str}{ps:Ti}(g:lz H q ps)(k:∀b o u,H b=some (.frz o u)->H' b=some (.frz o u)):lz H' q ps :=
 ⟨g.1,fun pos cv e=>let ⟨c',oc,vs,t,e1,e2,r⟩:=g.2 pos cv e;⟨c',oc,vs,t,e1,k _ _ _ e2,r⟩⟩
structure B5 (x:Str)(caps:Tn)(sc:Scope)(cl:List (Str×Addr)):Prop where
 kind:sc.kind=.function
 co:sc.isCoroutine=false
 gen:sc.isGenerator=false
 nd:(x::caps).Nodup
 par:sc.names.lookup x=some .local
 nocell:∀y∈sc.names,y.2≠.cell
 free:∀y,sc.names.lookup y=some .free->∃c,cl.lookup y=some c
 inj:∀y z c,cl.lookup y=some c->cl.lookup z=some c->y=z
end L2
namespace HW
open L2
inductive D where
 |non|bl (b:Bool)|int (i:Int)|str (x:Str)
 |tup (xs:List D)|fl (xs:List D)|fd (ks:List aI) (ds:List D)|key (ks:Th)
structure L5 where
 qual:Str
 params:Arguments
 body:Expr
 scope:Scope
 x:Str
 caps:Tn
inductive R where
 |v (d:D)|p (n:Nat)|s (b:Bool) (xs:Th)|x (c:Str)|f (L:L5) (ds:List D)
inductive au where
 |lst (xs:List D)|fz (xs:List D)|dct (kvs:List (aI×D))|fzd (kvs:List (aI×D))|dr (kvs:List (aI×R))|lr (xs:List R)|dt (kvs:List (Th×D))|tb (P:Nat) (q:Str)|ob (c:Str) (fs:List (Str×R))|tr (xs:List R)|fzr (kvs:List (aI×R))|dtr (kvs:List (Th×R))|fzt (kvs:List (Th×D))
abbrev ac:=List au
abbrev Lo:=List (Option R)
abbrev FE:=Lo->ac->Option (R×ac)
abbrev FT:=Lo->ac->Option (Bool×ac)
abbrev FA:=Lo->ac->Option (List R×ac)
inductive nF where
 |nx (O:Lo) (U:ac)|rt (d:R) (U:ac)|bk (O:Lo) (U:ac)|ct (O:Lo) (U:ac)
abbrev FS:=Lo->ac->Option nF
def Jc (K:zac)(H:Hp)(a:Addr)(vs:List V):Prop:=(∃o,H a=some (.frz o (.lst vs)))\/iZ K (fun _=>none) a vs
mutual
def ak (K:zac)(H:Hp):D->V->Prop
 |.non,v=>v=.non
 |.bl b,v=>v=.bl b
 |.int i,v=>v=.int i
 |.str x,v=>v=.str x
 |.tup xs,v=>∃a vs,v=.ref a/\gU K H a vs/\RelDs K H xs vs
 |.fl xs,v=>∃a vs,v=.ref a/\Jc K H a vs/\RelDs K H xs vs
 |.fd ks ds,v=>∃a o es,v=.ref a/\H a=some (.frz o (.dK es))/\es.map (·.1)=ks/\RelDs K H ds (es.map (·.2))
 |.key ks,v=>∃a,v=.ref a/\H a=some (.tup (ks.map V.int))
def RelDs (K:zac)(H:Hp):List D->List V->Prop
 |[],vs=>vs=[]
 |x::xs,vs=>∃v r,vs=v::r/\ak K H x v/\RelDs K H xs r
end
structure Ex (K:zac)(H:Hp)(L:L5)(ds:List D)(a:Addr)(cl:List (Str×Addr))(pm ctv:Value)(c':Addr):Prop where
 fn:H a=some (.frz (PySem.W.kla_obj "<lambda>" L.qual L.params L.body L.scope cl pm c' ctv) (.ext fun _=>True))
 code:∃oc vs t,H c'=some (.frz oc (.ext fun _=>True))/\oc.data=.fields vs/\vs[1]?=some (.str L.qual t)
 len:ds.length=L.caps.length
 cell:∀y c,cl.lookup y=some c->∃z o,H c=some (.frz o (.ext fun _=>True))/\o.data=.cell z
 cap:∀(i:Nat) y d,L.caps[i]?=some y->ds[i]?=some d->∃c o u vy,L.scope.names.lookup y=some .free/\cl.lookup y=some c/\H c=some (.frz o (.ext fun _=>True))/\o.data=.cell (some u)/\aW vy u/\ak K H d vy
 sc:B5 L.x L.caps L.scope cl
def ap (K:zac)(m:Tf)(H:Hp):R->V->Prop
 |.v d,v=>ak K H d v
 |.p n,v=>∃a,v=.ref a/\m[n]?=some a
 |.s b xs,v=>∃a o,v=.ref a/\H a=some (.frz o (.ext fun _=>True))/\HS.cO b o xs
 |.x c,v=>∃a vs C,v=.ref a/\H a=some (.frz {cls:=.ref C,dict:=none,data:=.fields vs,slots:=#[]} (.ext fun _=>True))/\PySem.W.nsIn K mainGlobals c=some (some (.ref C))
 |.f L ds,v=>∃a cl pm ctv c',v=.ref a/\Ex K H L ds a cl pm ctv c'
def aQ (K:zac)(m:Tf)(H:Hp):List R->List V->Prop
 |[],vs=>vs=[]
 |x::xs,vs=>∃v r,vs=v::r/\ap K m H x v/\aQ K m H xs r
def gr (K:zac)(m:Tf)(H:Hp):au->Addr->Prop
 |.lst xs,a=>∃vs,H a=some (.lst vs)/\RelDs K H xs vs
 |.fz xs,a=>∃o vs,H a=some (.frz o (.lst vs))/\RelDs K H xs vs
 |.dct kvs,a=>∃es,H a=some (.dK es)/\es.map (·.1)=kvs.map (·.1)/\RelDs K H (kvs.map (·.2)) (es.map (·.2))
 |.fzd kvs,a=>∃o es,H a=some (.frz o (.dK es))/\es.map (·.1)=kvs.map (·.1)/\RelDs K H (kvs.map (·.2)) (es.map (·.2))
 |.dr kvs,a=>∃es,H a=some (.dK es)/\es.map (·.1)=kvs.map (·.1)/\aQ K m H (kvs.map (·.2)) (es.map (·.2))
 |.lr xs,a=>∃vs,H a=some (.lst vs)/\aQ K m H xs vs
 |.tb P q,a=>a=P/\∃ps,H P=some (.tbl ps)/\lz H q ps
 |.ob c fs,a=>∃C dx es,PySem.W.nsIn K mainGlobals c=some (some (.ref C))/\H a=some (.ins C dx es)/\es.map (·.1)=fs.map (·.1)/\aQ K m H (fs.map (·.2)) (es.map (·.2))
 |.tr xs,a=>∃vs,H a=some (.tup vs)/\aQ K m H xs vs
 |.fzr kvs,a=>∃o es,H a=some (.frz o (.dK es))/\es.map (·.1)=kvs.map (·.1)/\aQ K m H (kvs.map (·.2)) (es.map (·.2))
 |.dtr kvs,a=>∃es,H a=some (.dT es)/\es.map (·.1)=kvs.map (fun p=>p.1.map Sum.inl)/\aQ K m H (kvs.map (·.2)) (es.map (·.2))
 |.dt kvs,a=>∃es,H a=some (.dT es)/\es.map (·.1)=kvs.map (fun p=>p.1.map Sum.inl)/\RelDs K H (kvs.map (·.2)) (es.map (·.2))
 |.fzt kvs,a=>∃o es,H a=some (.frz o (.dT es))/\es.map (·.1)=kvs.map (fun p=>p.1.map Sum.inl)/\RelDs K H (kvs.map (·.2)) (es.map (·.2))
structure aJ (K:zac)(m:Tf)(H:Hp)(U:ac):Prop where
 nd:m.Nodup
 len:m.length=U.length
 cell:∀(i:Nat) c a,U[i]?=some c->m[i]?=some a->gr K m H c a
structure TF (H H':Hp):Prop where
 tup:∀a xs,H a=some (.tup xs)->H' a=some (.tup xs)
 frz:∀a o u,H a=some (.frz o u)->H' a=some (.frz o u)
structure dz (m:Tf)(H:Hp)(m':Tf)(H':Hp):Prop where
 ext:∃e,m'=m++e/\∀a∈e,H a=none
 tf:TF H H'
 keep:∀a o,H a=some o->a∉m->H' a=some o
 live:∀a,H' a=none->H a=none
def dD (K:zac)(m:Tf)(H:Hp)(O:Lo)(Y:St):Prop :=
 O.length=Y.length/\∀(i:Nat) d,O[i]?=some (some d)->∃v,Y[i]?=some (some v)/\ap K m H d v
section
variable {K:zac}{H H' H1 H2:Hp}
def TF.refl:TF H H:=⟨fun _ _ h=>h,fun _ _ _ h=>h⟩
def TF.trans (a:TF H H1)(b:TF H1 H2):TF H H2:=⟨fun _ _ h=>b.tup _ _ (a.tup _ _ h),fun _ _ _ h=>b.frz _ _ _ (a.frz _ _ _ h)⟩
def TF.of (h:∀a o,H a=some o->H' a=some o):TF H H':=⟨fun _ _ e=>h _ _ e,fun _ _ _ e=>h _ _ e⟩
def gU.tf {a vs}(t:TF H H')(h:gU K H a vs):gU K H' a vs:=by
 rcases h with (h|⟨o,h⟩)|h
 ·exact .inl (.inl (t.tup _ _ h))
 ·exact .inl (.inr ⟨o,t.frz _ _ _ h⟩)
 ·exact .inr h
def Jc.tf {a vs}(t:TF H H')(h:Jc K H a vs):Jc K H' a vs:=by
 rcases h with ⟨o,h⟩|h
 ·exact .inl ⟨o,t.frz _ _ _ h⟩
 ·exact .inr h
def Jc.sq {a vs}(h:Jc K H a vs):iZ K H a vs:=by
 rcases h with ⟨o,h⟩|(h|⟨_,h⟩)|h
 ·exact .inl (.inr ⟨o,h⟩)
 ·cases h
 ·cases h
 ·exact .inr h
mutual
theorem ak.tf (t:TF H H'):∀(d:D) (v:V),ak K H d v->ak K H' d v
 |.non,_,h=>by simpa only [ak] using h
 |.bl _,_,h=>by simpa only [ak] using h
 |.int _,_,h=>by simpa only [ak] using h
 |.str _,_,h=>by simpa only [ak] using h
 |.tup xs,v,h=>by simp only [ak] at h ⊢;obtain ⟨a,vs,e,s,r⟩:=h;exact ⟨a,vs,e,gU.tf t s,RelDs.tf t xs vs r⟩
 |.fl xs,v,h=>by simp only [ak] at h ⊢;obtain ⟨a,vs,e,s,r⟩:=h;exact ⟨a,vs,e,s.tf t,RelDs.tf t xs vs r⟩
 |.fd ks ds,v,h=>by simp only [ak] at h ⊢;obtain ⟨a,o,es,e,s,k,r⟩:=h;exact ⟨a,o,es,e,t.frz _ _ _ s,k,RelDs.tf t ds _ r⟩
 |.key ks,v,h=>by simp only [ak] at h ⊢;obtain ⟨a,e,q⟩:=h;exact ⟨a,e,t.tup _ _ q⟩
theorem RelDs.tf (t:TF H H'):∀(ds:List D) (vs:List V),RelDs K H ds vs->RelDs K H' ds vs
 |[],_,h=>by simpa only [RelDs] using h
 |d::ds,vs,h=>by simp only [RelDs] at h ⊢;obtain ⟨v,r,e,h1,h2⟩:=h;exact ⟨v,r,e,ak.tf t d v h1,RelDs.tf t ds r h2⟩
end
def Ex.tf {L ds a cl pm ctv c'}(t:TF H H')(h:Ex K H L ds a cl pm ctv c'):Ex K H' L ds a cl pm ctv c':=by
 refine ⟨t.frz _ _ _ h.fn,?_,h.len,fun y c e=>?_,fun i y d e1 e2=>?_,h.sc⟩
 ·obtain ⟨oc,vs,u,e,r⟩:=h.code;exact ⟨oc,vs,u,t.frz _ _ _ e,r⟩
 ·obtain ⟨z,o,q,r⟩:=h.cell y c e;exact ⟨z,o,t.frz _ _ _ q,r⟩
 ·obtain ⟨c,o,u,vy,k1,k2,k3,k4,k5,k6⟩:=h.cap i y d e1 e2;exact ⟨c,o,u,vy,k1,k2,t.frz _ _ _ k3,k4,k5,ak.tf t _ _ k6⟩
def dz.refl:dz m H m H:=⟨⟨[],by simp⟩,.refl,fun _ _ h _=>h,fun _ h=>h⟩
def dz.trans (x:dz m H m1 H1)(y:dz m1 H1 m2 H2):dz m H m2 H2:=by
 obtain ⟨e1,rfl,f1⟩:=x.ext;obtain ⟨e2,rfl,f2⟩:=y.ext;refine ⟨⟨e1++e2,by simp,fun a ha=>?_⟩,x.tf.trans y.tf,fun a o h n=>?_,fun a h=>x.live a (y.live a h)⟩
 ·rcases zaY.mp ha with h|h
  ·exact f1 a h
  ·exact x.live a (f2 a h)
 ·refine y.keep a o (x.keep a o h n) fun z=>?_;rcases zaY.mp z with z|z
  ·exact n z
  ·rw [f1 a z] at h;cases h
theorem ap.ext (x:dz m H m' H'){d:R}{v:V}(h:ap K m H d v):ap K m' H' d v:=by
 cases d with
 |v d=>exact ak.tf x.tf d v h
 |p n =>
  obtain ⟨a,e,q⟩:=h;obtain ⟨e1,rfl,_⟩:=x.ext;refine ⟨a,e,?_⟩;obtain ⟨hl,hq⟩:=zas.mp q;rw [zai hl];exact q
 |s b xs =>
  obtain ⟨a,o,e,q,r⟩:=h;exact ⟨a,o,e,x.tf.frz _ _ _ q,r⟩
 |x c =>
  obtain ⟨a,vs,C,e,q,r⟩:=h;exact ⟨a,vs,C,e,x.tf.frz _ _ _ q,r⟩
 |f L ds =>
  obtain ⟨a,cl,pm,ctv,c',e,q⟩:=h;exact ⟨a,cl,pm,ctv,c',e,q.tf x.tf⟩
theorem aQ.ext (x:dz m H m' H'):∀{ds:List R} {vs:List V},aQ K m H ds vs->aQ K m' H' ds vs
 |[],_,h=>h
 |_::_,_,⟨v,r,e,h1,h2⟩=>⟨v,r,e,h1.ext x,aQ.ext x h2⟩
def dD.ext (x:dz m H m' H')(h:dD K m H O Y):dD K m' H' O Y :=
 ⟨h.1,fun i d e=>let ⟨v,q,r⟩:=h.2 i d e;⟨v,q,r.ext x⟩⟩
theorem ap.tfm (t:TF H H')(y:∃e,m'=m++e){d:R}{v:V}(h:ap K m H d v):ap K m' H' d v:=by
 cases d with
 |v d=>exact ak.tf t d v h
 |p n =>
  obtain ⟨a,e,q⟩:=h;obtain ⟨e1,rfl⟩:=y;refine ⟨a,e,?_⟩;obtain ⟨hl,hq⟩:=zas.mp q;rw [zai hl];exact q
 |s b xs =>
  obtain ⟨a,o,e,q,r⟩:=h;exact ⟨a,o,e,t.frz _ _ _ q,r⟩
 |x c =>
  obtain ⟨a,vs,C,e,q,r⟩:=h;exact ⟨a,vs,C,e,t.frz _ _ _ q,r⟩
 |f L ds =>
  obtain ⟨a,cl,pm,ctv,c',e,q⟩:=h;exact ⟨a,cl,pm,ctv,c',e,q.tf t⟩
theorem aQ.tfm (t:TF H H')(y:∃e,m'=m++e):∀{ds:List R} {vs:List V},aQ K m H ds vs->aQ K m' H' ds vs
 |[],_,h=>h
 |_::_,_,⟨v,r,e,h1,h2⟩=>⟨v,r,e,h1.tfm t y,aQ.tfm t y h2⟩
theorem gr.same (s:∀a o,H a=some o->H' a=some o)(y:∃e,m'=m++e){c:au}{a:Addr}(h:gr K m H c a):gr K m' H' c a:=by
 cases c with
 |lst xs=>obtain ⟨vs,e,r⟩:=h;exact ⟨vs,s _ _ e,RelDs.tf (.of s) _ _ r⟩
 |fz xs=>obtain ⟨o,vs,e,r⟩:=h;exact ⟨o,vs,s _ _ e,RelDs.tf (.of s) _ _ r⟩
 |dct kvs=>obtain ⟨es,e,k,r⟩:=h;exact ⟨es,s _ _ e,k,RelDs.tf (.of s) _ _ r⟩
 |fzd kvs=>obtain ⟨o,es,e,k,r⟩:=h;exact ⟨o,es,s _ _ e,k,RelDs.tf (.of s) _ _ r⟩
 |fzt kvs=>obtain ⟨o,es,e,k,r⟩:=h;exact ⟨o,es,s _ _ e,k,RelDs.tf (.of s) _ _ r⟩
 |dr kvs=>obtain ⟨es,e,k,r⟩:=h;exact ⟨es,s _ _ e,k,aQ.tfm (.of s) y r⟩
 |lr xs=>obtain ⟨vs,e,r⟩:=h;exact ⟨vs,s _ _ e,aQ.tfm (.of s) y r⟩
 |dt kvs=>obtain ⟨es,e,k,r⟩:=h;exact ⟨es,s _ _ e,k,RelDs.tf (.of s) _ _ r⟩
 |tb P q=>obtain ⟨e,ps,k,r⟩:=h;exact ⟨e,ps,s _ _ k,r.mono fun b o u g=>s _ _ g⟩
 |ob c fs=>obtain ⟨C,dx,es,n,e,k,r⟩:=h;exact ⟨C,dx,es,n,s _ _ e,k,aQ.tfm (.of s) y r⟩
 |tr xs=>obtain ⟨vs,e,r⟩:=h;exact ⟨vs,s _ _ e,aQ.tfm (.of s) y r⟩
 |fzr kvs=>obtain ⟨o,es,e,k,r⟩:=h;exact ⟨o,es,s _ _ e,k,aQ.tfm (.of s) y r⟩
 |dtr kvs=>obtain ⟨es,e,k,r⟩:=h;exact ⟨es,s _ _ e,k,aQ.tfm (.of s) y r⟩
theorem gr.some {c:au}{a:Addr}(h:gr K m H c a):∃o,H a=some o:=by
 cases c with
 |lst xs=>obtain ⟨vs,e,r⟩:=h;exact ⟨_,e⟩
 |fz xs=>obtain ⟨o,vs,e,r⟩:=h;exact ⟨_,e⟩
 |dct kvs=>obtain ⟨es,e,k,r⟩:=h;exact ⟨_,e⟩
 |fzd kvs=>obtain ⟨o,es,e,k,r⟩:=h;exact ⟨_,e⟩
 |fzt kvs=>obtain ⟨o,es,e,k,r⟩:=h;exact ⟨_,e⟩
 |dr kvs=>obtain ⟨es,e,k,r⟩:=h;exact ⟨_,e⟩
 |lr xs=>obtain ⟨vs,e,r⟩:=h;exact ⟨_,e⟩
 |dt kvs=>obtain ⟨es,e,k,r⟩:=h;exact ⟨_,e⟩
 |tb P q=>obtain ⟨e,ps,k,r⟩:=h;exact ⟨_,e ▸ k⟩
 |ob c fs=>obtain ⟨C,dx,es,n,e,k,r⟩:=h;exact ⟨_,e⟩
 |tr xs=>obtain ⟨vs,e,r⟩:=h;exact ⟨_,e⟩
 |fzr kvs=>obtain ⟨o,es,e,k,r⟩:=h;exact ⟨_,e⟩
 |dtr kvs=>obtain ⟨es,e,k,r⟩:=h;exact ⟨_,e⟩
def aJ.same (h:aJ K m H U)(s:∀a o,H a=some o->H' a=some o):aJ K m H' U :=
 ⟨h.nd,h.len,fun i c a e1 e2=>(h.cell i c a e1 e2).same s ⟨[],by simp⟩⟩
def aJ.mem (h:aJ K m H U){a:Addr}(ha:a∈m):∃o,H a=some o:=by
 obtain ⟨i,hi,e⟩:=zbo ha;have hi':i < U.length:=by rw [←h.len];exact hi
 exact (h.cell i U[i] a (zap hi') (by rw [←e];exact zap hi)).some
def aJ.fresh (h:aJ K m H U){p:Addr}(hp:H p=none):p∉m:=fun z=>by obtain ⟨o,e⟩:=h.mem z;rw [hp] at e;cases e
def aJ.nil:aJ K [] H []:=⟨.nil,rfl,fun i c a e=>by simp at e⟩
def c8 {p:Addr}{o:HO}(hp:H p=none):∀a u,H a=some u->upd H p o a=some u:=fun a u e=>by unfold upd;rw [if_neg (fun z=>by rw [z,hp] at e;cases e)];exact e
def nJ {p:Addr}{o:HO}{a:Addr}(h:upd H p o a=none):H a=none:=by
 unfold upd at h;split at h
 ·cases h
 ·exact h
def cM {p:Addr}{o:HO}:upd H p o p=some o:=by unfold upd;rw [if_pos rfl]
def dz.new {p:Addr}{o:HO}(hp:H p=none):dz m H m (upd H p o) :=
 ⟨⟨[],by simp⟩,.of (c8 hp),fun a u e _=>c8 hp a u e,fun _ h=>nJ h⟩
def dz.newH {p:Addr}{o:HO}(hp:H p=none):dz m H (m++[p]) (upd H p o) :=
 ⟨⟨[p],rfl,fun a h=>by rw [zav.mp h];exact hp⟩,.of (c8 hp),fun a u e _=>c8 hp a u e,fun _ h=>nJ h⟩
def aJ.newH {p:Addr}{o:HO}{c:au}(h:aJ K m H U)(hp:H p=none)(hc:gr K (m++[p]) (upd H p o) c p):aJ K (m++[p]) (upd H p o) (U++[c]):=by
 refine ⟨?_,by simp [h.len],fun i c' a e1 e2=>?_⟩
 ·refine zbd.mpr ⟨h.nd,by simp,fun a ha b hb=>?_⟩;rw [zav.mp hb];rintro rfl;exact h.fresh hp ha
 ·by_cases hi:i < m.length
  ·rw [zai hi] at e2;rw [zai (by rw [←h.len];exact hi)] at e1;exact (h.cell i c' a e1 e2).same (c8 hp) ⟨[p],rfl⟩
  ·rw [zaJ (by omega)] at e2;rw [zaJ (by have:=h.len;omega)] at e1;have hl:=h.len;have:i - m.length=0:=by
    cases q:i - m.length with
    |zero=>rfl
    |succ k=>rw [q] at e2;simp at e2
   have e3:i - U.length=0:=(by omega);rw [this] at e2;rw [e3] at e1;simp at e1 e2;subst e1 e2;exact hc
def dz.put {a:Addr}{o o':HO}(ha:a∈m)(e:H a=some o)(ho:∀xs,o≠.tup xs)(hf:∀x u,o≠.frz x u):dz m H m (upd H a o'):=by
 have ne:∀b u,H b=some u->u≠o->b≠a:=fun b u q n z=>by rw [z,e] at q;exact n (Option.some.inj q).symm
 refine ⟨⟨[],by simp⟩,⟨fun b xs q=>?_,fun b x u q=>?_⟩,fun b u q n=>?_,fun b h=>nJ h⟩
 ·unfold upd;rw [if_neg (ne b _ q fun z=>ho xs z.symm)];exact q
 ·unfold upd;rw [if_neg (ne b _ q fun z=>hf x u z.symm)];exact q
 ·unfold upd;rw [if_neg (fun z:b=a=>n (by rw [z];exact ha))];exact q
def aJ.put {n:Nat}{a:Addr}{o o':HO}{c:au}(h:aJ K m H U)(hn:m[n]?=some a)(e:H a=some o)(ho:∀xs,o≠.tup xs)(hf:∀x u,o≠.frz x u)(hc:gr K m (upd H a o') c a):aJ K m (upd H a o') (U.set n c):=by
 have ha:a∈m:=zaO hn;have x:dz m H m (upd H a o'):=.put ha e ho hf;refine ⟨h.nd,by simp [h.len],fun i c' b e1 e2=>?_⟩;by_cases hi:i=n
 ·subst hi;rw [hn] at e2;cases e2;rw [zaR (by have:=(zas.mp hn).1;have:=h.len;omega)] at e1;cases e1;exact hc
 ·rw [zax (Ne.symm hi)] at e1;have nb:b≠a:=by rintro rfl;obtain ⟨h1,q1⟩:=zas.mp e2;obtain ⟨h2,q2⟩:=zas.mp hn;exact hi ((zbK h.nd).mp (q1.trans q2.symm))
  have at':∀u,H b=some u->upd H a o' b=some u:=fun u q=>by unfold upd;rw [if_neg nb];exact q
  have z:=h.cell i c' b e1 e2
  cases c' with
  |lst xs=>obtain ⟨vs,e,r⟩:=z;exact ⟨vs,at' _ e,RelDs.tf x.tf _ _ r⟩
  |fz xs=>obtain ⟨o,vs,e,r⟩:=z;exact ⟨o,vs,at' _ e,RelDs.tf x.tf _ _ r⟩
  |dct kvs=>obtain ⟨es,e,k,r⟩:=z;exact ⟨es,at' _ e,k,RelDs.tf x.tf _ _ r⟩
  |fzd kvs=>obtain ⟨o,es,e,k,r⟩:=z;exact ⟨o,es,at' _ e,k,RelDs.tf x.tf _ _ r⟩
  |fzt kvs=>obtain ⟨o,es,e,k,r⟩:=z;exact ⟨o,es,at' _ e,k,RelDs.tf x.tf _ _ r⟩
  |dr kvs=>obtain ⟨es,e,k,r⟩:=z;exact ⟨es,at' _ e,k,aQ.tfm x.tf ⟨[],by simp⟩ r⟩
  |lr xs=>obtain ⟨vs,e,r⟩:=z;exact ⟨vs,at' _ e,aQ.tfm x.tf ⟨[],by simp⟩ r⟩
  |dt kvs=>obtain ⟨es,e,k,r⟩:=z;exact ⟨es,at' _ e,k,RelDs.tf x.tf _ _ r⟩
  |tb P q=>obtain ⟨e,ps,k,r⟩:=z;subst e;exact ⟨rfl,ps,at' _ k,r.mono x.tf.frz⟩
  |ob c fs=>obtain ⟨C,dx,es,n,e,k,r⟩:=z;exact ⟨C,dx,es,n,at' _ e,k,aQ.tfm x.tf ⟨[],by simp⟩ r⟩
  |tr xs=>obtain ⟨vs,e,r⟩:=z;exact ⟨vs,at' _ e,aQ.tfm x.tf ⟨[],by simp⟩ r⟩
  |fzr kvs=>obtain ⟨o,es,e,k,r⟩:=z;exact ⟨o,es,at' _ e,k,aQ.tfm x.tf ⟨[],by simp⟩ r⟩
  |dtr kvs=>obtain ⟨es,e,k,r⟩:=z;exact ⟨es,at' _ e,k,aQ.tfm x.tf ⟨[],by simp⟩ r⟩
end
def aq (K:zac)(f:FE):TE:=fun Y H Q=>∃O U m d U',dD K m H O Y/\aJ K m H U/\f O U=some (d,U') /\
 ∀v H' m',dz m H m' H'->aJ K m' H' U'->ap K m' H' d v->Q v H'
def eX (K:zac)(f:FT):TT:=fun Y H Q=>∃O U m b U',dD K m H O Y/\aJ K m H U/\f O U=some (b,U') /\
 ∀H' m',dz m H m' H'->aJ K m' H' U'->Q b H'
def fY (K:zac)(f:FA):TA:=fun Y H Q=>∃O U m ds U',dD K m H O Y/\aJ K m H U/\f O U=some (ds,U') /\
 ∀vs H' m',dz m H m' H'->aJ K m' H' U'->aQ K m' H' ds vs->Q vs H'
def d6.of (K:zac)(m:Tf)(H:Hp)(D:d6):nF->Prop
 |.nx O U=>∀Y H' m',dz m H m' H'->aJ K m' H' U->dD K m' H' O Y->D.nx Y H'
 |.bk O U=>∀Y H' m',dz m H m' H'->aJ K m' H' U->dD K m' H' O Y->D.bk Y H'
 |.ct O U=>∀Y H' m',dz m H m' H'->aJ K m' H' U->dD K m' H' O Y->D.ct Y H'
 |.rt d U=>∀v H' m',dz m H m' H'->aJ K m' H' U->ap K m' H' d v->D.rt v H'
def eI (K:zac)(f:FS):TS:=fun D Y H=>∃O U m out,dD K m H O Y/\aJ K m H U/\f O U=some out/\d6.of K m H D out
def ae (i:Nat):FE:=fun O U=>match O[i]? with|some (some d)=>some (d,U)|_=>none
def fK (d:D):FE:=fun _ U=>some (.v d,U)
def ao (g:R->R->ac->Option (R×ac))(fa fb:FE):FE:=fun O U=>(fa O U).bind fun a=>(fb O a.2).bind fun b=>g a.1 b.1 b.2
def iV (g:R->ac->Option (R×ac))(fa:FE):FE:=fun O U=>(fa O U).bind fun a=>g a.1 a.2
def pp (K:zac)(g:R->R->ac->Option (R×ac))(r:R2):Prop :=
 ∀m H U x y d U' v u Q,aJ K m H U->ap K m H x v->ap K m H y u->g x y U=some (d,U')->(∀w H' m',dz m H m' H'->aJ K m' H' U'->ap K m' H' d w->Q w H')->r v u H Q
def PL (K:zac)(g:R->ac->Option (R×ac))(r:V->Hp->VK->Prop):Prop :=
 ∀m H U x d U' v Q,aJ K m H U->ap K m H x v->g x U=some (d,U')->(∀w H' m',dz m H m' H'->aJ K m' H' U'->ap K m' H' d w->Q w H')->r v H Q
def vZ (K:zac)(g:List R->ac->Option (R×ac))(r:List V->Hp->VK->Prop):Prop :=
 ∀m H U xs d U' vs Q,aJ K m H U->aQ K m H xs vs->g xs U=some (d,U')->(∀w H' m',dz m H m' H'->aJ K m' H' U'->ap K m' H' d w->Q w H')->r vs H Q
def aj:FA:=fun _ U=>some ([],U)
def ad (fa:FE)(fr:FA):FA:=fun O U=>(fa O U).bind fun a=>(fr O a.2).bind fun r=>some (a.1::r.1,r.2)
def dN (g:List R->ac->Option (R×ac))(fa:FA):FE:=fun O U=>(fa O U).bind fun a=>g a.1 a.2
section
variable {K:zac}{Y:St}{H:Hp}{Q:VK}
def GF {i:Nat}(h:aq K (ae i) Y H Q):J1 i Y H Q:=by
 obtain ⟨O,U,m,d,U',hl,hs,e,k⟩:=h;unfold ae at e;split at e
 ·rename_i d' q
  cases e;obtain ⟨v,q1,q2⟩:=hl.2 i _ q;exact ⟨v,q1,k v H m .refl hs q2⟩
 ·cases e
def jg {d:D}{v:V}(hv:∀m H,ap K m H (.v d) v)(h:aq K (fK d) Y H Q):tC v Y H Q:=by obtain ⟨O,U,m,d',U',hl,hs,e,k⟩:=h;cases e;exact k v H m .refl hs (hv _ _)
def fX {g r fa fb}(hg:pp K g r)(h:aq K (ao g fa fb) Y H Q):Gk r (aq K fa) (aq K fb) Y H Q:=by obtain ⟨O,U,m,d,U',hl,hs,e,k⟩:=h;obtain ⟨⟨x,U1⟩,e1,e⟩:=zab.mp e;obtain ⟨⟨y,U2⟩,e2,e⟩:=zab.mp e;refine ⟨O,U,m,x,U1,hl,hs,e1,fun v H1 m1 x1 s1 r1=>?_⟩;refine ⟨O,U1,m1,y,U2,hl.ext x1,s1,e2,fun u H2 m2 x2 s2 r2=>?_⟩;exact hg m2 H2 U2 x y d U' v u Q s2 (r1.ext x2) r2 e fun w H3 m3 x3 s3 r3=>k w H3 m3 ((x1.trans x2).trans x3) s3 r3
def Kn {g r fa}(hg:PL K g r)(h:aq K (iV g fa) Y H Q):OZ r (aq K fa) Y H Q:=by obtain ⟨O,U,m,d,U',hl,hs,e,k⟩:=h;obtain ⟨⟨x,U1⟩,e1,e⟩:=zab.mp e;refine ⟨O,U,m,x,U1,hl,hs,e1,fun v H1 m1 x1 s1 r1=>?_⟩;exact hg m1 H1 U1 x d U' v Q s1 r1 e fun w H3 m3 x3 s3 r3=>k w H3 m3 (x1.trans x3) s3 r3
theorem GQ {Q:List V->Hp->Prop}(h:fY K aj Y H Q):Cs Y H Q:=by obtain ⟨O,U,m,ds,U',hl,hs,e,k⟩:=h;cases e;exact k [] H m .refl hs rfl
def CV {fa fr}{Q:List V->Hp->Prop}(h:fY K (ad fa fr) Y H Q):so (aq K fa) (fY K fr) Y H Q:=by obtain ⟨O,U,m,ds,U',hl,hs,e,k⟩:=h;obtain ⟨⟨x,U1⟩,e1,e⟩:=zab.mp e;obtain ⟨⟨xs,U2⟩,e2,e⟩:=zab.mp e;cases e;refine ⟨O,U,m,x,U1,hl,hs,e1,fun v H1 m1 x1 s1 r1=>?_⟩;refine ⟨O,U1,m1,xs,U2,hl.ext x1,s1,e2,fun vs H2 m2 x2 s2 r2=>?_⟩;exact k (v::vs) H2 m2 (x1.trans x2) s2 ⟨v,vs,rfl,r1.ext x2,r2⟩
def g6 {g r fa}(hg:vZ K g r)(h:aq K (dN g fa) Y H Q):Md r (fY K fa) Y H Q:=by obtain ⟨O,U,m,d,U',hl,hs,e,k⟩:=h;obtain ⟨⟨xs,U1⟩,e1,e⟩:=zab.mp e;refine ⟨O,U,m,xs,U1,hl,hs,e1,fun vs H1 m1 x1 s1 r1=>?_⟩;exact hg m1 H1 U1 xs d U' vs Q s1 r1 e fun w H3 m3 x3 s3 r3=>k w H3 m3 (x1.trans x3) s3 r3
end
def fB (fa:FE):FT:=fun O U=>(fa O U).bind fun a=>match a.1 with|.v (.bl b)=>some (b,a.2)|_=>none
def za:R->ac->Option Bool
 |.v .non,_=>some false
 |.v (.bl b),_=>some b
 |.v (.int i),_=>some (i != 0)
 |.v (.str x),_=>if x.length<=sizeLine then some ((x.length:Int) != 0) else none
 |.v (.tup xs),_=>some (!xs.isEmpty)
 |.v (.fl xs),_=>some (!xs.isEmpty)
 |.v (.fd _ _),_=>none
 |.v (.key _),_=>none
 |.s _ _,_=>none
 |.x _,_=>none
 |.f _ _,_=>none
 |.p n,U=>match U[n]? with|some (.lst xs)=>some (!xs.isEmpty)|some (.fz xs)=>some (!xs.isEmpty)|some (.dct kvs)=>some (!kvs.isEmpty)|_=>none
def iW (fa:FE):FT:=fun O U=>(fa O U).bind fun a=>(za a.1 a.2).bind fun b=>some (b,a.2)
def fS (t u:FT):FT:=fun O U=>(t O U).bind fun c=>if c.1=true then u O c.2 else some (false,c.2)
def Cr (t u:FT):FT:=fun O U=>(t O U).bind fun c=>if c.1=true then some (true,c.2) else u O c.2
def mw (t:FT):FT:=fun O U=>(t O U).bind fun c=>some (!c.1,c.2)
def rk (fa fb:FE):FE:=fun O U=>(fa O U).bind fun a=>match a.1 with|.v (.bl c)=>if c=true then fb O a.2 else some (.v (.bl false),a.2)|_=>none
def LD (fa fb:FE):FE:=fun O U=>(fa O U).bind fun a=>match a.1 with|.v (.bl c)=>if c=true then some (.v (.bl true),a.2) else fb O a.2|_=>none
def l7 (fa:FE):FE:=fun O U=>(fa O U).bind fun a=>match a.1 with|.v (.bl c)=>some (.v (.bl (!c)),a.2)|_=>none
def DX (t:FT)(fa fb:FE):FE:=fun O U=>(t O U).bind fun c=>if c.1=true then fa O c.2 else fb O c.2
theorem RelDs.length {K:zac}{H:Hp}:∀{ds:List D} {vs:List V},RelDs K H ds vs->ds.length=vs.length
 |[],_,h=>by simp only [RelDs] at h;subst h;rfl
 |_::_,_,h=>by simp only [RelDs] at h;obtain ⟨v,r,rfl,_,h2⟩:=h;simp [RelDs.length h2]
def RelDs.empty {K:zac}{H:Hp}{ds:List D}{vs:List V}(h:RelDs K H ds vs):ds.isEmpty=vs.isEmpty:=by have:=h.length;cases ds <;> cases vs <;> simp_all
section
variable {K:zac}{Y:St}{H:Hp}{Q:VK}{B:Bool->Hp->Prop}
def Nh {fa}(h:eX K (fB fa) Y H B):tB (aq K fa) Y H B:=by
 obtain ⟨O,U,m,d,U',hl,hs,e,k⟩:=h;obtain ⟨⟨x,U1⟩,e1,e⟩:=zab.mp e;split at e
 ·rename_i b q
  cases e;subst q;exact ⟨O,U,m,_,U1,hl,hs,e1,fun v H1 m1 x1 s1 r1=>⟨_,by simpa only [ap,ak] using r1,k H1 m1 x1 s1⟩⟩
 ·cases e
def wt {fa}(h:eX K (fB fa) Y H B):E8 (aq K fa) Y H B:=Nh h
theorem uO {m:Tf}{U:ac}{x:R}{b:Bool}{v:V}(s:aJ K m H U)(r:ap K m H x v)(e:za x U=some b):Er K v H b:=by
 cases x with
 |v d =>
  cases d with
  |non=>cases e;cases r;rfl
  |bl c=>cases e;simp only [ap,ak] at r;subst r;rfl
  |int i=>cases e;simp only [ap,ak] at r;subst r;rfl
  |str x =>
   simp only [ap,ak] at r;subst r;simp only [za] at e;split at e
   ·rename_i z;cases e;exact ⟨z,rfl⟩
   ·cases e
  |tup xs =>
   cases e;simp only [ap,ak] at r;obtain ⟨a,vs,rfl,q,r⟩:=r;exact .inr (.inl ⟨vs,q,by rw [r.empty]⟩)
  |fl xs =>
   cases e;simp only [ap,ak] at r;obtain ⟨a,vs,rfl,q,r⟩:=r;exact .inl ⟨vs,q.sq,by rw [r.empty]⟩
  |fd ks ds=>cases e
  |key ks=>cases e
 |s b xs=>cases e
 |x _=>cases e
 |f _ _=>cases e
 |p n =>
  obtain ⟨a,rfl,ha⟩:=r;simp only [za] at e;split at e
  ·rename_i xs q
   cases e;obtain ⟨vs,e,r⟩:=s.cell n _ a q ha;exact .inl ⟨vs,.inl (.inl e),by rw [r.empty]⟩
  ·rename_i xs q
   cases e;obtain ⟨o,vs,e,r⟩:=s.cell n _ a q ha;exact .inl ⟨vs,.inl (.inr ⟨o,e⟩),by rw [r.empty]⟩
  ·rename_i kvs q
   cases e;obtain ⟨es,e,k,r⟩:=s.cell n _ a q ha;refine .inr (.inr ⟨es,e,?_⟩);have:=congrArg List.length k;cases es <;> cases kvs <;> simp_all
  ·cases e
def GI {fa}(h:eX K (iW fa) Y H B):(fun Y H (Q:Bool->Hp->Prop)=>aq K fa Y H fun x H1=>∃k,Er K x H1 k/\Q k H1) Y H B:=by obtain ⟨O,U,m,d,U',hl,hs,e,k⟩:=h;obtain ⟨⟨x,U1⟩,e1,e⟩:=zab.mp e;obtain ⟨b,e2,e⟩:=zab.mp e;cases e;exact ⟨O,U,m,x,_,hl,hs,e1,fun v H1 m1 x1 s1 r1=>⟨_,uO s1 r1 e2,k H1 m1 x1 s1⟩⟩
theorem CL {t u}(h:eX K (fS t u) Y H B):Ka (eX K t) (eX K u) Y H B:=by
 obtain ⟨O,U,m,d,U',hl,hs,e,k⟩:=h;obtain ⟨⟨c,U1⟩,e1,e⟩:=zab.mp e;refine ⟨O,U,m,c,U1,hl,hs,e1,fun H1 m1 x1 s1=>?_⟩
 cases c with
 |true=>exact ⟨O,U1,m1,d,U',hl.ext x1,s1,e,fun H2 m2 x2 s2=>k H2 m2 (x1.trans x2) s2⟩
 |false=>cases e;exact k H1 m1 x1 s1
theorem GJ {t u}(h:eX K (Cr t u) Y H B):O0 (eX K t) (eX K u) Y H B:=by
 obtain ⟨O,U,m,d,U',hl,hs,e,k⟩:=h;obtain ⟨⟨c,U1⟩,e1,e⟩:=zab.mp e;refine ⟨O,U,m,c,U1,hl,hs,e1,fun H1 m1 x1 s1=>?_⟩
 cases c with
 |false=>exact ⟨O,U1,m1,d,U',hl.ext x1,s1,e,fun H2 m2 x2 s2=>k H2 m2 (x1.trans x2) s2⟩
 |true=>cases e;exact k H1 m1 x1 s1
def CK {t}(h:eX K (mw t) Y H B):J6 (eX K t) Y H B:=by obtain ⟨O,U,m,d,U',hl,hs,e,k⟩:=h;obtain ⟨⟨c,U1⟩,e1,e⟩:=zab.mp e;cases e;exact ⟨O,U,m,c,U1,hl,hs,e1,fun H1 m1 x1 s1=>k H1 m1 x1 s1⟩
def Ha {fa fb}(h:aq K (rk fa fb) Y H Q):Ff (aq K fa) (aq K fb) Y H Q:=by
 obtain ⟨O,U,m,d,U',hl,hs,e,k⟩:=h;obtain ⟨⟨x,U1⟩,e1,e⟩:=zab.mp e;split at e
 ·rename_i c q;subst q;refine ⟨O,U,m,_,U1,hl,hs,e1,fun v H1 m1 x1 s1 r1=>⟨c,by simpa only [ap,ak] using r1,?_⟩⟩
  cases c with
  |true=>exact ⟨O,U1,m1,d,U',hl.ext x1,s1,e,fun w H2 m2 x2 s2 r2=>k w H2 m2 (x1.trans x2) s2 r2⟩
  |false=>cases e;exact k _ H1 m1 x1 s1 (by simp only [ap,ak])
 ·cases e
def Kp {fa fb}(h:aq K (LD fa fb) Y H Q):J5 (aq K fa) (aq K fb) Y H Q:=by
 obtain ⟨O,U,m,d,U',hl,hs,e,k⟩:=h;obtain ⟨⟨x,U1⟩,e1,e⟩:=zab.mp e;split at e
 ·rename_i c q;subst q;refine ⟨O,U,m,_,U1,hl,hs,e1,fun v H1 m1 x1 s1 r1=>⟨c,by simpa only [ap,ak] using r1,?_⟩⟩
  cases c with
  |false=>exact ⟨O,U1,m1,d,U',hl.ext x1,s1,e,fun w H2 m2 x2 s2 r2=>k w H2 m2 (x1.trans x2) s2 r2⟩
  |true=>cases e;exact k _ H1 m1 x1 s1 (by simp only [ap,ak])
 ·cases e
def GP {fa}(h:aq K (l7 fa) Y H Q):Fa (aq K fa) Y H Q:=by
 obtain ⟨O,U,m,d,U',hl,hs,e,k⟩:=h;obtain ⟨⟨x,U1⟩,e1,e⟩:=zab.mp e;split at e
 ·rename_i c q
  cases e;subst q;exact ⟨O,U,m,_,U1,hl,hs,e1,fun v H1 m1 x1 s1 r1=>⟨c,by simpa only [ap,ak] using r1,k _ H1 m1 x1 s1 (by simp only [ap,ak])⟩⟩
 ·cases e
theorem Kr {t fa fb}(h:aq K (DX t fa fb) Y H Q):O1z (eX K t) (aq K fa) (aq K fb) Y H Q:=by
 obtain ⟨O,U,m,d,U',hl,hs,e,k⟩:=h;obtain ⟨⟨c,U1⟩,e1,e⟩:=zab.mp e;refine ⟨O,U,m,c,U1,hl,hs,e1,fun H1 m1 x1 s1=>?_⟩
 cases c with
 |true=>exact ⟨O,U1,m1,d,U',hl.ext x1,s1,e,fun w H2 m2 x2 s2 r2=>k w H2 m2 (x1.trans x2) s2 r2⟩
 |false=>exact ⟨O,U1,m1,d,U',hl.ext x1,s1,e,fun w H2 m2 x2 s2 r2=>k w H2 m2 (x1.trans x2) s2 r2⟩
end
def vals:List R->Option (List D)
 |[]=>some []
 |.v d::r=>(vals r).bind fun ds=>some (d::ds)
 |.p _::_=>none
 |.s _ _::_=>none
 |.x _::_=>none
 |.f _ _::_=>none
theorem kM {K:zac}{m:Tf}{H:Hp}:∀{rs:List R} {ds:List D} {vs:List V},vals rs=some ds->aQ K m H rs vs->RelDs K H ds vs
 |[],_,_,e,h=>by cases e;simp only [RelDs];exact h
 |.v d::r,_,_,e,⟨v,vs,rfl,h1,h2⟩=>by obtain ⟨ds,e1,e⟩:=zab.mp e;cases e;simp only [RelDs];exact ⟨v,vs,rfl,h1,kM e1 h2⟩
 |.p _::_,_,_,e,_=>by cases e
 |.s _ _::_,_,_,e,_=>by cases e
 |.x _::_,_,_,e,_=>by cases e
 |.f _ _::_,_,_,e,_=>by cases e
def c7 (fa:FA):FE:=fun O U=>(fa O U).bind fun a=>(vals a.1).bind fun ds=>if ds.length<=sizeLine then some (.v (.tup ds),a.2) else none
def cx (fa:FA):FE:=fun O U=>(fa O U).bind fun a=>(vals a.1).bind fun ds=>if ds.length<=sizeLine then some (.p a.2.length,a.2++[.lst ds]) else none
section
variable {K:zac}{m:Tf}{Y:St}{H:Hp}{Q:VK}{U:ac}
def kZ {ds:List D}{vs:List V}{p:Addr}(s:aJ K m H U)(r:RelDs K H ds vs)(hp:H p=none):dz m H m (upd H p (.tup vs))/\aJ K m (upd H p (.tup vs)) U/\ap K m (upd H p (.tup vs)) (.v (.tup ds)) (.ref p):=by refine ⟨.new hp,s.same (c8 hp),?_⟩;simp only [ap,ak];exact ⟨p,vs,rfl,.inl (.inl cM),RelDs.tf (.of (c8 hp)) _ _ r⟩
def iz {ds:List D}{vs:List V}{p:Addr}(s:aJ K m H U)(r:RelDs K H ds vs)(hp:H p=none):dz m H (m++[p]) (upd H p (.lst vs))/\aJ K (m++[p]) (upd H p (.lst vs)) (U++[.lst ds])/\ap K (m++[p]) (upd H p (.lst vs)) (.p U.length) (.ref p):=by refine ⟨.newH hp,s.newH hp ⟨vs,cM,RelDs.tf (.of (c8 hp)) _ _ r⟩,p,rfl,?_⟩;rw [←s.len];simp
def GG {fa}(h:aq K (c7 fa) Y H Q):J2 (fY K fa) Y H Q:=by
 obtain ⟨O,U,m,d,U',hl,hs,e,k⟩:=h;obtain ⟨⟨xs,U1⟩,e1,e⟩:=zab.mp e;obtain ⟨ds,e2,e⟩:=zab.mp e;split at e
 ·rename_i z
  cases e;refine ⟨O,U,m,xs,_,hl,hs,e1,fun vs H1 m1 x1 s1 r1=>?_⟩;have r2:=kM e2 r1;refine ⟨by rw [←r2.length];exact z,fun p hp=>?_⟩;obtain ⟨a,b,c⟩:=kZ s1 r2 hp;exact k _ _ _ (x1.trans a) b c
 ·cases e
def GR {fa}(h:aq K (cx fa) Y H Q):J7 (fY K fa) Y H Q:=by
 obtain ⟨O,U,m,d,U',hl,hs,e,k⟩:=h;obtain ⟨⟨xs,U1⟩,e1,e⟩:=zab.mp e;obtain ⟨ds,e2,e⟩:=zab.mp e;split at e
 ·rename_i z
  cases e;refine ⟨O,U,m,xs,_,hl,hs,e1,fun vs H1 m1 x1 s1 r1=>?_⟩;have r2:=kM e2 r1;refine ⟨by rw [←r2.length];exact z,fun p hp=>?_⟩;obtain ⟨a,b,c⟩:=iz s1 r2 hp;exact k _ _ _ (x1.trans a) b c
 ·cases e
end
def aM:FS:=fun O U=>some (.nx O U)
def az (a b:FS):FS:=fun O U=>(a O U).bind fun o=>match o with|.nx O' U'=>b O' U'|o=>some o
def cP (f:FE):FS:=fun O U=>(f O U).bind fun a=>some (.nx O a.2)
def bD (f:FE):FS:=fun O U=>(f O U).bind fun a=>some (.rt a.1 a.2)
def eW (t:FT)(a b:FS):FS:=fun O U=>(t O U).bind fun c=>if c.1=true then a O c.2 else b O c.2
def aD (i:Nat)(f:FE):FS:=fun O U=>(f O U).bind fun a=>some (.nx (O.set i (some a.1)) a.2)
section
variable {K:zac}{m m' m1:Tf}{Y:St}{H H' H1:Hp}{D:d6}{U:ac}{O:Lo}
theorem d6.of_ext {o:nF}(x:dz m H m1 H1)(h:d6.of K m H D o):d6.of K m1 H1 D o:=by
 cases o with
 |nx O U=>exact fun Y H' m' y=>h Y H' m' (x.trans y)
 |bk O U=>exact fun Y H' m' y=>h Y H' m' (x.trans y)
 |ct O U=>exact fun Y H' m' y=>h Y H' m' (x.trans y)
 |rt d U=>exact fun Y H' m' y=>h Y H' m' (x.trans y)
def dD.set {d:R}{v:V}(h:dD K m H O Y)(r:ap K m H d v)(i:Nat):dD K m H (O.set i (some d)) (Y.set i (some v)):=by
 refine ⟨by simp [h.1],fun j d' e=>?_⟩;by_cases hj:j=i
 ·subst hj;by_cases hi:j < O.length
  ·rw [zaR hi] at e
   cases e;exact ⟨v,zaR (by rw [←h.1];exact hi),r⟩
  ·rw [zcd (by simp;omega)] at e
   cases e
 ·rw [zax (Ne.symm hj)] at e;obtain ⟨u,q1,q2⟩:=h.2 j d' e;exact ⟨u,by rw [zax (Ne.symm hj)];exact q1,q2⟩
def CO (h:eI K aM D Y H):Fb D Y H:=by obtain ⟨O,U,m,o,hl,hs,e,k⟩:=h;cases e;exact k Y H m .refl hs hl
theorem GL {a b}(h:eI K (az a b) D Y H):J3 (eI K a) (eI K b) D Y H:=by
 obtain ⟨O,U,m,o,hl,hs,e,k⟩:=h;obtain ⟨o1,e1,e⟩:=zab.mp e;refine ⟨O,U,m,o1,hl,hs,e1,?_⟩
 cases o1 with
 |nx O1 U1=>exact fun Y1 H1 m1 x1 s1 l1=>⟨O1,U1,m1,o,l1,s1,e,d6.of_ext x1 k⟩
 |bk O1 U1=>cases e;exact k
 |ct O1 U1=>cases e;exact k
 |rt d U1=>cases e;exact k
def CU {f}(h:eI K (cP f) D Y H):Fe (aq K f) D Y H:=by obtain ⟨O,U,m,o,hl,hs,e,k⟩:=h;obtain ⟨⟨x,U1⟩,e1,e⟩:=zab.mp e;cases e;exact ⟨O,U,m,x,U1,hl,hs,e1,fun v H1 m1 x1 s1 r1=>k Y H1 m1 x1 s1 (hl.ext x1)⟩
def GN {f}(h:eI K (bD f) D Y H):J4 (aq K f) D Y H:=by obtain ⟨O,U,m,o,hl,hs,e,k⟩:=h;obtain ⟨⟨x,U1⟩,e1,e⟩:=zab.mp e;cases e;exact ⟨O,U,m,x,U1,hl,hs,e1,k⟩
theorem GV {t a b}(h:eI K (eW t a b) D Y H):J8 (eX K t) (eI K a) (eI K b) D Y H:=by
 obtain ⟨O,U,m,o,hl,hs,e,k⟩:=h;obtain ⟨⟨c,U1⟩,e1,e⟩:=zab.mp e;refine ⟨O,U,m,c,U1,hl,hs,e1,fun H1 m1 x1 s1=>?_⟩
 cases c with
 |true=>exact ⟨O,U1,m1,o,hl.ext x1,s1,e,d6.of_ext x1 k⟩
 |false=>exact ⟨O,U1,m1,o,hl.ext x1,s1,e,d6.of_ext x1 k⟩
def zU {i f}(h:eI K (aD i f) D Y H):zB (aq K f) (p6 i) D Y H:=by obtain ⟨O,U,m,o,hl,hs,e,k⟩:=h;obtain ⟨⟨x,U1⟩,e1,e⟩:=zab.mp e;cases e;exact ⟨O,U,m,x,U1,hl,hs,e1,fun v H1 m1 x1 s1 r1=>k _ H1 m1 x1 s1 ((hl.ext x1).set r1 i)⟩
end
abbrev FG:=R->Lo->ac->Option (Lo×ac)
def qJ (K:zac)(g:FG):TG:=fun v Y H Q=>∃O U m d O' U',dD K m H O Y/\aJ K m H U/\ap K m H d v/\g d O U=some (O',U') /\
 ∀Y' H' m',dz m H m' H'->aJ K m' H' U'->dD K m' H' O' Y'->Q Y' H'
abbrev F4:=List R->Lo->ac->Option (Lo×ac)
def sG (K:zac)(g:F4):Cf:=fun vs Y H Q=>∃O U m ds O' U',dD K m H O Y/\aJ K m H U/\aQ K m H ds vs/\g ds O U=some (O',U') /\
 ∀Y' H' m',dz m H m' H'->aJ K m' H' U'->dD K m' H' O' Y'->Q Y' H'
def bZ (i:Nat):FG:=fun d O U=>some (O.set i (some d),U)
def gd:F4:=fun ds O U=>match ds with|[]=>some (O,U)|_=>none
def aZ (g:FG)(r:F4):F4:=fun ds O U=>match ds with|[]=>none|d::ds=>(g d O U).bind fun a=>r ds a.1 a.2
def uz (n:Nat)(g:F4):FG:=fun d O U=>match d with|.v (.tup xs)=>if xs.length=n then g (xs.map .v) O U else none|_=>none
def pA (f:FE)(g:FG):FS:=fun O U=>(f O U).bind fun a=>(g a.1 O a.2).bind fun b=>some (.nx b.1 b.2)
section
variable {K:zac}{m m1:Tf}{Y:St}{H H1:Hp}{D:d6}{U:ac}{O:Lo}{v:V}{Q:St->Hp->Prop}
def G0 {i}(h:qJ K (bZ i) v Y H Q):p6 i v Y H Q:=by obtain ⟨O,U,m,d,O',U',hl,hs,r,e,k⟩:=h;cases e;exact k _ H m .refl hs (hl.set r i)
theorem zY {vs}(h:sG K gd vs Y H Q):LB vs Y H Q:=by
 obtain ⟨O,U,m,ds,O',U',hl,hs,r,e,k⟩:=h
 cases ds with
 |nil=>cases e;exact ⟨r,k Y H m .refl hs hl⟩
 |cons d ds=>cases e
theorem xF {g r vs}(h:sG K (aZ g r) vs Y H Q):FQ (qJ K g) (sG K r) vs Y H Q:=by
 obtain ⟨O,U,m,ds,O',U',hl,hs,rr,e,k⟩:=h
 cases ds with
 |nil=>cases e
 |cons d ds =>
  obtain ⟨v,vr,rfl,r1,r2⟩:=rr;obtain ⟨⟨O1,U1⟩,e1,e⟩:=zab.mp e;refine ⟨v,vr,rfl,O,U,m,d,O1,U1,hl,hs,r1,e1,fun Y1 H1 m1 x1 s1 l1=>?_⟩;exact ⟨O1,U1,m1,ds,O',U',l1,s1,r2.ext x1,e,fun Y2 H2 m2 x2 s2 l2=>k Y2 H2 m2 (x1.trans x2) s2 l2⟩
theorem RelDs.rs:∀{ds:List HW.D} {vs:List V},RelDs K H ds vs->aQ K m H (ds.map .v) vs
 |[],_,h=>by simp only [RelDs] at h;exact h
 |d::ds,_,h=>by simp only [RelDs] at h;obtain ⟨v,r,rfl,h1,h2⟩:=h;exact ⟨v,r,rfl,h1,RelDs.rs h2⟩
def GZ {n g}(h:qJ K (uz n g) v Y H Q):LA K n (sG K g) v Y H Q:=by
 obtain ⟨O,U,m,d,O',U',hl,hs,r,e,k⟩:=h;unfold uz at e;split at e
 ·rename_i xs;split at e
  ·rename_i hn;simp only [ap,ak] at r;obtain ⟨a,vs,rfl,q,rr⟩:=r;exact ⟨a,vs,rfl,q,by rw [←rr.length];exact hn,O,U,m,_,O',U',hl,hs,rr.rs,e,k⟩
  ·cases e
 ·cases e
def G9 {f g}(h:eI K (pA f g) D Y H):zB (aq K f) (qJ K g) D Y H:=by obtain ⟨O,U,m,o,hl,hs,e,k⟩:=h;obtain ⟨⟨x,U1⟩,e1,e⟩:=zab.mp e;obtain ⟨⟨O2,U2⟩,e2,e⟩:=zab.mp e;cases e;exact ⟨O,U,m,x,U1,hl,hs,e1,fun v H1 m1 x1 s1 r1=>⟨O,U1,m1,x,O2,U2,hl.ext x1,s1,r1,e2,fun Y2 H2 m2 x2 s2 l2=>k Y2 H2 m2 (x1.trans x2) s2 l2⟩⟩
end
def fO:HO->Prop
 |.lst _=>True
 |.set _ _=>True
 |.dK _=>True
 |.dT _=>True
 |_=>False
def Mc (t:TE):TE:=fun Y H Q=>t Y H fun v H1=>Q v H1\/∃a u,H1 a=some u/\fO u/\∀o,Q v (upd H1 a (.frz o u))
def Cd:R->ac->Option (D×ac)
 |.v d,U=>some (d,U)
 |.s _ _,_=>none
 |.x _,_=>none
 |.f _ _,_=>none
 |.p n,U=>match U[n]? with|some (.lst xs)=>some (.fl xs,U.set n (.fz xs))|some (.fz xs)=>some (.fl xs,U)|some (.dct kvs)=>some (.fd (kvs.map (·.1)) (kvs.map (·.2)),U.set n (.fzd kvs))|some (.fzd kvs)=>some (.fd (kvs.map (·.1)) (kvs.map (·.2)),U)|_=>none
def bT (f:FE):FE:=fun O U=>(f O U).bind fun a=>(Cd a.1 a.2).bind fun b=>some (.v b.1,b.2)
section
variable {K:zac}{m:Tf}{Y:St}{H:Hp}{U:ac}{Q:VK}
theorem FU {x:R}{d:D}{U':ac}{v:V}{B:Hp->Prop}(hs:aJ K m H U)(r:ap K m H x v)(e:Cd x U=some (d,U'))
  (k:∀H',dz m H m H'->aJ K m H' U'->ak K H' d v->B H'):B H\/∃a u,H a=some u/\fO u/\∀o,B (upd H a (.frz o u)):=by
 cases x with
 |v d'=>cases e;exact .inl (k H .refl hs r)
 |s b xs=>cases e
 |x _=>cases e
 |f _ _=>cases e
 |p n =>
  obtain ⟨a,rfl,ha⟩:=r;simp only [Cd] at e;split at e
  ·rename_i xs q
   cases e;obtain ⟨vs,ea,rr⟩:=hs.cell n _ a q ha;refine .inr ⟨a,_,ea,trivial,fun o=>?_⟩;have x:dz m H m (upd H a (.frz o (.lst vs))):=.put (zaO ha) ea (by simp) (by simp);refine k _ x (hs.put ha ea (by simp) (by simp) ⟨o,vs,cM,RelDs.tf x.tf _ _ rr⟩) ?_;simp only [ak];exact ⟨a,vs,rfl,.inl ⟨o,cM⟩,RelDs.tf x.tf _ _ rr⟩
  ·rename_i xs q
   cases e;obtain ⟨o,vs,ea,rr⟩:=hs.cell n _ a q ha;refine .inl (k H .refl hs ?_);simp only [ak];exact ⟨a,vs,rfl,.inl ⟨o,ea⟩,rr⟩
  ·rename_i kvs q
   cases e;obtain ⟨es,ea,ke,rr⟩:=hs.cell n _ a q ha;refine .inr ⟨a,_,ea,trivial,fun o=>?_⟩;have x:dz m H m (upd H a (.frz o (.dK es))):=.put (zaO ha) ea (by simp) (by simp);refine k _ x (hs.put ha ea (by simp) (by simp) ⟨o,es,cM,ke,RelDs.tf x.tf _ _ rr⟩) ?_;simp only [ak];exact ⟨a,o,es,rfl,cM,ke,RelDs.tf x.tf _ _ rr⟩
  ·rename_i kvs q
   cases e;obtain ⟨o,es,ea,ke,rr⟩:=hs.cell n _ a q ha;refine .inl (k H .refl hs ?_);simp only [ak];exact ⟨a,o,es,rfl,ea,ke,rr⟩
  ·cases e
def Fm {f}(h:aq K (bT f) Y H Q):Mc (aq K f) Y H Q:=by obtain ⟨O,U,m,d,U',hl,hs,e,k⟩:=h;obtain ⟨⟨x,U1⟩,e1,e⟩:=zab.mp e;obtain ⟨⟨d1,U2⟩,e2,e⟩:=zab.mp e;cases e;refine ⟨O,U,m,x,U1,hl,hs,e1,fun v H1 m1 x1 s1 r1=>?_⟩;exact FU (B:=fun H'=>Q v H') s1 r1 e2 fun H' y s2 r2=>k v H' m1 (x1.trans y) s2 r2
end
abbrev FI:=Lo->ac->Option (List D×ac)
structure B7 (K:zac)(J:It)(xs:List D)(P:Hp->Prop):Prop where
 st:∀H H',TF H H'->P H->P H'
 stop:∀i H,P H->xs.length<=i->J.stop i H
 go:∀(i:Nat) d H,xs[i]?=some d->P H->J.go i H
 yld:∀(i:Nat) d H x H',xs[i]?=some d->P H->J.yld i H x H'->H'=H/\ak K H d x
def xH (K:zac)(f:FI):TI:=fun Y H R=>∃O U m xs U',dD K m H O Y/\aJ K m H U/\f O U=some (xs,U') /\
 ∀J P H' m',dz m H m' H'->aJ K m' H' U'->B7 K J xs P->P H'->R J H'
def dl (g:FG)(b:FS):List D->Lo->ac->Option nF
 |[],O,U=>some (.nx O U)
 |x::xs,O,U=>(g (.v x) O U).bind fun a=>(b a.1 a.2).bind fun o=>match o with
  |.nx O' U'=>dl g b xs O' U'
  |.ct O' U'=>dl g b xs O' U'
  |.bk O' U'=>some (.nx O' U')
  |.rt d U'=>some (.rt d U')
def iU (i:FI)(g:FG)(b:FS):FS:=fun O U=>(i O U).bind fun a=>dl g b a.1 O a.2
section
variable {K:zac}{m:Tf}{Y:St}{H:Hp}{U:ac}{D:d6}
def G3 {fi g b}(h:eI K (iU fi g b) D Y H):Gm (xH K fi) (qJ K g) (eI K b) D Y H:=by
 obtain ⟨O,U,m,o,hl,hs,e,k⟩:=h;obtain ⟨⟨xs,U1⟩,e1,e⟩:=zab.mp e;refine ⟨O,U,m,xs,U1,hl,hs,e1,fun J P H1 m1 x1 s1 ok p1=>?_⟩;refine ⟨fun i n Y H=>n=xs.length - i/\i<=xs.length/\P H/\∃O U m,dD K m H O Y/\aJ K m H U/\dl g b (xs.drop i) O U=some o/\d6.of K m H D o,
  ⟨_,rfl,zba _,p1,O,U1,m1,hl.ext x1,s1,by simpa using e,d6.of_ext x1 k⟩,?_⟩
 rintro i n Y H ⟨rfl,hi,p,O,U,m,hl,hs,e,k⟩;by_cases hlt:i < xs.length
 ·have hx:xs[i]?=some xs[i]:=zap hlt;rw [zbb hlt,dl] at e;obtain ⟨⟨O1,U1⟩,e1,e⟩:=zab.mp e;obtain ⟨o1,e2,e⟩:=zab.mp e;refine .inr ⟨ok.go i _ H hx p,fun Y H=>i+1<=xs.length/\P H/\∃O U m,dD K m H O Y/\aJ K m H U/\dl g b (xs.drop (i+1)) O U=some o/\d6.of K m H D o,
   fun Y' H' z=>⟨xs.length - (i+1),by omega,rfl,z⟩,fun x H' y=>?_⟩
  obtain ⟨rfl,rx⟩:=ok.yld i _ H x H' hx p y;refine ⟨O,U,m,.v xs[i],O1,U1,hl,hs,rx,e1,fun Y1 H1 m1 x1 s1 l1=>?_⟩;refine ⟨O1,U1,m1,o1,l1,s1,e2,?_⟩
  cases o1 with
  |nx O2 U2=>exact fun Y2 H2 m2 x2 s2 l2=>⟨hlt,ok.st _ _ (x1.trans x2).tf p,O2,U2,m2,l2,s2,e,d6.of_ext (x1.trans x2) k⟩
  |ct O2 U2=>exact fun Y2 H2 m2 x2 s2 l2=>⟨hlt,ok.st _ _ (x1.trans x2).tf p,O2,U2,m2,l2,s2,e,d6.of_ext (x1.trans x2) k⟩
  |bk O2 U2=>cases e;exact fun Y2 H2 m2 x2 s2 l2=>k Y2 H2 m2 (x1.trans x2) s2 l2
  |rt d U2=>cases e;exact fun v H2 m2 x2 s2 l2=>k v H2 m2 (x1.trans x2) s2 l2
 ·have:i=xs.length:=by omega
  subst this;rw [zcX,dl] at e;cases e;exact .inl ⟨ok.stop _ H p (zal _),k Y H m .refl hs hl⟩
end
def cQ (f:FE):FI:=fun O U=>(bT f O U).bind fun a=>match a.1 with|.v (.fl xs)=>some (xs,a.2)|.v (.tup xs)=>some (xs,a.2)|_=>none
def Ld (K:zac)(tl:TE):TI:=fun Y H R=>tl Y H fun x H1=>∃a,x=.ref a/\(((∃xs,iZ K H1 a xs)/\R (OK K a) H1)\/((∃xs,gU K H1 a xs)/\R (OJ K a) H1))
def rj (f:FE):FI:=fun O U=>(f O U).bind fun a=>match a.1 with|.v (.int j)=>if -(2 ^ 62)<=j/\j < 2 ^ 62 then some ((List.range j.toNat).map fun i=>.int (i:Nat),a.2) else none|_=>none
section
variable {K:zac}{m:Tf}{Y:St}{H:Hp}{U:ac}{R:It->Hp->Prop}
theorem RelDs.get:∀{ds:List D} {vs:List V} {i:Nat} {d:D},RelDs K H ds vs->ds[i]?=some d->∃v,vs[i]?=some v/\ak K H d v
 |[],_,_,_,_,e=>by simp at e
 |x::xs,vs,0,d,h,e=>by simp only [RelDs] at h;obtain ⟨v,r,rfl,h1,h2⟩:=h;simp at e;subst e;exact ⟨v,rfl,h1⟩
 |x::xs,vs,i+1,d,h,e=>by simp only [RelDs] at h;obtain ⟨v,r,rfl,h1,h2⟩:=h;obtain ⟨u,q1,q2⟩:=RelDs.get (i:=i) h2 (by simpa using e);exact ⟨u,by simpa using q1,q2⟩
def Il {a vs xs}(r0:RelDs K H xs vs):B7 K (OK K a) xs (fun H=>Jc K H a vs/\RelDs K H xs vs) where
 st:=fun H H' t ⟨f,r⟩=>⟨f.tf t,RelDs.tf t _ _ r⟩
 stop:=fun i H ⟨f,r⟩ hi=>⟨vs,f.sq,by rw [←r.length];exact hi⟩
 go:=fun i d H e ⟨f,r⟩=>let ⟨v,q,_⟩:=r.get e;⟨vs,v,f.sq,q⟩
 yld:=fun i d H x H' e ⟨f,r⟩ ⟨e1,e2⟩=>by obtain ⟨v,q,rv⟩:=r.get e;have:=e2 vs f.sq;rw [q] at this;cases this;exact ⟨e1,rv⟩
def Ij {a vs xs}(r0:RelDs K H xs vs):B7 K (OJ K a) xs (fun H=>gU K H a vs/\RelDs K H xs vs) where
 st:=fun H H' t ⟨f,r⟩=>⟨gU.tf t f,RelDs.tf t _ _ r⟩
 stop:=fun i H ⟨f,r⟩ hi=>⟨vs,f,by rw [←r.length];exact hi⟩
 go:=fun i d H e ⟨f,r⟩=>let ⟨v,q,_⟩:=r.get e;⟨vs,v,f,q⟩
 yld:=fun i d H x H' e ⟨f,r⟩ ⟨e1,e2⟩=>by obtain ⟨v,q,rv⟩:=r.get e;have:=e2 vs f;rw [q] at this;cases this;exact ⟨e1,rv⟩
def Ik (lo:Int)(n:Nat):B7 K (M4 lo n) ((List.range n).map fun k=>.int (lo+(k:Nat))) (fun _=>True) where
 st:=fun _ _ _ _=>trivial
 stop:=fun i H _ hi=>by show n<=i;simpa using hi
 go:=fun i d H e _=>by
  have:=(zas.mp e).1
  show i < n;simpa using this
 yld:=fun i d H x H' e _ ⟨e1,e2⟩=>by
  have hi:=(zas.mp e).1;have hi':i < n:=by simpa using hi
  refine ⟨e1,?_⟩;simp [hi'] at e;subst e e2;simp only [ak]
def CQ {f}(h:xH K (cQ f) Y H R):Ld K (Mc (aq K f)) Y H R:=by
 obtain ⟨O,U,m,xs,U',hl,hs,e,k⟩:=h;obtain ⟨⟨x,U1⟩,e1,e⟩:=zab.mp e;refine Fm ⟨O,U,m,x,U1,hl,hs,e1,fun v H1 m1 x1 s1 r1=>?_⟩;split at e
 ·rename_i ys q
  cases e;simp only at q;subst q;simp only [ap,ak] at r1;obtain ⟨a,vs,rfl,f,r⟩:=r1;exact ⟨a,rfl,.inl ⟨⟨vs,f.sq⟩,k _ _ H1 m1 x1 s1 (Il r) ⟨f,r⟩⟩⟩
 ·rename_i ys q
  cases e;simp only at q;subst q;simp only [ap,ak] at r1;obtain ⟨a,vs,rfl,f,r⟩:=r1;exact ⟨a,rfl,.inr ⟨⟨vs,f⟩,k _ _ H1 m1 x1 s1 (Ij r) ⟨f,r⟩⟩⟩
 ·cases e
def GX {f}(h:xH K (rj f) Y H R):FP (fY K (ad f aj)) Y H R:=by
 obtain ⟨O,U,m,xs,U',hl,hs,e,k⟩:=h;obtain ⟨⟨x,U1⟩,e1,e⟩:=zab.mp e;refine ⟨O,U,m,[x],U1,hl,hs,by simp [ad,aj,e1],fun vs H1 m1 x1 s1 r1=>?_⟩;split at e
 ·rename_i j q;split at e
  ·rename_i z
   cases e;simp only at q;subst q;obtain ⟨v,r,rfl,r1,r2⟩:=r1;have r2:r=[]:=r2;simp only [ap,ak] at r1;subst r1 r2;have:=Ik (K:=K) 0 j.toNat;simp only [Int.zero_add] at this
   exact ⟨j,rfl,z.1,z.2,k _ _ H1 m1 x1 s1 this trivial⟩
  ·cases e
 ·cases e
end
end HW
namespace HW
variable {K:zac}
open L2
abbrev MF:=List D->Option D
def uC (H H':Hp):Prop:=∀a o,H a=some o->H' a=some o
def yT (K:zac)(n:Nat)(f:MF):Sp:=fun vs H Q _=>∃ds d,ds.length=n/\RelDs K H ds vs/\f ds=some d/\∀v H',uC H H'->ak K H' d v->Q v H'
def fin:nF->Option D
 |.rt r U=>(Cd r U).bind fun a=>some a.1
 |.nx _ _=>some .non
 |_=>none
def eQ (k:Nat)(b:FS):MF:=fun ds=>(b (ds.map (fun d=>some (.v d))++List.replicate (k - ds.length) none) []).bind fin
def aN (f:MF)(n:Nat)(fa:FA):FE:=fun O U=>(fa O U).bind fun a=>(vals a.1).bind fun ds=>if ds.length=n then (f ds).bind fun d=>some (.v d,a.2) else none
section
variable {K:zac}{m:Tf}{Y:St}{H H':Hp}{U:ac}{Q:VK}
theorem uC.ext (s:uC H H'):dz m H m H':=⟨⟨[],by simp⟩,.of s,fun a o e _=>s a o e,fun a h=>by
 cases q:H a with
 |none=>rfl
 |some o=>rw [s a o q] at h;cases h⟩
def CW {f n fa}{E:XK}(h:aq K (aN f n fa) Y H Q):ss (yT K n f) [] E (fY K fa) Y H Q:=by
 obtain ⟨O,U,m,d,U',hl,hs,e,k⟩:=h;obtain ⟨⟨xs,U1⟩,e1,e⟩:=zab.mp e;obtain ⟨ds,e2,e⟩:=zab.mp e;split at e
 ·rename_i hn;obtain ⟨d1,e3,e⟩:=zab.mp e;cases e;refine ⟨O,U,m,xs,_,hl,hs,e1,fun vs H1 m1 x1 s1 r1=>?_⟩;refine ⟨ds,d1,hn,by simpa using kM e2 r1,e3,fun v H2 z r2=>?_⟩;exact k v H2 m1 (x1.trans z.ext) (s1.same z) r2
 ·cases e
def pN {N:Tn}{ds:List D}{vs:List V}(r:RelDs K H ds vs):dD K [] H (ds.map (fun d=>some (.v d))++List.replicate (N.length - ds.length) none) (L2.eM N vs):=by
 have hl:=r.length;unfold L2.eM;refine ⟨by simp [hl],fun i d e=>?_⟩;by_cases hi:i < ds.length
 ·rw [zai (by simpa using hi),zaB] at e
  cases q:ds[i]? with
  |none=>rw [q] at e;cases e
  |some d' =>
   rw [q] at e;cases e;obtain ⟨v,q1,q2⟩:=r.get q;exact ⟨v,by rw [zai (by simp;omega),zaB,q1];rfl,q2⟩
 ·rw [zaJ (by simpa using hi),zbY] at e;split at e <;> cases e
def Dp (Q:VK):VK:=fun v H=>Q v H\/∃a u,H a=some u/\fO u/\∀o,Q v (upd H a (.frz o u))
def dz.sam (x:dz [] H m H'):uC H H':=fun a o e=>x.keep a o e (by simp)
theorem GB {N:Tn}{b:FS}{ds:List D}{vs:List V}{d:D}{E:XK}(r:RelDs K H ds vs)(e:eQ N.length b ds=some d)(k:∀v H',uC H H'->ak K H' d v->Q v H') :
  eI K b {nx:=fun _ H'=>Dp Q .non H',rt:=Dp Q} (L2.eM N vs) H:=by
 obtain ⟨o,e1,e⟩:=zab.mp e;refine ⟨_,[],[],o,pN r,.nil,e1,?_⟩
 cases o with
 |nx O U =>
  cases e;exact fun Y H' m' x _ _=>.inl (k _ _ x.sam (by simp only [ak]))
 |bk O U=>cases e
 |ct O U=>cases e
 |rt q U =>
  obtain ⟨⟨d1,U1⟩,e2,e⟩:=zab.mp e;cases e;intro v H' m' x s r';exact FU (B:=fun H'=>Q v H') s r' e2 fun H2 y s2 r2=>k v H2 (x.trans y).sam r2
end
def vB (C:Int->Int->Bool)(f:Int->Int->D):R->R->ac->Option (R×ac)
 |.v (.int i),.v (.int j),U=>if C i j=true then some (.v (f i j),U) else none
 |_,_,_=>none
def gI {C:Int->Int->Bool}{C':Int->Int->Prop}{f:Int->Int->D}{g:Int->Int->V}(hC:∀i j,C i j=true->C' i j)(hg:∀H i j,ak K H (f i j) (g i j)):pp K (vB C f) (rI C' g):=by
 intro m H U x y d U' v u Q s rx ry e k;unfold vB at e;split at e
 ·rename_i i j;split at e
  ·rename_i z
   cases e;simp only [ap,ak] at rx ry;subst rx ry;exact ⟨i,j,rfl,rfl,hC i j z,k _ H m .refl s (hg H i j)⟩
  ·cases e
 ·cases e
def Mr {f:Int->Int->D}{g:Int->Int->V}(hg:∀H i j,ak K H (f i j) (g i j)):pp K (vB (fun _ _=>true) f) (xI g):=by
 intro m H U x y d U' v u Q s rx ry e k;unfold vB at e;split at e
 ·rename_i i j;split at e
  ·cases e;simp only [ap,ak] at rx ry;subst rx ry;exact ⟨i,j,rfl,rfl,k _ H m .refl s (hg H i j)⟩
  ·cases e
 ·cases e
abbrev kR:=vB (fun _ _=>true) fun i j=>.int (i - j)
abbrev lR:=vB (fun i j=>decide (-(2 ^ 64) < i/\i < 2 ^ 64) || decide (-(2 ^ 64) < j/\j < 2 ^ 64)) fun i j=>.int (i * j)
abbrev cz:=vB (fun _ j=>decide (0 < j/\j < 1073741824)) fun i j=>.int (i / j)
abbrev br:=vB (fun _ j=>decide (0 < j)) fun i j=>.int (i % j)
abbrev kh:=vB (fun i j=>decide (0<=j/\j<=1000000/\i.natAbs < 2 ^ 64)) fun i j=>.int (i ^ j.toNat)
abbrev HY:=vB (fun _ _=>true) fun i j=>.bl (decide (i < j))
abbrev FH:=vB (fun _ _=>true) fun i j=>.bl (decide (i<=j))
abbrev Lf:=vB (fun _ _=>true) fun i j=>.bl (decide (j < i))
def lP:R->ac->Option (R×ac)
 |.v (.int i),U=>some (.v (.int (-i)),U)
 |_,_=>none
section
variable {K:zac}
def Ah {H:Hp}{i:Int}:ak K H (.int i) (.int i):=by simp only [ak]
def Nm {H:Hp}{i:Bool}:ak K H (.bl i) (.bl i):=by simp only [ak]
def Lh:pp K kR (xI fun i j=>.int (i - j)):=Mr fun _ _ _=>Ah
def Lk:pp K lR (rI B9 fun i j=>.int (i * j)):=gI (fun i j h=>by simpa [B9] using h) fun _ _ _=>Ah
def Lx:pp K cz (rI Jf fun i j=>.int (i / j)):=gI (fun i j h=>by simpa [Jf] using h) fun _ _ _=>Ah
def Ll:pp K br (rI (fun _ j=>0 < j) fun i j=>.int (i % j)):=gI (fun i j h=>by simpa using h) fun _ _ _=>Ah
def Li:pp K kh (rI Je fun i j=>.int (i ^ j.toNat)):=gI (fun i j h=>by simpa [Je] using h) fun _ _ _=>Ah
def Lp:pp K HY (xI fun i j=>.bl (decide (i < j))):=Mr fun _ _ _=>Nm
def NC:pp K FH (xI fun i j=>.bl (decide (i<=j))):=Mr fun _ _ _=>Nm
def NE:pp K Lf (xI fun i j=>.bl (decide (j < i))):=Mr fun _ _ _=>Nm
def Lj:PL K lP (rU fun i=>.int (-i)):=by
 intro m H U x d U' v Q s rx e k;unfold lP at e;split at e
 ·rename_i i
  cases e;simp only [ap,ak] at rx;subst rx;exact ⟨i,rfl,k _ H m .refl s (by simp only [ap,ak])⟩
 ·cases e
end
def Em:R->R->ac->Option (R×ac)
 |.v (.int i),.v (.int j),U=>some (.v (.int (i+j)),U)
 |.v (.str x),.v (.str y),U=>if x.length+y.length<=sizeLine then some (.v (.str (x++y)),U) else none
 |.v (.tup xs),.v (.tup ys),U=>if xs≠[]/\xs.length+ys.length<=sizeLine then some (.v (.tup (xs++ys)),U) else none
 |.p a,.p b,U=>match U[a]?,U[b]? with|some (.lst xs),some (.lst ys)=>if xs.length+ys.length<=sizeLine then some (.p U.length,U++[.lst (xs++ys)]) else none|_,_=>none
 |_,_,_=>none
def KF:R2:=fun x y H Q=>∃i j,x=.str i/\y=.str j/\i.length+j.length<=sizeLine/\Q (.str (i++j)) H
def Nj (r r':R2):R2:=fun x y H Q=>r x y H Q\/r' x y H Q
def Fs (K:zac):R2:=Nj (xI fun i j=>.int (i+j)) (Nj KF (Nj (Fp K) KE))
theorem RelDs.append {K:zac}{H:Hp}:∀{xs ys:List D} {vs ws:List V},RelDs K H xs vs->RelDs K H ys ws->RelDs K H (xs++ys) (vs++ws)
 |[],_,_,_,h,h'=>by simp only [RelDs] at h;subst h;exact h'
 |x::xs,_,_,_,h,h'=>by
  simp only [RelDs] at h;obtain ⟨v,r,rfl,h1,h2⟩:=h
  show RelDs K H (x::(xs++_)) _
  simp only [RelDs];exact ⟨v,r++_,rfl,h1,RelDs.append h2 h'⟩
def RelDs.nil_iff {H:Hp}{xs:List D}{vs:List V}(h:RelDs K H xs vs):xs=[] ↔ vs=[]:=by have:=h.length;cases xs <;> cases vs <;> simp_all
def Lz :pp K Em (Fs K):=by
 intro m H U x y d U' v u Q s rx ry e k;unfold Em at e;split at e
 ·cases e;simp only [ap,ak] at rx ry;subst rx ry;exact .inl ⟨_,_,rfl,rfl,k _ H m .refl s (by simp only [ap,ak])⟩
 ·split at e
  ·rename_i z
   cases e;simp only [ap,ak] at rx ry;subst rx ry;exact .inr (.inl ⟨_,_,rfl,rfl,z,k _ H m .refl s (by simp only [ap,ak])⟩)
  ·cases e
 ·split at e
  ·rename_i z
   cases e;simp only [ap,ak] at rx ry;obtain ⟨a,vs,rfl,qa,ra⟩:=rx;obtain ⟨b,ws,rfl,qb,rb⟩:=ry;refine .inr (.inr (.inl ⟨a,b,vs,ws,rfl,rfl,qa,qb,fun h=>z.1 (ra.nil_iff.mpr h),by rw [←ra.length,←rb.length];exact z.2,fun h=>?_,fun h p hp=>?_⟩))
   ·refine k _ H m .refl s ?_;have:=rb.nil_iff.mpr h;subst this;simp only [ap,ak,za6];exact ⟨a,vs,rfl,qa,ra⟩
   ·obtain ⟨x1,x2,x3⟩:=kZ s (ra.append rb) hp;exact k _ _ _ x1 x2 x3
  ·cases e
 ·split at e
  ·rename_i xs ys qa qb;split at e
   ·rename_i z
    cases e;obtain ⟨a',rfl,ha⟩:=rx;obtain ⟨b',rfl,hb⟩:=ry;obtain ⟨vs,ea,ra⟩:=s.cell _ _ a' qa ha;obtain ⟨ws,eb,rb⟩:=s.cell _ _ b' qb hb;refine .inr (.inr (.inr ⟨a',b',vs,ws,rfl,rfl,ea,eb,by rw [←ra.length,←rb.length];exact z,fun p hp=>?_⟩));obtain ⟨x1,x2,x3⟩:=iz s (ra.append rb) hp;exact k _ _ _ x1 x2 x3
   ·cases e
  ·cases e
 ·cases e
def dj:R->ac->Option (List D)
 |.v (.tup xs),_=>some xs
 |.v (.fl xs),_=>some xs
 |.p n,U=>match U[n]? with|some (.lst xs)=>some xs|some (.fz xs)=>some xs|_=>none
 |_,_=>none
def jO:R->ac->Option (List D)
 |.v (.fl xs),_=>some xs
 |.p n,U=>match U[n]? with|some (.lst xs)=>some xs|some (.fz xs)=>some xs|_=>none
 |_,_=>none
section
variable {K:zac}{m:Tf}{H:Hp}{U:ac}
def iA {x:R}{xs:List D}{v:V}(s:aJ K m H U)(r:ap K m H x v)(e:jO x U=some xs):∃a vs,v=.ref a/\iZ K H a vs/\RelDs K H xs vs:=by
 unfold jO at e;split at e
 ·cases e;simp only [ap,ak] at r;obtain ⟨a,vs,rfl,q,r⟩:=r;exact ⟨a,vs,rfl,q.sq,r⟩
 ·obtain ⟨a,rfl,ha⟩:=r;split at e
  ·rename_i q
   cases e;obtain ⟨vs,e,r⟩:=s.cell _ _ a q ha;exact ⟨a,vs,rfl,.inl (.inl e),r⟩
  ·rename_i q
   cases e;obtain ⟨o,vs,e,r⟩:=s.cell _ _ a q ha;exact ⟨a,vs,rfl,.inl (.inr ⟨o,e⟩),r⟩
  ·cases e
 ·cases e
theorem hJ {x:R}{xs:List D}{v:V}(s:aJ K m H U)(r:ap K m H x v)(e:dj x U=some xs):∃a vs,v=.ref a/\(iZ K H a vs\/gU K H a vs)/\RelDs K H xs vs:=by
 cases x with
 |v d =>
  cases d with
  |tup ys =>
   cases e;simp only [ap,ak] at r;obtain ⟨a,vs,rfl,q,r⟩:=r;exact ⟨a,vs,rfl,.inr q,r⟩
  |fl ys=>obtain ⟨a,vs,q1,q2,q3⟩:=iA s r (xs:=xs) e;exact ⟨a,vs,q1,.inl q2,q3⟩
  |non=>cases e
  |bl _=>cases e
  |int _=>cases e
  |str _=>cases e
  |fd _ _=>cases e
  |key _=>cases e
 |p n=>obtain ⟨a,vs,q1,q2,q3⟩:=iA s r (xs:=xs) e;exact ⟨a,vs,q1,.inl q2,q3⟩
 |s _ _=>cases e
 |x _=>cases e
 |f _ _=>cases e
end
def ba:R->R->ac->Option (R×ac)
 |x,.v (.int i),U=>(dj x U).bind fun xs=>(kI xs i).bind fun d=>some (.v d,U)
 |_,_,_=>none
def eR:List R->ac->Option (R×ac)
 |[x],U=>(dj x U).bind fun xs=>some (.v (.int xs.length),U)
 |_,_=>none
def Ek {H:Hp}{xs:List D}{vs:List V}{i:Int}{d:D}(r:RelDs K H xs vs)(e:kI xs i=some d):∃v,kI vs i=some v/\ak K H d v:=by obtain ⟨j,e1,e2⟩:=zab.mp e;obtain ⟨v,q1,q2⟩:=r.get e2;exact ⟨v,by unfold kI;rw [←r.length,e1];exact q1,q2⟩
def ND :pp K ba (O3 K):=by
 intro m H U x y d U' v u Q s rx ry e k;unfold ba at e;split at e
 ·rename_i i;obtain ⟨xs,e1,e⟩:=zab.mp e;obtain ⟨d1,e2,e⟩:=zab.mp e;cases e;simp only [ap,ak] at ry;subst ry;obtain ⟨a,vs,rfl,q,r⟩:=hJ s rx e1;obtain ⟨w,q1,q2⟩:=Ek r e2;rcases q with q|q
  ·exact .inl ⟨a,vs,i,w,rfl,rfl,q,q1,k _ H m .refl s q2⟩
  ·exact .inr (.inl ⟨a,vs,i,w,rfl,rfl,q,q1,k _ H m .refl s q2⟩)
 ·cases e
def Nk (K:zac):List V->Hp->VK->Prop:=fun xs H Q=>∃p ys,xs=[.ref p]/\(iZ K H p ys\/gU K H p ys)/\Q (.int ys.length) H
def lJ {m:Tf}{H:Hp}{x:R}{vs:List V}(r:aQ K m H [x] vs):∃v,vs=[v]/\ap K m H x v:=by obtain ⟨v,r,rfl,h1,h2⟩:=r;have h2:r=[]:=h2;subst h2;exact ⟨v,rfl,h1⟩
def Lq :vZ K eR (Nk K):=by
 intro m H U xs d U' vs Q s r e k;unfold eR at e;split at e
 ·rename_i x;obtain ⟨ys,e1,e⟩:=zab.mp e;cases e;obtain ⟨v,rfl,r1⟩:=lJ r;obtain ⟨a,ws,rfl,q,r⟩:=hJ s r1 e1;exact ⟨a,ws,rfl,q,k _ H m .refl s (by simp only [ap,ak];rw [r.length])⟩
 ·cases e
def tz:List R->ac->Option (R×ac)
 |[x],U=>(dj x U).bind fun xs=>some (.p U.length,U++[.lst xs])
 |_,_=>none
def Ky (K:zac):List V->Hp->VK->Prop:=fun xs H Q=>∃p ys,xs=[.ref p]/\(iZ K H p ys\/gU K H p ys)/\∀l,H l=none->Q (.ref l) (upd H l (.lst ys))
def Ir :vZ K tz (Ky K):=by
 intro m H U xs d U' vs Q s r e k;unfold tz at e;split at e
 ·rename_i x;obtain ⟨ys,e1,e⟩:=zab.mp e;cases e;obtain ⟨v,rfl,r1⟩:=lJ r;obtain ⟨a,ws,rfl,q,r⟩:=hJ s r1 e1;refine ⟨a,ws,rfl,q,fun p hp=>?_⟩;obtain ⟨x1,x2,x3⟩:=iz s r hp;exact k _ _ _ x1 x2 x3
 ·cases e
def qw:List R->ac->Option (R×ac)
 |[x],U=>(dj x U).bind fun xs=>some (.v (.tup xs),U)
 |_,_=>none
def Kt (K:zac):List V->Hp->VK->Prop:=fun xs H Q=>∃p ys,xs=[.ref p]/\((iZ K H p ys/\∀l,H l=none->Q (.ref l) (upd H l (.tup ys)))\/(gU K H p ys/\Q (.ref p) H))
def Lg :vZ K qw (Kt K):=by
 intro m H U xs d U' vs Q s r e k;unfold qw at e;split at e
 ·rename_i x;obtain ⟨ys,e1,e⟩:=zab.mp e;cases e;obtain ⟨v,rfl,r1⟩:=lJ r;obtain ⟨a,ws,rfl,q,r⟩:=hJ s r1 e1;rcases q with q|q
  ·refine ⟨a,ws,rfl,.inl ⟨q,fun p hp=>?_⟩⟩;obtain ⟨x1,x2,x3⟩:=kZ s r hp;exact k _ _ _ x1 x2 x3
  ·refine ⟨a,ws,rfl,.inr ⟨q,k _ H m .refl s ?_⟩⟩;simp only [ap,ak];exact ⟨a,ws,rfl,q,r⟩
 ·cases e
def jR:R->List R->ac->Option (R×ac)
 |.p n,[.v d],U=>match U[n]? with|some (.lst xs)=>if xs.length < sizeLine then some (.v .non,U.set n (.lst (xs++[d]))) else none|_=>none
 |_,_,_=>none
def PN (K:zac)(g:R->List R->ac->Option (R×ac))(r:V->List V->Hp->VK->Prop):Prop :=
 ∀m H U x xs d U' v vs Q,aJ K m H U->ap K m H x v->aQ K m H xs vs->g x xs U=some (d,U')->(∀w H' m',dz m H m' H'->aJ K m' H' U'->ap K m' H' d w->Q w H')->r v vs H Q
def Ly :PN K jR wv:=by
 intro m H U x xs d U' v vs Q s rx rs e k;unfold jR at e;split at e
 ·split at e
  ·rename_i ys q;split at e
   ·rename_i z
    cases e;obtain ⟨a,rfl,ha⟩:=rx;obtain ⟨w,rfl,rw'⟩:=lJ rs;obtain ⟨ws,ea,ra⟩:=s.cell _ _ a q ha;have x:dz m H m (upd H a (.lst (ws++[w]))):=.put (zaO ha) ea (by simp) (by simp);refine ⟨a,ws,w,rfl,rfl,ea,by rw [←ra.length];exact z,k _ _ m x (s.put ha ea (by simp) (by simp) ⟨_,cM,?_⟩) (by simp only [ap,ak])⟩;refine RelDs.tf x.tf _ _ (ra.append ?_);simp only [RelDs];exact ⟨w,[],rfl,rw',rfl⟩
   ·cases e
  ·cases e
 ·cases e
def cg (g:FG)(c:FT)(f:FE):List D->Lo->ac->Option (List D×ac)
 |[],_,U=>some ([],U)
 |x::xs,O,U=>(g (.v x) O U).bind fun a=>(c a.1 a.2).bind fun b=>if b.1=true then (f a.1 b.2).bind fun y=>match y.1 with
   |.v d=>(cg g c f xs a.1 y.2).bind fun r=>some (d::r.1,r.2)
   |_=>none
  else cg g c f xs a.1 b.2
def d5 (k:Nat)(ix:List Nat)(O:Lo):Lo:=List.replicate k none++ix.map fun i=>(O[i]?).join
def dM (ix:List Nat)(k:Nat)(i:FI)(g:FG)(c:FT)(f:FE):FE:=fun O U=>(i O U).bind fun a=>if a.1.length<=sizeLine then
 (cg g c f a.1 (d5 k ix O) a.2).bind fun r=>some (.p r.2.length,r.2++[.lst r.1]) else none
def gk:FT:=fun _ U=>some (true,U)
open PyProof.Rows
section
variable {X:Cx}
def PE.imp {t t':TE}(h:PE X e t)(k:∀{Y H Q},t' Y H Q->t Y H Q):PE X e t':=fun pins s Y H Q I q=>h pins s Y H Q I (k q)
def PT.imp {t t':TT}(h:PT X e t)(k:∀{Y H Q},t' Y H Q->t Y H Q):PT X e t':=fun pins s Y H Q I q=>h pins s Y H Q I (k q)
def PW.imp {t t':TT}(h:PW X e t)(k:∀{Y H Q},t' Y H Q->t Y H Q):PW X e t':=fun wh pins s Y H Q I q=>h wh pins s Y H Q I (k q)
def PA.imp {e:Tj}{t t':TA}(h:PA X e t)(k:∀{Y H Q},t' Y H Q->t Y H Q):PA X e t':=fun pos pins s Y H Q I q=>h pos pins s Y H Q I (k q)
def PS.imp {e:Stmt}{t t':TS}(h:PS X e t)(k:∀{D Y H},t' D Y H->t D Y H):PS X e t':=fun pins s Y H Q I q=>h pins s Y H Q I (k q)
def m8.imp {e:Tk}{t t':TS}(h:m8 X e t)(k:∀{D Y H},t' D Y H->t D Y H):m8 X e t':=fun pins s Y H Q I q=>h pins s Y H Q I (k q)
def PI.imp {tg e:Expr}{t t':TI}(h:PI X tg e t)(k:∀{Y H R},t' Y H R->t Y H R):PI X tg e t':=fun pins s Y H R I q=>h pins s Y H R I (k q)
def PG.imp {t t':TG}(h:PG X e t)(k:∀{v Y H Q},t' v Y H Q->t v Y H Q):PG X e t':=fun pins s Y H v u Q I r q=>h pins s Y H v u Q I r (k q)
def Cg.imp {e:Tj}{t t':Cf}(h:Cg X e t)(k:∀{v Y H Q},t' v Y H Q->t v Y H Q):Cg X e t':=fun pins s Y H v u Q I r q=>h pins s Y H v u Q I r (k q)
end
section
variable {P:Program}{w:World}{H H0:Hp}{h h0:Heap}{a:Addr}{u:HO}{fs ex:Tf}
def fO.ne {b:Addr}{v:HO}(e:H a=some u)(hu:fO u)(q:H b=some v)(n:¬ fO v):b≠a:=fun z=>by rw [z,e] at q;cases q;exact n hu
def ig.frz (ok:ig P w H h)(e:H a=some u)(hu:fO u):∃o,ig P w (upd H a (.frz o u)) h:=by
 have ho:∃o,h.get? a=some o:=by
  have z:=ok a u e
  cases u with
  |lst xs=>obtain ⟨_,_,_,_,q⟩:=z;exact ⟨_,q⟩
  |set S n=>obtain ⟨o,_,_,_,q,_⟩:=z;exact ⟨_,q⟩
  |dK kvs=>obtain ⟨_,_,_,_,o,_,_,q,_⟩:=z;exact ⟨_,q⟩
  |dT kvs=>obtain ⟨_,_,_,_,o,_,_,q,_⟩:=z;exact ⟨_,q⟩
  |_=>exact hu.elim
 obtain ⟨o,ho⟩:=ho;refine ⟨o,fun b v q=>?_⟩;have own:∀c y,H c=some (.own y)->upd H a (.frz o u) c=some (.own y):=fun c y r=>by rw [L2.av (fO.ne e hu r fun z=>z)];exact r
 have tup:∀c xs,H c=some (.tup xs)->upd H a (.frz o u) c=some (.tup xs):=fun c xs r=>by rw [L2.av (fO.ne e hu r fun z=>z)];exact r
 by_cases hb:b=a
 ·subst hb;rw [L2.bn] at q;cases q;exact ⟨ho,(ok b u e).stay (fun c v _ q=>q) (fun c r=>own c _ r) tup⟩
 ·rw [L2.av hb] at q;exact (ok b v q).stay (fun c v _ q=>q) (fun c r=>own c _ r) tup
def Un.frz {o:Obj}(un:Un fs ex H0 H h0 h)(e:H a=some u)(hu:fO u):Un fs ex H0 (upd H a (.frz o u)) h0 h where
 keep:=un.keep
 slot:=un.slot
 free:=fun b ob q n hx=>by have z:=un.free b ob q n hx;rw [L2.av (fun y=>by rw [y,e] at z;cases z)];exact z
 there:=un.there
 tups:=fun b xs q=>by rw [L2.av (fO.ne e hu (un.tups b xs q) fun z=>z)];exact un.tups b xs q
 frzs:=fun b ob v q=>by rw [L2.av (fO.ne e hu (un.frzs b ob v q) fun z=>z)];exact un.frzs b ob v q
 tbls:=fun b ps q=>by obtain ⟨more,r⟩:=un.tbls b ps q;exact ⟨more,by rw [L2.av (fO.ne e hu r fun z=>z)];exact r⟩
def ay.frz {s:Shared}(I:ay X pins Y H s)(e:H a=some u)(hu:fO u):∃o,ay X pins Y (upd H a (.frz o u)) s:=by
 obtain ⟨o,ok⟩:=ig.frz I.hok e hu;have nn:∀b,H b=none->upd H a (.frz o u) b=none:=fun b z=>by rw [L2.av (fun y=>by rw [y,e] at z;cases z)];exact z
 refine ⟨o,I.ok,I.os,I.bare,Un.frz I.base e hu,I.loc,I.cell,nn _ I.free,fun x c q=>nn _ (I.freeC x c q),fun p hp=>?_,ok,I.len⟩;obtain ⟨q1,q2,q3⟩:=I.pin p hp;exact ⟨q1,nn _ q2,q3⟩
end
def u4 {t:TE}(h:PE X e t):PE X e (Mc t):=fun pins s Y H Q I q=>by
 refine cR (h pins s Y H _ I q) fun v s1 hh=>?_;obtain ⟨x,H1,I1,r1,q1⟩:=hh;rcases q1 with q1|⟨a,u,e,hu,q1⟩
 ·exact ⟨x,H1,I1,r1,q1⟩
 ·obtain ⟨o,I2⟩:=ay.frz I1 e hu;exact ⟨x,_,I2,r1,q1 o⟩
theorem ca.fz {mg:Td}{base:Heap}{CX:xk}{k:Nat}{f:Addr}{ps:Tn}{sp:Sp}(F:ca P w K mg base CX k f fd ps sp) :
  ca P w K mg base CX k f fd ps (fun vs H Q E=>sp vs H (Dp Q) E):=by
 refine ⟨fun vs H Q E h=>F.len vs H _ E h,fun A outer s H args us vs Q E hr he hb hv hs=>?_⟩;refine zbf (F.run A outer s H args us vs (Dp Q) E hr he hb hv hs) fun r s' hq=>?_
 cases r with
 |error e=>exact hq
 |ok fl =>
  cases fl with
  |next=>exact hq
  |brk=>exact hq
  |cont=>exact hq
  |ret u =>
   obtain ⟨v,H',os,bare,un,hok,rv,q⟩:=hq;rcases q with q|⟨a,u',e,hu,q⟩
   ·exact ⟨v,H',os,bare,un,hok,rv,q⟩
   ·obtain ⟨o,ok⟩:=ig.frz hok e hu
    exact ⟨v,_,os,bare,Un.frz un e hu,ok,rv,q o⟩
def nG.okP {P:Program}{w:World}{K:zac}{mg:Td}{base:Heap}{x qual:Str}{st:Stmt}{f:Addr}{fd:FuncData}{N ps:Tn}{k:Nat}{b:FS}(F:nG K x qual st f fd)(S:ax N ps (ai st))
  (hbody:∀(cdv:Value) (A:Around) (outer:List Env) (s:Shared) (H:Hp) (E:XK),bG k (A.deeper (envOfC qual (ai st) s.heap.objs.size f cdv))->m8 (iX jN P w K mg base N qual (ai st) f cdv A outer s H E).nox (bm st) (eI K b)) :
  ca P w K mg base jN (k+1) f fd ps (yT K ps.length (eQ N.length b)):=by
 have G:ca P w K mg base jN (k+1) f fd ps (fun vs H Q _=>vs.length=ps.length/\eI K b {nx:=fun _ H'=>Q .non H',rt:=Q} (L2.eM N vs) H) :=
  L2.nG.ok F S (fun vs H Q E h=>h.1) fun cdv A outer s H vs Q E hr h=>⟨_,hbody cdv A outer s H E hr,h.2⟩
 refine (ca.fz G).imp fun vs H Q E ⟨ds,d,hn,r,e,k⟩=>⟨by rw [←r.length];exact hn,GB (E:=E) r e k⟩
def De {X:Cx}{tg l:Expr}{tl:TE}(hl:PE X l tl):PI X tg l (Ld X.K tl):=by
 intro pins s Y H R I h;refine cR (hl pins s Y H _ I h) fun v s1 hh=>?_;obtain ⟨x,H1,I1,r1,q1⟩:=hh;obtain ⟨a,e,q1⟩:=q1;subst e;cases r1;rcases q1 with ⟨⟨xs,hq⟩,q⟩|⟨⟨xs,hq⟩,q⟩
 ·obtain ⟨its,rv,p,hz⟩:=I1.list hq;refine zcy p.isList ?_;refine ⟨s1.heap.objs.size,[s1.heap.objs.size],_,_,H1,rfl,I1.kept (t':=s1.toks) fun b o e=>zae _ e,xy a _,⟨_,zak _ rfl,rfl,rfl⟩,fun b hb=>?_,q⟩;have e:b=s1.heap.objs.size:=by simpa using hb
  subst e;exact I1.fpOk (zal _) (I1.hok.fresh (zal _))
 ·obtain ⟨its,rv,p,hz⟩:=I1.tuple hq;refine wpAny_pyIter_tuple (show s1.heap.IsTuple a its.toArray from p) ?_;refine ⟨s1.heap.objs.size,[s1.heap.objs.size],_,_,H1,rfl,I1.kept (t':=s1.toks) fun b o e=>zae _ e,uL a _,⟨_,zak _ rfl,rfl,rfl⟩,fun b hb=>?_,q⟩;have e:b=s1.heap.objs.size:=by simpa using hb
  subst e;exact I1.fpOk (zal _) (I1.hok.fresh (zal _))
theorem fW {env:Env}:∀{names:List (Str×NameKind)} {x:Str},
  (names.map fun (n,k)=>if (k == NameKind.free && env.scope.kind == .function && env.kindOf n == some .cell) then (n,NameKind.cell) else (n,k)).lookup x =
   (names.lookup x).map fun k=>if (k == NameKind.free && env.scope.kind == .function && env.kindOf x == some .cell) then NameKind.cell else k
 |[],_=>rfl
 |(n,k)::r,x=>by
  have ih:=@fW env r x
  show List.lookup x ((if (k == NameKind.free && env.scope.kind == .function && env.kindOf n == some .cell)=true then (n,NameKind.cell) else (n,k))::_)=_
  cases hx:x == n with
  |true =>
   have:x=n:=eq_of_beq hx;subst this;simp only [za5,hx,zbx]
   by_cases hc:(k == NameKind.free && env.scope.kind == .function && env.kindOf x == some .cell)=true
   ·simp [hc]
   ·simp [hc]
  |false =>
   by_cases hc:(k == NameKind.free && env.scope.kind == .function && env.kindOf n == some .cell)=true
   ·rw [if_pos hc];simp only [za5,hx];exact ih
   ·rw [if_neg hc];simp only [za5,hx];exact ih
theorem iJ {env:Env}:∀(names:List (Str×NameKind)) (acc:List (Str×Addr)),(∀x c,acc.lookup x=some c->env.cells.lookup x=some c) ->
  (∀y∈names,y.2=.free->∃c,env.cells.lookup y.1=some c) ->
  ∃cl:List (Str×Addr),(forIn names acc fun (x:Str×NameKind) (r:List (Str×Addr))=>(if (x.2 == NameKind.free)=true then do let a ←cellOf env x.1;pure (ForInStep.yield ((x.1,a)::r)) else pure (ForInStep.yield r):Sem (ForInStep (List (Str×Addr)))))=pure cl /\
   (∀x c,cl.lookup x=some c->env.cells.lookup x=some c)/\(∀x c,acc.lookup x=some c->∃c',cl.lookup x=some c')/\∀y∈names,y.2=.free->∃c,cl.lookup y.1=some c
 |[],acc,h1,_=>⟨acc,rfl,h1,fun x c e=>⟨c,e⟩,fun y hy=>by simp at hy⟩
 |(n,k)::r,acc,h1,h2=>by
  by_cases hk:k=.free
  ·subst hk
   obtain ⟨c,hc⟩:=h2 (n,.free) zao rfl
   have step:∀x c',List.lookup x ((n,c)::acc)=some c'->env.cells.lookup x=some c':=fun x c' e=>by
    rw [za5] at e
    cases hx:x == n with
    |true=>rw [hx] at e;have:x=n:=eq_of_beq hx;subst this;rw [hc];exact e
    |false=>rw [hx] at e;exact h1 x c' e
   obtain ⟨cl,e,p1,p2,p3⟩:=iJ r ((n,c)::acc) step fun y hy=>h2 y (zan _ hy);have hn:∃c',List.lookup n ((n,c)::acc)=some c':=⟨c,by rw [za5];simp⟩;refine ⟨cl,?_,p1,fun x c' e'=>?_,fun y hy hf=>?_⟩
   ·rw [List.forIn_cons]
    show ((cellOf env n >>= fun a=>pure (ForInStep.yield ((n,a)::acc))) >>= _)=_
    unfold cellOf;rw [hc];exact e
   ·cases hx:x == n with
    |true=>have:x=n:=eq_of_beq hx;subst this;obtain ⟨c'',q⟩:=hn;exact p2 _ _ q
    |false=>exact p2 x c' (by rw [za5,hx];exact e')
   ·rcases zaj.mp hy with rfl|hy
    ·obtain ⟨c'',q⟩:=hn;exact p2 _ _ q
    ·exact p3 y hy hf
  ·obtain ⟨cl,e,p1,p2,p3⟩:=iJ r acc h1 fun y hy=>h2 y (zan _ hy)
   have hb:(k == NameKind.free)=false:=by simpa using hk
   refine ⟨cl,?_,p1,p2,fun y hy hf=>?_⟩
   ·rw [List.forIn_cons]
    simp only [hb,zar,if_false];exact e
   ·rcases zaj.mp hy with rfl|hy
    ·exact absurd hf hk
    ·exact p3 y hy hf
def pb {env:Env}{scope:Scope}(h:∀y∈scope.names,y.2=.free->∃c,env.cells.lookup y.1=some c) :
  ∃cl,closureFor scope env=pure cl/\(∀x c,cl.lookup x=some c->env.cells.lookup x=some c)/\∀y∈scope.names,y.2=.free->∃c,cl.lookup y.1=some c:=by
 obtain ⟨cl,e,p1,_,p3⟩:=iJ (env:=env) scope.names [] (fun x c e=>by simp at e) h;refine ⟨cl,?_,p1,p3⟩;unfold closureFor
 first
  |(show (forIn scope.names [] _ >>= fun r=>pure r)=_;rw [e];rfl)
  |(simp only [bind_pure];exact e)
structure aP (osc scope:Scope)(own:Tn)(caps:Tn):Prop where
 kind:scope.kind=.function
 cell:∀y∈scope.names,y.2=.cell->scope.names.lookup y.1=some .cell
 loc:∀y∈scope.names,y.2=.local->scope.names.lookup y.1=some .local
 free:∀y∈scope.names,y.2=.free->osc.names.lookup y.1=some .cell\/osc.names.lookup y.1=some .free
 cap:∀y∈caps,(y,NameKind.free)∈scope.names/\scope.names.lookup y=some .free
 nd:(own++caps).Nodup
def aL (X:Cx)(scope:Scope)(cl:List (Str×Addr))(C:Addr)(s₂:Shared)(H₂:Hp)(fp:Tf)(N:Tn):Cx :=
 {X with N:=N,s₀:=s₂,H₀:=H₂,env:=compEnvC scope cl C X.env,outer:=X.stack,stack:=X.stack,ex:=fp,fn:=fun x=>scope.names.lookup x == some .cell,pn:=[],xe:=fun _ _=>False}
def oG {names:List (Str×NameKind)}{x:Str}{k:NameKind}(h:names.lookup x=some k):(x,k)∈names:=PySem.mem_of_lookup h
structure L8 (X:Cx)(scope:Scope)(lo:Nat)(cl:List (Str×Addr)):Prop where
 src:∀x c,cl.lookup x=some c->(X.env.cells.lookup x=some c/\scope.names.lookup x≠some .cell)\/lo < c
 inj:∀x y c,cl.lookup x=some c->cl.lookup y=some c->x=y
 has:∀y∈scope.names,y.2=.free\/y.2=.cell->∃c,cl.lookup y.1=some c
 fr:∀y,scope.names.lookup y=some .free->∃c,cl.lookup y=some c/\X.env.cells.lookup y=some c
theorem pe {X:Cx}{scope:Scope}{own caps:Tn}(n:aP X.env.scope scope own caps){cl:List (Str×Addr)}{C:Addr}{x:Str}{k:NameKind}(h:(compEnvC scope cl C X.env).kindOf x=some k)(hk:k=.cell\/k=.free) :
  ∃k,(x,k)∈scope.names/\(k=.free\/k=.cell):=by
 have h':(relabel scope X.env).names.lookup x=some k:=h;unfold relabel at h';rw [fW] at h'
 cases q:scope.names.lookup x with
 |none=>rw [q] at h';cases h'
 |some k0 =>
  rw [q,zbx] at h';have m:=oG q;have h2:=Option.some.inj h'
  by_cases hf:k0=.free
  ·subst hf;exact ⟨_,m,.inl rfl⟩
  ·have hb:(k0 == NameKind.free)=false:=by simpa using hf
   simp only [hb,zbL,zar,if_false] at h2;rcases hk with hk|hk
   ·exact ⟨_,m,.inr (h2.trans hk)⟩
   ·exact absurd (h2.trans hk) hf
theorem vU {X:Cx}{scope:Scope}{cl:List (Str×Addr)}{C:Addr}{x:Str}(h:scope.names.lookup x=some .free) :
  (compEnvC scope cl C X.env).kindOf x=some .cell\/(compEnvC scope cl C X.env).kindOf x=some .free:=by
 show (relabel scope X.env).names.lookup x=some .cell\/(relabel scope X.env).names.lookup x=some .free
 unfold relabel;rw [fW,h];simp only [zbx];split
 ·exact .inl rfl
 ·exact .inr rfl
def L8.ne {H:Hp}{lo b:Nat}{cl:List (Str×Addr)}(B:L8 X scope lo cl)(f:lA X pins H b)(hb:b < lo){x:Str}{c:Addr}(e:cl.lookup x=some c):c≠b:=by
 rcases B.src x c e with ⟨z,_⟩|z
 ·exact f.2.2.2.2.1 x c z
 ·exact Ne.symm (zam (zcc hb z))
def BU {X:Cx}{H₂:Hp}{s₂:Shared}{scope:Scope}{own caps:Tn}{cl:List (Str×Addr)}{C:Addr}{fp:Tf}(I:ay X pins Y H₂ s₂)(n:aP X.env.scope scope own caps)
  (B:L8 X scope s₂.heap.objs.size cl) (hC:s₂.heap.objs.size<=C) (hfs:∀b∈fp,b < s₂.heap.objs.size) (hf:∀b∈fp,lA X pins H₂ b) :
  (aL X scope cl C s₂ H₂ fp (own++caps)).Ok:=by
 refine ⟨I.ok.mod,n.kind,I.ok.glob,I.ok.blt,hC,B.inj,fun x hx=>?_,fun x c h _=>?_,I.ok.hd,I.ok.frames,.inl rfl,fun b hb=>⟨zam (zau (hfs b hb) hC),fun x c e=>B.ne (hf b hb) (hfs b hb) e⟩,
  I.bs,zbe I.ok.bsz I.sz,fun b o e hb=>?_,fun b hb z=>?_,I.stack,I.stkFree⟩
 ·rcases hx with hx|hx
  ·obtain ⟨k,m,hk⟩:=pe n hx (.inl rfl);exact B.has _ m hk
  ·obtain ⟨k,m,hk⟩:=pe n hx (.inr rfl);exact B.has _ m hk
 ·rcases B.src x c ‹_› with ⟨_,z⟩|z
  ·exact absurd (eq_of_beq h) z
  ·exact zbC z
 ·rcases (hf b hb).2.2.2.1 with z|z
  ·exact I.ok.noex b o e z
  ·exact absurd (zau (zau (zah e) I.ok.bsz) z) (zaN _)
 ·rcases zaj.mp (I.stkSub b z) with e|e
  ·exact (hf b hb).2.1 e
  ·exact (hf b hb).2.2.1 e
def gJ (own:L2.St)(ix:List Nat)(Y:L2.St):L2.St:=own++ix.map fun i=>(Y[i]?).join
def uo {X:Cx}{H₂:Hp}{s₂:Shared}{scope:Scope}{own caps:Tn}{ix:List Nat}{cl:List (Str×Addr)}{C:Addr}{fp:Tf}{h₁:Heap}{tk:Nat}(I:ay X pins Y H₂ s₂)(n:aP X.env.scope scope own caps)
  (B:L8 X scope s₂.heap.objs.size cl) (hC:s₂.heap.objs.size<=C) (hfs:∀b∈fp,b < s₂.heap.objs.size) (hf:∀b∈fp,lA X pins H₂ b)
  (hown:∀x c,cl.lookup x=some c->s₂.heap.objs.size < c->h₁.IsCell c none) (hix:ix.length=caps.length) (hix2:∀(j i:Nat) y,ix[j]?=some i->caps[j]?=some y->X.N[i]?=some y)
  (old:∀b o,s₂.heap.get? b=some o->h₁.get? b=some o) {m:Td} (hns:h₁.Ns C m) :
  ay (aL X scope cl C s₂ H₂ fp (own++caps)) [] (gJ (own.map fun _=>none) ix Y) H₂ {s₂ with heap:=h₁,toks:=tk}:=by
 refine ⟨BU I n B hC hfs hf,rfl,I.bare,Un.kept old,⟨m,hns,fun i x v e1 e2 hv=>?_⟩,fun x c e=>?_,I.hok.fresh hC,fun x c e=>(B.src x c e).elim (fun z=>I.freeC x c z.1) fun z=>I.hok.fresh (zbC z),fun p hp=>?_,I.hok.kept old,?_⟩
 ·have e1:(own++caps)[i]?=some x:=e1
  unfold gJ at e2
  by_cases hi:i < own.length
  ·rw [zai (by simpa using hi),zaB] at e2
   cases q:own[i]? with
   |none=>rw [q] at e2;cases e2
   |some y=>rw [q] at e2;cases e2
  ·rw [zaJ (by simpa using hi)] at e2
   rw [zaJ (by omega)] at e1;simp only [zag] at e2;generalize i - own.length=j at e1 e2;rw [zaB] at e2
   cases q:ix[j]? with
   |none=>rw [q] at e2;cases e2
   |some i' =>
    rw [q] at e2;have e3:(Y[i']?).join=some v:=Option.some.inj e2
    have e4:Y[i']?=some (some v):=by
     cases z:Y[i']? with
     |none=>rw [z] at e3;cases e3
     |some w'=>rw [z] at e3;cases w' with
      |none=>cases e3
      |some _=>cases e3;rfl
    have hN:=hix2 j i' x q e1;obtain ⟨mm,hl⟩:=n.cap x (zaO e1);have hk:X.env.kindOf x=some .cell\/X.env.kindOf x=some .free:=n.free _ mm rfl;obtain ⟨m0,hn0,hl0⟩:=I.loc
    have vis:M0 X.env.scope x:=by
     rcases hk with hk|hk
     ·exact .inr (.inl hk)
     ·exact .inr (.inr hk)
    obtain ⟨u,r,l⟩:=hl0 i' x v hN e4 vis;refine ⟨u,r,.inr ⟨vU hl,?_⟩⟩;obtain ⟨c,hc,hcx⟩:=B.fr x hl;rcases l with ⟨l,_⟩|⟨_,c',hc',z⟩
    ·exfalso
     rcases hk with hk|hk <;> rw [hk] at l <;> cases l
    ·rw [hc'] at hcx;cases hcx
     obtain ⟨o,ho,hd⟩:=z;exact ⟨_,hc,o,old _ _ ho,hd⟩
 ·rcases B.src x c e with ⟨z,_⟩|z
  ·obtain ⟨v,o,ho,hd⟩:=I.cell x c z
   exact ⟨v,o,old _ _ ho,hd⟩
  ·exact ⟨none,hown x c e z⟩
 ·exact absurd (show p∈([]:Tc) from hp) (by simp)
 ·show (gJ _ ix Y).length=(own++caps).length
  unfold gJ;simp [hix]
def m9 (X:Cx)(ifs:Tj)(t:TT):Prop :=
 ∀(pins:Tc) (s:Shared) (Y:L2.St) (H:Hp) (Q:Bool->Hp->Prop),ay X pins Y H s->t Y H Q ->
  wpAny (model X.prog X.w) X.A (forIn ifs true fun c r=>if r=true then do let ok ←isTrue c X.env (eval c X.env);pure (ForInStep.yield ok) else pure (ForInStep.yield r)) (TP X pins Y Q) X.xe s
def J0:TT:=fun _ H Q=>Q true H
def Ay:m9 X [] J0:=fun pins s Y H Q I h=>wpAny_tests_nil ⟨H,I,h⟩
def Ax {c:Expr}{t:TT}(h:PT X c t):m9 X [c] t:=fun pins s Y H Q I q=>wpAny_tests_one (h pins s Y H Q I q)
theorem uh {prog:Program}{w:World}{A:Around}{R:Result->Shared->Prop}{s:Shared}{elt target iter:Expr}{ifs:Tj}{scope:Scope}{pos:Pos}{it acc:Value}{env:Env}(I:Nat->Shared->Prop)
  (turn:∀n s,I n s->wpAny (model prog w) A (pyNext it) (fun r s₁=>match r with
   |none=>R (.ok .next) s₁
   |some v=>wpAny (model prog w) A (letOwnedTupleGo target it v) (fun _ s₁'=>wpAny (model prog w) A (assign target env v) (fun _ s₂ =>
     wpAny (model prog w) A (forIn ifs true fun c r=>if r=true then do let ok ←isTrue c env (eval c env);pure (ForInStep.yield ok) else pure (ForInStep.yield r)) (fun ok s₃ =>
      if ok=true then wpAny (model prog w) A (eval elt env) (fun x s₄ =>
       wpAny (model prog w) A (call (.builtin "list.append") [acc,x]) (fun _ s₅=>∃m,m < n/\I m s₅) (fun _ _=>False) s₄) (fun _ _=>False) s₃
      else ∃m,m < n/\I m s₃) (fun _ _=>False) s₂) (fun _ _=>False) s₁') (fun _ _=>False) s₁) (fun _ _=>False) s)
  (n:Nat) (h:I n s):codeAny (model prog w) A (.compLoop (.ListComp elt [⟨target,iter,ifs,0⟩] scope pos) 0 it acc env) R s:=by
 refine codeAny_loop rfl I (fun n s hI=>?_) n h
 show wpAny _ A ((compTurn (.ListComp elt [⟨target,iter,ifs,0⟩] scope pos) 0 it acc env).onRaise (fun x=>do noteFrame x env;theTreesLotGoes x)) _ _ s
 refine wpAny_noted ?_;rw [compTurn_list];refine zaa (wpAny_standAt (zaa (zbw (turn n s hI) (fun r s₁ h₁=>?_) fun _ _ h'=>h'.elim)))
 cases r with
 |none=>exact zad h₁
 |some v =>
  refine zaa (zbw h₁ (fun _ s₁' h1'=>?_) fun _ _ h'=>h'.elim);refine zaa (zbw h1' (fun _ s₂ h₂=>zaa (zbw h₂ (fun ok s₃ h₃=>?_) fun _ _ h'=>h'.elim)) fun _ _ h'=>h'.elim)
  cases ok with
  |false=>exact zad ⟨rfl,h₃⟩
  |true =>
   exact zaa (zaa (zbw h₃ (fun x s₄ h₄=>zaa (zbw h₄ (fun _ s₅ h₅=>zad (zad ⟨rfl,h₅⟩)) fun _ _ h'=>h'.elim)) fun _ _ h'=>h'.elim))
def ay.adopt {X:Cx}{H:Hp}{s:Shared}{a:Addr}{o:HO}(I:ay X pins Y H s)(f:lA X pins H a)(hs:X.s₀.heap.objs.size<=a)(new:bq X.prog X.w (upd H a o) s.heap a o):ay X pins Y (upd H a o) s:=by
 obtain ⟨f0,f1,f2,f3,f4,f5⟩:=f;have ne:∀b u,H b=some u->b≠a:=fun b u e z=>by rw [z,f0] at e;cases e
 refine ⟨I.ok,I.os,I.bare,⟨I.base.keep,I.base.slot,fun b ob q n hx'=>?_,I.base.there,fun b xs q=>?_,fun b ob u q=>?_,fun b ps q=>?_⟩,I.loc,I.cell,?_,fun x c q=>?_,fun p hp=>?_,fun b u q=>?_,I.len⟩
 ·rw [L2.av (zam (zau (zah q) hs))];exact I.base.free b ob q n hx'
 ·rw [L2.av (ne _ _ (I.base.tups b xs q))];exact I.base.tups b xs q
 ·rw [L2.av (ne _ _ (I.base.frzs b ob u q))];exact I.base.frzs b ob u q
 ·obtain ⟨more,r⟩:=I.base.tbls b ps q;exact ⟨more,by rw [L2.av (ne _ _ r)];exact r⟩
 ·rw [L2.av (Ne.symm f1)];exact I.free
 ·rw [L2.av (f4 x c q)];exact I.freeC x c q
 ·obtain ⟨q1,q2,q3⟩:=I.pin p hp;exact ⟨q1,by rw [L2.av (f5 p hp)];exact q2,q3⟩
 ·by_cases hb:b=a
  ·subst hb;rw [L2.bn] at q;cases q;exact new
  ·rw [L2.av hb] at q;exact (I.hok b u q).stay (fun c v _ q=>q) (fun c r=>by rw [L2.av (ne _ _ r)];exact r) fun c xs r=>by rw [L2.av (ne _ _ r)];exact r
def zA (ix:List Nat)(own:Tn)(wi:TI)(g:TG)(tc:TT)(te:TE):TE:=fun Y H Q=>wi Y H fun J H1 =>
 ∃W:Nat->Nat->List V->L2.St->Hp->Prop,(∃n,W 0 n [] (gJ (own.map fun _=>none) ix Y) H1)/\∀i n ys τ H,W i n ys τ H ->
  (J.stop i H/\∀p,H p=none->Q (.ref p) (upd H p (.lst ys))) \/
  (J.go i H/\ys.length < sizeLine/\∀x H',J.yld i H x H'->g x τ H' fun τ2 H2=>tc τ2 H2 fun b H3=>if b=true then te τ2 H3 fun y H4=>∃n',n' < n/\W (i+1) n' (ys++[y]) τ2 H4 else ∃n',n' < n/\W (i+1) n' ys τ2 H3)
theorem jK:∀(names:List (Str×NameKind)) (k:Nat) (acc:List (Str×Addr)),cellsFrom k names acc=cellsFrom k names []++acc
 |[],_,_=>rfl
 |(x,d)::r,k,acc=>by
  unfold cellsFrom;split
  ·rw [jK r (k+1) ((x,k)::acc),jK r (k+1) [(x,k)],zaW];rfl
  ·exact jK r k acc
theorem pd {x:Str}{c:Addr}:∀(names:List (Str×NameKind)) (k:Nat) (acc:List (Str×Addr)),(x,c)∈cellsFrom k names acc->(x,c)∈acc\/(x,NameKind.cell)∈names
 |[],_,_,h=>.inl h
 |(y,d)::r,k,acc,h=>by
  unfold cellsFrom at h;split at h
  ·rename_i hk;rcases pd r (k+1) _ h with h|h
   ·rcases zaj.mp h with e|e
    ·cases e;rw [←eq_of_beq hk];exact .inr zao
    ·exact .inl e
   ·exact .inr (zan _ h)
  ·exact (pd r k acc h).imp id (zan _)
theorem iB {x:Str}:∀(a b:List (Str×Addr)),(a++b).lookup x=(a.lookup x).or (b.lookup x)
 |[],_=>rfl
 |(y,c)::a,b=>by
  rw [zcC,za5,za5];split
  ·rfl
  ·exact iB a b
def yP {X:Cx}{s₂ s₃:Shared}{H₂:Hp}{E:Tb}{scope:Scope}{own caps:Tn}{cl:List (Str×Addr)}{Q:Env->Shared->Prop}(I:ay X pins Y H₂ s₂)(n:aP X.env.scope scope own caps)(hs:s₂.heap.objs.size < s₃.heap.objs.size)
  (hcl:∀x c,cl.lookup x=some c->X.env.cells.lookup x=some c) (hcl2:∀y∈scope.names,y.2=.free->∃c,cl.lookup y.1=some c)
  (hQ:∀(h₁:Heap) (cl':List (Str×Addr)) (m:Td),(∀b o,s₃.heap.get? b=some o->h₁.get? b=some o)->h₁.Ns s₃.heap.objs.size m->L8 X scope s₂.heap.objs.size cl'->(∀x c,cl'.lookup x=some c->s₂.heap.objs.size < c->h₁.IsCell c none) ->
   Q {compEnvC scope cl' s₃.heap.objs.size X.env with scope:=scope} {s₃ with heap:=h₁}) :
  wpAny (model X.prog X.w) X.A (newFunctionEnv scope X.env.globals cl [] X.env.qual none .none (some X.env)) Q E s₃:=by
 simp only [newFunctionEnv,zcq,if_true];refine zaa (wpAny_alloc ?_);refine zaa (wpAny_layCells _ (fun name kind cells=>by cases hkc:kind == NameKind.cell <;> simp [hkc]) _ _ _ _ ?_);have ok:=cellsFrom_ok scope.names (s₃.heap.push {cls:=.type "dict",data:=.dict #[]}) (s₃.heap.objs.size+1) [] ⟨fun _ _ hm=>(nomatch hm),List.Pairwise.nil⟩ (by rw [zaZ];exact zal _);have e1:=jK scope.names (s₃.heap.push {cls:=.type "dict",data:=.dict #[]}).objs.size cl;refine zad (hQ _ _ _ (fun b o e=>pushCells_keeps _ _ b o (zae _ e)) ((Heap.Ns.new s₃.heap (.type "dict")).keeps (pushCells_keeps _ _)) ?_ ?_)
 all_goals
  rw [e1];generalize hOz:cellsFrom (s₃.heap.push {cls:=.type "dict",data:=.dict #[]}).objs.size scope.names []=Ozz at ok e1;have own:∀{x c},Ozz.lookup x=some c->(pushCells (s₃.heap.push {cls:=.type "dict",data:=.dict #[]}) scope.names).IsCell c none/\s₂.heap.objs.size < c:=fun {x c} h=>⟨(ok.empty x c (PySem.mem_of_lookup h)).1,zcc hs (ok.empty x c (PySem.mem_of_lookup h)).2⟩
  have ol:∀{x c},cl.lookup x=some c->c < s₂.heap.objs.size:=fun {x c} h=>by
   obtain ⟨v,o,q,_⟩:=I.cell x c (hcl x c h);exact zah q
  have spl:∀{x c},(Ozz++cl).lookup x=some c->Ozz.lookup x=some c\/(Ozz.lookup x=none/\cl.lookup x=some c):=fun {x c} h=>by
   rw [iB] at h
   cases q:Ozz.lookup x with
   |none=>rw [q] at h;exact .inr ⟨rfl,h⟩
   |some d=>rw [q] at h;exact .inl h
 ·refine ⟨fun x c h=>?_,fun x y c h1 h2=>?_,fun y hy hk=>?_,fun y hy=>?_⟩
  ·rcases spl h with h|⟨h1,h2⟩
   ·exact .inr (own h).2
   ·refine .inl ⟨hcl x c h2,fun z=>?_⟩
    have:=zb5 scope.names (s₃.heap.push {cls:=.type "dict",data:=.dict #[]}).objs.size [] (.inl z);rw [hOz,h1] at this;cases this
  ·rcases spl h1 with h1|⟨_,h1⟩ <;> rcases spl h2 with h2|⟨_,h2⟩
   ·exact PySem.name_of_addr ok.apart (PySem.mem_of_lookup h1) (PySem.mem_of_lookup h2)
   ·exact absurd (zcc (own h1).2 (ol h2)) (zaN _)
   ·exact absurd (zcc (own h2).2 (ol h1)) (zaN _)
   ·exact I.ok.inj x y c (hcl x c h1) (hcl y c h2)
  ·rw [iB]
   cases q:Ozz.lookup y.1 with
   |some d=>exact ⟨d,rfl⟩
   |none =>
    rcases hk with hk|hk
    ·exact hcl2 y hy hk
    ·have:=zb5 scope.names (s₃.heap.push {cls:=.type "dict",data:=.dict #[]}).objs.size [] (.inl (n.cell y hy hk))
     rw [hOz,q] at this;cases this
  ·obtain ⟨c,hc⟩:=hcl2 _ (oG hy) rfl
   refine ⟨c,?_,hcl y c hc⟩;rw [iB]
   cases q:Ozz.lookup y with
   |none=>exact hc
   |some d =>
    rw [←hOz] at q;rcases pd _ _ _ (PySem.mem_of_lookup q) with z|z
    ·cases z
    ·have:=n.cell _ z rfl
     rw [hy] at this;cases this
 ·intro x c h hc
  rcases spl h with h|⟨_,h⟩
  ·exact (own h).1
  ·exact absurd (zcc hc (ol h)) (zaN _)
theorem qh {X:Cx}{pins:Tc}{Y:L2.St}{s₂:Shared}{H₂:Hp}{E:Tb}{elt tg iter:Expr}{ifs:Tj}{scope:Scope}{pos:Pos}{own caps:Tn}{ix:List Nat}{g:TG}{tc:TT}{te:TE}{Q:VK}{cl:List (Str×Addr)}
  {it:Addr} {fp:Tf} {tn:Nat->Heap->Prop} {J:It} {RR:Value->Addr->Result->Shared->Prop}
  (hc:X.calm=true) (I:ay X pins Y H₂ s₂) (T:uv X.prog X.w X.K tg J fp it tn) (st:tn 0 s₂.heap) (hf:∀b∈fp,lA X pins H₂ b) (n:aP X.env.scope scope own caps)
  (hcl:∀x c,cl.lookup x=some c->X.env.cells.lookup x=some c) (hcl2:∀y∈scope.names,y.2=.free->∃c,cl.lookup y.1=some c)
  (hix:ix.length=caps.length) (hix2:∀(j i:Nat) y,ix[j]?=some i->caps[j]?=some y->X.N[i]?=some y)
  (hg:∀cl C,PG (aL X scope cl C s₂ H₂ fp (own++caps)) tg g) (ht:∀cl C,m9 (aL X scope cl C s₂ H₂ fp (own++caps)) ifs tc) (he:∀cl C,PE (aL X scope cl C s₂ H₂ fp (own++caps)) elt te)
  (W:Nat->Nat->List V->L2.St->Hp->Prop) (hW0:∃n,W 0 n [] (gJ (own.map fun _=>none) ix Y) H₂)
  (hW:∀i n ys τ H,W i n ys τ H->(J.stop i H/\∀p,H p=none->Q (.ref p) (upd H p (.lst ys))) \/
   (J.go i H/\ys.length < sizeLine/\∀x H',J.yld i H x H'->g x τ H' fun τ2 H2=>tc τ2 H2 fun b H3=>if b=true then te τ2 H3 fun y H4=>∃n',n' < n/\W (i+1) n' (ys++[y]) τ2 H4 else ∃n',n' < n/\W (i+1) n' ys τ2 H3))
  (hRR:∀(D C:Addr) (s':Shared) m H' ys,s'.heap.Ns C m->ay X pins Y (upd H' D (.lst ys)) s'->lA X pins (upd H' D (.lst ys)) C->Q (.ref D) (upd H' D (.lst ys))->RR (.ref D) C (.ok .next) s') :
  wpAny (model X.prog X.w) X.A (newList []) (fun acc s₃=>wpAny (model X.prog X.w) X.A (newFunctionEnv scope X.env.globals cl [] X.env.qual none .none (some X.env)) (fun cenv s₄ =>
   codeAny (model X.prog X.w) X.A (.compStart (.ListComp elt [⟨tg,iter,ifs,0⟩] scope pos) 0 (.ref it) acc {cenv with scope:=relabel scope X.env}) (RR acc cenv.locals) s₄) E s₃) E s₂:=by
 refine zaE (yP (s₂:=s₂) I n (by show s₂.heap.objs.size < (s₂.heap.push _).objs.size;rw [zaZ];exact zbM _) hcl hcl2 fun h₁ cl m₁ kp1 hns1 B hown=>?_);dsimp only at hns1 kp1 ⊢;generalize hH2:s₂.heap.push {cls:=.type "list",dict:=none,data:=.seq ([]:Te).toArray}=H2 at hns1 kp1 ⊢
 have hC:H2.objs.size=s₂.heap.objs.size+1:=by rw [←hH2,zaZ]
 have below:∀b,b < s₂.heap.objs.size->b≠H2.objs.size/\b≠s₂.heap.objs.size:=fun b hb=>⟨by rw [hC];exact zam (zbn hb),zam hb⟩
 have hDC:s₂.heap.objs.size≠H2.objs.size:=by rw [hC];exact zam (zbM _)
 have old:∀b o,s₂.heap.get? b=some o->h₁.get? b=some o:=fun b o e=>kp1 b o (hH2 ▸ zae _ e);have hacc:h₁.get? s₂.heap.objs.size=some {cls:=.type "list",data:=.seq ([]:Te).toArray}:=kp1 _ _ (hH2 ▸ zak _ rfl)
 have fplt:∀b∈fp,b < s₂.heap.objs.size:=fun b hb=>by obtain ⟨o,e,_⟩:=T.obj _ _ st b hb;exact zah e
 have hCle:s₂.heap.objs.size<=H2.objs.size:=by rw [hC];exact zbT _
 have hfC:∀b∈fp,b < H2.objs.size:=fun b hb=>zau (fplt b hb) hCle;have st₁:tn 0 h₁:=T.keep 0 _ _ st fun b _ o e=>old b o e;have I₀:=uo (tk:=s₂.toks) I n B hCle fplt hf hown hix hix2 old hns1;clear hns1 kp1
 have cellD:∀x c,cl.lookup x=some c->c≠s₂.heap.objs.size:=fun x c e=>by
  rcases B.src x c e with ⟨z,_⟩|z
  ·obtain ⟨v,o,q,_⟩:=I.cell x c z;exact zam (zah q)
  ·exact Ne.symm (zam z)
 have stkD:∀b∈yw X.stack,b < s₂.heap.objs.size:=fun b hb=>by
  rcases zaj.mp (I.stkSub b hb) with e|e
  ·rw [e];exact I.lt
  ·obtain ⟨_,o,q,_⟩:=I.funs.mem e;exact zah q
 have fpok:∀{ps:Tc} {H:Hp},(∀b∈fp,H b=none)->(∀p∈ps,p.1∉fp)->∀b∈fp,lA (aL X scope cl H2.objs.size s₂ H₂ fp (own++caps)) ps H b:=fun {ps H} hn hp b hb =>
  ⟨hn b hb,zam (hfC b hb),fun z=>by
   rcases zaj.mp (I.stkSub b z) with e|e
   ·exact (hf b hb).2.1 e
   ·exact (hf b hb).2.2.1 e,.inl hb,fun x c e=>B.ne (hf b hb) (fplt b hb) e,fun p hp' z=>hp p (by simpa [aL] using hp') (z ▸ hb)⟩
 have Dfp:s₂.heap.objs.size∉fp:=fun z=>zaN _ (fplt _ z)
 have pinD:∀{H:Hp} {h:Heap} {its:Te} {k:Nat},H s₂.heap.objs.size=none->h.get? s₂.heap.objs.size=some {cls:=.type "list",data:=.seq its.toArray k} ->
   ∀p∈[((s₂.heap.objs.size,{cls:=.type "list",data:=.seq its.toArray k}):Addr×Obj)],h.get? p.1=some p.2/\H p.1=none/\p.1≠H2.objs.size/\p.1∉yw X.stack/\∀v,p.2.data≠.cell v:=fun {H h its k} hn e p hp=>by
  rw [zav.mp hp];exact ⟨e,hn,hDC,fun z=>zaN _ (stkD _ z),fun v z=>by cases z⟩
 have dl:∀s₃:Shared,s₃={s₂ with heap:=h₁} ->
   codeAny (model X.prog X.w) X.A (.compLoop (.ListComp elt [⟨tg,iter,ifs,0⟩] scope pos) 0 (.ref it) (.ref s₂.heap.objs.size) (compEnvC scope cl H2.objs.size X.env)) (RR (.ref s₂.heap.objs.size) H2.objs.size) s₃:=by
  rintro s₃ rfl;obtain ⟨n0,hW0⟩:=hW0
  refine uh (fun n s'=>∃i ys its k τ H,ay (aL X scope cl H2.objs.size s₂ H₂ fp (own++caps)) [(s₂.heap.objs.size,{cls:=.type "list",data:=.seq its.toArray k})] τ H s'/\tn i s'.heap/\(∀b∈fp,H b=none)/\aS ys its/\ys.length<=sizeLine/\W i n ys τ H) ?_ n0
   ⟨0,[],[],0,_,H₂,I₀.pins_of (pinD (I.hok.fresh (zal _)) hacc),st₁,fun b hb=>(hf b hb).1,.nil,zba _,hW0⟩
  rintro n s3 ⟨i,ys,its,k,τ,H,I3,st3,fr3,rv,hz,w3⟩;have hD3:=I3.pin _ (zaA _ zao)
  have pfp:∀p∈[((s₂.heap.objs.size,{cls:=.type "list",data:=.seq its.toArray k}):Addr×Obj)],p.1∉fp:=fun p hp=>by rw [zav.mp hp];exact Dfp
  rcases hW i n ys τ H w3 with ⟨stop,q⟩|⟨go,hlt,step⟩
  ·refine cR (T.done (aL X scope cl H2.objs.size s₂ H₂ fp (own++caps)) rfl rfl rfl hc i _ s3 τ H (fun _ _=>False) I3 (fpok fr3 pfp) st3 stop) fun r s4 hh=>?_
   obtain ⟨hr,I4⟩:=hh;subst hr;have hD4:=I4.pin _ (zaA _ zao);obtain ⟨m,hm,_⟩:=id I4.loc;have IX:ay X pins Y H s4:=I.call' (ch:=fp) I4.os I4.base I4.hok I4.bare fun b hb=>⟨(hf b hb).2.2.2.1,(hf b hb).2.1,(hf b hb).2.2.2.2⟩;have fD:lA X pins H s₂.heap.objs.size:=I.fpOk (zal _) hD4.2.1;have IY:=ay.adopt (o:=.lst ys) IX fD I.sz ⟨hz,its,k,rv,hD4.1⟩;exact hRR _ _ s4 m H ys hm IY (I.fpOk hCle (by rw [L2.av (Ne.symm hDC)];exact I4.free)) (q _ hD4.2.1)
  ·refine cR (T.item (aL X scope cl H2.objs.size s₂ H₂ fp (own++caps)) rfl rfl rfl hc i _ s3 τ H (fun _ _=>False) I3 (fpok fr3 pfp) st3 go) fun r s4 hh=>?_
   obtain ⟨u,hr,h4⟩:=hh;subst hr;refine cR h4 fun _ s5 hh=>?_;obtain ⟨x,H5,I5,r5,y5,st5,fr5⟩:=hh;have I5':=I5.pinned (fpok fr5 pfp) (T.obj _ _ st5);refine cR (hg _ _ _ s5 τ H5 x u _ I5' r5 (step x H5 y5)) fun _ s6 hh=>?_;obtain ⟨Y6,H6,I6,q6⟩:=hh;refine cR (ht _ _ _ s6 Y6 H6 _ I6 q6) fun ok s7 hh=>?_;obtain ⟨H7,I7,q7⟩:=hh;have memD:∀p∈ki fp s5.heap,p.1≠s₂.heap.objs.size:=fun p hp z=>Dfp (z ▸ (pW hp).1)
   cases ok with
   |true =>
    refine cR (he _ _ _ s7 Y6 H7 _ I7 q7) fun u8 s8 hh=>?_;obtain ⟨y,H8,I8,r8,n',hn',w8⟩:=hh;have hD8:=I8.pin (s₂.heap.objs.size,_) (zaA _ (zce _ zao));refine append_at (hsz:=by rw [zaq,←rv.length];exact hz) hD8.1 fun h9 sb hD9=>?_;have I8':ay (aL X scope cl H2.objs.size s₂ H₂ fp (own++caps)) (ki fp s5.heap) Y6 H8 s8:=I8.pins_of fun p hp=>I8.pin p (zaA _ (zaA _ hp))
    have I9:ay (aL X scope cl H2.objs.size s₂ H₂ fp (own++caps)) (ki fp s5.heap) Y6 H8 {s8 with heap:=h9}:=I8'.turned (t':=s8.toks) (it:=s₂.heap.objs.size) (fun b o hb e=>sb.extBut b o hb e) hD8.2.1 hDC (.inr (zal _))
     cellD fun p hp=>memD p (by simpa [aL] using hp)
    have e9:(its.toArray.push u8)=(its++[u8]).toArray:=by simp
    rw [e9] at hD9;refine ⟨n',hn',i+1,ys++[y],its++[u8],k+1,Y6,H8,I9.pins_of (pinD hD8.2.1 hD9),T.keep _ _ _ st5 fun b hb o e=>(I9.pin (b,o) (zaA _ (ez hb e))).1,fun b hb=>?_,rv.append (.cons r8 .nil),by rw [zaM];exact hlt,w8⟩;obtain ⟨o,e,d⟩:=T.obj _ _ st5 b hb;exact (I9.pin (b,o) (zaA _ (ez hb e))).2.1
   |false =>
    obtain ⟨n',hn',w8⟩:=q7;have hD7:=I7.pin (s₂.heap.objs.size,_) (zaA _ (zce _ zao));refine ⟨n',hn',i+1,ys,its,k,Y6,H7,I7.pins_of (pinD hD7.2.1 hD7.1),T.keep _ _ _ st5 fun b hb o e=>(I7.pin (b,o) (zaA _ (zaA _ (ez hb e)))).1,fun b hb=>?_,rv,hz,w8⟩;obtain ⟨o,e,d⟩:=T.obj _ _ st5 b hb;exact (I7.pin (b,o) (zaA _ (zaA _ (ez hb e)))).2.1
 exact codeAny_compStart_list (dl _ rfl) (T.self _ 0 _ _ _ st₁ (dl _ rfl))
def AE {X:Cx}{elt tg iter:Expr}{ifs:Tj}{scope:Scope}{pos:Pos}{own caps:Tn}{ix:List Nat}{wi:TI}{g:TG}{tc:TT}{te:TE}(hc:X.calm=true)(n:aP X.env.scope scope own caps)
  (hix:ix.length=caps.length) (hix2:∀(j i:Nat) y,ix[j]?=some i->caps[j]?=some y->X.N[i]?=some y) (hi:PI X tg iter wi)
  (hb:∀cl C s₂ H₂ fp,PG (aL X scope cl C s₂ H₂ fp (own++caps)) tg g/\m9 (aL X scope cl C s₂ H₂ fp (own++caps)) ifs tc/\PE (aL X scope cl C s₂ H₂ fp (own++caps)) elt te)
  (hs:∀x,foldedSetIterable iter X.env x=pure x:=by intro _;rfl):PE X (.ListComp elt [⟨tg,iter,ifs,0⟩] scope pos) (zA ix own wi g tc te):=by
 intro pins s Y H Q I h;obtain ⟨cl,hclos,hcl,hcl2⟩:=pb (env:=X.env) (scope:=scope) fun y hy hf=>I.ok.has y.1 (n.free y hy hf);rw [eval_ListComp];refine wpAny_comprehension_free (use:=none) rfl hs hclos n.kind n.loc (cR (hi pins s Y H _ I h) fun v s1 h1=>cR h1 fun itv s2 h2=>?_);obtain ⟨it,fp,tn,J,H2,e,I2,T,st2,f2,W,w0,turn⟩:=h2;subst e;refine qh (RR:=fun acc C=>compPost (model X.prog X.w) X.A X.xe none (EP X pins Y Q) acc C) hc I2 T st2 f2 n hcl hcl2 hix hix2 (fun cl C=>(hb cl C s2 H2 fp).1) (fun cl C=>(hb cl C s2 H2 fp).2.1) (fun cl C=>(hb cl C s2 H2 fp).2.2) W w0 turn ?_;intro D C s' m H' ys hm IY fC q;refine ⟨m,hm,fun h' sb=>⟨.ref D,_,IY.turned (t':=s'.toks) (it:=C) (fun b o hb e=>sb.extBut b o hb e) fC.1 fC.2.1 fC.2.2.2.1 fC.2.2.2.2.1 fC.2.2.2.2.2,rfl,q⟩⟩
def Av {X:Cx}{elt tg iter:Expr}{ifs:Tj}{scope:Scope}{pos spos py:Pos}{own caps:Tn}{ix:List Nat}{wi:TI}{g:TG}{tc:TT}{te:TE}{i:Nat}{y:Str}(hc:X.calm=true)(n:aP X.env.scope scope own caps)
  (hN:X.N.Nodup) (hy:X.N[i]?=some y) (hyl:Ew X.env.scope y)
  (hix:ix.length=caps.length) (hix2:∀(j i:Nat) y,ix[j]?=some i->caps[j]?=some y->X.N[i]?=some y) (hi:PI X tg iter wi)
  (hb:∀cl C s₂ H₂ fp,PG (aL X scope cl C s₂ H₂ fp (own++caps)) tg g/\m9 (aL X scope cl C s₂ H₂ fp (own++caps)) ifs tc/\PE (aL X scope cl C s₂ H₂ fp (own++caps)) elt te)
  (hsw:swapsWith (.ListComp elt [⟨tg,iter,ifs,0⟩] scope pos) (some (.Name y py)) spos.line X.env=pure true)
  (hs:∀x,foldedSetIterable iter X.env x=pure x:=by intro _;rfl) (hf:X.fn y=true\/X.env.scope.names.lookup y=some .local:=by first|exact .inl rfl|exact .inr rfl|assumption) :
  PS X (.Assign [.Name y py] (.ListComp elt [⟨tg,iter,ifs,0⟩] scope pos) spos) (zB (zA ix own wi g tc te) (p6 i)):=by
 intro pins s Y H Zz I h;obtain ⟨cl,hclos,hcl,hcl2⟩:=pb (env:=X.env) (scope:=scope) fun y hy hf=>I.ok.has y.1 (n.free y hy hf);rw [exec_Assign_Name_used _ _ _ _ hsw];refine zaa (wpAny_standAt (zaa ?_))
 show wpAny _ X.A (do let _ ←comprehension (.ListComp elt [⟨tg,iter,ifs,0⟩] scope pos) scope X.env _ (newList []) false (eval iter X.env) (some (assign (.Name y py) X.env))) _ _ s
 refine zaa (zbw (wpAny_comprehension_free (use:=some (assign (.Name y py) X.env)) (Q:=fun _ s'=>SP X pins Zz .next s') rfl hs hclos n.kind n.loc (cR (hi pins s Y H _ I h) fun v s1 h1=>cR h1 fun itv s2 h2=>?_)) (fun _ s' hq=>zad (zad hq)) fun _ _ e=>e);obtain ⟨it,fp,tn,J,H2,e,I2,T,st2,f2,W,w0,turn⟩:=h2;subst e;refine qh (Q:=fun x H1=>p6 i x Y H1 Zz.nx) (RR:=fun acc C=>compPost (model X.prog X.w) X.A X.xe (some (assign (.Name y py) X.env)) (fun _ s'=>SP X pins Zz .next s') acc C) hc I2 T st2 f2 n hcl hcl2 hix hix2 (fun cl C=>(hb cl C s2 H2 fp).1) (fun cl C=>(hb cl C s2 H2 fp).2.1) (fun cl C=>(hb cl C s2 H2 fp).2.2) W w0 turn ?_;intro D C s' m H' ys hm IY fC q
 show wpAny _ X.A (assign (.Name y py) X.env (.ref D)) _ _ _
 refine wpAny_assign_Name (pM (v:=.ref D) IY hN hy hyl rfl (fun s'' IZ hh=>?_) hf);obtain ⟨a,sa,ha⟩:=hh
 have nC:C≠a:=by
  rcases ha with ha|ha
  ·rw [ha];exact fC.2.1
  ·exact Ne.symm (fC.2.2.2.2.1 _ _ ha)
 refine ⟨m,hm.sameBut sa nC,fun h' sb=>⟨_,_,IZ.turned (t':=s''.toks) (it:=C) (fun b o hb e=>sb.extBut b o hb e) fC.1 fC.2.1 fC.2.2.2.1 fC.2.2.2.2.1 fC.2.2.2.2.2,q⟩⟩
section
variable {K:zac}{m:Tf}{Y:L2.St}{H:Hp}{Q:VK}{U:ac}
def GD {B:Bool->Hp->Prop}(h:eX K gk Y H B):J0 Y H B:=by obtain ⟨O,U,m,d,U',hl,hs,e,k⟩:=h;cases e;exact k H m .refl hs
def yO {O:Lo}{k:Nat}{ix:List Nat}{own:Tn}(hk:own.length=k)(h:dD K m H O Y):dD K m H (d5 k ix O) (gJ (own.map fun _=>none) ix Y):=by
 subst hk;unfold d5 gJ;refine ⟨by simp,fun i d e=>?_⟩;by_cases hi:i < own.length
 ·rw [zai (by simpa using hi),zbY] at e;split at e <;> cases e
 ·rw [zaJ (by simpa using hi)] at e;rw [zaJ (by simpa using hi)];simp only [List.length_replicate,zag] at e ⊢;generalize i - own.length=j at e ⊢;rw [zaB] at e ⊢
  cases q:ix[j]? with
  |none=>rw [q] at e;cases e
  |some i' =>
   rw [q] at e;have e3:(O[i']?).join=some d:=Option.some.inj e;have e4:O[i']?=some (some d):=by
    cases z:O[i']? with
    |none=>rw [z] at e3;cases e3
    |some w'=>rw [z] at e3;cases w' with
     |none=>cases e3
     |some _=>cases e3;rfl
   obtain ⟨v,q1,q2⟩:=h.2 i' d e4;exact ⟨v,by simp [q1],q2⟩
def wq {ix:List Nat}{k:Nat}{own:Tn}{fi:FI}{g:FG}{c:FT}{f:FE}(hk:own.length=k)(h:aq K (dM ix k fi g c f) Y H Q):zA ix own (xH K fi) (qJ K g) (eX K c) (aq K f) Y H Q:=by
 obtain ⟨O,U,m,d,U',hl,hs,e,kk⟩:=h;obtain ⟨⟨xs,U1⟩,e1,e⟩:=zab.mp e;split at e
 ·rename_i hz;obtain ⟨⟨r,Ur⟩,e2,e⟩:=zab.mp e;cases e;refine ⟨O,U,m,xs,U1,hl,hs,e1,fun J P H1 m1 x1 s1 ok p1=>?_⟩;refine ⟨fun i n ys τ H=>n=xs.length - i/\i<=xs.length/\ys.length<=i/\P H/\∃O U m ds r',dD K m H O τ/\aJ K m H U/\RelDs K H ds ys/\cg g c f (xs.drop i) O U=some (r',Ur)/\r=ds++r' /\
   ∀v H' m',dz m H m' H'->aJ K m' H' (Ur++[.lst r])->ap K m' H' (.p Ur.length) v->Q v H',
   ⟨_,rfl,zba _,zal _,p1,_,U1,m1,[],r,yO hk (hl.ext x1),s1,by simp only [RelDs],by simpa using e2,rfl,fun v H' m' x2 s2 r2=>kk v H' m' (x1.trans x2) s2 r2⟩,?_⟩
  rintro i n ys τ H ⟨rfl,hi,hy,p,O,U,m,ds,r',hl,hs,rs,e,er,kk⟩;by_cases hlt:i < xs.length
  ·have hx:xs[i]?=some xs[i]:=zap hlt;rw [zbb hlt,cg] at e;obtain ⟨⟨O1,U2⟩,q1,e⟩:=zab.mp e;obtain ⟨⟨b,U3⟩,q2,e⟩:=zab.mp e;refine .inr ⟨ok.go i _ H hx p,Nat.lt_of_le_of_lt hy (zau hlt hz),fun x H' y=>?_⟩;obtain ⟨rfl,rx⟩:=ok.yld i _ H x H' hx p y;refine ⟨O,U,m,.v xs[i],O1,U2,hl,hs,rx,q1,fun Y1 H1 m1 x1 s1 l1=>?_⟩;refine ⟨O1,U2,m1,b,U3,l1,s1,q2,fun H2 m2 x2 s2=>?_⟩
   cases b with
   |true =>
    simp only [if_true] at e ⊢;obtain ⟨⟨y',U4⟩,q3,e⟩:=zab.mp e;refine ⟨O1,U3,m2,y',U4,l1.ext x2,s2,q3,fun w H3 m3 x3 s3 r3=>?_⟩
    cases y' with
    |p _=>cases e
    |s _ _=>cases e
    |x _=>cases e
    |f _ _=>cases e
    |v d1 =>
     obtain ⟨⟨r1,U5⟩,q4,e⟩:=zab.mp e;cases e;have x4:=(x1.trans x2).trans x3;refine ⟨_,(by omega:xs.length - (i+1) < xs.length - i),rfl,hlt,by rw [zaM];exact Nat.succ_le_succ hy,ok.st _ _ x4.tf p,O1,U4,m3,ds++[d1],r1,l1.ext (x2.trans x3),s3,
      (RelDs.tf x4.tf _ _ rs).append (by simp only [RelDs];exact ⟨w,[],rfl,r3,rfl⟩),q4,by rw [er,zaW];rfl,fun v H' m' x5 s5 r5=>kk v H' m' (x4.trans x5) s5 r5⟩
   |false =>
    simp only [zar,if_false] at e ⊢;have x4:=x1.trans x2;exact ⟨_,(by omega:xs.length - (i+1) < xs.length - i),rfl,hlt,Nat.le_succ_of_le hy,ok.st _ _ x4.tf p,O1,U3,m2,ds,r',l1.ext x2,s2,RelDs.tf x4.tf _ _ rs,e,er,fun v H' m' x5 s5 r5=>kk v H' m' (x4.trans x5) s5 r5⟩
  ·have:i=xs.length:=by omega
   subst this;rw [zcX,cg] at e;cases e;refine .inl ⟨ok.stop _ H p (zal _),fun p hp=>?_⟩;obtain ⟨a1,a2,a3⟩:=iz hs rs hp;rw [za6] at er;subst er;exact kk _ _ _ a1 a2 a3
 ·cases e
end
mutual
def kO:D->PyData
 |.non=>.none
 |.bl b=>.bool b
 |.int i=>.int i
 |.str x=>.str x
 |.tup xs=>.tuple (toPys xs)
 |.fl xs=>.list (toPys xs)
 |.fd _ _=>.none
 |.key _=>.none
def toPys:List D->List PyData
 |[]=>[]
 |x::xs=>kO x::toPys xs
end
mutual
def dk:Nat->D->Bool
 |_,.non=>true
 |_,.bl _=>true
 |_,.int _=>true
 |_,.str x=>PyData.strOk x
 |_,.fd _ _=>false
 |_,.key _=>false
 |0,.tup _=>false
 |0,.fl _=>false
 |n+1,.tup xs=>okDs n xs
 |n+1,.fl xs=>okDs n xs
def okDs:Nat->List D->Bool
 |_,[]=>true
 |n,x::xs=>dk n x && okDs n xs
end
mutual
def iT:D->D->Bool
 |.bl a,y=>match y with|.bl b=>a == b|.int j=>(if a then 1 else 0) == j|_=>false
 |.int i,y=>match y with|.bl b=>i == (if b then 1 else 0)|.int j=>i == j|_=>false
 |.str x,y=>match y with|.str z=>x == z|_=>false
 |.tup xs,y=>match y with|.tup ys=>eqDs xs ys|_=>false
 |.fl xs,y=>match y with|.fl ys=>eqDs xs ys|_=>false
 |_,y=>match y with|.non=>true|.fd _ _=>true|.key _=>true|_=>false
def eqDs:List D->List D->Bool
 |[],[]=>true
 |x::xs,y::ys=>iT x y && eqDs xs ys
 |_,_=>false
end
theorem rC (xs ys:List D):iT (.tup xs) (.tup ys)=eqDs xs ys:=rfl
theorem vL (xs ys:List D):iT (.fl xs) (.fl ys)=eqDs xs ys:=rfl
theorem vM (a b:Bool):iT (.bl a) (.bl b)=(a == b):=rfl
theorem rE (i j:Int):iT (.int i) (.int j)=(i == j):=rfl
theorem d3:eqDs [] []=true:=rfl
theorem cL (x y:D)(xs ys:List D):eqDs (x::xs) (y::ys)=(iT x y && eqDs xs ys):=rfl
theorem fI (y:D)(ys:List D):eqDs [] (y::ys)=false:=rfl
theorem fJ (y:D)(ys:List D):eqDs (y::ys) []=false:=rfl
mutual
theorem vK:∀a b:D,PyData.eqv (kO a) (kO b)=iT a b
 |.non,b=>by cases b <;> rfl
 |.bl _,b=>by cases b <;> rfl
 |.int _,b=>by cases b <;> rfl
 |.str _,b=>by cases b <;> rfl
 |.tup xs,b=>by
  cases b with
  |tup ys=>exact eqDs_py xs ys
  |_=>rfl
 |.fl xs,b=>by
  cases b with
  |fl ys=>exact eqDs_py xs ys
  |_=>rfl
 |.fd _ _,b=>by cases b <;> rfl
 |.key _,b=>by cases b <;> rfl
theorem eqDs_py:∀a b:List D,PyData.eqvAll (toPys a) (toPys b)=eqDs a b
 |[],b=>by cases b <;> rfl
 |x::xs,b=>by
  cases b with
  |nil=>rfl
  |cons y ys=>rw [cL,←vK x y,←eqDs_py xs ys];rfl
end
mutual
theorem AL:∀(n:Nat) (d:D),dk n d=true->(kO d).canLay0=true/\(kO d).depth<=n
 |_,.non,_=>by simp [kO,PyData.canLay0,PyData.depth]
 |_,.bl _,_=>by simp [kO,PyData.canLay0,PyData.depth]
 |_,.int _,_=>by simp [kO,PyData.canLay0,PyData.depth]
 |n,.str x,h=>by
  have h:PyData.strOk x=true:=by cases n <;> simpa [dk] using h
  simp [kO,PyData.canLay0,PyData.depth,h]
 |n,.fd _ _,h=>by cases n <;> simp [dk] at h
 |n,.key _,h=>by cases n <;> simp [dk] at h
 |0,.tup _,h=>by simp [dk] at h
 |0,.fl _,h=>by simp [dk] at h
 |n+1,.tup xs,h=>by obtain ⟨a,b⟩:=okDs_py n xs (by simpa [dk] using h);simp only [kO,PyData.canLay0,PyData.depth];exact ⟨a,by omega⟩
 |n+1,.fl xs,h=>by obtain ⟨a,b⟩:=okDs_py n xs (by simpa [dk] using h);simp only [kO,PyData.canLay0,PyData.depth];exact ⟨a,by omega⟩
theorem okDs_py:∀(n:Nat) (ds:List D),okDs n ds=true->PyData.canLayAll0 (toPys ds)=true/\PyData.depthAll (toPys ds)<=n
 |_,[],_=>by simp [toPys,PyData.canLayAll0,PyData.depthAll]
 |n,x::xs,h=>by
  have h':dk n x=true/\okDs n xs=true:=by cases n <;> simpa [okDs] using h
  obtain ⟨a1,b1⟩:=AL n x h'.1;obtain ⟨a2,b2⟩:=okDs_py n xs h'.2;simp only [toPys,PyData.canLayAll0,PyData.depthAll,a1,a2,Bool.and_self,true_and];omega
end
def jC {d:D}(h:dk 60 d=true):SeqAt.shaped (kO d)=true:=by obtain ⟨a,b⟩:=AL 60 d h;unfold SeqAt.shaped;rw [a,zbH];exact zaF (by omega)
section
variable {X:Cx}{pins:Tc}{Y:L2.St}{H:Hp}{s:Shared}
mutual
theorem sF (I:ay X pins Y H s):∀(k:Nat) (d:D) (v:V) (u:Value),dk k d=true->ak X.K H d v->aW v u->∃as,Reads s.heap u (kO d) as
 |_,.non,v,u,_,h,r=>by simp only [ak] at h;subst h;cases r;exact ⟨_,.none⟩
 |_,.bl b,v,u,_,h,r=>by simp only [ak] at h;subst h;cases r;exact ⟨_,.bool b⟩
 |_,.int i,v,u,_,h,r=>by simp only [ak] at h;subst h;obtain ⟨t,rfl⟩:=r;exact ⟨_,.int i t⟩
 |_,.str x,v,u,_,h,r=>by simp only [ak] at h;subst h;obtain ⟨t,rfl⟩:=r;exact ⟨_,.str x t⟩
 |_,.fd _ _,v,u,hk,h,r=>by simp [dk] at hk
 |_,.key _,v,u,hk,h,r=>by simp [dk] at hk
 |0,.tup xs,v,u,hk,h,r=>by simp [dk] at hk
 |0,.fl xs,v,u,hk,h,r=>by simp [dk] at hk
 |k+1,.tup xs,v,u,hk,h,r=>by simp only [ak] at h;obtain ⟨a,vs,rfl,q,h⟩:=h;cases r;obtain ⟨its,rv,⟨o,e,c,n,hd⟩,_⟩:=I.tuple q;obtain ⟨as,ra⟩:=readss_of I k xs vs its (by simpa [dk] using hk) h rv;exact ⟨_,.tuple e c hd (by simpa using ra)⟩
 |k+1,.fl xs,v,u,hk,h,r=>by simp only [ak] at h;obtain ⟨a,vs,rfl,q,h⟩:=h;cases r;obtain ⟨its,rv,⟨o,n,e,c,_,hd⟩,_⟩:=I.list q.sq;obtain ⟨as,ra⟩:=readss_of I k xs vs its (by simpa [dk] using hk) h rv;exact ⟨_,.list e c hd (by simpa using ra)⟩
theorem readss_of (I:ay X pins Y H s):∀(k:Nat) (ds:List D) (vs:List V) (us:Te),okDs k ds=true->RelDs X.K H ds vs->aS vs us->∃as,ReadsAll s.heap us (toPys ds) as
 |_,[],vs,us,_,h,r=>by simp only [RelDs] at h;subst h;cases r;exact ⟨_,.nil⟩
 |k,d::ds,vs,us,hk,h,r=>by
  have hk:dk k d=true/\okDs k ds=true:=by cases k <;> simpa [okDs] using hk
  simp only [RelDs] at h;obtain ⟨v,vr,rfl,h1,h2⟩:=h
  cases r with
  |cons r1 r2 =>
   obtain ⟨as,q1⟩:=sF I k d v _ hk.1 h1 r1;obtain ⟨bs,q2⟩:=readss_of I k ds vr _ hk.2 h2 r2;exact ⟨_,.cons q1 q2⟩
end
end
def jV:R->ac->Option D
 |.v d,_=>some d
 |.p n,U=>match U[n]? with|some (.lst xs)=>some (.fl xs)|some (.fz xs)=>some (.fl xs)|_=>none
 |_,_=>none
def gQ (neg:Bool):R->R->ac->Option (R×ac):=fun x y U=>(jV x U).bind fun a=>(jV y U).bind fun b=>if (dk 60 a && dk 60 b)=true then some (.v (.bl (if neg then !iT a b else iT a b)),U) else none
def C0 (K:zac)(neg:Bool):R2:=fun v u H Q=>∃m U x y d,aJ K m H U/\ap K m H x v/\ap K m H y u/\gQ neg x y U=some (.v (.bl d),U)/\Q (.bl d) H
def DQ {neg:Bool}:pp K (gQ neg) (C0 K neg):=by
 intro m H U x y d U' v u Q s rx ry e k;have e0:=e;unfold gQ at e;obtain ⟨a,e1,e⟩:=zab.mp e;obtain ⟨b,e2,e⟩:=zab.mp e;split at e
 ·cases e;exact ⟨m,U,x,y,_,s,rx,ry,e0,k _ H m .refl s (by simp only [ap,ak])⟩
 ·cases e
theorem ij {X:Cx}{H:Hp}{s:Shared}{m:Tf}{U:ac}{x:R}{d:D}{v:V}{u:Value}(I:ay X pins Y H s)(S:aJ X.K m H U)(r:ap X.K m H x v)(ru:aW v u)(e:jV x U=some d)(hk:dk 60 d=true):∃as,Reads s.heap u (kO d) as:=by
 cases x with
 |v d'=>cases e;exact sF I 60 _ _ _ hk r ru
 |s _ _=>cases e
 |x _=>cases e
 |f _ _=>cases e
 |p n =>
  have hl:∃xs,d=.fl xs/\jO (.p n) U=some xs:=by
   simp only [jV] at e;split at e
   ·rename_i xs q;cases e;exact ⟨xs,rfl,by simp [jO,q]⟩
   ·rename_i xs q;cases e;exact ⟨xs,rfl,by simp [jO,q]⟩
   ·cases e
  obtain ⟨xs,rfl,e2⟩:=hl;obtain ⟨a,vs,rfl,q,rr⟩:=iA S r e2;cases ru;obtain ⟨its,rv,⟨o,n',e,c,_,hd⟩,_⟩:=I.list q;obtain ⟨as,ra⟩:=readss_of I 59 xs vs its (by simpa [dk] using hk) rr rv;exact ⟨_,.list e c hd (by simpa using ra)⟩
def qO {X:Cx}(hu:X.A.units+64 < cLine):jy X (compareOp .Eq) (C0 X.K false):=by
 intro pins s Y H v u v' u' Q I rv ru q;obtain ⟨m,U,x,y,d,S,rx,ry,e,q⟩:=q;unfold gQ at e;obtain ⟨a,e1,e⟩:=zab.mp e;obtain ⟨b,e2,e⟩:=zab.mp e;split at e
 ·rename_i z;rw [zbk] at z;cases e;obtain ⟨as,r1⟩:=ij I S rx rv e1 z.1;obtain ⟨bs,r2⟩:=ij I S ry ru e2 z.2;exact eq_dataH r1 r2 (jC z.1) (jC z.2) hu ⟨_,H,I,by rw [vK];rfl,q⟩
 ·cases e
def u6 {X:Cx}(hu:X.A.units+64 < cLine):jy X (compareOp .NotEq) (C0 X.K true):=by
 intro pins s Y H v u v' u' Q I rv ru q;obtain ⟨m,U,x,y,d,S,rx,ry,e,q⟩:=q;unfold gQ at e;obtain ⟨a,e1,e⟩:=zab.mp e;obtain ⟨b,e2,e⟩:=zab.mp e;split at e
 ·rename_i z;rw [zbk] at z;cases e;obtain ⟨as,r1⟩:=ij I S rx rv e1 z.1;obtain ⟨bs,r2⟩:=ij I S ry ru e2 z.2;exact ne_dataH r1 r2 (jC z.1) (jC z.2) hu ⟨_,H,I,by rw [vK];rfl,q⟩
 ·cases e
def mG (neg:Bool)(c:D):R->ac->Option (R×ac):=fun x U=>match c,x with
 |.non,.v .non=>some (.v (.bl (!neg)),U)
 |.bl b,.v (.bl a)=>some (.v (.bl (if neg then !(a == b) else a == b)),U)
 |_,_=>some (.v (.bl neg),U)
def CZ (neg:Bool)(c:V):R2:=fun x y H Q=>y=c/\Q (.bl (if neg then !decide (x=c) else decide (x=c))) H
section
variable {X:Cx}
def sZ:jy X (compareOp .Is) (CZ false .non):=HJ
def sY:jy X (compareOp .IsNot) (CZ true .non):=Dq
end
def Ip {m:Tf}{H:Hp}{neg:Bool}{c:D}{cv v:V}{x d:R}{U U':ac}(hc:(c=.non/\cv=.non)\/∃b,c=.bl b/\cv=.bl b)(r:ap K m H x v)(e:mG neg c x U=some (d,U')) :
  U'=U/\d=.v (.bl (if neg then !decide (v=cv) else decide (v=cv))):=by
 have nn:∀d0,d0≠.non->ak K H d0 v->v≠.non:=fun d0 h1 h2 z=>by
  subst z;cases d0 <;> simp only [ak] at h2 <;> first|exact h1 rfl|(obtain ⟨_,_,_,h,_⟩:=h2;cases h;done)|(obtain ⟨_,_,h,_⟩:=h2;cases h;done)|(obtain ⟨_,h,_⟩:=h2;cases h;done)|cases h2
 have nb:∀d0 b,(∀a,d0≠.bl a)->ak K H d0 v->v≠.bl b:=fun d0 b h1 h2 z=>by
  subst z;cases d0 <;> simp only [ak] at h2 <;> first|exact h1 _ rfl|(obtain ⟨_,_,_,h,_⟩:=h2;cases h;done)|(obtain ⟨_,_,h,_⟩:=h2;cases h;done)|(obtain ⟨_,h,_⟩:=h2;cases h;done)|cases h2
 have np:∀n,ap K m H (.p n) v->v≠.non/\∀b,v≠.bl b:=fun n ⟨a,e,_⟩=>⟨fun z=>(by rw [e] at z;cases z),fun b z=>(by rw [e] at z;cases z)⟩;have ns:∀b' n,ap K m H (.s b' n) v->v≠.non/\∀b,v≠.bl b:=fun b' n ⟨a,_,e,_⟩=>⟨fun z=>(by rw [e] at z;cases z),fun b z=>(by rw [e] at z;cases z)⟩;have nx:∀c,ap K m H (.x c) v->v≠.non/\∀b,v≠.bl b:=fun c ⟨a,_,_,e,_⟩=>⟨fun z=>(by rw [e] at z;cases z),fun b z=>(by rw [e] at z;cases z)⟩;have nf:∀L ds,ap K m H (.f L ds) v->v≠.non/\∀b,v≠.bl b:=fun L ds ⟨a,_,_,_,_,e,_⟩=>⟨fun z=>(by rw [e] at z;cases z),fun b z=>(by rw [e] at z;cases z)⟩;rcases hc with ⟨rfl,rfl⟩|⟨b,rfl,rfl⟩
 ·cases x with
  |v d0 =>
   by_cases h0:d0=.non
   ·subst h0
    have r:v=.non:=by simpa only [ap,ak] using r
    subst r;cases e;cases neg <;> simp
   ·have:=nn d0 h0 r
    cases d0 <;> first|exact absurd rfl h0|(cases e;cases neg <;> simp [this])
  |p n=>have:=(np n r).1;cases e;cases neg <;> simp [this]
  |s b' n=>have:=(ns b' n r).1;cases e;cases neg <;> simp [this]
  |x c=>have:=(nx c r).1;cases e;cases neg <;> simp [this]
  |f L ds=>have:=(nf L ds r).1;cases e;cases neg <;> simp [this]
 ·cases x with
  |v d0 =>
   by_cases h0:∃a,d0=.bl a
   ·obtain ⟨a,rfl⟩:=h0
    have r:v=.bl a:=by simpa only [ap,ak] using r
    subst r;cases e;cases neg <;> cases a <;> cases b <;> simp
   ·have:=nb d0 b (fun a z=>h0 ⟨a,z⟩) r
    cases d0 <;> first|exact absurd ⟨_,rfl⟩ h0|(cases e;cases neg <;> simp [this])
  |p n=>have:=(np n r).2 b;cases e;cases neg <;> simp [this]
  |s b' n=>have:=(ns b' n r).2 b;cases e;cases neg <;> simp [this]
  |x c=>have:=(nx c r).2 b;cases e;cases neg <;> simp [this]
  |f L ds=>have:=(nf L ds r).2 b;cases e;cases neg <;> simp [this]
def Fk {H:Hp}{Q:VK}{fa:FE}{neg:Bool}{c:D}{cv:V}(hc:(c=.non/\cv=.non)\/∃b,c=.bl b/\cv=.bl b)(h:aq K (iV (mG neg c) fa) Y H Q):Gk (CZ neg cv) (aq K fa) (tC cv) Y H Q:=by obtain ⟨O,U,m,d,U',hl,hs,e,k⟩:=h;obtain ⟨⟨x,U1⟩,e1,e⟩:=zab.mp e;refine ⟨O,U,m,x,U1,hl,hs,e1,fun v H1 m1 x1 s1 r1=>⟨rfl,?_⟩⟩;obtain ⟨rfl,rfl⟩:=Ip hc r1 e;exact k _ H1 m1 x1 s1 (by simp only [ap,ak])
def OW:R->ac->Option String
 |.v .non,_=>some "NoneType"
 |.v (.bl _),_=>some "bool"
 |.v (.int _),_=>some "int"
 |.v (.str _),_=>some "str"
 |.v (.tup _),_=>some "tuple"
 |.v (.fl _),_=>some "list"
 |.v (.fd _ _),_=>some "dict"
 |.v (.key _),_=>some "tuple"
 |.p n,U=>match U[n]? with|some (.lst _)=>some "list" | some (.fz _)=>some "list" | some (.dct _)=>some "dict" | _=>none
 |.s _ _,_=>none
 |.x _,_=>none
 |.f _ _,_=>none
def qZ (T:String):R->ac->Option (R×ac):=fun x U=>(OW x U).bind fun t=>some (.v (.bl (t == T || (t == "bool" && T == "int"))),U)
def uy (K:zac)(T:String):Prop:=∀t∈["NoneType","bool","int","str","tuple","list","dict"],PySem.W.kitOne K (.type t) (.type T)=some (t == T || (t == "bool" && T == "int"))
def KC (K:zac)(T:String):List V->Hp->VK->Prop:=fun vs H Q=>∃m U x v d,vs=[v,.ty T]/\aJ K m H U/\ap K m H x v/\qZ T x U=some (.v (.bl d),U)/\Q (.bl d) H
def BS {X : Cx} {T : String} (hT : uy X.K T) : fm X (.builtin "isinstance") (KC X.K T) := by
  intro pins s Y H vs us Q I rv q
  obtain ⟨m, U, x, v, d, rfl, S, rx, e, q⟩ := q
  obtain ⟨t, e1, e⟩ := zab.mp e
  cases e
  cases rv with
  | cons r1 rr =>
    cases rr with
    | cons r2 rr =>
      cases rr
      cases r2
      have fin : ∀ tk, EP X pins Y Q (.bool (t == T || (t == "bool" && T == "int"))) { s with toks := tk } := fun tk => ⟨.bl _, H, I.tok tk, rfl, q⟩
      cases x with
      | v d0 =>
        cases d0 with
        | non => cases e1; have r : v = .non := by simpa only [ap, ak] using rx
                 subst r; cases r1; exact zbj PySem.W.kitx_none I.kIn True.intro (hT _ (by simp)) (fun z => nomatch z) fin
        | bl b => cases e1; have r : v = .bl b := by simpa only [ap, ak] using rx
                  subst r; cases r1; exact zbj PySem.W.kitx_bool I.kIn True.intro (hT _ (by simp)) (fun z => nomatch z) fin
        | int i => cases e1; have r : v = .int i := by simpa only [ap, ak] using rx
                   subst r; obtain ⟨t, rfl⟩ := r1; exact zbj PySem.W.kitx_int I.kIn True.intro (hT _ (by simp)) (fun z => nomatch z) fin
        | str i => cases e1; have r : v = .str i := by simpa only [ap, ak] using rx
                   subst r; obtain ⟨t, rfl⟩ := r1; exact zbj PySem.W.kitx_str I.kIn True.intro (hT _ (by simp)) (fun z => nomatch z) fin
        | tup xs =>
          cases e1
          simp only [ap, ak] at rx
          obtain ⟨a, ws, rfl, q', _⟩ := rx
          cases r1
          obtain ⟨its, _, ⟨o, h1, h2, _⟩, _⟩ := I.tuple q'
          exact zbj PySem.W.kitx_tuple I.kIn ⟨o, h1, h2⟩ (hT _ (by simp)) (fun z => nomatch z) fin
        | fl xs =>
          cases e1
          simp only [ap, ak] at rx
          obtain ⟨a, ws, rfl, q', _⟩ := rx
          cases r1
          obtain ⟨its, _, ⟨o, n, h1, h2, _⟩, _⟩ := I.list q'.sq
          exact zbj zcU I.kIn ⟨o, h1, h2⟩ (hT _ (by simp)) (fun z => nomatch z) fin
        | fd ks ds =>
          cases e1
          simp only [ap, ak] at rx
          obtain ⟨a, o', es, rfl, q', _⟩ := rx
          cases r1
          obtain ⟨_, _, _, vs, _, p⟩ := (show bq X.prog X.w H s.heap a (.frz o' (.dK es)) from I.hok a _ q')
          obtain ⟨o, es', ep, h1, h2, _⟩ := p
          exact zbj PySem.W.kitx_dict I.kIn ⟨o, h1, h2.1⟩ (hT _ (by simp)) (fun z => nomatch z) fin
        | key ks =>
          cases e1
          simp only [ap, ak] at rx
          obtain ⟨a, rfl, q'⟩ := rx
          cases r1
          obtain ⟨its, _, ⟨o, h1, h2, _⟩, _⟩ := I.tuple (.inl (.inl q'))
          exact zbj PySem.W.kitx_tuple I.kIn ⟨o, h1, h2⟩ (hT _ (by simp)) (fun z => nomatch z) fin
      | s _ _ => cases e1
      | x _ => cases e1
      | f _ _ => cases e1
      | p n =>
        obtain ⟨a, rfl, ha⟩ := rx
        cases r1
        simp only [OW] at e1
        split at e1
        · rename_i xs z
          cases e1
          obtain ⟨ws, q', _⟩ := S.cell n _ a z ha
          obtain ⟨its, _, ⟨o, n, h1, h2, _⟩, _⟩ := I.list (.inl (.inl q'))
          exact zbj zcU I.kIn ⟨o, h1, h2⟩ (hT _ (by simp)) (fun z => nomatch z) fin
        · rename_i xs z
          cases e1
          obtain ⟨o', ws, q', _⟩ := S.cell n _ a z ha
          obtain ⟨its, _, ⟨o, n, h1, h2, _⟩, _⟩ := I.list (.inl (.inr ⟨o', q'⟩))
          exact zbj zcU I.kIn ⟨o, h1, h2⟩ (hT _ (by simp)) (fun z => nomatch z) fin
        · rename_i kvs z
          cases e1
          obtain ⟨es, q', _⟩ := S.cell n _ a z ha
          obtain ⟨_, _, vs, _, p⟩ := (show bq X.prog X.w H s.heap a (.dK es) from I.hok a _ q')
          obtain ⟨o, es', ep, h1, h2, _⟩ := p
          exact zbj PySem.W.kitx_dict I.kIn ⟨o, h1, h2.1⟩ (hT _ (by simp)) (fun z => nomatch z) fin
        · cases e1
def GU {H:Hp}{Q:VK}{fa:FE}{T:String}(h:aq K (iV (qZ T) fa) Y H Q):Md (KC K T) (so (aq K fa) (so (tC (.ty T)) Cs)) Y H Q:=by obtain ⟨O,U,m,d,U',hl,hs,e,k⟩:=h;obtain ⟨⟨x,U1⟩,e1,e⟩:=zab.mp e;have e0:=e;obtain ⟨t,e2,e⟩:=zab.mp e;cases e;exact ⟨O,U,m,x,_,hl,hs,e1,fun v H1 m1 x1 s1 r1=>⟨m1,_,x,v,_,rfl,s1,r1,e0,k _ H1 m1 x1 s1 (by simp only [ap,ak])⟩⟩
end HW
namespace HW
variable {K:zac}
open PyProof.Rows L2 HS
def yp (x:Int):List Int->Th
 |[]=>[x]
 |y::ys=>if x<=y then x::y::ys else y::yp x ys
def gc:List Int->Th
 |[]=>[]
 |x::xs=>yp x (gc xs)
theorem lX (x:Int):∀xs,(yp x xs).Perm (x::xs)
 |[]=>.refl _
 |y::ys=>by
  unfold yp;split
  ·exact .refl _
  ·exact ((lX x ys).cons y).trans (.swap _ _ _)
theorem dB:∀xs,(gc xs).Perm xs
 |[]=>.refl _
 |x::xs=>(lX x _).trans ((dB xs).cons x)
theorem mH (x:Int):∀{xs:Th},xs.Pairwise (·<=·)->(yp x xs).Pairwise (·<=·)
 |[],_=>zcw _ _
 |y::ys,h=>by
  unfold yp;obtain ⟨h1,h2⟩:=zaQ.mp h;split
  ·rename_i hxy;refine zaQ.mpr ⟨fun z hz=>?_,h⟩;rcases zaj.mp hz with rfl|hz
   ·exact hxy
   ·exact Int.le_trans hxy (h1 z hz)
  ·rename_i hxy;refine zaQ.mpr ⟨fun z hz=>?_,mH x h2⟩;rcases zaj.mp ((lX x ys).mem_iff.mp hz) with rfl|hz
   ·omega
   ·exact h1 z hz
theorem iC:∀xs,(gc xs).Pairwise (·<=·)
 |[]=>.nil
 |x::xs=>mH x (iC xs)
theorem nU:∀{xs ys:Th},xs.Pairwise (·<=·)->ys.Pairwise (·<=·)->xs.Perm ys->xs=ys
 |[],ys,_,_,p=>(List.Perm.nil_eq p)
 |x::xs,[],_,_,p=>absurd p.length_eq (by simp)
 |x::xs,y::ys,hx,hy,p=>by
  obtain ⟨hx1,hx2⟩:=zaQ.mp hx;obtain ⟨hy1,hy2⟩:=zaQ.mp hy;have e:x=y:=by
   have h1:x∈y::ys:=p.mem_iff.mp (by simp);have h2:y∈x::xs:=p.mem_iff.mpr (by simp);rcases zaj.mp h1 with h|h
   ·exact h
   ·rcases zaj.mp h2 with h'|h'
    ·exact h'.symm
    ·exact Int.le_antisymm (hx1 y h') (hy1 x h)
  subst e;rw [nU hx2 hy2 ((List.perm_cons _).mp p)]
def tO {xs ns:Th}(h:ns.Pairwise (·<=·))(p:ns.Perm xs):ns=gc xs:=nU h (iC xs) (p.trans (dB xs).symm)
theorem dG:∀{ns:Th} {its:Te},aS (ns.map V.int) its->IntsAre its ns
 |[],its,h=>by cases h;exact .nil
 |n::ns,its,h=>by
  cases h with
  |cons r t=>obtain ⟨tk,rfl⟩:=r;exact .cons n tk (dG t)
theorem lW:∀{ns:Th} {its:Te},IntsAre its ns->aS (ns.map V.int) its
 |_,_,.nil=>.nil
 |_,_,.cons n t h=>.cons ⟨t,rfl⟩ (lW h)
abbrev eJ (o:Obj):HO:=.frz o (.ext fun _=>True)
def Ni (K:zac)(b:Bool):List V->Hp->VK->Prop:=fun vs H Q=>∃p ns,vs=[.ref p]/\gU K H p (ns.map V.int)/\ns.length < 4000/\∀l o,H l=none->cO b o (aG [] ns)->Q (.ref l) (upd H l (eJ o))
def yJ {X:Cx}(hc:X.calm=true):fm X (.type "set") (Ni X.K (!HS.bt X.w)):=by intro pins s Y H vs us Q I r h;obtain ⟨p,ns,rfl,hq,hn,q⟩:=h;obtain ⟨u,rfl,rx⟩:=iQ r;cases rx;obtain ⟨its,r',pl,hz⟩:=I.tuple hq;have hI:=dG r';have hl:its.length=ns.length:=IntsAre.length hI;obtain ⟨o',ho',hc',n',hd'⟩:=pl;refine CC (its:=its.toArray) (ns:=ns) (I.ok.hd hc) ⟨o',ho',hc',n',hd'⟩ (by simpa using hI) (by simp [scanBound,hl];omega) fun h' tk o ho hS kp ht=>?_;exact ⟨.ref s.heap.objs.size,_,I.laid (t':=tk) kp (zal _) (show bq X.prog X.w _ h' _ (eJ o) from ⟨ho,trivial,⟨o,ho⟩,fun _ _ _ _=>trivial⟩),rfl,q _ _ (I.hok.fresh (zal _)) hS⟩
def qK (b:Bool):List V->Hp->VK->Prop:=fun vs H Q=>∃p o xs,vs=[.ref p]/\H p=some (eJ o)/\cO b o xs/\xs.length < 64/\∀l,H l=none->Q (.ref l) (upd H l (.lst ((gc xs).map V.int)))
def ay.drw {H:Hp}{s:Shared}(I:ay X pins Y H s)(d:Drawn):ay X pins Y H {s with drawn:=d} :=
 ⟨I.ok,I.os,I.bare,I.base,I.loc,I.cell,I.free,I.freeC,I.pin,I.hok,I.len⟩
def rM {X:Cx}(hc:X.calm=true):fm X (.builtin "sorted") (qK (!HS.bt X.w)):=by
 intro pins s Y H vs us Q I r h;obtain ⟨p,o,xs,rfl,hp,hS,h64,q⟩:=h;obtain ⟨u,rfl,rx⟩:=iQ r;cases rx;have ho:s.heap.get? p=some o:=(I.hok p _ hp).1;refine uT (I.ok.hd hc) ho hS h64 fun out ns h' d tk l c a1 a2 a3 kp ht hl hL=>?_;have e:=tO a3 a2;subst e;have hlen:(gc xs).length=xs.length:=(dB xs).length_eq;have I1:ay X pins Y (upd H l (.lst ((gc xs).map V.int))) {s with heap:=h',toks:=tk} :=
  I.laid (t':=tk) kp hl (show bq X.prog X.w _ h' _ (.lst _) from ⟨by rw [zag,hlen,zbh];omega,out.toList,c,lW a1,by simpa [seqObj] using hL⟩)
 exact ⟨.ref l,_,ay.drw I1 d,rfl,q _ (I.hok.fresh hl)⟩
def hU:List D->Option (Th)
 |[]=>some []
 |.int n::r=>(hU r).map (n :: ·)
 |_=>none
theorem lf:∀{ds:List D} {ns:Th},hU ds=some ns->ds=ns.map D.int
 |[],ns,e=>by cases e;rfl
 |d::r,ns,e=>by cases d <;> simp only [hU] at e <;> first|cases e|skip;obtain ⟨ms,e1,rfl⟩:=zaK.mp e;rw [lf e1];rfl
theorem k9 {K:zac}{H:Hp}:∀{ns:Th} {vs:List V},RelDs K H (ns.map D.int) vs->vs=ns.map V.int
 |[],vs,h=>h
 |n::ns,vs,h=>by
  obtain ⟨v,r,rfl,h1,h2⟩:=h;have h1:v=.int n:=by simpa only [ak] using h1
  rw [h1,k9 h2];rfl
theorem n9 {K:zac}{H:Hp}:∀{ns:Th},RelDs K H (ns.map D.int) (ns.map V.int)
 |[]=>rfl
 |n::ns=>⟨_,_,rfl,by simp only [ak],n9⟩
def wm (b:Bool):List R->ac->Option (R×ac)
 |[.s c xs],U=>if c=b/\xs.length < 64 then some (.p U.length,U++[.lst ((gc xs).map D.int)]) else none
 |_,_=>none
def Bm {b:Bool}:vZ K (wm b) (qK b):=by
 intro m H U xs d U' vs Q s r e k;unfold wm at e;split at e
 ·rename_i c ys;split at e
  ·rename_i hn;obtain ⟨rfl,hn⟩:=hn;cases e;obtain ⟨v,rfl,r1⟩:=lJ r;obtain ⟨a,o,rfl,q,hS⟩:=r1;refine ⟨a,o,ys,rfl,q,hS,hn,fun l hl=>k _ _ (m++[l]) (.newH hl) (s.newH hl ⟨_,bn,n9⟩) ⟨l,rfl,?_⟩⟩;rw [←s.len];simp
  ·cases e
 ·cases e
def mX:List R->ac->Option (R×ac)
 |[.v (.int i),.v (.int j)],U=>some (.v (.int (if j < i then j else i)),U)
 |_,_=>none
def AV:List R->ac->Option (R×ac)
 |[.v (.int i),.v (.int j)],U=>some (.v (.int (if j > i then j else i)),U)
 |_,_=>none
def Km {m:Tf}{H:Hp}{x y:R}{vs:List V}(r:aQ K m H [x,y] vs):∃v w,vs=[v,w]/\ap K m H x v/\ap K m H y w:=by obtain ⟨v,r,rfl,h1,h2⟩:=r;obtain ⟨w,r,rfl,h2,h3⟩:=h2;have h3:r=[]:=h3;subst h3;exact ⟨v,w,rfl,h1,h2⟩
def Lm :vZ K mX (fun xs H Q=>∃i j,xs=[.int i,.int j]/\Q (.int (if j < i then j else i)) H):=by
 intro m H U xs d U' vs Q s r e k;unfold mX at e;split at e
 ·cases e;obtain ⟨v,w,rfl,r1,r2⟩:=Km r;simp only [ap,ak] at r1 r2;subst r1;subst r2;exact ⟨_,_,rfl,k _ H m .refl s (by simp only [ap,ak])⟩
 ·cases e
def Ln :vZ K AV (fun xs H Q=>∃i j,xs=[.int i,.int j]/\Q (.int (if j > i then j else i)) H):=by
 intro m H U xs d U' vs Q s r e k;unfold AV at e;split at e
 ·cases e;obtain ⟨v,w,rfl,r1,r2⟩:=Km r;simp only [ap,ak] at r1 r2;subst r1;subst r2;exact ⟨_,_,rfl,k _ H m .refl s (by simp only [ap,ak])⟩
 ·cases e
def Ae (b:Bool):R2:=fun x y H Q=>∃p q o o' xs ys,x=.ref p/\y=.ref q/\H p=some (eJ o)/\H q=some (eJ o')/\cO b o xs/\cO b o' ys/\xs.length+ys.length < 64/\∀l u,H l=none->cO b u (aG xs ys)->Q (.ref l) (upd H l (eJ u))
def AI {X:Cx}:jy X (binaryOp .BitOr) (Ae (!HS.bt X.w)):=by intro pins s Y H x y v u Q I rx ry h;obtain ⟨p,q,o,o',xs,ys,rfl,rfl,hp,hq,S1,S2,hz,k⟩:=h;cases rx;cases ry;refine i5 (I.hok p _ hp).1 S1 (I.hok q _ hq).1 S2 (by omega) fun h' d u kp g S=>?_;have I1:ay X pins Y (upd H s.heap.objs.size (eJ u)) {s with heap:=h',toks:=s.toks}:=I.laid (t':=s.toks) kp (zal _) (show bq X.prog X.w _ h' _ (eJ u) from ⟨g,trivial,⟨u,g⟩,fun _ _ _ _=>trivial⟩);exact ⟨.ref s.heap.objs.size,_,ay.drw I1 d,rfl,k _ _ (I.hok.fresh (zal _)) S⟩
def Ji (b:Bool):R->R->ac->Option (R×ac)
 |.s c xs,.s c' ys,U=>if c=b/\c'=b/\xs.length+ys.length < 64 then some (.s b (aG xs ys),U) else none
 |_,_,_=>none
def sE {H:Hp}{l:Addr}{o:HO}(hl:H l=none):∀a o',H a=some o'->upd H l o a=some o':=fun a o' e=>by rw [av (fun z=>by rw [z,hl] at e;cases e)];exact e
def NB {b:Bool}:pp K (Ji b) (Ae b):=by
 intro m H U x y d U' v u Q s rx ry e k;unfold Ji at e;split at e
 ·split at e
  ·rename_i hc;obtain ⟨rfl,rfl,hz⟩:=hc;cases e;obtain ⟨p,o,rfl,hp,S1⟩:=rx;obtain ⟨q,o',rfl,hq,S2⟩:=ry;exact ⟨p,q,o,o',_,_,rfl,rfl,hp,hq,S1,S2,hz,fun l w hl S=>k _ _ m (.new hl) (s.same (sE hl)) ⟨l,w,rfl,bn,S⟩⟩
  ·cases e
 ·cases e
def Fn (K:zac)(b:Bool):List V->Hp->VK->Prop:=fun vs H Q=>∃p ns,vs=[.ref p]/\(iZ K H p (ns.map V.int)\/gU K H p (ns.map V.int))/\ns.length < 4000/\∀l o,H l=none->cO b o (aG [] ns)->Q (.ref l) (upd H l (eJ o))
def yK {X:Cx}(hc:X.calm=true):fm X (.type "set") (Fn X.K (!HS.bt X.w)):=by
 intro pins s Y H vs us Q I r h;obtain ⟨p,ns,rfl,hq,hn,q⟩:=h;rcases hq with hq|hq
 ·obtain ⟨u,rfl,rx⟩:=iQ r
  cases rx;obtain ⟨its,r',pl,hz⟩:=I.list hq;have hI:=dG r';have hl:its.length=ns.length:=IntsAre.length hI;refine CG (its:=its.toArray) (ns:=ns) (I.ok.hd hc) pl.isList (by simpa using hI) (by simp [scanBound,hl];omega) fun h' tk o ho hS kp ht=>?_;exact ⟨.ref s.heap.objs.size,_,I.laid (t':=tk) kp (zal _) (show bq X.prog X.w _ h' _ (eJ o) from ⟨ho,trivial,⟨o,ho⟩,fun _ _ _ _=>trivial⟩),rfl,q _ _ (I.hok.fresh (zal _)) hS⟩
 ·exact yJ hc pins s Y H _ us Q I r ⟨p,ns,rfl,hq,hn,q⟩
def uW (b:Bool):List R->ac->Option (R×ac)
 |[x],U=>(dj x U).bind fun ds=>(hU ds).bind fun ns=>if ns.length < 4000 then some (.s b (aG [] ns),U) else none
 |_,_=>none
def Iq {b:Bool}:vZ K (uW b) (Fn K b):=by
 intro m H U xs d U' vs Q s r e k;unfold uW at e;split at e
 ·obtain ⟨ds,e0,e⟩:=zab.mp e;obtain ⟨ns,e1,e⟩:=zab.mp e;split at e
  ·rename_i hn
   cases e;obtain ⟨v,rfl,r1⟩:=lJ r;obtain ⟨a,ws,rfl,q,rr⟩:=hJ s r1 e0;rw [lf e1] at rr;rw [k9 rr] at q;exact ⟨a,ns,rfl,q,hn,fun l o hl hS=>k _ _ m (.new hl) (s.same (sE hl)) ⟨l,o,rfl,bn,hS⟩⟩
  ·cases e
 ·cases e
def sI (K:zac)(b:Bool):List V->Hp->VK->Prop:=fun vs H Q=>qK b vs H Q\/∃p ns,vs=[.ref p]/\iZ K H p (ns.map V.int)/\ns.length < 64/\∀l,H l=none->Q (.ref l) (upd H l (.lst ((gc ns).map V.int)))
def rN {X:Cx}(hc:X.calm=true):fm X (.builtin "sorted") (sI X.K (!HS.bt X.w)):=by
 intro pins s Y H vs us Q I r h;rcases h with h|⟨p,ns,rfl,hq,h64,q⟩
 ·exact rM hc pins s Y H vs us Q I r h
 ·obtain ⟨u,rfl,rx⟩:=iQ r
  cases rx;obtain ⟨its,r',pl,hz⟩:=I.list hq;have hI:=dG r';have hl:its.length=ns.length:=IntsAre.length hI;refine sorted_ints (vs:=its) (ns:=ns) pl.isList hI (by omega) fun out ns' a1 a2 a3=>?_;have e:=tO a3 a2;subst e;have hlen:(gc ns).length=ns.length:=(dB ns).length_eq;have hsz:((s.heap.push (seqObj "list" #[] 0)).update s.heap.objs.size (Obj.mapSeq (·++its.toArray))).objs.size=s.heap.objs.size+1:=by rw [zcY,size_push']
  have hoL:(((s.heap.push (seqObj "list" #[] 0)).update s.heap.objs.size (Obj.mapSeq (·++its.toArray))).push (seqObj "list" its.toArray 0)).get? (s.heap.objs.size+1)=some (seqObj "list" its.toArray 0):=by rw [←hsz];exact zak _ rfl
  obtain ⟨c,hcx⟩:∃c,(sortedAll s.heap its out).get? (s.heap.objs.size+1)=some (seqObj "list" out c):=by unfold sortedAll sortedHeap;obtain ⟨e1,q1⟩:∃e1,((((s.heap.push (seqObj "list" #[] 0)).update s.heap.objs.size (Obj.mapSeq (·++its.toArray))).push (seqObj "list" its.toArray 0)).update (s.heap.objs.size+1) (Obj.mapSeq fun _=>#[])).get? (s.heap.objs.size+1)=some (seqObj "list" #[] e1):=⟨_,get?_update_seq hoL (fun _=>#[])⟩;exact ⟨_,get?_update_seq (zae _ (zae _ q1)) (fun _=>out)⟩
  have kp:∀b o,s.heap.get? b=some o->(sortedAll s.heap its out).get? b=some o:=fun b o e=>by have hb:=zah e;have n1:s.heap.objs.size+1≠b:=za0 (zbn hb);have n0:s.heap.objs.size≠b:=za0 hb;unfold sortedAll sortedHeap;rw [zaC _ _ n1];refine zae _ (zae _ ?_);rw [zaC _ _ n1];refine zae _ ?_;rw [zaC _ _ n0];exact zae _ e
  exact ⟨.ref (s.heap.objs.size+1),_,I.laid (t':=s.toks) kp (zbT _) (show bq X.prog X.w _ _ _ (.lst _) from ⟨by rw [zag,hlen,zbh];omega,out.toList,c,lW a1,by simpa [seqObj] using hcx⟩),rfl,q _ (I.hok.fresh (zbT _))⟩
def jB (b:Bool):List R->ac->Option (R×ac)
 |[.s c xs],U=>if c=b/\xs.length < 64 then some (.p U.length,U++[.lst ((gc xs).map D.int)]) else none
 |[x],U=>(jO x U).bind fun ds=>(hU ds).bind fun ns=>if ns.length < 64 then some (.p U.length,U++[.lst ((gc ns).map D.int)]) else none
 |_,_=>none
def yv {b:Bool}:vZ K (jB b) (sI K b):=by
 intro m H U xs d U' vs Q s r e k;unfold jB at e;split at e
 ·exact .inl (Bm m H U _ d U' vs Q s r e k)
 ·rename_i x _;obtain ⟨ds,e0,e⟩:=zab.mp e;obtain ⟨ns,e1,e⟩:=zab.mp e;split at e
  ·rename_i hn
   cases e;obtain ⟨v,rfl,r1⟩:=lJ r;obtain ⟨a,ws,rfl,q,rr⟩:=iA s r1 e0;rw [lf e1] at rr;rw [k9 rr] at q;refine .inr ⟨a,ns,rfl,q,hn,fun l hl=>k _ _ (m++[l]) (.newH hl) (s.newH hl ⟨_,bn,n9⟩) ⟨l,rfl,?_⟩⟩;rw [←s.len];simp
  ·cases e
 ·cases e
def Mq (neg:Bool):R->R->ac->Option (R×ac)
 |.v (.int i),y,U=>(dj y U).bind fun ds=>(hU ds).bind fun ns=>some (.v (.bl (if neg then !ns.contains i else ns.contains i)),U)
 |_,_,_=>none
theorem tR {i:Int}:∀{ns:Th},Mp (.int i) (ns.map V.int)=ns.contains i
 |[]=>rfl
 |n::ns=>by have ih:=tR (i:=i) (ns:=ns);unfold Mp at ih ⊢;rw [zaf,zbz,ih,List.contains_cons];simp only [D6];rw [show (n == i)=(i == n) from Bool.eq_iff_iff.mpr ⟨fun h=>beq_iff_eq.mpr (beq_iff_eq.mp h).symm,fun h=>beq_iff_eq.mpr (beq_iff_eq.mp h).symm⟩]
theorem p8:∀{ns:Th},(ns.map V.int).all lj=true
 |[]=>rfl
 |n::ns=>by rw [zaf,List.all_cons,p8];rfl
def Lw {neg:Bool}:pp K (Mq neg) (Nl K neg):=by
 intro m H U x y d U' v u Q s rx ry e k;unfold Mq at e;split at e
 ·obtain ⟨ds,e0,e⟩:=zab.mp e;obtain ⟨ns,e1,e⟩:=zab.mp e;cases e;simp only [ap,ak] at rx;subst rx;obtain ⟨a,ws,rfl,q,rr⟩:=hJ s ry e0;rw [lf e1] at rr;rw [k9 rr] at q;refine ⟨a,ns.map V.int,rfl,q,rfl,p8,k _ H m .refl s ?_⟩;simp only [ap,ak,tR]
 ·cases e
def rY (K:zac)(H:Hp):List V->List (aI×V)->Prop:=Paired fun v kv=>∃t,v=.ref t/\gU K H t [kV kv.1,kv.2]
def pB (kvs ps:List (aI×V)):List (aI×V):=ps.foldl (fun a p=>em a p.1 p.2) kvs
theorem sP:∀(ps kvs:List (aI×V)),(pB kvs ps).length<=kvs.length+ps.length
 |[],kvs=>by simp [pB]
 |p::ps,kvs=>by have h1:=sP ps (em kvs p.1 p.2);have h2:=jj kvs p.1 p.2;simp only [pB,zbi,zaD] at h1 ⊢;omega
theorem sO:∀{ps:List (aI×V)} {qs:List (aI×Value)} {kvs:List (aI×V)} {vs:List (aI×Value)},KV kvs vs->KV ps qs->KV (pB kvs ps) (HS.putAll vs qs)
 |_,_,_,_,r,.nil=>r
 |p::ps,q::qs,_,_,r,.cons e t=>by obtain ⟨e1,e2⟩:=e;simp only [pB,HS.putAll,zbi];rw [←e1];exact sO (ps:=ps) (qs:=qs) (KV.put r p.1 e2) t
def AF {X : Cx} {H : Hp} {s : Shared} (I : ay X pins Y H s) : ∀ {ws : List V} {kvs : List (aI × V)} {its : Te}, rY X.K H ws kvs -> aS ws its ->
    ∃ ps : List (aI × Value), KV kvs ps /\ ps.length = its.length /\ ∀ (i : Nat) v, its[i]? = some v -> ∃ k x key, ps[i]? = some (k, x) /\ (bC X.prog X.w).is k key = true /\ gq s.heap v key x := by
  intro ws kvs its p v
  induction p generalizing its with
  | nil => cases v; exact ⟨[], .nil, rfl, fun i v e => by simp at e⟩
  | @cons _ kv _ _ hp tp ih =>
   obtain ⟨k, y⟩ := kv
   cases v with
   | cons hv tv =>
    obtain ⟨ps, a1, a2, a3⟩ := ih tv
    obtain ⟨t, rfl, hs⟩ := hp
    cases hv
    obtain ⟨js, r, ⟨o, ho, hc, n, hd⟩, _⟩ := I.tuple hs
    cases r with
    | cons r1 rr =>
      cases rr with
      | cons r2 rr =>
        cases rr
        rename_i key x
        refine ⟨(k, x) :: ps, .cons ⟨rfl, r2⟩ a1, by simp [a2], fun i v e => ?_⟩
        cases i with
        | zero => simp at e; subst e; exact ⟨k, x, key, rfl, tN r1, ⟨t, o, n, rfl, ho, hc, hd⟩⟩
        | succ i => simpa using a3 i v (by simpa using e)
def Aj (K:zac):List V->Hp->VK->Prop:=fun vs H Q=>∃p ws kvs,vs=[.ref p]/\H p=some (.lst ws)/\rY K H ws kvs/\∀l,H l=none->Q (.ref l) (upd H l (.dK (pB [] kvs)))
def qg {X:Cx}(hc:X.calm=true):fm X (.type "dict") (Aj X.K):=by
 intro pins s Y H vs us Q I r h;obtain ⟨p,ws,kvs,rfl,hH,hp,q⟩:=h;obtain ⟨u,rfl,rx⟩:=iQ r;cases rx;obtain ⟨z,its,n,rv,hl,e⟩:=I.lstM hH;obtain ⟨ps,a1,a2,a3⟩:=AF I hp rv;have hk:kvs.length=its.length:=by have:=Paired.length a1;omega
 refine BL (knd:=bC X.prog X.w) (ps:=ps) (I.ok.hd hc) e (by simpa using a2) (by simp;omega) (fun i v hv=>a3 i v (by simpa using hv)) fun h' tk hD kp=>?_;have hz:(pB [] kvs).length<=sizeLine:=by have:=sP kvs [];simp at this;omega
 exact ⟨.ref s.heap.objs.size,_,I.laid (t':=tk) kp (zal _) (show bq X.prog X.w _ h' _ (.dK _) from ⟨hz,beq_eq_false_iff_ne.mpr (za0 I.big),_,sO .nil a1,hD⟩),rfl,q _ (I.hok.fresh (zal _))⟩
def lN:List D->Option (List (aI×D))
 |[]=>some []
 |.tup [.int i,d]::r=>(lN r).map ((.inl i,d) :: ·)
 |_=>none
def gD (kvs:List (aI×D))(k:aI)(v:D):List (aI×D):=if (kvs.any fun kv=>decide (kv.1=k))=true then kvs.map (fun kv=>if kv.1=k then (kv.1,v) else kv) else kvs++[(k,v)]
def aR (kvs ps:List (aI×D)):List (aI×D):=ps.foldl (fun a p=>gD a p.1 p.2) kvs
def KD (K:zac)(H:Hp)(kvs:List (aI×D))(es:List (aI×V)):Prop:=es.map (·.1)=kvs.map (·.1)/\RelDs K H (kvs.map (·.2)) (es.map (·.2))
def KD.nil {H:Hp}:KD K H [] []:=⟨rfl,rfl⟩
def KD.any {H:Hp}{kvs:List (aI×D)}{es:List (aI×V)}(r:KD K H kvs es)(k:aI):(es.any fun kv=>decide (kv.1=k))=(kvs.any fun kv=>decide (kv.1=k)):=by
 have h1:∀{β:Type} (l:List (aI×β)),(l.any fun kv=>decide (kv.1=k))=((l.map (·.1)).any fun x=>decide (x=k)):=fun l=>by rw [zcK];rfl
 rw [h1,h1,r.1]
def KD.cons {K:zac}{H:Hp}{k k':aI}{d:D}{v:V}{kvs:List (aI×D)}{es:List (aI×V)}:KD K H ((k,d)::kvs) ((k',v)::es) ↔ k'=k/\ak K H d v/\KD K H kvs es:=by
 constructor
 ·rintro ⟨h1,h2⟩;simp only [zaf,List.cons.injEq] at h1;obtain ⟨w,r,e,h3,h4⟩:=h2;simp only [zaf,List.cons.injEq] at e;obtain ⟨rfl,rfl⟩:=e;exact ⟨h1.1,h3,h1.2,h4⟩
 ·rintro ⟨rfl,h1,h2,h3⟩;exact ⟨by simp [h2],⟨_,_,rfl,h1,h3⟩⟩
theorem KD.repl {K:zac}{H:Hp}{k:aI}{d:D}{v:V}(rd:ak K H d v):∀{kvs:List (aI×D)} {es:List (aI×V)},KD K H kvs es->KD K H (kvs.map fun kv=>if kv.1=k then (kv.1,d) else kv) (es.map fun kv=>if kv.1=k then (kv.1,v) else kv)
 |[],[],_=>.nil
 |[],e::es,h=>by have:=h.1;simp at this
 |q::kvs,[],h=>by have:=h.1;simp at this
 |(a,x)::kvs,(b,y)::es,h=>by
  obtain ⟨rfl,h1,h2⟩:=KD.cons.mp h;have ih:=KD.repl (k:=k) rd h2;rw [zaf,zaf];by_cases e:b=k
  ·rw [if_pos e,if_pos e];exact KD.cons.mpr ⟨rfl,rd,ih⟩
  ·rw [if_neg e,if_neg e];exact KD.cons.mpr ⟨rfl,h1,ih⟩
theorem KD.snoc {K:zac}{H:Hp}{k:aI}{d:D}{v:V}(rd:ak K H d v):∀{kvs:List (aI×D)} {es:List (aI×V)},KD K H kvs es->KD K H (kvs++[(k,d)]) (es++[(k,v)])
 |[],[],_=>KD.cons.mpr ⟨rfl,rd,.nil⟩
 |[],e::es,h=>by have:=h.1;simp at this
 |q::kvs,[],h=>by have:=h.1;simp at this
 |(a,x)::kvs,(b,y)::es,h=>by obtain ⟨rfl,h1,h2⟩:=KD.cons.mp h;exact KD.cons.mpr ⟨rfl,h1,KD.snoc rd h2⟩
def KD.put {H:Hp}{k:aI}{d:D}{v:V}{kvs:List (aI×D)}{es:List (aI×V)}(r:KD K H kvs es)(rd:ak K H d v):KD K H (gD kvs k d) (em es k v):=by
 unfold gD em;rw [r.any k];split
 ·exact r.repl rd
 ·exact r.snoc rd
theorem KD.putAll {K:zac}{H:Hp}:∀{ps:List (aI×D)} {qs:List (aI×V)} {kvs:List (aI×D)} {es:List (aI×V)},KD K H kvs es->KD K H ps qs->KD K H (aR kvs ps) (pB es qs)
 |[],[],_,_,r,_=>r
 |[],e::es,_,_,_,h=>by have:=h.1;simp at this
 |q::kvs,[],_,_,_,h=>by have:=h.1;simp at this
 |(a,x)::ps,(b,y)::qs,_,_,r,h=>by obtain ⟨rfl,h1,h2⟩:=KD.cons.mp h;exact KD.putAll (ps:=ps) (qs:=qs) (r.put h1) h2
theorem pU {K:zac}{H:Hp}:∀{ds:List D} {ws:List V} {kvs:List (aI×D)},lN ds=some kvs->RelDs K H ds ws->∃qs,rY K H ws qs/\KD K H kvs qs
 |[],ws,kvs,e,r=>by cases e;have r:ws=[]:=r;subst r;exact ⟨[],.nil,.nil⟩
 |d::ds,ws,kvs,e,r=>by
  obtain ⟨v,ws',rfl,r1,r2⟩:=r;unfold lN at e;split at e
  ·cases e;rename_i h;cases h
  ·rename_i i x r' h
   cases h;obtain ⟨ks,e1,rfl⟩:=zaK.mp e;obtain ⟨qs,p1,p2⟩:=pU e1 r2;simp only [ak] at r1;obtain ⟨a,vs,rfl,hq,hr⟩:=r1;obtain ⟨v1,t1,rfl,h1,hr⟩:=hr;obtain ⟨v2,t2,rfl,h2,hr⟩:=hr;have hr:t2=[]:=hr;subst hr;have h1:v1=.int i:=(by simpa only [ak] using h1);subst h1;exact ⟨(.inl i,v2)::qs,.cons ⟨a,rfl,hq⟩ p1,KD.cons.mpr ⟨rfl,h2,p2⟩⟩
  ·cases e
def o5:List R->ac->Option (R×ac)
 |[.p n],U=>match U[n]? with
  |some (.lst ds)=>(lN ds).bind fun kvs=>some (.p U.length,U++[.dct (aR [] kvs)])
  |_=>none
 |_,_=>none
def Iw {K:zac}:vZ K o5 (Aj K):=by
 intro m H U xs d U' vs Q s r e k;unfold o5 at e;split at e
 ·rename_i n;split at e
  ·rename_i ds hn;obtain ⟨kvs,e1,e⟩:=zab.mp e;cases e;obtain ⟨v,rfl,r1⟩:=lJ r;obtain ⟨a,rfl,ha⟩:=r1;obtain ⟨ws,ea,ra⟩:=s.cell _ _ a hn ha;obtain ⟨qs,p1,p2⟩:=pU e1 ra;refine ⟨a,ws,qs,rfl,ea,p1,fun l hl=>?_⟩;have x:dz m H (m++[l]) (upd H l (.dK (pB [] qs))):=.newH hl;have hk:=KD.putAll (K:=K) (H:=H) .nil p2;refine k _ _ (m++[l]) x (s.newH hl ⟨_,bn,hk.1,RelDs.tf x.tf _ _ hk.2⟩) ⟨l,rfl,?_⟩;rw [←s.len];simp
  ·cases e
 ·cases e
def wu (neg:Bool):R2:=fun x y H Q=>∃p kvs k,y=.ref p/\x=kV k/\Rd H p (.dK kvs)/\Q (.bl (if neg then !(dh kvs k).isSome else (dh kvs k).isSome)) H
def xR {X:Cx}(hu:X.A.units+64 < cLine):jy X (compareOp .In) (wu false):=by intro pins s Y H x y v u Q I rx ry h;obtain ⟨p,kvs,k,rfl,rfl,hR,q⟩:=h;cases ry;exact Ox (by omega) I (.inl ⟨kvs,k,hR,rfl,rfl⟩) rx fun s' I'=>⟨.bl _,H,I',rfl,q⟩
theorem lC (k:aI):∀(es:List (aI×V)),(dh es k).isSome=es.any fun kv=>decide (kv.1=k)
 |[]=>rfl
 |(a,v)::es=>by
  have ih:=lC k es;unfold dh at ih ⊢;by_cases e:a=k
  ·simp [e]
  ·simpa [e] using ih
def DM (neg:Bool):R->R->ac->Option (R×ac)
 |.v (.int i),.p n,U=>match U[n]? with
  |some (.dct kvs)=>some (.v (.bl (if neg then !(kvs.any fun kv=>decide (kv.1=.inl i)) else kvs.any fun kv=>decide (kv.1=.inl i))),U)
  |some (.fzd kvs)=>some (.v (.bl (if neg then !(kvs.any fun kv=>decide (kv.1=.inl i)) else kvs.any fun kv=>decide (kv.1=.inl i))),U)
  |_=>Mq neg (.v (.int i)) (.p n) U
 |x,y,U=>Mq neg x y U
def Lv {K:zac}{neg:Bool}:pp K (DM neg) (fun x y H Q=>Nl K neg x y H Q\/wu neg x y H Q):=by
 intro m H U x y d U' v u Q s rx ry e k;unfold DM at e;split at e
 ·rename_i i n;split at e
  ·rename_i kvs hn
   cases e;simp only [ap,ak] at rx;subst rx;obtain ⟨a,rfl,ha⟩:=ry;obtain ⟨es,ea,e1,e2⟩:=s.cell _ _ a hn ha;refine .inr ⟨a,es,.inl i,rfl,rfl,.inl ea,k _ H m .refl s ?_⟩;have hv:=(lC (.inl i) es).trans (KD.any (K:=K) (H:=H) ⟨e1,e2⟩ (.inl i));rw [hv];simp only [ap,ak]
  ·rename_i kvs hn
   cases e;simp only [ap,ak] at rx;subst rx;obtain ⟨a,rfl,ha⟩:=ry;obtain ⟨o,es,ea,e1,e2⟩:=s.cell _ _ a hn ha;refine .inr ⟨a,es,.inl i,rfl,rfl,.inr ⟨o,ea⟩,k _ H m .refl s ?_⟩;have hv:=(lC (.inl i) es).trans (KD.any (K:=K) (H:=H) ⟨e1,e2⟩ (.inl i));rw [hv];simp only [ap,ak]
  ·exact .inl (Lw m H U _ _ d U' v u Q s rx ry e k)
 ·exact .inl (Lw m H U _ _ d U' v u Q s rx ry e k)
end HW
namespace HW
open PyProof.Rows L2
mutual
def cF:D->Bool
 |.tup xs=>flatDs xs
 |.fl _=>false
 |.fd _ _=>false
 |_=>true
def flatDs:List D->Bool
 |[]=>true
 |x::xs=>cF x && flatDs xs
end
def MX:R->ac->Option D
 |.v d,_=>some d
 |.p n,U=>match U[n]? with
  |some (.lst xs)=>some (.fl xs)|some (.fz xs)=>some (.fl xs)
  |some (.dct kvs)=>some (.fd (kvs.map (·.1)) (kvs.map (·.2)))|some (.fzd kvs)=>some (.fd (kvs.map (·.1)) (kvs.map (·.2)))
  |_=>none
 |.s _ _,_=>none
 |.x _,_=>none
 |.f _ _,_=>none
def gW:List R->ac->Option (List D)
 |[],_=>some []
 |x::xs,U=>(MX x U).bind fun d=>(gW xs U).bind fun ds=>some (d::ds)
def dC (f:MF)(n:Nat)(fa:FA):FE:=fun O U=>(fa O U).bind fun a=>(gW a.1 a.2).bind fun ds=>if ds.length=n then (f ds).bind fun d=>if cF d=true then some (.v d,a.2) else none else none
abbrev MC:=List D->Option au
def p9:au->Bool
 |.lst xs=>flatDs xs
 |.dct kvs=>flatDs (kvs.map (·.2))
 |_=>false
def Br:nF->Option au
 |.rt (.p n) U=>match U[n]? with|some (.lst xs)=>some (.lst xs)|some (.dct kvs)=>some (.dct kvs)|_=>none
 |_=>none
def zR (k:Nat)(b:FS):MC:=fun ds=>(b (ds.map (fun d=>some (.v d))++List.replicate (k - ds.length) none) []).bind Br
def kz (f:MC)(n:Nat)(fa:FA):FE:=fun O U=>(fa O U).bind fun a=>(gW a.1 a.2).bind fun ds=>if ds.length=n then (f ds).bind fun c=>if p9 c=true then some (.p a.2.length,a.2++[c]) else none else none
section
variable {P:Program}{w:World}{H H0:Hp}{h h0:Heap}{a:Addr}{u:HO}{o:Obj}{fs ex:Tf}
def ig.thaw (ok:ig P w H h)(e:H a=some (.frz o u))(hu:fO u):ig P w (upd H a u) h:=by
 have ne:∀c v,H c=some v->v≠.frz o u->c≠a:=fun c v q n z=>by rw [z,e] at q;exact n (Option.some.inj q).symm
 have own:∀c y,H c=some (.own y)->upd H a u c=some (.own y):=fun c y r=>by rw [L2.av (ne c _ r (by simp))];exact r
 have tup:∀c xs,H c=some (.tup xs)->upd H a u c=some (.tup xs):=fun c xs r=>by rw [L2.av (ne c _ r (by simp))];exact r
 intro b v q;by_cases hb:b=a
 ·subst hb;rw [L2.bn] at q;cases q;exact (ok b _ e).2.stay (fun c v _ q=>q) (fun c r=>own c _ r) tup
 ·rw [L2.av hb] at q;exact (ok b v q).stay (fun c v _ q=>q) (fun c r=>own c _ r) tup
def Un.thaw (un:Un fs ex (upd H0 a (.frz o u)) H h0 h)(e:H0 a=some u)(hu:fO u):Un fs ex H0 (upd H a u) h0 h:=by
 have nn:∀b,H0 b=none->b≠a:=fun b z y=>by rw [y,e] at z;cases z
 have nf:∀b v,H0 b=some v->¬ fO v->b≠a:=fun b v q n=>fO.ne e hu q n;refine ⟨fun b ob q n hb hx=>un.keep b ob q (by rw [L2.av (nn b n)];exact n) hb hx,fun b ob q n hb hx=>un.slot b ob q (by rw [L2.av (nn b n)];exact n) hb hx,fun b ob q n hx=>?_,un.there,fun b xs q=>?_,fun b ob v q=>?_,fun b ps q=>?_⟩
 ·rw [L2.av (nn b n)];exact un.free b ob q (by rw [L2.av (nn b n)];exact n) hx
 ·have hb:=nf b _ q fun z=>z;rw [L2.av hb];exact un.tups b xs (by rw [L2.av hb];exact q)
 ·have hb:=nf b _ q fun z=>z;rw [L2.av hb];exact un.frzs b ob v (by rw [L2.av hb];exact q)
 ·have hb:=nf b _ q fun z=>z;obtain ⟨more,r⟩:=un.tbls b ps (by rw [L2.av hb];exact q);exact ⟨more,by rw [L2.av hb];exact r⟩
end
def bor (sp:Sp):Sp:=fun vs H Q E=>sp vs H Q E\/∃a u,H a=some u/\fO u/\∀o,sp vs (upd H a (.frz o u)) (fun v H2=>Q v (upd H2 a u)) E
def borN:Nat->Sp->Sp
 |0,sp=>sp
 |n+1,sp=>bor (borN n sp)
def ca.bor {K:zac}{mg:Td}{base:Heap}{k:Nat}{f:Addr}{ps:Tn}{sp:Sp}(F:ca P w K mg base jN k f fd ps sp) :
  ca P w K mg base jN k f fd ps (HW.bor sp):=by
 refine ⟨fun vs H Q E h=>?_,fun A outer s H args us vs Q E hr he hb hv hs=>?_⟩
 ·rcases h with h|⟨a,u,e,hu,h⟩
  ·exact F.len vs H Q E h
  ·exact F.len _ _ _ _ (h {cls:=.none,data:=.fields #[]})
 ·rcases hs with hs|⟨a,u,e,hu,hs⟩
  ·exact F.run A outer s H args us vs Q E hr he hb hv hs
  ·obtain ⟨o,ok⟩:=ig.frz he.hok e hu
   have nn:∀b,H b=none->upd H a (.frz o u) b=none:=fun b z=>by rw [L2.av (fun y=>by rw [y,e] at z;cases z)];exact z
   refine zbf (F.run A outer s (upd H a (.frz o u)) args us vs _ E hr ⟨he.frames,he.mod,fun b ob q=>⟨(he.bs b ob q).1,nn b (he.bs b ob q).2⟩,he.bsz,he.funs,fun b hb=>nn b (he.frf b hb),ok,he.bare⟩ hb hv (hs o)) fun r s' hq=>?_
   cases r with
   |error e=>exact hq
   |ok fl =>
    cases fl with
    |next=>exact hq
    |brk=>exact hq
    |cont=>exact hq
    |ret x =>
     obtain ⟨v,H',os,bare,un,hok,rv,q⟩:=hq;exact ⟨v,_,os,bare,Un.thaw un e hu,ig.thaw hok (un.frzs a o u L2.bn) hu,rv,q⟩
theorem ca.borN {K:zac}{mg:Td}{base:Heap}{k:Nat}{f:Addr}{ps:Tn}{sp:Sp}(F:ca P w K mg base jN k f fd ps sp) :
  ∀n,ca P w K mg base jN k f fd ps (HW.borN n sp)
 |0=>F
 |n+1=>ca.bor (ca.borN F n)
def pi (H H2:Hp):Hp:=fun b=>match H b with|some u=>some u|none=>H2 b
def Cz (H H1:Hp):Prop:=∀b,H1 b=H b\/∃u o,H b=some u/\fO u/\H1 b=some (.frz o u)
section
variable {K:zac}{H H1 H2:Hp}
theorem Cz.refl:Cz H H:=fun _=>.inl rfl
def Cz.upd {a:Addr}{u:HO}{o:Obj}(c:Cz H H1)(e:H1 a=some u)(hu:fO u):Cz H (upd H1 a (.frz o u)):=fun b=>by
 by_cases hb:b=a
 ·subst hb;rw [L2.bn];rcases c b with z|⟨u',o',_,_,z⟩
  ·exact .inr ⟨u,o,by rw [←z,e],hu,rfl⟩
  ·rw [e] at z;cases z;exact hu.elim
 ·rw [L2.av hb];exact c b
def Cz.trans (c:Cz H H1)(c':Cz H1 H2):Cz H H2:=fun b=>by
 rcases c' b with z|⟨u,o,z1,z2,z3⟩
 ·rw [z];exact c b
 ·rcases c b with y|⟨u',o',_,_,y⟩
  ·exact .inr ⟨u,o,by rw [←y,z1],z2,z3⟩
  ·rw [z1] at y;cases y;exact z2.elim
def Cz.tf (c:Cz H H1):TF H H1:=by
 refine ⟨fun a xs e=>?_,fun a o u e=>?_⟩
 ·rcases c a with z|⟨u,o,z1,z2,z3⟩
  ·rw [z,e]
  ·rw [e] at z1;cases z1;exact z2.elim
 ·rcases c a with z|⟨u',o',z1,z2,z3⟩
  ·rw [z,e]
  ·rw [e] at z1;cases z1;exact z2.elim
theorem Dm (s:uC H H2):pi H H2=H2:=by
 funext b;unfold pi
 cases e:H b with
 |none=>rfl
 |some u=>exact (s b u e).symm
def nh:uC H (pi H H2):=fun a o e=>by unfold pi;rw [e]
def Dl {a:Addr}{u v:HO}(e:H a=some u):upd (pi (upd H a v) H2) a u=pi H H2:=by
 funext b;by_cases hb:b=a
 ·subst hb;rw [L2.bn];unfold pi;rw [e]
 ·rw [L2.av hb];unfold pi;rw [L2.av hb]
def GO {a:Addr}{xs:List V}(c:Cz H H1)(s:uC H1 H2)(h:gU K H2 a xs):gU K (pi H H2) a xs:=by
 have back:∀v,¬ fO v->(∀o u,v=.frz o u->¬ fO u)->H2 a=some v->pi H H2 a=some v:=fun v nf nz e=>by
  unfold pi
  cases q:H a with
  |none=>exact e
  |some u =>
   rcases c a with z|⟨u',o',z1,z2,z3⟩
   ·rw [q] at z;rw [s a u z] at e;exact e
   ·rw [s a _ z3] at e
    cases e;exact absurd z2 (nz o' u' rfl)
 rcases h with (h|⟨o,h⟩)|h
 ·exact .inl (.inl (back _ (fun z=>z) (fun _ _ z=>by cases z) h))
 ·exact .inl (.inr ⟨o,back _ (fun z=>z) (fun o u z=>by cases z;exact fun z=>z) h⟩)
 ·exact .inr h
theorem Cm {a:Addr}{xs:List V}(c:Cz H H1)(s:uC H1 H2)(e:H2 a=some (.tup xs)):pi H H2 a=some (.tup xs):=by
 unfold pi
 cases q:H a with
 |none=>exact e
 |some u =>
  rcases c a with z|⟨u',o',z1,z2,z3⟩
  ·rw [q] at z;rw [s a u z] at e;exact e
  ·rw [s a _ z3] at e
   cases e
mutual
theorem tV (c:Cz H H1)(s:uC H1 H2):∀(d:D) (v:V),cF d=true->ak K H2 d v->ak K (pi H H2) d v
 |.non,_,_,h=>by simpa only [ak] using h
 |.bl _,_,_,h=>by simpa only [ak] using h
 |.int _,_,_,h=>by simpa only [ak] using h
 |.str _,_,_,h=>by simpa only [ak] using h
 |.tup xs,v,f,h=>by simp only [ak] at h ⊢;obtain ⟨a,vs,e,q,r⟩:=h;exact ⟨a,vs,e,GO c s q,flats_ovr c s xs vs (by simpa only [cF] using f) r⟩
 |.fl _,_,f,_=>by simp [cF] at f
 |.fd _ _,_,f,_=>by simp [cF] at f
 |.key _,_,_,h=>by simp only [ak] at h ⊢;obtain ⟨a,e,q⟩:=h;exact ⟨a,e,Cm c s q⟩
theorem flats_ovr (c:Cz H H1)(s:uC H1 H2):∀(ds:List D) (vs:List V),flatDs ds=true->RelDs K H2 ds vs->RelDs K (pi H H2) ds vs
 |[],_,_,h=>by simpa only [RelDs] using h
 |d::ds,vs,f,h=>by
  simp only [RelDs] at h ⊢;obtain ⟨v,r,e,h1,h2⟩:=h;have f':cF d=true/\flatDs ds=true:=by simpa [flatDs] using f
  exact ⟨v,r,e,tV c s d v f'.1 h1,flats_ovr c s ds r f'.2 h2⟩
end
end
def zF (K:zac)(n:Nat)(f:List D->Option (Hp->V->Hp->Prop)):Sp:=fun vs H Q _=>∃ds P,ds.length=n/\RelDs K H ds vs/\f ds=some P/\∀v H',uC H H'->P H v H'->Q v H'
section
variable {K:zac}{m:Tf}{Y:L2.St}{H H0:Hp}{U:ac}{Q:VK}
theorem Ia {n:Nat}{f:List D->Option (Hp->V->Hp->Prop)}{P:Hp->V->Hp->Prop}{E:XK}(hs:aJ K m H0 U):∀(rs:List R) (vs vsP:List V) (ds dsP:List D) (H1:Hp) (Q:VK),Cz H0 H1->RelDs K H1 dsP vsP->aQ K m H0 rs vs->gW rs U=some ds ->
  f (dsP++ds)=some P->(dsP++ds).length=n->(∀v H2 H1',Cz H1 H1'->uC H1' H2->P H1' v H2->Q v (pi H1 H2))->borN rs.length (zF K n f) (vsP++vs) H1 Q E
 |[],vs,vsP,ds,dsP,H1,Q,c,rp,rr,ev,ef,el,k=>by
  cases ev;have rr:vs=[]:=rr;subst rr;rw [za6] at ef el ⊢;exact ⟨dsP,P,el,rp,ef,fun v H' s p=>by have:=k v H' H1 .refl s p;rwa [Dm s] at this⟩
 |r::rs,vs,vsP,ds,dsP,H1,Q,c,rp,rr,ev,ef,el,k=>by
  obtain ⟨v,ws,rfl,r1,r2⟩:=rr;obtain ⟨d,e1,ev⟩:=zab.mp ev;obtain ⟨es,e2,ev⟩:=zab.mp ev;cases ev
  have app:∀{Z:Type} (a:List Z) (x:Z) (b:List Z),a++x::b=a++[x]++b:=fun a x b=>by simp
  rw [app] at ef el ⊢
  have go:∀(H1':Hp) (Q':VK),Cz H1 H1'->ak K H1' d v->(∀v H2 H1'',Cz H1' H1''->uC H1'' H2->P H1'' v H2->Q' v (pi H1' H2))->borN rs.length (zF K n f) (vsP++[v]++ws) H1' Q' E:=fun H1' Q' c' rd k' =>
   Ia hs rs ws (vsP++[v]) es (dsP++[d]) H1' Q' (c.trans c') (RelDs.append (RelDs.tf c'.tf _ _ rp) (by simp only [RelDs];exact ⟨_,_,rfl,rd,rfl⟩)) r2 e2 ef el k'
  cases r with
  |v d' =>
   cases e1;exact .inl (go H1 Q .refl (ak.tf c.tf _ _ r1) k)
  |s _ _=>cases e1
  |x _=>cases e1
  |f _ _=>cases e1
  |p i =>
   obtain ⟨a,rfl,ha⟩:=r1;have e1:(match U[i]? with|some (.lst xs)=>some (D.fl xs)|some (.fz xs)=>some (D.fl xs)|some (.dct kvs)=>some (D.fd (kvs.map (·.1)) (kvs.map (·.2)))|some (.fzd kvs)=>some (D.fd (kvs.map (·.1)) (kvs.map (·.2)))|_=>none)=some d:=e1
   have lent:∀u,fO u->H0 a=some u->(∀H3 o,H3 a=some (.frz o u)->TF H0 H3->ak K H3 d (.ref a))->borN (rs.length+1) (zF K n f) (vsP++[V.ref a]++ws) H1 Q E:=fun u hu e0 rd=>by
    rcases c a with z|⟨u',o',z1,z2,z3⟩
    ·rw [e0] at z
     refine .inr ⟨a,u,z,hu,fun o=>?_⟩;have c1:Cz H1 (upd H1 a (.frz o u)):=Cz.refl.upd z hu
     exact go _ _ c1 (rd _ o L2.bn (c.tf.trans c1.tf)) fun v H2 H1'' c2 s2 p=>by
      rw [Dl z];exact k v H2 H1'' (c1.trans c2) s2 p
    ·rw [e0] at z1;cases z1
     exact .inl (go H1 Q .refl (rd _ o' z3 c.tf) k)
   have known:∀o u,H0 a=some (.frz o u)->ak K H1 d (.ref a)->borN (rs.length+1) (zF K n f) (vsP++[V.ref a]++ws) H1 Q E:=fun o u e0 rd=>.inl (go H1 Q .refl rd k);split at e1
   ·rename_i xs q
    cases e1;obtain ⟨ws',ea,ra⟩:=hs.cell _ _ a q ha
    exact lent (.lst ws') trivial ea fun H3 o e3 t=>by simp only [ak];exact ⟨a,ws',rfl,.inl ⟨o,e3⟩,RelDs.tf t _ _ ra⟩
   ·rename_i xs q
    cases e1;obtain ⟨o,ws',ea,ra⟩:=hs.cell _ _ a q ha;exact known o _ ea (by simp only [ak];exact ⟨a,ws',rfl,.inl ⟨o,c.tf.frz _ _ _ ea⟩,RelDs.tf c.tf _ _ ra⟩)
   ·rename_i kvs q
    cases e1;obtain ⟨es',ea,e1,e2⟩:=hs.cell _ _ a q ha
    exact lent (.dK es') trivial ea fun H3 o e3 t=>by simp only [ak];exact ⟨a,o,es',rfl,e3,e1,RelDs.tf t _ _ e2⟩
   ·rename_i kvs q
    cases e1;obtain ⟨o,es',ea,e1,e2⟩:=hs.cell _ _ a q ha;exact known o _ ea (by simp only [ak];exact ⟨a,o,es',rfl,c.tf.frz _ _ _ ea,e1,RelDs.tf c.tf _ _ e2⟩)
   ·cases e1
def pX (K:zac)(f:MF):List D->Option (Hp->V->Hp->Prop):=fun ds=>(f ds).map fun d _ v H'=>ak K H' d v
def cX (K:zac)(f:MC):List D->Option (Hp->V->Hp->Prop):=fun ds=>(f ds).map fun c H v H'=>∃a,v=.ref a/\H a=none/\gr K [] H' c a
def Ki {n:Nat}{f:MF}{vs:List V}{E:XK}(h:zF K n (pX K f) vs H Q E):yT K n f vs H Q E:=by obtain ⟨ds,P,el,r,ef,k⟩:=h;obtain ⟨d,e,rfl⟩:=zaK.mp ef;exact ⟨ds,d,el,r,e,k⟩
theorem uE:∀{rs:List R} {ds:List D},gW rs U=some ds->rs.length=ds.length
 |[],_,h=>by cases h;rfl
 |r::rs,ds,h=>by obtain ⟨d,_,h⟩:=zab.mp h;obtain ⟨es,e2,h⟩:=zab.mp h;cases h;simp [uE e2]
def Aa {f n fa}{E:XK}(h:aq K (dC f n fa) Y H Q):ss (borN n (zF K n (pX K f))) [] E (fY K fa) Y H Q:=by
 obtain ⟨O,U,m,d,U',hl,hs,e,k⟩:=h;obtain ⟨⟨xs,U1⟩,e1,e⟩:=zab.mp e;obtain ⟨ds,e2,e⟩:=zab.mp e;split at e
 ·rename_i hn;obtain ⟨d1,e3,e⟩:=zab.mp e;split at e
  ·rename_i hf
   cases e;refine ⟨O,U,m,xs,_,hl,hs,e1,fun vs H1 m1 x1 s1 r1=>?_⟩;have hx:xs.length=n:=(uE e2).trans hn
   show borN n (zF K n (pX K f)) (vs++[]) H1 Q E
   rw [za6,←hx];refine Ia (dsP:=[]) (vsP:=[]) (P:=fun _ v H'=>ak K H' d1 v) s1 xs vs ds H1 Q .refl rfl r1 e2 ?_ (by simp [hn,hx]) fun v H2 H1' c s p=>?_
   ·rw [za9];unfold pX;rw [e3];rfl
   ·exact k v _ m1 (x1.trans (uC.ext nh)) (s1.same nh) (tV c s _ _ hf p)
  ·cases e
 ·cases e
def Ab {f n fa}{E:XK}(h:aq K (kz f n fa) Y H Q):ss (borN n (zF K n (cX K f))) [] E (fY K fa) Y H Q:=by
 obtain ⟨O,U,m,d,U',hl,hs,e,k⟩:=h;obtain ⟨⟨xs,U1⟩,e1,e⟩:=zab.mp e;obtain ⟨ds,e2,e⟩:=zab.mp e;split at e
 ·rename_i hn;obtain ⟨c1,e3,e⟩:=zab.mp e;split at e
  ·rename_i hf
   cases e;refine ⟨O,U,m,xs,_,hl,hs,e1,fun vs H1 m1 x1 s1 r1=>?_⟩;have hx:xs.length=n:=(uE e2).trans hn
   show borN n (zF K n (cX K f)) (vs++[]) H1 Q E
   rw [za6,←hx];refine Ia (dsP:=[]) (vsP:=[]) (P:=fun H v H'=>∃a,v=.ref a/\H a=none/\gr K [] H' c1 a) s1 xs vs ds H1 Q .refl rfl r1 e2 ?_ (by simp [hn,hx]) fun v H2 H1' c s p=>?_
   ·rw [za9];unfold cX;rw [e3];rfl
   ·obtain ⟨a,rfl,ha,hc⟩:=p;have h1a:H1 a=none:=by
     rcases c a with z|⟨u,o,_,_,z⟩
     ·rw [←z,ha]
     ·rw [ha] at z;cases z
    have at':∀u,H2 a=some u->pi H1 H2 a=some u:=fun u q=>(by unfold pi;rw [h1a];exact q);have hc':gr K (m1++[a]) (pi H1 H2) c1 a:=by
     cases c1 with
     |lst xs=>obtain ⟨vs,q,r⟩:=hc;exact ⟨vs,at' _ q,flats_ovr c s _ _ hf r⟩
     |dct kvs=>obtain ⟨es,q,q2,r⟩:=hc;exact ⟨es,at' _ q,q2,flats_ovr c s _ _ hf r⟩
     |fz xs=>cases hf
     |fzt kvs=>cases hf
     |fzd kvs=>cases hf
     |dr kvs=>cases hf
     |lr xs=>cases hf
     |dt kvs=>cases hf
     |tb _ _=>cases hf
     |ob _ _=>cases hf
     |tr _=>cases hf
     |fzr _=>cases hf
     |dtr _=>cases hf
    have hn':a∉m1:=s1.fresh h1a;have ext:dz m1 H1 (m1++[a]) (pi H1 H2):=by have z:=uC.ext (m:=m1) (nh (H:=H1) (H2:=H2));exact ⟨⟨[a],rfl,fun b hb=>by rw [zav.mp hb];exact h1a⟩,z.tf,z.keep,z.live⟩
    have srel:aJ K (m1++[a]) (pi H1 H2) (U1++[c1]):=by
     have s1':=s1.same (nh (H:=H1) (H2:=H2));refine ⟨zbd.mpr ⟨s1.nd,by simp,fun b hb b' hb'=>?_⟩,by simp [s1.len],fun i c' b q1 q2=>?_⟩
     ·rw [zav.mp hb'];rintro rfl;exact hn' hb
     ·by_cases hi:i < m1.length
      ·rw [zai hi] at q2;rw [zai (by rw [←s1.len];exact hi)] at q1;exact (s1'.cell i c' b q1 q2).same (fun _ _ z=>z) ⟨[a],rfl⟩
      ·have hl:=s1.len;rw [zaJ (by omega)] at q2;rw [zaJ (by omega)] at q1;have z:i - m1.length=0:=by
        cases q:i - m1.length with
        |zero=>rfl
        |succ k=>rw [q] at q2;simp at q2
       have z':i - U1.length=0:=(by omega);rw [z] at q2;rw [z'] at q1;simp at q1 q2;subst q1 q2;exact hc'
    exact k _ _ (m1++[a]) (x1.trans ext) srel ⟨a,rfl,by rw [←s1.len];simp⟩
  ·cases e
 ·cases e
end
theorem nG.okN {P:Program}{w:World}{K:zac}{mg:Td}{base:Heap}{x qual:Str}{st:Stmt}{f:Addr}{fd:FuncData}{N ps:Tn}{k:Nat}{b:FS}(F:nG K x qual st f fd)(S:ax N ps (ai st))
  (hbody:∀(cdv:Value) (A:Around) (outer:List Env) (s:Shared) (H:Hp) (E:XK),bG k (A.deeper (envOfC qual (ai st) s.heap.objs.size f cdv))->m8 (iX jN P w K mg base N qual (ai st) f cdv A outer s H E).nox (bm st) (eI K b)) :
  ca P w K mg base jN (k+1) f fd ps (zF K ps.length (cX K (zR N.length b))):=by
 have G:ca P w K mg base jN (k+1) f fd ps (fun vs H Q _=>vs.length=ps.length/\eI K b {nx:=fun _ H'=>Q .non H',rt:=Q} (L2.eM N vs) H) :=
  L2.nG.ok F S (fun vs H Q E h=>h.1) fun cdv A outer s H vs Q E hr h=>⟨_,hbody cdv A outer s H E hr,h.2⟩
 refine G.imp fun vs H Q E hh=>?_;obtain ⟨ds,P',hn,r,e,k⟩:=hh;refine ⟨by rw [←r.length];exact hn,?_⟩;obtain ⟨c,ec,rfl⟩:=zaK.mp e;obtain ⟨o,e1,e2⟩:=zab.mp ec;refine ⟨_,[],[],o,pN r,.nil,e1,?_⟩
 cases o with
 |nx O U=>cases e2
 |bk O U=>cases e2
 |ct O U=>cases e2
 |rt d U =>
  cases d with
  |v d=>cases e2
  |s b xs=>cases e2
  |x _=>cases e2
  |f _ _=>cases e2
  |p n =>
   intro v H' m' x s' r';obtain ⟨a,rfl,ha⟩:=r';unfold Br at e2;have cell:∀c',U[n]?=some c'->gr K m' H' c' a:=fun c' q=>s'.cell n c' a q ha
   have free:H a=none:=by
    obtain ⟨e,rfl,f⟩:=x.ext;exact f a (by simpa using zaO ha)
   simp only at e2;split at e2
   ·rename_i xs q;cases e2;exact k _ _ x.sam ⟨a,rfl,free,cell _ q⟩
   ·rename_i kvs q;cases e2;exact k _ _ x.sam ⟨a,rfl,free,cell _ q⟩
   ·cases e2
end HW
namespace HW
variable {K:zac}
open PyProof.Rows L2
def Fr (K:zac):R2:=fun x y H Q=>∃a b ys,x=.ref a/\y=.ref b/\gU K H a []/\gU K H b ys/\ys.length<=sizeLine/\Q (.ref b) H
theorem Du {X:Cx}:jy X (binaryOp .Add) (Fr X.K):=by
 intro pins s Y H x y v u Q I rx ry h;obtain ⟨a,b,ys,rfl,rfl,ha,hb,hz,q⟩:=h;cases rx;cases ry;obtain ⟨its,r1,p1,_⟩:=I.tuple ha;obtain ⟨its2,r2,p2,_⟩:=I.tuple hb;cases r1;obtain ⟨⟨cls,dd,data,sl⟩,ho,hc,n,hd⟩:=id p1;obtain ⟨⟨cls2,dd2,data2,sl2⟩,ho2,hc2,n2,hd2⟩:=id p2;simp only at hc hd hc2 hd2;subst hc hd hc2 hd2;exact concat_meets ⟨_,ho,rfl⟩ ⟨_,ho2,rfl⟩ noFill_tuple_add seq_tuple_add PySem.F.slot_tuple_add PySem.F.entry_tuple_add (PySem.F.args_tuple_add_2 _ _)
  (tuple_addW0 a b #[] its2.toArray n n2 dd dd2 sl sl2 (by simp)) ⟨ho,ho2,⟨.ref b,H,I,rfl,q⟩⟩
def cG:R->R->ac->Option (R×ac)
 |.v (.tup []),.v (.tup ys),U=>if ys.length<=sizeLine then some (.v (.tup ys),U) else none
 |x,y,U=>Em x y U
def Ix :pp K cG (fun x y H Q=>Fs K x y H Q\/Fr K x y H Q):=by
 intro m H U x y d U' v u Q s rx ry e k;unfold cG at e;split at e
 ·split at e
  ·rename_i z
   cases e;have ry':=ry;simp only [ap,ak] at rx ry;obtain ⟨a,vs,rfl,qa,ra⟩:=rx;obtain ⟨b,ws,rfl,qb,rb⟩:=ry;have ra:vs=[]:=(by simpa only [RelDs] using ra);subst ra;exact .inr ⟨a,b,ws,rfl,rfl,qa,qb,by rw [←rb.length];exact z,k _ H m .refl s ry'⟩
  ·cases e
 ·exact .inl (Lz m H U _ _ d U' v u Q s rx ry e k)
def Ag:V->V->V->Hp->(Hp->Prop)->Prop:=fun o i v H Q=>∃p kvs k,o=.ref p/\i=kV k/\H p=some (.dK kvs)/\kvs.length < sizeLine/\Q (upd H p (.dK (em kvs k v)))
def zJ {X:Cx}(hu:X.A.units+1 < cLine):ux X Ag:=by intro pins s Y H o i v ov iv u Q I ro ri rv h;obtain ⟨p,kvs,k,rfl,rfl,hp,hl,q⟩:=h;cases ro;exact yF hu I (Ez.k hp hl) ri rv fun s' I'=>⟨_,I',q⟩
def ux.or {t u:Et}(h:ux X t)(h':ux X u):ux X (fun o i v H Q=>t o i v H Q\/u o i v H Q):=fun pins s Y H o i v ov iv z Q I ro ri rv q=>by
 rcases q with q|q
 ·exact h pins s Y H o i v ov iv z Q I ro ri rv q
 ·exact h' pins s Y H o i v ov iv z Q I ro ri rv q
def jX:R->Option aI
 |.v (.int i)=>some (.inl i)
 |.v (.str x)=>some (.inr (some x))
 |.v .non=>some (.inr none)
 |_=>none
def u2 (o i:R)(dv:D)(U:ac):Option ac:=match o with
 |.p n=>match U[n]? with
  |some (.lst xs)=>(match i with|.v (.int k)=>(Cb xs.length k).bind fun j=>some (U.set n (.lst (xs.set j dv)))|_=>none)
  |some (.dct kvs)=>if kvs.length < sizeLine then (jX i).bind fun k=>some (U.set n (.dct (gD kvs k dv))) else none
  |_=>none
 |_=>none
def rg (fo fi:FE):FG:=fun d O U=>match d with|.v dv=>(fo O U).bind fun o=>(fi O o.2).bind fun i=>(u2 o.1 i.1 dv i.2).bind fun U'=>some (O,U')|_=>none
theorem RelDs.setAt {K:zac}{H:Hp}{d:D}{v:V}(h:ak K H d v):∀{ds:List D} {vs:List V} (j:Nat),RelDs K H ds vs->RelDs K H (ds.set j d) (vs.set j v)
 |[],vs,j,r=>by have r:vs=[]:=r;subst r;exact rfl
 |_::_,_,0,⟨v',r,e,h1,h2⟩=>by subst e;exact ⟨v,r,rfl,h,h2⟩
 |_::_,_,j+1,⟨v',r,e,h1,h2⟩=>by subst e;exact ⟨v',_,rfl,h1,RelDs.setAt h j h2⟩
def wR {m:Tf}{H:Hp}{x:R}{v:V}{k:aI}(r:ap K m H x v)(e:jX x=some k):v=kV k:=by
 unfold jX at e;split at e
 ·cases e;simpa only [ap,ak,kV] using r
 ·cases e;simpa only [ap,ak,kV] using r
 ·cases e;simpa only [ap,ak,kV] using r
 ·cases e
def Hk {K:zac}{m:Tf}{H:Hp}{U U':ac}{o i:R}{dv:D}{vo vi v:V}{Q:Hp->Prop}(s:aJ K m H U)(ro:ap K m H o vo)(ri:ap K m H i vi)(rv:ak K H dv v)(e:u2 o i dv U=some U')
  (k:∀H',dz m H m H'->aJ K m H' U'->Q H'):Af vo vi v H Q\/Ag vo vi v H Q:=by
 unfold u2 at e;split at e
 ·rename_i n
  split at e
  ·rename_i xs q
   split at e
   ·rename_i j
    obtain ⟨w,e1,e⟩:=zab.mp e;cases e;obtain ⟨a,rfl,ha⟩:=ro
    have ri:vi=.int j:=by simpa only [ap,ak] using ri
    subst ri;obtain ⟨ws,ea,ra⟩:=s.cell _ _ a q ha;have x:dz m H m (upd H a (.lst (ws.set w v))):=.put (zaO ha) ea (by simp) (by simp);exact .inl ⟨a,ws,j,w,rfl,rfl,ea,by rw [←ra.length];exact e1,k _ x (s.put ha ea (by simp) (by simp) ⟨_,cM,RelDs.tf x.tf _ _ (RelDs.setAt rv w ra)⟩)⟩
   ·cases e
  ·rename_i kvs q
   split at e
   ·rename_i hl
    obtain ⟨w,e1,e⟩:=zab.mp e;cases e;obtain ⟨a,rfl,ha⟩:=ro;obtain ⟨es,ea,q1,q2⟩:=s.cell _ _ a q ha;have kd:KD K H kvs es:=⟨q1,q2⟩;have kd':=kd.put (k:=w) rv;have x:dz m H m (upd H a (.dK (em es w v))):=.put (zaO ha) ea (by simp) (by simp);exact .inr ⟨a,es,w,rfl,wR ri e1,ea,by have:=congrArg List.length q1;simp at this;omega,k _ x (s.put ha ea (by simp) (by simp) ⟨_,cM,kd'.1,RelDs.tf x.tf _ _ kd'.2⟩)⟩
   ·cases e
  ·cases e
 ·cases e
def CS {fo fi:FE}{v:V}{H:Hp}{Q:L2.St->Hp->Prop}(h:qJ K (rg fo fi) v Y H Q):L2.rg (aq K fo) (aq K fi) (fun o i v H Q=>Af o i v H Q\/Ag o i v H Q) v Y H Q:=by
 obtain ⟨O,U,m,d,O',U',hl,hs,r,e,k⟩:=h;unfold rg at e;split at e
 ·rename_i dv;obtain ⟨⟨o,U1⟩,e1,e⟩:=zab.mp e;obtain ⟨⟨i,U2⟩,e2,e⟩:=zab.mp e;obtain ⟨U3,e3,e⟩:=zab.mp e;cases e;refine ⟨O,U,m,o,U1,hl,hs,e1,fun vo H1 m1 x1 s1 r1=>?_⟩;refine ⟨O,U1,m1,i,U2,hl.ext x1,s1,e2,fun vi H2 m2 x2 s2 r2=>?_⟩;exact Hk s2 (r1.ext x2) r2 (ak.tf (x1.tf.trans x2.tf) _ _ r) e3 fun H3 x3 s3=>k Y H3 m2 ((x1.trans x2).trans x3) s3 (hl.ext ((x1.trans x2).trans x3))
 ·cases e
def OA (lt:Int->Int->Bool)(ns:Th):Int:=ns.getD (argBest (fun i j=>lt (ns.getD i 0) (ns.getD j 0)) (ns.length - 1)) 0
end HW
namespace HS
open PyProof.Rows L2
section
variable {prog:Program}{w:World}{A:Around}{E:Tb}{s:Shared}
def yq {a:Addr}{Q:Bool->Shared->Prop}(hT:s.TypeIs (.ref a) "dict")(h:Q false s):wpAny (model prog w) A (listLengthHint (.ref a)) Q E s:=PySem.W.kdl_hint_dict hT h
end
end HS
namespace HW
open PyProof.Rows L2 HS
def DK:List aI->Option (Th)
 |[]=>some []
 |.inl n::r=>(DK r).map (n :: ·)
 |_=>none
end HW
namespace HW
variable {K:zac}
open PyProof.Rows L2
def gT (K:zac)(mg:Td)(x:Str)(d:D):Prop:=∃u v,mg x=some u/\aW v u/\∀H,ak K H d v
def EC (K:zac)(d:D)(v:V)(u:Value):Prop:=aW v u/\∀H,ak K H d v
def xl (K:zac)(ds:List D)(vs:List V)(us:Te):Prop:=aS vs us/\∀H,RelDs K H ds vs
def gH :xl K [] [] []:=⟨.nil,fun _=>rfl⟩
def eT {d:D}{v:V}{u:Value}{ds:List D}{vs:List V}{us:Te}(h:EC K d v u)(h':xl K ds vs us):xl K (d::ds) (v::vs) (u::us) :=
 ⟨.cons h.1 h'.1,fun H=>by simp only [RelDs];exact ⟨_,_,rfl,h.2 H,h'.2 H⟩⟩
def BM {b:Bool}:EC K (.bl b) (.bl b) (.bool b):=⟨rfl,fun H=>by simp only [ak]⟩
def jq {K:zac}{a:Addr}{us:Te}{n:Nat}{sl:Array (Tg)}{ds:List D}{vs:List V}(h:K.lookup a=some ⟨.type "tuple",none,.seq us.toArray n,sl⟩)(hz:us.length<=sizeLine)(r:xl K ds vs us):EC K (.tup ds) (.ref a) (.ref a) :=
 ⟨rfl,fun H=>by simp only [ak];exact ⟨a,vs,rfl,.inr ⟨_,us.toArray,n,h,rfl,rfl,rfl,by simpa using hz,by simpa using r.1⟩,r.2 H⟩⟩
def o7 {mg:Td}{x:Str}{u:Value}{d:D}{v:V}(hm:mg x=some u)(r:EC K d v u):gT K mg x d:=⟨u,v,hm,r.1,r.2⟩
def B6 (lo c:Int)(n:Nat):It:=⟨fun i _=>i < n,fun i H x H'=>H'=H/\x=.int (lo+i * c),fun i _=>n<=i⟩
def xw {w:World}{tg:Expr}(it:Addr)(lo c:Int)(n:Nat):uv P w K tg (B6 lo c n) [it] it (fun i h=>IsRangeIter h it (lo+(i:Nat) * c) ((n:Int) - (i:Nat)) c) where
 mem:=by simp
 obj:=fun i h st b hb=>by
  have e:b=it:=by simpa using hb
  subst e;exact ⟨_,st,fun v z=>by
   have z':Data.fields _=Data.cell v:=z
   cases z'⟩
 keep:=fun i h h' st k=>k it (by simp) _ st
 item:=by intro X hP hw hK hc i pins s Y H E I hf st hg;subst hP hw hK;obtain ⟨f0,f1,f2,f3,f4,f5⟩:=hf it (by simp);refine (Walks.range (prog:=X.prog) (w:=X.w) (I.ok.hd hc) it lo c n).item i s _ _ hg st fun v h' tk hv st' kk=>?_;obtain ⟨t,rfl⟩:=hv;have I1:ay X pins Y H {s with heap:=h',toks:=tk}:=I.turned (fun b o hb e=>kk b o (by simpa using hb) e) f0 f1 f3 f4 f5;exact ⟨_,rfl,tS (s:={s with heap:=h',toks:=tk}) (n:="range_iterator") st' rfl rfl (by decide) ⟨.int (lo+i * c),H,I1,⟨t,rfl⟩,⟨rfl,rfl⟩,st',fun b hb=>(hf b hb).1⟩⟩
 done:=by intro X hP hw hK hc i pins s Y H E I hf st hg;subst hP hw hK;obtain ⟨f0,f1,f2,f3,f4,f5⟩:=hf it (by simp);exact wpAny_pyNext_range_end (I.ok.hd hc) st (by have:n<=i:=hg;omega) fun h' eb=>⟨rfl,I.turned (t':=s.toks) (fun b o hb e=>eb b o hb e) f0 f1 f3 f4 f5⟩
 self:=fun _ _ _ _ _ st h=>wpAny_pyIter_rangeiter st h
def xx {w:World}{tg:Expr}(it:Addr)(lo c:Int)(n:Nat):uv P w K tg (B6 lo c n) [it] it (fun i h=>IsLongIter h it (lo+(i:Nat) * c) ((n:Int) - (i:Nat)) c) where
 mem:=by simp
 obj:=fun i h st b hb=>by
  have e:b=it:=by simpa using hb
  subst e;exact ⟨_,st,fun v z=>by
   have z':Data.fields _=Data.cell v:=z
   cases z'⟩
 keep:=fun i h h' st k=>k it (by simp) _ st
 item:=by intro X hP hw hK hc i pins s Y H E I hf st hg;subst hP hw hK;obtain ⟨f0,f1,f2,f3,f4,f5⟩:=hf it (by simp);refine (Walks.longrange (prog:=X.prog) (w:=X.w) (I.ok.hd hc) it lo c n).item i s _ _ hg st fun v h' tk hv st' kk=>?_;obtain ⟨t,rfl⟩:=hv;have I1:ay X pins Y H {s with heap:=h',toks:=tk}:=I.turned (fun b o hb e=>kk b o (by simpa using hb) e) f0 f1 f3 f4 f5;exact ⟨_,rfl,tS (s:={s with heap:=h',toks:=tk}) (n:="longrange_iterator") st' rfl rfl (by decide) ⟨.int (lo+i * c),H,I1,⟨t,rfl⟩,⟨rfl,rfl⟩,st',fun b hb=>(hf b hb).1⟩⟩
 done:=by intro X hP hw hK hc i pins s Y H E I hf st hg;subst hP hw hK;obtain ⟨f0,f1,f2,f3,f4,f5⟩:=hf it (by simp);exact wpAny_pyNext_long_end (I.ok.hd hc) st (by have:n<=i:=hg;omega) fun h' eb=>⟨rfl,I.turned (t':=s.toks) (fun b o hb e=>eb b o hb e) f0 f1 f3 f4 f5⟩
 self:=fun _ _ _ _ _ st h=>wpAny_pyIter_longiter st h
abbrev gw (i j c:Int):Nat:=(Builtin.Range.rangeSize i j c).toNat
def qz (i j c:Int):Prop:=c≠0/\-(2 ^ 30) < c/\c < 2 ^ 30
instance {i j c:Int}:Decidable (qz i j c):=by unfold qz;infer_instance
section
variable {X:Cx}{tg:Expr}
theorem Cv {H:Hp}{s:Shared}{R:It->Hp->Prop}{E:Tb}{lo hi c:Int}{t u v:Tok}{tk:Nat}(I:ay X pins Y H s)
  (q:R (B6 lo c (gw lo hi c)) H):wpAny (model X.prog X.w) X.A (pyIter (.ref s.heap.objs.size)) (OH X pins Y tg R) E {s with heap:=s.heap.push {cls:=.type "range",data:=.fields #[.int lo t,.int hi u,.int c v]},toks:=tk}:=by
 have I1:ay X pins Y H {s with heap:=s.heap.push {cls:=.type "range",data:=.fields #[.int lo t,.int hi u,.int c v]},toks:=tk}:=I.kept fun b o e=>zae _ e
 have e1:lo+((0:Nat):Int) * c=lo:=by simp
 have e2:((gw lo hi c:Nat):Int) - ((0:Nat):Int)=Builtin.Range.rangeSize lo hi c:=by rw [rangeSize_toNat lo hi c];simp [gw]
 cases hs:Builtin.Range.small lo hi c with
 |true =>
  refine wpAny_pyIter_range (IsRange.new ..) hs ?_
  refine ⟨_,[(s.heap.push {cls:=.type "range",data:=.fields #[.int lo t,.int hi u,.int c v]}).objs.size],_,_,H,rfl,
   I1.kept (t':=tk) fun b o e=>zae _ e,xw _ lo c (gw lo hi c),?_,fun b hb=>?_,q⟩
  ·show IsRangeIter _ _ (lo+((0:Nat):Int) * c) (((gw lo hi c:Nat):Int) - ((0:Nat):Int)) c
   rw [e1,e2];exact zak _ rfl
  ·have e:=zav.mp hb
   subst e;exact I1.fpOk (zal _) (I1.hok.fresh (zal _))
 |false =>
  refine wpAny_pyIter_longrange (IsRange.new ..) hs ?_
  refine ⟨_,[(s.heap.push {cls:=.type "range",data:=.fields #[.int lo t,.int hi u,.int c v]}).objs.size],_,_,H,rfl,
   I1.kept (t':=tk) fun b o e=>zae _ e,xx _ lo c (gw lo hi c),?_,fun b hb=>?_,q⟩
  ·show IsLongIter _ _ (lo+((0:Nat):Int) * c) (((gw lo hi c:Nat):Int) - ((0:Nat):Int)) c
   rw [e1,e2];exact zak _ rfl
  ·have e:=zav.mp hb
   subst e;exact I1.fpOk (zal _) (I1.hok.fresh (zal _))
def FN (ta:TA):TI:=fun Y H R=>ta Y H fun vs H1=>∃i j c:Int,vs=[.int i,.int j,.int c]/\qz i j c/\R (B6 i c (gw i j c)) H1
theorem xN {a b c:Expr}{ta:TA}{p pos:Pos}(hg:Gl X "range")(hm:X.mg "range" = none)(ha:PA X [a,b,c] ta)(hs:starEach [a,b,c] X.env=(false,eval a X.env)::starEach [b,c] X.env)(hs2:(backTo pos (starEach [b,c] X.env)).any (·.1)=false) :
  PI X tg (.Call (.Name "range" p) [a,b,c] [] pos) (FN ta):=by
 intro pins s Y H R I h;refine Call_ (oH I hg hm boot_range (PyProof.Rows.callWith_type1 (cR (ha pos pins s Y H _ I h) fun us s1 hh=>?_) hs hs2));obtain ⟨vs,H1,I1,r1,q1⟩:=hh;obtain ⟨i,j,c,e,hk,q⟩:=q1;subst e
 cases r1 with
 |cons r rr =>
 cases rr with
 |cons r' rr =>
 cases rr with
 |cons r'' rr =>
 cases rr;obtain ⟨t,rfl⟩:=r;obtain ⟨t',rfl⟩:=r';obtain ⟨t'',rfl⟩:=r'';exact call_range_3 hk.1 (Cv I1 q) (.inl (PyProof.noPylong_small (by have:=hk.2;omega)))
end
def yx (f g h:FE):FI:=fun O U=>(f O U).bind fun a=>(g O a.2).bind fun b=>(h O b.2).bind fun c=>match a.1,b.1,c.1 with
 |.v (.int i),.v (.int j),.v (.int k)=>if qz i j k then some ((List.range (gw i j k)).map fun n=>.int (i+(n:Nat) * k),c.2) else none|_,_,_=>none
def DH (lo c:Int)(n:Nat):B7 K (B6 lo c n) ((List.range n).map fun k=>.int (lo+(k:Nat) * c)) (fun _=>True) where
 st:=fun _ _ _ _=>trivial
 stop:=fun i H _ hi=>by show n<=i;simpa using hi
 go:=fun i d H e _=>by
  have:=(zas.mp e).1
  show i < n;simpa using this
 yld:=fun i d H x H' e _ ⟨e1,e2⟩=>by
  have hi:=(zas.mp e).1;have hi':i < n:=by simpa using hi
  refine ⟨e1,?_⟩;simp [hi'] at e;subst e e2;simp only [ak]
def GW {H:Hp}{R:It->Hp->Prop}{f g i}(h:xH K (yx f g i) Y H R):FN (fY K (ad f (ad g (ad i aj)))) Y H R:=by
 obtain ⟨O,U,m,xs,U',hl,hs,e,k⟩:=h;obtain ⟨⟨x,U1⟩,e1,e⟩:=zab.mp e;obtain ⟨⟨y,U2⟩,e2,e⟩:=zab.mp e;obtain ⟨⟨z,U3⟩,e3,e⟩:=zab.mp e;refine ⟨O,U,m,[x,y,z],U3,hl,hs,by simp only at e2 e3;simp [ad,aj,e1,e2,e3],fun vs H1 m1 x1 s1 r1=>?_⟩;split at e
 ·rename_i i j c q1 q2 q3;split at e
  ·rename_i zz
   cases e;simp only at q1 q2 q3;subst q1 q2 q3;obtain ⟨v,r,rfl,r1,v2,r',rfl,r2,v3,r'',rfl,r3,r4⟩:=r1;have r4:r''=[]:=r4;simp only [ap,ak] at r1 r2 r3;subst r1 r2 r3 r4;exact ⟨i,j,c,rfl,zz,k _ _ H1 m1 x1 s1 (DH i c (gw i j c)) trivial⟩
  ·cases e
 ·cases e
end HW
namespace L2
open PyProof.Rows
section
variable {X:Cx}{pins:Tc}{Y:St}{H:Hp}{s:Shared}{h':Heap}
def ay.turnedL {t':Nat}{its:Tf}(I:ay X pins Y H s)(k:∀b o,b∉its->s.heap.get? b=some o->h'.get? b=some o)
  (hf:∀it∈its,H it=none/\it≠X.env.locals/\(it∈X.ex\/X.s₀.heap.objs.size<=it)/\(∀x c,X.env.cells.lookup x=some c->c≠it)/\∀p∈X.pn++pins,p.1≠it):ay X pins Y H {s with heap:=h',toks:=t'}:=by
 have nit:∀b u,H b=some u->b∉its:=fun b u e z=>by rw [(hf b z).1] at e;cases e
 refine I.step (g':=s.gens) (d':=s.drawn) (ch:=its) (fun b hb=>?_) (fun b o _ _ hc e _=>k b o hc e) (fun b o _ _ hc e _=>⟨o.slots,k b o hc e⟩) (fun _ _ _ _ n=>n)
  (fun b o hc e=>⟨o,k b o hc e⟩) (fun _ _ e=>e) (fun _ _ _ e=>e) (fun b ps e=>⟨#[],by rw [e];simp⟩) (fun m hm=>?_) (fun b u e=>?_) I.bare
 ·obtain ⟨_,hL,h1,h2,h3⟩:=hf b hb
  exact ⟨h1,hL,h2,h3⟩
 ·obtain ⟨o,es,ep,ho,r⟩:=hm
  exact ⟨o,es,ep,k _ o (fun z=>(hf _ z).2.1 rfl) ho,r⟩
 ·refine (I.hok b u e).stay (fun c v hc q=>k c v ?_ q) (fun _ q=>q) fun _ _ q=>q
  rcases hc with z|z
  ·rw [z];exact nit b u e
  ·exact nit c _ z
end
def C8 {h:Heap}{o:Obj}{b:Addr}(hb:b < h.objs.size):(h.push o).get? b=h.get? b:=by unfold Heap.get? Heap.push;simp [Array.getElem?_push,zam hb]
end L2
namespace HW
open PyProof.Rows L2
structure F3 (K:zac)(J:It)(xs:List D)(P:Hp->Prop):Prop where
 st:∀H H',TF H H'->P H->P H'
 stop:∀i H,P H->xs.length<=i->J.stop i H
 go:∀(i:Nat) d H,xs[i]?=some d->P H->J.go i H
 yld:∀(i:Nat) d H x H',xs[i]?=some d->P H->J.yld i H x H'->(∀a o,H a=some o->H' a=some o)/\ak K H' d x
def CY (K:zac)(f:FI):TI:=fun Y H R=>∃O U m xs U',dD K m H O Y/\aJ K m H U/\f O U=some (xs,U') /\
 ∀J P H' m',dz m H m' H'->aJ K m' H' U'->F3 K J xs P->P H'->R J H'
def tY {m:Tf}{H H':Hp}(s:∀a o,H a=some o->H' a=some o):dz m H m H' :=
 ⟨⟨[],by simp,fun _ z=>nomatch z⟩,⟨fun a xs e=>s _ _ e,fun a o x e=>s _ _ e⟩,fun a o e _=>s _ _ e,fun a e=>by
  cases q:H a with
  |none=>rfl
  |some o=>rw [s _ _ q] at e;cases e⟩
section
variable {K:zac}{m:Tf}{Y:L2.St}{H:Hp}{U:ac}{D:d6}
def CT {fi g b}(h:eI K (iU fi g b) D Y H):Gm (CY K fi) (qJ K g) (eI K b) D Y H:=by
 obtain ⟨O,U,m,o,hl,hs,e,k⟩:=h;obtain ⟨⟨xs,U1⟩,e1,e⟩:=zab.mp e;refine ⟨O,U,m,xs,U1,hl,hs,e1,fun J P H1 m1 x1 s1 ok p1=>?_⟩;refine ⟨fun i n Y H=>n=xs.length - i/\i<=xs.length/\P H/\∃O U m,dD K m H O Y/\aJ K m H U/\dl g b (xs.drop i) O U=some o/\d6.of K m H D o,
  ⟨_,rfl,zba _,p1,O,U1,m1,dD.ext x1 hl,s1,by simpa using e,d6.of_ext x1 k⟩,?_⟩
 rintro i n Y H ⟨rfl,hi,p,O,U,m,hl,hs,e,k⟩;by_cases hlt:i < xs.length
 ·have hx:xs[i]?=some xs[i]:=zap hlt;rw [zbb hlt,dl] at e;obtain ⟨⟨O1,U1⟩,e1,e⟩:=zab.mp e;obtain ⟨o1,e2,e⟩:=zab.mp e;refine .inr ⟨ok.go i _ H hx p,fun Y H=>i+1<=xs.length/\P H/\∃O U m,dD K m H O Y/\aJ K m H U/\dl g b (xs.drop (i+1)) O U=some o/\d6.of K m H D o,
   fun Y' H' z=>⟨xs.length - (i+1),by omega,rfl,z⟩,fun x H' y=>?_⟩
  obtain ⟨xe,rx⟩:=ok.yld i _ H x H' hx p y;have x0:dz m H m H':=tY xe;refine ⟨O,U,m,.v xs[i],O1,U1,dD.ext x0 hl,hs.same xe,rx,e1,fun Y1 H1 m1 x1 s1 l1=>?_⟩;have x1:=x0.trans x1;refine ⟨O1,U1,m1,o1,l1,s1,e2,?_⟩
  cases o1 with
  |nx O2 U2=>exact fun Y2 H2 m2 x2 s2 l2=>⟨hlt,ok.st _ _ (x1.trans x2).tf p,O2,U2,m2,l2,s2,e,d6.of_ext (x1.trans x2) k⟩
  |ct O2 U2=>exact fun Y2 H2 m2 x2 s2 l2=>⟨hlt,ok.st _ _ (x1.trans x2).tf p,O2,U2,m2,l2,s2,e,d6.of_ext (x1.trans x2) k⟩
  |bk O2 U2=>cases e;exact fun Y2 H2 m2 x2 s2 l2=>k Y2 H2 m2 (x1.trans x2) s2 l2
  |rt d U2=>cases e;exact fun v H2 m2 x2 s2 l2=>k v H2 m2 (x1.trans x2) s2 l2
 ·have:i=xs.length:=by omega
  subst this;rw [zcX,dl] at e;cases e;exact .inl ⟨ok.stop _ H p (zal _),k Y H m .refl hs hl⟩
end
def n5 {H:Hp}{T:Addr}{o':HO}(h:H T=none)(a:Addr)(o:HO)(e:H a=some o):upd H T o' a=some o:=by
 have ne:a≠T:=fun z=>by rw [z,h] at e;cases e
 rw [av ne];exact e
end HW
namespace HS
open PyProof.Rows
end HS
namespace HW
open PyProof.Rows L2 HS
end HW
namespace HS
open PyProof.Rows
end HS
namespace HW
open PyProof.Rows L2 HS
end HW
namespace HX
abbrev eO (C:Value)(vs:Ti):Obj:={cls:=C,dict:=none,data:=.fields vs,slots:=#[]}
structure Fl (G:Addr->Prop)(h:Heap)(e:Addr)(C fl:Value):Prop where
 is:∃vs T ts c,¬ G e/\¬ G T/\T≠e/\h.get? e=some (eO C vs)/\vs[1]?=some (.ref T)/\h.get? T=some (eO c ts)/\ts[3]?=some fl
 all:∀b,G b->∃o,h.get? b=some o
end HX
namespace HW
open PyProof.Rows L2
abbrev Pz (K:zac)(c:Str)(C:Addr):Prop:=PySem.W.nsIn K mainGlobals c=some (some (.ref C))
structure Qc (K:zac)(D:Addr):Prop where
 dc:PySem.W.hasDictIn K D=true
 ga:PySem.W.findIn K (.ref D) "__getattribute__" = some (some (.builtin "BaseException.__getattribute__"))
 gn:PySem.W.findIn K (.ref D) "__getattr__" = some none
 fi:PySem.W.findIn K (.ref D) "__class__" = some (some (.builtin "object.__class__"))
 mr:PySem.W.mroIn K D (.type "object")=some true
 mb:PySem.W.mroIn K D (.type "BaseException")=some true
 gt:PySem.W.specialIn K (.builtin "object.__class__") "__get__" = some (some (.builtin "getset_descriptor.__get__"))
 tk:PySem.W.takesIn K (.builtin "object.__class__")=some true
end HW
namespace HW
open L2
end HW
namespace HX
end HX
namespace HW
open PyProof.Rows L2
def Kv:V->Option Int->Option Int->Hp->VK->Prop:=fun x lo hi H Q=>∃z,x=.str z/\z.length<=sizeLine/\Q (.str (Txt.slice z lo hi)) H
theorem Gw:yU X Kv:=by
 intro pins s Y H x v vl vu lo hi sl Q I rx hs pl pu h;obtain ⟨z,rfl,hz,q⟩:=h;obtain ⟨t,rfl⟩:=rx;refine ⟨"str",_,PySem.F.slot_str_getitem.lookup,typeIs_str _ _ _,?_⟩;have fin:∀(l u:Option (Int×Tok)),lo=l.map (·.1)->hi=u.map (·.1)->s.heap.IsSlice sl l u none->wpAny (model X.prog X.w) X.A (getItem (.str z t) (.ref sl)) (EP X pins Y Q) X.xe s:=fun l u e1 e2 hS=>by subst e1 e2;refine wpAny_getItem_str_slice (l:=l) (u:=u) (st:=none) hS rfl ?_;exact post_val_or_str ⟨zbe (Txt.slice_le z _ _) hz,fun t' k=>⟨.str _,H,I.tok k,⟨_,rfl⟩,q⟩⟩
 cases pl with
 |none =>
  cases pu with
  |none=>exact fin none none rfl rfl hs
  |int j tj=>exact fin none (some (j,tj)) rfl rfl hs
 |int i ti =>
  cases pu with
  |none=>exact fin (some (i,ti)) none rfl rfl hs
  |int j tj=>exact fin (some (i,ti)) (some (j,tj)) rfl rfl hs
section
variable {K:zac}{H:Hp}{Q:VK}
def zH (x:R)(lo hi:Option Int)(U:ac):Option (R×ac):=match x with
 |.v (.str z)=>if z.length<=sizeLine then some (.v (.str (Txt.slice z lo hi)),U) else none
 |_=>none
def FJ:R->R->ac->Option (R×ac)
 |.v (.str z),.v (.int i),U=>if 0<=i/\i < 2 ^ 63/\i < z.length then (z.cps[i.toNat]?).bind fun c=>some (.v (.str ⟨#[c]⟩),U) else none
 |_,_,_=>none
def Lu:pp K FJ (fun x y H Q=>∃z i c,x=.str z/\y=.int i/\0<=i/\i < 2 ^ 63/\i < z.length/\z.cps[i.toNat]?=some c/\Q (.str ⟨#[c]⟩) H):=by
 intro m H U x y d U' v u Q s rx ry e k;unfold FJ at e;split at e
 ·rename_i z i;split at e
  ·rename_i c;obtain ⟨c',e1,e⟩:=zab.mp e;cases e;simp only [ap,ak] at rx ry;subst rx ry;exact ⟨z,i,c',rfl,rfl,c.1,c.2.1,c.2.2,e1,k _ H m .refl s (by simp only [ap,ak])⟩
  ·cases e
 ·cases e
def xZ:List R->ac->Option (R×ac)
 |[.v (.str z)],U=>if z.length<=sizeLine then some (.v (.int z.length),U) else none
 |_,_=>none
def Iu:vZ K xZ (fun xs H Q=>∃z,xs=[.str z]/\z.length<=sizeLine/\Q (.int z.length) H):=by
 intro m H U xs d U' vs Q s r e k;unfold xZ at e;split at e
 ·rename_i z;split at e
  ·rename_i hz
   cases e;obtain ⟨v,rfl,r1⟩:=lJ r;simp only [ap,ak] at r1;subst r1;exact ⟨z,rfl,hz,k _ H m .refl s (by simp only [ap,ak])⟩
  ·cases e
 ·cases e
end
theorem nQ:∀{its:Te} {ts:Tn},aS (ts.map V.str) its->∃l:List (Str×Tok),its=strValues l/\l.map (·.1)=ts
 |its,[],r=>by
  have:=r.length
  cases its with
  |nil=>exact ⟨[],rfl,rfl⟩
  |cons a b=>simp at this
 |its,x::ts,r=>by
  cases r with
  |cons r1 r2 =>
   obtain ⟨l,e1,e2⟩:=nQ r2;obtain ⟨t,rfl⟩:=r1;exact ⟨(x,t)::l,by rw [e1];rfl,by rw [zaf,e2]⟩
def Fo (K:zac):V->List V->Hp->VK->Prop:=fun x ys H Q=>∃a p ts,x=.str a/\ys=[.ref p]/\iZ K H p (ts.map V.str)/\JoinOk a ts=true/\Q (.str (Txt.join a ts)) H
def Dx {X:Cx}:PH X "str.join" (Fo X.K):=by intro pins s Y H x xs v us Q I rx rv h;obtain ⟨a,p,ts,rfl,rfl,hq,hok,q⟩:=h;obtain ⟨t,rfl⟩:=rx;obtain ⟨u,rfl,ru⟩:=iQ rv;cases ru;obtain ⟨its,r',pl,hz⟩:=I.list hq;obtain ⟨l,rfl,e2⟩:=nQ r';exact SC.join pl.isList e2 hok fun t' k=>⟨.str _,H,I.tok k,⟨_,rfl⟩,q⟩
structure PM (K:zac)(g:R->R->ac->Option (R×ac))(r:V->List V->Hp->VK->Prop):Prop where
 str:∀{x y U z},g x y U=some z->∃a,x=.v (.str a)
 go:∀{m H U x y d U' v u} {Q:VK},aJ K m H U->ap K m H x v->ap K m H y u->g x y U=some (d,U')->(∀w H' m',dz m H m' H'->aJ K m' H' U'->ap K m' H' d w->Q w H')->r v [u] H Q
section
variable {K:zac}{Y:L2.St}{H:Hp}{Q:VK}
def G8 {g r fa fb}(hg:PM K g r)(h:aq K (ao g fa fb) Y H Q):Ng K "str" r (aq K fa) (so (aq K fb) Cs) Y H Q:=by obtain ⟨O,U,m,d,U',hl,hs,e,k⟩:=h;obtain ⟨⟨x,U1⟩,e1,e⟩:=zab.mp e;obtain ⟨⟨y,U2⟩,e2,e⟩:=zab.mp e;obtain ⟨a,hx⟩:=hg.str e;simp only at hx;subst hx;refine ⟨O,U,m,_,U1,hl,hs,e1,fun v H1 m1 x1 s1 r1=>?_⟩;have r1':=r1;simp only [ap,ak] at r1';subst r1';refine ⟨rfl,O,U1,m1,_,_,hl.ext x1,s1,e2,fun u H2 m2 x2 s2 r2=>?_⟩;exact hg.go s2 (r1.ext x2) r2 e fun w H3 m3 x3 s3 r3=>k w H3 m3 ((x1.trans x2).trans x3) s3 r3
def lF:List D->Option (Tn)
 |[]=>some []
 |.str x::r=>(lF r).bind fun l=>some (x::l)
 |_=>none
theorem pL:∀{ds:List D} {ts:Tn} {vs:List V},lF ds=some ts->RelDs K H ds vs->vs=ts.map V.str
 |[],ts,vs,e,r=>by cases e;simp only [RelDs] at r;exact r
 |d::ds,ts,vs,e,r=>by
  cases d with
  |str x =>
   obtain ⟨l,e1,e2⟩:=zab.mp e;cases e2;simp only [RelDs] at r;obtain ⟨v,r',rfl,h1,h2⟩:=r;simp only [ak] at h1;rw [h1,pL e1 h2];rfl
  |non=>cases e
  |bl _=>cases e
  |int _=>cases e
  |tup _=>cases e
  |fl _=>cases e
  |fd _ _=>cases e
  |key _=>cases e
def p0:R->R->ac->Option (R×ac)
 |.v (.str a),y,U=>(jO y U).bind fun ds=>(lF ds).bind fun ts=>if JoinOk a ts=true then some (.v (.str (Txt.join a ts)),U) else none
 |_,_,_=>none
def Iv:PM K p0 (Fo K) where
 str:=fun {x y U z} e=>by
  unfold p0 at e;split at e
  ·exact ⟨_,rfl⟩
  ·cases e
 go:=fun {m H U x y d U' v u Q} s rx ry e k=>by
  unfold p0 at e;split at e
  ·rename_i a;obtain ⟨ds,e1,e⟩:=zab.mp e;obtain ⟨ts,e2,e⟩:=zab.mp e;split at e
   ·rename_i hok
    cases e;simp only [ap,ak] at rx;subst rx;obtain ⟨p,vs,rfl,q,rr⟩:=iA s ry e1;rw [pL e2 rr] at q;exact ⟨a,p,ts,rfl,rfl,q,hok,k _ H m .refl s (by simp only [ap,ak])⟩
   ·cases e
  ·cases e
end
end HW
namespace HS
open PyProof.Rows
def M3 (xs:Array Keyed)(lo hi:Nat):Prop:=∀i j,lo<=i->i<=j->j < hi->K xs i<=K xs j
def nF (lo hi:Nat)(xs ys:Array Keyed):Prop:=∀k,¬ (lo<=k/\k < hi)->ys[k]?=xs[k]?
structure SB (a₀:Array Keyed)(st:SortSt):Prop where
 perm:(arrOf st).Perm a₀
 kind:kindOf st=oneType'
 ok:failedOf st=none
structure Qh (a₀:Array Keyed)(lo hi:Nat)(st st':SortSt):Prop where
 b:SB a₀ st'
 pend:pendingOf st'=pendingOf st
 out:nF lo hi (arrOf st) (arrOf st')
section
def IK (xs:Array Keyed):Prop:=∀i,i < xs.size->∃t q,xs[i]?=some (.int (K xs i) t,q)
end
def kk (p:Keyed):Int:=numOf p.1
def Le (x y:Keyed):Prop:=kk x<=kk y
structure Mg (A B Ozz:List Keyed)(ia ib:Nat):Prop where
 perm:(Ozz++A.drop ia++B.drop ib).Perm (A++B)
 srt:Ozz.Pairwise Le
 toA:∀x∈Ozz,∀y∈A.drop ia,Le x y
 toB:∀x∈Ozz,∀y∈B.drop ib,Le x y
 len:Ozz.length=ia+ib
structure PF (st st':SortSt):Prop where
 kind:kindOf st'=kindOf st
 arr:arrOf st'=arrOf st
 pend:pendingOf st'=pendingOf st
 ok:failedOf st'=failedOf st
section
structure Qi (a b:Array Keyed):Prop where
 ka:IK a
 kb:IK b
 sa:M3 a 0 a.size
 sb:M3 b 0 b.size
 na:0 < a.size
 nb:0 < b.size
end
structure Mh (A B Ozz:List Keyed)(na nb:Nat):Prop where
 perm:(A.take na++B.take nb++Ozz).Perm (A++B)
 srt:Ozz.Pairwise Le
 toA:∀x∈A.take na,∀y∈Ozz,Le x y
 toB:∀x∈B.take nb,∀y∈Ozz,Le x y
structure Wb (xs ys:Array Keyed)(lo hi:Nat):Prop where
 perm:ys.Perm xs
 out:nF lo hi xs ys
 src:∀q,lo<=q->q < hi->∃r,lo<=r/\r < hi/\K ys q=K xs r
 srt:M3 ys lo hi
def L1 (xs:Array Keyed):List (Nat×Nat×Nat)->Nat->Nat->Prop
 |[],b,e=>b=e
 |(a,n,_)::r,b,e=>a=b/\0 < n/\M3 xs a (a+n)/\L1 xs r (b+n) e
structure OG (a₀:Array Keyed)(st:SortSt)(lo:Nat):Prop where
 b:SB a₀ st
 r:L1 (arrOf st) (pendingOf st).toList 0 lo
open L2
end HS
namespace HW
open PyProof.Rows L2 HS
end HW
namespace HS
open PyProof.Rows
end HS
namespace HW
open PyProof.Rows L2 HS
end HW
namespace HW
open PyProof.Rows L2
def KR (K:zac)(m:Tf)(H:Hp)(kvs:List (aI×R))(es:List (aI×V)):Prop:=es.map (·.1)=kvs.map (·.1)/\aQ K m H (kvs.map (·.2)) (es.map (·.2))
def lD (kvs:List (aI×R))(k:aI):Option R:=(kvs.find? fun kv=>decide (kv.1=k)).map (·.2)
section
variable {K:zac}{m:Tf}{H:Hp}
def KR.cons {k k':aI}{d:R}{v:V}{kvs:List (aI×R)}{es:List (aI×V)}:KR K m H ((k,d)::kvs) ((k',v)::es) ↔ k'=k/\ap K m H d v/\KR K m H kvs es:=by
 constructor
 ·rintro ⟨h1,h2⟩;simp only [zaf,List.cons.injEq] at h1;obtain ⟨w,r,e,h3,h4⟩:=h2;simp only [zaf,List.cons.injEq] at e;obtain ⟨rfl,rfl⟩:=e;exact ⟨h1.1,h3,h1.2,h4⟩
 ·rintro ⟨rfl,h1,h2,h3⟩;exact ⟨by simp [h2],⟨_,_,rfl,h1,h3⟩⟩
theorem KR.val:∀{kvs:List (aI×R)} {es:List (aI×V)} (k:aI),KR K m H kvs es->(lD kvs k=none/\dh es k=none)\/∃d v,lD kvs k=some d/\dh es k=some v/\ap K m H d v
 |[],es,k,h=>by
  have:es=[]:=by simpa using h.1
  subst this;exact .inl ⟨rfl,rfl⟩
 |(a,d)::kvs,[],k,h=>by have:=h.1;simp at this
 |(a,d)::kvs,(b,v)::es,k,h=>by
  obtain ⟨rfl,h1,h2⟩:=KR.cons.mp h;by_cases e:b=k
  ·refine .inr ⟨d,v,?_,?_,h1⟩
   ·simp [lD,e]
   ·simp [dh,e]
  ·have ih:=KR.val k h2;have e1:lD ((b,d)::kvs) k=lD kvs k:=(by simp [lD,e]);have e2:dh ((b,v)::es) k=dh es k:=gX e;rw [e1,e2];exact ih
end
def tE (x:R)(U:ac):Option (List (aI×R)):=match x with
 |.v (.fd ks ds)=>if ks.length=ds.length then some (ks.zip (ds.map R.v)) else none
 |.p n=>match U[n]? with|some (.dct kvs)=>some (kvs.map fun p=>(p.1,R.v p.2))|some (.fzd kvs)=>some (kvs.map fun p=>(p.1,R.v p.2))|some (.dr kvs)=>some kvs|some (.fzr kvs)=>some kvs|_=>none
 |_=>none
theorem ni {K:zac}{m:Tf}{H:Hp}:∀{ds:List D} {vs:List V},RelDs K H ds vs->aQ K m H (ds.map R.v) vs
 |[],_,h=>h
 |_::_,_,⟨v,r,e,h1,h2⟩=>⟨v,r,e,h1,ni h2⟩
def DB {K:zac}{m:Tf}{H:Hp}{U:ac}{x:R}{v:V}{kvs:List (aI×R)}(s:aJ K m H U)(r:ap K m H x v)(e:tE x U=some kvs):∃a es,v=.ref a/\Rd H a (.dK es)/\KR K m H kvs es:=by
 unfold tE at e;split at e
 ·rename_i ks ds;split at e
  ·rename_i hl
   cases e;simp only [ap,ak] at r;obtain ⟨a,o,es,rfl,ea,e1,e2⟩:=r;refine ⟨a,es,rfl,.inr ⟨o,ea⟩,?_,?_⟩
   ·rw [List.map_fst_zip (by simp [hl]),e1]
   ·rw [List.map_snd_zip (by simp [hl])];exact ni e2
  ·cases e
 ·rename_i n;obtain ⟨a,rfl,ha⟩:=r;split at e
  ·rename_i kv q
   cases e;obtain ⟨es,ea,e1,e2⟩:=s.cell _ _ a q ha;refine ⟨a,es,rfl,.inl ea,by simp [e1,Function.comp_def],?_⟩;have:=ni (m:=m) e2;simpa [Function.comp_def] using this
  ·rename_i kv q
   cases e;obtain ⟨o,es,ea,e1,e2⟩:=s.cell _ _ a q ha;refine ⟨a,es,rfl,.inr ⟨o,ea⟩,by simp [e1,Function.comp_def],?_⟩;have:=ni (m:=m) e2;simpa [Function.comp_def] using this
  ·rename_i kv q
   cases e;obtain ⟨es,ea,e1,e2⟩:=s.cell _ _ a q ha;exact ⟨a,es,rfl,.inl ea,e1,e2⟩
  ·rename_i kv q
   cases e;obtain ⟨o,es,ea,e1,e2⟩:=s.cell _ _ a q ha;exact ⟨a,es,rfl,.inr ⟨o,ea⟩,e1,e2⟩
  ·cases e
 ·cases e
def yA (fo fk:FE):FE:=fun O U=>(fo O U).bind fun o=>(fk O o.2).bind fun k=>(tE o.1 k.2).bind fun kvs=>(jX k.1).bind fun key=>(lD kvs key).bind fun r=>some (r,k.2)
def G7 {K:zac}{H:Hp}{Q:VK}{fo fk}(h:aq K (yA fo fk) Y H Q):zy (aq K fo) (aq K fk) Y H Q:=by
 obtain ⟨O,U,m,d,U',hl,hs,e,kk⟩:=h;obtain ⟨⟨o,U1⟩,e1,e⟩:=zab.mp e;obtain ⟨⟨k,U2⟩,e2,e⟩:=zab.mp e;obtain ⟨kvs,e4,e⟩:=zab.mp e;obtain ⟨key,e5,e⟩:=zab.mp e;obtain ⟨r,e6,e⟩:=zab.mp e;cases e;refine ⟨O,U,m,o,U1,hl,hs,e1,fun vo H1 m1 x1 s1 r1=>?_⟩;refine ⟨O,U1,m1,k,U2,hl.ext x1,s1,e2,fun vk H2 m2 x2 s2 r2=>?_⟩;obtain ⟨a,es,rfl,hR,hK⟩:=DB s2 (r1.ext x2) e4;have hk:=wR r2 e5;rcases KR.val key hK with ⟨n1,n2⟩|⟨dd,vv,n1,n2,n3⟩
 ·rw [n1] at e6;cases e6
 ·rw [n1] at e6;cases e6;exact ⟨a,vv,rfl,.inl ⟨es,key,hR,hk,n2.symm⟩,kk _ H2 m2 (x1.trans x2) s2 n3⟩
end HW
namespace HT2
open PySem.W PyProof.Rows
section
variable {r:Nat->Int}{n:Nat}{s:Shared}{cmp:Nat->Nat->(Bool->Shared->Prop)->Shared->Prop}
abbrev key (r:Nat->Int)(p:Array Nat)(k:Nat):Int:=r (p.getD k 0)
def Up (r:Nat->Int)(p:Array Nat)(a:Nat):Prop:=∀i j,i < j->j < a->key r p i < key r p j
def Dn (r:Nat->Int)(p:Array Nat)(a:Nat):Prop:=∀i j,i < j->j < a->key r p j < key r p i
structure Pm (n:Nat)(p:Array Nat):Prop where
 pm:p.toList.Perm (List.range n)
def Pm.size {p:Array Nat}(h:Pm n p):p.size=n:=by have:=h.pm.length_eq;simpa using this
def Pm.lt {p:Array Nat}(h:Pm n p){k:Nat}(hk:k < n):p.getD k 0 < n:=by
 have hs:=h.size;have hm:p.getD k 0∈p.toList:=by have:p[k]?=some p[k]:=zat (by omega);rw [za2,this,zbV];simp
 have:=h.pm.mem_iff.mp hm;simpa using this
def Pm.inj {p:Array Nat}(h:Pm n p){i j:Nat}(hi:i < n)(hj:j < n)(e:p.getD i 0=p.getD j 0):i=j:=by
 have hs:=h.size;have nd:p.toList.Nodup:=h.pm.nodup_iff.mpr List.nodup_range;have ei:p[i]?=some p[i]:=zat (by omega);have ej:p[j]?=some p[j]:=zat (by omega);rw [za2,za2,ei,ej,zbV,zbV] at e;have e':p.toList[i]'(by simpa using (by omega:i < p.size))=p.toList[j]'(by simpa using (by omega:j < p.size)):=by simpa using e
 exact (zbK nd).mp e'
structure Rk (r:Nat->Int)(n:Nat)(s:Shared)(cmp:Nat->Nat->(Bool->Shared->Prop)->Shared->Prop):Prop where
 inj:∀i j,i < n->j < n->r i=r j->i=j
 ask:∀i j,i < n->j < n->∀C:Bool->Shared->Prop,C (decide (r i < r j)) s->cmp i j C s
def Rk.ne (R:Rk r n s cmp){p:Array Nat}(h:Pm n p){i j:Nat}(hi:i < n)(hj:j < n)(ne:i≠j):key r p i≠key r p j:=fun e=>ne (h.inj hi hj (R.inj _ _ (h.lt hi) (h.lt hj) e))
theorem vV (R:Rk r n s cmp){p:Array Nat}(h:Pm n p){Q:Nat->Shared->Prop}:∀(f a:Nat),1<=a->a+f<=n->Up r p a->(∀m,a<=m->m<=a+f->Up r p m->(m=a+f\/key r p m < key r p (m - 1))->Q m s)->(kas_asc p f a).kasWp cmp Q s
 |0,a,_,_,hu,k=>k a (zal _) (zal _) hu (.inl rfl)
 |f+1,a,h1,h2,hu,k=>by
  refine R.ask _ _ (h.lt (by omega)) (h.lt (by omega)) _ ?_;by_cases hc:key r p a < key r p (a - 1)
  ·have hd:decide (r (p.getD a 0) < r (p.getD (a - 1) 0))=true:=zaF hc;rw [hd];exact k a (zal _) (by omega) hu (.inr hc)
  ·have hd:decide (r (p.getD a 0) < r (p.getD (a - 1) 0))=false:=zaw hc;rw [hd];have hne:=R.ne h (show a < n by omega) (show a - 1 < n by omega) (by omega);refine vV R h f (a+1) (by omega) (by omega) (fun i j hij hj=>?_) fun m m1 m2 m3 m4=>k m (by omega) (by omega) m3 (by rcases m4 with q|q;exact .inl (by omega);exact .inr q);by_cases hja:j=a
   ·subst hja;have:key r p i<=key r p (j - 1):=by
     by_cases hi:i=j - 1
     ·rw [hi];exact Int.le_refl _
     ·exact Int.le_of_lt (hu i (j - 1) (by omega) (by omega))
    omega
   ·exact hu i j hij (by omega)
theorem xf (R:Rk r n s cmp){p:Array Nat}(h:Pm n p){Q:Array Nat×Nat×Nat->Shared->Prop}:∀(f a:Nat),1<=a->a+f<=n->Dn r p a->(∀m,a<=m->m<=a+f->Dn r p m->Q (p,m,0) s)->(kas_desc f p a 0).kasWp cmp Q s
 |0,a,_,_,hu,k=>k a (zal _) (zal _) hu
 |f+1,a,h1,h2,hu,k=>by
  refine R.ask _ _ (h.lt (by omega)) (h.lt (by omega)) _ ?_;have hne:=R.ne h (show a < n by omega) (show a - 1 < n by omega) (by omega);by_cases hc:key r p a < key r p (a - 1)
  ·have hd:decide (r (p.getD a 0) < r (p.getD (a - 1) 0))=true:=zaF hc;rw [hd];refine xf R h f (a+1) (by omega) (by omega) (fun i j hij hj=>?_) fun m m1 m2 m3=>k m (by omega) (by omega) m3;by_cases hja:j=a
   ·subst hja;have:key r p (j - 1)<=key r p i:=by
     by_cases hi:i=j - 1
     ·rw [hi];exact Int.le_refl _
     ·exact Int.le_of_lt (hu i (j - 1) (by omega) (by omega))
    omega
   ·exact hu i j hij (by omega)
  ·have hd:decide (r (p.getD a 0) < r (p.getD (a - 1) 0))=false:=zaw hc;rw [hd];refine R.ask _ _ (h.lt (by omega)) (h.lt (by omega)) _ ?_;have hd2:decide (r (p.getD (a - 1) 0) < r (p.getD a 0))=true:=zaF (show key r p (a - 1) < key r p a by omega);rw [hd2];exact k a (zal _) (by omega) hu
def zS {p:Array Nat}(h:Pm n p){m k:Nat}(hm:m<=n)(hk:k < m):(kas_rev p 0 m).getD k 0=p.getD (m - 1 - k) 0:=by
 have hs:=h.size;have:=getElem?_mirror_all (xs:=p) (i:=0) (j:=m) (by omega) k;rw [if_pos (by omega)] at this
 unfold kas_rev;rw [za2,this,za2];congr 2;omega
def GC {p:Array Nat}(h:Pm n p){m:Nat}:Pm n (kas_rev p 0 m):=⟨(Array.perm_iff_toList_perm.mp (mirror_perm p 0 m _)).trans h.pm⟩
def zt (R:Rk r n s cmp){p:Array Nat}(h:Pm n p){Q:Nat×Array Nat->Shared->Prop}{a:Nat}(h1:1<=a)(h2:a<=n)(hd:Dn r p a)(k:∀m p',Pm n p'->Up r p' m->1<=m->m<=n->Q (m,p') s):(kas_tail3 a n p).kasWp cmp Q s:=by unfold kas_tail3;rw [KasT.kasWp_bind];have hr:=GC h (m:=a);refine vV R hr (n - a) a h1 (by omega) (fun i j hij hj=>?_) fun m m1 m2 m3 _=>k m _ hr m3 (by omega) (by omega);unfold key;rw [zS h h2 (by omega),zS h h2 (by omega)];exact hd (a - 1 - j) (a - 1 - i) (by omega) (by omega)
def BN (R:Rk r n s cmp){p:Array Nat}(h:Pm n p)(hn:1<=n){Q:Nat×Array Nat->Shared->Prop}(k:∀m p',Pm n p'->Up r p' m->1<=m->m<=n->Q (m,p') s):(kas_count n p).kasWp cmp Q s:=by
 unfold kas_count;rw [KasT.kasWp_bind];refine vV R h (n - 1) 1 (zal _) (by omega) (fun i j hij hj=>by omega) fun m m1 m2 m3 m4=>?_;by_cases hm:m=n
 ·subst hm;rw [if_pos (by simp)];exact k m p h m3 hn (zal _)
 ·rw [if_neg (by simpa using hm)];by_cases hm1:m > 1
  ·rw [if_pos hm1];refine R.ask _ _ (h.lt (by omega)) (h.lt (by omega)) _ ?_;have hd:decide (r (p.getD 0 0) < r (p.getD (m - 1) 0))=true:=zaF (m3 0 (m - 1) (by omega) (by omega));rw [hd];exact k m p h m3 (by omega) (by omega)
  ·rw [if_neg hm1];have hm':m=1:=(by omega);subst hm';have hlt:key r p 1 < key r p 0:=by
    rcases m4 with q|q
    ·omega
    ·exact q
   unfold kas_descPart;rw [KasT.kasWp_bind];refine xf R h (n - (1+1)) (1+1) (by omega) (by omega) (fun i j hij hj=>?_) fun m' q1 q2 q3=>?_
   ·have hj1:j=1:=by omega
    have hi0:i=0:=(by omega);subst hj1 hi0;exact hlt
   ·show KasT.kasWp cmp (if (0:Nat) > 0 then _ else _) Q s
    rw [if_neg (by omega)];exact zt R h (show 1<=m' by omega) (show m'<=n by omega) q3 k
theorem ow (R:Rk r n s cmp){p:Array Nat}(h:Pm n p){Q:Nat->Shared->Prop}{k:Nat}(hk:k < n):∀(f l u:Nat),l<=u->u<=k->u - l<=f->(∀i < l,key r p i < key r p k)->(∀i,u<=i->i < k->key r p k < key r p i)->Up r p k ->
  (∀x,x<=k->(∀i < x,key r p i < key r p k)->(∀i,x<=i->i < k->key r p k < key r p i)->Q x s)->(kas_place p k f l u).kasWp cmp Q s
 |0,l,u,h1,h2,h3,hl,hu,_,kk=>kk l (by omega) hl (fun i h4 h5=>hu i (by omega) h5)
 |f+1,l,u,h1,h2,h3,hl,hu,up,kk=>by
  unfold kas_place
  by_cases hlu:l >= u
  ·rw [if_pos hlu]
   exact kk l (by omega) hl (fun i h4 h5=>hu i (by omega) h5)
  ·rw [if_neg hlu]
   refine R.ask _ _ (h.lt hk) (h.lt (by omega)) _ ?_;have hne:=R.ne h hk (show (l+u) / 2 < n by omega) (by omega)
   by_cases hc:key r p k < key r p ((l+u) / 2)
   ·have hd:decide (r (p.getD k 0) < r (p.getD ((l+u) / 2) 0))=true:=zaF hc
    rw [hd];refine ow R h hk f l ((l+u) / 2) (by omega) (by omega) (by omega) hl (fun i h4 h5=>?_) up kk
    by_cases hi:i=(l+u) / 2
    ·rw [hi];exact hc
    ·have:=up ((l+u) / 2) i (by omega) h5
     omega
   ·have hd:decide (r (p.getD k 0) < r (p.getD ((l+u) / 2) 0))=false:=zaw hc
    rw [hd];refine ow R h hk f ((l+u) / 2+1) u (by omega) h2 (by omega) (fun i hi=>?_) hu up kk
    by_cases hi':i=(l+u) / 2
    ·rw [hi'];omega
    ·have:=up i ((l+u) / 2) (by omega) (by omega)
     omega
theorem IU {p:Array Nat}(h:Pm n p){k l i:Nat}(hk:k < n)(hl:l<=k):(bubble p k (k - l)).getD i 0=if i=l then p.getD k 0 else if l < i/\i<=k then p.getD (i - 1) 0 else p.getD i 0:=by
 have hs:=h.size;have:=getElem?_bubble (xs:=p) (src:=k) (by omega) (k - l) (by omega) i;rw [show k - (k - l)=l by omega] at this
 simp only [za2];rw [this];split
 ·rfl
 ·split <;> rfl
theorem BW (R:Rk r n s cmp){Q:Array Nat->Shared->Prop}:∀(f:Nat) (p:Array Nat) (k:Nat),Pm n p->Up r p k->k+f=n->(∀p',Pm n p'->Up r p' n->Q p' s)->(kas_bin f p k).kasWp cmp Q s
 |0,p,k,h,hu,hk,kk=>kk p h (by rw [←hk];exact hu)
 |f+1,p,k,h,hu,hk,kk=>by
  unfold kas_bin;rw [KasT.kasWp_bind];refine ow R h (by omega) k 0 k (by omega) (zal _) (by omega) (fun i hi=>by omega) (fun i h4 h5=>by omega) hu fun l l1 l2 l3=>?_;refine BW R f (bubble p k (k - l)) (k+1) ⟨(Array.perm_iff_toList_perm.mp (bubble_perm p k _)).trans h.pm⟩ (fun i j hij hj=>?_) (by omega) kk;have b:=fun i=>IU h (k:=k) (l:=l) (i:=i) (by omega) l1
  show r _ < r _
  rw [b i,b j];by_cases hi:i=l
  ·rw [if_pos hi,if_neg (by omega),if_pos (by omega)];exact l3 (j - 1) (by omega) (by omega)
  ·rw [if_neg hi];by_cases hj':j=l
   ·rw [if_pos hj',if_neg (by omega)];exact l2 i (by omega)
   ·rw [if_neg hj'];by_cases h6:l < i/\i<=k
    ·rw [if_pos h6,if_pos (by omega)];exact hu (i - 1) (j - 1) (by omega) (by omega)
    ·rw [if_neg h6];by_cases h7:l < j/\j<=k
     ·rw [if_pos h7];by_cases h8:i=j - 1
      ·omega
      ·exact hu i (j - 1) (by omega) (by omega)
     ·rw [if_neg h7];exact hu i j hij (by omega)
def Cy (R:Rk r n s cmp)(hn:1<=n){Q:Array Nat->Shared->Prop}(k:∀p,Pm n p->Up r p n->Q p s):(kas_sort n).kasWp cmp Q s:=by
 unfold kas_sort;rw [KasT.kasWp_bind];refine BN R (p:=(List.range n).toArray) ⟨by simp⟩ hn fun m p h hu h1 h2=>?_
 show KasT.kasWp cmp (if m < n then kas_bin (n - max m 1) p (max m 1) else .ret p) Q s
 rw [Nat.max_eq_left h1];by_cases hm:m < n
 ·rw [if_pos hm];exact BW R (n - m) p m h hu (by omega) k
 ·rw [if_neg hm];have:m=n:=by omega
  subst this;exact k p h hu
end
def iY:List Int->List Int->Bool
 |[],[]=>false
 |[],_::_=>true
 |_::_,[]=>false
 |x::xs,y::ys=>if x=y then iY xs ys else decide (x < y)
theorem gE:∀a,iY a a=false
 |[]=>rfl
 |x::xs=>by simp [iY,gE xs]
theorem nB:∀a b,iY a b=true\/a=b\/iY b a=true
 |[],[]=>.inr (.inl rfl)
 |[],_::_=>.inl rfl
 |_::_,[]=>.inr (.inr rfl)
 |x::xs,y::ys=>by
  by_cases e:x=y
  ·subst e;rcases nB xs ys with h|h|h
   ·exact .inl (by simp [iY,h])
   ·exact .inr (.inl (by rw [h]))
   ·exact .inr (.inr (by simp [iY,h]))
  ·by_cases hl:x < y
   ·exact .inl (by simp [iY,e,hl])
   ·exact .inr (.inr (by simp [iY,Ne.symm e];omega))
theorem fP:∀a b c,iY a b=true->iY b c=true->iY a c=true
 |[],[],_,h,_=>by cases h
 |[],_::_,[],_,h=>by cases h
 |[],_::_,_::_,_,_=>rfl
 |_::_,[],_,h,_=>by cases h
 |_::_,_::_,[],_,h=>by cases h
 |x::xs,y::ys,z::zs,h,g=>by
  simp only [iY] at h g ⊢;by_cases e1:x=y
  ·subst e1;rw [if_pos rfl] at h;by_cases e2:x=z
   ·subst e2;rw [if_pos rfl] at g ⊢;exact fP xs ys zs h g
   ·rw [if_neg e2] at g ⊢;exact g
  ·rw [if_neg e1] at h;have h1:x < y:=of_decide_eq_true h;by_cases e2:y=z
   ·subst e2;rw [if_neg e1];exact h
   ·rw [if_neg e2] at g;have h2:y < z:=of_decide_eq_true g;rw [if_neg (by omega)];exact zaF (by omega)
def mW (L:Ta)(i:Nat):Int:=((L.filter fun k=>iY k (L.getD i [])).length:Nat)
theorem qc {L:Ta}{a b:Th}(h:iY a b=true)(hm:a∈L):(L.filter fun k=>iY k a).length < (L.filter fun k=>iY k b).length:=by
 have sub:∀M:Ta,(M.filter fun k=>iY k a).length<=(M.filter fun k=>iY k b).length:=fun M=>by
  induction M with
  |nil=>simp
  |cons x xs ih =>
   simp only [zcg]
   cases hx:iY x a with
   |true=>rw [fP x a b hx h];simp;exact ih
   |false=>cases iY x b <;> simp <;> omega
 induction L with
 |nil=>simp at hm
 |cons x xs ih =>
  simp only [zcg];rcases zaj.mp hm with rfl|hm
  ·rw [gE,h];have:=sub xs;simp;omega
  ·have:=ih hm
   cases hx:iY x a with
   |true=>rw [fP x a b hx h];simp;exact this
   |false=>cases iY x b <;> simp <;> omega
def tT {L:Ta}{i:Nat}(h:i < L.length):L.getD i []∈L:=by rw [zbm,zap h,zbV];exact zbs h
def nj {L:Ta}{i j:Nat}(hi:i < L.length)(hj:j < L.length):decide (mW L i < mW L j)=iY (L.getD i []) (L.getD j []):=by
 rcases nB (L.getD i []) (L.getD j []) with h|h|h
 ·rw [h];refine zaF ?_;have:=qc h (tT hi);unfold mW;omega
 ·have hr:mW L i=mW L j:=by unfold mW;rw [h]
  rw [hr,h,gE];exact zaw (by omega)
 ·have:=qc h (tT hj);have hn:iY (L.getD i []) (L.getD j [])=false:=by
   cases q:iY (L.getD i []) (L.getD j []) with
   |false=>rfl
   |true=>have:=fP _ _ _ q h;rw [gE] at this;cases this
  rw [hn];refine zaw ?_;unfold mW;omega
def Ac {L:Ta}(nd:L.Nodup){i j:Nat}(hi:i < L.length)(hj:j < L.length)(e:mW L i=mW L j):i=j:=by
 have h1:=nj hi hj;have h2:=nj hj hi;rw [zaw (by omega)] at h1 h2;rcases nB (L.getD i []) (L.getD j []) with h|h|h
 ·rw [h] at h1;cases h1
 ·simp only [zbm,zap hi,zap hj,zbV] at h;exact (zbK nd).mp h
 ·rw [h] at h2;cases h2
section
variable {prog:Program}{w:World}{A:Around}{E:Tb}{s:Shared}
def AZ {b:Bool}{Q:Bool->Shared->Prop}:∀{xs ys:Te} {ns ms:Th} (i:Nat),IntsAre xs ns->IntsAre ys ms->Q (iY ns ms) s->KatLex prog w A b (decide (xs.length < ys.length)) Q (xs.zip ys) i s:=by
  intro xs ys ns ms i r;induction r generalizing ys ms i with
  |nil=>intro q h;cases q <;> exact h
  |cons n t r ih =>
   rename_i xs ns;intro q h
   cases q with
   |nil=>exact h
   |cons m u q =>
    rename_i ys ms
    show KatLex prog w A b _ Q ((.int n t,.int m u)::xs.zip ys) i s
    refine kat_cons (wpAny_eqBool_int ?_);by_cases e:n=m
    · subst e
      rw [zcZ];refine kat_yes ?_;have hd:decide ((Value.int n t::xs).length < (Value.int n u::ys).length)=decide (xs.length < ys.length):=(by simp);rw [hd];exact ih (i+1) q (by simpa [iY] using h)
    · rw [show (n == m)=false by simpa using e]
      refine kat_no ?_;have h':Q (decide (n < m)) s:=by simpa [iY,e] using h
      cases (b && i == 0) with
      |true=>exact oneLt_int h'
      |false=>first|exact kat_one _ _ (lt_int h')|exact kat_one _ _ (lt_int (boolBack_bool h'))
def bg (h:Heap):List Value->List (Th)->Prop
 |[],[]=>True
 |v::vs,L::Ls=>(∃a o its n,v=.ref a/\h.get? a=some o/\o.cls=.type "tuple"/\o.data=.seq its n/\IntsAre its.toList L)/\bg h vs Ls
 |_,_=>False
theorem bg.len {h:Heap}:∀{vs:Te} {L:Ta},bg h vs L->vs.length=L.length
 |[],[],_=>rfl
 |[],_::_,h=>h.elim
 |_::_,[],h=>h.elim
 |_::vs,_::L,h=>by simp [bg.len h.2]
theorem bg.at {h:Heap}:∀{vs:Te} {L:Ta},bg h vs L->∀i,i < L.length->∃a o its n,vs.getD i .none=.ref a/\h.get? a=some o/\o.cls=.type "tuple"/\o.data=.seq its n/\IntsAre its.toList (L.getD i [])
 |[],[],_,i,hi=>by simp at hi
 |[],_::_,h,_,_=>h.elim
 |_::_,[],h,_,_=>h.elim
 |v::vs,x::L,h,0,_=>h.1
 |v::vs,x::L,h,i+1,hi=>bg.at h.2 i (by simpa using hi)
theorem bg.keep {h h':Heap}(k:∀b o,h.get? b=some o->h'.get? b=some o):∀{vs:Te} {L:Ta},bg h vs L->bg h' vs L
 |[],[],_=>trivial
 |[],_::_,h=>h.elim
 |_::_,[],h=>h.elim
 |_::vs,_::L,h=>by obtain ⟨⟨a,o,its,n,e,g,r⟩,t⟩:=h;exact ⟨⟨a,o,its,n,e,k _ _ g,r⟩,bg.keep k t⟩
theorem bg.keepNe {h h':Heap}{a:Addr}(k:∀b o,h.get? b=some o->b≠a->h'.get? b=some o):∀{vs:Te} {L:Ta},bg h vs L->(∀v∈vs,v≠.ref a)->bg h' vs L
 |[],[],_,_=>trivial
 |[],_::_,h,_=>h.elim
 |_::_,[],h,_=>h.elim
 |v::vs,_::L,h,hn=>by obtain ⟨⟨b,o,its,n,e,g,r⟩,t⟩:=h;exact ⟨⟨b,o,its,n,e,k _ _ g fun z=>hn v (by simp) (by rw [e,z]),r⟩,bg.keepNe k t fun u hu=>hn u (by simp [hu])⟩
theorem bg.firsts {h:Heap}:∀{vs:Te} {L:Ta},bg h vs L->(∀x∈L,x≠[])->∃fs,KatTups h vs fs/\fs.length=L.length/\∀f∈fs,∃n t,f=.int n t
 |[],[],_,_=>⟨[],trivial,rfl,by simp⟩
 |[],_::_,h,_=>h.elim
 |_::_,[],h,_=>h.elim
 |v::vs,x::L,h,hn=>by
  obtain ⟨⟨a,o,its,n,e,g,c,d,r⟩,t⟩:=h;obtain ⟨fs,q1,q2,q3⟩:=bg.firsts t fun y hy=>hn y (by simp [hy]);have hx:=hn x (by simp);generalize hits:its.toList=il at r
  cases r with
  |nil=>exact absurd rfl hx
  |cons m tk r' =>
   have h0:its[0]?=some (.int m tk):=(by rw [←zbq,hits];rfl);exact ⟨.int m tk::fs,by subst e;exact KatTups.cons g c d h0 q1,by simp [q2],fun f hf=>by
    rcases zaj.mp hf with rfl|hf
    ·exact ⟨m,tk,rfl⟩
    ·exact q3 f hf⟩
theorem oa {Z:Type}:∀(l:List Z) (d:Z),l=(List.range l.length).map fun i=>l.getD i d:=fun l d=>by refine zc0 (by simp) fun k h1 h2=>?_;simp only [zbW,zcS];rw [zbm,zap h1];rfl
def xA {a:Addr}{vs:Te}{L:Ta}{n:Nat}{P:PySem.Fin->Shared->Prop}(ho:s.heap.get? a=some (seqObj "list" vs.toArray n))(hT:bg s.heap vs L)(nd:L.Nodup)(h64:L.length < 64)(hne:2<=L.length->∀x∈L,x≠[])
  (hna:∀v∈vs,v≠.ref a)
  (h:∀(out:Ti) (L':Ta),(∃is:List Nat,out.toList=is.map (fun i=>vs.getD i .none)/\L'=is.map (fun i=>L.getD i [])/\∀i∈is,i < L.length)->L'.Perm L->L'.Pairwise (fun x y=>iY x y=true)->P (.done (.ret .none)) {s with heap:=sortedHeap s.heap a vs out}):wpAny (model prog w) A (Builtin.«list.sort» ⟨[.ref a],[]⟩) P E s:=by
 have hl:=hT.len;rw [list_sort_plain];have ha:a < s.heap.objs.size:=zah ho
 have hz:vs.length<=sizeLine:=by rw [zbh];omega
 refine zaa (listItems_at ho rfl (zaa (listUpdate_at ho rfl ?_ (by simpa using hz) (by simp))));obtain ⟨c1,o1⟩:∃c1,(s.heap.update a (Obj.mapSeq fun _=>#[])).get? a=some (seqObj "list" #[] c1):=⟨_,get?_update_seq ho (fun _=>#[])⟩;refine zaa (seqEpoch_at o1 rfl (zaa (wpAny_newTuple (zaa (wpAny_newList (zaH ?_) (zba _))) (by simpa using hz))))
 have o6:(((s.heap.update a (Obj.mapSeq fun _=>#[])).push (seqObj "tuple" vs.toArray 0)).push (seqObj "list" #[] 0)).get? a=some (seqObj "list" #[] c1):=by
  rw [Heap.get?_push_ne _ _ _ (by rw [size_push',zcY];exact zam (zbn ha)),Heap.get?_push_ne _ _ _ (by rw [zcY];exact zam ha)];exact o1
 show wpAny (model prog w) A _ P E {s with heap:=((s.heap.update a (Obj.mapSeq fun _=>#[])).push (seqObj "tuple" vs.toArray 0)).push (seqObj "list" #[] 0)}
 dsimp only
 by_cases h2:vs.toArray.size < 2
 ·rw [if_pos h2,if_pos h2]
  refine zaa (zad (zaa (zad ?_)));dsimp only
  have hm:Array.map (fun x=>x.snd) (arrOf (SortSt.mk' general' (vs.toArray.zip vs.toArray) #[] 7 none))=vs.toArray:=by
   show Array.map (fun x=>x.snd) (vs.toArray.zip vs.toArray)=vs.toArray
   apply Array.ext
   ·simp
   ·intro i h1 h3;simp
  rw [hm];refine zaa (seqEpoch_at o6 rfl (zaa (listUpdate_at o6 rfl ?_ (by simp) (by rw [zaq];omega))))
  show wpAny (model prog w) A (if (c1 != c1)=true then _ else _) P E _
  simp only [bne_self_eq_false,zar,if_false];refine zad (h vs.toArray L ⟨List.range L.length,by rw [←hl];simpa using oa vs .none,oa L [],fun i hi=>by simpa using hi⟩ (List.Perm.refl _) ?_)
  have:L.length < 2:=by simp at h2;omega
  match L,this with
  |[],_=>exact .nil
  |[x],_=>simp
 ·rw [if_neg h2,if_neg h2]
  have hb2:2<=L.length:=by simp at h2;omega
  have keep:∀b o,s.heap.get? b=some o->b≠a->(((s.heap.update a (Obj.mapSeq fun _=>#[])).push (seqObj "tuple" vs.toArray 0)).push (seqObj "list" #[] 0)).get? b=some o:=fun b o e ne =>
   zae _ (zae _ (by rw [zaC _ _ (Ne.symm ne)];exact e))
  have hT1:bg (((s.heap.update a (Obj.mapSeq fun _=>#[])).push (seqObj "tuple" vs.toArray 0)).push (seqObj "list" #[] 0)) vs L:=hT.keepNe keep hna;obtain ⟨fs,q1,q2,q3⟩:=hT1.firsts (hne hb2);refine zaa (kat_kind (T:=.type "int") q1 (by omega) (fun v hv=>?_) (by decide) ?_)
  ·obtain ⟨m,tk,rfl⟩:=q3 v hv
   exact .now
  refine zaa (zbw (kat_run (ks:=vs) (vs:=vs) (Q:=fun st' s'=>∃p:Array Nat,p.size=vs.length/\arrOf st'=p.map (kas_item (vs.toArray.zip vs.toArray))/\failedOf st'=none/\s'={s with heap:=((s.heap.update a (Obj.mapSeq fun _=>#[])).push (seqObj "tuple" vs.toArray 0)).push (seqObj "list" #[] 0)}/\Pm L.length p/\Up (mW L) p L.length)
   (G:=fun p s'=>s'={s with heap:=((s.heap.update a (Obj.mapSeq fun _=>#[])).push (seqObj "tuple" vs.toArray 0)).push (seqObj "list" #[] 0)}/\Pm L.length p/\Up (mW L) p L.length)
   rfl (by omega) (by omega) (fun p' st' s' a1 a2 a3 a4=>⟨p',a1,a2,a3,a4⟩) ?_) ?_ fun _ _ e=>e)
  ·rw [hl]
   refine Cy (r:=mW L) (n:=L.length) ⟨fun i j hi hj e=>Ac nd hi hj e,fun i j hi hj C hC=>?_⟩ (by omega) fun p hp hu=>⟨rfl,hp,hu⟩;obtain ⟨x,ox,ix,nx,e1,e2,e3,e4,e5⟩:=hT1.at i hi;obtain ⟨y,oy,iy,ny,f1,f2,f3,f4,f5⟩:=hT1.at j hj;unfold kas_ask;rw [e1,f1];refine kat_lt e2 e4 f2 f4 ?_;rw [nj hi hj] at hC;have:=AZ (prog:=prog) (w:=w) (A:=A) (b:=(Value.type "int" != Value.type "tuple")) 0 e5 f5 hC;simpa using this
  ·rintro ⟨⟨⟩,st'⟩ s' ⟨p,hp,har,hf,rfl,hpm,hup⟩
   dsimp only;have hout:=kat_snds (ks:=vs) (vs:=vs) rfl har;rw [hout]
   have hsz:(List.toArray (p.toList.map fun i=>vs.getD i Value.none)).size<=sizeLine+1:=by rw [zaq,zag,za4,hp];omega
   refine zaa (seqEpoch_at o6 rfl (zaa (listUpdate_at o6 rfl ?_ (by simp) hsz)));rw [hf];simp only [bne_self_eq_false,zar,if_false]
   have hlt:∀i∈p.toList,i < L.length:=fun i hi=>by have:=hpm.pm.mem_iff.mp hi;simpa using this
   refine zad (h _ (p.toList.map fun i=>L.getD i []) ⟨p.toList,by simp,rfl,hlt⟩ ?_ ?_)
   ·have:=hpm.pm.map fun i=>L.getD i []
    refine this.trans (List.Perm.of_eq ?_);refine zc0 (by simp) fun k h1 h2=>?_;simp only [zbW,zcS];rw [zbm,zap (by simpa using h1)];rfl
   ·rw [zbP,zbQ]
    intro i j hi hj hij;have hsz2:=hpm.size
    have hi':i < p.size:=by simpa using hi
    have hj':j < p.size:=by simpa using hj
    have hk:=hup i j hij (by omega);unfold key at hk
    have gi:p.getD i 0=p[i]:=by rw [za2,zat hi'];rfl
    have gj:p.getD j 0=p[j]:=by rw [za2,zat hj'];rfl
    rw [gi,gj] at hk;have:=nj (L:=L) (i:=p[i]) (j:=p[j]) (hlt _ (by simp)) (hlt _ (by simp))
    rw [zaF hk] at this
    simpa using this.symm
end
end HT2
namespace HK
open PyProof.Rows L2
def DE (h:Heap)(d:Addr)(es:Array DictEntry)(ep:Nat):Prop:=∃ob,h.get? d=some ob/\ob.ExactDict/\ob.data=.dict es ep
section
variable {prog:Program}{w:World}{A:Around}{E:Tb}{s:Shared}{d it:Addr}{es:Array DictEntry}{ep i:Nat}
def DE.ty (m:DE s.heap d es ep):s.TypeIs (.ref d) "dict":=let ⟨ob,g,x,_⟩:=m;⟨ob,g,x.1⟩
def DE.at {h h':Heap}(m:DE h d es ep)(k:∀ob,h.get? d=some ob->h'.get? d=some ob):DE h' d es ep:=let ⟨ob,g,r⟩:=m;⟨ob,k _ g,r⟩
theorem La {Q:Tb}(nd:(d == sysModules)=false)(m:DE s.heap d es ep)
  (fin:Q (.ref s.heap.objs.size) {s with heap:=s.heap.push {cls:=.type "dict_keyiterator",data:=.fields #[.ref d,.int 0 0,.int es.size 0,.int ep 0]}}):wpAny (model prog w) A (pyIter (.ref d)) Q E s:=by
 obtain ⟨ob,g,x,dt⟩:=id m;refine zcb m.ty F.slot_dict_iter (zaG F.slot_dict_iter m.ty F.entry_dict_iter ?_ (F.args_dict_iter_1 _));unfold Builtin.«dict.__iter__» Builtin.Dict.dictSlotNone;refine zaa (zaa (zcD m.ty ?_));refine (show wpAny _ _ (pure (Value.ref d)) _ _ s from zad (show wpAny _ _ (Builtin.Dict.showsAll d >>= _) _ _ s from ?_));unfold Builtin.Dict.showsAll;rw [if_neg (show ¬ (d == sysModules)=true by rw [nd];decide)];refine zaa (zad (zaa (zbF g dt (zaa (zb2 g dt (zaa (zaE (zad ⟨_,rfl,"dict_keyiterator",_,⟨_,zak _ rfl,rfl⟩,F.slot_dict_keyiterator_next.lookup,?_⟩))))))));simpa [rawInt] using fin
theorem K4 {e:DictEntry}{Q:Option Value->Shared->Prop}(k:s.heap.IsKeyIter it d i es.size ep)(m:DE s.heap d es ep)(ge:es[i]?=some e)
  (fin:∀h',h'.IsKeyIter it d (i+1) es.size ep->Heap.SameBut it s.heap h'->Q (some e.key) {s with heap:=h'}):wpAny (model prog w) A (pyNext (.ref it)) Q E s:=by
 obtain ⟨oi,gi,ci,di⟩:=id k;obtain ⟨ob,g,x,dt⟩:=id m;have ty:=k.typeIs;unfold pyNext;refine zaa (zbG (zaX (name:=Str.ofString "__next__") ty F.slot_dict_keyiterator_next (zaG F.slot_dict_keyiterator_next ty F.entry_dict_keyiterator_next ?_ (F.args_dict_keyiterator_next_1 _))));refine zaa (zad (zaa (zaa ?_)))
 first|refine zaa (zbI ty (zad (zaa (zbg gi di ?_))))|refine zaa (zbX ty (zad (zaa (zbg gi di ?_))))
 simp only [show Builtin.Dict_items.ownsTuple "dict_keyiterator" = false by decide,zar,if_false];refine (show wpAny _ _ (if (Value.ref d == Value.none)=true then _ else _) _ _ s from ?_);rw [if_neg (show ¬ ((Value.ref d == Value.none)=true) by exact za1)];refine zaa (zad (zaa (zbF g dt ?_)));rw [if_neg (show ¬ _ by simp)];refine zaa (zad (zaa (zb2 g dt ?_)));rw [if_neg (show ¬ _ by simp)];refine zad ?_;simp only [show ¬ ((i:Int) < 0) by omega,if_false,zbc,ge];refine zaa ?_
 first|refine zaa (zbI ty (zad (zaa (zcE ty ?_))))|refine zaa (zbX ty (zad (zaa (zcE ty ?_))))
 refine (show wpAny _ _ (setField (.ref it) 1 (rawInt ((i:Int)+1)) >>= _) _ _ s from zaa (zbA gi di (by simp) ?_))
 have k':(s.heap.update it (Obj.mapFields (·.setIfInBounds 1 (rawInt ((i:Int)+1))))).IsKeyIter it d (i+1) es.size ep :=
  ⟨_,zaP _ gi (Obj.isFreed_of_fields (Obj.data_mapFields di _)),(Obj.cls_mapFields ..).trans ci,by rw [Obj.data_mapFields di];simp [rawInt]⟩
 refine zaa (zaH (zaa (zcE (s:={s with heap:=s.heap.update it (Obj.mapFields (·.setIfInBounds 1 (rawInt ((i:Int)+1))))}) k'.typeIs ?_)));exact (show wpAny _ _ (pure e.key) _ _ _ from zad (zad ⟨_,rfl,zad (fin _ k' (Heap.SameBut.update ..))⟩))
theorem K7 {Q:Option Value->Shared->Prop}(hh:A.handled=none)(k:s.heap.IsKeyIter it d es.size es.size ep)(m:DE s.heap d es ep)
  (fin:∀h',Heap.ExtBut it s.heap h'->Q none {s with heap:=h'}):wpAny (model prog w) A (pyNext (.ref it)) Q E s:=by
 obtain ⟨oi,gi,ci,di⟩:=id k;obtain ⟨ob,g,x,dt⟩:=id m;have ty:=k.typeIs;unfold pyNext;refine zaa (zbG (zaX (name:=Str.ofString "__next__") ty F.slot_dict_keyiterator_next (zaG F.slot_dict_keyiterator_next ty F.entry_dict_keyiterator_next ?_ (F.args_dict_keyiterator_next_1 _))));refine zaa (zad (zaa (zaa ?_)))
 first|refine zaa (zbI ty (zad (zaa (zbg gi di ?_))))|refine zaa (zbX ty (zad (zaa (zbg gi di ?_))))
 simp only [show Builtin.Dict_items.ownsTuple "dict_keyiterator" = false by decide,zar,if_false];refine (show wpAny _ _ (if (Value.ref d == Value.none)=true then _ else _) _ _ s from ?_);rw [if_neg (show ¬ ((Value.ref d == Value.none)=true) by exact za1)];refine zaa (zad (zaa (zbF g dt ?_)));rw [if_neg (show ¬ _ by simp)];refine zaa (zad (zaa (zb2 g dt ?_)));rw [if_neg (show ¬ _ by simp)];refine zad ?_;simp only [show ¬ ((es.size:Int) < 0) by omega,if_false,zbc,zb6 (zal es.size)];refine zaa ?_
 first|refine zaa (zbI ty (zad ?_))|refine zaa (zbX ty (zad ?_))
 refine (show wpAny _ _ (setField (.ref it) 0 .none >>= _) _ _ s from zaa (zbA gi di (by simp) ?_));refine (show wpAny _ _ (newExc (.type "StopIteration") [] >>= _) _ _ _ from zaa ?_);simp only [newExc,newTuple];refine zaa (zaE (zaa (m:=firstArgMember _ _) (zcP (a:=Value.none) (by first|rfl|(simp only [firstArgMember];rfl)) (zaE ?_ (by size_fits)))) (by size_fits));simp only [raiseNew];refine zaa (wpAny_handled ?_);rw [show A.in1.handled=none by exact hh];refine zaa (zad (wpAny_throw (zaa ?_)));exact zbt (T:="StopIteration") (b:=true) ⟨_,zak _ rfl,rfl⟩ isSubtype_stop (zad (fin _ (((Heap.SameBut.update ..).extBut.push _).push _)))
def F7 (hh:A.handled=none)(I d:Addr)(ne:d≠I)(es:Array DictEntry)(ep:Nat):Walks prog w A I [I,d] [I] es.size (fun i v=>∃e,es[i]?=some e/\v=e.key) (fun i h=>h.IsKeyIter I d i es.size ep/\DE h d es ep) where
 sub:=fun b z=>by simp at z;simp [z]
 frame:=fun _ _ _ q z=>⟨q.1.at fun o e=>z I (by simp) o e,q.2.at fun o e=>z d (by simp) o e⟩
 item:=fun i s Q E hi q fin=>by refine K4 q.1 q.2 (zat hi) fun h' k' sb=>fin _ h' s.toks ⟨_,zat hi,rfl⟩ ⟨k',q.2.at fun o e=>sb.extBut d o ne e⟩ fun b o hb e=>sb.extBut b o (fun z=>hb (by simp [z])) e
 done:=fun s Q E q fin=>K7 hh q.1 q.2 fun h' eb=>fin h' s.toks fun b o hb e=>eb b o (fun z=>hb (by simp [z])) e
 self:=fun _ _ _ _ q fin=>wpAny_pyIter_keyiter q.1 fin
end
open HT2
section
variable {prog:Program}{w:World}{A:Around}{E:Tb}{s:Shared}
def DC {es:Array DictEntry}{vs:Te}(hl:vs.length=es.size)(h:∀(i:Nat) v,vs[i]?=some v->∃e,es[i]?=some e/\v=e.key):vs=es.toList.map (·.key):=by
 refine zc0 (by simpa using hl) fun i h1 h2=>?_;obtain ⟨e,g,q⟩:=h i vs[i] (zap h1);have hi:i < es.size:=by simpa using h2
 rw [zat hi] at g;cases g;rw [q];simp
theorem BO {a:Addr}{es:Array DictEntry}{ep:Nat}{Q:List Value->Shared->Prop}(hh:A.handled=none)(hd:(a == sysModules)=false)(hm:DE s.heap a es ep)(hz:es.size<=sizeLine)
  (h:∀(h':Heap) (tk:Nat),(∀b o,s.heap.get? b=some o->h'.get? b=some o)->s.toks<=tk->s.heap.objs.size<=h'.objs.size->Q (es.toList.map (·.key)) {s with heap:=h',toks:=tk}) :
  wpAny (model prog w) A (collect (.ref a)) Q E s:=by
 obtain ⟨o,ho,hx,hdat⟩:=id hm;have hlt:=zah ho;unfold collect;refine zaa (zcN (zaU F.entry_proto_collect ?_));rw [zaV F.plain_proto_collect _];refine (show wpAny _ A.in1 (newList [] >>= fun l=>again (.builtin "list.__iadd__" ⟨[l,.ref a],[]⟩)) _ _ s from zaa (zaE ?_));refine zad ⟨zbu F.plain_list_iadd _,zaU F.entry_list_iadd ?_⟩;rw [zaV F.plain_list_iadd _];refine (show wpAny _ A.in1 (listExtendWith (.ref s.heap.objs.size) (.ref a) (.ref s.heap.objs.size)) _ _ _ from ?_);unfold listExtendWith;have hm1:DE (s.heap.push {cls:=.type "list",data:=.seq ([]:Te).toArray}) a es ep:=hm.at fun _ e=>zae _ e;have hT:Shared.TypeIs {s with heap:=s.heap.push {cls:=.type "list",data:=.seq ([]:Te).toArray}} (.ref a) "dict":=DE.ty (s:={s with heap:=s.heap.push {cls:=.type "list",data:=.seq ([]:Te).toArray}}) hm1;refine zaa (zbr hT ?_)
 have h1:listSameRef (.ref s.heap.objs.size) (.ref a)=false:=by simp [listSameRef,za0 hlt]
 simp only [h1,show (Value.type "dict" == Value.type "list")=false by decide,show (Value.type "dict" == Value.type "tuple")=false by decide,Bool.or_false,zar,if_false];refine zaa (La hd hm1 ?_);have hsz:(s.heap.push {cls:=.type "list",data:=.seq ([]:Te).toArray}).objs.size=s.heap.objs.size+1:=zaZ ..;generalize hI:(s.heap.push {cls:=.type "list",data:=.seq ([]:Te).toArray}).objs.size=I at *;have kp:∀b o,(s.heap.push {cls:=.type "list",data:=.seq ([]:Te).toArray}).get? b=some o->((s.heap.push {cls:=.type "list",data:=.seq ([]:Te).toArray}).push {cls:=.type "dict_keyiterator",data:=.fields #[.ref a,.int 0 0,.int es.size 0,.int ep 0]}).get? b=some o:=fun b o e=>zae _ e;generalize hh1:(s.heap.push {cls:=.type "list",data:=.seq ([]:Te).toArray}).push {cls:=.type "dict_keyiterator",data:=.fields #[.ref a,.int 0 0,.int es.size 0,.int ep 0]}=h1 at *;have hIt:h1.IsKeyIter I a 0 es.size ep:=⟨_,by rw [←hh1,←hI];exact zak _ rfl,rfl,rfl⟩;have hma:DE h1 a es ep:=hm1.at fun o e=>kp _ o e;have hTa:Shared.TypeIs {s with heap:=h1} (.ref a) "dict":=DE.ty (s:={s with heap:=h1}) hma;refine zaa (zaH (HS.yq hTa ?_))
 refine (show wpAny _ A.in1 (rule "list.extend.makes-room" >>= fun _=>listTouch (.ref s.heap.objs.size) >>= fun _ =>
  again (.builtin "list.extend.loop" ⟨[.ref s.heap.objs.size,.ref I,.ref s.heap.objs.size],[]⟩)) _ _ _ from zaa (zbN (zaa ?_)))
 have hL:h1.get? s.heap.objs.size=some {cls:=.type "list",data:=.seq ([]:Te).toArray}:=kp _ _ (zak _ rfl)
 have hSf:s.heap.objs.size∉[I,a]:=fun hm=>by
  simp only [zaj,zaI,or_false] at hm;rcases hm with e|e
  ·rw [hsz] at e;omega
  ·exact zaN _ (e ▸ hlt)
 refine (show wpAny _ A.in1 (updateSeq s.heap.objs.size (·.push .none) >>= fun _=>updateSeq s.heap.objs.size (·.pop)) _ _ _ from zaa (zcJ hL rfl ?_));have hL2:=zaP (Obj.mapSeq (·.push Value.none)) hL rfl;refine zcJ (s:={s with heap:=_}) hL2 rfl ?_;have hL3:=zaP (Obj.mapSeq (·.pop)) hL2 rfl
 have oth:∀b o,b≠s.heap.objs.size->h1.get? b=some o->((h1.update s.heap.objs.size (Obj.mapSeq (·.push Value.none))).update s.heap.objs.size (Obj.mapSeq (·.pop))).get? b=some o :=
  fun b o hb e=>(zaC _ _ (Ne.symm hb)).trans ((zaC _ _ (Ne.symm hb)).trans e)
 have W1:=F7 (prog:=prog) (w:=w) (A:=A.in1) (show A.in1.handled=none from hh) I a (by rw [hsz];exact zam (zbn hlt)) es ep
 refine zad ⟨zbu F.plain_extend_loop _,codeAny_extend_loopS W1.toS hz _ hSf _ es.size 0 _ _ _ rfl (zba _)
  (W1.frame 0 h1 _ ⟨hIt,hma⟩ fun b hb o e=>oth b o (fun q=>hSf (q ▸ hb)) e) hL3 (ItemsOf.nil _) fun s' acc c hm' hS' hacc=>?_⟩
 refine (show wpAny _ A (load s.heap.objs.size >>= _) _ _ s' from zaa (wpAny_load hS' ?_));dsimp only;obtain ⟨h',g',d',tk',os'⟩:=s';have eg:g'=s.gens:=hm'.gens;have ed:d'=s.drawn:=hm'.drawn;have eo:os'=s.os:=hm'.os;subst eg;subst ed;subst eo;refine zad ?_;have hk:acc.toList=es.toList.map (·.key):=DC (by rw [←hacc.1];simp) fun i v hv=>hacc.2 i v (by simpa using hv);rw [hk];refine h h' tk' (fun b o e=>hm'.heap b o (fun hb=>?_) (oth b o (fun q=>?_) (kp _ _ (zae _ e)))) hm'.toks (zbC (zah hS'))
 ·have hb1:=zah e
  simp only [zaj,zaI,or_false] at hb;rcases hb with q|q
  ·exact zaN _ (q ▸ hb1)
  ·rw [q,hsz] at hb1;exact absurd hb1 (Nat.not_lt.mpr (zbT _))
 ·exact zaN _ (q ▸ zah e)
def Cw {a:Addr}{es:Array DictEntry}{ep:Nat}{L:Ta}{Q:Tb}(hh:A.handled=none)(hd:(a == sysModules)=false)(hm:DE s.heap a es ep)(hT:bg s.heap (es.toList.map (·.key)) L)(nd:L.Nodup)(h64:L.length < 64)(hne:2<=L.length->∀x∈L,x≠[])
  (h:∀(is:List Nat) (h':Heap) (tk:Nat) (l:Addr) (c:Nat),(∀i∈is,i < L.length)->(is.map fun i=>L.getD i []).Perm L->(is.map fun i=>L.getD i []).Pairwise (fun x y=>iY x y=true)->(∀b o,s.heap.get? b=some o->h'.get? b=some o)->s.toks<=tk ->
   s.heap.objs.size<=l->h'.get? l=some (seqObj "list" (is.map fun i=>(es.toList.map (·.key)).getD i .none).toArray c)->Q (.ref l) {s with heap:=h',toks:=tk}) :
  wpAny (model prog w) A (call (.builtin "sorted") [.ref a]) Q E s:=by
 have hvl:(es.toList.map (·.key)).length=L.length:=hT.len
 have hes:es.size=L.length:=by simpa using hvl
 refine Calls.call_function_entry kind_sorted plain_sorted entry_sorted (args_sorted1 _) ?_;unfold Builtin.«sorted»;refine zaa (m:=checkCount "sorted" 1 1 _) (zad (zaa (BO (show A.in1.handled=none from hh) hd hm (by rw [hes,zbh];omega) fun h' tk kp ht hge=>?_)));generalize es.toList.map (·.key)=vs at *;refine zaa (wpAny_newList ?_ (by rw [hvl,zbh];omega));have hoL:(h'.push (seqObj "list" vs.toArray 0)).get? h'.objs.size=some (seqObj "list" vs.toArray 0):=zak _ rfl;have hT2:bg (h'.push (seqObj "list" vs.toArray 0)) vs L:=hT.keep fun b o e=>zae _ (kp b o e)
 have hna:∀v∈vs,v≠.ref h'.objs.size:=fun v hv e=>by
  obtain ⟨i,hi,rfl⟩:=zbo hv;obtain ⟨b,o,its,n,q1,q2,_⟩:=hT.at i (by omega);rw [zbm,zap hi] at q1;simp only [zbV] at q1;rw [e] at q1;cases q1;exact absurd (zah (kp _ _ q2)) (zaN _)
 refine zaa (zaH (zaG (s:={s with heap:=h'.push (seqObj "list" vs.toArray 0),toks:=tk}) slot_list_sort ⟨_,hoL,rfl⟩ entry_list_sort (xA (s:={s with heap:=h'.push (seqObj "list" vs.toArray 0),toks:=tk}) hoL hT2 nd h64 hne hna fun out L' ⟨is,a1,a2,a3⟩ a4 a5=>⟨_,rfl,?_⟩) (args_list_sort _)))
 obtain ⟨c,hc⟩:∃c,(sortedHeap (h'.push (seqObj "list" vs.toArray 0)) h'.objs.size vs out).get? h'.objs.size=some (seqObj "list" out c):=by
  unfold sortedHeap;obtain ⟨e1,q1⟩:∃e1,((h'.push (seqObj "list" vs.toArray 0)).update h'.objs.size (Obj.mapSeq fun _=>#[])).get? h'.objs.size=some (seqObj "list" #[] e1):=⟨_,get?_update_seq hoL (fun _=>#[])⟩;exact ⟨_,get?_update_seq (zae _ (zae _ q1)) (fun _=>out)⟩
 have ho:out=(is.map fun i=>vs.getD i .none).toArray:=by rw [←a1]
 subst a2;rw [ho] at hc;refine zad ⟨_,rfl,h is _ tk h'.objs.size c a3 a4 a5 (fun b o e=>?_) ht hge (by rw [ho];exact hc)⟩;have hb:=kp b o e;have ne:h'.objs.size≠b:=za0 (zah hb);unfold sortedHeap;rw [zaC _ _ ne];refine zae _ (zae _ ?_);rw [zaC _ _ ne];exact zae _ hb
end
end HK
namespace HW
variable {K:zac}
open PyProof.Rows L2 HS HT2 HK
def vh (k:Th):List (Th)->Ta
 |[]=>[k]
 |x::l=>if iY k x=true then k::x::l else x::vh k l
def cE:List (Th)->Ta
 |[]=>[]
 |k::l=>vh k (cE l)
theorem lT (k:Th):∀l,(vh k l).Perm (k::l)
 |[]=>.refl _
 |x::l=>by
  unfold vh;split
  ·exact .refl _
  ·exact ((lT k l).cons x).trans (.swap k x l)
theorem dA:∀l,(cE l).Perm l
 |[]=>.refl _
 |k::l=>(lT k _).trans ((dA l).cons k)
abbrev F2 (l:Ta):Prop:=l.Pairwise fun x y=>iY x y=true
theorem wN {k:Th}:∀{l:Ta},F2 l->k∉l->F2 (vh k l)
 |[],_,_=>by simp [vh]
 |x::l,h,hk=>by
  obtain ⟨h1,h2⟩:=zaQ.mp h;unfold vh;split
  ·rename_i c;refine zaQ.mpr ⟨fun y hy=>?_,h⟩;rcases zaj.mp hy with rfl|hy
   ·exact c
   ·exact fP _ _ _ c (h1 y hy)
  ·rename_i c;refine zaQ.mpr ⟨fun y hy=>?_,wN h2 fun z=>hk (zan _ z)⟩;rcases zaj.mp ((lT k l).mem_iff.mp hy) with rfl|hy
   ·rcases nB x y with q|q|q
    ·exact q
    ·exact absurd zao (q ▸ hk)
    ·exact absurd q c
   ·exact h1 y hy
theorem oE:∀{l:Ta},l.Nodup->F2 (cE l)
 |[],_=>.nil
 |k::l,h=>by obtain ⟨h1,h2⟩:=zaL.mp h;exact wN (oE h2) fun z=>h1 ((dA l).mem_iff.mp z)
theorem wL:∀{a b:Ta},F2 a->F2 b->a.Perm b->a=b
 |[],b,_,_,p=>by rw [List.nil_perm.mp p]
 |x::a,[],_,_,p=>by simpa using p.length_eq
 |x::a,y::b,ha,hb,p=>by
  obtain ⟨a1,a2⟩:=zaQ.mp ha;obtain ⟨b1,b2⟩:=zaQ.mp hb;have e:x=y:=by
   rcases zaj.mp (p.mem_iff.mp zao) with h|h
   ·exact h
   ·rcases zaj.mp (p.mem_iff.mpr zao) with h'|h'
    ·exact h'.symm
    ·have q:=fP _ _ _ (b1 x h) (a1 y h');rw [gE] at q;cases q
  subst e;rw [wL a2 b2 ((List.perm_cons x).mp p)]
def A4:List R->ac->Option (R×ac)
 |[x],U=>(jO x U).bind fun xs=>(hU xs).bind fun ns=>some (.v (.key ns),U)
 |_,_=>none
theorem FM {K:zac}{H:Hp}:∀{xs:List D} {ns:Th} {vs:List V},hU xs=some ns->RelDs K H xs vs->vs=ns.map V.int
 |[],ns,vs,e,r=>by cases e;exact r
 |.int n::xs,ns,vs,e,r=>by simp only [hU] at e;obtain ⟨ms,e1,rfl⟩:=zaK.mp e;obtain ⟨v,r',rfl,h1,h2⟩:=r;simp only [ak] at h1;subst h1;rw [FM e1 h2];rfl
 |.non::_,_,_,e,_=>by cases e
 |.bl _::_,_,_,e,_=>by cases e
 |.str _::_,_,_,e,_=>by cases e
 |.tup _::_,_,_,e,_=>by cases e
 |.fl _::_,_,_,e,_=>by cases e
 |.fd _ _::_,_,_,e,_=>by cases e
 |.key _::_,_,_,e,_=>by cases e
def Lr :vZ K A4 (Kt K):=by
 intro m H U xs d U' vs Q s r e k;unfold A4 at e;split at e
 ·rename_i x;obtain ⟨ys,e1,e⟩:=zab.mp e;obtain ⟨ns,e2,e⟩:=zab.mp e;cases e;obtain ⟨v,rfl,r1⟩:=lJ r;obtain ⟨a,ws,rfl,q,r⟩:=iA s r1 e1;refine ⟨a,ws,rfl,.inl ⟨q,fun p hp=>?_⟩⟩;obtain ⟨x1,x2,x3⟩:=kZ s r hp;refine k _ _ _ x1 x2 ?_;simp only [ap,ak];exact ⟨p,rfl,by rw [cM,FM e2 r]⟩
 ·cases e
theorem pQ {K:zac}{H:Hp}:∀(ns:Th),RelDs K H (ns.map D.int) (ns.map V.int)
 |[]=>rfl
 |n::ns=>⟨_,_,rfl,by simp only [ak],pQ ns⟩
abbrev kk (k:Th):List aI:=k.map Sum.inl
theorem qV {a b:Th}(h:kk a=kk b):a=b:=by
 induction a generalizing b with
 |nil=>cases b with
  |nil=>rfl
  |cons y b=>cases h
 |cons x a ih=>cases b with
  |nil=>cases h
  |cons y b =>
   simp only [kk,zaf,List.cons.injEq,Sum.inl.injEq] at h;rw [h.1,ih h.2]
theorem yd (k:Th):(kk k).map kV=k.map V.int:=by rw [zby];rfl
def jT (K:zac)(H:Hp)(kvs:List (Th×D))(es:List (List aI×V)):Prop:=es.map (·.1)=kvs.map (fun p=>kk p.1)/\RelDs K H (kvs.map (·.2)) (es.map (·.2))
def mP (kvs:List (Th×D))(k:Th):Option D:=(kvs.find? fun p=>decide (p.1=k)).map (·.2)
def Ap (kvs:List (Th×D))(k:Th)(d:D):List (Th×D) :=
 if (kvs.any fun p=>decide (p.1=k))=true then kvs.map (fun p=>if p.1=k then (p.1,d) else p) else kvs++[(k,d)]
theorem jT.val {K:zac}{H:Hp}(k:Th):∀{kvs:List (Th×D)} {es:List (List aI×V)},jT K H kvs es->(mP kvs k=none/\dh es (kk k)=none)\/∃d v,mP kvs k=some d/\dh es (kk k)=some v/\ak K H d v
 |[],[],_=>.inl ⟨rfl,rfl⟩
 |[],_::_,h=>by have:=h.1;simp at this
 |_::_,[],h=>by have:=h.1;simp at this
 |p::kvs,e::es,⟨h1,h2⟩=>by
  simp only [zaf,List.cons.injEq] at h1;obtain ⟨v,r,q,r1,r2⟩:=h2;simp only [zaf,List.cons.injEq] at q;obtain ⟨q1,q2⟩:=q;by_cases c:p.1=k
  ·refine .inr ⟨p.2,e.2,?_,?_,by rw [q1];exact r1⟩
   ·unfold mP;rw [zb7 (by simpa using c)];rfl
   ·exact kN (by rw [h1.1,c])
  ·have ih:=jT.val k (kvs:=kvs) (es:=es) ⟨h1.2,by rw [q2];exact r2⟩;have n1:mP (p::kvs) k=mP kvs k:=(by unfold mP;rw [zb8 (by simpa using c)]);have n2:dh (e::es) (kk k)=dh es (kk k):=gX fun z=>c (qV (h1.1.symm.trans z));rw [n1,n2];exact ih
def jT.any {H:Hp}{kvs:List (Th×D)}{es:List (List aI×V)}(r:jT K H kvs es)(k:Th):(es.any fun e=>decide (e.1=kk k))=(kvs.any fun p=>decide (p.1=k)):=by
 have h1:(es.any fun e=>decide (e.1=kk k))=((es.map (·.1)).any fun x=>decide (x=kk k)):=by rw [zcK];rfl
 rw [h1,r.1,zcK];congr 1;funext p;simp only [Function.comp];by_cases c:p.1=k
 ·rw [zaF c,zaF (by rw [c])]
 ·rw [zaw c,zaw fun z=>c (qV z)]
def jT.cons {K:zac}{H:Hp}{k:Th}{k':List aI}{d:D}{v:V}{kvs:List (Th×D)}{es:List (List aI×V)}:jT K H ((k,d)::kvs) ((k',v)::es) ↔ k'=kk k/\ak K H d v/\jT K H kvs es:=by
 constructor
 ·rintro ⟨h1,h2⟩;simp only [zaf,List.cons.injEq] at h1;obtain ⟨w,r,e,h3,h4⟩:=h2;simp only [zaf,List.cons.injEq] at e;obtain ⟨rfl,rfl⟩:=e;exact ⟨h1.1,h3,h1.2,h4⟩
 ·rintro ⟨rfl,h1,h2,h3⟩;exact ⟨by rw [zaf,zaf,h2],⟨_,_,rfl,h1,h3⟩⟩
theorem jT.repl {K:zac}{H:Hp}{k:Th}{d:D}{v:V}(rd:ak K H d v):∀{kvs:List (Th×D)} {es:List (List aI×V)},jT K H kvs es->jT K H (kvs.map fun p=>if p.1=k then (p.1,d) else p) (es.map fun e=>if e.1=kk k then (e.1,v) else e)
 |[],[],_=>⟨rfl,rfl⟩
 |[],_::_,h=>by have:=h.1;simp at this
 |_::_,[],h=>by have:=h.1;simp at this
 |(p,x)::kvs,(e,y)::es,h=>by
  obtain ⟨rfl,h2,h3⟩:=jT.cons.mp h;have ih:=jT.repl (k:=k) rd h3;rw [zaf,zaf];by_cases c:p=k
  ·have c':kk p=kk k:=by rw [c]
   rw [if_pos c,if_pos c'];exact jT.cons.mpr ⟨rfl,rd,ih⟩
  ·have c':¬ kk p=kk k:=fun z=>c (qV z);rw [if_neg c,if_neg c'];exact jT.cons.mpr ⟨rfl,h2,ih⟩
def jT.snoc {H:Hp}{k:Th}{d:D}{v:V}(rd:ak K H d v){kvs:List (Th×D)}{es:List (List aI×V)}(h:jT K H kvs es):jT K H (kvs++[(k,d)]) (es++[(kk k,v)]):=by refine ⟨by simp [h.1],?_⟩;rw [zaT,zaT];exact RelDs.append h.2 ⟨_,_,rfl,rd,rfl⟩
def jT.put {H:Hp}{k:Th}{d:D}{v:V}{kvs:List (Th×D)}{es:List (List aI×V)}(r:jT K H kvs es)(rd:ak K H d v):jT K H (Ap kvs k d) (em es (kk k) v):=by
 unfold Ap em;rw [r.any k];split
 ·exact r.repl rd
 ·exact r.snoc rd
def Ea (U:ac)(n:Nat):Option (List (Th×D)):=match U[n]? with|some (.dt kvs)=>some kvs|_=>none
def FY {m:Tf}{H:Hp}{U:ac}{n:Nat}{a:Addr}{kvs:List (Th×D)}(s:aJ K m H U)(ha:m[n]?=some a)(e:Ea U n=some kvs):∃es,H a=some (.dT es)/\jT K H kvs es:=by
 unfold Ea at e;split at e
 ·rename_i q
  cases e;obtain ⟨es,ea,e1,e2⟩:=s.cell _ _ a q ha;exact ⟨es,ea,e1,e2⟩
 ·cases e
def ie (H:Hp):List Addr->List (Th)->Prop
 |[],[]=>True
 |a::as,k::ks=>H a=some (.tup (k.map V.int))/\ie H as ks
 |_,_=>False
theorem ie.at {H:Hp}:∀{as:Tf} {ks:Ta},ie H as ks->∀i,i < ks.length->H (as.getD i 0)=some (.tup ((ks.getD i []).map V.int))
 |[],[],_,i,hi=>by simp at hi
 |[],_::_,h,_,_=>h.elim
 |_::_,[],h,_,_=>h.elim
 |_::_,_::_,h,0,_=>h.1
 |_::_,_::_,h,i+1,hi=>ie.at h.2 i (by simpa using hi)
theorem ie.pick {H:Hp}{as:Tf}{ks:Ta}(h:ie H as ks):∀(is:List Nat),(∀i∈is,i < ks.length)->ie H (is.map fun i=>as.getD i 0) (is.map fun i=>ks.getD i [])
 |[],_=>trivial
 |i::is,hi=>⟨h.at i (hi i zao),ie.pick h is fun j hj=>hi j (zan _ hj)⟩
theorem ie.rels {K:zac}{H:Hp}:∀{as:Tf} {ks:Ta},ie H as ks->RelDs K H (ks.map D.key) (as.map V.ref)
 |[],[],_=>rfl
 |[],_::_,h=>h.elim
 |_::_,[],h=>h.elim
 |_::_,_::_,h=>⟨_,_,rfl,by simp only [ak];exact ⟨_,rfl,h.1⟩,ie.rels h.2⟩
def sH:List V->Hp->VK->Prop:=fun vs H Q=>∃p kvs L,vs=[.ref p]/\H p=some (.dT kvs)/\kvs.map (·.1)=L.map kk/\L.length < 64/\(2<=L.length->∀x∈L,x≠[]) /\
 ∀as,ie H as (cE L)->∀l,H l=none->Q (.ref l) (upd H l (.lst (as.map V.ref)))
theorem rL {X:Cx}(hc:X.calm=true):fm X (.builtin "sorted") sH:=by
 intro pins s Y H vs us Q I r h;obtain ⟨p,kvs,L,rfl,hp,hk,h64,hne,q⟩:=h;obtain ⟨u,rfl,rx⟩:=iQ r;cases rx;obtain ⟨hz,hs,xs,kt,o,es,ep,g,hx,hd,he,hn⟩:=(show bq X.prog X.w H s.heap p (.dT kvs) from I.hok p _ hp);have key:∀{ks:List (List aI×V)} {ys:List (List aI×Addr×Value)} {L:Ta},Paired (fun (p:List aI×V) (q:List aI×Addr×Value)=>p.1=q.1/\H q.2.1=some (.tup (p.1.map kV))/\aW p.2 q.2.2) ks ys->ks.map (·.1)=L.map kk ->
   ie H (ys.map (·.2.1)) L/\bg s.heap (ys.map fun y=>.ref y.2.1) L/\ys.map (·.1)=L.map kk:=by
  intro ks ys L kt
  induction kt generalizing L with
  |nil=>intro e;cases L with
   |nil=>exact ⟨trivial,trivial,rfl⟩
   |cons _ _=>cases e
  | @cons a b ps qs h1 h2 ih =>
   intro e
   cases L with
   |nil=>cases e
   |cons k L =>
    simp only [zaf,List.cons.injEq] at e;obtain ⟨i1,i2,i3⟩:=ih e.2
    have hb:H b.2.1=some (.tup (k.map V.int)):=by rw [h1.2.1,e.1,yd]
    obtain ⟨_,its,rv,⟨ob,g1,g2,n,g3⟩,_⟩:=(show bq X.prog X.w H s.heap b.2.1 (.tup (k.map V.int)) from I.hok _ _ hb);exact ⟨⟨hb,i1⟩,⟨⟨b.2.1,ob,its.toArray,n,rfl,g1,g2,g3,by simpa using dG rv⟩,i2⟩,by simp only [zaf,i3,←h1.1,e.1]⟩
 obtain ⟨pa,ta,ka⟩:=key kt hk;have hkeys:es.toList.map (·.key)=xs.map fun y=>.ref y.2.1:=by rw [he,zby];rfl
 have nd:L.Nodup:=by rw [ka] at hn;exact (zbP.mp hn).imp fun h e=>h (by rw [e])
 refine Cw (I.ok.hd hc) hs ⟨o,g,hx,hd⟩ (by rw [hkeys];exact ta) nd h64 hne fun is h' tk l c i1 i2 i3 kp ht hl hL=>?_;have hpk:=pa.pick is i1;have heq:(is.map fun i=>L.getD i [])=cE L:=wL i3 (oE nd) (i2.trans (dA L).symm);rw [heq] at hpk;have hlen:is.length=L.length:=by simpa using i2.length_eq
 refine ⟨.ref l,_,I.laid (t':=tk) kp hl (show bq X.prog X.w _ h' _ (.lst ((is.map fun i=>(xs.map (·.2.1)).getD i 0).map V.ref)) from ⟨by rw [zag,zag,hlen,zbh];omega,(is.map fun i=>(es.toList.map (·.key)).getD i .none),c,?_,by simpa [seqObj] using hL⟩),rfl,q _ hpk _ (I.hok.fresh hl)⟩;rw [hkeys];have hxl:xs.length=L.length:=by simpa using congrArg List.length ka
 clear hpk heq i2 i3 hL hlen;induction is with
 |nil=>exact .nil
 |cons i is ih =>
  have hi:i < xs.length:=by rw [hxl];exact i1 i zao
  refine .cons ?_ (ih fun j hj=>i1 j (zan _ hj))
  show _=Value.ref _
  simp [zbm,zap hi]
def vz {X:Cx}{H:Hp}{s:Shared}(I:ay X pins Y H s){b:Addr}{zs:List V}(h:iZ X.K H b zs):∃(its:Te) (n:Nat),aS zs its/\s.heap.get? b=some {cls:=.type "list",data:=.seq its.toArray n}:=by
 rcases h with h|⟨o,its,n,hk,hc,hd,hs,hz,r⟩
 ·obtain ⟨z,its,n,r,e⟩:=h.ok I.hok;exact ⟨its,n,r,e⟩
 ·refine ⟨its.toList,n,r,?_⟩;have e:=I.kIn b o hk;obtain ⟨c,d,dt,sl⟩:=o;simp only at hc hd hs;obtain ⟨hd,hl⟩:=hd;subst hc hd hs hl;simpa using e
def Fq (K:zac):R2:=fun x y H Q=>∃l b xs zs,x=.ref l/\y=.ref b/\iZ K H l xs/\iZ K H b zs/\xs.length+zs.length<=sizeLine/\∀p,H p=none->Q (.ref p) (upd H p (.lst (xs++zs)))
def Dt {X:Cx}:jy X (binaryOp .Add) (Fq X.K):=by intro pins s Y H x y v u Q I rx ry h;obtain ⟨l,b,xs,zs,rfl,rfl,hH,hB,hz,q⟩:=h;cases rx;cases ry;obtain ⟨its,n,r,e⟩:=vz I hH;obtain ⟨its2,n2,r2,e2⟩:=vz I hB;have l1:=r.length;have l2:=r2.length;refine PySem.P.add_list e e2 ?_ (by rw [zaq,zaq];omega);rw [show its.toArray++its2.toArray=(its++its2).toArray by simp];exact ⟨.ref _,_,I.lnew (t':=s.toks) (r.append r2) (by rw [zaM];omega),rfl,q _ I.fresh⟩
def zM:R->ac->Option (List D)
 |.p a,U=>(match U[a]? with|some (.lst xs)=>some xs|some (.fz xs)=>some xs|_=>none)
 |.v (.fl xs),_=>some xs
 |_,_=>none
theorem qD {m:Tf}{H:Hp}{U:ac}(s:aJ K m H U){x:R}{v:V}{xs:List D}(e:zM x U=some xs)(r:ap K m H x v):∃a vs,v=.ref a/\iZ K H a vs/\RelDs K H xs vs:=by
 refine iA s r ?_;rw [←e]
 cases x with
 |v d=>cases d <;> rfl
 |_=>rfl
def uu (x y:R)(U:ac):Option (R×ac):=(zM x U).bind fun xs=>(zM y U).bind fun ys=>if xs.length+ys.length<=sizeLine then some (.p U.length,U++[.lst (xs++ys)]) else none
def Iy :pp K uu (Fq K):=by
 intro m H U x y d U' v u Q s rx ry e k;unfold uu at e;obtain ⟨xs,e1,e⟩:=zab.mp e;obtain ⟨ys,e2,e⟩:=zab.mp e;split at e
 ·rename_i hz
  cases e;obtain ⟨b,vs,rfl,ea,r1⟩:=qD s e1 rx;obtain ⟨c,ws,rfl,f,r2⟩:=qD s e2 ry;refine ⟨b,c,vs,ws,rfl,rfl,ea,f,by rw [←r1.length,←r2.length];exact hz,fun p hp=>?_⟩;obtain ⟨x1,x2,x3⟩:=iz s (r1.append r2) hp;exact k _ _ _ x1 x2 x3
 ·cases e
end HW
namespace PySem
section
variable {prog:Program}{w:World}{K:Type}[DecidableEq K]{knd:HeapKind prog w K}{A:Around}{E:Tb}{s:Shared}
theorem pC {d a:Addr}{xs:List (K×Addr×Value)}{k:K}{dflt:Value}{Q:Tb}(hu:knd.room A)(hkey:knd.is s.heap k a)(hm:s.heap.DictOfH knd d xs)
  (h1:∀v,(atKey xs k).map (·.2)=some v->Q v {s with toks:=s.toks+knd.draws k})
  (h2:atKey xs k=none->∀h',h'.DictOfH knd d (storedH xs k a dflt)->Heap.SameBut d s.heap h'->Q dflt {s with heap:=h',toks:=s.toks+knd.draws k})
  (hsz:xs.length<=sizeLine) :
  wpAny (model prog w) A (dictSetDefault d (.ref a) dflt) Q E s:=by
 obtain ⟨o,es,ep,ho,hc,hd,he,his,hn⟩:=hm;unfold dictSetDefault
 try with_reducible refine zaH ?_
 refine zaa (knd.pyHash hu hkey ?_);refine zaa (wpAny_dictFind_heap (s:={s with toks:=s.toks+knd.draws k}) hu hkey ho hd he his hn ?_ ?_)
 ·intro hno
  have hnot:k∉xs.map (·.1):=not_mem_keys_of_get hno
  refine zaa (zbN (zaa (wpAny_updateDictKeys (hz:=by have e:=size_of_entries he;omega) (s:={s with toks:=s.toks+knd.draws k}) ho hd (zad (h2 (atKey_none_of_get hno) _ ⟨_,_,ep+1,zaP _ ho (Obj.isFreed_of_dict (Obj.data_mapDictKeys hd _)),
   hc.mapDictKeys _,Obj.data_mapDictKeys hd _,?_,?_,?_⟩ (Heap.SameBut.update ..))))))
  ·rw [storedH_new (atKey_none_of_get hno)]
   simp [he,entryOfKey]
  ·rw [storedH_new (atKey_none_of_get hno)]
   intro x hx;rcases zaY.mp hx with hx|hx
   ·exact knd.keeps (his x hx) ho hd (Heap.SameBut.update ..)
   ·simp only [zav] at hx
    subst hx;exact knd.keeps hkey ho hd (Heap.SameBut.update ..)
  ·rw [storedH_new (atKey_none_of_get hno)]
   rw [zaT,zbd];refine ⟨hn,by simp,?_⟩;intro x hx y hy;simp only [zaf,za8,zav] at hy;subst hy;exact fun e=>hnot (e ▸ hx)
 ·intro j p hj
  refine zaa (zbF (s:={s with toks:=s.toks+knd.draws k}) ho hd ?_);rw [entry_at he j,hj];exact zaa (zbN (zad (h1 _ (by rw [atKey_of_get hn hj];rfl))))
def jP (knd:HeapKind prog w K){k:K}{a:Addr}(d:Addr)(hd:(d == sysModules)=false)(dflt:Value) :
  MeetsIn prog w (Builtin.«dict.setdefault» ⟨[.ref d,.ref a,dflt],[]⟩) (fun A R s=>knd.room A.in1/\knd.is s.heap k a/\∃xs,s.heap.DictOfH knd d xs/\xs.length<=sizeLine /\
   (∀v,(atKey xs k).map (·.2)=some v->R (.ok (.ret v)) {s with toks:=s.toks+knd.draws k}) /\
   (atKey xs k=none->∀h',h'.DictOfH knd d (storedH xs k a dflt)->Heap.SameBut d s.heap h'->R (.ok (.ret dflt)) {s with heap:=h',toks:=s.toks+knd.draws k})) :=
 .of_wp fun A R s hh=>by
  obtain ⟨hu,hkey,xs,hm,hz,h1,h2⟩:=hh;unfold Builtin.«dict.setdefault»;refine zaa ?_;unfold Builtin.Dict.keyAndDefault;refine zaa (zcD hm.typeIs ?_)
  show wpAny _ _ (pure (d,Value.ref a,some dflt)) _ _ s
  refine zad ?_
  show wpAny _ _ (if (d == sysModules)=true then _ else (dictSetDefault d (.ref a) dflt >>= _)) _ _ s
  rw [if_neg (by rw [hd];exact za1)];exact zaa (pC (hsz:=hz) hu hkey hm (fun v hv=>zad ⟨v,rfl,h1 v hv⟩) fun hn h' hm' hs'=>zad ⟨dflt,rfl,h2 hn h' hm' hs'⟩)
end
end PySem
namespace HW
variable {K:zac}
open PyProof.Rows L2
def zw (td ty tx:TE):TE:=fun Y H Q=>td Y H fun x H1=>∃a,x=.ref a/\PK H1 a/\ty Y H1 fun y H2=>tx Y H2 fun z H3=>∃kvs k b,H3 a=some (.dT kvs)/\y=.ref b/\H3 b=some (.tup (k.map kV))/\kvs.length < sizeLine /\
 (∀v,dh kvs k=some v->Q v H3)/\(dh kvs k=none->Q z (upd H3 a (.dT (kvs++[(k,z)]))))
def wF {X:Cx}(hu:X.A.units+1 < cLine){o e f:Expr}{apos cpos:Pos}{td ty tx:TE}(ho:PE X o td)(he:PE X e ty)(hf:PE X f tx)(m:M2 X o "setdefault" apos e f cpos):PE X (.Call (.Attribute o "setdefault" apos) [e,f] [] cpos) (zw td ty tx):=by
 intro pins s Y H Q I h;refine wpAny_Call_method m.base m.few m.line PySem.F.plainAttrs_dict PySem.F.slot_dict_setdefault PySem.F.type_dict_setdefault (cR (ho pins s Y H _ I h) fun u s1 hh=>?_);obtain ⟨x,H1,I1,rx,a,ex,d,q1⟩:=hh;subst ex;obtain rfl:u=Value.ref a:=rx;obtain ⟨t1,t2,_⟩:=Be I1 d;refine ⟨t1,t2,?_⟩;rw [m.trees];refine Calls.callWith_builtin rfl (Calls.evalArgs_plain (Calls.spliced_cons (cR (he pins s1 Y H1 _ I1 q1) fun iv s2 hh=>?_)));obtain ⟨y,H2,I2,ry,q2⟩:=hh;refine Calls.spliced_cons (cR (hf pins s2 Y H2 _ I2 q2) fun fv s3 hh=>Calls.spliced_nil ?_);obtain ⟨z,H3,I3,rz,kvs,k,b,ea,ey,eb,hz,qa,qb⟩:=hh;subst ey;cases (show iv=Value.ref b from ry);obtain ⟨zz,hd,xs,rel,dd⟩:=FZ I3.hok ea;have hxz:xs.length<=sizeLine:=by rw [←Paired.length rel];exact zz
 refine call_meetsIn PySem.F.slot_dict_setdefault dd.typeIs PySem.F.entry_dict_setdefault (PySem.F.args_dict_setdefault_3 _ _ _) (jP (tupleKind (bC X.prog X.w)) (k:=k) a hd fv) ⟨tupleKind_room_in1 hu,lV I3.hok eb,xs,dd,hxz,fun v hv=>?_,fun hn h' dd' hs=>?_⟩
 ·have r:=rel.val k;rw [hv] at r
  cases q:dh kvs k with
  |none=>rw [q] at r;exact r.elim
  |some v'=>rw [q] at r;exact ⟨v',H3,I3.tok _,r,qa v' q⟩
 ·have r:=rel.val k;rw [hn] at r
  cases q:dh kvs k with
  |some v'=>rw [q] at r;exact r.elim
  |none =>
   have rp:=rel.put k eb rz;rw [Aq _ q] at rp;obtain ⟨q',es,ep,hq,h2,h3,h4,_,h5⟩:=dd';refine ⟨z,_,rH (ob:=.dT (kvs++[(k,z)])) I3 (by rw [ea];exact True.intro) hs ⟨q',hq⟩ ⟨by rw [zaM];exact hz,hd,_,rp.keeps fun c ys ec=>?_,q',es,ep,hq,h2,h3,h4,h5⟩,rz,qb q⟩;rw [av (FF ec ea (fun z=>nomatch z))];exact ec
def mN (K:zac)(m:Tf)(H:Hp)(kvs:List (Th×R))(es:List (List aI×V)):Prop:=es.map (·.1)=kvs.map (fun p=>kk p.1)/\aQ K m H (kvs.map (·.2)) (es.map (·.2))
def iR (kvs:List (Th×R))(k:Th):Option R:=(kvs.find? fun p=>decide (p.1=k)).map (·.2)
section
variable {K:zac}{m m':Tf}{H H':Hp}
def mN.nil:mN K m H [] []:=⟨rfl,rfl⟩
def mN.cons {k:Th}{k':List aI}{d:R}{v:V}{kvs:List (Th×R)}{es:List (List aI×V)}:mN K m H ((k,d)::kvs) ((k',v)::es) ↔ k'=kk k/\ap K m H d v/\mN K m H kvs es:=by
 constructor
 ·rintro ⟨h1,h2⟩;simp only [zaf,List.cons.injEq] at h1;obtain ⟨w,r,e,h3,h4⟩:=h2;simp only [zaf,List.cons.injEq] at e;obtain ⟨rfl,rfl⟩:=e;exact ⟨h1.1,h3,h1.2,h4⟩
 ·rintro ⟨rfl,h1,h2,h3⟩;exact ⟨by simp [h2],⟨_,_,rfl,h1,h3⟩⟩
theorem mN.snoc {k:Th}{d:R}{v:V}(rd:ap K m H d v):∀{kvs:List (Th×R)} {es:List (List aI×V)},mN K m H kvs es->mN K m H (kvs++[(k,d)]) (es++[(kk k,v)])
 |[],[],_=>mN.cons.mpr ⟨rfl,rd,.nil⟩
 |[],e::es,h=>by have:=h.1;simp at this
 |q::kvs,[],h=>by have:=h.1;simp at this
 |(a,x)::kvs,(b,y)::es,h=>by obtain ⟨rfl,h1,h2⟩:=mN.cons.mp h;exact mN.cons.mpr ⟨rfl,h1,mN.snoc rd h2⟩
theorem mN.val:∀{kvs:List (Th×R)} {es:List (List aI×V)} (k:Th),mN K m H kvs es->(iR kvs k=none/\dh es (kk k)=none)\/∃d v,iR kvs k=some d/\dh es (kk k)=some v/\ap K m H d v
 |[],es,k,h=>by
  have:es=[]:=by simpa using h.1
  subst this;exact .inl ⟨rfl,rfl⟩
 |(a,d)::kvs,[],k,h=>by have:=h.1;simp at this
 |(a,d)::kvs,(b,v)::es,k,h=>by
  obtain ⟨rfl,h1,h2⟩:=mN.cons.mp h;by_cases e:a=k
  ·refine .inr ⟨d,v,?_,?_,h1⟩
   ·simp [iR,e]
   ·simp [dh,e]
  ·have ih:=mN.val k h2;have e1:iR ((a,d)::kvs) k=iR kvs k:=(by simp [iR,e]);have e2:dh ((kk a,v)::es) (kk k)=dh es (kk k):=gX fun z=>e (qV z);rw [e1,e2];exact ih
def mN.ext (x:dz m H m' H'){kvs:List (Th×R)}{es:List (List aI×V)}(h:mN K m H kvs es):mN K m' H' kvs es:=⟨h.1,aQ.ext x h.2⟩
def mN.len {kvs:List (Th×R)}{es:List (List aI×V)}(h:mN K m H kvs es):es.length=kvs.length:=by simpa using congrArg List.length h.1
end
def gG (U:ac)(n:Nat):Option (List (Th×R)):=match U[n]? with|some (.dtr kvs)=>some kvs|_=>none
def rG {m:Tf}{H:Hp}{U:ac}{n:Nat}{a:Addr}{kvs:List (Th×R)}(s:aJ K m H U)(ha:m[n]?=some a)(e:gG U n=some kvs):U[n]?=some (.dtr kvs)/\∃es,H a=some (.dT es)/\mN K m H kvs es:=by
 unfold gG at e;split at e
 ·rename_i q
  cases e;obtain ⟨es,ea,e1,e2⟩:=s.cell _ _ a q ha;exact ⟨q,es,ea,e1,e2⟩
 ·cases e
def DY:FE:=fun _ U=>some (.p U.length,U++[.dtr []])
def G6 {H:Hp}{Q:VK}(h:aq K DY Y H Q):zx Y H Q:=by obtain ⟨O,U,m,d,U',hl,hs,e,k⟩:=h;cases e;intro p hp;have x:dz m H (m++[p]) (upd H p (.dT [])):=.newH hp;exact k _ _ (m++[p]) x (hs.newH hp ⟨[],cM,rfl,rfl⟩) ⟨p,rfl,by rw [←hs.len];simp⟩
def oU (fo fk fx:FE):FE:=fun O U=>(fo O U).bind fun o=>match o.1 with
 |.p n=>if (gG o.2 n).isSome=true then (fk O o.2).bind fun k=>match k.1 with
  |.v (.key ks)=>(fx O k.2).bind fun x=>(gG x.2 n).bind fun kvs=>if kvs.length < 1000 then some (match iR kvs ks with|some r=>(r,x.2)|none=>(x.1,x.2.set n (.dtr (kvs++[(ks,x.1)])))) else none
  |_=>none
  else none
 |_=>none
def CN {H:Hp}{Q:VK}{fo fk fx}(h:aq K (oU fo fk fx) Y H Q):zw (aq K fo) (aq K fk) (aq K fx) Y H Q:=by
 obtain ⟨O,U,m,d,U',hl,hs,e,kc⟩:=h;obtain ⟨⟨o,U1⟩,e1,e⟩:=zab.mp e;split at e
 ·rename_i n hn;simp only at hn;subst hn;split at e
  ·rename_i h0;obtain ⟨⟨k,U2⟩,e2,e⟩:=zab.mp e;split at e
   ·rename_i ks hks;simp only at hks;subst hks;obtain ⟨⟨x,U3⟩,e3,e⟩:=zab.mp e;obtain ⟨kvs,e4,e⟩:=zab.mp e;split at e
    ·rename_i hlt;refine ⟨O,U,m,_,U1,hl,hs,e1,fun vo H1 m1 x1 s1 r1=>?_⟩;obtain ⟨kvs0,e0⟩:=zcp.mp h0;obtain ⟨a,rfl,ha⟩:=r1;obtain ⟨_,es,hR,hK⟩:=rG s1 ha e0;refine ⟨a,rfl,.inr ⟨es,.inl hR⟩,?_⟩;refine ⟨O,U1,m1,_,U2,hl.ext x1,s1,e2,fun vk H2 m2 x2 s2 r2=>?_⟩;refine ⟨O,U2,m2,x,U3,hl.ext (x1.trans x2),s2,e3,fun vx H3 m3 x3 s3 r3=>?_⟩;have x13:=(x1.trans x2).trans x3;have ha3:m3[n]?=some a:=by obtain ⟨a',ea',q⟩:=ap.ext (x2.trans x3) (show ap K m1 H1 (.p n) (.ref a) from ⟨a,rfl,ha⟩);cases ea';exact q
     obtain ⟨q3,es',hR',hK'⟩:=rG s3 ha3 e4;have r2':=r2.ext x3;simp only [ap,ak] at r2';obtain ⟨b,rfl,hb⟩:=r2';refine ⟨es',kk ks,b,hR',rfl,by rw [yd];exact hb,?_,fun v hv=>?_,fun hv=>?_⟩
     ·rw [hK'.len];exact zau hlt (by rw [zbh];omega)
     ·rcases mN.val ks hK' with ⟨n1,n2⟩|⟨dd,vv,n1,n2,n3⟩
      ·rw [n2] at hv;cases hv
      ·rw [n2] at hv;cases hv;simp only [n1] at e;cases e;exact kc _ H3 m3 x13 s3 n3
     ·rcases mN.val ks hK' with ⟨n1,n2⟩|⟨dd,vv,n1,n2,n3⟩
      ·simp only [n1] at e
       cases e;have y:dz m3 H3 m3 (upd H3 a (.dT (es'++[(kk ks,vx)]))):=.put (zaO ha3) hR' (by simp) (by simp);have kr:=mN.snoc (k:=ks) (r3.ext y) (hK'.ext y);exact kc _ _ m3 (x13.trans y) (s3.put ha3 hR' (by simp) (by simp) ⟨_,cM,kr.1,kr.2⟩) (r3.ext y)
      ·rw [n2] at hv;cases hv
    ·cases e
   ·cases e
  ·cases e
 ·cases e
def Bt (fo fk:FE):FE:=fun O U=>(fo O U).bind fun o=>(fk O o.2).bind fun k=>match o.1,k.1 with
 |.p n,.v (.key ks)=>(gG k.2 n).bind fun kvs=>(iR kvs ks).bind fun d=>some (d,k.2)
 |_,_=>none
def GH {H:Hp}{Q:VK}{fo fk}(h:aq K (Bt fo fk) Y H Q):zy (aq K fo) (aq K fk) Y H Q:=by
 obtain ⟨O,U,m,d,U',hl,hs,e,kk'⟩:=h;obtain ⟨⟨o,U1⟩,e1,e⟩:=zab.mp e;obtain ⟨⟨k,U2⟩,e2,e⟩:=zab.mp e;dsimp only at e;split at e
 ·rename_i n ks e0;obtain ⟨kvs,e3,e⟩:=zab.mp e;obtain ⟨dd,e4,e⟩:=zab.mp e;cases e;refine ⟨O,U,m,_,U1,hl,hs,e1,fun vo H1 m1 x1 s1 r1=>?_⟩;refine ⟨O,U1,m1,_,_,hl.ext x1,s1,e2,fun vk H2 m2 x2 s2 r2=>?_⟩;obtain ⟨a,rfl,ha⟩:=r1.ext x2;simp only [ap,ak] at r2;obtain ⟨b,rfl,hb⟩:=r2;obtain ⟨_,es,ea,kd⟩:=rG s2 ha e3;rcases mN.val ks kd with ⟨n1,n2⟩|⟨d',v',n1,n2,n3⟩
  ·rw [n1] at e4;cases e4
  ·rw [n1] at e4;cases e4;exact ⟨a,v',rfl,.inr ⟨es,kk ks,b,.inl ea,rfl,by rw [yd];exact hb,n2.symm⟩,kk' _ H2 m2 (x1.trans x2) s2 n3⟩
 ·cases e
def pO:List R->ac->Option (R×ac)
 |[.p n],U=>(gG U n).bind fun kvs=>if kvs.length < 64/\(kvs.length < 2\/∀p∈kvs,p.1≠[]) then some (.p U.length,U++[.lst ((cE (kvs.map (·.1))).map D.key)]) else none
 |_,_=>none
def DP {K:zac}:vZ K pO sH:=by
 intro m H U xs d U' vs Q s r e k;unfold pO at e;split at e
 ·rename_i n;obtain ⟨kvs,e1,e⟩:=zab.mp e;split at e
  ·rename_i hc
   cases e;obtain ⟨v,rfl,r1⟩:=lJ r;obtain ⟨a,rfl,ha⟩:=r1;obtain ⟨_,es,ea,kd⟩:=rG s ha e1;refine ⟨a,es,kvs.map (·.1),rfl,ea,by rw [kd.1,zby];rfl,by simpa using hc.1,fun h2 x hx=>?_,fun as pa l hl=>?_⟩
   ·rw [zag] at h2;obtain ⟨p,hp,rfl⟩:=zaS.mp hx;rcases hc.2 with h|h
    ·omega
    ·exact h p hp
   ·obtain ⟨x1,x2,x3⟩:=iz s (pa.rels (K:=K)) hl;exact k _ _ _ x1 x2 x3
  ·cases e
 ·cases e
mutual
def fu:D->D
 |.tup xs=>.tup (unkDs xs)
 |.fl xs=>.fl (unkDs xs)
 |.key ks=>.tup (ks.map D.int)
 |.fd ks ds=>.fd ks ds
 |.non=>.non
 |.bl b=>.bl b
 |.int i=>.int i
 |.str x=>.str x
def unkDs:List D->List D
 |[]=>[]
 |x::xs=>fu x::unkDs xs
end
theorem pJ:∀xs:List D,unkDs xs=xs.map fu
 |[]=>by simp only [unkDs,za8]
 |x::xs=>by simp only [unkDs,zaf,pJ xs]
section
variable {K:zac}{H:Hp}
mutual
theorem ak.unk:∀(d:D) (v:V),ak K H d v->ak K H (fu d) v
 |.non,_,h=>by simpa only [fu] using h
 |.bl _,_,h=>by simpa only [fu] using h
 |.int _,_,h=>by simpa only [fu] using h
 |.str _,_,h=>by simpa only [fu] using h
 |.fd _ _,_,h=>by simpa only [fu] using h
 |.tup xs,v,h=>by simp only [fu,ak] at h ⊢;obtain ⟨a,vs,e,s,r⟩:=h;exact ⟨a,vs,e,s,RelDs.unk xs vs r⟩
 |.fl xs,v,h=>by simp only [fu,ak] at h ⊢;obtain ⟨a,vs,e,s,r⟩:=h;exact ⟨a,vs,e,s,RelDs.unk xs vs r⟩
 |.key ks,v,h=>by simp only [fu,ak] at h ⊢;obtain ⟨a,e,q⟩:=h;exact ⟨a,_,e,.inl (.inl q),pQ ks⟩
theorem RelDs.unk:∀(ds:List D) (vs:List V),RelDs K H ds vs->RelDs K H (unkDs ds) vs
 |[],_,h=>by simpa only [unkDs] using h
 |d::ds,vs,h=>by simp only [unkDs,RelDs] at h ⊢;obtain ⟨v,r,e,h1,h2⟩:=h;exact ⟨v,r,e,ak.unk d v h1,RelDs.unk ds r h2⟩
end
end
def uk {Z:Type}(f:List D->Z):List D->Z:=fun ds=>f (unkDs ds)
def xp (ds:List D):(unkDs ds).length=ds.length:=by rw [pJ,zag]
def Kh {n:Nat}{f:MF}{vs:List V}{H:Hp}{Q:VK}{E:XK}(h:yT K n (uk f) vs H Q E):yT K n f vs H Q E:=by obtain ⟨ds,d,hl,r,e,k⟩:=h;exact ⟨unkDs ds,d,(xp ds).trans hl,RelDs.unk ds vs r,e,k⟩
def nK:R->R
 |.v d=>.v (fu d)
 |x=>x
def Jw:au->au
 |.lst xs=>.lst (unkDs xs)
 |.fz xs=>.fz (unkDs xs)
 |c=>c
def mQ (U:ac):ac:=U.map Jw
theorem gr.unk {m:Tf}{H:Hp}{c:au}{a:Addr}(h:gr K m H c a):gr K m H (Jw c) a:=by
 cases c with
 |lst xs=>obtain ⟨vs,e,r⟩:=h;exact ⟨vs,e,RelDs.unk xs vs r⟩
 |fz xs=>obtain ⟨o,vs,e,r⟩:=h;exact ⟨o,vs,e,RelDs.unk xs vs r⟩
 |_=>exact h
def aJ.unk {m:Tf}{H:Hp}{U:ac}(s:aJ K m H U):aJ K m H (mQ U) :=
 ⟨s.nd,by rw [s.len,mQ,zag],fun i c a e1 e2=>by rw [mQ,zaB] at e1;obtain ⟨c',q1,q2⟩:=zaK.mp e1;subst q2;exact (s.cell i c' a q1 e2).unk⟩
theorem ap.unk {m:Tf}{H:Hp}{x:R}{v:V}(h:ap K m H x v):ap K m H (nK x) v:=by
 cases x with
 |v d=>exact ak.unk d v h
 |_=>exact h
def oZ (neg:Bool):R->R->ac->Option (R×ac):=fun x y U=>(gQ neg (nK x) (nK y) (mQ U)).bind fun r=>some (r.1,U)
def Bn {neg:Bool}:pp K (oZ neg) (C0 K neg):=by
 intro m H U x y d U' v u Q s rx ry e k;obtain ⟨⟨r,U1⟩,e1,e⟩:=zab.mp e;cases e;have e0:=e1;unfold gQ at e1;obtain ⟨a,q1,e1⟩:=zab.mp e1;obtain ⟨b,q2,e1⟩:=zab.mp e1;split at e1
 ·cases e1;exact ⟨m,mQ U,nK x,nK y,_,s.unk,rx.unk,ry.unk,e0,k _ H m .refl s (by simp only [ap,ak])⟩
 ·cases e1
end HW
namespace L2
open PyProof.Rows
def D9 (o:Obj):Nat:=match o.data with|.dict _ ep=>ep|_=>0
end L2
namespace HW
open PyProof.Rows L2
end HW
namespace HW
abbrev I0 (h:Heap)(z TI TO T:Addr)(fl:Bool):Prop :=
 h.get? z=some {cls:=.type "zip",dict:=none,data:=.fields #[rawInt T,.bool fl,.bool false,.ref TI,.ref TO],slots:=#[]}
open L2 PyProof.Rows
structure Qg (h:Heap)(S z TI TO i1 i2 l1 l2:Addr)(xs ys:Ti)(k:Nat):Prop where
 st:(k=0/\IsZip h z TI TO .none/\IsPair h TO .none .none)\/∃T fl oT,I0 h z TI TO T fl/\h.get? T=some oT/\T∉[S,z,TO,i1,i2]
 ti:IsPair h TI (.ref i1) (.ref i2)
 h1:h.IsListIter i1 l1 k
 h2:h.IsListIter i2 l2 k
 l1:h.IsList l1 xs
 l2:h.IsList l2 ys
 to:∃o,h.get? TO=some o
end HW
namespace HK
open PyProof.Rows L2
def BJ:entryFor table "dict_itemiterator.__iter__" = some Builtin.«dict_keyiterator.__iter__»:=entryFor_alias (id':="dict_keyiterator.__iter__") (by kernel_rfl) rfl (by decide) (by kernel_rfl)
section
variable {prog:Program}{w:World}{A:Around}{E:Tb}{s:Shared}{d it v:Addr}{es:Array DictEntry}{ep i:Nat}{ok ov:Value}
def Im {Q:Tb}(nd:(d == sysModules)=false)(m:DE s.heap d es ep)
  (fin:Q (.ref s.heap.objs.size) {s with heap:=s.heap.push {cls:=.type "dict_items",data:=.fields #[.ref d]}}):wpAny (model prog w) A (call (.builtin "dict.items") [.ref d]) Q E s:=by
 refine zaG F.slot_dict_items m.ty F.entry_dict_items ?_ (F.args_dict_items_1 _);unfold Builtin.«dict.items» Builtin.Dict.noArgs;refine zaa (zaa (zcD m.ty (show wpAny _ _ (pure d) _ _ s from zad (show wpAny _ _ (Builtin.Dict.showsAll d >>= _) _ _ s from ?_))));unfold Builtin.Dict.showsAll;rw [if_neg (show ¬ (d == sysModules)=true by rw [nd];decide)];exact zaa (zad (zaa (zaE (zad ⟨_,rfl,fin⟩))))
theorem Lc {Q:Tb}(y:s.heap.IsItemsView v d)(m:DE s.heap d es ep)
  (fin:Q (.ref s.heap.objs.size) {s with heap:=s.heap.push {cls:=.type "dict_itemiterator",data:=.fields #[.none,.bool false,.ref d,.int 0 0,.int es.size 0,.int ep 0,.none,.none]}}):wpAny (model prog w) A (pyIter (.ref v)) Q E s:=by
 obtain ⟨ob,g,x,dt⟩:=id m;obtain ⟨oy,gy,cy,dy⟩:=id y;refine zcb y.typeIs F.slot_dict_items_iter (zaG F.slot_dict_items_iter y.typeIs F.entry_dict_items_iter ?_ (F.args_dict_items_iter_1 _));unfold Builtin.«dict_items.__iter__» Builtin.Dict_items.dictOf Builtin.Dict_items.newIterator;refine zaa (zad (zaa (zaa (zci gy dy (x:=.ref d) rfl (zad (zaa (zaa (zbF g dt (zaa (zb2 g dt ?_))))))))));simp only [show Builtin.Dict_items.ownsTuple "dict_itemiterator" = true by decide,if_true];refine zaE (zad ⟨_,rfl,"dict_itemiterator",_,⟨_,zak _ rfl,rfl⟩,F.slot_dict_itemiterator_next.lookup,?_⟩) (by simp [sizeOk,Builtin.Dict_items.ownedTupleFields,zbh]);simpa [rawInt,Builtin.Dict_items.ownedTupleFields] using fin
def Lb {n:Nat}{Q:Tb}(k:IsItemIter s.heap it d i n ep ok ov)(h:Q (.ref it) s):wpAny (model prog w) A (pyIter (.ref it)) Q E s:=by
 have ty:s.TypeIs (.ref it) "dict_itemiterator":=⟨_,k,rfl⟩;refine zcb ty F.slot_dict_itemiterator_iter (zaG F.slot_dict_itemiterator_iter ty BJ ?_ (F.args_dict_itemiterator_iter_1 _))
 show wpAny _ _ (ret (.ref it)) _ _ s
 exact zad ⟨_,rfl,"dict_itemiterator",_,ty,F.slot_dict_itemiterator_next.lookup,h⟩
theorem K5 {e:DictEntry}{Q:Option Value->Shared->Prop}(k:IsItemIter s.heap it d i es.size ep ok ov)(m:DE s.heap d es ep)(ge:es[i]?=some e)
  (fin:∀h',IsItemIterOut h' it d (i+1) es.size ep e.key e.val s.heap.objs.size->h'.get? s.heap.objs.size=some {cls:=.type "tuple",data:=.seq #[e.key,e.val]}->h'.objs.size=s.heap.objs.size+1 ->
   (∀b o,b≠it->s.heap.get? b=some o->h'.get? b=some o)->Q (some (.ref s.heap.objs.size)) {s with heap:=h'}):wpAny (model prog w) A (pyNext (.ref it)) Q E s:=by
 obtain ⟨hp,gs,dr,tk,os⟩:=s;obtain ⟨ob,g,x,dt⟩:=id m;have ty:Shared.TypeIs ⟨hp,gs,dr,tk,os⟩ (.ref it) "dict_itemiterator":=⟨_,k,rfl⟩;have lt:=zah k;unfold pyNext;refine zaa (zbG (zaX (name:=Str.ofString "__next__") ty F.slot_dict_itemiterator_next (zaG F.slot_dict_itemiterator_next ty F.entry_dict_itemiterator_next ?_ (F.args_dict_itemiterator_next_1 _))));refine zaa (zad (zaa (zaa ?_)))
 first|refine zaa (zbE ty (zad (zaa (zbg k rfl ?_))))|refine zaa (zbS ty (zad (zaa (zbg k rfl ?_))))
 simp only [show Builtin.Dict_items.ownsTuple "dict_itemiterator" = true by decide,if_true];refine (show wpAny _ _ (if (Value.ref d == Value.none)=true then _ else _) _ _ _ from ?_);rw [if_neg (show ¬ ((Value.ref d == Value.none)=true) by exact za1)];refine zaa (zad (zaa (zbF g dt ?_)));rw [if_neg (show ¬ _ by simp)];refine zaa (zad (zaa (zb2 g dt ?_)));rw [if_neg (show ¬ _ by simp)];refine zad ?_;simp only [show ¬ ((i:Int) < 0) by omega,if_false,zbc,ge];refine zaa ?_
 first|refine zaa (zbE ty (zad (zaa (zb9 ty ?_))))|refine zaa (zbS ty (zad (zaa (zb9 ty ?_))))
 refine (show wpAny _ _ (setField (.ref it) 3 (rawInt ((i:Int)+1)) >>= _) _ _ _ from zaa (zb3 k (by simp) fun h₁ k₁ c₁=>?_));have c₁:Heap.SameBut it hp h₁:=c₁
 have k₁:IsItemIter h₁ it d (i+1) es.size ep ok ov:=by
  unfold IsItemIter;rw [show ((i+1:Nat):Int)=(i:Int)+1 by omega];simpa [rawInt] using k₁
 refine zaa (zaH (zaa (zb9 (s:=⟨h₁,gs,dr,tk,os⟩) ⟨_,k₁,rfl⟩ (zaa (zb9 (s:=⟨h₁,gs,dr,tk,os⟩) ⟨_,k₁,rfl⟩ ?_)))));refine (show wpAny _ _ (Builtin.Dict_items.pairFromOwner (.ref it) 6 e.key e.val) _ _ _ from ?_);unfold Builtin.Dict_items.pairFromOwner;refine zaa (wpAny_newTuple ?_);have kk:∀b o,b≠it->hp.get? b=some o->(h₁.push {cls:=.type "tuple",data:=.seq #[e.key,e.val]}).get? b=some o:=fun b o hb q=>zae _ (c₁.extBut b o hb q);have k₂:IsItemIter (h₁.push {cls:=.type "tuple",data:=.seq #[e.key,e.val]}) it d (i+1) es.size ep ok ov:=zae _ k₁
 have gt:(h₁.push {cls:=.type "tuple",data:=.seq #[e.key,e.val]}).get? hp.objs.size=some {cls:=.type "tuple",data:=.seq #[e.key,e.val]}:=by rw [←c₁.1];exact zak _ rfl
 have sz:(h₁.push {cls:=.type "tuple",data:=.seq #[e.key,e.val]}).objs.size=hp.objs.size+1:=by rw [zaZ,c₁.1]
 refine (show wpAny _ _ (Builtin.Dict_items.ownedTupleIsFree (.ref it) >>= _) _ _ ⟨h₁.push {cls:=.type "tuple",data:=.seq #[e.key,e.val]},gs,dr,tk,os⟩ from ?_);rw [c₁.1];generalize h₁.push {cls:=.type "tuple",data:=.seq #[e.key,e.val]}=h₂ at kk k₂ gt sz;clear k₁ c₁;unfold Builtin.Dict_items.ownedTupleIsFree;refine zaa (zaa (zci k₂ rfl (x:=.none) rfl (zad ?_)));simp only [if_true];refine zaa (zci k₂ rfl (x:=ok) rfl (zaa (zci k₂ rfl (x:=ov) rfl ?_)))
 have key:∀h₃,Heap.SameBut it h₂ h₃->h₃.get? hp.objs.size=some {cls:=.type "tuple",data:=.seq #[e.key,e.val]}/\h₃.objs.size=hp.objs.size+1/\∀b o,b≠it->hp.get? b=some o->h₃.get? b=some o:=fun h₃ c =>
  ⟨c.extBut _ _ (za0 lt) gt,c.1.trans sz,fun b o hb q=>c.extBut b o hb (kk b o hb q)⟩
 refine zaa (zb3 k₂ (by simp) fun h₃ k₃ c₃=>?_);have k₃:IsItemIter h₃ it d (i+1) es.size ep e.key ov:=k₃;refine zaa (zb3 k₃ (by simp) fun h₄ k₄ c₄=>?_);have k₄:IsItemIter h₄ it d (i+1) es.size ep e.key e.val:=k₄;refine zaa (zb3 k₄ (by simp) fun h₅ k₅ c₅=>?_);have k₅:IsItemIterOut h₅ it d (i+1) es.size ep e.key e.val hp.objs.size:=k₅;refine zaa (zb3 k₅ (by simp) fun h₆ k₆ c₆=>?_);have k₆:IsItemIterOut h₆ it d (i+1) es.size ep e.key e.val hp.objs.size:=k₆;obtain ⟨a1,a2,a3⟩:=key h₆ (((Heap.SameBut.trans c₃ c₄).trans c₅).trans c₆);exact zaa (wpAny_letGo (zad (zad ⟨_,rfl,zad (fin h₆ k₆ a1 a2 a3)⟩)))
theorem K8 {Q:Option Value->Shared->Prop}(hh:A.handled=none)(k:IsItemIter s.heap it d es.size es.size ep ok ov)(m:DE s.heap d es ep)
  (fin:∀h',Heap.ExtBut it s.heap h'->Q none {s with heap:=h'}):wpAny (model prog w) A (pyNext (.ref it)) Q E s:=by
 obtain ⟨ob,g,x,dt⟩:=id m;have ty:s.TypeIs (.ref it) "dict_itemiterator":=⟨_,k,rfl⟩;unfold pyNext;refine zaa (zbG (zaX (name:=Str.ofString "__next__") ty F.slot_dict_itemiterator_next (zaG F.slot_dict_itemiterator_next ty F.entry_dict_itemiterator_next ?_ (F.args_dict_itemiterator_next_1 _))));refine zaa (zad (zaa (zaa ?_)))
 first|refine zaa (zbE ty (zad (zaa (zbg k rfl ?_))))|refine zaa (zbS ty (zad (zaa (zbg k rfl ?_))))
 simp only [show Builtin.Dict_items.ownsTuple "dict_itemiterator" = true by decide,if_true];refine (show wpAny _ _ (if (Value.ref d == Value.none)=true then _ else _) _ _ s from ?_);rw [if_neg (show ¬ ((Value.ref d == Value.none)=true) by exact za1)];refine zaa (zad (zaa (zbF g dt ?_)));rw [if_neg (show ¬ _ by simp)];refine zaa (zad (zaa (zb2 g dt ?_)));rw [if_neg (show ¬ _ by simp)];refine zad ?_;simp only [show ¬ ((es.size:Int) < 0) by omega,if_false,zbc,zb6 (zal es.size)];refine zaa ?_
 first|refine zaa (zbE ty (zad ?_))|refine zaa (zbS ty (zad ?_))
 refine (show wpAny _ _ (setField (.ref it) 2 .none >>= _) _ _ s from zaa (zbA k rfl (by simp) ?_));refine (show wpAny _ _ (newExc (.type "StopIteration") [] >>= _) _ _ _ from zaa ?_);simp only [newExc,newTuple];refine zaa (zaE (zaa (m:=firstArgMember _ _) (zcP (a:=Value.none) (by first|rfl|(simp only [firstArgMember];rfl)) (zaE ?_ (by size_fits)))) (by size_fits));simp only [raiseNew];refine zaa (wpAny_handled ?_);rw [show A.in1.handled=none by exact hh];refine zaa (zad (wpAny_throw (zaa ?_)));exact zbt (T:="StopIteration") (b:=true) ⟨_,zak _ rfl,rfl⟩ isSubtype_stop (zad (fin _ (((Heap.SameBut.update ..).extBut.push _).push _)))
end
end HK
namespace L2
open PyProof.Rows HK
def OL (a:Addr)(o:Obj)(es:List (List aI×V)):It :=
 ⟨fun i H=>H a=some (.frz o (.dT es))/\i < es.length,fun i H v H'=>∃T b kv,es[i]?=some kv/\v=.ref T/\H T=none/\H b=some (.tup (kv.1.map kV))/\H'=upd H T (.tup [.ref b,kv.2]),fun i H=>H a=some (.frz o (.dT es))/\es.length<=i⟩
def t9 (o:Obj):Array DictEntry:=match o.data with|.dict es _=>es|_=>#[]
theorem Bo {H:Hp}{h:Heap}{a:Addr}{o:Obj}{es:List (List aI×V)}(ok:ig P w H h)(e:H a=some (.frz o (.dT es))) :
  (a == sysModules)=false/\DE h a (t9 o) (D9 o)/\(t9 o).size=es.length/\∀(i:Nat) kv,es[i]?=some kv->∃b u,aW kv.2 u/\H b=some (.tup (kv.1.map kV))/\∃en,(t9 o)[i]?=some en/\en.key=.ref b/\en.val=u:=by
 obtain ⟨q1,_,q3,xs,q4,o',es',ep,r1,r2,r3,r4,r5⟩:=(show bq P w H h a (.frz o (.dT es)) from ok a _ e);have z:=q1.symm.trans r1;cases z
 have e1:t9 o=es':=by unfold t9;rw [r3]
 have e2:D9 o=ep:=by unfold D9;rw [r3]
 rw [e1,e2];refine ⟨q3,⟨o,r1,r2,r3⟩,?_,fun i kv hi=>?_⟩
 ·rw [←za4,r4,zag,←Paired.length q4]
 ·have key:∀{es:List (List aI×V)} {xs:List (List aI×Addr×Value)} {i:Nat} {kv},Paired (fun (p:List aI×V) (q:List aI×Addr×Value)=>p.1=q.1/\H q.2.1=some (.tup (p.1.map kV))/\aW p.2 q.2.2) es xs->es[i]?=some kv->∃x,xs[i]?=some x/\H x.2.1=some (.tup (kv.1.map kV))/\aW kv.2 x.2.2:=by
   intro es xs i kv p
   induction p generalizing i with
   |nil=>intro z;simp at z
   |cons r t ih =>
    intro z
    cases i with
    |zero=>simp only [List.getElem?_cons_zero,Option.some.injEq] at z;subst z;exact ⟨_,rfl,r.2.1,r.2.2⟩
    |succ i=>obtain ⟨x,h1,h2⟩:=ih (by simpa using z);exact ⟨x,by simpa using h1,h2⟩
  obtain ⟨x,h1,h2,h3⟩:=key q4 hi;refine ⟨x.2.1,x.2.2,h3,h2,entryOfKey (tupleKind (bC P w)) x,?_,rfl,rfl⟩;rw [←zbq,r4,zaB,h1];rfl
def uN {K:zac}{elts:Tj}{x1}(a it:Addr)(o:Obj)(es:List (List aI×V)):uv P w K (.Tuple elts x1 pos) (OL a o es) [it] it (fun i h=>i<=(t9 o).size/\∃ok ov,IsItemIter h it a i (t9 o).size (D9 o) ok ov) where
 mem:=by simp
 obj:=fun i h st b hb=>by
  have e:b=it:=by simpa using hb
  subst e;obtain ⟨_,ok,ov,q⟩:=st;exact ⟨_,q,fun v z=>by
   have z':Data.fields _=Data.cell v:=z
   cases z'⟩
 keep:=fun i h h' st k=>by obtain ⟨z,ok,ov,q⟩:=st;exact ⟨z,ok,ov,k it (by simp) _ q⟩
 item:=by
  intro X hP hw hK hc i pins s Y H E I hf st hg;subst hP hw hK;obtain ⟨hq,hi⟩:=hg;obtain ⟨_,ok,ov,st⟩:=st;obtain ⟨hd,de,hsz,at_⟩:=Bo I.hok hq;have hx:es[i]?=some es[i]:=zap hi;obtain ⟨b,u,ru,hb,en,g1,g2,g3⟩:=at_ i _ hx;have ilt:it < s.heap.objs.size:=zah st;have nT:H s.heap.objs.size=none:=I.hok.fresh (zal _);refine K5 st de g1 fun h1 o1 hT hsz1 kk=>⟨_,rfl,wpAny_letOwnedTupleGo_items o1 fun h2 he2 sb=>?_⟩;rw [g2,g3] at hT;have tup:bq X.prog X.w (upd H s.heap.objs.size (.tup [.ref b,es[i].2])) (s.heap.push {cls:=.type "tuple",data:=.seq #[.ref b,u]}) s.heap.objs.size (.tup [.ref b,es[i].2]) :=
   ⟨(by decide:2<=sizeLine),[.ref b,u],.cons rfl (.cons ru .nil),jA.new _ _⟩
  have I1:=I.laid (t':=s.toks) (fun b o q=>zae _ q) (zal _) tup;have hT2:h2.get? s.heap.objs.size=some {cls:=.type "tuple",data:=.seq #[.ref b,u]}:=(sb.2 _ (za0 ilt)).trans hT;have I2:ay X pins Y (upd H s.heap.objs.size (.tup [.ref b,es[i].2])) {s with heap:=h2,toks:=s.toks}:=by
   refine ay.turnedL (s:={s with heap:=s.heap.push {cls:=.type "tuple",data:=.seq #[.ref b,u]}}) (its:=[it]) I1 (fun c o hc q=>?_) fun c hc=>?_
   ·have hc1:c≠it:=fun z=>hc (by simp [z]);by_cases hcT:c=s.heap.objs.size
    ·subst hcT;have q:(s.heap.push {cls:=.type "tuple",data:=.seq #[.ref b,u]}).get? s.heap.objs.size=some o:=q;rw [zak _ rfl] at q;cases q;exact hT2
    ·have q:(s.heap.push {cls:=.type "tuple",data:=.seq #[.ref b,u]}).get? c=some o:=q;have hlt:c < s.heap.objs.size:=by have h0:=zah q;rw [zaZ] at h0;exact Nat.lt_of_le_of_ne (Nat.le_of_lt_succ h0) hcT
     have q0:s.heap.get? c=some o:=(by rw [←q];exact (C8 hlt).symm);exact (sb.2 c hc1).trans (kk c o hc1 q0)
   ·obtain ⟨f0,f1,f2,f3,f4,f5⟩:=hf c hc;have hcT:c≠s.heap.objs.size:=by have z:c=it:=(by simpa using hc);rw [z];exact zam ilt
    exact ⟨by rw [av hcT];exact f0,f1,f3,f4,f5⟩
  refine ⟨.ref s.heap.objs.size,_,I2,rfl,⟨_,b,_,hx,rfl,nT,hb,rfl⟩,⟨by rw [hsz];exact hi,_,_,he2⟩,fun c hc=>?_⟩;have hcT:c≠s.heap.objs.size:=by have z:c=it:=(by simpa using hc);rw [z];exact zam ilt
  rw [av hcT];exact (hf c hc).1
 done:=by
  intro X hP hw hK hc i pins s Y H E I hf st hg;subst hP hw hK;obtain ⟨hq,hi⟩:=hg;obtain ⟨z,ok,ov,st⟩:=st;obtain ⟨hd,de,hsz,_⟩:=Bo I.hok hq;obtain ⟨f0,f1,f2,f3,f4,f5⟩:=hf it (by simp);have hi':i=(t9 o).size:=by omega
  rw [hi'] at st;exact K8 (I.ok.hd hc) st de fun h' eb=>⟨rfl,I.turned (t':=s.toks) (fun b o hb e=>eb b o hb e) f0 f1 f3 f4 f5⟩
 self:=fun _ _ _ _ _ st h=>by obtain ⟨_,ok,ov,st⟩:=st;exact Lb st h
def Bg (tl:TE):TI:=fun Y H R=>tl Y H fun x H1=>∃a o es,x=.ref a/\H1 a=some (.frz o (.dT es))/\R (OL a o es) H1
def AA {X:Cx}{elts:Tj}{x1}{pt apos cpos:Pos}{o:Expr}{tl:TE}(hl:PE X o tl)(hbase:attributeBase o "items" X.env (eval o X.env)=eval o X.env)(hline:(apos.endLine == cpos.line)=true) :
  PI X (.Tuple elts x1 pt) (.Call (.Attribute o "items" apos) [] [] cpos) (Bg tl):=by
 intro pins s Y H R I h;refine wpAny_Call_method hbase rfl hline PySem.F.plainAttrs_dict PySem.F.slot_dict_items PySem.F.type_dict_items (cR (hl pins s Y H _ I h) fun u s1 hh=>?_);obtain ⟨x,H1,I1,rx,a,o,es,ex,hq,q⟩:=hh;subst ex;obtain rfl:u=Value.ref a:=rx;obtain ⟨t1,t2,_⟩:=Be I1 (.inr ⟨es,.inr ⟨o,hq⟩⟩);refine ⟨t1,t2,Calls.callWith_builtin rfl (PySem.evalArgs_none ?_)⟩;obtain ⟨hd,de,hsz,at_⟩:=Bo I1.hok hq;refine Im hd de ?_;refine Lc (v:=s1.heap.objs.size) (d:=a) ⟨_,zak _ rfl,rfl,rfl⟩ (de.at fun ob g=>zae _ g) ?_;have I2:ay X pins Y H1 {s1 with heap:=s1.heap.push {cls:=.type "dict_items",data:=.fields #[.ref a]}}:=I1.kept (t':=s1.toks) fun b o e=>zae _ e;refine ⟨_,[_],_,_,H1,rfl,I2.kept (t':=s1.toks) fun b o e=>zae _ e,uN a _ o es,⟨zba _,_,_,zak _ rfl⟩,fun b hb=>?_,q⟩;have e:=zav.mp hb;rw [e];exact I2.fpOk (zal _) (I2.hok.fresh (zal _))
end L2
namespace HW
variable {K:zac}
open PyProof.Rows L2
def O6:R->ac->Option (List (Th×D)×ac)
 |.p n,U=>match U[n]? with|some (.dt kvs)=>some (kvs,U.set n (.fzt kvs))|some (.fzt kvs)=>some (kvs,U)|_=>none
 |_,_=>none
abbrev Nw (p:Th×D):D:=.tup [.key p.1,p.2]
def DW (f:FE):FI:=fun O U=>(f O U).bind fun a=>(O6 a.1 a.2).bind fun b=>some (b.1.map Nw,b.2)
def jT.tf {H H':Hp}{kvs:List (Th×D)}{es:List (List aI×V)}(t:TF H H')(h:jT K H kvs es):jT K H' kvs es:=⟨h.1,RelDs.tf t _ _ h.2⟩
theorem jT.at {H:Hp}{kvs:List (Th×D)}{es:List (List aI×V)}(h:jT K H kvs es){i:Nat}{p:Th×D}(e:kvs[i]?=some p):∃v,es[i]?=some (kk p.1,v)/\ak K H p.2 v:=by
 obtain ⟨v,q,r⟩:=h.2.get (i:=i) (d:=p.2) (by rw [zaB,e];rfl);have k1:(es.map (·.1))[i]?=some (kk p.1):=by rw [h.1,zaB,e];rfl
 rw [zaB] at q k1
 cases z:es[i]? with
 |none=>rw [z] at q;cases q
 |some y =>
  rw [z] at q k1;have q:=Option.some.inj q;have k1:=Option.some.inj k1;exact ⟨v,congrArg some (Prod.ext k1 q),r⟩
def A8 {a:Addr}{o:Obj}{es:List (List aI×V)}{kvs:List (Th×D)}:F3 K (OL a o es) (kvs.map Nw) (fun H=>H a=some (.frz o (.dT es))/\jT K H kvs es) where
 st:=fun H H' t p=>⟨t.frz _ _ _ p.1,p.2.tf t⟩
 stop:=fun i H p hi=>⟨p.1,by have:=congrArg List.length p.2.1;simp at this hi;omega⟩
 go:=fun i d H e p=>⟨p.1,by
  have h1:=(zas.mp e).1;have:=congrArg List.length p.2.1;simp at this h1;omega⟩
 yld:=fun i d H x H' e p y=>by obtain ⟨T,b,kv,e1,e2,e3,e4,e5⟩:=y;rw [zaB] at e;obtain ⟨q,hq,hd⟩:=zaK.mp e;obtain ⟨v,z,r⟩:=p.2.at hq;rw [e1] at z;cases z;subst e2 e5 hd;refine ⟨n5 e3,?_⟩;simp only [ak];refine ⟨T,[.ref b,v],rfl,gU.of bn,?_⟩;simp only [RelDs,ak];exact ⟨_,_,rfl,⟨b,rfl,by rw [n5 e3 b _ e4,yd]⟩,_,_,rfl,ak.tf (tY (m:=[]) (n5 e3)).tf _ _ r,rfl⟩
theorem GY {H:Hp}{R:It->Hp->Prop}{f}(h:CY K (DW f) Y H R):Bg (Mc (aq K f)) Y H R:=by
 obtain ⟨O,U,m,xs,U',hl,hs,e,k⟩:=h;obtain ⟨⟨x,U1⟩,e1,e⟩:=zab.mp e;obtain ⟨⟨kvs,U2⟩,e2,e⟩:=zab.mp e;cases e;refine ⟨O,U,m,x,U1,hl,hs,e1,fun v H1 m1 x1 s1 r1=>?_⟩
 cases x with
 |p n =>
  obtain ⟨a,rfl,ha⟩:=r1;simp only [O6] at e2;split at e2
  ·rename_i kvs q
   cases e2;obtain ⟨es,ea,ke,rr⟩:=s1.cell n _ a q ha;refine .inr ⟨a,_,ea,trivial,fun o=>?_⟩;have x:dz m1 H1 m1 (upd H1 a (.frz o (.dT es))):=.put (zaO ha) ea (by simp) (by simp);exact ⟨a,o,es,rfl,cM,k _ _ _ m1 (x1.trans x) (s1.put ha ea (by simp) (by simp) ⟨o,es,cM,ke,RelDs.tf x.tf _ _ rr⟩) A8 ⟨cM,ke,RelDs.tf x.tf _ _ rr⟩⟩
  ·rename_i kvs q
   cases e2;obtain ⟨o,es,ea,ke,rr⟩:=s1.cell n _ a q ha;exact .inl ⟨a,o,es,rfl,ea,k _ _ _ m1 x1 s1 A8 ⟨ea,ke,rr⟩⟩
  ·cases e2
 |_=>cases e2
end HW
namespace HS
open PyProof.Rows
def L6 (S:Addr)(wr:Tf)(h h':Heap):Prop:=∀b o,b≠S->b∉wr->h.get? b=some o->h'.get? b=some o
def C7 {K:Type}[DecidableEq K](xs ps:List (K×Addr×Value)):List (K×Addr×Value):=ps.foldl (fun a p=>storedH a p.1 p.2.1 p.2.2) xs
def sw {K:Type}[DecidableEq K]{xs:List (K×Addr×Value)}{k:K}{a:Addr}{v:Value}{x:K×Addr×Value}(h:x∈storedH xs k a v):(∃y∈xs,y.1=x.1/\y.2.1=x.2.1)\/(x.1=k/\x.2.1=a):=by
 unfold storedH at h;split at h
 ·obtain ⟨y,hy,rfl⟩:=zaS.mp h;refine .inl ⟨y,hy,?_⟩;unfold putAt;split <;> exact ⟨rfl,rfl⟩
 ·rcases zaY.mp h with h|h
  ·exact .inl ⟨x,h,rfl,rfl⟩
  ·rw [zav.mp h];exact .inr ⟨rfl,rfl⟩
def sx {K:Type}[DecidableEq K](xs:List (K×Addr×Value))(k:K)(a:Addr)(v:Value):(storedH xs k a v).length<=xs.length+1:=by unfold storedH;split <;> simp
section
variable {prog:Program}{w:World}{A:Around}{E:Tb}{s:Shared}{R:Result->Shared->Prop}{I:Addr}{fp wr:Tf}{n:Nat}{P:Nat->Value->Prop}{St:Nat->Heap->Prop}
theorem vP {K:Type}[DecidableEq K]{knd:HeapKind prog w K}(W:Walks prog w A.in1 I fp wr n P St)(S:Addr)(hSf:S∉fp)(hroom:knd.room A.in1)(ps:List (K×Addr×Value))(hps:ps.length=n)(h₀:Heap)
  (hP:∀i v,P i v->∃p,ps[i]?=some p/\gq h₀ v (.ref p.2.1) p.2.2/\(∀h,L6 S wr h₀ h->knd.is h p.1 p.2.1)/\∀a,v=.ref a->a≠S/\a∉wr) :
  ∀(k i:Nat) (s:Shared) (c:Int) (xs:List (K×Addr×Value)),n - i=k->i<=n->St i s.heap->L6 S wr h₀ s.heap->s.heap.DictOfH knd S xs->(∀x∈xs,∀h,L6 S wr h₀ h->knd.is h x.1 x.2.1)->xs.length+k<=sizeLine ->
   (∀h' tk,L6 S wr s.heap h'->h'.DictOfH knd S (C7 xs (ps.drop i))->R (.ok (.ret .none)) {s with heap:=h',toks:=tk}) ->
   codeAny (model prog w) A (.builtin "dict.update.loop" ⟨[.ref S,.ref I,.int c 0,.none],[]⟩) R s:=by
 have nw:S∉wr:=fun h=>hSf (W.sub _ h);intro k
 induction k with
 |zero =>
  intro i s c xs hk hi hst h0 hS ha hb hR
  have hin:i=n:=by omega
  subst hin;refine zaU fL ?_;rw [zaV bW _];refine (show wpAny _ A.in1 (pyNext (.ref I) >>= _) _ _ s from zaa (W.done s _ _ hst fun h' tk hk'=>?_));refine (show wpAny _ A.in1 (do Builtin.Dict.addKeywords S [];ret Value.none) _ _ _ from zaa (show wpAny _ _ (pure ()) _ _ _ from zad (zad ?_)));refine hR h' tk (fun b o _ hb e=>hk' b o hb e) ?_;rw [zcz (by omega)];obtain ⟨o,es,ep,ho,r1,r2,r3,r4,r5⟩:=hS;exact ⟨o,es,ep,hk' S o nw ho,r1,r2,r3,fun x hx=>ha x hx h' fun b o n1 n2 e=>hk' b o n2 (h0 b o n1 n2 e),r5⟩
 |succ k ih =>
  intro i s c xs hk hi hst h0 hS ha hb hR
  have hlt:i < n:=by omega
  refine zaU fL ?_;rw [zaV bW _];refine (show wpAny _ A.in1 (pyNext (.ref I) >>= _) _ _ s from zaa (W.item i s _ _ hlt hst fun v h1 tk1 hPv hst1 hk1=>?_));obtain ⟨p,hpi,hpair,hkey,hap⟩:=hP i v hPv;have h01:L6 S wr h₀ h1:=fun b o n1 n2 e=>hk1 b o n2 (h0 b o n1 n2 e);have hpair1:gq h1 v (.ref p.2.1) p.2.2:=hpair.keep fun a o e q=>hk1 a o (hap a e).2 (h0 a o (hap a e).1 (hap a e).2 q);obtain ⟨a,o,cc,rfl,ho,hc,hd⟩:=hpair1.ex
  have hS1:h1.DictOfH knd S xs:=by
   obtain ⟨o,es,ep,ho,r1,r2,r3,r4,r5⟩:=hS;exact ⟨o,es,ep,hk1 S o nw ho,r1,r2,r3,fun x hx=>ha x hx h1 h01,r5⟩
  refine zaa (zaH (zaa (wpAny_tryCatch ?_)));unfold Builtin.Dict.pairItems;refine zaa (zbr (T:="tuple") ⟨o,ho,hc⟩ ?_);rw [if_pos (by decide)];refine zaa (zcO ho hd (zad ?_));refine (show wpAny _ _ (holding [.ref p.2.1,p.2.2] (dictSet S (.ref p.2.1) p.2.2)) _ _ _ from zaH (wpAny_dictSet_heap (s:={s with heap:=h1,toks:=tk1}) hroom (hkey h1 h01) hS1 (fun h2 hS2 hsb=>?_) (by omega)))
  have hdrop:ps.drop i=p::ps.drop (i+1):=by
   obtain ⟨hl,e⟩:=zas.mp hpi;rw [zbb hl,e]
  have hlen:=sx xs p.1 p.2.1 p.2.2;refine zad ⟨zbu bW _,ih (i+1) {s with heap:=h2,toks:=tk1+knd.draws p.1} (c+1) _ (by omega) hlt (W.frame _ h1 _ hst1 fun b hb o e=>?_) (fun b o n1 n2 e=>?_) hS2 (fun x hx=>?_) (by omega) fun h' tk' hk' hD=>?_⟩
  ·rw [hsb.2 b (fun h:b=S=>hSf (h ▸ hb))];exact e
  ·rw [hsb.2 b n1];exact h01 b o n1 n2 e
  ·rcases sw hx with ⟨y,hy,e1,e2⟩|⟨e1,e2⟩
   ·rw [←e1,←e2];exact ha y hy
   ·rw [e1,e2];exact hkey
  ·refine hR h' tk' (fun b o n1 n2 e=>hk' b o n1 n2 ?_) (by rw [hdrop];exact hD)
   show h2.get? b=some o
   rw [hsb.2 b n1];exact hk1 b o n2 e
theorem yD {K:Type}[DecidableEq K]{kn:KeyKind prog w K}{l:Addr}{its:Ti}{c:Nat}{ps:List (List K×Addr×Value)}{Q:Tb}
  (hu:A.units+32 < cLine) (hh:A.handled=none) (hl:s.heap.get? l=some {cls:=.type "list",data:=.seq its c}) (hps:ps.length=its.size) (hz:its.size<=sizeLine)
  (hP:∀(i:Nat) v,its[i]?=some v->∃p,ps[i]?=some p/\gq s.heap v (.ref p.2.1) p.2.2/\(tupleKind kn).is s.heap p.1 p.2.1)
  (h:∀(h':Heap) (tk:Nat),h'.DictOfH (tupleKind kn) s.heap.objs.size (C7 [] ps)->(∀b o,s.heap.get? b=some o->h'.get? b=some o)->Q (.ref s.heap.objs.size) {s with heap:=h',toks:=tk}) :
  wpAny (model prog w) A (call (.type "dict") [.ref l]) Q E s:=by
 obtain ⟨cc,tl,hmro⟩:=bF.mro;have hmade:=bF.made;have hsub:=bF.sub;refine zcH (zb1 (show wpAny _ _ (callAny (.type "dict") _) _ _ _ from ?_));refine zad ⟨Code.quiet_builtin _ (by decide),zaU F.entry_type_call ?_⟩;rw [zcr (weight_type_call_type "dict" [.ref l] []) rfl];have h1:=bF.notType;have h2:=bF.canCreate;have hct:=nO (.ref l)
 repeat (any_goals (first|assumption|wp_step))
 refine zbf (uf (.ref l) (E:=E) (Q₁:=fun obj s₁=>obj=.ref s.heap.objs.size/\s₁={s with heap:=s.heap.push bu}) ⟨rfl,rfl⟩) fun r s₁ hr=>?_
 cases r with
 |error e=>exact hr
 |ok fl =>
  cases fl with
  |ret obj =>
   obtain ⟨rfl,rfl⟩:=hr;have hS:(s.heap.push bu).get? s.heap.objs.size=some bu:=zak _ rfl;have hT:Shared.TypeIs {s with heap:=s.heap.push bu} (.ref s.heap.objs.size) "dict":=⟨_,hS,rfl⟩;have hli:=bF.init.lookup;have hbi:=bF.init.bind (.ref s.heap.objs.size)
   repeat (any_goals (first|assumption|wp_step))
   refine zbf (zbR (R:=wants (fun r s₂=>r=.none/\∃h' tk,s₂={s with heap:=h',toks:=tk}/\h'.DictOfH (tupleKind kn) s.heap.objs.size (C7 [] ps) /\
     (∀b o,s.heap.get? b=some o->h'.get? b=some o)) E) bF.init.plain lp (lx hT ?_)) fun r₂ s₂ hr2=>?_
   ·have hlS:l < s.heap.objs.size:=zah hl
    have hl1:(s.heap.push bu).get? l=some {cls:=.type "list",data:=.seq its c}:=zae _ hl;have hTl:Shared.TypeIs {s with heap:=s.heap.push bu} (.ref l) "list":=⟨_,hl1,rfl⟩;unfold Builtin.«dict.__init__» Builtin.Dict.selfAndRest Builtin.Dict.notOrdered;refine zaa (zaa ?_);rw [if_pos (by decide)];refine zaa (zbr hT ?_);rw [if_neg (by decide)];refine zad (zaa (show wpAny _ _ (pure s.heap.objs.size) _ _ _ from zad (zad ?_)));refine (show wpAny _ _ (Builtin.Dict.updateFrom "dict.__init__" s.heap.objs.size (.ref l) [] .none) _ _ _ from ?_);unfold Builtin.Dict.updateFrom;refine zaa (zbr hTl ?_);rw [if_pos (by decide)];refine zaa (wJ (show A.in1.in1.handled=none from hh) hl1 fun h2 tk2 kp2=>?_);rw [if_pos (show (none:Tg).isNone=true from rfl)];have hl2:=kp2 _ _ hl1;have hS2:=kp2 _ _ hS;have hl3:h2.IsList l its:=⟨_,hl2,rfl,c,rfl⟩;refine zaa (zbN (zaa (zcy hl3 ?_)));have hlI:l≠h2.objs.size:=zam (zah hl2);have hSI:s.heap.objs.size≠h2.objs.size:=zam (zah hS2)
    have hSf:s.heap.objs.size∉[h2.objs.size,l]:=by
     simp only [zaj,zaI,or_false,not_or];exact ⟨hSI,za0 hlS⟩
    have hD0:(h2.push {cls:=.type "list_iterator",data:=.fields #[.ref l,.int 0 0]}).DictOfH (tupleKind kn) s.heap.objs.size [] :=
     ⟨bu,#[],0,zae _ hS2,⟨rfl,rfl,rfl⟩,rfl,rfl,fun e he=>by simp at he,zcu⟩
    refine zad ⟨zbu bW _,vP (Walks.list (by simp [hh]) h2.objs.size l hlI its) s.heap.objs.size hSf (show _ < cLine by show A.units+1+1 < cLine;omega) ps hps s.heap (fun i v hv=>?_) (its.size - 0) 0 _ 0 [] (by omega) (zba _)
     ⟨⟨_,zak _ rfl,rfl,rfl⟩,hl3.push _⟩ (fun b o _ _ e=>zae _ (kp2 _ _ (zae _ e))) hD0 (fun x hx=>nomatch hx) (by simpa using hz) fun h' tk' hk' hD=>?_⟩
    ·obtain ⟨p,e1,e3,e2⟩:=hP i v hv
     refine ⟨p,e1,e3,fun h kp=>?_,fun a e=>?_⟩
     ·obtain ⟨o,items,n,g1,g2,g3,g4⟩:=e2
      refine ⟨o,items,n,kp _ _ (zam (zah g1)) ?_ g1,g2,g3,g4⟩;simp only [zaj,zaI,or_false];exact zam (zah (kp2 _ _ (zae _ g1)))
     obtain ⟨a',o',c',q1,q2,_,_⟩:=e3.ex;rw [q1] at e;cases e;refine ⟨zam (zah q2),?_⟩;simp only [zaj,zaI,or_false];exact zam (zah (kp2 _ _ (zae _ q2)))
    ·refine ⟨rfl,h',tk',rfl,by simpa using hD,fun b o e=>hk' b o (zam (zah e)) ?_ (zae _ (kp2 _ _ (zae _ e)))⟩
     simp only [zaj,zaI,or_false];exact zam (zah (kp2 _ _ (zae _ e)))
   ·cases r₂ with
    |error e=>exact hr2
    |ok fl₂ =>
     cases fl₂ with
     |ret r =>
      obtain ⟨rfl,h',tk,rfl,hS',hk'⟩:=hr2
      repeat (any_goals (first|assumption|wp_step))
      exact h _ _ hS' hk'
     |_=>exact hr2.elim
  |_=>exact hr.elim
end
end HS
namespace HW
open PyProof.Rows L2 HS
def vX (K:zac)(H:Hp):List V->List (List aI×V)->Prop:=Paired fun v kv=>∃t b,v=.ref t/\gU K H t [.ref b,kv.2]/\H b=some (.tup (kv.1.map kV))
def sN (kvs ps:List (List aI×V)):List (List aI×V):=ps.foldl (fun a p=>em a p.1 p.2) kvs
def Ar {Z:Type}[DecidableEq Z](kvs:List (Z×V))(k:Z)(v:V):(em kvs k v).length<=kvs.length+1:=by unfold em;split <;> simp
theorem sM:∀(ps kvs:List (List aI×V)),(sN kvs ps).length<=kvs.length+ps.length
 |[],_=>by simp [sN]
 |p::ps,kvs=>by
  have:=sM ps (em kvs p.1 p.2);have:=Ar kvs p.1 p.2
  show (sN (em kvs p.1 p.2) ps).length<=_
  rw [zaD];omega
theorem Ao {H:Hp}{ps:List (List aI×V)}{qs:List (List aI×Addr×Value)}(r:KT H ps qs):∀{kvs:List (List aI×V)} {xs:List (List aI×Addr×Value)},KT H kvs xs->KT H (sN kvs ps) (C7 xs qs):=by
 induction r with
 |nil=>intro kvs xs h;exact h
 | @cons a b _ _ h t ih =>
  intro kvs xs q;have:=KT.put q _ h.2.1 h.2.2;refine ih (show KT H (em kvs a.1 a.2) (storedH xs b.1 b.2.1 b.2.2) from ?_);rw [←h.1];exact this
theorem xP {X:Cx}{H:Hp}{s:Shared}(I:ay X pins Y H s){ws:List V}{kvs:List (List aI×V)}(p:vX X.K H ws kvs):∀{its:Te},aS ws its ->
  ∃ps:List (List aI×Addr×Value),KT H kvs ps/\ps.length=its.length/\∀(i:Nat) v,its[i]?=some v->∃p,ps[i]?=some p/\gq s.heap v (.ref p.2.1) p.2.2/\(tupleKind (bC X.prog X.w)).is s.heap p.1 p.2.1:=by
 induction p with
 |nil=>intro its v;cases v;exact ⟨[],.nil,rfl,fun i v e=>by simp at e⟩
 | @cons _ kv _ _ hp tp ih =>
  intro its v
  cases v with
  |cons hv tv =>
   obtain ⟨ps,a1,a2,a3⟩:=ih tv;obtain ⟨t,b,rfl,hs,hb⟩:=hp;cases hv;obtain ⟨js,r,⟨o,ho,hc,n,hd⟩,_⟩:=I.tuple hs
   cases r with
   |cons r1 rr =>
    cases rr with
    |cons r2 rr =>
     cases rr;cases r1
     rename_i x
     refine ⟨(kv.1,b,x)::ps,.cons ⟨rfl,hb,r2⟩ a1,by simp [a2],fun i v e=>?_⟩
     cases i with
     |zero=>simp at e;subst e;exact ⟨_,rfl,⟨t,o,n,rfl,ho,hc,hd⟩,lV I.hok hb⟩
     |succ i=>simpa using a3 i v (by simpa using e)
def Ai (K:zac):List V->Hp->VK->Prop:=fun vs H Q=>∃p ws kvs,vs=[.ref p]/\iZ K H p ws/\vX K H ws kvs/\ws.length<=sizeLine/\∀l,H l=none->Q (.ref l) (upd H l (.dT (sN [] kvs)))
def vS {X:Cx}(hu:X.A.units+64 < cLine)(hc:X.calm=true):fm X (.type "dict") (Ai X.K):=by
 intro pins s Y H vs us Q I r h;obtain ⟨p,ws,kvs,rfl,hH,hp,hws,q⟩:=h;obtain ⟨u,rfl,rx⟩:=iQ r;cases rx;obtain ⟨its,n,rv,e⟩:=vz I hH;obtain ⟨ps,a1,a2,a3⟩:=xP I hp rv;have hk:kvs.length=its.length:=by have:=Paired.length a1;omega
 have hi:=rv.length;refine yD (kn:=bC X.prog X.w) (ps:=ps) (by omega) (I.ok.hd hc) e (by simpa using a2) (by simp;omega) (fun i v hv=>a3 i v (by simpa using hv)) fun h' tk hD kp=>?_;have hz:(sN [] kvs).length<=sizeLine:=by have:=sM kvs [];simp at this;omega
 obtain ⟨o,es,ep,g1,g2,g3,g4,_,g5⟩:=hD;have fr:=I.hok.fresh (zal s.heap.objs.size);refine ⟨.ref s.heap.objs.size,_,I.laid (t':=tk) kp (zal _) (show bq X.prog X.w _ h' _ (.dT _) from ⟨hz,beq_eq_false_iff_ne.mpr (za0 I.big),_,(Ao a1 .nil).keeps fun b ys eb=>?_,o,es,ep,g1,g2,g3,g4,g5⟩),rfl,q _ fr⟩;rw [av (fun z=>by rw [z,fr] at eb;cases eb)];exact eb
def jh:List D->Option (List (Th×D))
 |[]=>some []
 |d::r=>match d with|.tup [.key k,x]=>(jh r).map ((k,x) :: ·)|_=>none
def jF (kvs ps:List (Th×D)):List (Th×D):=ps.foldl (fun a p=>Ap a p.1 p.2) kvs
def qd:List R->ac->Option (R×ac)
 |[x],U=>(zM x U).bind fun ds=>(jh ds).bind fun kvs=>if ds.length < 1000 then some (.p U.length,U++[.dt (jF [] kvs)]) else none
 |_,_=>none
theorem oz {K:zac}{H:Hp}:∀{ds:List D} {ws:List V} {kvs:List (Th×D)},jh ds=some kvs->RelDs K H ds ws->∃qs,vX K H ws qs/\∀{k0 e0},jT K H k0 e0->jT K H (jF k0 kvs) (sN e0 qs)
 |[],ws,kvs,e,r=>by cases e;have r:ws=[]:=r;subst r;exact ⟨[],.nil,fun h=>h⟩
 |d::ds,ws,kvs,e,r=>by
  obtain ⟨v,ws',rfl,r1,r2⟩:=r;unfold jh at e;split at e
  ·rename_i k x;obtain ⟨ks,e1,rfl⟩:=zaK.mp e;obtain ⟨qs,p1,p2⟩:=oz e1 r2;simp only [ak] at r1;obtain ⟨a,vs,rfl,hq,hr⟩:=r1;obtain ⟨v1,t1,rfl,h1,hr⟩:=hr;obtain ⟨v2,t2,rfl,h2,hr⟩:=hr;have hr:t2=[]:=hr;subst hr;simp only [ak] at h1;obtain ⟨b,rfl,hb⟩:=h1;exact ⟨(kk k,v2)::qs,.cons ⟨a,b,rfl,hq,by rw [yd];exact hb⟩ p1,fun h=>p2 (h.put h2)⟩
  ·cases e
def DR {K:zac}:vZ K qd (Ai K):=by
 intro m H U xs d U' vs Q s r e k;unfold qd at e;split at e
 ·obtain ⟨ds,e0,e⟩:=zab.mp e;obtain ⟨kvs,e1,e⟩:=zab.mp e;split at e
  ·rename_i hlt
   cases e;obtain ⟨v,rfl,r1⟩:=lJ r;obtain ⟨a,ws,rfl,ea,ra⟩:=qD s e0 r1;obtain ⟨qs,p1,p2⟩:=oz e1 ra;refine ⟨a,ws,qs,rfl,ea,p1,by rw [←ra.length,zbh];omega,fun l hl=>?_⟩;have x:dz m H (m++[l]) (upd H l (.dT (sN [] qs))):=.newH hl;have hk:=p2 (k0:=[]) (e0:=[]) ⟨rfl,rfl⟩;refine k _ _ (m++[l]) x (s.newH hl ⟨_,bn,hk.1,RelDs.tf x.tf _ _ hk.2⟩) ⟨l,rfl,?_⟩;rw [←s.len];simp
  ·cases e
 ·cases e
def yy (fo fk fx:FE):FE:=fun O U=>(fo O U).bind fun o=>match o.1 with
 |.p n=>if (Ea o.2 n).isSome=true then (fk O o.2).bind fun k=>match k.1 with
  |.v (.key ks)=>(fx O k.2).bind fun x=>match x.1 with
   |.v d=>(Ea x.2 n).bind fun kvs=>if kvs.length < 1000 then some (match mP kvs ks with|some r=>(.v r,x.2)|none=>(.v d,x.2.set n (.dt (kvs++[(ks,d)])))) else none
   |_=>none
  |_=>none
  else none
 |_=>none
def GM {K:zac}{H:Hp}{Q:VK}{fo fk fx}(h:aq K (yy fo fk fx) Y H Q):zw (aq K fo) (aq K fk) (aq K fx) Y H Q:=by
 obtain ⟨O,U,m,d,U',hl,hs,e,kc⟩:=h;obtain ⟨⟨o,U1⟩,e1,e⟩:=zab.mp e;split at e
 ·rename_i n hn;simp only at hn;subst hn;split at e
  ·rename_i h0;obtain ⟨⟨k,U2⟩,e2,e⟩:=zab.mp e;split at e
   ·rename_i ks hks;simp only at hks;subst hks;obtain ⟨⟨x,U3⟩,e3,e⟩:=zab.mp e;split at e
    ·rename_i dx hx;simp only at hx;subst hx;obtain ⟨kvs,e4,e⟩:=zab.mp e;split at e
     ·rename_i hlt;refine ⟨O,U,m,_,U1,hl,hs,e1,fun vo H1 m1 x1 s1 r1=>?_⟩;obtain ⟨kvs0,e0⟩:=zcp.mp h0;obtain ⟨a,rfl,ha⟩:=r1;obtain ⟨es,hR,hK⟩:=FY s1 ha e0;refine ⟨a,rfl,.inr ⟨es,.inl hR⟩,?_⟩;refine ⟨O,U1,m1,_,U2,hl.ext x1,s1,e2,fun vk H2 m2 x2 s2 r2=>?_⟩;refine ⟨O,U2,m2,_,U3,hl.ext (x1.trans x2),s2,e3,fun vx H3 m3 x3 s3 r3=>?_⟩;have x13:=(x1.trans x2).trans x3;have ha3:m3[n]?=some a:=by obtain ⟨a',ea',q⟩:=ap.ext (x2.trans x3) (show ap K m1 H1 (.p n) (.ref a) from ⟨a,rfl,ha⟩);cases ea';exact q
      obtain ⟨es',hR',hK'⟩:=FY s3 ha3 e4;have r2':=r2.ext x3;simp only [ap,ak] at r2';obtain ⟨b,rfl,hb⟩:=r2';refine ⟨es',kk ks,b,hR',rfl,by rw [yd];exact hb,?_,fun v hv=>?_,fun hv=>?_⟩
      ·have:=congrArg List.length hK'.1;simp at this
       rw [this];exact zau hlt (by rw [zbh];omega)
      ·rcases jT.val ks hK' with ⟨n1,n2⟩|⟨dd,vv,n1,n2,n3⟩
       ·rw [n2] at hv;cases hv
       ·rw [n2] at hv;cases hv;simp only [n1] at e;cases e;exact kc _ H3 m3 x13 s3 n3
      ·rcases jT.val ks hK' with ⟨n1,n2⟩|⟨dd,vv,n1,n2,n3⟩
       ·simp only [n1] at e
        cases e;have y:dz m3 H3 m3 (upd H3 a (.dT (es'++[(kk ks,vx)]))):=.put (zaO ha3) hR' (by simp) (by simp);have kr:=jT.snoc (k:=ks) (ak.tf y.tf _ _ r3) (hK'.tf y.tf);exact kc _ _ m3 (x13.trans y) (s3.put ha3 hR' (by simp) (by simp) ⟨_,cM,kr.1,kr.2⟩) (ak.tf y.tf _ _ r3)
       ·rw [n2] at hv;cases hv
     ·cases e
    ·cases e
   ·cases e
  ·cases e
 ·cases e
end HW
namespace HS
open PyProof.Rows
def IW (t:SetTable):Nat->Probe->Probe
 |0,p=>p
 |n+1,p=>IW t n (t.advance p)
def fr (m i p:Nat):Probe:={j:=i,more:=runEnd m i - i,i:=i,perturb:=p,dummy:=none}
section
variable {prog:Program}{w:World}
abbrev PJ (prog:Program)(w:World)(h:Heap)(ks:Th)(a:Addr):Prop:=IsTupleKey (intKind prog w) h ks a
theorem items_int {prog:Program}{ks:Th}{vs:Te}(h:ItemsAre (intKind prog w) ks vs):∀v∈vs,∃n t,v=.int n t:=by
 induction h with
 |nil=>intro v hv;simp at hv
 | @cons k v' ks vs h1 _ ih =>
  intro v hv;rcases zaj.mp hv with rfl|hv
  ·cases v with
   |int n t=>exact ⟨n,t,rfl⟩
   |_=>simp [intKind,Value.isInt] at h1
  ·exact ih v hv
structure OF (prog:Program)(w:World)(led:Bool)(h:Heap)(es:Array (Int×Value))(t:SetTable)(vs:Te):Prop where
 W:m6 led es t
 ms:t.mask∈dX
 dm:t.dummies = #[]
 pl:t.plain=true
 lo:t.place.size * 5 < t.mask * 3
 pm:(es.toList.map (·.2)).Perm vs
 el:∀e∈es.toList,∃b ls,e.2=.ref b/\PJ prog w h ls b
end
end HS
namespace HW
open PyProof.Rows L2 HS HT2
end HW
namespace HK
open PyProof.Rows L2 HS HT2
end HK
namespace HW
open PyProof.Rows L2 HS HT2 HK
def Ce (f:FE):FE:=fun O U=>(f O U).bind fun a=>some (nK a.1,a.2)
def Ks {K:zac}{H:Hp}{Q:VK}{f}(h:aq K (Ce f) Y H Q):aq K f Y H Q:=by obtain ⟨O,U,m,d,U',hl,hs,e,k⟩:=h;obtain ⟨⟨x,U1⟩,e1,e⟩:=zab.mp e;cases e;exact ⟨O,U,m,_,_,hl,hs,e1,fun v H' m' x1 s1 r1=>k v H' m' x1 s1 r1.unk⟩
end HW
namespace HS
open PyProof.Rows
def L7 (t:SetTable)(h:Int)(j:Nat):Prop:=∃n,(IW t n (t.probeStart h)).j=j/\∀k < n,t.slot (IW t k (t.probeStart h)).j≠.empty
def OO (es:Array (Int×Value))(t:SetTable):Prop:=∀(i:Nat) (e:Int×Value) (j:Nat),es[i]?=some e->t.place[i]?=some j->L7 t e.1 j
section
variable {prog:Program}{w:World}
structure P9 (prog:Program)(w:World)(TH:List Int->Int)(led:Bool)(h:Heap)(es:Array (Int×Value))(t:SetTable)(vs:Te):Prop where
 T:OF prog w led h es t vs
 ch:OO es t
 hh:∀e∈es.toList,∃b ls,e.2=.ref b/\PJ prog w h ls b/\e.1=TH ls
end
end HS
namespace HW
open PyProof.Rows L2 HS HT2
def P7 (acc:Ta)(k:Th):Ta:=if k∈acc then acc else acc++[k]
def dd (L:Ta):Ta:=L.foldl P7 []
end HW
namespace HW
open PyProof.Rows L2
open Classical in
def P3 (cl:List (Str×Addr))(H:Hp):Hp:=fun b=>if (∃y,cl.lookup y=some b) then none else H b
structure Qa (P:Addr)(q:Str)(H H':Hp):Prop where
 keep:∀b o,b≠P->H b=some o->H' b=some o
 tab:∃ps,H' P=some (.tbl ps)/\lz H' q ps
structure OM (K:zac)(x:Str)(st:Stmt)(f:Addr)(fd:FuncData)(c:Addr):Prop where
 ex:∃(oc:Value) (od:Option Addr) (kV doc pm:Value) (an:Option Addr) (ct:Value) (osl:Array (Tg)),
  fd=PySem.W.fnOf x x (fM st) (bm st) (ai st) .none kV doc pm an (.ref c) ct/\K.lookup f=some ⟨oc,od,.func fd,osl⟩/\PySem.W.codeIn K (.ref c) x=true
 kp:PySem.W.keepIn K (.ref f)=true
section
variable {K:zac}{m:Tf}{H:Hp}
theorem aQ.length:∀{ds:List R} {vs:List V},aQ K m H ds vs->ds.length=vs.length
 |[],_,h=>by cases (show _=[] from h);rfl
 |_::_,_,⟨v,r,e,h1,h2⟩=>by subst e;simp [aQ.length h2]
theorem aQ.get:∀{ds:List R} {vs:List V} {i:Nat} {d:R},aQ K m H ds vs->ds[i]?=some d->∃v,vs[i]?=some v/\ap K m H d v
 |[],_,_,_,_,e=>by simp at e
 |_::_,_,0,_,⟨v,r,e,h1,h2⟩,q=>by subst e;simp at q;subst q;exact ⟨v,rfl,h1⟩
 |_::_,_,i+1,_,⟨v,r,e,h1,h2⟩,q=>by subst e;simp at q;obtain ⟨w,a,b⟩:=aQ.get h2 q;exact ⟨w,by simpa using a,b⟩
end
abbrev MW:=List R->ac->Option (R×ac)
def tW:nF->Option (R×ac)
 |.rt r U=>some (r,U)
 |.nx _ U=>some (.v .non,U)
 |_=>none
def mV (k:Nat)(b:FS):MW:=fun rs U=>(b (rs.map some++List.replicate (k - rs.length) none) U).bind tW
def Jh (K:zac)(n:Nat)(f:MW):Sp:=fun vs H Q _=>∃U m rs d U',rs.length=n/\aJ K m H U/\aQ K m H rs vs/\f rs U=some (d,U') /\
 ∀v H' m',dz m H m' H'->aJ K m' H' U'->ap K m' H' d v->Q v H'
def zE {K:zac}{m:Tf}{H:Hp}{N:Tn}{rs:List R}{vs:List V}(r:aQ K m H rs vs):dD K m H (rs.map some++List.replicate (N.length - rs.length) none) (L2.eM N vs):=by
 have hl:=r.length;refine ⟨by simp [L2.eM,hl],fun i d e=>?_⟩;by_cases hi:i < rs.length
 ·rw [zai (by simpa using hi),zaB] at e
  cases q:rs[i]? with
  |none=>rw [q] at e;cases e
  |some x =>
   rw [q] at e;cases e;obtain ⟨v,q1,q2⟩:=r.get q;refine ⟨v,?_,q2⟩;unfold L2.eM;rw [zai (by simp;omega),zaB,q1];rfl
 ·rw [zaJ (by simpa using hi),zbY] at e;split at e <;> cases e
theorem nG.okW {P:Program}{w:World}{K:zac}{mg:Td}{base:Heap}{x qual:Str}{st:Stmt}{f:Addr}{fd:FuncData}{N ps:Tn}{k:Nat}{b:FS}(F:nG K x qual st f fd)(S:ax N ps (ai st))
  (hbody:∀(cdv:Value) (A:Around) (outer:List Env) (s:Shared) (H:Hp) (E:XK),bG k (A.deeper (envOfC qual (ai st) s.heap.objs.size f cdv))->m8 (iX jN P w K mg base N qual (ai st) f cdv A outer s H E).nox (bm st) (eI K b)) :
  ca P w K mg base jN (k+1) f fd ps (Jh K ps.length (mV N.length b)):=by
 have G:ca P w K mg base jN (k+1) f fd ps (fun vs H Q _=>vs.length=ps.length/\eI K b {nx:=fun _ H'=>Q .non H',rt:=Q} (L2.eM N vs) H) :=
  L2.nG.ok F S (fun vs H Q E h=>h.1) fun cdv A outer s H vs Q E hr h=>⟨_,hbody cdv A outer s H E hr,h.2⟩
 refine G.imp fun vs H Q E hh=>?_;obtain ⟨U,m,rs,d,U',hn,hs,r,e,k⟩:=hh;refine ⟨by rw [←r.length];exact hn,?_⟩;obtain ⟨o,e1,e⟩:=zab.mp e;refine ⟨_,U,m,o,zE r,hs,e1,?_⟩
 cases o with
 |nx O U1=>cases e;exact fun Y H' m' x1 s1 _=>k _ H' m' x1 s1 (by simp only [ap,ak])
 |rt d U1=>cases e;exact fun v H' m' x1 s1 r1=>k _ H' m' x1 s1 r1
 |bk O U1=>cases e
 |ct O U1=>cases e
def gf (f:MW)(n:Nat)(fa:FA):FE:=fun O U=>(fa O U).bind fun a=>if a.1.length=n then f a.1 a.2 else none
structure nc (K:zac)(mg:Td)(c:Str)(C:Addr):Prop where
 ns:PySem.W.nsIn K mainGlobals c=some (some (.ref C))
 mg:mg c=some (.ref C)
 cl:EB K C
def va (c:Str)(U:ac)(x:R):Option (List (Str×R)):=match x with
 |.p n=>(match U[n]? with|some (.ob c' fs)=>if c'=c then some fs else none|_=>none)
 |_=>none
def wA (f:Str)(v:R):List (Str×R)->List (Str×R)
 |[]=>[(f,v)]
 |(g,x)::r=>if g=f then (g,v)::r else (g,x)::wA f v r
def FR (K:zac)(m:Tf)(H:Hp)(fs:List (Str×R))(es:List (Str×V)):Prop:=es.map (·.1)=fs.map (·.1)/\aQ K m H (fs.map (·.2)) (es.map (·.2))
section
variable {K:zac}{m m':Tf}{H H':Hp}
def FR.cons {k k':Str}{d:R}{v:V}{fs:List (Str×R)}{es:List (Str×V)}:FR K m H ((k,d)::fs) ((k',v)::es) ↔ k'=k/\ap K m H d v/\FR K m H fs es:=by
 constructor
 ·rintro ⟨h1,h2⟩;simp only [zaf,List.cons.injEq] at h1;obtain ⟨w,r,e,h3,h4⟩:=h2;simp only [zaf,List.cons.injEq] at e;obtain ⟨rfl,rfl⟩:=e;exact ⟨h1.1,h3,h1.2,h4⟩
 ·rintro ⟨rfl,h1,h2,h3⟩;exact ⟨by simp [h2],⟨_,_,rfl,h1,h3⟩⟩
theorem FR.look:∀{fs:List (Str×R)} {es:List (Str×V)} (f:Str),FR K m H fs es->(fs.lookup f=none/\es.lookup f=none)\/∃d v,fs.lookup f=some d/\es.lookup f=some v/\ap K m H d v
 |[],es,f,h=>by
  have:es=[]:=by simpa using h.1
  subst this;exact .inl ⟨rfl,rfl⟩
 |(a,d)::fs,[],f,h=>by have:=h.1;simp at this
 |(a,d)::fs,(b,v)::es,f,h=>by
  obtain ⟨rfl,h1,h2⟩:=FR.cons.mp h;simp only [za5]
  cases q:f == b with
  |true=>exact .inr ⟨d,v,rfl,rfl,h1⟩
  |false=>exact FR.look f h2
theorem FR.put {f:Str}{d:R}{v:V}(rd:ap K m H d v):∀{fs:List (Str×R)} {es:List (Str×V)},FR K m H fs es->FR K m H (wA f d fs) (iu f v es)
 |[],es,h=>by
  have:es=[]:=by simpa using h.1
  subst this;exact FR.cons.mpr ⟨rfl,rd,rfl,rfl⟩
 |(a,x)::fs,[],h=>by have:=h.1;simp at this
 |(a,x)::fs,(b,y)::es,h=>by
  obtain ⟨rfl,h1,h2⟩:=FR.cons.mp h;unfold wA iu;by_cases q:b=f
  ·rw [if_pos q,if_pos q];exact FR.cons.mpr ⟨rfl,rd,h2⟩
  ·rw [if_neg q,if_neg q];exact FR.cons.mpr ⟨rfl,h1,FR.put rd h2⟩
def FR.ext (x:dz m H m' H'){fs:List (Str×R)}{es:List (Str×V)}(h:FR K m H fs es):FR K m' H' fs es:=⟨h.1,aQ.ext x h.2⟩
def FR.len {fs:List (Str×R)}{es:List (Str×V)}(h:FR K m H fs es):es.length=fs.length:=by simpa using congrArg List.length h.1
def AM {mg:Td}{c:Str}{C:Addr}{U:ac}{x:R}{v:V}{fs:List (Str×R)}(N:nc K mg c C)(s:aJ K m H U)(r:ap K m H x v)(e:va c U x=some fs) :
  ∃n a dx es,x=.p n/\m[n]?=some a/\v=.ref a/\H a=some (.ins C dx es)/\FR K m H fs es:=by
 unfold va at e;split at e
 ·rename_i n
  split at e
  ·rename_i c' gs q
   split at e
   ·rename_i hc
    cases e;subst hc;obtain ⟨a,rfl,ha⟩:=r;obtain ⟨C',dx,es,h1,h2,h3,h4⟩:=s.cell _ _ a q ha;rw [N.ns] at h1;cases h1;exact ⟨n,a,dx,es,rfl,ha,rfl,h2,h3,h4⟩
   ·cases e
  ·cases e
 ·cases e
end
def eD (c f:Str)(fo:FE):FE:=fun O U=>(fo O U).bind fun o=>(va c o.2 o.1).bind fun fs=>(fs.lookup f).bind fun d=>some (d,o.2)
def kU (c f:Str)(fo fv:FE):FS:=fun O U=>(fv O U).bind fun v=>(fo O v.2).bind fun o=>(va c o.2 o.1).bind fun fs=>if fs.length < 1000 then (match o.1 with|.p n=>some (.nx O (o.2.set n (.ob c (wA f v.1 fs))))|_=>none) else none
def jp (c nm:Str)(f:MW)(n:Nat)(fo:FE)(fa:FA):FE:=fun O U=>(fo O U).bind fun o=>(va c o.2 o.1).bind fun fs=>if (fs.lookup nm).isNone=true then (fa O o.2).bind fun a=>if a.1.length+1=n then f (o.1::a.1) a.2 else none else none
section
variable {K:zac}{Y:L2.St}{H:Hp}{Q:VK}{mg:Td}{c:Str}{C:Addr}
def zZ {f:MW}{n:Nat}{fa}{E:XK}(h:aq K (gf f n fa) Y H Q):ss (Jh K n f) [] E (fY K fa) Y H Q:=by
 obtain ⟨O,U,m,d,U',hl,hs,e,k⟩:=h;obtain ⟨⟨xs,U1⟩,e1,e⟩:=zab.mp e;split at e
 ·rename_i hn;refine ⟨O,U,m,xs,U1,hl,hs,e1,fun vs H1 m1 x1 s1 r1=>?_⟩;exact ⟨U1,m1,xs,d,U',hn,s1,by rw [za6];exact r1,e,fun v H' m' x2 s2 r2=>k v H' m' (x1.trans x2) s2 r2⟩
 ·cases e
def G5 {f:Str}{fo}(N:nc K mg c C)(hf:eE K C f)(h:aq K (eD c f fo) Y H Q):J9 K (aq K fo) f Y H Q:=by
 obtain ⟨O,U,m,d,U',hl,hs,e,k⟩:=h;obtain ⟨⟨o,U1⟩,e1,e⟩:=zab.mp e;obtain ⟨fs,e2,e⟩:=zab.mp e;obtain ⟨d',e3,e⟩:=zab.mp e;cases e;refine ⟨O,U,m,o,U1,hl,hs,e1,fun v H1 m1 x1 s1 r1=>?_⟩;obtain ⟨n,a,dx,es,rfl,ha,rfl,ea,fr⟩:=AM N s1 r1 e2;rcases fr.look f with ⟨z,_⟩|⟨d0,v0,z1,z2,z3⟩
 ·rw [z] at e3;cases e3
 ·rw [z1] at e3;cases e3;exact ⟨a,C,dx,es,v0,rfl,ea,N.cl,hf,z2,k _ H1 m1 x1 s1 z3⟩
def CM {f:Str}{fo fv}{D:d6}(N:nc K mg c C)(hf:eE K C f)(h:eI K (kU c f fo fv) D Y H):Kl K (aq K fo) (aq K fv) f D Y H:=by
 obtain ⟨O,U,m,o,hl,hs,e,k⟩:=h;obtain ⟨⟨v,U1⟩,e1,e⟩:=zab.mp e;obtain ⟨⟨ob,U2⟩,e2,e⟩:=zab.mp e;obtain ⟨fs,e3,e⟩:=zab.mp e;split at e
 ·rename_i hlt;refine ⟨O,U,m,v,U1,hl,hs,e1,fun y H1 m1 x1 s1 r1=>?_⟩;refine ⟨O,U1,m1,ob,U2,hl.ext x1,s1,e2,fun vo H2 m2 x2 s2 r2=>?_⟩;obtain ⟨n,a,dx,es,rfl,ha,rfl,ea,fr⟩:=AM N s2 r2 e3;dsimp only at e;cases e;have x:dz m2 H2 m2 (upd H2 a (.ins C dx (iu f y es))):=.put (zaO ha) ea (by simp) (by simp);refine ⟨a,C,dx,es,rfl,ea,N.cl,hf,by rw [fr.len];exact hlt,?_⟩;have x3:=(x1.trans x2).trans x;have fr2:=(FR.put (f:=f) (r1.ext x2) fr).ext x;exact k _ _ m2 x3 (s2.put ha ea (by simp) (by simp) ⟨C,dx,_,N.ns,cM,fr2.1,fr2.2⟩) (hl.ext x3)
 ·cases e
def CP {nm:Str}{f:MW}{n:Nat}{fo fa}{E:XK}(N:nc K mg c C)(h:aq K (jp c nm f n fo fa) Y H Q):Fc C nm (Jh K n f) [] E (aq K fo) (fY K fa) Y H Q:=by
 obtain ⟨O,U,m,d,U',hl,hs,e,k⟩:=h;obtain ⟨⟨o,U1⟩,e1,e⟩:=zab.mp e;obtain ⟨fs,e2,e⟩:=zab.mp e;split at e
 ·rename_i hno;obtain ⟨⟨xs,U2⟩,e3,e⟩:=zab.mp e;split at e
  ·rename_i hn;refine ⟨O,U,m,o,U1,hl,hs,e1,fun v H1 m1 x1 s1 r1=>?_⟩;obtain ⟨i,a,dx,es,rfl,ha,rfl,ea,fr⟩:=AM N s1 r1 e2;have hlook:es.lookup nm=none:=by
    rcases fr.look nm with ⟨_,z⟩|⟨d0,v0,z1,z2,z3⟩
    ·exact z
    ·rw [z1] at hno;cases hno
   refine ⟨a,dx,es,rfl,ea,hlook,?_⟩;refine ⟨O,U1,m1,xs,U2,hl.ext x1,s1,e3,fun vs H2 m2 x2 s2 r2=>?_⟩;exact ⟨U2,m2,.p i::xs,d,U',by simpa using hn,s2,⟨_,_,rfl,r1.ext x2,by rw [za6];exact r2⟩,e,fun v H' m' x3 s3 r3=>k v H' m' ((x1.trans x2).trans x3) s3 r3⟩
  ·cases e
 ·cases e
end
open HS
def l8 (c:Str)(f:MW)(n:Nat)(fa:FA):FE:=fun O U=>(fa O U).bind fun a=>if a.1.length+1=n then (f (.p a.2.length::a.1) (a.2++[.ob c []])).bind fun r=>match r.1 with|.v .non=>some (.p a.2.length,r.2)|_=>none else none
def zX {K:zac}{mg:Td}{c:Str}{C:Addr}{H:Hp}{Q:VK}{f:MW}{n:Nat}{fa:FA}{E:XK}(N:nc K mg c C)(h:aq K (l8 c f n fa) Y H Q):Fd C (Jh K n f) [] E (fY K fa) Y H Q:=by
 obtain ⟨O,U,m,d,U',hl,hs,e,k⟩:=h;obtain ⟨⟨xs,U0⟩,e0,e⟩:=zab.mp e;dsimp only at e;split at e
 ·rename_i hn;obtain ⟨⟨r,U1⟩,e1,e⟩:=zab.mp e;dsimp only at e;split at e
  ·cases e;refine ⟨O,U,m,xs,U0,hl,hs,e0,fun vs H1 m1 x1 s1 r1=>?_⟩;intro x dx hx hdx hne;have y1:dz m1 H1 m1 (upd H1 dx (.own x)):=.new hdx;have t1:=s1.same (c8 hdx (o:=HO.own x));have hx1:upd H1 dx (.own x) x=none:=(by unfold upd;rw [if_neg (Ne.symm hne)];exact hx);have y2:dz m1 (upd H1 dx (.own x)) (m1++[x]) (upd (upd H1 dx (.own x)) x (.ins C dx [])):=.newH hx1;have s2:=t1.newH (c:=.ob c []) hx1 ⟨C,dx,[],N.ns,cM,rfl,rfl⟩;have hp:(m1++[x])[U0.length]?=some x:=(by rw [←s1.len];simp);refine ⟨_,_,.p U0.length::xs,_,_,by simpa using hn,s2,⟨_,_,rfl,⟨x,rfl,hp⟩,by rw [za6];exact r1.ext (y1.trans y2)⟩,e1,fun v H' m' x3 s3 r3=>?_⟩;refine ⟨by simpa only [ap,ak] using r3,k _ H' m' ((x1.trans (y1.trans y2)).trans x3) s3 ?_⟩;exact ap.ext x3 (show ap K (m1++[x]) _ (.p U0.length) (.ref x) from ⟨x,rfl,hp⟩)
  ·cases e
 ·cases e
def lM:List D->Option (List (aI×D))
 |[]=>some []
 |.tup [.str i,d]::r=>(lM r).map ((.inr (some i),d) :: ·)
 |_=>none
theorem oA {K:zac}{H:Hp}:∀{ds:List D} {ws:List V} {kvs:List (aI×D)},lM ds=some kvs->RelDs K H ds ws->∃qs,rY K H ws qs/\KD K H kvs qs
 |[],ws,kvs,e,r=>by cases e;have r:ws=[]:=r;subst r;exact ⟨[],.nil,.nil⟩
 |d::ds,ws,kvs,e,r=>by
  obtain ⟨v,ws',rfl,r1,r2⟩:=r;unfold lM at e;split at e
  ·cases e;rename_i h;cases h
  ·rename_i i x r' h
   cases h;obtain ⟨ks,e1,rfl⟩:=zaK.mp e;obtain ⟨qs,p1,p2⟩:=oA e1 r2;simp only [ak] at r1;obtain ⟨a,vs,rfl,hq,hr⟩:=r1;obtain ⟨v1,t1,rfl,h1,hr⟩:=hr;obtain ⟨v2,t2,rfl,h2,hr⟩:=hr;have hr:t2=[]:=hr;subst hr;have h1:v1=.str i:=(by simpa only [ak] using h1);subst h1;exact ⟨(.inr (some i),v2)::qs,.cons ⟨a,rfl,hq⟩ p1,KD.cons.mpr ⟨rfl,h2,p2⟩⟩
  ·cases e
def mJ:List R->ac->Option (R×ac)
 |[.p n],U=>match U[n]? with
  |some (.lst ds)=>(lM ds).bind fun kvs=>some (.p U.length,U++[.dct (aR [] kvs)])
  |_=>none
 |_,_=>none
def DS {K:zac}:vZ K mJ (Aj K):=by
 intro m H U xs d U' vs Q s r e k;unfold mJ at e;split at e
 ·rename_i n;split at e
  ·rename_i ds hn;obtain ⟨kvs,e1,e⟩:=zab.mp e;cases e;obtain ⟨v,rfl,r1⟩:=lJ r;obtain ⟨a,rfl,ha⟩:=r1;obtain ⟨ws,ea,ra⟩:=s.cell _ _ a hn ha;obtain ⟨qs,p1,p2⟩:=oA e1 ra;refine ⟨a,ws,qs,rfl,ea,p1,fun l hl=>?_⟩;have x:dz m H (m++[l]) (upd H l (.dK (pB [] qs))):=.newH hl;have hk:=KD.putAll (K:=K) (H:=H) .nil p2;refine k _ _ (m++[l]) x (s.newH hl ⟨_,bn,hk.1,RelDs.tf x.tf _ _ hk.2⟩) ⟨l,rfl,?_⟩;rw [←s.len];simp
  ·cases e
 ·cases e
end HW
namespace HW
variable {K:zac}
open PyProof.Rows L2
abbrev lB (e:Expr)(es:Tj)(X:Cx):Prop:=starEach (e::es) X.env=(false,eval e X.env)::starEach es X.env
def oK:Expr->Bool
 |.Starred ..=>true
 |_=>false
def ar {es:Tj}{env:Env}(h:oK e=false):starEach (e::es) env=(false,eval e env)::starEach es env:=by cases e <;> first|rfl|(simp [oK] at h)
theorem aA {env:Env}{pos:Pos}:∀{es:Tj},es.any oK=false->(backTo pos (starEach es env)).any (·.1)=false
 |[],_=>rfl
 |e::es,h=>by rw [zbz,Bool.or_eq_false_iff] at h;rw [ar h.1];have ih:=aA (env:=env) (pos:=pos) h.2;unfold backTo at ih ⊢;rw [zaf,zbz,ih];rfl
def ut {es:Tj}{env:Env}(h:oK e=false):(assignEach (e::es) env).map (·.2)=assign e env::(assignEach es env).map (·.2):=by cases e <;> first|rfl|(simp [oK] at h)
theorem jQ {prog:Program}{w:World}{A:Around}{E:Tb}{s:Shared}{t sl:Addr}{items:Ti}{vl vu:Value}{lo hi:Option Int}{Q:Tb}(ht:IsTup s.heap t items)(hs:s.heap.IsSliceOf sl vl vu .none)(pl:IsPart vl lo)(pu:IsPart vu hi)
  (hw:HT.cW items.size 0 lo=0/\HT.cW items.size items.size hi=items.size)
  (h:Q (.ref t) s):wpAny (model prog w) A (getItem (.ref t) (.ref sl)) Q E s:=by
 obtain ⟨os,hos,hcs,hds⟩:=id hs;have hTs:s.TypeIs (.ref sl) "slice":=⟨os,hos,hcs⟩;unfold getItem
 try with_reducible refine zaH ?_
 first|refine zaa (zad ?_)|skip
 refine zaa (wpAny_sequenceKey ht.typeIs (by decide) ?_)
 refine zaa (zaX (name:=Str.ofString "__getitem__") ht.typeIs PyProof.Rows.slot_tuple_getitem
  (zaG PyProof.Rows.slot_tuple_getitem ht.typeIs entry_tuple_getitem ?_ (args_tuple_getitem _ _)))
 show wpAny _ _ (Builtin.Tuple.tupleItemsOf (.ref t) >>= _) _ _ s
 refine zaa (tupleItemsOf_ ht ?_);refine zaa (zbr hTs ?_);rw [if_pos (by decide)];refine zaa (HT.gY hs pl pu ?_)
 have hyes:((((HT.cW items.size 0 lo:Nat):Int) == 0 && (1:Int) == 1 && (HT.cW items.size items.size hi - HT.cW items.size 0 lo) == items.size)=true):=by
  rw [hw.1,hw.2];simp
 show wpAny _ _ (if (((HT.cW items.size 0 lo:Nat):Int) == 0 && (1:Int) == 1 && (HT.cW items.size items.size hi - HT.cW items.size 0 lo) == items.size)=true then _ else _) _ _ s
 rw [if_pos hyes];refine zaa (m:=Builtin.Tuple.tupleIsExact (.ref t)) (zaa (zbr ht.typeIs (zad ?_)));rw [if_pos (by decide)];refine zaa (zbN ?_)
 first
  |exact zad ⟨_,rfl,zad h⟩
  |exact zaa (zad (zad ⟨_,rfl,zad h⟩))
  |exact zaa (zad ⟨_,rfl,zad h⟩)
def lu (xs:List D)(lo hi:Option Int):List D:=(xs.drop (HT.cW xs.length 0 lo)).take (HT.cW xs.length xs.length hi - HT.cW xs.length 0 lo)
def Kx (K:zac):V->Option Int->Option Int->Hp->VK->Prop:=fun x lo hi H Q=>Kw K x lo hi H Q\/Ku K x lo hi H Q \/
 ∃a xs,x=.ref a/\gU K H a xs/\(HT.cW xs.length 0 lo=0/\HT.cW xs.length xs.length hi=xs.length)/\Q (.ref a) H
def zG {X:Cx}:yU X (fun x lo hi H Q=>∃a xs,x=.ref a/\gU X.K H a xs/\(HT.cW xs.length 0 lo=0/\HT.cW xs.length xs.length hi=xs.length)/\Q (.ref a) H):=by
 intro pins s Y H x v vl vu lo hi sl Q I rx hs pl pu h;obtain ⟨a,xs,rfl,hx,hw,q⟩:=h;cases rx;obtain ⟨its,r,ht,hz⟩:=I.tuple hx;have hlen:its.toArray.size=xs.length:=by rw [zaq];exact r.length.symm
 refine ⟨"tuple",_,PyProof.Rows.slot_tuple_getitem.lookup,ht.typeIs,?_⟩;exact jQ ht hs pl pu (by rw [hlen];exact hw) ⟨.ref a,H,I,rfl,q⟩
def Gx {X:Cx}:yU X (Kx X.K):=yU.or CA (yU.or Gv zG)
abbrev FO:=Lo->ac->Option (Option Int×ac)
def xG (K:zac)(f:FO):TO:=fun Y H Q=>∃O U m o U',dD K m H O Y/\aJ K m H U/\f O U=some (o,U')/\∀H' m',dz m H m' H'->aJ K m' H' U'->Q o H'
def d8:FO:=fun _ U=>some (none,U)
def dU (f:FE):FO:=fun O U=>(f O U).bind fun a=>match a.1 with|.v (.int i)=>some (some i,a.2)|_=>none
def Fi (x:R)(lo hi:Option Int)(U:ac):Option (R×ac):=match x with
 |.v (.tup xs)=>some (.v (.tup (lu xs lo hi)),U)
 |x=>(jO x U).bind fun xs=>some (.p U.length,U++[.lst (lu xs lo hi)])
def uA (fa:FE)(fl fh:FO):FE:=fun O U=>(fa O U).bind fun a=>(fl O a.2).bind fun l=>(fh O l.2).bind fun h=>Fi a.1 l.1 h.1 h.2
theorem RelDs.drop {K:zac}{H:Hp}:∀{xs:List D} {vs:List V} (n:Nat),RelDs K H xs vs->RelDs K H (xs.drop n) (vs.drop n)
 |_,_,0,h=>h
 |[],_,n+1,h=>by simp only [RelDs] at h;subst h;simp only [List.drop_nil,RelDs]
 |x::xs,_,n+1,h=>by simp only [RelDs] at h;obtain ⟨v,r,rfl,_,h2⟩:=h;exact RelDs.drop n h2
theorem RelDs.take {K:zac}{H:Hp}:∀{xs:List D} {vs:List V} (n:Nat),RelDs K H xs vs->RelDs K H (xs.take n) (vs.take n)
 |_,_,0,h=>by simp only [List.take_zero,RelDs]
 |[],_,n+1,h=>by simp only [RelDs] at h;subst h;simp only [List.take_nil,RelDs]
 |x::xs,_,n+1,h=>by simp only [RelDs] at h;obtain ⟨v,r,rfl,h1,h2⟩:=h;simp only [List.take_succ_cons,RelDs];exact ⟨v,_,rfl,h1,RelDs.take n h2⟩
def RelDs.cut {H:Hp}{xs:List D}{vs:List V}{lo hi:Option Int}(h:RelDs K H xs vs):RelDs K H (lu xs lo hi) (rJ vs lo hi):=by unfold lu rJ;rw [h.length];exact (h.drop _).take _
section
variable {K:zac}{Y:L2.St}{H:Hp}{Q:VK}
def zW {Q:Option Int->Hp->Prop}(h:xG K d8 Y H Q):wl Y H Q:=by obtain ⟨O,U,m,o,U',hl,hs,e,k⟩:=h;cases e;exact k H m .refl hs
def zV {f}{Q:Option Int->Hp->Prop}(h:xG K (dU f) Y H Q):E9 (aq K f) Y H Q:=by
 obtain ⟨O,U,m,o,U',hl,hs,e,k⟩:=h;obtain ⟨⟨x,U1⟩,e1,e⟩:=zab.mp e;split at e
 ·rename_i i q
  cases e;simp only at q;subst q;exact ⟨O,U,m,_,U1,hl,hs,e1,fun v H1 m1 x1 s1 r1=>⟨i,by simpa only [ap,ak] using r1,k H1 m1 x1 s1⟩⟩
 ·cases e
theorem Kk {m:Tf}{U U':ac}{x d:R}{v:V}{lo hi:Option Int}(s:aJ K m H U)(r:ap K m H x v)(e:Fi x lo hi U=some (d,U'))(k:∀w H' m',dz m H m' H'->aJ K m' H' U'->ap K m' H' d w->Q w H'):Kx K v lo hi H Q:=by
 have lst:∀xs,jO x U=some xs->(some (R.p U.length,U++[au.lst (lu xs lo hi)]):Option (R×ac))=some (d,U')->Kx K v lo hi H Q:=fun xs e1 e2=>by cases e2;obtain ⟨a,vs,rfl,q,rr⟩:=iA s r e1;refine .inl ⟨a,vs,rfl,q,fun p hp=>?_⟩;obtain ⟨x1,x2,x3⟩:=iz s (rr.cut (lo:=lo) (hi:=hi)) hp;exact k _ _ _ x1 x2 x3
 have gen:(jO x U).bind (fun xs=>some (R.p U.length,U++[au.lst (lu xs lo hi)]))=some (d,U')->Kx K v lo hi H Q:=fun e=>by obtain ⟨xs,e1,e⟩:=zab.mp e;exact lst xs e1 e
 cases x with
 |p n=>exact gen e
 |s _ n=>exact gen e
 |x n=>exact gen e
 |f L ds=>exact gen e
 |v d0 =>
  cases d0 with
  |tup xs =>
   cases e;simp only [ap,ak] at r;obtain ⟨a,vs,rfl,q,rr⟩:=r;by_cases hw:HT.cW vs.length 0 lo=0/\HT.cW vs.length vs.length hi=vs.length
   ·refine .inr (.inr ⟨a,vs,rfl,q,hw,k _ H m .refl s ?_⟩);simp only [ap,ak];refine ⟨a,vs,rfl,q,?_⟩;have:=rr.cut (lo:=lo) (hi:=hi);unfold rJ at this
    rw [hw.1,hw.2] at this
    simpa using this
   ·refine .inr (.inl ⟨a,vs,rfl,q,hw,fun p hp=>?_⟩);obtain ⟨x1,x2,x3⟩:=kZ s (rr.cut (lo:=lo) (hi:=hi)) hp;exact k _ _ _ x1 x2 x3
  |non=>exact gen e
  |bl _=>exact gen e
  |int _=>exact gen e
  |str _=>exact gen e
  |fl _=>exact gen e
  |fd _ _=>exact gen e
  |key _=>exact gen e
def Ko {fa fl fh}(h:aq K (uA fa fl fh) Y H Q):Nf (Kx K) (aq K fa) (xG K fl) (xG K fh) Y H Q:=by obtain ⟨O,U,m,d,U',hl,hs,e,k⟩:=h;obtain ⟨⟨x,U1⟩,e1,e⟩:=zab.mp e;obtain ⟨⟨l,U2⟩,e2,e⟩:=zab.mp e;obtain ⟨⟨u,U3⟩,e3,e⟩:=zab.mp e;refine ⟨O,U,m,x,U1,hl,hs,e1,fun v H1 m1 x1 s1 r1=>?_⟩;refine ⟨O,U1,m1,l,U2,hl.ext x1,s1,e2,fun H2 m2 x2 s2=>?_⟩;refine ⟨O,U2,m2,u,U3,hl.ext (x1.trans x2),s2,e3,fun H3 m3 x3 s3=>?_⟩;exact Kk s3 (r1.ext (x2.trans x3)) e fun w H4 m4 x4 s4 r4=>k w H4 m4 (((x1.trans x2).trans x3).trans x4) s4 r4
def Bu (fa:FE)(fl fh:FO):FE:=fun O U=>(fa O U).bind fun a=>(fl O a.2).bind fun l=>(fh O l.2).bind fun h=>zH a.1 l.1 h.1 h.2
def Gy {x:R}{lo hi:Option Int}{U U':ac}{d:R}(e:zH x lo hi U=some (d,U')):∃z,x=.v (.str z)/\z.length<=sizeLine/\d=.v (.str (Txt.slice z lo hi))/\U'=U:=by
 unfold zH at e;split at e
 ·split at e
  ·rename_i hz
   cases e;exact ⟨_,rfl,hz,rfl,rfl⟩
  ·cases e
 ·cases e
def GK {fa fl fh}(h:aq K (Bu fa fl fh) Y H Q):Nf Kv (aq K fa) (xG K fl) (xG K fh) Y H Q:=by obtain ⟨O,U,m,d,U',hl,hs,e,k⟩:=h;obtain ⟨⟨x,U1⟩,e1,e⟩:=zab.mp e;obtain ⟨⟨l,U2⟩,e2,e⟩:=zab.mp e;obtain ⟨⟨u,U3⟩,e3,e⟩:=zab.mp e;refine ⟨O,U,m,x,U1,hl,hs,e1,fun v H1 m1 x1 s1 r1=>?_⟩;refine ⟨O,U1,m1,l,U2,hl.ext x1,s1,e2,fun H2 m2 x2 s2=>?_⟩;refine ⟨O,U2,m2,u,U3,hl.ext (x1.trans x2),s2,e3,fun H3 m3 x3 s3=>?_⟩;obtain ⟨z,rfl,hz,rfl,rfl⟩:=Gy e;simp only [ap,ak] at r1;exact ⟨z,r1,hz,k _ H3 m3 ((x1.trans x2).trans x3) s3 (by simp only [ap,ak])⟩
end
def PO.imp {e:Option Expr}{t t':TO}(h:PO X e t)(k:∀{Y H Q},t' Y H Q->t Y H Q):PO X e t':=fun pins s Y H Q I q=>h pins s Y H Q I (k q)
def j8:FS:=fun _ _=>none
namespace R
section
variable {X:Cx}{a b e:Expr}{es:Tj}{fa fb:FE}{ga:FA}{pos p:Pos}{x:Str}
def ah {i j}:PE X (.Constant (.int i) j pos) (aq X.K (fK (.int i))):=PE.imp HB (jg fun _ _=>by simp only [ap,ak])
def pR (ha:PE X a (aq X.K fa)):PE X (.UnaryOp .USub a pos) (aq X.K (iV lP fa)):=PE.imp (KQ Gb ha) (Kn Lj)
def lK (ha:PE X a (aq X.K fa)):PO X (some a) (xG X.K (dU fa)):=PO.imp (Dc ha) zV
def Hg {k:Nat}{f:Addr}{fd:FuncData}{ps:Tn}{n:Nat}{mf:MF}(F:ca X.prog X.w X.K X.mg X.base jN k f fd ps (yT X.K n mf))(hr:bG k X.A)(hg:Gl X x)(hm:X.mg x=some (.ref f))(hk:PySem.W.keepIn X.K (.ref f)=true)(hb:fq X.K fd ps [])
  (ha:PA X (e::es) (fY X.K ga)) (hdb:(x == ("__debug__" : Str))=false:=by decide) (he:lB e es X:=by exact ar rfl) (hpl:(backTo pos (starEach es X.env)).any (·.1)=false:=by exact aA rfl) :
  PE X (.Call (.Name x p) (e::es) [] pos) (aq X.K (aN mf n ga)):=PE.imp (nr F hr hg hm hk hb .nil pT ha hdb he hpl) CW
theorem jD {d:D}(h:gT X.K X.mg x d)(hg:Gl X x:=by rfl)(hd:(x == ("__debug__" : Str))=false:=by decide):PE X (.Name x pos) (aq X.K (fK d)):=by obtain ⟨u,v,hm,r,rd⟩:=h;exact PE.imp (Dj hg hm r hd) (jg fun _ H=>rd H)
def mv {op:CmpOp}{r:R2}{g:R->R->ac->Option (R×ac)}(ho:jy X (compareOp op) r)(hg:pp X.K g r)(ha:PE X a (aq X.K fa))(hb:PE X b (aq X.K fb))(hm:behindInMarks op b=false):PT X (.Compare a [op] [b] pos) (eX X.K (fB (ao g fa fb))) :=
 PT.imp (wC ho ha hb hm) fun h=>by obtain ⟨O,U,m,d,U',hl,hs,e,k⟩:=wt h;exact fX hg ⟨O,U,m,d,U',hl,hs,e,k⟩
def JY {op:CmpOp}{neg:Bool}{c:D}{cv:V}(hc:(c=.non/\cv=.non)\/∃b,c=.bl b/\cv=.bl b)(ho:jy X (compareOp op) (CZ neg cv))(ha:PE X a (aq X.K fa))(hb:PE X b (tC cv))(hm:behindInMarks op b=false):PT X (.Compare a [op] [b] pos) (eX X.K (fB (iV (mG neg c) fa))) :=
 PT.imp (wC ho ha hb hm) fun h=>by obtain ⟨O,U,m,d,U',hl,hs,e,k⟩:=wt h;exact Fk hc ⟨O,U,m,d,U',hl,hs,e,k⟩
variable {ta:FT}
variable {st:Stmt}{c tg iter:Expr}
def ir:PS X st (eI X.K j8):=fun pins s Y H D I h=>by obtain ⟨O,U,m,out,hl,hs,e,k⟩:=h;cases e
variable {g:FG}{fi:FI}
def m9.imp {ifs:Tj}{t t':TT}(h:m9 X ifs t)(k:∀{Y H Q},t' Y H Q->t Y H Q):m9 X ifs t':=fun pins s Y H Q I q=>h pins s Y H Q I (k q)
theorem gO {ifs:Tj}{scope:Scope}(ix:List Nat)(own caps:Tn)(hc:X.calm=true)(n:aP X.env.scope scope own caps)(hi:PI X tg iter (xH X.K fi))
  (hb:∀cl C s₂ H₂ fp,PG (aL X scope cl C s₂ H₂ fp (own++caps)) tg (qJ X.K g)/\m9 (aL X scope cl C s₂ H₂ fp (own++caps)) ifs (eX X.K ta)/\PE (aL X scope cl C s₂ H₂ fp (own++caps)) e (aq X.K fa))
  (hix:ix.map (fun i=>X.N[i]?)=caps.map some:=by rfl)
  (hs:∀x,foldedSetIterable iter X.env x=pure x:=by intro _;rfl):PE X (.ListComp e [⟨tg,iter,ifs,0⟩] scope pos) (aq X.K (dM ix own.length fi g ta fa)):=by
 refine PE.imp (AE (ix:=ix) hc n (by simpa using congrArg List.length hix) (fun j i y h1 h2=>?_) hi hb hs) (wq rfl);have:=congrArg (fun l=>l[j]?) hix
 simp only [zaB,h1,h2,zbx] at this
 exact Option.some.inj this
theorem qI (i:Nat){py spos:Pos}{ifs:Tj}{scope:Scope}(ix:List Nat)(own caps:Tn)(hc:X.calm=true)(n:aP X.env.scope scope own caps)(hN:X.N.Nodup)(hi:PI X tg iter (xH X.K fi))
  (hb:∀cl C s₂ H₂ fp,PG (aL X scope cl C s₂ H₂ fp (own++caps)) tg (qJ X.K g)/\m9 (aL X scope cl C s₂ H₂ fp (own++caps)) ifs (eX X.K ta)/\PE (aL X scope cl C s₂ H₂ fp (own++caps)) e (aq X.K fa))
  (hsw:swapsWith (.ListComp e [⟨tg,iter,ifs,0⟩] scope pos) (some (.Name x py)) spos.line X.env=pure true:=by rfl)
  (hy:X.N[i]?=some x:=by rfl) (hyl:Ew X.env.scope x:=by first|exact Or.inl rfl|exact Or.inr rfl)
  (hix:ix.map (fun i=>X.N[i]?)=caps.map some:=by rfl)
  (hs:∀x,foldedSetIterable iter X.env x=pure x:=by intro _;rfl) (hf:X.fn x=true\/X.env.scope.names.lookup x=some .local:=by first|exact .inl rfl|exact .inr rfl) :
  PS X (.Assign [.Name x py] (.ListComp e [⟨tg,iter,ifs,0⟩] scope pos) spos) (eI X.K (aD i (dM ix own.length fi g ta fa))):=by
 refine PS.imp (Av (i:=i) (ix:=ix) hc n hN hy hyl (by simpa using congrArg List.length hix) (fun j i y h1 h2=>?_) hi hb hsw hs hf) fun h=>?_
 ·have:=congrArg (fun l=>l[j]?) hix
  simp only [zaB,h1,h2,zbx] at this
  exact Option.some.inj this
 ·have h':=zU h
  obtain ⟨O,U,m,d,U',hl,hs,e,k⟩:=h';exact wq rfl ⟨O,U,m,d,U',hl,hs,e,k⟩
end
end R
def jl (x:R)(U:ac):Bool:=match x with|.v (.fl _)=>true|.p n=>(match U[n]? with|some (.lst _)=>true|some (.fz _)=>true|_=>false)|_=>false
def yz (g:R->List R->ac->Option (R×ac))(fa:FE)(ga:FA):FE:=fun O U=>(fa O U).bind fun a=>if jl a.1 a.2=true then (ga O a.2).bind fun b=>g a.1 b.1 b.2 else none
def Bd {m:Tf}{H:Hp}{U:ac}{x:R}{v:V}(s:aJ K m H U)(r:ap K m H x v)(e:jl x U=true):Nc K "list" v H:=by
 have:∃xs,jO x U=some xs:=by
  cases x with
  |v d=>cases d <;> simp_all [jl,jO]
  |s _ _=>simp [jl] at e
  |x _=>simp [jl] at e
  |f _ _=>simp [jl] at e
  |p n =>
   simp only [jl] at e;simp only [jO];split at e
   ·rename_i xs q;exact ⟨xs,by first|rfl|rw [q]⟩
   ·rename_i xs q;exact ⟨xs,by first|rfl|rw [q]⟩
   ·cases e
 obtain ⟨xs,e⟩:=this;obtain ⟨a,vs,rfl,q,_⟩:=iA s r e;exact .inl ⟨rfl,vs,q⟩
def Kq {H:Hp}{Q:VK}{g r fa ga}(hg:PN K g r)(h:aq K (yz g fa ga) Y H Q):Ng K "list" r (aq K fa) (fY K ga) Y H Q:=by
 obtain ⟨O,U,m,d,U',hl,hs,e,k⟩:=h;obtain ⟨⟨x,U1⟩,e1,e⟩:=zab.mp e;split at e
 ·rename_i hx;obtain ⟨⟨ys,U2⟩,e2,e⟩:=zab.mp e;refine ⟨O,U,m,x,U1,hl,hs,e1,fun v H1 m1 x1 s1 r1=>⟨Bd s1 r1 hx,?_⟩⟩;refine ⟨O,U1,m1,ys,U2,hl.ext x1,s1,e2,fun vs H2 m2 x2 s2 r2=>?_⟩;exact hg m2 H2 U2 x ys d U' v vs Q s2 (r1.ext x2) r2 e fun w H3 m3 x3 s3 r3=>k w H3 m3 ((x1.trans x2).trans x3) s3 r3
 ·cases e
structure bS (K:zac)(mg:Td)(x:Str)(st:Stmt)(ps:Tn):Prop where
 ex:∃f fd,nG K x x st f fd/\fq K fd ps []/\mg x=some (.ref f)
structure ON (K:zac)(mg:Td)(x:Str)(st:Stmt)(ps:Tn)(c:Addr):Prop where
 ex:∃f fd,OM K x st f fd c/\fq K fd ps []/\mg x=some (.ref f)
def bj (P:Program)(w:World)(K:zac)(mg:Td)(base:Heap)(k:Nat)(x:Str)(ps:Tn)(mf:MF):Prop :=
 ∃f fd,ca P w K mg base jN k f fd ps (yT K ps.length mf)/\PySem.W.keepIn K (.ref f)=true/\fq K fd ps []/\mg x=some (.ref f)
def mM (P:Program)(w:World)(K:zac)(mg:Td)(base:Heap)(k:Nat)(x:Str)(ps:Tn)(mf:MC):Prop :=
 ∃f fd,ca P w K mg base jN k f fd ps (zF K ps.length (cX K mf))/\PySem.W.keepIn K (.ref f)=true/\fq K fd ps []/\mg x=some (.ref f)
def nD {mg:Td}{base:Heap}{k:Nat}{x:Str}{ps:Tn}{mf:MF}(h:bj P w K mg base k x ps mf):bj P w K mg base k x ps (uk mf) :=
 let ⟨f,fd,F,r⟩:=h
 ⟨f,fd,F.imp fun _ _ _ _ z=>Kh z,r⟩
def mL (P:Program)(w:World)(K:zac)(mg:Td)(base:Heap)(k:Nat)(x:Str)(ps:Tn)(mf:MW):Prop :=
 ∃f fd,ca P w K mg base jN k f fd ps (Jh K ps.length mf)/\PySem.W.keepIn K (.ref f)=true/\fq K fd ps []/\mg x=some (.ref f)
structure jz (K:zac)(C:Addr)(nm qual:Str)(st:Stmt)(ps:Tn):Prop where
 ex:∃f fd,nG K nm qual st f fd/\fq K fd ps []/\Ev K C nm f
def eU (P:Program)(w:World)(K:zac)(mg:Td)(base:Heap)(k:Nat)(nm:Str)(C:Addr)(ps:Tn)(mf:MW):Prop :=
 ∃f fd,ca P w K mg base jN k f fd ps (Jh K ps.length mf)/\fq K fd ps []/\Ev K C nm f
namespace R
def okP {P:Program}{w:World}{K:zac}{mg:Td}{base:Heap}{x:Str}{st:Stmt}{N ps:Tn}{k:Nat}{b:FS}(d:bS K mg x st ps)(S:ax N ps (ai st))
  (hbody:∀(f:Addr) (cdv:Value) (A:Around) (outer:List Env) (s:Shared) (H:Hp) (E:XK),bG k (A.deeper (envOfC x (ai st) s.heap.objs.size f cdv))->m8 (iX jN P w K mg base N x (ai st) f cdv A outer s H E).nox (bm st) (eI K b)) :
  bj P w K mg base (k+1) x ps (eQ N.length b):=by
 obtain ⟨f,fd,F,B,M⟩:=d.ex;exact ⟨f,fd,nG.okP F S (hbody f),F.kp,B,M⟩
theorem aH {X:Cx}{k:Nat}{x:Str}{ps:Tn}{mf:MF}{e:Expr}{es:Tj}{ga:FA}{p pos:Pos}{n:Nat}(F:bj X.prog X.w X.K X.mg X.base k x ps mf)(hr:bG k X.A)(ha:PA X (e::es) (fY X.K ga))(hg:Gl X x:=by rfl)(hn:ps.length=n:=by rfl)
  (hdb:(x == ("__debug__" : Str))=false:=by decide) (he:lB e es X:=by exact ar rfl) (hpl:(backTo pos (starEach es X.env)).any (·.1)=false:=by exact aA rfl) :
  PE X (.Call (.Name x p) (e::es) [] pos) (aq X.K (aN mf n ga)):=by
 subst hn;obtain ⟨f,fd,F,kp,B,M⟩:=F;exact Hg F hr hg M kp B ha hdb he hpl
theorem gC {X:Cx}{k:Nat}{x:Str}{ps:Tn}{mf:MF}{e:Expr}{es:Tj}{ga:FA}{p pos:Pos}{n:Nat}(F:bj X.prog X.w X.K X.mg X.base k x ps mf)(hr:bG k X.A)(ha:PA X (e::es) (fY X.K ga))(hg:Gl X x:=by rfl)(hn:ps.length=n:=by rfl)
  (hdb:(x == ("__debug__" : Str))=false:=by decide) (he:lB e es X:=by exact ar rfl) (hpl:(backTo pos (starEach es X.env)).any (·.1)=false:=by exact aA rfl) :
  PE X (.Call (.Name x p) (e::es) [] pos) (aq X.K (dC mf n ga)):=by
 subst hn;obtain ⟨f,fd,F,kp,B,M⟩:=F;exact PE.imp (nr (ca.borN (F.imp fun _ _ _ _ h=>Ki h) ps.length) hr hg M kp B .nil pT ha hdb he hpl) Aa
def okN {P:Program}{w:World}{K:zac}{mg:Td}{base:Heap}{x:Str}{st:Stmt}{N ps:Tn}{k:Nat}{b:FS}(d:bS K mg x st ps)(S:ax N ps (ai st))
  (hbody:∀(f:Addr) (cdv:Value) (A:Around) (outer:List Env) (s:Shared) (H:Hp) (E:XK),bG k (A.deeper (envOfC x (ai st) s.heap.objs.size f cdv))->m8 (iX jN P w K mg base N x (ai st) f cdv A outer s H E).nox (bm st) (eI K b)) :
  mM P w K mg base (k+1) x ps (zR N.length b):=by
 obtain ⟨f,fd,F,B,M⟩:=d.ex;exact ⟨f,fd,nG.okN F S (hbody f),F.kp,B,M⟩
theorem nq {X:Cx}{k:Nat}{x:Str}{ps:Tn}{mf:MC}{e:Expr}{es:Tj}{ga:FA}{p pos:Pos}{n:Nat}(F:mM X.prog X.w X.K X.mg X.base k x ps mf)(hr:bG k X.A)(ha:PA X (e::es) (fY X.K ga))(hg:Gl X x:=by rfl)(hn:ps.length=n:=by rfl)
  (hdb:(x == ("__debug__" : Str))=false:=by decide) (he:lB e es X:=by exact ar rfl) (hpl:(backTo pos (starEach es X.env)).any (·.1)=false:=by exact aA rfl) :
  PE X (.Call (.Name x p) (e::es) [] pos) (aq X.K (kz mf n ga)):=by
 subst hn;obtain ⟨f,fd,F,kp,B,M⟩:=F;exact PE.imp (nr (ca.borN F ps.length) hr hg M kp B .nil pT ha hdb he hpl) Ab
def okW {P:Program}{w:World}{K:zac}{mg:Td}{base:Heap}{x:Str}{st:Stmt}{N ps:Tn}{k:Nat}{b:FS}(d:bS K mg x st ps)(S:ax N ps (ai st))
  (hbody:∀(f:Addr) (cdv:Value) (A:Around) (outer:List Env) (s:Shared) (H:Hp) (E:XK),bG k (A.deeper (envOfC x (ai st) s.heap.objs.size f cdv))->m8 (iX jN P w K mg base N x (ai st) f cdv A outer s H E).nox (bm st) (eI K b)) :
  mL P w K mg base (k+1) x ps (mV N.length b):=by
 obtain ⟨f,fd,F,B,M⟩:=d.ex;exact ⟨f,fd,nG.okW F S (hbody f),F.kp,B,M⟩
def HV {P:Program}{w:World}{K:zac}{mg:Td}{base:Heap}{nm qual:Str}{C:Addr}{st:Stmt}{N ps:Tn}{k:Nat}{b:FS}(d:jz K C nm qual st ps)(S:ax N ps (ai st))
  (hbody:∀(f:Addr) (cdv:Value) (A:Around) (outer:List Env) (s:Shared) (H:Hp) (E:XK),bG k (A.deeper (envOfC qual (ai st) s.heap.objs.size f cdv))->m8 (iX jN P w K mg base N qual (ai st) f cdv A outer s H E).nox (bm st) (eI K b)) :
  eU P w K mg base (k+1) nm C ps (mV N.length b):=by
 obtain ⟨f,fd,F,B,M⟩:=d.ex;exact ⟨f,fd,nG.okW F S (hbody f),B,M⟩
theorem jE {X:Cx}{k:Nat}{x:Str}{ps:Tn}{mf:MW}{e:Expr}{es:Tj}{ga:FA}{p pos:Pos}{n:Nat}(F:mL X.prog X.w X.K X.mg X.base k x ps mf)(hr:bG k X.A)(ha:PA X (e::es) (fY X.K ga))(hg:Gl X x:=by rfl)(hn:ps.length=n:=by rfl)
  (hdb:(x == ("__debug__" : Str))=false:=by decide) (he:lB e es X:=by exact ar rfl) (hpl:(backTo pos (starEach es X.env)).any (·.1)=false:=by exact aA rfl) :
  PE X (.Call (.Name x p) (e::es) [] pos) (aq X.K (gf mf n ga)):=by
 subst hn;obtain ⟨f,fd,F,kp,B,M⟩:=F;exact PE.imp (nr F hr hg M kp B .nil pT ha hdb he hpl) zZ
theorem j9 {X:Cx}{k:Nat}{c nm:Str}{C:Addr}{ps:Tn}{mf:MW}{o e:Expr}{es:Tj}{fo:FE}{ga:FA}{apos pos:Pos}{n:Nat}{pl:Sem Bool}(N:nc X.K X.mg c C)(F:eU X.prog X.w X.K X.mg X.base k nm C ps mf)(hr:bG k X.A)(ho:PE X o (aq X.K fo))(ha:PA X (e::es) (fY X.K ga))(hn:ps.length=n:=by rfl)
  (he:lB e es X:=by exact ar rfl) (hpl:(backTo pos (starEach es X.env)).any (·.1)=false:=by exact aA rfl)
  (ht:eval (.Call (.Attribute o nm apos) (e::es) [] pos) X.env=(do
   let ov ←eval o X.env
   standAt apos.atName
   let (mth,first) ←holding [ov] (getMethod ov nm pl)
   callWith pos mth first (backTo pos (starEach (e::es) X.env)) (backToKw pos (keywordEach [] X.env))):=by rfl) :
  PE X (.Call (.Attribute o nm apos) (e::es) [] pos) (aq X.K (jp c nm mf n fo ga)):=by
 subst hn;obtain ⟨f,fd,F,B,M⟩:=F;exact PE.imp (Dh ho N.cl M F hr B .nil pT ha he hpl ht) (CP N)
theorem qM {X:Cx}{k:Nat}{c:Str}{C:Addr}{ps:Tn}{mf:MW}{e:Expr}{es:Tj}{ga:FA}{p pos:Pos}{n:Nat}(N:nc X.K X.mg c C)(hk:PySem.W.makesIn X.K C=true)(hp:PySem.W.keepIn X.K (.ref C)=true)(F:eU X.prog X.w X.K X.mg X.base k "__init__" C ps mf)(hr:bG (k+1) X.A)(ha:PA X (e::es) (fY X.K ga))(hg:Gl X c:=by rfl)(hn:ps.length=n:=by rfl)
  (hdb:(c == ("__debug__" : Str))=false:=by decide) (he:lB e es X:=by exact ar rfl) (hpl:(backTo pos (starEach es X.env)).any (·.1)=false:=by exact aA rfl):PE X (.Call (.Name c p) (e::es) [] pos) (aq X.K (l8 c mf n ga)):=by
 subst hn;obtain ⟨f,fd,F,B,M⟩:=F;exact PE.imp (Di ⟨hk,M.at_,M.fn,hp⟩ F hr hg N.mg B .nil pT ha hdb he hpl) (zX N)
end R
def tF {K:zac}{T:String}(h1:PySem.W.kitOne K (.type "NoneType") (.type T)=some ("NoneType" == T || ("NoneType" == "bool" && T == "int")))
  (h2:PySem.W.kitOne K (.type "bool") (.type T)=some ("bool" == T || ("bool" == "bool" && T == "int"))) (h3:PySem.W.kitOne K (.type "int") (.type T)=some ("int" == T || ("int" == "bool" && T == "int")))
  (h4:PySem.W.kitOne K (.type "str") (.type T)=some ("str" == T || ("str" == "bool" && T == "int"))) (h5:PySem.W.kitOne K (.type "tuple") (.type T)=some ("tuple" == T || ("tuple" == "bool" && T == "int")))
  (h6:PySem.W.kitOne K (.type "list") (.type T)=some ("list" == T || ("list" == "bool" && T == "int"))) (h7:PySem.W.kitOne K (.type "dict") (.type T)=some ("dict" == T || ("dict" == "bool" && T == "int"))):uy K T:=fun t ht=>by
 simp only [zaj,zaI,or_false] at ht;rcases ht with rfl|rfl|rfl|rfl|rfl|rfl|rfl <;> assumption
theorem ye :uy K "int":=tF rfl rfl rfl rfl rfl rfl rfl
theorem vj :uy K "bool":=tF rfl rfl rfl rfl rfl rfl rfl
def yN:bootBuiltins "int" = some (.type "int"):=by decide
def vT:bootBuiltins "bool" = some (.type "bool"):=by decide
def Ib {H:Hp}{a:Addr}{ns:Th}{mf:MF}(hOz:B3 H)(hS:iZ K H a (ns.map V.int))(h:mf [.fl (ns.map .int)]=some (.bl true)):yT K 1 mf [.ref a] H (fun v _=>v=.bl true) fun _ _ _=>False:=by
 refine ⟨_,_,rfl,?_,h,fun v H' _ r=>by simpa only [ak] using r⟩;have rInts:∀{ns:Th},RelDs K H (ns.map .int) (ns.map V.int):=fun {ns}=>by
  induction ns with
  |nil=>simp only [za8,RelDs]
  |cons n ns ih=>simp only [zaf,RelDs];exact ⟨_,_,rfl,by simp only [ak],ih⟩
 simp only [RelDs];refine ⟨_,_,rfl,?_,rfl⟩;simp only [ak];refine ⟨a,_,rfl,?_,rInts⟩;rcases hS with (hS|⟨o,hS⟩)|hS
 ·rcases hOz a with z|⟨o,xs,z⟩ <;> rw [hS] at z <;> cases z
 ·exact .inl ⟨o,hS⟩
 ·exact .inr (.inr hS)
namespace R
end R
@[irreducible] def ZE (X:Cx)(e:Expr)(t:TE):Prop:=L2.PE X e t
@[irreducible] def ZT (X:Cx)(e:Expr)(t:TT):Prop:=L2.PT X e t
@[irreducible] def ZW (X:Cx)(e:Expr)(t:TT):Prop:=L2.PW X e t
@[irreducible] def ZA (X:Cx)(e:Tj)(t:TA):Prop:=L2.PA X e t
@[irreducible] def ZS (X:Cx)(e:Stmt)(t:TS):Prop:=L2.PS X e t
@[irreducible] def yS (X:Cx)(e:Tk)(t:TS):Prop:=L2.m8 X e t
@[irreducible] def ZG (X:Cx)(e:Expr)(t:TG):Prop:=L2.PG X e t
@[irreducible] def MZ (X:Cx)(e:Tj)(t:Cf):Prop:=L2.Cg X e t
@[irreducible] def ZO (X:Cx)(e:Option Expr)(t:TO):Prop:=L2.PO X e t
@[irreducible] def Ep (X:Cx)(e:Tj)(t:TT):Prop:=HW.m9 X e t
@[irreducible] def ZI (X:Cx)(tg iter:Expr)(t:TI):Prop:=L2.PI X tg iter t
section
variable {X:Cx}{a b e:Expr}{es:Tj}{fa fb:FE}{ga:FA}{pos p p2:Pos}{x:Str}
theorem af (i:Nat)(hN:X.N[i]?=some x:=by rfl)(hv:M0 X.env.scope x:=by first|exact Or.inl rfl|exact Or.inr (Or.inl rfl)|exact Or.inr (Or.inr rfl))(hd:(x == ("__debug__" : Str))=false:=by decide)
  (hcd:(x == ("__classdict__" : Str))=false:=by decide):ZE X (.Name x pos) (aq X.K (ae i)):=by
 exists PE.imp (Hv hN hv hd hcd) GF
def ah {i j}:ZE X (.Constant (.int i) j pos) (aq X.K (fK (.int i))):=by exists R.ah
def oh {i j}:ZE X (.Constant (.bool i) j pos) (aq X.K (fK (.bl i))):=by exists PE.imp KW (jg fun _ _=>by simp only [ap,ak])
def fZ {i j}:ZE X (.Constant (.str i) j pos) (aq X.K (fK (.str i))):=by exists PE.imp Hx (jg fun _ _=>by simp only [ap,ak])
def wx {j}:ZE X (.Constant .none j pos) (aq X.K (fK .non)):=by exists PE.imp qN (jg fun _ _=>by simp only [ap,ak])
def bQ (ha:ZE X a (aq X.K fa))(hb:ZE X b (aq X.K fb)):ZE X (.BinOp a .Add b pos) (aq X.K (ao cG fa fb)):=by exists PE.imp (mB ((HM.or (u7.or (Ds.or HL))).or Du) ha hb) (fX Ix)
def my (ha:ZE X a (aq X.K fa))(hb:ZE X b (aq X.K fb)):ZE X (.BinOp a .Sub b pos) (aq X.K (ao kR fa fb)):=by exists PE.imp (mB HF ha hb) (fX Lh)
def og (ha:ZE X a (aq X.K fa))(hb:ZE X b (aq X.K fb)):ZE X (.BinOp a .Mult b pos) (aq X.K (ao lR fa fb)):=by exists PE.imp (mB HH ha hb) (fX Lk)
def cY (ha:ZE X a (aq X.K fa))(hb:ZE X b (aq X.K fb)):ZE X (.BinOp a .FloorDiv b pos) (aq X.K (ao cz fa fb)):=by exists PE.imp (mB Dr ha hb) (fX Lx)
def bv (ha:ZE X a (aq X.K fa))(hb:ZE X b (aq X.K fb)):ZE X (.BinOp a .Mod b pos) (aq X.K (ao br fa fb)):=by exists PE.imp (mB HI ha hb) (fX Ll)
def sJ (ha:ZE X a (aq X.K fa))(hb:ZE X b (aq X.K fb)):ZE X (.BinOp a .Pow b pos) (aq X.K (ao kh fa fb)):=by exists PE.imp (mB HG ha hb) (fX Li)
def KN (ha:ZE X a (aq X.K fa))(hb:ZE X b (aq X.K fb)):ZE X (.BinOp a .BitOr b pos) (aq X.K (ao (Ji (!HS.bt X.w)) fa fb)):=by exists PE.imp (mB AI ha hb) (fX NB)
def pR (ha:ZE X a (aq X.K fa)):ZE X (.UnaryOp .USub a pos) (aq X.K (iV lP fa)):=by exists R.pR ha
def sL (ha:ZE X a (aq X.K fa)):ZE X (.UnaryOp .Not a pos) (aq X.K (l7 fa)):=by exists PE.imp (Hz ha) GP
def No (ha:ZE X a (aq X.K fa))(hb:ZE X b (aq X.K fb)):ZE X (.Compare a [.Lt] [b] pos) (aq X.K (ao HY fa fb)):=by exists PE.imp (kX FB ha hb (dW _)) (fX Lp)
def Np (hu:X.A.units+64 < cLine)(ha:ZE X a (aq X.K fa))(hb:ZE X b (aq X.K fb)):ZE X (.Compare a [.Eq] [b] pos) (aq X.K (ao (gQ false) fa fb)):=by exists PE.imp (kX (qO hu) ha hb (dW _)) (fX DQ)
def Nn (hu:X.A.units+64 < cLine)(ha:ZE X a (aq X.K fa))(hb:ZE X b (aq X.K fb)):ZE X (.Compare a [.NotEq] [b] pos) (aq X.K (ao (gQ true) fa fb)):=by exists PE.imp (kX (u6 hu) ha hb (dW _)) (fX DQ)
def Fy {j}(ha:ZE X a (aq X.K fa)):ZE X (.Compare a [.Is] [.Constant .none j p] pos) (aq X.K (iV (mG false .non) fa)):=by exists PE.imp (kX sZ ha qN (dW _)) (Fk (.inl ⟨rfl,rfl⟩))
def wy {rest:Tj}(ha:ZE X a (aq X.K fa))(hb:ZE X (.BoolOp .And (b::rest) pos) (aq X.K fb)):ZE X (.BoolOp .And (a::b::rest) pos) (aq X.K (rk fa fb)):=by exists PE.imp (HE ha hb) Ha
def KI {rest:Tj}(ha:ZE X a (aq X.K fa))(hb:ZE X (.BoolOp .Or (b::rest) pos) (aq X.K fb)):ZE X (.BoolOp .Or (a::b::rest) pos) (aq X.K (LD fa fb)):=by exists PE.imp (KS ha hb) Kp
def sK {op}(ha:ZE X a (aq X.K fa)):ZE X (.BoolOp op [a] pos) (aq X.K fa):=by exists Hy ha
def am:ZA X [] (fY X.K aj):=by exists PA.imp u5 GQ
def ag (ha:ZE X e (aq X.K fa))(hr:ZA X es (fY X.K ga))(hs:lB e es X:=by exact ar rfl):ZA X (e::es) (fY X.K (ad fa ga)):=by exists PA.imp (nt ha hr hs) CV
def df {x1}(h:ZA X es (fY X.K ga)):ZE X (.Tuple es x1 pos) (aq X.K (c7 ga)):=by exists PE.imp (Hw h) GG
def fj (h:ZA X es (fY X.K ga)):ZE X (.List es pos) (aq X.K (cx ga)):=by exists PE.imp (HA h) GR
def bf (ha:ZE X a (aq X.K fa)):ZE X a (aq X.K (bT fa)):=by exists PE.imp (u4 ha) Fm
def aV (ha:ZE X a (aq X.K fa))(hb:ZE X b (aq X.K fb))(hs:xj b:=by intro _ _;rfl):ZE X (.Subscript a b pos) (aq X.K (ao ba fa fb)):=by exists PE.imp (KU Ii ha hb hs) (fX ND)
def oe:ZO X none (xG X.K d8):=by exists PO.imp Dd zW
def lK (ha:ZE X a (aq X.K fa)):ZO X (some a) (xG X.K (dU fa)):=by exists R.lK ha
def qL {lo hi:Option Expr}{fl fh:FO}(ha:ZE X a (aq X.K fa))(hl:ZO X lo (xG X.K fl))(hh:ZO X hi (xG X.K fh)):ZE X (.Subscript a (.Slice lo hi none p2) pos) (aq X.K (uA fa fl fh)):=by exists PE.imp (sU Gx ha hl hh) Ko
def gB (hg:Gl X "len")(hm:X.mg "len" = none)(ha:ZA X (e::es) (fY X.K ga))(he:lB e es X:=by exact ar rfl)(hpl:(backTo pos (starEach es X.env)).any (·.1)=false:=by exact aA rfl) :
  ZE X (.Call (.Name "len" p) (e::es) [] pos) (aq X.K (dN eR ga)):=by
 exists PE.imp (f6 rQ hg hm PySem.boot_len ha (he:=he) (hpl:=hpl)) (g6 Lq)
def Fu (hc:X.calm=true)(hg:Gl X "set")(hm:X.mg "set" = none)(ha:ZA X (e::es) (fY X.K ga))(he:lB e es X:=by exact ar rfl)(hpl:(backTo pos (starEach es X.env)).any (·.1)=false:=by exact aA rfl) :
  ZE X (.Call (.Name "set" p) (e::es) [] pos) (aq X.K (dN (uW (!HS.bt X.w)) ga)):=by
 exists PE.imp (et (yK hc) hg hm (by decide) ha (he:=he) (hpl:=hpl)) (g6 Iq)
def Al (hc:X.calm=true)(hg:Gl X "sorted")(hm:X.mg "sorted" = none)(ha:ZA X (e::es) (fY X.K ga))(he:lB e es X:=by exact ar rfl)(hpl:(backTo pos (starEach es X.env)).any (·.1)=false:=by exact aA rfl) :
  ZE X (.Call (.Name "sorted" p) (e::es) [] pos) (aq X.K (dN (jB (!HS.bt X.w)) ga)):=by
 exists PE.imp (f6 (rN hc) hg hm (by decide) ha (he:=he) (hpl:=hpl)) (g6 yv)
def Am (hc:X.calm=true)(hg:Gl X "dict")(hm:X.mg "dict" = none)(ha:ZA X (e::es) (fY X.K ga))(he:lB e es X:=by exact ar rfl)(hpl:(backTo pos (starEach es X.env)).any (·.1)=false:=by exact aA rfl) :
  ZE X (.Call (.Name "dict" p) (e::es) [] pos) (aq X.K (dN o5 ga)):=by
 exists PE.imp (et (qg hc) hg hm (by decide) ha (he:=he) (hpl:=hpl)) (g6 Iw)
def Fv (hc:X.calm=true)(hg:Gl X "min")(hm:X.mg "min" = none)(ha:ZA X (e::es) (fY X.K ga))(he:lB e es X:=by exact ar rfl)(hpl:(backTo pos (starEach es X.env)).any (·.1)=false:=by exact aA rfl) :
  ZE X (.Call (.Name "min" p) (e::es) [] pos) (aq X.K (dN mX ga)):=by
 exists PE.imp (f6 (yL hc) hg hm (by decide) ha (he:=he) (hpl:=hpl)) (g6 Lm)
def KJ (hc:X.calm=true)(hg:Gl X "max")(hm:X.mg "max" = none)(ha:ZA X (e::es) (fY X.K ga))(he:lB e es X:=by exact ar rfl)(hpl:(backTo pos (starEach es X.env)).any (·.1)=false:=by exact aA rfl) :
  ZE X (.Call (.Name "max" p) (e::es) [] pos) (aq X.K (dN AV ga)):=by
 exists PE.imp (f6 (yM hc) hg hm (by decide) ha (he:=he) (hpl:=hpl)) (g6 Ln)
theorem jD {d:D}(h:gT X.K X.mg x d)(hg:Gl X x:=by rfl)(hd:(x == ("__debug__" : Str))=false:=by decide):ZE X (.Name x pos) (aq X.K (fK d)):=by exists R.jD h hg hd
def ww (hg:Gl X "tuple")(hm:X.mg "tuple" = none)(ha:ZA X (e::es) (fY X.K ga))(he:lB e es X:=by exact ar rfl)(hpl:(backTo pos (starEach es X.env)).any (·.1)=false:=by exact aA rfl) :
  ZE X (.Call (.Name "tuple" p) (e::es) [] pos) (aq X.K (dN qw ga)):=by
 exists PE.imp (et jY hg hm (by decide) ha (he:=he) (hpl:=hpl)) (g6 Lg)
def Hc (hg:Gl X "list")(hm:X.mg "list" = none)(ha:ZA X (e::es) (fY X.K ga))(he:lB e es X:=by exact ar rfl)(hpl:(backTo pos (starEach es X.env)).any (·.1)=false:=by exact aA rfl) :
  ZE X (.Call (.Name "list" p) (e::es) [] pos) (aq X.K (dN tz ga)):=by
 exists PE.imp (et rO hg hm (by decide) ha (he:=he) (hpl:=hpl)) (g6 Ir)
theorem Fx {T:String}{y:Str}(hT:uy X.K T)(hg:Gl X "isinstance")(hm:X.mg "isinstance" = none)(hgT:Gl X y)(hmT:X.mg y=none)(hvT:bootBuiltins y=some (.type T))(ha:ZE X e (aq X.K fa))(hn:y≠"__name__":=by decide)(hdb:(y == ("__debug__" : Str))=false:=by decide)
  (he:starEach (e::[.Name y p2]) X.env=(false,eval e X.env)::starEach [.Name y p2] X.env:=by exact ar rfl) (hpl:(backTo pos (starEach [.Name y p2] X.env)).any (·.1)=false:=by rfl) :
  ZE X (.Call (.Name "isinstance" p) [e,.Name y p2] [] pos) (aq X.K (iV (qZ T) fa)):=by
 exists PE.imp (f6 (BS hT) hg hm (by decide) (nt ha (nt (Dk (v:=.ty T) hgT hmT hvT rfl hn hdb) u5 rfl) he) (he:=he) (hpl:=hpl)) GU
def kP (ha:ZE X a (aq X.K fa))(he:∀whole,isTrue a X.env whole=(do let v ←whole;standAt a.pos;holding [v] (truthy v)):=by intro _;rfl):ZT X a (eX X.K (iW fa)):=by exists PT.imp (As ha he) GI
def JX (ha:ZE X a (aq X.K fa))(hb:ZE X b (aq X.K fb)):ZT X (.Compare a [.Lt] [b] pos) (eX X.K (fB (ao HY fa fb))):=by exists R.mv FB Lp ha hb (dW _)
def Gj (ha:ZE X a (aq X.K fa))(hb:ZE X b (aq X.K fb)):ZT X (.Compare a [.LtE] [b] pos) (eX X.K (fB (ao FH fa fb))):=by exists R.mv KY NC ha hb (dW _)
def Nd (ha:ZE X a (aq X.K fa))(hb:ZE X b (aq X.K fb)):ZT X (.Compare a [.Gt] [b] pos) (eX X.K (fB (ao Lf fa fb))):=by exists R.mv KZ NE ha hb (dW _)
def j1 (hu:X.A.units+64 < cLine)(ha:ZE X a (aq X.K fa))(hb:ZE X b (aq X.K fb)):ZT X (.Compare a [.Eq] [b] pos) (eX X.K (fB (ao (gQ false) fa fb))):=by exists R.mv (qO hu) DQ ha hb (dW _)
def uQ (hu:X.A.units+64 < cLine)(ha:ZE X a (aq X.K fa))(hb:ZE X b (aq X.K fb)):ZT X (.Compare a [.NotEq] [b] pos) (eX X.K (fB (ao (gQ true) fa fb))):=by exists R.mv (u6 hu) DQ ha hb (dW _)
theorem JZ (hu:X.A.units+64 < cLine)(ha:ZE X a (aq X.K fa))(hb:ZE X b (aq X.K fb))(hm:behindInMarks .In b=false:=by rfl):ZT X (.Compare a [.In] [b] pos) (eX X.K (fB (ao (DM false) fa fb))):=by exists R.mv (xQ.or (xR hu)) Lv ha hb hm
def sm {j}(ha:ZE X a (aq X.K fa)):ZT X (.Compare a [.Is] [.Constant .none j p] pos) (eX X.K (fB (iV (mG false .non) fa))):=by exists R.JY (.inl ⟨rfl,rfl⟩) sZ ha qN (dW _)
def qy {j}(ha:ZE X a (aq X.K fa)):ZT X (.Compare a [.IsNot] [.Constant .none j p] pos) (eX X.K (fB (iV (mG true .non) fa))):=by exists R.JY (.inl ⟨rfl,rfl⟩) sY ha qN (dW _)
variable {ta tb:FT}{rest:Tj}
def zv (ha:ZT X a (eX X.K ta)):ZT X (.UnaryOp .Not a pos) (eX X.K (mw ta)):=by exists PT.imp (Hn ha) CK
def kL (ha:ZT X a (eX X.K ta))(hb:ZW X (.BoolOp .And (b::rest) pos) (eX X.K tb)):ZW X (.BoolOp .And (a::b::rest) pos) (eX X.K (fS ta tb)):=by exists PW.imp (Hj ha hb) CL
def M9 (ha:ZT X a (eX X.K ta))(hb:ZW X (.BoolOp .Or (b::rest) pos) (eX X.K tb)):ZW X (.BoolOp .Or (a::b::rest) pos) (eX X.K (Cr ta tb)):=by exists PW.imp (KO ha hb) GJ
def jZ (ha:ZT X a (eX X.K ta)):ZW X (.BoolOp .And [a] pos) (eX X.K ta):=by exists C5 ha
def Jq (ha:ZT X a (eX X.K ta)):ZW X (.BoolOp .Or [a] pos) (eX X.K ta):=by exists Hi ha
def E7 (h:ZW X a (eX X.K ta)):ZT X a (eX X.K ta):=by exists h.pt
def C1 {c:Expr}(hc:ZT X c (eX X.K ta))(ha:ZE X a (aq X.K fa))(hb:ZE X b (aq X.K fb)):ZE X (.IfExp c a b pos) (aq X.K (DX ta fa fb)):=by exists PE.imp (AC hc ha hb) Kr
variable {st:Stmt}{sts aa bb:Tk}{sa sb:FS}{c tg iter:Expr}
def bx:yS X [] (eI X.K aM):=by exists m8.imp Da CO
def al (h1:ZS X st (eI X.K sa))(h2:yS X sts (eI X.K sb)):yS X (st::sts) (eI X.K (az sa sb)):=by exists m8.imp (At h1 h2) GL
def aw (h1:ZS X st (eI X.K sa)):yS X [st] (eI X.K sa):=by exists C9 h1
def ir:ZS X st (eI X.K j8):=by exists R.ir
theorem eh (he:ZE X e (aq X.K fa))(hs:swapsWith e none pos.line X.env=pure false:=by rfl):ZS X (.Expr e pos) (eI X.K (cP fa)):=by exists PS.imp (Db he hs) CU
def aX (he:ZE X e (aq X.K fa)):ZS X (.Return (some e) pos) (eI X.K (bD fa)):=by exists PS.imp (Hq he) GN
def cS (hc:ZT X c (eX X.K ta))(ha:yS X aa (eI X.K sa))(hb:yS X bb (eI X.K sb)):ZS X (.If c aa bb pos) (eI X.K (eW ta sa sb)):=by exists PS.imp (KP hc ha hb) GV
theorem aB (i:Nat){pos':Pos}(hN:X.N.Nodup)(he:ZE X e (aq X.K fa))(hi:X.N[i]?=some x:=by rfl)(hx:Ew X.env.scope x:=by first|exact Or.inl rfl|exact Or.inr rfl)(hs:swapsWith e (some (.Name x pos')) pos.line X.env=pure false:=by rfl)(hf:X.fn x=true\/X.env.scope.names.lookup x=some .local:=by first|exact .inl rfl|exact .inr rfl) :
  ZS X (.Assign [.Name x pos'] e pos) (eI X.K (aD i fa)):=by
 exists PS.imp (Ho hN hi hx he hs hf) zU
variable {g:FG}{gs:F4}{fi:FI}
theorem dO (i:Nat)(hN:X.N.Nodup)(hi:X.N[i]?=some x:=by rfl)(hx:Ew X.env.scope x:=by first|exact Or.inl rfl|exact Or.inr rfl)(hf:X.fn x=true\/X.env.scope.names.lookup x=some .local:=by first|exact .inl rfl|exact .inr rfl):ZG X (.Name x pos) (qJ X.K (bZ i)):=by exists PG.imp (Dg hN hi hx hf) G0
def oO:MZ X [] (sG X.K gd):=by exists Cg.imp Df zY
def du (h1:ZG X e (qJ X.K g))(h2:MZ X es (sG X.K gs))(hs:(assignEach (e::es) X.env).map (·.2)=assign e X.env::(assignEach es X.env).map (·.2):=by exact ut rfl):MZ X (e::es) (sG X.K (aZ g gs)):=by exists Cg.imp (AB h1 h2 hs) xF
theorem Bl {k n:Nat}(hc:X.calm=true)(h:MZ X es (sG X.K gs))(hn:(assignEach es X.env).length=n:=by rfl)(hst:(assignEach es X.env).findIdx? (·.1)=none:=by rfl):ZG X (.Tuple es k pos) (qJ X.K (uz n gs)):=by exists PG.imp (Ht hc h hn hst) GZ
def NA (hu : X.A.units + 64 < cLine) (ha : ZE X a (aq X.K fa)) (hb : ZE X b (aq X.K fb)) (hq : ∀ v, assign (.Subscript a b pos) X.env v = (do
      let ov ← holding [v] (eval a X.env)
      let iv ← holding [v, ov] (eval b X.env)
      standAt pos
      holding [v, ov, iv] (setItem ov iv v)
      release [v, ov, iv] []) := by intro _; rfl) : ZG X (.Subscript a b pos) (qJ X.K (rg fa fb)) := by
  exists PG.imp (Hu ha hb (ux.or zI (zJ (by omega))) hq) CS
def hV (ha:ZE X a (aq X.K fa)):ZI X tg a (xH X.K (cQ fa)):=by exists PI.imp (De (u4 ha)) CQ
def Bf (hg:Gl X "range")(hm:X.mg "range" = none)(ha:ZE X a (aq X.K fa))(hs:starEach [a] X.env=[(false,eval a X.env)]:=by exact ar rfl):ZI X tg (.Call (.Name "range" p) [a] [] pos) (xH X.K (rj fa)):=by exists PI.imp (xO hg hm (ag ha am hs) hs) GX
def Nx {fc:FE}(hg:Gl X "range")(hm:X.mg "range" = none)(ha:ZE X a (aq X.K fa))(hb:ZE X b (aq X.K fb))(hc:ZE X c (aq X.K fc))(hs:starEach [a,b,c] X.env=(false,eval a X.env)::starEach [b,c] X.env:=by exact ar rfl)(hs1:starEach [b,c] X.env=(false,eval b X.env)::starEach [c] X.env:=by exact ar rfl)(hs2:starEach [c] X.env=(false,eval c X.env)::starEach [] X.env:=by exact ar rfl)(hs3:(backTo pos (starEach [b,c] X.env)).any (·.1)=false:=by exact aA rfl):ZI X tg (.Call (.Name "range" p) [a,b,c] [] pos) (xH X.K (yx fa fb fc)):=by exists PI.imp (xN hg hm (ag ha (ag hb (ag hc am hs2) hs1) hs) hs hs3) GW
def Gz (hc:X.calm=true)(hi:ZI X tg iter (CY X.K fi))(hg:ZG X tg (qJ X.K g))(hb:yS X aa (eI X.K sa))(hp:PassesOwn (model X.prog X.w) X.A X.env X.xe)(hs:∀x,foldedSetIterable iter X.env x=pure x:=by intro _;rfl):ZS X (.For tg iter aa [] pos) (eI X.K (iU fi g sa)):=by exists PS.imp (Au hp hc hi hg hb hs) CT
def kT (hc:X.calm=true)(hi:ZI X tg iter (xH X.K fi))(hg:ZG X tg (qJ X.K g))(hb:yS X aa (eI X.K sa))(hp:PassesOwn (model X.prog X.w) X.A X.env X.xe)(hs:∀x,foldedSetIterable iter X.env x=pure x:=by intro _;rfl):ZS X (.For tg iter aa [] pos) (eI X.K (iU fi g sa)):=by exists PS.imp (Au hp hc hi hg hb hs) G3
theorem wp (he:ZE X e (aq X.K fa))(hg:ZG X tg (qJ X.K g))(hs:swapsWithSole [tg] e pos.line X.env=pure false:=by rfl)(hw:swappedStores [tg] e X.env=pure none:=by rfl)(h1:(assignEach [tg] X.env).map (·.2)=[assign tg X.env]:=by rfl):ZS X (.Assign [tg] e pos) (eI X.K (pA fa g)):=by exists PS.imp (Hs he hg hs hw h1) G9
def oS:Ep X [] (eX X.K gk):=by exists R.m9.imp Ay GD
def Bs (h:ZT X c (eX X.K ta)):Ep X [c] (eX X.K ta):=by exists Ax h
theorem gO {ifs:Tj}{scope:Scope}(ix:List Nat)(own caps:Tn)(hc:X.calm=true)(n:aP X.env.scope scope own caps)(hi:ZI X tg iter (xH X.K fi))
  (hb:∀cl C s₂ H₂ fp,ZG (aL X scope cl C s₂ H₂ fp (own++caps)) tg (qJ X.K g)/\Ep (aL X scope cl C s₂ H₂ fp (own++caps)) ifs (eX X.K ta)/\ZE (aL X scope cl C s₂ H₂ fp (own++caps)) e (aq X.K fa))
  (hix:ix.map (fun i=>X.N[i]?)=caps.map some:=by rfl)
  (hs:∀x,foldedSetIterable iter X.env x=pure x:=by intro _;rfl):ZE X (.ListComp e [⟨tg,iter,ifs,0⟩] scope pos) (aq X.K (dM ix own.length fi g ta fa)):=by
 exists R.gO ix own caps hc n hi hb hix hs
theorem qI (i:Nat){py spos:Pos}{ifs:Tj}{scope:Scope}(ix:List Nat)(own caps:Tn)(hc:X.calm=true)(n:aP X.env.scope scope own caps)(hN:X.N.Nodup)(hi:ZI X tg iter (xH X.K fi))
  (hb:∀cl C s₂ H₂ fp,ZG (aL X scope cl C s₂ H₂ fp (own++caps)) tg (qJ X.K g)/\Ep (aL X scope cl C s₂ H₂ fp (own++caps)) ifs (eX X.K ta)/\ZE (aL X scope cl C s₂ H₂ fp (own++caps)) e (aq X.K fa))
  (hsw:swapsWith (.ListComp e [⟨tg,iter,ifs,0⟩] scope pos) (some (.Name x py)) spos.line X.env=pure true:=by rfl)
  (hy:X.N[i]?=some x:=by rfl) (hyl:Ew X.env.scope x:=by first|exact Or.inl rfl|exact Or.inr rfl)
  (hix:ix.map (fun i=>X.N[i]?)=caps.map some:=by rfl)
  (hs:∀x,foldedSetIterable iter X.env x=pure x:=by intro _;rfl) (hf:X.fn x=true\/X.env.scope.names.lookup x=some .local:=by first|exact .inl rfl|exact .inr rfl) :
  ZS X (.Assign [.Name x py] (.ListComp e [⟨tg,iter,ifs,0⟩] scope pos) spos) (eI X.K (aD i (dM ix own.length fi g ta fa))):=by
 exists R.qI i ix own caps hc n hN hi hb hsw hy hyl hix hs hf
end
def okP {P:Program}{w:World}{K:zac}{mg:Td}{base:Heap}{x:Str}{st:Stmt}{N ps:Tn}{k:Nat}{b:FS}(d:bS K mg x st ps)(S:ax N ps (ai st))
  (hbody:∀(f:Addr) (cdv:Value) (A:Around) (outer:List Env) (s:Shared) (H:Hp) (E:XK),bG k (A.deeper (envOfC x (ai st) s.heap.objs.size f cdv))->yS (iX jN P w K mg base N x (ai st) f cdv A outer s H E).nox (bm st) (eI K b)) :
  bj P w K mg base (k+1) x ps (eQ N.length b):=by
 exists R.okP d S hbody
theorem aH {X:Cx}{k:Nat}{x:Str}{ps:Tn}{mf:MF}{e:Expr}{es:Tj}{ga:FA}{p pos:Pos}{n:Nat}(F:bj X.prog X.w X.K X.mg X.base k x ps mf)(hr:bG k X.A)(ha:ZA X (e::es) (fY X.K ga))(hg:Gl X x:=by rfl)(hn:ps.length=n:=by rfl)
  (hdb:(x == ("__debug__" : Str))=false:=by decide) (he:lB e es X:=by exact ar rfl) (hpl:(backTo pos (starEach es X.env)).any (·.1)=false:=by exact aA rfl) :
  ZE X (.Call (.Name x p) (e::es) [] pos) (aq X.K (aN mf n ga)):=by
 exists R.aH F hr ha hg hn hdb he hpl
theorem gC {X:Cx}{k:Nat}{x:Str}{ps:Tn}{mf:MF}{e:Expr}{es:Tj}{ga:FA}{p pos:Pos}{n:Nat}(F:bj X.prog X.w X.K X.mg X.base k x ps mf)(hr:bG k X.A)(ha:ZA X (e::es) (fY X.K ga))(hg:Gl X x:=by rfl)(hn:ps.length=n:=by rfl)
  (hdb:(x == ("__debug__" : Str))=false:=by decide) (he:lB e es X:=by exact ar rfl) (hpl:(backTo pos (starEach es X.env)).any (·.1)=false:=by exact aA rfl) :
  ZE X (.Call (.Name x p) (e::es) [] pos) (aq X.K (dC mf n ga)):=by
 exists R.gC F hr ha hg hn hdb he hpl
def okN {P:Program}{w:World}{K:zac}{mg:Td}{base:Heap}{x:Str}{st:Stmt}{N ps:Tn}{k:Nat}{b:FS}(d:bS K mg x st ps)(S:ax N ps (ai st))
  (hbody:∀(f:Addr) (cdv:Value) (A:Around) (outer:List Env) (s:Shared) (H:Hp) (E:XK),bG k (A.deeper (envOfC x (ai st) s.heap.objs.size f cdv))->yS (iX jN P w K mg base N x (ai st) f cdv A outer s H E).nox (bm st) (eI K b)) :
  mM P w K mg base (k+1) x ps (zR N.length b):=by
 exists R.okN d S hbody
theorem nq {X:Cx}{k:Nat}{x:Str}{ps:Tn}{mf:MC}{e:Expr}{es:Tj}{ga:FA}{p pos:Pos}{n:Nat}(F:mM X.prog X.w X.K X.mg X.base k x ps mf)(hr:bG k X.A)(ha:ZA X (e::es) (fY X.K ga))(hg:Gl X x:=by rfl)(hn:ps.length=n:=by rfl)
  (hdb:(x == ("__debug__" : Str))=false:=by decide) (he:lB e es X:=by exact ar rfl) (hpl:(backTo pos (starEach es X.env)).any (·.1)=false:=by exact aA rfl) :
  ZE X (.Call (.Name x p) (e::es) [] pos) (aq X.K (kz mf n ga)):=by
 exists R.nq F hr ha hg hn hdb he hpl
def okW {P:Program}{w:World}{K:zac}{mg:Td}{base:Heap}{x:Str}{st:Stmt}{N ps:Tn}{k:Nat}{b:FS}(d:bS K mg x st ps)(S:ax N ps (ai st))
  (hbody:∀(f:Addr) (cdv:Value) (A:Around) (outer:List Env) (s:Shared) (H:Hp) (E:XK),bG k (A.deeper (envOfC x (ai st) s.heap.objs.size f cdv))->yS (iX jN P w K mg base N x (ai st) f cdv A outer s H E).nox (bm st) (eI K b)) :
  mL P w K mg base (k+1) x ps (mV N.length b):=by
 exists R.okW d S hbody
def HV {P:Program}{w:World}{K:zac}{mg:Td}{base:Heap}{nm qual:Str}{C:Addr}{st:Stmt}{N ps:Tn}{k:Nat}{b:FS}(d:jz K C nm qual st ps)(S:ax N ps (ai st))
  (hbody:∀(f:Addr) (cdv:Value) (A:Around) (outer:List Env) (s:Shared) (H:Hp) (E:XK),bG k (A.deeper (envOfC qual (ai st) s.heap.objs.size f cdv))->yS (iX jN P w K mg base N qual (ai st) f cdv A outer s H E).nox (bm st) (eI K b)) :
  eU P w K mg base (k+1) nm C ps (mV N.length b):=by
 exists R.HV d S hbody
theorem jE {X:Cx}{k:Nat}{x:Str}{ps:Tn}{mf:MW}{e:Expr}{es:Tj}{ga:FA}{p pos:Pos}{n:Nat}(F:mL X.prog X.w X.K X.mg X.base k x ps mf)(hr:bG k X.A)(ha:ZA X (e::es) (fY X.K ga))(hg:Gl X x:=by rfl)(hn:ps.length=n:=by rfl)
  (hdb:(x == ("__debug__" : Str))=false:=by decide) (he:lB e es X:=by exact ar rfl) (hpl:(backTo pos (starEach es X.env)).any (·.1)=false:=by exact aA rfl) :
  ZE X (.Call (.Name x p) (e::es) [] pos) (aq X.K (gf mf n ga)):=by
 exists R.jE F hr ha hg hn hdb he hpl
theorem j9 {X:Cx}{k:Nat}{c nm:Str}{C:Addr}{ps:Tn}{mf:MW}{o e:Expr}{es:Tj}{fo:FE}{ga:FA}{apos pos:Pos}{n:Nat}{pl:Sem Bool}(N:nc X.K X.mg c C)(F:eU X.prog X.w X.K X.mg X.base k nm C ps mf)(hr:bG k X.A)(ho:ZE X o (aq X.K fo))(ha:ZA X (e::es) (fY X.K ga))(hn:ps.length=n:=by rfl)
  (he:lB e es X:=by exact ar rfl) (hpl:(backTo pos (starEach es X.env)).any (·.1)=false:=by exact aA rfl)
  (ht:eval (.Call (.Attribute o nm apos) (e::es) [] pos) X.env=(do
   let ov ←eval o X.env
   standAt apos.atName
   let (mth,first) ←holding [ov] (getMethod ov nm pl)
   callWith pos mth first (backTo pos (starEach (e::es) X.env)) (backToKw pos (keywordEach [] X.env))):=by rfl) :
  ZE X (.Call (.Attribute o nm apos) (e::es) [] pos) (aq X.K (jp c nm mf n fo ga)):=by
 exists R.j9 N F hr ho ha hn he hpl ht
theorem qM {X:Cx}{k:Nat}{c:Str}{C:Addr}{ps:Tn}{mf:MW}{e:Expr}{es:Tj}{ga:FA}{p pos:Pos}{n:Nat}(N:nc X.K X.mg c C)(hk:PySem.W.makesIn X.K C=true)(hp:PySem.W.keepIn X.K (.ref C)=true)(F:eU X.prog X.w X.K X.mg X.base k "__init__" C ps mf)(hr:bG (k+1) X.A)(ha:ZA X (e::es) (fY X.K ga))(hg:Gl X c:=by rfl)(hn:ps.length=n:=by rfl)
  (hdb:(c == ("__debug__" : Str))=false:=by decide) (he:lB e es X:=by exact ar rfl) (hpl:(backTo pos (starEach es X.env)).any (·.1)=false:=by exact aA rfl):ZE X (.Call (.Name c p) (e::es) [] pos) (aq X.K (l8 c mf n ga)):=by
 exists R.qM N hk hp F hr ha hg hn hdb he hpl
def C3 {X:Cx}{es:Tj}{ga:FA}{p pos:Pos}(hc:X.calm=true)(hg:Gl X "dict")(hm:X.mg "dict" = none)(ha:ZA X (e::es) (fY X.K ga))(he:lB e es X:=by exact ar rfl)(hpl:(backTo pos (starEach es X.env)).any (·.1)=false:=by exact aA rfl) :
  ZE X (.Call (.Name "dict" p) (e::es) [] pos) (aq X.K (dN mJ ga)):=by
 exists PE.imp (et (qg hc) hg hm (by decide) ha (he:=he) (hpl:=hpl)) (g6 DS)
theorem kW {X:Cx}{c f:Str}{C:Addr}{o:Expr}{fo:FE}(N:nc X.K X.mg c C)(hf:eE X.K C f)(ho:ZE X o (aq X.K fo))(hb:attributeBase o f X.env (eval o X.env)=eval o X.env:=by rfl):ZE X (.Attribute o f pos) (aq X.K (eD c f fo)):=by exists PE.imp (HC ho hb) (G5 N hf)
theorem zO {X:Cx}{c f:Str}{C:Addr}{o e:Expr}{fo fv:FE}{pos pos':Pos}(N:nc X.K X.mg c C)(hf:eE X.K C f)(ho:ZE X o (aq X.K fo))(hv:ZE X e (aq X.K fv))(hs:swapsWith e (some (.Attribute o f pos')) pos.line X.env=pure false:=by rfl):ZS X (.Assign [.Attribute o f pos'] e pos) (eI X.K (kU c f fo fv)):=by exists PS.imp (Hr ho hv hs) (CM N hf)
def Ft {X:Cx}{a:Expr}{fa:FE}{p2 pos:Pos}{lo hi:Option Expr}{fl fh:FO}(ha:ZE X a (aq X.K fa))(hl:ZO X lo (xG X.K fl))(hh:ZO X hi (xG X.K fh)):ZE X (.Subscript a (.Slice lo hi none p2) pos) (aq X.K (Bu fa fl fh)):=by exists PE.imp (sU Gw ha hl hh) GK
def Fw {X:Cx}{a b:Expr}{fa fb:FE}(ha:ZE X a (aq X.K fa))(hb:ZE X b (aq X.K fb))(hs:uw b:=by intro _ _;rfl):ZE X (.Subscript a b pos) (aq X.K (ao FJ fa fb)):=by exists PE.imp (sV ha hb hs) (fX Lu)
def Hd {X:Cx}{es:Tj}{ga:FA}{p pos:Pos}(hg:Gl X "len")(hm:X.mg "len" = none)(ha:ZA X (e::es) (fY X.K ga))(he:lB e es X:=by exact ar rfl)(hpl:(backTo pos (starEach es X.env)).any (·.1)=false:=by exact aA rfl) :
  ZE X (.Call (.Name "len" p) (e::es) [] pos) (aq X.K (dN xZ ga)):=by
 exists PE.imp (f6 rP hg hm PySem.boot_len ha (he:=he) (hpl:=hpl)) (g6 Iu)
theorem Hf {X:Cx}{e o:Expr}{fa fb:FE}{apos cpos:Pos}(ho:ZE X o (aq X.K fa))(hb:ZE X e (aq X.K fb))(hbase:attributeBase o "join" X.env (eval o X.env)=eval o X.env:=by rfl)
  (hfew:((backTo cpos (starEach [e] X.env)).all (fun x=>!x.1) && (backToKw cpos (keywordEach [] X.env)).all (fun x=>x.1.isSome)
   && decide ([e].length+([]:List Keyword).length+(if ([]:List Keyword).isEmpty then 0 else 1) < 30))=true:=by rfl)
  (hline:(apos.endLine == cpos.line)=true:=by rfl) (hs:starEach [e] X.env=(false,eval e X.env)::starEach [] X.env:=by exact ar rfl) (hplain:(backTo cpos (starEach [] X.env)).any (·.1)=false:=by exact aA rfl) :
  ZE X (.Call (.Attribute o "join" apos) [e] [] cpos) (aq X.K (ao p0 fa fb)):=by
 exists PE.imp (Fz PySem.F.plainAttrs_str PySem.F.slot_str_join PySem.F.type_str_join Dx ho (nt hb u5 hs) hbase hfew hline hs hplain) (G8 Iv)
def KM {X:Cx}{a b:Expr}{fa fb:FE}(hu:X.A.units+64 < cLine)(ha:ZE X a (aq X.K fa))(hb:ZE X b (aq X.K fb))(hs:Eu b:=by intro _ _;rfl):ZE X (.Subscript a b pos) (aq X.K (yA fa fb)):=by exists PE.imp (wG (by omega) ha hb hs) G7
def He {X:Cx}{es:Tj}{ga:FA}{p pos:Pos}(hg:Gl X "tuple")(hm:X.mg "tuple" = none)(ha:ZA X (e::es) (fY X.K ga))(he:lB e es X:=by exact ar rfl)(hpl:(backTo pos (starEach es X.env)).any (·.1)=false:=by exact aA rfl):ZE X (.Call (.Name "tuple" p) (e::es) [] pos) (aq X.K (dN A4 ga)):=by exists PE.imp (et jY hg hm (by decide) ha (he:=he) (hpl:=hpl)) (g6 Lr)
def Hh {X:Cx}{a b:Expr}{fa fb:FE}(ha:ZE X a (aq X.K fa))(hb:ZE X b (aq X.K fb)):ZE X (.BinOp a .Add b pos) (aq X.K (ao uu fa fb)):=by exists PE.imp (mB Dt ha hb) (fX Iy)
def Hb {X:Cx}{o e f:Expr}{fa fb fc:FE}{apos cpos:Pos}(hu:X.A.units+64 < cLine)(ho:ZE X o (aq X.K fa))(he:ZE X e (aq X.K fb))(hf:ZE X f (aq X.K fc))(m:M2 X o "setdefault" apos e f cpos:=by exact ⟨rfl,rfl,rfl,rfl⟩) :
  ZE X (.Call (.Attribute o "setdefault" apos) [e,f] [] cpos) (aq X.K (oU fa fb fc)):=by
 exists PE.imp (wF (by omega) ho he hf m) CN
def KL {X:Cx}:ZE X (.Dict [] [] pos) (aq X.K DY):=by exists PE.imp AD G6
def KG {X:Cx}{a b:Expr}{fa fb:FE}(hu:X.A.units+64 < cLine)(ha:ZE X a (aq X.K fa))(hb:ZE X b (aq X.K fb))(hs:Eu b:=by intro _ _;rfl):ZE X (.Subscript a b pos) (aq X.K (Bt fa fb)):=by exists PE.imp (wG (by omega) ha hb hs) GH
def xJ {X:Cx}{es:Tj}{ga:FA}{p pos:Pos}(hc:X.calm=true)(hg:Gl X "sorted")(hm:X.mg "sorted" = none)(ha:ZA X (e::es) (fY X.K ga))(he:lB e es X:=by exact ar rfl)(hpl:(backTo pos (starEach es X.env)).any (·.1)=false:=by exact aA rfl) :
  ZE X (.Call (.Name "sorted" p) (e::es) [] pos) (aq X.K (dN pO ga)):=by
 exists PE.imp (f6 (rL hc) hg hm (by decide) ha (he:=he) (hpl:=hpl)) (g6 DP)
theorem DN {X:Cx}{elts:Tj}{x1}{pt apos cpos:Pos}{o:Expr}{fa:FE}(ho:ZE X o (aq X.K fa))(hbase:attributeBase o "items" X.env (eval o X.env)=eval o X.env:=by rfl)(hline:(apos.endLine == cpos.line)=true:=by rfl):ZI X (.Tuple elts x1 pt) (.Call (.Attribute o "items" apos) [] [] cpos) (CY X.K (DW fa)):=by exists PI.imp (AA (u4 ho) hbase hline) GY
def C2 {X:Cx}{es:Tj}{ga:FA}{p pos:Pos}(hu:X.A.units+64 < cLine)(hc:X.calm=true)(hg:Gl X "dict")(hm:X.mg "dict" = none)(ha:ZA X (e::es) (fY X.K ga))(he:lB e es X:=by exact ar rfl)(hpl:(backTo pos (starEach es X.env)).any (·.1)=false:=by exact aA rfl) :
  ZE X (.Call (.Name "dict" p) (e::es) [] pos) (aq X.K (dN qd ga)):=by
 exists PE.imp (et (vS hu hc) hg hm (by decide) ha (he:=he) (hpl:=hpl)) (g6 DR)
def KH {X:Cx}{o e f:Expr}{fa fb fc:FE}{apos cpos:Pos}(hu:X.A.units+64 < cLine)(ho:ZE X o (aq X.K fa))(he:ZE X e (aq X.K fb))(hf:ZE X f (aq X.K fc))(m:M2 X o "setdefault" apos e f cpos:=by exact ⟨rfl,rfl,rfl,rfl⟩) :
  ZE X (.Call (.Attribute o "setdefault" apos) [e,f] [] cpos) (aq X.K (yy fa fb fc)):=by
 exists PE.imp (wF (by omega) ho he hf m) GM
def C4 {X:Cx}{a:Expr}{fa:FE}(ha:ZE X a (aq X.K fa)):ZE X a (aq X.K (Ce fa)):=by exists PE.imp ha Ks
def KK {X:Cx}{a b:Expr}{fa fb:FE}(hu:X.A.units+64 < cLine)(ha:ZE X a (aq X.K fa))(hb:ZE X b (aq X.K fb)):ZE X (.Compare a [.Eq] [b] pos) (aq X.K (ao (oZ false) fa fb)):=by exists PE.imp (kX (qO hu) ha hb (dW _)) (fX Bn)
def wj {X:Cx}{a b:Expr}{fa fb:FE}(hu:X.A.units+64 < cLine)(ha:ZE X a (aq X.K fa))(hb:ZE X b (aq X.K fb)):ZT X (.Compare a [.Eq] [b] pos) (eX X.K (fB (ao (oZ false) fa fb))):=by exists R.mv (qO hu) Bn ha hb (dW _)
def JW {X:Cx}{a b:Expr}{fa fb:FE}(hu:X.A.units+64 < cLine)(ha:ZE X a (aq X.K fa))(hb:ZE X b (aq X.K fb)):ZT X (.Compare a [.NotEq] [b] pos) (eX X.K (fB (ao (oZ true) fa fb))):=by exists R.mv (u6 hu) Bn ha hb (dW _)
section
variable {X:Cx}{e o:Expr}{es:Tj}{fa:FE}{ga:FA}{apos cpos:Pos}
theorem oj (ho:ZE X o (aq X.K fa))(ha:ZA X (e::es) (fY X.K ga))(hbase:attributeBase o "append" X.env (eval o X.env)=eval o X.env:=by rfl)
  (hfew:((backTo cpos (starEach (e::es) X.env)).all (fun x=>!x.1) && (backToKw cpos (keywordEach [] X.env)).all (fun x=>x.1.isSome)
   && decide ((e::es).length+([]:List Keyword).length+(if ([]:List Keyword).isEmpty then 0 else 1) < 30))=true:=by rfl)
  (hline:(apos.endLine == cpos.line)=true:=by rfl) (hs:lB e es X:=by exact ar rfl) (hplain:(backTo cpos (starEach es X.env)).any (·.1)=false:=by exact aA rfl) :
  ZE X (.Call (.Attribute o "append" apos) (e::es) [] cpos) (aq X.K (yz jR fa ga)):=by
 exists PE.imp (Fz PySem.F.plainAttrs_list PySem.F.slot_list_append PySem.F.type_list_append xU ho ha hbase hfew hline hs hplain) (Kq Ly)
end
def Iz {P:Program}{w:World}{K:zac}{mg:Td}{base:Heap}{x qual:Str}{st:Stmt}{f:Addr}{fd:FuncData}{N ps:Tn}{k:Nat}{b:FS}(F:nG K x qual st f fd)(S:ax N ps (ai st))
  (hbody:∀(cdv:Value) (A:Around) (outer:List Env) (s:Shared) (H:Hp) (E:XK),bG k (A.deeper (envOfC qual (ai st) s.heap.objs.size f cdv))->yS (iX jN P w K mg base N qual (ai st) f cdv A outer s H E).nox (bm st) (eI K b)) :
  ca P w K mg base jN (k+1) f fd ps (yT K ps.length (eQ N.length b)):=by
 exists nG.okP F S hbody
def PQ {P:List Value->Prop}(h:P []):∀us:Te,us.length=0->P us:=fun us e=>by rw [zcv.mp e];exact h
theorem Js {P:List Value->Prop}{n:Nat}(h:∀a us,us.length=n->P (a::us)):∀us:Te,us.length=n+1->P us:=fun us e=>by
 cases us with
 |nil=>cases e
 |cons a us=>exact h a us (Nat.succ.inj e)
def F9 {P:List Value->Prop}(h:∀a,P [a]):∀us:Te,us.length=1->P us:=Js fun a=>PQ (P:=fun us=>P (a::us)) (h a)
def xm {P:List Value->Prop}(h:∀a b,P [a,b]):∀us:Te,us.length=2->P us:=Js fun a=>F9 (P:=fun us=>P (a::us)) (h a)
def Ju {P:List Value->Prop}(h:∀a b c,P [a,b,c]):∀us:Te,us.length=3->P us:=Js fun a=>xm (P:=fun us=>P (a::us)) (h a)
def L9 {P:List Value->Prop}(h:∀a b c d,P [a,b,c,d]):∀us:Te,us.length=4->P us:=Js fun a=>Ju (P:=fun us=>P (a::us)) (h a)
def Jt {P:List Value->Prop}(h:∀a b c d e,P [a,b,c,d,e]):∀us:Te,us.length=5->P us:=Js fun a=>L9 (P:=fun us=>P (a::us)) (h a)
section
variable {K:zac}{h:Heap}{mg:Td}{x:Str}{st:Stmt}{ps:Tn}
def FK (K:zac)(x:Str)(st:Stmt):Prop:=∃f:Addr,PySem.W.nsIn K mainGlobals x=some (some (.ref f))/\∃(oc:Value) (od:Option Addr) (kV dc pm:Value) (an:Option Addr) (cd ct:Value) (sl:Array (Tg)),
 K.lookup f=some ⟨oc,od,.func (PySem.W.fnOf x x (fM st) (bm st) (ai st) .none kV dc pm an cd ct),sl⟩/\PySem.W.codeIn K cd x=true/\PySem.W.keepIn K (.ref f)=true
abbrev F5 (x:Str)(st:Stmt)(ps:Tn):Prop:=∀(kV doc pm:Value) (an:Option Addr) (cdv ct:Value) (us:Te),us.length=ps.length->bindArgs (PySem.W.fnOf x x (fM st) (bm st) (ai st) .none kV doc pm an cdv ct) ⟨us,[]⟩=pure (ps.zip us)
def FK.at_ (a:FK K x st)(X:K.In h)(G:h.Ns mainGlobals mg)(hb:F5 x st ps):bS K mg x st ps:=by obtain ⟨f,a,oc,od,kV,dc,pm,an,cd,ct,sl,l,c,k⟩:=a;have F:=vE l c k;exact ⟨_,_,F,F.binds hb,zch X G a⟩
def Jb (K:zac)(C:Addr)(nm qual:Str)(st:Stmt):Prop:=∃f:Addr,PySem.W.findIn K (.ref C) nm=some (some (.ref f))/\PySem.W.isFn K (.ref f)=true/\∃(oc:Value) (od:Option Addr) (kV dc pm:Value) (an:Option Addr) (cd ct:Value) (sl:Array (Tg)),
 K.lookup f=some ⟨oc,od,.func (PySem.W.fnOf nm qual (fM st) (bm st) (ai st) .none kV dc pm an cd ct),sl⟩/\PySem.W.codeIn K cd qual=true/\PySem.W.keepIn K (.ref f)=true
def Jb.at_ {C:Addr}{nm qual:Str}(a:Jb K C nm qual st)(hb:∀(kV doc pm:Value) (an:Option Addr) (cdv ct:Value) (us:Te),us.length=ps.length->bindArgs (PySem.W.fnOf nm qual (fM st) (bm st) (ai st) .none kV doc pm an cdv ct) ⟨us,[]⟩=pure (ps.zip us)):jz K C nm qual st ps:=by obtain ⟨f,a,i,oc,od,kV,dc,pm,an,cd,ct,sl,l,c,k⟩:=a;have F:=vE l c k;exact ⟨_,_,F,F.binds hb,⟨a,i,k⟩⟩
def FK.law {fa:Addr}(a:FK K x st)(X:K.In h)(G:h.Ns mainGlobals mg)(e:mg x=some (.ref fa))(hb:F5 x st ps):∃fd,nG K x x st fa fd/\∀(s:Shared) (us:Te),us.length=ps.length->BindsTo s fd ⟨us,[]⟩ (ps.zip us):=by obtain ⟨f,a,oc,od,kV,dc,pm,an,cd,ct,sl,l,c,k⟩:=a;have:=e.symm.trans (zch X G a);cases this;exact ⟨_,vE l c k,fun s us hl=>.of_eq (hb _ _ _ _ _ _ us hl)⟩
end
end HW
namespace HW
open L2
section
variable {O:Lo}{U U1:ac}{x y:R}{d:D}
theorem ll {O:Lo}:ae 0 (some x::O) U=some (x,U):=rfl
def mI {i:Nat}{o:Option R}{O:Lo}:ae (i+1) (o::O) U=ae i O U:=by simp [ae]
theorem IE:fK d O U=some (.v d,U):=rfl
def JK (o:Option (R×ac))(g:R->R->ac->Option (R×ac))(fb:FE)(O:Lo):Option (R×ac):=o.bind fun a=>(fb O a.2).bind fun b=>g a.1 b.1 b.2
def EX (x:R)(o:Option (R×ac))(g:R->R->ac->Option (R×ac)):Option (R×ac):=o.bind fun b=>g x b.1 b.2
theorem tZ {g fa fb}:ao g fa fb O U=JK (fa O U) g fb O:=rfl
theorem oX {g fb}:JK (some (x,U)) g fb O=EX x (fb O U) g:=rfl
theorem oW {g}:EX x (some (y,U)) g=g x y U:=rfl
def JD (o:Option (R×ac))(g:R->ac->Option (R×ac)):Option (R×ac):=o.bind fun a=>g a.1 a.2
theorem O8 {g fa}:iV g fa O U=JD (fa O U) g:=rfl
theorem NP {g}:JD (some (x,U)) g=g x U:=rfl
theorem kC:aj O U=some ([],U):=rfl
def zp (o:Option (R×ac))(fr:FA)(O:Lo):Option (List R×ac):=o.bind fun a=>(fr O a.2).bind fun r=>some (a.1::r.1,r.2)
def wa (x:R)(o:Option (List R×ac)):Option (List R×ac):=o.bind fun r=>some (x::r.1,r.2)
theorem iI {fa fr}:ad fa fr O U=zp (fa O U) fr O:=rfl
theorem gh {fr}:zp (some (x,U)) fr O=wa x (fr O U):=rfl
theorem gg {xs}:wa x (some (xs,U))=some (x::xs,U):=rfl
def JU (o:Option (List R×ac))(g:List R->ac->Option (R×ac)):Option (R×ac):=o.bind fun a=>g a.1 a.2
theorem w6 {g fa}:dN g fa O U=JU (fa O U) g:=rfl
theorem rA {g xs}:JU (some (xs,U)) g=g xs U:=rfl
def OY (o:Option (R×ac)):Option (Bool×ac):=o.bind fun a=>match a.1 with|.v (.bl b)=>some (b,a.2)|_=>none
theorem IQ {fa}:fB fa O U=OY (fa O U):=rfl
theorem BE {b}:OY (some (.v (.bl b),U))=some (b,U):=rfl
def ze (o:Option (R×ac)):Option (Bool×ac):=o.bind fun a=>(za a.1 a.2).bind fun b=>some (b,a.2)
theorem NR {fa}:iW fa O U=ze (fa O U):=rfl
theorem Mt {b}:ze (some (.v (.bl b),U))=some (b,U):=rfl
theorem Ms {xs}:ze (some (.v (.tup xs),U))=some (!xs.isEmpty,U):=rfl
def E6 (o:Option (Bool×ac))(u:FT)(O:Lo):Option (Bool×ac):=o.bind fun c=>if c.1=true then u O c.2 else some (false,c.2)
def JJ (o:Option (Bool×ac))(u:FT)(O:Lo):Option (Bool×ac):=o.bind fun c=>if c.1=true then some (true,c.2) else u O c.2
def EY (o:Option (Bool×ac)):Option (Bool×ac):=o.bind fun c=>some (!c.1,c.2)
theorem Mw {t u}:fS t u O U=E6 (t O U) u O:=rfl
theorem LG {b u}:E6 (some (b,U)) u O=if b=true then u O U else some (false,U):=rfl
theorem NT {t u}:Cr t u O U=JJ (t O U) u O:=rfl
theorem Mu {b u}:JJ (some (b,U)) u O=if b=true then some (true,U) else u O U:=rfl
theorem Mv {t}:mw t O U=EY (t O U):=rfl
theorem LF {b}:EY (some (b,U))=some (!b,U):=rfl
def zr (o:Option (R×ac))(fb:FE)(O:Lo):Option (R×ac):=o.bind fun a=>match a.1 with|.v (.bl c)=>if c=true then fb O a.2 else some (.v (.bl false),a.2)|_=>none
def EW (o:Option (R×ac))(fb:FE)(O:Lo):Option (R×ac):=o.bind fun a=>match a.1 with|.v (.bl c)=>if c=true then some (.v (.bl true),a.2) else fb O a.2|_=>none
def zj (o:Option (R×ac)):Option (R×ac):=o.bind fun a=>match a.1 with|.v (.bl c)=>some (.v (.bl (!c)),a.2)|_=>none
theorem Ov {fa fb}:rk fa fb O U=zr (fa O U) fb O:=rfl
theorem MS {c fb}:zr (some (.v (.bl c),U)) fb O=if c=true then fb O U else some (.v (.bl false),U):=rfl
theorem FV {fa fb}:LD fa fb O U=EW (fa O U) fb O:=rfl
theorem N0 {c fb}:EW (some (.v (.bl c),U)) fb O=if c=true then some (.v (.bl true),U) else fb O U:=rfl
theorem N2 {fa}:l7 fa O U=zj (fa O U):=rfl
theorem MG {c}:zj (some (.v (.bl c),U))=some (.v (.bl (!c)),U):=rfl
def JN (o:Option (Bool×ac))(fa fb:FE)(O:Lo):Option (R×ac):=o.bind fun c=>if c.1=true then fa O c.2 else fb O c.2
theorem Pt {t fa fb}:DX t fa fb O U=JN (t O U) fa fb O:=rfl
theorem Od {c fa fb}:JN (some (c,U)) fa fb O=if c=true then fa O U else fb O U:=rfl
def v8 (o:Option (List R×ac)):Option (R×ac):=o.bind fun a=>(vals a.1).bind fun ds=>if ds.length<=sizeLine then some (.v (.tup ds),a.2) else none
def v9 (o:Option (List R×ac)):Option (R×ac):=o.bind fun a=>(vals a.1).bind fun ds=>if ds.length<=sizeLine then some (.p a.2.length,a.2++[.lst ds]) else none
theorem Bw {fa}:c7 fa O U=v8 (fa O U):=rfl
def wX {rs ds}(h:vals rs=some ds)(hl:ds.length<=sizeLine):v8 (some (rs,U))=some (.v (.tup ds),U):=by simp [v8,h,hl]
theorem ID {fa}:cx fa O U=v9 (fa O U):=rfl
def D3 {rs ds}(h:vals rs=some ds)(hl:ds.length<=sizeLine):v9 (some (rs,U))=some (.p U.length,U++[.lst ds]):=by simp [v9,h,hl]
def sk (o:Option (R×ac)):Option (R×ac):=o.bind fun a=>(Cd a.1 a.2).bind fun b=>some (.v b.1,b.2)
theorem FW {fa}:bT fa O U=sk (fa O U):=rfl
theorem BB:sk (some (.v d,U))=some (.v d,U):=rfl
def II {n xs}(h:U[n]?=some (.lst xs)):sk (some (.p n,U))=some (.v (.fl xs),U.set n (.fz xs)):=by simp [sk,Cd,h]
def lE (o:Option (List R×ac))(f:MF)(n:Nat):Option (R×ac):=o.bind fun a=>(vals a.1).bind fun ds=>if ds.length=n then (f ds).bind fun d=>some (.v d,a.2) else none
theorem w5 {f n fa}:aN f n fa O U=lE (fa O U) f n:=rfl
def BD {f:MF}{n rs ds}(h:vals rs=some ds)(hl:ds.length=n)(hf:f ds=some d):lE (some (rs,U)) f n=some (.v d,U):=by simp [lE,h,hl,hf]
theorem D1:aM O U=some (.nx O U):=rfl
def Mb (o:Option nF)(b:FS):Option nF:=o.bind fun o=>match o with|.nx O' U'=>b O' U'|o=>some o
theorem kB {a b}:az a b O U=Mb (a O U) b:=rfl
theorem gF {b}:Mb (some (.nx O U)) b=b O U:=rfl
theorem MB {b}:Mb (some (.rt x U)) b=some (.rt x U):=rfl
def zo (o:Option (R×ac))(O:Lo):Option nF:=o.bind fun a=>some (.nx O a.2)
theorem D4 {f}:cP f O U=zo (f O U) O:=rfl
theorem BC:zo (some (x,U)) O=some (.nx O U):=rfl
def EV (o:Option (R×ac)):Option nF:=o.bind fun a=>some (.rt a.1 a.2)
theorem vG {f}:bD f O U=EV (f O U):=rfl
theorem D0:EV (some (x,U))=some (.rt x U):=rfl
def sj (o:Option (Bool×ac))(a b:FS)(O:Lo):Option nF:=o.bind fun c=>if c.1=true then a O c.2 else b O c.2
theorem vJ {t a b}:eW t a b O U=sj (t O U) a b O:=rfl
theorem IG {a b}:sj (some (true,U)) a b O=a O U:=rfl
theorem IH {a b}:sj (some (false,U)) a b O=b O U:=rfl
def EU (o:Option (R×ac))(i:Nat)(O:Lo):Option nF:=o.bind fun a=>some (.nx (O.set i (some a.1)) a.2)
theorem kA {i f}:aD i f O U=EU (f O U) i O:=rfl
theorem lm {i}:EU (some (x,U)) i O=some (.nx (O.set i (some x)) U):=rfl
def E2 (o:Option (List D×ac))(g:FG)(b:FS)(O:Lo):Option nF:=o.bind fun a=>dl g b a.1 O a.2
theorem rq {i g b}:iU i g b O U=E2 (i O U) g b O:=Eq.trans rfl rfl
theorem nE {xs g b}:E2 (some (xs,U)) g b O=dl g b xs O U:=Eq.trans rfl rfl
def zh (o:Option (R×ac)):Option (List D×ac):=o.bind fun a=>match a.1 with|.v (.fl xs)=>some (xs,a.2)|.v (.tup xs)=>some (xs,a.2)|_=>none
theorem wZ {f}:cQ f O U=zh (sk (f O U)):=rfl
theorem Bz {xs}:zh (some (.v (.fl xs),U))=some (xs,U):=rfl
theorem By {xs}:zh (some (.v (.tup xs),U))=some (xs,U):=rfl
def JI (o:Option (R×ac)):Option (List D×ac):=o.bind fun a=>match a.1 with|.v (.int j)=>if -(2 ^ 62)<=j/\j < 2 ^ 62 then some ((List.range j.toNat).map fun i=>.int (i:Nat),a.2) else none|_=>none
theorem Pc {f}:rj f O U=JI (f O U):=Eq.trans rfl rfl
def oV {j:Int}(h : -(2 ^ 62)<=j/\j < 2 ^ 62):JI (some (.v (.int j),U))=some ((List.range j.toNat).map fun i=>.int (i:Nat),U):=by
 show (if -(2 ^ 62)<=j/\j < 2 ^ 62 then _ else _)=_
 rw [if_pos h]
def qx (o:Option (List D×ac))(ix:List Nat)(k:Nat)(g:FG)(c:FT)(f:FE)(O:Lo):Option (R×ac):=o.bind fun a=>if a.1.length<=sizeLine then
 (cg g c f a.1 (d5 k ix O) a.2).bind fun r=>some (.p r.2.length,r.2++[.lst r.1]) else none
theorem D5 {ix k i g c f}:dM ix k i g c f O U=qx (i O U) ix k g c f O:=Eq.trans rfl rfl
def t0 {xs:List D}{ix k g c f r}(hl:xs.length<=sizeLine)(h:cg g c f xs (d5 k ix O) U=some (r,U1)):qx (some (xs,U)) ix k g c f O=some (.p U1.length,U1++[.lst r]):=by simp [qx,h,hl]
theorem NF:gk O U=some (true,U):=rfl
def JH (o:Option (R×ac))(fl fh:FO)(O:Lo):Option (R×ac):=o.bind fun a=>(fl O a.2).bind fun l=>(fh O l.2).bind fun h=>Fi a.1 l.1 h.1 h.2
def ET (x:R)(o:Option (Option Int×ac))(fh:FO)(O:Lo):Option (R×ac):=o.bind fun l=>(fh O l.2).bind fun h=>Fi x l.1 h.1 h.2
def ER (x:R)(l:Option Int)(o:Option (Option Int×ac)):Option (R×ac):=o.bind fun h=>Fi x l h.1 h.2
theorem Pb {fa fl fh}:uA fa fl fh O U=JH (fa O U) fl fh O:=rfl
theorem NZ {fl fh}:JH (some (x,U)) fl fh O=ET x (fl O U) fh O:=rfl
theorem NY {l fh}:ET x (some (l,U)) fh O=ER x l (fh O U):=rfl
theorem NX {l h}:ER x l (some (h,U))=Fi x l h U:=rfl
theorem NV {xs l h}:Fi (.v (.tup xs)) l h U=some (.v (.tup (lu xs l h)),U):=rfl
def OX (o:Option (R×ac)):Option (Option Int×ac):=o.bind fun a=>match a.1 with|.v (.int i)=>some (some i,a.2)|_=>none
theorem Pi:d8 O U=some (none,U):=rfl
theorem Ph {f}:dU f O U=OX (f O U):=rfl
theorem N1 {i}:OX (some (.v (.int i),U))=some (some i,U):=rfl
def xz (o:Option (R×ac))(g:R->List R->ac->Option (R×ac))(ga:FA)(O:Lo):Option (R×ac):=o.bind fun a=>if jl a.1 a.2=true then (ga O a.2).bind fun b=>g a.1 b.1 b.2 else none
def nP (x:R)(o:Option (List R×ac))(g:R->List R->ac->Option (R×ac)):Option (R×ac):=o.bind fun b=>g x b.1 b.2
theorem LI {g fa ga}:yz g fa ga O U=xz (fa O U) g ga O:=rfl
def IC {g ga n xs}(h:U[n]?=some (.lst xs)):xz (some (.p n,U)) g ga O=nP (.p n) (ga O U) g:=by simp [xz,jl,h,nP]
theorem IB {g xs}:nP x (some (xs,U)) g=g x xs U:=rfl
def IP {n xs}(h:U[n]?=some (.lst xs))(hl:xs.length < sizeLine):jR (.p n) [.v d] U=some (.v .non,U.set n (.lst (xs++[d]))):=by simp [jR,h,hl]
variable {i j:Int}{b c:Bool}{xs:List D}
theorem NU:kR (.v (.int i)) (.v (.int j)) U=some (.v (.int (i - j)),U):=rfl
theorem Pp:HY (.v (.int i)) (.v (.int j)) U=some (.v (.bl (decide (i < j))),U):=rfl
theorem Pq:FH (.v (.int i)) (.v (.int j)) U=some (.v (.bl (decide (i<=j))),U):=rfl
theorem Pu:Lf (.v (.int i)) (.v (.int j)) U=some (.v (.bl (decide (j < i))),U):=rfl
def oY (h:0 < j):br (.v (.int i)) (.v (.int j)) U=some (.v (.int (i % j)),U):=by simp [br,vB,h]
def IN (h:0 < j)(h2:j < 1073741824):cz (.v (.int i)) (.v (.int j)) U=some (.v (.int (i / j)),U):=by simp [cz,vB,h,h2]
def iH (h : -(2 ^ 64) < i/\i < 2 ^ 64):lR (.v (.int i)) (.v (.int j)) U=some (.v (.int (i * j)),U):=by
 show (if (decide (-(2 ^ 64) < i/\i < 2 ^ 64) || decide (-(2 ^ 64) < j/\j < 2 ^ 64))=true then _ else _)=_
 rw [if_pos (by rw [Bool.or_eq_true];exact .inl (zaF h))]
def vH (h:0<=j/\j<=1000000/\i.natAbs < 2 ^ 64):kh (.v (.int i)) (.v (.int j)) U=some (.v (.int (i ^ j.toNat)),U):=by simp [kh,vB,h]
theorem N3:lP (.v (.int i)) U=some (.v (.int (-i)),U):=rfl
theorem IA:gQ true (.v (.bl b)) (.v (.bl c)) U=some (.v (.bl (!(b == c))),U):=rfl
def vI (h:kI xs i=some d):ba (.v (.tup xs)) (.v (.int i)) U=some (.v d,U):=by simp [ba,dj,h]
def DZ {n}(h:U[n]?=some (.lst xs)):qw [.p n] U=some (.v (.tup xs),U):=by simp [qw,dj,h]
theorem rn {k:Nat}:bZ k x O U=some (O.set k (some x),U):=rfl
def rS {Z:Type}{xs:List Z}{i:Int}{a:Z}(h0:0<=i)(h:xs[i.toNat]?=some a):kI xs i=some a:=by unfold kI Cb;have hl:=(zas.mp h).1;rw [if_pos h0,if_pos (by omega)];simpa using h
def eC (o:Option nF):Option D:=o.bind fin
theorem IJ:eC (some (.rt (.v d) U))=some d:=rfl
end
theorem g7 {n:Nat}(xs:Th):okDs n (xs.map D.int)=true:=by
 induction xs with
 |nil=>cases n <;> rfl
 |cons x xs ih=>cases n <;> simpa [okDs,dk] using ih
theorem l9 (xs ys:Th):eqDs (xs.map D.int) (ys.map D.int)=decide (xs=ys):=by
 induction xs generalizing ys with
 |nil=>cases ys <;> simp [cL,d3,fI,fJ]
 |cons x xs ih =>
  cases ys with
  |nil=>simp [cL,d3,fI,fJ]
  |cons y ys=>simp [cL,d3,fI,fJ,rC,vL,vM,rE,ih ys];rfl
def Jg (o:Option (Lo×ac))(b:FS):Option nF:=o.bind fun a=>b a.1 a.2
theorem t5 {O:Lo}{U:ac}{b:FS}:Jg (some (O,U)) b=b O U:=rfl
def wM {g:FG}{b:FS}(I:Nat->Lo->ac->Prop){xs:List D}{O:Lo}{U:ac}(h0:I 0 O U)
  (hs:∀(i:Nat) x O U,xs[i]?=some x->I i O U->∃O' U',Jg (g (.v x) O U) b=some (.nx O' U')/\I (i+1) O' U') :
  ∃O' U',dl g b xs O U=some (.nx O' U')/\I xs.length O' U':=by
 have key:∀(n:Nat) (ys:List D) (i:Nat) O U,ys.length=n->xs.drop i=ys->i<=xs.length->I i O U->∃O' U',dl g b ys O U=some (.nx O' U')/\I xs.length O' U':=by
  intro n
  induction n with
  |zero =>
   intro ys i O U hn hd hi h;have:ys=[]:=zcL hn;subst this
   have:i=xs.length:=by
    have:=congrArg List.length hd;simp at this;omega
   subst this;exact ⟨O,U,rfl,h⟩
  |succ n ih =>
   intro ys i O U hn hd hi h
   cases ys with
   |nil=>simp at hn
   |cons y ys =>
    have hlt:i < xs.length:=by
     have:=congrArg List.length hd;simp at this;omega
    have hc:=zbb hlt;rw [hd] at hc
    injection hc with h1 h2
    obtain ⟨O',U',e0,h'⟩:=hs i y O U (by rw [h1];exact zap hlt) h;obtain ⟨⟨O1,U1⟩,e1,e2⟩:=zab.mp e0;obtain ⟨O2,U2,e3,h3⟩:=ih ys (i+1) O' U' (by simpa using hn) h2.symm hlt h';exact ⟨O2,U2,by simp only [dl,e1,e2,zay];exact e3,h3⟩
 exact key xs.length xs 0 O U rfl (by simp) (zba _) h0
theorem ug {g:FG}{c:FT}{f:FE}{U:ac}(B:Lo->Prop)(p:D->Bool)(e:D->D):∀{xs:List D} {O:Lo},B O ->
  (∀x∈xs,∀O,B O->∃O1,g (.v x) O U=some (O1,U)/\B O1/\c O1 U=some (p x,U)/\(p x=true->f O1 U=some (.v (e x),U)))->cg g c f xs O U=some ((xs.filter p).map e,U)
 |[],_,_,_=>rfl
 |x::xs,O,hB,h=>by
  obtain ⟨O1,e1,hB1,e2,e3⟩:=h x (zao) O hB;have ih:=ug B p e (xs:=xs) hB1 fun y hy=>h y (zan _ hy);simp only [cg,e1,zay,e2]
  cases hp:p x with
  |true=>simp [e3 hp,ih,hp]
  |false=>simp [ih,hp]
section
variable {O:Lo}{U:ac}{d:D}
def wb (o:Option (List R×ac))(f:MF)(n:Nat):Option (R×ac):=o.bind fun a=>(gW a.1 a.2).bind fun ds=>if ds.length=n then (f ds).bind fun d=>if cF d=true then some (.v d,a.2) else none else none
theorem LN {f n fa}:dC f n fa O U=wb (fa O U) f n:=rfl
end
section
variable {O:Lo}{U:ac}{x y:R}{d e:D}{n:Nat}{xs ys:List D}{i j:Int}{b c:Bool}
def MU (o:Option au)(n:Nat)(g:R->List R->ac->Option (R×ac))(ga:FA)(O:Lo)(U:ac):Option (R×ac):=match o with|some (.lst _)=>nP (.p n) (ga O U) g|some (.fz _)=>nP (.p n) (ga O U) g|_=>none
theorem N4 {g ga}:xz (some (.p n,U)) g ga O=MU U[n]? n g ga O U:=by
 cases h:U[n]? with
 |none=>simp [xz,jl,MU,h]
 |some c=>cases c <;> simp [xz,jl,MU,nP,h]
theorem N5 {g ga}:MU (some (.lst xs)) n g ga O U=nP (.p n) (ga O U) g:=rfl
def LX (o:Option au)(n:Nat)(d:D)(U:ac):Option (R×ac):=match o with|some (.lst xs)=>if xs.length < sizeLine then some (.v .non,U.set n (.lst (xs++[d]))) else none|_=>none
theorem MQ:jR (.p n) [.v d] U=LX U[n]? n d U:=rfl
theorem MR:LX (some (.lst xs)) n d U=if xs.length < sizeLine then some (.v .non,U.set n (.lst (xs++[d]))) else none:=rfl
def Oy (o:Option au):Option (List D):=match o with|some (.lst xs)=>some xs|some (.fz xs)=>some xs|_=>none
theorem Oa:dj (.v (.tup xs)) U=some xs:=rfl
theorem Oc:dj (.v (.fl xs)) U=some xs:=rfl
theorem Ob:dj (.p n) U=Oy U[n]?:=rfl
theorem IF:Oy (some (.lst xs))=some xs:=rfl
def JM (o:Option (List D))(i:Int)(U:ac):Option (R×ac):=o.bind fun xs=>(kI xs i).bind fun d=>some (.v d,U)
def E1 (o:Option D)(U:ac):Option (R×ac):=o.bind fun d=>some (.v d,U)
theorem Ps:ba x (.v (.int i)) U=JM (dj x U) i U:=rfl
theorem N9:JM (some xs) i U=E1 (kI xs i) U:=rfl
theorem N8:E1 (some d) U=some (.v d,U):=rfl
theorem Op {a:D}{l:List D}:kI (a::l) 0=some a:=rS (by decide) rfl
theorem Oo {a b:D}{l:List D}:kI (a::b::l) 1=some b:=rS (by decide) rfl
theorem On {a b c:D}{l:List D}:kI (a::b::c::l) 2=some c:=rS (by decide) rfl
def EZ (o:Option (List D))(U:ac):Option (R×ac):=o.bind fun xs=>some (.v (.int xs.length),U)
theorem N7:eR [x] U=EZ (dj x U) U:=rfl
theorem MH:EZ (some xs) U=some (.v (.int xs.length),U):=rfl
def JG (o:Option (List D))(U:ac):Option (R×ac):=o.bind fun xs=>some (.v (.tup xs),U)
theorem Pa:qw [x] U=JG (dj x U) U:=rfl
theorem NS:JG (some xs) U=some (.v (.tup xs),U):=rfl
def PB (o:Option au):Option D:=match o with|some (.lst xs)=>some (.fl xs)|some (.fz xs)=>some (.fl xs)|_=>none
theorem NG:jV (.v d) U=some d:=rfl
theorem Bv:jV (.p n) U=PB U[n]?:=rfl
theorem NH:PB (some (.lst xs))=some (.fl xs):=rfl
def Gi (o p:Option D)(neg:Bool)(U:ac):Option (R×ac):=o.bind fun a=>p.bind fun b=>if (dk 60 a && dk 60 b)=true then some (.v (.bl (if neg then !iT a b else iT a b)),U) else none
theorem IM:gQ b x y U=Gi (jV x U) (jV y U) b U:=rfl
theorem Ol:Gi (some d) (some e) false U=if (dk 60 d && dk 60 e)=true then some (.v (.bl (iT d e)),U) else none:=rfl
theorem IL:Gi (some d) (some e) true U=if (dk 60 d && dk 60 e)=true then some (.v (.bl (!iT d e)),U) else none:=rfl
theorem HR:dk n (.int i)=true:=by cases n <;> rfl
theorem K3:dk n (.bl b)=true:=by cases n <;> rfl
theorem Ow:iT (.int i) (.int j)=(i == j):=rfl
def Ef (o:Option au):Option D:=match o with|some (.lst xs)=>some (.fl xs)|some (.fz xs)=>some (.fl xs)|some (.dct kvs)=>some (.fd (kvs.map (·.1)) (kvs.map (·.2)))|some (.fzd kvs)=>some (.fd (kvs.map (·.1)) (kvs.map (·.2)))|_=>none
theorem LJ:eC (some (.rt (.p n) U))=Ef U[n]?:=by
 cases h:U[n]? with
 |none=>simp [eC,fin,Cd,Ef,h]
 |some c=>cases c <;> simp [eC,fin,Cd,Ef,h]
theorem MK:Ef (some (.lst xs))=some (.fl xs):=rfl
theorem MJ:eC (some (.nx O U))=some .non:=rfl
def MV (o:Option au)(n:Nat)(U:ac):Option (R×ac):=match o with|some (.lst xs)=>some (.v (.fl xs),U.set n (.fz xs))|some (.fz xs)=>some (.v (.fl xs),U)|some (.dct kvs)=>some (.v (.fd (kvs.map (·.1)) (kvs.map (·.2))),U.set n (.fzd kvs))|some (.fzd kvs)=>some (.v (.fd (kvs.map (·.1)) (kvs.map (·.2))),U)|_=>none
theorem Oh:sk (some (.p n,U))=MV U[n]? n U:=by
 cases h:U[n]? with
 |none=>simp [sk,Cd,MV,h]
 |some c=>cases c <;> simp [sk,Cd,MV,h]
theorem Oi:MV (some (.lst xs)) n U=some (.v (.fl xs),U.set n (.fz xs)):=rfl
def JT (o:Option D)(xs:List R)(U:ac):Option (List D):=o.bind fun d=>(gW xs U).bind fun ds=>some (d::ds)
def E5 (d:D)(o:Option (List D)):Option (List D):=o.bind fun ds=>some (d::ds)
theorem NN:gW [] U=some []:=rfl
theorem O7 {rs}:gW (x::rs) U=JT (MX x U) rs U:=rfl
theorem NM {rs}:JT (some d) rs U=E5 d (gW rs U):=rfl
theorem NL {ds}:E5 d (some ds)=some (d::ds):=rfl
def PC (o:Option au):Option D:=match o with|some (.lst xs)=>some (.fl xs)|some (.fz xs)=>some (.fl xs)|some (.dct kvs)=>some (.fd (kvs.map (·.1)) (kvs.map (·.2)))|some (.fzd kvs)=>some (.fd (kvs.map (·.1)) (kvs.map (·.2)))|_=>none
theorem Os:MX (.v d) U=some d:=rfl
theorem Ot:MX (.p n) U=PC U[n]?:=rfl
theorem Ou:PC (some (.lst xs))=some (.fl xs):=rfl
def JB (o:Option (List D))(f:MF)(n:Nat)(U:ac):Option (R×ac):=o.bind fun ds=>if ds.length=n then (f ds).bind fun d=>some (.v d,U) else none
def JC (o:Option D)(U:ac):Option (R×ac):=o.bind fun d=>some (.v d,U)
theorem Py {rs f n}:lE (some (rs,U)) f n=JB (vals rs) f n U:=rfl
theorem Px {f:MF}{ds:List D}:JB (some ds) f n U=if ds.length=n then JC (f ds) U else none:=rfl
theorem Pw:JC (some d) U=some (.v d,U):=rfl
def Gg (d:D)(o:Option (List D)):Option (List D):=o.bind fun ds=>some (d::ds)
theorem NK:vals []=some []:=rfl
def NJ {rs}:vals (.v d::rs)=Gg d (vals rs):=by unfold Gg;cases h:vals rs <;> simp [vals,h]
theorem NI {ds}:Gg d (some ds)=some (d::ds):=rfl
def EH (o:Option (List D))(f:MF)(n:Nat)(U:ac):Option (R×ac):=o.bind fun ds=>if ds.length=n then (f ds).bind fun d=>if cF d=true then some (.v d,U) else none else none
def EJ (o:Option D)(U:ac):Option (R×ac):=o.bind fun d=>if cF d=true then some (.v d,U) else none
theorem Pg {rs f n}:wb (some (rs,U)) f n=EH (gW rs U) f n U:=rfl
theorem Pe {f:MF}{ds:List D}:EH (some ds) f n U=if ds.length=n then EJ (f ds) U else none:=rfl
theorem Pd:EJ (some d) U=if cF d=true then some (.v d,U) else none:=rfl
def JF (o:Option (List D))(U:ac):Option (R×ac):=o.bind fun ds=>if ds.length<=sizeLine then some (.v (.tup ds),U) else none
theorem O9 {rs}:v8 (some (rs,U))=JF (vals rs) U:=rfl
theorem NQ {ds}:JF (some ds) U=if ds.length<=sizeLine then some (.v (.tup ds),U) else none:=rfl
def JL (o:Option (List D))(U:ac):Option (R×ac):=o.bind fun ds=>if ds.length<=sizeLine then some (.p U.length,U++[.lst ds]) else none
theorem Po {rs}:v9 (some (rs,U))=JL (vals rs) U:=rfl
theorem N6 {ds}:JL (some ds) U=if ds.length<=sizeLine then some (.p U.length,U++[.lst ds]) else none:=rfl
def E4 (o:Option (R×ac))(g:FG)(O:Lo):Option nF:=o.bind fun a=>(g a.1 O a.2).bind fun b=>some (.nx b.1 b.2)
def zq (o:Option (Lo×ac)):Option nF:=o.bind fun b=>some (.nx b.1 b.2)
theorem Oq {f g}:pA f g O U=E4 (f O U) g O:=rfl
theorem MP {g}:E4 (some (x,U)) g O=zq (g x O U):=rfl
theorem MO:zq (some (O,U))=some (.nx O U):=rfl
theorem Oe {g}:uz n g (.v (.tup xs)) O U=if xs.length=n then g (xs.map .v) O U else none:=rfl
theorem Og:gd [] O U=some (O,U):=rfl
def JO (o:Option (Lo×ac))(r:F4)(ds:List R):Option (Lo×ac):=o.bind fun a=>r ds a.1 a.2
theorem Pv {g r ds}:aZ g r (x::ds) O U=JO (g x O U) r ds:=rfl
theorem Of {r ds}:JO (some (O,U)) r ds=r ds O U:=rfl
theorem NW {l h}:Fi (.v (.fl xs)) l h U=some (.p U.length,U++[.lst (lu xs l h)]):=rfl
theorem LQ:cG (.v (.int i)) (.v (.int j)) U=some (.v (.int (i+j)),U):=rfl
theorem LP:cG (.v (.tup xs)) (.v (.tup ys)) U=if xs.length+ys.length<=sizeLine then some (.v (.tup (xs++ys)),U) else none:=by
 cases xs with
 |nil=>simp [cG]
 |cons x xs=>simp [cG,Em]
def EM (o:Option (R×ac))(fi:FE)(dv:D)(O:Lo):Option (Lo×ac):=o.bind fun o=>(fi O o.2).bind fun i=>(u2 o.1 i.1 dv i.2).bind fun U'=>some (O,U')
def zg (x:R)(o:Option (R×ac))(dv:D)(O:Lo):Option (Lo×ac):=o.bind fun i=>(u2 x i.1 dv i.2).bind fun U'=>some (O,U')
def zf (o:Option ac)(O:Lo):Option (Lo×ac):=o.bind fun U'=>some (O,U')
theorem MA {fo fi}:rg fo fi (.v d) O U=EM (fo O U) fi d O:=rfl
theorem Mz {fi}:EM (some (x,U)) fi d O=zg x (fi O U) d O:=rfl
theorem My:zg x (some (y,U)) d O=zf (u2 x y d U) O:=rfl
theorem Mx:zf (some U) O=some (O,U):=rfl
def LV (o:Option au)(n:Nat)(i:R)(dv:D)(U:ac):Option ac:=match o with
  |some (.lst xs)=>(match i with|.v (.int k)=>(Cb xs.length k).bind fun j=>some (U.set n (.lst (xs.set j dv)))|_=>none)
  |some (.dct kvs)=>if kvs.length < sizeLine then (jX i).bind fun k=>some (U.set n (.dct (gD kvs k dv))) else none
  |_=>none
theorem MD:u2 (.p n) x d U=LV U[n]? n x d U:=rfl
def JR (o:Option (List D×ac)):Option (R×ac):=o.bind fun r=>some (.p r.2.length,r.2++[.lst r.1])
theorem LM {ix k g c f}:qx (some (xs,U)) ix k g c f O=if xs.length<=sizeLine then JR (cg g c f xs (d5 k ix O) U) else none:=Eq.trans rfl rfl
theorem Om {r:List D}:JR (some (r,U))=some (.p U.length,U++[.lst r]):=rfl
theorem MN:d5 1 [] O=[none]:=rfl
theorem MM {i:Nat}:d5 1 [i] O=[none,(O[i]?).join]:=rfl
theorem ML {i j:Nat}:d5 1 [i,j] O=[none,(O[i]?).join,(O[j]?).join]:=rfl
theorem Pr {x:Option R}:(some x).join=x:=rfl
theorem D2:jO (.p n) U=Oy U[n]?:=rfl
def wc (o:Option (List R×ac))(f:MC)(n:Nat):Option (R×ac):=o.bind fun a=>(gW a.1 a.2).bind fun ds=>if ds.length=n then (f ds).bind fun c=>if p9 c=true then some (.p a.2.length,a.2++[c]) else none else none
def EI (o:Option (List D))(f:MC)(n:Nat)(U:ac):Option (R×ac):=o.bind fun ds=>if ds.length=n then (f ds).bind fun c=>if p9 c=true then some (.p U.length,U++[c]) else none else none
def EK (o:Option au)(U:ac):Option (R×ac):=o.bind fun c=>if p9 c=true then some (.p U.length,U++[c]) else none
theorem LO {f:MC}{fa}:kz f n fa O U=wc (fa O U) f n:=rfl
theorem Pn {f:MC}{rs}:wc (some (rs,U)) f n=EI (gW rs U) f n U:=rfl
theorem Pk {f:MC}{ds:List D}:EI (some ds) f n U=if ds.length=n then EK (f ds) U else none:=rfl
theorem Pj {k:au}:EK (some k) U=if p9 k=true then some (.p U.length,U++[k]) else none:=rfl
theorem Oj:p9 (.lst xs)=flatDs xs:=rfl
def tX (o:Option nF):Option au:=o.bind Br
def xi (o:Option au):Option au:=match o with|some (.lst xs)=>some (.lst xs)|some (.dct kvs)=>some (.dct kvs)|_=>none
theorem LK:tX (some (.rt (.p n) U))=xi U[n]?:=by
 cases h:U[n]? with
 |none=>simp [tX,Br,xi,h]
 |some c=>cases c <;> simp [tX,Br,xi,h]
theorem LL:xi (some (.lst xs))=some (.lst xs):=rfl
theorem MI {ns:Th}:hU (ns.map D.int)=some ns:=by
 induction ns with
 |nil=>rfl
 |cons n ns ih=>simp [hU,ih]
def zi (o:Option aI)(kvs:List (aI×D))(n:Nat)(d:D)(U:ac):Option ac:=o.bind fun k=>some (U.set n (.dct (gD kvs k d)))
theorem ME {kvs}:LV (some (.dct kvs)) n x d U=if kvs.length < sizeLine then zi (jX x) kvs n d U else none:=rfl
theorem LH {kvs k}:zi (some k) kvs n d U=some (U.set n (.dct (gD kvs k d))):=rfl
def Fg:2<=sizeLine:=by decide
def Qe:0<=sizeLine:=by decide
def Qd:3<=sizeLine:=by decide
def O2z:4<=sizeLine:=by decide
def jb {n:Nat}(h:n < 4000):n < sizeLine:=zau h (by decide)
def dR {n:Nat}(h:n < 4000):n<=sizeLine:=zbC (jb h)
end
theorem qQ {Z:Type}{x y:Z}{l:List Z}:(x::l).set 0 y=y::l:=rfl
theorem qP {Z:Type}{x y:Z}{l:List Z}{n:Nat}:(x::l).set (n+1) y=x::l.set n y:=rfl
theorem Mn {Z:Type}{x:Z}{l:List Z}:(x::l)[0]?=some x:=rfl
theorem Mm {Z:Type}{x:Z}{l:List Z}{n:Nat}:(x::l)[n+1]?=l[n]?:=rfl
theorem Nr {Z:Type}{x:Z}{l:List Z}:(x::l).length=l.length+1:=rfl
theorem Ml {Z:Type}:([]:List Z).length=0:=rfl
theorem Nu {Z:Type}{x:Z}{l r:List Z}:(x::l)++r=x::(l++r):=rfl
theorem Mo {Z:Type}{r:List Z} : []++r=r:=rfl
theorem Nq {Z β:Type}{f:Z->β}{x:Z}{l:List Z}:(x::l).map f=f x::l.map f:=rfl
theorem Mj {Z β:Type}{f:Z->β}:([]:List Z).map f=[]:=rfl
def O4 {n:Nat}:0+n=n:=zcs n
theorem Mf:(!true)=false:=rfl
theorem Mi:(!false)=true:=rfl
theorem Nt {Z:Type}{a b:Z}:(if false=true then a else b)=b:=rfl
section
variable {g:FG}{b:FS}{O:Lo}{U:ac}
def Gh (o:Option nF)(g:FG)(b:FS)(xs:List D):Option nF:=o.bind fun o=>match o with
  |.nx O' U'=>dl g b xs O' U'
  |.ct O' U'=>dl g b xs O' U'
  |.bk O' U'=>some (.nx O' U')
  |.rt d U'=>some (.rt d U')
theorem hG {x:D}{xs:List D}:dl g b (x::xs) O U=Gh (Jg (g (.v x) O U) b) g b xs:=by
 show (g (.v x) O U).bind _=_
 cases e:g (.v x) O U <;> rfl
theorem pZ {xs}:Gh (some (.nx O U)) g b xs=dl g b xs O U:=rfl
theorem K6 {xs d}:Gh (some (.rt d U)) g b xs=some (.rt d U):=rfl
theorem k7 {Z Y:Type}(e:Z->D)(S:Y->Lo×ac)(P:Y->List Z->Prop):∀(as:List Z) (s:Y),P s as ->
  (∀s a r,P s (a::r)->∃s',Jg (g (.v (e a)) (S s).1 (S s).2) b=some (.nx (S s').1 (S s').2)/\P s' r) ->
  ∃s',dl g b (as.map e) (S s).1 (S s).2=some (.nx (S s').1 (S s').2)/\P s' []
 |[],s,h,_=>⟨s,rfl,h⟩
 |a::as,s,h,k=>by
  obtain ⟨s1,h1,h2⟩:=k s a as h;obtain ⟨s2,h3,h4⟩:=k7 e S P as s1 h2 k;exact ⟨s2,by rw [zaf,hG,h1,pZ,h3],h4⟩
def oF (n:Nat)(I:Nat->Lo->ac->Prop)(h0:I 0 O U)
  (hs:∀i < n,∀O U,I i O U->∃O' U',Jg (g (.v (.int (i:Int))) O U) b=some (.nx O' U')/\I (i+1) O' U') :
  ∃O' U',dl g b ((List.range n).map fun i=>.int ((i:Nat):Int)) O U=some (.nx O' U')/\I n O' U':=by
 obtain ⟨O',U',e,h⟩:=wM (g:=g) (b:=b) I (xs:=(List.range n).map fun i=>D.int ((i:Nat):Int)) h0 fun i x O U hx hI=>by
  rw [zaB] at hx;obtain ⟨k,hk,rfl⟩:=zaK.mp hx;obtain ⟨hl,hk⟩:=zas.mp hk;rw [zcS] at hk;subst hk;exact hs i (by simpa using hl) O U hI
 exact ⟨O',U',e,by simpa using h⟩
end
section
variable {O:Lo}{U:ac}{x y:R}{d:D}{n:Nat}{i:Int}
def P8 (o:Option au):Option (List (aI×R)):=match o with|some (.dct kvs)=>some (kvs.map fun p=>(p.1,R.v p.2))|some (.fzd kvs)=>some (kvs.map fun p=>(p.1,R.v p.2))|some (.dr kvs)=>some kvs|some (.fzr kvs)=>some kvs|_=>none
def JQ (o:Option (R×ac))(fk:FE)(O:Lo):Option (R×ac):=o.bind fun o=>(fk O o.2).bind fun k=>(tE o.1 k.2).bind fun kvs=>(jX k.1).bind fun key=>(lD kvs key).bind fun r=>some (r,k.2)
def zn (x:R)(o:Option (R×ac)):Option (R×ac):=o.bind fun k=>(tE x k.2).bind fun kvs=>(jX k.1).bind fun key=>(lD kvs key).bind fun r=>some (r,k.2)
def JP (o:Option (List (aI×R)))(y:R)(U:ac):Option (R×ac):=o.bind fun kvs=>(jX y).bind fun key=>(lD kvs key).bind fun r=>some (r,U)
def E3 (o:Option R)(U:ac):Option (R×ac):=o.bind fun r=>some (r,U)
theorem M8 {fo fk}:yA fo fk O U=JQ (fo O U) fk O:=rfl
theorem Jp {fk}:JQ (some (x,U)) fk O=zn x (fk O U):=rfl
theorem Jo:zn x (some (y,U))=JP (tE x U) y U:=rfl
theorem OU:E3 (some x) U=some (x,U):=rfl
theorem M7:tE (.p n) U=P8 U[n]?:=rfl
theorem OV:DY O U=some (.p U.length,U++[.dtr []]):=rfl
theorem OS:mG true .non (.v .non) U=some (.v (.bl false),U):=rfl
theorem OT:mG true .non (.v (.int i)) U=some (.v (.bl true),U):=rfl
def MT (o:Option au):Option (List (Th×R)):=match o with|some (.dtr kvs)=>some kvs|_=>none
def zb (o:Option (List (Th×R)))(k:Th)(U:ac):Option (R×ac):=o.bind fun kvs=>(iR kvs k).bind fun d=>some (d,U)
def zd (x:R)(o:Option (R×ac)):Option (R×ac):=o.bind fun k=>match x,k.1 with
 |.p n,.v (.key ks)=>zb (MT k.2[n]?) ks k.2
 |_,_=>none
def JE (o:Option (R×ac))(fk:FE)(O:Lo):Option (R×ac):=o.bind fun o=>zd o.1 (fk O o.2)
theorem PP {fo fk}:Bt fo fk O U=JE (fo O U) fk O:=rfl
theorem OR {fk}:JE (some (x,U)) fk O=zd x (fk O U):=rfl
theorem OQ {k}:zd (.p n) (some (.v (.key k),U))=zb (MT U[n]?) k U:=rfl
theorem M6 {kvs}:MT (some (.dtr kvs))=some kvs:=rfl
theorem OP {kvs k}:zb (some kvs) k U=E3 (iR kvs k) U:=rfl
theorem Jn:pO [.p n] U=(MT U[n]?).bind fun kvs=>if kvs.length < 64/\(kvs.length < 2\/∀p∈kvs,p.1≠[]) then some (.p U.length,U++[.lst ((cE (kvs.map (·.1))).map D.key)]) else none:=rfl
end
end HW
namespace LW
open HW
abbrev bB (i:Int):Option R:=some (.v (.int i))
abbrev bO (n:Nat):Option R:=some (.p n)
end LW
local macro_rules
 | `(tactic| push_cast [$xs,*] $[$loc]?) => do
  let ids : Array (Lean.TSyntax `term) := ("Fg Qe Qd O2z qQ qP Mn Mm Nr Ml Nu Mo Nq Mj O4 Mf Mi Nt pZ K6 ll mI IE tZ oX oW O8 NP kC w6 rA IQ BE NR Mt Ms Mw LG NT Mu Mv LF Ov MS FV N0 N2 MG Pt Od Bw ID FW BB w5 D1 kB gF MB D4 BC vG D0 vJ IG IH rq nE wZ Bz By Pc NF LI IB NU Pp Pq Pu N3 rn IJ t5 N4 N5 MQ MR Oa Oc Ob IF Ps N9 N8 Op Oo On N7 MH Pa NS NG Bv NH IM Ol IL HR K3 Ow LJ MK Oh Oi NN O7 NM NL Os Ot Ou Py Px Pw NK NJ NI O9 NQ Po N6 Oq MP MO Oe Og Pv Of LQ LP D2 iI gh gg kA lm D5 Pb NZ NY NX NV Pi Ph N1 LN MJ Pg Pe Pd NW MA Mz My Mx MD LM Om MN MM ML Pr LO Pn Pk Pj Oj LK LL MI ME LH M8 Jp Jo OU M7 OV OS OT PP OR OQ M6 OP".splitOn " ").toArray.map fun n => ⟨(Lean.mkIdent (String.toName ("HW." ++ n))).raw⟩
  `(tactic| simp -implicitDefEqProofs only [$xs,*, $[$ids:term],*, Nat.reduceAdd, if_true, Bool.and_self] $[$loc]?)
namespace LW
open PyProof.Rows L2 HW
def kH (i:Nat):Stmt:=PySem.Challenge.pw_heldwhen_k30_decided.main.body.getD i (.Pass ⟨0,0,0,0⟩)
noncomputable section
abbrev fF:Stmt:=L2.lg (kH 38) 0
def qH:ax ["self","shapes"] ["self","shapes"] (ai fF):=by ac_rfl
abbrev iq:Stmt:=L2.lg (kH 38) 1
def fG:ax ["self","telling","name","keys","turn"] ["self","telling"] (ai iq):=by ac_rfl
abbrev ip:Stmt:=L2.lg (kH 38) 2
def qG:ax ["self","name","row","low","high"] ["self","name","row","low","high"] (ai ip):=by ac_rfl
abbrev fU:Stmt:=L2.lg (kH 38) 3
def nZ:ax ["self","name","key","low","high"] ["self","name","key","low","high"] (ai fU):=by ac_rfl
abbrev eV:Stmt:=L2.lg (kH 38) 9
def iS:ax ["self","name","key","day","turn","at"] ["self","name","key","day","turn"] (ai eV):=by ac_rfl
abbrev i6:Stmt:=kH 9
def sB:ax ["word","one","other"] ["word","one","other"] (ai i6):=by ac_rfl
abbrev ik:Stmt:=kH 13
def nY:ax ["reach","number","passed"] ["reach","number"] (ai ik):=by ac_rfl
abbrev gM:Stmt:=kH 14
def px:ax ["low","high"] ["low","high"] (ai gM):=by ac_rfl
abbrev ja:Stmt:=kH 15
def b7:ax ["one","other","word","in_one","in_other","first","last","one_borders","other_borders","edges","edge","here"] ["one","other","word"] (ai ja):=by ac_rfl
abbrev io:Stmt:=kH 25
def qF:ax ["plots"] ["plots"] (ai io):=by ac_rfl
abbrev eN:Stmt:=kH 26
def eP:ax ["pairs","plots","row","plot","entries"] ["pairs"] (ai eN):=by ac_rfl
abbrev i7:Stmt:=kH 28
def mx:ax ["shapes","name","shape"] ["shapes","name"] (ai i7):=by ac_rfl
abbrev fT:Stmt:=kH 29
def jf:ax ["numbers","width","many"] ["numbers","width"] (ai fT):=by ac_rfl
abbrev ee:Stmt:=kH 30
def lI:ax ["low","high"] ["low","high"] (ai ee):=by ac_rfl
abbrev j5:Stmt:=kH 31
def uY:ax ["telling"] ["telling"] (ai j5):=by ac_rfl
abbrev d9:Stmt:=kH 32
def gZ:ax ["shapes","telling","shape"] ["shapes","telling"] (ai d9):=by ac_rfl
abbrev gN:Stmt:=kH 33
def pz:ax ["plot"] ["plot"] (ai gN):=by ac_rfl
abbrev j3:Stmt:=kH 34
def uX:ax ["plot","turn","reach"] ["plot","turn","reach"] (ai j3):=by ac_rfl
abbrev j2:Stmt:=kH 35
def cV:ax ["table","keys","telling","turn","said","days","plots","pairs","row","plot","word"] ["table","keys","telling","turn"] (ai j2):=by ac_rfl
abbrev j6:Stmt:=kH 37
def uZ:ax ["telling","name","key","day"] ["telling","name","key","day"] (ai j6):=by ac_rfl
abbrev i9:Stmt:=kH 40
def sC:ax ["script","k"] ["script","k"] (ai i9):=by ac_rfl
abbrev i8:Stmt:=kH 41
def jd:ax ["cell","k","number"] ["cell","k"] (ai i8):=by ac_rfl
abbrev eG:Stmt:=kH 42
def bJ:ax ["cell","number","word","place","shapes","k","width","name"] ["cell"] (ai eG):=by ac_rfl
abbrev dQ:Stmt:=kH 43
def aT:ax ["cell","shapes","scale","number","name","keys","width","menu","row","low","high"] ["cell","shapes","scale"] (ai dQ):=by ac_rfl
abbrev im:Stmt:=kH 44
def qE:ax ["book","telling"] ["book","telling"] (ai im):=by ac_rfl
abbrev gz:Stmt:=kH 45
def dH:ax ["cell","k","tellings","scale","number","turn","day","ends"] ["cell","k","tellings","scale"] (ai gz):=by ac_rfl
abbrev lG:Stmt:=kH 46
def xE:ax ["telling","day"] ["telling","day"] (ai lG):=by ac_rfl
abbrev j4:Stmt:=kH 47
def fV:ax ["tellings","name","key","day","turn","found","k","telling"] ["tellings","name","key","day","turn"] (ai j4):=by ac_rfl
abbrev fA:Stmt:=kH 48
def aK:ax ["book","shapes","tellings","cell","scale","number","name","keys","width","key","telling","shape","day","turn","answer","due"] ["book","shapes","tellings","cell","scale"] (ai fA):=by ac_rfl
abbrev uS:Stmt:=kH 49
def je:ax ["script","shapes","scale","book","tellings","cell","telling"] ["script"] (ai uS):=by ac_rfl
abbrev jx:FS:=(az (kU "Book" "shape_list" (ae 0) (dN tz (ad (ae 1) aj)))
  (az (kU "Book" "tellings" (ae 0) (cx aj))
  (kU "Book" "tables_now" (ae 0) (dN mJ (ad (dM [] 1 (cQ (ae 1)) (bZ 0) gk (c7 (ad (ao ba (ae 0) (fK (.int 0))) (ad (bT (cx aj)) aj)))) aj)))))
def cb:MW:=mV 2 (jx)
abbrev iK:FS:=(az (eW (fB (ao (gQ false) (ae 0) (fK (.str "both"))))
  (bD (rk (ae 1) (ae 2)))
  aM)
  (az (eW (fB (ao (gQ false) (ae 0) (fK (.str "either"))))
  (bD (LD (ae 1) (ae 2)))
  aM)
  (az (eW (fB (ao (gQ false) (ae 0) (fK (.str "less"))))
  (bD (rk (ae 1) (l7 (ae 2))))
  aM)
  (az (eW (fB (ao (gQ false) (ae 0) (fK (.str "just"))))
  (bD (ao (gQ true) (ae 1) (ae 2)))
  aM)
  j8))))
def bE:MF:=eQ 3 (iK)
abbrev jM:FS:=(az (aD 2 (dN eR (ad (dM [1] 1 (cQ (ao ba (ae 0) (fK (.int 1)))) (bZ 0) (fB (ao FH (ae 0) (ae 1))) (ae 0)) aj)))
  (bD (DX (fB (ao (gQ false) (ao br (ae 2) (fK (.int 2))) (fK (.int 0)))) (ao ba (ae 0) (fK (.int 0))) (l7 (ao ba (ae 0) (fK (.int 0)))))))
def g9:MF:=eQ 3 (jM)
abbrev iL:FS:=(az (eW (fS (fB (iV (mG false .non) (ae 0))) (fB (iV (mG false .non) (ae 1))))
  (bD (fK (.tup [(.bl true),(.tup [])])))
  aM)
  (az (eW (fB (iV (mG false .non) (ae 0)))
  (bD (c7 (ad (fK (.bl true)) (ad (c7 (ad (ae 1) aj)) aj))))
  aM)
  (az (eW (fB (iV (mG false .non) (ae 1)))
  (bD (c7 (ad (fK (.bl false)) (ad (c7 (ad (ae 0) aj)) aj))))
  aM)
  (az (eW (fB (ao FH (ae 1) (ae 0)))
  (bD (fK (.tup [(.bl false),(.tup [])])))
  aM)
  (bD (c7 (ad (fK (.bl false)) (ad (c7 (ad (ae 0) (ad (ae 1) aj))) aj))))))))
def cn:MF:=eQ 2 (iL)
abbrev ur:FS:=(az (eW (fB (ao (gQ false) (dN eR (ad (ae 0) aj)) (fK (.int 1))))
  (bD (ao ba (ae 0) (fK (.int 0))))
  aM)
  j8)
def c6:MF:=eQ 1 (ur)
abbrev dZ:FS:=(eW (fB (ao (gQ false) (ao ba (ae 2) (fK (.int 0))) (ae 1)))
  (bD (ae 2))
  aM)
abbrev kF:FS:=(az (iU (cQ (ae 0)) (bZ 2)
  dZ)
  j8)
def bR:MF:=eQ 3 (kF)
abbrev gR:FS:=(az (aD 2 (dN eR (ad (ae 0) aj)))
  (eW (fB (ao (gQ true) (ae 2) (ae 1)))
  j8
  aM))
def bK:MF:=eQ 3 (gR)
abbrev fg:FS:=(eW (fS (fB (iV (mG true .non) (ae 0))) (fS (fB (iV (mG true .non) (ae 1))) (fB (ao FH (ae 1) (ae 0)))))
  j8
  aM)
def cD:MF:=eQ 2 (fg)
abbrev fQ:FS:=(bD (ao (gQ false) (ao ba (ae 0) (fK (.int 0))) (fK (.str "tell"))))
def bM:MF:=eQ 1 (fQ)
abbrev iO:FS:=(bD (DX (iW (ao ba (ae 0) (fK (.int 1)))) (ao ba (ao ba (ao ba (ae 0) (fK (.int 1))) (iV lP (fK (.int 1)))) (fK (.int 1))) (ao ba (ae 0) (fK (.int 0)))))
def cq:MF:=eQ 1 (iO)
abbrev iN:FS:=(az (eW (fB (ao HY (ae 1) (dN eR (ad (ae 0) aj))))
  (bD (ao ba (ae 0) (ae 1)))
  aM)
  (bD (fK (.int 0))))
def cp:MF:=eQ 2 (iN)
abbrev kG:FS:=(az (aD 2 (ao br (ao lR (ao cG (ao br (ae 0) (fK (.int 2147483629))) (fK (.int 1))) (fK (.int 1103515245))) (fK (.int 2147483629))))
  (az (aD 2 (ao br (ao cG (ao cG (ao lR (ae 2) (ae 2)) (ao lR (ae 1) (fK (.int 69621)))) (fK (.int 12345))) (fK (.int 2147483587))))
  (bD (ao br (ao lR (ae 2) (ae 2)) (fK (.int 2147483629))))))
def aE:MF:=eQ 3 (kG)
abbrev gm:FS:=(az (eW (fS (fB (iV (mG true .non) (ao ba (ae 0) (fK (.int 3))))) (fB (ao HY (ae 1) (ao ba (ae 0) (fK (.int 3))))))
  (bD (fK (.bl false)))
  aM)
  (bD (LD (iV (mG false .non) (ao ba (ae 0) (fK (.int 4)))) (ao HY (ae 1) (ao ba (ae 0) (fK (.int 4)))))))
def ji:MF:=eQ 2 (gm)
abbrev rR (bt:Bool):FS:=(az (aD 3 (ao ba (ae 0) (fK (.int 0))))
  (az (aD 4 (ao ba (ae 1) (fK (.int 0))))
  (az (aD 5 (aN bE 3 (ad (bT (ae 2)) (ad (bT (ae 3)) (ad (bT (ae 4)) aj)))))
  (az (aD 6 (ae 5))
  (az (aD 7 (dN o5 (ad (dM [] 1 (cQ (ao ba (ae 0) (fK (.int 1)))) (bZ 0) gk (c7 (ad (ae 0) (ad (fK (.bl true)) aj)))) aj)))
  (az (aD 8 (dN o5 (ad (dM [] 1 (cQ (ao ba (ae 1) (fK (.int 1)))) (bZ 0) gk (c7 (ad (ae 0) (ad (fK (.bl true)) aj)))) aj)))
  (az (aD 9 (cx aj))
  (az (iU (cQ (dN (jB bt) (ad (ao (Ji bt) (dN (uW bt) (ad (ao ba (ae 0) (fK (.int 1))) aj)) (dN (uW bt) (ad (ao ba (ae 1) (fK (.int 1))) aj))) aj))) (bZ 10)
  (az (eW (fB (ao (DM false) (ae 10) (ae 7)))
  (aD 3 (l7 (ae 3)))
  aM)
  (az (eW (fB (ao (DM false) (ae 10) (ae 8)))
  (aD 4 (l7 (ae 4)))
  aM)
  (az (aD 11 (aN bE 3 (ad (bT (ae 2)) (ad (bT (ae 3)) (ad (bT (ae 4)) aj)))))
  (az (eW (fB (ao (gQ true) (ae 11) (ae 6)))
  (cP (yz jR (ae 9) (ad (ae 10) aj)))
  aM)
  (aD 6 (ae 11)))))))
  (bD (c7 (ad (ae 5) (ad (dN qw (ad (ae 9) aj)) aj))))))))))))
def jH (bt:Bool):MF:=eQ 12 (rR bt)
abbrev dY (bt:Bool):FS:=(cP (yz jR (oU (ae 1) (ae 2) (cx aj)) (ad (ae 3) aj)))
abbrev kE (bt:Bool):FS:=(az (aD 1 DY)
  (az (iU (cQ (ae 0)) (uz 2 (aZ (bZ 2) (aZ (bZ 3) gd)))
  (dY bt))
  (az (aD 4 (dM [1] 1 (cQ (dN pO (ad (ae 1) aj))) (bZ 0) gk (c7 (ad (ae 0) (ad (aN c6 1 (ad (bT (Bt (ae 1) (ae 0))) aj)) aj)))))
  (bD (dM [] 1 (cQ (ae 4)) (bZ 0) (fB (ao (gQ true) (ao ba (ae 0) (fK (.int 1))) (fK (.tup [(.tup [(.bl false),(.tup [])]),(.tup [])])))) (ae 0))))))
def f8 (bt:Bool):MC:=zR 5 (kE bt)
abbrev dw:FS:=(az (aD 2 (dC bR 2 (ad (ae 0) (ad (ao ba (ae 1) (fK (.int 1))) aj))))
  (az (cP (aN bK 2 (ad (bT (ao ba (ae 1) (fK (.int 2)))) (ad (bT (DX (iW (aN bM 1 (ad (bT (ae 1)) aj))) (ao ba (ae 2) (fK (.int 2))) (ao ba (ae 2) (fK (.int 1))))) aj))))
  (cP (aN cD 2 (ad (bT (ao ba (ae 1) (fK (.int 3)))) (ad (bT (ao ba (ae 1) (fK (.int 4)))) aj))))))
def bi:MF:=eQ 3 (dw)
abbrev jL:FS:=(az (eW (fB (ao (gQ false) (ae 2) (aN cq 1 (ad (bT (ae 0)) aj))))
  (bD (ae 0))
  aM)
  (bD (c7 (ad (ao ba (ae 0) (fK (.int 0))) (ad (ao cG (ao ba (ae 0) (fK (.int 1))) (c7 (ad (c7 (ad (ae 1) (ad (ae 2) aj))) aj))) aj)))))
def g8:MF:=eQ 3 (jL)
abbrev ic:FS:=(az (eW (Cr (fB (ao (gQ true) (ao ba (ae 0) (fK (.int 1))) (ae 1))) (fB (ao (gQ true) (uA (ao ba (ae 0) (fK (.int 2))) d8 (dU (dN eR (ad (ae 2) aj)))) (ae 2))))
  (bD (fK (.bl false)))
  aM)
  (bD (aN g9 2 (ad (bT (aN cn 2 (ad (bT (ao ba (ae 0) (fK (.int 3)))) (ad (bT (ao ba (ae 0) (fK (.int 4)))) aj)))) (ad (bT (ae 3)) aj)))))
def eA:MF:=eQ 4 (ic)
abbrev f9:FS:=(az (aD 6 (ao cG (fK (.int 1)) (ao br (ao cz (aN aE 2 (ad (bT (ae 0)) (ad (bT (ao cG (fK (.int 80)) (ae 5))) aj))) (fK (.int 3))) (ao ba (cx (ad (fK (.int 3)) (ad (fK (.int 3)) (ad (fK (.int 8)) aj)))) (ao br (ao cz (ae 1) (fK (.int 256))) (fK (.int 3)))))))
  (az (aD 7 (ao cG (ao cG (Bu (ae 2) d8 (dU (ae 3))) (ao FJ (fK (.str "kmz")) (ae 5))) (Bu (ae 2) (dU (ao cG (ae 3) (fK (.int 1)))) d8)))
  (cP (yz jR (ae 4) (ad (c7 (ad (ae 7) (ad (ao br (ao cz (aN aE 2 (ad (bT (ae 0)) (ad (bT (ao cG (fK (.int 90)) (ae 5))) aj))) (fK (.int 3))) (ao cG (ae 6) (fK (.int 1)))) (ad (ae 6) aj)))) aj)))))
abbrev iM:FS:=(az (aD 1 (aN aE 2 (ad (bT (ae 0)) (ad (fK (.int 1)) aj))))
  (az (aD 2 (ao p0 (fK (.str "")) (dM [0] 1 (rj (ao cG (fK (.int 1)) (ao br (ae 1) (fK (.int 8))))) (bZ 0) gk (ao FJ (fK (.str "abcdefghijklmnopqrstuvwxyz")) (ao br (ao cz (aN aE 2 (ad (bT (ae 1)) (ad (bT (ao cG (fK (.int 70)) (ae 0))) aj))) (fK (.int 3))) (fK (.int 26)))))))
  (az (aD 3 (ao br (ao cz (ae 1) (fK (.int 8))) (dN xZ (ad (ae 2) aj))))
  (az (aD 4 (cx aj))
  (az (iU (rj (ao cG (fK (.int 1)) (ao br (ao cz (ae 1) (fK (.int 64))) (fK (.int 3))))) (bZ 5)
  f9)
  (bD (ae 4)))))))
def c9:MF:=eQ 8 (iM)
abbrev eL:FS:=(az (aD 3 (aN aE 2 (ad (bT (ae 0)) (ad (fK (.int 2)) aj))))
  (az (pA (ao ba (ae 1) (ao br (ae 3) (dN eR (ad (ae 1) aj)))) (uz 3 (aZ (bZ 4) (aZ (bZ 5) (aZ (bZ 6) gd)))))
  (az (aD 7 (cx (ad (fK (.int 0)) (ad (fK (.int 1)) (ad (iV lP (fK (.int 1))) (ad (ao br (ae 0) (ao kh (fK (.int 10)) (fK (.int 50)))) (ad (ao kR (fK (.int 0)) (ao br (ae 0) (ao kh (fK (.int 10)) (fK (.int 50))))) aj)))))))
  (az (aD 8 (dN A4 (ad (dM [7,0] 1 (rj (ae 6)) (bZ 0) gk (ao ba (ae 1) (ao br (ao cz (aN aE 2 (ad (bT (ae 2)) (ad (bT (ao cG (fK (.int 20)) (ae 0))) aj))) (fK (.int 5))) (fK (.int 5))))) aj)))
  (az (aD 9 (ao lR (ao kR (ao br (ao cz (ae 3) (fK (.int 8))) (fK (.int 12))) (fK (.int 3))) (ae 2)))
  (az (aD 10 (ao cG (ae 9) (ao lR (ao cG (fK (.int 1)) (ao br (ao cz (ae 3) (fK (.int 96))) (fK (.int 6)))) (ae 2))))
  (az (eW (fB (ao (gQ false) (ao br (ao cz (ae 3) (fK (.int 600))) (fK (.int 5))) (fK (.int 0))))
  (aD 9 (fK .non))
  aM)
  (az (eW (fB (ao (gQ false) (ao br (ao cz (ae 3) (fK (.int 3000))) (fK (.int 5))) (fK (.int 0))))
  (aD 10 (fK .non))
  aM)
  (az (eW (fB (ao (gQ false) (ao br (ao cz (ae 3) (fK (.int 15000))) (fK (.int 3))) (fK (.int 0))))
  (bD (c7 (ad (fK (.str "strike")) (ad (ae 4) (ad (uA (Ce (ae 8)) d8 (dU (ae 5))) (ad (ae 9) (ad (ae 10) aj)))))))
  aM)
  (bD (c7 (ad (fK (.str "tell")) (ad (ae 4) (ad (ae 8) (ad (ae 9) (ad (ae 10) aj))))))))))))))))
def cJ:MF:=eQ 11 (eL)
abbrev gl:FS:=(az (aD 4 (aN aE 2 (ad (bT (ae 0)) (ad (bT (ao cG (ae 1) (fK (.int 41)))) aj))))
  (az (aD 5 (ao kR (ao br (ae 4) (ao cG (dN eR (ad (ae 2) aj)) (fK (.int 3)))) (fK (.int 1))))
  (az (aD 6 (ao kR (ao lR (ao kR (ao br (ao cz (ae 4) (fK (.int 70))) (fK (.int 16))) (fK (.int 4))) (ae 3)) (ao br (ao cz (ae 4) (fK (.int 7000))) (fK (.int 2)))))
  (az (eW (fS (fB (ao (gQ true) (ae 2) (cx aj))) (fB (ao (gQ false) (ao br (ao cz (ae 4) (fK (.int 14000))) (fK (.int 2))) (fK (.int 0)))))
  (az (aD 7 (dM [] 1 (cQ (uA (ao ba (ae 2) (ao br (ao cz (ae 4) (fK (.int 28000))) (dN eR (ad (ae 2) aj)))) (dU (fK (.int 3))) d8)) (bZ 0) (fB (iV (mG true .non) (ae 0))) (ae 0)))
  (eW (fB (ao (gQ true) (ae 7) (cx aj)))
  (aD 6 (ao kR (ao ba (ae 7) (fK (.int 0))) (ao br (ao cz (ae 4) (fK (.int 2000000))) (fK (.int 2)))))
  aM))
  aM)
  (bD (c7 (ad (ae 6) (ad (ae 5) aj))))))))
def cZ:MF:=eQ 8 (gl)
abbrev dL:FS:=(az (aD 7 (ao ba (ae 0) (ae 6)))
  (eW (fS (fB (ao (gQ false) (ao ba (ae 7) (fK (.int 1))) (ae 1))) (fS (fB (ao (gQ false) (uA (ao ba (ae 7) (fK (.int 2))) d8 (dU (dN eR (ad (ae 2) aj)))) (ae 2))) (iW (aN ji 2 (ad (bT (ae 7)) (ad (bT (ae 3)) aj))))))
  (aD 5 (ao cG (ae 6) (fK (.int 1))))
  aM))
abbrev mh:FS:=(az (aD 5 (fK .non))
  (az (iU (rj (dN mX (ad (dN AV (ad (fK (.int 0)) (ad (ae 4) aj))) (ad (dN eR (ad (ae 0) aj)) aj)))) (bZ 6)
  dL)
  (bD (ae 5))))
def dI:MF:=eQ 8 (mh)
abbrev bN:FS:=(eW (iW (aN (uk eA) 4 (ad (bT (ao ba (eD "Book" "tellings" (ae 0)) (ao kR (ae 5) (fK (.int 1))))) (ad (bT (ae 1)) (ad (bT (ae 2)) (ad (bT (ae 3)) aj))))))
  (bD (ae 5))
  aM)
abbrev gp:FS:=(az (cP (aN bK 2 (ad (bT (ae 2)) (ad (bT (ao ba (dC bR 2 (ad (eD "Book" "shape_list" (ae 0)) (ad (ae 1) aj))) (fK (.int 1)))) aj))))
  (az (iU (yx (dN mX (ad (ae 4) (ad (dN eR (ad (eD "Book" "tellings" (ae 0)) aj)) aj))) (fK (.int 0)) (iV lP (fK (.int 1)))) (bZ 5)
  bN)
  (bD (fK .non))))
def bP:MW:=mV 6 (gp)
abbrev dJ (bt:Bool):FS:=(eW (fB (ao (oZ false) (uA (Ce (ae 8)) d8 (dU (ae 1))) (uA (Ce (ae 4)) d8 (dU (ae 1)))))
  (az (aD 10 (DX (fS (iW (aN bM 1 (ad (bT (ae 2)) aj))) (fB (ao (oZ false) (ae 8) (ae 4)))) (fK (.str "either")) (fK (.str "less"))))
  (cP (yz jR (ae 7) (ad (c7 (ad (ae 8) (ad (aN g8 3 (ad (bT (ae 9)) (ad (bT (ae 3)) (ad (bT (aN (jH bt) 3 (ad (bT (aN cq 1 (ad (bT (ae 9)) aj))) (ad (bT (ae 5)) (ad (bT (ae 10)) aj))))) aj)))) aj))) aj))))
  (cP (yz jR (ae 7) (ad (c7 (ad (ae 8) (ad (ae 9) aj))) aj))))
abbrev me (bt:Bool):FS:=(az (aD 4 (ao ba (ae 2) (fK (.int 2))))
  (az (aD 5 (aN cn 2 (ad (bT (ao ba (ae 2) (fK (.int 3)))) (ad (bT (ao ba (ae 2) (fK (.int 4)))) aj))))
  (az (aD 6 (dN qd (ad (ae 0) aj)))
  (az (eW (iW (aN bM 1 (ad (bT (ae 2)) aj)))
  (cP (yy (ae 6) (ae 4) (fK (.tup [(.tup [(.bl false),(.tup [])]),(.tup [])]))))
  aM)
  (az (aD 7 (cx aj))
  (az (iU (DW (ae 6)) (uz 2 (aZ (bZ 8) (aZ (bZ 9) gd)))
  (dJ bt))
  (bD (kz (f8 bt) 1 (ad (ae 7) aj)))))))))
def eu (bt:Bool):MC:=zR 11 (me bt)
abbrev jw (bt:Bool):FS:=(az (cP (dC (uk bi) 2 (ad (eD "Book" "shape_list" (ae 0)) (ad (ae 1) aj))))
  (az (aD 2 (ao ba (ae 1) (fK (.int 1))))
  (az (aD 3 (ao ba (dC bR 2 (ad (eD "Book" "shape_list" (ae 0)) (ad (ae 2) aj))) (fK (.int 1))))
  (az (cP (yz jR (eD "Book" "tellings" (ae 0)) (ad (ae 1) aj)))
  (az (aD 4 (dN eR (ad (eD "Book" "tellings" (ae 0)) aj)))
  (az (pA (bT (kz (eu bt) 4 (ad (yA (eD "Book" "tables_now" (ae 0)) (ae 2)) (ad (ae 3) (ad (ae 1) (ad (ae 4) aj)))))) (rg (eD "Book" "tables_now" (ae 0)) (ae 2)))
  (bD (ae 4))))))))
def bH (bt:Bool):MW:=mV 5 (jw bt)
abbrev bX:FS:=(eW (fB (ao (oZ false) (ao ba (ae 11) (fK (.int 0))) (ao ba (ae 10) (fK (.int 1)))))
  (az (aD 6 (ao ba (ae 10) (fK (.int 1))))
  (aD 9 (uA (Ce (ao ba (ae 10) (fK (.int 2)))) d8 (dU (ao ba (ae 11) (fK (.int 1)))))))
  aM)
abbrev jt:FS:=(az (aD 5 (aN aE 2 (ad (bT (ae 3)) (ad (fK (.int 6)) aj))))
  (az (pA (ao ba (ae 1) (ao br (ae 5) (dN eR (ad (ae 1) aj)))) (uz 3 (aZ (bZ 6) (aZ (bZ 7) (aZ (bZ 8) gd)))))
  (az (aD 9 (dN qw (ad (dM [3] 1 (rj (ae 7)) (bZ 0) gk (ao ba (cx (ad (fK (.int 0)) (ad (fK (.int 1)) (ad (iV lP (fK (.int 1))) (ad (fK (.int 2)) aj))))) (ao br (ao cz (aN aE 2 (ad (bT (ae 1)) (ad (bT (ao cG (fK (.int 30)) (ae 0))) aj))) (fK (.int 5))) (fK (.int 4))))) aj)))
  (az (eW (fS (fB (ao (oZ true) (ae 2) (cx aj))) (fB (ao Lf (ao br (ao cz (ae 5) (fK (.int 8))) (fK (.int 3))) (fK (.int 0)))))
  (az (aD 10 (ao ba (ae 2) (ao br (ao cz (ae 5) (fK (.int 24))) (dN eR (ad (ae 2) aj)))))
  (iU (cQ (ae 1)) (bZ 11)
  bX))
  aM)
  (az (pA (dC (uk cZ) 4 (ad (ae 3) (ad (fK (.int 7)) (ad (ae 2) (ad (ae 4) aj))))) (uz 2 (aZ (bZ 12) (aZ (bZ 13) gd))))
  (az (eW (fB (ao (oZ false) (ao br (ao cz (ae 5) (fK (.int 5000))) (fK (.int 4))) (fK (.int 0))))
  (aD 13 (ao ba (cx (ad (ao kR (fK (.int 0)) (ao br (ae 3) (ao kh (fK (.int 10)) (fK (.int 40))))) (ad (ao br (ae 3) (ao kh (fK (.int 10)) (fK (.int 40)))) aj))) (ao br (ao cz (ae 5) (fK (.int 20000))) (fK (.int 2)))))
  aM)
  (az (aD 14 (jp "Book" "decided" bP 5 (ae 0) (ad (ae 6) (ad (ae 9) (ad (ae 12) (ad (ae 13) aj))))))
  (az (aD 15 (dC (uk dI) 5 (ad (ae 2) (ad (ae 6) (ad (ae 9) (ad (ae 12) (ad (ae 13) aj)))))))
  (az (eW (fB (iV (mG false .non) (ae 15)))
  (bD (iV (mG false .non) (ae 14)))
  aM)
  (bD (rk (iV (qZ "int") (ae 14)) (rk (l7 (iV (qZ "bool") (ae 14))) (ao (oZ false) (ae 14) (ae 15))))))))))))))
def bV:MW:=mV 16 (jt)
abbrev ju (bt:Bool):FS:=(bD (jp "Book" "take" (bH bt) 2 (ae 0) (ad (c7 (ad (fK (.str "tell")) (ad (ae 1) (ad (ae 2) (ad (ae 3) (ad (ae 4) aj)))))) aj)))
def dF (bt:Bool):MW:=mV 5 (ju bt)
abbrev gS (bt:Bool):FS:=(bD (jp "Book" "take" (bH bt) 2 (ae 0) (ad (c7 (ad (fK (.str "strike")) (ad (ae 1) (ad (ae 2) (ad (ae 3) (ad (ae 4) aj)))))) aj)))
def cI (bt:Bool):MW:=mV 5 (gS bt)
abbrev gK (bt:Bool):FS:=(az (eW (fB (ao (gQ false) (ao ba (ae 1) (fK (.int 0))) (fK (.str "tell"))))
  (bD (jp "Book" "tell" (dF bt) 5 (ae 0) (ad (ao ba (ae 1) (fK (.int 1))) (ad (ao ba (ae 1) (fK (.int 2))) (ad (ao ba (ae 1) (fK (.int 3))) (ad (ao ba (ae 1) (fK (.int 4))) aj))))))
  aM)
  (bD (jp "Book" "strike" (cI bt) 5 (ae 0) (ad (ao ba (ae 1) (fK (.int 1))) (ad (ao ba (ae 1) (fK (.int 2))) (ad (ao ba (ae 1) (fK (.int 3))) (ad (ao ba (ae 1) (fK (.int 4))) aj)))))))
def dE (bt:Bool):MW:=mV 2 (gK bt)
abbrev jJ (bt:Bool):FS:=(az (aD 6 (aN cJ 3 (ad (bT (ae 5)) (ad (bT (ae 1)) (ad (bT (ae 2)) aj)))))
  (az (eW (mw (iW (gf bV 5 (ad (ae 3) (ad (ae 1) (ad (ae 4) (ad (ae 5) (ad (ae 2) aj))))))))
  (bD (fK (.bl false)))
  aM)
  (az (cP (gf (dE bt) 2 (ad (ae 3) (ad (ae 6) aj))))
  (az (cP (yz jR (ae 4) (ad (ae 6) aj)))
  (eW (mw (iW (gf bV 5 (ad (ae 3) (ad (ae 1) (ad (ae 4) (ad (ao cG (ao cz (ae 5) (fK (.int 2))) (fK (.int 1))) (ad (ae 2) aj))))))))
  (bD (fK (.bl false)))
  aM)))))
abbrev jI (bt:Bool):FS:=(eW (mw (iW (gf bV 5 (ad (ae 3) (ad (ae 1) (ad (ae 4) (ad (ao cG (ae 5) (fK (.int 5))) (ad (ae 2) aj))))))))
  (bD (fK (.bl false)))
  aM)
abbrev BZ (bt:Bool):FS:=(az (aD 1 (aN c9 1 (ad (bT (aN cp 2 (ad (bT (ae 0)) (ad (fK (.int 0)) aj)))) aj)))
  (az (aD 2 (ao ba (cx (ad (fK (.int 1)) (ad (fK (.int 1)) (ad (ao kh (fK (.int 10)) (fK (.int 40))) aj)))) (ao br (aN cp 2 (ad (bT (ae 0)) (ad (fK (.int 0)) aj))) (fK (.int 3)))))
  (az (aD 3 (l8 "Book" cb 2 (ad (ae 1) aj)))
  (az (aD 4 (cx aj))
  (az (iU (cQ (uA (ae 0) d8 (dU (fK (.int 40))))) (bZ 5)
  (jJ bt))
  (az (iU (cQ (ao uu (cx (ad (fK (.int 0)) aj)) (uA (ae 0) d8 (dU (fK (.int 63)))))) (bZ 5)
  (jI bt))
  (bD (fK (.bl true)))))))))
def tu (bt:Bool):MF:=eQ 7 (BZ bt)
def zs:Tn:=["list","dict","len","min","range","set","sorted","tuple","max","isinstance","bool","int"]
def MY (mg:Td)(l:Tn):Prop:=∀(i:Nat) (x:Str),l[i]?=some x->mg x=none
def F6 {mg:Td}:MY mg []:=fun i x e=>by simp at e
theorem dq {mg:Td}{x:Str}{l:Tn}(h:mg x=none)(t:MY mg l):MY mg (x::l):=fun i y e=>by
 cases i with
 |zero=>cases e;exact h
 |succ i=>exact t i y e
def Zs (mg:Td):Prop:=MY mg zs
structure CF (K:zac)(mg:Td)(C:Addr):Prop where
 n:nc K mg "Book" C
 a_shape_list:eE K C "shape_list"
 a_tellings:eE K C "tellings"
 a_tables_now:eE K C "tables_now"
 mks:PySem.W.makesIn K C=true
 kp:PySem.W.keepIn K (.ref C)=true
section
variable {P:Program}{w:World}{K:zac}{mg:Td}{base:Heap}{qC:Addr}(cf:CF K mg qC)
include cf
set_option maxHeartbeats 4000000
theorem tM (z:Zs mg)(d:jz K qC "__init__" "Book.__init__" fF ["self","shapes"])  : eU P w K mg base 1 "__init__" qC ["self","shapes"] cb :=
 HV (k:=0) d qH fun f cdv A outer s H E hr =>
  (al (zO cf.n cf.a_shape_list (af 0) (Hc rfl (z 0 _ rfl) (ag (af 1) am)))
  (al (zO cf.n cf.a_tellings (af 0) (fj am))
  (aw (zO cf.n cf.a_tables_now (af 0) (C3 rfl rfl (z 1 _ rfl) (ag (gO [] ["shape"] [] rfl (show aP (ai fF) _ ["shape"] [] by ac_rfl) (hV (af 1)) (fun cl C s₂ H₂ fp=>⟨(dO 0 (show (["shape"]:Tn).Nodup by decide)),oS,(df (ag (aV (af 0) ah) (ag (bf (fj am)) am)))⟩)) am))))))
theorem tL (z:Zs mg)(d:jz K qC "take" "Book.take" iq ["self","telling"])(eZ:bj P w K mg base 2 "check_telling" ["shapes","telling"] bi)(lY:mM P w K mg base 3 "told_on" ["table","keys","telling","turn"] (eu (!HS.bt w)))(cw:bj P w K mg base 1 "shape_of" ["shapes","name"] bR):eU P w K mg base 4 "take" qC ["self","telling"] (bH (!HS.bt w)) :=
 HV (k:=3) d fG fun f cdv A outer s H E hr =>
  (al (eh (gC (nD eZ) (hr.mono (by decide)) (ag (kW cf.n cf.a_shape_list (af 0)) (ag (af 1) am))))
  (al (aB 2 fG.nd (aV (af 1) ah))
  (al (aB 3 fG.nd (aV (gC cw (hr.mono (by decide)) (ag (kW cf.n cf.a_shape_list (af 0)) (ag (af 2) am))) ah))
  (al (eh (oj (kW cf.n cf.a_tellings (af 0)) (ag (af 1) am)))
  (al (aB 4 fG.nd (gB rfl (z 2 _ rfl) (ag (kW cf.n cf.a_tellings (af 0)) am)))
  (al (wp (bf (nq lY (hr.mono (by decide)) (ag (KM hr.units (kW cf.n cf.a_tables_now (af 0)) (af 2)) (ag (af 3) (ag (af 1) (ag (af 4) am)))))) (NA hr.units (kW cf.n cf.a_tables_now (af 0)) (af 2)))
  (aw (aX (af 4)))))))))
theorem tK (z:Zs mg)(d:jz K qC "tell" "Book.tell" ip ["self","name","row","low","high"])(Jaa:eU P w K mg base 4 "take" qC ["self","telling"] (bH (!HS.bt w))):eU P w K mg base 5 "tell" qC ["self","name","row","low","high"] (dF (!HS.bt w)) :=
 HV (k:=4) d qG fun f cdv A outer s H E hr =>
  (aw (aX (j9 cf.n Jaa (hr.mono (by decide)) (af 0) (ag (df (ag fZ (ag (af 1) (ag (af 2) (ag (af 3) (ag (af 4) am)))))) am))))
theorem pG (z:Zs mg)(d:jz K qC "strike" "Book.strike" fU ["self","name","key","low","high"])(Jaa:eU P w K mg base 4 "take" qC ["self","telling"] (bH (!HS.bt w))):eU P w K mg base 5 "strike" qC ["self","name","key","low","high"] (cI (!HS.bt w)) :=
 HV (k:=4) d nZ fun f cdv A outer s H E hr =>
  (aw (aX (j9 cf.n Jaa (hr.mono (by decide)) (af 0) (ag (df (ag fZ (ag (af 1) (ag (af 2) (ag (af 3) (ag (af 4) am)))))) am))))
theorem oJ (z:Zs mg)(d:jz K qC "decided" "Book.decided" eV ["self","name","key","day","turn"])(cK:bj P w K mg base 1 "check_width" ["numbers","width"] bK)(l6:bj P w K mg base 2 "decides" ["telling","name","key","day"] eA)(cw:bj P w K mg base 1 "shape_of" ["shapes","name"] bR):eU P w K mg base 3 "decided" qC ["self","name","key","day","turn"] bP :=
 HV (k:=2) d iS fun f cdv A outer s H E hr =>
  (al (eh (aH cK (hr.mono (by decide)) (ag (bf (af 2)) (ag (bf (aV (gC cw (hr.mono (by decide)) (ag (kW cf.n cf.a_shape_list (af 0)) (ag (af 1) am))) ah)) am))))
  (al (kT rfl (Nx rfl (z 4 _ rfl) (Fv rfl rfl (z 3 _ rfl) (ag (af 4) (ag (gB rfl (z 2 _ rfl) (ag (kW cf.n cf.a_tellings (af 0)) am)) am))) ah (pR ah)) (dO 5 iS.nd)
  (aw (cS (kP (aH (nD l6) (hr.mono (by decide)) (ag (bf (aV (kW cf.n cf.a_tellings (af 0)) (my (af 5) ah))) (ag (bf (af 1)) (ag (bf (af 2)) (ag (bf (af 3)) am))))))
  (aw (aX (af 5)))
  bx)) PassesOwn.never)
  (aw (aX wx))))
theorem vm (z:Zs mg)(d:bS K mg "truth_by" i6 ["word","one","other"])  : bj P w K mg base 1 "truth_by" ["word","one","other"] bE :=
 okP (k:=0) d sB fun f cdv A outer s H E hr =>
  (al (cS (j1 hr.units (af 0) fZ)
  (aw (aX (wy (af 1) (sK (af 2)))))
  bx)
  (al (cS (j1 hr.units (af 0) fZ)
  (aw (aX (KI (af 1) (sK (af 2)))))
  bx)
  (al (cS (j1 hr.units (af 0) fZ)
  (aw (aX (wy (af 1) (sK (sL (af 2))))))
  bx)
  (al (cS (j1 hr.units (af 0) fZ)
  (aw (aX (Nn hr.units (af 1) (af 2))))
  bx)
  (aw ir)))))
theorem yk (z:Zs mg)(d:bS K mg "lies_in" ik ["reach","number"])  : bj P w K mg base 1 "lies_in" ["reach","number"] g9 :=
 okP (k:=0) d nY fun f cdv A outer s H E hr =>
  (al (aB 2 nY.nd (gB rfl (z 2 _ rfl) (ag (gO [1] ["edge"] ["number"] rfl (show aP (ai ik) _ ["edge"] ["number"] by ac_rfl) (hV (aV (af 0) ah)) (fun cl C s₂ H₂ fp=>⟨(dO 0 (show (["edge","number"]:Tn).Nodup by decide)),(Bs (Gj (af 0) (af 1))),(af 0)⟩)) am)))
  (aw (aX (C1 (j1 hr.units (bv (af 2) ah) ah) (aV (af 0) ah) (sL (aV (af 0) ah))))))
theorem qW (z:Zs mg)(d:bS K mg "stretch_of" gM ["low","high"])(Jai:gT K mg "NO_NUMBERS" (.tup [(.bl false),(.tup [])]))(Jae:gT K mg "ALL_NUMBERS" (.tup [(.bl true),(.tup [])])):bj P w K mg base 1 "stretch_of" ["low","high"] cn :=
 okP (k:=0) d px fun f cdv A outer s H E hr =>
  (al (cS (E7 (kL (sm (af 0)) (jZ (sm (af 1)))))
  (aw (aX (jD Jae)))
  bx)
  (al (cS (sm (af 0))
  (aw (aX (df (ag oh (ag (df (ag (af 1) am)) am)))))
  bx)
  (al (cS (sm (af 1))
  (aw (aX (df (ag oh (ag (df (ag (af 0) am)) am)))))
  bx)
  (al (cS (Gj (af 1) (af 0))
  (aw (aX (jD Jai)))
  bx)
  (aw (aX (df (ag oh (ag (df (ag (af 0) (ag (af 1) am))) am)))))))))
theorem DD (z:Zs mg)(d:bS K mg "blend" ja ["one","other","word"])(iD:bj P w K mg base 1 "truth_by" ["word","one","other"] bE):bj P w K mg base 2 "blend" ["one","other","word"] (jH (!HS.bt w)) :=
 okP (k:=1) d b7 fun f cdv A outer s H E hr =>
  (al (aB 3 b7.nd (aV (af 0) ah))
  (al (aB 4 b7.nd (aV (af 1) ah))
  (al (aB 5 b7.nd (aH iD (hr.mono (by decide)) (ag (bf (af 2)) (ag (bf (af 3)) (ag (bf (af 4)) am)))))
  (al (aB 6 b7.nd (af 5))
  (al (aB 7 b7.nd (Am rfl rfl (z 1 _ rfl) (ag (gO [] ["edge"] [] rfl (show aP (ai ja) _ ["edge"] [] by ac_rfl) (hV (aV (af 0) ah)) (fun cl C s₂ H₂ fp=>⟨(dO 0 (show (["edge"]:Tn).Nodup by decide)),oS,(df (ag (af 0) (ag oh am)))⟩)) am)))
  (al (aB 8 b7.nd (Am rfl rfl (z 1 _ rfl) (ag (gO [] ["edge"] [] rfl (show aP (ai ja) _ ["edge"] [] by ac_rfl) (hV (aV (af 1) ah)) (fun cl C s₂ H₂ fp=>⟨(dO 0 (show (["edge"]:Tn).Nodup by decide)),oS,(df (ag (af 0) (ag oh am)))⟩)) am)))
  (al (aB 9 b7.nd (fj am))
  (al (kT rfl (hV (Al rfl rfl (z 6 _ rfl) (ag (KN (Fu rfl rfl (z 5 _ rfl) (ag (aV (af 0) ah) am)) (Fu rfl rfl (z 5 _ rfl) (ag (aV (af 1) ah) am))) am))) (dO 10 b7.nd)
  (al (cS (JZ hr.units (af 10) (af 7))
  (aw (aB 3 b7.nd (sL (af 3))))
  bx)
  (al (cS (JZ hr.units (af 10) (af 8))
  (aw (aB 4 b7.nd (sL (af 4))))
  bx)
  (al (aB 11 b7.nd (aH iD (hr.mono (by decide)) (ag (bf (af 2)) (ag (bf (af 3)) (ag (bf (af 4)) am)))))
  (al (cS (uQ hr.units (af 11) (af 6))
  (aw (eh (oj (af 9) (ag (af 10) am))))
  bx)
  (aw (aB 6 b7.nd (af 11))))))) PassesOwn.never)
  (aw (aX (df (ag (af 5) (ag (ww rfl (z 7 _ rfl) (ag (af 9) am)) am)))))))))))))
theorem tJ (z:Zs mg)(d:bS K mg "all_spots" io ["plots"])  : bj P w K mg base 1 "all_spots" ["plots"] c6 :=
 okP (k:=0) d qF fun f cdv A outer s H E hr =>
  (al (cS (j1 hr.units (gB rfl (z 2 _ rfl) (ag (af 0) am)) ah)
  (aw (aX (aV (af 0) ah)))
  bx)
  (aw ir))
theorem vn (z:Zs mg)(d:bS K mg "table_of" eN ["pairs"])(jn:bj P w K mg base 1 "all_spots" ["plots"] c6)(Jab:gT K mg "NO_SPOTS" (.tup [(.tup [(.bl false),(.tup [])]),(.tup [])])):mM P w K mg base 2 "table_of" ["pairs"] (f8 (!HS.bt w)) :=
 okN (k:=1) d eP fun f cdv A outer s H E hr =>
  (al (aB 1 eP.nd KL)
  (al (kT rfl (hV (af 0)) (Bl rfl (du (dO 2 eP.nd) (du (dO 3 eP.nd) oO)))
  (aw (eh (oj (Hb hr.units (af 1) (af 2) (fj am)) (ag (af 3) am)))) PassesOwn.never)
  (al (qI 4 [1] ["row"] ["plots"] rfl (show aP (ai eN) _ ["row"] ["plots"] by ac_rfl) eP.nd (hV (xJ rfl rfl (z 6 _ rfl) (ag (af 1) am))) (fun cl C s₂ H₂ fp=>⟨(dO 0 (show (["row","plots"]:Tn).Nodup by decide)),oS,(df (ag (af 0) (ag (aH jn (hr.mono (by decide)) (ag (bf (KG hr.units (af 1) (af 0))) am)) am)))⟩))
  (aw (aX (gO [] ["entry"] [] rfl (show aP (ai eN) _ ["entry"] [] by ac_rfl) (hV (af 4)) (fun cl C s₂ H₂ fp=>⟨(dO 0 (show (["entry"]:Tn).Nodup by decide)),(Bs (uQ hr.units (aV (af 0) ah) (jD Jab))),(af 0)⟩)))))))
theorem vp (z:Zs mg)(d:bS K mg "shape_of" i7 ["shapes","name"])  : bj P w K mg base 1 "shape_of" ["shapes","name"] bR :=
 okP (k:=0) d mx fun f cdv A outer s H E hr =>
  (al (kT rfl (hV (af 0)) (dO 2 mx.nd)
  (aw (cS (j1 hr.units (aV (af 2) ah) (af 1))
  (aw (aX (af 2)))
  bx)) PassesOwn.never)
  (aw ir))
theorem pF (z:Zs mg)(d:bS K mg "check_width" fT ["numbers","width"])  : bj P w K mg base 1 "check_width" ["numbers","width"] bK :=
 okP (k:=0) d jf fun f cdv A outer s H E hr =>
  (al (aB 2 jf.nd (gB rfl (z 2 _ rfl) (ag (af 0) am)))
  (aw (cS (uQ hr.units (af 2) (af 1))
  (aw ir)
  bx)))
theorem mZ (z:Zs mg)(d:bS K mg "check_stretch" ee ["low","high"])  : bj P w K mg base 1 "check_stretch" ["low","high"] cD :=
 okP (k:=0) d lI fun f cdv A outer s H E hr =>
  (aw (cS (E7 (kL (qy (af 0)) (kL (qy (af 1)) (jZ (Gj (af 1) (af 0))))))
  (aw ir)
  bx))
theorem ym (z:Zs mg)(d:bS K mg "is_tell" j5 ["telling"])  : bj P w K mg base 1 "is_tell" ["telling"] bM :=
 okP (k:=0) d uY fun f cdv A outer s H E hr =>
  (aw (aX (Np hr.units (aV (af 0) ah) fZ)))
theorem mY (z:Zs mg)(d:bS K mg "check_telling" d9 ["shapes","telling"])(cw:bj P w K mg base 1 "shape_of" ["shapes","name"] bR)(cK:bj P w K mg base 1 "check_width" ["numbers","width"] bK)(ff:bj P w K mg base 1 "check_stretch" ["low","high"] cD)(eB:bj P w K mg base 1 "is_tell" ["telling"] bM):bj P w K mg base 2 "check_telling" ["shapes","telling"] bi :=
 okP (k:=1) d gZ fun f cdv A outer s H E hr =>
  (al (aB 2 gZ.nd (gC cw (hr.mono (by decide)) (ag (af 0) (ag (aV (af 1) ah) am))))
  (al (eh (aH cK (hr.mono (by decide)) (ag (bf (aV (af 1) ah)) (ag (bf (C1 (kP (aH eB (hr.mono (by decide)) (ag (bf (af 1)) am))) (aV (af 2) ah) (aV (af 2) ah))) am))))
  (aw (eh (aH ff (hr.mono (by decide)) (ag (bf (aV (af 1) ah)) (ag (bf (aV (af 1) ah)) am)))))))
theorem qY (z:Zs mg)(d:bS K mg "last_reach" gN ["plot"])  : bj P w K mg base 1 "last_reach" ["plot"] cq :=
 okP (k:=0) d pz fun f cdv A outer s H E hr =>
  (aw (aX (C1 (kP (aV (af 0) ah)) (aV (aV (aV (af 0) ah) (pR ah)) ah) (aV (af 0) ah))))
theorem yj (z:Zs mg)(d:bS K mg "stepped" j3 ["plot","turn","reach"])(db:bj P w K mg base 1 "last_reach" ["plot"] cq):bj P w K mg base 2 "stepped" ["plot","turn","reach"] g8 :=
 okP (k:=1) d uX fun f cdv A outer s H E hr =>
  (al (cS (j1 hr.units (af 2) (aH db (hr.mono (by decide)) (ag (bf (af 0)) am)))
  (aw (aX (af 0)))
  bx)
  (aw (aX (df (ag (aV (af 0) ah) (ag (bQ (aV (af 0) ah) (df (ag (df (ag (af 1) (ag (af 2) am))) am))) am))))))
theorem yi (z:Zs mg)(d:bS K mg "told_on" j2 ["table","keys","telling","turn"])(da:bj P w K mg base 1 "stretch_of" ["low","high"] cn)(eB:bj P w K mg base 1 "is_tell" ["telling"] bM)(kq:mM P w K mg base 2 "table_of" ["pairs"] (f8 (!HS.bt w)))(lZ:bj P w K mg base 2 "stepped" ["plot","turn","reach"] g8)(rf:bj P w K mg base 2 "blend" ["one","other","word"] (jH (!HS.bt w)))(db:bj P w K mg base 1 "last_reach" ["plot"] cq)(Jab:gT K mg "NO_SPOTS" (.tup [(.tup [(.bl false),(.tup [])]),(.tup [])])):mM P w K mg base 3 "told_on" ["table","keys","telling","turn"] (eu (!HS.bt w)) :=
 okN (k:=2) d cV fun f cdv A outer s H E hr =>
  (al (aB 4 cV.nd (aV (af 2) ah))
  (al (aB 5 cV.nd (aH da (hr.mono (by decide)) (ag (bf (aV (af 2) ah)) (ag (bf (aV (af 2) ah)) am))))
  (al (aB 6 cV.nd (C2 hr.units rfl rfl (z 1 _ rfl) (ag (af 0) am)))
  (al (cS (kP (aH eB (hr.mono (by decide)) (ag (bf (af 2)) am)))
  (aw (eh (KH hr.units (af 6) (af 4) (jD Jab))))
  bx)
  (al (aB 7 cV.nd (fj am))
  (al (Gz rfl (DN (af 6)) (Bl rfl (du (dO 8 cV.nd) (du (dO 9 cV.nd) oO)))
  (aw (cS (wj hr.units (qL (C4 (af 8)) oe (lK (af 1))) (qL (C4 (af 4)) oe (lK (af 1))))
  (al (aB 10 cV.nd (C1 (E7 (kL (kP (aH eB (hr.mono (by decide)) (ag (bf (af 2)) am))) (jZ (wj hr.units (af 8) (af 4))))) fZ fZ))
  (aw (eh (oj (af 7) (ag (df (ag (af 8) (ag (aH lZ (hr.mono (by decide)) (ag (bf (af 9)) (ag (bf (af 3)) (ag (bf (aH rf (hr.mono (by decide)) (ag (bf (aH db (hr.mono (by decide)) (ag (bf (af 9)) am))) (ag (bf (af 5)) (ag (bf (af 10)) am))))) am)))) am))) am)))))
  (aw (eh (oj (af 7) (ag (df (ag (af 8) (ag (af 9) am))) am)))))) PassesOwn.never)
  (aw (aX (nq kq (hr.mono (by decide)) (ag (af 7) am))))))))))
theorem yn (z:Zs mg)(d:bS K mg "decides" j6 ["telling","name","key","day"])(l4:bj P w K mg base 1 "lies_in" ["reach","number"] g9)(da:bj P w K mg base 1 "stretch_of" ["low","high"] cn):bj P w K mg base 2 "decides" ["telling","name","key","day"] eA :=
 okP (k:=1) d uZ fun f cdv A outer s H E hr =>
  (al (cS (E7 (M9 (uQ hr.units (aV (af 0) ah) (af 1)) (Jq (uQ hr.units (qL (aV (af 0) ah) oe (lK (gB rfl (z 2 _ rfl) (ag (af 2) am)))) (af 2)))))
  (aw (aX oh))
  bx)
  (aw (aX (aH l4 (hr.mono (by decide)) (ag (bf (aH da (hr.mono (by decide)) (ag (bf (aV (af 0) ah)) (ag (bf (aV (af 0) ah)) am)))) (ag (bf (af 3)) am))))))
theorem vw (z:Zs mg)(d:bS K mg "_law_cell" i9 ["script","k"])  : bj P w K mg base 1 "_law_cell" ["script","k"] cp :=
 okP (k:=0) d sC fun f cdv A outer s H E hr =>
  (al (cS (JX (af 1) (gB rfl (z 2 _ rfl) (ag (af 0) am)))
  (aw (aX (aV (af 0) (af 1))))
  bx)
  (aw (aX ah)))
theorem vt (z:Zs mg)(d:bS K mg "_law_stir" i8 ["cell","k"])  : bj P w K mg base 1 "_law_stir" ["cell","k"] aE :=
 okP (k:=0) d jd fun f cdv A outer s H E hr =>
  (al (aB 2 jd.nd (bv (og (bQ (bv (af 0) ah) ah) ah) ah))
  (al (aB 2 jd.nd (bv (bQ (bQ (og (af 2) (af 2)) (og (af 1) ah)) ah) ah))
  (aw (aX (bv (og (af 2) (af 2)) ah)))))
theorem qX (z:Zs mg)(d:bS K mg "_law_shapes" eG ["cell"])(aU:bj P w K mg base 1 "_law_stir" ["cell","k"] aE):bj P w K mg base 2 "_law_shapes" ["cell"] c9 :=
 okP (k:=1) d bJ fun f cdv A outer s H E hr =>
  (al (aB 1 bJ.nd (aH aU (hr.mono (by decide)) (ag (bf (af 0)) (ag ah am))))
  (al (aB 2 bJ.nd (Hf fZ (gO [0] ["k"] ["cell"] rfl (show aP (ai eG) _ ["k"] ["cell"] by ac_rfl) (Bf rfl (z 4 _ rfl) (bQ ah (bv (af 1) ah))) (fun cl C s₂ H₂ fp=>⟨(dO 0 (show (["k","cell"]:Tn).Nodup by decide)),oS,(Fw fZ (bv (cY (aH aU (hr.mono (by decide)) (ag (bf (af 1)) (ag (bf (bQ ah (af 0))) am))) ah) ah))⟩))))
  (al (aB 3 bJ.nd (bv (cY (af 1) ah) (Hd rfl (z 2 _ rfl) (ag (af 2) am))))
  (al (aB 4 bJ.nd (fj am))
  (al (kT rfl (Bf rfl (z 4 _ rfl) (bQ ah (bv (cY (af 1) ah) ah))) (dO 5 bJ.nd)
  (al (aB 6 bJ.nd (bQ ah (bv (cY (aH aU (hr.mono (by decide)) (ag (bf (af 0)) (ag (bf (bQ ah (af 5))) am))) ah) (aV (fj (ag ah (ag ah (ag ah am)))) (bv (cY (af 1) ah) ah)))))
  (al (aB 7 bJ.nd (bQ (bQ (Ft (af 2) oe (lK (af 3))) (Fw fZ (af 5))) (Ft (af 2) (lK (bQ (af 3) ah)) oe)))
  (aw (eh (oj (af 4) (ag (df (ag (af 7) (ag (bv (cY (aH aU (hr.mono (by decide)) (ag (bf (af 0)) (ag (bf (bQ ah (af 5))) am))) ah) (bQ (af 6) ah)) (ag (af 6) am)))) am)))))) PassesOwn.never)
  (aw (aX (af 4))))))))
theorem pE (z:Zs mg)(d:bS K mg "_law_telling" dQ ["cell","shapes","scale"])(aU:bj P w K mg base 1 "_law_stir" ["cell","k"] aE):bj P w K mg base 2 "_law_telling" ["cell","shapes","scale"] cJ :=
 okP (k:=1) d aT fun f cdv A outer s H E hr =>
  (al (aB 3 aT.nd (aH aU (hr.mono (by decide)) (ag (bf (af 0)) (ag ah am))))
  (al (wp (aV (af 1) (bv (af 3) (gB rfl (z 2 _ rfl) (ag (af 1) am)))) (Bl rfl (du (dO 4 aT.nd) (du (dO 5 aT.nd) (du (dO 6 aT.nd) oO)))))
  (al (aB 7 aT.nd (fj (ag ah (ag ah (ag (pR ah) (ag (bv (af 0) (sJ ah ah)) (ag (my ah (bv (af 0) (sJ ah ah))) am)))))))
  (al (aB 8 aT.nd (He rfl (z 7 _ rfl) (ag (gO [7,0] ["k"] ["menu","cell"] rfl (show aP (ai dQ) _ ["k"] ["menu","cell"] by ac_rfl) (Bf rfl (z 4 _ rfl) (af 6)) (fun cl C s₂ H₂ fp=>⟨(dO 0 (show (["k","menu","cell"]:Tn).Nodup by decide)),oS,(aV (af 1) (bv (cY (aH aU (hr.mono (by decide)) (ag (bf (af 2)) (ag (bf (bQ ah (af 0))) am))) ah) ah))⟩)) am)))
  (al (aB 9 aT.nd (og (my (bv (cY (af 3) ah) ah) ah) (af 2)))
  (al (aB 10 aT.nd (bQ (af 9) (og (bQ ah (bv (cY (af 3) ah) ah)) (af 2))))
  (al (cS (j1 hr.units (bv (cY (af 3) ah) ah) ah)
  (aw (aB 9 aT.nd wx))
  bx)
  (al (cS (j1 hr.units (bv (cY (af 3) ah) ah) ah)
  (aw (aB 10 aT.nd wx))
  bx)
  (al (cS (j1 hr.units (bv (cY (af 3) ah) ah) ah)
  (aw (aX (df (ag fZ (ag (af 4) (ag (qL (C4 (af 8)) oe (lK (af 5))) (ag (af 9) (ag (af 10) am))))))))
  bx)
  (aw (aX (df (ag fZ (ag (af 4) (ag (af 8) (ag (af 9) (ag (af 10) am)))))))))))))))))
theorem tI (z:Zs mg)(d:bS K mg "_law_asked" im ["book","telling"])(Jaf:eU P w K mg base 5 "strike" qC ["self","name","key","low","high"] (cI (!HS.bt w)))(Jal:eU P w K mg base 5 "tell" qC ["self","name","row","low","high"] (dF (!HS.bt w))):mL P w K mg base 6 "_law_asked" ["book","telling"] (dE (!HS.bt w)) :=
 okW (k:=5) d qE fun f cdv A outer s H E hr =>
  (al (cS (j1 hr.units (aV (af 1) ah) fZ)
  (aw (aX (j9 cf.n Jal (hr.mono (by decide)) (af 0) (ag (aV (af 1) ah) (ag (aV (af 1) ah) (ag (aV (af 1) ah) (ag (aV (af 1) ah) am)))))))
  bx)
  (aw (aX (j9 cf.n Jaf (hr.mono (by decide)) (af 0) (ag (aV (af 1) ah) (ag (aV (af 1) ah) (ag (aV (af 1) ah) (ag (aV (af 1) ah) am))))))))
theorem vq (z:Zs mg)(d:bS K mg "_law_when" gz ["cell","k","tellings","scale"])(aU:bj P w K mg base 1 "_law_stir" ["cell","k"] aE):bj P w K mg base 2 "_law_when" ["cell","k","tellings","scale"] cZ :=
 okP (k:=1) d dH fun f cdv A outer s H E hr =>
  (al (aB 4 dH.nd (aH aU (hr.mono (by decide)) (ag (bf (af 0)) (ag (bf (bQ (af 1) ah)) am))))
  (al (aB 5 dH.nd (my (bv (af 4) (bQ (gB rfl (z 2 _ rfl) (ag (af 2) am)) ah)) ah))
  (al (aB 6 dH.nd (my (og (my (bv (cY (af 4) ah) ah) ah) (af 3)) (bv (cY (af 4) ah) ah)))
  (al (cS (E7 (kL (uQ hr.units (af 2) (fj am)) (jZ (j1 hr.units (bv (cY (af 4) ah) ah) ah))))
  (al (qI 7 [] ["end"] [] rfl (show aP (ai gz) _ ["end"] [] by ac_rfl) dH.nd (hV (qL (aV (af 2) (bv (cY (af 4) ah) (gB rfl (z 2 _ rfl) (ag (af 2) am)))) (lK ah) oe)) (fun cl C s₂ H₂ fp=>⟨(dO 0 (show (["end"]:Tn).Nodup by decide)),(Bs (qy (af 0))),(af 0)⟩))
  (aw (cS (uQ hr.units (af 7) (fj am))
  (aw (aB 6 dH.nd (my (aV (af 7) ah) (bv (cY (af 4) ah) ah))))
  bx)))
  bx)
  (aw (aX (df (ag (af 6) (ag (af 5) am)))))))))
theorem A5 (z:Zs mg)(d:bS K mg "_law_in" lG ["telling","day"])  : bj P w K mg base 1 "_law_in" ["telling","day"] ji :=
 okP (k:=0) d xE fun f cdv A outer s H E hr =>
  (al (cS (E7 (kL (qy (aV (af 0) ah)) (jZ (JX (af 1) (aV (af 0) ah)))))
  (aw (aX oh))
  bx)
  (aw (aX (KI (Fy (aV (af 0) ah)) (sK (No (af 1) (aV (af 0) ah)))))))
theorem yl (z:Zs mg)(d:bS K mg "_law_due" j4 ["tellings","name","key","day","turn"])(oN:bj P w K mg base 1 "_law_in" ["telling","day"] ji):bj P w K mg base 2 "_law_due" ["tellings","name","key","day","turn"] dI :=
 okP (k:=1) d fV fun f cdv A outer s H E hr =>
  (al (aB 5 fV.nd wx)
  (al (kT rfl (Bf rfl (z 4 _ rfl) (Fv rfl rfl (z 3 _ rfl) (ag (KJ rfl rfl (z 8 _ rfl) (ag ah (ag (af 4) am))) (ag (gB rfl (z 2 _ rfl) (ag (af 0) am)) am)))) (dO 6 fV.nd)
  (al (aB 7 fV.nd (aV (af 0) (af 6)))
  (aw (cS (E7 (kL (j1 hr.units (aV (af 7) ah) (af 1)) (kL (j1 hr.units (qL (aV (af 7) ah) oe (lK (gB rfl (z 2 _ rfl) (ag (af 2) am)))) (af 2)) (jZ (kP (aH oN (hr.mono (by decide)) (ag (bf (af 7)) (ag (bf (af 3)) am))))))))
  (aw (aB 5 fV.nd (bQ (af 6) ah)))
  bx))) PassesOwn.never)
  (aw (aX (af 5)))))
theorem tH (z:Zs mg)(d:bS K mg "_law_right" fA ["book","shapes","tellings","cell","scale"])(aU:bj P w K mg base 1 "_law_stir" ["cell","k"] aE)(ku:bj P w K mg base 2 "_law_when" ["cell","k","tellings","scale"] cZ)(Jac:eU P w K mg base 3 "decided" qC ["self","name","key","day","turn"] bP)(l5:bj P w K mg base 2 "_law_due" ["tellings","name","key","day","turn"] dI):mL P w K mg base 4 "_law_right" ["book","shapes","tellings","cell","scale"] bV :=
 okW (k:=3) d aK fun f cdv A outer s H E hr =>
  (al (aB 5 aK.nd (aH aU (hr.mono (by decide)) (ag (bf (af 3)) (ag ah am))))
  (al (wp (aV (af 1) (bv (af 5) (gB rfl (z 2 _ rfl) (ag (af 1) am)))) (Bl rfl (du (dO 6 aK.nd) (du (dO 7 aK.nd) (du (dO 8 aK.nd) oO)))))
  (al (aB 9 aK.nd (ww rfl (z 7 _ rfl) (ag (gO [3] ["k"] ["cell"] rfl (show aP (ai fA) _ ["k"] ["cell"] by ac_rfl) (Bf rfl (z 4 _ rfl) (af 7)) (fun cl C s₂ H₂ fp=>⟨(dO 0 (show (["k","cell"]:Tn).Nodup by decide)),oS,(aV (fj (ag ah (ag ah (ag (pR ah) (ag ah am))))) (bv (cY (aH aU (hr.mono (by decide)) (ag (bf (af 1)) (ag (bf (bQ ah (af 0))) am))) ah) ah))⟩)) am)))
  (al (cS (E7 (kL (JW hr.units (af 2) (fj am)) (jZ (Nd (bv (cY (af 5) ah) ah) ah))))
  (al (aB 10 aK.nd (aV (af 2) (bv (cY (af 5) ah) (gB rfl (z 2 _ rfl) (ag (af 2) am)))))
  (aw (kT rfl (hV (af 1)) (dO 11 aK.nd)
  (aw (cS (wj hr.units (aV (af 11) ah) (aV (af 10) ah))
  (al (aB 6 aK.nd (aV (af 10) ah))
  (aw (aB 9 aK.nd (qL (C4 (aV (af 10) ah)) oe (lK (aV (af 11) ah))))))
  bx)) PassesOwn.never)))
  bx)
  (al (wp (gC (nD ku) (hr.mono (by decide)) (ag (af 3) (ag ah (ag (af 2) (ag (af 4) am))))) (Bl rfl (du (dO 12 aK.nd) (du (dO 13 aK.nd) oO))))
  (al (cS (wj hr.units (bv (cY (af 5) ah) ah) ah)
  (aw (aB 13 aK.nd (aV (fj (ag (my ah (bv (af 3) (sJ ah ah))) (ag (bv (af 3) (sJ ah ah)) am))) (bv (cY (af 5) ah) ah))))
  bx)
  (al (aB 14 aK.nd (j9 cf.n Jac (hr.mono (by decide)) (af 0) (ag (af 6) (ag (af 9) (ag (af 12) (ag (af 13) am))))))
  (al (aB 15 aK.nd (gC (nD l5) (hr.mono (by decide)) (ag (af 2) (ag (af 6) (ag (af 9) (ag (af 12) (ag (af 13) am)))))))
  (al (cS (sm (af 15))
  (aw (aX (Fy (af 14))))
  bx)
  (aw (aX (wy (Fx ye rfl (z 9 _ rfl) rfl (z 11 _ rfl) yN (af 14)) (wy (sL (Fx vj rfl (z 9 _ rfl) rfl (z 10 _ rfl) vT (af 14))) (sK (KK hr.units (af 14) (af 15))))))))))))))))
theorem K9 {f:Addr}(z:Zs mg)(F:nG K "law" "law" uS f fd)(iE:bj P w K mg base 2 "_law_shapes" ["cell"] c9)(Jam:eU P w K mg base 1 "__init__" qC ["self","shapes"] cb)(iF:bj P w K mg base 1 "_law_cell" ["script","k"] cp)(gP:bj P w K mg base 2 "_law_telling" ["cell","shapes","scale"] cJ)(jm:mL P w K mg base 6 "_law_asked" ["book","telling"] (dE (!HS.bt w)))(eS:mL P w K mg base 4 "_law_right" ["book","shapes","tellings","cell","scale"] bV):ca P w K mg base jN 7 f fd ["script"] (yT K 1 (tu (!HS.bt w))) :=
 Iz (k:=6) F je fun cdv A outer s H E hr =>
  (al (aB 1 je.nd (aH iE (hr.mono (by decide)) (ag (bf (aH iF (hr.mono (by decide)) (ag (bf (af 0)) (ag ah am)))) am)))
  (al (aB 2 je.nd (aV (fj (ag ah (ag ah (ag (sJ ah ah) am)))) (bv (aH iF (hr.mono (by decide)) (ag (bf (af 0)) (ag ah am))) ah)))
  (al (aB 3 je.nd (qM cf.n cf.mks cf.kp Jam (hr.mono (by decide)) (ag (af 1) am)))
  (al (aB 4 je.nd (fj am))
  (al (kT rfl (hV (qL (af 0) oe (lK ah))) (dO 5 je.nd)
  (al (aB 6 je.nd (aH gP (hr.mono (by decide)) (ag (bf (af 5)) (ag (bf (af 1)) (ag (bf (af 2)) am)))))
  (al (cS (zv (kP (jE eS (hr.mono (by decide)) (ag (af 3) (ag (af 1) (ag (af 4) (ag (af 5) (ag (af 2) am))))))))
  (aw (aX oh))
  bx)
  (al (eh (jE jm (hr.mono (by decide)) (ag (af 3) (ag (af 6) am))))
  (al (eh (oj (af 4) (ag (af 6) am)))
  (aw (cS (zv (kP (jE eS (hr.mono (by decide)) (ag (af 3) (ag (af 1) (ag (af 4) (ag (bQ (cY (af 5) ah) ah) (ag (af 2) am))))))))
  (aw (aX oh))
  bx)))))) PassesOwn.never)
  (al (kT rfl (hV (Hh (fj (ag ah am)) (qL (af 0) oe (lK ah)))) (dO 5 je.nd)
  (aw (cS (zv (kP (jE eS (hr.mono (by decide)) (ag (af 3) (ag (af 1) (ag (af 4) (ag (bQ (af 5) ah) (ag (af 2) am))))))))
  (aw (aX oh))
  bx)) PassesOwn.never)
  (aw (aX oh))))))))
end
set_option maxHeartbeats 4000000 in
def IV {l:PySem.W.OpenLaw}{w:World}{K:zac}{h:Heap}{mg:Td}{fa qC:Addr}(X:K.In h)(G:h.Ns mainGlobals mg)(hfa:mg "law" = some (.ref fa))
  (aC:PySem.W.nsIn K mainGlobals "Book" = some (some (.ref qC))) (pg:PySem.W.plainGet K qC Str.empty=true) (hd:PySem.W.hasDictIn K qC=true) (po:PySem.W.plainOver K qC=true) (sa:PySem.W.findIn K (.ref qC) "__setattr__" = some (some (.builtin "object.__setattr__"))) (mk:PySem.W.makesIn K qC=true) (kc:PySem.W.keepIn K (.ref qC)=true)
  (n_shape_list:PySem.W.findIn K (.ref qC) "shape_list" = some none)
  (n_tellings:PySem.W.findIn K (.ref qC) "tellings" = some none)
  (n_tables_now:PySem.W.findIn K (.ref qC) "tables_now" = some none)
  (a0:Jb K qC "__init__" "Book.__init__" fF)
  (a1:Jb K qC "take" "Book.take" iq)
  (a2:Jb K qC "tell" "Book.tell" ip)
  (a3:Jb K qC "strike" "Book.strike" fU)
  (a4:Jb K qC "decided" "Book.decided" eV)
  (a5:FK K "truth_by" i6)
  (a6:FK K "lies_in" ik)
  (a7:FK K "stretch_of" gM)
  (a8:FK K "blend" ja)
  (a9:FK K "all_spots" io)
  (a10:FK K "table_of" eN)
  (a11:FK K "shape_of" i7)
  (a12:FK K "check_width" fT)
  (a13:FK K "check_stretch" ee)
  (a14:FK K "is_tell" j5)
  (a15:FK K "check_telling" d9)
  (a16:FK K "last_reach" gN)
  (a17:FK K "stepped" j3)
  (a18:FK K "told_on" j2)
  (a19:FK K "decides" j6)
  (a20:FK K "_law_cell" i9)
  (a21:FK K "_law_stir" i8)
  (a22:FK K "_law_shapes" eG)
  (a23:FK K "_law_telling" dQ)
  (a24:FK K "_law_asked" im)
  (a25:FK K "_law_when" gz)
  (a26:FK K "_law_in" lG)
  (a27:FK K "_law_due" j4)
  (a28:FK K "_law_right" fA)
  (a29:FK K "law" uS)
  {Jax:Addr} {Jbf:Nat} {Jbg:Array (Tg)} {Jas:Addr} {Ja4:Nat} {Ja5:Array (Tg)} {Jau:Addr} {Jba:Nat} {Jbb:Array (Tg)} {Jar:Addr} {Ja0:Nat} {Ja1:Array (Tg)} {Ja9:Addr} {Jbu:Nat} {Jbv:Array (Tg)} {Jay:Addr} {Jbh:Nat} {Jbi:Array (Tg)} {Jaz:Addr} {Jbj:Nat} {Jbk:Array (Tg)} {Jat:Addr} {Ja6:Nat} {Ja7:Array (Tg)} (Jan:PySem.W.nsIn K mainGlobals "NO_NUMBERS" = some (some (.ref Jax))) (Jao:K.lookup Jax=some ⟨.type "tuple",none,.seq ([(.bool false),(.ref Jas)]:Te).toArray Jbf,Jbg⟩) (Jag:K.lookup Jas=some ⟨.type "tuple",none,.seq ([]:Te).toArray Ja4,Ja5⟩) (Jaj:PySem.W.nsIn K mainGlobals "ALL_NUMBERS" = some (some (.ref Jau))) (Jak:K.lookup Jau=some ⟨.type "tuple",none,.seq ([(.bool true),(.ref Jar)]:Te).toArray Jba,Jbb⟩) (Jad:K.lookup Jar=some ⟨.type "tuple",none,.seq ([]:Te).toArray Ja0,Ja1⟩) (Jav:PySem.W.nsIn K mainGlobals "NO_SPOTS" = some (some (.ref Ja9))) (Jaw:K.lookup Ja9=some ⟨.type "tuple",none,.seq ([(.ref Jaz),(.ref Jay)]:Te).toArray Jbu,Jbv⟩) (Jap:K.lookup Jay=some ⟨.type "tuple",none,.seq ([]:Te).toArray Jbh,Jbi⟩) (Jaq:K.lookup Jaz=some ⟨.type "tuple",none,.seq ([(.bool false),(.ref Jat)]:Te).toArray Jbj,Jbk⟩) (Jah:K.lookup Jat=some ⟨.type "tuple",none,.seq ([]:Te).toArray Ja6,Ja7⟩) (z0:PySem.W.nsIn K mainGlobals "list" = some none) (z1:PySem.W.nsIn K mainGlobals "dict" = some none) (z2:PySem.W.nsIn K mainGlobals "len" = some none) (z3:PySem.W.nsIn K mainGlobals "min" = some none) (z4:PySem.W.nsIn K mainGlobals "range" = some none) (z5:PySem.W.nsIn K mainGlobals "set" = some none) (z6:PySem.W.nsIn K mainGlobals "sorted" = some none) (z7:PySem.W.nsIn K mainGlobals "tuple" = some none) (z8:PySem.W.nsIn K mainGlobals "max" = some none) (z9:PySem.W.nsIn K mainGlobals "isinstance" = some none) (z10:PySem.W.nsIn K mainGlobals "bool" = some none) (z11:PySem.W.nsIn K mainGlobals "int" = some none) :
  ∃fd:FuncData,(∀(s:Shared) (v:Value),BindsTo s fd ⟨[v],[]⟩ [("script",v)])/\∀base:Heap,K.In base->base.Ns mainGlobals mg->ca l.prog w K mg base jN 7 fa fd ["script"] (fun vs H Q E=>∀b,yT K 1 (tu b) vs H Q E):=by
 have z:Zs mg:=(dq (za3 X G z0) (dq (za3 X G z1) (dq (za3 X G z2) (dq (za3 X G z3) (dq (za3 X G z4) (dq (za3 X G z5) (dq (za3 X G z6) (dq (za3 X G z7) (dq (za3 X G z8) (dq (za3 X G z9) (dq (za3 X G z10) (dq (za3 X G z11) F6))))))))))));have Jai:gT K mg "NO_NUMBERS" (.tup [(.bl false),(.tup [])]):=o7 (zch X G Jan) (jq Jao (show 2<=sizeLine by decide) (eT BM (eT (jq Jag (show 0<=sizeLine by decide) gH) gH)));have Jae:gT K mg "ALL_NUMBERS" (.tup [(.bl true),(.tup [])]):=o7 (zch X G Jaj) (jq Jak (show 2<=sizeLine by decide) (eT BM (eT (jq Jad (show 0<=sizeLine by decide) gH) gH)));have Jab:gT K mg "NO_SPOTS" (.tup [(.tup [(.bl false),(.tup [])]),(.tup [])]):=o7 (zch X G Jav) (jq Jaw (show 2<=sizeLine by decide) (eT (jq Jaq (show 2<=sizeLine by decide) (eT BM (eT (jq Jah (show 0<=sizeLine by decide) gH) gH))) (eT (jq Jap (show 0<=sizeLine by decide) gH) gH)));have cf:CF K mg qC:=⟨⟨aC,zch X G aC,⟨pg,hd,po,sa⟩⟩,n_shape_list,n_tellings,n_tables_now,mk,kc⟩;have Jbo:=a0.at_ (ps:=["self","shapes"]) (fun _ _ _ _ _ _=>xm fun _ _=>rfl);have Jbp:=a1.at_ (ps:=["self","telling"]) (fun _ _ _ _ _ _=>xm fun _ _=>rfl);have Jbq:=a2.at_ (ps:=["self","name","row","low","high"]) (fun _ _ _ _ _ _=>Jt fun _ _ _ _ _=>rfl);have Jbc:=a3.at_ (ps:=["self","name","key","low","high"]) (fun _ _ _ _ _ _=>Jt fun _ _ _ _ _=>rfl);have Ja8:=a4.at_ (ps:=["self","name","key","day","turn"]) (fun _ _ _ _ _ _=>Jt fun _ _ _ _ _=>rfl);have Jbw:=a5.at_ (ps:=["word","one","other"]) X G (fun _ _ _ _ _ _=>Ju fun _ _ _=>rfl);have Jb2:=a6.at_ (ps:=["reach","number"]) X G (fun _ _ _ _ _ _=>xm fun _ _=>rfl);have Jbl:=a7.at_ (ps:=["low","high"]) X G (fun _ _ _ _ _ _=>xm fun _ _=>rfl);have Jb9:=a8.at_ (ps:=["one","other","word"]) X G (fun _ _ _ _ _ _=>Ju fun _ _ _=>rfl);have Jbr:=a9.at_ (ps:=["plots"]) X G (fun _ _ _ _ _ _=>F9 fun _=>rfl);have Jbx:=a10.at_ (ps:=["pairs"]) X G (fun _ _ _ _ _ _=>F9 fun _=>rfl);have Jby:=a11.at_ (ps:=["shapes","name"]) X G (fun _ _ _ _ _ _=>xm fun _ _=>rfl);have Jbd:=a12.at_ (ps:=["numbers","width"]) X G (fun _ _ _ _ _ _=>xm fun _ _=>rfl);have Ja2:=a13.at_ (ps:=["low","high"]) X G (fun _ _ _ _ _ _=>xm fun _ _=>rfl);have Jb3:=a14.at_ (ps:=["telling"]) X G (fun _ _ _ _ _ _=>F9 fun _=>rfl);have Ja3:=a15.at_ (ps:=["shapes","telling"]) X G (fun _ _ _ _ _ _=>xm fun _ _=>rfl);have Jbm:=a16.at_ (ps:=["plot"]) X G (fun _ _ _ _ _ _=>F9 fun _=>rfl);have Jb4:=a17.at_ (ps:=["plot","turn","reach"]) X G (fun _ _ _ _ _ _=>Ju fun _ _ _=>rfl);have Jb5:=a18.at_ (ps:=["table","keys","telling","turn"]) X G (fun _ _ _ _ _ _=>L9 fun _ _ _ _=>rfl);have Jb6:=a19.at_ (ps:=["telling","name","key","day"]) X G (fun _ _ _ _ _ _=>L9 fun _ _ _ _=>rfl);have Jbz:=a20.at_ (ps:=["script","k"]) X G (fun _ _ _ _ _ _=>xm fun _ _=>rfl);have Jb0:=a21.at_ (ps:=["cell","k"]) X G (fun _ _ _ _ _ _=>xm fun _ _=>rfl);have Jbn:=a22.at_ (ps:=["cell"]) X G (fun _ _ _ _ _ _=>F9 fun _=>rfl);have Jbe:=a23.at_ (ps:=["cell","shapes","scale"]) X G (fun _ _ _ _ _ _=>Ju fun _ _ _=>rfl);have Jbs:=a24.at_ (ps:=["book","telling"]) X G (fun _ _ _ _ _ _=>xm fun _ _=>rfl);have Jb1:=a25.at_ (ps:=["cell","k","tellings","scale"]) X G (fun _ _ _ _ _ _=>L9 fun _ _ _ _=>rfl);have Jb8:=a26.at_ (ps:=["telling","day"]) X G (fun _ _ _ _ _ _=>xm fun _ _=>rfl);have Jb7:=a27.at_ (ps:=["tellings","name","key","day","turn"]) X G (fun _ _ _ _ _ _=>Jt fun _ _ _ _ _=>rfl);have Jbt:=a28.at_ (ps:=["book","shapes","tellings","cell","scale"]) X G (fun _ _ _ _ _ _=>Jt fun _ _ _ _ _=>rfl);obtain ⟨fdL,FL,bL⟩:=a29.law (ps:=["script"]) X G hfa (fun _ _ _ _ _ _=>F9 fun _=>rfl);refine ⟨fdL,fun s v=>bL s [v] rfl,fun base _ _=>?_⟩;have Jam:=tM (P:=l.prog) (w:=w) (base:=base) cf z Jbo
 have iD:=vm (P:=l.prog) (w:=w) (base:=base) cf z Jbw
 have l4:=yk (P:=l.prog) (w:=w) (base:=base) cf z Jb2;have da:=qW (P:=l.prog) (w:=w) (base:=base) cf z Jbl Jai Jae;have jn:=tJ (P:=l.prog) (w:=w) (base:=base) cf z Jbr;have cw:=vp (P:=l.prog) (w:=w) (base:=base) cf z Jby;have cK:=pF (P:=l.prog) (w:=w) (base:=base) cf z Jbd;have ff:=mZ (P:=l.prog) (w:=w) (base:=base) cf z Ja2;have eB:=ym (P:=l.prog) (w:=w) (base:=base) cf z Jb3;have db:=qY (P:=l.prog) (w:=w) (base:=base) cf z Jbm;have iF:=vw (P:=l.prog) (w:=w) (base:=base) cf z Jbz;have aU:=vt (P:=l.prog) (w:=w) (base:=base) cf z Jb0;have oN:=A5 (P:=l.prog) (w:=w) (base:=base) cf z Jb8;have rf:=DD (P:=l.prog) (w:=w) (base:=base) cf z Jb9 iD;have kq:=vn (P:=l.prog) (w:=w) (base:=base) cf z Jbx jn Jab;have eZ:=mY (P:=l.prog) (w:=w) (base:=base) cf z Ja3 cw cK ff eB;have lZ:=yj (P:=l.prog) (w:=w) (base:=base) cf z Jb4 db;have l6:=yn (P:=l.prog) (w:=w) (base:=base) cf z Jb6 l4 da;have iE:=qX (P:=l.prog) (w:=w) (base:=base) cf z Jbn aU;have gP:=pE (P:=l.prog) (w:=w) (base:=base) cf z Jbe aU;have ku:=vq (P:=l.prog) (w:=w) (base:=base) cf z Jb1 aU;have l5:=yl (P:=l.prog) (w:=w) (base:=base) cf z Jb7 oN;have Jac:=oJ (P:=l.prog) (w:=w) (base:=base) cf z Ja8 cK l6 cw;have lY:=yi (P:=l.prog) (w:=w) (base:=base) cf z Jb5 da eB kq lZ rf db Jab;have Jaa:=tL (P:=l.prog) (w:=w) (base:=base) cf z Jbp eZ lY cw;have eS:=tH (P:=l.prog) (w:=w) (base:=base) cf z Jbt aU ku Jac l5;have Jal:=tK (P:=l.prog) (w:=w) (base:=base) cf z Jbq Jaa;have Jaf:=pG (P:=l.prog) (w:=w) (base:=base) cf z Jbc Jaa;have jm:=tI (P:=l.prog) (w:=w) (base:=base) cf z Jbs Jaf Jal;exact (K9 (P:=l.prog) (w:=w) (base:=base) cf z FL iE Jam iF gP jm eS).imp fun _ _ _ _ h=>h _
end
end LW
namespace LW
open HW
theorem si (a0 a1:R)(U:ac):cb [a0,a1] U=(jx [some a0,some a1] U).bind tW:=rfl
theorem sg (bt:Bool)(a0 a1:R)(U:ac):bH bt [a0,a1] U=(jw bt [some a0,some a1,none,none,none] U).bind tW:=rfl
theorem sf (bt:Bool)(a0 a1 a2 a3 a4:R)(U:ac):dF bt [a0,a1,a2,a3,a4] U=(ju bt [some a0,some a1,some a2,some a3,some a4] U).bind tW:=rfl
theorem pv (bt:Bool)(a0 a1 a2 a3 a4:R)(U:ac):cI bt [a0,a1,a2,a3,a4] U=(gS bt [some a0,some a1,some a2,some a3,some a4] U).bind tW:=rfl
theorem nN (a0 a1 a2 a3 a4:R)(U:ac):bP [a0,a1,a2,a3,a4] U=(gp [some a0,some a1,some a2,some a3,some a4,none] U).bind tW:=rfl
theorem nM (a0 a1 a2:D):bE [a0,a1,a2]=eC (iK [some (.v a0),some (.v a1),some (.v a2)] []):=rfl
theorem xt (a0 a1:D):g9 [a0,a1]=eC (jM [some (.v a0),some (.v a1),none] []):=rfl
theorem qt (a0 a1:D):cn [a0,a1]=eC (iL [some (.v a0),some (.v a1)] []):=rfl
theorem Cl (bt:Bool)(a0 a1 a2:D):jH bt [a0,a1,a2]=eC (rR bt [some (.v a0),some (.v a1),some (.v a2),none,none,none,none,none,none,none,none,none] []):=rfl
theorem uG (bt:Bool)(a0:D):f8 bt [a0]=tX (kE bt [some (.v a0),none,none,none,none] []):=rfl
theorem uH (a0 a1:D):bR [a0,a1]=eC (kF [some (.v a0),some (.v a1),none] []):=rfl
theorem pr (a0 a1:D):bK [a0,a1]=eC (gR [some (.v a0),some (.v a1),none] []):=rfl
theorem mU (a0 a1:D):cD [a0,a1]=eC (fg [some (.v a0),some (.v a1)] []):=rfl
theorem pK (a0:D):bM [a0]=eC (fQ [some (.v a0)] []):=rfl
theorem mR (a0 a1:D):bi [a0,a1]=eC (dw [some (.v a0),some (.v a1),none] []):=rfl
theorem qv (a0:D):cq [a0]=eC (iO [some (.v a0)] []):=rfl
theorem xr (a0 a1 a2:D):g8 [a0,a1,a2]=eC (jL [some (.v a0),some (.v a1),some (.v a2)] []):=rfl
theorem xq (bt:Bool)(a0 a1 a2 a3:D):eu bt [a0,a1,a2,a3]=tX (me bt [some (.v a0),some (.v a1),some (.v a2),some (.v a3),none,none,none,none,none,none,none] []):=rfl
theorem xv (a0 a1 a2 a3:D):eA [a0,a1,a2,a3]=eC (ic [some (.v a0),some (.v a1),some (.v a2),some (.v a3)] []):=rfl
theorem uK (a0 a1:D):cp [a0,a1]=eC (iN [some (.v a0),some (.v a1)] []):=rfl
theorem uJ (a0 a1:D):aE [a0,a1]=eC (kG [some (.v a0),some (.v a1),none] []):=rfl
theorem qu (a0:D):c9 [a0]=eC (iM [some (.v a0),none,none,none,none,none,none,none] []):=rfl
theorem pq (a0 a1 a2:D):cJ [a0,a1,a2]=eC (eL [some (.v a0),some (.v a1),some (.v a2),none,none,none,none,none,none,none,none] []):=rfl
theorem r6 (bt:Bool)(a0 a1:R)(U:ac):dE bt [a0,a1] U=(gK bt [some a0,some a1] U).bind tW:=rfl
theorem uI (a0 a1 a2 a3:D):cZ [a0,a1,a2,a3]=eC (gl [some (.v a0),some (.v a1),some (.v a2),some (.v a3),none,none,none,none] []):=rfl
theorem yZ (a0 a1:D):ji [a0,a1]=eC (gm [some (.v a0),some (.v a1)] []):=rfl
theorem xu (a0 a1 a2 a3 a4:D):dI [a0,a1,a2,a3,a4]=eC (mh [some (.v a0),some (.v a1),some (.v a2),some (.v a3),some (.v a4),none,none,none] []):=rfl
theorem rZ (a0 a1 a2 a3 a4:R)(U:ac):bV [a0,a1,a2,a3,a4] U=(jt [some a0,some a1,some a2,some a3,some a4,none,none,none,none,none,none,none,none,none,none,none] U).bind tW:=rfl
theorem Jx (bt:Bool)(a0:D):tu bt [a0]=eC (BZ bt [some (.v a0),none,none,none,none,none,none] []):=rfl
abbrev Rc:=Bool×Th
abbrev rD (r:Rc):D:=.tup [.bl r.1,.tup (r.2.map .int)]
abbrev sD (p:Int×Rc):D:=.tup [.int p.1,rD p.2]
def iw {n:Nat}{xs:List D}(h:okDs n xs=true):dk (n+1) (.tup xs)=true:=by simpa [dk] using h
def FD {n:Nat}{xs:List D}(h:okDs n xs=true):dk (n+1) (.fl xs)=true:=by simpa [dk] using h
def b9 {n:Nat}{x:D}{xs:List D}(h:dk n x=true)(h':okDs n xs=true):okDs n (x::xs)=true:=by simp [okDs,h,h']
theorem kY {n:Nat}:okDs n []=true:=by cases n <;> rfl
def u9 {n:Nat}(r:Rc):dk (n+2) (rD r)=true:=iw (b9 K3 (b9 (iw (g7 _)) kY))
def HP {n:Nat}(p:Int×Rc):dk (n+3) (sD p)=true:=iw (b9 HR (b9 (u9 _) kY))
theorem wH {Z:Type}{n:Nat}{f:Z->D}(h:∀a,dk n (f a)=true):∀xs:List Z,okDs n (xs.map f)=true
 |[]=>kY
 |x::xs=>b9 (h x) (wH h xs)
abbrev pD (g:Rc)(qs:List (Int×Rc)):D:=.tup [rD g,.tup (qs.map sD)]
def HQ {n:Nat}(g:Rc)(qs:List (Int×Rc)):dk (n+5) (pD g qs)=true:=iw (b9 (u9 _) (b9 (iw (wH (fun p=>HP p) qs)) kY))
def FC (r:Rc):dk 60 (rD r)=true:=u9 r
def K2 (g:Rc)(qs:List (Int×Rc)):dk 60 (pD g qs)=true:=HQ g qs
def xa (r s:Rc):iT (rD r) (rD s)=decide (r=s):=by obtain ⟨a,xs⟩:=r;obtain ⟨b,ys⟩:=s;simp only [rD,rC,vL,vM,rE,cL,d3,fI,fJ,l9,zcT,Prod.mk.injEq];cases a <;> cases b <;> simp
def LR (p q:Int×Rc):iT (sD p) (sD q)=decide (p=q):=by obtain ⟨a,r⟩:=p;obtain ⟨b,s⟩:=q;have:=xa r s;simp only [sD,rC,vL,vM,rE,cL,d3,fI,fJ,zcT,Prod.mk.injEq,zc4] at this ⊢;rw [this];congr 1
theorem w9 {Z:Type}[DecidableEq Z]{f:Z->D}(h:∀a b,iT (f a) (f b)=decide (a=b)):∀xs ys:List Z,eqDs (xs.map f) (ys.map f)=decide (xs=ys)
 |[],[]=>by simp [cL,d3,fI,fJ]
 |[],_::_=>by simp [cL,d3,fI,fJ]
 |_::_,[]=>by simp [cL,d3,fI,fJ]
 |x::xs,y::ys=>by simp only [zaf,cL,d3,fI,fJ,h,w9 h xs ys,List.cons.injEq,zc4]
def LS (g h:Rc)(ps qs:List (Int×Rc)):iT (pD g ps) (pD h qs)=decide (g=h/\ps=qs):=by
 show (iT (rD g) (rD h) && (eqDs (ps.map sD) (qs.map sD) && true))=_
 rw [xa,w9 LR,zcT,zc4]
theorem oQ:∀xs:Th,flatDs (xs.map .int)=true
 |[]=>rfl
 |x::xs=>by simp [flatDs,cF,oQ xs]
def wW (r:Rc):cF (rD r)=true:=by simp [rD,cF,flatDs,oQ]
theorem tU:∀ps:List (Int×Rc),flatDs (ps.map sD)=true
 |[]=>rfl
 |p::ps=>by
  show ((true && (cF (rD p.2) && true)) && flatDs (ps.map sD))=true
  rw [wW,tU ps];rfl
def DU (g:Rc)(ps:List (Int×Rc)):cF (pD g ps)=true:=by have:=wW g;simp only [pD,cF,flatDs,tU,zcT] at *;exact this
abbrev Up (ps:List (Int×Rc)):Prop:=ps.Pairwise fun a b=>a.1 < b.1
def M5:Rc->List (Int×Rc)->Prop
 |_,[]=>True
 |g,p::ps=>p.2≠g/\M5 p.2 ps
def ra:Rc->List (Int×Rc)->Int->Rc
 |g,[],_=>g
 |g,p::ps,t=>if t < p.1 then g else ra p.2 ps t
def ph {Z:Type}{f:Z->D}{xs:List Z}{k:Nat}{a:Z}(h:xs[k]?=some a):L2.kI (xs.map f) (k:Int)=some (f a):=rS (by omega) (by simp [h])
def lst:Rc->List (Int×Rc)->Rc
 |g,[]=>g
 |_,p::ps=>lst p.2 ps
theorem xC {Z:Type}{x y:Z}{l:List Z}:(x::l).set 0 y=y::l:=rfl
theorem sets {Z:Type}{x y:Z}{l:List Z}{n:Nat}:(x::l).set (n+1) y=x::l.set n y:=rfl
theorem small {n m:Nat}(h:n<=m)(hm:m<=10000:=by decide):n < sizeLine:=by have:sizeLine=2 ^ 24:=rfl;omega
theorem Nz {Z:Type}{x:Z}{l:List Z}:(x::l)[0]?=some x:=rfl
structure Jm where
 p:Bool
 q:Bool
 last:Bool
 out:Th
def aY (w:Bool->Bool->Bool)(a b:Th)(s:Jm)(e:Int):Jm :=
 let p:=if a.contains e then !s.p else s.p
 let q:=if b.contains e then !s.q else s.q
 ⟨p,q,w p q,if w p q != s.last then s.out++[e] else s.out⟩
def hZ (w:Bool->Bool->Bool)(a b:Th)(p q:Bool)(es:Th):Jm:=es.foldl (aY w a b) ⟨p,q,w p q,[]⟩
def b5 (a b:Th):Th:=gc (HS.aG (HS.aG [] a) (HS.aG [] b))
def kQ (e:Int):D:=.tup [.int e,.bl true]
theorem mC:∀(a:Th),lN (a.map kQ)=some (a.map fun e=>(.inl e,.bl true))
 |[]=>rfl
 |e::a=>by have ih:=mC a;simp only [zaf,kQ] at ih ⊢;simp only [lN,ih,zbx]
def C6 (kvs:List (L2.aI×D))(k x:L2.aI)(v:D):((gD kvs k v).any fun kv=>decide (kv.1=x))=((kvs.any fun kv=>decide (kv.1=x)) || decide (k=x)):=by
 unfold gD;split
 ·rename_i h;have hm:((kvs.map fun kv=>if kv.1=k then (kv.1,v) else kv).any fun kv=>decide (kv.1=x))=kvs.any fun kv=>decide (kv.1=x):=by rw [zcK];congr 1;funext kv;simp only [Function.comp];split <;> rfl
  rw [hm];by_cases e:k=x
  ·subst e;rw [h];rfl
  ·simp [e]
 ·rw [List.any_append];simp
theorem om (x:L2.aI):∀(ps kvs:List (L2.aI×D)),((aR kvs ps).any fun kv=>decide (kv.1=x))=((kvs.any fun kv=>decide (kv.1=x)) || ps.any fun kv=>decide (kv.1=x))
 |[],kvs=>by simp [aR]
 |p::ps,kvs=>by have ih:=om x ps (gD kvs p.1 p.2);simp only [aR,zbi] at ih ⊢;rw [ih,C6,zbz,Bool.or_assoc]
theorem yB (a:Th)(e:Int):((aR [] (a.map fun e=>((.inl e:L2.aI),D.bl true))).any fun kv=>decide (kv.1=.inl e))=a.contains e:=by
 rw [om];simp only [List.any_nil,Bool.false_or,zcK];induction a with
 |nil=>rfl
 |cons x a ih =>
  rw [zbz,ih,List.contains_cons];congr 1;simp only [Function.comp];by_cases h:x=e
  ·subst h;simp
  ·have h':¬ e=x:=fun z=>h z.symm;simp [h,h']
theorem o9 {a:Th}{U:ac}{O:Lo}:cg (bZ 0) gk (c7 (ad (ae 0) (ad (fK (.bl true)) aj))) (a.map .int) (d5 1 [] O) U=some (a.map kQ,U):=by
 have:=ug (g:=bZ 0) (c:=gk) (f:=c7 (ad (ae 0) (ad (fK (.bl true)) aj))) (U:=U) (fun O=>∃x,O=[x]) (fun _=>true) (fun d=>.tup [d,.bl true]) (xs:=a.map .int) (O:=d5 1 [] O) ⟨none,rfl⟩ (by intro x hx O hO;obtain ⟨y,rfl⟩:=hO;refine ⟨[some (.v x)],rfl,⟨_,rfl⟩,rfl,fun _=>?_⟩;simp only [Bw,iI,ll,gh,IE,kC,gg];exact wX rfl (show 2<=sizeLine by decide))
 rw [this,List.filter_eq_self.mpr (fun _ _=>rfl),zby];rfl
abbrev BT:FS:=(az (eW (fB (ao (DM false) (ae 10) (ae 7)))
  (aD 3 (l7 (ae 3)))
  aM)
  (az (eW (fB (ao (DM false) (ae 10) (ae 8)))
  (aD 4 (l7 (ae 4)))
  aM)
  (az (aD 11 (aN bE 3 (ad (bT (ae 2)) (ad (bT (ae 3)) (ad (bT (ae 4)) aj)))))
  (az (eW (fB (ao (gQ true) (ae 11) (ae 6)))
  (cP (yz jR (ae 9) (ad (ae 10) aj)))
  aM)
  (aD 6 (ae 11))))))
theorem P6 {Z:Type}{x y:Z}{l:List Z}:(x::y::l)[1]?=some y:=rfl
theorem P4 {Z:Type}{x y z u:Z}{l:List Z}:(x::y::z::u::l)[3]?=some u:=rfl
theorem Ny {Z:Type}{x y z u v:Z}{l:List Z}:(x::y::z::u::v::l)[4]?=some v:=rfl
def AU (a b:Th):(HS.aG (HS.aG [] a) (HS.aG [] b)).length<=a.length+b.length:=by have h1:=HS.jG (HS.aG [] b) (HS.aG [] a);have h2:=HS.jG b [];have h3:=HS.jG a [];simp only [zbp] at h2 h3;omega
theorem p5:∀(es:Th),hU (es.map .int)=some es
 |[]=>rfl
 |e::es=>by simp [hU,p5 es]
def wY {bt:Bool}{es:Th}{U:ac}(hl:es.length < 4000):uW bt [.v (.tup (es.map .int))] U=some (.s bt (HS.aG [] es),U):=by simp only [uW,dj,p5,zay,if_pos hl]
def FV {bt:Bool}{xs ys:Th}{U:ac}(hl:xs.length+ys.length < 64):Ji bt (.s bt xs) (.s bt ys) U=some (.s bt (HS.aG xs ys),U):=by simp only [Ji,hl,and_self,if_true]
def Bx {bt:Bool}{es:Th}{U:ac}(hl:es.length < 64):jB bt [.s bt es] U=some (.p U.length,U++[.lst ((gc es).map .int)]):=by simp only [jB,hl,and_self,if_true]
def w4 {n:Nat}{a:Th}{U:ac}(h:U[n]?=some (.lst (a.map kQ))):o5 [.p n] U=some (.p U.length,U++[.dct (aR [] (a.map fun e=>(.inl e,.bl true)))]):=by simp only [o5,h,mC,zay]
def BA {n:Nat}{a:Th}{e:Int}{U:ac}(h:U[n]?=some (.dct (aR [] (a.map fun e=>(.inl e,.bl true))))):DM false (.v (.int e)) (.p n) U=some (.v (.bl (a.contains e)),U):=by simp only [DM,h,zar,if_false,yB]
theorem Jz (w:Bool->Bool->Bool)(wd:Str)(hw:∀(x y:Bool) (U:ac),lE (some ([.v (.str wd),.v (.bl x),.v (.bl y)],U)) bE 3=some (.v (.bl (w x y)),U))
  (a b:Th) (s:Jm) (e:Int) (x0 x1 x5 x10 x11:Option R) (c0 c2 c5:au) (hs:s.out.length < 64) :
  Jg (bZ 10 (.v (.int e)) [x0,x1,some (.v (.str wd)),some (.v (.bl s.p)),some (.v (.bl s.q)),x5,some (.v (.bl s.last)),bO 1,bO 3,bO 4,x10,x11] [c0,.dct (aR [] (a.map fun e=>(.inl e,.bl true))),c2,.dct (aR [] (b.map fun e=>(.inl e,.bl true))),.lst (s.out.map .int),c5]) BT
   = some (.nx [x0,x1,some (.v (.str wd)),some (.v (.bl (aY w a b s e).p)),some (.v (.bl (aY w a b s e).q)),x5,some (.v (.bl (aY w a b s e).last)),bO 1,bO 3,bO 4,bB e,some (.v (.bl (aY w a b s e).last))] [c0,.dct (aR [] (a.map fun e=>(.inl e,.bl true))),c2,.dct (aR [] (b.map fun e=>(.inl e,.bl true))),.lst ((aY w a b s e).out.map .int),c5]):=by
 rw [rn,t5];simp only [xC,sets,BT,kB,vJ,IQ,tZ,mI,ll,oX,oW,BA (n:=1) (a:=a) P6,BE]
 have T1:sj (some (a.contains e,[c0,.dct (aR [] (a.map fun e=>(.inl e,.bl true))),c2,.dct (aR [] (b.map fun e=>(.inl e,.bl true))),.lst (s.out.map .int),c5])) (aD 3 (l7 (ae 3))) aM [x0,x1,some (.v (.str wd)),some (.v (.bl s.p)),some (.v (.bl s.q)),x5,some (.v (.bl s.last)),bO 1,bO 3,bO 4,bB e,x11]
   = some (.nx [x0,x1,some (.v (.str wd)),some (.v (.bl (aY w a b s e).p)),some (.v (.bl s.q)),x5,some (.v (.bl s.last)),bO 1,bO 3,bO 4,bB e,x11] [c0,.dct (aR [] (a.map fun e=>(.inl e,.bl true))),c2,.dct (aR [] (b.map fun e=>(.inl e,.bl true))),.lst (s.out.map .int),c5]):=by
  unfold aY;cases a.contains e <;> rfl
 rw [T1];simp only [gF,kB,vJ,IQ,tZ,mI,ll,oX,oW,BA (n:=3) (a:=b) P4,BE]
 have T2:sj (some (b.contains e,[c0,.dct (aR [] (a.map fun e=>(.inl e,.bl true))),c2,.dct (aR [] (b.map fun e=>(.inl e,.bl true))),.lst (s.out.map .int),c5])) (aD 4 (l7 (ae 4))) aM [x0,x1,some (.v (.str wd)),some (.v (.bl (aY w a b s e).p)),some (.v (.bl s.q)),x5,some (.v (.bl s.last)),bO 1,bO 3,bO 4,bB e,x11]
   = some (.nx [x0,x1,some (.v (.str wd)),some (.v (.bl (aY w a b s e).p)),some (.v (.bl (aY w a b s e).q)),x5,some (.v (.bl s.last)),bO 1,bO 3,bO 4,bB e,x11] [c0,.dct (aR [] (a.map fun e=>(.inl e,.bl true))),c2,.dct (aR [] (b.map fun e=>(.inl e,.bl true))),.lst (s.out.map .int),c5]):=by
  unfold aY;cases b.contains e <;> rfl
 rw [T2];simp only [gF,kB,kA,w5,iI,FW,mI,ll,BB,gh,kC,gg,hw,lm,xC,sets,vJ,IQ,tZ,oX,oW,IA,BE];have e1:(aY w a b s e).last=w (aY w a b s e).p (aY w a b s e).q:=rfl
 have e2:(aY w a b s e).out=if w (aY w a b s e).p (aY w a b s e).q != s.last then s.out++[e] else s.out:=rfl
 rw [e1,e2];generalize w (aY w a b s e).p (aY w a b s e).q=here
 by_cases hc:here=s.last
 ·have c1:(!(here == s.last))=false:=by simp [hc]
  have c2:(here != s.last)=false:=by simp [hc]
  rw [c1,c2];simp only [IH,D1,gF,kA,mI,ll,lm,xC,sets,zar,if_false]
 ·have c1:(!(here == s.last))=true:=by simp [hc]
  have c2:(here != s.last)=true:=by simp [hc]
  rw [c1,c2];simp only [IG,D4,LI,mI,ll,IC (n:=4) (xs:=s.out.map .int) Ny,iI,gh,kC,gg,IB,IP (n:=4) (xs:=s.out.map .int) Ny (by rw [zag];exact small (m:=64) (by omega)),BC,gF,kA,lm,xC,sets,if_true,zaT,zaf,za8]
theorem P5 {Z:Type}{x y z:Z}{l:List Z}:(x::y::z::l)[2]?=some z:=rfl
theorem um (w:Bool->Bool->Bool)(a b:Th):∀(es:Th) (s:Jm),(es.foldl (aY w a b) s).out.length<=s.out.length+es.length
 |[],s=>by simp
 |e::es,s=>by
  have h1:=um w a b es (aY w a b s e);have h2:(aY w a b s e).out.length<=s.out.length+1:=by
   have:(aY w a b s e).out=if w (aY w a b s e).p (aY w a b s e).q != s.last then s.out++[e] else s.out:=rfl
   rw [this];split <;> simp
  simp only [zbi,zaD];omega
set_option maxHeartbeats 4000000 in
def BV (bt:Bool)(w:Bool->Bool->Bool)(wd:Str)(hw:∀(x y:Bool) (U:ac),lE (some ([.v (.str wd),.v (.bl x),.v (.bl y)],U)) bE 3=some (.v (.bl (w x y)),U))
  (p q:Bool) (a b:Th) (hl:a.length+b.length < 64) :
  jH bt [.tup [.bl p,.tup (a.map .int)],.tup [.bl q,.tup (b.map .int)],.str wd]=some (.tup [.bl (w p q),.tup ((hZ w a b p q (b5 a b)).out.map .int)]):=by
 rw [Cl];have i0:∀(x:Bool) (es:Th),L2.kI [D.bl x,.tup (es.map .int)] 0=some (.bl x):=fun _ _=>rfl;have i1:∀(x:Bool) (es:Th),L2.kI [D.bl x,.tup (es.map .int)] 1=some (.tup (es.map .int)):=fun _ _=>rfl
 have la:(a.map D.int).length<=sizeLine:=by rw [zag];exact zbC (small (m:=64) (by omega))
 have lb:(b.map D.int).length<=sizeLine:=by rw [zag];exact zbC (small (m:=64) (by omega))
 have ml:=AU a b;have ma:=HS.jG a [];have mb:=HS.jG b [];simp only [zbp] at ma mb
 simp only [rR,kB,kA,tZ,ll,mI,oX,IE,oW,vI (i0 _ _),lm,xC,sets,gF,w5,iI,FW,BB,gh,kC,gg,hw,
  w6,D5,wZ,vI (i1 _ _),By,t0 (U1:=[]) la o9,zbp,za9,rA,w4 (n:=0) (a:=a) Nz,zaD,zcC,zcs]
 rw [t0 (U1:=[.lst (a.map kQ),.dct (aR [] (a.map fun e=>(.inl e,.bl true)))]) lb o9]
 simp only [zaD,zbp,zcs,Nat.reduceAdd,zcC,za9,gh,kC,gg,rA,w4 (n:=2) (a:=b) P5,lm,xC,sets,gF,kB,kA,ID,D3 (rs:=[]) (ds:=[]) rfl (by decide),
  rq,wZ,w6,iI,tZ,ll,mI,oX,IE,oW,vI (i1 _ _),wY (es:=a) (show a.length < 4000 by omega),wY (es:=b) (show b.length < 4000 by omega),FV (xs:=HS.aG [] a) (ys:=HS.aG [] b) (show (HS.aG [] a).length+(HS.aG [] b).length < 64 by omega),
  Bx (es:=HS.aG (HS.aG [] a) (HS.aG [] b)) (show (HS.aG (HS.aG [] a) (HS.aG [] b)).length < 64 by omega)]
 rw [II (n:=5) (xs:=(gc (HS.aG (HS.aG [] a) (HS.aG [] b))).map .int) rfl,Bz,nE]
 have hul:(b5 a b).length < 64:=by unfold b5;rw [(dB _).length_eq];omega
 obtain ⟨O',U',el,x10,x11,rfl,rfl⟩:=wM (g:=bZ 10) (b:=BT) (xs:=(b5 a b).map .int)
  (O:=[some (.v (.tup [.bl p,.tup (a.map .int)])),some (.v (.tup [.bl q,.tup (b.map .int)])),some (.v (.str wd)),some (.v (.bl p)),some (.v (.bl q)),some (.v (.bl (w p q))),some (.v (.bl (w p q))),bO 1,bO 3,bO 4,none,none])
  (U:=[.lst (a.map kQ),.dct (aR [] (a.map fun e=>(.inl e,.bl true))),.lst (b.map kQ),.dct (aR [] (b.map fun e=>(.inl e,.bl true))),.lst [],.fz ((b5 a b).map .int)])
  (fun i O U=>∃x10 x11,O=[some (.v (.tup [.bl p,.tup (a.map .int)])),some (.v (.tup [.bl q,.tup (b.map .int)])),some (.v (.str wd)),some (.v (.bl (hZ w a b p q ((b5 a b).take i)).p)),some (.v (.bl (hZ w a b p q ((b5 a b).take i)).q)),some (.v (.bl (w p q))),some (.v (.bl (hZ w a b p q ((b5 a b).take i)).last)),bO 1,bO 3,bO 4,x10,x11] /\
   U=[.lst (a.map kQ),.dct (aR [] (a.map fun e=>(.inl e,.bl true))),.lst (b.map kQ),.dct (aR [] (b.map fun e=>(.inl e,.bl true))),.lst ((hZ w a b p q ((b5 a b).take i)).out.map .int),.fz ((b5 a b).map .int)])
  ⟨none,none,rfl,rfl⟩ (by
   rintro i x O U hx ⟨x10,x11,rfl,rfl⟩;rw [zaB] at hx;obtain ⟨e,he,rfl⟩:=zaK.mp hx;have hil:=(zas.mp he).1
   have ht:(b5 a b).take (i+1)=(b5 a b).take i++[e]:=by rw [List.take_succ,he];rfl
   have hb:hZ w a b p q ((b5 a b).take (i+1))=aY w a b (hZ w a b p q ((b5 a b).take i)) e:=by unfold hZ;rw [ht,List.foldl_append];rfl
   have hol:(hZ w a b p q ((b5 a b).take i)).out.length < 64:=by
    have:=um w a b ((b5 a b).take i) ⟨p,q,w p q,[]⟩
    simp only [zbp,zbU,zcs] at this
    unfold hZ;omega
   rw [hb]
   exact ⟨_,_,Jz w wd hw a b _ e _ _ _ _ _ _ _ _ hol,_,_,rfl,rfl⟩)
 have el':=el;rw [zag,List.take_length] at el';refine (congrArg (fun o=>eC (Mb o _)) el').trans ?_;simp only [gF,vG,Bw,iI,mI,ll,gh,w6,kC,gg,rA,DZ (n:=4) (xs:=(hZ w a b p q (b5 a b)).out.map .int) Ny];rw [wX (ds:=[.bl (w p q),.tup ((hZ w a b p q (b5 a b)).out.map .int)]) rfl (show 2<=sizeLine by decide),D0,IJ]
def Aw (xs:Th)(k z:Int):z∈HS.cj xs k ↔ z∈xs\/z=k:=by
 unfold HS.cj;split
 ·rename_i h;exact ⟨.inl,fun q=>q.elim id fun e=>e ▸ h⟩
 ·simp
theorem nA (z:Int):∀(ns xs:Th),z∈HS.aG xs ns ↔ z∈xs\/z∈ns
 |[],xs=>by simp [HS.aG]
 |n::ns,xs=>by have ih:=nA z ns (HS.cj xs n);simp only [HS.aG,zbi] at ih ⊢;rw [ih,Aw,zaj,or_assoc]
theorem lS:∀(ns xs:Th),xs.Nodup->(HS.aG xs ns).Nodup
 |[],xs,h=>h
 |n::ns,xs,h=>lS ns _ (HS.ot h)
def i5 (a b:Th):(b5 a b).Nodup/\(b5 a b).Pairwise (·<=·)/\∀z,z∈b5 a b ↔ z∈a\/z∈b:=by unfold b5;refine ⟨(dB _).nodup_iff.mpr (lS _ _ (lS _ _ zcu)),iC _,fun z=>?_⟩;rw [(dB _).mem_iff,nA,nA,nA];simp
theorem Jv {l:Th}(h1:l.Nodup)(h2:l.Pairwise (·<=·)):l.Pairwise (· < ·):=by
 induction l with
 |nil=>exact .nil
 |cons x l ih =>
  obtain ⟨a,b⟩:=zaL.mp h1;obtain ⟨c,d⟩:=zaQ.mp h2;refine zaQ.mpr ⟨fun y hy=>?_,ih b d⟩;have:=c y hy;have:x≠y:=fun e=>a (e ▸ hy);omega
def yX (a b:Th):(b5 a b).Pairwise (· < ·):=Jv (i5 a b).1 (i5 a b).2.1
def uB (r:Rc)(n:Int):Nat:=(r.2.filter fun e=>decide (e<=n)).length
def xY (r:Rc)(n:Int):Bool:=if uB r n % 2=0 then r.1 else !r.1
def xo (b:Bool)(n:Nat):Bool:=if n % 2=0 then b else !b
def qo (b:Bool)(n:Nat):xo b (n+1) = !(xo b n):=by
 unfold xo;by_cases h:n % 2=0
 ·rw [if_pos h,if_neg (by omega)]
 ·rw [if_neg h,if_pos (by omega),Bool.not_not]
def uD (b:Bool)(n:Nat):xo (!b) n = !(xo b n):=by unfold xo;split <;> simp
def W (w:Bool->Bool->Bool)(r s:Rc):Rc:=(w r.1 s.1,(hZ w r.2 s.2 r.1 s.1 (b5 r.2 s.2)).out)
def Eg (bt:Bool)(w:Bool->Bool->Bool)(wd:Str)(hw:∀x y:Bool,bE [.str wd,.bl x,.bl y]=some (.bl (w x y)))(r s:Rc)(hl:r.2.length+s.2.length < 64):jH bt [rD r,rD s,.str wd]=some (rD (W w r s)) :=
 BV bt w wd (fun x y U=>BD (ds:=[.str wd,.bl x,.bl y]) rfl rfl (hw x y)) r.1 s.1 r.2 s.2 hl
theorem F0 (w:Bool->Bool->Bool)(a b:Th):∀(es:Th) (s:Jm),s.last=w s.p s.q ->
  (es.foldl (aY w a b) s).p=xo s.p (es.filter fun e=>a.contains e).length/\(es.foldl (aY w a b) s).q=xo s.q (es.filter fun e=>b.contains e).length /\
  (es.foldl (aY w a b) s).last=w (es.foldl (aY w a b) s).p (es.foldl (aY w a b) s).q/\∃l,(es.foldl (aY w a b) s).out=s.out++l/\l.Sublist es/\(es.foldl (aY w a b) s).last=xo s.last l.length
 |[],s,h=>⟨rfl,rfl,h,[],by simp,List.Sublist.refl _,rfl⟩
 |e::es,s,h=>by
  obtain ⟨h1,h2,h3,l,h4,h5,h6⟩:=F0 w a b es (aY w a b s e) rfl;rw [zbi];refine ⟨?_,?_,h3,?_⟩
  ·rw [h1]
   have:(aY w a b s e).p=if a.contains e then !s.p else s.p:=rfl
   rw [this]
   by_cases c:a.contains e=true
   ·rw [if_pos c,zbZ (by simpa using c),zaD,qo,uD]
   ·rw [if_neg c,zcx (by simpa using c)]
  ·rw [h2]
   have:(aY w a b s e).q=if b.contains e then !s.q else s.q:=rfl
   rw [this]
   by_cases c:b.contains e=true
   ·rw [if_pos c,zbZ (by simpa using c),zaD,qo,uD]
   ·rw [if_neg c,zcx (by simpa using c)]
  ·have ho:(aY w a b s e).out=if (aY w a b s e).last != s.last then s.out++[e] else s.out:=rfl
   by_cases c:(aY w a b s e).last=s.last
   ·have c':((aY w a b s e).last != s.last)=false:=by rw [c];simp
    rw [c',if_neg (by decide)] at ho;rw [ho] at h4;refine ⟨l,h4,h5.cons e,?_⟩;rw [h6,c]
   ·have c':((aY w a b s e).last != s.last)=true:=by simpa using c
    rw [c',if_pos rfl] at ho;rw [ho] at h4;refine ⟨e::l,by rw [h4];simp,h5.cons₂ e,?_⟩;rw [h6,zaD,qo,←uD]
    congr 1
    generalize (aY w a b s e).last=x at c;generalize s.last=y at c;cases x <;> cases y <;> simp_all
def EF {a:Th}(h:a.Pairwise (· < ·)):a.Nodup:=h.imp fun h=>by omega
def F1 (w:Bool->Bool->Bool)(r s:Rc):(W w r s).2.Sublist (b5 r.2 s.2):=by
 obtain ⟨_,_,_,l,h4,h5,_⟩:=F0 w r.2 s.2 (b5 r.2 s.2) ⟨r.1,s.1,w r.1 s.1,[]⟩ rfl
 show ((b5 r.2 s.2).foldl (aY w r.2 s.2) ⟨r.1,s.1,w r.1 s.1,[]⟩).out.Sublist _
 rw [h4,za9];exact h5
def OC (w:Bool->Bool->Bool)(r s:Rc):(W w r s).2.Pairwise (· < ·):=(yX _ _).sublist (F1 w r s)
def lv:Bool->List Int->Int->Bool
 |b,[],_=>b
 |b,x::xs,d=>if d < x then b else lv (!b) xs d
abbrev O5 (r:Rc)(d:Int):Bool:=lv r.1 r.2 d
structure Pf (g:Rc)(qs:List (Int×Rc)):Prop where
 gu:g.2.Pairwise (· < ·)
 up:Up qs
 dif:M5 g qs
 ru:∀q∈qs,q.2.2.Pairwise (· < ·)
def li (b:Bool):Int:=if b=true then 1 else 0
def c0:List Rc->Int
 |[]=>0
 |r::rs=>li r.1+c0 rs
abbrev An (rs:List Rc)(d:Int):Bool:=rs.any fun r=>O5 r d
abbrev A0 (rs:List Rc):Bool:=rs.any (·.1)
def wk (h:Int->Bool):Bool->List Int->Th
 |_,[]=>[]
 |s,e::es=>if h e=s then wk h s es else e::wk h (h e) es
structure Qj (rs:List Rc)(es:Th):Prop where
 up:es.Pairwise (· < ·)
 all:∀x,x∈es ↔ ∃r∈rs,x∈r.2
abbrev Un (rs:List Rc)(es:Th):Rc:=(A0 rs,wk (An rs) (A0 rs) es)
def dg {Z:Type}{l:List Z}{i:Nat}{a:Z}(h:l[i]?=some a):i < l.length:=(zas.mp h).1
def vg {Z:Type}{cs:List Z}{c:Z}:(cs++[c])[cs.length]?=some c:=by simp
def Kb:1<=sizeLine:=by decide
def jc {U:ac}{c c':au}:(U++[c]).set U.length c'=U++[c']:=by simp
abbrev NO:Rc:=(false,[])
abbrev Pl:=Rc×List (Int×Rc)
abbrev jW (p:Pl):D:=pD p.1 p.2
structure BP (ES TS:Th)(p:Pl):Prop where
 pf:Pf p.1 p.2
 ge:∀e∈p.1.2,e∈ES
 re:∀q∈p.2,∀e∈q.2.2,e∈ES
 te:∀q∈p.2,q.1∈TS
open L2
section
variable {κ:Type}[DecidableEq κ]
theorem lQ:∀(l m:List κ),l.Nodup->(∀x∈l,x∈m)->l.length<=m.length
 |[],_,_,_=>zba _
 |x::l,m,hn,h=>by
  obtain ⟨h1,h2⟩:=zaL.mp hn;have hx:=h x zao;have:=lQ l (m.erase x) h2 fun y hy=>(List.mem_erase_of_ne (fun e=>by subst e;exact h1 hy)).mpr (h y (zan _ hy));rw [List.length_erase_of_mem hx] at this
  have:0 < m.length:=List.length_pos_of_mem hx;simp only [zaD];omega
abbrev Hl (κ:Type):=List (κ×Nat×List D)
abbrev kvs (l:Hl κ):List (κ×R):=l.map fun p=>(p.1,R.p p.2.1)
def cC:Hl κ->κ->Nat->D->Hl κ
 |[],k,a,d=>[(k,a,[d])]
 |p::l,k,a,d=>if p.1=k then (p.1,p.2.1,p.2.2++[d])::l else p::cC l k a d
def cont:Hl κ->κ->List D
 |[],_=>[]
 |p::l,k=>if p.1=k then p.2.2 else cont l k
def adr:Hl κ->κ->Option Nat
 |[],_=>none
 |p::l,k=>if p.1=k then some p.2.1 else adr l k
theorem md (k x:κ)(a:Nat)(d:D):∀l:Hl κ,cont (cC l k a d) x=cont l x++(if k=x then [d] else [])
 |[]=>by by_cases q:k=x <;> simp [cC,cont,q]
 |p::l=>by
  have ih:=md k x a d l;rw [cC];by_cases q:p.1=k
  ·rw [if_pos q,cont,cont];by_cases z:p.1=x
   ·rw [if_pos z,if_pos z,if_pos (q.symm.trans z)]
   ·rw [if_neg z,if_neg z,if_neg (fun w=>z (q.trans w)),za6]
  ·rw [if_neg q,cont,cont];by_cases z:p.1=x
   ·rw [if_pos z,if_pos z,if_neg (fun w=>q (z.trans w.symm)),za6]
   ·rw [if_neg z,if_neg z,ih]
theorem kg (k x:κ)(a:Nat)(d:D):∀l:Hl κ,x∈(cC l k a d).map (·.1) ↔ x∈l.map (·.1)\/x=k
 |[]=>by simp [cC]
 |p::l=>by
  have ih:=kg k x a d l;rw [cC];by_cases q:p.1=k
  ·rw [if_pos q];simp only [zaf,zaj];constructor
   ·exact .inl
   ·rintro (h|h)
    ·exact h
    ·exact .inl (h.trans q.symm)
  ·rw [if_neg q];simp only [zaf,zaj,ih,or_assoc]
theorem sQ (k:κ)(a:Nat)(d:D):∀l:Hl κ,(l.map (·.1)).Nodup->((cC l k a d).map (·.1)).Nodup
 |[],_=>by simp [cC]
 |p::l,h=>by
  rw [zaf,zaL] at h;rw [cC];by_cases q:p.1=k
  ·rw [if_pos q,zaf,zaL];exact h
  ·rw [if_neg q,zaf,zaL];refine ⟨fun z=>?_,sQ k a d l h.2⟩;rcases (kg k p.1 a d l).mp z with z|z
   ·exact h.1 z
   ·exact q z
theorem sR (k:κ)(a:Nat)(d:D):∀l:Hl κ,(cC l k a d).length<=l.length+1
 |[]=>by simp [cC]
 |p::l=>by
  have ih:=sR k a d l;rw [cC];split
  ·simp
  ·simp only [zaD];omega
theorem ly {k:κ}:∀{l:Hl κ},adr l k=none ↔ k∉l.map (·.1)
 |[]=>by simp [adr]
 |p::l=>by
  have ih:=ly (k:=k) (l:=l);rw [adr];by_cases q:p.1=k
  ·rw [if_pos q];simp [q]
  ·rw [if_neg q,ih,zaf,zaj,not_or];exact ⟨fun h=>⟨fun z=>q z.symm,h⟩,fun h=>h.2⟩
theorem iP {k:κ}{a:Nat}:∀{l:Hl κ},adr l k=some a->(k,a,cont l k)∈l
 |[],h=>by cases h
 |p::l,h=>by
  rw [adr] at h;rw [cont];by_cases q:p.1=k
  ·rw [if_pos q] at h ⊢
   cases h;rw [←q];exact zao
  ·rw [if_neg q] at h ⊢;exact zan _ (iP h)
structure HD (C:List (κ×R)->au)(n:Nat)(U:ac)(l:Hl κ):Prop where
 dict:U[n]?=some (C (kvs l))
 nd:(n::l.map fun p=>p.2.1).Nodup
 cell:∀p∈l,U[p.2.1]?=some (.lst p.2.2)
theorem wQ {k:κ}{a b:Nat}{d:D}:∀{l:Hl κ},k∈l.map (·.1)->kvs (cC l k b d)=kvs l/\(cC l k b d).map (fun p=>p.2.1)=l.map fun p=>p.2.1
 |[],h=>by cases h
 |p::l,h=>by
  rw [cC];by_cases q:p.1=k
  ·rw [if_pos q];exact ⟨rfl,rfl⟩
  ·rw [if_neg q];have:=wQ (a:=a) (b:=b) (d:=d) (l:=l) (by
    rw [zaf] at h;rcases zaj.mp h with w|w
    ·exact absurd w.symm q
    ·exact w)
   exact ⟨congrArg (_ :: ·) this.1,congrArg (_ :: ·) this.2⟩
theorem wB {k:κ}{b:Nat}{d:D}:∀{l:Hl κ} {p},(l.map (·.1)).Nodup->p∈cC l k b d->k∈l.map (·.1)->(p∈l/\p.1≠k)\/(p.1=k/\adr l k=some p.2.1/\p.2.2=cont l k++[d])
 |[],p,_,_,h=>by cases h
 |q::l,p,nd,hp,h=>by
  rw [zaf,zaL] at nd;rw [cC] at hp;rw [adr,cont];by_cases z:q.1=k
  ·rw [if_pos z] at hp ⊢;rw [if_pos z];rcases zaj.mp hp with rfl|hp
   ·exact .inr ⟨z,rfl,rfl⟩
   ·exact .inl ⟨zan _ hp,fun w=>nd.1 (by rw [z,←w];exact za7 hp)⟩
  ·rw [if_neg z] at hp ⊢;rw [if_neg z];rcases zaj.mp hp with rfl|hp
   ·exact .inl ⟨zao,z⟩
   ·rcases wB nd.2 hp (by
     rw [zaf] at h;rcases zaj.mp h with w|w
     ·exact absurd w.symm z
     ·exact w) with w|w
    ·exact .inl ⟨zan _ w.1,w.2⟩
    ·exact .inr w
theorem pS {k:κ}{b:Nat}{d:D}:∀{l:Hl κ},k∉l.map (·.1)->cC l k b d=l++[(k,b,[d])]
 |[],_=>rfl
 |p::l,h=>by rw [zaf,zaj,not_or] at h;rw [cC,if_neg (fun z=>h.1 z.symm),pS h.2];rfl
variable {C:List (κ×R)->au}{n:Nat}{U:ac}{l:Hl κ}
def HD.lt (h:HD C n U l):n < U.length:=dg h.dict
def HD.adr (h:HD C n U l){k:κ}{a:Nat}(e:adr l k=some a):U[a]?=some (.lst (cont l k)):=h.cell _ (iP e)
def HD.adrN (h:HD C n U l){k:κ}{a:Nat}(e:LW.adr l k=some a):a≠n:=fun z=>by subst z;exact (zaL.mp h.nd).1 (zaS.mpr ⟨_,iP e,rfl⟩)
def HD.old (h:HD C n U l)(nk:(l.map (·.1)).Nodup){k:κ}{a:Nat}(e:LW.adr l k=some a)(d:D)(b:Nat):HD C n ((U++[au.lst []]).set a (.lst (cont l k++[d]))) (cC l k b d):=by
 have hk:k∈l.map (·.1):=by refine Classical.byContradiction fun z=>?_;rw [ly.mpr z] at e;cases e
 have la:=dg (h.adr e);obtain ⟨k1,k2⟩:=wQ (a:=a) (b:=b) (d:=d) hk;refine ⟨?_,by rw [k2];exact h.nd,fun p hp=>?_⟩
 ·rw [zax (h.adrN e),zai h.lt,k1];exact h.dict
 ·rcases wB nk hp hk with ⟨w,w2⟩|⟨w1,w2,w3⟩
  ·have:a≠p.2.1:=fun z=>by
    have m1:=iP e;have:=(zaL.mp h.nd).2;obtain ⟨i,hi,e1⟩:=zbo m1;obtain ⟨j,hj,e2⟩:=zbo w;have hij:i=j:=(zbK (xs:=l.map fun p=>p.2.1) (h₀:=by simpa using hi) (h₁:=by simpa using hj) this).mp (by rw [zbW,zbW,e1,e2];exact z);subst hij;rw [e1] at e2;exact w2 (by rw [←e2])
   have hc:=h.cell p w;rw [zax this,zai (dg hc)];exact hc
  ·rw [e] at w2
   cases w2;rw [w3,zaR (by simp;omega)]
def HD.new (h:HD C n U l){k:κ}(hk:k∉l.map (·.1))(d:D):HD C n (((U++[au.lst []]).set n (C (kvs l++[(k,.p U.length)]))).set U.length (.lst [d])) (cC l k U.length d):=by
 have hn:=h.lt;rw [pS hk];refine ⟨?_,?_,fun p hp=>?_⟩
 ·rw [zax (by omega),zaR (by simp;omega)];simp [kvs]
 ·rw [zaT,←zcC,zbd];refine ⟨h.nd,by simp,fun x hx y hy=>?_⟩;simp only [zaf,za8,zav] at hy;subst hy;rcases zaj.mp hx with rfl|hx
  ·omega
  ·obtain ⟨p,hp,rfl⟩:=zaS.mp hx;have:=dg (h.cell p hp);omega
 ·rcases zaY.mp hp with hp|hp
  ·have hc:=h.cell p hp;have:=dg hc;have pn:n≠p.2.1:=fun z=>(zaL.mp h.nd).1 (by rw [z];exact za7 (f:=fun p:κ×Nat×List D=>p.2.1) hp);rw [zax (by omega),zax pn,zai this];exact hc
  ·rw [zav] at hp;subst hp;rw [zaR (by simp)]
end
abbrev tC (l:List (Th×R)):au:=.dtr l
abbrev En:=Th×Pl
abbrev d7 (e:En):D:=.tup [.key e.1,jW e.2]
theorem qq (k:Th):∀l:Hl (Th),iR (kvs l) k=(adr l k).map R.p
 |[]=>rfl
 |p::l=>by
  have ih:=qq k l;unfold iR at ih ⊢;rw [adr];simp only [kvs,zaf];by_cases q:p.1=k
  ·rw [zb7 (by simp [q]),if_pos q];rfl
  ·rw [zb8 (by simp [q]),if_neg q];exact ih
theorem zK {fo fk:FE}{O:Lo}{U:ac}{n a:Nat}{k:Th}{l:Hl (Th)}(ho:fo O U=some (.p n,U))(hk:fk O U=some (.v (.key k),U))(h:HD tC n U l)(e:adr l k=some a)(hl:l.length < 1000):oU fo fk (cx aj) O U=some (.p a,U++[.lst []]):=by
 have h1:gG U n=some (kvs l):=by simp only [gG,h.dict]
 have h2:gG (U++[au.lst []]) n=some (kvs l):=by simp only [gG,zai h.lt,h.dict]
 have hL:cx aj O U=some (.p U.length,U++[au.lst []]):=rfl;have hl':(kvs l).length < 1000:=by simpa using hl
 have hv:=qq k l;rw [e,zbx] at hv;simp only [oU,ho,zay,h1,zcq,if_true,hk,hL,h2,hl',hv]
theorem zL {fo fk:FE}{O:Lo}{U:ac}{n:Nat}{k:Th}{l:Hl (Th)}(ho:fo O U=some (.p n,U))(hk:fk O U=some (.v (.key k),U))(h:HD tC n U l)(e:adr l k=none)(hl:l.length < 1000):oU fo fk (cx aj) O U=some (.p U.length,(U++[au.lst []]).set n (tC (kvs l++[(k,.p U.length)]))):=by
 have h1:gG U n=some (kvs l):=by simp only [gG,h.dict]
 have h2:gG (U++[au.lst []]) n=some (kvs l):=by simp only [gG,zai h.lt,h.dict]
 have hL:cx aj O U=some (.p U.length,U++[au.lst []]):=rfl;have hl':(kvs l).length < 1000:=by simpa using hl
 have hv:=qq k l;rw [e,Option.map_none] at hv;simp only [oU,ho,zay,h1,zcq,if_true,hk,hL,h2,hl',hv]
structure TB (U:ac)(l:Hl (Th))(N:Nat):Prop where
 hd:HD tC 0 U l
 nk:(l.map (·.1)).Nodup
 ln:l.length<=N
 cl:∀k,(cont l k).length<=N
theorem Cp (bt:Bool){x0 x4:Option R}{e:En}{U:ac}{l:Hl (Th)}{N:Nat}(h:TB U l N)(hN:N < 900) :
  ∃U' b,dY bt [x0,bO 0,some (.v (.key e.1)),some (.v (jW e.2)),x4] U=some (.nx [x0,bO 0,some (.v (.key e.1)),some (.v (jW e.2)),x4] U')/\TB U' (cC l e.1 b (jW e.2)) (N+1):=by
 have zc:(cont l e.1).length < sizeLine:=jb (by have:=h.cl e.1;omega);have z0:(0:Nat) < sizeLine:=jb (by omega)
 have hl:l.length < 1000:=by have:=h.ln;omega
 have lt:=h.hd.lt
 have sb:∀(U':ac) (b:Nat),HD tC 0 U' (cC l e.1 b (jW e.2))->TB U' (cC l e.1 b (jW e.2)) (N+1):=fun U' b hh=>⟨hh,sQ _ _ _ _ h.nk,by have:=sR e.1 b (jW e.2) l;have:=h.ln;omega,fun k=>by
  rw [md,zaM];have:=h.cl k;split
  ·simp;omega
  ·simp;omega⟩
 cases q:adr l e.1 with
 |some a =>
  have ga:=h.hd.adr q
  have g2:(U++[au.lst []])[a]?=some (.lst (cont l e.1)):=by rw [zai (dg ga)];exact ga
  have hs:=zK (fo:=ae 1) (fk:=ae 2) (O:=[x0,bO 0,some (.v (.key e.1)),some (.v (jW e.2)),x4]) rfl rfl h.hd q hl;refine ⟨_,0,?_,sb _ 0 (h.hd.old h.nk q (jW e.2) 0)⟩;push_cast [dY,hs,g2,zc]
 |none =>
  have hs:=zL (fo:=ae 1) (fk:=ae 2) (O:=[x0,bO 0,some (.v (.key e.1)),some (.v (jW e.2)),x4]) rfl rfl h.hd q hl
  have g2:((U++[au.lst []]).set 0 (tC (kvs l++[(e.1,.p U.length)])))[U.length]?=some (.lst []):=by
   rw [zax (by omega)];exact vg
  refine ⟨_,U.length,?_,sb _ _ (h.hd.new (ly.mp q) (jW e.2))⟩;push_cast [dY,hs,g2,z0,za9]
theorem wg (bt:Bool){x0 x4:Option R}:∀(es:List En) {U:ac} {l:Hl (Th)} {N:Nat} (x2 x3:Option R),TB U l N->N+es.length < 900 ->
  ∃U' l' y2 y3,dl (uz 2 (aZ (bZ 2) (aZ (bZ 3) gd))) (dY bt) (es.map d7) [x0,bO 0,x2,x3,x4] U=some (.nx [x0,bO 0,y2,y3,x4] U')/\TB U' l' (N+es.length) /\
   (∀x,cont l' x=cont l x++(es.filter fun e=>decide (e.1=x)).map fun e=>jW e.2)/\(∀x,x∈l'.map (·.1) ↔ x∈l.map (·.1)\/x∈es.map (·.1))
 |[],U,l,N,x2,x3,h,_=>⟨U,l,x2,x3,rfl,h,fun x=>by simp,fun x=>by simp⟩
 |e::es,U,l,N,x2,x3,h,hN=>by
  rw [zaD] at hN;obtain ⟨U1,b,e1,h1⟩:=Cp bt (x0:=x0) (x4:=x4) (e:=e) h (by omega);obtain ⟨U2,l2,y2,y3,e2,h2,c2,k2⟩:=wg bt (x0:=x0) (x4:=x4) es (some (.v (.key e.1))) (some (.v (jW e.2))) h1 (by omega);refine ⟨U2,l2,y2,y3,?_,by rw [zaD,show N+(es.length+1)=N+1+es.length by omega];exact h2,fun x=>?_,fun x=>?_⟩
  ·rw [zaf,hG]
   have hg:uz 2 (aZ (bZ 2) (aZ (bZ 3) gd)) (.v (d7 e)) [x0,bO 0,x2,x3,x4] U=some ([x0,bO 0,some (.v (.key e.1)),some (.v (jW e.2)),x4],U):=rfl;rw [hg,t5,e1,pZ];exact e2
  ·rw [c2,md,zaW,zcg]
   by_cases z:e.1=x <;> simp [z]
  ·rw [k2,kg,zaf,zaj,or_assoc]
abbrev fE (bt:Bool):FE:=c7 (ad (ae 0) (ad (aN c6 1 (ad (bT (Bt (ae 1) (ae 0))) aj)) aj))
theorem t8 (bt:Bool){l:Hl (Th)}(F:List Int->Pl)(hnd:(0::l.map fun p=>p.2.1).Nodup)(nk:(l.map (·.1)).Nodup):∀(rows:Ta) (U:ac) (x0:Option R),rows.Nodup->(∀r∈rows,c6 [.fl (cont l r)]=some (jW (F r)))->U[0]?=some (tC (kvs l))->(∀r∈rows,∃a,adr l r=some a/\U[a]?=some (.lst (cont l r))) ->
  ∃U',cg (bZ 0) gk (fE bt) (rows.map D.key) [x0,bO 0] U=some (rows.map fun r=>d7 (r,F r),U')
 |[],U,x0,_,_,_,_=>⟨U,rfl⟩
 |r::rows,U,x0,hr,hF,h0,hc=>by
  obtain ⟨n1,n2⟩:=zaL.mp hr;obtain ⟨a,ea,ga⟩:=hc r zao
  have a0:a≠0:=fun z=>by
   subst z;exact (zaL.mp hnd).1 (zaS.mpr ⟨_,iP ea,rfl⟩)
  have hF0:=hF r zao
  obtain ⟨U',e⟩:=t8 bt F hnd nk rows (U.set a (.fz (cont l r))) (some (.v (.key r))) n2 (fun x hx=>hF x (zan _ hx)) (by rw [zax a0];exact h0) (fun x hx=>by
   obtain ⟨b,eb,gb⟩:=hc x (zan _ hx);refine ⟨b,eb,?_⟩
   have:a≠b:=fun z=>by
    subst z;have m1:=iP ea;have m2:=iP eb;obtain ⟨i,hi,e1⟩:=zbo m1;obtain ⟨j,hj,e2⟩:=zbo m2;have hij:i=j:=(zbK (xs:=l.map fun p=>p.2.1) (h₀:=by simpa using hi) (h₁:=by simpa using hj) (zaL.mp hnd).2).mp (by rw [zbW,zbW,e1,e2]);subst hij;rw [e1] at e2;exact n1 (by have:=congrArg Prod.fst e2;simp only at this;rw [this];exact hx)
   rw [zax this];exact gb)
  refine ⟨U',?_⟩;have hv:=qq r l;rw [ea,zbx] at hv;rw [zaf,cg];push_cast [zay,h0,tC,hv,ga,hF0,e]
theorem jr {Z:Type}{c:FT}{f:FE}{U:ac}{rest:Lo}(e out:Z->D)(p:Z->Bool):∀(xs:List Z) (x0:Option R),(∀a∈xs,c (some (.v (e a))::rest) U=some (p a,U))->(∀a∈xs,p a=true->f (some (.v (e a))::rest) U=some (.v (out a),U))->cg (bZ 0) c f (xs.map e) (x0::rest) U=some ((xs.filter p).map out,U)
 |[],_,_,_=>rfl
 |a::xs,x0,h,h'=>by
  have h1:=h a zao;have ih:=jr e out p xs (some (.v (e a))) (fun b hb=>h b (zan _ hb)) (fun b hb=>h' b (zan _ hb))
  cases hp:p a with
  |true =>
   have h2:=h' a zao hp;simp only [zaf,cg,bZ,zb4,zay,h1,hp,if_true,h2,ih,zcg]
  |false=>simp only [zaf,cg,bZ,zb4,zay,h1,hp,zar,if_false,ih,zcg]
abbrev Qf (T:List En):au:=.lst (T.map d7)
abbrev L3:D:=.tup [.tup [.bl false,.tup []],.tup []]
theorem HU:dk 60 L3=true:=rfl
abbrev B4:Pl:=(NO,[])
def Jk (e:En):Bool:=!decide (e.2=B4)
def IR (p:Pl):iT (jW p) L3=decide (p=B4) :=
 (LS p.1 NO p.2 []).trans (decide_eq_decide.mpr ⟨fun h=>Prod.ext h.1 h.2,fun h=>by rw [h];exact ⟨rfl,rfl⟩⟩)
theorem AJ (p:Pl):c6 [.fl [jW p]]=some (jW p):=rfl
theorem ky {Z β:Type}[DecidableEq β]{f:Z->β}:∀{es:List Z} {e:Z},(es.map f).Nodup->e∈es->(es.filter fun x=>decide (f x=f e))=[e]
 |[],_,_,h=>nomatch h
 |x::es,e,nd,h=>by
  obtain ⟨n1,n2⟩:=zaL.mp nd;rcases zaj.mp h with rfl|h
  ·rw [zbZ (by simp)];congr 1;refine List.filter_eq_nil_iff.mpr fun y hy=>?_;simp only [decide_eq_true_eq];exact fun z=>n1 (z ▸ za7 hy)
  ·rw [zcx (by simp only [decide_eq_true_eq];exact fun z=>n1 (z ▸ za7 h))];exact ky n2 h
def zu (bt:Bool){w:Nat}{es:List En}(hn:es.length<=40)(nd:(es.map (·.1)).Nodup)(hrw:∀e∈es,e.1.length=w):∃T:List En,f8 bt [.fl (es.map d7)]=some (.lst (T.map d7))/\F2 (T.map (·.1))/\∀e,e∈T ↔ e∈es/\e.2≠B4:=by
 rw [uG];obtain ⟨U,l,y2,y3,e,tb,c,k⟩:=wg bt (x0:=some (.v (.fl (es.map d7)))) (x4:=none) es (U:=[.dtr []]) (l:=[]) (N:=0) none none ⟨⟨rfl,by simp,fun _ h=>nomatch h⟩,by simp,by simp,fun k=>by simp [cont]⟩ (by omega);have k':∀x,x∈l.map (·.1) ↔ x∈es.map (·.1):=fun x=>by rw [k];simp
 have kl:l.length<=40:=by have:=lQ (l.map (·.1)) (es.map (·.1)) tb.nk fun x hx=>(k' x).mp hx;rw [zag,zag] at this;omega
 have hF':∃F:List Int->Pl,∀e∈es,F e.1=e.2:=by
  have h:∀r,∃p:Pl,∀e∈es,e.1=r->e.2=p:=fun r=>by
   by_cases hr:∃e∈es,e.1=r
   ·obtain ⟨e,he,rfl⟩:=hr;refine ⟨e.2,fun x hx hz=>?_⟩;have h1:=ky nd he;have h2:x∈es.filter fun y=>decide (y.1=e.1):=zcG.mpr ⟨hx,by simpa using hz⟩;rw [h1] at h2;rw [zav.mp h2]
   ·exact ⟨B4,fun e he hz=>absurd ⟨e,he,hz⟩ hr⟩
  exact ⟨fun r=>Classical.choose (h r),fun e he=>(Classical.choose_spec (h e.1) e he rfl).symm⟩
 obtain ⟨F,hF⟩:=hF';have hc:∀e∈es,cont l e.1=[jW e.2]:=fun e he=>by
  rw [c]
  show []++_=_
  rw [za9,ky nd he];rfl
 have rnd:(cE (l.map (·.1))).Nodup:=(dA _).nodup_iff.mpr tb.nk;have rm:∀r,r∈cE (l.map (·.1)) ↔ r∈es.map (·.1):=fun r=>by rw [(dA _).mem_iff];exact k' r
 have hA:∀r∈cE (l.map (·.1)),c6 [.fl (cont l r)]=some (jW (F r)):=fun r hr=>by obtain ⟨e,he,rfl⟩:=zaS.mp ((rm r).mp hr);rw [hc e he,hF e he];exact AJ _
 have few:(kvs l).length < 64/\((kvs l).length < 2\/∀p∈kvs l,p.1≠[]):=by
  refine ⟨by rw [zag];omega,?_⟩;have hw:∀x∈l.map (·.1),x.length=w:=fun x hx=>by obtain ⟨e,he,rfl⟩:=zaS.mp ((k' x).mp hx);exact hrw e he
  by_cases z:w=0
  ·refine .inl ?_;have:=lQ (l.map (·.1)) [[]] tb.nk fun x hx=>by
    have:=hw x hx;rw [z] at this
    rw [zcv.mp this];exact zao
   rw [zag] at this ⊢;simp at this;omega
  ·refine .inr fun p hp e=>?_;obtain ⟨q,hq,rfl⟩:=zaS.mp hp;have:=hw q.1 (za7 hq);simp only at e;rw [e] at this
   simp at this;omega
 have g0:(U++[au.fz ((cE (l.map (·.1))).map D.key)])[0]?=some (tC (kvs l)):=by rw [zai tb.hd.lt];exact tb.hd.dict
 obtain ⟨U2,ce⟩:=t8 bt F tb.hd.nd tb.nk (cE (l.map (·.1))) (U++[au.fz ((cE (l.map (·.1))).map D.key)]) none rnd hA g0 (fun r hr=>by
  cases q:adr l r with
  |none=>exact absurd ((dA _).mem_iff.mp hr) (ly.mp q)
  |some a=>exact ⟨a,rfl,by have:=tb.hd.adr q;rw [zai (dg this)];exact this⟩)
 have rl:(cE (l.map (·.1))).length<=40:=by rw [(dA _).length_eq,zag];exact kl
 refine ⟨((cE (l.map (·.1))).map fun r=>(r,F r)).filter Jk,?_,?_⟩
 ·have z1:(cE (l.map (·.1))).length<=sizeLine:=dR (by omega);have cf:∀U:ac,cg (bZ 0) (fB (ao (gQ true) (ao ba (ae 0) (fK (.int 1))) (fK (.tup [(.tup [(.bl false),(.tup [])]),(.tup [])])))) (ae 0) ((cE (l.map (·.1))).map fun r=>d7 (r,F r)) [none] U=some ((((cE (l.map (·.1))).map fun r=>(r,F r)).filter Jk).map d7,U):=fun U=>by
   have:=jr (c:=fB (ao (gQ true) (ao ba (ae 0) (fK (.int 1))) (fK L3))) (f:=ae 0) (U:=U) (rest:=[]) d7 d7 Jk ((cE (l.map (·.1))).map fun r=>(r,F r)) none (fun e _=>by push_cast [K2,HU,IR,Jk]) (fun e _ _=>by push_cast [HW.Fg])
   rw [zby] at this
   exact this
  have km:(kvs l).map (·.1)=l.map (·.1):=by unfold kvs;rw [zby];rfl
  have lk:(U++[au.lst ((cE (l.map (·.1))).map D.key)])[U.length]?=some (.lst ((cE (l.map (·.1))).map D.key)):=vg;have hd0:U[0]?=some (.dtr (kvs l)):=tb.hd.dict;have sr:pO [.p 0] U=some (.p U.length,U++[.lst ((cE (l.map (·.1))).map D.key)]):=by rw [Jn,hd0,M6,zay,if_pos few,km]
  have lk2:(U2++[au.lst ((cE (l.map (·.1))).map fun r=>d7 (r,F r))])[U2.length]?=some (.lst ((cE (l.map (·.1))).map fun r=>d7 (r,F r))):=vg;push_cast [kE,e,sr,lk,jc,zag,z1,ce,lk2,cf,vg]
 ·refine ⟨?_,fun e=>?_⟩
  ·have h1:=oE tb.nk;have h2:((cE (l.map (·.1))).map fun r=>(r,F r)).Pairwise fun x y=>HT2.iY x.1 y.1=true:=zbP.mpr h1;exact zbP.mpr (h2.sublist List.filter_sublist)
  ·rw [zcG,zaS];constructor
   ·rintro ⟨⟨r,hr,rfl⟩,h2⟩;obtain ⟨e,he,rfl⟩:=zaS.mp ((rm r).mp hr);rw [hF e he] at h2 ⊢;exact ⟨he,by simpa [Jk] using h2⟩
   ·rintro ⟨he,h2⟩;exact ⟨⟨e.1,(rm e.1).mpr (za7 he),by rw [hF e he]⟩,by simpa [Jk] using h2⟩
end LW
namespace HW
open L2
abbrev Tx (l:List Nat):Str:=⟨l.toArray⟩
def j0 {l:List Nat}:(Tx l).length=l.length:=by simp [Str.length]
def Jy {l r:List Nat}:(Tx l == Tx r)=(l == r):=by rw [Bool.eq_iff_iff,beq_iff_eq,beq_iff_eq];exact ⟨fun e=>by injection e with e;injection e,fun e=>by rw [e]⟩
section
variable {O:Lo}{U:ac}{a b l:List Nat}{c:Nat}{i:Int}{x:R}
def zC:cG (.v (.str (Tx a))) (.v (.str (Tx b))) U=if a.length+b.length<=sizeLine then some (.v (.str (Tx (a++b))),U) else none:=by
 show (if (Tx a).length+(Tx b).length<=sizeLine then some (R.v (.str (Tx a++Tx b)),U) else none)=_
 rw [j0,j0];have:Tx a++Tx b=Tx (a++b):=by show Str.append _ _=_;simp [Str.append]
 rw [this]
theorem Fh (h:0<=i)(hl:l.length < 2 ^ 63)(hc:l[i.toNat]?=some c):FJ (.v (.str (Tx l))) (.v (.int i)) U=some (.v (.str (Tx [c])),U):=by
 have hi:=(zas.mp hc).1;have e:(Tx l).cps[i.toNat]?=some c:=by simpa using hc
 unfold FJ;dsimp only;rw [if_pos ⟨h,by omega,by rw [j0];omega⟩,e];rfl
def Gs (h:l.length<=sizeLine):xZ [.v (.str (Tx l))] U=some (.v (.int l.length),U):=by unfold xZ;dsimp only;rw [j0,if_pos h]
def EQ (o:Option (R×ac))(fl fh:FO)(O:Lo):Option (R×ac):=o.bind fun a=>(fl O a.2).bind fun l=>(fh O l.2).bind fun h=>zH a.1 l.1 h.1 h.2
def EO (x:R)(o:Option (Option Int×ac))(fh:FO)(O:Lo):Option (R×ac):=o.bind fun l=>(fh O l.2).bind fun h=>zH x l.1 h.1 h.2
def EN (x:R)(l:Option Int)(o:Option (Option Int×ac)):Option (R×ac):=o.bind fun h=>zH x l h.1 h.2
theorem Kd {fa fl fh}:Bu fa fl fh O U=EQ (fa O U) fl fh O:=rfl
theorem Gq {fl fh}:EQ (some (x,U)) fl fh O=EO x (fl O U) fh O:=rfl
theorem Gp {fh}{l:Option Int}:EO x (some (l,U)) fh O=EN x l (fh O U):=rfl
theorem Gn {l h:Option Int}:EN x l (some (h,U))=zH x l h U:=rfl
def CB (l:List Nat)(n:Nat)(h:n<=l.length):Txt.slice (Tx l) (some (n:Int)) none=Tx (l.drop n):=by have:=PySem.StrLaws.sliceText_from (x:=Tx l) (i:=n) (by simpa using h);refine Eq.trans (show Txt.slice (Tx l) (some (n:Int)) none=PySem.StrLaws.sliceText (Tx l) (some (n:Int)) none from rfl) (this.trans ?_);simp only [Tx,zbc];congr 2;exact List.take_of_length_le (by simp)
def Kj (l:List Nat)(n:Nat)(h:n<=l.length):Txt.slice (Tx l) none (some (n:Int))=Tx (l.take n):=by have:=PySem.StrLaws.sliceText_to (x:=Tx l) (j:=n) (by simpa using h);refine Eq.trans (show Txt.slice (Tx l) none (some (n:Int))=PySem.StrLaws.sliceText (Tx l) none (some (n:Int)) from rfl) (this.trans ?_);simp [Tx]
def Ct {n:Nat}(h:n<=l.length)(hl:l.length<=sizeLine):zH (.v (.str (Tx l))) (some (n:Int)) none U=some (.v (.str (Tx (l.drop n))),U):=by unfold zH;dsimp only;rw [j0,if_pos hl,CB l n h]
def Kc {n:Nat}(h:n<=l.length)(hl:l.length<=sizeLine):zH (.v (.str (Tx l))) none (some (n:Int)) U=some (.v (.str (Tx (l.take n))),U):=by unfold zH;dsimp only;rw [j0,if_pos hl,Kj l n h]
def Ke {n:Nat}(h:∀c∈l,c < 1114112):dk n (.str (Tx l))=true:=by cases n <;> (show PyData.strOk (Tx l)=true;unfold PyData.strOk;simpa using h)
end
end HW
namespace LW
open HW
def cN (i:Int){j:Int}(h:0 < j):0<=i % j/\i % j < j:=⟨zc3 _ (by omega),zcR _ h⟩
def xW {cs:List au}{c:au}:(cs++[c])[cs.length]?=some c:=by simp
def fw (c k:Int)(hk:0<=k/\k < 1000):∃n:Int,aE [.int c,.int k]=some (.int n)/\0<=n/\n < 2147483629:=by have b1:=cN c (j:=2147483629) (by decide);have b2:=cN ((c % 2147483629+1) * 1103515245) (j:=2147483629) (by decide);obtain ⟨x,hx⟩:∃x,x=(c % 2147483629+1) * 1103515245 % 2147483629:=⟨_,rfl⟩;have b3:=cN (x * x+k * 69621+12345) (j:=2147483587) (by decide);refine ⟨_,?_,cN (((x * x+k * 69621+12345) % 2147483587) * ((x * x+k * 69621+12345) % 2147483587)) (j:=2147483629) (by decide)⟩;rw [uJ];push_cast [kG,oY (i:=c) (j:=2147483629) (by decide),iH (i:=c % 2147483629+1) (j:=1103515245) (by omega),oY (i:=(c % 2147483629+1) * 1103515245) (j:=2147483629) (by decide),←hx,iH (i:=x) (j:=x) (by omega),iH (i:=k) (j:=69621) (by omega),oY (i:=x * x+k * 69621+12345) (j:=2147483587) (by decide),iH (i:=(x * x+k * 69621+12345) % 2147483587) (j:=(x * x+k * 69621+12345) % 2147483587) (by omega),oY (j:=2147483629) (by decide)]
theorem uc:∀(g:Rc) (l:List (Int×Rc)) (p:Int×Rc),M5 g l->p.2≠lst g l->M5 g (l++[p])
 |_,[],_,_,h=>⟨h,trivial⟩
 |_,q::l,p,hd,h=>⟨hd.1,uc q.2 l p hd.2 h⟩
theorem fR:∀l:Th,unkDs (l.map D.int)=l.map .int
 |[]=>by simp only [za8,unkDs]
 |i::l=>by simp only [zaf,unkDs,fu,fR l]
def oD:Option Int->D
 |none=>.non
 |some i=>.int i
def st:Option Int->Option Int->Rc
 |none,none=>(true,[])
 |none,some h=>(true,[h])
 |some l,none=>(false,[l])
 |some l,some h=>(false,[l,h])
def Jl (lo hi:Option Int)(d:Int):Bool:=(match lo with|none=>true|some l=>decide (l<=d)) && (match hi with|none=>true|some h=>decide (d < h))
theorem nS {lo hi:Option Int}(h:∀l r,lo=some l->hi=some r->l < r):cn [oD lo,oD hi]=some (rD (st lo hi)):=by
 rw [qt]
 cases lo with
 |none=>cases hi <;> rfl
 |some l =>
  cases hi with
  |none=>rfl
  |some r =>
   have:=h l r rfl rfl;have hz:decide (r<=l)=false:=zaw (by omega);push_cast [iL,oD,hz,mG,st,rD,zaf,za8]
theorem Kg {lo hi:Option Int}(h:∀l r,lo=some l->hi=some r->l < r):(st lo hi).2.Pairwise (· < ·):=by cases lo <;> cases hi <;> simp [st];exact h _ _ rfl rfl
theorem HZ {lo hi:Option Int}(h:∀l r,lo=some l->hi=some r->l < r)(d:Int):O5 (st lo hi) d=Jl lo hi d:=by
 cases lo with
 |none =>
  cases hi with
  |none=>rfl
  |some r =>
   show (if d < r then true else !true)=(true && decide (d < r))
   by_cases c:d < r <;> simp [c]
 |some l =>
  cases hi with
  |none =>
   show (if d < l then false else !false)=(decide (l<=d) && true)
   by_cases c:d < l
   ·have:¬ l<=d:=by omega
    simp [c,this]
   ·have:l<=d:=by omega
    simp [c,this]
  |some r =>
   have:=h l r rfl rfl
   show (if d < l then false else if d < r then !false else !(!false))=(decide (l<=d) && decide (d < r))
   by_cases c:d < l
   ·have:¬ l<=d:=by omega
    simp [c,this]
   ·have h1:l<=d:=by omega
    by_cases e:d < r <;> simp [c,e,h1]
theorem tw:∀(g:Rc) (qs:List (Int×Rc)) (q:Int×Rc),qs.getLast?=some q->lst g qs=q.2
 |_,[],_,h=>by cases h
 |_,[p],q,h=>by cases h;rfl
 |_,p::p'::qs,q,h=>tw p.2 (p'::qs) q (by simpa using h)
def Ej {Z:Type}(f:Z->D)(xs:List Z)(x:Z)(h:xs.getLast?=some x):L2.kI (xs.map f) (-1)=some (f x):=by
 have hne:xs≠[]:=fun z=>by rw [z] at h;cases h
 have hp:=zck.mpr hne;have h1:(xs.map f)[(xs.length - 1)]?=some (f x):=by rw [zaB,←List.getLast?_eq_getElem?,h];rfl
 have h2:L2.Cb (xs.map f).length (-1)=some (xs.length - 1):=by unfold L2.Cb;rw [zag,if_neg (by omega),if_pos (by omega)];congr 1;omega
 unfold L2.kI;rw [h2];exact h1
theorem wP (p:Pl):cq [jW p]=some (rD (lst p.1 p.2)):=by
 obtain ⟨g,qs⟩:=p;rw [qv]
 cases hq:qs.getLast? with
 |none =>
  have:qs=[]:=List.getLast?_eq_none_iff.mp hq;subst this;rfl
 |some q =>
  have h1:=Ej sD qs q hq;have hne:qs≠[]:=fun z=>by rw [z] at hq;cases hq
  have h2:(qs.map sD).isEmpty=false:=by
   cases qs with
   |nil=>exact absurd rfl hne
   |cons _ _=>rfl
  push_cast [iO,pD,h2,h1,sD,tw g qs q hq,zbB]
def Kf (p:Pl)(t:Int)(r:Rc):Pl:=if r=lst p.1 p.2 then p else (p.1,p.2++[(t,r)])
def uR (p:Pl)(t:Int)(r:Rc)(hn:p.2.length < 2000):g8 [jW p,.int t,rD r]=some (jW (Kf p t r)):=by
 have hl:=wP p;obtain ⟨g,qs⟩:=p;have hn:qs.length < 2000:=hn;rw [xr];unfold Kf;by_cases c:r=lst g qs
 ·have c':decide (r=lst g qs)=true:=zaF c;rw [if_pos c];push_cast [jL,hl,FC,xa,c']
 ·have c':decide (r=lst g qs)=false:=zaw c;rw [if_neg c];have z:(qs.map sD).length+1<=sizeLine:=dR (by rw [zag];omega);push_cast [jL,hl,FC,xa,c',pD,Kb,z,zaT];simp only [jW,pD,zaT,zaf,za8,sD]
def Gu {ES TS:Th}{p:Pl}{a:Int}{r:Rc}(hp:BP ES TS p)(h:∀q∈p.2,q.1 < a)(hr:r.2.Pairwise (· < ·))(he:∀e∈r.2,e∈ES)(ha:a∈TS):BP ES TS (Kf p a r):=by
 unfold Kf;by_cases c:r=lst p.1 p.2
 ·rw [if_pos c];exact hp
 ·rw [if_neg c];have sp:∀q∈p.2++[(a,r)],q∈p.2\/q=(a,r):=fun q hq=>by
   rcases zaY.mp hq with z|z
   ·exact .inl z
   ·exact .inr (zav.mp z)
  refine ⟨⟨hp.pf.gu,?_,uc p.1 p.2 _ hp.pf.dif c,fun q hq=>?_⟩,hp.ge,fun q hq=>?_,fun q hq=>?_⟩
  ·exact List.pairwise_append.mpr ⟨hp.pf.up,zcw _ _,fun x hx y hy=>by rw [zav.mp hy];exact h x hx⟩
  ·rcases sp q hq with z|rfl
   ·exact hp.pf.ru q z
   ·exact hr
  ·rcases sp q hq with z|rfl
   ·exact hp.re q z
   ·exact he
  ·rcases sp q hq with z|rfl
   ·exact hp.te q z
   ·exact ha
theorem wO:∀(es:Th) (b:Bool) (d:Int),es.Pairwise (· < ·)->xY (b,es) d=lv b es d
 |[],b,d,_=>by simp [xY,uB,lv]
 |e::es,b,d,h=>by
  obtain ⟨h1,h2⟩:=zaQ.mp h;have ih:=wO es (!b) d h2;rw [lv];by_cases c:d < e
  ·rw [if_pos c];have:((e::es).filter fun x=>decide (x<=d))=[]:=List.filter_eq_nil_iff.mpr fun x hx=>by
    rcases zaj.mp hx with rfl|hx
    ·simp;omega
    ·have:=h1 x hx;simp;omega
   simp [xY,uB,this]
  ·rw [if_neg c,←ih];have:((e::es).filter fun x=>decide (x<=d))=e::es.filter fun x=>decide (x<=d):=zbZ (by simp;omega);have c1:uB (b,e::es) d=uB (!b,es) d+1:=by unfold uB;rw [this];rfl
   show (if uB (b,e::es) d % 2=0 then b else !b)=if uB (!b,es) d % 2=0 then !b else !!b
   rw [c1];generalize uB (!b,es) d=n;by_cases z:n % 2=0
   ·rw [if_neg (by omega),if_pos z]
   ·rw [if_pos (by omega),if_neg z,Bool.not_not]
abbrev Nb (a b:Bool):Bool:=a || b
abbrev Na (a b:Bool):Bool:=a && !b
def k1:dk 60 (.str "both")=true:=by decide
def k2:dk 60 (.str "either")=true:=by decide
def k3:dk 60 (.str "less")=true:=by decide
def P2:iT (.str "either") (.str "both")=false:=by decide
def P1:iT (.str "either") (.str "either")=true:=by decide
def P0:iT (.str "less") (.str "both")=false:=by decide
def PZ:iT (.str "less") (.str "either")=false:=by decide
def PY:iT (.str "less") (.str "less")=true:=by decide
def JA (x y:Bool):bE [.str "either",.bl x,.bl y]=some (.bl (Nb x y)):=by rw [nM];cases x <;> push_cast [iK,k1,k2,P2,P1,Nb,Bool.true_or,Bool.false_or]
def EG (x y:Bool):bE [.str "less",.bl x,.bl y]=some (.bl (Na x y)):=by rw [nM];cases x <;> push_cast [iK,k1,k2,k3,P0,PZ,PY,Na,zbH,zbL]
def q5:iT (.str "tell") (.str "tell")=true:=by decide
def q6:iT (.str "strike") (.str "tell")=false:=by decide
def k5:dk 60 (.str "tell")=true:=by decide
def k6:dk 60 (.str "strike")=true:=by decide
structure Tl where
 tl:Bool
 said:Th
 lo:Option Int
 hi:Option Int
 nm:Str
abbrev bY (x:Tl):D:=if x.tl=true then .key x.said else .tup (x.said.map .int)
abbrev bI (x:Tl):D:=.tup [.str (if x.tl=true then "tell" else "strike"),.str x.nm,bY x,oD x.lo,oD x.hi]
abbrev ii (x:Tl):D:=.tup [.str (if x.tl=true then "tell" else "strike"),.str x.nm,.tup (x.said.map .int),oD x.lo,oD x.hi]
abbrev Tl.Ok (x:Tl):Prop:=∀l r,x.lo=some l->x.hi=some r->l < r
def Jr (x:Tl)(row:Th):Bool->Bool->Bool:=if x.tl=true/\row=x.said then Nb else Na
def lO (x:Tl)(keys:Nat)(a:Int)(e:En):En:=if e.1.take keys=x.said.take keys then (e.1,Kf e.2 a (W (Jr x e.1) (lst e.2.1 e.2.2) (st x.lo x.hi))) else e
def wf (x:Tl):bM [bI x]=some (.bl x.tl):=by
 rw [pK];obtain ⟨b,s,lo,hi,nm⟩:=x;cases b
 ·push_cast [fQ,zar,if_false,k5,k6,q6]
 ·push_cast [fQ,if_true,k5,q5]
theorem hX (r:Th)(k:Nat):lu (r.map D.int) none (some (k:Int))=(r.take k).map .int:=by
 unfold lu;have h1:HT.cW (r.map D.int).length 0 none=0:=rfl;have h2:HT.cW (r.map D.int).length (r.map D.int).length (some (k:Int))=min k (r.map D.int).length:=by exact HT.CI _ _ _
 rw [h1,h2,List.drop_zero,Nat.sub_zero,List.map_take,List.take_eq_take_iff.mpr];simp
theorem nL (r:Th):nK (.v (.key r))=.v (.tup (r.map .int)):=rfl
def yY (l:Th):nK (.v (.tup (l.map .int)))=.v (.tup (l.map .int)):=by show R.v (.tup (unkDs (l.map .int)))=_;rw [fR]
theorem BI {x y:R}{a b:Th}(hx:nK x=.v (.tup (a.map .int)))(hy:nK y=.v (.tup (b.map .int)))(U:ac):oZ false x y U=some (.v (.bl (decide (a=b))),U):=by
 have o:∀l:Th,dk 60 (.tup (l.map .int))=true:=fun l=>iw (g7 l);have q:iT (.tup (a.map .int)) (.tup (b.map .int))=decide (a=b):=by simp only [iT];exact l9 a b
 unfold oZ;rw [hx,hy]
 show ((if (dk 60 (.tup (a.map .int)) && dk 60 (.tup (b.map .int)))=true then some (R.v (.bl (iT (.tup (a.map .int)) (.tup (b.map .int)))),mQ U) else none).bind fun r=>some (r.1,U))=_
 rw [o,o,q];rfl
def BH (a b:Th)(U:ac):oZ false (.v (.tup (a.map .int))) (.v (.tup (b.map .int))) U=some (.v (.bl (decide (a=b))),U):=BI (yY a) (yY b) U
def BG (a b:Th)(U:ac):oZ false (.v (.key a)) (.v (.key b)) U=some (.v (.bl (decide (a=b))),U):=BI (nL a) (nL b) U
def qr (x:Tl):nK (.v (bY x))=.v (.tup (x.said.map .int)):=by
 unfold bY;split
 ·rfl
 ·show R.v (.tup (unkDs (x.said.map .int)))=_;rw [fR]
section
variable {ES TS:Th}
def AO (bt:Bool){x:Tl}(ho:x.Ok){keys:Nat}{a:Int}{e:En}(hp:BP ES TS e.2)(hE:ES.length<=18)(hT:TS.length<=60){x0 x6 x8 x9 x10:Option R}{kvs:List (Th×D)}{acc:List En}(hn:acc.length < 100) :
  ∃y10,dJ bt [x0,bB ((keys:Int)),some (.v (bI x)),bB a,some (.v (bY x)),some (.v (rD (st x.lo x.hi))),x6,bO 1,some (.v (.key e.1)),some (.v (jW e.2)),x10] [.fzt kvs,.lst (acc.map d7)] =
   some (.nx [x0,bB ((keys:Int)),some (.v (bI x)),bB a,some (.v (bY x)),some (.v (rD (st x.lo x.hi))),x6,bO 1,some (.v (.key e.1)),some (.v (jW e.2)),y10] [.fzt kvs,.lst ((acc++[lO x keys a e]).map d7)]):=by
 have hb:=hp.pf.ru
 have hl:(lst e.2.1 e.2.2).2.length<=18/\(lst e.2.1 e.2.2).2.Pairwise (· < ·)/\∀z∈(lst e.2.1 e.2.2).2,z∈ES:=by
  have key:∀(g:Rc) (qs:List (Int×Rc)),lst g qs=g\/∃q∈qs,lst g qs=q.2:=fun g qs=>by
   induction qs generalizing g with
   |nil=>exact .inl rfl
   |cons q qs ih =>
    rcases ih q.2 with h|⟨x,hx,h⟩
    ·exact .inr ⟨q,zao,h⟩
    ·exact .inr ⟨x,zan _ hx,h⟩
  have fin:∀r:Rc,r.2.Pairwise (· < ·)->(∀z∈r.2,z∈ES)->r.2.length<=18/\r.2.Pairwise (· < ·)/\∀z∈r.2,z∈ES:=fun r h1 h2 =>
   ⟨zbe (lQ _ _ (EF h1) h2) hE,h1,h2⟩
  rcases key e.2.1 e.2.2 with h|⟨q,hq,h⟩ <;> rw [h]
  ·exact fin _ hp.pf.gu hp.ge
  ·exact fin _ (hp.pf.ru q hq) (hp.re q hq)
 have hs2:(st x.lo x.hi).2.length<=2:=by cases x.lo <;> cases x.hi <;> simp [st]
 have hpn:e.2.2.length < 2000:=by
  have:=lQ (e.2.2.map (·.1)) TS (EF (zbP.mpr hp.pf.up)) fun z hz=>by obtain ⟨q,hq,rfl⟩:=zaS.mp hz;exact hp.te q hq
  rw [zag] at this;omega
 have ha:(acc.map d7).length < sizeLine:=jb (by rw [zag];omega);have t1:=wf x;have la:=wP e.2;have ct:=fun (r:Th)=>hX r keys;have ek:=fun U:ac=>BH (e.1.take keys) (x.said.take keys) U;unfold lO
 by_cases c:e.1.take keys=x.said.take keys
 ·have c':decide (e.1.take keys=x.said.take keys)=true:=zaF c
  rw [if_pos c]
  have wd:∃wd:Str,(∀u v:Bool,bE [.str wd,.bl u,.bl v]=some (.bl (Jr x e.1 u v)))/\(DX (fS (iW (aN bM 1 (ad (bT (ae 2)) aj))) (fB (ao (oZ false) (ae 8) (ae 4)))) (fK (.str "either")) (fK (.str "less")))
    [x0,bB ((keys:Int)),some (.v (bI x)),bB a,some (.v (bY x)),some (.v (rD (st x.lo x.hi))),x6,bO 1,some (.v (.key e.1)),some (.v (jW e.2)),x10] [.fzt kvs,.lst (acc.map d7)]=some (.v (.str wd),[.fzt kvs,.lst (acc.map d7)]):=by
   unfold Jr
   cases htl:x.tl with
   |false =>
    refine ⟨"less",fun u v=>by rw [if_neg (by simp)];exact EG u v,?_⟩;rw [htl] at t1;push_cast [t1]
   |true =>
    rw [htl] at t1;have ek2:=fun U:ac=>BG e.1 x.said U
    have sd:bY x=.key x.said:=by unfold bY;rw [if_pos htl]
    by_cases z:e.1=x.said
    ·refine ⟨"either",fun u v=>by rw [if_pos ⟨rfl,z⟩];exact JA u v,?_⟩
     rw [zaF z] at ek2;push_cast [t1,sd,ek2]
    ·refine ⟨"less",fun u v=>by rw [if_neg (fun q=>z q.2)];exact EG u v,?_⟩
     rw [zaw z] at ek2;push_cast [t1,sd,ek2]
  obtain ⟨wd,hw,hif⟩:=wd;have bl:=Eg bt (Jr x e.1) wd hw (lst e.2.1 e.2.2) (st x.lo x.hi) (by omega);have sp:=uR e.2 a (W (Jr x e.1) (lst e.2.1 e.2.2) (st x.lo x.hi)) hpn;refine ⟨some (.v (.str wd)),?_⟩;rw [c'] at ek;unfold dJ;generalize DX (fS (iW (aN bM 1 (ad (bT (ae 2)) aj))) (fB (ao (oZ false) (ae 8) (ae 4)))) (fK (.str "either")) (fK (.str "less"))=F at hif ⊢;push_cast [Ce,zay,nL,qr,ct,ek,hif,la,bl,sp,ha,zaT]
 ·have c':decide (e.1.take keys=x.said.take keys)=false:=zaw c
  rw [c'] at ek;rw [if_neg c];refine ⟨x10,?_⟩;push_cast [dJ,Ce,zay,nL,qr,ct,ek,ha,zaT]
end
theorem oB (x:Tl)(keys:Nat)(a:Int)(e:En):(lO x keys a e).1=e.1:=by unfold lO;split <;> rfl
abbrev pj (e:En):Th×D:=(e.1,jW e.2)
theorem pV:∀T:List En,jh (T.map d7)=some (T.map pj)
 |[]=>rfl
 |e::T=>by
  rw [zaf,zaf];unfold jh
  show (jh (T.map d7)).map _=_
  rw [pV T];rfl
theorem on:∀(T:List En) (k0:List (Th×D)),(k0.map (·.1)++T.map (·.1)).Nodup->jF k0 (T.map pj)=k0++T.map pj
 |[],k0,_=>by simp [jF]
 |e::T,k0,nd=>by
  have hn:¬ (k0.any fun p=>decide (p.1=e.1))=true:=fun z=>by obtain ⟨p,hp,h⟩:=zcB.mp z;have h:p.1=e.1:=(by simpa using h);exact (zbd.mp nd).2.2 p.1 (za7 hp) e.1 (by simp) h
  show jF (Ap k0 e.1 (jW e.2)) (T.map pj)=_
  unfold Ap;rw [if_neg hn,on T _ (by simpa using nd)];simp
theorem qp (k:Th):∀T:List En,(mP (T.map pj) k=none ↔ k∉T.map (·.1))
 |[]=>by simp [mP]
 |e::T=>by
  have ih:=qp k T;unfold mP at ih ⊢;rw [zaf];by_cases z:e.1=k
  ·rw [zb7 (by simpa using z)];simp [z]
  ·rw [zb8 (by simpa using z),ih];simp [Ne.symm z]
def cT (x:Tl)(T:List En):List En:=if x.tl=true/\x.said∉T.map (·.1) then T++[(x.said,B4)] else T
theorem oR:∀es:List En,flatDs (es.map d7)=true
 |[]=>rfl
 |e::es=>by
  have h1:cF (d7 e)=true:=by
   have:=DU e.2.1 e.2.2
   show flatDs [.key e.1,jW e.2]=true
   simp only [flatDs,cF] at this ⊢;simpa using this
  rw [zaf,flatDs,h1,oR es];rfl
section
variable {ES TS:Th}{w:Nat}{T:List En}
theorem Cn (bt:Bool){x:Tl}(ho:x.Ok){keys:Nat}{a:Int}(hb:∀e∈T,BP ES TS e.2)(hE:ES.length<=18)(hT:TS.length<=60)(hr:∀e∈T,e.1.length=w)(hs:x.tl=true->x.said.length=w)(nd:(T.map (·.1)).Nodup)(hn:T.length<=39) :
  ∃A:List En,eu bt [.fl (T.map d7),.int (keys:Int),bI x,.int a]=some (.lst (A.map d7))/\F2 (A.map (·.1))/\∀e,e∈A ↔ e∈(cT x T).map (lO x keys a)/\e.2≠B4:=by
 have n0:BP ES TS B4:=⟨⟨.nil,.nil,trivial,fun _ h=>nomatch h⟩,(fun _ h=>nomatch h),(fun _ h=>nomatch h),fun _ h=>nomatch h⟩
 have eb:∀e∈cT x T,BP ES TS e.2/\e.1.length=w:=fun e he=>by
  unfold cT at he;split at he
  ·rename_i c
   rcases zaY.mp he with h|h
   ·exact ⟨hb e h,hr e h⟩
   ·rw [zav.mp h];exact ⟨n0,hs c.1⟩
  ·exact ⟨hb e he,hr e he⟩
 have en:((cT x T).map (·.1)).Nodup:=by
  unfold cT;split
  ·rename_i c
   rw [zaT,zbd]
   exact ⟨nd,by simp,fun p hp q hq=>by
    have hq:q=x.said:=by simpa using hq
    rw [hq];rintro rfl;exact c.2 hp⟩
  ·exact nd
 have el:(cT x T).length<=40:=by
  unfold cT;split
  ·rw [zaM];simp;omega
  ·omega
 obtain ⟨A,hA,hu,hm⟩:=zu bt (w:=w) (es:=(cT x T).map (lO x keys a)) (by rw [zag];omega) (by rw [zby,show ((fun e:En=>e.1) ∘ lO x keys a)=fun e=>e.1 from funext fun e=>oB x keys a e];exact en) (fun e he=>by
  obtain ⟨y,hy,rfl⟩:=zaS.mp he
  rw [oB];exact (eb y hy).2)
 refine ⟨A,?_,hu,hm⟩;rw [xq];have se:=nS ho;have t1:=wf x;have ix2:∀U:ac,ba (.v (bI x)) (.v (.int 2)) U=some (.v (bY x),U):=fun U=>rfl;have ix3:∀U:ac,ba (.v (bI x)) (.v (.int 3)) U=some (.v (oD x.lo),U):=fun U=>rfl;have ix4:∀U:ac,ba (.v (bI x)) (.v (.int 4)) U=some (.v (oD x.hi),U):=fun U=>rfl
 have dt:qd [.v (.fl (T.map d7))] []=some (.p 0,[.dt (T.map pj)]):=by
  unfold qd
  show ((jh (T.map d7)).bind fun kvs=>if (T.map d7).length < 1000 then some (R.p 0,[au.dt (jF [] kvs)]) else none)=_
  rw [pV,zay,if_pos (by rw [zag];omega),on T [] (by simpa using nd)];rfl
 have s4:(eW (iW (aN bM 1 (ad (bT (ae 2)) aj))) (cP (yy (ae 6) (ae 4) (fK (.tup [(.tup [(.bl false),(.tup [])]),(.tup [])])))) aM)
   [some (.v (.fl (T.map d7))),bB ((keys:Int)),some (.v (bI x)),bB a,some (.v (bY x)),some (.v (rD (st x.lo x.hi))),bO 0,none,none,none,none] [.dt (T.map pj)] =
   some (.nx [some (.v (.fl (T.map d7))),bB ((keys:Int)),some (.v (bI x)),bB a,some (.v (bY x)),some (.v (rD (st x.lo x.hi))),bO 0,none,none,none,none] [.dt ((cT x T).map pj)]):=by
  cases htl:x.tl with
  |false =>
   rw [htl] at t1
   have:cT x T=T:=by unfold cT;rw [if_neg (by simp [htl])]
   rw [this];push_cast [t1]
  |true =>
   rw [htl] at t1
   have sd:bY x=.key x.said:=by unfold bY;rw [if_pos htl]
   have sT:(yy (ae 6) (ae 4) (fK (.tup [(.tup [(.bl false),(.tup [])]),(.tup [])]))) [some (.v (.fl (T.map d7))),bB ((keys:Int)),some (.v (bI x)),bB a,some (.v (bY x)),some (.v (rD (st x.lo x.hi))),bO 0,none,none,none,none] [.dt (T.map pj)] =
     (if (T.map pj).length < 1000 then some (match mP (T.map pj) x.said with|some r=>(.v r,[.dt (T.map pj)])|none=>(.v L3,[.dt (T.map pj++[(x.said,L3)])])) else none):=by rw [sd];rfl
   rw [if_pos (by rw [zag];omega)] at sT
   by_cases z:x.said∈T.map (·.1)
   ·have:cT x T=T:=by unfold cT;rw [if_neg (fun q=>q.2 z)]
    rw [this]
    cases hv:mP (T.map pj) x.said with
    |none=>exact absurd z ((qp _ _).mp hv)
    |some r =>
     rw [hv] at sT;push_cast [t1,sT]
   ·have:cT x T=T++[(x.said,B4)]:=by unfold cT;rw [if_pos ⟨htl,z⟩]
    rw [this,zaT];rw [(qp _ _).mpr z] at sT;push_cast [t1,sT];rfl
 obtain ⟨⟨acc,x8,x9,x10⟩,e,h1⟩:=k7 (g:=uz 2 (aZ (bZ 8) (aZ (bZ 9) gd))) (b:=dJ bt) d7
  (fun s:List En×Option R×Option R×Option R=>([some (.v (.fl (T.map d7))),bB ((keys:Int)),some (.v (bI x)),bB a,some (.v (bY x)),some (.v (rD (st x.lo x.hi))),bO 0,bO 1,s.2.1,s.2.2.1,s.2.2.2],[au.fzt ((cT x T).map pj),.lst (s.1.map d7)]))
  (fun s rem=>s.1++rem.map (lO x keys a)=(cT x T).map (lO x keys a)/\∀e∈rem,e∈cT x T) (cT x T) ([],none,none,none) ⟨rfl,fun _ h=>h⟩ (by
   rintro ⟨acc,x8,x9,x10⟩ e rem ⟨h1,h2⟩
   have hacc:acc.length < 100:=by
    have:=congrArg List.length h1;simp at this;omega
   obtain ⟨y10,q⟩:=AO bt ho (keys:=keys) (a:=a) (eb e (h2 e zao)).1 hE hT (x0:=some (.v (.fl (T.map d7)))) (x6:=some (.p 0)) (x8:=x8) (x9:=x9) (x10:=x10) (kvs:=(cT x T).map pj) hacc;refine ⟨(acc++[lO x keys a e],some (.v (.key e.1)),some (.v (jW e.2)),y10),?_,by rw [zaW];exact h1,fun z hz=>h2 z (zan _ hz)⟩;have hg:uz 2 (aZ (bZ 8) (aZ (bZ 9) gd)) (.v (d7 e)) [some (.v (.fl (T.map d7))),bB ((keys:Int)),some (.v (bI x)),bB a,some (.v (bY x)),some (.v (rD (st x.lo x.hi))),bO 0,bO 1,x8,x9,x10] [au.fzt ((cT x T).map pj),.lst (acc.map d7)]=some ([some (.v (.fl (T.map d7))),bB ((keys:Int)),some (.v (bI x)),bB a,some (.v (bY x)),some (.v (rD (st x.lo x.hi))),bO 0,bO 1,some (.v (.key e.1)),some (.v (jW e.2)),x10],[au.fzt ((cT x T).map pj),.lst (acc.map d7)]):=rfl;rw [hg,t5]
   exact q)
 have h1:acc=(cT x T).map (lO x keys a):=by simpa using h1.1
 subst h1
 have fi:(DW (ae 6)) [some (.v (.fl (T.map d7))),bB ((keys:Int)),some (.v (bI x)),bB a,some (.v (bY x)),some (.v (rD (st x.lo x.hi))),bO 0,bO 1,none,none,none] [.dt ((cT x T).map pj),.lst []]=some ((cT x T).map d7,[.fzt ((cT x T).map pj),.lst []]):=by
  show some ((((cT x T).map pj).map Nw,_))=_
  rw [zby];rfl
 have fl:=oR A;have e:dl (uz 2 (aZ (bZ 8) (aZ (bZ 9) gd))) (dJ bt) ((cT x T).map d7) [some (.v (.fl (T.map d7))),bB ((keys:Int)),some (.v (bI x)),bB a,some (.v (bY x)),some (.v (rD (st x.lo x.hi))),bO 0,bO 1,none,none,none] [au.fzt ((cT x T).map pj),.lst []]=_:=e;generalize hL:(eW (iW (aN bM 1 (ad (bT (ae 2)) aj))) (cP (yy (ae 6) (ae 4) (fK (.tup [(.tup [(.bl false),(.tup [])]),(.tup [])])))) aM)=L at s4;rw [me,hL];push_cast [ix2,ix3,ix4,se,dt,s4,fi,e,hA,fl]
end
theorem xg {Z:Type}{f:FE}{rest:Lo}{U:ac}(e:Z->D)(P:D->Prop):∀(xs:List Z) (x0:Option R) (cs:List au),(∀a∈xs,∀cs:List au,∃d cs',P d/\f (some (.v (e a))::rest) (U++cs)=some (.v d,U++cs'))->∃ds cs',cg (bZ 0) gk f (xs.map e) (x0::rest) (U++cs)=some (ds,U++cs')/\ds.length=xs.length/\∀d∈ds,P d
 |[],_,cs,_=>⟨[],cs,rfl,rfl,fun _ h=>nomatch h⟩
 |a::xs,x0,cs,h=>by
  obtain ⟨d,cs1,hd,h1⟩:=h a zao cs;obtain ⟨ds,cs2,ih,hl,hp⟩:=xg e P xs (some (.v (e a))) cs1 fun b hb=>h b (zan _ hb);refine ⟨d::ds,cs2,?_,by simp [hl],fun z hz=>?_⟩
  ·simp only [zaf,cg,bZ,zb4,zay,gk,if_true,h1,ih]
  ·rcases zaj.mp hz with rfl|hz
   ·exact hd
   ·exact hp z hz
def bh (i:Int){j:Int}(h:0 < j)(U:ac):br (.v (.int i)) (.v (.int j)) U=some (.v (.int (i % j)),U):=oY h
def bU (i:Int){j:Int}(h:0 < j)(h2:j < 2 ^ 30)(U:ac):cz (.v (.int i)) (.v (.int j)) U=some (.v (.int (i / j)),U):=IN (by omega) (by omega)
def sS (l:Th)(i:Int)(h:0<=i/\i < (l.length:Int)):∃x∈l,L2.kI (l.map D.int) i=some (.int x):=by
 obtain ⟨j,rfl⟩:∃j:Nat,(j:Int)=i:=⟨i.toNat,zcl h.1⟩;have hj:j < l.length:=by omega
 exact ⟨l[j],zbs hj,ph (zap hj)⟩
def k8:List Nat:=[97,98,99,100,101,102,103,104,105,106,107,108,109,110,111,112,113,114,115,116,117,118,119,120,121,122]
def Gd:(Str.ofString "abcdefghijklmnopqrstuvwxyz")=Tx k8:=by decide
def Ge:(Str.ofString "kmz")=Tx [107,109,122]:=by decide
def H9:∀c∈k8,c < 1000:=by decide
theorem A7:∀l:List Nat,Str.join ⟨#[]⟩ (l.map fun c=>Tx [c])=Tx l
 |[]=>rfl
 |[a]=>rfl
 |a::b::t=>by
  have ih:=A7 (b::t);simp only [zaf] at ih ⊢;rw [Str.join,ih]
  ·exact Str.ext' (Array.toList_inj.mp (by
    show (([a].toArray++#[])++(b::t).toArray).toList=_
    simp))
  all_goals simp
theorem we:∀l:List Nat,lF (l.map fun c=>D.str (Tx [c]))=some (l.map fun c=>Tx [c])
 |[]=>rfl
 |a::l=>by simp only [zaf,lF,we l,zay]
theorem A6 (l:List Nat)(hl:l.length<=40):JoinOk ⟨#[]⟩ (l.map fun c=>Tx [c])=true:=by
 unfold JoinOk Builtin.Str.tooLong;have h:∀(l:List Nat) (s:Nat),(l.map fun c=>Tx [c]).foldl (fun t w=>t+w.length+(⟨#[]⟩:Str).length) s=s+l.length:=by
  intro l;induction l with
  |nil=>intro s;simp
  |cons a l ih =>
   intro s;rw [zaf,zbi,ih,j0]
   show s+1+0+_=_
   rw [zaD];omega
 have h:=h l 0;rw [←List.foldl_toArray'] at h
 ·simp only [Bool.not_eq_true',decide_eq_false_iff_not,Nat.not_lt];refine zbe (Nat.le_of_eq h) ?_;have h4:(4000:Nat)<=sizeLine:=by decide
  omega
 ·rfl
def DF {n:Nat}{U:ac}{l:List Nat}(h:U[n]?=some (.lst (l.map fun c=>D.str (Tx [c]))))(hl:l.length<=40):p0 (.v (.str "")) (.p n) U=some (.v (.str (Tx l)),U):=by
 have e:(Str.ofString "")=⟨#[]⟩:=by decide
 show ((jO (.p n) U).bind fun ds=>(lF ds).bind fun ts=>if JoinOk (Str.ofString "") ts=true then some (R.v (.str (Txt.join (Str.ofString "") ts)),U) else none)=_
 rw [D2,h,IF,zay,we,zay,e,if_pos (A6 l hl)];rw [show Txt.join ⟨#[]⟩ (l.map fun c=>Tx [c])=Tx l from (PySem.StrLaws.glued_eq_join _ _).trans (A7 l)]
theorem o8 {Z:Type}{f:FE}{rest:Lo}{U:ac}(e:Z->D)(P:D->Prop):∀(xs:List Z) (x0:Option R),(∀a∈xs,∃d,P d/\f (some (.v (e a))::rest) U=some (.v d,U))->∃ds,cg (bZ 0) gk f (xs.map e) (x0::rest) U=some (ds,U)/\ds.length=xs.length/\∀d∈ds,P d
 |[],_,_=>⟨[],rfl,rfl,fun _ h=>nomatch h⟩
 |a::xs,x0,h=>by
  obtain ⟨d,hd,h1⟩:=h a zao;obtain ⟨ds,ih,hl,hp⟩:=o8 e P xs (some (.v (e a))) fun b hb=>h b (zan _ hb);refine ⟨d::ds,?_,by simp [hl],fun z hz=>?_⟩
  ·simp only [zaf,cg,bZ,zb4,zay,gk,if_true,h1,ih]
  ·rcases zaj.mp hz with rfl|hz
   ·exact hd
   ·exact hp z hz
theorem v6 {Z:Type}(e:Z->D)(Q:Z->Prop):∀ds:List D,(∀d∈ds,∃a,Q a/\d=e a)->∃l:List Z,ds=l.map e/\∀a∈l,Q a
 |[],_=>⟨[],rfl,fun _ h=>nomatch h⟩
 |d::ds,h=>by obtain ⟨a,ha,rfl⟩:=h d zao;obtain ⟨l,rfl,hl⟩:=v6 e Q ds fun x hx=>h x (zan _ hx);exact ⟨a::l,rfl,fun x hx=>(zaj.mp hx).elim (fun e=>e ▸ ha) (hl x)⟩
structure Sh where
 nm:Str
 ks:Nat
 w:Nat
abbrev cU (s:Sh):D:=.tup [.str s.nm,.int (s.ks:Int),.int (s.w:Int)]
def okN (x:Str):Prop:=∃l:List Nat,x=Tx l/\∀c∈l,c < 1000
def okN.ok {x:Str}(h:okN x)(n:Nat):dk n (.str x)=true:=by obtain ⟨l,rfl,h⟩:=h;exact Ke fun c hc=>by have:=h c hc;omega
structure GS (shs:List Sh):Prop where
 pos:0 < shs.length
 le:shs.length<=3
 nd:(shs.map (·.nm)).Nodup
 ok:∀s∈shs,(s.ks<=s.w/\s.w<=8)/\okN s.nm
abbrev AN (l:List Nat)(p c:Nat):List Nat:=l.take p++[c]++l.drop (p+1)
def Dw {l:List Nat}{p c d:Nat}(h:Tx (AN l p c)=Tx (AN l p d)):c=d:=by
 have h:=(Jy (l:=AN l p c) (r:=AN l p d));rename_i h0;rw [h0] at h;have h:AN l p c=AN l p d:=by simpa using h
 have h:=List.append_cancel_right h;simpa using List.append_cancel_left h
def xB (cell:Int):∃shs:List Sh,GS shs/\c9 [.int cell]=some (.fl (shs.map cU)):=by
 rw [qu];obtain ⟨n,hn,hn0,hn1⟩:=fw cell 1 (by decide);have b8:=cN n (j:=8) (by decide);obtain ⟨m,hm⟩:∃m:Nat,(1+n % 8).toNat=m:=⟨_,rfl⟩;have hmi:(m:Int)=1+n % 8:=by omega
 obtain ⟨ds,hc,hl,hp⟩:=o8 (f:=ao FJ (fK (.str "abcdefghijklmnopqrstuvwxyz")) (ao br (ao cz (aN aE 2 (ad (bT (ae 1)) (ad (bT (ao cG (fK (.int 70)) (ae 0))) aj))) (fK (.int 3))) (fK (.int 26)))) (rest:=[bB cell]) (U:=[]) (fun i:Nat=>D.int (i:Int)) (fun d=>∃c:Nat,c < 1000/\d=D.str (Tx [c])) (List.range m) none (fun k hk=>by
  have hk:=zbJ.mp hk;obtain ⟨a,ha,ha0,ha1⟩:=fw cell (70+(k:Int)) (by omega);have b:=cN (a / 3) (j:=26) (by decide);have hlt:(a / 3 % 26).toNat < k8.length:=by show _ < 26;omega
  have hx:=Fh (U:=[]) (l:=k8) (i:=a / 3 % 26) (c:=k8[(a / 3 % 26).toNat]) b.1 (by decide) (zap hlt);rw [←Gd] at hx;refine ⟨_,⟨_,H9 _ (zbs hlt),rfl⟩,?_⟩;push_cast [ha,bU a (j:=3) (by decide) (by decide),bh (a / 3) (j:=26) (by decide),hx])
 obtain ⟨l,rfl,hl2⟩:=v6 (fun c:Nat=>D.str (Tx [c])) (· < 1000) ds hp;have hl:l.length=m:=by simpa using hl
 have z0:((List.range m).map fun i=>D.int (i:Nat)).length<=sizeLine:=dR (by simp;omega);have bp:=cN (n / 8) (j:=(m:Int)) (by omega);obtain ⟨p,hpi⟩:∃p:Nat,(p:Int)=n / 8 % (m:Int):=⟨(n / 8 % (m:Int)).toNat,by omega⟩;have hpl:p < l.length:=by omega
 have zl:l.length<=sizeLine:=dR (by omega);have jv:=DF (n:=0) (U:=[au.lst (l.map fun c=>D.str (Tx [c]))]) (l:=l) rfl (by omega);have lv:=Gs (U:=[au.lst (l.map fun c=>D.str (Tx [c]))]) zl;have b3:=cN (n / 64) (j:=3) (by decide);obtain ⟨q,hq⟩:∃q:Nat,(1+n / 64 % 3).toNat=q:=⟨_,rfl⟩;have hmi':(l.length:Int)=(m:Int):=by omega
 push_cast [iM,hn,bh n (j:=8) (by decide),oV (j:=1+n % 8) (by omega),hm,z0,hc,zbp,za9,jv,lv,hmi',bU n (j:=8) (by decide) (by decide),bh (n / 8) (j:=(m:Int)) (by omega),←hpi,bU n (j:=64) (by decide) (by decide),bh (n / 64) (j:=3) (by decide),oV (j:=1+n / 64 % 3) (by omega),hq];have b256:=cN (n / 256) (j:=3) (by decide);have to:=fun U=>Kc (U:=U) (l:=l) (n:=p) (by omega) zl;have fr:=fun U=>Ct (U:=U) (l:=l) (n:=p+1) (by omega) zl;have pc:(p:Int)+1=((p+1:Nat):Int):=by omega
 obtain ⟨O',U',e,shs,x5,x6,x7,rfl,⟨cs,rfl⟩,h1,h2,h3⟩:=oF (g:=bZ 5) (b:=f9) (O:=[bB cell,bB n,some (.v (.str (Tx l))),bB ((p:Int)),bO 1,none,none,none]) (U:=[au.lst (l.map fun c=>D.str (Tx [c])),.lst []]) q
  (fun i O U=>∃(shs:List Sh) (x5 x6 x7:Option R),O=[bB cell,bB n,some (.v (.str (Tx l))),bB ((p:Int)),bO 1,x5,x6,x7]/\(∃cs:List au,U=.lst (l.map fun c=>D.str (Tx [c])) :: .lst (shs.map cU)::cs)/\shs.length=i/\(∀s∈shs,((s.ks<=s.w/\s.w<=8)/\okN s.nm)/\∃k c,k < i/\[107,109,122][k]?=some c/\s.nm=Tx (AN l p c))/\(shs.map (·.nm)).Nodup)
  ⟨[],none,none,none,rfl,⟨[],rfl⟩,rfl,(fun _ h=>nomatch h),.nil⟩ (by
   rintro i hi O U ⟨shs,x5,x6,x7,rfl,⟨cs,rfl⟩,h1,h2,h3⟩;have hi3:i < 3:=(by omega);obtain ⟨a,ha,ha0,ha1⟩:=fw cell (80+(i:Int)) (by omega);obtain ⟨b,hb,hb0,hb1⟩:=fw cell (90+(i:Int)) (by omega);obtain ⟨x,hx,hx1⟩:=sS [3,3,8] (n / 256 % 3) b256;have hx0:0 < x/\x<=8:=(by simp at hx;omega);have hx1:L2.kI [D.int 3,.int 3,.int 8] (n / 256 % 3)=some (.int x):=hx1;have bw:=cN (a / 3) (j:=x) hx0.1;obtain ⟨w,hw⟩:∃w:Nat,(w:Int)=1+a / 3 % x:=⟨(1+a / 3 % x).toNat,by omega⟩;have bk:=cN (b / 3) (j:=(w:Int)+1) (by omega);obtain ⟨ks,hks⟩:∃ks:Nat,(ks:Int)=b / 3 % ((w:Int)+1):=⟨(b / 3 % ((w:Int)+1)).toNat,by omega⟩;have hc3:∃c,[107,109,122][i]?=some c/\c < 1000:=by have:i=0\/i=1\/i=2:=(by omega);rcases this with rfl|rfl|rfl <;> exact ⟨_,rfl,by decide⟩
   obtain ⟨c,hc,hc1⟩:=hc3;have kx:=fun U=>Fh (U:=U) (l:=[107,109,122]) (i:=(i:Int)) (c:=c) (by omega) (by decide) (by simpa using hc);rw [←Ge] at kx;have ad1:∀U:ac,cG (.v (.str (Tx (l.take p)))) (.v (.str (Tx [c]))) U=some (.v (.str (Tx (l.take p++[c]))),U):=fun U=>by rw [zC,if_pos (dR (by simp;omega))]
   have ad2:∀U:ac,cG (.v (.str (Tx (l.take p++[c])))) (.v (.str (Tx (l.drop (p+1))))) U=some (.v (.str (Tx (AN l p c))),U):=fun U=>by rw [zC,if_pos (dR (by simp;omega))]
   have zs:(shs.map cU).length < sizeLine:=jb (by simp;omega);refine ⟨_,_,?_,shs++[⟨Tx (AN l p c),ks,w⟩],bB ((i:Int)),bB ((w:Int)),some (.v (.str (Tx (AN l p c)))),rfl,⟨cs++[.lst [.int 3,.int 3,.int 8]],rfl⟩,by simp [h1],fun s hs=>?_,?_⟩
   ·push_cast [f9,ha,hb,bU a (j:=3) (by decide) (by decide),bU b (j:=3) (by decide) (by decide),bU n (j:=256) (by decide) (by decide),bh (n / 256) (j:=3) (by decide),xW,hx1,bh (a / 3) (j:=x) hx0.1,←hw,Kd,Gq,Gp,Gn,to,pc,fr,kx,ad1,ad2,bh (b / 3) (j:=(w:Int)+1) (by omega),←hks,zs,zaT]
   ·rcases zaY.mp hs with hs|hs
    ·obtain ⟨q1,k,c',q2,q3,q4⟩:=h2 s hs;exact ⟨q1,k,c',by omega,q3,q4⟩
    ·rw [zav.mp hs];refine ⟨⟨⟨?_,?_⟩,⟨_,rfl,fun z hz=>?_⟩⟩,i,c,by omega,hc,rfl⟩
     ·show ks<=w;omega
     ·show w<=8;omega
     ·rcases zaY.mp hz with hz|hz
      ·rcases zaY.mp hz with hz|hz
       ·exact hl2 z (List.mem_of_mem_take hz)
       ·rw [zav.mp hz];exact hc1
      ·exact hl2 z (List.mem_of_mem_drop hz)
   ·rw [zaT,zbd];refine ⟨h3,by simp,fun u hu v hv z=>?_⟩;have hv:v=Tx (AN l p c):=(by simpa using hv);obtain ⟨s,hs,rfl⟩:=zaS.mp hu;obtain ⟨_,k,c',q2,q3,q4⟩:=h2 s hs;rw [q4,hv] at z;have:=Dw z;subst this;have nd:([107,109,122]:List Nat).Nodup:=(by decide);have:=(List.getElem?_inj (by simp;omega) nd).mp (q3.trans hc.symm);omega)
 rw [e];push_cast [HW.Fg];exact ⟨shs,⟨by omega,by omega,h3,fun s hs=>(h2 s hs).1⟩,rfl⟩
def wE {Z:Type}(f:Z->D)(xs:List Z)(i:Int)(hx:0 < xs.length):∃x∈xs,L2.kI (xs.map f) (i % (xs.length:Int))=some (f x):=by
 obtain ⟨j,hj⟩:∃j:Nat,(j:Int)=i % (xs.length:Int):=⟨(i % (xs.length:Int)).toNat,by rw [zcl (zc3 _ (by omega))]⟩;have hlt:j < xs.length:=by have:=zcR i (b:=(xs.length:Int)) (by omega);omega
 exact ⟨xs[j],zbs hlt,by rw [←hj];exact ph (zap hlt)⟩
def EL (sc:Int):Th:=(List.range 18).map fun i:Nat=>((i:Int) - 3) * sc
def Jd (sc:Int):(EL sc).length=18:=by simp [EL]
def B8 {sc k:Int}(h1 : -3<=k)(h2:k<=14):k * sc∈EL sc:=zaS.mpr ⟨(k+3).toNat,zbJ.mpr (by omega),by rw [zcl (by omega)];congr 1;omega⟩
structure GT (sc:Int)(shs:List Sh)(x:Tl):Prop where
 ok:x.Ok
 ed:∀z∈(st x.lo x.hi).2,z∈EL sc
 nm:okN x.nm
 sh:∃s∈shs,s.nm=x.nm/\x.said.length=if x.tl=true then s.w else s.ks
def uP (c s:Int)(hs:0 < s){shs:List Sh}(g:GS shs):∃x:Tl,GT s shs x/\cJ [.int c,.fl (shs.map cU),.int s]=some (bI x):=by
 rw [pq];obtain ⟨n,hn,hn0,hn1⟩:=fw c 2 (by decide);obtain ⟨sh,hsh,a1⟩:=wE cU shs n g.pos;obtain ⟨⟨hk,hw⟩,hnm⟩:=g.ok sh hsh;have mS:=fun U=>bh n (j:=(shs.length:Int)) (by have:=g.pos;omega) U;obtain ⟨P,hP⟩:∃P:Int,P=10 ^ (50:Int).toNat:=⟨_,rfl⟩;have hpow:∀U:ac,kh (.v (.int 10)) (.v (.int 50)) U=some (.v (.int P),U):=fun U=>by rw [vH (by decide),hP]
 have hP0:0 < P:=by rw [hP];exact Int.pow_pos (by decide)
 clear hP;have sz5:5<=sizeLine:=by decide
 obtain ⟨ds,hc,hl,hp⟩:=o8 (f:=ao ba (ae 1) (ao br (ao cz (aN aE 2 (ad (bT (ae 2)) (ad (bT (ao cG (fK (.int 20)) (ae 0))) aj))) (fK (.int 5))) (fK (.int 5)))) (rest:=[bO 0,bB c]) (U:=[au.lst [.int 0,.int 1,.int (-1),.int (c % P),.int (0 - c % P)]]) (fun i:Nat=>D.int (i:Int)) (fun d=>∃i:Int,True/\d=D.int i) (List.range sh.w) none (fun k hk=>by have hk:=zbJ.mp hk;obtain ⟨a,ha,ha0,ha1⟩:=fw c (20+(k:Int)) (by omega);have b:=cN (a / 5) (j:=5) (by decide);obtain ⟨x,-,hx⟩:=sS [0,1,-1,c % P,0 - c % P] (a / 5 % 5) b;have hx:L2.kI [D.int 0,.int 1,.int (-1),.int (c % P),.int (0 - c % P)] (a / 5 % 5)=some (.int x):=hx;refine ⟨_,⟨x,trivial,rfl⟩,?_⟩;push_cast [ha,bU a (j:=5) (by decide) (by decide),bh (a / 5) (j:=5) (by decide),hx])
 obtain ⟨r,rfl,-⟩:=v6 D.int (fun _=>True) ds hp;have hl:r.length=sh.w:=by simpa using hl
 have z0:(List.range sh.w).length<=sizeLine:=dR (by simp;omega);have b12:=cN (n / 8) (j:=12) (by decide);have b6:=cN (n / 96) (j:=6) (by decide);have m1:∀U:ac,lR (.v (.int (n / 8 % 12 - 3))) (.v (.int s)) U=some (.v (.int ((n / 8 % 12 - 3) * s)),U):=fun U=>iH (by omega);have m2:∀U:ac,lR (.v (.int (1+n / 96 % 6))) (.v (.int s)) U=some (.v (.int ((1+n / 96 % 6) * s)),U):=fun U=>iH (by omega);have hgt:0 < (1+n / 96 % 6) * s:=Int.mul_pos (by omega) hs;obtain ⟨lw,hlw⟩:∃lw,lw=(n / 8 % 12 - 3) * s:=⟨_,rfl⟩;obtain ⟨up,hup⟩:∃up,up=lw+(1+n / 96 % 6) * s:=⟨_,rfl⟩;have ct:=hX r sh.ks;have ev:∀(b1 b2 b3:Bool),(n / 600 % 5 == 0)=b1->(n / 3000 % 5 == 0)=b2->(n / 15000 % 3 == 0)=b3 ->
   eC (eL [bB c,some (.v (.fl (shs.map cU))),bB s,none,none,none,none,none,none,none,none] [])=some (bI ⟨!b3,if b3 then r.take sh.ks else r,if b1 then none else some lw,if b2 then none else some up,sh.nm⟩):=by
  intro b1 b2 b3 e1 e2 e3;cases b1 <;> cases b2 <;> cases b3 <;> push_cast [eL,hn,zag,mS,a1,hpow,bh c (j:=P) hP0,sz5,oV (j:=(sh.w:Int)) (by omega),zbc,z0,hc,A4,zay,bU n (j:=8) (by decide) (by decide),bh (n / 8) (j:=12) (by decide),m1,bU n (j:=96) (by decide) (by decide),bh (n / 96) (j:=6) (by decide),m2,←hlw,←hup,bU n (j:=600) (by decide) (by decide),bh (n / 600) (j:=5) (by decide),bU n (j:=3000) (by decide) (by decide),bh (n / 3000) (j:=5) (by decide),bU n (j:=15000) (by decide) (by decide),bh (n / 15000) (j:=3) (by decide),e1,e2,e3,Ce,nL,ct,zar,if_false,zbv,zbB,oD] <;> rfl
 have m1':lw∈EL s:=by rw [hlw];exact B8 (by omega) (by omega)
 have m2':up∈EL s:=by rw [hup,hlw,←Int.add_mul];exact B8 (by omega) (by omega)
 have ed:∀lo hi:Option Int,(∀z,lo=some z->z∈EL s)->(∀z,hi=some z->z∈EL s)->∀z∈(st lo hi).2,z∈EL s:=fun lo hi h1 h2=>by
  cases lo <;> cases hi <;> simp [st] at h1 h2 ⊢
  ·exact h2
  ·exact h1
  ·exact ⟨h1,h2⟩
 refine ⟨_,⟨?_,ed _ _ (fun z hz=>?_) (fun z hz=>?_),hnm,sh,hsh,rfl,?_⟩,ev _ _ _ rfl rfl rfl⟩
 ·intro l u h1 h2;dsimp only at h1 h2;split at h1
  ·cases h1
  ·split at h2
   ·cases h2
   ·cases h1;cases h2;omega
 ·dsimp only at hz;split at hz
  ·cases hz
  ·cases hz;exact m1'
 ·dsimp only at hz;split at hz
  ·cases hz
  ·cases hz;exact m2'
 ·dsimp only
  cases (n / 15000 % 3 == 0)
  ·simpa using hl
  ·simp;omega
theorem wI (n:Nat)(x:Str):dk n (.str x)=PyData.strOk x:=by cases n <;> rfl
def K1 {x:Tl}(h:okN x.nm)(n:Nat):dk (n+4) (ii x)=true:=by
 have o:∀(o:Option Int) (m:Nat),dk m (oD o)=true:=fun o m=>by cases o <;> cases m <;> rfl
 refine iw (b9 ?_ (b9 (h.ok _) (b9 (iw (g7 _)) (b9 (o _ _) (b9 (o _ _) kY)))));split
 ·exact (wI _ _).trans (by decide)
 ·exact (wI _ _).trans (by decide)
def AK {xs:List Tl}(h:∀x∈xs,okN x.nm):dk 60 (.fl (xs.map ii))=true:=by
 have:∀xs:List Tl,(∀x∈xs,okN x.nm)->okDs 59 (xs.map ii)=true:=by
  intro xs;induction xs with
  |nil=>intro _;rfl
  |cons x xs ih=>intro h;exact b9 (K1 (h x zao) 55) (ih fun y hy=>h y (zan _ hy))
 exact FD (this xs h)
theorem Ci (c s:Int){xs:List Tl}(hx:∀x∈xs,okN x.nm):∃d t:Int,cZ [.int c,.int 7,.fl (xs.map ii),.int s]=some (.tup [.int d,.int t]):=by
 rw [uI];obtain ⟨n,hn,hn0,hn1⟩:=fw c (7+41) (by decide);have b16:=cN (n / 70) (j:=16) (by decide);have m1:∀U:ac,lR (.v (.int (n / 70 % 16 - 4))) (.v (.int s)) U=some (.v (.int ((n / 70 % 16 - 4) * s)),U):=fun U=>iH (by omega);have md3:=fun U=>bh n (j:=(xs.length:Int)+3) (by omega) U;have okx:=AK hx;have ok0:dk 60 (.fl [])=true:=rfl;by_cases hT:xs=[]
 ·have e0:iT (.fl (xs.map ii)) (.fl [])=true:=by rw [hT];rfl
  push_cast [gl,hn,zag,md3,bU n (j:=70) (by decide) (by decide),bh (n / 70) (j:=16) (by decide),m1,bU n (j:=7000) (by decide) (by decide),bh (n / 7000) (j:=2) (by decide),okx,ok0,e0,zbv];exact ⟨_,_,rfl⟩
 ·have e0:iT (.fl (xs.map ii)) (.fl [])=false:=by
   cases xs with
   |nil=>exact absurd rfl hT
   |cons e T=>rfl
  cases q:(n / 14000 % 2 == 0) with
  |false =>
   push_cast [gl,hn,zag,md3,bU n (j:=70) (by decide) (by decide),bh (n / 70) (j:=16) (by decide),m1,bU n (j:=7000) (by decide) (by decide),bh (n / 7000) (j:=2) (by decide),okx,ok0,e0,zbB,bU n (j:=14000) (by decide) (by decide),bh (n / 14000) (j:=2) (by decide),q];exact ⟨_,_,rfl⟩
  |true =>
   have hpos:=zck.mpr hT;obtain ⟨x,hxm,a1⟩:=wE ii xs (n / 28000) hpos;have mT:=fun U=>bh (n / 28000) (j:=(xs.length:Int)) (by omega) U;obtain ⟨es,hes⟩:∃es:Th,es=x.lo.toList++x.hi.toList:=⟨_,rfl⟩;have cu:lu [D.str (if x.tl=true then "tell" else "strike"),.str x.nm,.tup (x.said.map .int),oD x.lo,oD x.hi] (some 3) none=[oD x.lo,oD x.hi]:=rfl
   have hc:∀U:ac,cg (bZ 0) (fB (iV (mG true .non) (ae 0))) (ae 0) [oD x.lo,oD x.hi] [none] U=some (es.map .int,U):=fun U=>by
    rw [hes];cases x.lo <;> cases x.hi <;> rfl
   have oke:dk 60 (.fl (es.map .int))=true:=FD (g7 _)
   have fin:∀(es:Th) (t d:Int) (x7:R) (k:Nat) (U:ac),dk 60 (.fl (es.map .int))=true->U[k]?=some (.lst (es.map .int))->∃d' U',(eW (fB (ao (gQ true) (ae 7) (cx aj))) (aD 6 (ao kR (ao ba (ae 7) (fK (.int 0))) (ao br (ao cz (ae 4) (fK (.int 2000000))) (fK (.int 2))))) aM)
     [bB c,bB 7,some (.v (.fl (xs.map ii))),bB s,bB n,bB t,bB d,bO k] U=some (.nx [bB c,bB 7,some (.v (.fl (xs.map ii))),bB s,bB n,bB t,bB d',bO k] U'):=by
    intro es t d x7 k U oke hk
    have hk':(U++[au.lst []])[k]?=some (.lst (es.map .int)):=by rw [zai (dg hk)];exact hk
    cases es with
    |nil =>
     have e1:iT (.fl []) (.fl [])=true:=rfl;refine ⟨d,U++[au.lst []],?_⟩;push_cast [hk',xW,oke,ok0,e1,zbv]
    |cons i es =>
     have e1:iT (.fl ((i::es).map .int)) (.fl [])=false:=rfl;refine ⟨i - n / 2000000 % 2,U++[au.lst []],?_⟩;rw [zaf] at hk' oke e1;push_cast [hk',xW,oke,ok0,e1,zbB,bU n (j:=2000000) (by decide) (by decide),bh (n / 2000000) (j:=2) (by decide)]
   generalize hL:(eW (fB (ao (gQ true) (ae 7) (cx aj))) (aD 6 (ao kR (ao ba (ae 7) (fK (.int 0))) (ao br (ao cz (ae 4) (fK (.int 2000000))) (fK (.int 2))))) aM)=L at fin;obtain ⟨d',U',hf⟩:=fin es (n % ((xs.length:Int)+3) - 1) ((n / 70 % 16 - 4) * s - n / 7000 % 2) (.p 1) 1 [au.lst [],au.lst (es.map .int)] oke rfl;refine ⟨d',n % ((xs.length:Int)+3) - 1,?_⟩;rw [gl,hL];push_cast [hn,zag,md3,bU n (j:=70) (by decide) (by decide),bh (n / 70) (j:=16) (by decide),m1,bU n (j:=7000) (by decide) (by decide),bh (n / 7000) (j:=2) (by decide),okx,ok0,e0,zbB,bU n (j:=14000) (by decide) (by decide),bh (n / 14000) (j:=2) (by decide),q,bU n (j:=28000) (by decide) (by decide),mT,a1,cu,hc,hf]
def Dz (r:Rc)(n:Int)(hl:r.2.length<=100):g9 [rD r,.int n]=some (.bl (xY r n)):=by
 rw [xt];have z:(r.2.map D.int).length<=sizeLine:=dR (by rw [zag];omega);have cm:cg (bZ 0) (fB (ao FH (ae 0) (ae 1))) (ae 0) (r.2.map .int) [none,bB n] []=some ((r.2.filter fun e=>decide (e<=n)).map .int,[]) :=
  jr (c:=fB (ao FH (ae 0) (ae 1))) (f:=ae 0) (U:=[]) (rest:=[bB n]) D.int D.int (fun e=>decide (e<=n)) r.2 none (fun e _=>by push_cast [HW.Fg]) (fun e _ _=>by push_cast [HW.Fg])
 have e2:(((uB r n:Int) % 2) == 0)=decide (uB r n % 2=0):=by
  by_cases c:uB r n % 2=0
  ·rw [zaF c];simp;omega
  ·rw [zaw c];simp;omega
 have hcn:((r.2.filter fun e=>decide (e<=n)).map D.int).length=uB r n:=by rw [zag];rfl
 unfold xY;by_cases c:uB r n % 2=0
 ·rw [zaF c] at e2;rw [if_pos c];push_cast [jM,rD,z,cm,za9,zbp,hcn,bh (uB r n:Int) (j:=2) (by decide),e2]
 ·rw [zaw c] at e2;rw [if_neg c];push_cast [jM,rD,z,cm,za9,zbp,hcn,bh (uB r n:Int) (j:=2) (by decide),e2]
def Cc (nm:Str)(key:Th)(d:Int)(x:Tl):Bool:=x.nm == nm && (decide (x.said.take key.length=key) && Jl x.lo x.hi d)
def xb (a b:Th):iT (.tup (a.map .int)) (.tup (b.map .int))=decide (a=b):=by simp only [iT];exact l9 a b
def nv (a:Th):dk 60 (.tup (a.map .int))=true:=iw (g7 a)
theorem fH (a b:Str):iT (.str a) (.str b)=(a == b):=rfl
theorem vQ {x:Tl}(ho:x.Ok)(hn:okN x.nm){nm:Str}(hm:okN nm)(key:Th)(d:Int):eA [ii x,.str nm,.tup (key.map .int),.int d]=some (.bl (Cc nm key d x)):=by
 rw [xv];have se:=nS ho;have h2:(st x.lo x.hi).2.length<=100:=by cases x.lo <;> cases x.hi <;> simp [st]
 have li:=Dz (st x.lo x.hi) d h2;rw [show xY (st x.lo x.hi) d=Jl x.lo x.hi d from (wO _ _ d (Kg ho)).trans (HZ ho d)] at li;have ct:=hX x.said key.length;have o1:=hn.ok 60;have o2:=hm.ok 60;have e3:=xb (x.said.take key.length) key;have ok1:=nv (x.said.take key.length);have ok2:=nv key;unfold Cc;have ix4:∀U:ac,ba (.v (ii x)) (.v (.int 4)) U=some (.v (oD x.hi),U):=fun U=>rfl;have ix3:∀U:ac,ba (.v (ii x)) (.v (.int 3)) U=some (.v (oD x.lo),U):=fun U=>rfl;have ix2:∀U:ac,ba (.v (ii x)) (.v (.int 2)) U=some (.v (.tup (x.said.map .int)),U):=fun U=>rfl;have ix1:∀U:ac,ba (.v (ii x)) (.v (.int 1)) U=some (.v (.str x.nm),U):=fun U=>rfl
 cases c1:(x.nm == nm) with
 |false=>push_cast [ic,ix1,o1,o2,fH,c1,zbB,zbL]
 |true =>
  cases c2:decide (x.said.take key.length=key) with
  |false =>
   rw [c2] at e3;push_cast [ic,ix1,ix2,o1,o2,fH,c1,zbv,zag,ct,ok1,ok2,e3,zbB,zbH,zbL]
  |true =>
   rw [c2] at e3;push_cast [ic,ix1,ix2,ix3,ix4,o1,o2,fH,c1,zbv,zag,ct,ok1,ok2,e3,zbH,se,li]
theorem A1 (x:Tl)(d:Int):ji [ii x,.int d]=some (.bl (Jl x.lo x.hi d)):=by
 rw [yZ];have ix4:∀U:ac,ba (.v (ii x)) (.v (.int 4)) U=some (.v (oD x.hi),U):=fun U=>rfl;have ix3:∀U:ac,ba (.v (ii x)) (.v (.int 3)) U=some (.v (oD x.lo),U):=fun U=>rfl;have i0:∀U:ac,mG false .non (.v .non) U=some (.v (.bl true),U):=fun U=>rfl;have i1:∀(i:Int) (U:ac),mG false .non (.v (.int i)) U=some (.v (.bl false),U):=fun i U=>rfl;unfold Jl
 cases hl:x.lo with
 |none =>
  rw [hl] at ix3
  cases hh:x.hi with
  |none=>rw [hh] at ix4;push_cast [gm,ix3,ix4,oD,i0]
  |some h=>rw [hh] at ix4;push_cast [gm,ix3,ix4,oD,i1,zbH]
 |some l =>
  rw [hl] at ix3;by_cases c:d < l
  ·have c':decide (d < l)=true:=zaF c;have c2:decide (l<=d)=false:=zaw (by omega);push_cast [gm,ix3,oD,c',c2,zbL]
  ·have c':decide (d < l)=false:=zaw c;have c2:decide (l<=d)=true:=zaF (by omega)
   cases hh:x.hi with
   |none=>rw [hh] at ix4;push_cast [gm,ix3,ix4,oD,i0,c',c2]
   |some h=>rw [hh] at ix4;push_cast [gm,ix3,ix4,oD,i1,c',c2,zbH]
def yC (h:Nat->Bool):Nat->Option Nat
 |0=>none
 |n+1=>if h n=true then some (n+1) else yC h n
def lq:Option Nat->D
 |none=>.non
 |some n=>.int (n:Int)
def hits (nm:Str)(key:Th)(d:Int)(xs:List Tl)(i:Nat):Bool:=match xs[i]? with|some x=>Cc nm key d x|none=>false
def i4 (t:Int)(n:Nat):Nat:=min t.toNat n
section
variable {xs:List Tl}
def ya (hx:∀x∈xs,okN x.nm){nm:Str}(hm:okN nm)(key:Th)(d t:Int)(hl:xs.length<=100):dI [.fl (xs.map ii),.str nm,.tup (key.map .int),.int d,.int t]=some (lq (yC (hits nm key d xs) (i4 t xs.length))):=by
 rw [xu];have hmx:∀U:ac,AV [.v (.int 0),.v (.int t)] U=some (.v (.int (max 0 t)),U):=fun U=>by
  show some (R.v (.int (if t > 0 then t else 0)),U)=_
  congr 4;split <;> omega
 have hmn:∀U:ac,mX [.v (.int (max 0 t)),.v (.int (xs.length:Int))] U=some (.v (.int (i4 t xs.length:Int)),U):=fun U=>by
  show some (R.v (.int (if (xs.length:Int) < max 0 t then (xs.length:Int) else max 0 t)),U)=_
  congr 4;unfold i4;split <;> omega
 have hu:i4 t xs.length<=xs.length:=zcV _ _;obtain ⟨O',U',e,x6,x7,rfl,rfl⟩:=oF (g:=bZ 6) (b:=dL) (O:=[some (.v (.fl (xs.map ii))),some (.v (.str nm)),some (.v (.tup (key.map .int))),bB d,bB t,some (.v .non),none,none]) (U:=[]) (i4 t xs.length)
  (fun i O U=>∃(x6 x7:Option R),O=[some (.v (.fl (xs.map ii))),some (.v (.str nm)),some (.v (.tup (key.map .int))),bB d,bB t,some (.v (lq (yC (hits nm key d xs) i))),x6,x7]/\U=[])
  ⟨none,none,rfl,rfl⟩ (by
   rintro i hi O U ⟨x6,x7,rfl,rfl⟩;have hil:i < xs.length:=(by omega);have hg:xs[i]?=some xs[i]:=zap hil;have a1:=ph (f:=ii) hg;have hn:=hx _ (zbs hil);generalize xs[i]=x at hg a1 hn;have hh:hits nm key d xs i=Cc nm key d x:=(by unfold hits;rw [hg]);have ct:=hX x.said key.length;have o1:=hn.ok 60;have o2:=hm.ok 60;have e3:=xb (x.said.take key.length) key;have ok1:=nv (x.said.take key.length);have ok2:=nv key;have li:=A1 x d;refine ⟨[some (.v (.fl (xs.map ii))),some (.v (.str nm)),some (.v (.tup (key.map .int))),bB d,bB t,some (.v (lq (yC (hits nm key d xs) (i+1)))),bB ((i:Int)),some (.v (ii x))],[],?_,bB ((i:Int)),some (.v (ii x)),rfl,rfl⟩;rw [show yC (hits nm key d xs) (i+1)=if hits nm key d xs i=true then some (i+1) else yC (hits nm key d xs) i from rfl,hh];unfold Cc
   cases c1:(x.nm == nm) with
   |false=>push_cast [dL,a1,o1,o2,fH,c1,zbL,zar,if_false]
   |true =>
    cases c2:decide (x.said.take key.length=key) with
    |false =>
     rw [c2] at e3;push_cast [dL,a1,o1,o2,fH,c1,zbH,zbL,zar,if_false,zag,ct,ok1,ok2,e3]
    |true =>
     rw [c2] at e3
     cases c3:Jl x.lo x.hi d with
     |false =>
      rw [c3] at li;push_cast [dL,a1,o1,o2,fH,c1,zbH,zar,if_false,zag,ct,ok1,ok2,e3,li]
     |true =>
      rw [c3] at li;push_cast [dL,a1,o1,o2,fH,c1,zbH,zag,ct,ok1,ok2,e3,li,lq];rfl)
 push_cast [mh,hmx,zag,hmn,oV (j:=(i4 t xs.length:Int)) (by omega),zbc];rw [e];push_cast [HW.Fg]
end
section
variable {O:Lo}{U:ac}{n:Nat}
def ul (o:Option au)(c f:Str)(U:ac):Option (R×ac):=match o with|some (.ob c' fs)=>if c'=c then (fs.lookup f).bind fun d=>some (d,U) else none|_=>none
def zm (o:Option (R×ac))(c f:Str):Option (R×ac):=o.bind fun o=>match o.1 with|.p n=>ul o.2[n]? c f o.2|_=>none
theorem jU {c f:Str}{fo:FE}:eD c f fo O U=zm (fo O U) c f:=by
 unfold eD zm;refine congrArg _ (funext fun o=>?_);unfold va
 cases o.1 with
 |p n =>
  dsimp only
  cases e:o.2[n]? with
  |none=>rfl
  |some c' =>
   cases c' with
   |ob c' fs =>
    show (if c'=c then some fs else none).bind _=if c'=c then _ else none
    split <;> rfl
   |_=>rfl
 |_=>rfl
theorem gL {c f:Str}:zm (some (.p n,U)) c f=ul U[n]? c f U:=rfl
abbrev yQ (a b c:Nat):List (Str×R):=[("shape_list",.p a),("tellings",.p b),("tables_now",.p c)]
def PX:(("tellings" : Str) == "shape_list")=false:=by decide
def PV:(("tables_now" : Str) == "shape_list")=false:=by decide
def PU:(("tables_now" : Str) == "tellings")=false:=by decide
def Oz {a b c:Nat}:ul (some (.ob "Book" (yQ a b c))) "Book" "shape_list" U=some (.p a,U):=by simp [ul,za5]
def LY {a b c:Nat}:ul (some (.ob "Book" (yQ a b c))) "Book" "tellings" U=some (.p b,U):=by simp [ul,za5,PX]
def PD {a b c:Nat}:ul (some (.ob "Book" (yQ a b c))) "Book" "tables_now" U=some (.p c,U):=by simp [ul,za5,PV,PU]
def o0 {nm:Str}{w:MW}{fo:FE}{fa:FA}{rs:List R}{U1:ac}{a b c s:Nat}(ho:fo O U=some (.p s,U))(hs:U[s]?=some (.ob "Book" (yQ a b c)))(h1:(nm == "shape_list")=false)(h2:(nm == "tellings")=false)(h3:(nm == "tables_now")=false)(ha:fa O U=some (rs,U1))(hl:rs.length+1=n):jp "Book" nm w n fo fa O U=w (.p s::rs) U1:=by simp [jp,ho,va,hs,za5,h1,h2,h3,ha,hl]
def JS (o:Option (List R×ac))(f:MW)(n:Nat):Option (R×ac):=o.bind fun a=>if a.1.length=n then f a.1 a.2 else none
theorem Ch {f:MW}{fa:FA}:gf f n fa O U=JS (fa O U) f n:=rfl
theorem v5 {f:MW}{rs:List R}:JS (some (rs,U)) f n=if rs.length=n then f rs U else none:=rfl
end
def lH {a b:FS}{O O1:Lo}{U U1:ac}(ha:a O U=some (.nx O1 U1)):az a b O U=b O1 U1:=by rw [kB,ha,gF]
theorem rh {shs:List Sh}(g:GS shs){s t:Sh}(hs:s∈shs)(ht:t∈shs)(e:s.nm=t.nm):s=t:=by obtain ⟨i,hi,rfl⟩:=zbo hs;obtain ⟨j,hj,rfl⟩:=zbo ht;have:i=j:=(zbK (xs:=shs.map (·.nm)) (h₀:=by simpa using hi) (h₁:=by simpa using hj) g.nd).mp (by simpa using e);subst this;rfl
def nX {shs:List Sh}(g:GS shs){s:Sh}(hs:s∈shs):bR [.fl (shs.map cU),.str s.nm]=some (cU s):=by
 rw [uH];have key:∀(l:List Sh) (x2:Option R),(∀t∈l,t∈shs)->s∈l->dl (bZ 2) dZ (l.map cU) [some (.v (.fl (shs.map cU))),some (.v (.str s.nm)),x2] []=some (.rt (.v (cU s)) []):=by
  intro l;induction l with
  |nil=>intro _ _ h;cases h
  |cons t l ih =>
   intro x2 hl hm;have o1:=(g.ok t (hl t zao)).2.ok 60;have o2:=(g.ok s hs).2.ok 60;rw [zaf,hG]
   cases c:(t.nm == s.nm) with
   |true =>
    have:=rh g (hl t zao) hs (by simpa using c);subst this;push_cast [dZ,o1,fH,c]
   |false =>
    have hm:s∈l:=(zaj.mp hm).resolve_left fun e=>(by rw [e] at c;simp at c);have e:dZ [some (.v (.fl (shs.map cU))),some (.v (.str s.nm)),some (.v (cU t))] []=some (.nx [some (.v (.fl (shs.map cU))),some (.v (.str s.nm)),some (.v (cU t))] []):=by push_cast [dZ,o1,o2,fH,c]
    simp only [rn,t5,qQ,qP];rw [e,pZ];exact ih _ (fun t ht=>hl t (zan _ ht)) hm
 have k:=key shs none (fun _ h=>h) hs;push_cast [kF];rw [k];push_cast [HW.Fg]
def nH (key:Th){k:Nat}(h:key.length=k):bK [.tup (key.map .int),.int (k:Int)]=some .non:=by
 rw [pr];have e:((key.length:Int) == (k:Int))=true:=by rw [h];exact zcZ _
 push_cast [gR,zag,e,zbv]
theorem rK {lo hi:Option Int}(h:∀l r,lo=some l->hi=some r->l < r):cD [oD lo,oD hi]=some .non:=by
 rw [mU]
 cases lo with
 |none=>cases hi <;> rfl
 |some l =>
  cases hi with
  |none=>rfl
  |some r =>
   have:=h l r rfl rfl;have hz:decide (r<=l)=false:=zaw (by omega);push_cast [fg,oD,hz]
def JV (x:Tl):bM [ii x]=some (.bl x.tl):=by
 rw [pK];obtain ⟨b,s,lo,hi,nm⟩:=x;cases b
 ·push_cast [fQ,zar,if_false,k5,k6,q6]
 ·push_cast [fQ,if_true,k5,q5]
theorem BR {sc:Int}{shs:List Sh}(g:GS shs){x:Tl}(h:GT sc shs x):bi [.fl (shs.map cU),ii x]=some .non:=by
 rw [mR];obtain ⟨s,hs,hn,hl⟩:=h.sh;have se:=nX g hs;rw [hn] at se;have ix4:∀U:ac,ba (.v (ii x)) (.v (.int 4)) U=some (.v (oD x.hi),U):=fun U=>rfl;have ix3:∀U:ac,ba (.v (ii x)) (.v (.int 3)) U=some (.v (oD x.lo),U):=fun U=>rfl;have ix2:∀U:ac,ba (.v (ii x)) (.v (.int 2)) U=some (.v (.tup (x.said.map .int)),U):=fun U=>rfl;have ix1:∀U:ac,ba (.v (ii x)) (.v (.int 1)) U=some (.v (.str x.nm),U):=fun U=>rfl;have te:=JV x;have ch:=rK h.ok;have fl:cF (cU s)=true:=rfl
 cases ht:x.tl with
 |true =>
  rw [ht] at te hl;have w:=nH x.said hl;rw [if_pos rfl] at w;push_cast [dw,ix1,ix2,ix3,ix4,se,fl,te,w,ch]
 |false =>
  rw [ht] at te hl;have w:=nH x.said hl;rw [if_neg (by simp)] at w;push_cast [dw,ix1,ix2,ix3,ix4,se,fl,te,w,ch]
open L2
structure Bk (U:ac)(s a b c:Nat)(shs:List Sh)(xs:List Tl)(kv:List (aI×D)):Prop where
 ob:U[s]?=some (.ob "Book" (yQ a b c))
 sl:U[a]?=some (.lst (shs.map cU))
 tl:U[b]?=some (.lst (xs.map bI))
 tb:U[c]?=some (.dct kv)
 ab:a≠b
section
variable {U:ac}{s a b c:Nat}{shs:List Sh}{xs:List Tl}{kv:List (aI×D)}{sc:Int}
def Bk.app (h:Bk U s a b c shs xs kv)(cs:List au):Bk (U++cs) s a b c shs xs kv:=by
 have f:∀{i:Nat} {x:au},U[i]?=some x->(U++cs)[i]?=some x:=fun {i x} e=>by rw [zai (dg e)];exact e
 exact ⟨f h.ob,f h.sl,f h.tl,f h.tb,h.ab⟩
def uF (x:Tl):fu (bI x)=ii x:=by
 obtain ⟨t,s,lo,hi,nm⟩:=x;have o:∀o:Option Int,fu (oD o)=oD o:=fun o=>by cases o <;> simp only [oD,fu]
 cases t
 ·simp only [bI,ii,bY,zar,if_false,fu,unkDs,fR,o]
 ·simp only [bI,ii,bY,if_true,fu,unkDs,fR,o]
theorem ng:∀xs:List Tl,unkDs (xs.map bI)=xs.map ii
 |[]=>by simp only [za8,unkDs]
 |x::xs=>by rw [zaf,unkDs,uF,ng xs];rfl
def Ga (s:Sh):fu (cU s)=cU s:=by simp only [cU,fu,unkDs]
theorem v7:∀l:List Sh,unkDs (l.map cU)=l.map cU
 |[]=>by simp only [za8,unkDs]
 |s::l=>by rw [zaf,unkDs,Ga,v7 l]
def u1 (n:Nat):(List.range (n+1)).map (fun k=>D.int (((n+1:Nat):Int)+(k:Nat) * (-1)))=.int ((n+1:Nat):Int)::(List.range n).map (fun k=>D.int ((n:Int)+(k:Nat) * (-1))):=by
 rw [List.range_succ_eq_map,zaf,zby];refine congr (congrArg List.cons ?_) (List.map_congr_left fun k _=>?_)
 ·simp
 ·show D.int (((n+1:Nat):Int)+((k+1:Nat):Int) * (-1))=_
  congr 1;omega
theorem ue (h:Bk U s a b c shs xs kv)(hx:∀x∈xs,GT sc shs x){nm:Str}(hm:okN nm)(key:Th)(d t:Int):∀(n:Nat) (x5:Option R),n<=xs.length->∃y5,dl (bZ 5) bN ((List.range n).map fun k=>D.int ((n:Int)+(k:Nat) * (-1))) [bO s,some (.v (.str nm)),some (.v (.tup (key.map .int))),bB d,bB t,x5] U =
  match yC (hits nm key d xs) n with
  |some m=>some (.rt (.v (.int (m:Int))) U)
  |none=>some (.nx [bO s,some (.v (.str nm)),some (.v (.tup (key.map .int))),bB d,bB t,y5] U)
 |0,x5,_=>⟨x5,rfl⟩
 |n+1,x5,hn=>by
  have hg:xs[n]?=some xs[n]:=zap (by omega);have gx:=hx _ (zbs (show n < xs.length by omega));have a1:=ph (f:=bI) hg;generalize xs[n]=x at hg gx a1
  have hh:hits nm key d xs n=Cc nm key d x:=by unfold hits;rw [hg]
  have de:=vQ gx.ok gx.nm hm key d
  have uk':uk eA [bI x,.str nm,.tup (key.map .int),.int d]=some (.bl (Cc nm key d x)):=by
   have e:unkDs [bI x,.str nm,.tup (key.map .int),.int d]=[ii x,.str nm,.tup (key.map .int),.int d]:=by
    rw [unkDs,uF];simp only [unkDs,fu,fR]
   exact (congrArg eA e).trans de
  have sb:((n+1:Nat):Int) - 1=(n:Int):=by omega
  have bo:∀x5:Option R,bN [bO s,some (.v (.str nm)),some (.v (.tup (key.map .int))),bB d,bB t,bB (((n+1:Nat):Int))] U=if Cc nm key d x=true then some (.rt (.v (.int ((n+1:Nat):Int))) U) else some (.nx [bO s,some (.v (.str nm)),some (.v (.tup (key.map .int))),bB d,bB t,bB (((n+1:Nat):Int))] U):=fun _=>by
   cases q:Cc nm key d x with
   |true =>
    rw [q] at uk';push_cast [bN,jU,gL,h.ob,LY,h.tl,sb,a1,uk']
   |false =>
    rw [q] at uk';push_cast [bN,jU,gL,h.ob,LY,h.tl,sb,a1,uk',zar,if_false]
  rw [u1,show yC (hits nm key d xs) (n+1)=if hits nm key d xs n=true then some (n+1) else yC (hits nm key d xs) n from rfl,hh];obtain ⟨y5,ih⟩:=ue h hx hm key d t n (some (.v (.int ((n+1:Nat):Int)))) (by omega);rw [hG];simp only [rn,t5,qQ,qP];rw [bo none]
  cases q:Cc nm key d x with
  |true =>
   refine ⟨none,?_⟩;simp only [if_true,K6]
  |false =>
   refine ⟨y5,?_⟩;simp only [zar,if_false,pZ];exact ih
theorem vR (g:GS shs)(h:Bk U s a b c shs xs kv)(hx:∀x∈xs,GT sc shs x){sh:Sh}(hs:sh∈shs)(key:Th)(hk:key.length=sh.ks)(d t:Int):bP [.p s,.v (.str sh.nm),.v (.tup (key.map .int)),.v (.int d),.v (.int t)] U=some (.v (lq (yC (hits sh.nm key d xs) (i4 t xs.length))),U):=by
 rw [nN];have se:=nX g hs;have fl:cF (cU sh)=true:=rfl;have wi:=nH key hk;have mn:∀U:ac,mX [.v (.int t),.v (.int (xs.length:Int))] U=some (.v (.int (if (xs.length:Int) < t then (xs.length:Int) else t)),U):=fun U=>rfl;obtain ⟨i,hi⟩:∃i:Int,i=if (xs.length:Int) < t then (xs.length:Int) else t:=⟨_,rfl⟩
 have hu:i4 t xs.length=i.toNat:=by rw [hi];unfold i4;split <;> omega
 have sn:gw i 0 (-1)=i.toNat:=by unfold gw Builtin.Range.rangeSize;simp only [show (-(-1:Int))=1 from rfl,Int.ediv_one];split <;> (try split) <;> omega
 have fr:∀(O:Lo) (U':ac),yx (dN mX (ad (ae 4) (ad (dN eR (ad (eD "Book" "tellings" (ae 0)) aj)) aj))) (fK (.int 0)) (iV lP (fK (.int 1))) O U'=(dN mX (ad (ae 4) (ad (dN eR (ad (eD "Book" "tellings" (ae 0)) aj)) aj)) O U').bind fun a=>match a.1 with|.v (.int i)=>some ((List.range (gw i 0 (-1))).map fun n=>.int (i+(n:Nat) * (-1)),a.2)|_=>none:=fun O U'=>by
  unfold yx
  cases dN mX (ad (ae 4) (ad (dN eR (ad (eD "Book" "tellings" (ae 0)) aj)) aj)) O U' with
  |none=>rfl
  |some r =>
   obtain ⟨r,U2⟩:=r
   cases r with
   |v d=>cases d <;> rfl
   |_=>rfl
 have lst:(List.range (gw i 0 (-1))).map (fun n=>D.int (i+(n:Nat) * (-1)))=(List.range (i4 t xs.length)).map fun k=>D.int ((i4 t xs.length:Int)+(k:Nat) * (-1)):=by
  rw [sn,hu];by_cases c:0<=i
  ·rw [show ((i.toNat:Nat):Int)=i from zcl c]
  ·rw [show i.toNat=0 by omega];rfl
 obtain ⟨y5,lo⟩:=ue h hx ((g.ok sh hs).2) key d t (i4 t xs.length) none (zcV _ _);have mi:(dN mX (ad (ae 4) (ad (dN eR (ad (eD "Book" "tellings" (ae 0)) aj)) aj))) [bO s,some (.v (.str sh.nm)),some (.v (.tup (key.map .int))),bB d,bB t,none] U=some (.v (.int i),U):=by rw [hi];push_cast [jU,gL,h.ob,LY,h.tl,zag,mn]
 have r3:(yx (dN mX (ad (ae 4) (ad (dN eR (ad (eD "Book" "tellings" (ae 0)) aj)) aj))) (fK (.int 0)) (iV lP (fK (.int 1)))) [bO s,some (.v (.str sh.nm)),some (.v (.tup (key.map .int))),bB d,bB t,none] U=some ((List.range (i4 t xs.length)).map fun k=>D.int ((i4 t xs.length:Int)+(k:Nat) * (-1)),U):=by rw [fr,mi,zay,←lst]
 have fo:=lo;rw [←nE (g:=bZ 5) (b:=bN),←r3,←rq] at fo;have s1:cP (aN bK 2 (ad (bT (ae 2)) (ad (bT (ao ba (dC bR 2 (ad (eD "Book" "shape_list" (ae 0)) (ad (ae 1) aj))) (fK (.int 1)))) aj))) [bO s,some (.v (.str sh.nm)),some (.v (.tup (key.map .int))),bB d,bB t,none] U=some (.nx [bO s,some (.v (.str sh.nm)),some (.v (.tup (key.map .int))),bB d,bB t,none] U):=by push_cast [jU,gL,h.ob,Oz,h.sl,se,fl,wi]
 rw [gp,lH s1,kB,fo]
 cases yC (hits sh.nm key d xs) (i4 t xs.length) with
 |none=>push_cast [HW.Fg];rfl
 |some m=>rfl
end
def ED (shs:List Sh)(nm:Str)(key:Th):Prop:=∃s∈shs,s.nm=nm/\key.length=s.ks
section
variable {U:ac}{shs:List Sh}{xs:List Tl}{sc:Int}
theorem yR (g:GS shs){x:Tl}(gx:GT sc shs x){y0 y1 y2 y3 y4 y5 y7 y8 y12 y13 y14 y15:Option R}:∀(l:List Sh),(∀t∈l,t∈shs)->∀(nm:Str) (key:Th) (x11:Option R),ED shs nm key->∃nm' key' x11',ED shs nm' key' /\
  dl (bZ 11) bX (l.map cU) [y0,y1,y2,y3,y4,y5,some (.v (.str nm)),y7,y8,some (.v (.tup (key.map .int))),some (.v (bI x)),x11,y12,y13,y14,y15] U=some (.nx [y0,y1,y2,y3,y4,y5,some (.v (.str nm')),y7,y8,some (.v (.tup (key'.map .int))),some (.v (bI x)),x11',y12,y13,y14,y15] U):=by
 intro l
 induction l with
 |nil=>intro _ nm key x11 h;exact ⟨nm,key,x11,h,rfl⟩
 |cons t l ih =>
  intro hl nm key x11 h;have ht:=hl t zao;have hl':∀t∈l,t∈shs:=fun t ht=>hl t (zan _ ht);have ix1:∀U:ac,ba (.v (bI x)) (.v (.int 1)) U=some (.v (.str x.nm),U):=fun U=>rfl;have ix2:∀U:ac,ba (.v (bI x)) (.v (.int 2)) U=some (.v (bY x),U):=fun U=>rfl;have o1:=(g.ok t ht).2.ok 60;have o2:=gx.nm.ok 60
  have ek:∀U:ac,oZ false (.v (.str t.nm)) (.v (.str x.nm)) U=some (.v (.bl (t.nm == x.nm)),U):=fun U=>by
   show ((if (dk 60 (.str t.nm) && dk 60 (.str x.nm))=true then some (R.v (.bl (t.nm == x.nm)),mQ U) else none).bind fun r=>some (r.1,U))=_
   rw [o1,o2];rfl
  have ct:=hX x.said t.ks;have us:=qr x;rw [zaf,hG];simp only [rn,t5,qQ,qP]
  cases q:(t.nm == x.nm) with
  |true =>
   rw [q] at ek
   have qe:t.nm=x.nm:=by simpa using q
   obtain ⟨s',hs',hn',hw'⟩:=gx.sh;have:=rh g hs' ht (hn'.trans qe.symm);subst this
   have hk:(x.said.take s'.ks).length=s'.ks:=by
    have:=(g.ok s' ht).1;rw [zbU,hw'];split <;> omega
   obtain ⟨nm',key',x11',h',e⟩:=ih hl' x.nm (x.said.take s'.ks) (some (.v (cU s'))) ⟨s',ht,qe,hk⟩;refine ⟨nm',key',x11',h',?_⟩
   have bo:bX [y0,y1,y2,y3,y4,y5,some (.v (.str nm)),y7,y8,some (.v (.tup (key.map .int))),some (.v (bI x)),some (.v (cU s')),y12,y13,y14,y15] U=some (.nx [y0,y1,y2,y3,y4,y5,some (.v (.str x.nm)),y7,y8,some (.v (.tup ((x.said.take s'.ks).map .int))),some (.v (bI x)),some (.v (cU s')),y12,y13,y14,y15] U):=by
    push_cast [bX,ix1,ix2,ek,Ce,zay,us,ct]
   rw [bo,pZ];exact e
  |false =>
   rw [q] at ek;obtain ⟨nm',key',x11',h',e⟩:=ih hl' nm key (some (.v (cU t))) h;refine ⟨nm',key',x11',h',?_⟩
   have bo:bX [y0,y1,y2,y3,y4,y5,some (.v (.str nm)),y7,y8,some (.v (.tup (key.map .int))),some (.v (bI x)),some (.v (cU t)),y12,y13,y14,y15] U=some (.nx [y0,y1,y2,y3,y4,y5,some (.v (.str nm)),y7,y8,some (.v (.tup (key.map .int))),some (.v (bI x)),some (.v (cU t)),y12,y13,y14,y15] U):=by
    push_cast [bX,ix1,ek]
   rw [bo,pZ];exact e
theorem rB (i j:Int)(U:ac):oZ false (.v (.int i)) (.v (.int j)) U=some (.v (.bl (i == j)),U):=rfl
theorem D8 {k j:Nat}(hx:∀x∈xs,GT sc shs x)(h1:U[k]?=some (.lst (xs.map bI)))(h2:U[j]?=some (.lst [])):oZ true (.p k) (.p j) U=some (.v (.bl (!decide (xs=[]))),U):=by
 have v1:jV (.p k) (mQ U)=some (.fl (xs.map ii)):=by
  rw [Bv,mQ,zaB,h1]
  show some (D.fl (unkDs (xs.map bI)))=_
  rw [ng]
 have v2:jV (.p j) (mQ U)=some (.fl []):=by
  rw [Bv,mQ,zaB,h2]
  show some (D.fl (unkDs []))=_
  simp only [unkDs]
 have okx:=AK (xs:=xs) fun x h=>(hx x h).nm;have ok0:dk 60 (.fl [])=true:=rfl;have e0:iT (.fl (xs.map ii)) (.fl [])=decide (xs=[]):=by
  cases xs with
  |nil=>rfl
  |cons e T=>rfl
 unfold oZ
 show (gQ true (.p k) (.p j) (mQ U)).bind _=_
 rw [IM,v1,v2,IL,okx,ok0,e0];rfl
theorem vO (o:Option Nat)(O:Lo)(U:ac){y0 y1 y2 y3 y4 y5 y6 y7 y8 y9 y10 y11 y12 y13:Option R}:(az (eW (fB (iV (mG false .non) (ae 15)))
  (bD (iV (mG false .non) (ae 14)))
  aM)
  (bD (rk (iV (qZ "int") (ae 14)) (rk (l7 (iV (qZ "bool") (ae 14))) (ao (oZ false) (ae 14) (ae 15)))))) [y0,y1,y2,y3,y4,y5,y6,y7,y8,y9,y10,y11,y12,y13,some (.v (lq o)),some (.v (lq o))] U=some (.rt (.v (.bl true)) U):=by
 cases o with
 |none=>rfl
 |some m =>
  have i1:∀(i:Int) (U:ac),mG false .non (.v (.int i)) U=some (.v (.bl false),U):=fun i U=>rfl;have t1:∀(i:Int) (U:ac),qZ "int" (.v (.int i)) U=some (.v (.bl true),U):=fun i U=>rfl;have t2:∀(i:Int) (U:ac),qZ "bool" (.v (.int i)) U=some (.v (.bl false),U):=fun i U=>rfl;have be:((m:Int) == (m:Int))=true:=zcZ _;push_cast [lq,i1,t1,t2,rB,be]
end
section
variable {U:ac}{s a b c lt:Nat}{shs:List Sh}{xs:List Tl}{kv:List (aI×D)}{cell sc:Int}
abbrev r9 (book:R)(shs:List Sh)(lt:Nat)(cell sc n:Int)(x6 x7 x8 x9 x10 x11 x12 x13 x14 x15:Option R):Lo:=[some book,some (.v (.fl (shs.map cU))),bO lt,bB cell,bB sc,bB n,x6,x7,x8,x9,x10,x11,x12,x13,x14,x15]
def u0 (g:GS shs)(hx:∀x∈xs,GT sc shs x){book:R}{n:Int}{nm:Str}{key:Th}{x7 x8 x12 x13 x14 x15:Option R}(hl:U[lt]?=some (.lst (xs.map bI)))(h:ED shs nm key):∃nm' key' x10 x11,ED shs nm' key' /\
  (eW (fS (fB (ao (oZ true) (ae 2) (cx aj))) (fB (ao Lf (ao br (ao cz (ae 5) (fK (.int 8))) (fK (.int 3))) (fK (.int 0)))))
  (az (aD 10 (ao ba (ae 2) (ao br (ao cz (ae 5) (fK (.int 24))) (dN eR (ad (ae 2) aj)))))
  (iU (cQ (ae 1)) (bZ 11)
  bX))
  aM) (r9 book shs lt cell sc n (some (.v (.str nm))) x7 x8 (some (.v (.tup (key.map .int)))) none none x12 x13 x14 x15) U=some (.nx (r9 book shs lt cell sc n (some (.v (.str nm'))) x7 x8 (some (.v (.tup (key'.map .int)))) x10 x11 x12 x13 x14 x15) (U++[.lst []])):=by
 have hl':(U++[au.lst []])[lt]?=some (.lst (xs.map bI)):=by rw [zai (dg hl)];exact hl
 have ek:=D8 (U:=U++[au.lst []]) (k:=lt) (j:=U.length) hx hl' xW
 by_cases hT:xs=[]
 ·refine ⟨nm,key,none,none,h,?_⟩
  rw [zaF hT] at ek;push_cast [ek,zbv]
 ·have hpos:=zck.mpr hT
  rw [zaw hT] at ek
  cases q:decide (0 < n / 8 % 3) with
  |false =>
   refine ⟨nm,key,none,none,h,?_⟩;push_cast [ek,zbB,bU n (j:=8) (by decide) (by decide),bh (n / 8) (j:=3) (by decide),q]
  |true =>
   obtain ⟨x,hxm,a1⟩:=wE bI xs (n / 24) hpos;have mT:=fun U=>bh (n / 24) (j:=(xs.length:Int)) (by omega) U;obtain ⟨nm',key',x11',h',e⟩:=yR (U:=U++[au.lst []]) g (hx x hxm) (y0:=some book) (y1:=some (.v (.fl (shs.map cU)))) (y2:=some (.p lt)) (y3:=some (.v (.int cell))) (y4:=some (.v (.int sc))) (y5:=some (.v (.int n))) (y7:=x7) (y8:=x8) (y12:=x12) (y13:=x13) (y14:=x14) (y15:=x15) shs (fun _ h=>h) nm key none h;refine ⟨nm',key',some (.v (bI x)),x11',h',?_⟩;push_cast [r9,ek,zbB,bU n (j:=8) (by decide) (by decide),bh (n / 8) (j:=3) (by decide),q,hl',bU n (j:=24) (by decide) (by decide),zag,mT,a1,e]
theorem n6 (g:GS shs)(h:Bk U s a b c shs xs kv)(hx:∀x∈xs,GT sc shs x)(hn:xs.length<=100)(hl:U[lt]?=some (.lst (xs.map bI))):∃cs,bV [.p s,.v (.fl (shs.map cU)),.p lt,.v (.int cell),.v (.int sc)] U=some (.v (.bl true),U++cs):=by
 rw [rZ];obtain ⟨n,hn1,-,-⟩:=fw cell 6 (by decide);obtain ⟨sh,hsh,a1⟩:=wE cU shs n g.pos;have mS:=fun U=>bh n (j:=(shs.length:Int)) (by have:=g.pos;omega) U;have hok:=g.ok sh hsh;have O2z:4<=sizeLine:=by decide
 obtain ⟨ds,cs1,hc,hl1,hp⟩:=xg (U:=U) (f:=ao ba (cx (ad (fK (.int 0)) (ad (fK (.int 1)) (ad (iV lP (fK (.int 1))) (ad (fK (.int 2)) aj))))) (ao br (ao cz (aN aE 2 (ad (bT (ae 1)) (ad (bT (ao cG (fK (.int 30)) (ae 0))) aj))) (fK (.int 5))) (fK (.int 4)))) (rest:=[bB cell]) (fun i:Nat=>D.int (i:Int)) (fun d=>∃i:Int,True/\d=D.int i) (List.range sh.ks) none [] (fun k hk cs=>by have hk:=zbJ.mp hk;obtain ⟨z,hz,-,-⟩:=fw cell (30+(k:Int)) (by have:=hok.1;omega);have bz:=cN (z / 5) (j:=4) (by decide);obtain ⟨y,-,hy⟩:=sS [0,1,-1,2] (z / 5 % 4) bz;have hy:L2.kI [D.int 0,.int 1,.int (-1),.int 2] (z / 5 % 4)=some (.int y):=hy;refine ⟨.int y,cs++[.lst [.int 0,.int 1,.int (-1),.int 2]],⟨y,trivial,rfl⟩,?_⟩;rw [←zaW];generalize U++cs=ν;push_cast [O2z,hz,bU z (j:=5) (by decide) (by decide),bh (z / 5) (j:=4) (by decide),xW,hy])
 rw [za6] at hc;obtain ⟨key,rfl,-⟩:=v6 D.int (fun _=>True) ds hp;have hkl:key.length=sh.ks:=by simpa using hl1
 have z0:(List.range sh.ks).length<=sizeLine:=dR (by have:=hok.1;simp;omega);obtain ⟨cs2,hcs2⟩:∃cs2,cs2=cs1++[au.lst (key.map .int)]:=⟨_,rfl⟩;have hl2:(U++cs2)[lt]?=some (.lst (xs.map bI)):=by rw [zai (dg hl)];exact hl
 obtain ⟨nm',key',x10,x11,⟨sh',hsh',hnm',hkl'⟩,e4⟩:=u0 (cell:=cell) (sc:=sc) (U:=U++cs2) g hx (book:=.p s) (n:=n) (nm:=sh.nm) (key:=key) (x7:=some (.v (.int (sh.ks:Int)))) (x8:=some (.v (.int (sh.w:Int)))) (x12:=none) (x13:=none) (x14:=none) (x15:=none) hl2 ⟨sh,hsh,rfl,hkl⟩;subst hnm';obtain ⟨d,t,hw⟩:=Ci cell sc (xs:=xs) fun x h=>(hx x h).nm;have hu5:uk cZ [.int cell,.int 7,.fl (xs.map bI),.int sc]=some (.tup [.int d,.int t]):=by
  have e:unkDs [.int cell,.int 7,.fl (xs.map bI),.int sc]=[.int cell,.int 7,.fl (xs.map ii),.int sc]:=by simp only [unkDs,fu,ng]
  exact (congrArg cZ e).trans hw
 have fl2:cF (.tup [.int d,.int t])=true:=rfl;obtain ⟨cs3,hcs3⟩:∃cs3,cs3=cs2++[au.lst []]:=⟨_,rfl⟩;have hl3:(U++cs3)[lt]?=some (.lst (xs.map bI)):=by rw [zai (dg hl)];exact hl
 rw [zaW,←hcs3] at e4;obtain ⟨P,hP⟩:∃P:Int,P=10 ^ (40:Int).toNat:=⟨_,rfl⟩;have hpow:∀U:ac,kh (.v (.int 10)) (.v (.int 40)) U=some (.v (.int P),U):=fun U=>by rw [vH (by decide),hP]
 have hP0:0 < P:=by rw [hP];exact Int.pow_pos (by decide)
 clear hP;obtain ⟨t',cs4,e6⟩:∃(t':Int) (cs4:List au),(eW (fB (ao (oZ false) (ao br (ao cz (ae 5) (fK (.int 5000))) (fK (.int 4))) (fK (.int 0))))
  (aD 13 (ao ba (cx (ad (ao kR (fK (.int 0)) (ao br (ae 3) (ao kh (fK (.int 10)) (fK (.int 40))))) (ad (ao br (ae 3) (ao kh (fK (.int 10)) (fK (.int 40)))) aj))) (ao br (ao cz (ae 5) (fK (.int 20000))) (fK (.int 2)))))
  aM) (r9 (.p s) shs lt cell sc n (some (.v (.str sh'.nm))) (some (.v (.int (sh.ks:Int)))) (some (.v (.int (sh.w:Int)))) (some (.v (.tup (key'.map .int)))) x10 x11 (some (.v (.int d))) (some (.v (.int t))) none none) (U++cs3)=some (.nx (r9 (.p s) shs lt cell sc n (some (.v (.str sh'.nm))) (some (.v (.int (sh.ks:Int)))) (some (.v (.int (sh.w:Int)))) (some (.v (.tup (key'.map .int)))) x10 x11 (some (.v (.int d))) (some (.v (.int t'))) none none) (U++cs4)):=by
  cases q:(n / 5000 % 4 == 0) with
  |false=>exact ⟨t,cs3,by push_cast [bU n (j:=5000) (by decide) (by decide),bh (n / 5000) (j:=4) (by decide),rB,q]⟩
  |true =>
   obtain ⟨y,-,hy⟩:=sS [0 - cell % P,cell % P] (n / 20000 % 2) (cN (n / 20000) (j:=2) (by decide));have hy:L2.kI [D.int (0 - cell % P),.int (cell % P)] (n / 20000 % 2)=some (.int y):=hy;refine ⟨y,cs3++[.lst [.int (0 - cell % P),.int (cell % P)]],?_⟩;rw [←zaW];generalize U++cs3=ν;push_cast [bU n (j:=5000) (by decide) (by decide),bh (n / 5000) (j:=4) (by decide),rB,q,hpow,bh cell (j:=P) hP0,bU n (j:=20000) (by decide) (by decide),bh (n / 20000) (j:=2) (by decide),xW,hy]
 have hl4:(U++cs4)[lt]?=some (.lst (xs.map bI)):=by rw [zai (dg hl)];exact hl
 have h4:=h.app cs4;have hd:=vR g h4 hx hsh' key' hkl' d t';have hdu:=ya (xs:=xs) (fun x h=>(hx x h).nm) (g.ok sh' hsh').2 key' d t' hn;have hu8:uk dI [.fl (xs.map bI),.str sh'.nm,.tup (key'.map .int),.int d,.int t']=some (lq (yC (hits sh'.nm key' d xs) (i4 t' xs.length))):=by
  have e:unkDs [.fl (xs.map bI),.str sh'.nm,.tup (key'.map .int),.int d,.int t']=[.fl (xs.map ii),.str sh'.nm,.tup (key'.map .int),.int d,.int t']:=by simp only [unkDs,fu,ng,fR]
  exact (congrArg dI e).trans hdu
 generalize yC (hits sh'.nm key' d xs) (i4 t' xs.length)=o at hd hu8;have fl8:cF (lq o)=true:=by cases o <;> rfl
 refine ⟨cs4,?_⟩;have e1:aD 5 (aN aE 2 (ad (bT (ae 3)) (ad (fK (.int 6)) aj))) [bO s,some (.v (.fl (shs.map cU))),bO lt,bB cell,bB sc,none,none,none,none,none,none,none,none,none,none,none] U=some (.nx (r9 (.p s) shs lt cell sc n none none none none none none none none none none) U):=by push_cast [hn1]
 have e2:pA (ao ba (ae 1) (ao br (ae 5) (dN eR (ad (ae 1) aj)))) (uz 3 (aZ (bZ 6) (aZ (bZ 7) (aZ (bZ 8) gd)))) (r9 (.p s) shs lt cell sc n none none none none none none none none none none) U=some (.nx (r9 (.p s) shs lt cell sc n (some (.v (.str sh.nm))) (some (.v (.int (sh.ks:Int)))) (some (.v (.int (sh.w:Int)))) none none none none none none none) U):=by push_cast [zag,mS,a1]
 have e3:aD 9 (dN qw (ad (dM [3] 1 (rj (ae 7)) (bZ 0) gk (ao ba (cx (ad (fK (.int 0)) (ad (fK (.int 1)) (ad (iV lP (fK (.int 1))) (ad (fK (.int 2)) aj))))) (ao br (ao cz (aN aE 2 (ad (bT (ae 1)) (ad (bT (ao cG (fK (.int 30)) (ae 0))) aj))) (fK (.int 5))) (fK (.int 4))))) aj)) (r9 (.p s) shs lt cell sc n (some (.v (.str sh.nm))) (some (.v (.int (sh.ks:Int)))) (some (.v (.int (sh.w:Int)))) none none none none none none none) U=some (.nx (r9 (.p s) shs lt cell sc n (some (.v (.str sh.nm))) (some (.v (.int (sh.ks:Int)))) (some (.v (.int (sh.w:Int)))) (some (.v (.tup (key.map .int)))) none none none none none none) (U++cs2)):=by rw [hcs2,←zaW];generalize U++cs1=ν at hc ⊢;push_cast [oV (j:=(sh.ks:Int)) (by have:=hok.1;omega),zbc,zag,z0,hc,xW]
 have e5:pA (dC (uk cZ) 4 (ad (ae 3) (ad (fK (.int 7)) (ad (ae 2) (ad (ae 4) aj))))) (uz 2 (aZ (bZ 12) (aZ (bZ 13) gd))) (r9 (.p s) shs lt cell sc n (some (.v (.str sh'.nm))) (some (.v (.int (sh.ks:Int)))) (some (.v (.int (sh.w:Int)))) (some (.v (.tup (key'.map .int)))) x10 x11 none none none none) (U++cs3)=some (.nx (r9 (.p s) shs lt cell sc n (some (.v (.str sh'.nm))) (some (.v (.int (sh.ks:Int)))) (some (.v (.int (sh.w:Int)))) (some (.v (.tup (key'.map .int)))) x10 x11 (some (.v (.int d))) (some (.v (.int t))) none none) (U++cs3)):=by push_cast [hl3,hu5,fl2]
 have m7:=o0 (nm:="decided") (w:=bP) (n:=5) (fo:=ae 0) (fa:=ad (ae 6) (ad (ae 9) (ad (ae 12) (ad (ae 13) aj)))) (O:=r9 (.p s) shs lt cell sc n (some (.v (.str sh'.nm))) (some (.v (.int (sh.ks:Int)))) (some (.v (.int (sh.w:Int)))) (some (.v (.tup (key'.map .int)))) x10 x11 (some (.v (.int d))) (some (.v (.int t'))) none none) (U:=U++cs4) (s:=s) (rs:=[.v (.str sh'.nm),.v (.tup (key'.map .int)),.v (.int d),.v (.int t')]) (U1:=U++cs4) rfl h4.ob (by decide) (by decide) (by decide) rfl rfl;have e7:aD 14 (jp "Book" "decided" bP 5 (ae 0) (ad (ae 6) (ad (ae 9) (ad (ae 12) (ad (ae 13) aj))))) (r9 (.p s) shs lt cell sc n (some (.v (.str sh'.nm))) (some (.v (.int (sh.ks:Int)))) (some (.v (.int (sh.w:Int)))) (some (.v (.tup (key'.map .int)))) x10 x11 (some (.v (.int d))) (some (.v (.int t'))) none none) (U++cs4)=some (.nx (r9 (.p s) shs lt cell sc n (some (.v (.str sh'.nm))) (some (.v (.int (sh.ks:Int)))) (some (.v (.int (sh.w:Int)))) (some (.v (.tup (key'.map .int)))) x10 x11 (some (.v (.int d))) (some (.v (.int t'))) (some (.v (lq o))) none) (U++cs4)):=by rw [kA,m7,hd];rfl
 have e8:aD 15 (dC (uk dI) 5 (ad (ae 2) (ad (ae 6) (ad (ae 9) (ad (ae 12) (ad (ae 13) aj)))))) (r9 (.p s) shs lt cell sc n (some (.v (.str sh'.nm))) (some (.v (.int (sh.ks:Int)))) (some (.v (.int (sh.w:Int)))) (some (.v (.tup (key'.map .int)))) x10 x11 (some (.v (.int d))) (some (.v (.int t'))) (some (.v (lq o))) none) (U++cs4)=some (.nx (r9 (.p s) shs lt cell sc n (some (.v (.str sh'.nm))) (some (.v (.int (sh.ks:Int)))) (some (.v (.int (sh.w:Int)))) (some (.v (.tup (key'.map .int)))) x10 x11 (some (.v (.int d))) (some (.v (.int t'))) (some (.v (lq o))) (some (.v (lq o)))) (U++cs4)):=by push_cast [hl4,hu8,fl8]
 rw [jt,lH e1,lH e2,lH e3,lH e4,lH e5,lH e6,lH e7,lH e8,vO o []];rfl
end
theorem gE:∀a:Th,HT2.iY a a=false
 |[]=>rfl
 |x::a=>by simp [HT2.iY,gE a]
def AX {l:Ta}(h:F2 l):l.Nodup:=h.imp fun {a b} h e=>by subst e;rw [gE] at h;cases h
section
variable {ES TS:Th}{T A:List En}{x:Tl}{keys:Nat}{a:Int}
def t6 {e:En}:e∈cT x T ↔ e∈T\/(x.tl=true/\x.said∉T.map (·.1)/\e=(x.said,B4)):=by
 unfold cT;split
 ·rename_i c;rw [zaY,zav];exact or_congr Iff.rfl ⟨fun h=>⟨c.1,c.2,h⟩,fun h=>h.2.2⟩
 ·rename_i c;exact ⟨.inl,fun h=>h.resolve_right fun q=>c ⟨q.1,q.2.1⟩⟩
def Co (ho:x.Ok)(hb:∀e∈T,BP ES TS e.2)(ha:∀e∈T,∀q∈e.2.2,q.1 < a)(hA:∀e,e∈A ↔ e∈(cT x T).map (lO x keys a)/\e.2≠B4)(hs:∀z∈(st x.lo x.hi).2,z∈ES)(haT:a∈TS):∀e∈A,BP ES TS e.2/\e.2≠B4:=fun e he=>by
 obtain ⟨h1,h2⟩:=(hA e).mp he;refine ⟨?_,h2⟩;obtain ⟨y,hy,rfl⟩:=zaS.mp h1;have hy':BP ES TS y.2/\∀q∈y.2.2,q.1 < a:=by
  rcases t6.mp hy with h|⟨_,_,rfl⟩
  ·exact ⟨hb y h,ha y h⟩
  ·exact ⟨⟨⟨.nil,.nil,trivial,fun _ h=>nomatch h⟩,(fun _ h=>nomatch h),(fun _ h=>nomatch h),fun _ h=>nomatch h⟩,fun _ h=>nomatch h⟩
 unfold lO;split
 ·refine Gu hy'.1 hy'.2 (OC _ _ _) (fun z hz=>?_) haT;have:=(F1 _ _ _).subset hz;rcases ((i5 _ _).2.2 z).mp this with h|h
  ·have key:∀(g:Rc) (qs:List (Int×Rc)),(∀w∈g.2,w∈ES)->(∀q∈qs,∀w∈q.2.2,w∈ES)->∀w∈(lst g qs).2,w∈ES:=fun g qs=>by
    induction qs generalizing g with
    |nil=>exact fun h _=>h
    |cons q qs ih=>exact fun _ h2=>ih q.2 (h2 q zao) fun p hp=>h2 p (zan _ hp)
   exact key _ _ hy'.1.ge hy'.1.re z h
  ·exact hs z h
 ·exact hy'.1
end
def LZ (n:Nat):Th:=(List.range (n+1)).map fun i:Nat=>(i:Int)
def Es (n:Nat):(LZ n).length=n+1:=by simp [LZ]
def rX {n:Nat}{q:Int}:q∈LZ n ↔ 0<=q/\q<=n:=by unfold LZ;rw [zaS];exact ⟨fun h=>by obtain ⟨i,hi,rfl⟩:=h;have:=zbJ.mp hi;omega,fun h=>⟨q.toNat,zbJ.mpr (by omega),by omega⟩⟩
def BP.mono {ES TS ES' TS':Th}{p:Pl}(h:BP ES TS p)(h1:∀e∈ES,e∈ES')(h2:∀e∈TS,e∈TS'):BP ES' TS' p:=⟨h.pf,fun e he=>h1 e (h.ge e he),fun q hq e he=>h1 e (h.re q hq e he),fun q hq=>h2 _ (h.te q hq)⟩
structure mO (sc:Int)(w n:Nat)(T:List En):Prop where
 bp:∀e∈T,BP (EL sc) (LZ n) e.2
 rw:∀e∈T,e.1.length=w
 nd:(T.map (·.1)).Nodup
 ln:T.length<=n
def mO.more {sc:Int}{w n:Nat}{T:List En}(h:mO sc w n T):mO sc w (n+1) T :=
 ⟨fun e he=>(h.bp e he).mono (fun z hz=>hz) (fun z hz=>by rw [rX] at hz ⊢;omega),h.rw,h.nd,by have:=h.ln;omega⟩
def yu (bt:Bool){sc:Int}{w ks n:Nat}{T:List En}(h:mO sc w n T){x:Tl}(ho:x.Ok)(he:∀z∈(st x.lo x.hi).2,z∈EL sc)(hs:x.tl=true->x.said.length=w)(hn:n<=39) :
  ∃A:List En,eu bt [.fl (T.map d7),.int (ks:Int),bI x,.int ((n:Int)+1)]=some (.lst (A.map d7))/\mO sc w (n+1) A:=by
 obtain ⟨A,hA,hu,hm⟩:=Cn bt ho (keys:=ks) (a:=(n:Int)+1) h.bp (by rw [Jd];omega) (by rw [Es];omega) h.rw hs h.nd (by have:=h.ln;omega)
 have bp:=Co ho h.more.bp (fun e he q hq=>by
  have:=rX.mp ((h.bp e he).te q hq);omega) hm he (rX.mpr (by omega))
 have rw':∀e∈A,e.1.length=w/\e.1∈(cT x T).map (·.1):=fun e he=>by
  obtain ⟨h1,-⟩:=(hm e).mp he;obtain ⟨y,hy,rfl⟩:=zaS.mp h1;rw [oB];refine ⟨?_,za7 hy⟩;rcases t6.mp hy with h2|⟨h2,_,rfl⟩
  ·exact h.rw y h2
  ·exact hs h2
 refine ⟨A,hA,fun e he=>(bp e he).1,fun e he=>(rw' e he).1,AX hu,?_⟩
 have:=lQ (A.map (·.1)) ((cT x T).map (·.1)) (AX hu) fun z hz=>by obtain ⟨e,he,rfl⟩:=zaS.mp hz;exact (rw' e he).2
 rw [zag,zag] at this
 have el:(cT x T).length<=T.length+1:=by
  unfold cT;split
  ·simp
  ·omega
 have:=h.ln;omega
def oI (shs:List Sh)(Ts:Str->List En):List (aI×D):=shs.map fun s=>(.inr (some s.nm),.fl ((Ts s.nm).map d7))
theorem Ck {shs:List Sh}(Ts:Str->List En){s:Sh}(hs:s∈shs):lD ((oI shs Ts).map fun p=>(p.1,R.v p.2)) (.inr (some s.nm))=some (.v (.fl ((Ts s.nm).map d7))):=by
 unfold oI;induction shs with
 |nil=>cases hs
 |cons t l ih =>
  unfold lD at ih ⊢;rw [zaf,zaf];by_cases c:t.nm=s.nm
  ·rw [zb7 (by simp [c]),c];rfl
  ·rw [zb8 (by simp [c])];exact ih ((zaj.mp hs).resolve_left fun e=>c (by rw [e]))
def Hm {shs:List Sh}(Ts:Str->List En){s:Sh}(hs:s∈shs)(A:List En):gD (oI shs Ts) (.inr (some s.nm)) (.fl (A.map d7))=oI shs fun nm=>if nm=s.nm then A else Ts nm:=by
 have h1:((oI shs Ts).any fun kv=>decide (kv.1=.inr (some s.nm)))=true:=zcB.mpr ⟨_,za7 hs,by simp⟩;unfold gD;rw [if_pos h1];unfold oI;rw [zby];refine List.map_congr_left fun t _=>?_;simp only [Function.comp];by_cases c:t.nm=s.nm
 ·rw [if_pos (by rw [c]),if_pos c]
 ·rw [if_neg (by simpa using c),if_neg c]
section
variable {U:ac}{s a b c:Nat}{shs:List Sh}{xs:List Tl}{sc:Int}
theorem Cq (bt:Bool)(g:GS shs){Ts:Str->List En}(h:Bk U s a b c shs xs (oI shs Ts)){x:Tl}(gx:GT sc shs x)(hT:∀s∈shs,mO sc s.w xs.length (Ts s.nm))(hn:xs.length<=39) :
  ∃(r:D) (U':ac) (Ts':Str->List En),bH bt [.p s,.v (bI x)] U=some (.v r,U')/\Bk U' s a b c shs (xs++[x]) (oI shs Ts')/\(∀s∈shs,mO sc s.w (xs.length+1) (Ts' s.nm))/\∀i y,i≠b->i≠c->U[i]?=some y->U'[i]?=some y:=by
 obtain ⟨sh,hsh,hnm,hwd⟩:=gx.sh;obtain ⟨A,hA,gA⟩:=yu bt (ks:=sh.ks) (hT sh hsh) gx.ok gx.ed (fun e=>by rw [hwd,if_pos e]) hn
 have hsb:s≠b:=fun e=>by have h1:=h.ob;rw [e,h.tl] at h1;cases h1
 have hsc:s≠c:=fun e=>by have h1:=h.ob;rw [e,h.tb] at h1;cases h1
 have hac:a≠c:=fun e=>by have h1:=h.sl;rw [e,h.tb] at h1;cases h1
 have hbc:b≠c:=fun e=>by have h1:=h.tl;rw [e,h.tb] at h1;cases h1
 have lb:=dg h.tl;have lc:=dg h.tb;obtain ⟨ν,hν⟩:∃ν,ν=U.set b (.lst ((xs++[x]).map bI)):=⟨_,rfl⟩
 have n1:ν[s]?=some (.ob "Book" (yQ a b c)):=by rw [hν,zax (Ne.symm hsb)];exact h.ob
 have n2:ν[a]?=some (.lst (shs.map cU)):=by rw [hν,zax (Ne.symm h.ab)];exact h.sl
 have n3:ν[b]?=some (.lst ((xs++[x]).map bI)):=by rw [hν,zaR lb]
 have n4:ν[c]?=some (.dct (oI shs Ts)):=by rw [hν,zax hbc];exact h.tb
 have len:ν.length=U.length:=by rw [hν];simp
 refine ⟨.int ((xs.length:Int)+1),(ν++[au.fz (A.map d7)]).set c (.dct (oI shs fun nm=>if nm=sh.nm then A else Ts nm)),fun nm=>if nm=sh.nm then A else Ts nm,?_,?_,?_,?_⟩
 ·rw [sg]
  have ix1:∀U:ac,ba (.v (bI x)) (.v (.int 1)) U=some (.v (.str x.nm),U):=fun U=>rfl
  have ck:uk bi [.fl (shs.map cU),bI x]=some .non:=by
   have e:unkDs [.fl (shs.map cU),bI x]=[.fl (shs.map cU),ii x]:=by
    rw [unkDs,unkDs,uF];simp only [unkDs,fu,v7]
   exact (congrArg bi e).trans (BR g gx)
  have se:=nX g hsh;rw [hnm] at se;have fl:cF (cU sh)=true:=rfl;have fln:cF .non=true:=rfl
  have e1:cP (dC (uk bi) 2 (ad (eD "Book" "shape_list" (ae 0)) (ad (ae 1) aj))) [bO s,some (.v (bI x)),none,none,none] U=some (.nx [bO s,some (.v (bI x)),none,none,none] U):=by
   push_cast [jU,gL,h.ob,Oz,h.sl,ck,fln]
  have e2:aD 2 (ao ba (ae 1) (fK (.int 1))) [bO s,some (.v (bI x)),none,none,none] U=some (.nx [bO s,some (.v (bI x)),some (.v (.str x.nm)),none,none] U):=by
   push_cast [ix1]
  have e3:aD 3 (ao ba (dC bR 2 (ad (eD "Book" "shape_list" (ae 0)) (ad (ae 2) aj))) (fK (.int 1))) [bO s,some (.v (bI x)),some (.v (.str x.nm)),none,none] U=some (.nx [bO s,some (.v (bI x)),some (.v (.str x.nm)),bB ((sh.ks:Int)),none] U):=by
   push_cast [jU,gL,h.ob,Oz,h.sl,se,fl]
  have zl:(xs.map bI).length < sizeLine:=jb (by rw [zag];omega)
  have e4:cP (yz jR (eD "Book" "tellings" (ae 0)) (ad (ae 1) aj)) [bO s,some (.v (bI x)),some (.v (.str x.nm)),bB ((sh.ks:Int)),none] U=some (.nx [bO s,some (.v (bI x)),some (.v (.str x.nm)),bB ((sh.ks:Int)),none] ν):=by
   rw [hν,zaT];push_cast [jU,gL,h.ob,LY,h.tl,zl]
  have ln1:(((xs++[x]).map bI).length:Int)=(xs.length:Int)+1:=by simp
  have e5:aD 4 (dN eR (ad (eD "Book" "tellings" (ae 0)) aj)) [bO s,some (.v (bI x)),some (.v (.str x.nm)),bB ((sh.ks:Int)),none] ν=some (.nx [bO s,some (.v (bI x)),some (.v (.str x.nm)),bB ((sh.ks:Int)),bB (((xs.length:Int)+1))] ν):=by
   push_cast [jU,gL,n1,LY,n3,ln1]
  have vr:=Ck Ts hsh;rw [hnm] at vr
  have kv1:tE (.p c) ν=some ((oI shs Ts).map fun p=>(p.1,R.v p.2)):=by rw [M7,n4];rfl
  have kf:jX (.v (.str x.nm))=some (.inr (some x.nm)):=rfl
  have fx:yA (eD "Book" "tables_now" (ae 0)) (ae 2) [bO s,some (.v (bI x)),some (.v (.str x.nm)),bB ((sh.ks:Int)),bB (((xs.length:Int)+1))] ν=some (.v (.fl ((Ts sh.nm).map d7)),ν):=by
   have:eD "Book" "tables_now" (ae 0) [bO s,some (.v (bI x)),some (.v (.str x.nm)),bB ((sh.ks:Int)),bB (((xs.length:Int)+1))] ν=some (.p c,ν):=by push_cast [jU,gL,n1,PD]
   rw [M8,this,Jp]
   show zn (.p c) (some (.v (.str x.nm),ν))=_
   rw [Jo,kv1]
   show (lD _ (.inr (some x.nm))).bind _=_
   rw [vr,hnm];rfl
  have flA:=oR A
  have cA:(ν++[au.fz (A.map d7)])[s]?=some (.ob "Book" (yQ a b c)):=by rw [zai (dg n1)];exact n1
  have cB:(ν++[au.fz (A.map d7)])[c]?=some (.dct (oI shs Ts)):=by rw [zai (dg n4)];exact n4
  have zk:(oI shs Ts).length < sizeLine:=jb (by unfold oI;rw [zag];have:=g.le;omega);have pk:=Hm Ts hsh A;rw [hnm] at pk;have st1:(ν++[au.lst (A.map d7)]).set ν.length (.fz (A.map d7))=ν++[au.fz (A.map d7)]:=jc;rw [hnm] at fx
  have e6:pA (bT (kz (eu bt) 4 (ad (yA (eD "Book" "tables_now" (ae 0)) (ae 2)) (ad (ae 3) (ad (ae 1) (ad (ae 4) aj)))))) (rg (eD "Book" "tables_now" (ae 0)) (ae 2)) [bO s,some (.v (bI x)),some (.v (.str x.nm)),bB ((sh.ks:Int)),bB (((xs.length:Int)+1))] ν=some (.nx [bO s,some (.v (bI x)),some (.v (.str x.nm)),bB ((sh.ks:Int)),bB (((xs.length:Int)+1))] ((ν++[au.fz (A.map d7)]).set c (.dct (oI shs fun nm=>if nm=sh.nm then A else Ts nm)))):=by
   rw [hnm] at hA;push_cast [fx,hA,flA,xW,st1,jU,gL,cA,PD,cB,zk,kf,pk,hnm]
  rw [jw,lH e1,lH e2,lH e3,lH e4,lH e5,lH e6];rfl
 ·have lcν:c < (ν++[au.fz (A.map d7)]).length:=by rw [zaM,len];omega
  have f:∀{i:Nat} {y:au},i≠c->ν[i]?=some y->((ν++[au.fz (A.map d7)]).set c (.dct (oI shs fun nm=>if nm=sh.nm then A else Ts nm)))[i]?=some y:=fun {i y} hi e=>by
   rw [zax (Ne.symm hi),zai (dg e)];exact e
  exact ⟨f hsc n1,f hac n2,f hbc n3,zaR lcν,h.ab⟩
 ·intro t ht
  dsimp only
  by_cases e:t.nm=sh.nm
  ·rw [if_pos e,rh g ht hsh e];exact gA
  ·rw [if_neg e];exact (hT t ht).more
 ·intro i y hb hc e
  have:ν[i]?=some y:=by rw [hν,zax (Ne.symm hb)];exact e
  rw [zax (Ne.symm hc),zai (dg this)];exact this
end
def Ed (ns:Th)(k:Nat):∃c,cp [.fl (ns.map .int),.int (k:Int)]=some (.int c):=by
 rw [uK];by_cases h:k < ns.length
 ·have c0:decide ((k:Int) < (ns.length:Int))=true:=zaF (by omega);have c1:L2.kI (ns.map D.int) (k:Int)=some (.int ns[k]):=ph (zap h);exact ⟨ns[k],by push_cast [iN,zag,c0,c1]⟩
 ·have c0:decide ((k:Int) < (ns.length:Int))=false:=zaw (by omega);exact ⟨0,by push_cast [iN,zag,c0]⟩
theorem qf (x0:Option R)(U:ac):∀(l:List Sh) (x0:Option R) (U:ac),cg (bZ 0) gk (c7 (ad (ao ba (ae 0) (fK (.int 0))) (ad (bT (cx aj)) aj))) (l.map cU) [x0] U=some (l.map fun s=>.tup [.str s.nm,.fl []],U++List.replicate l.length (au.fz []))
 |[],x0,U=>by simp only [za8,zbp,List.replicate_zero,za6];rfl
 |s::l,x0,U=>by
  have h1:(c7 (ad (ao ba (ae 0) (fK (.int 0))) (ad (bT (cx aj)) aj))) [some (.v (cU s))] U=some (.v (.tup [.str s.nm,.fl []]),U++[au.fz []]):=by have st1:(U++[au.lst []]).set U.length (.fz [])=U++[au.fz []]:=jc;push_cast [xW,st1]
  have ih:=qf x0 U l (some (.v (cU s))) (U++[au.fz []]);simp only [zaf,cg,bZ,zb4,zay,gk,if_true,h1,ih];simp [List.replicate_succ]
theorem sW:∀l:List Sh,lM (l.map fun s=>.tup [.str s.nm,.fl []])=some (l.map fun s=>(.inr (some s.nm),.fl []))
 |[]=>rfl
 |s::l=>by rw [zaf,lM,sW l];rfl
theorem wz:∀(l:List Sh) (k0:List (aI×D)),(k0.map (·.1)++l.map fun s=>(.inr (some s.nm):aI)).Nodup->aR k0 (l.map fun s=>((.inr (some s.nm):aI),D.fl []))=k0++l.map fun s=>(.inr (some s.nm),D.fl [])
 |[],k0,_=>by simp [aR]
 |s::l,k0,nd=>by
  have hn:¬ (k0.any fun p=>decide (p.1=.inr (some s.nm)))=true:=fun z=>by obtain ⟨p,hp,h⟩:=zcB.mp z;have h:p.1=.inr (some s.nm):=(by simpa using h);exact (zbd.mp nd).2.2 p.1 (za7 hp) _ (by simp) h
  show aR (gD k0 (.inr (some s.nm)) (.fl [])) (l.map _)=_
  unfold gD;rw [if_neg hn,wz l _ (by simpa using nd)];simp
theorem DL {shs:List Sh}(g:GS shs)(L0:au):∃c cs,cb [.p 1,.v (.fl (shs.map cU))] [L0,.ob "Book" []]=some (.v .non,[L0,.ob "Book" (yQ 2 3 c),.lst (shs.map cU),.lst []]++cs)/\([L0,.ob "Book" (yQ 2 3 c),.lst (shs.map cU),.lst []]++cs)[c]?=some (.dct (oI shs fun _=>[])):=by
 have e1:kU "Book" "shape_list" (ae 0) (dN tz (ad (ae 1) aj)) [bO 1,some (.v (.fl (shs.map cU)))] [L0,.ob "Book" []]=some (.nx [bO 1,some (.v (.fl (shs.map cU)))] [L0,.ob "Book" [("shape_list",.p 2)],.lst (shs.map cU)]):=rfl;have e2:kU "Book" "tellings" (ae 0) (cx aj) [bO 1,some (.v (.fl (shs.map cU)))] [L0,.ob "Book" [("shape_list",.p 2)],.lst (shs.map cU)]=some (.nx [bO 1,some (.v (.fl (shs.map cU)))] [L0,.ob "Book" [("shape_list",.p 2),("tellings",.p 3)],.lst (shs.map cU),.lst []]):=by rfl
 obtain ⟨ν,hν⟩:∃ν:ac,ν=[L0,.ob "Book" [("shape_list",.p 2),("tellings",.p 3)],.lst (shs.map cU),.lst []]:=⟨_,rfl⟩;have cr:=qf none [] shs none ν;have z0:shs.length<=sizeLine:=dR (by have:=g.le;omega);obtain ⟨cs,hcs⟩:∃cs:List au,cs=List.replicate shs.length (au.fz [])++[.lst (shs.map fun s=>.tup [.str s.nm,.fl []])]:=⟨_,rfl⟩;have nd:(([]:List (aI×D)).map (·.1)++shs.map fun s=>(.inr (some s.nm):aI)).Nodup:=by
  have:(shs.map fun s=>(.inr (some s.nm):aI))=(shs.map (·.nm)).map fun n=>.inr (some n):=by rw [zby];rfl
  rw [za8,za9,this];exact List.Pairwise.map _ (fun a b h e=>h (by simpa using e)) g.nd
 have pu:=wz shs [] nd;rw [za9] at pu;have dS:mJ [.p (ν++List.replicate shs.length (au.fz [])).length] (ν++cs)=some (.p (ν++cs).length,ν++cs++[.dct (oI shs fun _=>[])]):=by unfold mJ;rw [hcs,←zaW];dsimp only;rw [vg];dsimp only;rw [sW,zay,pu];rfl
 have ev:dN mJ (ad (dM [] 1 (cQ (ae 1)) (bZ 0) gk (c7 (ad (ao ba (ae 0) (fK (.int 0))) (ad (bT (cx aj)) aj)))) aj) [bO 1,some (.v (.fl (shs.map cU)))] ν=some (.p (ν++cs).length,ν++cs++[.dct (oI shs fun _=>[])]):=by
  have:dM [] 1 (cQ (ae 1)) (bZ 0) gk (c7 (ad (ao ba (ae 0) (fK (.int 0))) (ad (bT (cx aj)) aj))) [bO 1,some (.v (.fl (shs.map cU)))] ν=some (.p (ν++List.replicate shs.length (au.fz [])).length,ν++cs):=by rw [hcs,←zaW];push_cast [zag,z0,cr]
  rw [w6,iI,this,gh,kC,gg,rA,dS]
 refine ⟨(ν++cs).length,cs++[.dct (oI shs fun _=>[])],?_,?_⟩
 ·rw [si];have e3:kU "Book" "tables_now" (ae 0) (dN mJ (ad (dM [] 1 (cQ (ae 1)) (bZ 0) gk (c7 (ad (ao ba (ae 0) (fK (.int 0))) (ad (bT (cx aj)) aj)))) aj)) [bO 1,some (.v (.fl (shs.map cU)))] ν=some (.nx [bO 1,some (.v (.fl (shs.map cU)))] ([L0,.ob "Book" (yQ 2 3 (ν++cs).length),.lst (shs.map cU),.lst []]++(cs++[.dct (oI shs fun _=>[])]))):=by unfold kU;rw [ev];subst hν;rfl
  rw [jx,lH e1,lH e2,←hν,e3];rfl
 ·rw [←zaW];have:([L0,.ob "Book" (yQ 2 3 (ν++cs).length),.lst (shs.map cU),.lst []]++cs).length=(ν++cs).length:=by rw [zaM,zaM,hν];rfl
  rw [←this];exact vg
section
variable {U U':ac}{s a b c:Nat}{r:D}
theorem B0 (bt:Bool){x:Tl}(hs:U[s]?=some (.ob "Book" (yQ a b c)))(h:bH bt [.p s,.v (bI x)] U=some (.v r,U')):dE bt [.p s,.v (bI x)] U=some (.v r,U'):=by
 rw [r6];obtain ⟨tl,said,lo,hi,nm⟩:=x;have sz5:5<=sizeLine:=by decide
 have ix4:∀U:ac,ba (.v (bI ⟨tl,said,lo,hi,nm⟩)) (.v (.int 4)) U=some (.v (oD hi),U):=fun U=>rfl;have ix3:∀U:ac,ba (.v (bI ⟨tl,said,lo,hi,nm⟩)) (.v (.int 3)) U=some (.v (oD lo),U):=fun U=>rfl;have ix2:∀U:ac,ba (.v (bI ⟨tl,said,lo,hi,nm⟩)) (.v (.int 2)) U=some (.v (bY ⟨tl,said,lo,hi,nm⟩),U):=fun U=>rfl;have ix1:∀U:ac,ba (.v (bI ⟨tl,said,lo,hi,nm⟩)) (.v (.int 1)) U=some (.v (.str nm),U):=fun U=>rfl;have fa:(ad (ao ba (ae 1) (fK (.int 1))) (ad (ao ba (ae 1) (fK (.int 2))) (ad (ao ba (ae 1) (fK (.int 3))) (ad (ao ba (ae 1) (fK (.int 4))) aj)))) [bO s,some (.v (bI ⟨tl,said,lo,hi,nm⟩))] U=some ([.v (.str nm),.v (bY ⟨tl,said,lo,hi,nm⟩),.v (oD lo),.v (oD hi)],U):=by push_cast [ix1,ix2,ix3,ix4]
 cases tl with
 |true =>
  have m1:=o0 (nm:="tell") (w:=dF bt) (n:=5) (fo:=ae 0) (O:=[bO s,some (.v (bI ⟨true,said,lo,hi,nm⟩))]) (s:=s) rfl hs (by decide) (by decide) (by decide) fa rfl;have m2:=o0 (nm:="take") (w:=bH bt) (n:=2) (fo:=ae 0) (fa:=ad (c7 (ad (fK (.str "tell")) (ad (ae 1) (ad (ae 2) (ad (ae 3) (ad (ae 4) aj)))))) aj) (O:=[bO s,some (.v (.str nm)),some (.v (bY ⟨true,said,lo,hi,nm⟩)),some (.v (oD lo)),some (.v (oD hi))]) (U:=U) (U1:=U) (s:=s) (rs:=[.v (bI ⟨true,said,lo,hi,nm⟩)]) rfl hs (by decide) (by decide) (by decide) (by push_cast [sz5];rfl) rfl;have w1:dF bt [.p s,.v (.str nm),.v (bY ⟨true,said,lo,hi,nm⟩),.v (oD lo),.v (oD hi)] U=some (.v r,U'):=by rw [sf,ju,vG,m2,h];rfl
  have ix0:∀U:ac,ba (.v (bI ⟨true,said,lo,hi,nm⟩)) (.v (.int 0)) U=some (.v (.str "tell"),U):=fun U=>rfl;rw [gK];push_cast [ix0,k5,q5];rw [m1,w1];rfl
 |false =>
  have m1:=o0 (nm:="strike") (w:=cI bt) (n:=5) (fo:=ae 0) (O:=[bO s,some (.v (bI ⟨false,said,lo,hi,nm⟩))]) (s:=s) rfl hs (by decide) (by decide) (by decide) fa rfl;have m2:=o0 (nm:="take") (w:=bH bt) (n:=2) (fo:=ae 0) (fa:=ad (c7 (ad (fK (.str "strike")) (ad (ae 1) (ad (ae 2) (ad (ae 3) (ad (ae 4) aj)))))) aj) (O:=[bO s,some (.v (.str nm)),some (.v (bY ⟨false,said,lo,hi,nm⟩)),some (.v (oD lo)),some (.v (oD hi))]) (U:=U) (U1:=U) (s:=s) (rs:=[.v (bI ⟨false,said,lo,hi,nm⟩)]) rfl hs (by decide) (by decide) (by decide) (by push_cast [sz5];rfl) rfl;have w1:cI bt [.p s,.v (.str nm),.v (bY ⟨false,said,lo,hi,nm⟩),.v (oD lo),.v (oD hi)] U=some (.v r,U'):=by rw [pv,gS,vG,m2,h];rfl
  have ix0:∀U:ac,ba (.v (bI ⟨false,said,lo,hi,nm⟩)) (.v (.int 0)) U=some (.v (.str "strike"),U):=fun U=>rfl;rw [gK];push_cast [ix0,k5,k6,q6];rw [m1,w1];rfl
end
abbrev r7 (ns:Th)(shs:List Sh)(sc:Int)(lt:Nat)(x5 x6:Option R):Lo:=[some (.v (.fl (ns.map .int))),some (.v (.fl (shs.map cU))),bB sc,bO 1,bO lt,x5,x6]
structure mq (sc:Int)(shs:List Sh)(c lt:Nat)(U:ac)(xs:List Tl)(Ts:Str->List En):Prop where
 bk:Bk U 1 2 3 c shs xs (oI shs Ts)
 lw:U[lt]?=some (.lst (xs.map bI))
 gt:∀x∈xs,GT sc shs x
 ok:∀s∈shs,mO sc s.w xs.length (Ts s.nm)
section
variable {shs:List Sh}{c lt:Nat}{U:ac}{xs:List Tl}{Ts:Str->List En}{ns:Th}{sc:Int}
def mq.app (h:mq sc shs c lt U xs Ts)(cs:List au):mq sc shs c lt (U++cs) xs Ts :=
 ⟨h.bk.app cs,by rw [zai (dg h.lw)];exact h.lw,h.gt,h.ok⟩
def yc (bt:Bool)(g:GS shs)(hs:0 < sc)(hl:lt≠1/\lt≠2/\lt≠3/\lt≠c)(h:mq sc shs c lt U xs Ts)(hn:xs.length<=39)(cell:Int)(x6:Option R):∃x U' Ts',jJ bt (r7 ns shs sc lt (some (.v (.int cell))) x6) U=some (.nx (r7 ns shs sc lt (some (.v (.int cell))) (some (.v (bI x)))) U')/\mq sc shs c lt U' (xs++[x]) Ts':=by
 obtain ⟨x,gx,ht⟩:=uP cell sc hs g;obtain ⟨cs1,e1⟩:=n6 (cell:=cell) (sc:=sc) g h.bk h.gt (by omega) h.lw;have h1:=h.app cs1;obtain ⟨r,U2,Ts',e2,b2,t2,k2⟩:=Cq bt g h1.bk gx h.ok hn;have e2:=B0 bt h1.bk.ob e2;have l2:=k2 lt _ hl.2.2.1 hl.2.2.2 h1.lw;have zl:(xs.map bI).length < sizeLine:=jb (by rw [zag];omega);obtain ⟨U3,hU3⟩:∃U3,U3=U2.set lt (.lst ((xs++[x]).map bI)):=⟨_,rfl⟩;have f:∀{i:Nat} {y:au},lt≠i->U2[i]?=some y->U3[i]?=some y:=fun {i y} hi e=>by rw [hU3,zax hi];exact e
 have h3:mq sc shs c lt U3 (xs++[x]) Ts':=⟨⟨f hl.1 b2.ob,f hl.2.1 b2.sl,f hl.2.2.1 b2.tl,f hl.2.2.2 b2.tb,b2.ab⟩,by rw [hU3,zaR (dg l2)],fun y hy=>by
  rcases zaY.mp hy with hy|hy
  ·exact h.gt y hy
  ·rw [zav.mp hy];exact gx,by rw [zaM];exact t2⟩
 obtain ⟨cs4,e4⟩:=n6 (cell:=cell / 2+1) (sc:=sc) g h3.bk h3.gt (by simp;omega) h3.lw;refine ⟨x,U3++cs4,Ts',?_,h3.app cs4⟩;have s1:aD 6 (aN cJ 3 (ad (bT (ae 5)) (ad (bT (ae 1)) (ad (bT (ae 2)) aj)))) (r7 ns shs sc lt (some (.v (.int cell))) x6) U=some (.nx (r7 ns shs sc lt (some (.v (.int cell))) (some (.v (bI x)))) U):=by push_cast [ht]
 have s2:eW (mw (iW (gf bV 5 (ad (ae 3) (ad (ae 1) (ad (ae 4) (ad (ae 5) (ad (ae 2) aj)))))))) (bD (fK (.bl false))) aM (r7 ns shs sc lt (some (.v (.int cell))) (some (.v (bI x)))) U=some (.nx (r7 ns shs sc lt (some (.v (.int cell))) (some (.v (bI x)))) (U++cs1)):=by push_cast [Ch,v5,e1]
 have s3:cP (gf (dE bt) 2 (ad (ae 3) (ad (ae 6) aj))) (r7 ns shs sc lt (some (.v (.int cell))) (some (.v (bI x)))) (U++cs1)=some (.nx (r7 ns shs sc lt (some (.v (.int cell))) (some (.v (bI x)))) U2):=by push_cast [Ch,v5,e2]
 have s4:cP (yz jR (ae 4) (ad (ae 6) aj)) (r7 ns shs sc lt (some (.v (.int cell))) (some (.v (bI x)))) U2=some (.nx (r7 ns shs sc lt (some (.v (.int cell))) (some (.v (bI x)))) U3):=by rw [hU3,zaT];push_cast [l2,zl]
 have s5:eW (mw (iW (gf bV 5 (ad (ae 3) (ad (ae 1) (ad (ae 4) (ad (ao cG (ao cz (ae 5) (fK (.int 2))) (fK (.int 1))) (ad (ae 2) aj)))))))) (bD (fK (.bl false))) aM (r7 ns shs sc lt (some (.v (.int cell))) (some (.v (bI x)))) U3=some (.nx (r7 ns shs sc lt (some (.v (.int cell))) (some (.v (bI x)))) (U3++cs4)):=by push_cast [bU cell (j:=2) (by decide) (by decide),Ch,v5,e4]
 rw [jJ,lH s1,lH s2,lH s3,lH s4,s5]
def yb (bt:Bool)(g:GS shs)(h:mq sc shs c lt U xs Ts)(hn:xs.length<=40)(cell:Int)(x6:Option R):∃U',jI bt (r7 ns shs sc lt (some (.v (.int cell))) x6) U=some (.nx (r7 ns shs sc lt (some (.v (.int cell))) x6) U')/\mq sc shs c lt U' xs Ts:=by obtain ⟨cs1,e1⟩:=n6 (cell:=cell+5) (sc:=sc) g h.bk h.gt (by omega) h.lw;refine ⟨U++cs1,?_,h.app cs1⟩;push_cast [jI,r7,Ch,v5,e1]
end
theorem A2 (bt:Bool)(ns:Th)(hl:ns.length<=63):tu bt [.fl (ns.map .int)]=some (.bl true):=by
 rw [Jx];obtain ⟨c0,hc0⟩:=Ed ns 0;have hc0:cp [.fl (ns.map .int),.int 0]=some (.int c0):=hc0;obtain ⟨shs,g,hsh⟩:=xB c0;obtain ⟨P,hP⟩:∃P:Int,P=10 ^ (40:Int).toNat:=⟨_,rfl⟩;have hpow:∀U:ac,kh (.v (.int 10)) (.v (.int 40)) U=some (.v (.int P),U):=fun U=>by rw [vH (by decide),hP]
 have hP0:0 < P:=by rw [hP];exact Int.pow_pos (by decide)
 clear hP;obtain ⟨sc,hsm,hsc⟩:=sS [1,1,P] (c0 % 3) (cN c0 (j:=3) (by decide));have hs0:0 < sc:=by
  rcases zaj.mp hsm with rfl|h
  ·decide
  ·rcases zaj.mp h with rfl|h
   ·decide
   ·rw [zav.mp h];exact hP0
 have hsc:L2.kI [D.int 1,.int 1,.int P] (c0 % 3)=some (.int sc):=hsc;obtain ⟨c,cs,hi,hd⟩:=DL g (.lst [.int 1,.int 1,.int P]);obtain ⟨U0,hU0⟩:∃U0:ac,U0=[.lst [.int 1,.int 1,.int P],.ob "Book" (yQ 2 3 c),.lst (shs.map cU),.lst []]++cs:=⟨_,rfl⟩;rw [←hU0] at hi hd;have l0:4<=U0.length:=by rw [hU0];simp
 have b0:Bk U0 1 2 3 c shs [] (oI shs fun _=>[]):=⟨by rw [hU0];rfl,by rw [hU0];rfl,by rw [hU0];rfl,hd,by decide⟩;have lc:=dg hd;have g0:mq sc shs c U0.length (U0++[.lst []]) [] fun _=>[]:=⟨b0.app _,vg,(fun _ h=>nomatch h),fun s _=>⟨(fun _ h=>nomatch h),(fun _ h=>nomatch h),.nil,zal _⟩⟩;have hlt:U0.length≠1/\U0.length≠2/\U0.length≠3/\U0.length≠c:=by omega
 have cut:∀k:Nat,lu (ns.map D.int) none (some (k:Int))=(ns.take k).map .int:=fun k=>hX ns k;have cut40:lu (ns.map D.int) none (some 40)=(ns.take 40).map .int:=cut 40;have cut63:lu (ns.map D.int) none (some 63)=(ns.take 63).map .int:=cut 63;obtain ⟨⟨xs,U1,Ts,x5,x6⟩,e1,h1,hx1⟩:=k7 (g:=bZ 5) (b:=jJ bt) D.int
  (fun s:List Tl×ac×(Str->List En)×Option R×Option R=>(r7 ns shs sc U0.length s.2.2.2.1 s.2.2.2.2,s.2.1))
  (fun s rem=>mq sc shs c U0.length s.2.1 s.1 s.2.2.1/\s.1.length+rem.length<=40) (ns.take 40) ([],U0++[.lst []]++[.fz ((ns.take 40).map .int)],fun _=>[],none,none) ⟨g0.app _,by simp;omega⟩ (by rintro ⟨xs,U,Ts,x5,x6⟩ cell rem ⟨h,hn⟩;have hn:xs.length+(rem.length+1)<=40:=hn;have h:mq sc shs c U0.length U xs Ts:=h;obtain ⟨x,U',Ts',e,h'⟩:=yc (ns:=ns) bt g hs0 hlt h (by omega) cell x6;refine ⟨(xs++[x],U',Ts',bB cell,some (.v (bI x))),?_,h',by simp;omega⟩;have hg:bZ 5 (.v (D.int cell)) (r7 ns shs sc U0.length x5 x6) U=some (r7 ns shs sc U0.length (some (.v (.int cell))) x6,U):=rfl;rw [hg,t5];exact e)
 have h1:mq sc shs c U0.length U1 xs Ts:=h1;have hx1:xs.length<=40:=hx1;have e1:dl (bZ 5) (jJ bt) ((ns.take 40).map .int) (r7 ns shs sc U0.length none none) (U0++[.lst []]++[.fz ((ns.take 40).map .int)])=some (.nx (r7 ns shs sc U0.length x5 x6) U1):=e1;obtain ⟨⟨U2,y5⟩,e2,h2⟩:=k7 (g:=bZ 5) (b:=jI bt) D.int
  (fun s:ac×Option R=>(r7 ns shs sc U0.length s.2 x6,s.1))
  (fun s rem=>mq sc shs c U0.length s.1 xs Ts) (0::ns.take 63) (U1++[.lst [.int 0],.lst ((ns.take 63).map .int),.fz ((0::ns.take 63).map .int)],x5) (h1.app _) (by rintro ⟨U,x5⟩ cell rem h;obtain ⟨U',e,h'⟩:=yb (ns:=ns) (sc:=sc) bt g h hx1 cell x6;refine ⟨(U',some (.v (.int cell))),?_,h'⟩;have hg:bZ 5 (.v (D.int cell)) (r7 ns shs sc U0.length x5 x6) U=some (r7 ns shs sc U0.length (some (.v (.int cell))) x6,U):=rfl;rw [hg,t5];exact e)
 have e2:dl (bZ 5) (jI bt) ((0::ns.take 63).map .int) (r7 ns shs sc U0.length x5 x6) (U1++[.lst [.int 0],.lst ((ns.take 63).map .int),.fz ((0::ns.take 63).map .int)])=some (.nx (r7 ns shs sc U0.length y5 x6) U2):=e2;have s1:aD 1 (aN c9 1 (ad (bT (aN cp 2 (ad (bT (ae 0)) (ad (fK (.int 0)) aj)))) aj)) [some (.v (.fl (ns.map .int))),none,none,none,none,none,none] []=some (.nx [some (.v (.fl (ns.map .int))),some (.v (.fl (shs.map cU))),none,none,none,none,none] []):=by push_cast [hc0,hsh]
 have s2:aD 2 (ao ba (cx (ad (fK (.int 1)) (ad (fK (.int 1)) (ad (ao kh (fK (.int 10)) (fK (.int 40))) aj)))) (ao br (aN cp 2 (ad (bT (ae 0)) (ad (fK (.int 0)) aj))) (fK (.int 3)))) [some (.v (.fl (ns.map .int))),some (.v (.fl (shs.map cU))),none,none,none,none,none] []=some (.nx [some (.v (.fl (ns.map .int))),some (.v (.fl (shs.map cU))),bB sc,none,none,none,none] [.lst [.int 1,.int 1,.int P]]):=by push_cast [hc0,hpow,bh c0 (j:=3) (by decide),hsc]
 have s3:aD 3 (l8 "Book" cb 2 (ad (ae 1) aj)) [some (.v (.fl (ns.map .int))),some (.v (.fl (shs.map cU))),bB sc,none,none,none,none] [.lst [.int 1,.int 1,.int P]]=some (.nx [some (.v (.fl (ns.map .int))),some (.v (.fl (shs.map cU))),bB sc,bO 1,none,none,none] U0):=by
  have:l8 "Book" cb 2 (ad (ae 1) aj) [some (.v (.fl (ns.map .int))),some (.v (.fl (shs.map cU))),bB sc,none,none,none,none] [.lst [.int 1,.int 1,.int P]]=(cb [.p 1,.v (.fl (shs.map cU))] [.lst [.int 1,.int 1,.int P],.ob "Book" []]).bind fun r=>match r.1 with|.v .non=>some (.p 1,r.2)|_=>none:=rfl
  rw [kA,this,hi];rfl
 have s4:aD 4 (cx aj) [some (.v (.fl (ns.map .int))),some (.v (.fl (shs.map cU))),bB sc,bO 1,none,none,none] U0=some (.nx (r7 ns shs sc U0.length none none) (U0++[.lst []])):=by push_cast [HW.Fg]
 have se1:(U0++[au.lst []]++[au.lst ((ns.take 40).map .int)]).set (U0++[au.lst []]).length (.fz ((ns.take 40).map .int))=U0++[au.lst []]++[.fz ((ns.take 40).map .int)]:=jc;have s5:iU (cQ (uA (ae 0) d8 (dU (fK (.int 40))))) (bZ 5) (jJ bt) (r7 ns shs sc U0.length none none) (U0++[.lst []])=some (.nx (r7 ns shs sc U0.length x5 x6) U1):=by
  have:cQ (uA (ae 0) d8 (dU (fK (.int 40)))) (r7 ns shs sc U0.length none none) (U0++[.lst []])=some ((ns.take 40).map .int,U0++[.lst []]++[.fz ((ns.take 40).map .int)]):=by generalize U0++[au.lst []]=ν at se1 ⊢;push_cast [cut40,xW,se1]
  rw [rq,this,nE];exact e1
 have s6:iU (cQ (ao uu (cx (ad (fK (.int 0)) aj)) (uA (ae 0) d8 (dU (fK (.int 63)))))) (bZ 5) (jI bt) (r7 ns shs sc U0.length x5 x6) U1=some (.nx (r7 ns shs sc U0.length y5 x6) U2):=by
  have g1:(U1++[au.lst [.int 0]]++[au.lst ((ns.take 63).map .int)])[U1.length]?=some (.lst [.int 0]):=by rw [zai (by simp)];exact xW
  have aF:uu (.p U1.length) (.p (U1++[au.lst [.int 0]]).length) (U1++[au.lst [.int 0]]++[au.lst ((ns.take 63).map .int)])=some (.p (U1++[au.lst [.int 0]]++[au.lst ((ns.take 63).map .int)]).length,U1++[au.lst [.int 0]]++[au.lst ((ns.take 63).map .int)]++[.lst ((0::ns.take 63).map .int)]):=by unfold uu zM;dsimp only;rw [g1,xW];dsimp only;rw [zay,zay,if_pos (dR (by simp;omega))];rfl
  have se2:(U1++[au.lst [.int 0]]++[au.lst ((ns.take 63).map .int)]++[au.lst ((0::ns.take 63).map .int)]).set (U1++[au.lst [.int 0]]++[au.lst ((ns.take 63).map .int)]).length (.fz ((0::ns.take 63).map .int))=U1++[au.lst [.int 0]]++[au.lst ((ns.take 63).map .int)]++[.fz ((0::ns.take 63).map .int)]:=jc;have this:cQ (ao uu (cx (ad (fK (.int 0)) aj)) (uA (ae 0) d8 (dU (fK (.int 63))))) (r7 ns shs sc U0.length x5 x6) U1=some ((0::ns.take 63).map .int,U1++[au.lst [.int 0]]++[au.lst ((ns.take 63).map .int)]++[.fz ((0::ns.take 63).map .int)]):=by generalize hz:(0::ns.take 63).map D.int=zs at aF se2 ⊢;push_cast [Kb,cut63,aF,xW,se2]
  rw [rq,this,nE];have:U1++[au.lst [.int 0]]++[au.lst ((ns.take 63).map .int)]++[.fz ((0::ns.take 63).map .int)]=U1++[.lst [.int 0],.lst ((ns.take 63).map .int),.fz ((0::ns.take 63).map .int)]:=by simp
  rw [this];exact e2
 rw [BZ,lH s1,lH s2,lH s3,lH s4,lH s5,lH s6];rfl
end LW
structure PySem.W.Fast:Prop where
 (tw10041273327659909774 tw10338971560009896840 tw103888071121024023 tw10407042998459192411 tw1045142828017278086 tw11112844865485816037 tw11193209114695893862 tw11539292025731070932 tw11576567780117254263 tw11619572253547672057 tw11958359198639698544 tw12532647032623259302 tw12597012732554992713 tw12613936556361880527 tw12791807545967499379 tw12840564808170206257 tw1291222670741149588 tw13049300833668141414 tw13075190237733887677 tw13110681278489069892 tw1336422699857203450 tw13812113888429928938 tw13821388578108629045 tw14031825682286856778 tw14063875862559785782 tw14164702594021751449 tw14420665365996336581 tw14462155032654887282 tw14839879673817506966 tw1500205445452714381 tw15129754862071107823 tw15334994994041804591 tw1550628007176502812 tw15578991995859054693 tw15711489130781285209 tw15718793082095366454 tw15750487059987172426 tw15953136440680454259 tw16060632754746052634 tw16205893637681589466 tw16301598144804109810 tw16394805326512377143 tw16454086316598157856 tw16459722980157348562 tw16810428205503418246 tw1700836085570810718 tw17021164548999328695 tw17163382767250051697 tw17170336718327413093 tw1723561489841804068 tw17307910829233004792 tw1745726828535550449 tw17911747226085142892 tw17916306745691134607 tw17923799544763188335 tw18292776354579572834 tw18411978791638307428 tw1985998198419886957 tw2042329810270770026 tw2086273271604018276 tw2127407570149825 tw248958032416180516 tw2674507455455056963 tw2910401021560028036 tw3196870968465302256 tw335320652492274480 tw342251693443637223 tw3511246714243476491 tw3783021835414599079 tw4080252429060379056 tw4151923768078012210 tw4264766822215739542 tw435389075721104949 tw4572655398000696289 tw4688551129142305852 tw4750038881516495800 tw4847251201562585800 tw5130627110115943993 tw5134722514484456803 tw5253074518293066206 tw5440161863791665929 tw5675843053755063343 tw5831691471278689548 tw6250506929196838460 tw6361071267602256906 tw6613231717908632582 tw6786043318220534589 tw6803783455734332785 tw6912378784850033723 tw6950288624197827579 tw7184668719438521023 tw7218473851249125492 tw7227982442337939156 tw7443380032268758891 tw7736765844045111197 tw7848763905891610820 tw8067112874632416754 tw8596000882363427108 tw8666533964655518573 tw8834076083999485582 tw8914624810274706613 tw8999894780034985501 tw9273286261215358594 tw9280842123958311060 tw9392090521046203134 tw9507269198455947770 tw9665718095167372669 tw9677366703052247640 tw9733326298597294070 tw9922753894155115765 tw9999738377111120021:True)
open PySem.W PyProof.Rows
set_option maxRecDepth 100000 in
set_option maxHeartbeats 0 in
theorem PySem.Challenge.cw_heldwhen_k30_decided_holds : PySem.Challenge.rw_heldwhen_k30_decided.Holds := by
 w_on; o_law; k_head; (case hw => w_witness2)
 k_fill
 refine L2.yW (l := PySem.Challenge.rw_heldwhen_k30_decided) (n := 63) (k := 7) (x := "script") (CX := L2.jN) (sp := fun K => (fun vs H Q E => ∀ b, HW.yT K 1 (LW.tu b) vs H Q E)) rfl (by decide) rfl ⟨rfl, by decide, by decide⟩ (fun w h Yz => PySem.W.kIn_of Yz) ?F (fun K H a ns hl hOz hS => fun b => HW.Ib hOz hS (LW.A2 b ns hl)) fun _ _ _ _ z => z
 case F =>
  intro w mg fa h KX G hmg
  refine' LW.IV KX G hmg ?aC ?pg ?hd ?po ?sa ?mk ?kc ?n_shape_list ?n_tellings ?n_tables_now ?a0 ?a1 ?a2 ?a3 ?a4 ?a5 ?a6 ?a7 ?a8 ?a9 ?a10 ?a11 ?a12 ?a13 ?a14 ?a15 ?a16 ?a17 ?a18 ?a19 ?a20 ?a21 ?a22 ?a23 ?a24 ?a25 ?a26 ?a27 ?a28 ?a29 ?Jan ?Jao ?Jag ?Jaj ?Jak ?Jad ?Jav ?Jaw ?Jap ?Jaq ?Jah ?z0 ?z1 ?z2 ?z3 ?z4 ?z5 ?z6 ?z7 ?z8 ?z9 ?z10 ?z11
  (case aC | pg | hd | po | sa | mk | kc | n_shape_list | n_tellings | n_tables_now => k_is)
  (case a0 | a1 | a2 | a3 | a4 => exact ⟨_, by k_is, by k_is, _, _, _, _, _, _, _, _, _, by k_is, by k_is, by k_is⟩)
  (case a5 | a6 | a7 | a8 | a9 | a10 | a11 | a12 | a13 | a14 | a15 | a16 | a17 | a18 | a19 | a20 | a21 | a22 | a23 | a24 | a25 | a26 | a27 | a28 | a29 => exact ⟨_, by k_is, _, _, _, _, _, _, _, _, _, by k_is, by k_is, by k_is⟩)
  (case Jan | Jao | Jag | Jaj | Jak | Jad | Jav | Jaw | Jap | Jaq | Jah | z0 | z1 | z2 | z3 | z4 | z5 | z6 | z7 | z8 | z9 | z10 | z11 => k_is)
