import PyProof.Rows.All
import Wide.All
import OpenK.AllK
import Wide.FinOn
import Lean
import PyProof.EqAt
import PyProof.EqKinds
import PyProof.TupleCall
import PyProof.IsiH_tuple
import PyProof.NsDelKeeps
import PyProof.ForAny
import KE.KIsAll
import KE.KSortTup
import KE.KLam
import KE.KNestM
import PyProof.SliceStr2
import PyProof.StrBlockI
import PyProof.Rows.StrInSeq3
import PyProof.TupleKey
import PyProof.IsRules
import PyProof.SumWalkG
import PyProof.EnumFor
import PyProof.EnumStmt
import PyProof.EnumMake
import PyProof.StrBlock2
import PyProof.ZipIter
import PyProof.ListNew
import PyProof.DictIter
import PyProof.DictFindH
import PySem.Challenge.RW_heldwhen_k18_table_made
local macro_rules | `(tactic| exists $t) => `(tactic| with_unfolding_all exact $t)
set_option Elab.async false
set_option linter.all false
set_option maxRecDepth 100000
noncomputable section
namespace Y0
open PySem PySem.Spec PyProof.Rows
def zaa:=@Option.bind_eq_some_iff
def zab:=@wpAny_bind
abbrev zac:=PySem.W.Frag
def zad:=@wpAny_pure
def zae:=@Heap.get?_push_of_some
def zaf:=@List.map_cons
def zag:=@List.getElem?_set_ne
def zah:=@List.mem_cons_self
def zai:=@List.getElem?_append_left
def zaj:=@List.mem_cons_of_mem
def zak:=@List.mem_cons
def zal:=@List.length_map
def zam:=@Heap.lt_size
def zan:=@Bool.false_eq_true
def zao:=@Nat.le_refl
def zap:=@Array.getElem?_eq_getElem
def zaq:=@Heap.get?_push_size
def zar:=@List.mem_map
def zas:=@List.getElem?_eq_getElem
def zat:=@List.size_toArray
def zau:=@List.getElem?_eq_some_iff
def zav:=@List.getElem?_set_self
def zaw:=@Option.bind_some
def zax:=@Nat.ne_of_lt
def zay:=@List.pairwise_cons
def zaz:=@Heap.get?_update_other
def zaA:=@List.mem_append_right
def zaB:=@Nat.lt_of_lt_of_le
def zaC:=@List.not_mem_nil
def zaD:=@List.length_cons
def zaE:=@List.mem_singleton
def zaF:=@wpAny_holding
def zaG:=@Nat.lt_irrefl
def zaH:=@List.mem_of_getElem?
def zaI:=@Heap.get?_update_self
def zaJ:=@List.nodup_cons
def zaK:=@decide_eq_false
def zaL:=@wpAny_setState_of
def zaM:=@Option.map_eq_some_iff
def zaN:=@Array.length_toList
def zaO:=@List.getElem?_append_right
def zaP:=@Array.getD_eq_getD_getElem?
def zaQ:=@decide_eq_true
def zaR:=@Nat.lt_succ_of_lt
def zaS:=@List.getElem?_map
def zaT:=@wpAny_call_entry
def zaU:=@Around.under_plainId
def zaV:=@wpAny_newObj_type
def zaW:=@List.mem_append
def zaX:=@List.length_append
def zaY:=@List.map_nil
def zaZ:=@List.map_append
def za0:=@PySem.W.mg_none_of
def za1:=@codeAny_builtin
def za2:=@List.map_map
def za3:=@Nat.zero_le
def za4:=@Array.getElem?_toList
def za5:=@wpAny_callSpecial?_slot
def za6:=@List.filterMap_cons
def za7:=@List.getElem_of_mem
def za8:=@Option.map_some
def za9:=@List.nil_append
def zba:=@List.mem_map_of_mem
def zbb:=@Array.getElem?_eq_some_iff
def zbc:=@List.pairwise_iff_getElem
def zbd:=@Bool.false_ne_true
def zbe:=@Heap.size_push
def zbf:=@List.foldl_cons
def zbg:=@Nat.le_trans
def zbh:=@sizeLine_eq
def zbi:=@List.pairwise_map
def zbj:=@List.append_assoc
def zbk:=@plainId_quiet
def zbl:=@List.mem_filter
def zbm:=@List.append_nil
def zbn:=@List.length_set
def zbo:=@Bool.not_true
def zbp:=@List.mem_range
def zbq:=@PySem.W.kia_one
def zbr:=@List.mem_append_left
def zbs:=@Array.getElem_toList
def zbt:=@Option.getD_some
def zbu:=@List.getD_eq_getElem?_getD
def zbv:=@wpAny_updateSeq
def zbw:=@List.drop_eq_getElem_cons
def zbx:=@builtinLookup_eq_fast
def zby:=@wpAny_typeOf
def zbz:=@List.filter_cons
def zbA:=@List.any_cons
def zbB:=@wpAny_mono
def zbC:=@Array.mem_toList_iff
def zbD:=@List.length_eq_zero_iff
def zbE:=@List.nodup_append
def zbF:=@Nat.ne_of_gt
def zbG:=@wpAny_attempt
def zbH:=@List.getElem_inj
def zbI:=@List.getElem_map
def zbJ:=@wpAny_field
def zbK:=@List.filterMap_cons_some
def zbL:=@Int.toNat_natCast
def zbM:=@wpAny_typeNameOfWhole_keyiter
def zbN:=@List.map_congr_left
def zbO:=@List.length_take
def zbP:=@Bool.and_eq_true
def zbQ:=@wpAny_fieldsOf
def zbR:=@wpAny_setField
def zbS:=@wpAny_isInstance
def zbT:=@wpAny_seqItems
def zbU:=@Bool.not_false
def zbV:=@List.find?_cons_of_pos
def zbW:=@List.find?_cons_of_neg
def zbX:=@codeAny_mono
def zbY:=@Array.forIn_toList
def zbZ:=@wpAny_specialOf
def zb0:=@typeLookup_type
def zb1:=@Nat.le_of_lt
def zb2:=@Option.isSome_iff_exists
def zb3:=@Nat.lt_or_ge
def zb4:=@wpAny_askSetting
def zb5:=@List.lookup_cons
def zb6:=@wpAny_typeNameOf_keyiter
def zb7:=@Nat.le_add_right
def zb8:=@List.pairwise_singleton
def zb9:=@List.getElem?_cons_zero
def zca:=@wpAny_rule
def zcb:=@wpAny_Call_Name_kw
def zcc:=@List.find?_cons
def zcd:=@List.forIn_cons
def zce:=@Nat.le_succ
def zcf:=@wpAny_nextOf_list_item
def zcg:=@wpAny_truthy_bool
def zch:=@wpAny_pyIter_list
def zci:=@List.getElem?_eq_none
def zcj:=@List.length_drop
def zck:=@List.mem_iff_getElem
def zcl:=@beq_self_eq_true
def zcm:=@Int.toNat_of_nonneg
def zcn:=@wpAny_passesOwn
def zco:=@List.length_nil
def zcp:=@Nat.lt_of_le_of_lt
def zcq:=@Nat.lt_or_eq_of_le
def zcr:=@Int.emod_lt_of_pos
def zcs:=@List.filterMap_cons_none
def zct:=@Nat.mod_lt
def zcu:=@List.getElem?_replicate
def zcv:=@Nat.lt_trichotomy
def zcw:=@wpAny_pyIter_slot
def zcx:=@wpAny_dictEntries
def zcy:=@Array.getElem?_eq_none
def zcz:=@Int.le_refl
def zcA:=@Bool.or_false
def zcB:=@Bool.and_true
def zcC:=@List.getElem_mem
def zcD:=@Nat.lt_succ_self
def zcE:=@List.drop_length
def zcF:=@List.map_fst_zip
def zcG:=@List.map_snd_zip
def zcH:=@List.cons_append
def zcI:=@wpAny_isOneOf_keyiter
def zcJ:=@Array.mem_of_getElem?
def zcK:=@List.length_filter_le
def zcL:=@List.pairwise_append
def zcM:=@codeAny_of_tree
def zcN:=@Int.emod_nonneg
def zcO:=@codeAny_call_builtin
def zcP:=@Bool.eq_iff_iff
def zcQ:=@List.map_eq_cons_iff
def zcR:=@List.mem_of_mem_take
def zcS:=@Int.add_zero
def zcT:=@List.eq_nil_of_length_eq_zero
def zcU:=@wpAny_runValue
def zcV:=@List.forIn_nil
def zcW:=@Array.getElem?_setIfInBounds
def zcX:=@List.mem_filterMap
def zcY:=@List.filterMap_map
def zcZ:=@Option.isSome_some
def zc0:=@List.getElem_range
def zc1:=@List.set_cons_zero
def zc2:=@List.zip_cons_cons
def zc3:=@Int.mul_lt_mul_of_pos_right
def zc4:=@Bool.and_self
def zc5:=@wpAny_newList
def zc6:=@PySem.W.mg_of
def zc7:=@wpAny_Call_method
def zc8:=@Array.toList_push
def zc9:=@PySem.W.kitx_list
def zda:=@Int.lt_trichotomy
def zdb:=@Nat.zero_add
def zdc:=@List.nodup_range
def zdd:=@Int.zero_add
def zde:=@List.ext_getElem
def zdf:=@wpAny_forIn_list
def zdg:=@List.mem_reverse
def zdh:=@wpAny_execs_nil
def zdi:=@List.of_mem_zip
def zdj:=@List.find?_some
def zdk:=@wpAny_dictEpoch
def zdl:=@Bool.decide_and
def zdm:=@wpAny_of_eq
end Y0
open Y0
namespace Y1
open PySem
abbrev Ta:=List (List Int)
abbrev Tb:=Value->Shared->Prop
abbrev Tc:=List (Addr×Obj)
abbrev Td:=Str->Option Value
abbrev Te:=List Value
abbrev Tf:=List Addr
abbrev Tg:=Option Value
abbrev Th:=List Int
abbrev Ti:=Array Value
abbrev Tj:=List Expr
abbrev Tk:=List Stmt
abbrev Tl:=List Str
end Y1
open Y1
namespace L2
open PySem PySem.Spec PyProof.Rows
section
variable  {prog:Program}{w:World}{A:Around}{E:Tb}{s:Shared}
theorem kF {Q:Int->Shared->Prop}(h:Q 0xFCA86420 {s with toks:=s.toks+1}):wpAny (model prog w) A (pyHash .none) Q E s:=by
 have hT:s.TypeIs .none "NoneType":=rfl
 show wpAny _ _ (pyHashByItsType .none) _ _ s
 unfold pyHashByItsType;refine zab (wpAny_cRoomFor_byValue rfl ?_);refine zab (zbZ hT F.slot_NoneType_hash.lookup ?_);rw [if_neg (by decide)];refine zab (zbZ hT F.slot_NoneType_hash.lookup ?_);rw [if_neg (by decide)]
 show wpAny _ _ (callSpecialIfBoundUnlessNone? .none "__hash__" _ >>= _) Q E s
 refine zab (wpAny_callSpecialIfBoundUnlessNone?_slot hT F.slot_NoneType_hash
  (zaT F.slot_NoneType_hash hT F.entry_NoneType_hash
   (show wpAny _ _ (do ret (←mkInt 0xFCA86420)) _ _ s from wpAny_ret_mkInt ?_) (F.args_NoneType_hash_1 _)))
 show wpAny _ _ (if (decide (-(2:Int) ^ 63<=0xFCA86420) && decide ((0xFCA86420:Int) < 2 ^ 63))=true then _ else _) Q E _
 rw [if_pos (by decide)];exact zad h
theorem kG {Q:Bool->Shared->Prop}(h:Q true s):wpAny (model prog w) A (eqBool .none .none) Q E s:=by
 unfold eqBool;refine zaF ?_;rw [if_pos (by decide)];exact zab (zca (zad h))
end
abbrev aE:=Sum Int (Option Str)
def i9:aE->Value->Bool
 |.inl k,v=>Value.isInt k v
 |.inr (some x),v=>Value.isStrOf x v
 |.inr none,v=>v == .none
def Ol (w:World):aE->Int
 |.inl k=>hashInt k
 |.inr (some x)=>hashStr w x
 |.inr none=>0xFCA86420
theorem bj:∀{k:aE} {v:Value},i9 k v=true->(∃i t,k=Sum.inl i/\v=Value.int i t)\/(∃x t,k=Sum.inr (some x)/\v=Value.str x t)\/(k=Sum.inr none/\v=Value.none)
 |.inl i,v,h=>by
  obtain ⟨t,e⟩:=Value.isInt_shape (k:=i) (v:=v) h;exact .inl ⟨i,t,rfl,e⟩
 |.inr (some x),v,h=>by
  obtain ⟨t,e⟩:=Value.isStrOf_shape (x:=x) (v:=v) h;exact .inr (.inl ⟨x,t,rfl,e⟩)
 |.inr none,v,h=>.inr (.inr ⟨rfl,eq_of_beq h⟩)
theorem yc (i:Int)(t:Tok):i9 (.inl i) (.int i t)=true:=by simp [i9,Value.isInt]
theorem ya (x:Str)(t:Tok):i9 (.inr (some x)) (.str x t)=true:=by simp [i9,Value.isStrOf]
theorem yb:i9 (.inr none) .none=true:=by simp [i9]
theorem IF (a b:Int):decide ((Sum.inl a:aE)=Sum.inl b)=(a == b):=by
 by_cases e:a=b
 ·subst e;simp
 ·have h:¬ (Sum.inl a:aE)=Sum.inl b:=fun q=>e (Sum.inl.inj q)
  rw [zaK h];exact (beq_eq_false_iff_ne.mpr e).symm
theorem IE (a b:Str):decide ((Sum.inr (some a):aE)=Sum.inr (some b))=decide (a=b):=by
 by_cases e:a=b
 ·subst e;simp
 ·have h:¬ (Sum.inr (some a):aE)=Sum.inr (some b):=fun q=>e (Option.some.inj (Sum.inr.inj q))
  rw [zaK h,zaK e]
def aX (prog:Program)(w:World):PySem.KeyKind prog w aE where
 is:=i9
 hash:=Ol w
 inj:=fun v a b ha hb=>by
  rcases bj ha with ⟨i,t,rfl,rfl⟩|⟨x,t,rfl,rfl⟩|⟨rfl,rfl⟩
  ·rcases bj hb with ⟨j,u,rfl,e⟩|⟨y,u,rfl,e⟩|⟨rfl,e⟩
   ·injection e with e1 _;rw [e1]
   ·exact nomatch e
   ·exact nomatch e
  ·rcases bj hb with ⟨j,u,rfl,e⟩|⟨y,u,rfl,e⟩|⟨rfl,e⟩
   ·exact nomatch e
   ·injection e with e1 _;rw [e1]
   ·exact nomatch e
  ·rcases bj hb with ⟨j,u,rfl,e⟩|⟨y,u,rfl,e⟩|⟨rfl,e⟩
   ·exact nomatch e
   ·exact nomatch e
   ·rfl
 byValue:=fun k v h=>by
  rcases bj h with ⟨i,t,rfl,rfl⟩|⟨x,t,rfl,rfl⟩|⟨rfl,rfl⟩ <;> rfl
 pyHash:=fun hv h=>by
  rcases bj hv with ⟨i,t,rfl,rfl⟩|⟨x,t,rfl,rfl⟩|⟨rfl,rfl⟩
  ·exact wpAny_pyHash_int h
  ·exact wpAny_pyHash_str h
  ·exact kF h
 eqBool:=fun hu hv h=>by
  rcases bj hu with ⟨i,t,rfl,rfl⟩|⟨x,t,rfl,rfl⟩|⟨rfl,rfl⟩
  ·rcases bj hv with ⟨j,u,rfl,rfl⟩|⟨y,u,rfl,rfl⟩|⟨rfl,rfl⟩
   ·rw [IF] at h;exact wpAny_eqBool_int h
   ·exact SeqAt.EqAt.int_str i t y u _ _ _ _ (by simpa using h)
   ·exact SeqAt.EqAt.int_none i t _ _ _ _ (by simpa using h)
  ·rcases bj hv with ⟨j,u,rfl,rfl⟩|⟨y,u,rfl,rfl⟩|⟨rfl,rfl⟩
   ·exact SeqAt.EqAt.str_int x t j u _ _ _ _ (by simpa using h)
   ·rw [IE] at h;exact wpAny_eqBool_str h
   ·exact SeqAt.EqAt.str_none x t _ _ _ _ (by simpa using h)
  ·rcases bj hv with ⟨j,u,rfl,rfl⟩|⟨y,u,rfl,rfl⟩|⟨rfl,rfl⟩
   ·exact SeqAt.EqAt.none_int j u _ _ _ _ (by simpa using h)
   ·exact SeqAt.EqAt.none_str y u _ _ _ _ (by simpa using h)
   ·exact kG (by simpa using h)
 «strs»:=fun k x t v h=>by
  rcases bj h with ⟨i,u,rfl,e⟩|⟨y,u,rfl,e⟩|⟨rfl,e⟩
  ·exact nomatch e
  ·injection e with e1 _
   subst e1;cases v <;> rfl
  ·exact nomatch e
theorem sL (prog:Program)(w:World)(i:Int)(t:Tok):(aX prog w).is (.inl i) (.int i t)=true:=yc i t
theorem sK (prog:Program)(w:World)(x:Str)(t:Tok):(aX prog w).is (.inr (some x)) (.str x t)=true:=ya x t
inductive V where
 |non|bl (b:Bool)|int (i:Int)|str (x:Str)|byt (b:Array UInt8)|flt (b:UInt64)|ref (a:Addr)|ty (n:String)
 deriving DecidableEq
def aY:V->Value->Prop
 |.non,u=>u=Value.none
 |.bl b,u=>u=Value.bool b
 |.int i,u=>∃t,u=Value.int i t
 |.str x,u=>∃t,u=Value.str x t
 |.byt b,u=>∃t,u=Value.bytes b t
 |.flt b,u=>∃t,u=Value.float b t
 |.ref a,u=>u=Value.ref a
 |.ty n,u=>u=Value.type n
abbrev aU:List V->List Value->Prop:=Paired aY
theorem aU.length {xs:List V}{us:Te}(r:aU xs us):xs.length=us.length:=Paired.length r
theorem aU.get:∀{xs:List V} {us:Te} {i:Nat} {x:V},aU xs us->xs[i]?=some x->∃u,us[i]?=some u/\aY x u
 |_,_,_,_,.nil,e=>by simp at e
 |_,_,0,_,.cons r _,e=>by simp at e;subst e;exact ⟨_,rfl,r⟩
 |_,_,i+1,x,.cons _ t,e=>by
  obtain ⟨u,h1,h2⟩:=aU.get (i:=i) (x:=x) t (by simpa using e);exact ⟨u,by simpa using h1,h2⟩
theorem aU.set {x:V}{u:Value}(r:aY x u):∀{xs:List V} {us:Te} (i:Nat),aU xs us->aU (xs.set i x) (us.set i u)
 |_,_,_,.nil=>.nil
 |_,_,0,.cons _ t=>.cons r t
 |_,_,i+1,.cons q t=>.cons q (aU.set r i t)
theorem aU.append:∀{xs ys:List V} {us ws:Te},aU xs us->aU ys ws->aU (xs++ys) (us++ws)
 |_,_,_,_,.nil,s=>s
 |_,_,_,_,.cons r t,s=>.cons r (aU.append t s)
theorem aU.take:∀{xs:List V} {us:Te} (n:Nat),aU xs us->aU (xs.take n) (us.take n)
 |_,_,0,_=>.nil
 |_,_,_+1,.nil=>.nil
 |_,_,n+1,.cons r t=>.cons r (aU.take n t)
theorem aU.drop:∀{xs:List V} {us:Te} (n:Nat),aU xs us->aU (xs.drop n) (us.drop n)
 |_,_,0,r=>r
 |_,_,_+1,.nil=>.nil
 |_,_,n+1,.cons _ t=>aU.drop n t
def mO:Option V->Option Value->Prop
 |some v,some u=>aY v u
 |none,none=>True
 |_,_=>False
def KV {κ:Type}:List (κ×V)->List (κ×Value)->Prop:=Paired fun (p:κ×V) (q:κ×Value)=>p.1=q.1/\aY p.2 q.2
def kV:aE->V
 |.inl i=>.int i
 |.inr (some x)=>.str x
 |.inr none=>.non
inductive HO where
 |lst (xs:List V)
 |tup (xs:List V)
 |dK (kvs:List (aE×V))|dT (kvs:List (List aE×V))
 |set (S:Int->Bool) (n:Nat)
 |ins (C dx:Addr) (fs:List (Str×V))
 |own (x:Addr)
 |xd (fs:List (Str×V))
 |met (f x:Addr)
 |rng (lo hi:Int)
 |frz (o:Obj) (u:HO)
 |tbl (ps:Ti)
 |ext (φ:Heap->Prop)
abbrev Hp:=Addr->Option HO
def upd (H:Hp)(a:Addr)(o:HO):Hp:=fun b=>if b=a then some o else H b
theorem db {H:Hp}{a:Addr}{o:HO}:upd H a o a=some o:=by unfold upd;rw [if_pos rfl]
theorem aB {H:Hp}{a b:Addr}{o:HO}(h:b≠a):upd H a o b=H b:=by unfold upd;rw [if_neg h]
theorem F4 {H:Hp}{a b:Addr}{o u:HO}(h:H a=some o)(h':H b=some u)(d:o≠u):a≠b:=by
 intro e;subst e;rw [h] at h';exact d (Option.some.inj h')
theorem gm {H:Hp}{a b:Addr}{o:HO}(h:H a=some o)(h':H b=none):a≠b:=by
 intro e;subst e;rw [h] at h';cases h'
def jo (h:Heap)(a:Addr)(items:Ti):Prop:=IsTup h a items/\∀o,h.get? a=some o->o.dict=none
theorem jo.new (h:Heap)(items:Ti):jo (h.push {cls:=.type "tuple",data:=.seq items}) h.objs.size items:=⟨IsTup.new _ _,fun o e=>by rw [zaq _ rfl] at e;cases e;rfl⟩
section
variable  (P:Program)(w:World)
def bE (H:Hp)(h:Heap)(a:Addr):HO->Prop
 |.lst xs=>xs.length<=sizeLine/\∃(its:Te) (n:Nat),aU xs its/\h.get? a=some {cls:=.type "list",data:=.seq its.toArray n}
 |.tup xs=>xs.length<=sizeLine/\∃its:Te,aU xs its/\jo h a its.toArray
 |.dK kvs=>kvs.length<=sizeLine/\(a == sysModules)=false/\∃vs,KV kvs vs/\h.DictOf (aX P w) a vs
 |.dT kvs=>kvs.length<=sizeLine/\(a == sysModules)=false/\∃xs:List (List aE×Addr×Value),
   Paired (fun (p:List aE×V) (q:List aE×Addr×Value)=>p.1=q.1/\H q.2.1=some (.tup (p.1.map kV))/\aY p.2 q.2.2) kvs xs /\
   ∃o es ep,h.get? a=some o/\o.ExactDict/\o.data=.dict es ep/\es.toList=xs.map (entryOfKey (tupleKind (aX P w)))/\(xs.map (·.1)).Nodup
 |.set S n=>h.SetOf (intKind P w) a S n
 |.ins C dx fs=>H dx=some (.own a)/\fs.length<=1000/\dx≠a/\h.get? a=some (PySem.W.instObj C dx) /\
   ∃mA,h.Ns1 dx mA/\(∀f,mO (fs.lookup f) (mA f))/\PySem.Within mA (fs.map (·.1))
 |.own _=>∃o,h.get? a=some o
 |.xd fs=>∃mA,h.Ns1 a mA/\∀f,mO (fs.lookup f) (mA f)
 |.rng lo hi=>∃t u v,h.get? a=some {cls:=.type "range",data:=.fields #[.int lo t,.int hi u,.int 1 v]}
 |.frz o u=>h.get? a=some o/\bE H h a u
 |.tbl ps=>h.get? a=some {cls:=.none,data:=.fields ps}
 |.met f x=>h.get? a=some (PySem.W.methodObj (.ref f) (.ref x))
 |.ext φ=>φ h/\(∃o,h.get? a=some o)/\∀h1 h2:Heap,φ h1->(∀o,h1.get? a=some o->h2.get? a=some o)->φ h2
def io (H:Hp)(h:Heap):Prop:=∀a o,H a=some o->bE P w H h a o
end
section
variable  {P:Program}{w:World}{H H':Hp}{h h':Heap}{a:Addr}{o:HO}
theorem bE.lt (x:bE P w H h a o):a < h.objs.size:=by
 cases o with
 |lst xs=>obtain ⟨_,_,_,_,e⟩:=x;exact zam e
 |tup xs=>obtain ⟨_,_,_,p⟩:=x;exact p.1.lt
 |dK kvs=>obtain ⟨_,_,_,_,o,_,_,e,_⟩:=x;exact zam e
 |dT kvs=>obtain ⟨_,_,_,_,o,_,_,e,_⟩:=x;exact zam e
 |set S n=>obtain ⟨o,_,_,_,e,_⟩:=x;exact zam e
 |ins C dx fs=>obtain ⟨_,_,_,e,_⟩:=x;exact zam e
 |own y=>obtain ⟨_,e⟩:=x;exact zam e
 |xd fs=>obtain ⟨_,⟨_,_,_,e,_⟩,_⟩:=x;exact zam e
 |rng lo hi=>obtain ⟨_,_,_,e⟩:=x;exact zam e
 |frz ob u=>obtain ⟨e,_⟩:=x;exact zam e
 |tbl ps=>exact zam (show h.get? a=some _ from x)
 |met f y=>exact zam (show h.get? a=some _ from x)
 |ext φ=>obtain ⟨_,⟨_,e⟩,_⟩:=x;exact zam e
theorem Paired.mapP {α β:Type}{F G:α->β->Prop}{l₁:List α}{l₂:List β}(h:Paired F l₁ l₂)(f:∀a b,F a b->G a b):Paired G l₁ l₂:=by
 induction h with
 |nil=>exact .nil
 |cons r t ih=>exact .cons (f _ _ r) ih
theorem bE.stay (x:bE P w H h a o)(k:∀b u,(b=a\/H b=some (.own a))->h.get? b=some u->h'.get? b=some u)
  (ho:∀b,H b=some (.own a)->H' b=some (.own a)) (ht:∀b xs,H b=some (.tup xs)->H' b=some (.tup xs)):bE P w H' h' a o:=by
 induction o with
 |lst xs=>obtain ⟨z,its,n,r,e⟩:=x;exact ⟨z,its,n,r,k _ _ (.inl rfl) e⟩
 |tup xs=>obtain ⟨z,its,r,⟨ob,e,c⟩,dn⟩:=x;exact ⟨z,its,r,⟨ob,k _ _ (.inl rfl) e,c⟩,fun o q=>by rw [k _ _ (.inl rfl) e] at q;cases q;exact dn _ e⟩
 |dK kvs=>obtain ⟨z,y,vs,r,ob,es,ep,e,c⟩:=x;exact ⟨z,y,vs,r,ob,es,ep,k _ _ (.inl rfl) e,c⟩
 |dT kvs =>
  obtain ⟨z,y,xs,r,ob,es,ep,e,c⟩:=x;exact ⟨z,y,xs,Paired.mapP r fun p q z=>⟨z.1,ht _ _ z.2.1,z.2.2⟩,ob,es,ep,k _ _ (.inl rfl) e,c⟩
 |set S n=>obtain ⟨ob,es,ep,t,e,c⟩:=x;exact ⟨ob,es,ep,t,k _ _ (.inl rfl) e,c⟩
 |ins C dx fs =>
  obtain ⟨d,z,ne,e,mA,⟨od,es,ep,e2,c⟩,r⟩:=x;exact ⟨ho _ d,z,ne,k _ _ (.inl rfl) e,mA,⟨od,es,ep,k _ _ (.inr d) e2,c⟩,r⟩
 |own y=>obtain ⟨ob,e⟩:=x;exact ⟨ob,k _ _ (.inl rfl) e⟩
 |xd fs=>obtain ⟨mA,⟨od,es,ep,e,c⟩,r⟩:=x;exact ⟨mA,⟨od,es,ep,k _ _ (.inl rfl) e,c⟩,r⟩
 |rng lo hi=>obtain ⟨t,u,v,e⟩:=x;exact ⟨t,u,v,k _ _ (.inl rfl) e⟩
 |frz ob u ih=>obtain ⟨e,q⟩:=x;exact ⟨k _ _ (.inl rfl) e,ih q⟩
 |tbl ps =>
  have e:h.get? a=some {cls:=.none,data:=.fields ps}:=x
  show h'.get? a=some {cls:=.none,data:=.fields ps}
  exact k a _ (.inl rfl) e
 |met f y =>
  have e:h.get? a=some (PySem.W.methodObj (.ref f) (.ref y)):=x
  show h'.get? a=some (PySem.W.methodObj (.ref f) (.ref y))
  exact k a _ (.inl rfl) e
 |ext φ=>obtain ⟨p,⟨o,e⟩,st⟩:=x;exact ⟨st _ _ p fun o q=>k _ _ (.inl rfl) q,⟨o,k _ _ (.inl rfl) e⟩,st⟩
theorem io.lt (x:io P w H h)(e:H a=some o):a < h.objs.size:=(x a o e).lt
theorem io.fresh (x:io P w H h)(e:h.objs.size<=a):H a=none:=by
 cases q:H a with
 |none=>rfl
 |some u=>exact absurd (zaB (x.lt q) e) (zaG _)
theorem io.kept (x:io P w H h)(k:∀b u,h.get? b=some u->h'.get? b=some u):io P w H h':=fun a o e =>
 (x a o e).stay (fun b u _ q=>k b u q) (fun _ q=>q) fun _ _ q=>q
theorem io.laid (x:io P w H h)(k:∀b u,h.get? b=some u->h'.get? b=some u)(hp:h.objs.size<=a)(new:bE P w (upd H a o) h' a o):io P w (upd H a o) h':=fun b u e=>by
 have hn:=x.fresh hp
 by_cases hb:b=a
 ·subst hb;rw [db] at e;cases e;exact new
 ·rw [aB hb] at e
  exact (x b u e).stay (fun c v _ q=>k c v q) (fun c q=>by rw [aB (gm q hn)];exact q) fun c xs q=>by rw [aB (gm q hn)];exact q
end
def Rd (H:Hp)(a:Addr)(u:HO):Prop:=H a=some u\/∃o,H a=some (.frz o u)
theorem Rd.ok {P:Program}{w:World}{H:Hp}{h:Heap}{a:Addr}{u:HO}(r:Rd H a u)(x:io P w H h):bE P w H h a u:=by
 rcases r with r|⟨o,r⟩
 ·exact x a u r
 ·obtain ⟨_,q⟩:=x a _ r
  exact q
def Mx:Option HO->Prop
 |some (.lst _)=>True
 |some (.dK _)=>True
 |some (.dT _)=>True
 |some (.set _ _)=>True
 |some (.ins _ _ _)=>True
 |some (.ext _)=>True
 |_=>False
section
variable  {P:Program}{w:World}{H:Hp}{h h':Heap}{x e:Addr}{o':HO}
theorem io.write (ok:io P w H h)(mu:Mx (H x))(he:e=x\/H e=some (.own x))(k:∀b u,b≠e->h.get? b=some u->h'.get? b=some u)(heo:∃u,h'.get? e=some u)
  (new:bE P w (upd H x o') h' x o'):io P w (upd H x o') h':=fun b u q=>by
 have nown:∀c y,H c=some (.own y)->c≠x:=fun c y r z=>by subst z;rw [r] at mu;exact mu
 have ntup:∀c xs,H c=some (.tup xs)->c≠x:=fun c xs r z=>by subst z;rw [r] at mu;exact mu
 by_cases hb:b=x
 ·subst hb;rw [db] at q;cases q;exact new
 ·rw [aB hb] at q
  by_cases hbe:b=e
  ·have q':H b=some (.own x):=by
    rcases he with z|z
    ·exact absurd (hbe.trans z) hb
    ·rw [hbe];exact z
   rw [q] at q';cases q';obtain ⟨v,hv⟩:=heo;exact ⟨v,by rw [hbe];exact hv⟩
  ·refine (ok b u q).stay (fun c v hc r=>k c v ?_ r) (fun c r=>by rw [aB (nown c b r)];exact r) fun c xs r=>by rw [aB (ntup c xs r)];exact r
   rcases hc with rfl|hc
   ·exact hbe
   ·rintro rfl
    rcases he with z|z
    ·exact nown c b hc z
    ·rw [hc] at z;cases z;exact hb rfl
end
structure Un (fs ex:Tf)(H H':Hp)(h h':Heap):Prop where
 keep:∀b o,h.get? b=some o->H b=none->b∉fs->b∉ex->h'.get? b=some o
 slot:∀b o,h.get? b=some o->H b=none->b∈fs->b∉ex->∃sl,h'.get? b=some {o with slots:=sl}
 free:∀b o,h.get? b=some o->H b=none->b∉ex->H' b=none
 there:∀b o,h.get? b=some o->b∉ex->∃o',h'.get? b=some o'
 tups:∀b xs,H b=some (.tup xs)->H' b=some (.tup xs)
 frzs:∀b o u,H b=some (.frz o u)->H' b=some (.frz o u)
 tbls:∀b ps,H b=some (.tbl ps)->∃more,H' b=some (.tbl (ps++more))
section
variable  {fs fs' ex ex':Tf}{H H1 H2:Hp}{h h1 h2 h':Heap}{a x e:Addr}{o:HO}
theorem Un.any (u:Un fs ex H H1 h h1){b:Addr}{ob:Obj}(q:h.get? b=some ob)(n:H b=none)(hx:b∉ex):∃sl,h1.get? b=some {ob with slots:=sl}:=by
 by_cases hb:b∈fs
 ·exact u.slot b ob q n hb hx
 ·exact ⟨ob.slots,u.keep b ob q n hb hx⟩
theorem Un.kept (k:∀b u,h.get? b=some u->h'.get? b=some u):Un fs ex H H h h' :=
 ⟨fun b ob q _ _ _=>k b ob q,fun b ob q _ _ _=>⟨ob.slots,k b ob q⟩,fun _ _ _ n _=>n,fun b ob q _=>⟨ob,k b ob q⟩,fun _ _ q=>q,fun _ _ _ q=>q,fun _ ps q=>⟨#[],by rw [q];simp⟩⟩
theorem Un.refl:Un fs ex H H h h:=Un.kept fun _ _ q=>q
theorem Un.laid (k:∀b u,h.get? b=some u->h'.get? b=some u)(hp:h.objs.size<=a)(hn:H a=none):Un fs ex H (upd H a o) h h' where
 keep:=fun b u q _ _ _=>k b u q
 slot:=fun b u q _ _ _=>⟨u.slots,k b u q⟩
 free:=fun b u q n _=>by rw [aB (zax (zaB (zam q) hp))];exact n
 there:=fun b u q _=>⟨u,k b u q⟩
 tups:=fun b xs q=>by rw [aB (gm q hn)];exact q
 frzs:=fun b u xs q=>by rw [aB (gm q hn)];exact q
 tbls:=fun b ps q=>⟨#[],by rw [aB (gm q hn),q];simp⟩
theorem Un.write (mu:Mx (H x))(he:e=x\/H e=some (.own x))(k:∀b u,b≠e->h.get? b=some u->h'.get? b=some u)(heo:∃u,h'.get? e=some u):Un fs ex H (upd H x o) h h':=by
 have hx:∀b,H b=none->b≠x:=fun b n z=>by subst z;rw [n] at mu;exact mu
 have hb:∀b,H b=none->b≠e:=fun b n z=>by
  subst z;rcases he with r|r
  ·exact hx b n r
  ·rw [n] at r;cases r
 have hm:∀b u,H b=some u->¬ Mx (some u)->b≠x:=fun b u q nm z=>by subst z;rw [q] at mu;exact nm mu
 refine ⟨fun b u q n _ _=>k b u (hb b n) q,fun b u q n _ _=>⟨u.slots,k b u (hb b n) q⟩,fun b u q n _=>by rw [aB (hx b n)];exact n,fun b u q _=>?_,
  fun b xs q=>by rw [aB (hm b _ q fun z=>z)];exact q,fun b u xs q=>by rw [aB (hm b _ q fun z=>z)];exact q,fun b ps q=>⟨#[],by rw [aB (hm b _ q fun z=>z),q];simp⟩⟩
 by_cases hbe:b=e
 ·subst hbe;exact heo
 ·exact ⟨u,k b u hbe q⟩
end
def MG (h:Heap)(H:Hp):Tf:=(List.range h.objs.size).filter fun a=>(H a).isSome
def qG (h:Heap)(H:Hp):Heap:=PySem.W.hideAll h (MG h H)
theorem yh (h:Heap)(H:Hp):(qG h H).objs.size=h.objs.size:=PySem.W.hideAll_size _ _
theorem Bw {h:Heap}{H:Hp}{b:Addr}{o:Obj}(e:h.get? b=some o)(n:H b=none):(qG h H).get? b=some o :=
 PySem.W.hideAll_get _ e fun hm=>by
  have q:(H b).isSome=true:=(zbl.mp hm).2;rw [n] at q;simp at q
theorem DR {h:Heap}{H:Hp}{b:Addr}{o:Obj}(e:(qG h H).get? b=some o):h.get? b=some o/\H b=none:=by
 have e':h.get? b=some o:=PySem.W.of_hideAll (MG h H) e;refine ⟨e',?_⟩
 cases q:H b with
 |none=>rfl
 |some x =>
  have hm:b∈MG h H:=zbl.mpr ⟨zbp.mpr (zam e'),by simp [q]⟩;have z:(qG h H).get? b=none:=PySem.W.hideAll_none (MG h H) hm;rw [z] at e;cases e
def EA (g h:Heap)(L:Addr):Tc:=(List.range h.objs.size).filterMap fun a=>if a=L\/(g.get? a).isSome=true then none else (h.get? a).map fun o=>(a,o)
def rest (g h:Heap)(L d:Addr):Tc:=(EA g h L).filter fun p=>decide (p.1≠d)
structure Mod (K:zac)(mg:Td)(base:Heap):Prop where
 kin:K.In base
 glob:base.Ns mainGlobals mg
 blt:∃mb,base.Ns builtinsNs mb/\∀x:Str,x≠"__name__"->mb x=bootBuiltins x
 nolimit:base.NoLimit
structure Cx where
 prog:Program
 w:World
 K:zac
 mg:Td
 base:Heap
 A:Around
 N:Tl
 s₀:Shared
 H₀:Hp
 env:Env
 outer:List Env
 stack:List Env
 ex:Tf
 fn:Str->Bool
 calm:Bool
 pn:Tc
 xe:Tb
def yj (l:List Env):Tf:=l.filterMap (·.frame)
abbrev Cx.fs (X:Cx):Tf:=yj X.outer
def Mu (sc:Scope)(x:Str):Prop:=sc.names.lookup x=some .local\/sc.names.lookup x=some .cell\/sc.names.lookup x=some .free
def Cj (sc:Scope)(x:Str):Prop:=sc.names.lookup x=some .local\/sc.names.lookup x=some .cell
def PK (env:Env)(h:Heap)(m:Td)(x:Str)(u:Value):Prop :=
 (env.kindOf x=some .local/\m x=some u)\/((env.kindOf x=some .cell\/env.kindOf x=some .free)/\∃c,env.cells.lookup x=some c/\h.IsCell c (some u))
structure Cx.Ok (X:Cx):Prop where
 mod:Mod X.K X.mg X.base
 kind:X.env.scope.kind=.function
 glob:X.env.globals=mainGlobals
 blt:X.env.builtins=builtinsNs
 above:X.s₀.heap.objs.size<=X.env.locals
 inj:∀x y c,X.env.cells.lookup x=some c->X.env.cells.lookup y=some c->x=y
 has:∀x,(X.env.kindOf x=some .cell\/X.env.kindOf x=some .free)->∃c,X.env.cells.lookup x=some c
 cab:∀x c,X.fn x=true->X.env.cells.lookup x=some c->X.s₀.heap.objs.size<=c
 hd:X.calm=true->X.A.handled=none
 frames:X.A.frames=some X.stack
 stk:X.stack=X.outer\/(X.stack=X.env::X.outer/\X.env.frame=some X.env.locals)
 exf:∀b∈X.ex,b≠X.env.locals/\∀x c,X.env.cells.lookup x=some c->c≠b
 bs:∀b o,X.base.get? b=some o->X.s₀.heap.get? b=some o/\X.H₀ b=none
 bsz:X.base.objs.size<=X.s₀.heap.objs.size
 noex:∀b o,X.base.get? b=some o->b∉X.ex
 exfs:∀b∈X.ex,b∉X.fs
 funs:X.s₀.heap.FunFrames X.base X.outer
 frf:∀b∈X.fs,X.H₀ b=none
structure aD (X:Cx)(pins:Tc)(σ:List (Option V))(H:Hp)(s:Shared):Prop where
 ok:X.Ok
 os:s.os=X.s₀.os
 bare:AllBare s.gens
 base:Un X.fs X.ex X.H₀ H X.s₀.heap s.heap
 loc:∃m,s.heap.Ns X.env.locals m/\∀(i:Nat) (x:Str) (v:V),X.N[i]?=some x->σ[i]?=some (some v)->Mu X.env.scope x->∃u,aY v u/\PK X.env s.heap m x u
 cell:∀x c,X.env.cells.lookup x=some c->∃v,s.heap.IsCell c v
 free:H X.env.locals=none
 freeC:∀x c,X.env.cells.lookup x=some c->H c=none
 pin:∀p∈X.pn++pins,s.heap.get? p.1=some p.2/\H p.1=none/\p.1≠X.env.locals/\p.1∉X.fs/\∀v,p.2.data≠.cell v
 hok:io X.prog X.w H s.heap
 len:σ.length=X.N.length
section
variable  {X:Cx}{pins:Tc}{σ:List (Option V)}{H H':Hp}{s:Shared}{h':Heap}
theorem Cx.Ok.nofr (ok:X.Ok){b:Addr}{o:Obj}(e:X.base.get? b=some o):b∉X.fs:=fun hb=>by
 have:=(ok.funs.mem hb).1;rw [e] at this;cases this
theorem aD.bs (I:aD X pins σ H s):∀b o,X.base.get? b=some o->s.heap.get? b=some o/\H b=none:=fun b o e =>
 ⟨I.base.keep b o (I.ok.bs b o e).1 (I.ok.bs b o e).2 (I.ok.nofr e) (I.ok.noex b o e),I.base.free b o (I.ok.bs b o e).1 (I.ok.bs b o e).2 (I.ok.noex b o e)⟩
theorem aD.bk (I:aD X pins σ H s):∀b o,X.base.get? b=some o->s.heap.get? b=some o:=fun b o e=>(I.bs b o e).1
theorem aD.mod (I:aD X pins σ H s):Mod X.K X.mg X.base:=I.ok.mod
theorem aD.kIn (I:aD X pins σ H s):X.K.In s.heap:=I.ok.mod.kin.keeps I.bk
theorem aD.lt (I:aD X pins σ H s):X.env.locals < s.heap.objs.size:=let ⟨_,hn,_⟩:=I.loc;hn.lt
theorem aD.sz (I:aD X pins σ H s):X.s₀.heap.objs.size<=s.heap.objs.size:=zbg I.ok.above (zb1 I.lt)
theorem aD.nofs (I:aD X pins σ H s){a:Addr}(h:s.heap.objs.size<=a):a∉X.fs:=fun hb=>by
 obtain ⟨_,o,ho,_⟩:=I.ok.funs.mem hb;exact absurd (zaB (zam ho) (zbg I.sz h)) (zaG _)
theorem aD.cne (I:aD X pins σ H s):∀x c,X.env.cells.lookup x=some c->c≠X.env.locals:=fun x c e z=>by
 obtain ⟨v,o,ho,hd⟩:=I.cell x c e;obtain ⟨m,⟨o',es,ep,ho',hd',_⟩,_⟩:=I.loc;rw [z,ho'] at ho;cases ho;rw [hd'] at hd;cases hd
theorem aD.funs (I:aD X pins σ H s):s.heap.FunFrames X.base X.outer:=by
 have all:∀(l:List Env),(∀b∈yj l,b∈X.fs)->X.s₀.heap.FunFrames X.base l->s.heap.FunFrames X.base l:=by
  intro l
  induction l with
  |nil=>intro _ _;trivial
  |cons env r ih =>
   intro hs hl;obtain ⟨hk,⟨L,o,hf,hn,ho,hd⟩,hr⟩:=hl;have hL:L∈X.fs:=hs L (by unfold yj;rw [za6,hf];exact zah);obtain ⟨sl,e⟩:=I.base.slot L o ho (I.ok.frf L hL) hL fun z=>I.ok.exfs L z hL;exact ⟨hk,⟨L,_,hf,hn,e,hd⟩,ih (fun b hb=>hs b (by unfold yj;rw [za6,hf];exact zaj _ hb)) hr⟩
 exact all X.outer (fun _ hb=>hb) I.ok.funs
theorem aD.stack (I:aD X pins σ H s):s.heap.FunFrames X.base X.stack:=by
 rcases I.ok.stk with e|⟨e,hf⟩
 ·rw [e];exact I.funs
 ·rw [e]
  obtain ⟨m,hn,_⟩:=I.loc;refine .cons (by rw [I.ok.kind];decide) hf hn ?_ I.funs;exact Heap.get?_none_of_le (zbg I.ok.bsz I.ok.above)
theorem aD.stkSub (I:aD X pins σ H s):∀b∈yj X.stack,b∈X.env.locals::X.fs:=fun b hb=>by
 rcases I.ok.stk with e|⟨e,hf⟩
 ·rw [e] at hb;exact zaj _ hb
 ·rw [e] at hb
  unfold yj at hb;rw [za6,hf] at hb;exact hb
theorem aD.stkFree (I:aD X pins σ H s):∀b∈yj X.stack,H b=none:=fun b hb=>by
 rcases zak.mp (I.stkSub b hb) with e|hb
 ·rw [e];exact I.free
 ·obtain ⟨_,o,ho,_⟩:=I.ok.funs.mem hb
  exact I.base.free b o ho (I.ok.frf b hb) fun z=>I.ok.exfs b z hb
theorem aD.step {g':Array GenState}{t':Nat}{d':Drawn}{ch:Tf}(I:aD X pins σ H s)
  (hch:∀b∈ch,(b∈X.ex\/X.s₀.heap.objs.size<=b)/\b≠X.env.locals/\(∀x c,X.env.cells.lookup x=some c->c≠b)/\∀p∈X.pn++pins,p.1≠b)
  (keep:∀b o,b≠X.env.locals->b∉X.fs->b∉ch->s.heap.get? b=some o->H b=none->h'.get? b=some o)
  (slot:∀b o,b≠X.env.locals->b∈X.fs->b∉ch->s.heap.get? b=some o->H b=none->∃sl,h'.get? b=some {o with slots:=sl}) (free:∀b o,b∉ch->s.heap.get? b=some o->H b=none->H' b=none)
  (there:∀b o,b∉ch->s.heap.get? b=some o->∃o',h'.get? b=some o')
  (tups:∀b xs,H b=some (.tup xs)->H' b=some (.tup xs)) (frzs:∀b o u,H b=some (.frz o u)->H' b=some (.frz o u)) (tbls:∀b ps,H b=some (.tbl ps)->∃more,H' b=some (.tbl (ps++more)))
  (ns:∀m,s.heap.Ns X.env.locals m->h'.Ns X.env.locals m) (hok:io X.prog X.w H' h') (hg:AllBare g') :
  aD X pins σ H' {s with heap:=h',gens:=g',drawn:=d',toks:=t'}:=by
 have neL:∀b o,X.s₀.heap.get? b=some o->b≠X.env.locals:=fun b o e=>zax (zaB (zam e) I.ok.above)
 have neC:∀b o,X.s₀.heap.get? b=some o->b∉X.ex->b∉ch:=fun b o e hx hb=>by
  rcases (hch b hb).1 with z|z
  ·exact hx z
  ·exact absurd (zaB (zam e) z) (zaG _)
 have cellK:∀x c,X.env.cells.lookup x=some c->∀v,s.heap.IsCell c v->h'.IsCell c v:=fun x c e v ⟨o,ho,hd⟩=>by
  have nch:c∉ch:=fun z=>(hch c z).2.2.1 x c e rfl
  by_cases hc:c∈X.fs
  ·obtain ⟨sl,q⟩:=slot c o (I.cne x c e) hc nch ho (I.freeC x c e)
   exact ⟨_,q,hd⟩
  ·exact ⟨o,keep c o (I.cne x c e) hc nch ho (I.freeC x c e),hd⟩
 refine ⟨I.ok,I.os,hg,⟨fun b o e n hb hx=>?_,fun b o e n hb hx=>?_,fun b o e n hx=>?_,fun b o e hx=>?_,fun b xs e=>tups b xs (I.base.tups b xs e),fun b o xs e=>frzs b o xs (I.base.frzs b o xs e),fun b ps e=>?_⟩,?_,fun x c e=>?_,?_,fun x c e=>?_,fun p hp=>?_,hok,I.len⟩
 ·exact keep b o (neL b o e) hb (neC b o e hx) (I.base.keep b o e n hb hx) (I.base.free b o e n hx)
 ·obtain ⟨sl,e1⟩:=I.base.slot b o e n hb hx
  obtain ⟨sl',e2⟩:=slot b _ (neL b o e) hb (neC b o e hx) e1 (I.base.free b o e n hx);exact ⟨sl',e2⟩
 ·obtain ⟨o',e1⟩:=I.base.there b o e hx
  exact free b o' (neC b o e hx) e1 (I.base.free b o e n hx)
 ·obtain ⟨o',e1⟩:=I.base.there b o e hx
  exact there b o' (neC b o e hx) e1
 ·obtain ⟨m1,e1⟩:=I.base.tbls b ps e
  obtain ⟨m2,e2⟩:=tbls b _ e1;exact ⟨m1++m2,by rw [e2,Array.append_assoc]⟩
 ·obtain ⟨m,hn,hl⟩:=I.loc
  refine ⟨m,ns m hn,fun i x v e1 e2 e3=>?_⟩;obtain ⟨u,r,l⟩:=hl i x v e1 e2 e3;refine ⟨u,r,?_⟩;rcases l with l|⟨k,c,e,z⟩
  ·exact .inl l
  ·exact .inr ⟨k,c,e,cellK x c e _ z⟩
 ·obtain ⟨v,z⟩:=I.cell x c e
  exact ⟨v,cellK x c e v z⟩
 ·obtain ⟨m,⟨o,_,_,ho,_⟩,_⟩:=I.loc
  exact free _ o (fun z=>(hch _ z).2.1 rfl) ho I.free
 ·obtain ⟨v,o,ho,hd⟩:=I.cell x c e
  exact free c o (fun z=>(hch c z).2.2.1 x c e rfl) ho (I.freeC x c e)
 ·obtain ⟨e,n,ne,nf,d⟩:=I.pin p hp
  have nch:p.1∉ch:=fun z=>(hch p.1 z).2.2.2 p hp rfl;exact ⟨keep p.1 p.2 ne nf nch e n,free p.1 p.2 nch e n,ne,nf,d⟩
theorem aD.un {t':Nat}(I:aD X pins σ H s)(u:Un X.fs [] H H' s.heap h')(hok:io X.prog X.w H' h'):aD X pins σ H' {s with heap:=h',toks:=t'}:=by
 obtain ⟨m,⟨o,es,ep,ho,r⟩,_⟩:=id I.loc;obtain ⟨sl,hL⟩:=u.any ho I.free (by simp)
 exact I.step (g':=s.gens) (d':=s.drawn) (ch:=[]) (fun _ z=>nomatch z) (fun b o _ hb _ e n=>u.keep b o e n hb (by simp)) (fun b o _ hb _ e n=>u.slot b o e n hb (by simp)) (fun b o _ e n=>u.free b o e n (by simp)) (fun b o _ e=>u.there b o e (by simp)) u.tups u.frzs u.tbls (fun m' hm=>by
  obtain ⟨o',es',ep',ho',r'⟩:=hm;rw [ho] at ho';cases ho'
  exact ⟨_,es',ep',hL,r'⟩) hok I.bare
theorem aD.call {g':Array GenState}{t':Nat}{d':Drawn}{ch:Tf}(I:aD X pins σ H s)(u:Un (yj X.stack) ch H H' s.heap h')(hok:io X.prog X.w H' h')(hg:AllBare g')
  (hch:∀b∈ch,(b∈X.ex\/X.s₀.heap.objs.size<=b)/\b≠X.env.locals/\(∀x c,X.env.cells.lookup x=some c->c≠b)/\∀p∈X.pn++pins,p.1≠b) :
  aD X pins σ H' {s with heap:=h',gens:=g',drawn:=d',toks:=t'}:=by
 obtain ⟨m,⟨o,es,ep,ho,r⟩,_⟩:=id I.loc;obtain ⟨sl,hL⟩:=u.any ho I.free fun z=>(hch _ z).2.1 rfl
 exact I.step (ch:=ch) hch (fun b o hL hb hc e n=>u.keep b o e n (fun z=>(zak.mp (I.stkSub b z)).elim hL hb) hc) (fun b o _ _ hc e n=>u.any e n hc) (fun b o hc e n=>u.free b o e n hc) (fun b o hc e=>u.there b o e hc) u.tups u.frzs u.tbls (fun m' hm=>by
  obtain ⟨o',es',ep',ho',r'⟩:=hm;rw [ho] at ho';cases ho'
  exact ⟨_,es',ep',hL,r'⟩) hok hg
theorem aD.turned {t':Nat}{it:Addr}(I:aD X pins σ H s)(k:∀b o,b≠it->s.heap.get? b=some o->h'.get? b=some o)(hn:H it=none)(hL:it≠X.env.locals)
  (h1:it∈X.ex\/X.s₀.heap.objs.size<=it) (h2:∀x c,X.env.cells.lookup x=some c->c≠it) (h3:∀p∈X.pn++pins,p.1≠it):aD X pins σ H {s with heap:=h',toks:=t'}:=by
 have nit:∀b u,H b=some u->b≠it:=fun b u e z=>by rw [z,hn] at e;cases e
 refine I.step (g':=s.gens) (d':=s.drawn) (ch:=[it]) (fun b hb=>?_) (fun b o _ _ hc e _=>k b o (fun z=>hc (by simp [z])) e) (fun b o _ _ hc e _=>⟨o.slots,k b o (fun z=>hc (by simp [z])) e⟩) (fun _ _ _ _ n=>n)
  (fun b o hc e=>⟨o,k b o (fun z=>hc (by simp [z])) e⟩) (fun _ _ e=>e) (fun _ _ _ e=>e) (fun b ps e=>⟨#[],by rw [e];simp⟩) (fun m hm=>?_) (fun b u e=>?_) I.bare
 ·have e:b=it:=by simpa using hb
  subst e;exact ⟨h1,hL,h2,h3⟩
 ·obtain ⟨o,es,ep,ho,r⟩:=hm
  exact ⟨o,es,ep,k _ o (Ne.symm hL) ho,r⟩
 ·refine (I.hok b u e).stay (fun c v hc q=>k c v ?_ q) (fun _ q=>q) fun _ _ q=>q
  rcases hc with z|z
  ·rw [z];exact nit b u e
  ·exact nit c _ z
theorem aD.tok (I:aD X pins σ H s)(t:Nat):aD X pins σ H {s with toks:=t}:=I.un (h':=s.heap) (t':=t) Un.refl I.hok
theorem aD.kept {t':Nat}(I:aD X pins σ H s)(k:∀b u,s.heap.get? b=some u->h'.get? b=some u):aD X pins σ H {s with heap:=h',toks:=t'}:=I.un (Un.kept k) (I.hok.kept k)
theorem aD.laid {a:Addr}{o:HO}{t':Nat}(I:aD X pins σ H s)(k:∀b u,s.heap.get? b=some u->h'.get? b=some u)(hp:s.heap.objs.size<=a)(new:bE X.prog X.w (upd H a o) h' a o) :
  aD X pins σ (upd H a o) {s with heap:=h',toks:=t'}:=I.un (Un.laid k hp (I.hok.fresh hp)) (I.hok.laid k hp new)
theorem aD.write {x e:Addr}{o:HO}{t':Nat}(I:aD X pins σ H s)(mu:Mx (H x))(he:e=x\/H e=some (.own x))(k:∀b u,b≠e->s.heap.get? b=some u->h'.get? b=some u)(heo:∃u,h'.get? e=some u)
  (new:bE X.prog X.w (upd H x o) h' x o):aD X pins σ (upd H x o) {s with heap:=h',toks:=t'}:=I.un (Un.write mu he k heo) (I.hok.write mu he k heo new)
theorem aD.pins_of {pins':Tc}(I:aD X pins σ H s)(h:∀p∈pins',s.heap.get? p.1=some p.2/\H p.1=none/\p.1≠X.env.locals/\p.1∉X.fs/\∀v,p.2.data≠.cell v):aD X pins' σ H s :=
 ⟨I.ok,I.os,I.bare,I.base,I.loc,I.cell,I.free,I.freeC,fun p hp=>(zaW.mp hp).elim (fun z=>I.pin p (zbr _ z)) (h p),I.hok,I.len⟩
theorem sJ {N:Tl}(hN:N.Nodup){i j:Nat}{x:Str}(a:N[i]?=some x)(b:N[j]?=some x):i=j:=by
 obtain ⟨h1,e1⟩:=zau.mp a;obtain ⟨h2,e2⟩:=zau.mp b;exact (zbH hN).mp (e1.trans e2.symm)
theorem o9 {M:Model}{A:Around}{E:Tb}{i:Nat}{x:Str}{v:V}{u:Value}{Q:Unit->Shared->Prop}(I:aD X pins σ H s)(hN:X.N.Nodup)(hi:X.N[i]?=some x)(hx:Cj X.env.scope x)(r:aY v u)
  (h:∀s',aD X pins (σ.set i (some v)) H s'->(∃a,Heap.SameBut a s.heap s'.heap/\(a=X.env.locals\/X.env.cells.lookup x=some a))->Q () s') (hf:X.fn x=true\/X.env.scope.names.lookup x=some .local:=by first|exact .inl rfl|exact .inr rfl|assumption):wpAny M A (storeName X.env x u) Q E s:=by
 obtain ⟨m,hn,hl⟩:=id I.loc
 have hcls:(X.env.scope.kind == .class || (X.env.scope.kind == .module && X.env.locals != X.env.globals))=false:=by rw [I.ok.kind];rfl
 have hiσ:i < σ.length:=by rw [I.len];exact (zau.mp hi).1
 have cne:=I.cne
 have tracked:∀{a:Addr} {h':Heap},(∃o,s.heap.get? a=some o/\H a=none)->Heap.SameBut a s.heap h'->io X.prog X.w H h':=fun {a h'} ha hs b ob e=>by
  obtain ⟨_,_,hfree⟩:=ha;refine (I.hok b ob e).stay (fun c w' hc q=>(hs.2 c ?_).trans q) (fun _ q=>q) fun _ _ q=>q;rintro rfl;rcases hc with rfl|hc
  ·rw [hfree] at e;cases e
  ·rw [hfree] at hc;cases hc
 rcases hx with hk|hk
 ·refine wpAny_storeName_local hk hn (fun h' hn' hs=>?_) hcls
  obtain ⟨oL,_,_,hoL,_⟩:=id hn;refine h _ ⟨I.ok,I.os,I.bare,⟨fun b o e n hb hx=>?_,fun b o e n hb hx=>?_,I.base.free,fun b o e hx=>?_,I.base.tups,I.base.frzs,I.base.tbls⟩,⟨_,hn',fun j y v' e1 e2 e3=>?_⟩,fun y c e=>?_,I.free,I.freeC,fun p hp=>?_,tracked ⟨oL,hoL,I.free⟩ hs,by simpa using I.len⟩ ⟨_,hs,.inl rfl⟩
  ·exact (hs.2 b (zax (zaB (zam e) I.ok.above))).trans (I.base.keep b o e n hb hx)
  ·obtain ⟨sl,e1⟩:=I.base.slot b o e n hb hx
   exact ⟨sl,(hs.2 b (zax (zaB (zam e) I.ok.above))).trans e1⟩
  ·obtain ⟨o',e1⟩:=I.base.there b o e hx
   exact ⟨o',(hs.2 b (zax (zaB (zam e) I.ok.above))).trans e1⟩
  ·by_cases hj:j=i
   ·subst hj
    rw [hi] at e1;cases e1;rw [zav hiσ] at e2;cases e2;exact ⟨u,r,.inl ⟨hk,by simp⟩⟩
   ·rw [zag (Ne.symm hj)] at e2
    obtain ⟨u',r',q⟩:=hl j y v' e1 e2 e3;refine ⟨u',r',?_⟩;rcases q with ⟨k,e⟩|⟨k,c,e,z⟩
    ·refine .inl ⟨k,?_⟩
     have:y≠x:=fun e=>hj (sJ hN e1 (e ▸ hi));simp [this,e]
    ·exact .inr ⟨k,c,e,z.sameBut hs (cne y c e)⟩
  ·obtain ⟨w',z⟩:=I.cell y c e
   exact ⟨w',z.sameBut hs (cne y c e)⟩
  ·obtain ⟨e,n,ne,nf,d⟩:=I.pin p hp
   exact ⟨(hs.2 p.1 ne).trans e,n,ne,nf,d⟩
 ·have hfn:X.fn x=true:=by
   rcases hf with z|z
   ·exact z
   ·rw [z] at hk;cases hk
  obtain ⟨c,hc⟩:=I.ok.has x (.inl hk);obtain ⟨w',z⟩:=I.cell x c hc;refine wpAny_storeName_cell I.ok.kind hk hc z (fun h' hc' hs=>?_);obtain ⟨oc,hoc,hocd⟩:=id z;refine h {s with heap:=h'} ⟨I.ok,I.os,I.bare,⟨fun b o e n hb hx=>?_,fun b o e n hb hx=>?_,I.base.free,fun b o e hx=>?_,I.base.tups,I.base.frzs,I.base.tbls⟩,⟨m,hn.sameBut hs (Ne.symm (cne x c hc)),fun j y v' e1 e2 e3=>?_⟩,fun y c' e=>?_,I.free,I.freeC,fun p hp=>?_,tracked ⟨oc,hoc,I.freeC x c hc⟩ hs,by simpa using I.len⟩ ⟨c,hs,.inr hc⟩
  ·exact (hs.2 b (zax (zaB (zam e) (I.ok.cab x c hfn hc)))).trans (I.base.keep b o e n hb hx)
  ·obtain ⟨sl,e1⟩:=I.base.slot b o e n hb hx
   exact ⟨sl,(hs.2 b (zax (zaB (zam e) (I.ok.cab x c hfn hc)))).trans e1⟩
  ·obtain ⟨o',e1⟩:=I.base.there b o e hx
   exact ⟨o',(hs.2 b (zax (zaB (zam e) (I.ok.cab x c hfn hc)))).trans e1⟩
  ·by_cases hj:j=i
   ·subst hj
    rw [hi] at e1;cases e1;rw [zav hiσ] at e2;cases e2;exact ⟨u,r,.inr ⟨.inl hk,c,hc,hc'⟩⟩
   ·rw [zag (Ne.symm hj)] at e2
    obtain ⟨u',r',q⟩:=hl j y v' e1 e2 e3;refine ⟨u',r',?_⟩;rcases q with q|⟨k,c',e,z'⟩
    ·exact .inl q
    ·refine .inr ⟨k,c',e,z'.sameBut hs ?_⟩
     rintro rfl;exact hj (sJ hN e1 (I.ok.inj _ _ _ e hc ▸ hi))
  ·by_cases hcc:c'=c
   ·subst hcc;exact ⟨_,hc'⟩
   ·obtain ⟨w2,z2⟩:=I.cell y c' e
    exact ⟨w2,z2.sameBut hs hcc⟩
  ·obtain ⟨e,n,ne,nf,d⟩:=I.pin p hp
   refine ⟨(hs.2 p.1 ?_).trans e,n,ne,nf,d⟩;intro q;rw [q,hoc] at e;have q':oc=p.2:=Option.some.inj e;exact d w' (by rw [←q'];exact hocd)
theorem hX {M:Model}{A:Around}{E:Tb}{i:Nat}{x:Str}{v:V}{u:Value}{Q:Unit->Shared->Prop}(I:aD X pins σ H s)(hN:X.N.Nodup)(hi:X.N[i]?=some x)(hx:Cj X.env.scope x)(r:aY v u)
  (h:∀s',aD X pins (σ.set i (some v)) H s'->Q () s') (hf:X.fn x=true\/X.env.scope.names.lookup x=some .local:=by first|exact .inl rfl|exact .inr rfl|assumption):wpAny M A (storeName X.env x u) Q E s :=
 o9 I hN hi hx r (fun s' I' _=>h s' I') hf
theorem aD.call' {s':Shared}{ch:Tf}(I:aD X pins σ H s)(ho:s'.os=s.os)(u:Un (yj X.stack) ch H H' s.heap s'.heap)(hok:io X.prog X.w H' s'.heap)(hg:AllBare s'.gens)
  (hch:∀b∈ch,(b∈X.ex\/X.s₀.heap.objs.size<=b)/\b≠X.env.locals/\(∀x c,X.env.cells.lookup x=some c->c≠b)/\∀p∈X.pn++pins,p.1≠b):aD X pins σ H' s':=by
 obtain ⟨h',g',d',t',o'⟩:=s';have e:o'=s.os:=ho;subst e;exact I.call (g':=g') (t':=t') (d':=d') u hok hg hch
end
abbrev XK:=Value->Option Addr->Hp->Prop
abbrev St:=List (Option V)
abbrev VK:=V->Hp->Prop
abbrev TE:=St->Hp->VK->Prop
abbrev TT:=St->Hp->(Bool->Hp->Prop)->Prop
abbrev TA:=St->Hp->(List V->Hp->Prop)->Prop
structure eJ where
 nx:St->Hp->Prop
 rt:VK
 bk:St->Hp->Prop:=fun _ _=>False
 ct:St->Hp->Prop:=fun _ _=>False
abbrev TS:=eJ->St->Hp->Prop
def EP (X:Cx)(pins:Tc)(σ:St)(Q:VK)(u:Value)(s':Shared):Prop:=∃v H',aD X pins σ H' s'/\aY v u/\Q v H'
def TP (X:Cx)(pins:Tc)(σ:St)(Q:Bool->Hp->Prop)(b:Bool)(s':Shared):Prop:=∃H',aD X pins σ H' s'/\Q b H'
def AP (X:Cx)(pins:Tc)(σ:St)(Q:List V->Hp->Prop)(us:Te)(s':Shared):Prop:=∃vs H',aD X pins σ H' s'/\aU vs us/\Q vs H'
def SP (X:Cx)(pins:Tc)(D:eJ)(f:Flow)(s':Shared):Prop :=
 match f with
 |.next=>∃σ' H',aD X pins σ' H' s'/\D.nx σ' H'
 |.brk=>∃σ' H',aD X pins σ' H' s'/\D.bk σ' H'
 |.cont=>∃σ' H',aD X pins σ' H' s'/\D.ct σ' H'
 |.ret u=>∃v σ' H',aD X pins σ' H' s'/\aY v u/\D.rt v H'
def PE (X:Cx)(e:Expr)(t:TE):Prop :=
 ∀(pins:Tc) (s:Shared) (σ:St) (H:Hp) (Q:VK),aD X pins σ H s->t σ H Q->wpAny (model X.prog X.w) X.A (eval e X.env) (EP X pins σ Q) X.xe s
def PT (X:Cx)(e:Expr)(t:TT):Prop :=
 ∀(pins:Tc) (s:Shared) (σ:St) (H:Hp) (Q:Bool->Hp->Prop),aD X pins σ H s->t σ H Q->wpAny (model X.prog X.w) X.A (isTrue e X.env (eval e X.env)) (TP X pins σ Q) X.xe s
def PW (X:Cx)(e:Expr)(t:TT):Prop :=
 ∀(whole:Sem Value) (pins:Tc) (s:Shared) (σ:St) (H:Hp) (Q:Bool->Hp->Prop),aD X pins σ H s->t σ H Q->wpAny (model X.prog X.w) X.A (isTrue e X.env whole) (TP X pins σ Q) X.xe s
theorem PW.pt {e:Expr}{t:TT}(h:PW X e t):PT X e t:=h _
def PA (X:Cx)(es:Tj)(t:TA):Prop :=
 ∀(pos:Pos) (pins:Tc) (s:Shared) (σ:St) (H:Hp) (Q:List V->Hp->Prop),aD X pins σ H s->t σ H Q->wpAny (model X.prog X.w) X.A (spliced (backTo pos (starEach es X.env))) (AP X pins σ Q) X.xe s
def PS (X:Cx)(st:Stmt)(t:TS):Prop :=
 ∀(pins:Tc) (s:Shared) (σ:St) (H:Hp) (D:eJ),aD X pins σ H s->t D σ H->wpAny (model X.prog X.w) X.A (exec st X.env) (SP X pins D) X.xe s
def oG (X:Cx)(st:Tk)(t:TS):Prop :=
 ∀(pins:Tc) (s:Shared) (σ:St) (H:Hp) (D:eJ),aD X pins σ H s->t D σ H->wpAny (model X.prog X.w) X.A (execs st X.env) (SP X pins D) X.xe s
theorem cy {α:Type}{t:Sem α}{Q Q':α->Shared->Prop}{M:Model}{E:Tb}{s:Shared}(h:wpAny M A t Q E s)(hQ:∀a s,Q a s->Q' a s):wpAny M A t Q' E s:=zbB h hQ fun _ _ x=>x
section
variable  {X:Cx}
def Ko (i:Nat):TE:=fun σ H Q=>∃v,σ[i]?=some (some v)/\Q v H
def tC (v:V):TE:=fun _ H Q=>Q v H
theorem Ig {i:Nat}{x:Str}{pos:Pos}(hN:X.N[i]?=some x)(hv:Mu X.env.scope x)(hd:(x == ("__debug__" : Str))=false:=by decide)(hcd:(x == ("__classdict__" : Str))=false:=by decide):PE X (.Name x pos) (Ko i):=by
 intro pins s σ H Q I h;obtain ⟨v,e,h⟩:=h;obtain ⟨m,hn,hl⟩:=I.loc;obtain ⟨u,r,l⟩:=hl i x v hN e hv;have fin:EP X pins σ Q u s:=⟨v,H,I,r,h⟩;rcases l with ⟨hk,hm⟩|⟨hk,c,hc,hcell⟩
 ·exact wpAny_Name (wpAny_loadName_local I.ok.kind hk hn hm fin) hd
 ·rcases hk with hk|hk
  ·exact wpAny_Name (wpAny_loadName_cell I.ok.kind hk hc hcell fin) hd
  ·exact wpAny_Name (wpAny_loadName_free I.ok.kind hk hc hcell fin hcd) hd
theorem Ij {i j pos}:PE X (.Constant (.int i) j pos) (tC (.int i)):=fun _ _ _ H _ I h=>wpAny_Constant_int ⟨.int i,H,I.tok _,⟨_,rfl⟩,h⟩
theorem Li {b j pos}:PE X (.Constant (.bool b) j pos) (tC (.bl b)):=fun _ _ _ H _ I h=>Constant_bool ⟨.bl b,H,I,rfl,h⟩
theorem AJ {j pos}:PE X (.Constant .none j pos) (tC .non):=fun _ _ _ H _ I h=>Constant_none ⟨.non,H,I,rfl,h⟩
def Gl (X:Cx)(x:Str):Prop:=X.env.kindOf x=some .globalImplicit
theorem wM {E:Tb}{s:Shared}{H:Hp}{x:Str}{u:Value}{pos:Pos}{Q:Tb}(I:aD X pins σ H s)(hg:Gl X x)(hm:X.mg x=some u)(h:Q u s)
  (hd:(x == ("__debug__" : Str))=false:=by decide):wpAny (model X.prog X.w) X.A (eval (.Name x pos) X.env) Q E s :=
 Calls.Name_function_global I.ok.kind hg (Calls.loadGlobal_global (by rw [I.ok.glob];exact I.mod.glob.keeps I.bk) hm h) hd
theorem j9 {E:Tb}{s:Shared}{H:Hp}{x:Str}{u:Value}{pos:Pos}{Q:Tb}(I:aD X pins σ H s)(hg:Gl X x)(hm:X.mg x=none)(hv:bootBuiltins x=some u)(h:Q u s)
  (hn:x≠"__name__":=by decide) (hd:(x == ("__debug__" : Str))=false:=by decide):wpAny (model X.prog X.w) X.A (eval (.Name x pos) X.env) Q E s:=by
 obtain ⟨mb,h1,h2⟩:=I.mod.blt;exact Calls.Name_function_global I.ok.kind hg (Calls.loadGlobal_builtin (by rw [I.ok.glob];exact I.mod.glob.keeps I.bk) hm (by rw [I.ok.blt];exact h1.keeps I.bk) ((h2 x hn).trans hv) h) hd
theorem DG {x:Str}{v:V}{u:Value}{pos:Pos}(hg:Gl X x)(hm:X.mg x=some u)(r:aY v u)(hd:(x == ("__debug__" : Str))=false:=by decide):PE X (.Name x pos) (tC v) :=
 fun _ _ _ H _ I h=>wM I hg hm ⟨v,H,I,r,h⟩ hd
theorem DI {x:Str}{v:V}{u:Value}{pos:Pos}(hg:Gl X x)(hm:X.mg x=none)(hv:bootBuiltins x=some u)(r:aY v u)(hn:x≠"__name__":=by decide)(hd:(x == ("__debug__" : Str))=false:=by decide):PE X (.Name x pos) (tC v) :=
 fun _ _ _ H _ I h=>j9 I hg hm hv ⟨v,H,I,r,h⟩ hn hd
variable  {a b:Expr}{ta tb:TE}{pos:Pos}
def tB (t:TE):TT:=fun σ H Q=>t σ H fun x H1=>∃c,x=.bl c/\Q c H1
variable  {tA tB':TT}{rest:Tj}
def Kw (t u:TT):TT:=fun σ H Q=>t σ H fun c H1=>if c=true then u σ H1 Q else Q false H1
def QG (t u:TT):TT:=fun σ H Q=>t σ H fun c H1=>if c=true then Q true H1 else u σ H1 Q
def Kr (t:TT):TT:=fun σ H Q=>t σ H fun c H1=>Q (!c) H1
theorem Dj (ha:PT X a tA):PW X (.BoolOp .And [a] pos) tA:=by
 intro wh pins s σ H Q I h;refine isTrue_and (cy (ha pins s σ H Q I h) fun c s1 e=>?_)
 cases c with
 |true=>exact isTrue_and_nil e
 |false=>exact e
theorem HR (ha:PT X a tA):PW X (.BoolOp .Or [a] pos) tA:=by
 intro wh pins s σ H Q I h;refine isTrue_or (cy (ha pins s σ H Q I h) fun c s1 e=>?_)
 cases c with
 |false=>exact isTrue_or_nil e
 |true=>exact e
theorem HU (ha:PT X a tA)(hb:PW X (.BoolOp .And (b::rest) pos) tB'):PW X (.BoolOp .And (a::b::rest) pos) (Kw tA tB'):=by
 intro wh pins s σ H Q I h;refine isTrue_and (cy (ha pins s σ H _ I h) fun c s1 hh=>?_);obtain ⟨H1,I1,q1⟩:=hh
 cases c with
 |true=>exact hb wh pins s1 σ H1 Q I1 q1
 |false=>exact ⟨H1,I1,q1⟩
theorem K9 (ha:PT X a tA)(hb:PW X (.BoolOp .Or (b::rest) pos) tB'):PW X (.BoolOp .Or (a::b::rest) pos) (QG tA tB'):=by
 intro wh pins s σ H Q I h;refine isTrue_or (cy (ha pins s σ H _ I h) fun c s1 hh=>?_);obtain ⟨H1,I1,q1⟩:=hh
 cases c with
 |true=>exact ⟨H1,I1,q1⟩
 |false=>exact hb wh pins s1 σ H1 Q I1 q1
theorem HY (ha:PT X a tA):PT X (.UnaryOp .Not a pos) (Kr tA):=by
 intro pins s σ H Q I h;exact isTrue_not (ha pins s σ H (fun c H1=>Q (!c) H1) I h)
def FH (ta tb:TE):TE:=fun σ H Q=>ta σ H fun x H1=>∃c,x=.bl c/\if c=true then tb σ H1 Q else Q (.bl false) H1
def FB (ta:TE):TE:=fun σ H Q=>ta σ H fun x H1=>∃c,x=.bl c/\Q (.bl (!c)) H1
theorem Ih {op}{t:TE}(h:PE X a t):PE X (.BoolOp op [a] pos) t:=fun pins s σ H Q I hw=>BoolOp_one (h pins s σ H Q I hw)
theorem Im (ha:PE X a ta)(hb:PE X (.BoolOp .And (b::rest) pos) tb):PE X (.BoolOp .And (a::b::rest) pos) (FH ta tb):=by
 intro pins s σ H Q I h;refine BoolOp_and (cy (ha pins s σ H _ I h) fun v s1 hh=>?_);obtain ⟨x,H1,I1,r1,q1⟩:=hh;obtain ⟨c,rfl,q1⟩:=q1;cases r1;refine zcg ?_
 cases c with
 |true=>exact hb pins s1 σ H1 Q I1 q1
 |false=>exact ⟨.bl false,H1,I1,rfl,q1⟩
theorem Ii (ha:PE X a ta):PE X (.UnaryOp .Not a pos) (FB ta):=by
 intro pins s σ H Q I h;refine UnaryOp_ (cy (ha pins s σ H _ I h) fun v s1 hh=>?_);obtain ⟨x,H1,I1,r1,q1⟩:=hh;obtain ⟨c,rfl,q1⟩:=q1;cases r1;exact not_of (zcg ⟨.bl (!c),H1,I1,rfl,q1⟩)
def QH (t:TT)(ta tb:TE):TE:=fun σ H Q=>t σ H fun c H1=>if c=true then ta σ H1 Q else tb σ H1 Q
theorem AL {c:Expr}(hc:PT X c tA)(ha:PE X a ta)(hb:PE X b tb):PE X (.IfExp c a b pos) (QH tA ta tb):=by
 intro pins s σ H Q I h;refine wpAny_IfExp (cy (hc pins s σ H _ I h) fun d s1 hh=>?_);obtain ⟨H1,I1,q1⟩:=hh
 cases d with
 |true=>exact ha pins s1 σ H1 Q I1 q1
 |false=>exact hb pins s1 σ H1 Q I1 q1
end
def g9 (K:zac)(H:Hp)(a:Addr)(xs:List V):Prop :=
 Rd H a (.lst xs) \/
  ∃(o:Obj) (its:Ti) (n:Nat),K.lookup a=some o/\o.cls=.type "list"/\(o.dict=none/\o.slots = #[])/\o.data=.seq its n/\its.size<=sizeLine/\aU xs its.toList
def gG (K:zac)(H:Hp)(a:Addr)(xs:List V):Prop :=
 Rd H a (.tup xs) \/
  ∃(o:Obj) (its:Ti) (n:Nat),K.lookup a=some o/\o.cls=.type "tuple"/\o.dict=none/\o.data=.seq its n/\its.size<=sizeLine/\aU xs its.toList
def Px:Value->Option V
 |.none=>some .non
 |.bool b=>some (.bl b)
 |.int i _=>some (.int i)
 |.str x _=>some (.str x)
 |.bytes b _=>some (.byt b)
 |.float b _=>some (.flt b)
 |.ref a=>some (.ref a)
 |.type n=>some (.ty n)
 |_=>none
theorem aY.abs {x:V}{u:Value}(r:aY x u):Px u=some x:=by
 cases x with
 |non=>cases r;rfl
 |bl _=>cases r;rfl
 |int _=>obtain ⟨t,rfl⟩:=r;rfl
 |str _=>obtain ⟨t,rfl⟩:=r;rfl
 |byt _=>obtain ⟨t,rfl⟩:=r;rfl
 |flt _=>obtain ⟨t,rfl⟩:=r;rfl
 |ref _=>cases r;rfl
 |ty _=>cases r;rfl
theorem aY.inj {x y:V}{u:Value}(r:aY x u)(q:aY y u):x=y:=Option.some.inj (r.abs.symm.trans q.abs)
theorem aU.inj {xs ys:List V}{us:Te}(h:aU xs us):aU ys us->xs=ys:=by
 induction h generalizing ys with
 |nil=>intro q;cases q;rfl
 |cons r t ih=>intro q;cases q with|cons r' t'=>rw [r.inj r',ih t']
section
variable  {X:Cx}{pins:Tc}{σ:St}{H:Hp}{s:Shared}{a:Addr}{xs ys:List V}
theorem gG.of {K:zac}(h:H a=some (.tup xs)):gG K H a xs:=.inl (.inl h)
theorem aD.list (I:aD X pins σ H s)(h:g9 X.K H a xs):∃its:Te,aU xs its/\PlainL s.heap a its.toArray/\xs.length<=sizeLine:=by
 rcases h with h|⟨o,its,n,hk,hc,hd,hs,hz,r⟩
 ·obtain ⟨z,its,n,r,e⟩:=h.ok I.hok
  exact ⟨its,r,⟨_,n,e,rfl,rfl,rfl⟩,z⟩
 ·refine ⟨its.toList,r,⟨o,n,I.kIn a o hk,hc,hd.1,by simpa using hs⟩,?_⟩
  have e:=r.length;simp only [zaN] at e;omega
theorem aD.tuple (I:aD X pins σ H s)(h:gG X.K H a xs):∃its:Te,aU xs its/\IsTup s.heap a its.toArray/\xs.length<=sizeLine:=by
 rcases h with h|⟨o,its,n,hk,hc,hn,hs,hz,r⟩
 ·obtain ⟨z,its,r,p⟩:=h.ok I.hok
  exact ⟨its,r,p.1,z⟩
 ·refine ⟨its.toList,r,⟨o,I.kIn a o hk,hc,n,by simpa using hs⟩,?_⟩
  have e:=r.length;simp only [zaN] at e;omega
theorem aD.list_inj (I:aD X pins σ H s)(h:g9 X.K H a xs)(h':g9 X.K H a ys):xs=ys:=by
 obtain ⟨its,r,⟨o,n,e,_,_,d⟩,_⟩:=I.list h;obtain ⟨its',r',⟨o',n',e',_,_,d'⟩,_⟩:=I.list h';rw [e] at e';cases e';rw [d] at d'
 injection d' with d1 _
 have:its=its':=by simpa using congrArg Array.toList d1
 subst this;exact r.inj r'
theorem aD.tuple_inj (I:aD X pins σ H s)(h:gG X.K H a xs)(h':gG X.K H a ys):xs=ys:=by
 obtain ⟨its,r,⟨o,e,_,n,d⟩,_⟩:=I.tuple h;obtain ⟨its',r',⟨o',e',_,n',d'⟩,_⟩:=I.tuple h';rw [e] at e';cases e';rw [d] at d'
 injection d' with d1 _
 have:its=its':=by simpa using congrArg Array.toList d1
 subst this;exact r.inj r'
end
abbrev Cx.wish (X:Cx)(E:Tb):Cx:={X with xe:=E}
abbrev Cx.nox (X:Cx):Cx:=X.wish fun _ _=>False
theorem Cx.Ok.wish {X:Cx}(ok:X.Ok)(E:Tb):(X.wish E).Ok :=
 ⟨ok.mod,ok.kind,ok.glob,ok.blt,ok.above,ok.inj,ok.has,ok.cab,ok.hd,ok.frames,ok.stk,ok.exf,ok.bs,ok.bsz,ok.noex,ok.exfs,ok.funs,ok.frf⟩
theorem Cx.Ok.unwish {X:Cx}{E:Tb}(ok:(X.wish E).Ok):X.Ok :=
 ⟨ok.mod,ok.kind,ok.glob,ok.blt,ok.above,ok.inj,ok.has,ok.cab,ok.hd,ok.frames,ok.stk,ok.exf,ok.bs,ok.bsz,ok.noex,ok.exfs,ok.funs,ok.frf⟩
section
variable  {X:Cx}{pins:Tc}{σ:St}{H:Hp}{s:Shared}{E:Tb}
theorem aD.wish (I:aD X pins σ H s)(E:Tb):aD (X.wish E) pins σ H s:=⟨I.ok.wish E,I.os,I.bare,I.base,I.loc,I.cell,I.free,I.freeC,I.pin,I.hok,I.len⟩
theorem aD.unwish (I:aD (X.wish E) pins σ H s):aD X pins σ H s:=⟨I.ok.unwish,I.os,I.bare,I.base,I.loc,I.cell,I.free,I.freeC,I.pin,I.hok,I.len⟩
theorem SP.unwish {D:eJ}{f:Flow}{s':Shared}(h:SP (X.wish E) pins D f s'):SP X pins D f s':=by
 cases f with
 |next=>obtain ⟨σ',H',I,q⟩:=h;exact ⟨σ',H',I.unwish,q⟩
 |brk=>obtain ⟨σ',H',I,q⟩:=h;exact ⟨σ',H',I.unwish,q⟩
 |cont=>obtain ⟨σ',H',I,q⟩:=h;exact ⟨σ',H',I.unwish,q⟩
 |ret u=>obtain ⟨v,σ',H',I,r,q⟩:=h;exact ⟨v,σ',H',I.unwish,r,q⟩
theorem oG.nox {st:Tk}{t:TS}(h:oG X.nox st t):oG X st t:=fun pins s σ H D I hw =>
 zbB (h pins s σ H D (I.wish _) hw) (fun _ _ q=>q.unwish) fun _ _ z=>False.elim z
end
section
variable  {X:Cx}{st:Stmt}{rest:Tk}{t u:TS}{e:Expr}{te:TE}{pos:Pos}
def FC:TS:=fun D σ H=>D.nx σ H
def Kp (t u:TS):TS:=fun D σ H=>t {D with nx:=u D} σ H
theorem Dm:oG X [] FC:=fun _ _ σ H _ I h=>zdh ⟨σ,H,I,h⟩
theorem Ax (h1:PS X st t)(h2:oG X rest u):oG X (st::rest) (Kp t u):=by
 intro pins s σ H D I h;refine wpAny_execs_cons (cy (h1 pins s σ H {D with nx:=u D} I h) fun f s1 q=>?_)
 cases f with
 |next =>
  obtain ⟨σ',H',I',q⟩:=q;exact h2 pins s1 σ' H' D I' q
 |ret v=>exact q
 |brk=>exact q
 |cont=>exact q
theorem Dl (h1:PS X st t):oG X [st] t:=by
 intro pins s σ H D I h;refine wpAny_execs_cons (cy (h1 pins s σ H D I h) fun f s1 q=>?_)
 cases f with
 |next=>exact zdh q
 |ret v=>exact q
 |brk=>exact q
 |cont=>exact q
theorem aD.quiet {H:Hp}{s:Shared}(I:aD X pins σ H s):interactive X.env=false:=by simp [interactive,I.ok.kind]
def FD (te:TE):TS:=fun D σ H=>te σ H fun _ H1=>D.nx σ H1
theorem Do (he:PE X e te)(hs:swapsWith e none pos.line X.env=pure false:=by rfl):PS X (.Expr e pos) (FD te):=by
 intro pins s σ H D I h;exact wpAny_Expr_any (cy (he pins s σ H _ I h) fun v s1 ⟨x,H1,I1,r1,q1⟩=>⟨σ,H1,I1,q1⟩) I.quiet hs
def Kq (te:TE):TS:=fun D σ H=>te σ H D.rt
theorem H9 (he:PE X e te):PS X (.Return (some e) pos) (Kq te):=by
 intro pins s σ H D I h;exact wpAny_Return_some (cy (he pins s σ H _ I h) fun v s1 ⟨x,H1,I1,r1,q1⟩=>⟨x,σ,H1,I1,r1,q1⟩)
def Ks (c:TT)(t u:TS):TS:=fun D σ H=>c σ H fun b H1=>if b=true then t D σ H1 else u D σ H1
theorem Lc {c:Expr}{a b:Tk}{tc:TT}(hc:PT X c tc)(ha:oG X a t)(hb:oG X b u):PS X (.If c a b pos) (Ks tc t u):=by
 intro pins s σ H D I h;refine wpAny_If (cy (hc pins s σ H _ I h) fun d s1 hh=>?_);obtain ⟨H1,I1,q1⟩:=hh
 cases d with
 |true=>exact ha pins s1 σ H1 D I1 q1
 |false=>exact hb pins s1 σ H1 D I1 q1
end
abbrev TG:=V->St->Hp->(St->Hp->Prop)->Prop
abbrev Ct:=List V->St->Hp->(St->Hp->Prop)->Prop
def PG (X:Cx)(target:Expr)(t:TG):Prop :=
 ∀(pins:Tc) (s:Shared) (σ:St) (H:Hp) (v:V) (u:Value) (Q:St->Hp->Prop),aD X pins σ H s->aY v u->t v σ H Q ->
  wpAny (model X.prog X.w) X.A (assign target X.env u) (fun _ s'=>∃σ' H',aD X pins σ' H' s'/\Q σ' H') X.xe s
def Cu (X:Cx)(ts:Tj)(t:Ct):Prop :=
 ∀(pins:Tc) (s:Shared) (σ:St) (H:Hp) (vs:List V) (us:Te) (Q:St->Hp->Prop),aD X pins σ H s->aU vs us->t vs σ H Q ->
  wpAny (model X.prog X.w) X.A (assignInOrder ((assignEach ts X.env).map (·.2)) us) (fun _ s'=>∃σ' H',aD X pins σ' H' s'/\Q σ' H') X.xe s
abbrev EH:=V->V->V->Hp->(Hp->Prop)->Prop
def uf (X:Cx)(t:EH):Prop :=
 ∀(pins:Tc) (s:Shared) (σ:St) (H:Hp) (o i v:V) (ov iv u:Value) (Q:Hp->Prop),aD X pins σ H s->aY o ov->aY i iv->aY v u->t o i v H Q ->
  wpAny (model X.prog X.w) X.A (setItem ov iv u) (fun _ s'=>∃H',aD X pins σ H' s'/\Q H') X.xe s
abbrev NI:=V->V->Hp->VK->Prop
def Rl (X:Cx)(op:Operator)(t:NI):Prop :=
 ∀(pins:Tc) (s:Shared) (σ:St) (H:Hp) (x y:V) (v u:Value) (Q:VK),aD X pins σ H s->aY x v->aY y u->t x y H Q ->
  wpAny (model X.prog X.w) X.A (inplaceOp op v u) (EP X pins σ Q) X.xe s
section
variable  {X:Cx}{pos:Pos}
def pM (i:Nat):TG:=fun v σ H Q=>Q (σ.set i (some v)) H
theorem DB {i:Nat}{x:Str}(hN:X.N.Nodup)(hi:X.N[i]?=some x)(hx:Cj X.env.scope x)(hf:X.fn x=true\/X.env.scope.names.lookup x=some .local:=by first|exact .inl rfl|exact .inr rfl|assumption):PG X (.Name x pos) (pM i):=by
 intro pins s σ H v u Q I r h;exact wpAny_assign_Name (hX I hN hi hx r (fun s' I'=>⟨_,H,I',h⟩) hf)
def LS:Ct:=fun vs σ H Q=>vs=[]/\Q σ H
def Ge (t:TG)(u:Ct):Ct:=fun vs σ H Q=>∃v r,vs=v::r/\t v σ H fun σ' H'=>u r σ' H' Q
theorem DA:Cu X [] LS:=by
 intro pins s σ H vs us Q I r h;obtain ⟨e,h⟩:=h;subst e;cases r;exact assignInOrder_nil ⟨σ,H,I,h⟩
theorem AG {e:Expr}{es:Tj}{t:TG}{u:Ct}(h1:PG X e t)(h2:Cu X es u)
  (hs:(assignEach (e::es) X.env).map (·.2)=assign e X.env::(assignEach es X.env).map (·.2):=by rfl):Cu X (e::es) (Ge t u):=by
 intro pins s σ H vs us Q I r h;obtain ⟨v,vr,e1,h⟩:=h;subst e1
 cases r with
 |cons r rr =>
  rw [hs];refine assignInOrder_cons (cy (h1 pins s σ H _ _ _ I r h) fun _ s1 hh=>?_);obtain ⟨σ1,H1,I1,q1⟩:=hh;exact h2 pins s1 σ1 H1 _ _ Q I1 rr q1
def LR (K:zac)(n:Nat)(t:Ct):TG:=fun v σ H Q=>∃a xs,v=.ref a/\gG K H a xs/\xs.length=n/\t xs σ H Q
theorem Ic {es:Tj}{k:Nat}{t:Ct}{n:Nat}(hc:X.calm=true)(h:Cu X es t)
  (hn:(assignEach es X.env).length=n:=by rfl) (hst:(assignEach es X.env).findIdx? (·.1)=none:=by rfl):PG X (.Tuple es k pos) (LR X.K n t):=by
 intro pins s σ H v u Q I r hw;obtain ⟨a,xs,e1,hq,hl,hw⟩:=hw;subst e1;cases r;obtain ⟨its,rv,ht,hz⟩:=I.tuple hq;refine assign_Tuple_tuple (I.ok.hd hc) ht (by simp [hn,←hl,rv.length]) hst fun h' hx=>?_;have I1:aD X pins σ H {s with heap:=h'}:=I.kept (t':=s.toks) fun b o e=>hx b o (zax (zam e)) e;exact h pins _ σ H xs _ Q I1 (by simpa using rv) hw
def qH (to ti:TE)(t:EH):TG:=fun v σ H Q=>to σ H fun o H1=>ti σ H1 fun i H2=>t o i v H2 fun H3=>Q σ H3
theorem Id {o i:Expr}{to ti:TE}{t:EH}(ho:PE X o to)(hi:PE X i ti)(hs:uf X t)
  (ha:∀v,assign (.Subscript o i pos) X.env v=(do
   let ov ←holding [v] (eval o X.env)
   let iv ←holding [v,ov] (eval i X.env)
   standAt pos
   holding [v,ov,iv] (setItem ov iv v)
   release [v,ov,iv] []):=by intro _;rfl):PG X (.Subscript o i pos) (qH to ti t):=by
 intro pins s σ H v u Q I r h;rw [ha];refine zab (zaF (cy (ho pins s σ H _ I h) fun ov s1 hh=>?_));obtain ⟨x,H1,I1,r1,q1⟩:=hh;refine zab (zaF (cy (hi pins s1 σ H1 _ I1 q1) fun iv s2 hh=>?_));obtain ⟨y,H2,I2,r2,q2⟩:=hh;refine zab (wpAny_standAt (zab (zaF (cy (hs pins s2 σ H2 x y v ov iv u _ I2 r1 r2 r q2) fun _ s3 hh=>?_))));obtain ⟨H3,I3,q3⟩:=hh;exact wpAny_release ⟨σ,H3,I3,q3⟩
def zy (te:TE)(g:TG):TS:=fun D σ H=>te σ H fun x H1=>g x σ H1 D.nx
theorem Ib {tg e:Expr}{te:TE}{g:TG}(he:PE X e te)(hg:PG X tg g)(hs:swapsWithSole [tg] e pos.line X.env=pure false:=by rfl)(hw:swappedStores [tg] e X.env=pure none:=by rfl)
  (h1:(assignEach [tg] X.env).map (·.2)=[assign tg X.env]:=by rfl):PS X (.Assign [tg] e pos) (zy te g):=by
 intro pins s σ H D I h;refine wpAny_Assign_stores (cy (he pins s σ H _ I h) fun v s1 hh=>?_) hs hw;obtain ⟨x,H1,I1,r1,q1⟩:=hh;rw [h1];exact cy (hg pins s1 σ H1 x v _ I1 r1 q1) fun _ s2 q=>q
theorem HZ {i:Nat}{x:Str}{e:Expr}{te:TE}{pos':Pos}(hN:X.N.Nodup)(hi:X.N[i]?=some x)(hx:Cj X.env.scope x)(he:PE X e te)(hs:swapsWith e (some (.Name x pos')) pos.line X.env=pure false:=by rfl)(hf:X.fn x=true\/X.env.scope.names.lookup x=some .local:=by first|exact .inl rfl|exact .inr rfl|assumption) :
  PS X (.Assign [.Name x pos'] e pos) (zy te (pM i)):=by
 intro pins s σ H D I h;refine wpAny_Assign_Name (cy (he pins s σ H _ I h) fun v s1 hh=>?_) hs;obtain ⟨y,H1,I1,r1,q1⟩:=hh;exact hX I1 hN hi hx r1 (fun s2 I2=>⟨_,H1,I2,q1⟩) hf
def Kv (i:Nat)(te:TE)(ti:NI):TS:=fun D σ H=>∃x,σ[i]?=some (some x)/\te σ H fun y H1=>ti x y H1 fun z H2=>D.nx (σ.set i (some z)) H2
theorem Ia {i:Nat}{x:Str}{e:Expr}{te:TE}{op:Operator}{ti:NI}{pos':Pos}(hN:X.N.Nodup)(hi:X.N[i]?=some x)(hx:Cj X.env.scope x)(he:PE X e te)(ho:Rl X op ti)(hf:X.fn x=true\/X.env.scope.names.lookup x=some .local:=by first|exact .inl rfl|exact .inr rfl|assumption) :
  PS X (.AugAssign (.Name x pos') op e pos) (Kv i te ti):=by
 intro pins s σ H D I h;obtain ⟨v,e1,h⟩:=h;obtain ⟨m,hn,hl⟩:=I.loc
 have vis:Mu X.env.scope x:=by rcases hx with k|k;exact .inl k;exact .inr (.inl k)
 obtain ⟨u,r,l⟩:=hl i x v hi e1 vis;refine wpAny_AugAssign_Name ?_
 have go:wpAny (model X.prog X.w) X.A (eval e X.env) (fun w s₂=>wpAny (model X.prog X.w) X.A (inplaceOp op u w) (fun r s₃=>wpAny (model X.prog X.w) X.A (storeName X.env x r) (fun _=>SP X pins D .next) X.xe s₃) X.xe s₂) X.xe s:=by
  refine cy (he pins s σ H _ I h) fun w s1 hh=>?_;obtain ⟨y,H1,I1,r1,q1⟩:=hh;refine cy (ho pins s1 σ H1 v y u w _ I1 r r1 q1) fun z s2 hh=>?_;obtain ⟨zv,H2,I2,r2,q2⟩:=hh;exact hX I2 hN hi hx r2 (fun s3 I3=>⟨_,H2,I3,q2⟩) hf
 rcases l with ⟨hk,hm⟩|⟨hk,c,hc,hcell⟩
 ·exact wpAny_loadName_local I.ok.kind hk hn hm go
 ·rcases hk with hk|hk
  ·exact wpAny_loadName_cell I.ok.kind hk hc hcell go
  ·rcases hx with k|k
   ·have:X.env.scope.names.lookup x=some .free:=hk
    rw [k] at this;cases this
   ·have:X.env.scope.names.lookup x=some .free:=hk
    rw [k] at this;cases this
def QL (f:Int->Int->Int):NI:=fun x y H Q=>∃i j,x=.int i/\y=.int j/\Q (.int (f i j)) H
theorem IU:Rl X .Add (QL fun i j=>i+j):=by
 intro pins s σ H x y v u Q I r1 r2 h;obtain ⟨i,j,e1,e2,q⟩:=h;subst e1;subst e2;obtain ⟨t,rfl⟩:=r1;obtain ⟨t',rfl⟩:=r2;exact iadd_int ⟨.int _,H,I.tok _,⟨_,rfl⟩,q⟩
end
structure It where
 go:Nat->Hp->Prop
 yld:Nat->Hp->V->Hp->Prop
 stop:Nat->Hp->Prop
def l0 (X:Cx)(pins:Tc)(H:Hp)(b:Addr):Prop :=
 H b=none/\b≠X.env.locals/\b∉X.fs/\(b∈X.ex\/X.s₀.heap.objs.size<=b)/\(∀x c,X.env.cells.lookup x=some c->c≠b)/\∀p∈X.pn++pins,p.1≠b
theorem aD.fpOk {H H':Hp}{s:Shared}{b:Addr}(I:aD X pins σ H s)(hb:s.heap.objs.size<=b)(hn:H' b=none):l0 X pins H' b:=by
 refine ⟨hn,zbF (zaB I.lt hb),I.nofs hb,.inr (zbg I.sz hb),fun x c e z=>?_,fun p hp z=>?_⟩
 ·obtain ⟨v,q⟩:=I.cell x c e
  exact absurd (zaB q.lt (by rw [z];exact hb)) (zaG _)
 ·exact absurd (zaB (zam (I.pin p hp).1) (by rw [z];exact hb)) (zaG _)
structure vV (P:Program)(w:World)(K:zac)(tg:Expr)(J:It)(fp:Tf)(it:Addr)(tn:Nat->Heap->Prop):Prop where
 mem:it∈fp
 obj:∀i h,tn i h->∀b∈fp,∃o,h.get? b=some o/\∀v,o.data≠.cell v
 keep:∀i h h',tn i h->(∀b∈fp,∀o,h.get? b=some o->h'.get? b=some o)->tn i h'
 item:∀(X:Cx),X.prog=P->X.w=w->X.K=K->X.calm=true->∀(i:Nat) (pins:Tc) (s:Shared) (σ:St) (H:Hp) (E:Tb),aD X pins σ H s->(∀b∈fp,l0 X pins H b)->tn i s.heap->J.go i H ->
  wpAny (model P w) X.A (pyNext (.ref it)) (fun r s1=>∃u,r=some u /\
   wpAny (model P w) X.A (letOwnedTupleGo tg (.ref it) u) (fun _ s2=>∃x H',aD X pins σ H' s2/\aY x u/\J.yld i H x H'/\tn (i+1) s2.heap/\∀b∈fp,H' b=none) E s1) E s
 done:∀(X:Cx),X.prog=P->X.w=w->X.K=K->X.calm=true->∀(i:Nat) (pins:Tc) (s:Shared) (σ:St) (H:Hp) (E:Tb),aD X pins σ H s->(∀b∈fp,l0 X pins H b)->tn i s.heap->J.stop i H ->
  wpAny (model P w) X.A (pyNext (.ref it)) (fun r s1=>r=none/\aD X pins σ H s1) E s
 self:∀(A:Around) (i:Nat) (s:Shared) (Q:Tb) (E:Tb),tn i s.heap->Q (.ref it) s->wpAny (model P w) A (pyIter (.ref it)) Q E s
abbrev TI:=St->Hp->(It->Hp->Prop)->Prop
def Rm (X:Cx)(pins:Tc)(σ:St)(tg:Expr)(R:It->Hp->Prop)(itv:Value)(s2:Shared):Prop :=
 ∃(it:Addr) (fp:Tf) (tn:Nat->Heap->Prop) (J:It) (H':Hp),itv=.ref it/\aD X pins σ H' s2/\vV X.prog X.w X.K tg J fp it tn/\tn 0 s2.heap/\(∀b∈fp,l0 X pins H' b)/\R J H'
def PI (X:Cx)(tg iter:Expr)(wi:TI):Prop :=
 ∀(pins:Tc) (s:Shared) (σ:St) (H:Hp) (R:It->Hp->Prop),aD X pins σ H s->wi σ H R ->
  wpAny (model X.prog X.w) X.A (eval iter X.env) (fun v s1=>wpAny (model X.prog X.w) X.A (pyIter v) (Rm X pins σ tg R) X.xe s1) X.xe s
theorem wW {M : Model} {A : Around} {E : Tb} {s : Shared} {tg : Expr} {it : Addr} {u : Value} {o : Obj} {n : String} {vs : Ti} {Q : Unit -> Shared -> Prop} (ho : s.heap.get? it = some o) (hc : o.cls = .type n) (hd : o.data = .fields vs)
    (hn : ["enumerate", "zip", "dict_itemiterator", "dict_reverseitemiterator", "odict_iterator", "itertools.zip_longest", "itertools.pairwise"].contains n = false) (hQ : Q () s) : wpAny M A (letOwnedTupleGo tg (.ref it) u) Q E s := by
  unfold letOwnedTupleGo
  cases tg <;> first
    | exact zad hQ
    | (cases u <;> first
        | exact zad hQ
        | (refine zab (wpAny_load ho ?_)
           rw [hc, hd]
           show wpAny M A (if (["enumerate", "zip", "dict_itemiterator", "dict_reverseitemiterator", "odict_iterator", "itertools.zip_longest", "itertools.pairwise"].contains n && vs[0]? == some (rawInt _)) = true then _ else _) Q E s
           rw [if_neg (by intro h; rw [hn, Bool.false_and] at h; cases h)]
           exact zad hQ))
def PM (K:zac)(a:Addr):It :=
 ⟨fun i H=>∃xs x,g9 K H a xs/\xs[i]?=some x,fun i H x H'=>H'=H/\∀xs,g9 K H a xs->xs[i]?=some x,fun i H=>∃xs,g9 K H a xs/\xs.length<=i⟩
def PL (K:zac)(a:Addr):It :=
 ⟨fun i H=>∃xs x,gG K H a xs/\xs[i]?=some x,fun i H x H'=>H'=H/\∀xs,gG K H a xs->xs[i]?=some x,fun i H=>∃xs,gG K H a xs/\xs.length<=i⟩
def NM (lo:Int)(n:Nat):It:=⟨fun i _=>i < n,fun i H x H'=>H'=H/\x=.int (lo+i),fun i _=>n<=i⟩
theorem xz {P:Program}{w:World}{K:zac}{tg:Expr}(a it:Addr):vV P w K tg (PM K a) [it] it (fun i h=>h.IsListIter it a i) where
 mem:=by simp
 obj:=fun i h st b hb=>by
  have e:b=it:=by simpa using hb
  subst e;obtain ⟨o,e,c,d⟩:=st;exact ⟨o,e,fun v z=>by rw [d] at z;cases z⟩
 keep:=fun i h h' st k=>st.at fun o e=>k it (by simp) o e
 item:=by
  intro X hP hw hK hc i pins s σ H E I hf st hg;subst hP hw hK;obtain ⟨xs,x,hq,hx⟩:=hg;obtain ⟨its,rv,p,hz⟩:=I.list hq;obtain ⟨u,hu,ru⟩:=rv.get hx;obtain ⟨f0,f1,f2,f3,f4,f5⟩:=hf it (by simp);refine wpAny_pyNext_list_item st p.isList (x:=u) (by simpa using hu) fun h' st' sb=>?_;have I1:aD X pins σ H {s with heap:=h'}:=I.turned (t':=s.toks) (fun b o hb e=>(sb.2 b hb).trans e) f0 f1 f3 f4 f5;obtain ⟨o,e,c,d⟩:=id st';exact ⟨u,rfl,wW (s:={s with heap:=h'}) e c d (by decide) ⟨x,H,I1,ru,⟨rfl,fun ys hy=>by rw [I.list_inj hy hq];exact hx⟩,st',fun b hb=>(hf b hb).1⟩⟩
 done:=by
  intro X hP hw hK hc i pins s σ H E I hf st hg;subst hP hw hK;obtain ⟨xs,hq,hx⟩:=hg;obtain ⟨its,rv,p,hz⟩:=I.list hq;obtain ⟨f0,f1,f2,f3,f4,f5⟩:=hf it (by simp);have hl:=rv.length;exact wpAny_pyNext_list_end (I.ok.hd hc) st p.isList (by simp;omega) fun h' eb=>⟨rfl,I.turned (t':=s.toks) (fun b o hb e=>eb b o hb e) f0 f1 f3 f4 f5⟩
 self:=fun _ _ _ _ _ st h=>wpAny_pyIter_listiter st h
theorem uA {P:Program}{w:World}{K:zac}{tg:Expr}(a it:Addr):vV P w K tg (PL K a) [it] it (fun i h=>h.IsTupleIter it a i) where
 mem:=by simp
 obj:=fun i h st b hb=>by
  have e:b=it:=by simpa using hb
  subst e;obtain ⟨o,e,c,d⟩:=st;exact ⟨o,e,fun v z=>by rw [d] at z;cases z⟩
 keep:=fun i h h' st k=>st.at fun o e=>k it (by simp) o e
 item:=by
  intro X hP hw hK hc i pins s σ H E I hf st hg;subst hP hw hK;obtain ⟨xs,x,hq,hx⟩:=hg;obtain ⟨its,rv,p,hz⟩:=I.tuple hq;obtain ⟨u,hu,ru⟩:=rv.get hx;obtain ⟨f0,f1,f2,f3,f4,f5⟩:=hf it (by simp);refine wpAny_pyNext_tuple_item st (show s.heap.IsTuple a its.toArray from p) (x:=u) (by simpa using hu) fun h' st' sb=>?_;have I1:aD X pins σ H {s with heap:=h'}:=I.turned (t':=s.toks) (fun b o hb e=>(sb.2 b hb).trans e) f0 f1 f3 f4 f5;obtain ⟨o,e,c,d⟩:=id st';exact ⟨u,rfl,wW (s:={s with heap:=h'}) e c d (by decide) ⟨x,H,I1,ru,⟨rfl,fun ys hy=>by rw [I.tuple_inj hy hq];exact hx⟩,st',fun b hb=>(hf b hb).1⟩⟩
 done:=by
  intro X hP hw hK hc i pins s σ H E I hf st hg;subst hP hw hK;obtain ⟨xs,hq,hx⟩:=hg;obtain ⟨its,rv,p,hz⟩:=I.tuple hq;obtain ⟨f0,f1,f2,f3,f4,f5⟩:=hf it (by simp);have hl:=rv.length;exact wpAny_pyNext_tuple_end (I.ok.hd hc) st (show s.heap.IsTuple a its.toArray from p) (by simp;omega) fun h' eb=>⟨rfl,I.turned (t':=s.toks) (fun b o hb e=>eb b o hb e) f0 f1 f3 f4 f5⟩
 self:=fun _ _ _ _ _ st h=>wpAny_pyIter_tupleiter st h
theorem uB {P:Program}{w:World}{K:zac}{tg:Expr}(it:Addr)(lo:Int)(n:Nat):vV P w K tg (NM lo n) [it] it (fun i h=>IsRangeIter h it (lo+(i:Nat) * 1) ((n:Int) - (i:Nat)) 1) where
 mem:=by simp
 obj:=fun i h st b hb=>by
  have e:b=it:=by simpa using hb
  subst e
  exact ⟨_,st,fun v z=>by
   have z':Data.fields _=Data.cell v:=z
   cases z'⟩
 keep:=fun i h h' st k=>k it (by simp) _ st
 item:=by
  intro X hP hw hK hc i pins s σ H E I hf st hg;subst hP hw hK;obtain ⟨f0,f1,f2,f3,f4,f5⟩:=hf it (by simp);have W:=Walks.range (prog:=X.prog) (w:=X.w) (I.ok.hd hc) it lo 1 n;refine W.item i s _ _ hg st fun v h' tk hv st' kk=>?_;obtain ⟨t,rfl⟩:=hv;have I1:aD X pins σ H {s with heap:=h',toks:=tk}:=I.turned (fun b o hb e=>kk b o (by simpa using hb) e) f0 f1 f3 f4 f5;refine ⟨_,rfl,wW (s:={s with heap:=h',toks:=tk}) (n:="range_iterator") st' rfl rfl (by decide) ⟨.int (lo+i),H,I1,⟨t,?_⟩,⟨rfl,rfl⟩,st',fun b hb=>(hf b hb).1⟩⟩;rw [Int.mul_one]
 done:=by
  intro X hP hw hK hc i pins s σ H E I hf st hg;subst hP hw hK;obtain ⟨f0,f1,f2,f3,f4,f5⟩:=hf it (by simp);exact wpAny_pyNext_range_end (I.ok.hd hc) st (by have:n<=i:=hg;omega) fun h' eb=>⟨rfl,I.turned (t':=s.toks) (fun b o hb e=>eb b o hb e) f0 f1 f3 f4 f5⟩
 self:=fun _ _ _ _ _ st h=>wpAny_pyIter_rangeiter st h
section
variable  {X:Cx}{tg:Expr}
theorem Ae {H:Hp}{s:Shared}{R:It->Hp->Prop}{E:Tb}{lo hi:Int}{t u v:Tok}{tk:Nat}(I:aD X pins σ H s)(h1 : -(2 ^ 62)<=lo)(h2:lo < 2 ^ 62)(h3 : -(2 ^ 62)<=hi)(h4:hi < 2 ^ 62)
  (q:R (NM lo (hi - lo).toNat) H):wpAny (model X.prog X.w) X.A (pyIter (.ref s.heap.objs.size)) (Rm X pins σ tg R) E {s with heap:=s.heap.push {cls:=.type "range",data:=.fields #[.int lo t,.int hi u,.int 1 v]},toks:=tk}:=by
 refine wpAny_pyIter_range (IsRange.new ..) (small_one h1 h2 h3 h4) ?_;have I1:aD X pins σ H {s with heap:=s.heap.push {cls:=.type "range",data:=.fields #[.int lo t,.int hi u,.int 1 v]},toks:=tk}:=I.kept fun b o e=>zae _ e
 refine ⟨(s.heap.push {cls:=.type "range",data:=.fields #[.int lo t,.int hi u,.int 1 v]}).objs.size,[(s.heap.push {cls:=.type "range",data:=.fields #[.int lo t,.int hi u,.int 1 v]}).objs.size],_,_,H,rfl,
  I1.kept (t':=tk) fun b o e=>zae _ e,uB _ lo (hi - lo).toNat,?_,fun b hb=>?_,q⟩
 ·have e1:lo+((0:Nat):Int) * 1=lo:=by simp
  have e2:(((hi - lo).toNat:Nat):Int) - ((0:Nat):Int)=Builtin.Range.rangeSize lo hi 1:=by rw [rangeSize_one];split <;> omega
  show IsRangeIter _ _ (lo+((0:Nat):Int) * 1) ((((hi - lo).toNat:Nat):Int) - ((0:Nat):Int)) 1
  rw [e1,e2];exact zaq _ rfl
 ·have e:b=(s.heap.push {cls:=.type "range",data:=.fields #[.int lo t,.int hi u,.int 1 v]}).objs.size:=by simpa using hb
  subst e;exact I1.fpOk (zao _) (I1.hok.fresh (zao _))
def F7 (ta:TA):TI:=fun σ H R=>ta σ H fun vs H1=>∃j:Int,vs=[.int j]/\-(2 ^ 62)<=j/\j < 2 ^ 62/\R (NM 0 j.toNat) H1
theorem xS {a:Expr}{ta:TA}{p pos:Pos}(hg:Gl X "range")(hm:X.mg "range" = none)(ha:PA X [a] ta)(hs:starEach [a] X.env=[(false,eval a X.env)]:=by rfl):PI X tg (.Call (.Name "range" p) [a] [] pos) (F7 ta):=by
 intro pins s σ H R I h;refine Call_ (j9 I hg hm boot_range (PyProof.Rows.callWith_type1 (cy (ha pos pins s σ H _ I h) fun us s1 hh=>?_) hs rfl));obtain ⟨vs,H1,I1,r1,q1⟩:=hh;obtain ⟨j,e,q1,q2,q⟩:=q1;subst e
 cases r1 with
 |cons r rr =>
  cases rr;obtain ⟨t,rfl⟩:=r;exact call_range_1 (Ae I1 (by omega) (by omega) q1 q2 (by simpa using q))
def GT (wi:TI)(g:TG)(tb:TS):TS:=fun D σ H=>wi σ H fun J H1=>∃W:Nat->Nat->St->Hp->Prop,(∃m,W 0 m σ H1)/\∀i m σ H,W i m σ H ->
 (J.stop i H/\D.nx σ H)\/(J.go i H/\∃N:St->Hp->Prop,(∀σ' H',N σ' H'->∃m',m' < m/\W (i+1) m' σ' H')/\∀x H',J.yld i H x H'->g x σ H' fun σ2 H2=>tb {D with nx:=N,ct:=N,bk:=D.nx} σ2 H2)
def j6 (fp:Tf)(h:Heap):Tc:=fp.filterMap fun b=>(h.get? b).map fun o=>(b,o)
theorem eW {fp:Tf}{h:Heap}{b:Addr}{o:Obj}(hb:b∈fp)(e:h.get? b=some o):(b,o)∈j6 fp h:=zcX.mpr ⟨b,hb,by rw [e];rfl⟩
theorem pF {fp:Tf}{h:Heap}{p:Addr×Obj}(hp:p∈j6 fp h):p.1∈fp/\h.get? p.1=some p.2:=by
 obtain ⟨b,hb,e⟩:=zcX.mp hp
 cases q:h.get? b with
 |none=>rw [q] at e;cases e
 |some o =>
  rw [q] at e;have e':(b,o)=p:=Option.some.inj e;subst e';exact ⟨hb,q⟩
theorem aD.pinned {H:Hp}{s:Shared}{fp:Tf}(I:aD X pins σ H s)(hf:∀b∈fp,l0 X pins H b)(ho:∀b∈fp,∃o,s.heap.get? b=some o/\∀v,o.data≠.cell v):aD X (pins++j6 fp s.heap) σ H s :=
 I.pins_of fun p hp=>(zaW.mp hp).elim (fun z=>I.pin p (zaA _ z)) fun z=>by
  obtain ⟨hb,e⟩:=pF z;obtain ⟨f0,f1,f2,_⟩:=hf p.1 hb;obtain ⟨o,e',d⟩:=ho p.1 hb;rw [e] at e';cases e';exact ⟨e,f0,f1,f2,d⟩
theorem aD.unpinned {pins pl:Tc}{H:Hp}{s:Shared}(I:aD X (pins++pl) σ H s):aD X pins σ H s:=I.pins_of fun p hp=>I.pin p (zaA _ (zbr _ hp))
theorem Ay {iter:Expr}{body:Tk}{wi:TI}{g:TG}{tb:TS}{pos:Pos}(hp:PassesOwn (model X.prog X.w) X.A X.env X.xe)(hc:X.calm=true)(hi:PI X tg iter wi)(hg:PG X tg g)(hb:oG X body tb)
  (hs:∀x,foldedSetIterable iter X.env x=pure x:=by intro _;rfl):PS X (.For tg iter body [] pos) (GT wi g tb):=by
 intro pins s σ H D I h;refine wpAny_For (cy (hi pins s σ H _ I h) fun v s1 h1=>cy h1 fun itv s2 h2=>?_) hs;obtain ⟨it,fp,tn,J,H2,e,I2,T,st2,f2,W,⟨m0,w0⟩,turn⟩:=h2;subst e;have stat:∀{H':Hp},(∀b∈fp,H' b=none)->∀b∈fp,l0 X pins H' b:=fun hn b hb=>⟨hn b hb,(f2 b hb).2⟩;refine codeAny_forLoop_any (fun n s'=>∃i σ' H',aD X pins σ' H' s'/\tn i s'.heap/\(∀b∈fp,H' b=none)/\W i n σ' H') ?_ m0 ⟨0,σ,H2,I2,st2,fun b hb=>(f2 b hb).1,w0⟩;rintro n s3 ⟨i,σ3,H3,I3,st3,fr3,w3⟩;rcases turn i n σ3 H3 w3 with ⟨stop,qn⟩|⟨go,N,hN,step⟩
 ·refine zcn hp (cy (T.done X rfl rfl rfl hc i pins s3 σ3 H3 X.xe I3 (stat fr3) st3 stop) fun r s4 hh=>?_)
  obtain ⟨hr,I4⟩:=hh;subst hr;exact zdh ⟨σ3,H3,I4,qn⟩
 ·refine zcn hp (cy (T.item X rfl rfl rfl hc i pins s3 σ3 H3 X.xe I3 (stat fr3) st3 go) fun r s4 hh=>?_)
  obtain ⟨u,hr,h4⟩:=hh;subst hr;refine zcn hp (cy h4 fun _ s5 hh=>?_);obtain ⟨x,H5,I5,r5,y5,st5,fr5⟩:=hh;have I5':=I5.pinned (stat fr5) (T.obj _ _ st5);refine zcn hp (cy (hg _ s5 σ3 H5 x u _ I5' r5 (step x H5 y5)) fun _ s6 hh=>?_);obtain ⟨σ6,H6,I6,q6⟩:=hh;refine zcn hp (cy (hb _ s6 σ6 H6 _ I6 q6) fun f s7 q7=>?_)
  have again:∀{σ7:St} {H7:Hp},aD X (pins++j6 fp s5.heap) σ7 H7 s7->N σ7 H7->∃m,m < n/\∃i σ' H',aD X pins σ' H' s7/\tn i s7.heap/\(∀b∈fp,H' b=none)/\W i m σ' H':=fun {σ7 H7} I7 n7=>by
   obtain ⟨m',hm,w7⟩:=hN σ7 H7 n7;refine ⟨m',hm,i+1,σ7,H7,I7.unpinned,T.keep _ _ _ st5 fun b hb o e=>(I7.pin (b,o) (zaA _ (zaA _ (eW hb e)))).1,fun b hb=>?_,w7⟩;obtain ⟨o,e,d⟩:=T.obj _ _ st5 b hb;exact (I7.pin (b,o) (zaA _ (zaA _ (eW hb e)))).2.1
  cases f with
  |next=>obtain ⟨σ7,H7,I7,n7⟩:=q7;exact again I7 n7
  |cont=>obtain ⟨σ7,H7,I7,n7⟩:=q7;exact again I7 n7
  |brk=>obtain ⟨σ7,H7,I7,q7⟩:=q7;exact ⟨σ7,H7,I7.unpinned,q7⟩
  |ret v=>obtain ⟨x7,σ7,H7,I7,r7,q7⟩:=q7;exact ⟨x7,σ7,H7,I7.unpinned,r7,q7⟩
end
abbrev R2:=V->V->Hp->VK->Prop
def jU (X:Cx)(f:Value->Value->Sem Value)(r:R2):Prop :=
 ∀(pins:Tc) (s:Shared) (σ:St) (H:Hp) (x y:V) (v u:Value) (Q:VK),aD X pins σ H s->aY x v->aY y u->r x y H Q ->
  wpAny (model X.prog X.w) X.A (f v u) (EP X pins σ Q) X.xe s
def Py (X:Cx)(f:Value->Sem Value)(r:V->Hp->VK->Prop):Prop :=
 ∀(pins:Tc) (s:Shared) (σ:St) (H:Hp) (x:V) (v:Value) (Q:VK),aD X pins σ H s->aY x v->r x H Q ->
  wpAny (model X.prog X.w) X.A (f v) (EP X pins σ Q) X.xe s
def im (X:Cx)(f:Value)(r:List V->Hp->VK->Prop):Prop :=
 ∀(pins:Tc) (s:Shared) (σ:St) (H:Hp) (xs:List V) (us:Te) (Q:VK),aD X pins σ H s->aU xs us->r xs H Q ->
  wpAny (model X.prog X.w) X.A (call f us) (EP X pins σ Q) X.xe s
def PB (X:Cx)(r:V->Hp->(Bool->Hp->Prop)->Prop):Prop :=
 ∀(pins:Tc) (s:Shared) (σ:St) (H:Hp) (x:V) (v:Value) (Q:Bool->Hp->Prop),aD X pins σ H s->aY x v->r x H Q ->
  wpAny (model X.prog X.w) X.A (truthy v) (TP X pins σ Q) X.xe s
def JL (r:R2)(ta tb:TE):TE:=fun σ H Q=>ta σ H fun x H1=>tb σ H1 fun y H2=>r x y H2 Q
def QE (r:V->Hp->VK->Prop)(ta:TE):TE:=fun σ H Q=>ta σ H fun x H1=>r x H1 Q
def rI (C:Int->Int->Prop)(g:Int->Int->V):R2:=fun x y H Q=>∃i j,x=.int i/\y=.int j/\C i j/\Q (g i j) H
def xN (g:Int->Int->V):R2:=fun x y H Q=>∃i j,x=.int i/\y=.int j/\Q (g i j) H
def rU (g:Int->V):V->Hp->VK->Prop:=fun x H Q=>∃i,x=.int i/\Q (g i) H
section
variable  {X:Cx}{a b c:Expr}{ta tb tc:TE}{pos:Pos}
theorem JB (ha:PE X a ta)(hb:PE X b tb){s:Shared}{H:Hp}{R:V->V->Hp->Prop}(I:aD X pins σ H s)
  (h:ta σ H fun x H1=>tb σ H1 fun y H2=>R x y H2) {Q:Tb} {f:Value->Value->Sem Value}
  (hf:∀v u s2 x y H2,aD X pins σ H2 s2->aY x v->aY y u->R x y H2->wpAny (model X.prog X.w) X.A (f v u) Q X.xe s2) :
  wpAny (model X.prog X.w) X.A (eval a X.env) (fun v s₁=>wpAny (model X.prog X.w) X.A (eval b X.env) (fun u s₂=>wpAny (model X.prog X.w) X.A (f v u) Q X.xe s₂) X.xe s₁) X.xe s:=by
 refine cy (ha pins s σ H _ I h) fun v s1 hh=>?_;obtain ⟨x,H1,I1,r1,q1⟩:=hh;refine cy (hb pins s1 σ H1 _ I1 q1) fun u s2 hh=>?_;obtain ⟨y,H2,I2,r2,q2⟩:=hh;exact hf v u s2 x y H2 I2 r1 r2 q2
theorem nL {op:Operator}{r:R2}(ho:jU X (binaryOp op) r)(ha:PE X a ta)(hb:PE X b tb):PE X (.BinOp a op b pos) (JL r ta tb):=by
 intro pins s σ H Q I h;exact wpAny_BinOp (JB ha hb I h fun v u s2 x y H2 I2 rx ry q=>ho pins s2 σ H2 x y v u Q I2 rx ry q)
theorem Lf {op:UnaryOp}{r:V->Hp->VK->Prop}(ho:Py X (unaryOp op) r)(ha:PE X a ta):PE X (.UnaryOp op a pos) (QE r ta):=by
 intro pins s σ H Q I h;exact UnaryOp_ (cy (ha pins s σ H _ I h) fun v s1 ⟨x,H1,I1,r1,q1⟩=>ho pins s1 σ H1 x v Q I1 r1 q1)
theorem MJ {f:Value->Value->Sem Value}{C:Int->Int->Prop}{g:Int->Int->Int}
  (rule:∀(i j:Int) (t u:Tok) (s:Shared) (Q:Tb) (E:Tb),C i j->Q (.int (g i j) s.toks) {s with toks:=s.toks+1}->wpAny (model X.prog X.w) X.A (f (.int i t) (.int j u)) Q E s) :
  jU X f (rI C fun i j=>.int (g i j)):=by
 intro pins s σ H x y v u Q I rx ry h;obtain ⟨i,j,rfl,rfl,hc,q⟩:=h;obtain ⟨t,rfl⟩:=rx;obtain ⟨t',rfl⟩:=ry;exact rule i j t t' s _ _ hc ⟨.int (g i j),H,I.tok _,⟨_,rfl⟩,q⟩
theorem Ll {f:Value->Value->Sem Value}{g:Int->Int->Int}
  (rule:∀(i j:Int) (t u:Tok) (s:Shared) (Q:Tb) (E:Tb),Q (.int (g i j) s.toks) {s with toks:=s.toks+1}->wpAny (model X.prog X.w) X.A (f (.int i t) (.int j u)) Q E s) :
  jU X f (xN fun i j=>.int (g i j)):=by
 intro pins s σ H x y v u Q I rx ry h;obtain ⟨i,j,rfl,rfl,q⟩:=h;obtain ⟨t,rfl⟩:=rx;obtain ⟨t',rfl⟩:=ry;exact rule i j t t' s _ _ ⟨.int (g i j),H,I.tok _,⟨_,rfl⟩,q⟩
theorem Iv {f:Value->Value->Sem Value}{g:Int->Int->Bool}
  (rule:∀(i j:Int) (t u:Tok) (s:Shared) (Q:Tb) (E:Tb),Q (.bool (g i j)) s->wpAny (model X.prog X.w) X.A (f (.int i t) (.int j u)) Q E s) :
  jU X f (xN fun i j=>.bl (g i j)):=by
 intro pins s σ H x y v u Q I rx ry h;obtain ⟨i,j,rfl,rfl,q⟩:=h;obtain ⟨t,rfl⟩:=rx;obtain ⟨t',rfl⟩:=ry;exact rule i j t t' s _ _ ⟨.bl (g i j),H,I,rfl,q⟩
def JJ (i j:Int):Prop:=0 < j/\j < 1073741824
def JI (i j:Int):Prop:=0<=j/\j<=1000000/\i.natAbs < 2 ^ 64
def Cn (i j:Int):Prop:=(-(2 ^ 64) < i/\i < 2 ^ 64)\/(-(2 ^ 64) < j/\j < 2 ^ 64)
theorem Cn.ok {i j:Int}(h:Cn i j):IntMulOk i j:=by
 rcases h with ⟨h1,h2⟩|⟨h1,h2⟩
 ·exact .of_left (intBits_le_64 h1 h2)
 ·exact .of_right (intBits_le_64 h1 h2)
theorem Iu:jU X (binaryOp .Add) (xN fun i j=>.int (i+j)):=Ll fun _ _ _ _ _ _ _ q=>add_int q
theorem Io:jU X (binaryOp .Sub) (xN fun i j=>.int (i - j)):=Ll fun _ _ _ _ _ _ _ q=>sub_int q
theorem Iq:jU X (binaryOp .Mult) (rI Cn fun i j=>.int (i * j)):=MJ fun _ _ _ _ _ _ _ hc q=>mul_int q hc.ok
theorem DN:jU X (binaryOp .FloorDiv) (rI JJ fun i j=>.int (i / j)):=MJ fun i j _ _ _ _ _ hc q=>by
 have h1:(0:Int) < j:=hc.1;have h2:j < 1073741824:=hc.2;exact floordiv_int (by omega) (by rw [Int.fdiv_eq_ediv_of_nonneg i (by omega)];exact q) (.inl (PyProof.noPylong_small (by omega)))
theorem Ir:jU X (binaryOp .Mod) (rI (fun _ j=>0 < j) fun i j=>.int (i % j)):=MJ fun i j _ _ _ _ _ hc q=>by
 have h1:(0:Int) < j:=hc;exact mod_int' (by omega) (by rw [Int.fmod_eq_emod_of_nonneg i (by omega)];exact q)
theorem Ip:jU X (binaryOp .Pow) (rI JI fun i j=>.int (i ^ j.toNat)):=MJ fun _ _ _ _ _ _ _ hc q=>pow_int_small hc.1 hc.2.1 hc.2.2 q
theorem RD {f:Value->Sem Value}{g:Int->Int}
  (rule:∀(i:Int) (t:Tok) (s:Shared) (Q:Tb) (E:Tb),Q (.int (g i) s.toks) {s with toks:=s.toks+1}->wpAny (model X.prog X.w) X.A (f (.int i t)) Q E s) :
  Py X f (rU fun i=>.int (g i)):=by
 intro pins s σ H x v Q I rx h;obtain ⟨i,rfl,q⟩:=h;obtain ⟨t,rfl⟩:=rx;exact rule i t s _ _ ⟨.int (g i),H,I.tok _,⟨_,rfl⟩,q⟩
theorem GJ:Py X (unaryOp .USub) (rU fun i=>.int (-i)):=RD fun _ _ _ _ _ q=>neg_int q
end
section
variable  {X:Cx}{a b c:Expr}{ta tb tc:TE}{pos:Pos}
theorem Ji {H:Hp}{s:Shared}{Q:VK}{k k':Bool}(I:aD X pins σ H s)(q:Q (.bl k) H)(e:k=k'):EP X pins σ Q (.bool k') s:=by
 subst e;exact ⟨.bl k,H,I,rfl,q⟩
theorem F0:jU X (compareOp .Lt) (xN fun i j=>.bl (decide (i < j))):=Iv fun _ _ _ _ _ _ _ q=>lt_int q
theorem Lj:jU X (compareOp .LtE) (xN fun i j=>.bl (decide (i<=j))):=Iv fun _ _ _ _ _ _ _ q=>le_int q
theorem Lk:jU X (compareOp .Gt) (xN fun i j=>.bl (decide (j < i))):=Iv fun _ _ _ _ _ _ _ q=>gt_int q
theorem DM:jU X (compareOp .IsNot) (fun x y H Q=>y=.non/\Q (.bl (!decide (x=.non))) H):=by
 intro pins s σ H x y v u Q I rx ry h;obtain ⟨rfl,q⟩:=h;cases ry;refine isnot_none_gen (Ji I q ?_)
 cases x <;> first
  |(cases rx;rfl)
  |(obtain ⟨t,rfl⟩:=rx;rfl)
theorem jU.or {f:Value->Value->Sem Value}{r r':R2}(h:jU X f r)(h':jU X f r'):jU X f (fun x y H Q=>r x y H Q\/r' x y H Q):=by
 intro pins s σ H x y v u Q I rx ry q;rcases q with q|q
 ·exact h pins s σ H x y v u Q I rx ry q
 ·exact h' pins s σ H x y v u Q I rx ry q
theorem gW (b:Expr){op:CmpOp}(h:op≠.In:=by decide)(h2:op≠.NotIn:=by decide):behindInMarks op b=false:=by
 have e1:(op == CmpOp.In)=false:=by cases op <;> first|rfl|exact absurd rfl h
 have e2:(op == CmpOp.NotIn)=false:=by cases op <;> first|rfl|exact absurd rfl h2
 cases b <;> simp [behindInMarks,e1,e2]
theorem qy {op:CmpOp}{r:R2}(ho:jU X (compareOp op) r)(ha:PE X a ta)(hb:PE X b tb)(hm:behindInMarks op b=false):PE X (.Compare a [op] [b] pos) (JL r ta tb):=by
 intro pins s σ H Q I h;exact wpAny_Compare1 (JB ha hb I h fun v u s2 x y H2 I2 rx ry q=>ho pins s2 σ H2 x y v u Q I2 rx ry q) hm
def Fv (t:TE):TT:=fun σ H Q=>t σ H fun x H'=>∃k,x=.bl k/\Q k H'
theorem wz {op:CmpOp}{r:R2}(ho:jU X (compareOp op) r)(ha:PE X a ta)(hb:PE X b tb)(hm:behindInMarks op b=false):PT X (.Compare a [op] [b] pos) (Fv (JL r ta tb)):=by
 intro pins s σ H Q I h;refine wpAny_isTrue_Compare1 (cy (ha pins s σ H _ I h) fun v s1 hh=>?_) hm;obtain ⟨x,H1,I1,r1,q1⟩:=hh;refine cy (hb pins s1 σ H1 _ I1 q1) fun u s2 hh=>?_;obtain ⟨y,H2,I2,r2,q2⟩:=hh;refine cy (ho pins s2 σ H2 x y v u _ I2 r1 r2 q2) fun c s3 hh=>?_;obtain ⟨z,H3,I3,r3,k,e,q3⟩:=hh;subst e;cases r3;exact zcg ⟨H3,I3,q3⟩
def ED (K:zac)(x:V)(H:Hp)(k:Bool):Prop :=
 match x with
 |.non=>k=false
 |.bl b=>k=b
 |.int i=>k=(i != 0)
 |.str y=>y.length<=sizeLine/\k=((y.length:Int) != 0)
 |.byt y=>y.size<=sizeLine/\k=((y.size:Int) != 0)
 |.ref p=>(∃xs,g9 K H p xs/\k = !xs.isEmpty)\/(∃xs,gG K H p xs/\k = !xs.isEmpty)\/∃kvs,H p=some (.dK kvs)/\k = !kvs.isEmpty
 |_=>False
theorem vb {κ:Type}{kvs:List (κ×V)}{vs:List (κ×Value)}(r:KV kvs vs):(!vs.isEmpty) = !kvs.isEmpty:=by
 cases r <;> rfl
theorem nV {xs:List V}{its:Te}(r:aU xs its):(!its.toArray.isEmpty) = !xs.isEmpty:=by
 cases r <;> simp
theorem lL:(sizeLine:Nat) < 2 ^ 63:=by rw [zbh];decide
theorem uC:PB X (fun x H Q=>∃k,ED X.K x H k/\Q k H):=by
 intro pins s σ H x v Q I rx h;obtain ⟨k,e,q⟩:=h;have hl:=lL;have hs:sizeLine=16777216:=zbh
 cases x with
 |non =>
  cases rx;have e':k=false:=e;subst e';exact truthy_none ⟨H,I,q⟩
 |bl b =>
  cases rx;have e':k=b:=e;subst e';exact zcg ⟨H,I,q⟩
 |int i =>
  obtain ⟨t,rfl⟩:=rx;have e':k=(i != 0):=e;subst e';exact PySem.P.truthy_int ⟨H,I,q⟩
 |str y =>
  obtain ⟨t,rfl⟩:=rx;obtain ⟨hy,e'⟩:y.length<=sizeLine/\k=((y.length:Int) != 0):=e;subst e';exact PySem.P.truthy_str (by omega) ⟨H,I.tok _,q⟩
 |byt y =>
  obtain ⟨t,rfl⟩:=rx;obtain ⟨hy,e'⟩:y.size<=sizeLine/\k=((y.size:Int) != 0):=e;subst e';exact PySem.W.truthy_bytes (by omega) ⟨H,I.tok _,q⟩
 |ref p =>
  cases rx;have e':(∃xs,g9 X.K H p xs/\k = !xs.isEmpty)\/(∃xs,gG X.K H p xs/\k = !xs.isEmpty)\/∃kvs,H p=some (.dK kvs)/\k = !kvs.isEmpty:=e;rcases e' with ⟨xs,hx,e'⟩|⟨xs,hx,e'⟩|⟨kvs,hx,e'⟩
  ·subst e'
   obtain ⟨its,r,pl,hz⟩:=I.list hx;have hlen:=r.length;exact wpAny_truthy_list pl.isList (by simp only [zat];omega) ⟨H,I.tok _,by rw [nV r];exact q⟩
  ·subst e'
   obtain ⟨its,r,pl,hz⟩:=I.tuple hx;have hlen:=r.length;exact truthy_tuple pl (by simp only [zat];omega) ⟨H,I.tok _,by rw [nV r];exact q⟩
  ·subst e'
   obtain ⟨hz,hS,vs,r,m⟩:kvs.length<=sizeLine/\(p == sysModules)=false/\∃vs,KV kvs vs/\s.heap.DictOf (aX X.prog X.w) p vs:=I.hok p _ hx;have hlen:kvs.length=vs.length:=Paired.length r;exact wpAny_truthy_dict hS m (by omega) ⟨H,I.tok _,by rw [vb r];exact q⟩
 |_=>exact (show False from e).elim
theorem Aw (ha:PE X a ta)(he:∀whole,isTrue a X.env whole=(do let v ←whole;standAt a.pos;holding [v] (truthy v))) :
  PT X a (fun σ H Q=>ta σ H fun x H'=>∃k,ED X.K x H' k/\Q k H'):=by
 intro pins s σ H Q I h;exact isTrue_plain (cy (ha pins s σ H _ I h) fun v s1 ⟨x,H1,I1,r1,q1⟩=>uC pins s1 σ H1 x v Q I1 r1 q1) (he _)
theorem uR:jU X (binaryOp .Add) (fun x y H Q=>∃i j,x=.str i/\y=.str j/\i.length+j.length<=sizeLine/\Q (.str (i++j)) H):=by
 intro pins s σ H x y v u Q I rx ry h;obtain ⟨i,j,rfl,rfl,hz,q⟩:=h;obtain ⟨t,rfl⟩:=rx;obtain ⟨t',rfl⟩:=ry;exact add_str (fun t' tk=>⟨.str (i++j),H,I.tok _,⟨_,rfl⟩,q⟩) hz
theorem l7 {x:V}{us:Te}(r:aU [x] us):∃u,us=[u]/\aY x u:=by
 cases r with
 |cons r1 r2=>cases r2;exact ⟨_,rfl,r1⟩
end
theorem mO.some_of {v:V}{o:Tg}(r:mO (some v) o):∃u,o=some u/\aY v u:=by
 cases o with
 |none=>exact (show False from r).elim
 |some u=>exact ⟨u,rfl,r⟩
structure RQ (K:zac)(C:Addr):Prop where
 pg:PySem.W.plainGet K C Str.empty=true
 hd:PySem.W.hasDictIn K C=true
 po:PySem.W.plainOver K C=true
 sa:PySem.W.findIn K (.ref C) "__setattr__" = some (some (.builtin "object.__setattr__"))
structure PJ (K:zac)(C:Addr)(m:Str)(f:Addr):Prop where
 at_:PySem.W.findIn K (.ref C) m=some (some (.ref f))
 fn:PySem.W.isFn K (.ref f)=true
 kp:PySem.W.keepIn K (.ref f)=true
structure dO (k:Nat)(A:Around):Prop where
 hd:A.handled=none
 dp:A.depth+3 * k+5 < recursionLimit
 un:A.units+16 * k+200 < cLine
theorem dO.mono {j k:Nat}(r:dO k A)(h:j<=k):dO j A:=⟨r.hd,by have:=r.dp;omega,by have:=r.un;omega⟩
theorem dO.deeper {k:Nat}{A:Around}(r:dO (k+1) A)(env:Env):dO k (A.deeper env) :=
 ⟨r.hd,by have:=r.dp;show A.depth+1+3 * k+5 < _;omega,by have:=r.un;show A.units+3+16 * k+200 < _;omega⟩
theorem dO.depth {k:Nat}{A:Around}(r:dO k A):A.depth < recursionLimit:=by have:=r.dp;omega
theorem dO.units {k:Nat}{A:Around}(r:dO k A):A.units+64 < cLine:=by have:=r.un;omega
def rW:TA:=fun _ H Q=>Q [] H
def kO (ta:TE)(tr:TA):TA:=fun σ H Q=>ta σ H fun x H1=>tr σ H1 fun xs H2=>Q (x::xs) H2
section
variable  {X:Cx}{e:Expr}{es:Tj}{te:TE}{t:TA}{pos:Pos}
theorem j7:PA X [] rW:=fun _ _ _ _ H Q I h=>Calls.spliced_nil ⟨[],H,I,.nil,h⟩
theorem gJ (ha:PE X e te)(hr:PA X es t)(hs:starEach (e::es) X.env=(false,eval e X.env)::starEach es X.env:=by rfl):PA X (e::es) (kO te t):=by
 intro pos pins s σ H Q I h;rw [hs]
 show wpAny _ _ (spliced ((false,eval e X.env)::backTo pos (starEach es X.env))) _ _ s
 refine Calls.spliced_cons (cy (ha pins s σ H _ I h) fun u s1 hh=>?_);obtain ⟨x,H1,I1,r1,q1⟩:=hh;exact cy (hr pos pins s1 σ H1 _ I1 q1) fun us s2 ⟨xs,H2,I2,r2,q2⟩=>⟨x::xs,H2,I2,.cons r1 r2,q2⟩
def GR (t:TA):TE:=fun σ H Q=>t σ H fun xs H1=>xs.length<=sizeLine/\∀p,H1 p=none->Q (.ref p) (upd H1 p (.tup xs))
def GS (t:TA):TE:=fun σ H Q=>t σ H fun xs H1=>xs.length<=sizeLine/\∀p,H1 p=none->Q (.ref p) (upd H1 p (.lst xs))
theorem AH {x1}(h:PA X es t):PE X (.Tuple es x1 pos) (GR t):=by
 intro pins s σ H Q I hq;refine wpAny_Tuple_spliced (cy (h pos pins s σ H _ I hq) fun us s1 hh=>?_);obtain ⟨xs,H1,I1,r,z,q⟩:=hh;refine ⟨by rw [←r.length];exact z,?_⟩;have hf:H1 s1.heap.objs.size=none:=I1.hok.fresh (zao _);refine ⟨.ref s1.heap.objs.size,upd H1 s1.heap.objs.size (.tup xs),I1.laid (t':=s1.toks) (fun b u e=>zae _ e) (zao _) ?_,rfl,q _ hf⟩;exact ⟨z,us,r,jo.new _ _⟩
theorem AK (h:PA X es t):PE X (.List es pos) (GS t):=by
 intro pins s σ H Q I hq;refine wpAny_List_spliced (cy (h pos pins s σ H _ I hq) fun us s1 hh=>?_);obtain ⟨xs,H1,I1,r,z,q⟩:=hh;refine ⟨by rw [←r.length];exact z,?_⟩;have hf:H1 s1.heap.objs.size=none:=I1.hok.fresh (zao _);refine ⟨.ref s1.heap.objs.size,upd H1 s1.heap.objs.size (.lst xs),I1.laid (t':=s1.toks) (fun b u e=>zae _ e) (zao _) ?_,rfl,q _ hf⟩;exact ⟨z,us,0,r,zaq _ rfl⟩
end
abbrev Sp:=List V->Hp->VK->XK->Prop
abbrev xt:=List Env->Hp->Shared->XK->Tb
structure EO (P:Program)(w:World)(K:zac)(mg:Td)(base:Heap)(A:Around)(outer:List Env)(s:Shared)(H:Hp):Prop where
 frames:A.frames=some outer
 mod:Mod K mg base
 bs:∀b o,base.get? b=some o->s.heap.get? b=some o/\H b=none
 bsz:base.objs.size<=s.heap.objs.size
 funs:s.heap.FunFrames base outer
 frf:∀b∈yj outer,H b=none
 hok:io P w H s.heap
 bare:AllBare s.gens
def CE (outer:List Env)(P:Program)(w:World)(H:Hp)(s:Shared)(Q:VK)(u:Value)(s':Shared):Prop :=
 ∃v H',s'.os=s.os/\AllBare s'.gens/\Un (yj outer) [] H H' s.heap s'.heap/\io P w H' s'.heap/\aY v u/\Q v H'
def CR (CX:xt)(outer:List Env)(P:Program)(w:World)(H:Hp)(s:Shared)(Q:VK)(E:XK)(r:Result)(s':Shared):Prop :=
 match r with
 |.ok (.ret u)=>CE outer P w H s Q u s'
 |.ok _=>False
 |.error e=>CX outer H s E e s'
structure dk (P:Program)(w:World)(K:zac)(mg:Td)(base:Heap)(CX:xt)(k:Nat)(f:Addr)(fd:FuncData)(ps:Tl)(sp:Sp):Prop where
 len:∀vs H Q E,sp vs H Q E->vs.length=ps.length
 run:∀(A:Around) (outer:List Env) (s:Shared) (H:Hp) (args:Args) (us:Te) (vs:List V) (Q:VK) (E:XK),dO k A->EO P w K mg base A outer s H->BindsTo s fd args (ps.zip us)->aU vs us->sp vs H Q E ->
  codeAny (model P w) A (.call (.ref f) args) (CR CX outer P w H s Q E) s
theorem dk.imp {P:Program}{w:World}{K:zac}{mg:Td}{base:Heap}{CX:xt}{k:Nat}{f:Addr}{fd:FuncData}{ps:Tl}{sp sp':Sp}(F:dk P w K mg base CX k f fd ps sp)
  (h:∀vs H Q E,sp' vs H Q E->sp vs H Q E):dk P w K mg base CX k f fd ps sp' :=
 ⟨fun vs H Q E q=>F.len vs H Q E (h _ _ _ _ q),fun A outer s H args us vs Q E hr he hb hv hs=>F.run A outer s H args us vs Q E hr he hb hv (h _ _ _ _ hs)⟩
section
variable  {X:Cx}{pins:Tc}{σ:St}{H:Hp}{s s':Shared}
theorem aD.env0 (I:aD X pins σ H s):EO X.prog X.w X.K X.mg X.base X.A X.stack s H :=
 ⟨I.ok.frames,I.ok.mod,I.bs,zbg I.ok.bsz I.sz,I.stack,I.stkFree,I.hok,I.bare⟩
theorem aD.after {Q:VK}{u:Value}(I:aD X pins σ H s)(h:CE X.stack X.prog X.w H s Q u s'):EP X pins σ Q u s':=by
 obtain ⟨v,H',os,bare,un,hok,r,q⟩:=h;obtain ⟨hh,g,d,t,os'⟩:=s';obtain rfl:os'=s.os:=os;exact ⟨v,H',I.call (h':=hh) (g':=g) (d':=d) (t':=t) (ch:=[]) un hok bare (fun b z=>absurd z (by simp)),r,q⟩
end
def wg (sp:Sp)(dvs:List V)(E:XK)(t:TA):TE:=fun σ H Q=>t σ H fun vs H1=>sp (vs++dvs) H1 Q E
def iN (K:zac)(fd:FuncData)(ps:Tl)(ds:Te):Prop :=
 ∀(s:Shared) (us:Te),K.In s.heap->(us++ds).length=ps.length->BindsTo s fd ⟨us,[]⟩ (ps.zip (us++ds))
theorem iN.all {K:zac}{fd:FuncData}{ps:Tl}(h:∀us:Te,us.length=ps.length->bindArgs fd ⟨us,[]⟩=pure (ps.zip us)):iN K fd ps []:=fun s us _ hl=>by
 rw [zbm] at hl ⊢;exact .of_eq (h us hl)
def vX (CX:xt)(X:Cx)(E:XK):Prop:=∀(pins:Tc) (σ:St) (H:Hp) (s:Shared) (e:Value) (s':Shared),aD X pins σ H s->CX X.stack H s E e s'->X.xe e s'
section
variable  {X:Cx}{CX:xt}{k:Nat}{f C:Addr}{fd:FuncData}{ps:Tl}{sp:Sp}{dvs:List V}{ds:Te}{E:XK}{x m:Str}{p pos apos:Pos}{e o:Expr}{es:Tj}{ta:TE}{t:TA}
theorem G6 {pins:Tc}{σ:St}{H:Hp}{s:Shared}{Q:VK}{us:Te}{vs:List V}(F:dk X.prog X.w X.K X.mg X.base CX k f fd ps sp)(hr:dO k X.A)(hb:iN X.K fd ps ds)(hd:aU dvs ds)(hx:vX CX X E)
  (I:aD X pins σ H s) (r:aU vs us) (h:sp (vs++dvs) H Q E):wpAny (model X.prog X.w) X.A (call (.ref f) us) (EP X pins σ Q) X.xe s:=by
 have r2:aU (vs++dvs) (us++ds):=r.append hd
 have hl:(us++ds).length=ps.length:=by rw [←r2.length];exact F.len _ _ _ _ h
 refine wpAny_call (zbX (F.run X.A X.stack s H ⟨us,[]⟩ (us++ds) (vs++dvs) Q E hr I.env0 (hb s us I.kIn hl) r2 h) fun r s' hq=>?_)
 cases r with
 |error e=>exact hx pins σ H s e s' I hq
 |ok fl =>
  cases fl with
  |ret u=>exact I.after hq
  |next=>exact False.elim hq
  |brk=>exact False.elim hq
  |cont=>exact False.elim hq
theorem qz (F:dk X.prog X.w X.K X.mg X.base CX k f fd ps sp)(hr:dO k X.A)(hg:Gl X x)(hm:X.mg x=some (.ref f))(hk:PySem.W.keepIn X.K (.ref f)=true)(hb:iN X.K fd ps ds)(hd:aU dvs ds)(hx:vX CX X E)
  (ha:PA X (e::es) t) (hdb:(x == ("__debug__" : Str))=false:=by decide) (he:starEach (e::es) X.env=(false,eval e X.env)::starEach es X.env:=by rfl) (hpl:(backTo pos (starEach es X.env)).any (·.1)=false:=by rfl) :
  PE X (.Call (.Name x p) (e::es) [] pos) (wg sp dvs E t):=by
 intro pins s σ H Q I h;refine zcb (wM I hg hm ?_ hdb);refine PySem.W.callWith_K (h₀:=X.base) I.ok.mod.kin hk (cy (ha pos pins s σ H _ I h) fun us s1 hh=>?_) he hpl;obtain ⟨vs,H1,I1,r,q⟩:=hh;refine ⟨I1.kIn,?_⟩;exact G6 F hr hb hd hx I1 r q
end
structure aT (N P:Tl)(sc:Scope):Prop where
 kind:sc.kind=.function
 co:sc.isCoroutine=false
 gen:sc.isGenerator=false
 nd:N.Nodup
 pre:N.take P.length=P
 par:∀x∈P,sc.names.lookup x=some .local\/sc.names.lookup x=some .cell
 nofree:∀y∈sc.names,y.2≠.free
theorem p0 {kindOf:Str->Option NameKind}{x:Str}:∀{binds:List (Str×Value)} {m:Td},(∀v,(x,v)∉binds)->bindL kindOf binds m x=m x
 |[],_,_=>rfl
 |(n,v)::r,m,h=>by
  unfold bindL;rw [p0 fun w hw=>h w (zaj _ hw)];split
  ·have:x≠n:=by rintro rfl;exact h v zah
   simp [this]
  ·rfl
theorem p6 {kindOf:Str->Option NameKind}{x:Str}:∀{binds:List (Str×Value)} {m:Td},(∀v,(x,v)∉binds)->bindC kindOf binds m x=m x
 |[],_,_=>rfl
 |(n,v)::r,m,h=>by
  unfold bindC;rw [p6 fun w hw=>h w (zaj _ hw)];split
  ·rfl
  ·have:x≠n:=by rintro rfl;exact h v zah
   simp [this]
theorem p5 {kindOf:Str->Option NameKind}{x:Str}{v:Value}:∀{P:Tl} {vs:Te} {i:Nat} {m:Td},P.Nodup->P[i]?=some x->vs[i]?=some v->kindOf x=some .local ->
  bindL kindOf (P.zip vs) m x=some v
 |[],_,_,_,_,h,_,_=>by simp at h
 |_::_,[],_,_,_,_,h,_=>by simp at h
 |p::P,w::vs,0,m,nd,h1,h2,hk=>by
  simp at h1 h2;subst h1;subst h2
  show bindL kindOf ((p,w)::P.zip vs) m p=_
  unfold bindL;rw [p0 fun v hv=>(zaJ.mp nd).1 (zdi hv).1,if_pos hk];simp
 |p::P,w::vs,i+1,m,nd,h1,h2,hk=>by
  show bindL kindOf ((p,w)::P.zip vs) m x=_
  unfold bindL;exact p5 (i:=i) (zaJ.mp nd).2 (by simpa using h1) (by simpa using h2) hk
theorem p7 {kindOf:Str->Option NameKind}{x:Str}{v:Value}:∀{P:Tl} {vs:Te} {i:Nat} {m:Td},P.Nodup->P[i]?=some x->vs[i]?=some v->kindOf x≠some .local ->
  bindC kindOf (P.zip vs) m x=some v
 |[],_,_,_,_,h,_,_=>by simp at h
 |_::_,[],_,_,_,_,h,_=>by simp at h
 |p::P,w::vs,0,m,nd,h1,h2,hk=>by
  simp at h1 h2;subst h1;subst h2
  show bindC kindOf ((p,w)::P.zip vs) m p=_
  unfold bindC;rw [p6 fun v hv=>(zaJ.mp nd).1 (zdi hv).1,if_neg hk];simp
 |p::P,w::vs,i+1,m,nd,h1,h2,hk=>by
  show bindC kindOf ((p,w)::P.zip vs) m x=_
  unfold bindC;exact p7 (i:=i) (zaJ.mp nd).2 (by simpa using h1) (by simpa using h2) hk
def d6 (N:Tl)(vs:List V):St:=vs.map some++List.replicate (N.length - vs.length) none
def lR (CX:xt)(P:Program)(w:World)(K:zac)(mg:Td)(base:Heap)(N:Tl)(qual:Str)(scope:Scope)(f:Addr)(cd:Value)(A:Around)(outer:List Env)(s:Shared)(H:Hp)(E:XK):Cx where
 prog:=P
 w:=w
 K:=K
 mg:=mg
 base:=base
 A:=A.deeper (envOfC qual scope s.heap.objs.size f cd)
 N:=N
 s₀:=s
 H₀:=H
 env:=envOfC qual scope s.heap.objs.size f cd
 outer:=outer
 stack:=envOfC qual scope s.heap.objs.size f cd::outer
 ex:=[]
 calm:=true
 fn:=fun _=>true
 pn:=[]
 xe:=fun e s'=>wpAny (model P w) (A.deeper (envOfC qual scope s.heap.objs.size f cd)) (leaving (envOfC qual scope s.heap.objs.size f cd) e) (fun _ s''=>CX outer H s E e s'') (fun e' s''=>CX outer H s E e' s'') s'
theorem t0 {sc:Scope}{n:Nat}{x:Str}(h:sc.names.lookup x=some .cell):∃c,(cellsFrom n sc.names []).lookup x=some c:=by
 have q:=PySem.W.cellsFrom_some sc.names n [] (.inl h);exact zb2.mp q
theorem yf {CX:xt}{P:Program}{w:World}{K:zac}{mg:Td}{base:Heap}{N ps:Tl}{qual:Str}{scope:Scope}{f:Addr}{cd:Value}{A:Around}{outer:List Env}{s s1:Shared}{H:Hp}{E:XK}{us:Te}{vs:List V}
  (S:aT N ps scope) (hd:A.handled=none) (e0:EO P w K mg base A outer s H) (hl:vs.length=ps.length) (r:aU vs us)
  (x:InCallC s s.heap.objs.size (bindL (envOfC qual scope s.heap.objs.size f cd).kindOf (ps.zip us) fun _=>none) (cellsFrom (s.heap.objs.size+1) scope.names []) (bindC (envOfC qual scope s.heap.objs.size f cd).kindOf (ps.zip us) fun _=>none) s1) :
  aD (lR CX P w K mg base N qual scope f cd A outer s H E) [] (d6 N vs) H s1:=by
 have hpl:ps.length<=N.length:=by have:=congrArg List.length S.pre;rw [zbO] at this;omega
 obtain ⟨h1,tk,rfl,hk⟩:=x.done;have noA:∀b:Addr,b∉(lR CX P w K mg base N qual scope f cd A outer s H E).ex:=fun b z=>absurd (show b∈([]:Tf) from z) (by simp)
 refine ⟨⟨e0.mod,S.kind,rfl,rfl,zao _,fun y z c h1 h2=>?_,fun y hy=>?_,fun y c _ h=>?_,fun _=>hd,Around.frames_deeper e0.frames,.inr ⟨rfl,rfl⟩,fun b z=>absurd z (noA b),e0.bs,e0.bsz,fun b _ _=>noA b,fun b z=>absurd z (noA b),e0.funs,e0.frf⟩,
  rfl,e0.bare,Un.kept hk,⟨_,x.toInCall.ns,fun i y v h1 h2 h3=>?_⟩,fun y c h=>⟨_,x.cell y c h⟩,e0.hok.fresh (zao _),fun y c h=>?_,fun p hp=>absurd (show p∈([]:Tc) from hp) (by simp),e0.hok.kept hk,?_⟩
 ·exact name_of_addr x.apart (PySem.mem_of_lookup h1) (PySem.mem_of_lookup h2)
 ·have hy:scope.names.lookup y=some .cell\/scope.names.lookup y=some .free:=hy
  rcases hy with hy|hy
  ·exact t0 hy
  ·exact absurd rfl (S.nofree _ (PySem.mem_of_lookup hy))
 ·exact zb1 (x.above y c (PySem.mem_of_lookup h))
 ·have hi:i < vs.length:=by
   unfold d6 at h2
   by_cases hi:i < vs.length
   ·exact hi
   ·rw [zaO (by simpa using hi)] at h2
    rw [zcu] at h2;split at h2 <;> cases h2
  have ha:vs[i]?=some v:=by
   unfold d6 at h2;rw [zai (by simpa using hi),zaS] at h2
   cases e:vs[i]? with
   |none=>rw [e] at h2;cases h2
   |some a=>rw [e] at h2;cases h2;rfl
  obtain ⟨u,hu,rv⟩:=r.get ha
  have hp:ps[i]?=some y:=by
   rw [←S.pre,List.getElem?_take_of_lt (by omega)];exact h1
  have ndP:ps.Nodup:=by rw [←S.pre];exact S.nd.sublist (List.take_sublist _ _)
  refine ⟨u,rv,?_⟩;rcases S.par y (zaH hp) with k|k
  ·exact .inl ⟨k,p5 ndP hp hu k⟩
  ·obtain ⟨c,e⟩:=t0 (n:=s.heap.objs.size+1) k
   refine .inr ⟨.inl k,c,e,?_⟩;have q:=x.cell y c e;rw [p7 ndP hp hu (by show scope.names.lookup y≠_;rw [k];decide)] at q;exact q
 ·exact e0.hok.fresh (zb1 (x.above y c (PySem.mem_of_lookup h)))
 ·unfold d6
  show _=N.length
  rw [zaX,zal,List.length_replicate];omega
theorem LT {CX:xt}{P:Program}{w:World}{K:zac}{mg:Td}{base:Heap}{k:Nat}{f:Addr}{name qual:Str}{params:Arguments}{body:Tk}{scope:Scope}{dV kV doc pm cdv ct oc:Value}{an od:Option Addr}
  {osl:Array (Tg)} {N ps:Tl} {sp:Sp} (lk:K.lookup f=some ⟨oc,od,.func (PySem.W.fnOf name qual params body scope dV kV doc pm an cdv ct),osl⟩) (hcd:PySem.W.codeIn K cdv qual=true) (S:aT N ps scope)
  (len:∀vs H Q E,sp vs H Q E->vs.length=ps.length)
  (hbody:∀(A:Around) (outer:List Env) (s:Shared) (H:Hp) (vs:List V) (Q:VK) (E:XK),dO k (A.deeper (envOfC qual scope s.heap.objs.size f cdv))->sp vs H Q E ->
   ∃t,oG (lR CX P w K mg base N qual scope f cdv A outer s H E) body t/\t {nx:=fun _ H'=>Q .non H',rt:=Q} (d6 N vs) H) :
  dk P w K mg base CX (k+1) f (PySem.W.fnOf name qual params body scope dV kV doc pm an cdv ct) ps sp:=by
 refine ⟨len,fun A outer s H args us vs Q E hr e0 hb r hsp=>?_⟩;have hl:=len _ _ _ _ hsp;have KX:K.In s.heap:=e0.mod.kin.keeps fun b o e=>(e0.bs b o e).1;have lim:s.heap.NoLimit:=e0.mod.nolimit.keeps fun b o e=>(e0.bs b o e).1
 have hkind:∀y∈ps.zip us,scope.names.lookup y.1=some .local\/(scope.names.lookup y.1=some .cell/\((cellsFrom (s.heap.objs.size+1) scope.names []).lookup y.1).isSome=true):=fun ⟨n,v⟩ hy=>by
  rcases S.par n (zdi hy).1 with q|q
  ·exact .inl q
  ·exact .inr ⟨q,PySem.W.cellsFrom_some _ _ _ (.inl q)⟩
 refine codeAny_call_function hr.depth (KX _ _ lk) rfl S.co S.gen rfl (PySem.W.codeRec_of KX hcd) (hb _ _ _ _ ?_);refine wpAny_newFunctionEnv_cells S.kind hkind fun env he s1 x=>?_;subst he;refine ⟨lim.keeps x.toInCall.keep,codeAny_func ?_⟩;obtain ⟨t,ht,hq⟩:=hbody A outer s H vs Q E (hr.deeper _) hsp;have I:aD (lR CX P w K mg base N qual scope f cdv A outer s H E) [] (d6 N vs) H s1:=yf S hr.hd e0 hl r x;refine zbB (ht [] s1 (d6 N vs) H _ I hq) (fun fl s' hs=>?_) fun e s' hs=>hs
 have fin:∀{σ':St} {H':Hp} {v:V} {u:Value},aD (lR CX P w K mg base N qual scope f cdv A outer s H E) [] σ' H' s'->aY v u->Q v H'->CE outer P w H s Q u s' :=
  fun {σ' H' v u} J rv q=>⟨v,H',J.os,J.bare,J.base,J.hok,rv,q⟩
 cases fl with
 |ret u =>
  obtain ⟨v,σ',H',J,rv,q⟩:=hs;exact fin J rv q
 |next =>
  obtain ⟨σ',H',J,q⟩:=hs;exact fin (v:=V.non) (u:=Value.none) J rfl q
 |brk =>
  obtain ⟨_,_,_,q⟩:=hs;exact False.elim q
 |cont =>
  obtain ⟨_,_,_,q⟩:=hs;exact False.elim q
section
variable  {X:Cx}{x:Str}{p pos:Pos}{e:Expr}{es:Tj}{t:TA}{id T:String}{r:List V->Hp->VK->Prop}
def GU (r:List V->Hp->VK->Prop)(t:TA):TE:=fun σ H Q=>t σ H fun vs H1=>r vs H1 Q
theorem gk (hc:im X (.builtin id) r)(hg:Gl X x)(hm:X.mg x=none)(hv:bootBuiltins x=some (.builtin id))(ha:PA X (e::es) t)(hn:x≠"__name__":=by decide)(hdb:(x == ("__debug__" : Str))=false:=by decide)
  (he:starEach (e::es) X.env=(false,eval e X.env)::starEach es X.env:=by rfl) (hpl:(backTo pos (starEach es X.env)).any (·.1)=false:=by rfl):PE X (.Call (.Name x p) (e::es) [] pos) (GU r t):=by
 intro pins s σ H Q I h;refine zcb (j9 I hg hm hv ?_ hn hdb);exact PyProof.Rows.callWith_builtin1 (cy (ha pos pins s σ H _ I h) fun us s1 ⟨vs,H1,I1,r1,q1⟩=>hc pins s1 σ H1 vs us Q I1 r1 q1) he hpl
theorem f9 (hc:im X (.type T) r)(hg:Gl X x)(hm:X.mg x=none)(hv:bootBuiltins x=some (.type T))(ha:PA X (e::es) t)(hn:x≠"__name__":=by decide)(hdb:(x == ("__debug__" : Str))=false:=by decide)
  (he:starEach (e::es) X.env=(false,eval e X.env)::starEach es X.env:=by rfl) (hpl:(backTo pos (starEach es X.env)).any (·.1)=false:=by rfl):PE X (.Call (.Name x p) (e::es) [] pos) (GU r t):=by
 intro pins s σ H Q I h;refine zcb (j9 I hg hm hv ?_ hn hdb);exact PyProof.Rows.callWith_type1 (cy (ha pos pins s σ H _ I h) fun us s1 ⟨vs,H1,I1,r1,q1⟩=>hc pins s1 σ H1 vs us Q I1 r1 q1) he hpl
end
end L2
namespace HT
open PySem PyProof.Rows
section
variable  {prog:Program}{w:World}{A:Around}{E:Tb}{s:Shared}
theorem Ex {t b:Addr}{vs ws:Te}{Q:Tb}(ht:IsTup s.heap t vs.toArray)(hb:IsTup s.heap b ws.toArray)(hv:vs≠[])
  (h1:ws=[]->Q (.ref t) s) (h2:ws≠[]->Q (.ref s.heap.objs.size) {s with heap:=s.heap.push {cls:=.type "tuple",data:=.seq (vs++ws).toArray}})
  (hsz:vs.length+ws.length<=sizeLine):wpAny (model prog w) A (binaryOp .Add (.ref t) (.ref b)) Q E s:=by
 obtain ⟨⟨cls,dd,data,sl⟩,ho,hc,n,hd⟩:=id ht;obtain ⟨⟨cls2,dd2,data2,sl2⟩,ho2,hc2,n2,hd2⟩:=id hb;simp only at hc hd hc2 hd2;subst hc hd hc2 hd2
 have e:vs.toArray++ws.toArray=(vs++ws).toArray:=by simp
 by_cases hw:ws=[]
 ·exact concat_meets ⟨_,ho,rfl⟩ ⟨_,ho2,rfl⟩ noFill_tuple_add seq_tuple_add PySem.F.slot_tuple_add PySem.F.entry_tuple_add (PySem.F.args_tuple_add_2 _ _)
   (tuple_addW1 t b vs.toArray ws.toArray n n2 dd dd2 sl sl2 (by simpa using hv) (by simp [hw])) ⟨ho,ho2,h1 hw⟩
 ·refine concat_meets ⟨_,ho,rfl⟩ ⟨_,ho2,rfl⟩ noFill_tuple_add seq_tuple_add PySem.F.slot_tuple_add PySem.F.entry_tuple_add (PySem.F.args_tuple_add_2 _ _)
   (tuple_addW2 t b vs.toArray ws.toArray n n2 dd dd2 sl sl2 (by simpa using hv) (by simpa using hw) (by rw [zat,zat];exact hsz)) ⟨ho,ho2,?_⟩
  rw [e];exact h2 hw
def dl (n d:Nat):Option Int->Nat
 |none=>d
 |some v=>if v < 0 then (v+(n:Int)).toNat else min v.toNat n
theorem G3 (n d:Nat)(hd:d<=n)(o:Option Int):dl n d o<=n:=by
 cases o with
 |none=>exact hd
 |some v =>
  show (if v < 0 then (v+(n:Int)).toNat else min v.toNat n)<=n
  by_cases hv:v < 0
  ·rw [if_pos hv];omega
  ·rw [if_neg hv];exact Nat.min_le_right _ _
theorem xm (v:Int)(n d:Nat):(if v < 0 then max (v+(n:Int)) 0 else min v (n:Int))=((dl n d (some v):Nat):Int):=by
 show (if v < 0 then max (v+(n:Int)) 0 else min v (n:Int))=(((if v < 0 then (v+(n:Int)).toNat else min v.toNat n):Nat):Int)
 by_cases hv:v < 0
 ·simp only [if_pos hv];omega
 ·simp only [if_neg hv];omega
theorem vT (lo hi:Option Int)(n:Nat):Builtin.Slice.sliceAdjust lo hi 1 (n:Int)=(((dl n 0 lo:Nat):Int),((dl n n hi:Nat):Int)):=by
 have h1:¬ ((1:Int) < 0):=by omega
 unfold Builtin.Slice.sliceAdjust;simp only [h1,if_false];refine Prod.ext ?_ ?_
 ·cases lo with
  |none=>rfl
  |some v=>exact xm v n 0
 ·cases hi with
  |none=>rfl
  |some v=>exact xm v n n
theorem uO (i j:Nat):Builtin.Slice.slicePlaces (i:Int) (j:Int) 1=j - i:=by
 unfold Builtin.Slice.slicePlaces
 have h1:(1:Int) > 0:=by omega
 simp only [h1,if_true,Int.ediv_one];split <;> omega
theorem nB {v:Value}{o:Option Int}{Q:Option Int->Shared->Prop}(p:IsPart v o)(h:Q o s):wpAny (model prog w) A (Builtin.Slice.slicePartIndex v) Q E s:=by
 cases p with
 |none=>exact slicePart_none h
 |int i t=>exact slicePart_int h
theorem hZ {sl:Addr}{vl vu:Value}{lo hi:Option Int}{n:Nat}{Q:Int×Int×Nat->Shared->Prop}(hs:s.heap.IsSliceOf sl vl vu .none)(pl:IsPart vl lo)(pu:IsPart vu hi)
  (h:Q (((dl n 0 lo:Nat):Int),1,dl n n hi - dl n 0 lo) s):wpAny (model prog w) A (Builtin.Slice.sliceApplied (.ref sl) (pure (n:Int))) Q E s:=by
 obtain ⟨os,hos,hcs,hds⟩:=id hs;unfold Builtin.Slice.sliceApplied Builtin.Slice.sliceFields;refine zab (zab (zbJ hos hds (x:=vl) rfl (zab (zbJ hos hds (x:=vu) rfl (zab (zbJ hos hds (x:=.none) rfl (zad ?_)))))));refine zab (slicePart_none ?_)
 show wpAny _ _ (if ((1:Int) == 0)=true then _ else _) _ _ s
 rw [if_neg (by decide)];refine zab (nB pl (zab (nB pu (zab (zad ?_)))))
 show wpAny _ _ (match Builtin.Slice.sliceAdjust lo hi 1 (n:Int) with|(lo,hi)=>pure (lo,(1:Int),Builtin.Slice.slicePlaces lo hi 1)) _ _ s
 rw [vT lo hi n]
 show wpAny _ _ (pure (((dl n 0 lo:Nat):Int),(1:Int),Builtin.Slice.slicePlaces ((dl n 0 lo:Nat):Int) ((dl n n hi:Nat):Int) 1)) _ _ s
 rw [uO];exact zad h
theorem AF (xs:Ti)(i k:Nat):((List.range k).filterMap fun (m:Nat)=>xs[((i:Int)+(m:Int) * 1).toNat]?).toArray=((xs.toList.drop i).take k).toArray:=by
 have e:(fun (m:Nat)=>xs[((i:Int)+(m:Int) * 1).toNat]?)=fun m=>xs[i+m]?:=by
  funext m
  have:((i:Int)+(m:Int) * 1).toNat=i+m:=by omega
  rw [this]
 rw [e];have:=pick_run xs i k
 rw [zcY] at this
 have e2:((fun x=>xs[x]?) ∘ fun x=>i+x)=fun m=>xs[i+m]?:=rfl
 rw [e2] at this
 rw [this]
theorem lx {t sl:Addr}{items:Ti}{vl vu:Value}{lo hi:Option Int}{Q:Tb}(ht:IsTup s.heap t items)(hs:s.heap.IsSliceOf sl vl vu .none)(pl:IsPart vl lo)(pu:IsPart vu hi)
  (hw:¬ (dl items.size 0 lo=0/\dl items.size items.size hi=items.size))
  (h:Q (.ref s.heap.objs.size) {s with heap:=s.heap.push {cls:=.type "tuple",data:=.seq ((items.toList.drop (dl items.size 0 lo)).take (dl items.size items.size hi - dl items.size 0 lo)).toArray}})
  (hsz:items.size<=sizeLine):wpAny (model prog w) A (getItem (.ref t) (.ref sl)) Q E s:=by
 have htake:sizeOk (.seq ((items.toList.drop (dl items.size 0 lo)).take (dl items.size items.size hi - dl items.size 0 lo)).toArray):=by
  show ((items.toList.drop (dl items.size 0 lo)).take (dl items.size items.size hi - dl items.size 0 lo)).toArray.size<=sizeLine
  rw [zat,zbO,zcj,zaN];omega
 have hj:dl items.size items.size hi<=items.size:=G3 _ _ (zao _) hi;obtain ⟨os,hos,hcs,hds⟩:=id hs;have hTs:s.TypeIs (.ref sl) "slice":=⟨os,hos,hcs⟩;unfold getItem
 try with_reducible refine zaF ?_
 first|refine zab (zad ?_)|skip
 refine zab (wpAny_sequenceKey ht.typeIs (by decide) ?_)
 refine zab (za5 (name:=Str.ofString "__getitem__") ht.typeIs PyProof.Rows.slot_tuple_getitem
  (zaT PyProof.Rows.slot_tuple_getitem ht.typeIs entry_tuple_getitem ?_ (args_tuple_getitem _ _)))
 show wpAny _ _ (Builtin.Tuple.tupleItemsOf (.ref t) >>= _) _ _ s
 refine zab (tupleItemsOf_ ht ?_);refine zab (zby hTs ?_);rw [if_pos (by decide)];refine zab (hZ hs pl pu ?_)
 have hno:¬ ((((dl items.size 0 lo:Nat):Int) == 0 && (1:Int) == 1 && (dl items.size items.size hi - dl items.size 0 lo) == items.size)=true):=by
  intro q;rw [zbP,zbP] at q;have q1:((dl items.size 0 lo:Nat):Int)=0:=eq_of_beq q.1.1;have q2:dl items.size items.size hi - dl items.size 0 lo=items.size:=eq_of_beq q.2;exact hw ⟨by omega,by omega⟩
 show wpAny _ _ (if (((dl items.size 0 lo:Nat):Int) == 0 && (1:Int) == 1 && (dl items.size items.size hi - dl items.size 0 lo) == items.size)=true then _ else _) _ _ s
 rw [if_neg hno,AF]
 first
  |exact zab (m:=Builtin.Tuple.tupleExact _) (zaV (zad ⟨_,rfl,zad h⟩) htake)
  |exact zab (m:=Builtin.Tuple.tupleExact _) (zaV (zab (zad (zad ⟨_,rfl,zad h⟩))) htake)
  |exact zab (zab (m:=Builtin.Tuple.tupleExact _) (zaV (zad (zad ⟨_,rfl,zad h⟩)) htake))
  |exact zab (zab (m:=Builtin.Tuple.tupleExact _) (zaV (zad ⟨_,rfl,zad h⟩) htake))
end
end HT
namespace L2
open PySem PySem.Spec PyProof.Rows
abbrev TO:=St->Hp->(Option Int->Hp->Prop)->Prop
def PO (X:Cx)(e:Option Expr)(t:TO):Prop :=
 ∀(pins:Tc) (s:Shared) (σ:St) (H:Hp) (Q:Option Int->Hp->Prop),aD X pins σ H s->t σ H Q ->
  wpAny (model X.prog X.w) X.A (evalPart e X.env) (fun u s'=>∃o H',aD X pins σ H' s'/\IsPart u o/\Q o H') X.xe s
def we:TO:=fun _ H Q=>Q none H
def Fz (t:TE):TO:=fun σ H Q=>t σ H fun x H1=>∃i,x=.int i/\Q (some i) H1
section
variable  {X:Cx}{e:Expr}{te:TE}{lo hi:Option Expr}{tl th:TO}{pos p2:Pos}
theorem Du:PO X none we:=by
 intro pins s σ H Q I h;rw [evalPart_none];exact zad ⟨none,H,I,.none,h⟩
theorem Dt (h:PE X e te):PO X (some e) (Fz te):=by
 intro pins s σ H Q I hw;rw [evalPart_some];refine cy (h pins s σ H _ I hw) fun u s1 hh=>?_;obtain ⟨x,H1,I1,r1,q1⟩:=hh;obtain ⟨i,rfl,q⟩:=q1;obtain ⟨t,rfl⟩:=r1;exact ⟨some i,H1,I1,.int i t,q⟩
def Ch (X:Cx)(r:V->Option Int->Option Int->Hp->VK->Prop):Prop :=
 ∀(pins:Tc) (s:Shared) (σ:St) (H:Hp) (x:V) (v vl vu:Value) (lo hi:Option Int) (sl:Addr) (Q:VK),aD X pins σ H s->aY x v->s.heap.IsSliceOf sl vl vu .none->IsPart vl lo->IsPart vu hi->r x lo hi H Q ->
  ∃T id,typeLookup (.type T) "__getitem__" = pure (some (.builtin id))/\s.TypeIs v T/\wpAny (model X.prog X.w) X.A (getItem v (.ref sl)) (EP X pins σ Q) X.xe s
theorem Ch.or {r r':V->Option Int->Option Int->Hp->VK->Prop}(h:Ch X r)(h':Ch X r'):Ch X (fun x lo hi H Q=>r x lo hi H Q\/r' x lo hi H Q):=by
 intro pins s σ H x v vl vu lo hi sl Q I rx hs pl pu q;rcases q with q|q
 ·exact h pins s σ H x v vl vu lo hi sl Q I rx hs pl pu q
 ·exact h' pins s σ H x v vl vu lo hi sl Q I rx hs pl pu q
def QF (r:V->Option Int->Option Int->Hp->VK->Prop)(te:TE)(tl th:TO):TE:=fun σ H Q=>te σ H fun x H1=>tl σ H1 fun l H2=>th σ H2 fun u H3=>r x l u H3 Q
theorem AI {r:V->Option Int->Option Int->Hp->VK->Prop}(hr:Ch X r)(he:PE X e te)(hl:PO X lo tl)(hu:PO X hi th):PE X (.Subscript e (.Slice lo hi none p2) pos) (QF r te tl th):=by
 intro pins s σ H Q I h;refine Subscript_ (cy (he pins s σ H _ I h) fun v s1 hh=>?_);obtain ⟨x,H1,I1,r1,q1⟩:=hh;refine wpAny_Slice (cy (hl pins s1 σ H1 _ I1 q1) fun vl s2 hh=>?_);obtain ⟨l,H2,I2,pl,q2⟩:=hh;refine cy (hu pins s2 σ H2 _ I2 q2) fun vu s3 hh=>?_;obtain ⟨u,H3,I3,pu,q3⟩:=hh;rw [evalPart_none];refine zad ?_;have I4:aD X pins σ H3 {s3 with heap:=s3.heap.push {cls:=.type "slice",data:=.fields #[vl,vu,.none]}}:=I3.kept (t':=s3.toks) fun b ob q=>zae _ q;obtain ⟨T,id,hT,ht,hg⟩:=hr pins {s3 with heap:=s3.heap.push {cls:=.type "slice",data:=.fields #[vl,vu,.none]}} σ H3 x v vl vu l u s3.heap.objs.size Q I4 r1 (Heap.IsSliceOf.new ..) pl pu q3
 show wpAny (model X.prog X.w) X.A (subscriptTail e (.Slice lo hi none p2) v (.ref s3.heap.objs.size)) (EP X pins σ Q) X.xe {s3 with heap:=s3.heap.push {cls:=.type "slice",data:=.fields #[vl,vu,.none]}}
 exact tail_any (ops:=[.ref s3.heap.objs.size,v]) ht hT hg (by with_unfolding_all rfl)
def qR (xs:List V)(lo hi:Option Int):List V:=(xs.drop (HT.dl xs.length 0 lo)).take (HT.dl xs.length xs.length hi - HT.dl xs.length 0 lo)
theorem mv (xs:List V)(lo hi:Option Int):(qR xs lo hi).length<=xs.length:=by
 unfold qR;rw [zbO,zcj];omega
def KM (K:zac):V->Option Int->Option Int->Hp->VK->Prop:=fun x lo hi H Q=>∃a xs,x=.ref a/\gG K H a xs /\
 ¬ (HT.dl xs.length 0 lo=0/\HT.dl xs.length xs.length hi=xs.length)/\∀p,H p=none->Q (.ref p) (upd H p (.tup (qR xs lo hi)))
theorem GX:Ch X (KM X.K):=by
 intro pins s σ H x v vl vu lo hi sl Q I rx hs pl pu h;obtain ⟨a,xs,rfl,hx,hw,q⟩:=h;cases rx;obtain ⟨its,r,ht,hz⟩:=I.tuple hx
 have hlen:its.toArray.size=xs.length:=by rw [zat];exact r.length.symm
 refine ⟨"tuple",_,PyProof.Rows.slot_tuple_getitem.lookup,ht.typeIs,?_⟩;refine HT.lx ht hs pl pu (by rw [hlen];exact hw) ?_ (by rw [hlen];exact hz);rw [hlen];refine ⟨.ref s.heap.objs.size,_,I.laid (t':=s.toks) (o:=.tup (qR xs lo hi)) (fun b ob q=>zae _ q) (zao _) ?_,rfl,q _ (I.hok.fresh (zao _))⟩;exact ⟨zbg (mv xs lo hi) hz,_,(r.drop (HT.dl xs.length 0 lo)).take (HT.dl xs.length xs.length hi - HT.dl xs.length 0 lo),jo.new _ _⟩
def FQ (K:zac):R2:=fun x y H Q=>∃a b xs ys,x=.ref a/\y=.ref b/\gG K H a xs/\gG K H b ys/\xs≠[]/\xs.length+ys.length<=sizeLine /\
 (ys=[]->Q (.ref a) H)/\(ys≠[]->∀p,H p=none->Q (.ref p) (upd H p (.tup (xs++ys))))
theorem aU.nil_iff {xs:List V}{us:Te}(r:aU xs us):us=[] ↔ xs=[]:=by
 cases r with
 |nil=>simp
 |cons _ _=>simp
theorem DO:jU X (binaryOp .Add) (FQ X.K):=by
 intro pins s σ H x y v u Q I rx ry h;obtain ⟨a,b,xs,ys,rfl,rfl,ha,hb,hx,hz,q1,q2⟩:=h;cases rx;cases ry;obtain ⟨its,r1,p1,_⟩:=I.tuple ha;obtain ⟨its2,r2,p2,_⟩:=I.tuple hb;refine HT.Ex p1 p2 (fun z=>hx (r1.nil_iff.mp z)) (fun z=>⟨.ref a,H,I,rfl,q1 (r2.nil_iff.mp z)⟩) (fun z=>?_) (by rw [←r1.length,←r2.length];exact hz);refine ⟨.ref s.heap.objs.size,_,I.laid (t':=s.toks) (o:=.tup (xs++ys)) (fun b ob q=>zae _ q) (zao _) ?_,rfl,q2 (fun w=>z (r2.nil_iff.mpr w)) _ (I.hok.fresh (zao _))⟩;exact ⟨by rw [zaX];exact hz,_,r1.append r2,jo.new _ _⟩
end
def Bj (n:Nat)(i:Int):Option Nat:=if 0<=i then (if i < n then some i.toNat else none) else if -(n:Int)<=i then some (i+n).toNat else none
def oA {α:Type}(xs:List α)(i:Int):Option α:=(Bj xs.length i).bind fun j=>xs[j]?
theorem wT {n:Nat}{i:Int}{j:Nat}(h:Bj n i=some j):seqIndex? i n=some j/\j < n/\-(n:Int)<=i/\i < n:=by
 unfold Bj at h
 by_cases h0:0<=i
 ·rw [if_pos h0] at h
  by_cases h1:i < n
  ·rw [if_pos h1] at h
   have e:i.toNat=j:=Option.some.inj h;exact ⟨by rw [seqIndex_of h0 h1,e],by omega,by omega,h1⟩
  ·rw [if_neg h1] at h;cases h
 ·rw [if_neg h0] at h
  by_cases h1 : -(n:Int)<=i
  ·rw [if_pos h1] at h
   have e:(i+n).toNat=j:=Option.some.inj h;exact ⟨by rw [seqIndex_neg (by omega) h1,e],by omega,h1,by omega⟩
  ·rw [if_neg h1] at h;cases h
theorem rf {α:Type}{xs:List α}{i:Int}{v:α}(h:oA xs i=some v):∃j,seqIndex? i xs.length=some j/\xs[j]?=some v/\j < xs.length/\-(xs.length:Int)<=i/\i < xs.length:=by
 unfold oA at h
 cases e:Bj xs.length i with
 |none=>rw [e] at h;cases h
 |some j =>
  rw [e] at h;obtain ⟨h1,h2,h3,h4⟩:=wT e;exact ⟨j,h1,h,h2,h3,h4⟩
def xr (b:Expr):Prop:=∀o i,subscripted b false o i=operate [o,i] (getItem o i)
def EM (X:Cx)(r:R2):Prop :=
 ∀(value slice:Expr) (pins:Tc) (s:Shared) (σ:St) (H:Hp) (x y:V) (v u:Value) (Q:VK),aD X pins σ H s->aY x v->aY y u->r x y H Q ->
  subscripted slice false v u=operate [v,u] (getItem v u)->wpAny (model X.prog X.w) X.A (subscriptTail value slice v u) (EP X pins σ Q) X.xe s
def Rn (X:Cx)(id:String)(r:V->List V->Hp->VK->Prop):Prop :=
 ∀(pins:Tc) (s:Shared) (σ:St) (H:Hp) (x:V) (xs:List V) (v:Value) (us:Te) (Q:VK),aD X pins σ H s->aY x v->aU xs us->r x xs H Q ->
  wpAny (model X.prog X.w) X.A (call (.builtin id) (v::us)) (EP X pins σ Q) X.xe s
section
variable  {X:Cx}{a b:Expr}{ta tb:TE}{pos:Pos}
theorem EM.or {r r':R2}(h:EM X r)(h':EM X r'):EM X (fun x y H Q=>r x y H Q\/r' x y H Q):=by
 intro value slice pins s σ H x y v u Q I rx ry q hs;rcases q with q|q
 ·exact h value slice pins s σ H x y v u Q I rx ry q hs
 ·exact h' value slice pins s σ H x y v u Q I rx ry q hs
theorem Lg {r:R2}(hr:EM X r)(ha:PE X a ta)(hb:PE X b tb)(hs:xr b):PE X (.Subscript a b pos) (JL r ta tb):=by
 intro pins s σ H Q I h;exact Subscript_ (JB ha hb I h fun v u s2 x y H2 I2 rx ry q=>hr a b pins s2 σ H2 x y v u Q I2 rx ry q (hs _ _))
def KU (K:zac):R2:=fun x y H Q=>∃p xs i v,x=.ref p/\y=.int i/\g9 K H p xs/\oA xs i=some v/\Q v H
def KQ (K:zac):R2:=fun x y H Q=>∃p xs i v,x=.ref p/\y=.int i/\gG K H p xs/\oA xs i=some v/\Q v H
def KS:R2:=fun x y H Q=>∃z i c,x=.str z/\y=.int i/\z.length<=sizeLine/\oA z.cps.toList i=some c/\Q (.str ⟨#[c]⟩) H
theorem D1:EM X (KU X.K):=by
 intro value slice pins s σ H x y v u Q I rx ry h hs;obtain ⟨p,xs,i,z,rfl,rfl,hq,he,q⟩:=h;cases rx;obtain ⟨t,rfl⟩:=ry;obtain ⟨its,r,pl,hz⟩:=I.list hq;obtain ⟨j,h1,h2,h3,h4,h5⟩:=rf he;obtain ⟨w,ew,rw'⟩:=r.get h2;have hl:=r.length;have hn:=lL;have fin:EP X pins σ Q w s:=⟨z,H,I,rw',q⟩
 by_cases h0:0<=i
 ·have hj:i.toNat=j:=by
   rw [seqIndex_of h0 h5] at h1;exact Option.some.inj h1
  exact item_listR pl.isList h0 (by omega) (by rw [hj];simpa using ew) fin hs
 ·have hj:(i+(its.toArray.size:Int)).toNat=j:=by
   rw [seqIndex_neg (by omega) h4] at h1;rw [zat,←hl];exact Option.some.inj h1
  exact subscriptTail_builtinR (x:=w) pl.isList.typeIs slot_list_getitem.lookup
   (wpAny_getItem_list_neg (Q:=fun r s'=>r=w/\EP X pins σ Q r s') pl.isList (by omega) (by rw [zat] <;> omega) (by omega) (by rw [hj];simpa using ew) ⟨rfl,fin⟩) hs
theorem IJ:EM X (KQ X.K):=by
 intro value slice pins s σ H x y v u Q I rx ry h hs;obtain ⟨p,xs,i,z,rfl,rfl,hq,he,q⟩:=h;cases rx;obtain ⟨t,rfl⟩:=ry;obtain ⟨its,r,pl,hz⟩:=I.tuple hq;obtain ⟨j,h1,h2,h3,h4,h5⟩:=rf he;obtain ⟨w,ew,rw'⟩:=r.get h2;have hl:=r.length;have hn:=lL;have fin:EP X pins σ Q w s:=⟨z,H,I,rw',q⟩
 exact subscriptTail_builtinR (x:=w) pl.typeIs slot_tuple_getitem.lookup
  (getItem_tuple (j:=j) (Q:=fun r s'=>r=w/\EP X pins σ Q r s') pl (by omega) (by omega) (by rw [zat,←hl];exact h1) (by simpa using ew) ⟨rfl,fin⟩) hs
theorem IL:EM X KS:=by
 intro value slice pins s σ H x y v u Q I rx ry h hs;obtain ⟨z,i,c,rfl,rfl,hz,he,q⟩:=h;obtain ⟨t,rfl⟩:=rx;obtain ⟨t',rfl⟩:=ry;obtain ⟨j,h1,h2,h3,h4,h5⟩:=rf he
 have hl:z.cps.toList.length=z.length:=by simp [Str.length]
 rw [hl] at h1 h4 h5;have hn:=lL
 exact tail_any (typeIs_str s z t) slot_str_getitem.lookup (getItem_str (c:=c) (by
  have e1:decide (i < -(2 ^ 63:Int))=false:=zaK (by omega);have e2:decide (i >= 2 ^ 63)=false:=zaK (by omega)
  rw [e1,e2,zcA]) (by rw [h1];simpa using h2) ⟨.str ⟨#[c]⟩,H,I.tok _,⟨_,rfl⟩,q⟩) hs
def QJ (K:zac):R2:=fun x y H Q=>KU K x y H Q\/KQ K x y H Q\/KS x y H Q
theorem IM:EM X (QJ X.K):=D1.or (IJ.or IL)
theorem uV (its:Te)(n j:Nat)(u:Value):Obj.mapSeq (·.setIfInBounds j u) {cls:=.type "list",data:=.seq its.toArray n}={cls:=.type "list",data:=.seq (its.set j u).toArray n}:=by
 simp [Obj.mapSeq]
theorem aD.lst {H:Hp}{s:Shared}{p:Addr}{xs:List V}(I:aD X pins σ H s)(h:H p=some (.lst xs)) :
  ∃(its:Te) (n:Nat),aU xs its/\s.heap.get? p=some {cls:=.type "list",data:=.seq its.toArray n}/\xs.length<=sizeLine:=by
 obtain ⟨z,its,n,r,e⟩:=I.hok p _ h;exact ⟨its,n,r,e,z⟩
theorem aD.lstUpd {H:Hp}{s:Shared}{p:Addr}{xs ys:List V}{its its':Te}{n n':Nat}{f:Obj->Obj}(I:aD X pins σ H s)(h:H p=some (.lst xs))
  (ho:s.heap.get? p=some {cls:=.type "list",data:=.seq its.toArray n}) (hf:f {cls:=.type "list",data:=.seq its.toArray n}={cls:=.type "list",data:=.seq its'.toArray n'}) (r:aU ys its') (hz:ys.length<=sizeLine) (t:Nat) :
  aD X pins σ (upd H p (.lst ys)) {s with heap:=s.heap.update p f,toks:=t}:=by
 have e:(s.heap.update p f).get? p=some {cls:=.type "list",data:=.seq its'.toArray n'}:=by
  rw [zaI f ho (by rw [hf] <;> rfl),hf]
 refine I.write (x:=p) (e:=p) (by rw [h];trivial) (.inl rfl) (fun b u hb q=>(zaz _ _ (Ne.symm hb)).trans q) ⟨_,e⟩ ?_;exact ⟨hz,its',n',r,e⟩
def Ak:V->V->V->Hp->(Hp->Prop)->Prop:=fun o i v H Q=>∃p xs k j,o=.ref p/\i=.int k/\H p=some (.lst xs)/\Bj xs.length k=some j/\Q (upd H p (.lst (xs.set j v)))
theorem zI:uf X Ak:=by
 intro pins s σ H o i v ov iv u Q I ro ri rv h;obtain ⟨p,xs,k,j,rfl,rfl,hp,hj,q⟩:=h;cases ro;obtain ⟨t,rfl⟩:=ri;obtain ⟨its,n,r,ho,hz⟩:=I.lst hp;obtain ⟨h1,h2,h3,h4⟩:=wT hj;have hl:=r.length;have hn:=lL
 have I':aD X pins σ (upd H p (.lst (xs.set j v))) {s with heap:=s.heap.update p (Obj.mapSeq (·.setIfInBounds j u))} :=
  I.lstUpd hp ho (uV its n j u) (r.set rv j) (by rw [zbn];exact hz) s.toks
 by_cases h0:0<=k
 ·have hk:k.toNat=j:=by
   rw [seqIndex_of h0 h4] at h1;exact Option.some.inj h1
  exact PySem.W.ki_setAt ho h0 (by omega) (by rw [zat,←hl];exact h4) (by rw [hk];exact ⟨_,I',q⟩)
 ·have hk:(k+(its.toArray.size:Int)).toNat=j:=by
   rw [seqIndex_neg (by omega) h3] at h1;rw [zat,←hl];exact Option.some.inj h1
  exact PySem.W.ki_setBack ho (by omega) (by rw [zat,←hl];exact h3) (by omega) (by rw [hk];exact ⟨_,I',q⟩)
theorem qk (lo hi:Option Int)(n:Nat):(sliceBounds lo hi none n).1=((HT.dl n 0 lo:Nat):Int)/\(sliceBounds lo hi none n).2.1=((HT.dl n n hi:Nat):Int)/\(sliceBounds lo hi none n).2.2=1:=by
 refine ⟨?_,?_,rfl⟩
 ·cases lo with
  |none=>simp [sliceBounds,HT.dl]
  |some i =>
   simp only [sliceBounds,HT.dl,Option.getD_none,show (1:Int) > 0 by decide,if_true]
   by_cases h:i < 0
   ·simp only [h,if_true] <;> omega
   ·simp only [h,if_false] <;> omega
 ·cases hi with
  |none=>simp [sliceBounds,HT.dl]
  |some i =>
   simp only [sliceBounds,HT.dl,Option.getD_none,show (1:Int) > 0 by decide,if_true]
   by_cases h:i < 0
   ·simp only [h,if_true] <;> omega
   ·simp only [h,if_false] <;> omega
theorem oM (its:Te)(lo hi:Option Int):slicePick its.toArray lo hi none=((its.drop (HT.dl its.length 0 lo)).take (HT.dl its.length its.length hi - HT.dl its.length 0 lo)).toArray:=by
 obtain ⟨h1,h2,h3⟩:=qk lo hi its.toArray.size;unfold slicePick;rw [h1,h2,h3];simp only [sliceRange_one,pick_run,zat] <;> rfl
def KN (K:zac):V->Option Int->Option Int->Hp->VK->Prop:=fun x lo hi H Q=>∃a xs,x=.ref a/\g9 K H a xs/\∀p,H p=none->Q (.ref p) (upd H p (.lst (qR xs lo hi)))
theorem CQ:Ch X (KN X.K):=by
 intro pins s σ H x v vl vu lo hi sl Q I rx hs pl pu h;obtain ⟨a,xs,rfl,hx,q⟩:=h;cases rx;obtain ⟨its,r,ht,hz⟩:=I.list hx;have hlen:=r.length;refine ⟨"list",_,slot_list_getitem.lookup,ht.isList.typeIs,?_⟩;refine wpAny_getItem_list_slice ht.isList hs pl pu .none (by simp) ?_ (by rw [zat] <;> omega);rw [oM,←hlen];refine ⟨.ref s.heap.objs.size,_,I.laid (t':=s.toks) (o:=.lst (qR xs lo hi)) (fun b ob q=>zae _ q) (zao _) ?_,rfl,q _ (I.hok.fresh (zao _))⟩;exact ⟨zbg (mv xs lo hi) hz,_,0,(r.drop (HT.dl xs.length 0 lo)).take (HT.dl xs.length xs.length hi - HT.dl xs.length 0 lo),zaq _ rfl⟩
def ly:V->Bool
 |.non=>true
 |.bl _=>true
 |.int _=>true
 |.str _=>true
 |_=>false
def El:V->V->Bool
 |.non,.non=>true
 |.bl a,.bl b=>a == b
 |.bl a,.int b=>(if a then 1 else 0) == b
 |.int a,.bl b=>a == (if b then 1 else 0)
 |.int a,.int b=>a == b
 |.str a,.str b=>a == b
 |_,_=>false
theorem Jq {s:Shared}{y x:V}{u v:Value}(ry:aY y u)(rx:aY x v)(fy:ly y=true)(fx:ly x=true):SeqAt.EqAt A s u v (El y x):=by
 cases y with
 |non =>
  cases ry
  cases x with
  |non=>cases rx;exact SeqAt.EqAt.same _
  |bl b=>cases rx;exact SeqAt.EqAt.none_bool b
  |int b=>obtain ⟨t,rfl⟩:=rx;exact SeqAt.EqAt.none_int b t
  |str b=>obtain ⟨t,rfl⟩:=rx;exact SeqAt.EqAt.none_str b t
  |_=>exact absurd (show false=true from fx) zbd
 |bl a =>
  cases ry
  cases x with
  |non=>cases rx;exact SeqAt.EqAt.bool_none a
  |bl b=>cases rx;exact SeqAt.EqAt.bool_bool a b
  |int b=>obtain ⟨t,rfl⟩:=rx;exact SeqAt.EqAt.bool_int a b t
  |str b=>obtain ⟨t,rfl⟩:=rx;exact SeqAt.EqAt.bool_str a b t
  |_=>exact absurd (show false=true from fx) zbd
 |int a =>
  obtain ⟨t',rfl⟩:=ry
  cases x with
  |non=>cases rx;exact SeqAt.EqAt.int_none a t'
  |bl b=>cases rx;exact SeqAt.EqAt.int_bool a t' b
  |int b=>obtain ⟨t,rfl⟩:=rx;exact SeqAt.EqAt.int_int a t' b t
  |str b=>obtain ⟨t,rfl⟩:=rx;exact SeqAt.EqAt.int_str a t' b t
  |_=>exact absurd (show false=true from fx) zbd
 |str a =>
  obtain ⟨t',rfl⟩:=ry
  cases x with
  |non=>cases rx;exact SeqAt.EqAt.str_none a t'
  |bl b=>cases rx;exact SeqAt.EqAt.str_bool a t' b
  |int b=>obtain ⟨t,rfl⟩:=rx;exact SeqAt.EqAt.str_int a t' b t
  |str b=>obtain ⟨t,rfl⟩:=rx;exact SeqAt.EqAt.str_str a t' b t
  |_=>exact absurd (show false=true from fx) zbd
 |_=>exact absurd (show false=true from fy) zbd
def Em (x:V)(u:Value):Bool:=match u with
 |.none=>El .non x
 |.bool b=>El (.bl b) x
 |.int i _=>El (.int i) x
 |.str z _=>El (.str z) x
 |_=>false
theorem BT {x y:V}{u:Value}(r:aY y u)(f:ly y=true):Em x u=El y x:=by
 cases y with
 |non=>cases r;rfl
 |bl b=>cases r;rfl
 |int i=>obtain ⟨t,rfl⟩:=r;rfl
 |str z=>obtain ⟨t,rfl⟩:=r;rfl
 |_=>exact absurd (show false=true from f) zbd
theorem rj {x:V}:∀{xs:List V} {us:Te},aU xs us->xs.all ly=true->us.any (Em x)=xs.any fun y=>El y x
 |_,_,.nil,_=>rfl
 |y::xs,u::us,.cons r t,f=>by
  rw [List.all_cons,zbP] at f;rw [zbA,zbA,BT r f.1,rj t f.2]
theorem nN {s:Shared}{x:V}{v:Value}(rx:aY x v)(fx:ly x=true):∀{xs:List V} {us:Te},aU xs us->xs.all ly=true->∀u∈us,SeqAt.EqAt A s u v (Em x u)
 |_,_,.nil,_=>fun u hu=>by cases hu
 |y::xs,u::us,.cons r t,f=>fun u' hu=>by
  rw [List.all_cons,zbP] at f;rcases zak.mp hu with rfl|hu
  ·rw [BT r f.1];exact Jq r rx f.1 fx
  ·exact nN rx fx t f.2 u' hu
def MQ (x:V)(xs:List V):Bool:=xs.any fun y=>El y x
def MI (K:zac)(neg:Bool):R2:=fun x y H Q=>∃p xs,y=.ref p/\(g9 K H p xs\/gG K H p xs)/\ly x=true/\xs.all ly=true/\Q (.bl (if neg then !MQ x xs else MQ x xs)) H
theorem qA:jU X (compareOp .NotIn) (MI X.K true):=by
 intro pins s σ H x y v u Q I rx ry h;obtain ⟨p,xs,rfl,hq,fx,fs,q⟩:=h;cases ry;rcases hq with hq|hq
 ·obtain ⟨its,r,pl,hz⟩:=I.list hq
  refine SeqAt.notIn_listAt (Em x) pl.isList (fun w hw=>nN rx fx r fs w (by simpa using hw)) ⟨.bl _,H,I,rfl,?_⟩;rw [show its.toArray.any (Em x)=its.any (Em x) by simp,rj r fs];exact q
 ·obtain ⟨its,r,pl,hz⟩:=I.tuple hq
  refine SeqAt.notIn_tupleAt (Em x) pl (fun w hw=>nN rx fx r fs w (by simpa using hw)) ⟨.bl _,H,I,rfl,?_⟩;rw [show its.toArray.any (Em x)=its.any (Em x) by simp,rj r fs];exact q
theorem qZ:im X (.builtin "len") (fun xs H Q=>∃p ys,xs=[.ref p]/\(g9 X.K H p ys\/gG X.K H p ys)/\Q (.int ys.length) H):=by
 intro pins s σ H xs us Q I r h;obtain ⟨p,ys,rfl,hq,q⟩:=h;obtain ⟨u,rfl,rx⟩:=l7 r;cases rx;have hn:=lL;rcases hq with hq|hq
 ·obtain ⟨its,r',pl,hz⟩:=I.list hq
  have hlen:=r'.length;exact Calls.call_len_list pl.isList (by simp only [zat] <;> omega) ⟨.int ys.length,H,I.tok _,⟨s.toks+1,by rw [zat,hlen]⟩,q⟩
 ·obtain ⟨its,r',pl,hz⟩:=I.tuple hq
  have hlen:=r'.length;exact len_tuple pl (by simp only [zat] <;> omega) ⟨.int ys.length,H,I.tok _,⟨s.toks+1,by rw [zat,hlen]⟩,q⟩
theorem qY:im X (.type "list") (fun xs H Q=>∃p ys,xs=[.ref p]/\(g9 X.K H p ys\/gG X.K H p ys)/\∀l,H l=none->Q (.ref l) (upd H l (.lst ys))):=by
 intro pins s σ H xs us Q I r h;obtain ⟨p,ys,rfl,hq,q⟩:=h;obtain ⟨u,rfl,rx⟩:=l7 r;cases rx
 have fin:∀(its:Te),aU ys its->ys.length<=sizeLine->∀(h':Heap) (c':Nat),(∀b o',s.heap.get? b=some o'->h'.get? b=some o') ->
   h'.get? s.heap.objs.size=some {cls:=.type "list",dict:=none,data:=.seq its.toArray c',slots:=#[]}->EP X pins σ Q (.ref s.heap.objs.size) {s with heap:=h'}:=fun its r' hz h' c' kp e =>
  ⟨.ref s.heap.objs.size,_,I.laid (t':=s.toks) kp (zao _) (show bE X.prog X.w _ h' _ (.lst ys) from ⟨hz,its,c',r',e⟩),rfl,q _ (I.hok.fresh (zao _))⟩
 rcases hq with hq|hq
 ·obtain ⟨its,r',pl,hz⟩:=I.list hq
  have hlen:=r'.length;obtain ⟨o,ho,hc,n,hd⟩:=pl.isList;exact call_list_seq p (.inl rfl) ho hc hd (fun h' c' kp e=>fin its r' hz h' c' kp e) (by simp only [zat] <;> omega)
 ·obtain ⟨its,r',pl,hz⟩:=I.tuple hq
  have hlen:=r'.length;obtain ⟨o,ho,hc,n,hd⟩:=pl;exact call_list_seq p (.inr rfl) ho hc hd (fun h' c' kp e=>fin its r' hz h' c' kp e) (by simp only [zat] <;> omega)
theorem jT:im X (.type "tuple") (fun xs H Q=>∃p ys,xs=[.ref p]/\((g9 X.K H p ys/\∀l,H l=none->Q (.ref l) (upd H l (.tup ys)))\/(gG X.K H p ys/\Q (.ref p) H))):=by
 intro pins s σ H xs us Q I r h;obtain ⟨p,ys,rfl,h⟩:=h;obtain ⟨u,rfl,rx⟩:=l7 r;cases rx;rcases h with ⟨hq,q⟩|⟨hq,q⟩
 ·obtain ⟨its,r',pl,hz⟩:=I.list hq
  have hlen:=r'.length;refine call_tuple_list pl.isList (fun h' kp=>?_) (by simp only [zat] <;> omega);have I1:aD X pins σ H {s with heap:=h'}:=I.kept (t':=s.toks) kp
  have I2:aD X pins σ (upd H h'.objs.size (.tup ys)) {s with heap:=h'.push {cls:=.type "tuple",data:=.seq its.toArray}} :=
   I1.laid (t':=s.toks) (fun b o e=>zae _ e) (zao _) (show bE X.prog X.w _ _ _ (.tup ys) from ⟨hz,its,r',jo.new _ _⟩)
  exact ⟨.ref h'.objs.size,_,I2,rfl,q _ (I1.hok.fresh (zao _))⟩
 ·obtain ⟨its,r',pl,hz⟩:=I.tuple hq
  exact call_tuple_same pl ⟨.ref p,H,I,rfl,q⟩
def MD (K:zac)(T:String)(x:V)(H:Hp):Prop:=match x with
 |.str _=>T = "str"
 |.int _=>T = "int"
 |.ref p=>(T = "list"/\∃xs,g9 K H p xs)\/(T = "tuple"/\∃o,K.lookup p=some o/\o.cls=.type "tuple"/\o.dict=none) \/
   (T = "dict"/\((∃kvs,H p=some (.dK kvs))\/∃kvs,H p=some (.dT kvs)))\/(T = "set"/\∃S n,H p=some (.set S n))
 |_=>False
theorem yN {H:Hp}{s:Shared}{T:String}{x:V}{v:Value}(I:aD X pins σ H s)(r:aY x v)(ty:MD X.K T x H) :
  s.TypeIs v T/\∀a,v=.ref a->∃ob,s.heap.get? a=some ob/\ob.dict=none:=by
 cases x with
 |str z =>
  obtain ⟨t,rfl⟩:=r;cases (show T = "str" from ty);exact ⟨typeIs_str s z t,fun _ e=>nomatch e⟩
 |int i =>
  obtain ⟨t,rfl⟩:=r;cases (show T = "int" from ty);exact ⟨typeIs_int s i t,fun _ e=>nomatch e⟩
 |ref p =>
  cases r;rcases ty with ⟨rfl,xs,hq⟩|⟨rfl,o,hk,hc,hd⟩|⟨rfl,hk⟩|⟨rfl,S,n,hk⟩
  ·obtain ⟨its,_,pl,_⟩:=I.list hq
   refine ⟨pl.isList.typeIs,fun a e=>?_⟩;cases e;obtain ⟨o,n,e,c,hd,_⟩:=pl;exact ⟨o,e,hd⟩
  ·refine ⟨⟨o,I.kIn p o hk,hc⟩,fun a e=>?_⟩
   cases e;exact ⟨o,I.kIn _ o hk,hd⟩
  ·have z:∃o,s.heap.get? p=some o/\o.ExactDict:=by
    rcases hk with ⟨kvs,hk⟩|⟨kvs,hk⟩
    ·obtain ⟨_,_,_,_,o,_,_,e,ex,_⟩:=I.hok p _ hk
     exact ⟨o,e,ex⟩
    ·obtain ⟨_,_,_,_,o,_,_,e,ex,_⟩:=I.hok p _ hk
     exact ⟨o,e,ex⟩
   obtain ⟨o,e,ex⟩:=z;refine ⟨⟨o,e,ex.1⟩,fun a e2=>?_⟩;cases e2;exact ⟨o,e,ex.2.1⟩
  ·obtain ⟨o,_,_,_,e,ex,_⟩:=I.hok p _ hk
   refine ⟨⟨o,e,ex.1⟩,fun a e2=>?_⟩;cases e2;exact ⟨o,e,ex.2.1⟩
 |_=>exact False.elim ty
def Ku (K:zac)(T:String)(r:V->List V->Hp->VK->Prop)(to:TE):TE:=fun σ H Q=>to σ H fun x H1=>MD K T x H1/\r x [] H1 Q
def QI (K:zac)(T:String)(r:V->List V->Hp->VK->Prop)(to:TE)(t:TA):TE:=fun σ H Q=>to σ H fun x H1=>MD K T x H1/\t σ H1 fun xs H2=>r x xs H2 Q
variable  {o e:Expr}{es:Tj}{to:TE}{t:TA}{name:Str}{apos cpos:Pos}{T id:String}{r:V->List V->Hp->VK->Prop}
theorem Il (pa:PlainAttrs T)(slot:Slot T name id)(hty:typeOf (.builtin id)=pure (.type "method_descriptor"))(hm:Rn X id r)(ho:PE X o to)
  (hbase:attributeBase o name X.env (eval o X.env)=eval o X.env:=by rfl) (hline:(apos.endLine == cpos.line)=true:=by rfl):PE X (.Call (.Attribute o name apos) [] [] cpos) (Ku X.K T r to):=by
 intro pins s σ H Q I h;refine wpAny_Call_method0_late hbase hline (cy (ho pins s σ H _ I h) fun v s1 hh=>?_);obtain ⟨x,H1,I1,r1,ty,q1⟩:=hh;obtain ⟨h1,h2⟩:=yN I1 r1 ty;exact ⟨T,id,pa,slot,hty,h1,h2,Calls.callWith_builtin rfl (PySem.evalArgs_none (hm pins s1 σ H1 x [] v [] Q I1 r1 .nil q1))⟩
theorem Lh (pa:PlainAttrs T)(slot:Slot T name id)(hty:typeOf (.builtin id)=pure (.type "method_descriptor"))(hm:Rn X id r)(ho:PE X o to)(ha:PA X (e::es) t)
  (hbase:attributeBase o name X.env (eval o X.env)=eval o X.env:=by rfl)
  (hfew:((backTo cpos (starEach (e::es) X.env)).all (fun x=>!x.1) && (backToKw cpos (keywordEach [] X.env)).all (fun x=>x.1.isSome)
   && decide ((e::es).length+([]:List Keyword).length+(if ([]:List Keyword).isEmpty then 0 else 1) < 30))=true:=by rfl)
  (hline:(apos.endLine == cpos.line)=true:=by rfl) (hs:starEach (e::es) X.env=(false,eval e X.env)::starEach es X.env:=by rfl) (hplain:(backTo cpos (starEach es X.env)).any (·.1)=false:=by rfl) :
  PE X (.Call (.Attribute o name apos) (e::es) [] cpos) (QI X.K T r to t):=by
 intro pins s σ H Q I h;refine wpAny_Call_method_late hbase hfew hline rfl (cy (ho pins s σ H _ I h) fun v s1 hh=>?_);obtain ⟨x,H1,I1,r1,ty,q1⟩:=hh;obtain ⟨h1,h2⟩:=yN I1 r1 ty;refine ⟨T,id,pa,slot,hty,h1,h2,?_⟩;have hA:=ha cpos pins s1 σ H1 _ I1 q1;rw [hs] at hA ⊢;refine Calls.callWith_builtin (by show (false || (backTo cpos (starEach es X.env)).any (·.1))=false;rw [hplain] <;> rfl) (Calls.evalArgs_plain ?_);exact cy hA fun us s2 ⟨vs,H2,I2,r2,q2⟩=>hm pins s2 σ H2 x vs v us Q I2 r1 r2 q2
end
def Ro (X:Cx)(id:String)(r:V->List V->Hp->VK->Prop):Prop :=
 ∀(pins:Tc) (s:Shared) (σ:St) (H:Hp) (x:V) (xs:List V) (v:Value) (us:Te) (Q:VK),aD X pins σ H s->aY x v->aU xs us->r x xs H Q ->
  wpAny (model X.prog X.w) X.A (call (.builtin id) (v::us)) (EP X pins σ Q) X.xe s
theorem aU.one {x:V}{us:Te}(h:aU [x] us):∃u,us=[u]/\aY x u:=by
 cases h with|cons r t=>cases t;exact ⟨_,rfl,r⟩
theorem aU.zero:∀{us:Te},aU [] us->us=[]
 |_,.nil=>rfl
section
variable  {X:Cx}{pins:Tc}{σ:St}{H:Hp}{s:Shared}{l b:Addr}{xs ys zs:List V}
theorem aD.lset {its its':Te}{n:Nat}{f:Array Value->Ti}{t':Nat}(I:aD X pins σ H s)(hH:H l=some (.lst xs))
  (e:s.heap.get? l=some {cls:=.type "list",data:=.seq its.toArray n}) (hf:f its.toArray=its'.toArray) (hv:aU ys its') (hz:ys.length<=sizeLine) :
  aD X pins σ (upd H l (.lst ys)) {s with heap:=s.heap.update l (Obj.mapSeq f),toks:=t'}:=by
 have q:=PySem.IsL.update e f;rw [hf] at q;refine I.write (x:=l) (e:=l) (by rw [hH];exact trivial) (.inl rfl) (fun b' u hb hu=>(zaz s.heap (Obj.mapSeq f) (Ne.symm hb)).trans hu) ⟨_,q⟩ ?_;exact ⟨hz,its',_,hv,q⟩
theorem aD.lnew {its:Te}{t':Nat}(I:aD X pins σ H s)(hv:aU ys its)(hz:ys.length<=sizeLine) :
  aD X pins σ (upd H s.heap.objs.size (.lst ys)) {s with heap:=s.heap.push {cls:=.type "list",data:=.seq its.toArray},toks:=t'} :=
 I.laid (fun _ _ q=>zae _ q) (zao _) ⟨hz,its,0,hv,zaq _ rfl⟩
theorem aD.fresh (I:aD X pins σ H s):H s.heap.objs.size=none:=I.hok.fresh (zao _)
theorem aD.lstM (I:aD X pins σ H s)(hH:H l=some (.lst xs)):xs.length<=sizeLine/\∃(its:Te) (n:Nat),aU xs its/\xs.length=its.length/\s.heap.get? l=some {cls:=.type "list",data:=.seq its.toArray n}:=by
 obtain ⟨z,its,n,r,e⟩:=I.hok l _ hH;exact ⟨z,its,n,r,r.length,e⟩
end
section
variable  {X:Cx}
def wu:V->List V->Hp->VK->Prop:=fun x vs H Q=>∃l xs y,x=.ref l/\vs=[y]/\H l=some (.lst xs)/\xs.length < sizeLine/\Q .non (upd H l (.lst (xs++[y])))
theorem xW:Ro X "list.append" wu:=by
 intro pins s σ H x vs v us Q I rx rv h;obtain ⟨l,xs,y,rfl,rfl,hH,hz,q⟩:=h;cases rx;obtain ⟨u,rfl,ru⟩:=rv.one;obtain ⟨z,its,n,r,hl,e⟩:=I.lstM hH;refine call_meets F.slot_list_append ⟨_,e,rfl⟩ F.entry_list_append (F.args_list_append_2 _ _) (PySem.list_append l its.toArray n u (by rw [zat];omega)) ⟨e,?_⟩;refine ⟨.non,_,I.lset (its':=its++[u]) hH e (by simp) (r.append (.cons ru .nil)) ?_,rfl,q⟩;rw [zaX,List.length_singleton];omega
def Ap:V->List V->Hp->VK->Prop:=fun x vs H Q=>∃l xs,x=.ref l/\vs=[]/\H l=some (.lst xs)/\Q .non (upd H l (.lst []))
theorem AX:Ro X "list.clear" Ap:=by
 intro pins s σ H x vs v us Q I rx rv h;obtain ⟨l,xs,rfl,rfl,hH,q⟩:=h;cases rx;have hus:=rv.zero;subst hus;obtain ⟨z,its,n,r,hl,e⟩:=I.lstM hH;refine call_meets F.slot_list_clear ⟨_,e,rfl⟩ F.entry_list_clear (F.args_list_clear_1 _) (AutoSeq1.list_clear_list_0 l its.toArray n (by rw [zat];omega)) ⟨e,?_⟩;exact ⟨.non,_,I.lset (its':=[]) (ys:=[]) hH e rfl .nil (za3 _),rfl,q⟩
def KY:R2:=fun x y H Q=>∃l b xs zs,x=.ref l/\y=.ref b/\H l=some (.lst xs)/\H b=some (.lst zs)/\xs.length+zs.length<=sizeLine/\∀p,H p=none->Q (.ref p) (upd H p (.lst (xs++zs)))
theorem Is:jU X (binaryOp .Add) KY:=by
 intro pins s σ H x y v u Q I rx ry h;obtain ⟨l,b,xs,zs,rfl,rfl,hH,hB,hz,q⟩:=h;cases rx;cases ry;obtain ⟨z,its,n,r,hl,e⟩:=I.lstM hH;obtain ⟨z2,its2,n2,r2,hl2,e2⟩:=I.lstM hB;refine PySem.P.add_list e e2 ?_ (by rw [zat,zat];omega)
 have ea:its.toArray++its2.toArray=(its++its2).toArray:=by simp
 rw [ea];exact ⟨.ref _,_,I.lnew (t':=s.toks) (r.append r2) (by rw [zaX];omega),rfl,q _ I.fresh⟩
end
section
variable  {κ:Type}[DecidableEq κ]
def cx (kvs:List (κ×V))(k:κ):Option V:=(kvs.find? fun kv=>decide (kv.1=k)).map (·.2)
def fW (kvs:List (κ×V))(k:κ)(v:V):List (κ×V) :=
 if (kvs.any fun kv=>decide (kv.1=k))=true then kvs.map (fun kv=>if kv.1=k then (kv.1,v) else kv) else kvs++[(k,v)]
theorem nc {p:κ×V}{r:List (κ×V)}{k:κ}(e:p.1=k):cx (p::r) k=some p.2:=by simp [cx,zcc,e]
theorem hV {p:κ×V}{r:List (κ×V)}{k:κ}(e:¬ p.1=k):cx (p::r) k=cx r k:=by simp [cx,zcc,e]
theorem ng (k:κ):∀kvs:List (κ×V),(kvs.any fun kv=>decide (kv.1=k))=(cx kvs k).isSome
 |[]=>rfl
 |p::r=>by
  rw [zbA]
  by_cases e:p.1=k
  ·simp only [nc e,zaQ e,Bool.true_or,zcZ]
  ·rw [hV e,zaK e,Bool.false_or];exact ng k r
theorem gM (kvs:List (κ×V))(k:κ)(v:V):(fW kvs k v).length<=kvs.length+1:=by
 unfold fW;split
 ·rw [zal];omega
 ·rw [zaX,zaD,zco];omega
theorem nI {kvs:List (κ×V)}{k:κ}(v:V)(h:cx kvs k=none):fW kvs k v=kvs++[(k,v)]:=by
 unfold fW;rw [ng,h];exact if_neg (by decide)
theorem mO.isSome_eq {o:Option V}{u:Tg}(r:mO o u):o.isSome=u.isSome:=by
 cases o with
 |none=>cases u with
  |none=>rfl
  |some _=>exact (show False from r).elim
 |some _=>cases u with
  |none=>exact (show False from r).elim
  |some _=>rfl
theorem mO.getD {o:Option V}{u:Tg}{d:V}{d':Value}(r:mO o u)(rd:aY d d'):aY (o.getD d) (u.getD d'):=by
 cases o with
 |none=>cases u with
  |none=>exact rd
  |some _=>exact (show False from r).elim
 |some _=>cases u with
  |none=>exact (show False from r).elim
  |some _=>exact r
theorem KV.val {kvs:List (κ×V)}{vs:List (κ×Value)}(r:KV kvs vs)(k:κ):mO (cx kvs k) (valueAt vs k):=by
 unfold KV at r
 induction r with
 |nil=>exact True.intro
 | @cons p q ps qs h t ih =>
  obtain ⟨h1,h2⟩:=h
  by_cases e:p.1=k
  ·have e':q.1=k:=h1.symm.trans e
   have b:valueAt (q::qs) k=some q.2:=by simp [valueAt,zcc,e']
   rw [nc e,b];exact h2
  ·have e':¬ q.1=k:=fun z=>e (h1.trans z)
   have b:valueAt (q::qs) k=valueAt qs k:=by simp [valueAt,zcc,e']
   rw [hV e,b];exact ih
theorem KV.any {kvs:List (κ×V)}{vs:List (κ×Value)}(r:KV kvs vs)(k:κ):(kvs.any fun kv=>decide (kv.1=k))=vs.any fun kv=>decide (kv.1=k):=by
 unfold KV at r
 induction r with
 |nil=>rfl
 |cons h t ih=>rw [zbA,zbA,ih,h.1]
theorem KV.repl {kvs:List (κ×V)}{vs:List (κ×Value)}(r:KV kvs vs)(k:κ){y:V}{u:Value}(ry:aY y u) :
  KV (kvs.map fun kv=>if kv.1=k then (kv.1,y) else kv) (vs.map fun kv=>if kv.1=k then (kv.1,u) else kv):=by
 unfold KV at r ⊢
 induction r with
 |nil=>exact .nil
 | @cons p q ps qs h t ih =>
  rw [zaf,zaf];refine .cons ?_ ih;obtain ⟨h1,h2⟩:=h
  by_cases e:p.1=k
  ·rw [if_pos e,if_pos (h1.symm.trans e)];exact ⟨h1,ry⟩
  ·rw [if_neg e,if_neg (fun z=>e (h1.trans z))];exact ⟨h1,h2⟩
theorem KV.put {kvs:List (κ×V)}{vs:List (κ×Value)}(r:KV kvs vs)(k:κ){y:V}{u:Value}(ry:aY y u):KV (fW kvs k y) (stored vs k u):=by
 unfold fW stored;rw [r.any k]
 by_cases e:(vs.any fun kv=>decide (kv.1=k))=true
 ·rw [if_pos e,if_pos e];exact r.repl k ry
 ·rw [if_neg e,if_neg e];exact Paired.snoc r ⟨rfl,ry⟩
theorem KV.length {kvs:List (κ×V)}{vs:List (κ×Value)}(r:KV kvs vs):kvs.length=vs.length:=Paired.length r
end
theorem mi {P:Program}{w:World}{k:aE}{u:Value}(r:aY (kV k) u):(aX P w).is k u=true:=by
 cases k with
 |inl i=>obtain ⟨t,e⟩:=(show ∃t,u=Value.int i t from r);subst e;exact sL P w i t
 |inr o=>cases o with
  |some x=>obtain ⟨t,e⟩:=(show ∃t,u=Value.str x t from r);subst e;exact sK P w x t
  |none=>have e:u=Value.none:=r;subst e;exact yb
theorem pI {P:Program}{w:World}:∀{ks:List aE} {us:Te},aU (ks.map kV) us->ItemsAre (aX P w) ks us
 |[],_,r=>by rw [zaY] at r;cases r;exact .nil
 |k::ks,_,r=>by
  rw [zaf] at r
  cases r with
  |cons h t=>exact .cons (mi h) (pI t)
abbrev KT (H:Hp):List (List aE×V)->List (List aE×Addr×Value)->Prop:=Paired fun p q=>p.1=q.1/\H q.2.1=some (.tup (p.1.map kV))/\aY p.2 q.2.2
theorem KT.val {H:Hp}{kvs:List (List aE×V)}{xs:List (List aE×Addr×Value)}(r:KT H kvs xs)(k:List aE):mO (cx kvs k) ((atKey xs k).map (·.2)):=by
 induction r with
 |nil=>exact True.intro
 | @cons p q ps qs h t ih =>
  obtain ⟨h1,_,h2⟩:=h
  by_cases e:p.1=k
  ·have e':q.1=k:=h1.symm.trans e
   have b:atKey (q::qs) k=some q.2:=by simp [atKey,zcc,e']
   rw [nc e,b];exact h2
  ·have e':¬ q.1=k:=fun z=>e (h1.trans z)
   have b:atKey (q::qs) k=atKey qs k:=by simp [atKey,zcc,e']
   rw [hV e,b];exact ih
theorem KT.repl {H:Hp}{kvs:List (List aE×V)}{xs:List (List aE×Addr×Value)}(r:KT H kvs xs)(k:List aE){y:V}{u:Value}(ry:aY y u) :
  KT H (kvs.map fun kv=>if kv.1=k then (kv.1,y) else kv) (xs.map (putAt k u)):=by
 induction r with
 |nil=>exact .nil
 | @cons p q ps qs h t ih =>
  rw [zaf,zaf];refine .cons ?_ ih;obtain ⟨h1,h2,h3⟩:=h;unfold putAt
  by_cases e:p.1=k
  ·rw [if_pos e,if_pos (h1.symm.trans e)];exact ⟨h1,h2,ry⟩
  ·rw [if_neg e,if_neg (fun z=>e (h1.trans z))];exact ⟨h1,h2,h3⟩
theorem KT.put {H:Hp}{kvs:List (List aE×V)}{xs:List (List aE×Addr×Value)}(r:KT H kvs xs)(k:List aE){b:Addr}{y:V}{u:Value}(hb:H b=some (.tup (k.map kV)))(ry:aY y u) :
  KT H (fW kvs k y) (storedH xs k b u):=by
 have e:(kvs.any fun kv=>decide (kv.1=k))=(atKey xs k).isSome:=by
  rw [ng,(r.val k).isSome_eq,Option.isSome_map]
 unfold fW storedH;rw [e]
 by_cases q:(atKey xs k).isSome=true
 ·rw [if_pos q,if_pos q];exact r.repl k ry
 ·rw [if_neg q,if_neg q];exact Paired.snoc r ⟨rfl,hb,ry⟩
theorem KT.keeps {H H':Hp}{kvs:List (List aE×V)}{xs:List (List aE×Addr×Value)}(r:KT H kvs xs)(ht:∀b ys,H b=some (.tup ys)->H' b=some (.tup ys)):KT H' kvs xs :=
 Paired.mapP r fun _ _ z=>⟨z.1,ht _ _ z.2.1,z.2.2⟩
section
variable  {P:Program}{w:World}{H:Hp}{h:Heap}{a:Addr}
theorem FN {u:HO}(ok:io P w H h)(e:Rd H a u):bE P w H h a u:=e.ok ok
theorem pU {kvs:List (aE×V)}(ok:io P w H h)(e:Rd H a (.dK kvs)):kvs.length<=sizeLine/\(a == sysModules)=false/\∃vs,KV kvs vs/\h.DictOf (aX P w) a vs :=
 show bE P w H h a (.dK kvs) from FN ok e
theorem BX {kvs:List (aE×V)}(ok:io P w H h)(e:H a=some (.dK kvs)):kvs.length<=sizeLine/\(a == sysModules)=false/\∃vs,KV kvs vs/\h.DictOf (aX P w) a vs:=pU ok (.inl e)
theorem lM {ks:List aE}(ok:io P w H h)(e:H a=some (.tup (ks.map kV))):(tupleKind (aX P w)).is h ks a:=by
 obtain ⟨_,its,r,⟨o,h1,h2,n,h3⟩,_⟩:=(show bE P w H h a (.tup (ks.map kV)) from ok a _ e);exact ⟨o,its.toArray,n,h1,h2,h3,by simpa using pI r⟩
theorem pT {kvs:List (List aE×V)}(ok:io P w H h)(e:Rd H a (.dT kvs)):kvs.length<=sizeLine/\(a == sysModules)=false /\
  ∃xs,KT H kvs xs/\h.DictOfH (tupleKind (aX P w)) a xs:=by
 obtain ⟨z,y,xs,r,o,es,ep,h1,h2,h3,h4,h5⟩:=(show bE P w H h a (.dT kvs) from FN ok e);refine ⟨z,y,xs,r,o,es,ep,h1,h2,h3,h4,fun x hx=>?_,h5⟩
 have all:∀{l:List (List aE×V)} {m:List (List aE×Addr×Value)},KT H l m->∀x∈m,(tupleKind (aX P w)).is h x.1 x.2.1:=by
  intro l m q
  induction q with
  |nil=>intro x hx;exact nomatch hx
  | @cons p q ps qs hq t ih =>
   intro x hx;rcases zak.mp hx with e|hx
   ·subst e
    exact lM ok (by rw [←hq.1];exact hq.2.1)
   ·exact ih x hx
 exact all r x hx
theorem Go {kvs:List (List aE×V)}(ok:io P w H h)(e:H a=some (.dT kvs)):kvs.length<=sizeLine/\(a == sysModules)=false /\
  ∃xs,KT H kvs xs/\h.DictOfH (tupleKind (aX P w)) a xs:=pT ok (.inl e)
end
def yx (H:Hp)(a:Addr)(y:V)(r:Option V):Prop :=
 (∃kvs k,Rd H a (.dK kvs)/\y=kV k/\r=cx kvs k)\/∃kvs k b,Rd H a (.dT kvs)/\y=.ref b/\H b=some (.tup (k.map kV))/\r=cx kvs k
def EU (H:Hp)(a:Addr)(y v:V)(H':Hp):Prop :=
 (∃kvs k,H a=some (.dK kvs)/\y=kV k/\kvs.length < sizeLine/\H'=upd H a (.dK (fW kvs k v))) \/
 ∃kvs k b,H a=some (.dT kvs)/\y=.ref b/\H b=some (.tup (k.map kV))/\kvs.length < sizeLine/\H'=upd H a (.dT (fW kvs k v))
theorem EU.k {H:Hp}{a:Addr}{kvs:List (aE×V)}{k:aE}{v:V}(e:H a=some (.dK kvs))(hl:kvs.length < sizeLine):EU H a (kV k) v (upd H a (.dK (fW kvs k v))):=.inl ⟨kvs,k,e,rfl,hl,rfl⟩
section
variable  {X:Cx}{pins:Tc}{σ:St}{H:Hp}{s:Shared}{a:Addr}{y v:V}{u r:Value}{o:Option V}{A:Around}{E:Tb}
theorem aD.big (I:aD X pins σ H s):sysModules < s.heap.objs.size:=by
 have h:mainGlobals < s.heap.objs.size:=(I.mod.glob.keeps I.bk).lt;exact Nat.lt_trans (by decide) h
theorem yo {Q:Tb}(hu:A.units+1 < cLine)(I:aD X pins σ H s)(g:yx H a y (some v))(ry:aY y u)(h:∀w' s',aD X pins σ H s'->aY v w'->Q w' s') :
  wpAny (model X.prog X.w) A (getItem (.ref a) u) Q E s:=by
 rcases g with ⟨kvs,k,e,ey,l⟩|⟨kvs,k,b,e,ey,eb,l⟩
 ·subst ey
  obtain ⟨z,hd,vs,rel,dd⟩:=pU I.hok e;obtain ⟨w',hw,rw'⟩:=mO.some_of (v:=v) (o:=valueAt vs k) (by rw [l];exact rel.val k);exact wpAny_getItem_of (mi ry) dd.mapOf hw (h w' _ (I.tok _) rw')
 ·subst ey
  cases (show u=Value.ref b from ry);obtain ⟨z,hd,xs,rel,dd⟩:=pT I.hok e;obtain ⟨w',hw,rw'⟩:=mO.some_of (v:=v) (o:=(atKey xs k).map (·.2)) (by rw [l];exact rel.val k);obtain ⟨p,hp,hp2⟩:=zaM.mp hw;refine wpAny_getItem_heap (tupleKind_room_in1 hu) (lM I.hok eb) dd hp ?_;rw [hp2];exact h w' _ (I.tok _) rw'
theorem Et {Q:Tb}(hu:A.units+1 < cLine)(I:aD X pins σ H s)(g:yx H a y o)(ry:aY y u)(h:∀s',aD X pins σ H s'->Q (.bool (!o.isSome)) s') :
  wpAny (model X.prog X.w) A (compareOp .NotIn u (.ref a)) Q E s:=by
 rcases g with ⟨kvs,k,e,ey,l⟩|⟨kvs,k,b,e,ey,eb,l⟩
 ·subst ey
  obtain ⟨z,hd,vs,rel,dd⟩:=pU I.hok e;refine wpAny_notIn_of (mi ry) hd dd.mapOf ?_;rw [←(rel.val k).isSome_eq,←l];exact h _ (I.tok _)
 ·subst ey
  cases (show u=Value.ref b from ry);obtain ⟨z,hd,xs,rel,dd⟩:=pT I.hok e;refine wpAny_notIn_heap (tupleKind_room_in1 hu) (lM I.hok eb) hd dd ?_;have q:=(rel.val k).isSome_eq;rw [Option.isSome_map] at q;rw [←q,←l];exact h _ (I.tok _)
theorem lC {h':Heap}{t':Nat}{ob:HO}(I:aD X pins σ H s)(mu:Mx (H a))(hs:Heap.SameBut a s.heap h')(he:∃q,h'.get? a=some q)(new:bE X.prog X.w (upd H a ob) h' a ob) :
  aD X pins σ (upd H a ob) {s with heap:=h',toks:=t'} :=
 I.write (x:=a) (e:=a) mu (.inl rfl) (fun b q hb z=>(hs.2 b hb).trans z) he new
theorem vD {P:Program}{w:World}{H':Hp}{h':Heap}{kvs:List (aE×V)}{vs:List (aE×Value)}(z:kvs.length<=sizeLine)(hd:(a == sysModules)=false)(rel:KV kvs vs)(dd:h'.DictOf (aX P w) a vs) :
  bE P w H' h' a (.dK kvs):=⟨z,hd,vs,rel,dd⟩
theorem yn {H':Hp}{Q:Unit->Shared->Prop}(hu:A.units+1 < cLine)(I:aD X pins σ H s)(g:EU H a y v H')(ry:aY y u)(rv:aY v r)(h:∀s',aD X pins σ H' s'->Q () s') :
  wpAny (model X.prog X.w) A (setItem (.ref a) u r) Q E s:=by
 rcases g with ⟨kvs,k,e,ey,l,eH⟩|⟨kvs,k,b,e,ey,eb,l,eH⟩
 ·subst ey eH
  obtain ⟨z,hd,vs,rel,dd⟩:=BX I.hok e
  have hz:vs.length<=sizeLine:=by rw [←rel.length];exact z
  have hl:(fW kvs k v).length<=sizeLine:=by have:=gM kvs k v;omega
  refine wpAny_setItem_pairs (hsz:=hz) (mi ry) dd fun h' dd' hs=>h _ ?_;have he:∃q,h'.get? a=some q:=let ⟨q,_,_,hq,_⟩:=dd';⟨q,hq⟩;exact lC I (by rw [e];exact True.intro) hs he (vD hl hd (rel.put k rv) dd')
 ·subst ey eH
  cases (show u=Value.ref b from ry);obtain ⟨z,hd,xs,rel,dd⟩:=Go I.hok e
  have hz:xs.length<=sizeLine:=by rw [←Paired.length rel];exact z
  have hl:(fW kvs k v).length<=sizeLine:=by have:=gM kvs k v;omega
  refine wpAny_setItem_heap (hsz:=hz) (tupleKind_room_in1 hu) (lM I.hok eb) dd fun h' dd' hs=>h _ ?_;obtain ⟨q,es,ep,hq,h2,h3,h4,_,h5⟩:=dd';refine lC I (by rw [e];exact True.intro) hs ⟨q,hq⟩ ⟨hl,hd,_,(rel.put k eb rv).keeps fun c ys ec=>?_,q,es,ep,hq,h2,h3,h4,h5⟩;rw [aB (F4 ec e (fun z=>nomatch z))];exact ec
end
def EK (i:Expr):Prop:=∀ov iv,subscripted i false ov iv=operate [ov,iv] (getItem ov iv)
theorem CL {prog:Program}{w:World}{A:Around}{E:Tb}{s:Shared}{env:Env}{value slice:Expr}{pos:Pos}{T id:String}{Q:Tb}
  (hl:typeLookup (.type T) "__getitem__" = pure (some (.builtin id))) (hs:EK slice)
  (h:wpAny (model prog w) A (eval value env) (fun o s₁=>wpAny (model prog w) A (eval slice env) (fun i s₂=>s₂.TypeIs o T/\wpAny (model prog w) A (getItem o i) Q E s₂) E s₁) E s) :
  wpAny (model prog w) A (eval (.Subscript value slice pos) env) Q E s:=by
 refine Subscript_ (zbB h (fun o s₁ h₁=>zbB h₁ (fun i s₂ h₂=>?_) fun _ _ x=>x) fun _ _ x=>x);obtain ⟨hT,h₂⟩:=h₂;unfold subscriptTail;refine zab ?_;rw [getitemInPython_of_ne hT.not_modules];refine zab (zbZ hT hl ?_)
 have fin:wpAny (model prog w) A (subscripted slice false o i) (fun r s₃=>wpAny (model prog w) A (letTemporaryGo value o r >>= fun _=>pure r) Q E s₃) E s₂:=by
  rw [hs o i];exact wpAny_operating (zbB h₂ (fun r s₃ h₃=>zab (wpAny_letTemporaryGo (zad h₃))) fun _ _ x=>x)
 first
  |exact zad (zab fin)
  |exact zab (zad (zab fin))
  |exact zab fin
theorem tO {H:Hp}{s:Shared}{a:Addr}{y:V}{o:Option V}(I:aD X pins σ H s)(g:yx H a y o):s.TypeIs (.ref a) "dict":=by
 rcases g with ⟨kvs,k,e,_,_⟩|⟨kvs,k,b,e,_,_,_⟩
 ·obtain ⟨_,_,vs,_,dd⟩:=pU I.hok e
  exact dd.typeIs
 ·obtain ⟨_,_,xs,_,dd⟩:=pT I.hok e
  exact dd.typeIs
def zx (td ty:TE):TE:=fun σ H Q=>td σ H fun x H1=>ty σ H1 fun y H2=>∃a v,x=.ref a/\yx H2 a y (some v)/\Q v H2
section
variable  {X:Cx}{o i e value:Expr}{pos pos' tpos:Pos}{td ty tv:TE}
theorem wC (hu:X.A.units+1 < cLine)(ho:PE X o td)(hi:PE X i ty)(hs:EK i):PE X (.Subscript o i pos) (zx td ty):=by
 intro pins s σ H Q I h;refine CL PySem.F.slot_dict_getitem.lookup hs (cy (ho pins s σ H _ I h) fun u s1 hh=>?_);obtain ⟨x,H1,I1,rx,q1⟩:=hh;refine cy (hi pins s1 σ H1 _ I1 q1) fun iv s2 hh=>?_;obtain ⟨y,H2,I2,ry,a,v,ex,g,q2⟩:=hh;subst ex;obtain rfl:u=Value.ref a:=rx;exact ⟨tO I2 g,yo hu I2 g ry fun w' s3 I3 rw'=>⟨v,H2,I3,rw',q2⟩⟩
end
theorem tM {P:Program}{w:World}{H:Hp}(h:Heap)(hb:sysModules < h.objs.size):bE P w H (h.push {cls:=.type "dict",data:=.dict #[]}) h.objs.size (.dK []) :=
 ⟨za3 _,beq_eq_false_iff_ne.mpr (Ne.symm (zax hb)),[],.nil,Heap.DictOf.new h⟩
theorem BV {P:Program}{w:World}{H:Hp}(h:Heap)(hb:sysModules < h.objs.size):bE P w H (h.push {cls:=.type "dict",data:=.dict #[]}) h.objs.size (.dT []) :=
 ⟨za3 _,beq_eq_false_iff_ne.mpr (Ne.symm (zax hb)),[],.nil,_,#[],0,zaq _ rfl,⟨rfl,rfl,rfl⟩,rfl,rfl,List.nodup_nil⟩
def uF:TE:=fun _ H Q=>∀p,H p=none->Q (.ref p) (upd H p (.dK []))
def zu:TE:=fun _ H Q=>∀p,H p=none->Q (.ref p) (upd H p (.dT []))
section
variable  {X:Cx}{pos:Pos}
theorem sC:PE X (.Dict [] [] pos) uF:=fun pins s σ H Q I h =>
 wpAny_Dict_empty ⟨.ref s.heap.objs.size,_,I.laid (a:=s.heap.objs.size) (o:=.dK []) (t':=s.toks) (fun _ _ q=>zae _ q) (zao _) (tM s.heap I.big),rfl,h _ (I.hok.fresh (zao _))⟩
theorem AM:PE X (.Dict [] [] pos) zu:=fun pins s σ H Q I h =>
 wpAny_Dict_empty ⟨.ref s.heap.objs.size,_,I.laid (a:=s.heap.objs.size) (o:=.dT []) (t':=s.toks) (fun _ _ q=>zae _ q) (zao _) (BV s.heap I.big),rfl,h _ (I.hok.fresh (zao _))⟩
end
def qh:List (TE×TE)->St->Hp->(List (V×V)->Hp->Prop)->Prop
 |[],_,H,Q=>Q [] H
 |(tk,tv)::r,σ,H,Q=>tk σ H fun x H1=>tv σ H1 fun y H2=>qh r σ H2 fun ps H3=>Q ((x,y)::ps) H3
abbrev VV:List (V×V)->List (Value×Value)->Prop:=Paired fun p q=>aY p.1 q.1/\aY p.2 q.2
def NK (X:Cx)(pos:Pos)(keys:List (Option Expr))(values:Tj)(trs:List (TE×TE)):Prop :=
 ∀(pins:Tc) (s:Shared) (σ:St) (H:Hp) (Q:List (V×V)->Hp->Prop),aD X pins σ H s->qh trs σ H Q ->
  wpAny (model X.prog X.w) X.A (evalPairs (pairTrees keys values X.env pos)) (fun vs s'=>∃ps H',aD X pins σ H' s'/\VV ps vs/\Q ps H') X.xe s
theorem Ds {pos:Pos}:NK X pos [] [] []:=fun pins s σ H Q I h=>pairTrees_nil_walk ⟨[],H,I,.nil,h⟩
theorem AA {pos:Pos}{k v:Expr}{ks:List (Option Expr)}{vs:Tj}{tk tv:TE}{trs:List (TE×TE)}(hk:PE X k tk)(hv:PE X v tv)(hr:NK X pos ks vs trs) :
  NK X pos (some k::ks) (v::vs) ((tk,tv)::trs):=fun pins s σ H Q I h =>
 pairTrees_cons_walk (cy (hk pins s σ H _ I h) fun u s1 ⟨x,H1,I1,rx,q1⟩=>cy (hv pins s1 σ H1 _ I1 q1) fun w2 s2 ⟨y,H2,I2,ry,q2⟩ =>
  cy (hr pins s2 σ H2 _ I2 q2) fun ws s3 ⟨ps,H3,I3,rel,q3⟩=>⟨(x,y)::ps,H3,I3,.cons ⟨rx,ry⟩ rel,q3⟩)
def nM (kvs more:List (aE×V)):List (aE×V):=more.foldl (fun acc kv=>fW acc kv.1 kv.2) kvs
theorem KV.merge:∀{more:List (aE×V)} {rs:List (aE×Value)} {kvs:List (aE×V)} {vs:List (aE×Value)},KV more rs->KV kvs vs->KV (nM kvs more) (merged vs rs):=by
 intro more rs kvs vs r;unfold KV at r
 induction r generalizing kvs vs with
 |nil=>intro q;exact q
 | @cons p q ps qs h t ih =>
  intro r0
  have e:KV (fW kvs p.1 p.2) (stored vs q.1 q.2):=by
   have:=r0.put p.1 h.2;rw [←h.1];exact this
  exact ih e
theorem jR:∀(more kvs:List (aE×V)),(nM kvs more).length<=kvs.length+more.length
 |[],kvs=>by show kvs.length<=kvs.length+0;omega
 |p::r,kvs=>by
  have h1:=jR r (fW kvs p.1 p.2);have h2:=gM kvs p.1 p.2
  show (nM (fW kvs p.1 p.2) r).length<=_
  rw [zaD];omega
theorem oq {P:Program}{w:World}:∀{kvs:List (aE×V)} {ws:List (Value×Value)},VV (kvs.map fun kv=>(kV kv.1,kv.2)) ws->∃rs,Carries (aX P w) ws rs/\KV kvs rs
 |[],_,r=>by rw [zaY] at r;cases r;exact ⟨[],True.intro,.nil⟩
 |p::kvs,_,r=>by
  rw [zaf] at r
  cases r with
  | @cons a b as bs h t =>
   obtain ⟨rs,c,q⟩:=oq (P:=P) (w:=w) t;obtain ⟨b1,b2⟩:=b;exact ⟨(p.1,b2)::rs,⟨mi h.1,rfl,c⟩,.cons ⟨rfl,h.2⟩ q⟩
def FF (trs:List (TE×TE)):TE:=fun σ H Q=>∀p,H p=none->qh trs σ (upd H p (.dK [])) fun ps H2=>H2 p=some (.dK [])/\∃kvs:List (aE×V),ps=kvs.map (fun kv=>(kV kv.1,kv.2))/\kvs.length<=15/\Q (.ref p) (upd H2 p (.dK (nM [] kvs)))
theorem DH {pos:Pos}{keys:List (Option Expr)}{values:Tj}{trs:List (TE×TE)}(h:NK X pos keys values trs)(hall:keys.all (·.isSome)=true)(hl:keys.length=values.length)(h0:keys≠[])
  (h15:keys.length<=15):PE X (.Dict keys values pos) (FF trs):=by
 intro pins s σ H Q I q;have hn:=I.hok.fresh (zao s.heap.objs.size);have I1:=I.laid (a:=s.heap.objs.size) (o:=.dK []) (h':=s.heap.push {cls:=.type "dict",data:=.dict #[]}) (t':=s.toks) (fun _ _ q=>zae _ q) (zao _) (tM s.heap I.big);refine wpAny_Dict_walk (knd:=aX X.prog X.w) hall hl h0 h15 (cy (h pins _ σ _ _ I1 (q _ hn)) fun ws s2 hh=>?_);obtain ⟨ps,H2,I2,rel,e,kvs,ep,lk,q2⟩:=hh;subst ep;obtain ⟨rs,c,rk⟩:=oq (P:=X.prog) (w:=X.w) rel;obtain ⟨z,hd,vs0,r0,dd⟩:=BX I2.hok e;cases r0;refine ⟨rs,c,dd,fun h' dd' hs=>⟨.ref s.heap.objs.size,_,?_,rfl,q2⟩⟩
 have hz:(nM [] kvs).length<=sizeLine:=by
  have h1:=jR kvs [];rw [zco] at h1;rw [zbh];omega
 have he:∃q,h'.get? s.heap.objs.size=some q:=let ⟨q,_,_,hq,_⟩:=dd';⟨q,hq⟩;exact lC I2 (by rw [e];exact True.intro) hs he (vD hz hd (rk.merge .nil) dd')
structure M1 (X:Cx)(o:Expr)(m:Str)(apos:Pos)(e:Expr)(cpos:Pos):Prop where
 base:attributeBase o m X.env (eval o X.env)=eval o X.env
 few:((backTo cpos (starEach [e] X.env)).all (fun x=>!x.1) && (backToKw cpos (keywordEach [] X.env)).all (fun x=>x.1.isSome)
  && decide (([e]:Tj).length+([]:List Keyword).length+(if ([]:List Keyword).isEmpty then 0 else 1) < 30))=true
 line:(apos.endLine == cpos.line)=true
 trees:backTo cpos (starEach [e] X.env)=[(false,eval e X.env)]
structure M2 (X:Cx)(o:Expr)(m:Str)(apos:Pos)(e f:Expr)(cpos:Pos):Prop where
 base:attributeBase o m X.env (eval o X.env)=eval o X.env
 few:((backTo cpos (starEach [e,f] X.env)).all (fun x=>!x.1) && (backToKw cpos (keywordEach [] X.env)).all (fun x=>x.1.isSome)
  && decide (([e,f]:Tj).length+([]:List Keyword).length+(if ([]:List Keyword).isEmpty then 0 else 1) < 30))=true
 line:(apos.endLine == cpos.line)=true
 trees:backTo cpos (starEach [e,f] X.env)=[(false,eval e X.env),(false,eval f X.env)]
def NP (H:Hp)(a:Addr):Prop:=(∃kvs,Rd H a (.dK kvs))\/∃kvs,Rd H a (.dT kvs)
theorem vc {H:Hp}{s:Shared}{a:Addr}(I:aD X pins σ H s)(d:NP H a) :
  s.TypeIs (.ref a) "dict"/\(∀b,Value.ref a=.ref b->∃ob,s.heap.get? b=some ob/\ob.dict=none)/\(a == sysModules)=false:=by
 rcases d with ⟨kvs,e⟩|⟨kvs,e⟩
 ·obtain ⟨_,hd,vs,_,dd⟩:=pU I.hok e
  refine ⟨dd.typeIs,fun b q=>?_,hd⟩;cases q;obtain ⟨ob,_,_,h1,h2,_⟩:=dd;exact ⟨ob,h1,h2.2.1⟩
 ·obtain ⟨_,hd,xs,_,dd⟩:=pT I.hok e
  refine ⟨dd.typeIs,fun b q=>?_,hd⟩;cases q;obtain ⟨ob,_,_,h1,h2,_⟩:=dd;exact ⟨ob,h1,h2.2.1⟩
section
variable  {X:Cx}{pins:Tc}{σ:St}{H:Hp}{s:Shared}{a:Addr}{y d:V}{u r:Value}{o:Option V}{A:Around}{E:Tb}
theorem Jw {Q:Tb}(hu:A.units+1 < cLine)(I:aD X pins σ H s)(g:yx H a y o)(ry:aY y u)(rd:aY d r)(h:∀w' s',aD X pins σ H s'->aY (o.getD d) w'->Q w' s') :
  wpAny (model X.prog X.w) A (call (.builtin "dict.get") [.ref a,u,r]) Q E s:=by
 rcases g with ⟨kvs,k,e,ey,l⟩|⟨kvs,k,b,e,ey,eb,l⟩
 ·subst ey
  obtain ⟨z,hd,vs,rel,dd⟩:=pU I.hok e;refine call_meetsIn PySem.F.slot_dict_get dd.typeIs PySem.F.entry_dict_get (PySem.F.args_dict_get_3 _ _ _) (meets_dict_get_default (aX X.prog X.w) a (mi ry) hd r) ⟨_,dd.mapOf,h _ _ (I.tok _) ?_⟩;rw [l];exact (rel.val k).getD rd
 ·subst ey
  cases (show u=Value.ref b from ry);obtain ⟨z,hd,xs,rel,dd⟩:=pT I.hok e;refine call_meetsIn PySem.F.slot_dict_get dd.typeIs PySem.F.entry_dict_get (PySem.F.args_dict_get_3 _ _ _) (meetsH_dict_get_default (tupleKind (aX X.prog X.w)) a b hd r) ⟨tupleKind_room_in1 hu,k,xs,lM I.hok eb,dd,h _ _ (I.tok _) ?_⟩;rw [l];exact (rel.val k).getD rd
end
def zw (td ty tx:TE):TE:=fun σ H Q=>td σ H fun x H1=>∃a,x=.ref a/\NP H1 a/\ty σ H1 fun y H2=>tx σ H2 fun z H3=>∃o,yx H3 a y o/\Q (o.getD z) H3
section
variable  {X:Cx}{o e f:Expr}{apos cpos:Pos}{td ty tx:TE}
theorem AN (hu:X.A.units+1 < cLine)(ho:PE X o td)(he:PE X e ty)(hf:PE X f tx)(m:M2 X o "get" apos e f cpos):PE X (.Call (.Attribute o "get" apos) [e,f] [] cpos) (zw td ty tx):=by
 intro pins s σ H Q I h;refine zc7 m.base m.few m.line PySem.F.plainAttrs_dict PySem.F.slot_dict_get PySem.F.type_dict_get (cy (ho pins s σ H _ I h) fun u s1 hh=>?_);obtain ⟨x,H1,I1,rx,a,ex,d,q1⟩:=hh;subst ex;obtain rfl:u=Value.ref a:=rx;obtain ⟨t1,t2,_⟩:=vc I1 d;refine ⟨t1,t2,?_⟩;rw [m.trees];refine Calls.callWith_builtin rfl (Calls.evalArgs_plain (Calls.spliced_cons (cy (he pins s1 σ H1 _ I1 q1) fun iv s2 hh=>?_)));obtain ⟨y,H2,I2,ry,q2⟩:=hh;refine Calls.spliced_cons (cy (hf pins s2 σ H2 _ I2 q2) fun fv s3 hh=>?_);obtain ⟨z,H3,I3,rz,ov,g,q3⟩:=hh;refine Calls.spliced_nil ?_;exact Jw hu I3 g ry rz fun w' s4 I4 rw'=>⟨_,H3,I4,rw',q3⟩
end
end L2
namespace Att
open PySem PySem.W PySem.Calls PyProof.Rows
theorem mK {P:Params}{h:Heap}:∀(ns:Th) (vs:Te),WellAll P h vs (ns.map WData.int)->IntsAre vs ns:=by
 intro ns
 induction ns with
 |nil =>
  intro vs w;rw [zaY] at w;cases w;exact .nil
 |cons n ns ih =>
  intro vs w;rw [zaf] at w
  cases w with
  |cons a b =>
   cases a;exact .cons _ _ (ih _ b)
theorem xG {l:OpenLaw}{n:Nat}(hn:l.most=some n){P:Params}{h:Heap}{args:List WData}{vals:Te}
  (hpre:l.row.toRowW.claim.pre args=true) (hwl:WellAll P h vals args) :
  ∃a vs ns,vals=[Value.ref a]/\args=[WData.list (ns.map WData.int)]/\h.get? a=some {cls:=.type "list",data:=.seq vs.toArray}/\IntsAre vs ns/\ns.length<=n:=by
 have hsh:WShape.hasAll [] args [.list .int]=true:=(pre_splitW hpre).1;have hc:l.pre.holds [] {args:=args}=true:=(pre_splitW hpre).2;obtain ⟨d,r,rfl,h1,h2⟩:=hasAllW_cons hsh;obtain rfl:=hasAllW_nil h2;obtain ⟨xs,rfl,h3⟩:=hasW_list h1;obtain ⟨ns,rfl⟩:=items_int h3
 have hlen:ns.length<=n:=by
  unfold OpenLaw.pre at hc
  have h4:(WTm.not (.lt (.lit (.int (n:Int))) (.len (.arg 0)))).holds [] {args:=[.list (ns.map .int)]}=true:=by
   have h4:=(holds_andW hc).1;rw [hn] at h4;exact h4
  have h5:=condW_of h4 (w_not (w_lt w_lit (w_len_list (w_arg rfl))));rw [zal] at h5;refine Nat.le_of_not_lt fun q=>?_
  have q':(n:Int) < ((ns.length:Nat):Int):=by omega
  first
   |(rw [zaQ q'] at h5;exact absurd h5 (by decide))
   |(simp at h5;omega)
 cases hwl with
 |cons w1 w2 =>
  cases w2
  cases w1 with
  |list ho hall=>exact ⟨_,_,ns,rfl,rfl,ho,mK ns _ hall,hlen⟩
theorem xQ (l:OpenLaw)(args:List WData):l.row.toRowW.claim.post args (.bool true) args=true :=
 postW_of (r:=l.row.toRowW) (X:=(true == true))
  (show WShape.has [] (.bool true) .bool=true by first|rfl|decide|simp [WShape.has,WShape.arms,WShape.armsAll])
  (show (WTm.eq .res (.lit (.bool true))).value [] {args:=args,res:=some (.bool true),after:=args}=some (.bool (true == true)) from w_eq_bool (w_res rfl) w_lit) rfl
theorem attach_call {l:OpenLaw}{n:Nat}{q:Program}{loose:Tl}{XP:(Td)->Heap->Prop}{YP:World->Heap->Prop}{d:DefRec}
  (hn:l.most=some n) (hdf:d.params.defaults=[])
  (call:∀(w:World) (s₀ s₁:Shared) (mg mb:Td) (fa:Addr) (o:Obj) (pm cd doc:Value) (a:Addr) (vs:Te) (ns:Th),
   Ground q loose [] XP w s₀ mg mb s₁.heap->YP w s₁.heap ->
   s₁.heap.get? fa=some o->o.data=.func (docDef d.name d.params d.body d.scope pm cd doc)->s₁.heap.CodeRec cd d.name->mg d.name=some (.ref fa) ->
   s₁.heap.get? a=some {cls:=.type "list",data:=.seq vs.toArray}->IntsAre vs ns->ns.length<=n->s₁.gens = #[] ->
   codeAny (model l.prog w) callerA (.call (.ref fa) ⟨[.ref a],[]⟩) (fun r s'=>r=.ok (.ret (.bool true))/\OldK s₁.heap s'.heap/\s'.os=s₁.os/\AllBare s'.gens) s₁) :
  WalkO q loose XP YP l.row.toRowW d [] (fun f vs=>PySem.call f vs):=by
 intro w s₀ s₁ mg mb G Y fa o pm cd doc dV kV ho hd hcd hD hmg hg args vals as hpre hlay hrd hwl hlo;obtain rfl:dV=.none:=Dflts.none hD hdf;obtain rfl:kV=.none:=Dflts.noKw hD;obtain ⟨a,vs,ns,rfl,rfl,hobj,hints,hlen⟩:=xG hn hpre hwl;refine enter_call (zbX (call w s₀ s₁ mg mb fa o pm cd doc a vs ns G Y ho (fd_plain hd) hcd hmg hobj hints hlen hg) fun r s' hq=>?_);obtain ⟨rfl,h2,h3,h4⟩:=hq;exact ⟨.inl ⟨.bool true,.bool true,[],rfl,fun _=>rfl,.bool true,xQ l _,fun _=>⟨List.Pairwise.nil,fun _ hm=>(nomatch hm)⟩⟩,h2,h3,h4⟩
end Att
namespace L2
open PySem PySem.Spec PyProof.Rows
theorem f8:∀{vs:Te} {ns:Th},IntsAre vs ns->aU (ns.map V.int) vs
 |_,_,.nil=>.nil
 |_,_,.cons n t h=>.cons ⟨t,rfl⟩ (f8 h)
def Ci (H:Hp):Prop:=∀b,H b=none\/∃o xs,H b=some (.frz o (.lst xs))
theorem A9 {P:Program}{w:World}{K:zac}{mg mb:Td}{CX:xt}{k:Nat}{fa a:Addr}{fd:FuncData}{x:Str}{sp:Sp}{s₁:Shared}{vs:Te}{ns:Th}
  (KX:K.In s₁.heap) (hns:s₁.heap.Ns mainGlobals mg) (hb:s₁.heap.Ns builtinsNs mb) (hbb:∀x:Str,x≠"__name__"->mb x=bootBuiltins x) (hlim:s₁.heap.NoLimit) (hg:s₁.gens = #[])
  (ha:s₁.heap.get? a=some {cls:=.type "list",data:=.seq vs.toArray}) (hi:IntsAre vs ns) (hl:ns.length<=sizeLine) (hr:dO k callerA)
  (F:∀base:Heap,K.In base->base.Ns mainGlobals mg->dk P w K mg base CX k fa fd [x] sp) (hbind:∀(s:Shared) (u:Value),BindsTo s fd ⟨[u],[]⟩ [(x,u)])
  (hsp:∀H:Hp,Ci H->g9 K H a (ns.map V.int)->sp [.ref a] H (fun v _=>v=.bl true) fun _ _ _=>False)
  (hCX:∀H e s',CX [] H s₁ (fun _ _ _=>False) e s'->False) :
  codeAny (model P w) callerA (.call (.ref fa) ⟨[.ref a],[]⟩) (fun r s'=>r=.ok (.ret (.bool true))/\OldK s₁.heap s'.heap/\s'.os=s₁.os/\AllBare s'.gens) s₁:=by
 have rv:=f8 hi;have lenV:=hi.length
 have core:∀H:Hp,Ci H->g9 K H a (ns.map V.int)->io P w H s₁.heap->(∀b,H b≠none->b=a)->(H a≠none->K.lookup a=none) ->
   codeAny (model P w) callerA (.call (.ref fa) ⟨[.ref a],[]⟩) (fun r s'=>r=.ok (.ret (.bool true))/\OldK s₁.heap s'.heap/\s'.os=s₁.os/\AllBare s'.gens) s₁:=by
  intro H hO hS hok hA hK;have base_of:∀{b:Addr} {o:Obj},s₁.heap.get? b=some o->H b=none->(qG s₁.heap H).get? b=some o:=fun e n=>Bw e n
  have noA:∀{b:Addr} {o:Obj} {es:Array DictEntry} {ep:Nat},s₁.heap.get? b=some o->o.data=.dict es ep->H b=none:=fun {b o es ep} e d=>by
   cases q:H b with
   |none=>rfl
   |some u =>
    have e':b=a:=hA b (by rw [q];simp);subst e';rw [ha] at e;cases e;have d':Data.seq vs.toArray _=Data.dict es ep:=d;cases d'
  have nsK:∀{b:Addr} {m:Td},s₁.heap.Ns b m->(qG s₁.heap H).Ns b m:=fun {b m} ⟨o,es,ep,e,d,r⟩=>⟨o,es,ep,base_of e (noA e d),d,r⟩
  have hKb:K.In (qG s₁.heap H):=fun b o e=>base_of (KX b o e) (by
   cases q:H b with
   |none=>rfl
   |some u =>
    have e':b=a:=hA b (by rw [q];simp);subst e'
    rw [hK (by rw [q];simp)] at e;cases e)
  have hM:Mod K mg (qG s₁.heap H):=⟨hKb,nsK hns,⟨mb,nsK hb,hbb⟩,let ⟨mc,h1,h2⟩:=hlim;⟨mc,nsK h1,h2⟩⟩;have e0:EO P w K mg (qG s₁.heap H) callerA [] s₁ H:=⟨rfl,hM,fun b o e=>DR e,Nat.le_of_eq (yh _ _),trivial,fun b hb=>absurd (show b∈([]:Tf) from hb) (by simp),hok,.of_eq hg⟩;refine zbX ((F _ hKb (nsK hns)).run callerA [] s₁ H ⟨[.ref a],[]⟩ [.ref a] [.ref a] _ _ hr e0 (hbind s₁ (.ref a)) (.cons rfl .nil) (hsp H hO hS)) fun r s' h=>?_
  cases r with
  |error e=>exact (hCX H e s' h).elim
  |ok fl =>
   cases fl with
   |next=>exact False.elim h
   |brk=>exact False.elim h
   |cont=>exact False.elim h
   |ret u =>
    obtain ⟨v,H',os,bare,un,hok',r',q⟩:=h;have q':v=.bl true:=q;subst q';obtain rfl:u=Value.bool true:=r';refine ⟨rfl,OldK.of_keep fun b o e=>?_,os,bare⟩
    cases q:H b with
    |none=>exact un.keep b o e q (by intro z;exact absurd (show b∈([]:Tf) from z) (by simp)) (by simp)
    |some u =>
     rcases hO b with z|⟨ob,xs,z⟩
     ·rw [q] at z;cases z
     ·have z2:=un.frzs b ob _ z
      obtain ⟨e1,_⟩:=hok b _ z;obtain ⟨e2,_⟩:=hok' b _ z2;rw [e] at e1;cases e1;exact e2
 cases hk:K.lookup a with
 |some o =>
  have e:=KX a o hk;rw [ha] at e;cases e;refine core (fun _=>none) (fun _=>.inl rfl) (.inr ⟨_,vs.toArray,_,hk,rfl,⟨rfl,rfl⟩,rfl,by rw [zat,lenV];exact hl,by simpa using rv⟩) (fun b u z=>by have z':(none:Option HO)=some u:=z;cases z') (fun b z=>absurd rfl z) fun z=>absurd rfl z
 |none =>
  refine core (fun b=>if b=a then some (.frz {cls:=.type "list",data:=.seq vs.toArray} (.lst (ns.map V.int))) else none) (fun b=>?_) (.inl (.inr ⟨{cls:=.type "list",data:=.seq vs.toArray},if_pos rfl⟩)) (fun b u z=>?_) (fun b z=>?_) fun _=>hk
  ·by_cases hb:b=a
   ·exact .inr ⟨_,_,if_pos hb⟩
   ·exact .inl (if_neg hb)
  ·by_cases hb:b=a
   ·have z':=(if_pos hb).symm.trans z
    cases z';subst hb;exact ⟨ha,by rw [zal];exact hl,vs,_,rv,ha⟩
   ·have z':=(if_neg hb).symm.trans z
    cases z'
  ·by_cases hb:b=a
   ·exact hb
   ·exact absurd (if_neg hb) z
theorem CA {l:PySem.W.OpenLaw}{n k:Nat}{q:Program}{loose:Tl}{XP:(Td)->Heap->Prop}{YP:World->Heap->Prop}{d:DefRec}{K:Params->zac}{CX:World->xt}{sp:World->Sp}{x:Str}
  (hn:l.most=some n) (hn2:n<=sizeLine) (hdf:d.params.defaults=[]) (hr:dO k callerA)
  (hY:∀(w:World) (h:Heap),YP w h->(K w.params).In h)
  (F:∀(w:World) (mg:Td) (fa:Addr) (h:Heap),(K w.params).In h->h.Ns mainGlobals mg->mg d.name=some (.ref fa) ->
   ∃fd:FuncData,(∀(s:Shared) (u:Value),BindsTo s fd ⟨[u],[]⟩ [(x,u)]) /\
    ∀base:Heap,(K w.params).In base->base.Ns mainGlobals mg->dk l.prog w (K w.params) mg base (CX w) k fa fd [x] (sp w))
  (hsp:∀(w:World) (H:Hp) (a:Addr) (ns:Th),ns.length<=n->Ci H->g9 (K w.params) H a (ns.map V.int)->sp w [.ref a] H (fun v _=>v=.bl true) fun _ _ _=>False)
  (hCX:∀(w:World) (H:Hp) (s:Shared) (e:Value) (s':Shared),CX w [] H s (fun _ _ _=>False) e s'->False) :
  PySem.W.WalkO q loose XP YP l.row.toRowW d [] (fun f vs=>PySem.call f vs):=by
 refine Att.attach_call hn hdf fun w s₀ s₁ mg mb fa o pm cd doc a vs ns G Y ho hd hcd hmg hobj hints hlen hg=>?_;have KX:=hY w _ Y;obtain ⟨fd,hb,hF⟩:=F w mg fa _ KX G.T.g hmg;exact A9 KX G.T.g G.T.b G.T.builtins G.T.nolimit hg hobj hints (zbg hlen hn2) hr hF hb (fun H hO hS=>hsp w H a ns hlen hO hS) fun H e s'=>hCX w H s₁ e s'
theorem yI {l:PySem.W.OpenLaw}{n k:Nat}{q:Program}{loose:Tl}{XP:(Td)->Heap->Prop}{YP:World->Heap->Prop}{d:DefRec}{K:Params->zac}{CX:xt}{sp:zac->Sp}{x:Str}
  (hn:l.most=some n) (hn2:n<=sizeLine) (hdf:d.params.defaults=[]) (hr:dO k callerA)
  (hY:∀(w:World) (h:Heap),YP w h->(K w.params).In h)
  (F:∀(w:World) (mg:Td) (fa:Addr) (h:Heap),(K w.params).In h->h.Ns mainGlobals mg->mg d.name=some (.ref fa) ->
   ∃fd:FuncData,(∀(s:Shared) (u:Value),BindsTo s fd ⟨[u],[]⟩ [(x,u)]) /\
    ∀base:Heap,(K w.params).In base->base.Ns mainGlobals mg->dk l.prog w (K w.params) mg base CX k fa fd [x] (sp (K w.params)))
  (hsp:∀(K:zac) (H:Hp) (a:Addr) (ns:Th),ns.length<=n->Ci H->g9 K H a (ns.map V.int)->sp K [.ref a] H (fun v _=>v=.bl true) fun _ _ _=>False)
  (hCX:∀(H:Hp) (s:Shared) (e:Value) (s':Shared),CX [] H s (fun _ _ _=>False) e s'->False) :
  PySem.W.WalkO q loose XP YP l.row.toRowW d [] (fun f vs=>PySem.call f vs) :=
 CA (K:=K) (CX:=fun _=>CX) (sp:=fun w=>sp (K w.params)) hn hn2 hdf hr hY F (fun w H a ns h1 h2 h3=>hsp (K w.params) H a ns h1 h2 h3) fun _ H s e s'=>hCX H s e s'
def iG (s:Stmt):Arguments:=match s with
 |.FunctionDef _ a _ _ _ _ _ _ _ _=>a
 |_=>{posonlyargs:=[],args:=[],vararg:=none,kwonlyargs:=[],kw_defaults:=[],kwarg:=none,defaults:=[]}
def cO (s:Stmt):Tk:=match s with
 |.FunctionDef _ _ b _ _ _ _ _ _ _=>b
 |_=>[]
def ak (s:Stmt):Scope:=match s with
 |.FunctionDef _ _ _ _ _ _ sc _ _ _=>sc
 |_=>{kind:=.function,names:=[],isGenerator:=false,isCoroutine:=false}
abbrev mB:xt:=fun _ _ _ _ _ _=>False
abbrev E0:XK:=fun _ _ _=>False
theorem AO:vX mB X E0:=fun _ _ _ _ _ _ _ h=>h.elim
structure rB (K:zac)(x qual:Str)(st:Stmt)(f:Addr)(fd:FuncData):Prop where
 ex:∃(oc:Value) (od:Option Addr) (kV doc pm:Value) (an:Option Addr) (cdv ct:Value) (osl:Array (Tg)),
  fd=PySem.W.fnOf x qual (iG st) (cO st) (ak st) .none kV doc pm an cdv ct/\K.lookup f=some ⟨oc,od,.func fd,osl⟩/\PySem.W.codeIn K cdv qual=true
 kp:PySem.W.keepIn K (.ref f)=true
section
variable  {P:Program}{w:World}{K:zac}{mg:Td}{base:Heap}
theorem rB.ok {x qual:Str}{st:Stmt}{f:Addr}{fd:FuncData}{N ps:Tl}{k:Nat}{sp:Sp}(F:rB K x qual st f fd)(S:aT N ps (ak st))(len:∀vs H Q E,sp vs H Q E->vs.length=ps.length)
  (hbody:∀(cdv:Value) (A:Around) (outer:List Env) (s:Shared) (H:Hp) (vs:List V) (Q:VK) (E:XK),dO k (A.deeper (envOfC qual (ak st) s.heap.objs.size f cdv))->sp vs H Q E ->
   ∃t,oG (lR mB P w K mg base N qual (ak st) f cdv A outer s H E).nox (cO st) t/\t {nx:=fun _ H'=>Q .non H',rt:=Q} (d6 N vs) H):dk P w K mg base mB (k+1) f fd ps sp:=by
 obtain ⟨oc,od,kV,doc,pm,an,cdv,ct,osl,rfl,lk,hcd⟩:=F.ex;refine LT lk hcd S len fun A outer s H vs Q E hr hsp=>?_;obtain ⟨t,h,q⟩:=hbody cdv A outer s H vs Q E hr hsp;exact ⟨t,h.nox,q⟩
theorem rB.binds {x qual:Str}{st:Stmt}{f:Addr}{fd:FuncData}{ps:Tl}(F:rB K x qual st f fd)
  (h:∀(kV doc pm:Value) (an:Option Addr) (cdv ct:Value) (us:Te),us.length=ps.length->bindArgs (PySem.W.fnOf x qual (iG st) (cO st) (ak st) .none kV doc pm an cdv ct) ⟨us,[]⟩=pure (ps.zip us)):iN K fd ps []:=by
 obtain ⟨oc,od,kV,doc,pm,an,cdv,ct,osl,rfl,lk,hcd⟩:=F.ex;exact .all (h kV doc pm an cdv ct)
theorem Bz {x qual:Str}{st:Stmt}{f:Addr}{oc:Value}{od an:Option Addr}{osl:Array (Tg)}{kV doc pm cdv ct:Value}(l:K.lookup f=some ⟨oc,od,.func (PySem.W.fnOf x qual (iG st) (cO st) (ak st) .none kV doc pm an cdv ct),osl⟩)
  (c:PySem.W.codeIn K cdv qual=true) (k:PySem.W.keepIn K (.ref f)=true):rB K x qual st f (PySem.W.fnOf x qual (iG st) (cO st) (ak st) .none kV doc pm an cdv ct):=⟨⟨oc,od,kV,doc,pm,an,cdv,ct,osl,rfl,l,c⟩,k⟩
end
end L2
namespace HS
open PySem PySem.Spec
theorem B9 (xs:Array Nat)(j:Nat)(hs:xs.toList.Pairwise (· < ·)):∀(fuel lo hi:Nat),hi - lo<=fuel->lo<=hi->hi<=xs.size ->
  (∀i (h:i < xs.size),i < lo->xs[i] < j)->(∀i (h:i < xs.size),hi<=i->j<=xs[i]) ->
  SetTable.below.go xs j fuel lo hi<=xs.size/\(∀i (h:i < xs.size),i < SetTable.below.go xs j fuel lo hi->xs[i] < j)/\(∀i (h:i < xs.size),SetTable.below.go xs j fuel lo hi<=i->j<=xs[i]):=by
 intro fuel
 have mono:∀i k (hi:i < xs.size) (hk:k < xs.size),i<=k->xs[i]<=xs[k]:=fun i k hi hk h=>by
  rcases zb3 i k with h|h
  ·have:=zbc.mp hs i k (by simpa using hi) (by simpa using hk) h
   simp at this;omega
  ·have:i=k:=by omega
   subst this;omega
 induction fuel with
 |zero =>
  intro lo hi hf hle hsz h1 h2
  have:lo=hi:=by omega
  subst this;exact ⟨hsz,h1,h2⟩
 |succ fuel ih =>
  intro lo hi hf hle hsz h1 h2;unfold SetTable.below.go
  by_cases hlt:lo < hi
  ·rw [if_pos hlt]
   dsimp only
   have hm:(lo+hi) / 2 < xs.size:=by omega
   have hg:xs.getD ((lo+hi) / 2) j=xs[(lo+hi) / 2]:=by simp [Array.getD,hm]
   rw [hg];split
   ·rename_i hc
    exact ih _ _ (by omega) (by omega) hsz (fun i h hi'=>zcp (mono i _ h hm (by omega)) hc) h2
   ·rename_i hc
    exact ih _ _ (by omega) (by omega) (by omega) h1 (fun i h hi'=>zbg (by omega) (mono _ i hm h hi'))
  ·rw [if_neg hlt]
   have:lo=hi:=by omega
   subst this;exact ⟨hsz,h1,h2⟩
theorem lE {xs:Array Nat}(j:Nat)(hs:xs.toList.Pairwise (· < ·)) :
  SetTable.below xs j<=xs.size/\(∀i (h:i < xs.size),i < SetTable.below xs j->xs[i] < j)/\(∀i (h:i < xs.size),SetTable.below xs j<=i->j<=xs[i]) :=
 B9 xs j hs xs.size 0 xs.size (by omega) (by omega) (by omega) (fun _ _ h=>by omega) (fun _ h h'=>by omega)
def Gw (t:SetTable):Prop:=t.plain=true->t.place.toList.Pairwise (· < ·)
theorem lu {xs:Array Nat}{j:Nat}(hs:xs.toList.Pairwise (· < ·))(hn:xs[SetTable.below xs j]?≠some j):(SetTable.insertAt xs (SetTable.below xs j) j).toList.Pairwise (· < ·):=by
 obtain ⟨b1,b2,b3⟩:=lE j hs;rw [SetTable.toList_insertAt];generalize SetTable.below xs j=p at *;rw [zcL];refine ⟨hs.sublist (List.take_sublist _ _),zay.mpr ⟨fun y hy=>?_,hs.sublist (List.drop_sublist _ _)⟩,fun x hx y hy=>?_⟩
 ·obtain ⟨i,hi,rfl⟩:=zck.mp hy
  simp only [zcj,zaN] at hi;rw [List.getElem_drop,zbs];have h1:=b3 (p+i) (by omega) (by omega);rcases zcq h1 with h|h
  ·exact h
  ·exfalso
   rcases Nat.eq_zero_or_pos i with rfl|hi0
   ·exact hn (by rw [zap (by omega)];simp only [Nat.add_zero] at h;rw [←h])
   ·have h2:=b3 p (by omega) (by omega)
    have h3:=zbc.mp hs p (p+i) (by simp;omega) (by simp;omega) (by omega);simp only [zbs] at h3;omega
 ·obtain ⟨i,hi,rfl⟩:=zck.mp hx
  simp only [zbO,zaN] at hi;rw [List.getElem_take,zbs];have h1:=b2 i (by omega) (by omega);rcases zak.mp hy with rfl|hy
  ·exact h1
  ·obtain ⟨k,hk,rfl⟩:=zck.mp hy
   simp only [zcj,zaN] at hk;rw [List.getElem_drop,zbs];have:=b3 (p+k) (by omega) (by omega);omega
theorem nP {mask finger moves:Nat}{led plain:Bool}{hs:Array Int}{t':SetTable}{o:Array Nat}(e:SetTable.laid mask finger moves led plain hs=some (t',o)):t'.place.toList.Pairwise (· < ·)/\t'.led=led:=by
 unfold SetTable.laid at e;simp only [bind,Option.bind,pure] at e;split at e
 ·cases e
 ·cases e
  refine ⟨?_,rfl⟩;rw [zbi,List.pairwise_filterMap];refine List.Pairwise.imp ?_ (List.pairwise_lt_range);intro a b hab x hx y hy;simp only [zaM] at hx hy;obtain ⟨_,_,rfl⟩:=hx;obtain ⟨_,_,rfl⟩:=hy;exact hab
end HS
namespace HS
open PySem PySem.Spec PyProof.Rows
def val (e:Int×Value):Int:=match e.2 with|.int n _=>n|_=>0
def RK (e:Int×Value):Prop:=∃n t,e=(hashInt n,.int n t)
structure Mv (led:Bool)(es:Array (Int×Value))(t:SetTable)(xs:Th):Prop where
 el:∀e∈es.toList,RK e
 pm:(es.toList.map val).Perm xs
 nd:xs.Nodup
 bd:es.size < scanBound
 ft:t.fits es.size=true
 rs:Gw t
 ld:t.led=led
structure lF (led:Bool)(es:Array (Int×Value))(t:SetTable):Prop where
 bd:es.size < scanBound
 ft:t.fits es.size=true
 rs:Gw t
 ld:t.led=led
def PC (led:Bool)(o:Obj)(xs:Th):Prop:=∃es ep t,o.ExactSet/\o.data=.set es ep t/\Mv led es t xs
section
variable  {prog:Program}{w:World}{A:Around}{E:Tb}{s:Shared}
def RH (xs:Th)(k:Int):Th:=if k∈xs then xs else xs++[k]
theorem hX {a:Addr}{o:Obj}{es es':Array (Int×Value)}{ep:Nat}{t t':SetTable}{Q:Unit->Shared->Prop}(ho:s.heap.get? a=some o)(hx:o.ExactSet)(hd:o.data=.set es ep t)
  (hb:es'.size < scanBound)
  (h:∀h',Heap.SameBut a s.heap h'->h'.get? a=some {o with data:=.set es' (ep+1) t'}->Q () {s with heap:=h'}):wpAny (model prog w) A (storeSet a es' t') Q E s:=by
 refine wpAny_storeSet_of ho hd (h _ (Heap.SameBut.update s.heap a _) ?_) (fits_of_scanBound hb);have q:=zaI (Obj.putSet es' t') ho (by rw [putSet_of es' t' hd];rfl)
 rwa [putSet_of es' t' hd] at q
end
abbrev cE (led:Bool):Obj:={cls:=.type "set",dict:=none,data:=.set #[] 0 (.fresh 0 0 led)}
section
variable  {prog:Program}{w:World}{A:Around}{E:Tb}{s:Shared}
theorem Iy (a:Value){Q₁:Tb}(h:Q₁ (.ref s.heap.objs.size) {s with heap:=s.heap.push (cE (!w.params.followText "set-order"))}) :
  codeAny (model prog w) A (.call (.builtin "set.__new__") ⟨[.type "set",a],[]⟩) (wants Q₁ E) s:=by
 refine zcM (show wpAny _ A.in1 (do checkBuiltinCall "set.__new__" ⟨[.type "set",a],[]⟩;again (.builtin "set.__new__" ⟨[.type "set",a],[]⟩)) _ _ s from ?_);refine zab (zdm (F.newCall_set_1 a) (zad ⟨zbk F.plain_set_new _,za1 F.entry_set_new ?_⟩));rw [zaU F.plain_set_new _];have hsub:=sub_set_self;unfold Builtin.«set.__new__» Builtin.Frozenset.newClass;obtain ⟨hp,g,d,tk,os⟩:=s;dsimp only;wp_walk;refine zb4 (zad ?_);dsimp only;simp only [newObj];exact zab (wpAny_alloc (zad (zad h)))
end
theorem bq:Slot "set_iterator" "__next__" "set_iterator.__next__":=by
 refine .of (owner:="set_iterator") (n:="__next__") ?_ (by decide +kernel) (by decide +kernel) (by decide +kernel) ?_ ?_
 ·rw [zb0,zbx];kernel_rfl
 ·first|exact .inl (by decide +kernel)|exact .inr (by decide +kernel)
 ·rw [isSubtype_type];kernel_rfl
theorem fj:entryFor table "set_iterator.__next__" = some Builtin.«set_iterator.__next__»:=entryFor_of_tree (by kernel_rfl)
theorem f7 (a:Value):argsOk "set_iterator.__next__" ⟨[a],[]⟩:=by unfold argsOk;kernel_rfl
theorem qN:entryFor table "set.__iter__" = some Builtin.«frozenset.__iter__» :=
 entryFor_alias (id':="frozenset.__iter__") (by kernel_rfl) (by first|rfl|decide +kernel) (by decide +kernel) (by kernel_rfl)
theorem kn {α:Type}:∀{l:List α} {i:Nat} (h:i < l.length),(l[i]::l.eraseIdx i).Perm l
 |x::xs,0,_=>by simp
 |x::xs,i+1,h=>by
  simp only [List.getElem_cons_succ,List.eraseIdx_cons_succ];exact (List.Perm.swap _ _ _).trans ((kn (by simpa using h)).cons x)
section
variable  {α:Type}{M:Model}{A:Around}{E:Tb}{s:Shared}
theorem yq {src:Source}{n:Nat}{Q:Nat->Shared->Prop}(hn:0 < n)(h:∀i d,i < n->Q i {s with drawn:=d}):wpAny M A (choose src n) Q E s :=
 fun _ _ _=>⟨Nat.pos_iff_ne_zero.mp hn,h _ _ (zct _ hn)⟩
theorem Es (n:Nat):∀(xs:List α) (s:Shared) (Q:List α->Shared->Prop),xs.length=n->(∀ys d,ys.Perm xs->Q ys {s with drawn:=d})->wpAny M A (drawOrder n xs) Q E s:=by
 induction n with
 |zero =>
  intro xs s Q hl h;have e:xs=[]:=zbD.mp hl;subst e;exact zad (h [] s.drawn (List.Perm.refl _))
 |succ n ih =>
  intro xs s Q hl h
  cases xs with
  |nil=>cases hl
  |cons x xs =>
   unfold drawOrder;refine zab (yq (by simp) fun i d hi=>?_);rw [zas hi];dsimp only;refine zab (ih _ _ _ (by rw [List.length_eraseIdx_of_lt hi];simp at hl;simp;omega) fun ys d' hp=>zad ?_);exact h _ d' ((hp.cons _).trans (kn hi))
end
abbrev bt (w:World):Bool:=w.params.followText "set-order"
def jb (f:Value)(i:Nat)(a:Addr)(n ep:Nat):Obj:={cls:=.type "set_iterator",data:=.fields #[f,.int i 0,.ref a,.int n 0,.int ep 0]}
theorem Bm {s:Shared}{I:Addr}{f:Value}{i:Nat}{a:Addr}{n ep:Nat}(h:s.heap.get? I=some (jb f i a n ep)):s.TypeIs (.ref I) "set_iterator":=⟨_,h,rfl⟩
theorem Ca {t:SetTable}(r:t.place.toList.Pairwise (· < ·))(i:Nat)(hi:i<=t.place.size):SetTable.below t.place (if h:0 < i then t.place[i - 1]'(by omega)+1 else 0)=i:=by
 obtain ⟨b1,b2,b3⟩:=lE (if h:0 < i then t.place[i - 1]'(by omega)+1 else 0) r;generalize hB:SetTable.below t.place (if h:0 < i then t.place[i - 1]'(by omega)+1 else 0)=B at *
 have lt:∀(x y:Nat) (hx:x < t.place.size) (hy:y < t.place.size),x < y->t.place[x] < t.place[y]:=fun x y hx hy hxy=>by
  have:=zbc.mp r x y (by simpa using hx) (by simpa using hy) hxy;simpa using this
 rcases zcv B i with h|h|h
 ·exfalso
  have hp:0 < i:=by omega
  simp only [hp,dite_true] at b3;have h1:=b3 B (by omega) (zao _);rcases zb3 B (i - 1) with h2|h2
  ·have:=lt B (i - 1) (by omega) (by omega) h2;omega
  ·have:B=i - 1:=by omega
   subst this;omega
 ·exact h
 ·exfalso
  have h1:=b2 i (by omega) h
  by_cases hp:0 < i
  ·simp only [hp,dite_true] at h1
   have:=lt (i - 1) i (by omega) (by omega) (by omega);omega
  ·simp only [hp,dite_false] at h1
   omega
section
variable  {prog:Program}{w:World}{A:Around}{E:Tb}{s:Shared}
theorem uT {led:Bool}{a:Addr}{o:Obj}{es:Array (Int×Value)}{ep:Nat}{t:SetTable}{i:Nat}{Q:Option (Value×Nat)->Shared->Prop}(hb:bt w=false)(hl:led=true)
  (ho:s.heap.get? a=some o) (hd:o.data=.set es ep t) (G:lF led es t) (hdr:(!t.plain && decide (es.size > 1))=false) (hi:i<=es.size) (hp:t.place.size=es.size)
  (h:Q (if hlt:i < es.size then some (es[i].2,t.place[i]+1) else none) s) :
  wpAny (model prog w) A (setNext a (if h:0 < i then t.place[i - 1]'(by omega)+1 else 0) i ep) Q E s:=by
 have r:t.place.toList.Pairwise (· < ·):=by
  cases hpl:t.plain with
  |true=>exact G.rs hpl
  |false =>
   have h1:¬ es.size > 1:=by simpa [hpl] using hdr
   have:t.place.toList.length<=1:=by simp;omega
   match hq:t.place.toList,this with
   |[],_=>exact List.Pairwise.nil
   |[x],_=>exact zb8 _ _
 unfold setNext;refine zab (zaL ho hd G.ft ?_);dsimp only;unfold setsByText;refine zab (zab (zb4 (zad ?_)));dsimp only;rw [show ((model prog w).w.params.followText "set-order")=false from hb];simp only [zan,↓reduceIte];split
 ·rename_i hc
  have:(!t.plain && decide (es.size > 1))=true:=hc;rw [hdr] at this;cases this
 ·refine zab (show wpAny _ _ (if (!t.led && !es.isEmpty)=true then unsupported "set:maker-not-led" else pure ()) _ _ _ from ?_)
  rw [if_neg (by rw [G.ld,hl];simp)];refine zad ?_;rw [Ca r i (by omega)];refine zad ?_
  by_cases hlt:i < es.size
  ·have h2:i < t.place.size:=by omega
   rw [dif_pos hlt] at h;rw [zap hlt,zap h2];exact h
  ·rw [dif_neg hlt] at h
   rw [zcy (by omega)];exact h
theorem wB {α:Type}(nx:Nat->Nat):∀(fuel k:Nat) (left:List α) (out:Array α),left.length=fuel->(pickOrder.go nx fuel k left out).toList.Perm (out.toList++left)
 |0,k,[],out,_=>by unfold pickOrder.go;simp
 |fuel+1,k,x::xs,out,hl=>by
  unfold pickOrder.go;have hlt:nx k % (x::xs).length < (x::xs).length:=zct _ (by simp);generalize nx k % (x::xs).length=j at hlt;rw [zas hlt];dsimp only;refine (wB nx fuel (k+1) _ _ (by rw [List.length_eraseIdx_of_lt hlt];simp at hl;simp;omega)).trans ?_;rw [zc8,zbj];exact (List.Perm.refl _).append (kn hlt)
theorem pC {α:Type}(nx:Nat->Nat)(xs:Array α):(pickOrder nx xs).toList.Perm xs.toList:=by
 have:=wB nx xs.size 0 xs.toList #[] (by simp);simpa [pickOrder] using this
theorem xU {led:Bool}{a:Addr}{o:Obj}{es:Array (Int×Value)}{ep:Nat}{t:SetTable}{sl i:Nat}{Q:Option (Value×Nat)->Shared->Prop}(hb:bt w=true)
  (ho:s.heap.get? a=some o) (hd:o.data=.set es ep t) (G:lF led es t)
  (h:Q (((pickOrder (w.params.setOrder a ep) es)[i]?).map fun e=>(e.2,sl)) s) :
  wpAny (model prog w) A (setNext a sl i ep) Q E s:=by
 unfold setNext;refine zab (zaL ho hd G.ft ?_);dsimp only;unfold setsByText;refine zab (zab (zb4 (zad ?_)));dsimp only;rw [show ((model prog w).w.params.followText "set-order")=true from hb];simp only [bne_self_eq_false,zan,↓reduceIte];unfold setWalk setsByText;refine zab (zab (zaL ho hd G.ft (zab (zab (zb4 (zad ?_))))));dsimp only;rw [show ((model prog w).w.params.followText "set-order")=true from hb];simp only [↓reduceIte];refine zab (zb4 (zad (zad ?_)));exact h
end
section
variable  {prog:Program}{w:World}{A:Around}{E:Tb}{s:Shared}
theorem xj {M:Model}{E:Tb}{s:Shared}{A:Around}{Q:Fin->Shared->Prop}(hh:A.handled=none)
  (h:∀h' a,(∀b o,s.heap.get? b=some o->h'.get? b=some o)->Shared.TypeIs {s with heap:=h'} (.ref a) "StopIteration"->E (.ref a) {s with heap:=h'}) :
  wpAny M A (newExc (.type "StopIteration") [] >>= fun e=>raiseNew e) Q E s:=by
 refine zab ?_;simp only [newExc,newTuple];refine zab (zaV ?_ (by size_fits));refine zab (m:=firstArgMember _ _) (zdm (a:=Value.none) (by first|rfl|(simp only [firstArgMember];rfl)) ?_);refine zaV ?_ (by size_fits);simp only [raiseNew];refine zab (wpAny_handled ?_);rw [hh];refine zab (zad (wpAny_throw (h _ _ (fun b o e=>zae _ (zae _ e)) ?_)));exact ⟨_,zaq _ rfl,rfl⟩
theorem D2 {led:Bool}{I a:Addr}{o:Obj}{es:Array (Int×Value)}{ep:Nat}{t:SetTable}{i sl sl':Nat}{x:Value}{Q:Option Value->Shared->Prop}
  (hI:s.heap.get? I=some (jb (.int sl 0) i a es.size ep)) (ho:s.heap.get? a=some o) (hd:o.data=.set es ep t) (G:lF led es t)
  (hnx:∀A' E' (Q':Option (Value×Nat)->Shared->Prop),Q' (some (x,sl')) s->wpAny (model prog w) A' (setNext a sl i ep) Q' E' s)
  (h:∀h',h'.get? I=some (jb (.int sl' 0) (i+1) a es.size ep)->Heap.SameBut I s.heap h'->Q (some x) {s with heap:=h'}):wpAny (model prog w) A (pyNext (.ref I)) Q E s:=by
 unfold pyNext;refine zab (zbG (za5 (name:=Str.ofString "__next__") (Bm hI) bq (zaT bq (Bm hI) fj ?_ (f7 _))));unfold Builtin.«set_iterator.__next__»;refine zab (show wpAny _ _ (pure (Value.ref I,([]:Te))) _ _ _ from zad ?_);refine zab (zbQ hI rfl ?_);dsimp only;unfold setEntries;refine zab (zab (zaL ho hd G.ft (zad ?_)));dsimp only;rw [if_neg (by simp)];refine zab (show wpAny _ _ (setNext a sl i ep) _ _ _ from hnx _ _ _ ?_);dsimp only;refine zab (zbR hI rfl (by simp) ?_);have h1:=zaI (Obj.mapFields (·.setIfInBounds 0 (rawInt (sl':Int)))) hI rfl;refine zab (zbR (s:={s with heap:=_}) h1 rfl (by simp) ?_);have h2:=zaI (Obj.mapFields (·.setIfInBounds 1 (rawInt ((i:Int)+1)))) h1 rfl;refine zad ⟨x,rfl,zad (h _ (h2.trans ?_) ((Heap.SameBut.update ..).trans (Heap.SameBut.update ..)))⟩;rfl
theorem IS {led:Bool}{I a:Addr}{o:Obj}{es:Array (Int×Value)}{ep:Nat}{t:SetTable}{i sl:Nat}{Q:Option Value->Shared->Prop}(hh:A.handled=none)
  (hI:s.heap.get? I=some (jb (.int sl 0) i a es.size ep)) (ho:s.heap.get? a=some o) (hd:o.data=.set es ep t) (G:lF led es t)
  (hnx:∀A' E' (Q':Option (Value×Nat)->Shared->Prop),Q' none s->wpAny (model prog w) A' (setNext a sl i ep) Q' E' s)
  (h:∀h',(∀b o,b∉[I]->s.heap.get? b=some o->h'.get? b=some o)->Q none {s with heap:=h'}):wpAny (model prog w) A (pyNext (.ref I)) Q E s:=by
 unfold pyNext;refine zab (zbG (za5 (name:=Str.ofString "__next__") (Bm hI) bq (zaT bq (Bm hI) fj ?_ (f7 _))));unfold Builtin.«set_iterator.__next__»;refine zab (show wpAny _ _ (pure (Value.ref I,([]:Te))) _ _ _ from zad ?_);refine zab (zbQ hI rfl ?_);dsimp only;unfold setEntries;refine zab (zab (zaL ho hd G.ft (zad ?_)));dsimp only;rw [if_neg (by simp)];refine zab (show wpAny _ _ (setNext a sl i ep) _ _ _ from hnx _ _ _ ?_);dsimp only;refine zab (zbR hI rfl (by simp) ?_);refine xj (show A.in1.handled=none from hh) fun h' b kp hT=>?_;refine zab (zbS (T:="StopIteration") (b:=true) hT isSubtype_stop ?_);exact zad (h _ fun b o hb e=>kp b o (by rw [zaz _ _ (fun q:I=b=>hb (by simp [q]))];exact e))
theorem Bl {led:Bool}{I a tp:Addr}{o:Obj}{es:Array (Int×Value)}{ep:Nat}{t:SetTable}{i:Nat}{pl:List Nat}{x:Int×Value}{p:Nat}{Q:Option Value->Shared->Prop}
  (hI:s.heap.get? I=some (jb (.ref tp) i a es.size ep)) (htp:s.heap.get? tp=some {cls:=.type "tuple",data:=.seq (pl.map fun i:Nat=>rawInt i).toArray})
  (ho:s.heap.get? a=some o) (hd:o.data=.set es ep t) (G:lF led es t) (hp:pl[i]?=some p) (hx:es[p]?=some x)
  (h:∀h',h'.get? I=some (jb (.ref tp) (i+1) a es.size ep)->Heap.SameBut I s.heap h'->Q (some x.2) {s with heap:=h'}):wpAny (model prog w) A (pyNext (.ref I)) Q E s:=by
 unfold pyNext;refine zab (zbG (za5 (name:=Str.ofString "__next__") (Bm hI) bq (zaT bq (Bm hI) fj ?_ (f7 _))));unfold Builtin.«set_iterator.__next__»;refine zab (show wpAny _ _ (pure (Value.ref I,([]:Te))) _ _ _ from zad ?_);refine zab (zbQ hI rfl ?_);dsimp only;unfold setEntries;refine zab (zab (zaL ho hd G.ft (zad ?_)));dsimp only;rw [if_neg (by simp)];refine zab (zbT htp rfl ?_);dsimp only
 have hq:(pl.map fun i:Nat=>rawInt i).toArray[((i:Nat):Int).toNat]?=some (.int p 0):=by simp [hp,rawInt]
 rw [hq];dsimp only;unfold setNextDrawn;refine zab (zab (zaL ho hd G.ft ?_));dsimp only;rw [if_neg (by simp)];simp only [zbL,hx];refine zad (zab (zbR hI rfl (by simp) ?_));have h1:=zaI (Obj.mapFields (·.setIfInBounds 1 (rawInt ((i:Int)+1)))) hI rfl;exact zad ⟨x.2,rfl,zad (h _ (h1.trans rfl) (Heap.SameBut.update ..))⟩
theorem D3 {led:Bool}{I a tp:Addr}{o:Obj}{es:Array (Int×Value)}{ep:Nat}{t:SetTable}{i:Nat}{pl:List Nat}{Q:Option Value->Shared->Prop}(hh:A.handled=none)
  (hI:s.heap.get? I=some (jb (.ref tp) i a es.size ep)) (htp:s.heap.get? tp=some {cls:=.type "tuple",data:=.seq (pl.map fun i:Nat=>rawInt i).toArray})
  (ho:s.heap.get? a=some o) (hd:o.data=.set es ep t) (G:lF led es t) (hp:pl.length<=i)
  (h:∀h',(∀b o,b∉[I]->s.heap.get? b=some o->h'.get? b=some o)->Q none {s with heap:=h'}):wpAny (model prog w) A (pyNext (.ref I)) Q E s:=by
 unfold pyNext;refine zab (zbG (za5 (name:=Str.ofString "__next__") (Bm hI) bq (zaT bq (Bm hI) fj ?_ (f7 _))));unfold Builtin.«set_iterator.__next__»;refine zab (show wpAny _ _ (pure (Value.ref I,([]:Te))) _ _ _ from zad ?_);refine zab (zbQ hI rfl ?_);dsimp only;unfold setEntries;refine zab (zab (zaL ho hd G.ft (zad ?_)));dsimp only;rw [if_neg (by simp)];refine zab (zbT htp rfl ?_);dsimp only
 have hq:(pl.map fun i:Nat=>rawInt i).toArray[((i:Nat):Int).toNat]?=none:=by simp;omega
 rw [hq];dsimp only;refine zab (zbR hI rfl (by simp) ?_);have h1:=zaI (Obj.mapFields (·.setIfInBounds 0 (rawInt 0))) hI rfl;refine zab (zbR (s:={s with heap:=_}) h1 rfl (by simp) ?_);refine xj (show A.in1.handled=none from hh) fun h' b kp hT=>?_;refine zab (zbS (T:="StopIteration") (b:=true) hT isSubtype_stop ?_);refine zad (h _ fun b o hb e=>kp b o ?_);have ne:I≠b:=fun q=>hb (by simp [q]);rw [zaz _ _ ne,zaz _ _ ne];exact e
end
theorem kS:Slot "set_iterator" "__iter__" "set_iterator.__iter__":=by
 refine .of (owner:="set_iterator") (n:="__iter__") ?_ (by decide +kernel) (by decide +kernel) (by decide +kernel) ?_ ?_
 ·rw [zb0,zbx];kernel_rfl
 ·first|exact .inl (by decide +kernel)|exact .inr (by decide +kernel)
 ·rw [isSubtype_type];kernel_rfl
theorem rh (a:Value):argsOk "set_iterator.__iter__" ⟨[a],[]⟩:=by unfold argsOk;kernel_rfl
theorem oU:entryFor table "set_iterator.__iter__" = some Builtin.«dict_keyiterator.__iter__» :=
 entryFor_alias (id':="dict_keyiterator.__iter__") (by kernel_rfl) (by first|rfl|decide +kernel) (by decide +kernel) (by kernel_rfl)
section
variable  {prog:Program}{w:World}{A:Around}{E:Tb}{s:Shared}
theorem wl {I:Addr}{f:Value}{i:Nat}{a:Addr}{n ep:Nat}{Q:Tb}(hI:s.heap.get? I=some (jb f i a n ep))(h:Q (.ref I) s):wpAny (model prog w) A (pyIter (.ref I)) Q E s:=by
 refine zcw (Bm hI) kS (zaT kS (Bm hI) oU ?_ (rh _));exact (show wpAny _ _ (ret (.ref I)) _ _ s from zad ⟨_,rfl,"set_iterator",_,Bm hI,bq.lookup,h⟩)
end
variable  {prog:Program}{w:World}
abbrev JM (ord:List (Int×Value))(i:Nat)(x:Value):Prop:=(ord[i]?).map (·.2)=some x
theorem yH {A:Around}(hh:A.handled=none){led:Bool}{I a:Addr}(hne:a≠I){o:Obj}{es:Array (Int×Value)}{ep:Nat}{t:SetTable}(hd:o.data=.set es ep t)(G:lF led es t)
  (ord:List (Int×Value)) (hl:ord.length=es.size) (sl:Nat->Nat)
  (hnx:∀i (s:Shared) A' E' (Q':Option (Value×Nat)->Shared->Prop),i<=es.size->s.heap.get? a=some o->Q' ((ord[i]?).map fun e=>(e.2,sl (i+1))) s->wpAny (model prog w) A' (setNext a (sl i) i ep) Q' E' s) :
  Walks prog w A I [I,a] [I] ord.length (JM ord) (fun i h=>h.get? I=some (jb (.int (sl i) 0) i a es.size ep)/\h.get? a=some o) where
 sub:=fun b hb=>by simp at hb;simp [hb]
 frame:=fun _ _ _ st hk=>⟨hk I (by simp) _ st.1,hk a (by simp) _ st.2⟩
 item:=fun i s Q E hi st hQ=>by
  have hx:ord[i]?=some ord[i]:=zas hi;refine D2 (x:=ord[i].2) (sl':=sl (i+1)) st.1 st.2 hd G (fun A' E' Q' q=>hnx i s A' E' Q' (by omega) st.2 (by rw [hx];exact q)) fun h' hI' hs=>?_;refine hQ _ h' s.toks (by simp [JM,hx]) ⟨hI',hs.extBut a o hne st.2⟩ fun b o hb e=>hs.extBut b o (fun h=>hb (by simp [h])) e
 done:=fun s Q E st hQ=>by
  refine IS hh st.1 st.2 hd G (fun A' E' Q' q=>hnx _ s A' E' Q' (by omega) st.2 (by rw [zci (by omega)];exact q)) fun h' hk=>hQ h' s.toks hk
 self:=fun _ _ _ _ st hQ=>wl st.1 hQ
theorem GE {A:Around}(hh:A.handled=none){led:Bool}{I a tp:Addr}(hne:a≠I)(hnt:tp≠I){o:Obj}{es:Array (Int×Value)}{ep:Nat}{t:SetTable}(hd:o.data=.set es ep t)(G:lF led es t)
  (pl:List Nat) (hpl:∀p∈pl,p < es.size) :
  Walks prog w A I [I,a,tp] [I] pl.length (JM (pl.filterMap (es[·]?))) (fun i h=>h.get? I=some (jb (.ref tp) i a es.size ep)/\h.get? a=some o/\h.get? tp=some {cls:=.type "tuple",data:=.seq (pl.map fun i:Nat=>rawInt i).toArray}) where
 sub:=fun b hb=>by simp at hb;simp [hb]
 frame:=fun _ _ _ st hk=>⟨hk I (by simp) _ st.1,hk a (by simp) _ st.2.1,hk tp (by simp) _ st.2.2⟩
 item:=fun i s Q E hi st hQ=>by
  have hp:pl[i]?=some pl[i]:=zas hi;have hx:es[pl[i]]?=some (es[pl[i]]'(hpl _ (zcC hi))):=zap _
  have hmap:pl.filterMap (es[·]?)=pl.pmap (fun p h=>es[p]'h) hpl:=by
   clear hQ st hp hx hi
   induction pl with
   |nil=>rfl
   |cons p ps ih=>rw [zbK (b:=es[p]'(hpl p (by simp))) (zap _),ih (fun q hq=>hpl q (by simp [hq]))];rfl
  refine Bl st.1 st.2.2 st.2.1 hd G hp hx fun h' hI' hs=>?_;refine hQ _ h' s.toks ?_ ⟨hI',hs.extBut a o hne st.2.1,hs.extBut tp _ hnt st.2.2⟩ fun b o hb e=>hs.extBut b o (fun h=>hb (by simp [h])) e;rw [hmap];simp [JM,hp]
 done:=fun s Q E st hQ=>D3 hh st.1 st.2.2 st.2.1 hd G (zao _) fun h' hk=>hQ h' s.toks hk
 self:=fun _ _ _ _ st hQ=>wl st.1 hQ
theorem jf {es:Array (Int×Value)}{pl:List Nat}(h:pl.Perm (List.range es.size)):(pl.filterMap (es[·]?)).Perm es.toList :=
 (h.filterMap _).trans (by rw [filterMap_getElem?_range])
theorem vh {es:Array (Int×Value)}{pl:List Nat}(h:pl.Perm (List.range es.size)):(pl.filterMap (es[·]?)).length=pl.length:=by
 rw [(jf h).length_eq,h.length_eq];simp
def nA (t:SetTable)(i:Nat):Nat:=if h:0 < i/\i<=t.place.size then t.place[i - 1]'(by omega)+1 else 0
section
variable  {prog:Program}{w:World}{A:Around}{E:Tb}{s:Shared}
theorem Bk {a:Addr}{o:Obj}{es:Array (Int×Value)}{ep:Nat}{t:SetTable}{Q:Tb}(ho:s.heap.get? a=some o)(hx:o.ExactSet)(hd:o.data=.set es ep t)(G:lF (!bt w) es t)
  (h:∀(h':Heap) (d:Drawn) (I:Addr) (fp:Tf) (St:Nat->Heap->Prop) (ord:List (Int×Value)),(∀A',A'.handled=none->Walks prog w A' I fp [I] ord.length (JM ord) St)->St 0 h'->(∀b∈fp,b=a\/s.heap.objs.size<=b) ->
   (∀b o,s.heap.get? b=some o->h'.get? b=some o)->s.heap.objs.size<=I->ord.Perm es.toList->Q (.ref I) {s with heap:=h',drawn:=d}) :
  wpAny (model prog w) A (pyIter (.ref a)) Q E s:=by
 have hlt:=zam ho;have hT:s.TypeIs (.ref a) "set":=⟨o,ho,hx.1⟩
 have hpz:t.place.size=es.size:=by have:=G.ft;simp [SetTable.fits] at this;exact this.1
 refine zcw hT F.slot_set_iter (zaT F.slot_set_iter hT qN ?_ (F.args_set_iter_1 _));unfold Builtin.«frozenset.__iter__» Builtin.Frozenset.slot0 Builtin.Frozenset.sizeOf;refine zab (zab (show wpAny _ _ (pure (Value.ref a,([]:Te))) _ _ _ from zad (show wpAny _ _ (pure a) _ _ _ from zad ?_)));unfold setEntries;refine zab (zab (zab (zaL ho hd G.ft (zad (zad ?_)))));dsimp only;unfold setDrawn setsByText;refine zab (zab (zaL ho hd G.ft (zab (zab (zb4 (zad (zad ?_)))))));dsimp only;split
 ·rename_i hc
  have hdr:(!bt w && (!t.plain && decide (es.size > 1)))=true:=hc;simp only [zbP] at hdr;refine zab (Es es.size (List.range es.size) _ _ (by simp) fun pl d hp=>?_);unfold newTuple;refine zab (zaV ?_ (show (pl.map fun i:Nat=>rawInt i).toArray.size<=sizeLine by have:=fits_of_scanBound G.bd;rw [zat,zal,hp.length_eq,List.length_range];exact this));unfold setEpoch;refine zab (zab (zaL (zae _ ho) hd G.ft (zad ?_)));unfold newFields;refine zab (zaV (zad ⟨_,rfl,"set_iterator",_,⟨_,zaq _ rfl,rfl⟩,bq.lookup,?_⟩));have hz:(s.heap.push {cls:=.type "tuple",data:=.seq (pl.map fun i:Nat=>rawInt i).toArray}).objs.size=s.heap.objs.size+1:=zbe ..;refine h _ d _ [_,a,s.heap.objs.size] _ (pl.filterMap (es[·]?)) (fun A' hA=>by rw [vh hp];exact GE hA (I:=(s.heap.push {cls:=.type "tuple",data:=.seq (pl.map fun i:Nat=>rawInt i).toArray}).objs.size) (tp:=s.heap.objs.size) (by rw [hz];exact zax (zaR hlt)) (by rw [hz];exact zax (zcD _)) hd G pl (fun p hp'=>by simpa using hp.mem_iff.mp hp')) ?_ ?_ ?_ ?_ (jf hp)
  ·exact ⟨zaq _ rfl,zae _ (zae _ ho),zae _ (zaq _ rfl)⟩
  ·intro b hb
   simp only [zak,zaC,or_false] at hb;rcases hb with rfl|rfl|rfl
   ·right;rw [hz];exact zce _
   ·left;rfl
   ·right;exact zao _
  ·exact fun b o e=>zae _ (zae _ e)
  ·rw [hz];exact zce _
 ·rename_i hc
  have hdr:¬ (!bt w && (!t.plain && decide (es.size > 1)))=true:=hc;refine zab (zad ?_);unfold setEpoch;refine zab (zab (zaL ho hd G.ft (zad ?_)));unfold newFields;refine zab (zaV (zad ⟨_,rfl,"set_iterator",_,⟨_,zaq _ rfl,rfl⟩,bq.lookup,?_⟩));have kp:∀b o,s.heap.get? b=some o->(s.heap.push (jb (.int ((0:Nat):Int) 0) 0 a es.size ep)).get? b=some o:=fun b o e=>zae _ e
  have fpo:∀b∈[s.heap.objs.size,a],b=a\/s.heap.objs.size<=b:=fun b hb=>by
   simp only [zak,zaC,or_false] at hb;rcases hb with rfl|rfl
   ·right;exact zao _
   ·left;rfl
  cases hb:bt w with
  |true =>
   refine h _ s.drawn _ [s.heap.objs.size,a] _ (pickOrder (w.params.setOrder a ep) es).toList (fun A' hA=>yH hA (zax hlt) hd G _ (by have:=(pC (w.params.setOrder a ep) es).length_eq;simpa using this) (fun _=>0) ?_) ⟨zaq _ rfl,kp _ _ ho⟩ fpo kp (zao _) (pC _ _);intro i s' A' E' Q' hi ho' q;exact xU hb ho' hd G (by rw [za4] at q;exact q)
  |false =>
   rw [hb] at hdr G
   have hdr':(!t.plain && decide (es.size > 1))=false:=by simpa using hdr
   refine h _ s.drawn _ [s.heap.objs.size,a] _ es.toList (fun A' hA=>yH hA (zax hlt) hd G es.toList (by simp) (nA t) ?_) ⟨zaq _ rfl,kp _ _ ho⟩ fpo kp (zao _) (List.Perm.refl _);intro i s' A' E' Q' hi ho' q
   have e1:nA t i=(if h:0 < i then t.place[i - 1]'(by omega)+1 else 0):=by
    by_cases h0:0 < i
    ·unfold nA;rw [dif_pos ⟨h0,by omega⟩,dif_pos h0]
    ·unfold nA;rw [dif_neg (fun h=>h0 h.1),dif_neg h0]
   rw [e1];refine uT hb rfl ho' hd G hdr' hi hpz ?_
   by_cases hlt:i < es.size
   ·rw [dif_pos hlt]
    rw [za4,zap hlt] at q;simp only [za8] at q;unfold nA at q;rw [dif_pos ⟨by omega,by omega⟩] at q;exact q
   ·rw [dif_neg hlt]
    rw [zci (by simp;omega)] at q;exact q
theorem EB {ord:List (Int×Value)}{acc:Ti}(h:ItemsOf (JM ord) acc ord.length):acc.toList=ord.map (·.2):=by
 refine List.ext_getElem? fun i=>?_;rw [zaS,za4];rcases zb3 i ord.length with hi|hi
 ·have hs:i < acc.size:=by rw [h.1];exact hi
  have:=h.2 i acc[i] (zap hs);rw [zap hs];exact this.symm
 ·rw [zci hi,zcy (by rw [h.1];exact hi)];rfl
theorem Bv {a : Addr} {Q : Bool -> Shared -> Prop} (hT : s.TypeIs (.ref a) "set") (h : Q false s) : wpAny (model prog w) A (Builtin.List.listLengthHint (.ref a)) Q E s := by
  unfold Builtin.List.listLengthHint
  refine zab (zbZ hT F.slot_set_len.lookup ?_)
  have hsp : splitId "set.__len__" = some ("set", "__len__") := by decide +kernel
  simp only [hsp]
  refine zab (zbS hT sub_set_self ?_)
  simp only [zbo, zan, ↓reduceIte]
  refine (show wpAny _ _ (do let .ref _ ← typeOf (Value.ref a) | return false
                             let some k ← asInt? (← call (.builtin "len") [.ref a]) | unsupported "internal:len-gave-no-int"
                             return k != 0) _ _ _ from zab (zby hT (zad h)))
theorem yp {a:Addr}{o:Obj}{es:Array (Int×Value)}{ep:Nat}{t:SetTable}{Q:List Value->Shared->Prop}(hh:A.handled=none)(ho:s.heap.get? a=some o)(hx:o.ExactSet)(hd:o.data=.set es ep t)(G:lF (!bt w) es t)
  (h:∀(ord:List (Int×Value)) (h':Heap) (d:Drawn) (tk:Nat),ord.Perm es.toList->(∀b o,s.heap.get? b=some o->h'.get? b=some o)->s.toks<=tk->s.heap.objs.size<=h'.objs.size->Q (ord.map (·.2)) {s with heap:=h',drawn:=d,toks:=tk}) :
  wpAny (model prog w) A (collect (.ref a)) Q E s:=by
 have hlt:=zam ho;unfold collect;refine zab (zcU (za1 F.entry_proto_collect ?_));rw [zaU F.plain_proto_collect _];refine (show wpAny _ A.in1 (newList [] >>= fun l=>again (.builtin "list.__iadd__" ⟨[l,.ref a],[]⟩)) _ _ s from zab (zaV ?_));refine zad ⟨zbk F.plain_list_iadd _,za1 F.entry_list_iadd ?_⟩;rw [zaU F.plain_list_iadd _];refine (show wpAny _ A.in1 (Builtin.List.listExtendWith (.ref s.heap.objs.size) (.ref a) (.ref s.heap.objs.size)) _ _ _ from ?_);unfold Builtin.List.listExtendWith;have ho1:(s.heap.push {cls:=.type "list",data:=.seq ([]:Te).toArray}).get? a=some o:=zae _ ho;have hT:Shared.TypeIs {s with heap:=s.heap.push {cls:=.type "list",data:=.seq ([]:Te).toArray}} (.ref a) "set":=⟨o,ho1,hx.1⟩;refine zab (zby hT ?_)
 have h1:Builtin.List.listSameRef (.ref s.heap.objs.size) (.ref a)=false:=by simp [Builtin.List.listSameRef,zbF hlt]
 simp only [h1,show (Value.type "set" == Value.type "list")=false by decide,show (Value.type "set" == Value.type "tuple")=false by decide,zcA,zan,if_false];refine zab (Bk ho1 hx hd G fun h1 d I fp St ord W st hfp kp hI hord=>?_);have hTa:Shared.TypeIs {s with heap:=h1,drawn:=d} (.ref a) "set":=⟨o,kp _ _ ho1,hx.1⟩;refine zab (zaF (Bv hTa ?_))
 refine (show wpAny _ A.in1 (rule "list.extend.makes-room" >>= fun _=>Builtin.List.listTouch (.ref s.heap.objs.size) >>= fun _ =>
  again (.builtin "list.extend.loop" ⟨[.ref s.heap.objs.size,.ref I,.ref s.heap.objs.size],[]⟩)) _ _ _ from zab (zca (zab ?_)))
 have hL:h1.get? s.heap.objs.size=some {cls:=.type "list",data:=.seq ([]:Te).toArray}:=kp _ _ (zaq _ rfl);have hsz:(s.heap.push {cls:=.type "list",data:=.seq ([]:Te).toArray}).objs.size=s.heap.objs.size+1:=zbe ..
 have hSf:s.heap.objs.size∉fp:=fun hm=>by
  rcases hfp _ hm with e|e
  ·exact zaG _ (e ▸ hlt)
  ·rw [hsz] at e;exact zaG _ e
 refine (show wpAny _ A.in1 (updateSeq s.heap.objs.size (·.push .none) >>= fun _=>updateSeq s.heap.objs.size (·.pop)) _ _ _ from zab (zbv hL rfl ?_));have hL2:=zaI (Obj.mapSeq (·.push Value.none)) hL rfl;refine zbv (s:={s with heap:=_,drawn:=d}) hL2 rfl ?_;have hL3:=zaI (Obj.mapSeq (·.pop)) hL2 rfl
 have oth:∀b o,b≠s.heap.objs.size->h1.get? b=some o->((h1.update s.heap.objs.size (Obj.mapSeq (·.push Value.none))).update s.heap.objs.size (Obj.mapSeq (·.pop))).get? b=some o :=
  fun b o hb e=>(zaz _ _ (Ne.symm hb)).trans ((zaz _ _ (Ne.symm hb)).trans e)
 have W1:=W A.in1 (show A.in1.handled=none from hh)
 have hol:ord.length=es.size:=by have:=hord.length_eq;simpa using this
 refine zad ⟨zbk F.plain_extend_loop _,codeAny_extend_loopS W1.toS (by rw [hol];exact fits_of_scanBound G.bd) _ hSf _ ord.length 0 _ _ _ rfl (za3 _)
  (W1.frame 0 h1 _ st fun b hb o e=>oth b o (fun q=>hSf (q ▸ hb)) e) hL3 (ItemsOf.nil _) fun s' acc c hm hS' hacc=>?_⟩
 refine (show wpAny _ A (load s.heap.objs.size >>= _) _ _ s' from zab (wpAny_load hS' ?_));dsimp only;obtain ⟨h',g',d',tk',os'⟩:=s';have eg:g'=s.gens:=hm.gens;have ed:d'=d:=hm.drawn;have eo:os'=s.os:=hm.os;subst eg;subst ed;subst eo;refine zad ?_;rw [EB hacc];refine h ord h' d' tk' hord (fun b o e=>hm.heap b o (fun hb=>?_) (oth b o (fun q=>?_) (kp _ _ (zae _ e)))) hm.toks (zb1 (zam hS'))
 ·have hb1:=zam e
  simp only [zak,zaC,or_false] at hb;rcases hb with q|q
  ·exact zaG _ (q ▸ hb1)
  ·rw [hsz,←q] at hI;exact zaG _ (zaB hb1 (Nat.le_of_succ_le hI))
 ·exact zaG _ (q ▸ zam e)
end
def zD (M i:Nat):Nat:=(i * 5+1) % M
def Cq (M:Nat):Nat->Nat->Nat
 |0,i=>i
 |t+1,i=>Cq M t (zD M i)
theorem mY (M:Nat):∀s t i,Cq M (s+t) i=Cq M t (Cq M s i)
 |0,t,i=>by rw [zdb];rfl
 |s+1,t,i=>by rw [Nat.succ_add];exact mY M s t _
def eP:List Nat:=[7,15,31,63,127,255]
theorem AR:∀m∈eP,Cq (m+1) (m+1) 0=0:=by decide +kernel
theorem sF:∀m∈eP,∀j < m+1,∃t < m+1,Cq (m+1) t 0=j:=by
 have:∀m∈eP,∀j < m+1,((List.range (m+1)).any fun t=>Cq (m+1) t 0 == j)=true:=by decide +kernel
 intro m hm j hj;obtain ⟨t,ht,e⟩:=List.any_eq_true.mp (this m hm j hj);exact ⟨t,by simpa using ht,by simpa using e⟩
theorem wE {m:Nat}(hm:m∈eP){i j:Nat}(hi:i < m+1)(hj:j < m+1):∃t < m+1,Cq (m+1) t i=j:=by
 obtain ⟨s,hs,rfl⟩:=sF m hm i hi;obtain ⟨t,ht,rfl⟩:=sF m hm j hj;rcases zb3 t s with h|h
 ·refine ⟨m+1 - s+t,by omega,?_⟩
  rw [←mY,show s+(m+1 - s+t)=(m+1)+t by omega,mY,AR m hm]
 ·refine ⟨t - s,by omega,?_⟩
  rw [←mY,show s+(t - s)=t by omega]
theorem nZ (m:Nat)(owner:Array (Option Nat)):∀fuel i p r,SetTable.layClean.free m owner fuel i p=some r->owner[r]?=some none
 |0,i,p,r,e=>by simp [SetTable.layClean.free] at e
 |fuel+1,i,p,r,e=>by
  unfold SetTable.layClean.free at e;split at e
  ·rename_i k hk
   cases e;have:=zdj hk
   simp only [Array.getD] at this
   split at this
   ·rename_i hlt
    rw [zap hlt];simpa using this
   ·simp at this
  ·exact nZ m owner fuel _ _ r e
def gS (m:Nat):Nat->Nat->Nat->Nat×Nat
 |0,i,p=>(i,p)
 |t+1,i,p=>gS m t (SetTable.leap m i p).1 (SetTable.leap m i p).2
theorem pO (m:Nat)(owner:Array (Option Nat)):∀fuel i p,SetTable.layClean.free m owner fuel i p=none->∀t < fuel,owner[(gS m t i p).1]?≠some none
 |0,i,p,_,t,ht=>by omega
 |fuel+1,i,p,e,t,ht=>by
  unfold SetTable.layClean.free at e;split at e
  ·cases e
  ·rename_i hk
   cases t with
   |zero =>
    intro hq
    have h0:=List.find?_eq_none.mp hk 0 (by
     have:i<=SetTable.runEnd m i:=by unfold SetTable.runEnd;split <;> omega
     simp;omega)
    simp only [gS] at hq;obtain ⟨hlt,hq⟩:=zbb.mp hq;simp [Array.getD,hlt,hq] at h0
   |succ t=>exact pO m owner fuel _ _ e t (by omega)
theorem uH (m:Nat):∀t i p,(gS m t i p).2=p / 32 ^ t
 |0,i,p=>by simp [gS]
 |t+1,i,p=>by
  unfold gS;rw [uH m t];simp only [SetTable.leap];rw [Nat.div_div_eq_div_mul,Nat.pow_succ,Nat.mul_comm]
theorem nE (m:Nat):∀s t i p,gS m (s+t) i p=gS m t (gS m s i p).1 (gS m s i p).2
 |0,t,i,p=>by rw [zdb];rfl
 |s+1,t,i,p=>by rw [Nat.succ_add];exact nE m s t _ _
theorem lI (m:Nat):∀t i,(gS m t i 0).1=Cq (m+1) t i
 |0,i=>rfl
 |t+1,i=>by
  have e:SetTable.leap m i 0=(zD (m+1) i,0):=by simp [SetTable.leap,zD]
  unfold gS Cq;rw [e];exact lI m t _
theorem qm (m:Nat):∀t i p,i < m+1->(gS m t i p).1 < m+1
 |0,i,p,h=>h
 |t+1,i,p,h=>qm m t _ _ (zct _ (by omega))
theorem D8 {m:Nat}(hm:m∈eP){owner:Array (Option Nat)}(h:Int){j:Nat}(hj:j < m+1)(hf:owner[j]?=some none) :
  ∃r,SetTable.layClean.free m owner (SetTable.turns m) (SetTable.bits h % (m+1)) (SetTable.bits h)=some r/\owner[r]?=some none:=by
 cases e:SetTable.layClean.free m owner (SetTable.turns m) (SetTable.bits h % (m+1)) (SetTable.bits h) with
 |some r=>exact ⟨r,rfl,nZ m owner _ _ _ r e⟩
 |none =>
  exfalso
  have hn:=pO m owner _ _ _ e
  have hb:SetTable.bits h < 2 ^ 64:=by
   unfold SetTable.bits;have:=zcr h (show (0:Int) < 2 ^ 64 by decide);have:=zcN h (show (2 ^ 64:Int)≠0 by decide);omega
  have hp:(gS m 13 (SetTable.bits h % (m+1)) (SetTable.bits h)).2=0:=by
   rw [uH];exact Nat.div_eq_of_lt (Nat.lt_trans hb (by decide))
  have hi:(gS m 13 (SetTable.bits h % (m+1)) (SetTable.bits h)).1 < m+1:=qm m _ _ _ (zct _ (by omega));obtain ⟨t,ht,e⟩:=wE hm hi hj;refine hn (13+t) (by unfold SetTable.turns;omega) ?_;rw [nE,hp,lI,e];exact hf
def c7 (M:Nat)(owner:Array (Option Nat)):List (Nat×Nat):=(List.range M).filterMap fun j=>(owner.getD j none).map (j,·)
theorem w4 {α β:Type}{f g:α->Option β}:∀{l:List α},(∀y∈l,g y=f y)->l.filterMap g=l.filterMap f
 |[],_=>rfl
 |x::l,h=>by
  have ih:=w4 (l:=l) fun y hy=>h y (by simp [hy]);simp only [za6,h x (by simp),ih]
theorem BA {f g:Nat->Option (Nat×Nat)}{j:Nat}{v:Nat×Nat}(hf:f j=none)(hg:g j=some v)(hx:∀x,x≠j->g x=f x):∀{l:List Nat},l.Nodup->j∈l->(l.filterMap g).Perm (v::l.filterMap f)
 |[],_,h=>by simp at h
 |x::l,hn,h=>by
  obtain ⟨h1,h2⟩:=zaJ.mp hn
  by_cases e:x=j
  ·subst e
   have:l.filterMap g=l.filterMap f:=w4 fun y hy=>hx y fun z=>h1 (z ▸ hy);rw [zbK hg,zcs hf,this]
  ·have hj:j∈l:=by
    rcases zak.mp h with q|q
    ·exact absurd q.symm e
    ·exact q
   have ih:=BA hf hg hx h2 hj
   cases q:f x with
   |none=>rw [zcs (by rw [hx x e];exact q),zcs q];exact ih
   |some u =>
    rw [zbK (by rw [hx x e];exact q),zbK q];exact (ih.cons u).trans (.swap _ _ _)
theorem A3 {M k r:Nat}{owner:Array (Option Nat)}(hs:owner.size=M)(hr:owner[r]?=some none):(c7 M (owner.setIfInBounds r (some k))).Perm ((r,k)::c7 M owner):=by
 obtain ⟨hlt,hq⟩:=zbb.mp hr;refine BA (j:=r) (v:=(r,k)) ?_ ?_ ?_ zdc (zbp.mpr (by omega))
 ·simp [Array.getD,hlt,hq]
 ·simp [Array.getD,hlt]
 ·intro x hx
  simp only [Array.getD,Array.size_setIfInBounds];split
  ·rename_i h
   have e:(owner.setIfInBounds r (some k))[x]'(by simpa using h)=owner[x]:=Array.getElem_setIfInBounds_ne _ (Ne.symm hx);exact congrArg _ e
  ·rfl
theorem xX {M:Nat}{owner:Array (Option Nat)}(hs:owner.size=M)(h:∀j < M,owner[j]?≠some none):(c7 M owner).length=M:=by
 have:∀l:List Nat,(∀j∈l,j < M)->(l.filterMap fun j=>(owner.getD j none).map (j,·)).length=l.length:=by
  intro l
  induction l with
  |nil=>intro _;rfl
  |cons x l ih =>
   intro hl;have hx:=hl x (by simp)
   have hlt:x < owner.size:=by omega
   cases q:owner[x] with
   |none=>exact absurd (by rw [zap hlt,q]) (h x hx)
   |some v =>
    rw [zbK (b:=(x,v)) (by simp [Array.getD,hlt,q])];rw [zaD,ih fun j hj=>hl j (by simp [hj]),zaD]
 have:=this (List.range M) (by simp);simpa [c7] using this
theorem wZ {m:Nat}(hm:m∈eP):∀(hs:Th) (owner:Array (Option Nat)) (k:Nat),owner.size=m+1->((c7 (m+1) owner).map (·.2)).Perm (List.range k)->k+hs.length<=m+1 ->
  ∃owner',(hs.foldl (init:=some (owner,k)) fun acc h=>do
   let (owner,k) ←acc
   let j ←SetTable.layClean.free m owner (SetTable.turns m) (SetTable.bits h % (m+1)) (SetTable.bits h)
   pure (owner.setIfInBounds j (some k),k+1))=some (owner',k+hs.length)/\owner'.size=m+1/\((c7 (m+1) owner').map (·.2)).Perm (List.range (k+hs.length))
 |[],owner,k,h1,h2,h3=>⟨owner,by simp,h1,by simpa using h2⟩
 |h::hs,owner,k,h1,h2,h3=>by
  have hex:∃j,j < m+1/\owner[j]?=some none:=by
   refine Classical.byContradiction fun hc=>?_;have:=xX h1 fun j hj q=>hc ⟨j,hj,q⟩;have h4:=h2.length_eq;simp at h4 h3;omega
  obtain ⟨j,hj,hf⟩:=hex;obtain ⟨r,e,hr⟩:=D8 hm h hj hf
  have ih:=wZ hm hs (owner.setIfInBounds r (some k)) (k+1) (by simpa using h1) (by
   refine ((A3 h1 hr).map (·.2)).trans ?_;rw [zaf,List.range_succ]
   exact (h2.cons k).trans (List.perm_append_singleton k _).symm) (by simp at h3;omega)
  obtain ⟨o',e1,e2,e3⟩:=ih;refine ⟨o',?_,e2,?_⟩
  ·rw [zbf]
   simp only [bind,Option.bind,e,pure];rw [show k+(h::hs).length=k+1+hs.length by simp;omega];exact e1
  ·rw [show k+(h::hs).length=k+1+hs.length by simp;omega];exact e3
theorem tU {m:Nat}(hm:m∈eP)(hs:Array Int)(hl:hs.size<=m+1):∃owner,SetTable.layClean m hs=some owner/\owner.size=m+1/\((c7 (m+1) owner).map (·.2)).Perm (List.range hs.size):=by
 obtain ⟨o,e1,e2,e3⟩:=wZ hm hs.toList (Array.replicate (m+1) none) 0 (by simp) (by
  have:c7 (m+1) (Array.replicate (m+1) none)=[]:=by
   unfold c7;rw [List.filterMap_eq_nil_iff];intro j hj;simp at hj;simp [Array.getD,hj]
  rw [this];exact .refl _) (by simpa using hl)
 refine ⟨o,?_,e2,by simpa using e3⟩;unfold SetTable.layClean;rw [←Array.foldl_toList,e1];rfl
theorem DY {m finger moves:Nat}{led plain:Bool}(hm:m∈eP)(hs:Array Int)(hl:hs.size<=m) :
  ∃t o,SetTable.laid m finger moves led plain hs=some (t,o)/\o.toList.Perm (List.range hs.size)/\t.fits hs.size=true/\t.place.toList.Pairwise (· < ·)/\t.led=led/\t.plain=plain/\t.mask=m/\t.dummies = #[]/\t.place.size=hs.size:=by
 obtain ⟨owner,e,e2,e3⟩:=tU hm hs (by omega)
 have hlen:(c7 (m+1) owner).length=hs.size:=by have:=e3.length_eq;simpa using this
 have hlaid:SetTable.laid m finger moves led plain hs=some (({mask:=m,place:=((c7 (m+1) owner).map (·.1)).toArray,dummies:=#[],finger,led,moves,plain}:SetTable),((c7 (m+1) owner).map (·.2)).toArray):=by
  unfold SetTable.laid;rw [e];rfl
 refine ⟨_,_,hlaid,by simpa using e3,?_,(nP hlaid).1,rfl,rfl,rfl,rfl,by simpa using hlen⟩;simp [SetTable.fits,SetTable.fill,hlen];omega
theorem Cd:∀n < 256,SetTable.sizeAbove n - 1∈eP/\n < SetTable.sizeAbove n/\SetTable.sizeAbove n<=256:=by decide +kernel
theorem qF:typeLookup (.type "list") "keys" = pure none:=by rw [zb0,zbx];kernel_rfl
section
variable  {prog:Program}{w:World}{A:Around}{E:Tb}{h:Heap}{g:Array GenState}{d:Drawn}{t:Nat}{os:OsState}{a:Addr}{its:Ti}{n:Nat}
set_option maxHeartbeats 2000000 in
theorem uU {tk:Tok}{Q:Fin->Shared->Prop}(hh:A.handled=none)(hx:h.get? a=some {cls:=.type "list",data:=.seq its n})
  (hq:∀h' tk' e,Heap.NewAttrErr h h' e (.ref a) "keys"->E (.ref e) ⟨h',g,d,tk',os⟩) :
  wpAny (model prog w) A (Builtin.«object.__getattribute__» ⟨[.ref a,.str "keys" tk],[]⟩) Q E ⟨h,g,d,t,os⟩:=by
 have hT:(⟨h,g,d,t,os⟩:Shared).TypeIs (.ref a) "list":=⟨_,hx,rfl⟩;have f4:=qF
 repeat (any_goals (first|assumption|wp_step))
 exact wpAny_raiseAttrError hh hq (attrMsg_fits (by decide +kernel) (by size_fits))
theorem DT {tk:Tok}{Q:Tb}(hh:A.handled=none)(hx:h.get? a=some {cls:=.type "list",data:=.seq its n})
  (hq:∀h' tk' e,Heap.NewAttrErr h h' e (.ref a) "keys"->E (.ref e) ⟨h',g,d,tk',os⟩) :
  wpAny (model prog w) A (getAttrBy (.ref a) (.str "keys" tk) false) Q E ⟨h,g,d,t,os⟩:=by
 have hT:(⟨h,g,d,t,os⟩:Shared).TypeIs (.ref a) "list":=⟨_,hx,rfl⟩;have f2:=F.slot_list_getattribute.lookup;have f3:=F.slot_list_getattribute.bind (.ref a)
 repeat (any_goals (first|assumption|wp_step))
 refine zcO F.slot_list_getattribute.plain F.entry_list_ga (F.slot_list_getattribute.check _ _ _ _ _ _ _ _ hT (F.args_list_getattribute_2 _ _) ?_);refine uU (show A.in1.handled=none from hh) hx fun h' tk' e hx'=>?_;obtain ⟨t',u',he⟩:=hx'.there;have f1:=sub_AttributeError;have f5:typeLookup (.type "list") "__getattr__" = pure none:=am_miss_of_fast (by kernel_rfl);refine (show wpAny _ _ (getattributeRaised _ _ _ _ _ _ _) _ _ _ from ?_);unfold getattributeRaised
 repeat (any_goals (first|assumption|wp_step))
 exact hq _ _ _ hx'
theorem DS {Q:Option Value->Shared->Prop}(hh:A.handled=none)(hx:h.get? a=some {cls:=.type "list",data:=.seq its n})
  (hq:∀h' tk',(∀c u,h.get? c=some u->h'.get? c=some u)->Q none ⟨h',g,d,tk',os⟩) :
  wpAny (model prog w) A (getAttr? (.ref a) "keys") Q E ⟨h,g,d,t,os⟩:=by
 unfold getAttr? getAttrBy?;refine zab (wpAny_mkText (zab (zbG (DT hh hx fun h' tk' e hx'=>?_))));obtain ⟨t',u',he⟩:=hx'.there;exact zab (zbS (T:="AttributeError") ⟨_,he,rfl⟩ sub_AttributeError (zad (hq _ _ hx'.keeps)))
end
theorem lB:entryFor table "dict.update.loop" = some Builtin.«dict.update.loop»:=entryFor_of_tree (by kernel_rfl)
theorem fX:plainId "dict.update.loop" = true:=by decide +kernel
section
variable  {prog:Program}{w:World}{A:Around}{R:Result->Shared->Prop}{I:Addr}{fp wr:Tf}{n:Nat}{P:Nat->Value->Prop}{St:Nat->Heap->Prop}
structure kE (h:Heap)(v key val:Value):Prop where
 ex:∃a o c,v=.ref a/\h.get? a=some o/\o.cls=.type "tuple"/\o.data=.seq #[key,val] c
theorem kE.keep {h h':Heap}{v key val:Value}(p:kE h v key val)(k:∀a o,v=.ref a->h.get? a=some o->h'.get? a=some o):kE h' v key val:=by
 obtain ⟨a,o,c,rfl,h1,h2,h3⟩:=p.ex;exact ⟨a,o,c,rfl,k a o rfl h1,h2,h3⟩
def putAll {K:Type}[DecidableEq K](kvs:List (K×Value))(ps:List (K×Value)):List (K×Value):=ps.foldl (fun a p=>stored a p.1 p.2) kvs
theorem ym {K:Type}[DecidableEq K]{knd:KeyKind prog w K}(W:Walks prog w A.in1 I fp wr n P St)(S:Addr)(hSf:S∉fp)(ps:List (K×Value))(hps:ps.length=n)(h₀:Heap)
  (hP:∀i v,P i v->∃k x key,ps[i]?=some (k,x)/\knd.is k key=true/\kE h₀ v key x/\∀a,v=.ref a->a≠S/\a∉wr) :
  ∀(k i:Nat) (s:Shared) (c:Int) (kvs:List (K×Value)),n - i=k->i<=n->St i s.heap->(∀b o,b≠S->b∉wr->h₀.get? b=some o->s.heap.get? b=some o)->s.heap.DictOf knd S kvs->kvs.length+k<=sizeLine ->
   (∀h' tk,(∀b o,b≠S->b∉wr->s.heap.get? b=some o->h'.get? b=some o)->s.toks<=tk\/True->h'.DictOf knd S (putAll kvs (ps.drop i))->R (.ok (.ret .none)) {s with heap:=h',toks:=tk}) ->
   codeAny (model prog w) A (.builtin "dict.update.loop" ⟨[.ref S,.ref I,.int c 0,.none],[]⟩) R s:=by
 have nw:S∉wr:=fun h=>hSf (W.sub _ h);intro k
 induction k with
 |zero =>
  intro i s c kvs hk hi hst h0 hS hb hR
  have hin:i=n:=by omega
  subst hin;refine za1 lB ?_;rw [zaU fX _];refine (show wpAny _ A.in1 (pyNext (.ref I) >>= _) _ _ s from zab (W.done s _ _ hst fun h' tk hk'=>?_));refine (show wpAny _ A.in1 (do Builtin.Dict.addKeywords S [];ret Value.none) _ _ _ from zab (show wpAny _ _ (pure ()) _ _ _ from zad (zad ?_)));refine hR h' tk (fun b o _ hb e=>hk' b o hb e) (.inr trivial) ?_;rw [List.drop_of_length_le (by omega)];obtain ⟨o,es,ep,ho,r⟩:=hS;exact ⟨o,es,ep,hk' S o nw ho,r⟩
 |succ k ih =>
  intro i s c kvs hk hi hst h0 hS hb hR
  have hlt:i < n:=by omega
  refine za1 lB ?_;rw [zaU fX _];refine (show wpAny _ A.in1 (pyNext (.ref I) >>= _) _ _ s from zab (W.item i s _ _ hlt hst fun v h1 tk1 hPv hst1 hk1=>?_));obtain ⟨kk,x,key,hpi,hkey,hpair,hap⟩:=hP i v hPv;have hpair1:kE h1 v key x:=hpair.keep fun a o e q=>hk1 a o (hap a e).2 (h0 a o (hap a e).1 (hap a e).2 q);obtain ⟨a,o,cc,rfl,ho,hc,hd⟩:=hpair1.ex
  have hS1:h1.DictOf knd S kvs:=by
   obtain ⟨o,es,ep,ho,r⟩:=hS;exact ⟨o,es,ep,hk1 S o nw ho,r⟩
  refine zab (zaF (zab (wpAny_tryCatch ?_)));unfold Builtin.Dict.pairItems;refine zab (zby (T:="tuple") ⟨o,ho,hc⟩ ?_);rw [if_pos (by decide)];refine zab (zbT ho hd (zad ?_));refine (show wpAny _ _ (holding [key,x] (dictSet S key x)) _ _ _ from zaF (wpAny_dictSet_pairs (s:={s with heap:=h1,toks:=tk1}) hkey hS1 (fun h2 hS2 hsb=>?_) (by omega)))
  have hdrop:ps.drop i=(kk,x)::ps.drop (i+1):=by
   obtain ⟨hl,e⟩:=zau.mp hpi;rw [zbw hl,e]
  have hlen:(stored kvs kk x).length<=kvs.length+1:=stored_length_le kvs kk x;refine zad ⟨zbk fX _,ih (i+1) {s with heap:=h2,toks:=tk1+1} (c+1) _ (by omega) hlt (W.frame _ h1 _ hst1 fun b hb o e=>?_) (fun b o n1 n2 e=>?_) hS2 (by omega) fun h' tk' hk' ht hD=>?_⟩
  ·rw [hsb.2 b (fun h:b=S=>hSf (h ▸ hb))];exact e
  ·rw [hsb.2 b n1];exact hk1 b o n2 (h0 b o n1 n2 e)
  ·refine hR h' tk' (fun b o n1 n2 e=>hk' b o n1 n2 ?_) (.inr trivial) (by rw [hdrop];exact hD)
   show h2.get? b=some o
   rw [hsb.2 b n1];exact hk1 b o n2 e
end
theorem AY:mroOf (.type "dict")=pure [.type "dict",.type "object"]:=by rw [mroOf_type];kernel_rfl
theorem qE:typeLookup (.type "dict") "__new__" = pure (some (.builtin "dict.__new__")):=by rw [zb0,zbx];kernel_rfl
theorem r6:Slot "dict" "__init__" "dict.__init__":=by
 refine .of (owner:="dict") (n:="__init__") ?_ (by decide +kernel) (by decide +kernel) (by decide +kernel) ?_ ?_
 ·rw [zb0,zbx];kernel_rfl
 ·first|exact .inl (by decide +kernel)|exact .inr (by decide +kernel)
 ·rw [isSubtype_type];kernel_rfl
theorem fG:TypeCalled "dict" "dict.__new__" "dict.__init__" :=
 ⟨by decide +kernel,by decide +kernel,⟨_,_,AY⟩,madeBy_type AY qE (by decide +kernel),by decide +kernel,by rw [isSubtype_type];kernel_rfl,r6⟩
theorem uz (a:Value):checkTypeCall "dict" ⟨[a],[]⟩=pure ():=by kernel_rfl
theorem xV (a:Value):checkBuiltinCall "dict.__new__" ⟨[.type "dict",a],[]⟩=pure ():=by kernel_rfl
theorem tJ:entryFor table "dict.__new__" = some Builtin.«dict.__new__»:=entryFor_of_tree (by kernel_rfl)
theorem mh:plainId "dict.__new__" = true:=by decide +kernel
theorem qO:entryFor table "dict.__init__" = some Builtin.«dict.__init__»:=entryFor_of_tree (by kernel_rfl)
theorem nt:isSubtype (.type "dict") (.type "dict")=pure true:=by rw [isSubtype_type];kernel_rfl
theorem sN:builtinKind "dict.__init__" = some .slot:=by kernel_rfl
theorem qj:splitId "dict.__init__" = some ("dict","__init__"):=by kernel_rfl
theorem uG:Manifest.signature? "dict.__init__" = some ⟨.positional,"dict","dict",.self,[⟨"other",.posOnly,false⟩,⟨"kwargs",.varKw,false⟩]⟩:=by kernel_rfl
section
variable  {prog:Program}{w:World}{A:Around}{E:Tb}{s:Shared}
abbrev dZ:Obj:={cls:=.type "dict",dict:=none,data:=.dict #[]}
theorem B0 (a:Value){Q₁:Tb}(h:Q₁ (.ref s.heap.objs.size) {s with heap:=s.heap.push dZ}) :
  codeAny (model prog w) A (.call (.builtin "dict.__new__") ⟨[.type "dict",a],[]⟩) (wants Q₁ E) s:=by
 refine zcM (show wpAny _ A.in1 (do checkBuiltinCall "dict.__new__" ⟨[.type "dict",a],[]⟩;again (.builtin "dict.__new__" ⟨[.type "dict",a],[]⟩)) _ _ s from ?_);refine zab (zdm (xV a) (zad ⟨zbk mh _,za1 tJ ?_⟩));rw [zaU mh _];have hsub:=nt;have hmro:=AY;unfold Builtin.«dict.__new__»;obtain ⟨hp,g,d,tk,os⟩:=s;dsimp only
 repeat (any_goals (first|assumption|wp_step))
theorem qV {M:Model}{self a:Value}{Q:Unit->Shared->Prop}(hT:s.TypeIs self "dict")(hQ:Q () s) :
  wpAny M A (checkBuiltinCall "dict.__init__" ⟨[self,a],[]⟩) Q E s:=by
 simp only [checkBuiltinCall,sN,qj,uG];refine zab (zbS hT nt ?_);simp only [zbo,zan,if_false];unfold Bind.checkArgs;dsimp only;refine zab (m:=Bind.printed "dict" true _ _) (PyProof.Rows.printed_name (by decide) ?_);refine zab (m:=Bind.printed "dict" false _ _) (PyProof.Rows.printed_name (by decide) ?_)
 have hrn:(Manifest.Receiver.self == Manifest.Receiver.none)=false:=by decide
 have hn:(if (Manifest.Receiver.self == Manifest.Receiver.none)=true then [self,a].length else [self,a].length - 1)=1:=by simp [hrn]
 rw [hn];simp only [zaY]
 have hc:Bind.check ⟨.positional,"dict","dict",.self,[⟨"other",.posOnly,false⟩,⟨"kwargs",.varKw,false⟩]⟩ "dict" "dict" 1 []=pure ():=by kernel_rfl
 rw [hc];exact wpAny_onRaise (zad hQ)
set_option maxHeartbeats 3200000 in
theorem BY {K:Type}[DecidableEq K]{knd:KeyKind prog w K}{l:Addr}{its:Ti}{c:Nat}{ps:List (K×Value)}{Q:Tb}
  (hh:A.handled=none) (hl:s.heap.get? l=some {cls:=.type "list",data:=.seq its c}) (hps:ps.length=its.size) (hz:its.size<=sizeLine)
  (hP:∀(i:Nat) v,its[i]?=some v->∃k x key,ps[i]?=some (k,x)/\knd.is k key=true/\kE s.heap v key x)
  (h:∀(h':Heap) (tk:Nat),h'.DictOf knd s.heap.objs.size (putAll [] ps)->(∀b o,s.heap.get? b=some o->h'.get? b=some o)->Q (.ref s.heap.objs.size) {s with heap:=h',toks:=tk}) :
  wpAny (model prog w) A (call (.type "dict") [.ref l]) Q E s:=by
 obtain ⟨cc,tl,hmro⟩:=fG.mro;have hmade:=fG.made;have hsub:=fG.sub;refine wpAny_call (zcM (show wpAny _ _ (callAny (.type "dict") _) _ _ _ from ?_));refine zad ⟨Code.quiet_builtin _ (by decide +kernel),za1 F.entry_type_call ?_⟩;rw [Around.under_plain (weight_type_call_type "dict" [.ref l] []) rfl];have h1:=fG.notType;have h2:=fG.canCreate;have hct:=uz (.ref l)
 repeat (any_goals (first|assumption|wp_step))
 refine zbX (B0 (.ref l) (E:=E) (Q₁:=fun obj s₁=>obj=.ref s.heap.objs.size/\s₁={s with heap:=s.heap.push dZ}) ⟨rfl,rfl⟩) fun r s₁ hr=>?_
 cases r with
 |error e=>exact hr
 |ok fl =>
  cases fl with
  |ret obj =>
   obtain ⟨rfl,rfl⟩:=hr;have hS:(s.heap.push dZ).get? s.heap.objs.size=some dZ:=zaq _ rfl;have hT:Shared.TypeIs {s with heap:=s.heap.push dZ} (.ref s.heap.objs.size) "dict":=⟨_,hS,rfl⟩;have hli:=fG.init.lookup;have hbi:=fG.init.bind (.ref s.heap.objs.size)
   repeat (any_goals (first|assumption|wp_step))
   refine zbX (zcO (R:=wants (fun r s₂=>r=.none/\∃h' tk,s₂={s with heap:=h',toks:=tk}/\h'.DictOf knd s.heap.objs.size (putAll [] ps) /\
     (∀b o,s.heap.get? b=some o->h'.get? b=some o)) E) fG.init.plain qO (qV hT ?_)) fun r₂ s₂ hr₂=>?_
   ·have hlS:l < s.heap.objs.size:=zam hl
    have hl1:(s.heap.push dZ).get? l=some {cls:=.type "list",data:=.seq its c}:=zae _ hl;have hTl:Shared.TypeIs {s with heap:=s.heap.push dZ} (.ref l) "list":=⟨_,hl1,rfl⟩;unfold Builtin.«dict.__init__» Builtin.Dict.selfAndRest Builtin.Dict.notOrdered;refine zab (zab ?_);rw [if_pos (by decide)];refine zab (zby hT ?_);rw [if_neg (by decide)];refine zad (zab (show wpAny _ _ (pure s.heap.objs.size) _ _ _ from zad (zad ?_)));refine (show wpAny _ _ (Builtin.Dict.updateFrom "dict.__init__" s.heap.objs.size (.ref l) [] .none) _ _ _ from ?_);unfold Builtin.Dict.updateFrom;refine zab (zby hTl ?_);rw [if_pos (by decide)];refine zab (DS (show A.in1.in1.handled=none from hh) hl1 fun h2 tk2 kp2=>?_);rw [if_pos (show (none:Tg).isNone=true from rfl)];have hl2:=kp2 _ _ hl1;have hS2:=kp2 _ _ hS;have hl3:h2.IsList l its:=⟨_,hl2,rfl,c,rfl⟩;refine zab (zca (zab (zch hl3 ?_)));have hlI:l≠h2.objs.size:=zax (zam hl2);have hSI:s.heap.objs.size≠h2.objs.size:=zax (zam hS2)
    have hSf:s.heap.objs.size∉[h2.objs.size,l]:=by
     simp only [zak,zaC,or_false,not_or];exact ⟨hSI,zbF hlS⟩
    have hD0:(h2.push {cls:=.type "list_iterator",data:=.fields #[.ref l,.int 0 0]}).DictOf knd s.heap.objs.size [] :=
     ⟨dZ,#[],0,zae _ hS2,⟨rfl,rfl,rfl⟩,rfl,fun e he=>by simp at he,.nil,List.nodup_nil⟩
    refine zad ⟨zbk fX _,ym (Walks.list (by simp [hh]) h2.objs.size l hlI its) s.heap.objs.size hSf ps hps s.heap (fun i v hv=>?_) (its.size - 0) 0 _ 0 [] (by omega) (za3 _)
     ⟨⟨_,zaq _ rfl,rfl,rfl⟩,hl3.push _⟩ (fun b o _ _ e=>zae _ (kp2 _ _ (zae _ e))) hD0 (by simpa using hz) fun h' tk' hk' _ hD=>?_⟩
    ·obtain ⟨k,x,key,e1,e2,e3⟩:=hP i v hv
     refine ⟨k,x,key,e1,e2,e3,fun a e=>?_⟩;obtain ⟨a',o',c',q1,q2,_,_⟩:=e3.ex;rw [q1] at e;cases e;refine ⟨zax (zam q2),?_⟩;simp only [zak,zaC,or_false];exact zax (zam (kp2 _ _ (zae _ q2)))
    ·refine ⟨rfl,h',tk',rfl,by simpa using hD,fun b o e=>hk' b o (zax (zam e)) ?_ (zae _ (kp2 _ _ (zae _ e)))⟩
     simp only [zak,zaC,or_false];exact zax (zam (kp2 _ _ (zae _ e)))
   ·cases r₂ with
    |error e=>exact hr₂
    |ok fl2 =>
     cases fl2 with
     |ret r =>
      obtain ⟨rfl,h',tk,rfl,hS',hk'⟩:=hr₂
      repeat (any_goals (first|assumption|wp_step))
      exact h _ _ hS' hk'
     |_=>exact hr₂.elim
  |_=>exact hr.elim
end
end HS
namespace L2
open PySem PySem.Spec PyProof.Rows
def jE (H:Hp)(q:Str)(ps:Ti):Prop:=TriplesOk ps.toList/\∀pos cv,codeAmong pos ps.toList=some cv->∃c' oc vs t,cv=.ref c'/\H c'=some (.frz oc (.ext fun _=>True))/\oc.data=.fields vs/\vs[1]?=some (.str q t)
theorem jE.mono {H H':Hp}{q:Str}{ps:Ti}(g:jE H q ps)(k:∀b o u,H b=some (.frz o u)->H' b=some (.frz o u)):jE H' q ps :=
 ⟨g.1,fun pos cv e=>let ⟨c',oc,vs,t,e1,e2,r⟩:=g.2 pos cv e;⟨c',oc,vs,t,e1,k _ _ _ e2,r⟩⟩
structure Ck (x:Str)(caps:Tl)(sc:Scope)(cl:List (Str×Addr)):Prop where
 kind:sc.kind=.function
 co:sc.isCoroutine=false
 gen:sc.isGenerator=false
 nd:(x::caps).Nodup
 par:sc.names.lookup x=some .local
 nocell:∀y∈sc.names,y.2≠.cell
 free:∀y,sc.names.lookup y=some .free->∃c,cl.lookup y=some c
 inj:∀y z c,cl.lookup y=some c->cl.lookup z=some c->y=z
end L2
namespace HW
open PySem L2
inductive D where
 |non|bl (b:Bool)|int (i:Int)|str (x:Str)
 |tup (xs:List D)|fl (xs:List D)|fd (ks:List aE) (ds:List D)|key (ks:Th)
structure My where
 qual:Str
 params:Arguments
 body:Expr
 scope:Scope
 x:Str
 caps:Tl
inductive R where
 |v (d:D)|p (n:Nat)|s (b:Bool) (xs:Th)|x (c:Str)|f (L:My) (ds:List D)
inductive aw where
 |lst (xs:List D)|fz (xs:List D)|dct (kvs:List (aE×D))|fzd (kvs:List (aE×D))|dr (kvs:List (aE×R))|lr (xs:List R)|dt (kvs:List (Th×D))|tb (P:Nat) (q:Str)|ob (c:Str) (fs:List (Str×R))|tr (xs:List R)|fzr (kvs:List (aE×R))|dtr (kvs:List (Th×R))
abbrev ac:=List aw
abbrev Lo:=List (Option R)
abbrev FE:=Lo->ac->Option (R×ac)
abbrev FT:=Lo->ac->Option (Bool×ac)
abbrev FA:=Lo->ac->Option (List R×ac)
inductive mx where
 |nx (ρ:Lo) (μ:ac)|rt (d:R) (μ:ac)|bk (ρ:Lo) (μ:ac)|ct (ρ:Lo) (μ:ac)
abbrev FS:=Lo->ac->Option mx
def GA (K:zac)(H:Hp)(a:Addr)(vs:List V):Prop:=(∃o,H a=some (.frz o (.lst vs)))\/g9 K (fun _=>none) a vs
mutual
def am (K:zac)(H:Hp):D->V->Prop
 |.non,v=>v=.non
 |.bl b,v=>v=.bl b
 |.int i,v=>v=.int i
 |.str x,v=>v=.str x
 |.tup xs,v=>∃a vs,v=.ref a/\gG K H a vs/\RelDs K H xs vs
 |.fl xs,v=>∃a vs,v=.ref a/\GA K H a vs/\RelDs K H xs vs
 |.fd ks ds,v=>∃a o es,v=.ref a/\H a=some (.frz o (.dK es))/\es.map (·.1)=ks/\RelDs K H ds (es.map (·.2))
 |.key ks,v=>∃a,v=.ref a/\H a=some (.tup (ks.map V.int))
def RelDs (K:zac)(H:Hp):List D->List V->Prop
 |[],vs=>vs=[]
 |x::xs,vs=>∃v r,vs=v::r/\am K H x v/\RelDs K H xs r
end
structure EL (K:zac)(H:Hp)(L:My)(ds:List D)(a:Addr)(cl:List (Str×Addr))(pm ctv:Value)(c':Addr):Prop where
 fn:H a=some (.frz (PySem.W.kla_obj "<lambda>" L.qual L.params L.body L.scope cl pm c' ctv) (.ext fun _=>True))
 code:∃oc vs t,H c'=some (.frz oc (.ext fun _=>True))/\oc.data=.fields vs/\vs[1]?=some (.str L.qual t)
 len:ds.length=L.caps.length
 cell:∀y c,cl.lookup y=some c->∃z o,H c=some (.frz o (.ext fun _=>True))/\o.data=.cell z
 cap:∀(i:Nat) y d,L.caps[i]?=some y->ds[i]?=some d->∃c o u vy,L.scope.names.lookup y=some .free/\cl.lookup y=some c/\H c=some (.frz o (.ext fun _=>True))/\o.data=.cell (some u)/\aY vy u/\am K H d vy
 sc:Ck L.x L.caps L.scope cl
def ar (K:zac)(m:Tf)(H:Hp):R->V->Prop
 |.v d,v=>am K H d v
 |.p n,v=>∃a,v=.ref a/\m[n]?=some a
 |.s b xs,v=>∃a o,v=.ref a/\H a=some (.frz o (.ext fun _=>True))/\HS.PC b o xs
 |.x c,v=>∃a vs C,v=.ref a/\H a=some (.frz {cls:=.ref C,dict:=none,data:=.fields vs,slots:=#[]} (.ext fun _=>True))/\PySem.W.nsIn K mainGlobals c=some (some (.ref C))
 |.f L ds,v=>∃a cl pm ctv c',v=.ref a/\EL K H L ds a cl pm ctv c'
def bg (K:zac)(m:Tf)(H:Hp):List R->List V->Prop
 |[],vs=>vs=[]
 |x::xs,vs=>∃v r,vs=v::r/\ar K m H x v/\bg K m H xs r
def gB (K:zac)(m:Tf)(H:Hp):aw->Addr->Prop
 |.lst xs,a=>∃vs,H a=some (.lst vs)/\RelDs K H xs vs
 |.fz xs,a=>∃o vs,H a=some (.frz o (.lst vs))/\RelDs K H xs vs
 |.dct kvs,a=>∃es,H a=some (.dK es)/\es.map (·.1)=kvs.map (·.1)/\RelDs K H (kvs.map (·.2)) (es.map (·.2))
 |.fzd kvs,a=>∃o es,H a=some (.frz o (.dK es))/\es.map (·.1)=kvs.map (·.1)/\RelDs K H (kvs.map (·.2)) (es.map (·.2))
 |.dr kvs,a=>∃es,H a=some (.dK es)/\es.map (·.1)=kvs.map (·.1)/\bg K m H (kvs.map (·.2)) (es.map (·.2))
 |.lr xs,a=>∃vs,H a=some (.lst vs)/\bg K m H xs vs
 |.tb P q,a=>a=P/\∃ps,H P=some (.tbl ps)/\jE H q ps
 |.ob c fs,a=>∃C dx es,PySem.W.nsIn K mainGlobals c=some (some (.ref C))/\H a=some (.ins C dx es)/\es.map (·.1)=fs.map (·.1)/\bg K m H (fs.map (·.2)) (es.map (·.2))
 |.tr xs,a=>∃vs,H a=some (.tup vs)/\bg K m H xs vs
 |.fzr kvs,a=>∃o es,H a=some (.frz o (.dK es))/\es.map (·.1)=kvs.map (·.1)/\bg K m H (kvs.map (·.2)) (es.map (·.2))
 |.dtr kvs,a=>∃es,H a=some (.dT es)/\es.map (·.1)=kvs.map (fun p=>p.1.map Sum.inl)/\bg K m H (kvs.map (·.2)) (es.map (·.2))
 |.dt kvs,a=>∃es,H a=some (.dT es)/\es.map (·.1)=kvs.map (fun p=>p.1.map Sum.inl)/\RelDs K H (kvs.map (·.2)) (es.map (·.2))
structure aO (K:zac)(m:Tf)(H:Hp)(μ:ac):Prop where
 nd:m.Nodup
 len:m.length=μ.length
 cell:∀(i:Nat) c a,μ[i]?=some c->m[i]?=some a->gB K m H c a
structure TF (H H':Hp):Prop where
 tup:∀a xs,H a=some (.tup xs)->H' a=some (.tup xs)
 frz:∀a o u,H a=some (.frz o u)->H' a=some (.frz o u)
structure cQ (m:Tf)(H:Hp)(m':Tf)(H':Hp):Prop where
 ext:∃e,m'=m++e/\∀a∈e,H a=none
 tf:TF H H'
 keep:∀a o,H a=some o->a∉m->H' a=some o
 live:∀a,H' a=none->H a=none
def dJ (K:zac)(m:Tf)(H:Hp)(ρ:Lo)(σ:St):Prop :=
 ρ.length=σ.length/\∀(i:Nat) d,ρ[i]?=some (some d)->∃v,σ[i]?=some (some v)/\ar K m H d v
section
variable  {K:zac}{m m' m1 m2:Tf}{H H' H1 H2:Hp}{μ μ':ac}{ρ:Lo}{σ:St}
theorem TF.refl:TF H H:=⟨fun _ _ h=>h,fun _ _ _ h=>h⟩
theorem TF.trans (a:TF H H1)(b:TF H1 H2):TF H H2:=⟨fun _ _ h=>b.tup _ _ (a.tup _ _ h),fun _ _ _ h=>b.frz _ _ _ (a.frz _ _ _ h)⟩
theorem TF.of (h:∀a o,H a=some o->H' a=some o):TF H H':=⟨fun _ _ e=>h _ _ e,fun _ _ _ e=>h _ _ e⟩
theorem gG.tf {a vs}(t:TF H H')(h:gG K H a vs):gG K H' a vs:=by
 rcases h with (h|⟨o,h⟩)|h
 ·exact .inl (.inl (t.tup _ _ h))
 ·exact .inl (.inr ⟨o,t.frz _ _ _ h⟩)
 ·exact .inr h
theorem GA.tf {a vs}(t:TF H H')(h:GA K H a vs):GA K H' a vs:=by
 rcases h with ⟨o,h⟩|h
 ·exact .inl ⟨o,t.frz _ _ _ h⟩
 ·exact .inr h
theorem GA.sq {a vs}(h:GA K H a vs):g9 K H a vs:=by
 rcases h with ⟨o,h⟩|(h|⟨_,h⟩)|h
 ·exact .inl (.inr ⟨o,h⟩)
 ·cases h
 ·cases h
 ·exact .inr h
mutual
theorem am.tf (t:TF H H'):∀(d:D) (v:V),am K H d v->am K H' d v
 |.non,_,h=>by simpa only [am] using h
 |.bl _,_,h=>by simpa only [am] using h
 |.int _,_,h=>by simpa only [am] using h
 |.str _,_,h=>by simpa only [am] using h
 |.tup xs,v,h=>by
  simp only [am] at h ⊢;obtain ⟨a,vs,e,s,r⟩:=h;exact ⟨a,vs,e,gG.tf t s,RelDs.tf t xs vs r⟩
 |.fl xs,v,h=>by
  simp only [am] at h ⊢;obtain ⟨a,vs,e,s,r⟩:=h;exact ⟨a,vs,e,s.tf t,RelDs.tf t xs vs r⟩
 |.fd ks ds,v,h=>by
  simp only [am] at h ⊢;obtain ⟨a,o,es,e,s,k,r⟩:=h;exact ⟨a,o,es,e,t.frz _ _ _ s,k,RelDs.tf t ds _ r⟩
 |.key ks,v,h=>by
  simp only [am] at h ⊢;obtain ⟨a,e,q⟩:=h;exact ⟨a,e,t.tup _ _ q⟩
theorem RelDs.tf (t:TF H H'):∀(ds:List D) (vs:List V),RelDs K H ds vs->RelDs K H' ds vs
 |[],_,h=>by simpa only [RelDs] using h
 |d::ds,vs,h=>by
  simp only [RelDs] at h ⊢;obtain ⟨v,r,e,h1,h2⟩:=h;exact ⟨v,r,e,am.tf t d v h1,RelDs.tf t ds r h2⟩
end
theorem EL.tf {L ds a cl pm ctv c'}(t:TF H H')(h:EL K H L ds a cl pm ctv c'):EL K H' L ds a cl pm ctv c':=by
 refine ⟨t.frz _ _ _ h.fn,?_,h.len,fun y c e=>?_,fun i y d e1 e2=>?_,h.sc⟩
 ·obtain ⟨oc,vs,u,e,r⟩:=h.code;exact ⟨oc,vs,u,t.frz _ _ _ e,r⟩
 ·obtain ⟨z,o,q,r⟩:=h.cell y c e;exact ⟨z,o,t.frz _ _ _ q,r⟩
 ·obtain ⟨c,o,u,vy,k1,k2,k3,k4,k5,k6⟩:=h.cap i y d e1 e2;exact ⟨c,o,u,vy,k1,k2,t.frz _ _ _ k3,k4,k5,am.tf t _ _ k6⟩
theorem cQ.refl:cQ m H m H:=⟨⟨[],by simp⟩,.refl,fun _ _ h _=>h,fun _ h=>h⟩
theorem cQ.trans (x:cQ m H m1 H1)(y:cQ m1 H1 m2 H2):cQ m H m2 H2:=by
 obtain ⟨e1,rfl,f1⟩:=x.ext;obtain ⟨e2,rfl,f2⟩:=y.ext;refine ⟨⟨e1++e2,by simp,fun a ha=>?_⟩,x.tf.trans y.tf,fun a o h n=>?_,fun a h=>x.live a (y.live a h)⟩
 ·rcases zaW.mp ha with h|h
  ·exact f1 a h
  ·exact x.live a (f2 a h)
 ·refine y.keep a o (x.keep a o h n) fun z=>?_
  rcases zaW.mp z with z|z
  ·exact n z
  ·rw [f1 a z] at h;cases h
theorem ar.ext (x:cQ m H m' H'){d:R}{v:V}(h:ar K m H d v):ar K m' H' d v:=by
 cases d with
 |v d=>exact am.tf x.tf d v h
 |p n =>
  obtain ⟨a,e,q⟩:=h;obtain ⟨e1,rfl,_⟩:=x.ext;refine ⟨a,e,?_⟩;obtain ⟨hl,hq⟩:=zau.mp q;rw [zai hl];exact q
 |s b xs =>
  obtain ⟨a,o,e,q,r⟩:=h;exact ⟨a,o,e,x.tf.frz _ _ _ q,r⟩
 |x c =>
  obtain ⟨a,vs,C,e,q,r⟩:=h;exact ⟨a,vs,C,e,x.tf.frz _ _ _ q,r⟩
 |f L ds =>
  obtain ⟨a,cl,pm,ctv,c',e,q⟩:=h;exact ⟨a,cl,pm,ctv,c',e,q.tf x.tf⟩
theorem bg.ext (x:cQ m H m' H'):∀{ds:List R} {vs:List V},bg K m H ds vs->bg K m' H' ds vs
 |[],_,h=>h
 |_::_,_,⟨v,r,e,h1,h2⟩=>⟨v,r,e,h1.ext x,bg.ext x h2⟩
theorem dJ.ext (x:cQ m H m' H')(h:dJ K m H ρ σ):dJ K m' H' ρ σ :=
 ⟨h.1,fun i d e=>let ⟨v,q,r⟩:=h.2 i d e;⟨v,q,r.ext x⟩⟩
theorem ar.tfm (t:TF H H')(y:∃e,m'=m++e){d:R}{v:V}(h:ar K m H d v):ar K m' H' d v:=by
 cases d with
 |v d=>exact am.tf t d v h
 |p n =>
  obtain ⟨a,e,q⟩:=h;obtain ⟨e1,rfl⟩:=y;refine ⟨a,e,?_⟩;obtain ⟨hl,hq⟩:=zau.mp q;rw [zai hl];exact q
 |s b xs =>
  obtain ⟨a,o,e,q,r⟩:=h;exact ⟨a,o,e,t.frz _ _ _ q,r⟩
 |x c =>
  obtain ⟨a,vs,C,e,q,r⟩:=h;exact ⟨a,vs,C,e,t.frz _ _ _ q,r⟩
 |f L ds =>
  obtain ⟨a,cl,pm,ctv,c',e,q⟩:=h;exact ⟨a,cl,pm,ctv,c',e,q.tf t⟩
theorem bg.tfm (t:TF H H')(y:∃e,m'=m++e):∀{ds:List R} {vs:List V},bg K m H ds vs->bg K m' H' ds vs
 |[],_,h=>h
 |_::_,_,⟨v,r,e,h1,h2⟩=>⟨v,r,e,h1.tfm t y,bg.tfm t y h2⟩
theorem gB.same (s:∀a o,H a=some o->H' a=some o)(y:∃e,m'=m++e){c:aw}{a:Addr}(h:gB K m H c a):gB K m' H' c a:=by
 cases c with
 |lst xs=>obtain ⟨vs,e,r⟩:=h;exact ⟨vs,s _ _ e,RelDs.tf (.of s) _ _ r⟩
 |fz xs=>obtain ⟨o,vs,e,r⟩:=h;exact ⟨o,vs,s _ _ e,RelDs.tf (.of s) _ _ r⟩
 |dct kvs=>obtain ⟨es,e,k,r⟩:=h;exact ⟨es,s _ _ e,k,RelDs.tf (.of s) _ _ r⟩
 |fzd kvs=>obtain ⟨o,es,e,k,r⟩:=h;exact ⟨o,es,s _ _ e,k,RelDs.tf (.of s) _ _ r⟩
 |dr kvs=>obtain ⟨es,e,k,r⟩:=h;exact ⟨es,s _ _ e,k,bg.tfm (.of s) y r⟩
 |lr xs=>obtain ⟨vs,e,r⟩:=h;exact ⟨vs,s _ _ e,bg.tfm (.of s) y r⟩
 |dt kvs=>obtain ⟨es,e,k,r⟩:=h;exact ⟨es,s _ _ e,k,RelDs.tf (.of s) _ _ r⟩
 |tb P q=>obtain ⟨e,ps,k,r⟩:=h;exact ⟨e,ps,s _ _ k,r.mono fun b o u g=>s _ _ g⟩
 |ob c fs=>obtain ⟨C,dx,es,n,e,k,r⟩:=h;exact ⟨C,dx,es,n,s _ _ e,k,bg.tfm (.of s) y r⟩
 |tr xs=>obtain ⟨vs,e,r⟩:=h;exact ⟨vs,s _ _ e,bg.tfm (.of s) y r⟩
 |fzr kvs=>obtain ⟨o,es,e,k,r⟩:=h;exact ⟨o,es,s _ _ e,k,bg.tfm (.of s) y r⟩
 |dtr kvs=>obtain ⟨es,e,k,r⟩:=h;exact ⟨es,s _ _ e,k,bg.tfm (.of s) y r⟩
theorem gB.some {c:aw}{a:Addr}(h:gB K m H c a):∃o,H a=some o:=by
 cases c with
 |lst xs=>obtain ⟨vs,e,r⟩:=h;exact ⟨_,e⟩
 |fz xs=>obtain ⟨o,vs,e,r⟩:=h;exact ⟨_,e⟩
 |dct kvs=>obtain ⟨es,e,k,r⟩:=h;exact ⟨_,e⟩
 |fzd kvs=>obtain ⟨o,es,e,k,r⟩:=h;exact ⟨_,e⟩
 |dr kvs=>obtain ⟨es,e,k,r⟩:=h;exact ⟨_,e⟩
 |lr xs=>obtain ⟨vs,e,r⟩:=h;exact ⟨_,e⟩
 |dt kvs=>obtain ⟨es,e,k,r⟩:=h;exact ⟨_,e⟩
 |tb P q=>obtain ⟨e,ps,k,r⟩:=h;exact ⟨_,e ▸ k⟩
 |ob c fs=>obtain ⟨C,dx,es,n,e,k,r⟩:=h;exact ⟨_,e⟩
 |tr xs=>obtain ⟨vs,e,r⟩:=h;exact ⟨_,e⟩
 |fzr kvs=>obtain ⟨o,es,e,k,r⟩:=h;exact ⟨_,e⟩
 |dtr kvs=>obtain ⟨es,e,k,r⟩:=h;exact ⟨_,e⟩
theorem aO.same (h:aO K m H μ)(s:∀a o,H a=some o->H' a=some o):aO K m H' μ :=
 ⟨h.nd,h.len,fun i c a e1 e2=>(h.cell i c a e1 e2).same s ⟨[],by simp⟩⟩
theorem aO.mem (h:aO K m H μ){a:Addr}(ha:a∈m):∃o,H a=some o:=by
 obtain ⟨i,hi,e⟩:=za7 ha
 have hi':i < μ.length:=by rw [←h.len];exact hi
 exact (h.cell i μ[i] a (zas hi') (by rw [←e];exact zas hi)).some
theorem aO.fresh (h:aO K m H μ){p:Addr}(hp:H p=none):p∉m:=fun z=>by
 obtain ⟨o,e⟩:=h.mem z;rw [hp] at e;cases e
theorem aO.nil:aO K [] H []:=⟨.nil,rfl,fun i c a e=>by simp at e⟩
theorem bO {p:Addr}{o:HO}(hp:H p=none):∀a u,H a=some u->upd H p o a=some u:=fun a u e=>by
 unfold upd;rw [if_neg (fun z=>by rw [z,hp] at e;cases e)];exact e
theorem nh {p:Addr}{o:HO}{a:Addr}(h:upd H p o a=none):H a=none:=by
 unfold upd at h;split at h
 ·cases h
 ·exact h
theorem bf {p:Addr}{o:HO}:upd H p o p=some o:=by unfold upd;rw [if_pos rfl]
theorem cQ.new {p:Addr}{o:HO}(hp:H p=none):cQ m H m (upd H p o) :=
 ⟨⟨[],by simp⟩,.of (bO hp),fun a u e _=>bO hp a u e,fun _ h=>nh h⟩
theorem cQ.newH {p:Addr}{o:HO}(hp:H p=none):cQ m H (m++[p]) (upd H p o) :=
 ⟨⟨[p],rfl,fun a h=>by rw [zaE.mp h];exact hp⟩,.of (bO hp),fun a u e _=>bO hp a u e,fun _ h=>nh h⟩
theorem aO.newH {p:Addr}{o:HO}{c:aw}(h:aO K m H μ)(hp:H p=none)(hc:gB K (m++[p]) (upd H p o) c p):aO K (m++[p]) (upd H p o) (μ++[c]):=by
 refine ⟨?_,by simp [h.len],fun i c' a e1 e2=>?_⟩
 ·refine zbE.mpr ⟨h.nd,by simp,fun a ha b hb=>?_⟩
  rw [zaE.mp hb];rintro rfl;exact h.fresh hp ha
 ·by_cases hi:i < m.length
  ·rw [zai hi] at e2
   rw [zai (by rw [←h.len];exact hi)] at e1;exact (h.cell i c' a e1 e2).same (bO hp) ⟨[p],rfl⟩
  ·rw [zaO (by omega)] at e2
   rw [zaO (by have:=h.len;omega)] at e1;have hl:=h.len
   have:i - m.length=0:=by
    cases q:i - m.length with
    |zero=>rfl
    |succ k=>rw [q] at e2;simp at e2
   have e3:i - μ.length=0:=by omega
   rw [this] at e2;rw [e3] at e1;simp at e1 e2;subst e1 e2;exact hc
theorem cQ.put {a:Addr}{o o':HO}(ha:a∈m)(e:H a=some o)(ho:∀xs,o≠.tup xs)(hf:∀x u,o≠.frz x u):cQ m H m (upd H a o'):=by
 have ne:∀b u,H b=some u->u≠o->b≠a:=fun b u q n z=>by rw [z,e] at q;exact n (Option.some.inj q).symm
 refine ⟨⟨[],by simp⟩,⟨fun b xs q=>?_,fun b x u q=>?_⟩,fun b u q n=>?_,fun b h=>nh h⟩
 ·unfold upd;rw [if_neg (ne b _ q fun z=>ho xs z.symm)];exact q
 ·unfold upd;rw [if_neg (ne b _ q fun z=>hf x u z.symm)];exact q
 ·unfold upd;rw [if_neg (fun z:b=a=>n (by rw [z];exact ha))];exact q
theorem aO.put {n:Nat}{a:Addr}{o o':HO}{c:aw}(h:aO K m H μ)(hn:m[n]?=some a)(e:H a=some o)(ho:∀xs,o≠.tup xs)(hf:∀x u,o≠.frz x u)(hc:gB K m (upd H a o') c a):aO K m (upd H a o') (μ.set n c):=by
 have ha:a∈m:=zaH hn;have x:cQ m H m (upd H a o'):=.put ha e ho hf;refine ⟨h.nd,by simp [h.len],fun i c' b e1 e2=>?_⟩
 by_cases hi:i=n
 ·subst hi
  rw [hn] at e2;cases e2;rw [zav (by have:=(zau.mp hn).1;have:=h.len;omega)] at e1;cases e1;exact hc
 ·rw [zag (Ne.symm hi)] at e1
  have nb:b≠a:=by
   rintro rfl;obtain ⟨h1,q1⟩:=zau.mp e2;obtain ⟨h2,q2⟩:=zau.mp hn;exact hi ((zbH h.nd).mp (q1.trans q2.symm))
  have at':∀u,H b=some u->upd H a o' b=some u:=fun u q=>by unfold upd;rw [if_neg nb];exact q
  have z:=h.cell i c' b e1 e2
  cases c' with
  |lst xs=>obtain ⟨vs,e,r⟩:=z;exact ⟨vs,at' _ e,RelDs.tf x.tf _ _ r⟩
  |fz xs=>obtain ⟨o,vs,e,r⟩:=z;exact ⟨o,vs,at' _ e,RelDs.tf x.tf _ _ r⟩
  |dct kvs=>obtain ⟨es,e,k,r⟩:=z;exact ⟨es,at' _ e,k,RelDs.tf x.tf _ _ r⟩
  |fzd kvs=>obtain ⟨o,es,e,k,r⟩:=z;exact ⟨o,es,at' _ e,k,RelDs.tf x.tf _ _ r⟩
  |dr kvs=>obtain ⟨es,e,k,r⟩:=z;exact ⟨es,at' _ e,k,bg.tfm x.tf ⟨[],by simp⟩ r⟩
  |lr xs=>obtain ⟨vs,e,r⟩:=z;exact ⟨vs,at' _ e,bg.tfm x.tf ⟨[],by simp⟩ r⟩
  |dt kvs=>obtain ⟨es,e,k,r⟩:=z;exact ⟨es,at' _ e,k,RelDs.tf x.tf _ _ r⟩
  |tb P q=>obtain ⟨e,ps,k,r⟩:=z;subst e;exact ⟨rfl,ps,at' _ k,r.mono x.tf.frz⟩
  |ob c fs=>obtain ⟨C,dx,es,n,e,k,r⟩:=z;exact ⟨C,dx,es,n,at' _ e,k,bg.tfm x.tf ⟨[],by simp⟩ r⟩
  |tr xs=>obtain ⟨vs,e,r⟩:=z;exact ⟨vs,at' _ e,bg.tfm x.tf ⟨[],by simp⟩ r⟩
  |fzr kvs=>obtain ⟨o,es,e,k,r⟩:=z;exact ⟨o,es,at' _ e,k,bg.tfm x.tf ⟨[],by simp⟩ r⟩
  |dtr kvs=>obtain ⟨es,e,k,r⟩:=z;exact ⟨es,at' _ e,k,bg.tfm x.tf ⟨[],by simp⟩ r⟩
end
def az (K:zac)(f:FE):TE:=fun σ H Q=>∃ρ μ m d μ',dJ K m H ρ σ/\aO K m H μ/\f ρ μ=some (d,μ') /\
 ∀v H' m',cQ m H m' H'->aO K m' H' μ'->ar K m' H' d v->Q v H'
def fI (K:zac)(f:FT):TT:=fun σ H Q=>∃ρ μ m b μ',dJ K m H ρ σ/\aO K m H μ/\f ρ μ=some (b,μ') /\
 ∀H' m',cQ m H m' H'->aO K m' H' μ'->Q b H'
def iY (K:zac)(f:FA):TA:=fun σ H Q=>∃ρ μ m ds μ',dJ K m H ρ σ/\aO K m H μ/\f ρ μ=some (ds,μ') /\
 ∀vs H' m',cQ m H m' H'->aO K m' H' μ'->bg K m' H' ds vs->Q vs H'
def eJ.of (K:zac)(m:Tf)(H:Hp)(D:eJ):mx->Prop
 |.nx ρ μ=>∀σ H' m',cQ m H m' H'->aO K m' H' μ->dJ K m' H' ρ σ->D.nx σ H'
 |.bk ρ μ=>∀σ H' m',cQ m H m' H'->aO K m' H' μ->dJ K m' H' ρ σ->D.bk σ H'
 |.ct ρ μ=>∀σ H' m',cQ m H m' H'->aO K m' H' μ->dJ K m' H' ρ σ->D.ct σ H'
 |.rt d μ=>∀v H' m',cQ m H m' H'->aO K m' H' μ->ar K m' H' d v->D.rt v H'
def gC (K:zac)(f:FS):TS:=fun D σ H=>∃ρ μ m out,dJ K m H ρ σ/\aO K m H μ/\f ρ μ=some out/\eJ.of K m H D out
def ad (i:Nat):FE:=fun ρ μ=>match ρ[i]? with|some (some d)=>some (d,μ)|_=>none
def fK (d:D):FE:=fun _ μ=>some (.v d,μ)
def ax (g:R->R->ac->Option (R×ac))(fa fb:FE):FE:=fun ρ μ=>(fa ρ μ).bind fun a=>(fb ρ a.2).bind fun b=>g a.1 b.1 b.2
def mn (g:R->ac->Option (R×ac))(fa:FE):FE:=fun ρ μ=>(fa ρ μ).bind fun a=>g a.1 a.2
def oW (K:zac)(g:R->R->ac->Option (R×ac))(r:R2):Prop :=
 ∀m H μ x y d μ' v u Q,aO K m H μ->ar K m H x v->ar K m H y u->g x y μ=some (d,μ')->(∀w H' m',cQ m H m' H'->aO K m' H' μ'->ar K m' H' d w->Q w H')->r v u H Q
def Rq (K:zac)(g:R->ac->Option (R×ac))(r:V->Hp->VK->Prop):Prop :=
 ∀m H μ x d μ' v Q,aO K m H μ->ar K m H x v->g x μ=some (d,μ')->(∀w H' m',cQ m H m' H'->aO K m' H' μ'->ar K m' H' d w->Q w H')->r v H Q
def Cy (K:zac)(g:List R->ac->Option (R×ac))(r:List V->Hp->VK->Prop):Prop :=
 ∀m H μ xs d μ' vs Q,aO K m H μ->bg K m H xs vs->g xs μ=some (d,μ')->(∀w H' m',cQ m H m' H'->aO K m' H' μ'->ar K m' H' d w->Q w H')->r vs H Q
def ai:FA:=fun _ μ=>some ([],μ)
def af (fa:FE)(fr:FA):FA:=fun ρ μ=>(fa ρ μ).bind fun a=>(fr ρ a.2).bind fun r=>some (a.1::r.1,r.2)
def eL (g:List R->ac->Option (R×ac))(fa:FA):FE:=fun ρ μ=>(fa ρ μ).bind fun a=>g a.1 a.2
section
variable  {K:zac}{σ:St}{H:Hp}{Q:VK}
theorem Hb {i:Nat}(h:az K (ad i) σ H Q):Ko i σ H Q:=by
 obtain ⟨ρ,μ,m,d,μ',hl,hs,e,k⟩:=h;unfold ad at e;split at e
 ·rename_i d' q
  cases e;obtain ⟨v,q1,q2⟩:=hl.2 i _ q;exact ⟨v,q1,k v H m .refl hs q2⟩
 ·cases e
theorem kW {d:D}{v:V}(hv:∀m H,ar K m H (.v d) v)(h:az K (fK d) σ H Q):tC v σ H Q:=by
 obtain ⟨ρ,μ,m,d',μ',hl,hs,e,k⟩:=h;cases e;exact k v H m .refl hs (hv _ _)
theorem iL {g r fa fb}(hg:oW K g r)(h:az K (ax g fa fb) σ H Q):JL r (az K fa) (az K fb) σ H Q:=by
 obtain ⟨ρ,μ,m,d,μ',hl,hs,e,k⟩:=h;obtain ⟨⟨x,μ1⟩,e1,e⟩:=zaa.mp e;obtain ⟨⟨y,μ2⟩,e2,e⟩:=zaa.mp e;refine ⟨ρ,μ,m,x,μ1,hl,hs,e1,fun v H1 m1 x1 s1 r1=>?_⟩;refine ⟨ρ,μ1,m1,y,μ2,hl.ext x1,s1,e2,fun u H2 m2 x2 s2 r2=>?_⟩;exact hg m2 H2 μ2 x y d μ' v u Q s2 (r1.ext x2) r2 e fun w H3 m3 x3 s3 r3=>k w H3 m3 ((x1.trans x2).trans x3) s3 r3
theorem KC {g r fa}(hg:Rq K g r)(h:az K (mn g fa) σ H Q):QE r (az K fa) σ H Q:=by
 obtain ⟨ρ,μ,m,d,μ',hl,hs,e,k⟩:=h;obtain ⟨⟨x,μ1⟩,e1,e⟩:=zaa.mp e;refine ⟨ρ,μ,m,x,μ1,hl,hs,e1,fun v H1 m1 x1 s1 r1=>?_⟩;exact hg m1 H1 μ1 x d μ' v Q s1 r1 e fun w H3 m3 x3 s3 r3=>k w H3 m3 (x1.trans x3) s3 r3
theorem Hk {Q:List V->Hp->Prop}(h:iY K ai σ H Q):rW σ H Q:=by
 obtain ⟨ρ,μ,m,ds,μ',hl,hs,e,k⟩:=h;cases e;exact k [] H m .refl hs rfl
theorem Da {fa fr}{Q:List V->Hp->Prop}(h:iY K (af fa fr) σ H Q):kO (az K fa) (iY K fr) σ H Q:=by
 obtain ⟨ρ,μ,m,ds,μ',hl,hs,e,k⟩:=h;obtain ⟨⟨x,μ1⟩,e1,e⟩:=zaa.mp e;obtain ⟨⟨xs,μ2⟩,e2,e⟩:=zaa.mp e;cases e;refine ⟨ρ,μ,m,x,μ1,hl,hs,e1,fun v H1 m1 x1 s1 r1=>?_⟩;refine ⟨ρ,μ1,m1,xs,μ2,hl.ext x1,s1,e2,fun vs H2 m2 x2 s2 r2=>?_⟩;exact k (v::vs) H2 m2 (x1.trans x2) s2 ⟨v,vs,rfl,r1.ext x2,r2⟩
theorem kX {g r fa}(hg:Cy K g r)(h:az K (eL g fa) σ H Q):GU r (iY K fa) σ H Q:=by
 obtain ⟨ρ,μ,m,d,μ',hl,hs,e,k⟩:=h;obtain ⟨⟨xs,μ1⟩,e1,e⟩:=zaa.mp e;refine ⟨ρ,μ,m,xs,μ1,hl,hs,e1,fun vs H1 m1 x1 s1 r1=>?_⟩;exact hg m1 H1 μ1 xs d μ' vs Q s1 r1 e fun w H3 m3 x3 s3 r3=>k w H3 m3 (x1.trans x3) s3 r3
end
def fB (fa:FE):FT:=fun ρ μ=>(fa ρ μ).bind fun a=>match a.1 with|.v (.bl b)=>some (b,a.2)|_=>none
def yP:R->ac->Option Bool
 |.v .non,_=>some false
 |.v (.bl b),_=>some b
 |.v (.int i),_=>some (i != 0)
 |.v (.str x),_=>if x.length<=sizeLine then some ((x.length:Int) != 0) else none
 |.v (.tup xs),_=>some (!xs.isEmpty)
 |.v (.fl xs),_=>some (!xs.isEmpty)
 |.v (.fd _ _),_=>none
 |.v (.key _),_=>none
 |.s _ _,_=>none
 |.x _,_=>none
 |.f _ _,_=>none
 |.p n,μ=>match μ[n]? with|some (.lst xs)=>some (!xs.isEmpty)|some (.fz xs)=>some (!xs.isEmpty)|some (.dct kvs)=>some (!kvs.isEmpty)|_=>none
def eZ (fa:FE):FT:=fun ρ μ=>(fa ρ μ).bind fun a=>(yP a.1 a.2).bind fun b=>some (b,a.2)
def rX (t u:FT):FT:=fun ρ μ=>(t ρ μ).bind fun c=>if c.1=true then u ρ c.2 else some (false,c.2)
def gE (t u:FT):FT:=fun ρ μ=>(t ρ μ).bind fun c=>if c.1=true then some (true,c.2) else u ρ c.2
def eM (t:FT):FT:=fun ρ μ=>(t ρ μ).bind fun c=>some (!c.1,c.2)
def qJ (fa fb:FE):FE:=fun ρ μ=>(fa ρ μ).bind fun a=>match a.1 with|.v (.bl c)=>if c=true then fb ρ a.2 else some (.v (.bl false),a.2)|_=>none
def BE (fa:FE):FE:=fun ρ μ=>(fa ρ μ).bind fun a=>match a.1 with|.v (.bl c)=>some (.v (.bl (!c)),a.2)|_=>none
def Jj (t:FT)(fa fb:FE):FE:=fun ρ μ=>(t ρ μ).bind fun c=>if c.1=true then fa ρ c.2 else fb ρ c.2
theorem RelDs.length {K:zac}{H:Hp}:∀{ds:List D} {vs:List V},RelDs K H ds vs->ds.length=vs.length
 |[],_,h=>by simp only [RelDs] at h;subst h;rfl
 |_::_,_,h=>by
  simp only [RelDs] at h;obtain ⟨v,r,rfl,_,h2⟩:=h;simp [RelDs.length h2]
theorem RelDs.empty {K:zac}{H:Hp}{ds:List D}{vs:List V}(h:RelDs K H ds vs):ds.isEmpty=vs.isEmpty:=by
 have:=h.length;cases ds <;> cases vs <;> simp_all
section
variable  {K:zac}{σ:St}{H:Hp}{Q:VK}{B:Bool->Hp->Prop}
theorem N8 {fa}(h:fI K (fB fa) σ H B):tB (az K fa) σ H B:=by
 obtain ⟨ρ,μ,m,d,μ',hl,hs,e,k⟩:=h;obtain ⟨⟨x,μ1⟩,e1,e⟩:=zaa.mp e;split at e
 ·rename_i b q
  cases e;subst q;exact ⟨ρ,μ,m,_,μ1,hl,hs,e1,fun v H1 m1 x1 s1 r1=>⟨_,by simpa only [ar,am] using r1,k H1 m1 x1 s1⟩⟩
 ·cases e
theorem wo {fa}(h:fI K (fB fa) σ H B):Fv (az K fa) σ H B:=N8 h
theorem uC {m:Tf}{μ:ac}{x:R}{b:Bool}{v:V}(s:aO K m H μ)(r:ar K m H x v)(e:yP x μ=some b):ED K v H b:=by
 cases x with
 |v d =>
  cases d with
  |non=>cases e;cases r;rfl
  |bl c=>cases e;simp only [ar,am] at r;subst r;rfl
  |int i=>cases e;simp only [ar,am] at r;subst r;rfl
  |str x =>
   simp only [ar,am] at r;subst r;simp only [yP] at e;split at e
   ·rename_i z;cases e;exact ⟨z,rfl⟩
   ·cases e
  |tup xs =>
   cases e;simp only [ar,am] at r;obtain ⟨a,vs,rfl,q,r⟩:=r;exact .inr (.inl ⟨vs,q,by rw [r.empty]⟩)
  |fl xs =>
   cases e;simp only [ar,am] at r;obtain ⟨a,vs,rfl,q,r⟩:=r;exact .inl ⟨vs,q.sq,by rw [r.empty]⟩
  |fd ks ds=>cases e
  |key ks=>cases e
 |s b xs=>cases e
 |x _=>cases e
 |f _ _=>cases e
 |p n =>
  obtain ⟨a,rfl,ha⟩:=r;simp only [yP] at e;split at e
  ·rename_i xs q
   cases e;obtain ⟨vs,e,r⟩:=s.cell n _ a q ha;exact .inl ⟨vs,.inl (.inl e),by rw [r.empty]⟩
  ·rename_i xs q
   cases e;obtain ⟨o,vs,e,r⟩:=s.cell n _ a q ha;exact .inl ⟨vs,.inl (.inr ⟨o,e⟩),by rw [r.empty]⟩
  ·rename_i kvs q
   cases e;obtain ⟨es,e,k,r⟩:=s.cell n _ a q ha;refine .inr (.inr ⟨es,e,?_⟩);have:=congrArg List.length k;cases es <;> cases kvs <;> simp_all
  ·cases e
theorem He {fa}(h:fI K (eZ fa) σ H B):(fun σ H (Q:Bool->Hp->Prop)=>az K fa σ H fun x H1=>∃k,ED K x H1 k/\Q k H1) σ H B:=by
 obtain ⟨ρ,μ,m,d,μ',hl,hs,e,k⟩:=h;obtain ⟨⟨x,μ1⟩,e1,e⟩:=zaa.mp e;obtain ⟨b,e2,e⟩:=zaa.mp e;cases e;exact ⟨ρ,μ,m,x,_,hl,hs,e1,fun v H1 m1 x1 s1 r1=>⟨_,uC s1 r1 e2,k H1 m1 x1 s1⟩⟩
theorem CZ {t u}(h:fI K (rX t u) σ H B):Kw (fI K t) (fI K u) σ H B:=by
 obtain ⟨ρ,μ,m,d,μ',hl,hs,e,k⟩:=h;obtain ⟨⟨c,μ1⟩,e1,e⟩:=zaa.mp e;refine ⟨ρ,μ,m,c,μ1,hl,hs,e1,fun H1 m1 x1 s1=>?_⟩
 cases c with
 |true=>exact ⟨ρ,μ1,m1,d,μ',hl.ext x1,s1,e,fun H2 m2 x2 s2=>k H2 m2 (x1.trans x2) s2⟩
 |false=>cases e;exact k H1 m1 x1 s1
theorem Hf {t u}(h:fI K (gE t u) σ H B):QG (fI K t) (fI K u) σ H B:=by
 obtain ⟨ρ,μ,m,d,μ',hl,hs,e,k⟩:=h;obtain ⟨⟨c,μ1⟩,e1,e⟩:=zaa.mp e;refine ⟨ρ,μ,m,c,μ1,hl,hs,e1,fun H1 m1 x1 s1=>?_⟩
 cases c with
 |false=>exact ⟨ρ,μ1,m1,d,μ',hl.ext x1,s1,e,fun H2 m2 x2 s2=>k H2 m2 (x1.trans x2) s2⟩
 |true=>cases e;exact k H1 m1 x1 s1
theorem CY {t}(h:fI K (eM t) σ H B):Kr (fI K t) σ H B:=by
 obtain ⟨ρ,μ,m,d,μ',hl,hs,e,k⟩:=h;obtain ⟨⟨c,μ1⟩,e1,e⟩:=zaa.mp e;cases e;exact ⟨ρ,μ,m,c,μ1,hl,hs,e1,fun H1 m1 x1 s1=>k H1 m1 x1 s1⟩
theorem HG {fa fb}(h:az K (qJ fa fb) σ H Q):FH (az K fa) (az K fb) σ H Q:=by
 obtain ⟨ρ,μ,m,d,μ',hl,hs,e,k⟩:=h;obtain ⟨⟨x,μ1⟩,e1,e⟩:=zaa.mp e;split at e
 ·rename_i c q
  subst q;refine ⟨ρ,μ,m,_,μ1,hl,hs,e1,fun v H1 m1 x1 s1 r1=>⟨c,by simpa only [ar,am] using r1,?_⟩⟩
  cases c with
  |true=>exact ⟨ρ,μ1,m1,d,μ',hl.ext x1,s1,e,fun w H2 m2 x2 s2 r2=>k w H2 m2 (x1.trans x2) s2 r2⟩
  |false=>cases e;exact k _ H1 m1 x1 s1 (by simp only [ar,am])
 ·cases e
theorem Hj {fa}(h:az K (BE fa) σ H Q):FB (az K fa) σ H Q:=by
 obtain ⟨ρ,μ,m,d,μ',hl,hs,e,k⟩:=h;obtain ⟨⟨x,μ1⟩,e1,e⟩:=zaa.mp e;split at e
 ·rename_i c q
  cases e;subst q;exact ⟨ρ,μ,m,_,μ1,hl,hs,e1,fun v H1 m1 x1 s1 r1=>⟨c,by simpa only [ar,am] using r1,k _ H1 m1 x1 s1 (by simp only [ar,am])⟩⟩
 ·cases e
theorem KH {t fa fb}(h:az K (Jj t fa fb) σ H Q):QH (fI K t) (az K fa) (az K fb) σ H Q:=by
 obtain ⟨ρ,μ,m,d,μ',hl,hs,e,k⟩:=h;obtain ⟨⟨c,μ1⟩,e1,e⟩:=zaa.mp e;refine ⟨ρ,μ,m,c,μ1,hl,hs,e1,fun H1 m1 x1 s1=>?_⟩
 cases c with
 |true=>exact ⟨ρ,μ1,m1,d,μ',hl.ext x1,s1,e,fun w H2 m2 x2 s2 r2=>k w H2 m2 (x1.trans x2) s2 r2⟩
 |false=>exact ⟨ρ,μ1,m1,d,μ',hl.ext x1,s1,e,fun w H2 m2 x2 s2 r2=>k w H2 m2 (x1.trans x2) s2 r2⟩
end
def vals:List R->Option (List D)
 |[]=>some []
 |.v d::r=>(vals r).bind fun ds=>some (d::ds)
 |.p _::_=>none
 |.s _ _::_=>none
 |.x _::_=>none
 |.f _ _::_=>none
theorem kI {K:zac}{m:Tf}{H:Hp}:∀{rs:List R} {ds:List D} {vs:List V},vals rs=some ds->bg K m H rs vs->RelDs K H ds vs
 |[],_,_,e,h=>by cases e;simp only [RelDs];exact h
 |.v d::r,_,_,e,⟨v,vs,rfl,h1,h2⟩=>by
  obtain ⟨ds,e1,e⟩:=zaa.mp e;cases e;simp only [RelDs];exact ⟨v,vs,rfl,h1,kI e1 h2⟩
 |.p _::_,_,_,e,_=>by cases e
 |.s _ _::_,_,_,e,_=>by cases e
 |.x _::_,_,_,e,_=>by cases e
 |.f _ _::_,_,_,e,_=>by cases e
def cW (fa:FA):FE:=fun ρ μ=>(fa ρ μ).bind fun a=>(vals a.1).bind fun ds=>if ds.length<=sizeLine then some (.v (.tup ds),a.2) else none
def du (fa:FA):FE:=fun ρ μ=>(fa ρ μ).bind fun a=>(vals a.1).bind fun ds=>if ds.length<=sizeLine then some (.p a.2.length,a.2++[.lst ds]) else none
section
variable  {K:zac}{m:Tf}{σ:St}{H:Hp}{Q:VK}{μ:ac}
theorem lc {ds:List D}{vs:List V}{p:Addr}(s:aO K m H μ)(r:RelDs K H ds vs)(hp:H p=none):cQ m H m (upd H p (.tup vs))/\aO K m (upd H p (.tup vs)) μ/\ar K m (upd H p (.tup vs)) (.v (.tup ds)) (.ref p):=by
 refine ⟨.new hp,s.same (bO hp),?_⟩;simp only [ar,am];exact ⟨p,vs,rfl,.inl (.inl bf),RelDs.tf (.of (bO hp)) _ _ r⟩
theorem et {ds:List D}{vs:List V}{p:Addr}(s:aO K m H μ)(r:RelDs K H ds vs)(hp:H p=none):cQ m H (m++[p]) (upd H p (.lst vs))/\aO K (m++[p]) (upd H p (.lst vs)) (μ++[.lst ds])/\ar K (m++[p]) (upd H p (.lst vs)) (.p μ.length) (.ref p):=by
 refine ⟨.newH hp,s.newH hp ⟨vs,bf,RelDs.tf (.of (bO hp)) _ _ r⟩,p,rfl,?_⟩;rw [←s.len];simp
theorem Hc {fa}(h:az K (cW fa) σ H Q):GR (iY K fa) σ H Q:=by
 obtain ⟨ρ,μ,m,d,μ',hl,hs,e,k⟩:=h;obtain ⟨⟨xs,μ1⟩,e1,e⟩:=zaa.mp e;obtain ⟨ds,e2,e⟩:=zaa.mp e;split at e
 ·rename_i z
  cases e;refine ⟨ρ,μ,m,xs,_,hl,hs,e1,fun vs H1 m1 x1 s1 r1=>?_⟩;have r2:=kI e2 r1;refine ⟨by rw [←r2.length];exact z,fun p hp=>?_⟩;obtain ⟨a,b,c⟩:=lc s1 r2 hp;exact k _ _ _ (x1.trans a) b c
 ·cases e
theorem Hn {fa}(h:az K (du fa) σ H Q):GS (iY K fa) σ H Q:=by
 obtain ⟨ρ,μ,m,d,μ',hl,hs,e,k⟩:=h;obtain ⟨⟨xs,μ1⟩,e1,e⟩:=zaa.mp e;obtain ⟨ds,e2,e⟩:=zaa.mp e;split at e
 ·rename_i z
  cases e;refine ⟨ρ,μ,m,xs,_,hl,hs,e1,fun vs H1 m1 x1 s1 r1=>?_⟩;have r2:=kI e2 r1;refine ⟨by rw [←r2.length];exact z,fun p hp=>?_⟩;obtain ⟨a,b,c⟩:=et s1 r2 hp;exact k _ _ _ (x1.trans a) b c
 ·cases e
end
def bC:FS:=fun ρ μ=>some (.nx ρ μ)
def aq (a b:FS):FS:=fun ρ μ=>(a ρ μ).bind fun o=>match o with|.nx ρ' μ'=>b ρ' μ'|o=>some o
def ee (f:FE):FS:=fun ρ μ=>(f ρ μ).bind fun a=>some (.nx ρ a.2)
def bV (f:FE):FS:=fun ρ μ=>(f ρ μ).bind fun a=>some (.rt a.1 a.2)
def ju (t:FT)(a b:FS):FS:=fun ρ μ=>(t ρ μ).bind fun c=>if c.1=true then a ρ c.2 else b ρ c.2
def aI (i:Nat)(f:FE):FS:=fun ρ μ=>(f ρ μ).bind fun a=>some (.nx (ρ.set i (some a.1)) a.2)
section
variable  {K:zac}{m m' m1:Tf}{σ:St}{H H' H1:Hp}{D:eJ}{μ:ac}{ρ:Lo}
theorem eJ.of_ext {o:mx}(x:cQ m H m1 H1)(h:eJ.of K m H D o):eJ.of K m1 H1 D o:=by
 cases o with
 |nx ρ μ=>exact fun σ H' m' y=>h σ H' m' (x.trans y)
 |bk ρ μ=>exact fun σ H' m' y=>h σ H' m' (x.trans y)
 |ct ρ μ=>exact fun σ H' m' y=>h σ H' m' (x.trans y)
 |rt d μ=>exact fun σ H' m' y=>h σ H' m' (x.trans y)
theorem dJ.set {d:R}{v:V}(h:dJ K m H ρ σ)(r:ar K m H d v)(i:Nat):dJ K m H (ρ.set i (some d)) (σ.set i (some v)):=by
 refine ⟨by simp [h.1],fun j d' e=>?_⟩
 by_cases hj:j=i
 ·subst hj
  by_cases hi:j < ρ.length
  ·rw [zav hi] at e
   cases e;exact ⟨v,zav (by rw [←h.1];exact hi),r⟩
  ·rw [zci (by simp;omega)] at e
   cases e
 ·rw [zag (Ne.symm hj)] at e
  obtain ⟨u,q1,q2⟩:=h.2 j d' e;exact ⟨u,by rw [zag (Ne.symm hj)];exact q1,q2⟩
theorem C4 (h:gC K bC D σ H):FC D σ H:=by
 obtain ⟨ρ,μ,m,o,hl,hs,e,k⟩:=h;cases e;exact k σ H m .refl hs hl
theorem Hg {a b}(h:gC K (aq a b) D σ H):Kp (gC K a) (gC K b) D σ H:=by
 obtain ⟨ρ,μ,m,o,hl,hs,e,k⟩:=h;obtain ⟨o1,e1,e⟩:=zaa.mp e;refine ⟨ρ,μ,m,o1,hl,hs,e1,?_⟩
 cases o1 with
 |nx ρ1 μ1=>exact fun σ1 H1 m1 x1 s1 l1=>⟨ρ1,μ1,m1,o,l1,s1,e,eJ.of_ext x1 k⟩
 |bk ρ1 μ1=>cases e;exact k
 |ct ρ1 μ1=>cases e;exact k
 |rt d μ1=>cases e;exact k
theorem C8 {f}(h:gC K (ee f) D σ H):FD (az K f) D σ H:=by
 obtain ⟨ρ,μ,m,o,hl,hs,e,k⟩:=h;obtain ⟨⟨x,μ1⟩,e1,e⟩:=zaa.mp e;cases e;exact ⟨ρ,μ,m,x,μ1,hl,hs,e1,fun v H1 m1 x1 s1 r1=>k σ H1 m1 x1 s1 (hl.ext x1)⟩
theorem Hh {f}(h:gC K (bV f) D σ H):Kq (az K f) D σ H:=by
 obtain ⟨ρ,μ,m,o,hl,hs,e,k⟩:=h;obtain ⟨⟨x,μ1⟩,e1,e⟩:=zaa.mp e;cases e;exact ⟨ρ,μ,m,x,μ1,hl,hs,e1,k⟩
theorem Hq {t a b}(h:gC K (ju t a b) D σ H):Ks (fI K t) (gC K a) (gC K b) D σ H:=by
 obtain ⟨ρ,μ,m,o,hl,hs,e,k⟩:=h;obtain ⟨⟨c,μ1⟩,e1,e⟩:=zaa.mp e;refine ⟨ρ,μ,m,c,μ1,hl,hs,e1,fun H1 m1 x1 s1=>?_⟩
 cases c with
 |true=>exact ⟨ρ,μ1,m1,o,hl.ext x1,s1,e,eJ.of_ext x1 k⟩
 |false=>exact ⟨ρ,μ1,m1,o,hl.ext x1,s1,e,eJ.of_ext x1 k⟩
theorem zV {i f}(h:gC K (aI i f) D σ H):zy (az K f) (pM i) D σ H:=by
 obtain ⟨ρ,μ,m,o,hl,hs,e,k⟩:=h;obtain ⟨⟨x,μ1⟩,e1,e⟩:=zaa.mp e;cases e;exact ⟨ρ,μ,m,x,μ1,hl,hs,e1,fun v H1 m1 x1 s1 r1=>k _ H1 m1 x1 s1 ((hl.ext x1).set r1 i)⟩
end
abbrev FG:=R->Lo->ac->Option (Lo×ac)
def oE (K:zac)(g:FG):TG:=fun v σ H Q=>∃ρ μ m d ρ' μ',dJ K m H ρ σ/\aO K m H μ/\ar K m H d v/\g d ρ μ=some (ρ',μ') /\
 ∀σ' H' m',cQ m H m' H'->aO K m' H' μ'->dJ K m' H' ρ' σ'->Q σ' H'
abbrev Gz:=List R->Lo->ac->Option (Lo×ac)
def sm (K:zac)(g:Gz):Ct:=fun vs σ H Q=>∃ρ μ m ds ρ' μ',dJ K m H ρ σ/\aO K m H μ/\bg K m H ds vs/\g ds ρ μ=some (ρ',μ') /\
 ∀σ' H' m',cQ m H m' H'->aO K m' H' μ'->dJ K m' H' ρ' σ'->Q σ' H'
def aV (i:Nat):FG:=fun d ρ μ=>some (ρ.set i (some d),μ)
def bn:Gz:=fun ds ρ μ=>match ds with|[]=>some (ρ,μ)|_=>none
def ap (g:FG)(r:Gz):Gz:=fun ds ρ μ=>match ds with|[]=>none|d::ds=>(g d ρ μ).bind fun a=>r ds a.1 a.2
def ie (n:Nat)(g:Gz):FG:=fun d ρ μ=>match d with|.v (.tup xs)=>if xs.length=n then g (xs.map .v) ρ μ else none|_=>none
def qq (f:FE)(g:FG):FS:=fun ρ μ=>(f ρ μ).bind fun a=>(g a.1 ρ a.2).bind fun b=>some (.nx b.1 b.2)
section
variable  {K:zac}{m m' m1:Tf}{σ:St}{H H' H1:Hp}{D:eJ}{μ:ac}{ρ:Lo}{v:V}{Q:St->Hp->Prop}
theorem Hw {i}(h:oE K (aV i) v σ H Q):pM i v σ H Q:=by
 obtain ⟨ρ,μ,m,d,ρ',μ',hl,hs,r,e,k⟩:=h;cases e;exact k _ H m .refl hs (hl.set r i)
theorem zY {vs}(h:sm K bn vs σ H Q):LS vs σ H Q:=by
 obtain ⟨ρ,μ,m,ds,ρ',μ',hl,hs,r,e,k⟩:=h
 cases ds with
 |nil=>cases e;exact ⟨r,k σ H m .refl hs hl⟩
 |cons d ds=>cases e
theorem xL {g r vs}(h:sm K (ap g r) vs σ H Q):Ge (oE K g) (sm K r) vs σ H Q:=by
 obtain ⟨ρ,μ,m,ds,ρ',μ',hl,hs,rr,e,k⟩:=h
 cases ds with
 |nil=>cases e
 |cons d ds =>
  obtain ⟨v,vr,rfl,r1,r2⟩:=rr;obtain ⟨⟨ρ1,μ1⟩,e1,e⟩:=zaa.mp e;refine ⟨v,vr,rfl,ρ,μ,m,d,ρ1,μ1,hl,hs,r1,e1,fun σ1 H1 m1 x1 s1 l1=>?_⟩;exact ⟨ρ1,μ1,m1,ds,ρ',μ',l1,s1,r2.ext x1,e,fun σ2 H2 m2 x2 s2 l2=>k σ2 H2 m2 (x1.trans x2) s2 l2⟩
theorem RelDs.rs:∀{ds:List HW.D} {vs:List V},RelDs K H ds vs->bg K m H (ds.map .v) vs
 |[],_,h=>by simp only [RelDs] at h;exact h
 |d::ds,_,h=>by
  simp only [RelDs] at h;obtain ⟨v,r,rfl,h1,h2⟩:=h;exact ⟨v,r,rfl,h1,RelDs.rs h2⟩
theorem Hv {n g}(h:oE K (ie n g) v σ H Q):LR K n (sm K g) v σ H Q:=by
 obtain ⟨ρ,μ,m,d,ρ',μ',hl,hs,r,e,k⟩:=h;unfold ie at e;split at e
 ·rename_i xs
  split at e
  ·rename_i hn
   simp only [ar,am] at r;obtain ⟨a,vs,rfl,q,rr⟩:=r;exact ⟨a,vs,rfl,q,by rw [←rr.length];exact hn,ρ,μ,m,_,ρ',μ',hl,hs,rr.rs,e,k⟩
  ·cases e
 ·cases e
theorem HF {f g}(h:gC K (qq f g) D σ H):zy (az K f) (oE K g) D σ H:=by
 obtain ⟨ρ,μ,m,o,hl,hs,e,k⟩:=h;obtain ⟨⟨x,μ1⟩,e1,e⟩:=zaa.mp e;obtain ⟨⟨ρ2,μ2⟩,e2,e⟩:=zaa.mp e;cases e;exact ⟨ρ,μ,m,x,μ1,hl,hs,e1,fun v H1 m1 x1 s1 r1=>⟨ρ,μ1,m1,x,ρ2,μ2,hl.ext x1,s1,r1,e2,fun σ2 H2 m2 x2 s2 l2=>k σ2 H2 m2 (x1.trans x2) s2 l2⟩⟩
end
def fS:HO->Prop
 |.lst _=>True
 |.set _ _=>True
 |.dK _=>True
 |_=>False
def MH (t:TE):TE:=fun σ H Q=>t σ H fun v H1=>Q v H1\/∃a u,H1 a=some u/\fS u/\∀o,Q v (upd H1 a (.frz o u))
def Cr:R->ac->Option (D×ac)
 |.v d,μ=>some (d,μ)
 |.s _ _,_=>none
 |.x _,_=>none
 |.f _ _,_=>none
 |.p n,μ=>match μ[n]? with|some (.lst xs)=>some (.fl xs,μ.set n (.fz xs))|some (.fz xs)=>some (.fl xs,μ)|some (.dct kvs)=>some (.fd (kvs.map (·.1)) (kvs.map (·.2)),μ.set n (.fzd kvs))|some (.fzd kvs)=>some (.fd (kvs.map (·.1)) (kvs.map (·.2)),μ)|_=>none
def cq (f:FE):FE:=fun ρ μ=>(f ρ μ).bind fun a=>(Cr a.1 a.2).bind fun b=>some (.v b.1,b.2)
section
variable  {K:zac}{m:Tf}{σ:St}{H:Hp}{μ:ac}{Q:VK}
theorem Gf {x:R}{d:D}{μ':ac}{v:V}{B:Hp->Prop}(hs:aO K m H μ)(r:ar K m H x v)(e:Cr x μ=some (d,μ'))
  (k:∀H',cQ m H m H'->aO K m H' μ'->am K H' d v->B H'):B H\/∃a u,H a=some u/\fS u/\∀o,B (upd H a (.frz o u)):=by
 cases x with
 |v d'=>cases e;exact .inl (k H .refl hs r)
 |s b xs=>cases e
 |x _=>cases e
 |f _ _=>cases e
 |p n =>
  obtain ⟨a,rfl,ha⟩:=r;simp only [Cr] at e;split at e
  ·rename_i xs q
   cases e;obtain ⟨vs,ea,rr⟩:=hs.cell n _ a q ha;refine .inr ⟨a,_,ea,trivial,fun o=>?_⟩;have x:cQ m H m (upd H a (.frz o (.lst vs))):=.put (zaH ha) ea (by simp) (by simp);refine k _ x (hs.put ha ea (by simp) (by simp) ⟨o,vs,bf,RelDs.tf x.tf _ _ rr⟩) ?_;simp only [am];exact ⟨a,vs,rfl,.inl ⟨o,bf⟩,RelDs.tf x.tf _ _ rr⟩
  ·rename_i xs q
   cases e;obtain ⟨o,vs,ea,rr⟩:=hs.cell n _ a q ha;refine .inl (k H .refl hs ?_);simp only [am];exact ⟨a,vs,rfl,.inl ⟨o,ea⟩,rr⟩
  ·rename_i kvs q
   cases e;obtain ⟨es,ea,ke,rr⟩:=hs.cell n _ a q ha;refine .inr ⟨a,_,ea,trivial,fun o=>?_⟩;have x:cQ m H m (upd H a (.frz o (.dK es))):=.put (zaH ha) ea (by simp) (by simp);refine k _ x (hs.put ha ea (by simp) (by simp) ⟨o,es,bf,ke,RelDs.tf x.tf _ _ rr⟩) ?_;simp only [am];exact ⟨a,o,es,rfl,bf,ke,RelDs.tf x.tf _ _ rr⟩
  ·rename_i kvs q
   cases e;obtain ⟨o,es,ea,ke,rr⟩:=hs.cell n _ a q ha;refine .inl (k H .refl hs ?_);simp only [am];exact ⟨a,o,es,rfl,ea,ke,rr⟩
  ·cases e
theorem FP {f}(h:az K (cq f) σ H Q):MH (az K f) σ H Q:=by
 obtain ⟨ρ,μ,m,d,μ',hl,hs,e,k⟩:=h;obtain ⟨⟨x,μ1⟩,e1,e⟩:=zaa.mp e;obtain ⟨⟨d1,μ2⟩,e2,e⟩:=zaa.mp e;cases e;refine ⟨ρ,μ,m,x,μ1,hl,hs,e1,fun v H1 m1 x1 s1 r1=>?_⟩;exact Gf (B:=fun H'=>Q v H') s1 r1 e2 fun H' y s2 r2=>k v H' m1 (x1.trans y) s2 r2
end
abbrev FI:=Lo->ac->Option (List D×ac)
structure Cl (K:zac)(J:It)(xs:List D)(P:Hp->Prop):Prop where
 st:∀H H',TF H H'->P H->P H'
 stop:∀i H,P H->xs.length<=i->J.stop i H
 go:∀(i:Nat) d H,xs[i]?=some d->P H->J.go i H
 yld:∀(i:Nat) d H x H',xs[i]?=some d->P H->J.yld i H x H'->H'=H/\am K H d x
def uh (K:zac)(f:FI):TI:=fun σ H R=>∃ρ μ m xs μ',dJ K m H ρ σ/\aO K m H μ/\f ρ μ=some (xs,μ') /\
 ∀J P H' m',cQ m H m' H'->aO K m' H' μ'->Cl K J xs P->P H'->R J H'
def cb (g:FG)(b:FS):List D->Lo->ac->Option mx
 |[],ρ,μ=>some (.nx ρ μ)
 |x::xs,ρ,μ=>(g (.v x) ρ μ).bind fun a=>(b a.1 a.2).bind fun o=>match o with
  |.nx ρ' μ'=>cb g b xs ρ' μ'
  |.ct ρ' μ'=>cb g b xs ρ' μ'
  |.bk ρ' μ'=>some (.nx ρ' μ')
  |.rt d μ'=>some (.rt d μ')
def dB (i:FI)(g:FG)(b:FS):FS:=fun ρ μ=>(i ρ μ).bind fun a=>cb g b a.1 ρ a.2
section
variable  {K:zac}{m:Tf}{σ:St}{H:Hp}{μ:ac}{D:eJ}
theorem Hy {fi g b}(h:gC K (dB fi g b) D σ H):GT (uh K fi) (oE K g) (gC K b) D σ H:=by
 obtain ⟨ρ,μ,m,o,hl,hs,e,k⟩:=h;obtain ⟨⟨xs,μ1⟩,e1,e⟩:=zaa.mp e;refine ⟨ρ,μ,m,xs,μ1,hl,hs,e1,fun J P H1 m1 x1 s1 ok p1=>?_⟩
 refine ⟨fun i n σ H=>n=xs.length - i/\i<=xs.length/\P H/\∃ρ μ m,dJ K m H ρ σ/\aO K m H μ/\cb g b (xs.drop i) ρ μ=some o/\eJ.of K m H D o,
  ⟨_,rfl,za3 _,p1,ρ,μ1,m1,hl.ext x1,s1,by simpa using e,eJ.of_ext x1 k⟩,?_⟩
 rintro i n σ H ⟨rfl,hi,p,ρ,μ,m,hl,hs,e,k⟩
 by_cases hlt:i < xs.length
 ·have hx:xs[i]?=some xs[i]:=zas hlt
  rw [zbw hlt,cb] at e;obtain ⟨⟨ρ1,μ1⟩,e1,e⟩:=zaa.mp e;obtain ⟨o1,e2,e⟩:=zaa.mp e
  refine .inr ⟨ok.go i _ H hx p,fun σ H=>i+1<=xs.length/\P H/\∃ρ μ m,dJ K m H ρ σ/\aO K m H μ/\cb g b (xs.drop (i+1)) ρ μ=some o/\eJ.of K m H D o,
   fun σ' H' z=>⟨xs.length - (i+1),by omega,rfl,z⟩,fun x H' y=>?_⟩
  obtain ⟨rfl,rx⟩:=ok.yld i _ H x H' hx p y;refine ⟨ρ,μ,m,.v xs[i],ρ1,μ1,hl,hs,rx,e1,fun σ1 H1 m1 x1 s1 l1=>?_⟩;refine ⟨ρ1,μ1,m1,o1,l1,s1,e2,?_⟩
  cases o1 with
  |nx ρ2 μ2=>exact fun σ2 H2 m2 x2 s2 l2=>⟨hlt,ok.st _ _ (x1.trans x2).tf p,ρ2,μ2,m2,l2,s2,e,eJ.of_ext (x1.trans x2) k⟩
  |ct ρ2 μ2=>exact fun σ2 H2 m2 x2 s2 l2=>⟨hlt,ok.st _ _ (x1.trans x2).tf p,ρ2,μ2,m2,l2,s2,e,eJ.of_ext (x1.trans x2) k⟩
  |bk ρ2 μ2=>cases e;exact fun σ2 H2 m2 x2 s2 l2=>k σ2 H2 m2 (x1.trans x2) s2 l2
  |rt d μ2=>cases e;exact fun v H2 m2 x2 s2 l2=>k v H2 m2 (x1.trans x2) s2 l2
 ·have:i=xs.length:=by omega
  subst this;rw [zcE,cb] at e;cases e;exact .inl ⟨ok.stop _ H p (zao _),k σ H m .refl hs hl⟩
end
def bm (f:FE):FI:=fun ρ μ=>(cq f ρ μ).bind fun a=>match a.1 with|.v (.fl xs)=>some (xs,a.2)|.v (.tup xs)=>some (xs,a.2)|_=>none
def Lx (K:zac)(tl:TE):TI:=fun σ H R=>tl σ H fun x H1=>∃a,x=.ref a/\(((∃xs,g9 K H1 a xs)/\R (PM K a) H1)\/((∃xs,gG K H1 a xs)/\R (PL K a) H1))
def vj (f:FE):FI:=fun ρ μ=>(f ρ μ).bind fun a=>match a.1 with|.v (.int j)=>if -(2 ^ 62)<=j/\j < 2 ^ 62 then some ((List.range j.toNat).map fun i=>.int (i:Nat),a.2) else none|_=>none
section
variable  {K:zac}{m:Tf}{σ:St}{H:Hp}{μ:ac}{R:It->Hp->Prop}
theorem RelDs.get:∀{ds:List D} {vs:List V} {i:Nat} {d:D},RelDs K H ds vs->ds[i]?=some d->∃v,vs[i]?=some v/\am K H d v
 |[],_,_,_,_,e=>by simp at e
 |x::xs,vs,0,d,h,e=>by
  simp only [RelDs] at h;obtain ⟨v,r,rfl,h1,h2⟩:=h;simp at e;subst e;exact ⟨v,rfl,h1⟩
 |x::xs,vs,i+1,d,h,e=>by
  simp only [RelDs] at h;obtain ⟨v,r,rfl,h1,h2⟩:=h;obtain ⟨u,q1,q2⟩:=RelDs.get (i:=i) h2 (by simpa using e);exact ⟨u,by simpa using q1,q2⟩
theorem IP {a vs xs}(r0:RelDs K H xs vs):Cl K (PM K a) xs (fun H=>GA K H a vs/\RelDs K H xs vs) where
 st:=fun H H' t ⟨f,r⟩=>⟨f.tf t,RelDs.tf t _ _ r⟩
 stop:=fun i H ⟨f,r⟩ hi=>⟨vs,f.sq,by rw [←r.length];exact hi⟩
 go:=fun i d H e ⟨f,r⟩=>let ⟨v,q,_⟩:=r.get e;⟨vs,v,f.sq,q⟩
 yld:=fun i d H x H' e ⟨f,r⟩ ⟨e1,e2⟩=>by
  obtain ⟨v,q,rv⟩:=r.get e;have:=e2 vs f.sq;rw [q] at this;cases this;exact ⟨e1,rv⟩
theorem IN {a vs xs}(r0:RelDs K H xs vs):Cl K (PL K a) xs (fun H=>gG K H a vs/\RelDs K H xs vs) where
 st:=fun H H' t ⟨f,r⟩=>⟨gG.tf t f,RelDs.tf t _ _ r⟩
 stop:=fun i H ⟨f,r⟩ hi=>⟨vs,f,by rw [←r.length];exact hi⟩
 go:=fun i d H e ⟨f,r⟩=>let ⟨v,q,_⟩:=r.get e;⟨vs,v,f,q⟩
 yld:=fun i d H x H' e ⟨f,r⟩ ⟨e1,e2⟩=>by
  obtain ⟨v,q,rv⟩:=r.get e;have:=e2 vs f;rw [q] at this;cases this;exact ⟨e1,rv⟩
theorem IO (lo:Int)(n:Nat):Cl K (NM lo n) ((List.range n).map fun k=>.int (lo+(k:Nat))) (fun _=>True) where
 st:=fun _ _ _ _=>trivial
 stop:=fun i H _ hi=>by show n<=i;simpa using hi
 go:=fun i d H e _=>by
  have:=(zau.mp e).1
  show i < n;simpa using this
 yld:=fun i d H x H' e _ ⟨e1,e2⟩=>by
  have hi:=(zau.mp e).1
  have hi':i < n:=by simpa using hi
  refine ⟨e1,?_⟩;simp [hi'] at e;subst e e2;simp only [am]
theorem C5 {f}(h:uh K (bm f) σ H R):Lx K (MH (az K f)) σ H R:=by
 obtain ⟨ρ,μ,m,xs,μ',hl,hs,e,k⟩:=h;obtain ⟨⟨x,μ1⟩,e1,e⟩:=zaa.mp e;refine FP ⟨ρ,μ,m,x,μ1,hl,hs,e1,fun v H1 m1 x1 s1 r1=>?_⟩;split at e
 ·rename_i ys q
  cases e;simp only at q;subst q;simp only [ar,am] at r1;obtain ⟨a,vs,rfl,f,r⟩:=r1;exact ⟨a,rfl,.inl ⟨⟨vs,f.sq⟩,k _ _ H1 m1 x1 s1 (IP r) ⟨f,r⟩⟩⟩
 ·rename_i ys q
  cases e;simp only at q;subst q;simp only [ar,am] at r1;obtain ⟨a,vs,rfl,f,r⟩:=r1;exact ⟨a,rfl,.inr ⟨⟨vs,f⟩,k _ _ H1 m1 x1 s1 (IN r) ⟨f,r⟩⟩⟩
 ·cases e
theorem Hr {f}(h:uh K (vj f) σ H R):F7 (iY K (af f ai)) σ H R:=by
 obtain ⟨ρ,μ,m,xs,μ',hl,hs,e,k⟩:=h;obtain ⟨⟨x,μ1⟩,e1,e⟩:=zaa.mp e;refine ⟨ρ,μ,m,[x],μ1,hl,hs,by simp [af,ai,e1],fun vs H1 m1 x1 s1 r1=>?_⟩;split at e
 ·rename_i j q
  split at e
  ·rename_i z
   cases e;simp only at q;subst q;obtain ⟨v,r,rfl,r1,r2⟩:=r1;have r2:r=[]:=r2;simp only [ar,am] at r1;subst r1 r2;have:=IO (K:=K) 0 j.toNat
   simp only [zdd] at this
   exact ⟨j,rfl,z.1,z.2,k _ _ H1 m1 x1 s1 this trivial⟩
  ·cases e
 ·cases e
end
end HW
namespace HW
open PySem L2
abbrev MF:=List D->Option D
def uj (H H':Hp):Prop:=∀a o,H a=some o->H' a=some o
def yA (K:zac)(n:Nat)(f:MF):Sp:=fun vs H Q _=>∃ds d,ds.length=n/\RelDs K H ds vs/\f ds=some d/\∀v H',uj H H'->am K H' d v->Q v H'
def fin:mx->Option D
 |.rt r μ=>(Cr r μ).bind fun a=>some a.1
 |.nx _ _=>some .non
 |_=>none
def fV (k:Nat)(b:FS):MF:=fun ds=>(b (ds.map (fun d=>some (.v d))++List.replicate (k - ds.length) none) []).bind fin
def aS (f:MF)(n:Nat)(fa:FA):FE:=fun ρ μ=>(fa ρ μ).bind fun a=>(vals a.1).bind fun ds=>if ds.length=n then (f ds).bind fun d=>some (.v d,a.2) else none
section
variable  {K:zac}{m:Tf}{σ:St}{H H':Hp}{μ:ac}{Q:VK}
theorem uj.ext (s:uj H H'):cQ m H m H':=⟨⟨[],by simp⟩,.of s,fun a o e _=>s a o e,fun a h=>by
 cases q:H a with
 |none=>rfl
 |some o=>rw [s a o q] at h;cases h⟩
theorem Db {f n fa}{E:XK}(h:az K (aS f n fa) σ H Q):wg (yA K n f) [] E (iY K fa) σ H Q:=by
 obtain ⟨ρ,μ,m,d,μ',hl,hs,e,k⟩:=h;obtain ⟨⟨xs,μ1⟩,e1,e⟩:=zaa.mp e;obtain ⟨ds,e2,e⟩:=zaa.mp e;split at e
 ·rename_i hn
  obtain ⟨d1,e3,e⟩:=zaa.mp e;cases e;refine ⟨ρ,μ,m,xs,_,hl,hs,e1,fun vs H1 m1 x1 s1 r1=>?_⟩;refine ⟨ds,d1,hn,by simpa using kI e2 r1,e3,fun v H2 z r2=>?_⟩;exact k v H2 m1 (x1.trans z.ext) (s1.same z) r2
 ·cases e
theorem pc {N:Tl}{ds:List D}{vs:List V}(r:RelDs K H ds vs):dJ K [] H (ds.map (fun d=>some (.v d))++List.replicate (N.length - ds.length) none) (L2.d6 N vs):=by
 have hl:=r.length;unfold L2.d6;refine ⟨by simp [hl],fun i d e=>?_⟩
 by_cases hi:i < ds.length
 ·rw [zai (by simpa using hi),zaS] at e
  cases q:ds[i]? with
  |none=>rw [q] at e;cases e
  |some d' =>
   rw [q] at e;cases e;obtain ⟨v,q1,q2⟩:=r.get q;exact ⟨v,by rw [zai (by simp;omega),zaS,q1];rfl,q2⟩
 ·rw [zaO (by simpa using hi),zcu] at e
  split at e <;> cases e
def DL (Q:VK):VK:=fun v H=>Q v H\/∃a u,H a=some u/\fS u/\∀o,Q v (upd H a (.frz o u))
theorem cQ.sam (x:cQ [] H m H'):uj H H':=fun a o e=>x.keep a o e (by simp)
theorem G4 {N:Tl}{b:FS}{ds:List D}{vs:List V}{d:D}{E:XK}(r:RelDs K H ds vs)(e:fV N.length b ds=some d)(k:∀v H',uj H H'->am K H' d v->Q v H') :
  gC K b {nx:=fun _ H'=>DL Q .non H',rt:=DL Q} (L2.d6 N vs) H:=by
 obtain ⟨o,e1,e⟩:=zaa.mp e;refine ⟨_,[],[],o,pc r,.nil,e1,?_⟩
 cases o with
 |nx ρ μ =>
  cases e;exact fun σ H' m' x _ _=>.inl (k _ _ x.sam (by simp only [am]))
 |bk ρ μ=>cases e
 |ct ρ μ=>cases e
 |rt q μ =>
  obtain ⟨⟨d1,μ1⟩,e2,e⟩:=zaa.mp e;cases e;intro v H' m' x s r';exact Gf (B:=fun H'=>Q v H') s r' e2 fun H2 y s2 r2=>k v H2 (x.trans y).sam r2
end
def vd (C:Int->Int->Bool)(f:Int->Int->D):R->R->ac->Option (R×ac)
 |.v (.int i),.v (.int j),μ=>if C i j=true then some (.v (f i j),μ) else none
 |_,_,_=>none
theorem gI {K:zac}{C:Int->Int->Bool}{C':Int->Int->Prop}{f:Int->Int->D}{g:Int->Int->V}(hC:∀i j,C i j=true->C' i j)(hg:∀H i j,am K H (f i j) (g i j)):oW K (vd C f) (rI C' g):=by
 intro m H μ x y d μ' v u Q s rx ry e k;unfold vd at e;split at e
 ·rename_i i j
  split at e
  ·rename_i z
   cases e;simp only [ar,am] at rx ry;subst rx ry;exact ⟨i,j,rfl,rfl,hC i j z,k _ H m .refl s (hg H i j)⟩
  ·cases e
 ·cases e
theorem MS {K:zac}{f:Int->Int->D}{g:Int->Int->V}(hg:∀H i j,am K H (f i j) (g i j)):oW K (vd (fun _ _=>true) f) (xN g):=by
 intro m H μ x y d μ' v u Q s rx ry e k;unfold vd at e;split at e
 ·rename_i i j
  split at e
  ·cases e
   simp only [ar,am] at rx ry;subst rx ry;exact ⟨i,j,rfl,rfl,k _ H m .refl s (hg H i j)⟩
  ·cases e
 ·cases e
abbrev jH:=vd (fun _ _=>true) fun i j=>.int (i - j)
abbrev lf:=vd (fun i j=>decide (-(2 ^ 64) < i/\i < 2 ^ 64) || decide (-(2 ^ 64) < j/\j < 2 ^ 64)) fun i j=>.int (i * j)
abbrev dH:=vd (fun _ j=>decide (0 < j/\j < 1073741824)) fun i j=>.int (i / j)
abbrev b7:=vd (fun _ j=>decide (0 < j)) fun i j=>.int (i % j)
abbrev mG:=vd (fun i j=>decide (0<=j/\j<=1000000/\i.natAbs < 2 ^ 64)) fun i j=>.int (i ^ j.toNat)
abbrev JO:=vd (fun _ _=>true) fun i j=>.bl (decide (i < j))
abbrev JQ:=vd (fun _ _=>true) fun i j=>.bl (decide (i<=j))
abbrev Gb:=vd (fun _ _=>true) fun i j=>.bl (decide (j < i))
def qC:R->ac->Option (R×ac)
 |.v (.int i),μ=>some (.v (.int (-i)),μ)
 |_,_=>none
section
variable  {K:zac}
theorem Am {H:Hp}{i:Int}:am K H (.int i) (.int i):=by simp only [am]
theorem Ob {H:Hp}{i:Bool}:am K H (.bl i) (.bl i):=by simp only [am]
theorem LA:oW K jH (xN fun i j=>.int (i - j)):=MS fun _ _ _=>Am
theorem LE:oW K lf (rI Cn fun i j=>.int (i * j)):=gI (fun i j h=>by simpa [Cn] using h) fun _ _ _=>Am
theorem LM:oW K dH (rI JJ fun i j=>.int (i / j)):=gI (fun i j h=>by simpa [JJ] using h) fun _ _ _=>Am
theorem LF:oW K b7 (rI (fun _ j=>0 < j) fun i j=>.int (i % j)):=gI (fun i j h=>by simpa using h) fun _ _ _=>Am
theorem LC:oW K mG (rI JI fun i j=>.int (i ^ j.toNat)):=gI (fun i j h=>by simpa [JI] using h) fun _ _ _=>Am
theorem LG:oW K JO (xN fun i j=>.bl (decide (i < j))):=MS fun _ _ _=>Ob
theorem Oo:oW K JQ (xN fun i j=>.bl (decide (i<=j))):=MS fun _ _ _=>Ob
theorem Oq:oW K Gb (xN fun i j=>.bl (decide (j < i))):=MS fun _ _ _=>Ob
theorem LD:Rq K qC (rU fun i=>.int (-i)):=by
 intro m H μ x d μ' v Q s rx e k;unfold qC at e;split at e
 ·rename_i i
  cases e;simp only [ar,am] at rx;subst rx;exact ⟨i,rfl,k _ H m .refl s (by simp only [ar,am])⟩
 ·cases e
end
def JE:R->R->ac->Option (R×ac)
 |.v (.int i),.v (.int j),μ=>some (.v (.int (i+j)),μ)
 |.v (.str x),.v (.str y),μ=>if x.length+y.length<=sizeLine then some (.v (.str (x++y)),μ) else none
 |.v (.tup xs),.v (.tup ys),μ=>if xs≠[]/\xs.length+ys.length<=sizeLine then some (.v (.tup (xs++ys)),μ) else none
 |.p a,.p b,μ=>match μ[a]?,μ[b]? with|some (.lst xs),some (.lst ys)=>if xs.length+ys.length<=sizeLine then some (.p μ.length,μ++[.lst (xs++ys)]) else none|_,_=>none
 |_,_,_=>none
def K0:R2:=fun x y H Q=>∃i j,x=.str i/\y=.str j/\i.length+j.length<=sizeLine/\Q (.str (i++j)) H
def N9 (r r':R2):R2:=fun x y H Q=>r x y H Q\/r' x y H Q
def FV (K:zac):R2:=N9 (xN fun i j=>.int (i+j)) (N9 K0 (N9 (FQ K) KY))
theorem RelDs.append {K:zac}{H:Hp}:∀{xs ys:List D} {vs ws:List V},RelDs K H xs vs->RelDs K H ys ws->RelDs K H (xs++ys) (vs++ws)
 |[],_,_,_,h,h'=>by simp only [RelDs] at h;subst h;exact h'
 |x::xs,_,_,_,h,h'=>by
  simp only [RelDs] at h;obtain ⟨v,r,rfl,h1,h2⟩:=h
  show RelDs K H (x::(xs++_)) _
  simp only [RelDs];exact ⟨v,r++_,rfl,h1,RelDs.append h2 h'⟩
theorem RelDs.nil_iff {K:zac}{H:Hp}{xs:List D}{vs:List V}(h:RelDs K H xs vs):xs=[] ↔ vs=[]:=by
 have:=h.length;cases xs <;> cases vs <;> simp_all
theorem LQ {K:zac}:oW K JE (FV K):=by
 intro m H μ x y d μ' v u Q s rx ry e k;unfold JE at e;split at e
 ·cases e
  simp only [ar,am] at rx ry;subst rx ry;exact .inl ⟨_,_,rfl,rfl,k _ H m .refl s (by simp only [ar,am])⟩
 ·split at e
  ·rename_i z
   cases e;simp only [ar,am] at rx ry;subst rx ry;exact .inr (.inl ⟨_,_,rfl,rfl,z,k _ H m .refl s (by simp only [ar,am])⟩)
  ·cases e
 ·split at e
  ·rename_i z
   cases e;simp only [ar,am] at rx ry;obtain ⟨a,vs,rfl,qa,ra⟩:=rx;obtain ⟨b,ws,rfl,qb,rb⟩:=ry;refine .inr (.inr (.inl ⟨a,b,vs,ws,rfl,rfl,qa,qb,fun h=>z.1 (ra.nil_iff.mpr h),by rw [←ra.length,←rb.length];exact z.2,fun h=>?_,fun h p hp=>?_⟩))
   ·refine k _ H m .refl s ?_
    have:=rb.nil_iff.mpr h;subst this;simp only [ar,am,zbm];exact ⟨a,vs,rfl,qa,ra⟩
   ·obtain ⟨x1,x2,x3⟩:=lc s (ra.append rb) hp
    exact k _ _ _ x1 x2 x3
  ·cases e
 ·split at e
  ·rename_i xs ys qa qb
   split at e
   ·rename_i z
    cases e;obtain ⟨a',rfl,ha⟩:=rx;obtain ⟨b',rfl,hb⟩:=ry;obtain ⟨vs,ea,ra⟩:=s.cell _ _ a' qa ha;obtain ⟨ws,eb,rb⟩:=s.cell _ _ b' qb hb;refine .inr (.inr (.inr ⟨a',b',vs,ws,rfl,rfl,ea,eb,by rw [←ra.length,←rb.length];exact z,fun p hp=>?_⟩));obtain ⟨x1,x2,x3⟩:=et s (ra.append rb) hp;exact k _ _ _ x1 x2 x3
   ·cases e
  ·cases e
 ·cases e
def eY:R->ac->Option (List D)
 |.v (.tup xs),_=>some xs
 |.v (.fl xs),_=>some xs
 |.p n,μ=>match μ[n]? with|some (.lst xs)=>some xs|some (.fz xs)=>some xs|_=>none
 |_,_=>none
def d5:R->ac->Option (List D)
 |.v (.fl xs),_=>some xs
 |.p n,μ=>match μ[n]? with|some (.lst xs)=>some xs|some (.fz xs)=>some xs|_=>none
 |_,_=>none
section
variable  {K:zac}{m:Tf}{H:Hp}{μ:ac}
theorem fO {x:R}{xs:List D}{v:V}(s:aO K m H μ)(r:ar K m H x v)(e:d5 x μ=some xs):∃a vs,v=.ref a/\g9 K H a vs/\RelDs K H xs vs:=by
 unfold d5 at e;split at e
 ·cases e
  simp only [ar,am] at r;obtain ⟨a,vs,rfl,q,r⟩:=r;exact ⟨a,vs,rfl,q.sq,r⟩
 ·obtain ⟨a,rfl,ha⟩:=r
  split at e
  ·rename_i q
   cases e;obtain ⟨vs,e,r⟩:=s.cell _ _ a q ha;exact ⟨a,vs,rfl,.inl (.inl e),r⟩
  ·rename_i q
   cases e;obtain ⟨o,vs,e,r⟩:=s.cell _ _ a q ha;exact ⟨a,vs,rfl,.inl (.inr ⟨o,e⟩),r⟩
  ·cases e
 ·cases e
theorem ja {x:R}{xs:List D}{v:V}(s:aO K m H μ)(r:ar K m H x v)(e:eY x μ=some xs):∃a vs,v=.ref a/\(g9 K H a vs\/gG K H a vs)/\RelDs K H xs vs:=by
 cases x with
 |v d =>
  cases d with
  |tup ys =>
   cases e;simp only [ar,am] at r;obtain ⟨a,vs,rfl,q,r⟩:=r;exact ⟨a,vs,rfl,.inr q,r⟩
  |fl ys=>obtain ⟨a,vs,q1,q2,q3⟩:=fO s r (xs:=xs) e;exact ⟨a,vs,q1,.inl q2,q3⟩
  |non=>cases e
  |bl _=>cases e
  |int _=>cases e
  |str _=>cases e
  |fd _ _=>cases e
  |key _=>cases e
 |p n=>obtain ⟨a,vs,q1,q2,q3⟩:=fO s r (xs:=xs) e;exact ⟨a,vs,q1,.inl q2,q3⟩
 |s _ _=>cases e
 |x _=>cases e
 |f _ _=>cases e
end
def c9:R->R->ac->Option (R×ac)
 |x,.v (.int i),μ=>(eY x μ).bind fun xs=>(oA xs i).bind fun d=>some (.v d,μ)
 |_,_,_=>none
def gF:List R->ac->Option (R×ac)
 |[x],μ=>(eY x μ).bind fun xs=>some (.v (.int xs.length),μ)
 |_,_=>none
theorem Ez {K:zac}{H:Hp}{xs:List D}{vs:List V}{i:Int}{d:D}(r:RelDs K H xs vs)(e:oA xs i=some d):∃v,oA vs i=some v/\am K H d v:=by
 obtain ⟨j,e1,e2⟩:=zaa.mp e;obtain ⟨v,q1,q2⟩:=r.get e2;exact ⟨v,by unfold oA;rw [←r.length,e1];exact q1,q2⟩
theorem Op {K:zac}:oW K c9 (QJ K):=by
 intro m H μ x y d μ' v u Q s rx ry e k;unfold c9 at e;split at e
 ·rename_i i
  obtain ⟨xs,e1,e⟩:=zaa.mp e;obtain ⟨d1,e2,e⟩:=zaa.mp e;cases e;simp only [ar,am] at ry;subst ry;obtain ⟨a,vs,rfl,q,r⟩:=ja s rx e1;obtain ⟨w,q1,q2⟩:=Ez r e2;rcases q with q|q
  ·exact .inl ⟨a,vs,i,w,rfl,rfl,q,q1,k _ H m .refl s q2⟩
  ·exact .inr (.inl ⟨a,vs,i,w,rfl,rfl,q,q1,k _ H m .refl s q2⟩)
 ·cases e
def Oa (K:zac):List V->Hp->VK->Prop:=fun xs H Q=>∃p ys,xs=[.ref p]/\(g9 K H p ys\/gG K H p ys)/\Q (.int ys.length) H
theorem oO {K:zac}{m:Tf}{H:Hp}{x:R}{vs:List V}(r:bg K m H [x] vs):∃v,vs=[v]/\ar K m H x v:=by
 obtain ⟨v,r,rfl,h1,h2⟩:=r;have h2:r=[]:=h2;subst h2;exact ⟨v,rfl,h1⟩
theorem LH {K:zac}:Cy K gF (Oa K):=by
 intro m H μ xs d μ' vs Q s r e k;unfold gF at e;split at e
 ·rename_i x
  obtain ⟨ys,e1,e⟩:=zaa.mp e;cases e;obtain ⟨v,rfl,r1⟩:=oO r;obtain ⟨a,ws,rfl,q,r⟩:=ja s r1 e1;exact ⟨a,ws,rfl,q,k _ H m .refl s (by simp only [ar,am];rw [r.length])⟩
 ·cases e
def gL:List R->ac->Option (R×ac)
 |[x],μ=>(eY x μ).bind fun xs=>some (.p μ.length,μ++[.lst xs])
 |_,_=>none
def KP (K:zac):List V->Hp->VK->Prop:=fun xs H Q=>∃p ys,xs=[.ref p]/\(g9 K H p ys\/gG K H p ys)/\∀l,H l=none->Q (.ref l) (upd H l (.lst ys))
theorem Ja {K:zac}:Cy K gL (KP K):=by
 intro m H μ xs d μ' vs Q s r e k;unfold gL at e;split at e
 ·rename_i x
  obtain ⟨ys,e1,e⟩:=zaa.mp e;cases e;obtain ⟨v,rfl,r1⟩:=oO r;obtain ⟨a,ws,rfl,q,r⟩:=ja s r1 e1;refine ⟨a,ws,rfl,q,fun p hp=>?_⟩;obtain ⟨x1,x2,x3⟩:=et s r hp;exact k _ _ _ x1 x2 x3
 ·cases e
def qe:List R->ac->Option (R×ac)
 |[x],μ=>(eY x μ).bind fun xs=>some (.v (.tup xs),μ)
 |_,_=>none
def KJ (K:zac):List V->Hp->VK->Prop:=fun xs H Q=>∃p ys,xs=[.ref p]/\((g9 K H p ys/\∀l,H l=none->Q (.ref l) (upd H l (.tup ys)))\/(gG K H p ys/\Q (.ref p) H))
theorem Ly {K:zac}:Cy K qe (KJ K):=by
 intro m H μ xs d μ' vs Q s r e k;unfold qe at e;split at e
 ·rename_i x
  obtain ⟨ys,e1,e⟩:=zaa.mp e;cases e;obtain ⟨v,rfl,r1⟩:=oO r;obtain ⟨a,ws,rfl,q,r⟩:=ja s r1 e1;rcases q with q|q
  ·refine ⟨a,ws,rfl,.inl ⟨q,fun p hp=>?_⟩⟩
   obtain ⟨x1,x2,x3⟩:=lc s r hp;exact k _ _ _ x1 x2 x3
  ·refine ⟨a,ws,rfl,.inr ⟨q,k _ H m .refl s ?_⟩⟩
   simp only [ar,am];exact ⟨a,ws,rfl,q,r⟩
 ·cases e
def jO:R->List R->ac->Option (R×ac)
 |.p n,[.v d],μ=>match μ[n]? with|some (.lst xs)=>if xs.length < sizeLine then some (.v .non,μ.set n (.lst (xs++[d]))) else none|_=>none
 |_,_,_=>none
def NQ (K:zac)(g:R->List R->ac->Option (R×ac))(r:V->List V->Hp->VK->Prop):Prop :=
 ∀m H μ x xs d μ' v vs Q,aO K m H μ->ar K m H x v->bg K m H xs vs->g x xs μ=some (d,μ')->(∀w H' m',cQ m H m' H'->aO K m' H' μ'->ar K m' H' d w->Q w H')->r v vs H Q
theorem LO {K:zac}:NQ K jO wu:=by
 intro m H μ x xs d μ' v vs Q s rx rs e k;unfold jO at e;split at e
 ·split at e
  ·rename_i ys q
   split at e
   ·rename_i z
    cases e;obtain ⟨a,rfl,ha⟩:=rx;obtain ⟨w,rfl,rw'⟩:=oO rs;obtain ⟨ws,ea,ra⟩:=s.cell _ _ a q ha;have x:cQ m H m (upd H a (.lst (ws++[w]))):=.put (zaH ha) ea (by simp) (by simp);refine ⟨a,ws,w,rfl,rfl,ea,by rw [←ra.length];exact z,k _ _ m x (s.put ha ea (by simp) (by simp) ⟨_,bf,?_⟩) (by simp only [ar,am])⟩;refine RelDs.tf x.tf _ _ (ra.append ?_);simp only [RelDs];exact ⟨w,[],rfl,rw',rfl⟩
   ·cases e
  ·cases e
 ·cases e
def bv (g:FG)(c:FT)(f:FE):List D->Lo->ac->Option (List D×ac)
 |[],_,μ=>some ([],μ)
 |x::xs,ρ,μ=>(g (.v x) ρ μ).bind fun a=>(c a.1 a.2).bind fun b=>if b.1=true then (f a.1 b.2).bind fun y=>match y.1 with
   |.v d=>(bv g c f xs a.1 y.2).bind fun r=>some (d::r.1,r.2)
   |_=>none
  else bv g c f xs a.1 b.2
def dz (k:Nat)(ix:List Nat)(ρ:Lo):Lo:=List.replicate k none++ix.map fun i=>(ρ[i]?).join
def cj (ix:List Nat)(k:Nat)(i:FI)(g:FG)(c:FT)(f:FE):FE:=fun ρ μ=>(i ρ μ).bind fun a=>if a.1.length<=sizeLine then
 (bv g c f a.1 (dz k ix ρ) a.2).bind fun r=>some (.p r.2.length,r.2++[.lst r.1]) else none
def dw:FT:=fun _ μ=>some (true,μ)
end HW
namespace HW
open PySem PySem.Spec PyProof.Rows L2
section
variable  {X:Cx}
theorem PE.imp {e:Expr}{t t':TE}(h:PE X e t)(k:∀{σ H Q},t' σ H Q->t σ H Q):PE X e t':=fun pins s σ H Q I q=>h pins s σ H Q I (k q)
theorem PT.imp {e:Expr}{t t':TT}(h:PT X e t)(k:∀{σ H Q},t' σ H Q->t σ H Q):PT X e t':=fun pins s σ H Q I q=>h pins s σ H Q I (k q)
theorem PW.imp {e:Expr}{t t':TT}(h:PW X e t)(k:∀{σ H Q},t' σ H Q->t σ H Q):PW X e t':=fun wh pins s σ H Q I q=>h wh pins s σ H Q I (k q)
theorem PA.imp {e:Tj}{t t':TA}(h:PA X e t)(k:∀{σ H Q},t' σ H Q->t σ H Q):PA X e t':=fun pos pins s σ H Q I q=>h pos pins s σ H Q I (k q)
theorem PS.imp {e:Stmt}{t t':TS}(h:PS X e t)(k:∀{D σ H},t' D σ H->t D σ H):PS X e t':=fun pins s σ H Q I q=>h pins s σ H Q I (k q)
theorem oG.imp {e:Tk}{t t':TS}(h:oG X e t)(k:∀{D σ H},t' D σ H->t D σ H):oG X e t':=fun pins s σ H Q I q=>h pins s σ H Q I (k q)
theorem PI.imp {tg e:Expr}{t t':TI}(h:PI X tg e t)(k:∀{σ H R},t' σ H R->t σ H R):PI X tg e t':=fun pins s σ H R I q=>h pins s σ H R I (k q)
theorem PG.imp {e:Expr}{t t':TG}(h:PG X e t)(k:∀{v σ H Q},t' v σ H Q->t v σ H Q):PG X e t':=fun pins s σ H v u Q I r q=>h pins s σ H v u Q I r (k q)
theorem Cu.imp {e:Tj}{t t':Ct}(h:Cu X e t)(k:∀{v σ H Q},t' v σ H Q->t v σ H Q):Cu X e t':=fun pins s σ H v u Q I r q=>h pins s σ H v u Q I r (k q)
end
section
variable  {P:Program}{w:World}{H H0:Hp}{h h0:Heap}{a:Addr}{u:HO}{fs ex:Tf}
theorem fS.ne {b:Addr}{v:HO}(e:H a=some u)(hu:fS u)(q:H b=some v)(n:¬ fS v):b≠a:=fun z=>by
 rw [z,e] at q;cases q;exact n hu
theorem io.frz (ok:io P w H h)(e:H a=some u)(hu:fS u):∃o,io P w (upd H a (.frz o u)) h:=by
 have ho:∃o,h.get? a=some o:=by
  have z:=ok a u e
  cases u with
  |lst xs=>obtain ⟨_,_,_,_,q⟩:=z;exact ⟨_,q⟩
  |set S n=>obtain ⟨o,_,_,_,q,_⟩:=z;exact ⟨_,q⟩
  |dK kvs=>obtain ⟨_,_,_,_,o,_,_,q,_⟩:=z;exact ⟨_,q⟩
  |_=>exact hu.elim
 obtain ⟨o,ho⟩:=ho;refine ⟨o,fun b v q=>?_⟩
 have own:∀c y,H c=some (.own y)->upd H a (.frz o u) c=some (.own y):=fun c y r=>by rw [L2.aB (fS.ne e hu r fun z=>z)];exact r
 have tup:∀c xs,H c=some (.tup xs)->upd H a (.frz o u) c=some (.tup xs):=fun c xs r=>by rw [L2.aB (fS.ne e hu r fun z=>z)];exact r
 by_cases hb:b=a
 ·subst hb
  rw [L2.db] at q;cases q;exact ⟨ho,(ok b u e).stay (fun c v _ q=>q) (fun c r=>own c _ r) tup⟩
 ·rw [L2.aB hb] at q
  exact (ok b v q).stay (fun c v _ q=>q) (fun c r=>own c _ r) tup
theorem Un.frz {o:Obj}(un:Un fs ex H0 H h0 h)(e:H a=some u)(hu:fS u):Un fs ex H0 (upd H a (.frz o u)) h0 h where
 keep:=un.keep
 slot:=un.slot
 free:=fun b ob q n hx=>by
  have z:=un.free b ob q n hx;rw [L2.aB (fun y=>by rw [y,e] at z;cases z)];exact z
 there:=un.there
 tups:=fun b xs q=>by rw [L2.aB (fS.ne e hu (un.tups b xs q) fun z=>z)];exact un.tups b xs q
 frzs:=fun b ob v q=>by rw [L2.aB (fS.ne e hu (un.frzs b ob v q) fun z=>z)];exact un.frzs b ob v q
 tbls:=fun b ps q=>by
  obtain ⟨more,r⟩:=un.tbls b ps q;exact ⟨more,by rw [L2.aB (fS.ne e hu r fun z=>z)];exact r⟩
theorem aD.frz {s:Shared}(I:aD X pins σ H s)(e:H a=some u)(hu:fS u):∃o,aD X pins σ (upd H a (.frz o u)) s:=by
 obtain ⟨o,ok⟩:=io.frz I.hok e hu
 have nn:∀b,H b=none->upd H a (.frz o u) b=none:=fun b z=>by rw [L2.aB (fun y=>by rw [y,e] at z;cases z)];exact z
 refine ⟨o,I.ok,I.os,I.bare,Un.frz I.base e hu,I.loc,I.cell,nn _ I.free,fun x c q=>nn _ (I.freeC x c q),fun p hp=>?_,ok,I.len⟩;obtain ⟨q1,q2,q3⟩:=I.pin p hp;exact ⟨q1,nn _ q2,q3⟩
end
theorem uP {e:Expr}{t:TE}(h:PE X e t):PE X e (MH t):=fun pins s σ H Q I q=>by
 refine cy (h pins s σ H _ I q) fun v s1 hh=>?_;obtain ⟨x,H1,I1,r1,q1⟩:=hh;rcases q1 with q1|⟨a,u,e,hu,q1⟩
 ·exact ⟨x,H1,I1,r1,q1⟩
 ·obtain ⟨o,I2⟩:=aD.frz I1 e hu
  exact ⟨x,_,I2,r1,q1 o⟩
theorem dk.fz {P:Program}{w:World}{K:zac}{mg:Td}{base:Heap}{CX:xt}{k:Nat}{f:Addr}{fd:FuncData}{ps:Tl}{sp:Sp}(F:dk P w K mg base CX k f fd ps sp) :
  dk P w K mg base CX k f fd ps (fun vs H Q E=>sp vs H (DL Q) E):=by
 refine ⟨fun vs H Q E h=>F.len vs H _ E h,fun A outer s H args us vs Q E hr he hb hv hs=>?_⟩;refine zbX (F.run A outer s H args us vs (DL Q) E hr he hb hv hs) fun r s' hq=>?_
 cases r with
 |error e=>exact hq
 |ok fl =>
  cases fl with
  |next=>exact hq
  |brk=>exact hq
  |cont=>exact hq
  |ret u =>
   obtain ⟨v,H',os,bare,un,hok,rv,q⟩:=hq;rcases q with q|⟨a,u',e,hu,q⟩
   ·exact ⟨v,H',os,bare,un,hok,rv,q⟩
   ·obtain ⟨o,ok⟩:=io.frz hok e hu
    exact ⟨v,_,os,bare,Un.frz un e hu,ok,rv,q o⟩
theorem rB.okP {P:Program}{w:World}{K:zac}{mg:Td}{base:Heap}{x qual:Str}{st:Stmt}{f:Addr}{fd:FuncData}{N ps:Tl}{k:Nat}{b:FS}(F:rB K x qual st f fd)(S:aT N ps (ak st))
  (hbody:∀(cdv:Value) (A:Around) (outer:List Env) (s:Shared) (H:Hp) (E:XK),dO k (A.deeper (envOfC qual (ak st) s.heap.objs.size f cdv))->oG (lR mB P w K mg base N qual (ak st) f cdv A outer s H E).nox (cO st) (gC K b)) :
  dk P w K mg base mB (k+1) f fd ps (yA K ps.length (fV N.length b)):=by
 have G:dk P w K mg base mB (k+1) f fd ps (fun vs H Q _=>vs.length=ps.length/\gC K b {nx:=fun _ H'=>Q .non H',rt:=Q} (L2.d6 N vs) H) :=
  L2.rB.ok F S (fun vs H Q E h=>h.1) fun cdv A outer s H vs Q E hr h=>⟨_,hbody cdv A outer s H E hr,h.2⟩
 refine (dk.fz G).imp fun vs H Q E ⟨ds,d,hn,r,e,k⟩=>⟨by rw [←r.length];exact hn,G4 (E:=E) r e k⟩
theorem Dx {X:Cx}{tg l:Expr}{tl:TE}(hl:PE X l tl):PI X tg l (Lx X.K tl):=by
 intro pins s σ H R I h;refine cy (hl pins s σ H _ I h) fun v s1 hh=>?_;obtain ⟨x,H1,I1,r1,q1⟩:=hh;obtain ⟨a,e,q1⟩:=q1;subst e;cases r1;rcases q1 with ⟨⟨xs,hq⟩,q⟩|⟨⟨xs,hq⟩,q⟩
 ·obtain ⟨its,rv,p,hz⟩:=I1.list hq
  refine zch p.isList ?_;refine ⟨s1.heap.objs.size,[s1.heap.objs.size],_,_,H1,rfl,I1.kept (t':=s1.toks) fun b o e=>zae _ e,xz a _,⟨_,zaq _ rfl,rfl,rfl⟩,fun b hb=>?_,q⟩
  have e:b=s1.heap.objs.size:=by simpa using hb
  subst e;exact I1.fpOk (zao _) (I1.hok.fresh (zao _))
 ·obtain ⟨its,rv,p,hz⟩:=I1.tuple hq
  refine wpAny_pyIter_tuple (show s1.heap.IsTuple a its.toArray from p) ?_;refine ⟨s1.heap.objs.size,[s1.heap.objs.size],_,_,H1,rfl,I1.kept (t':=s1.toks) fun b o e=>zae _ e,uA a _,⟨_,zaq _ rfl,rfl,rfl⟩,fun b hb=>?_,q⟩
  have e:b=s1.heap.objs.size:=by simpa using hb
  subst e;exact I1.fpOk (zao _) (I1.hok.fresh (zao _))
theorem gg {env:Env}:∀{names:List (Str×NameKind)} {x:Str},
  (names.map fun (n,k)=>if (k == NameKind.free && env.scope.kind == .function && env.kindOf n == some .cell) then (n,NameKind.cell) else (n,k)).lookup x =
   (names.lookup x).map fun k=>if (k == NameKind.free && env.scope.kind == .function && env.kindOf x == some .cell) then NameKind.cell else k
 |[],_=>rfl
 |(n,k)::r,x=>by
  have ih:=@gg env r x
  show List.lookup x ((if (k == NameKind.free && env.scope.kind == .function && env.kindOf n == some .cell)=true then (n,NameKind.cell) else (n,k))::_)=_
  cases hx:x == n with
  |true =>
   have:x=n:=eq_of_beq hx;subst this;simp only [zb5,hx,za8]
   by_cases hc:(k == NameKind.free && env.scope.kind == .function && env.kindOf x == some .cell)=true
   ·simp [hc]
   ·simp [hc]
  |false =>
   by_cases hc:(k == NameKind.free && env.scope.kind == .function && env.kindOf n == some .cell)=true
   ·rw [if_pos hc];simp only [zb5,hx];exact ih
   ·rw [if_neg hc];simp only [zb5,hx];exact ih
theorem iH {env:Env}:∀(names:List (Str×NameKind)) (acc:List (Str×Addr)),(∀x c,acc.lookup x=some c->env.cells.lookup x=some c) ->
  (∀y∈names,y.2=.free->∃c,env.cells.lookup y.1=some c) ->
  ∃cl:List (Str×Addr),(forIn names acc fun (x:Str×NameKind) (r:List (Str×Addr))=>(if (x.2 == NameKind.free)=true then do let a ←cellOf env x.1;pure (ForInStep.yield ((x.1,a)::r)) else pure (ForInStep.yield r):Sem (ForInStep (List (Str×Addr)))))=pure cl /\
   (∀x c,cl.lookup x=some c->env.cells.lookup x=some c)/\(∀x c,acc.lookup x=some c->∃c',cl.lookup x=some c')/\∀y∈names,y.2=.free->∃c,cl.lookup y.1=some c
 |[],acc,h1,_=>⟨acc,rfl,h1,fun x c e=>⟨c,e⟩,fun y hy=>by simp at hy⟩
 |(n,k)::r,acc,h1,h2=>by
  by_cases hk:k=.free
  ·subst hk
   obtain ⟨c,hc⟩:=h2 (n,.free) zah rfl
   have step:∀x c',List.lookup x ((n,c)::acc)=some c'->env.cells.lookup x=some c':=fun x c' e=>by
    rw [zb5] at e
    cases hx:x == n with
    |true=>rw [hx] at e;have:x=n:=eq_of_beq hx;subst this;rw [hc];exact e
    |false=>rw [hx] at e;exact h1 x c' e
   obtain ⟨cl,e,p1,p2,p3⟩:=iH r ((n,c)::acc) step fun y hy=>h2 y (zaj _ hy);have hn:∃c',List.lookup n ((n,c)::acc)=some c':=⟨c,by rw [zb5];simp⟩;refine ⟨cl,?_,p1,fun x c' e'=>?_,fun y hy hf=>?_⟩
   ·rw [zcd]
    show ((cellOf env n >>= fun a=>pure (ForInStep.yield ((n,a)::acc))) >>= _)=_
    unfold cellOf;rw [hc];exact e
   ·cases hx:x == n with
    |true=>have:x=n:=eq_of_beq hx;subst this;obtain ⟨c'',q⟩:=hn;exact p2 _ _ q
    |false=>exact p2 x c' (by rw [zb5,hx];exact e')
   ·rcases zak.mp hy with rfl|hy
    ·obtain ⟨c'',q⟩:=hn;exact p2 _ _ q
    ·exact p3 y hy hf
  ·obtain ⟨cl,e,p1,p2,p3⟩:=iH r acc h1 fun y hy=>h2 y (zaj _ hy)
   have hb:(k == NameKind.free)=false:=by simpa using hk
   refine ⟨cl,?_,p1,p2,fun y hy hf=>?_⟩
   ·rw [zcd]
    simp only [hb,zan,if_false];exact e
   ·rcases zak.mp hy with rfl|hy
    ·exact absurd hf hk
    ·exact p3 y hy hf
theorem oo {env:Env}{scope:Scope}(h:∀y∈scope.names,y.2=.free->∃c,env.cells.lookup y.1=some c) :
  ∃cl,closureFor scope env=pure cl/\(∀x c,cl.lookup x=some c->env.cells.lookup x=some c)/\∀y∈scope.names,y.2=.free->∃c,cl.lookup y.1=some c:=by
 obtain ⟨cl,e,p1,_,p3⟩:=iH (env:=env) scope.names [] (fun x c e=>by simp at e) h;refine ⟨cl,?_,p1,p3⟩;unfold closureFor
 first
  |(show (forIn scope.names [] _ >>= fun r=>pure r)=_;rw [e];rfl)
  |(simp only [bind_pure];exact e)
structure aK (osc scope:Scope)(own:Tl)(caps:Tl):Prop where
 kind:scope.kind=.function
 cell:∀y∈scope.names,y.2≠.cell
 loc:∀y∈scope.names,y.2=.local->scope.names.lookup y.1=some .local
 free:∀y∈scope.names,y.2=.free->osc.names.lookup y.1=some .cell\/osc.names.lookup y.1=some .free
 cap:∀y∈caps,(y,NameKind.free)∈scope.names/\scope.names.lookup y=some .free
 nd:(own++caps).Nodup
def aL (X:Cx)(scope:Scope)(cl:List (Str×Addr))(C:Addr)(s₂:Shared)(H₂:Hp)(fp:Tf)(N:Tl):Cx :=
 {X with N:=N,s₀:=s₂,H₀:=H₂,env:=compEnvC scope cl C X.env,outer:=X.stack,stack:=X.stack,ex:=fp,fn:=fun _=>false,pn:=[],xe:=fun _ _=>False}
theorem uX {names:List (Str×NameKind)}{x:Str}{k:NameKind}(h:names.lookup x=some k):(x,k)∈names:=PySem.mem_of_lookup h
theorem ou {X:Cx}{scope:Scope}{own caps:Tl}(n:aK X.env.scope scope own caps){cl:List (Str×Addr)}{C:Addr}{x:Str}{k:NameKind}(h:(compEnvC scope cl C X.env).kindOf x=some k)(hk:k=.cell\/k=.free) :
  (x,NameKind.free)∈scope.names:=by
 have h':(relabel scope X.env).names.lookup x=some k:=h;unfold relabel at h';rw [gg] at h'
 cases q:scope.names.lookup x with
 |none=>rw [q] at h';cases h'
 |some k0 =>
  rw [q,za8] at h';have m:=uX q;have h2:=Option.some.inj h'
  by_cases hf:k0=.free
  ·subst hf;exact m
  ·exfalso
   have hb:(k0 == NameKind.free)=false:=by simpa using hf
   simp only [hb,Bool.false_and,zan,if_false] at h2;rcases hk with hk|hk
   ·exact n.cell _ m (h2.trans hk)
   ·exact hf (h2.trans hk)
theorem vQ {X:Cx}{scope:Scope}{cl:List (Str×Addr)}{C:Addr}{x:Str}(h:scope.names.lookup x=some .free) :
  (compEnvC scope cl C X.env).kindOf x=some .cell\/(compEnvC scope cl C X.env).kindOf x=some .free:=by
 show (relabel scope X.env).names.lookup x=some .cell\/(relabel scope X.env).names.lookup x=some .free
 unfold relabel;rw [gg,h];simp only [za8];split
 ·exact .inl rfl
 ·exact .inr rfl
theorem B7 {X:Cx}{H₂:Hp}{s₂:Shared}{scope:Scope}{own caps:Tl}{cl:List (Str×Addr)}{C:Addr}{fp:Tf}(I:aD X pins σ H₂ s₂)(n:aK X.env.scope scope own caps)
  (hcl:∀x c,cl.lookup x=some c->X.env.cells.lookup x=some c) (hcl2:∀y∈scope.names,y.2=.free->∃c,cl.lookup y.1=some c) (hC:s₂.heap.objs.size<=C) (hfs:∀b∈fp,b < C) (hf:∀b∈fp,l0 X pins H₂ b) :
  (aL X scope cl C s₂ H₂ fp (own++caps)).Ok:=by
 refine ⟨I.ok.mod,n.kind,I.ok.glob,I.ok.blt,hC,fun x y c h1 h2=>I.ok.inj x y c (hcl x c h1) (hcl y c h2),fun x hx=>?_,fun x c h _=>?_,I.ok.hd,I.ok.frames,.inl rfl,fun b hb=>⟨zax (hfs b hb),fun x c e=>(hf b hb).2.2.2.2.1 x c (hcl x c e)⟩,
  I.bs,zbg I.ok.bsz I.sz,fun b o e hb=>?_,fun b hb z=>?_,I.stack,I.stkFree⟩
 ·rcases hx with hx|hx
  ·obtain ⟨c,e⟩:=hcl2 _ (ou n hx (.inl rfl)) rfl;exact ⟨c,e⟩
  ·obtain ⟨c,e⟩:=hcl2 _ (ou n hx (.inr rfl)) rfl;exact ⟨c,e⟩
 ·exact absurd h (by simp [aL])
 ·rcases (hf b hb).2.2.2.1 with z|z
  ·exact I.ok.noex b o e z
  ·exact absurd (zaB (zaB (zam e) I.ok.bsz) z) (zaG _)
 ·rcases zak.mp (I.stkSub b z) with e|e
  ·exact (hf b hb).2.1 e
  ·exact (hf b hb).2.2.1 e
def gQ (own:L2.St)(ix:List Nat)(σ:L2.St):L2.St:=own++ix.map fun i=>(σ[i]?).join
theorem t7 {X:Cx}{H₂:Hp}{s₂:Shared}{scope:Scope}{own caps:Tl}{ix:List Nat}{cl:List (Str×Addr)}{C:Addr}{fp:Tf}{h₁:Heap}{tk:Nat}(I:aD X pins σ H₂ s₂)(n:aK X.env.scope scope own caps)
  (hcl:∀x c,cl.lookup x=some c->X.env.cells.lookup x=some c) (hcl2:∀y∈scope.names,y.2=.free->∃c,cl.lookup y.1=some c) (hC:s₂.heap.objs.size<=C) (hfs:∀b∈fp,b < C) (hf:∀b∈fp,l0 X pins H₂ b)
  (hix:ix.length=caps.length) (hix2:∀(j i:Nat) y,ix[j]?=some i->caps[j]?=some y->X.N[i]?=some y)
  (old:∀b o,s₂.heap.get? b=some o->h₁.get? b=some o) {m:Td} (hns:h₁.Ns C m) :
  aD (aL X scope cl C s₂ H₂ fp (own++caps)) [] (gQ (own.map fun _=>none) ix σ) H₂ {s₂ with heap:=h₁,toks:=tk}:=by
 refine ⟨B7 I n hcl hcl2 hC hfs hf,rfl,I.bare,Un.kept old,⟨m,hns,fun i x v e1 e2 hv=>?_⟩,fun x c e=>?_,I.hok.fresh hC,fun x c e=>I.freeC x c (hcl x c e),fun p hp=>?_,I.hok.kept old,?_⟩
 ·have e1:(own++caps)[i]?=some x:=e1
  unfold gQ at e2
  by_cases hi:i < own.length
  ·rw [zai (by simpa using hi),zaS] at e2
   cases q:own[i]? with
   |none=>rw [q] at e2;cases e2
   |some y=>rw [q] at e2;cases e2
  ·rw [zaO (by simpa using hi)] at e2
   rw [zaO (by omega)] at e1;simp only [zal] at e2;generalize i - own.length=j at e1 e2;rw [zaS] at e2
   cases q:ix[j]? with
   |none=>rw [q] at e2;cases e2
   |some i' =>
    rw [q] at e2;have e3:(σ[i']?).join=some v:=Option.some.inj e2
    have e4:σ[i']?=some (some v):=by
     cases z:σ[i']? with
     |none=>rw [z] at e3;cases e3
     |some w'=>rw [z] at e3;cases w' with
      |none=>cases e3
      |some _=>cases e3;rfl
    have hN:=hix2 j i' x q e1;obtain ⟨mm,hl⟩:=n.cap x (zaH e1);have hk:X.env.kindOf x=some .cell\/X.env.kindOf x=some .free:=n.free _ mm rfl;obtain ⟨m0,hn0,hl0⟩:=I.loc
    have vis:Mu X.env.scope x:=by
     rcases hk with hk|hk
     ·exact .inr (.inl hk)
     ·exact .inr (.inr hk)
    obtain ⟨u,r,l⟩:=hl0 i' x v hN e4 vis;refine ⟨u,r,.inr ⟨vQ hl,?_⟩⟩;obtain ⟨c,hc⟩:=hcl2 _ mm rfl;rcases l with ⟨l,_⟩|⟨_,c',hc',z⟩
    ·exfalso
     rcases hk with hk|hk <;> rw [hk] at l <;> cases l
    ·have:=hcl x c hc
     rw [hc'] at this;cases this;obtain ⟨o,ho,hd⟩:=z;exact ⟨_,hc,o,old _ _ ho,hd⟩
 ·obtain ⟨v,o,ho,hd⟩:=I.cell x c (hcl x c e)
  exact ⟨v,o,old _ _ ho,hd⟩
 ·exact absurd (show p∈([]:Tc) from hp) (by simp)
 ·show (gQ _ ix σ).length=(own++caps).length
  unfold gQ;simp [hix]
def lZ (X:Cx)(ifs:Tj)(t:TT):Prop :=
 ∀(pins:Tc) (s:Shared) (σ:L2.St) (H:Hp) (Q:Bool->Hp->Prop),aD X pins σ H s->t σ H Q ->
  wpAny (model X.prog X.w) X.A (forIn ifs true fun c r=>if r=true then do let ok ←isTrue c X.env (eval c X.env);pure (ForInStep.yield ok) else pure (ForInStep.yield r)) (TP X pins σ Q) X.xe s
def Kn:TT:=fun _ H Q=>Q true H
theorem AE:lZ X [] Kn:=fun pins s σ H Q I h=>wpAny_tests_nil ⟨H,I,h⟩
theorem AD {c:Expr}{t:TT}(h:PT X c t):lZ X [c] t:=fun pins s σ H Q I q=>wpAny_tests_one (h pins s σ H Q I q)
theorem tS {prog:Program}{w:World}{A:Around}{R:Result->Shared->Prop}{s:Shared}{elt target iter:Expr}{ifs:Tj}{scope:Scope}{pos:Pos}{it acc:Value}{env:Env}(I:Nat->Shared->Prop)
  (turn:∀n s,I n s->wpAny (model prog w) A (pyNext it) (fun r s₁=>match r with
   |none=>R (.ok .next) s₁
   |some v=>wpAny (model prog w) A (letOwnedTupleGo target it v) (fun _ s₁'=>wpAny (model prog w) A (assign target env v) (fun _ s₂ =>
     wpAny (model prog w) A (forIn ifs true fun c r=>if r=true then do let ok ←isTrue c env (eval c env);pure (ForInStep.yield ok) else pure (ForInStep.yield r)) (fun ok s₃ =>
      if ok=true then wpAny (model prog w) A (eval elt env) (fun x s₄ =>
       wpAny (model prog w) A (call (.builtin "list.append") [acc,x]) (fun _ s₅=>∃m,m < n/\I m s₅) (fun _ _=>False) s₄) (fun _ _=>False) s₃
      else ∃m,m < n/\I m s₃) (fun _ _=>False) s₂) (fun _ _=>False) s₁') (fun _ _=>False) s₁) (fun _ _=>False) s)
  (n:Nat) (h:I n s):codeAny (model prog w) A (.compLoop (.ListComp elt [⟨target,iter,ifs,0⟩] scope pos) 0 it acc env) R s:=by
 refine codeAny_loop rfl I (fun n s hI=>?_) n h
 show wpAny _ A ((compTurn (.ListComp elt [⟨target,iter,ifs,0⟩] scope pos) 0 it acc env).onRaise (fun x=>do noteFrame x env;theTreesLotGoes x)) _ _ s
 refine wpAny_noted ?_;rw [compTurn_list];refine zab (wpAny_standAt (zab (zbB (turn n s hI) (fun r s₁ h₁=>?_) fun _ _ h'=>h'.elim)))
 cases r with
 |none=>exact zad h₁
 |some v =>
  refine zab (zbB h₁ (fun _ s₁' h₁'=>?_) fun _ _ h'=>h'.elim);refine zab (zbB h₁' (fun _ s₂ h₂=>zab (zbB h₂ (fun ok s₃ h₃=>?_) fun _ _ h'=>h'.elim)) fun _ _ h'=>h'.elim)
  cases ok with
  |false=>exact zad ⟨rfl,h₃⟩
  |true =>
   exact zab (zab (zbB h₃ (fun x s₄ h₄=>zab (zbB h₄ (fun _ s₅ h₅=>zad (zad ⟨rfl,h₅⟩)) fun _ _ h'=>h'.elim)) fun _ _ h'=>h'.elim))
theorem aD.adopt {X:Cx}{H:Hp}{s:Shared}{a:Addr}{o:HO}(I:aD X pins σ H s)(f:l0 X pins H a)(hs:X.s₀.heap.objs.size<=a)(new:bE X.prog X.w (upd H a o) s.heap a o):aD X pins σ (upd H a o) s:=by
 obtain ⟨f0,f1,f2,f3,f4,f5⟩:=f
 have ne:∀b u,H b=some u->b≠a:=fun b u e z=>by rw [z,f0] at e;cases e
 refine ⟨I.ok,I.os,I.bare,⟨I.base.keep,I.base.slot,fun b ob q n hx'=>?_,I.base.there,fun b xs q=>?_,fun b ob u q=>?_,fun b ps q=>?_⟩,I.loc,I.cell,?_,fun x c q=>?_,fun p hp=>?_,fun b u q=>?_,I.len⟩
 ·rw [L2.aB (zax (zaB (zam q) hs))];exact I.base.free b ob q n hx'
 ·rw [L2.aB (ne _ _ (I.base.tups b xs q))];exact I.base.tups b xs q
 ·rw [L2.aB (ne _ _ (I.base.frzs b ob u q))];exact I.base.frzs b ob u q
 ·obtain ⟨more,r⟩:=I.base.tbls b ps q
  exact ⟨more,by rw [L2.aB (ne _ _ r)];exact r⟩
 ·rw [L2.aB (Ne.symm f1)];exact I.free
 ·rw [L2.aB (f4 x c q)];exact I.freeC x c q
 ·obtain ⟨q1,q2,q3⟩:=I.pin p hp
  exact ⟨q1,by rw [L2.aB (f5 p hp)];exact q2,q3⟩
 ·by_cases hb:b=a
  ·subst hb;rw [L2.db] at q;cases q;exact new
  ·rw [L2.aB hb] at q
   exact (I.hok b u q).stay (fun c v _ q=>q) (fun c r=>by rw [L2.aB (ne _ _ r)];exact r) fun c xs r=>by rw [L2.aB (ne _ _ r)];exact r
def wf (ix:List Nat)(own:Tl)(wi:TI)(g:TG)(tc:TT)(te:TE):TE:=fun σ H Q=>wi σ H fun J H1 =>
 ∃W:Nat->Nat->List V->L2.St->Hp->Prop,(∃n,W 0 n [] (gQ (own.map fun _=>none) ix σ) H1)/\∀i n ys τ H,W i n ys τ H ->
  (J.stop i H/\∀p,H p=none->Q (.ref p) (upd H p (.lst ys))) \/
  (J.go i H/\ys.length < sizeLine/\∀x H',J.yld i H x H'->g x τ H' fun τ2 H2=>tc τ2 H2 fun b H3=>if b=true then te τ2 H3 fun y H4=>∃n',n' < n/\W (i+1) n' (ys++[y]) τ2 H4 else ∃n',n' < n/\W (i+1) n' ys τ2 H3)
theorem pY {X:Cx}{pins:Tc}{σ:L2.St}{s₂:Shared}{H₂:Hp}{E:Tb}{elt tg iter:Expr}{ifs:Tj}{scope:Scope}{pos:Pos}{own caps:Tl}{ix:List Nat}{g:TG}{tc:TT}{te:TE}{Q:VK}{cl:List (Str×Addr)}
  {it:Addr} {fp:Tf} {tn:Nat->Heap->Prop} {J:It} {RR:Value->Addr->Result->Shared->Prop}
  (hc:X.calm=true) (I:aD X pins σ H₂ s₂) (T:vV X.prog X.w X.K tg J fp it tn) (st:tn 0 s₂.heap) (hf:∀b∈fp,l0 X pins H₂ b) (n:aK X.env.scope scope own caps)
  (hcl:∀x c,cl.lookup x=some c->X.env.cells.lookup x=some c) (hcl2:∀y∈scope.names,y.2=.free->∃c,cl.lookup y.1=some c)
  (hix:ix.length=caps.length) (hix2:∀(j i:Nat) y,ix[j]?=some i->caps[j]?=some y->X.N[i]?=some y)
  (hg:∀C,PG (aL X scope cl C s₂ H₂ fp (own++caps)) tg g) (ht:∀C,lZ (aL X scope cl C s₂ H₂ fp (own++caps)) ifs tc) (he:∀C,PE (aL X scope cl C s₂ H₂ fp (own++caps)) elt te)
  (W:Nat->Nat->List V->L2.St->Hp->Prop) (hW0:∃n,W 0 n [] (gQ (own.map fun _=>none) ix σ) H₂)
  (hW:∀i n ys τ H,W i n ys τ H->(J.stop i H/\∀p,H p=none->Q (.ref p) (upd H p (.lst ys))) \/
   (J.go i H/\ys.length < sizeLine/\∀x H',J.yld i H x H'->g x τ H' fun τ2 H2=>tc τ2 H2 fun b H3=>if b=true then te τ2 H3 fun y H4=>∃n',n' < n/\W (i+1) n' (ys++[y]) τ2 H4 else ∃n',n' < n/\W (i+1) n' ys τ2 H3))
  (hRR:∀(D C:Addr) (s':Shared) m H' ys,s'.heap.Ns C m->aD X pins σ (upd H' D (.lst ys)) s'->l0 X pins (upd H' D (.lst ys)) C->Q (.ref D) (upd H' D (.lst ys))->RR (.ref D) C (.ok .next) s') :
  wpAny (model X.prog X.w) X.A (newList []) (fun acc s₃=>wpAny (model X.prog X.w) X.A (newFunctionEnv scope X.env.globals cl [] X.env.qual none .none (some X.env)) (fun cenv s₄ =>
   codeAny (model X.prog X.w) X.A (.compStart (.ListComp elt [⟨tg,iter,ifs,0⟩] scope pos) 0 (.ref it) acc {cenv with scope:=relabel scope X.env}) (RR acc cenv.locals) s₄) E s₃) E s₂:=by
 refine zaV (wpAny_newFunctionEnv n.cell (by intro y hy;simp at hy) (fun h₁ hns1 hsb1=>?_) n.kind);dsimp only at hns1 hsb1 ⊢;generalize hH2:s₂.heap.push {cls:=.type "list",dict:=none,data:=.seq ([]:Te).toArray}=H2 at hns1 hsb1 ⊢
 have hC:H2.objs.size=s₂.heap.objs.size+1:=by rw [←hH2,zbe]
 have below:∀b,b < s₂.heap.objs.size->b≠H2.objs.size/\b≠s₂.heap.objs.size:=fun b hb=>⟨by rw [hC];exact zax (zaR hb),zax hb⟩
 have hDC:s₂.heap.objs.size≠H2.objs.size:=by rw [hC];exact zax (zcD _)
 have old:∀b o,s₂.heap.get? b=some o->h₁.get? b=some o:=fun b o e=>hsb1.extBut b o (below b (zam e)).1 (zae _ (hH2 ▸ zae _ e));have hacc:h₁.get? s₂.heap.objs.size=some {cls:=.type "list",data:=.seq ([]:Te).toArray}:=hsb1.extBut _ _ hDC (zae _ (hH2 ▸ zaq _ rfl))
 have fplt:∀b∈fp,b < s₂.heap.objs.size:=fun b hb=>by obtain ⟨o,e,_⟩:=T.obj _ _ st b hb;exact zam e
 have hCle:s₂.heap.objs.size<=H2.objs.size:=by rw [hC];exact zce _
 have hfC:∀b∈fp,b < H2.objs.size:=fun b hb=>zaB (fplt b hb) hCle;have st₁:tn 0 h₁:=T.keep 0 _ _ st fun b _ o e=>old b o e;have I₀:=t7 (tk:=s₂.toks+([]:List (Str×Value)).length) I n hcl hcl2 hCle hfC hf hix hix2 old hns1;clear hns1 hsb1
 have cellD:∀x c,cl.lookup x=some c->c < s₂.heap.objs.size:=fun x c e=>by
  obtain ⟨v,o,q,_⟩:=I.cell x c (hcl x c e);exact zam q
 have stkD:∀b∈yj X.stack,b < s₂.heap.objs.size:=fun b hb=>by
  rcases zak.mp (I.stkSub b hb) with e|e
  ·rw [e];exact I.lt
  ·obtain ⟨_,o,q,_⟩:=I.funs.mem e;exact zam q
 have fpok:∀{ps:Tc} {H:Hp},(∀b∈fp,H b=none)->(∀p∈ps,p.1∉fp)->∀b∈fp,l0 (aL X scope cl H2.objs.size s₂ H₂ fp (own++caps)) ps H b:=fun {ps H} hn hp b hb =>
  ⟨hn b hb,zax (hfC b hb),fun z=>by
   rcases zak.mp (I.stkSub b z) with e|e
   ·exact (hf b hb).2.1 e
   ·exact (hf b hb).2.2.1 e,.inl hb,fun x c e=>(hf b hb).2.2.2.2.1 x c (hcl x c e),fun p hp' z=>hp p (by simpa [aL] using hp') (z ▸ hb)⟩
 have Dfp:s₂.heap.objs.size∉fp:=fun z=>zaG _ (fplt _ z)
 have pinD:∀{H:Hp} {h:Heap} {its:Te} {k:Nat},H s₂.heap.objs.size=none->h.get? s₂.heap.objs.size=some {cls:=.type "list",data:=.seq its.toArray k} ->
   ∀p∈[((s₂.heap.objs.size,{cls:=.type "list",data:=.seq its.toArray k}):Addr×Obj)],h.get? p.1=some p.2/\H p.1=none/\p.1≠H2.objs.size/\p.1∉yj X.stack/\∀v,p.2.data≠.cell v:=fun {H h its k} hn e p hp=>by
  rw [zaE.mp hp];exact ⟨e,hn,hDC,fun z=>zaG _ (stkD _ z),fun v z=>by cases z⟩
 have cb:∀s₃:Shared,s₃={s₂ with heap:=h₁,toks:=s₂.toks+([]:List (Str×Value)).length} ->
   codeAny (model X.prog X.w) X.A (.compLoop (.ListComp elt [⟨tg,iter,ifs,0⟩] scope pos) 0 (.ref it) (.ref s₂.heap.objs.size) (compEnvC scope cl H2.objs.size X.env)) (RR (.ref s₂.heap.objs.size) H2.objs.size) s₃:=by
  rintro s₃ rfl;obtain ⟨n0,hW0⟩:=hW0
  refine tS (fun n s'=>∃i ys its k τ H,aD (aL X scope cl H2.objs.size s₂ H₂ fp (own++caps)) [(s₂.heap.objs.size,{cls:=.type "list",data:=.seq its.toArray k})] τ H s'/\tn i s'.heap/\(∀b∈fp,H b=none)/\aU ys its/\ys.length<=sizeLine/\W i n ys τ H) ?_ n0
   ⟨0,[],[],0,_,H₂,I₀.pins_of (pinD (I.hok.fresh (zao _)) hacc),st₁,fun b hb=>(hf b hb).1,.nil,za3 _,hW0⟩
  rintro n s3 ⟨i,ys,its,k,τ,H,I3,st3,fr3,rv,hz,w3⟩;have hD3:=I3.pin _ (zaA _ zah)
  have pfp:∀p∈[((s₂.heap.objs.size,{cls:=.type "list",data:=.seq its.toArray k}):Addr×Obj)],p.1∉fp:=fun p hp=>by rw [zaE.mp hp];exact Dfp
  rcases hW i n ys τ H w3 with ⟨stop,q⟩|⟨go,hlt,step⟩
  ·refine cy (T.done (aL X scope cl H2.objs.size s₂ H₂ fp (own++caps)) rfl rfl rfl hc i _ s3 τ H (fun _ _=>False) I3 (fpok fr3 pfp) st3 stop) fun r s4 hh=>?_
   obtain ⟨hr,I4⟩:=hh;subst hr;have hD4:=I4.pin _ (zaA _ zah);obtain ⟨m,hm,_⟩:=id I4.loc;have IX:aD X pins σ H s4:=I.call' (ch:=fp) I4.os I4.base I4.hok I4.bare fun b hb=>⟨(hf b hb).2.2.2.1,(hf b hb).2.1,(hf b hb).2.2.2.2⟩;have fD:l0 X pins H s₂.heap.objs.size:=I.fpOk (zao _) hD4.2.1;have IY:=aD.adopt (o:=.lst ys) IX fD I.sz ⟨hz,its,k,rv,hD4.1⟩;exact hRR _ _ s4 m H ys hm IY (I.fpOk hCle (by rw [L2.aB (Ne.symm hDC)];exact I4.free)) (q _ hD4.2.1)
  ·refine cy (T.item (aL X scope cl H2.objs.size s₂ H₂ fp (own++caps)) rfl rfl rfl hc i _ s3 τ H (fun _ _=>False) I3 (fpok fr3 pfp) st3 go) fun r s4 hh=>?_
   obtain ⟨u,hr,h4⟩:=hh;subst hr;refine cy h4 fun _ s5 hh=>?_;obtain ⟨x,H5,I5,r5,y5,st5,fr5⟩:=hh;have I5':=I5.pinned (fpok fr5 pfp) (T.obj _ _ st5);refine cy (hg _ _ s5 τ H5 x u _ I5' r5 (step x H5 y5)) fun _ s6 hh=>?_;obtain ⟨σ6,H6,I6,q6⟩:=hh;refine cy (ht _ _ s6 σ6 H6 _ I6 q6) fun ok s7 hh=>?_;obtain ⟨H7,I7,q7⟩:=hh;have memD:∀p∈j6 fp s5.heap,p.1≠s₂.heap.objs.size:=fun p hp z=>Dfp (z ▸ (pF hp).1)
   cases ok with
   |true =>
    refine cy (he _ _ s7 σ6 H7 _ I7 q7) fun u8 s8 hh=>?_;obtain ⟨y,H8,I8,r8,n',hn',w8⟩:=hh;have hD8:=I8.pin (s₂.heap.objs.size,_) (zaA _ (zbr _ zah));refine append_at (hsz:=by rw [zat,←rv.length];exact hz) hD8.1 fun h9 sb hD9=>?_;have I8':aD (aL X scope cl H2.objs.size s₂ H₂ fp (own++caps)) (j6 fp s5.heap) σ6 H8 s8:=I8.pins_of fun p hp=>I8.pin p (zaA _ (zaA _ hp))
    have I9:aD (aL X scope cl H2.objs.size s₂ H₂ fp (own++caps)) (j6 fp s5.heap) σ6 H8 {s8 with heap:=h9}:=I8'.turned (t':=s8.toks) (it:=s₂.heap.objs.size) (fun b o hb e=>sb.extBut b o hb e) hD8.2.1 hDC (.inr (zao _))
     (fun x c e=>zax (cellD x c e)) fun p hp=>memD p (by simpa [aL] using hp)
    have e9:(its.toArray.push u8)=(its++[u8]).toArray:=by simp
    rw [e9] at hD9;refine ⟨n',hn',i+1,ys++[y],its++[u8],k+1,σ6,H8,I9.pins_of (pinD hD8.2.1 hD9),T.keep _ _ _ st5 fun b hb o e=>(I9.pin (b,o) (zaA _ (eW hb e))).1,fun b hb=>?_,rv.append (.cons r8 .nil),by rw [zaX];exact hlt,w8⟩;obtain ⟨o,e,d⟩:=T.obj _ _ st5 b hb;exact (I9.pin (b,o) (zaA _ (eW hb e))).2.1
   |false =>
    obtain ⟨n',hn',w8⟩:=q7;have hD7:=I7.pin (s₂.heap.objs.size,_) (zaA _ (zbr _ zah));refine ⟨n',hn',i+1,ys,its,k,σ6,H7,I7.pins_of (pinD hD7.2.1 hD7.1),T.keep _ _ _ st5 fun b hb o e=>(I7.pin (b,o) (zaA _ (zaA _ (eW hb e)))).1,fun b hb=>?_,rv,hz,w8⟩;obtain ⟨o,e,d⟩:=T.obj _ _ st5 b hb;exact (I7.pin (b,o) (zaA _ (zaA _ (eW hb e)))).2.1
 exact codeAny_compStart_list (cb _ rfl) (T.self _ 0 _ _ _ st₁ (cb _ rfl))
theorem sE {X:Cx}{elt tg iter:Expr}{ifs:Tj}{scope:Scope}{pos:Pos}{own caps:Tl}{ix:List Nat}{wi:TI}{g:TG}{tc:TT}{te:TE}(hc:X.calm=true)(n:aK X.env.scope scope own caps)
  (hix:ix.length=caps.length) (hix2:∀(j i:Nat) y,ix[j]?=some i->caps[j]?=some y->X.N[i]?=some y) (hi:PI X tg iter wi)
  (hb:∀cl C s₂ H₂ fp,PG (aL X scope cl C s₂ H₂ fp (own++caps)) tg g/\lZ (aL X scope cl C s₂ H₂ fp (own++caps)) ifs tc/\PE (aL X scope cl C s₂ H₂ fp (own++caps)) elt te)
  (hs:∀x,foldedSetIterable iter X.env x=pure x:=by intro _;rfl):PE X (.ListComp elt [⟨tg,iter,ifs,0⟩] scope pos) (wf ix own wi g tc te):=by
 intro pins s σ H Q I h;obtain ⟨cl,hclos,hcl,hcl2⟩:=oo (env:=X.env) (scope:=scope) fun y hy hf=>I.ok.has y.1 (n.free y hy hf);rw [eval_ListComp];refine wpAny_comprehension_free (use:=none) rfl hs hclos n.kind n.loc (cy (hi pins s σ H _ I h) fun v s1 h1=>cy h1 fun itv s2 h2=>?_);obtain ⟨it,fp,tn,J,H2,e,I2,T,st2,f2,W,w0,turn⟩:=h2;subst e;refine pY (RR:=fun acc C=>compPost (model X.prog X.w) X.A X.xe none (EP X pins σ Q) acc C) hc I2 T st2 f2 n hcl hcl2 hix hix2 (fun C=>(hb cl C s2 H2 fp).1) (fun C=>(hb cl C s2 H2 fp).2.1) (fun C=>(hb cl C s2 H2 fp).2.2) W w0 turn ?_;intro D C s' m H' ys hm IY fC q;refine ⟨m,hm,fun h' sb=>⟨.ref D,_,IY.turned (t':=s'.toks) (it:=C) (fun b o hb e=>sb.extBut b o hb e) fC.1 fC.2.1 fC.2.2.2.1 fC.2.2.2.2.1 fC.2.2.2.2.2,rfl,q⟩⟩
theorem Az {X:Cx}{elt tg iter:Expr}{ifs:Tj}{scope:Scope}{pos spos py:Pos}{own caps:Tl}{ix:List Nat}{wi:TI}{g:TG}{tc:TT}{te:TE}{i:Nat}{y:Str}(hc:X.calm=true)(n:aK X.env.scope scope own caps)
  (hN:X.N.Nodup) (hy:X.N[i]?=some y) (hyl:Cj X.env.scope y)
  (hix:ix.length=caps.length) (hix2:∀(j i:Nat) y,ix[j]?=some i->caps[j]?=some y->X.N[i]?=some y) (hi:PI X tg iter wi)
  (hb:∀cl C s₂ H₂ fp,PG (aL X scope cl C s₂ H₂ fp (own++caps)) tg g/\lZ (aL X scope cl C s₂ H₂ fp (own++caps)) ifs tc/\PE (aL X scope cl C s₂ H₂ fp (own++caps)) elt te)
  (hsw:swapsWith (.ListComp elt [⟨tg,iter,ifs,0⟩] scope pos) (some (.Name y py)) spos.line X.env=pure true)
  (hs:∀x,foldedSetIterable iter X.env x=pure x:=by intro _;rfl) (hf:X.fn y=true\/X.env.scope.names.lookup y=some .local:=by first|exact .inl rfl|exact .inr rfl|assumption) :
  PS X (.Assign [.Name y py] (.ListComp elt [⟨tg,iter,ifs,0⟩] scope pos) spos) (zy (wf ix own wi g tc te) (pM i)):=by
 intro pins s σ H Z I h;obtain ⟨cl,hclos,hcl,hcl2⟩:=oo (env:=X.env) (scope:=scope) fun y hy hf=>I.ok.has y.1 (n.free y hy hf);rw [exec_Assign_Name_used _ _ _ _ hsw];refine zab (wpAny_standAt (zab ?_))
 show wpAny _ X.A (do let _ ←comprehension (.ListComp elt [⟨tg,iter,ifs,0⟩] scope pos) scope X.env _ (newList []) false (eval iter X.env) (some (assign (.Name y py) X.env))) _ _ s
 refine zab (zbB (wpAny_comprehension_free (use:=some (assign (.Name y py) X.env)) (Q:=fun _ s'=>SP X pins Z .next s') rfl hs hclos n.kind n.loc (cy (hi pins s σ H _ I h) fun v s1 h1=>cy h1 fun itv s2 h2=>?_)) (fun _ s' hq=>zad (zad hq)) fun _ _ e=>e);obtain ⟨it,fp,tn,J,H2,e,I2,T,st2,f2,W,w0,turn⟩:=h2;subst e;refine pY (Q:=fun x H1=>pM i x σ H1 Z.nx) (RR:=fun acc C=>compPost (model X.prog X.w) X.A X.xe (some (assign (.Name y py) X.env)) (fun _ s'=>SP X pins Z .next s') acc C) hc I2 T st2 f2 n hcl hcl2 hix hix2 (fun C=>(hb cl C s2 H2 fp).1) (fun C=>(hb cl C s2 H2 fp).2.1) (fun C=>(hb cl C s2 H2 fp).2.2) W w0 turn ?_;intro D C s' m H' ys hm IY fC q
 show wpAny _ X.A (assign (.Name y py) X.env (.ref D)) _ _ _
 refine wpAny_assign_Name (o9 (v:=.ref D) IY hN hy hyl rfl (fun s'' IZ hh=>?_) hf);obtain ⟨a,sa,ha⟩:=hh
 have nC:C≠a:=by
  rcases ha with ha|ha
  ·rw [ha];exact fC.2.1
  ·exact Ne.symm (fC.2.2.2.2.1 _ _ ha)
 refine ⟨m,hm.sameBut sa nC,fun h' sb=>⟨_,_,IZ.turned (t':=s''.toks) (it:=C) (fun b o hb e=>sb.extBut b o hb e) fC.1 fC.2.1 fC.2.2.2.1 fC.2.2.2.2.1 fC.2.2.2.2.2,q⟩⟩
section
variable  {K:zac}{m:Tf}{σ:L2.St}{H:Hp}{Q:VK}{μ:ac}
theorem Ha {B:Bool->Hp->Prop}(h:fI K dw σ H B):Kn σ H B:=by
 obtain ⟨ρ,μ,m,d,μ',hl,hs,e,k⟩:=h;cases e;exact k H m .refl hs
theorem pZ {ρ:Lo}{k:Nat}{ix:List Nat}{own:Tl}(hk:own.length=k)(h:dJ K m H ρ σ):dJ K m H (dz k ix ρ) (gQ (own.map fun _=>none) ix σ):=by
 subst hk;unfold dz gQ;refine ⟨by simp,fun i d e=>?_⟩
 by_cases hi:i < own.length
 ·rw [zai (by simpa using hi),zcu] at e
  split at e <;> cases e
 ·rw [zaO (by simpa using hi)] at e
  rw [zaO (by simpa using hi)];simp only [List.length_replicate,zal] at e ⊢;generalize i - own.length=j at e ⊢;rw [zaS] at e ⊢
  cases q:ix[j]? with
  |none=>rw [q] at e;cases e
  |some i' =>
   rw [q] at e;have e3:(ρ[i']?).join=some d:=Option.some.inj e
   have e4:ρ[i']?=some (some d):=by
    cases z:ρ[i']? with
    |none=>rw [z] at e3;cases e3
    |some w'=>rw [z] at e3;cases w' with
     |none=>cases e3
     |some _=>cases e3;rfl
   obtain ⟨v,q1,q2⟩:=h.2 i' d e4;exact ⟨v,by simp [q1],q2⟩
theorem wn {ix:List Nat}{k:Nat}{own:Tl}{fi:FI}{g:FG}{c:FT}{f:FE}(hk:own.length=k)(h:az K (cj ix k fi g c f) σ H Q):wf ix own (uh K fi) (oE K g) (fI K c) (az K f) σ H Q:=by
 obtain ⟨ρ,μ,m,d,μ',hl,hs,e,kk⟩:=h;obtain ⟨⟨xs,μ1⟩,e1,e⟩:=zaa.mp e;split at e
 ·rename_i hz
  obtain ⟨⟨r,μr⟩,e2,e⟩:=zaa.mp e;cases e;refine ⟨ρ,μ,m,xs,μ1,hl,hs,e1,fun J P H1 m1 x1 s1 ok p1=>?_⟩
  refine ⟨fun i n ys τ H=>n=xs.length - i/\i<=xs.length/\ys.length<=i/\P H/\∃ρ μ m ds r',dJ K m H ρ τ/\aO K m H μ/\RelDs K H ds ys/\bv g c f (xs.drop i) ρ μ=some (r',μr)/\r=ds++r' /\
   ∀v H' m',cQ m H m' H'->aO K m' H' (μr++[.lst r])->ar K m' H' (.p μr.length) v->Q v H',
   ⟨_,rfl,za3 _,zao _,p1,_,μ1,m1,[],r,pZ hk (hl.ext x1),s1,by simp only [RelDs],by simpa using e2,rfl,fun v H' m' x2 s2 r2=>kk v H' m' (x1.trans x2) s2 r2⟩,?_⟩
  rintro i n ys τ H ⟨rfl,hi,hy,p,ρ,μ,m,ds,r',hl,hs,rs,e,er,kk⟩
  by_cases hlt:i < xs.length
  ·have hx:xs[i]?=some xs[i]:=zas hlt
   rw [zbw hlt,bv] at e;obtain ⟨⟨ρ1,μ2⟩,q1,e⟩:=zaa.mp e;obtain ⟨⟨b,μ3⟩,q2,e⟩:=zaa.mp e;refine .inr ⟨ok.go i _ H hx p,zcp hy (zaB hlt hz),fun x H' y=>?_⟩;obtain ⟨rfl,rx⟩:=ok.yld i _ H x H' hx p y;refine ⟨ρ,μ,m,.v xs[i],ρ1,μ2,hl,hs,rx,q1,fun σ1 H1 m1 x1 s1 l1=>?_⟩;refine ⟨ρ1,μ2,m1,b,μ3,l1,s1,q2,fun H2 m2 x2 s2=>?_⟩
   cases b with
   |true =>
    simp only [if_true] at e ⊢;obtain ⟨⟨y',μ4⟩,q3,e⟩:=zaa.mp e;refine ⟨ρ1,μ3,m2,y',μ4,l1.ext x2,s2,q3,fun w H3 m3 x3 s3 r3=>?_⟩
    cases y' with
    |p _=>cases e
    |s _ _=>cases e
    |x _=>cases e
    |f _ _=>cases e
    |v d1 =>
     obtain ⟨⟨r1,μ5⟩,q4,e⟩:=zaa.mp e;cases e;have x4:=(x1.trans x2).trans x3
     refine ⟨_,(by omega:xs.length - (i+1) < xs.length - i),rfl,hlt,by rw [zaX];exact Nat.succ_le_succ hy,ok.st _ _ x4.tf p,ρ1,μ4,m3,ds++[d1],r1,l1.ext (x2.trans x3),s3,
      (RelDs.tf x4.tf _ _ rs).append (by simp only [RelDs];exact ⟨w,[],rfl,r3,rfl⟩),q4,by rw [er,zbj];rfl,fun v H' m' x5 s5 r5=>kk v H' m' (x4.trans x5) s5 r5⟩
   |false =>
    simp only [zan,if_false] at e ⊢;have x4:=x1.trans x2;exact ⟨_,(by omega:xs.length - (i+1) < xs.length - i),rfl,hlt,Nat.le_succ_of_le hy,ok.st _ _ x4.tf p,ρ1,μ3,m2,ds,r',l1.ext x2,s2,RelDs.tf x4.tf _ _ rs,e,er,fun v H' m' x5 s5 r5=>kk v H' m' (x4.trans x5) s5 r5⟩
  ·have:i=xs.length:=by omega
   subst this;rw [zcE,bv] at e;cases e;refine .inl ⟨ok.stop _ H p (zao _),fun p hp=>?_⟩;obtain ⟨a1,a2,a3⟩:=et hs rs hp;rw [zbm] at er;subst er;exact kk _ _ _ a1 a2 a3
 ·cases e
end
mutual
def kM:D->PyData
 |.non=>.none
 |.bl b=>.bool b
 |.int i=>.int i
 |.str x=>.str x
 |.tup xs=>.tuple (toPys xs)
 |.fl xs=>.list (toPys xs)
 |.fd _ _=>.none
 |.key _=>.none
def toPys:List D->List PyData
 |[]=>[]
 |x::xs=>kM x::toPys xs
end
mutual
def eU:Nat->D->Bool
 |_,.non=>true
 |_,.bl _=>true
 |_,.int _=>true
 |_,.str x=>PyData.strOk x
 |_,.fd _ _=>false
 |_,.key _=>false
 |0,.tup _=>false
 |0,.fl _=>false
 |n+1,.tup xs=>okDs n xs
 |n+1,.fl xs=>okDs n xs
def okDs:Nat->List D->Bool
 |_,[]=>true
 |n,x::xs=>eU n x && okDs n xs
end
mutual
def iF:D->D->Bool
 |.bl a,y=>match y with|.bl b=>a == b|.int j=>(if a then 1 else 0) == j|_=>false
 |.int i,y=>match y with|.bl b=>i == (if b then 1 else 0)|.int j=>i == j|_=>false
 |.str x,y=>match y with|.str z=>x == z|_=>false
 |.tup xs,y=>match y with|.tup ys=>eqDs xs ys|_=>false
 |.fl xs,y=>match y with|.fl ys=>eqDs xs ys|_=>false
 |_,y=>match y with|.non=>true|.fd _ _=>true|.key _=>true|_=>false
def eqDs:List D->List D->Bool
 |[],[]=>true
 |x::xs,y::ys=>iF x y && eqDs xs ys
 |_,_=>false
end
theorem fZ (xs ys:List D):iF (.tup xs) (.tup ys)=eqDs xs ys:=rfl
theorem iD (xs ys:List D):iF (.fl xs) (.fl ys)=eqDs xs ys:=rfl
theorem iE (a b:Bool):iF (.bl a) (.bl b)=(a == b):=rfl
theorem f6 (i j:Int):iF (.int i) (.int j)=(i == j):=rfl
theorem cY:eqDs [] []=true:=rfl
theorem bQ (x y:D)(xs ys:List D):eqDs (x::xs) (y::ys)=(iF x y && eqDs xs ys):=rfl
theorem dQ (y:D)(ys:List D):eqDs [] (y::ys)=false:=rfl
theorem dR (y:D)(ys:List D):eqDs (y::ys) []=false:=rfl
mutual
theorem vB:∀a b:D,PyData.eqv (kM a) (kM b)=iF a b
 |.non,b=>by cases b <;> rfl
 |.bl _,b=>by cases b <;> rfl
 |.int _,b=>by cases b <;> rfl
 |.str _,b=>by cases b <;> rfl
 |.tup xs,b=>by
  cases b with
  |tup ys=>exact eqDs_py xs ys
  |_=>rfl
 |.fl xs,b=>by
  cases b with
  |fl ys=>exact eqDs_py xs ys
  |_=>rfl
 |.fd _ _,b=>by cases b <;> rfl
 |.key _,b=>by cases b <;> rfl
theorem eqDs_py:∀a b:List D,PyData.eqvAll (toPys a) (toPys b)=eqDs a b
 |[],b=>by cases b <;> rfl
 |x::xs,b=>by
  cases b with
  |nil=>rfl
  |cons y ys=>rw [bQ,←vB x y,←eqDs_py xs ys];rfl
end
mutual
theorem AW:∀(n:Nat) (d:D),eU n d=true->(kM d).canLay0=true/\(kM d).depth<=n
 |_,.non,_=>by simp [kM,PyData.canLay0,PyData.depth]
 |_,.bl _,_=>by simp [kM,PyData.canLay0,PyData.depth]
 |_,.int _,_=>by simp [kM,PyData.canLay0,PyData.depth]
 |n,.str x,h=>by
  have h:PyData.strOk x=true:=by cases n <;> simpa [eU] using h
  simp [kM,PyData.canLay0,PyData.depth,h]
 |n,.fd _ _,h=>by cases n <;> simp [eU] at h
 |n,.key _,h=>by cases n <;> simp [eU] at h
 |0,.tup _,h=>by simp [eU] at h
 |0,.fl _,h=>by simp [eU] at h
 |n+1,.tup xs,h=>by
  obtain ⟨a,b⟩:=okDs_py n xs (by simpa [eU] using h);simp only [kM,PyData.canLay0,PyData.depth];exact ⟨a,by omega⟩
 |n+1,.fl xs,h=>by
  obtain ⟨a,b⟩:=okDs_py n xs (by simpa [eU] using h);simp only [kM,PyData.canLay0,PyData.depth];exact ⟨a,by omega⟩
theorem okDs_py:∀(n:Nat) (ds:List D),okDs n ds=true->PyData.canLayAll0 (toPys ds)=true/\PyData.depthAll (toPys ds)<=n
 |_,[],_=>by simp [toPys,PyData.canLayAll0,PyData.depthAll]
 |n,x::xs,h=>by
  have h':eU n x=true/\okDs n xs=true:=by cases n <;> simpa [okDs] using h
  obtain ⟨a1,b1⟩:=AW n x h'.1;obtain ⟨a2,b2⟩:=okDs_py n xs h'.2;simp only [toPys,PyData.canLayAll0,PyData.depthAll,a1,a2,zc4,true_and];omega
end
theorem jt {d:D}(h:eU 60 d=true):SeqAt.shaped (kM d)=true:=by
 obtain ⟨a,b⟩:=AW 60 d h;unfold SeqAt.shaped;rw [a,Bool.true_and];exact zaQ (by omega)
section
variable  {X:Cx}{pins:Tc}{σ:L2.St}{H:Hp}{s:Shared}
mutual
theorem si (I:aD X pins σ H s):∀(k:Nat) (d:D) (v:V) (u:Value),eU k d=true->am X.K H d v->aY v u->∃as,Reads s.heap u (kM d) as
 |_,.non,v,u,_,h,r=>by simp only [am] at h;subst h;cases r;exact ⟨_,.none⟩
 |_,.bl b,v,u,_,h,r=>by simp only [am] at h;subst h;cases r;exact ⟨_,.bool b⟩
 |_,.int i,v,u,_,h,r=>by simp only [am] at h;subst h;obtain ⟨t,rfl⟩:=r;exact ⟨_,.int i t⟩
 |_,.str x,v,u,_,h,r=>by simp only [am] at h;subst h;obtain ⟨t,rfl⟩:=r;exact ⟨_,.str x t⟩
 |_,.fd _ _,v,u,hk,h,r=>by simp [eU] at hk
 |_,.key _,v,u,hk,h,r=>by simp [eU] at hk
 |0,.tup xs,v,u,hk,h,r=>by simp [eU] at hk
 |0,.fl xs,v,u,hk,h,r=>by simp [eU] at hk
 |k+1,.tup xs,v,u,hk,h,r=>by
  simp only [am] at h;obtain ⟨a,vs,rfl,q,h⟩:=h;cases r;obtain ⟨its,rv,⟨o,e,c,n,hd⟩,_⟩:=I.tuple q;obtain ⟨as,ra⟩:=readss_of I k xs vs its (by simpa [eU] using hk) h rv;exact ⟨_,.tuple e c hd (by simpa using ra)⟩
 |k+1,.fl xs,v,u,hk,h,r=>by
  simp only [am] at h;obtain ⟨a,vs,rfl,q,h⟩:=h;cases r;obtain ⟨its,rv,⟨o,n,e,c,_,hd⟩,_⟩:=I.list q.sq;obtain ⟨as,ra⟩:=readss_of I k xs vs its (by simpa [eU] using hk) h rv;exact ⟨_,.list e c hd (by simpa using ra)⟩
theorem readss_of (I:aD X pins σ H s):∀(k:Nat) (ds:List D) (vs:List V) (us:Te),okDs k ds=true->RelDs X.K H ds vs->aU vs us->∃as,ReadsAll s.heap us (toPys ds) as
 |_,[],vs,us,_,h,r=>by simp only [RelDs] at h;subst h;cases r;exact ⟨_,.nil⟩
 |k,d::ds,vs,us,hk,h,r=>by
  have hk:eU k d=true/\okDs k ds=true:=by cases k <;> simpa [okDs] using hk
  simp only [RelDs] at h;obtain ⟨v,vr,rfl,h1,h2⟩:=h
  cases r with
  |cons r1 r2 =>
   obtain ⟨as,q1⟩:=si I k d v _ hk.1 h1 r1;obtain ⟨bs,q2⟩:=readss_of I k ds vr _ hk.2 h2 r2;exact ⟨_,.cons q1 q2⟩
end
end
def kH:R->ac->Option D
 |.v d,_=>some d
 |.p n,μ=>match μ[n]? with|some (.lst xs)=>some (.fl xs)|some (.fz xs)=>some (.fl xs)|_=>none
 |_,_=>none
def jh (neg:Bool):R->R->ac->Option (R×ac):=fun x y μ=>(kH x μ).bind fun a=>(kH y μ).bind fun b=>if (eU 60 a && eU 60 b)=true then some (.v (.bl (if neg then !iF a b else iF a b)),μ) else none
def Dg (K:zac)(neg:Bool):R2:=fun v u H Q=>∃m μ x y d,aO K m H μ/\ar K m H x v/\ar K m H y u/\jh neg x y μ=some (.v (.bl d),μ)/\Q (.bl d) H
theorem Jb {K:zac}{neg:Bool}:oW K (jh neg) (Dg K neg):=by
 intro m H μ x y d μ' v u Q s rx ry e k;have e0:=e;unfold jh at e;obtain ⟨a,e1,e⟩:=zaa.mp e;obtain ⟨b,e2,e⟩:=zaa.mp e;split at e
 ·cases e
  exact ⟨m,μ,x,y,_,s,rx,ry,e0,k _ H m .refl s (by simp only [ar,am])⟩
 ·cases e
theorem ip {X:Cx}{H:Hp}{s:Shared}{m:Tf}{μ:ac}{x:R}{d:D}{v:V}{u:Value}(I:aD X pins σ H s)(S:aO X.K m H μ)(r:ar X.K m H x v)(ru:aY v u)(e:kH x μ=some d)(hk:eU 60 d=true):∃as,Reads s.heap u (kM d) as:=by
 cases x with
 |v d'=>cases e;exact si I 60 _ _ _ hk r ru
 |s _ _=>cases e
 |x _=>cases e
 |f _ _=>cases e
 |p n =>
  have hl:∃xs,d=.fl xs/\d5 (.p n) μ=some xs:=by
   simp only [kH] at e;split at e
   ·rename_i xs q;cases e;exact ⟨xs,rfl,by simp [d5,q]⟩
   ·rename_i xs q;cases e;exact ⟨xs,rfl,by simp [d5,q]⟩
   ·cases e
  obtain ⟨xs,rfl,e2⟩:=hl;obtain ⟨a,vs,rfl,q,rr⟩:=fO S r e2;cases ru;obtain ⟨its,rv,⟨o,n',e,c,_,hd⟩,_⟩:=I.list q;obtain ⟨as,ra⟩:=readss_of I 59 xs vs its (by simpa [eU] using hk) rr rv;exact ⟨_,.list e c hd (by simpa using ra)⟩
theorem uQ {X:Cx}(hu:X.A.units+64 < cLine):jU X (compareOp .Eq) (Dg X.K false):=by
 intro pins s σ H v u v' u' Q I rv ru q;obtain ⟨m,μ,x,y,d,S,rx,ry,e,q⟩:=q;unfold jh at e;obtain ⟨a,e1,e⟩:=zaa.mp e;obtain ⟨b,e2,e⟩:=zaa.mp e;split at e
 ·rename_i z
  rw [zbP] at z;cases e;obtain ⟨as,r1⟩:=ip I S rx rv e1 z.1;obtain ⟨bs,r2⟩:=ip I S ry ru e2 z.2;exact eq_dataH r1 r2 (jt z.1) (jt z.2) hu ⟨_,H,I,by rw [vB];rfl,q⟩
 ·cases e
theorem AS {X:Cx}(hu:X.A.units+64 < cLine):jU X (compareOp .NotEq) (Dg X.K true):=by
 intro pins s σ H v u v' u' Q I rv ru q;obtain ⟨m,μ,x,y,d,S,rx,ry,e,q⟩:=q;unfold jh at e;obtain ⟨a,e1,e⟩:=zaa.mp e;obtain ⟨b,e2,e⟩:=zaa.mp e;split at e
 ·rename_i z
  rw [zbP] at z;cases e;obtain ⟨as,r1⟩:=ip I S rx rv e1 z.1;obtain ⟨bs,r2⟩:=ip I S ry ru e2 z.2;exact ne_dataH r1 r2 (jt z.1) (jt z.2) hu ⟨_,H,I,by rw [vB];rfl,q⟩
 ·cases e
def F6 (neg:Bool)(c:D):R->ac->Option (R×ac):=fun x μ=>match c,x with
 |.non,.v .non=>some (.v (.bl (!neg)),μ)
 |.bl b,.v (.bl a)=>some (.v (.bl (if neg then !(a == b) else a == b)),μ)
 |_,_=>some (.v (.bl neg),μ)
def HI (neg:Bool)(c:V):R2:=fun x y H Q=>y=c/\Q (.bl (if neg then !decide (x=c) else decide (x=c))) H
section
variable  {X:Cx}
theorem sG:jU X (compareOp .IsNot) (HI true .non):=DM
end
theorem IT {K:zac}{m:Tf}{H:Hp}{neg:Bool}{c:D}{cv v:V}{x d:R}{μ μ':ac}(hc:(c=.non/\cv=.non)\/∃b,c=.bl b/\cv=.bl b)(r:ar K m H x v)(e:F6 neg c x μ=some (d,μ')) :
  μ'=μ/\d=.v (.bl (if neg then !decide (v=cv) else decide (v=cv))):=by
 have nn:∀d0,d0≠.non->am K H d0 v->v≠.non:=fun d0 h1 h2 z=>by
  subst z;cases d0 <;> simp only [am] at h2 <;> first|exact h1 rfl|(obtain ⟨_,_,_,h,_⟩:=h2;cases h;done)|(obtain ⟨_,_,h,_⟩:=h2;cases h;done)|(obtain ⟨_,h,_⟩:=h2;cases h;done)|cases h2
 have nb:∀d0 b,(∀a,d0≠.bl a)->am K H d0 v->v≠.bl b:=fun d0 b h1 h2 z=>by
  subst z;cases d0 <;> simp only [am] at h2 <;> first|exact h1 _ rfl|(obtain ⟨_,_,_,h,_⟩:=h2;cases h;done)|(obtain ⟨_,_,h,_⟩:=h2;cases h;done)|(obtain ⟨_,h,_⟩:=h2;cases h;done)|cases h2
 have np:∀n,ar K m H (.p n) v->v≠.non/\∀b,v≠.bl b:=fun n ⟨a,e,_⟩=>⟨fun z=>(by rw [e] at z;cases z),fun b z=>(by rw [e] at z;cases z)⟩;have ns:∀b' n,ar K m H (.s b' n) v->v≠.non/\∀b,v≠.bl b:=fun b' n ⟨a,_,e,_⟩=>⟨fun z=>(by rw [e] at z;cases z),fun b z=>(by rw [e] at z;cases z)⟩;have nx:∀c,ar K m H (.x c) v->v≠.non/\∀b,v≠.bl b:=fun c ⟨a,_,_,e,_⟩=>⟨fun z=>(by rw [e] at z;cases z),fun b z=>(by rw [e] at z;cases z)⟩;have nf:∀L ds,ar K m H (.f L ds) v->v≠.non/\∀b,v≠.bl b:=fun L ds ⟨a,_,_,_,_,e,_⟩=>⟨fun z=>(by rw [e] at z;cases z),fun b z=>(by rw [e] at z;cases z)⟩;rcases hc with ⟨rfl,rfl⟩|⟨b,rfl,rfl⟩
 ·cases x with
  |v d0 =>
   by_cases h0:d0=.non
   ·subst h0
    have r:v=.non:=by simpa only [ar,am] using r
    subst r;cases e;cases neg <;> simp
   ·have:=nn d0 h0 r
    cases d0 <;> first|exact absurd rfl h0|(cases e;cases neg <;> simp [this])
  |p n=>have:=(np n r).1;cases e;cases neg <;> simp [this]
  |s b' n=>have:=(ns b' n r).1;cases e;cases neg <;> simp [this]
  |x c=>have:=(nx c r).1;cases e;cases neg <;> simp [this]
  |f L ds=>have:=(nf L ds r).1;cases e;cases neg <;> simp [this]
 ·cases x with
  |v d0 =>
   by_cases h0:∃a,d0=.bl a
   ·obtain ⟨a,rfl⟩:=h0
    have r:v=.bl a:=by simpa only [ar,am] using r
    subst r;cases e;cases neg <;> cases a <;> cases b <;> simp
   ·have:=nb d0 b (fun a z=>h0 ⟨a,z⟩) r
    cases d0 <;> first|exact absurd ⟨_,rfl⟩ h0|(cases e;cases neg <;> simp [this])
  |p n=>have:=(np n r).2 b;cases e;cases neg <;> simp [this]
  |s b' n=>have:=(ns b' n r).2 b;cases e;cases neg <;> simp [this]
  |x c=>have:=(nx c r).2 b;cases e;cases neg <;> simp [this]
  |f L ds=>have:=(nf L ds r).2 b;cases e;cases neg <;> simp [this]
theorem KG {K:zac}{H:Hp}{Q:VK}{fa:FE}{neg:Bool}{c:D}{cv:V}(hc:(c=.non/\cv=.non)\/∃b,c=.bl b/\cv=.bl b)(h:az K (mn (F6 neg c) fa) σ H Q):JL (HI neg cv) (az K fa) (tC cv) σ H Q:=by
 obtain ⟨ρ,μ,m,d,μ',hl,hs,e,k⟩:=h;obtain ⟨⟨x,μ1⟩,e1,e⟩:=zaa.mp e;refine ⟨ρ,μ,m,x,μ1,hl,hs,e1,fun v H1 m1 x1 s1 r1=>⟨rfl,?_⟩⟩;obtain ⟨rfl,rfl⟩:=IT hc r1 e;exact k _ H1 m1 x1 s1 (by simp only [ar,am])
def QC:R->ac->Option String
 |.v .non,_=>some "NoneType"
 |.v (.bl _),_=>some "bool"
 |.v (.int _),_=>some "int"
 |.v (.str _),_=>some "str"
 |.v (.tup _),_=>some "tuple"
 |.v (.fl _),_=>some "list"
 |.v (.fd _ _),_=>some "dict"
 |.v (.key _),_=>some "tuple"
 |.p n,μ=>match μ[n]? with|some (.lst _)=>some "list" | some (.fz _)=>some "list" | some (.dct _)=>some "dict" | _=>none
 |.s _ _,_=>none
 |.x _,_=>none
 |.f _ _,_=>none
def jc (T:String):R->ac->Option (R×ac):=fun x μ=>(QC x μ).bind fun t=>some (.v (.bl (t == T || (t == "bool" && T == "int"))),μ)
def oD (K:zac)(T:String):Prop:=∀t∈["NoneType","bool","int","str","tuple","list","dict"],PySem.W.kitOne K (.type t) (.type T)=some (t == T || (t == "bool" && T == "int"))
def KW (K:zac)(T:String):List V->Hp->VK->Prop:=fun vs H Q=>∃m μ x v d,vs=[v,.ty T]/\aO K m H μ/\ar K m H x v/\jc T x μ=some (.v (.bl d),μ)/\Q (.bl d) H
theorem B4 {X : Cx} {T : String} (hT : oD X.K T) : im X (.builtin "isinstance") (KW X.K T) := by
  intro pins s σ H vs us Q I rv q
  obtain ⟨m, μ, x, v, d, rfl, S, rx, e, q⟩ := q
  obtain ⟨t, e1, e⟩ := zaa.mp e
  cases e
  cases rv with
  | cons r1 rr =>
    cases rr with
    | cons r2 rr =>
      cases rr
      cases r2
      have fin : ∀ tk, EP X pins σ Q (.bool (t == T || (t == "bool" && T == "int"))) { s with toks := tk } := fun tk => ⟨.bl _, H, I.tok tk, rfl, q⟩
      cases x with
      | v d0 =>
        cases d0 with
        | non => cases e1; have r : v = .non := by simpa only [ar, am] using rx
                 subst r; cases r1; exact zbq PySem.W.kitx_none I.kIn True.intro (hT _ (by simp)) (fun z => nomatch z) fin
        | bl b => cases e1; have r : v = .bl b := by simpa only [ar, am] using rx
                  subst r; cases r1; exact zbq PySem.W.kitx_bool I.kIn True.intro (hT _ (by simp)) (fun z => nomatch z) fin
        | int i => cases e1; have r : v = .int i := by simpa only [ar, am] using rx
                   subst r; obtain ⟨t, rfl⟩ := r1; exact zbq PySem.W.kitx_int I.kIn True.intro (hT _ (by simp)) (fun z => nomatch z) fin
        | str i => cases e1; have r : v = .str i := by simpa only [ar, am] using rx
                   subst r; obtain ⟨t, rfl⟩ := r1; exact zbq PySem.W.kitx_str I.kIn True.intro (hT _ (by simp)) (fun z => nomatch z) fin
        | tup xs =>
          cases e1
          simp only [ar, am] at rx
          obtain ⟨a, ws, rfl, q', _⟩ := rx
          cases r1
          obtain ⟨its, _, ⟨o, h1, h2, _⟩, _⟩ := I.tuple q'
          exact zbq PySem.W.kitx_tuple I.kIn ⟨o, h1, h2⟩ (hT _ (by simp)) (fun z => nomatch z) fin
        | fl xs =>
          cases e1
          simp only [ar, am] at rx
          obtain ⟨a, ws, rfl, q', _⟩ := rx
          cases r1
          obtain ⟨its, _, ⟨o, n, h1, h2, _⟩, _⟩ := I.list q'.sq
          exact zbq zc9 I.kIn ⟨o, h1, h2⟩ (hT _ (by simp)) (fun z => nomatch z) fin
        | fd ks ds =>
          cases e1
          simp only [ar, am] at rx
          obtain ⟨a, o', es, rfl, q', _⟩ := rx
          cases r1
          obtain ⟨_, _, _, vs, _, p⟩ := (show bE X.prog X.w H s.heap a (.frz o' (.dK es)) from I.hok a _ q')
          obtain ⟨o, es', ep, h1, h2, _⟩ := p
          exact zbq PySem.W.kitx_dict I.kIn ⟨o, h1, h2.1⟩ (hT _ (by simp)) (fun z => nomatch z) fin
        | key ks =>
          cases e1
          simp only [ar, am] at rx
          obtain ⟨a, rfl, q'⟩ := rx
          cases r1
          obtain ⟨its, _, ⟨o, h1, h2, _⟩, _⟩ := I.tuple (.inl (.inl q'))
          exact zbq PySem.W.kitx_tuple I.kIn ⟨o, h1, h2⟩ (hT _ (by simp)) (fun z => nomatch z) fin
      | s _ _ => cases e1
      | x _ => cases e1
      | f _ _ => cases e1
      | p n =>
        obtain ⟨a, rfl, ha⟩ := rx
        cases r1
        simp only [QC] at e1
        split at e1
        · rename_i xs z
          cases e1
          obtain ⟨ws, q', _⟩ := S.cell n _ a z ha
          obtain ⟨its, _, ⟨o, n, h1, h2, _⟩, _⟩ := I.list (.inl (.inl q'))
          exact zbq zc9 I.kIn ⟨o, h1, h2⟩ (hT _ (by simp)) (fun z => nomatch z) fin
        · rename_i xs z
          cases e1
          obtain ⟨o', ws, q', _⟩ := S.cell n _ a z ha
          obtain ⟨its, _, ⟨o, n, h1, h2, _⟩, _⟩ := I.list (.inl (.inr ⟨o', q'⟩))
          exact zbq zc9 I.kIn ⟨o, h1, h2⟩ (hT _ (by simp)) (fun z => nomatch z) fin
        · rename_i kvs z
          cases e1
          obtain ⟨es, q', _⟩ := S.cell n _ a z ha
          obtain ⟨_, _, vs, _, p⟩ := (show bE X.prog X.w H s.heap a (.dK es) from I.hok a _ q')
          obtain ⟨o, es', ep, h1, h2, _⟩ := p
          exact zbq PySem.W.kitx_dict I.kIn ⟨o, h1, h2.1⟩ (hT _ (by simp)) (fun z => nomatch z) fin
        · cases e1
theorem Ho {K:zac}{H:Hp}{Q:VK}{fa:FE}{T:String}(h:az K (mn (jc T) fa) σ H Q):GU (KW K T) (kO (az K fa) (kO (tC (.ty T)) rW)) σ H Q:=by
 obtain ⟨ρ,μ,m,d,μ',hl,hs,e,k⟩:=h;obtain ⟨⟨x,μ1⟩,e1,e⟩:=zaa.mp e;have e0:=e;obtain ⟨t,e2,e⟩:=zaa.mp e;cases e;exact ⟨ρ,μ,m,x,_,hl,hs,e1,fun v H1 m1 x1 s1 r1=>⟨m1,_,x,v,_,rfl,s1,r1,e0,k _ H1 m1 x1 s1 (by simp only [ar,am])⟩⟩
def kq:List D->Option (List Bool)
 |[]=>some []
 |.bl b::r=>(kq r).bind fun bs=>some (b::bs)
 |_::_=>none
def Cc (any:Bool):List R->ac->Option (R×ac)
 |[x],μ=>(d5 x μ).bind fun xs=>(kq xs).bind fun bs=>some (.v (.bl (if any then bs.any id else bs.all id)),μ)
 |_,_=>none
def KZ (K:zac)(any:Bool):List V->Hp->VK->Prop:=fun vs H Q=>∃(a:Addr) (bs:List Bool),vs=[.ref a]/\g9 K H a (bs.map V.bl)/\Q (.bl (if any then bs.any id else bs.all id)) H
theorem pW {K:zac}{H:Hp}:∀{ds:List D} {bs:List Bool} {vs:List V},kq ds=some bs->RelDs K H ds vs->vs=bs.map V.bl
 |[],_,_,e,h=>by cases e;simp only [RelDs] at h;exact h
 |.bl b::r,_,_,e,h=>by
  obtain ⟨bs,e1,e⟩:=zaa.mp e;cases e;simp only [RelDs] at h;obtain ⟨v,vr,rfl,h1,h2⟩:=h;simp only [am] at h1;subst h1;rw [pW e1 h2];rfl
 |.non::_,_,_,e,_=>by cases e
 |.int _::_,_,_,e,_=>by cases e
 |.str _::_,_,_,e,_=>by cases e
 |.tup _::_,_,_,e,_=>by cases e
 |.fl _::_,_,_,e,_=>by cases e
 |.fd _ _::_,_,_,e,_=>by cases e
 |.key _::_,_,_,e,_=>by cases e
theorem LP {K:zac}{any:Bool}:Cy K (Cc any) (KZ K any):=by
 intro m H μ xs d μ' vs Q s r e k;unfold Cc at e;split at e
 ·rename_i x
  obtain ⟨ys,e1,e⟩:=zaa.mp e;obtain ⟨bs,e2,e⟩:=zaa.mp e;cases e;obtain ⟨v,rfl,r1⟩:=oO r;obtain ⟨a,ws,rfl,q,r2⟩:=fO s r1 e1;rw [pW e2 r2] at q;exact ⟨a,bs,rfl,q,k _ H m .refl s (by simp only [ar,am])⟩
 ·cases e
theorem B6 {bs:List Bool}{its:Te}(r:aU (bs.map V.bl) its):∀(i:Nat) v,its.toArray[i]?=some v->v=.bool (bs.getD i false)/\i < bs.length:=fun i v e=>by
 have e:its[i]?=some v:=by simpa using e
 have hi:i < its.length:=(zau.mp e).1;have hl:=r.length;rw [zal] at hl
 have hb:i < bs.length:=by omega
 obtain ⟨u,q1,q2⟩:=aU.get (i:=i) (x:=.bl bs[i]) r (by simp [hb]);rw [e] at q1;cases q1;cases q2;simp [hb]
theorem xM {bs:List Bool}:((List.range bs.length).all fun i=>bs.getD i false)=bs.all id:=by
 rw [zcP,List.all_eq_true,List.all_eq_true];constructor
 ·intro h x hx
  obtain ⟨i,hi,rfl⟩:=za7 hx;have:=h i (zbp.mpr hi);simpa [hi] using this
 ·intro h i hi
  have hi:=zbp.mp hi;have:=h bs[i] (zcC hi);simpa [hi] using this
theorem yt {X:Cx}(hc:X.calm=true):im X (.builtin "all") (KZ X.K false):=by
 intro pins s σ H vs us Q I rv q;obtain ⟨a,bs,rfl,q',q⟩:=q
 cases rv with
 |cons r1 rr =>
  cases rr;cases r1;obtain ⟨its,rv,p,hz⟩:=I.list q'
  have hlt:a < s.heap.objs.size:=by obtain ⟨o,n,e,_⟩:=p;exact zam e
  refine call_all_walk (zch p.isList ?_);refine ⟨_,_,_,_,_,_,fun i=>bs.getD i false,rfl,Walks.list (A:=X.A.in1) (show X.A.in1.handled=none from I.ok.hd hc) s.heap.objs.size a (zax hlt) its.toArray,⟨⟨_,zaq _ rfl,rfl,rfl⟩,p.isList.push _⟩,fun i v s' Q' E' hv hq=>?_,fun h' tk hk=>?_⟩
  ·rw [(B6 rv i v hv).1]
   exact zcg hq
  ·have hl:its.toArray.size=bs.length:=by have:=rv.length;rw [zal] at this;simp [this]
   rw [hl,xM];refine ⟨.bl _,H,I.kept (t':=tk) fun b o e=>hk b o ?_ (zae _ e),rfl,q⟩;intro z;rw [zaE.mp z] at e;exact absurd (zam e) (zaG _)
end HW
namespace HW
open PySem PySem.Spec PyProof.Rows L2 HS
def yg (x:Int):List Int->Th
 |[]=>[x]
 |y::ys=>if x<=y then x::y::ys else y::yg x ys
def gr:List Int->Th
 |[]=>[]
 |x::xs=>yg x (gr xs)
theorem lN (x:Int):∀xs,(yg x xs).Perm (x::xs)
 |[]=>.refl _
 |y::ys=>by
  unfold yg;split
  ·exact .refl _
  ·exact ((lN x ys).cons y).trans (.swap _ _ _)
theorem cN:∀xs,(gr xs).Perm xs
 |[]=>.refl _
 |x::xs=>(lN x _).trans ((cN xs).cons x)
theorem mj (x:Int):∀{xs:Th},xs.Pairwise (·<=·)->(yg x xs).Pairwise (·<=·)
 |[],_=>zb8 _ _
 |y::ys,h=>by
  unfold yg;obtain ⟨h1,h2⟩:=zay.mp h;split
  ·rename_i hxy
   refine zay.mpr ⟨fun z hz=>?_,h⟩;rcases zak.mp hz with rfl|hz
   ·exact hxy
   ·exact Int.le_trans hxy (h1 z hz)
  ·rename_i hxy
   refine zay.mpr ⟨fun z hz=>?_,mj x h2⟩;rcases zak.mp ((lN x ys).mem_iff.mp hz) with rfl|hz
   ·omega
   ·exact h1 z hz
theorem iA:∀xs,(gr xs).Pairwise (·<=·)
 |[]=>.nil
 |x::xs=>mj x (iA xs)
theorem nv:∀{xs ys:Th},xs.Pairwise (·<=·)->ys.Pairwise (·<=·)->xs.Perm ys->xs=ys
 |[],ys,_,_,p=>(List.Perm.nil_eq p)
 |x::xs,[],_,_,p=>absurd p.length_eq (by simp)
 |x::xs,y::ys,hx,hy,p=>by
  obtain ⟨hx1,hx2⟩:=zay.mp hx;obtain ⟨hy1,hy2⟩:=zay.mp hy
  have e:x=y:=by
   have h1:x∈y::ys:=p.mem_iff.mp (by simp);have h2:y∈x::xs:=p.mem_iff.mpr (by simp);rcases zak.mp h1 with h|h
   ·exact h
   ·rcases zak.mp h2 with h'|h'
    ·exact h'.symm
    ·exact Int.le_antisymm (hx1 y h') (hy1 x h)
  subst e;rw [nv hx2 hy2 ((List.perm_cons _).mp p)]
theorem Bp {xs ns:Th}(h:ns.Pairwise (·<=·))(p:ns.Perm xs):ns=gr xs:=nv h (iA xs) (p.trans (cN xs).symm)
theorem f8:∀{ns:Th} {its:Te},aU (ns.map V.int) its->IntsAre its ns
 |[],its,h=>by cases h;exact .nil
 |n::ns,its,h=>by
  cases h with
  |cons r t=>obtain ⟨tk,rfl⟩:=r;exact .cons n tk (f8 t)
theorem pJ:∀{ns:Th} {its:Te},IntsAre its ns->aU (ns.map V.int) its
 |_,_,.nil=>.nil
 |_,_,.cons n t h=>.cons ⟨t,rfl⟩ (pJ h)
abbrev jz (o:Obj):HO:=.frz o (.ext fun _=>True)
theorem aD.drw {H:Hp}{s:Shared}(I:aD X pins σ H s)(d:Drawn):aD X pins σ H {s with drawn:=d} :=
 ⟨I.ok,I.os,I.bare,I.base,I.loc,I.cell,I.free,I.freeC,I.pin,I.hok,I.len⟩
def fT:List D->Option (Th)
 |[]=>some []
 |.int n::r=>(fT r).map (n :: ·)
 |_=>none
theorem nX:∀{ds:List D} {ns:Th},fT ds=some ns->ds=ns.map D.int
 |[],ns,e=>by cases e;rfl
 |d::r,ns,e=>by
  cases d <;> simp only [fT] at e <;> first|cases e|skip;obtain ⟨ms,e1,rfl⟩:=zaM.mp e;rw [nX e1];rfl
theorem nW {K:zac}{H:Hp}:∀{ns:Th} {vs:List V},RelDs K H (ns.map D.int) vs->vs=ns.map V.int
 |[],vs,h=>h
 |n::ns,vs,h=>by
  obtain ⟨v,r,rfl,h1,h2⟩:=h
  have h1:v=.int n:=by simpa only [am] using h1
  rw [h1,nW h2];rfl
theorem nF {K:zac}{H:Hp}:∀{ns:Th},RelDs K H (ns.map D.int) (ns.map V.int)
 |[]=>rfl
 |n::ns=>⟨_,_,rfl,by simp only [am],nF⟩
def MR (neg:Bool):R->R->ac->Option (R×ac)
 |.v (.int i),y,μ=>(eY y μ).bind fun ds=>(fT ds).bind fun ns=>some (.v (.bl (if neg then !ns.contains i else ns.contains i)),μ)
 |_,_,_=>none
theorem sX {i:Int}:∀{ns:Th},MQ (.int i) (ns.map V.int)=ns.contains i
 |[]=>rfl
 |n::ns=>by
  have ih:=sX (i:=i) (ns:=ns);unfold MQ at ih ⊢;rw [zaf,zbA,ih,List.contains_cons];simp only [El];rw [show (n == i)=(i == n) from zcP.mpr ⟨fun h=>beq_iff_eq.mpr (beq_iff_eq.mp h).symm,fun h=>beq_iff_eq.mpr (beq_iff_eq.mp h).symm⟩]
theorem pP:∀{ns:Th},(ns.map V.int).all ly=true
 |[]=>rfl
 |n::ns=>by rw [zaf,List.all_cons,pP];rfl
theorem LL {K:zac}{neg:Bool}:oW K (MR neg) (MI K neg):=by
 intro m H μ x y d μ' v u Q s rx ry e k;unfold MR at e;split at e
 ·obtain ⟨ds,e0,e⟩:=zaa.mp e
  obtain ⟨ns,e1,e⟩:=zaa.mp e;cases e;simp only [ar,am] at rx;subst rx;obtain ⟨a,ws,rfl,q,rr⟩:=ja s ry e0;rw [nX e1] at rr;rw [nW rr] at q;refine ⟨a,ns.map V.int,rfl,q,rfl,pP,k _ H m .refl s ?_⟩;simp only [ar,am,sX]
 ·cases e
def eI (K:zac)(H:Hp):List V->List (aE×V)->Prop:=Paired fun v kv=>∃t,v=.ref t/\gG K H t [kV kv.1,kv.2]
def lJ (kvs ps:List (aE×V)):List (aE×V):=ps.foldl (fun a p=>fW a p.1 p.2) kvs
theorem sx:∀(ps kvs:List (aE×V)),(lJ kvs ps).length<=kvs.length+ps.length
 |[],kvs=>by simp [lJ]
 |p::ps,kvs=>by
  have h1:=sx ps (fW kvs p.1 p.2);have h2:=gM kvs p.1 p.2;simp only [lJ,zbf,zaD] at h1 ⊢;omega
theorem sw:∀{ps:List (aE×V)} {qs:List (aE×Value)} {kvs:List (aE×V)} {vs:List (aE×Value)},KV kvs vs->KV ps qs->KV (lJ kvs ps) (HS.putAll vs qs)
 |_,_,_,_,r,.nil=>r
 |p::ps,q::qs,_,_,r,.cons e t=>by
  obtain ⟨e1,e2⟩:=e;simp only [lJ,HS.putAll,zbf];rw [←e1];exact sw (ps:=ps) (qs:=qs) (KV.put r p.1 e2) t
theorem AQ {X : Cx} {H : Hp} {s : Shared} (I : aD X pins σ H s) : ∀ {ws : List V} {kvs : List (aE × V)} {its : Te}, eI X.K H ws kvs -> aU ws its ->
    ∃ ps : List (aE × Value), KV kvs ps /\ ps.length = its.length /\ ∀ (i : Nat) v, its[i]? = some v -> ∃ k x key, ps[i]? = some (k, x) /\ (aX X.prog X.w).is k key = true /\ kE s.heap v key x := by
  intro ws kvs its p v
  induction p generalizing its with
  | nil => cases v; exact ⟨[], .nil, rfl, fun i v e => by simp at e⟩
  | @cons _ kv _ _ hp tp ih =>
   obtain ⟨k, y⟩ := kv
   cases v with
   | cons hv tv =>
    obtain ⟨ps, a1, a2, a3⟩ := ih tv
    obtain ⟨t, rfl, hs⟩ := hp
    cases hv
    obtain ⟨js, r, ⟨o, ho, hc, n, hd⟩, _⟩ := I.tuple hs
    cases r with
    | cons r1 rr =>
      cases rr with
      | cons r2 rr =>
        cases rr
        rename_i key x
        refine ⟨(k, x) :: ps, .cons ⟨rfl, r2⟩ a1, by simp [a2], fun i v e => ?_⟩
        cases i with
        | zero => simp at e; subst e; exact ⟨k, x, key, rfl, mi r1, ⟨t, o, n, rfl, ho, hc, hd⟩⟩
        | succ i => simpa using a3 i v (by simpa using e)
def Ao (K:zac):List V->Hp->VK->Prop:=fun vs H Q=>∃p ws kvs,vs=[.ref p]/\H p=some (.lst ws)/\eI K H ws kvs/\∀l,H l=none->Q (.ref l) (upd H l (.dK (lJ [] kvs)))
theorem pV {X:Cx}(hc:X.calm=true):im X (.type "dict") (Ao X.K):=by
 intro pins s σ H vs us Q I r h;obtain ⟨p,ws,kvs,rfl,hH,hp,q⟩:=h;obtain ⟨u,rfl,rx⟩:=l7 r;cases rx;obtain ⟨z,its,n,rv,hl,e⟩:=I.lstM hH;obtain ⟨ps,a1,a2,a3⟩:=AQ I hp rv
 have hk:kvs.length=its.length:=by have:=Paired.length a1;omega
 refine BY (knd:=aX X.prog X.w) (ps:=ps) (I.ok.hd hc) e (by simpa using a2) (by simp;omega) (fun i v hv=>a3 i v (by simpa using hv)) fun h' tk hD kp=>?_
 have hz:(lJ [] kvs).length<=sizeLine:=by have:=sx kvs [];simp at this;omega
 exact ⟨.ref s.heap.objs.size,_,I.laid (t':=tk) kp (zao _) (show bE X.prog X.w _ h' _ (.dK _) from ⟨hz,beq_eq_false_iff_ne.mpr (zbF I.big),_,sw .nil a1,hD⟩),rfl,q _ (I.hok.fresh (zao _))⟩
def gl:List D->Option (List (aE×D))
 |[]=>some []
 |.tup [.int i,d]::r=>(gl r).map ((.inl i,d) :: ·)
 |_=>none
def kY (kvs:List (aE×D))(k:aE)(v:D):List (aE×D):=if (kvs.any fun kv=>decide (kv.1=k))=true then kvs.map (fun kv=>if kv.1=k then (kv.1,v) else kv) else kvs++[(k,v)]
def mX (kvs ps:List (aE×D)):List (aE×D):=ps.foldl (fun a p=>kY a p.1 p.2) kvs
def KD (K:zac)(H:Hp)(kvs:List (aE×D))(es:List (aE×V)):Prop:=es.map (·.1)=kvs.map (·.1)/\RelDs K H (kvs.map (·.2)) (es.map (·.2))
theorem KD.nil {K:zac}{H:Hp}:KD K H [] []:=⟨rfl,rfl⟩
theorem KD.any {K:zac}{H:Hp}{kvs:List (aE×D)}{es:List (aE×V)}(r:KD K H kvs es)(k:aE):(es.any fun kv=>decide (kv.1=k))=(kvs.any fun kv=>decide (kv.1=k)):=by
 have h1:∀{β:Type} (l:List (aE×β)),(l.any fun kv=>decide (kv.1=k))=((l.map (·.1)).any fun x=>decide (x=k)):=fun l=>by rw [List.any_map];rfl
 rw [h1,h1,r.1]
theorem KD.cons {K:zac}{H:Hp}{k k':aE}{d:D}{v:V}{kvs:List (aE×D)}{es:List (aE×V)}:KD K H ((k,d)::kvs) ((k',v)::es) ↔ k'=k/\am K H d v/\KD K H kvs es:=by
 constructor
 ·rintro ⟨h1,h2⟩
  simp only [zaf,List.cons.injEq] at h1;obtain ⟨w,r,e,h3,h4⟩:=h2;simp only [zaf,List.cons.injEq] at e;obtain ⟨rfl,rfl⟩:=e;exact ⟨h1.1,h3,h1.2,h4⟩
 ·rintro ⟨rfl,h1,h2,h3⟩
  exact ⟨by simp [h2],⟨_,_,rfl,h1,h3⟩⟩
theorem KD.repl {K:zac}{H:Hp}{k:aE}{d:D}{v:V}(rd:am K H d v):∀{kvs:List (aE×D)} {es:List (aE×V)},KD K H kvs es->KD K H (kvs.map fun kv=>if kv.1=k then (kv.1,d) else kv) (es.map fun kv=>if kv.1=k then (kv.1,v) else kv)
 |[],[],_=>.nil
 |[],e::es,h=>by have:=h.1;simp at this
 |q::kvs,[],h=>by have:=h.1;simp at this
 |(a,x)::kvs,(b,y)::es,h=>by
  obtain ⟨rfl,h1,h2⟩:=KD.cons.mp h;have ih:=KD.repl (k:=k) rd h2;rw [zaf,zaf]
  by_cases e:b=k
  ·rw [if_pos e,if_pos e];exact KD.cons.mpr ⟨rfl,rd,ih⟩
  ·rw [if_neg e,if_neg e];exact KD.cons.mpr ⟨rfl,h1,ih⟩
theorem KD.snoc {K:zac}{H:Hp}{k:aE}{d:D}{v:V}(rd:am K H d v):∀{kvs:List (aE×D)} {es:List (aE×V)},KD K H kvs es->KD K H (kvs++[(k,d)]) (es++[(k,v)])
 |[],[],_=>KD.cons.mpr ⟨rfl,rd,.nil⟩
 |[],e::es,h=>by have:=h.1;simp at this
 |q::kvs,[],h=>by have:=h.1;simp at this
 |(a,x)::kvs,(b,y)::es,h=>by
  obtain ⟨rfl,h1,h2⟩:=KD.cons.mp h;exact KD.cons.mpr ⟨rfl,h1,KD.snoc rd h2⟩
theorem KD.put {K:zac}{H:Hp}{k:aE}{d:D}{v:V}{kvs:List (aE×D)}{es:List (aE×V)}(r:KD K H kvs es)(rd:am K H d v):KD K H (kY kvs k d) (fW es k v):=by
 unfold kY fW;rw [r.any k];split
 ·exact r.repl rd
 ·exact r.snoc rd
theorem KD.putAll {K:zac}{H:Hp}:∀{ps:List (aE×D)} {qs:List (aE×V)} {kvs:List (aE×D)} {es:List (aE×V)},KD K H kvs es->KD K H ps qs->KD K H (mX kvs ps) (lJ es qs)
 |[],[],_,_,r,_=>r
 |[],e::es,_,_,_,h=>by have:=h.1;simp at this
 |q::kvs,[],_,_,_,h=>by have:=h.1;simp at this
 |(a,x)::ps,(b,y)::qs,_,_,r,h=>by
  obtain ⟨rfl,h1,h2⟩:=KD.cons.mp h;exact KD.putAll (ps:=ps) (qs:=qs) (r.put h1) h2
theorem pE {K:zac}{H:Hp}:∀{ds:List D} {ws:List V} {kvs:List (aE×D)},gl ds=some kvs->RelDs K H ds ws->∃qs,eI K H ws qs/\KD K H kvs qs
 |[],ws,kvs,e,r=>by
  cases e;have r:ws=[]:=r;subst r;exact ⟨[],.nil,.nil⟩
 |d::ds,ws,kvs,e,r=>by
  obtain ⟨v,ws',rfl,r1,r2⟩:=r;unfold gl at e;split at e
  ·cases e
   rename_i h;cases h
  ·rename_i i x r' h
   cases h;obtain ⟨ks,e1,rfl⟩:=zaM.mp e;obtain ⟨qs,p1,p2⟩:=pE e1 r2;simp only [am] at r1;obtain ⟨a,vs,rfl,hq,hr⟩:=r1;obtain ⟨v1,t1,rfl,h1,hr⟩:=hr;obtain ⟨v2,t2,rfl,h2,hr⟩:=hr;have hr:t2=[]:=hr;subst hr
   have h1:v1=.int i:=by simpa only [am] using h1
   subst h1;exact ⟨(.inl i,v2)::qs,.cons ⟨a,rfl,hq⟩ p1,KD.cons.mpr ⟨rfl,h2,p2⟩⟩
  ·cases e
def mt:List R->ac->Option (R×ac)
 |[.p n],μ=>match μ[n]? with
  |some (.lst ds)=>(gl ds).bind fun kvs=>some (.p μ.length,μ++[.dct (mX [] kvs)])
  |_=>none
 |_,_=>none
theorem Jc {K:zac}:Cy K mt (Ao K):=by
 intro m H μ xs d μ' vs Q s r e k;unfold mt at e;split at e
 ·rename_i n
  split at e
  ·rename_i ds hn
   obtain ⟨kvs,e1,e⟩:=zaa.mp e;cases e;obtain ⟨v,rfl,r1⟩:=oO r;obtain ⟨a,rfl,ha⟩:=r1;obtain ⟨ws,ea,ra⟩:=s.cell _ _ a hn ha;obtain ⟨qs,p1,p2⟩:=pE e1 ra;refine ⟨a,ws,qs,rfl,ea,p1,fun l hl=>?_⟩;have x:cQ m H (m++[l]) (upd H l (.dK (lJ [] qs))):=.newH hl;have hk:=KD.putAll (K:=K) (H:=H) .nil p2;refine k _ _ (m++[l]) x (s.newH hl ⟨_,db,hk.1,RelDs.tf x.tf _ _ hk.2⟩) ⟨l,rfl,?_⟩;rw [←s.len];simp
  ·cases e
 ·cases e
def qt (neg:Bool):R2:=fun x y H Q=>∃p kvs k,y=.ref p/\x=kV k/\Rd H p (.dK kvs)/\Q (.bl (if neg then !(cx kvs k).isSome else (cx kvs k).isSome)) H
theorem qB {X:Cx}(hu:X.A.units+64 < cLine):jU X (compareOp .NotIn) (qt true):=by
 intro pins s σ H x y v u Q I rx ry h;obtain ⟨p,kvs,k,rfl,rfl,hR,q⟩:=h;cases ry;exact Et (by omega) I (.inl ⟨kvs,k,hR,rfl,rfl⟩) rx fun s' I'=>⟨.bl _,H,I',rfl,q⟩
theorem jq (k:aE):∀(es:List (aE×V)),(cx es k).isSome=es.any fun kv=>decide (kv.1=k)
 |[]=>rfl
 |(a,v)::es=>by
  have ih:=jq k es;unfold cx at ih ⊢
  by_cases e:a=k
  ·simp [e]
  ·simpa [e] using ih
def Om (neg:Bool):R->R->ac->Option (R×ac)
 |.v (.int i),.p n,μ=>match μ[n]? with
  |some (.dct kvs)=>some (.v (.bl (if neg then !(kvs.any fun kv=>decide (kv.1=.inl i)) else kvs.any fun kv=>decide (kv.1=.inl i))),μ)
  |some (.fzd kvs)=>some (.v (.bl (if neg then !(kvs.any fun kv=>decide (kv.1=.inl i)) else kvs.any fun kv=>decide (kv.1=.inl i))),μ)
  |_=>MR neg (.v (.int i)) (.p n) μ
 |x,y,μ=>MR neg x y μ
theorem LJ {K:zac}{neg:Bool}:oW K (Om neg) (fun x y H Q=>MI K neg x y H Q\/qt neg x y H Q):=by
 intro m H μ x y d μ' v u Q s rx ry e k;unfold Om at e;split at e
 ·rename_i i n
  split at e
  ·rename_i kvs hn
   cases e;simp only [ar,am] at rx;subst rx;obtain ⟨a,rfl,ha⟩:=ry;obtain ⟨es,ea,e1,e2⟩:=s.cell _ _ a hn ha;refine .inr ⟨a,es,.inl i,rfl,rfl,.inl ea,k _ H m .refl s ?_⟩;have hv:=(jq (.inl i) es).trans (KD.any (K:=K) (H:=H) ⟨e1,e2⟩ (.inl i));rw [hv];simp only [ar,am]
  ·rename_i kvs hn
   cases e;simp only [ar,am] at rx;subst rx;obtain ⟨a,rfl,ha⟩:=ry;obtain ⟨o,es,ea,e1,e2⟩:=s.cell _ _ a hn ha;refine .inr ⟨a,es,.inl i,rfl,rfl,.inr ⟨o,ea⟩,k _ H m .refl s ?_⟩;have hv:=(jq (.inl i) es).trans (KD.any (K:=K) (H:=H) ⟨e1,e2⟩ (.inl i));rw [hv];simp only [ar,am]
  ·exact .inl (LL m H μ _ _ d μ' v u Q s rx ry e k)
 ·exact .inl (LL m H μ _ _ d μ' v u Q s rx ry e k)
end HW
namespace HW
open PySem PySem.Spec PyProof.Rows L2
mutual
def dN:D->Bool
 |.tup xs=>flatDs xs
 |.fl _=>false
 |.fd _ _=>false
 |_=>true
def flatDs:List D->Bool
 |[]=>true
 |x::xs=>dN x && flatDs xs
end
def NF:R->ac->Option D
 |.v d,_=>some d
 |.p n,μ=>match μ[n]? with
  |some (.lst xs)=>some (.fl xs)|some (.fz xs)=>some (.fl xs)
  |some (.dct kvs)=>some (.fd (kvs.map (·.1)) (kvs.map (·.2)))|some (.fzd kvs)=>some (.fd (kvs.map (·.1)) (kvs.map (·.2)))
  |_=>none
 |.s _ _,_=>none
 |.x _,_=>none
 |.f _ _,_=>none
def hJ:List R->ac->Option (List D)
 |[],_=>some []
 |x::xs,μ=>(NF x μ).bind fun d=>(hJ xs μ).bind fun ds=>some (d::ds)
def lQ (f:MF)(n:Nat)(fa:FA):FE:=fun ρ μ=>(fa ρ μ).bind fun a=>(hJ a.1 a.2).bind fun ds=>if ds.length=n then (f ds).bind fun d=>if dN d=true then some (.v d,a.2) else none else none
abbrev MC:=List D->Option aw
def pQ:aw->Bool
 |.lst xs=>flatDs xs
 |.dct kvs=>flatDs (kvs.map (·.2))
 |_=>false
def BB:mx->Option aw
 |.rt (.p n) μ=>match μ[n]? with|some (.lst xs)=>some (.lst xs)|some (.dct kvs)=>some (.dct kvs)|_=>none
 |_=>none
def zP (k:Nat)(b:FS):MC:=fun ds=>(b (ds.map (fun d=>some (.v d))++List.replicate (k - ds.length) none) []).bind BB
def bX (f:MC)(n:Nat)(fa:FA):FE:=fun ρ μ=>(fa ρ μ).bind fun a=>(hJ a.1 a.2).bind fun ds=>if ds.length=n then (f ds).bind fun c=>if pQ c=true then some (.p a.2.length,a.2++[c]) else none else none
def tT:R->List R->ac->Option (R×ac)
 |.p n,[],μ=>match μ[n]? with|some (.lst _)=>some (.v .non,μ.set n (.lst []))|_=>none
 |_,_,_=>none
section
variable  {P:Program}{w:World}{H H0:Hp}{h h0:Heap}{a:Addr}{u:HO}{o:Obj}{fs ex:Tf}
theorem io.thaw (ok:io P w H h)(e:H a=some (.frz o u))(hu:fS u):io P w (upd H a u) h:=by
 have ne:∀c v,H c=some v->v≠.frz o u->c≠a:=fun c v q n z=>by rw [z,e] at q;exact n (Option.some.inj q).symm
 have own:∀c y,H c=some (.own y)->upd H a u c=some (.own y):=fun c y r=>by rw [L2.aB (ne c _ r (by simp))];exact r
 have tup:∀c xs,H c=some (.tup xs)->upd H a u c=some (.tup xs):=fun c xs r=>by rw [L2.aB (ne c _ r (by simp))];exact r
 intro b v q
 by_cases hb:b=a
 ·subst hb
  rw [L2.db] at q;cases q;exact (ok b _ e).2.stay (fun c v _ q=>q) (fun c r=>own c _ r) tup
 ·rw [L2.aB hb] at q
  exact (ok b v q).stay (fun c v _ q=>q) (fun c r=>own c _ r) tup
theorem Un.thaw (un:Un fs ex (upd H0 a (.frz o u)) H h0 h)(e:H0 a=some u)(hu:fS u):Un fs ex H0 (upd H a u) h0 h:=by
 have nn:∀b,H0 b=none->b≠a:=fun b z y=>by rw [y,e] at z;cases z
 have nf:∀b v,H0 b=some v->¬ fS v->b≠a:=fun b v q n=>fS.ne e hu q n;refine ⟨fun b ob q n hb hx=>un.keep b ob q (by rw [L2.aB (nn b n)];exact n) hb hx,fun b ob q n hb hx=>un.slot b ob q (by rw [L2.aB (nn b n)];exact n) hb hx,fun b ob q n hx=>?_,un.there,fun b xs q=>?_,fun b ob v q=>?_,fun b ps q=>?_⟩
 ·rw [L2.aB (nn b n)];exact un.free b ob q (by rw [L2.aB (nn b n)];exact n) hx
 ·have hb:=nf b _ q fun z=>z
  rw [L2.aB hb];exact un.tups b xs (by rw [L2.aB hb];exact q)
 ·have hb:=nf b _ q fun z=>z
  rw [L2.aB hb];exact un.frzs b ob v (by rw [L2.aB hb];exact q)
 ·have hb:=nf b _ q fun z=>z
  obtain ⟨more,r⟩:=un.tbls b ps (by rw [L2.aB hb];exact q);exact ⟨more,by rw [L2.aB hb];exact r⟩
end
def bor (sp:Sp):Sp:=fun vs H Q E=>sp vs H Q E\/∃a u,H a=some u/\fS u/\∀o,sp vs (upd H a (.frz o u)) (fun v H2=>Q v (upd H2 a u)) E
def borN:Nat->Sp->Sp
 |0,sp=>sp
 |n+1,sp=>bor (borN n sp)
theorem dk.bor {P:Program}{w:World}{K:zac}{mg:Td}{base:Heap}{k:Nat}{f:Addr}{fd:FuncData}{ps:Tl}{sp:Sp}(F:dk P w K mg base mB k f fd ps sp) :
  dk P w K mg base mB k f fd ps (HW.bor sp):=by
 refine ⟨fun vs H Q E h=>?_,fun A outer s H args us vs Q E hr he hb hv hs=>?_⟩
 ·rcases h with h|⟨a,u,e,hu,h⟩
  ·exact F.len vs H Q E h
  ·exact F.len _ _ _ _ (h {cls:=.none,data:=.fields #[]})
 ·rcases hs with hs|⟨a,u,e,hu,hs⟩
  ·exact F.run A outer s H args us vs Q E hr he hb hv hs
  ·obtain ⟨o,ok⟩:=io.frz he.hok e hu
   have nn:∀b,H b=none->upd H a (.frz o u) b=none:=fun b z=>by rw [L2.aB (fun y=>by rw [y,e] at z;cases z)];exact z
   refine zbX (F.run A outer s (upd H a (.frz o u)) args us vs _ E hr ⟨he.frames,he.mod,fun b ob q=>⟨(he.bs b ob q).1,nn b (he.bs b ob q).2⟩,he.bsz,he.funs,fun b hb=>nn b (he.frf b hb),ok,he.bare⟩ hb hv (hs o)) fun r s' hq=>?_
   cases r with
   |error e=>exact hq
   |ok fl =>
    cases fl with
    |next=>exact hq
    |brk=>exact hq
    |cont=>exact hq
    |ret x =>
     obtain ⟨v,H',os,bare,un,hok,rv,q⟩:=hq;exact ⟨v,_,os,bare,Un.thaw un e hu,io.thaw hok (un.frzs a o u L2.db) hu,rv,q⟩
theorem dk.borN {P:Program}{w:World}{K:zac}{mg:Td}{base:Heap}{k:Nat}{f:Addr}{fd:FuncData}{ps:Tl}{sp:Sp}(F:dk P w K mg base mB k f fd ps sp) :
  ∀n,dk P w K mg base mB k f fd ps (HW.borN n sp)
 |0=>F
 |n+1=>dk.bor (dk.borN F n)
def oF (H H2:Hp):Hp:=fun b=>match H b with|some u=>some u|none=>H2 b
def Cz (H H1:Hp):Prop:=∀b,H1 b=H b\/∃u o,H b=some u/\fS u/\H1 b=some (.frz o u)
section
variable  {K:zac}{H H1 H2 H':Hp}
theorem Cz.refl:Cz H H:=fun _=>.inl rfl
theorem Cz.upd {a:Addr}{u:HO}{o:Obj}(c:Cz H H1)(e:H1 a=some u)(hu:fS u):Cz H (upd H1 a (.frz o u)):=fun b=>by
 by_cases hb:b=a
 ·subst hb
  rw [L2.db];rcases c b with z|⟨u',o',_,_,z⟩
  ·exact .inr ⟨u,o,by rw [←z,e],hu,rfl⟩
  ·rw [e] at z;cases z;exact hu.elim
 ·rw [L2.aB hb];exact c b
theorem Cz.trans (c:Cz H H1)(c':Cz H1 H2):Cz H H2:=fun b=>by
 rcases c' b with z|⟨u,o,z1,z2,z3⟩
 ·rw [z];exact c b
 ·rcases c b with y|⟨u',o',_,_,y⟩
  ·exact .inr ⟨u,o,by rw [←y,z1],z2,z3⟩
  ·rw [z1] at y;cases y;exact z2.elim
theorem Cz.tf (c:Cz H H1):TF H H1:=by
 refine ⟨fun a xs e=>?_,fun a o u e=>?_⟩
 ·rcases c a with z|⟨u,o,z1,z2,z3⟩
  ·rw [z,e]
  ·rw [e] at z1;cases z1;exact z2.elim
 ·rcases c a with z|⟨u',o',z1,z2,z3⟩
  ·rw [z,e]
  ·rw [e] at z1;cases z1;exact z2.elim
theorem DK (s:uj H H2):oF H H2=H2:=by
 funext b
 unfold oF
 cases e:H b with
 |none=>rfl
 |some u=>exact (s b u e).symm
theorem mS:uj H (oF H H2):=fun a o e=>by unfold oF;rw [e]
theorem DJ {a:Addr}{u v:HO}(e:H a=some u):upd (oF (upd H a v) H2) a u=oF H H2:=by
 funext b
 by_cases hb:b=a
 ·subst hb;rw [L2.db];unfold oF;rw [e]
 ·rw [L2.aB hb];unfold oF;rw [L2.aB hb]
theorem Hi {a:Addr}{xs:List V}(c:Cz H H1)(s:uj H1 H2)(h:gG K H2 a xs):gG K (oF H H2) a xs:=by
 have back:∀v,¬ fS v->(∀o u,v=.frz o u->¬ fS u)->H2 a=some v->oF H H2 a=some v:=fun v nf nz e=>by
  unfold oF
  cases q:H a with
  |none=>exact e
  |some u =>
   rcases c a with z|⟨u',o',z1,z2,z3⟩
   ·rw [q] at z
    rw [s a u z] at e;exact e
   ·rw [s a _ z3] at e
    cases e;exact absurd z2 (nz o' u' rfl)
 rcases h with (h|⟨o,h⟩)|h
 ·exact .inl (.inl (back _ (fun z=>z) (fun _ _ z=>by cases z) h))
 ·exact .inl (.inr ⟨o,back _ (fun z=>z) (fun o u z=>by cases z;exact fun z=>z) h⟩)
 ·exact .inr h
theorem CB {a:Addr}{xs:List V}(c:Cz H H1)(s:uj H1 H2)(e:H2 a=some (.tup xs)):oF H H2 a=some (.tup xs):=by
 unfold oF
 cases q:H a with
 |none=>exact e
 |some u =>
  rcases c a with z|⟨u',o',z1,z2,z3⟩
  ·rw [q] at z
   rw [s a u z] at e;exact e
  ·rw [s a _ z3] at e
   cases e
mutual
theorem tD (c:Cz H H1)(s:uj H1 H2):∀(d:D) (v:V),dN d=true->am K H2 d v->am K (oF H H2) d v
 |.non,_,_,h=>by simpa only [am] using h
 |.bl _,_,_,h=>by simpa only [am] using h
 |.int _,_,_,h=>by simpa only [am] using h
 |.str _,_,_,h=>by simpa only [am] using h
 |.tup xs,v,f,h=>by
  simp only [am] at h ⊢;obtain ⟨a,vs,e,q,r⟩:=h;exact ⟨a,vs,e,Hi c s q,flats_ovr c s xs vs (by simpa only [dN] using f) r⟩
 |.fl _,_,f,_=>by simp [dN] at f
 |.fd _ _,_,f,_=>by simp [dN] at f
 |.key _,_,_,h=>by
  simp only [am] at h ⊢;obtain ⟨a,e,q⟩:=h;exact ⟨a,e,CB c s q⟩
theorem flats_ovr (c:Cz H H1)(s:uj H1 H2):∀(ds:List D) (vs:List V),flatDs ds=true->RelDs K H2 ds vs->RelDs K (oF H H2) ds vs
 |[],_,_,h=>by simpa only [RelDs] using h
 |d::ds,vs,f,h=>by
  simp only [RelDs] at h ⊢;obtain ⟨v,r,e,h1,h2⟩:=h
  have f':dN d=true/\flatDs ds=true:=by simpa [flatDs] using f
  exact ⟨v,r,e,tD c s d v f'.1 h1,flats_ovr c s ds r f'.2 h2⟩
end
end
def xE (K:zac)(n:Nat)(f:List D->Option (Hp->V->Hp->Prop)):Sp:=fun vs H Q _=>∃ds P,ds.length=n/\RelDs K H ds vs/\f ds=some P/\∀v H',uj H H'->P H v H'->Q v H'
section
variable  {K:zac}{m:Tf}{σ:L2.St}{H H0:Hp}{μ:ac}{Q:VK}
theorem Iz {n:Nat}{f:List D->Option (Hp->V->Hp->Prop)}{P:Hp->V->Hp->Prop}{E:XK}(hs:aO K m H0 μ):∀(rs:List R) (vs vsP:List V) (ds dsP:List D) (H1:Hp) (Q:VK),Cz H0 H1->RelDs K H1 dsP vsP->bg K m H0 rs vs->hJ rs μ=some ds ->
  f (dsP++ds)=some P->(dsP++ds).length=n->(∀v H2 H1',Cz H1 H1'->uj H1' H2->P H1' v H2->Q v (oF H1 H2))->borN rs.length (xE K n f) (vsP++vs) H1 Q E
 |[],vs,vsP,ds,dsP,H1,Q,c,rp,rr,ev,ef,el,k=>by
  cases ev;have rr:vs=[]:=rr;subst rr;rw [zbm] at ef el ⊢;exact ⟨dsP,P,el,rp,ef,fun v H' s p=>by have:=k v H' H1 .refl s p;rwa [DK s] at this⟩
 |r::rs,vs,vsP,ds,dsP,H1,Q,c,rp,rr,ev,ef,el,k=>by
  obtain ⟨v,ws,rfl,r1,r2⟩:=rr;obtain ⟨d,e1,ev⟩:=zaa.mp ev;obtain ⟨es,e2,ev⟩:=zaa.mp ev;cases ev
  have app:∀{α:Type} (a:List α) (x:α) (b:List α),a++x::b=a++[x]++b:=fun a x b=>by simp
  rw [app] at ef el ⊢
  have go:∀(H1':Hp) (Q':VK),Cz H1 H1'->am K H1' d v->(∀v H2 H1'',Cz H1' H1''->uj H1'' H2->P H1'' v H2->Q' v (oF H1' H2))->borN rs.length (xE K n f) (vsP++[v]++ws) H1' Q' E:=fun H1' Q' c' rd k' =>
   Iz hs rs ws (vsP++[v]) es (dsP++[d]) H1' Q' (c.trans c') (RelDs.append (RelDs.tf c'.tf _ _ rp) (by simp only [RelDs];exact ⟨_,_,rfl,rd,rfl⟩)) r2 e2 ef el k'
  cases r with
  |v d' =>
   cases e1;exact .inl (go H1 Q .refl (am.tf c.tf _ _ r1) k)
  |s _ _=>cases e1
  |x _=>cases e1
  |f _ _=>cases e1
  |p i =>
   obtain ⟨a,rfl,ha⟩:=r1;have e1:(match μ[i]? with|some (.lst xs)=>some (D.fl xs)|some (.fz xs)=>some (D.fl xs)|some (.dct kvs)=>some (D.fd (kvs.map (·.1)) (kvs.map (·.2)))|some (.fzd kvs)=>some (D.fd (kvs.map (·.1)) (kvs.map (·.2)))|_=>none)=some d:=e1
   have lent:∀u,fS u->H0 a=some u->(∀H3 o,H3 a=some (.frz o u)->TF H0 H3->am K H3 d (.ref a))->borN (rs.length+1) (xE K n f) (vsP++[V.ref a]++ws) H1 Q E:=fun u hu e0 rd=>by
    rcases c a with z|⟨u',o',z1,z2,z3⟩
    ·rw [e0] at z
     refine .inr ⟨a,u,z,hu,fun o=>?_⟩;have c1:Cz H1 (upd H1 a (.frz o u)):=Cz.refl.upd z hu
     exact go _ _ c1 (rd _ o L2.db (c.tf.trans c1.tf)) fun v H2 H1'' c2 s2 p=>by
      rw [DJ z];exact k v H2 H1'' (c1.trans c2) s2 p
    ·rw [e0] at z1;cases z1
     exact .inl (go H1 Q .refl (rd _ o' z3 c.tf) k)
   have known:∀o u,H0 a=some (.frz o u)->am K H1 d (.ref a)->borN (rs.length+1) (xE K n f) (vsP++[V.ref a]++ws) H1 Q E:=fun o u e0 rd=>.inl (go H1 Q .refl rd k);split at e1
   ·rename_i xs q
    cases e1;obtain ⟨ws',ea,ra⟩:=hs.cell _ _ a q ha
    exact lent (.lst ws') trivial ea fun H3 o e3 t=>by simp only [am];exact ⟨a,ws',rfl,.inl ⟨o,e3⟩,RelDs.tf t _ _ ra⟩
   ·rename_i xs q
    cases e1;obtain ⟨o,ws',ea,ra⟩:=hs.cell _ _ a q ha;exact known o _ ea (by simp only [am];exact ⟨a,ws',rfl,.inl ⟨o,c.tf.frz _ _ _ ea⟩,RelDs.tf c.tf _ _ ra⟩)
   ·rename_i kvs q
    cases e1;obtain ⟨es',ea,e1,e2⟩:=hs.cell _ _ a q ha
    exact lent (.dK es') trivial ea fun H3 o e3 t=>by simp only [am];exact ⟨a,o,es',rfl,e3,e1,RelDs.tf t _ _ e2⟩
   ·rename_i kvs q
    cases e1;obtain ⟨o,es',ea,e1,e2⟩:=hs.cell _ _ a q ha;exact known o _ ea (by simp only [am];exact ⟨a,o,es',rfl,c.tf.frz _ _ _ ea,e1,RelDs.tf c.tf _ _ e2⟩)
   ·cases e1
def pX (K:zac)(f:MF):List D->Option (Hp->V->Hp->Prop):=fun ds=>(f ds).map fun d _ v H'=>am K H' d v
def cX (K:zac)(f:MC):List D->Option (Hp->V->Hp->Prop):=fun ds=>(f ds).map fun c H v H'=>∃a,v=.ref a/\H a=none/\gB K [] H' c a
theorem Kz {n:Nat}{f:MF}{vs:List V}{E:XK}(h:xE K n (pX K f) vs H Q E):yA K n f vs H Q E:=by
 obtain ⟨ds,P,el,r,ef,k⟩:=h;obtain ⟨d,e,rfl⟩:=zaM.mp ef;exact ⟨ds,d,el,r,e,k⟩
theorem um:∀{rs:List R} {ds:List D},hJ rs μ=some ds->rs.length=ds.length
 |[],_,h=>by cases h;rfl
 |r::rs,ds,h=>by
  obtain ⟨d,_,h⟩:=zaa.mp h;obtain ⟨es,e2,h⟩:=zaa.mp h;cases h;simp [um e2]
theorem Aa {f n fa}{E:XK}(h:az K (lQ f n fa) σ H Q):wg (borN n (xE K n (pX K f))) [] E (iY K fa) σ H Q:=by
 obtain ⟨ρ,μ,m,d,μ',hl,hs,e,k⟩:=h;obtain ⟨⟨xs,μ1⟩,e1,e⟩:=zaa.mp e;obtain ⟨ds,e2,e⟩:=zaa.mp e;split at e
 ·rename_i hn
  obtain ⟨d1,e3,e⟩:=zaa.mp e;split at e
  ·rename_i hf
   cases e;refine ⟨ρ,μ,m,xs,_,hl,hs,e1,fun vs H1 m1 x1 s1 r1=>?_⟩;have hx:xs.length=n:=(um e2).trans hn
   show borN n (xE K n (pX K f)) (vs++[]) H1 Q E
   rw [zbm,←hx];refine Iz (dsP:=[]) (vsP:=[]) (P:=fun _ v H'=>am K H' d1 v) s1 xs vs ds H1 Q .refl rfl r1 e2 ?_ (by simp [hn,hx]) fun v H2 H1' c s p=>?_
   ·rw [za9];unfold pX;rw [e3];rfl
   ·exact k v _ m1 (x1.trans (uj.ext mS)) (s1.same mS) (tD c s _ _ hf p)
  ·cases e
 ·cases e
theorem Ab {f n fa}{E:XK}(h:az K (bX f n fa) σ H Q):wg (borN n (xE K n (cX K f))) [] E (iY K fa) σ H Q:=by
 obtain ⟨ρ,μ,m,d,μ',hl,hs,e,k⟩:=h;obtain ⟨⟨xs,μ1⟩,e1,e⟩:=zaa.mp e;obtain ⟨ds,e2,e⟩:=zaa.mp e;split at e
 ·rename_i hn
  obtain ⟨c1,e3,e⟩:=zaa.mp e;split at e
  ·rename_i hf
   cases e;refine ⟨ρ,μ,m,xs,_,hl,hs,e1,fun vs H1 m1 x1 s1 r1=>?_⟩;have hx:xs.length=n:=(um e2).trans hn
   show borN n (xE K n (cX K f)) (vs++[]) H1 Q E
   rw [zbm,←hx];refine Iz (dsP:=[]) (vsP:=[]) (P:=fun H v H'=>∃a,v=.ref a/\H a=none/\gB K [] H' c1 a) s1 xs vs ds H1 Q .refl rfl r1 e2 ?_ (by simp [hn,hx]) fun v H2 H1' c s p=>?_
   ·rw [za9];unfold cX;rw [e3];rfl
   ·obtain ⟨a,rfl,ha,hc⟩:=p
    have h1a:H1 a=none:=by
     rcases c a with z|⟨u,o,_,_,z⟩
     ·rw [←z,ha]
     ·rw [ha] at z;cases z
    have at':∀u,H2 a=some u->oF H1 H2 a=some u:=fun u q=>by unfold oF;rw [h1a];exact q
    have hc':gB K (m1++[a]) (oF H1 H2) c1 a:=by
     cases c1 with
     |lst xs=>obtain ⟨vs,q,r⟩:=hc;exact ⟨vs,at' _ q,flats_ovr c s _ _ hf r⟩
     |dct kvs=>obtain ⟨es,q,q2,r⟩:=hc;exact ⟨es,at' _ q,q2,flats_ovr c s _ _ hf r⟩
     |fz xs=>cases hf
     |fzd kvs=>cases hf
     |dr kvs=>cases hf
     |lr xs=>cases hf
     |dt kvs=>cases hf
     |tb _ _=>cases hf
     |ob _ _=>cases hf
     |tr _=>cases hf
     |fzr _=>cases hf
     |dtr _=>cases hf
    have hn':a∉m1:=s1.fresh h1a
    have ext:cQ m1 H1 (m1++[a]) (oF H1 H2):=by
     have z:=uj.ext (m:=m1) (mS (H:=H1) (H2:=H2));exact ⟨⟨[a],rfl,fun b hb=>by rw [zaE.mp hb];exact h1a⟩,z.tf,z.keep,z.live⟩
    have srel:aO K (m1++[a]) (oF H1 H2) (μ1++[c1]):=by
     have s1':=s1.same (mS (H:=H1) (H2:=H2));refine ⟨zbE.mpr ⟨s1.nd,by simp,fun b hb b' hb'=>?_⟩,by simp [s1.len],fun i c' b q1 q2=>?_⟩
     ·rw [zaE.mp hb'];rintro rfl;exact hn' hb
     ·by_cases hi:i < m1.length
      ·rw [zai hi] at q2
       rw [zai (by rw [←s1.len];exact hi)] at q1;exact (s1'.cell i c' b q1 q2).same (fun _ _ z=>z) ⟨[a],rfl⟩
      ·have hl:=s1.len
       rw [zaO (by omega)] at q2;rw [zaO (by omega)] at q1
       have z:i - m1.length=0:=by
        cases q:i - m1.length with
        |zero=>rfl
        |succ k=>rw [q] at q2;simp at q2
       have z':i - μ1.length=0:=by omega
       rw [z] at q2;rw [z'] at q1;simp at q1 q2;subst q1 q2;exact hc'
    exact k _ _ (m1++[a]) (x1.trans ext) srel ⟨a,rfl,by rw [←s1.len];simp⟩
  ·cases e
 ·cases e
end
theorem rB.okN {P:Program}{w:World}{K:zac}{mg:Td}{base:Heap}{x qual:Str}{st:Stmt}{f:Addr}{fd:FuncData}{N ps:Tl}{k:Nat}{b:FS}(F:rB K x qual st f fd)(S:aT N ps (ak st))
  (hbody:∀(cdv:Value) (A:Around) (outer:List Env) (s:Shared) (H:Hp) (E:XK),dO k (A.deeper (envOfC qual (ak st) s.heap.objs.size f cdv))->oG (lR mB P w K mg base N qual (ak st) f cdv A outer s H E).nox (cO st) (gC K b)) :
  dk P w K mg base mB (k+1) f fd ps (xE K ps.length (cX K (zP N.length b))):=by
 have G:dk P w K mg base mB (k+1) f fd ps (fun vs H Q _=>vs.length=ps.length/\gC K b {nx:=fun _ H'=>Q .non H',rt:=Q} (L2.d6 N vs) H) :=
  L2.rB.ok F S (fun vs H Q E h=>h.1) fun cdv A outer s H vs Q E hr h=>⟨_,hbody cdv A outer s H E hr,h.2⟩
 refine G.imp fun vs H Q E hh=>?_;obtain ⟨ds,P',hn,r,e,k⟩:=hh;refine ⟨by rw [←r.length];exact hn,?_⟩;obtain ⟨c,ec,rfl⟩:=zaM.mp e;obtain ⟨o,e1,e2⟩:=zaa.mp ec;refine ⟨_,[],[],o,pc r,.nil,e1,?_⟩
 cases o with
 |nx ρ μ=>cases e2
 |bk ρ μ=>cases e2
 |ct ρ μ=>cases e2
 |rt d μ =>
  cases d with
  |v d=>cases e2
  |s b xs=>cases e2
  |x _=>cases e2
  |f _ _=>cases e2
  |p n =>
   intro v H' m' x s' r';obtain ⟨a,rfl,ha⟩:=r';unfold BB at e2;have cell:∀c',μ[n]?=some c'->gB K m' H' c' a:=fun c' q=>s'.cell n c' a q ha
   have free:H a=none:=by
    obtain ⟨e,rfl,f⟩:=x.ext;exact f a (by simpa using zaH ha)
   simp only at e2;split at e2
   ·rename_i xs q;cases e2;exact k _ _ x.sam ⟨a,rfl,free,cell _ q⟩
   ·rename_i kvs q;cases e2;exact k _ _ x.sam ⟨a,rfl,free,cell _ q⟩
   ·cases e2
theorem LN {K:zac}:NQ K tT Ap:=by
 intro m H μ x xs d μ' v vs Q s rx rs e k;unfold tT at e;split at e
 ·rename_i n
  split at e
  ·rename_i ys q
   cases e;obtain ⟨a,rfl,ha⟩:=rx;have rs:vs=[]:=rs;subst rs;obtain ⟨ws,ea,ra⟩:=s.cell _ _ a q ha;have x:cQ m H m (upd H a (.lst [])):=.put (zaH ha) ea (by simp) (by simp);exact ⟨a,ws,rfl,rfl,ea,k _ _ m x (s.put ha ea (by simp) (by simp) ⟨_,bf,rfl⟩) (by simp only [ar,am])⟩
  ·cases e
 ·cases e
end HW
namespace HW
open PySem PySem.Spec PyProof.Rows L2
def FU (K:zac):R2:=fun x y H Q=>∃a b ys,x=.ref a/\y=.ref b/\gG K H a []/\gG K H b ys/\ys.length<=sizeLine/\Q (.ref b) H
theorem DQ {X:Cx}:jU X (binaryOp .Add) (FU X.K):=by
 intro pins s σ H x y v u Q I rx ry h;obtain ⟨a,b,ys,rfl,rfl,ha,hb,hz,q⟩:=h;cases rx;cases ry;obtain ⟨its,r1,p1,_⟩:=I.tuple ha;obtain ⟨its2,r2,p2,_⟩:=I.tuple hb;cases r1;obtain ⟨⟨cls,dd,data,sl⟩,ho,hc,n,hd⟩:=id p1;obtain ⟨⟨cls2,dd2,data2,sl2⟩,ho2,hc2,n2,hd2⟩:=id p2;simp only at hc hd hc2 hd2;subst hc hd hc2 hd2
 exact concat_meets ⟨_,ho,rfl⟩ ⟨_,ho2,rfl⟩ noFill_tuple_add seq_tuple_add PySem.F.slot_tuple_add PySem.F.entry_tuple_add (PySem.F.args_tuple_add_2 _ _)
  (tuple_addW0 a b #[] its2.toArray n n2 dd dd2 sl sl2 (by simp)) ⟨ho,ho2,⟨.ref b,H,I,rfl,q⟩⟩
def ij:R->R->ac->Option (R×ac)
 |.v (.tup []),.v (.tup ys),μ=>if ys.length<=sizeLine then some (.v (.tup ys),μ) else none
 |x,y,μ=>JE x y μ
theorem Jd {K:zac}:oW K ij (fun x y H Q=>FV K x y H Q\/FU K x y H Q):=by
 intro m H μ x y d μ' v u Q s rx ry e k;unfold ij at e;split at e
 ·split at e
  ·rename_i z
   cases e;have ry':=ry;simp only [ar,am] at rx ry;obtain ⟨a,vs,rfl,qa,ra⟩:=rx;obtain ⟨b,ws,rfl,qb,rb⟩:=ry
   have ra:vs=[]:=by simpa only [RelDs] using ra
   subst ra;exact .inr ⟨a,b,ws,rfl,rfl,qa,qb,by rw [←rb.length];exact z,k _ H m .refl s ry'⟩
  ·cases e
 ·exact .inl (LQ m H μ _ _ d μ' v u Q s rx ry e k)
def Al:V->V->V->Hp->(Hp->Prop)->Prop:=fun o i v H Q=>∃p kvs k,o=.ref p/\i=kV k/\H p=some (.dK kvs)/\kvs.length < sizeLine/\Q (upd H p (.dK (fW kvs k v)))
theorem zJ {X:Cx}(hu:X.A.units+1 < cLine):uf X Al:=by
 intro pins s σ H o i v ov iv u Q I ro ri rv h;obtain ⟨p,kvs,k,rfl,rfl,hp,hl,q⟩:=h;cases ro;exact yn hu I (EU.k hp hl) ri rv fun s' I'=>⟨_,I',q⟩
theorem uf.or {t u:EH}(h:uf X t)(h':uf X u):uf X (fun o i v H Q=>t o i v H Q\/u o i v H Q):=fun pins s σ H o i v ov iv z Q I ro ri rv q=>by
 rcases q with q|q
 ·exact h pins s σ H o i v ov iv z Q I ro ri rv q
 ·exact h' pins s σ H o i v ov iv z Q I ro ri rv q
def dW:R->Option aE
 |.v (.int i)=>some (.inl i)
 |.v (.str x)=>some (.inr (some x))
 |.v .non=>some (.inr none)
 |_=>none
def uL (o i:R)(dv:D)(μ:ac):Option ac:=match o with
 |.p n=>match μ[n]? with
  |some (.lst xs)=>(match i with|.v (.int k)=>(Bj xs.length k).bind fun j=>some (μ.set n (.lst (xs.set j dv)))|_=>none)
  |some (.dct kvs)=>if kvs.length < sizeLine then (dW i).bind fun k=>some (μ.set n (.dct (kY kvs k dv))) else none
  |_=>none
 |_=>none
def qH (fo fi:FE):FG:=fun d ρ μ=>match d with|.v dv=>(fo ρ μ).bind fun o=>(fi ρ o.2).bind fun i=>(uL o.1 i.1 dv i.2).bind fun μ'=>some (ρ,μ')|_=>none
theorem RelDs.setAt {K:zac}{H:Hp}{d:D}{v:V}(h:am K H d v):∀{ds:List D} {vs:List V} (j:Nat),RelDs K H ds vs->RelDs K H (ds.set j d) (vs.set j v)
 |[],vs,j,r=>by have r:vs=[]:=r;subst r;exact rfl
 |_::_,_,0,⟨v',r,e,h1,h2⟩=>by subst e;exact ⟨v,r,rfl,h,h2⟩
 |_::_,_,j+1,⟨v',r,e,h1,h2⟩=>by subst e;exact ⟨v',_,rfl,h1,RelDs.setAt h j h2⟩
theorem ll {K:zac}{m:Tf}{H:Hp}{x:R}{v:V}{k:aE}(r:ar K m H x v)(e:dW x=some k):v=kV k:=by
 unfold dW at e;split at e
 ·cases e;simpa only [ar,am,kV] using r
 ·cases e;simpa only [ar,am,kV] using r
 ·cases e;simpa only [ar,am,kV] using r
 ·cases e
theorem HV {K:zac}{m:Tf}{H:Hp}{μ μ':ac}{o i:R}{dv:D}{vo vi v:V}{Q:Hp->Prop}(s:aO K m H μ)(ro:ar K m H o vo)(ri:ar K m H i vi)(rv:am K H dv v)(e:uL o i dv μ=some μ')
  (k:∀H',cQ m H m H'->aO K m H' μ'->Q H'):Ak vo vi v H Q\/Al vo vi v H Q:=by
 unfold uL at e;split at e
 ·rename_i n
  split at e
  ·rename_i xs q
   split at e
   ·rename_i j
    obtain ⟨w,e1,e⟩:=zaa.mp e;cases e;obtain ⟨a,rfl,ha⟩:=ro
    have ri:vi=.int j:=by simpa only [ar,am] using ri
    subst ri;obtain ⟨ws,ea,ra⟩:=s.cell _ _ a q ha;have x:cQ m H m (upd H a (.lst (ws.set w v))):=.put (zaH ha) ea (by simp) (by simp);exact .inl ⟨a,ws,j,w,rfl,rfl,ea,by rw [←ra.length];exact e1,k _ x (s.put ha ea (by simp) (by simp) ⟨_,bf,RelDs.tf x.tf _ _ (RelDs.setAt rv w ra)⟩)⟩
   ·cases e
  ·rename_i kvs q
   split at e
   ·rename_i hl
    obtain ⟨w,e1,e⟩:=zaa.mp e;cases e;obtain ⟨a,rfl,ha⟩:=ro;obtain ⟨es,ea,q1,q2⟩:=s.cell _ _ a q ha;have kd:KD K H kvs es:=⟨q1,q2⟩;have kd':=kd.put (k:=w) rv;have x:cQ m H m (upd H a (.dK (fW es w v))):=.put (zaH ha) ea (by simp) (by simp);exact .inr ⟨a,es,w,rfl,ll ri e1,ea,by have:=congrArg List.length q1;simp at this;omega,k _ x (s.put ha ea (by simp) (by simp) ⟨_,bf,kd'.1,RelDs.tf x.tf _ _ kd'.2⟩)⟩
   ·cases e
  ·cases e
 ·cases e
theorem C6 {K:zac}{fo fi:FE}{v:V}{H:Hp}{Q:L2.St->Hp->Prop}(h:oE K (qH fo fi) v σ H Q):L2.qH (az K fo) (az K fi) (fun o i v H Q=>Ak o i v H Q\/Al o i v H Q) v σ H Q:=by
 obtain ⟨ρ,μ,m,d,ρ',μ',hl,hs,r,e,k⟩:=h;unfold qH at e;split at e
 ·rename_i dv
  obtain ⟨⟨o,μ1⟩,e1,e⟩:=zaa.mp e;obtain ⟨⟨i,μ2⟩,e2,e⟩:=zaa.mp e;obtain ⟨μ3,e3,e⟩:=zaa.mp e;cases e;refine ⟨ρ,μ,m,o,μ1,hl,hs,e1,fun vo H1 m1 x1 s1 r1=>?_⟩;refine ⟨ρ,μ1,m1,i,μ2,hl.ext x1,s1,e2,fun vi H2 m2 x2 s2 r2=>?_⟩;exact HV s2 (r1.ext x2) r2 (am.tf (x1.tf.trans x2.tf) _ _ r) e3 fun H3 x3 s3=>k σ H3 m2 ((x1.trans x2).trans x3) s3 (hl.ext ((x1.trans x2).trans x3))
 ·cases e
def Pw (lt:Int->Int->Bool)(ns:Th):Int:=ns.getD (argBest (fun i j=>lt (ns.getD i 0) (ns.getD j 0)) (ns.length - 1)) 0
end HW
namespace HS
open PySem PySem.Spec PyProof.Rows L2
section
variable  {prog:Program}{w:World}{A:Around}{E:Tb}{s:Shared}
theorem pL {a:Addr}{Q:Bool->Shared->Prop}(hT:s.TypeIs (.ref a) "dict")(h:Q false s):wpAny (model prog w) A (Builtin.List.listLengthHint (.ref a)) Q E s:=PySem.W.kdl_hint_dict hT h
theorem qT {a:Addr}{kvs:List (aE×Value)}{Q:List Value->Shared->Prop}(hh:A.handled=none)(hd:(a == sysModules)=false)(hm:s.heap.DictOf (aX prog w) a kvs)(hz:kvs.length<=sizeLine)
  (h:∀(vs:Te) (h':Heap) (tk:Nat),vs.length=kvs.length->(∀(i:Nat) v,vs[i]?=some v->∃k x,kvs[i]?=some (k,x)/\i9 k v=true)->(∀b o,s.heap.get? b=some o->h'.get? b=some o)->s.toks<=tk->s.heap.objs.size<=h'.objs.size->Q vs {s with heap:=h',toks:=tk}) :
  wpAny (model prog w) A (collect (.ref a)) Q E s:=by
 obtain ⟨ep,hm⟩:=hm.dictAt;obtain ⟨o,es,ho,hx,hdat,r⟩:=id hm;have hlt:=zam ho;unfold collect;refine zab (zcU (za1 F.entry_proto_collect ?_));rw [zaU F.plain_proto_collect _];refine (show wpAny _ A.in1 (newList [] >>= fun l=>again (.builtin "list.__iadd__" ⟨[l,.ref a],[]⟩)) _ _ s from zab (zaV ?_));refine zad ⟨zbk F.plain_list_iadd _,za1 F.entry_list_iadd ?_⟩;rw [zaU F.plain_list_iadd _];refine (show wpAny _ A.in1 (Builtin.List.listExtendWith (.ref s.heap.objs.size) (.ref a) (.ref s.heap.objs.size)) _ _ _ from ?_);unfold Builtin.List.listExtendWith;have hm1:=hm.push {cls:=.type "list",data:=.seq ([]:Te).toArray};have hT:Shared.TypeIs {s with heap:=s.heap.push {cls:=.type "list",data:=.seq ([]:Te).toArray}} (.ref a) "dict":=hm1.dictOf.typeIs;refine zab (zby hT ?_)
 have h1:Builtin.List.listSameRef (.ref s.heap.objs.size) (.ref a)=false:=by simp [Builtin.List.listSameRef,zbF hlt]
 simp only [h1,show (Value.type "dict" == Value.type "list")=false by decide,show (Value.type "dict" == Value.type "tuple")=false by decide,zcA,zan,if_false];refine zab (wpAny_pyIter_dict hd hm1 ?_);have hsz:(s.heap.push {cls:=.type "list",data:=.seq ([]:Te).toArray}).objs.size=s.heap.objs.size+1:=zbe ..;generalize hI:(s.heap.push {cls:=.type "list",data:=.seq ([]:Te).toArray}).objs.size=I at *;have kp:∀b o,(s.heap.push {cls:=.type "list",data:=.seq ([]:Te).toArray}).get? b=some o->((s.heap.push {cls:=.type "list",data:=.seq ([]:Te).toArray}).push {cls:=.type "dict_keyiterator",data:=.fields #[.ref a,.int 0 0,.int kvs.length 0,.int ep 0]}).get? b=some o:=fun b o e=>zae _ e;generalize hh1:(s.heap.push {cls:=.type "list",data:=.seq ([]:Te).toArray}).push {cls:=.type "dict_keyiterator",data:=.fields #[.ref a,.int 0 0,.int kvs.length 0,.int ep 0]}=h1 at *;have hIt:h1.IsKeyIter I a 0 kvs.length ep:=⟨_,by rw [←hh1,←hI];exact zaq _ rfl,rfl,rfl⟩;have hma:h1.DictAt (aX prog w) a kvs ep:=hm1.keep kp;have hTa:Shared.TypeIs {s with heap:=h1} (.ref a) "dict":=hma.dictOf.typeIs;refine zab (zaF (pL hTa ?_))
 refine (show wpAny _ A.in1 (rule "list.extend.makes-room" >>= fun _=>Builtin.List.listTouch (.ref s.heap.objs.size) >>= fun _ =>
  again (.builtin "list.extend.loop" ⟨[.ref s.heap.objs.size,.ref I,.ref s.heap.objs.size],[]⟩)) _ _ _ from zab (zca (zab ?_)))
 have hL:h1.get? s.heap.objs.size=some {cls:=.type "list",data:=.seq ([]:Te).toArray}:=kp _ _ (zaq _ rfl)
 have hSf:s.heap.objs.size∉[I,a]:=fun hm=>by
  simp only [zak,zaC,or_false] at hm;rcases hm with e|e
  ·rw [hsz] at e;omega
  ·exact zaG _ (e ▸ hlt)
 refine (show wpAny _ A.in1 (updateSeq s.heap.objs.size (·.push .none) >>= fun _=>updateSeq s.heap.objs.size (·.pop)) _ _ _ from zab (zbv hL rfl ?_));have hL2:=zaI (Obj.mapSeq (·.push Value.none)) hL rfl;refine zbv (s:={s with heap:=_}) hL2 rfl ?_;have hL3:=zaI (Obj.mapSeq (·.pop)) hL2 rfl
 have oth:∀b o,b≠s.heap.objs.size->h1.get? b=some o->((h1.update s.heap.objs.size (Obj.mapSeq (·.push Value.none))).update s.heap.objs.size (Obj.mapSeq (·.pop))).get? b=some o :=
  fun b o hb e=>(zaz _ _ (Ne.symm hb)).trans ((zaz _ _ (Ne.symm hb)).trans e)
 have W1:=Walks.dictKeys (prog:=prog) (w:=w) (knd:=aX prog w) (A:=A.in1) (show A.in1.handled=none from hh) I a (by rw [hsz];exact zax (zaR hlt)) kvs ep
 refine zad ⟨zbk F.plain_extend_loop _,codeAny_extend_loopS W1.toS hz _ hSf _ kvs.length 0 _ _ _ rfl (za3 _)
  (W1.frame 0 h1 _ ⟨hIt,hma⟩ fun b hb o e=>oth b o (fun q=>hSf (q ▸ hb)) e) hL3 (ItemsOf.nil _) fun s' acc c hm' hS' hacc=>?_⟩
 refine (show wpAny _ A (load s.heap.objs.size >>= _) _ _ s' from zab (wpAny_load hS' ?_));dsimp only;obtain ⟨h',g',d',tk',os'⟩:=s';have eg:g'=s.gens:=hm'.gens;have ed:d'=s.drawn:=hm'.drawn;have eo:os'=s.os:=hm'.os;subst eg;subst ed;subst eo;refine zad ?_;refine h _ h' tk' (by rw [←hacc.1];simp) (fun i v hv=>hacc.2 i v (by simpa using hv)) (fun b o e=>hm'.heap b o (fun hb=>?_) (oth b o (fun q=>?_) (kp _ _ (zae _ e)))) hm'.toks (zb1 (zam hS'))
 ·have hb1:=zam e
  simp only [zak,zaC,or_false] at hb;rcases hb with q|q
  ·exact zaG _ (q ▸ hb1)
  ·rw [q,hsz] at hb1;exact absurd hb1 (Nat.not_lt.mpr (zce _))
 ·exact zaG _ (q ▸ zam e)
theorem pH:∀{vs:Te} {kvs:List (aE×Value)} {ns:Th},kvs.map (·.1)=ns.map Sum.inl->vs.length=kvs.length->(∀(i:Nat) v,vs[i]?=some v->∃k x,kvs[i]?=some (k,x)/\i9 k v=true)->IntsAre vs ns
 |[],[],[],_,_,_=>.nil
 |[],[],_::_,e,_,_=>by simp at e
 |[],_::_,_,_,e,_=>by simp at e
 |_::_,[],_,_,e,_=>by simp at e
 |v::vs,kv::kvs,[],e,_,_=>by simp at e
 |v::vs,(k,x)::kvs,n::ns,e,hl,h=>by
  simp only [zaf,List.cons.injEq] at e;obtain ⟨e1,e2⟩:=e;subst e1;obtain ⟨k',x',q1,q2⟩:=h 0 v rfl;simp only [zb9,Option.some.injEq,Prod.mk.injEq] at q1;rw [←q1.1] at q2;rcases bj q2 with ⟨i,t,q3,rfl⟩|⟨y,t,q3,rfl⟩|⟨q3,rfl⟩
  ·cases q3
   exact .cons _ _ (pH e2 (by simpa using hl) fun i v hv=>h (i+1) v (by simpa using hv))
  ·cases q3
  ·cases q3
theorem rZ {a:Addr}{kvs:List (aE×Value)}{xs:Th}{Q:Tb}(hh:A.handled=none)(hd:(a == sysModules)=false)(hm:s.heap.DictOf (aX prog w) a kvs)(hk:kvs.map (·.1)=xs.map Sum.inl)(h64:xs.length < 64)
  (h:∀(out:Ti) (ns:Th) (h':Heap) (tk:Nat) (l:Addr) (c:Nat),IntsAre out.toList ns->ns.Perm xs->ns.Pairwise (·<=·)->(∀b o,s.heap.get? b=some o->h'.get? b=some o)->s.toks<=tk ->
   s.heap.objs.size<=l->h'.get? l=some (seqObj "list" out c)->Q (.ref l) {s with heap:=h',toks:=tk}) :
  wpAny (model prog w) A (call (.builtin "sorted") [.ref a]) Q E s:=by
 have hlen:kvs.length=xs.length:=by simpa using congrArg List.length hk
 refine Calls.call_function_entry kind_sorted plain_sorted entry_sorted (args_sorted1 _) ?_;unfold Builtin.«sorted»;refine zab (m:=checkCount "sorted" 1 1 _) (zad (zab (qT (show A.in1.handled=none from hh) hd hm (by rw [hlen,zbh];omega) fun vs h' tk hl hv kp ht hge=>?_)));have hI:IntsAre vs xs:=pH hk hl hv;have hvl:vs.length=xs.length:=IntsAre.length hI;refine zab (zc5 ?_ (by rw [hvl,zbh];omega));have hoL:(h'.push (seqObj "list" vs.toArray 0)).get? h'.objs.size=some (seqObj "list" vs.toArray 0):=zaq _ rfl;refine zab (zaF (zaT (s:={s with heap:=h'.push (seqObj "list" vs.toArray 0),toks:=tk}) slot_list_sort ⟨_,hoL,rfl⟩ entry_list_sort (list_sort_tree hoL hI (by omega) fun out ns' a1 a2 a3=>⟨_,rfl,?_⟩) (args_list_sort _)))
 obtain ⟨c,hc⟩:∃c,(sortedHeap (h'.push (seqObj "list" vs.toArray 0)) h'.objs.size vs out).get? h'.objs.size=some (seqObj "list" out c):=by
  unfold sortedHeap;obtain ⟨e1,q1⟩:∃e1,((h'.push (seqObj "list" vs.toArray 0)).update h'.objs.size (Obj.mapSeq fun _=>#[])).get? h'.objs.size=some (seqObj "list" #[] e1):=⟨_,get?_update_seq hoL (fun _=>#[])⟩;exact ⟨_,get?_update_seq (zae _ (zae _ q1)) (fun _=>out)⟩
 refine zad ⟨_,rfl,h out ns' _ tk h'.objs.size c a1 a2 a3 (fun b o e=>?_) ht hge hc⟩;have hb:=kp b o e;have ne:h'.objs.size≠b:=zbF (zam hb);unfold sortedHeap;rw [zaz _ _ ne];refine zae _ (zae _ ?_);rw [zaz _ _ ne];exact zae _ hb
end
end HS
namespace HW
open PySem PySem.Spec PyProof.Rows L2 HS
def so:List V->Hp->VK->Prop:=fun vs H Q=>∃p kvs ns,vs=[.ref p]/\Rd H p (.dK kvs)/\kvs.map (·.1)=ns.map Sum.inl/\ns.length < 64/\∀l,H l=none->Q (.ref l) (upd H l (.lst ((gr ns).map V.int)))
theorem wP:∀{kvs:List (aE×V)} {vs:List (aE×Value)},KV kvs vs->vs.map (·.1)=kvs.map (·.1)
 |_,_,.nil=>rfl
 |_,_,.cons r t=>by simp only [zaf,wP t,r.1]
theorem qX {X:Cx}(hc:X.calm=true):im X (.builtin "sorted") so:=by
 intro pins s σ H vs us Q I r h;obtain ⟨p,kvs,ns,rfl,hp,hk,h64,q⟩:=h;obtain ⟨u,rfl,rx⟩:=l7 r;cases rx
 obtain ⟨hz,hs,es,hkv,hD⟩:kvs.length<=sizeLine/\(p == sysModules)=false/\∃vs,KV kvs vs/\s.heap.DictOf (aX X.prog X.w) p vs:=by
  rcases hp with hp|⟨o,hp⟩
  ·exact I.hok p _ hp
  ·exact (I.hok p _ hp).2
 refine rZ (I.ok.hd hc) hs hD (by rw [wP hkv];exact hk) h64 fun out ns' h' tk l c a1 a2 a3 kp ht hl hL=>?_;have e:=Bp a3 a2;subst e;have hlen:(gr ns).length=ns.length:=(cN ns).length_eq;exact ⟨.ref l,_,I.laid (t':=tk) kp hl (show bE X.prog X.w _ h' _ (.lst _) from ⟨by rw [zal,hlen,zbh];omega,out.toList,c,pJ a1,by simpa [seqObj] using hL⟩),rfl,q _ (I.hok.fresh hl)⟩
def fg:List aE->Option (Th)
 |[]=>some []
 |.inl n::r=>(fg r).map (n :: ·)
 |_=>none
theorem nY:∀{ks:List aE} {ns:Th},fg ks=some ns->ks=ns.map Sum.inl
 |[],ns,e=>by cases e;rfl
 |.inl n::r,ns,e=>by
  obtain ⟨ms,e1,rfl⟩:=zaM.mp (show (fg r).map (n :: ·)=some ns from e);rw [nY e1];rfl
 |.inr x::r,ns,e=>by cases e
def vp:List (FE×FE)->Lo->ac->Option (List (R×R)×ac)
 |[],_,μ=>some ([],μ)
 |(fk,fv)::r,ρ,μ=>(fk ρ μ).bind fun a=>(fv ρ a.2).bind fun b=>(vp r ρ b.2).bind fun c=>some ((a.1,b.1)::c.1,c.2)
section
variable  {K:zac}{σ:L2.St}
def Gx (K:zac)(m:Tf)(H:Hp):List (R×R)->List (V×V)->Prop
 |[],ps=>ps=[]
 |p::ps,qs=>∃x y r,qs=(x,y)::r/\ar K m H p.1 x/\ar K m H p.2 y/\Gx K m H ps r
theorem sk:∀(prs:List (FE×FE)) {H:Hp} {Q:List (V×V)->Hp->Prop} {ρ:Lo} {μ μ':ac} {m:Tf} {rs:List (R×R)},dJ K m H ρ σ->aO K m H μ->vp prs ρ μ=some (rs,μ') ->
  (∀ps H' m',cQ m H m' H'->aO K m' H' μ'->Gx K m' H' rs ps->Q ps H')->qh (prs.map fun p=>(az K p.1,az K p.2)) σ H Q
 |[],H,Q,ρ,μ,μ',m,rs,hl,hs,e,k=>by
  cases e;exact k [] H m .refl hs rfl
 |(fk,fv)::r,H,Q,ρ,μ,μ',m,rs,hl,hs,e,k=>by
  obtain ⟨⟨a,μ1⟩,e1,e⟩:=zaa.mp e;obtain ⟨⟨b,μ2⟩,e2,e⟩:=zaa.mp e;obtain ⟨⟨cs,μ3⟩,e3,e⟩:=zaa.mp e;cases e;refine ⟨ρ,μ,m,a,μ1,hl,hs,e1,fun x H1 m1 x1 s1 r1=>?_⟩;refine ⟨ρ,μ1,m1,b,μ2,hl.ext x1,s1,e2,fun y H2 m2 x2 s2 r2=>?_⟩;exact sk r (hl.ext (x1.trans x2)) s2 e3 fun ps H3 m3 x3 s3 rp=>k _ H3 m3 ((x1.trans x2).trans x3) s3 ⟨x,y,ps,rfl,r1.ext (x2.trans x3),r2.ext x3,rp⟩
end
end HW
namespace HW
open PySem PySem.Spec PyProof.Rows L2
def jp (K:zac)(mg:Td)(x:Str)(d:D):Prop:=∃u v,mg x=some u/\aY v u/\∀H,am K H d v
def EV (K:zac)(d:D)(v:V)(u:Value):Prop:=aY v u/\∀H,am K H d v
def xu (K:zac)(ds:List D)(vs:List V)(us:Te):Prop:=aU vs us/\∀H,RelDs K H ds vs
theorem jC {K:zac}:xu K [] [] []:=⟨.nil,fun _=>rfl⟩
theorem ig {K:zac}{d:D}{v:V}{u:Value}{ds:List D}{vs:List V}{us:Te}(h:EV K d v u)(h':xu K ds vs us):xu K (d::ds) (v::vs) (u::us) :=
 ⟨.cons h.1 h'.1,fun H=>by simp only [RelDs];exact ⟨_,_,rfl,h.2 H,h'.2 H⟩⟩
theorem Gq {K:zac}{b:Bool}:EV K (.bl b) (.bl b) (.bool b):=⟨rfl,fun H=>by simp only [am]⟩
theorem lS {K:zac}{a:Addr}{us:Te}{n:Nat}{sl:Array (Tg)}{ds:List D}{vs:List V}(h:K.lookup a=some ⟨.type "tuple",none,.seq us.toArray n,sl⟩)(hz:us.length<=sizeLine)(r:xu K ds vs us):EV K (.tup ds) (.ref a) (.ref a) :=
 ⟨rfl,fun H=>by simp only [am];exact ⟨a,vs,rfl,.inr ⟨_,us.toArray,n,h,rfl,rfl,rfl,by simpa using hz,by simpa using r.1⟩,r.2 H⟩⟩
theorem tR {K:zac}{mg:Td}{x:Str}{u:Value}{d:D}{v:V}(hm:mg x=some u)(r:EV K d v u):jp K mg x d:=⟨u,v,hm,r.1,r.2⟩
def eN {α:Type}(xs:List α)(lo hi:Option Int)(k:Int):List α:=(let b:=sliceBounds lo hi (some k) xs.length;sliceRange b.1 b.2.1 b.2.2).filterMap fun i=>xs[i]?
def KL (K:zac):V->Option Int->Option Int->Int->Hp->VK->Prop:=fun x lo hi k H Q=>∃a xs,x=.ref a/\g9 K H a xs/\k≠0/\∀p,H p=none->Q (.ref p) (upd H p (.lst (eN xs lo hi k)))
def Fw (K:zac)(te:TE)(tl th:TO)(ts:TO):TE:=fun σ H Q=>te σ H fun x H1=>tl σ H1 fun l H2=>th σ H2 fun u H3=>ts σ H3 fun k H4=>∃j,k=some j/\KL K x l u j H4 Q
theorem oY:∀(is:List Nat) {vs:List V} {us:Te},aU vs us->aU (is.filterMap fun i=>vs[i]?) (is.filterMap fun i=>us[i]?)
 |[],_,_,_=>.nil
 |i::is,vs,us,r=>by
  have ih:=oY is r;have hl:=r.length
  cases e:vs[i]? with
  |none =>
   have e2:us[i]?=none:=by rw [List.getElem?_eq_none_iff] at e ⊢;omega
   simp only [za6,e,e2];exact ih
  |some v =>
   obtain ⟨u,e2,rv⟩:=r.get e;simp only [za6,e,e2];exact .cons rv ih
theorem xD {α:Type}(xs:List α)(lo hi:Option Int)(k:Int):(eN xs lo hi k).length<=xs.length:=by
 refine zbg (List.length_filterMap_le _ _) (sliceRange_length_le _ _ _ xs.length ?_ ?_)
 ·intro hp
  have hp:k > 0:=hp;unfold sliceBounds;simp only [zbt,if_pos hp];refine ⟨?_,?_⟩
  ·cases lo <;> simp only <;> omega
  ·cases hi <;> simp only <;> omega
 ·intro hp
  have hp:¬ k > 0:=hp;unfold sliceBounds;simp only [zbt,if_neg hp];refine ⟨?_,?_⟩
  ·cases lo <;> simp only <;> omega
  ·cases hi <;> simp only <;> omega
theorem DC {X:Cx}{e st:Expr}{lo hi:Option Expr}{te:TE}{tl th ts:TO}{p2 pos:Pos}(he:PE X e te)(hl:PO X lo tl)(hu:PO X hi th)(hs:PO X (some st) ts):PE X (.Subscript e (.Slice lo hi (some st) p2) pos) (Fw X.K te tl th ts):=by
 intro pins s σ H Q I h;refine Subscript_ (cy (he pins s σ H _ I h) fun v s1 hh=>?_);obtain ⟨x,H1,I1,r1,q1⟩:=hh;refine wpAny_Slice (cy (hl pins s1 σ H1 _ I1 q1) fun vl s2 hh=>?_);obtain ⟨l,H2,I2,pl,q2⟩:=hh;refine cy (hu pins s2 σ H2 _ I2 q2) fun vu s3 hh=>?_;obtain ⟨u,H3,I3,pu,q3⟩:=hh;refine cy (hs pins s3 σ H3 _ I3 q3) fun vk s4 hh=>?_;obtain ⟨k,H4,I4,pk,j,ek,a,xs,ex,hx,hk,q⟩:=hh;subst ek ex;cases r1;have I5:aD X pins σ H4 {s4 with heap:=s4.heap.push {cls:=.type "slice",data:=.fields #[vl,vu,vk]}}:=I4.kept (t':=s4.toks) fun b ob q=>zae _ q;obtain ⟨its,r,ht,hz⟩:=I5.list hx;have hlen:=r.length
 show wpAny (model X.prog X.w) X.A (subscriptTail e (.Slice lo hi (some st) p2) (.ref a) (.ref s4.heap.objs.size)) (EP X pins σ Q) X.xe {s4 with heap:=s4.heap.push {cls:=.type "slice",data:=.fields #[vl,vu,vk]}}
 refine tail_any (ops:=[.ref a,.ref s4.heap.objs.size]) ht.isList.typeIs slot_list_getitem.lookup ?_ (by with_unfolding_all rfl);refine wpAny_getItem_list_slice ht.isList (Heap.IsSliceOf.new ..) pl pu pk (by simpa using hk) ?_ (by rw [zat] <;> omega)
 have e1:slicePick its.toArray l u (some j)=(eN its l u j).toArray:=by
  unfold slicePick eN;simp
 rw [e1];refine ⟨.ref _,_,I5.laid (t':=s4.toks) (o:=.lst (eN xs l u j)) (fun b ob q=>zae _ q) (zao _) ?_,rfl,q _ (I5.hok.fresh (zao _))⟩;refine ⟨zbg (xD xs l u j) hz,_,0,?_,zaq _ rfl⟩;unfold eN;rw [←hlen];exact oY _ r
theorem RelDs.pick {K:zac}{H:Hp}:∀(is:List Nat) {ds:List D} {vs:List V},RelDs K H ds vs->RelDs K H (is.filterMap fun i=>ds[i]?) (is.filterMap fun i=>vs[i]?)
 |[],_,_,_=>rfl
 |i::is,ds,vs,r=>by
  have ih:=RelDs.pick is r;have hl:=r.length
  cases e:ds[i]? with
  |none =>
   have e2:vs[i]?=none:=by rw [List.getElem?_eq_none_iff] at e ⊢;omega
   simp only [za6,e,e2];exact ih
  |some d =>
   obtain ⟨v,e2,rv⟩:=r.get e;simp only [za6,e,e2,RelDs];exact ⟨v,_,rfl,rv,ih⟩
def zC (i j c:Int):Prop:=-(2 ^ 61)<=i/\i < 2 ^ 61/\-(2 ^ 61)<=j/\j < 2 ^ 61/\c≠0/\-(2 ^ 30) < c/\c < 2 ^ 30
instance {i j c:Int}:Decidable (zC i j c):=by unfold zC;infer_instance
def xC:List R->ac->Option (R×ac)
 |[x],μ=>(d5 x μ).bind fun xs=>(fT xs).bind fun is=>some (.v (.int is.sum),μ)
 |_,_=>none
def KK (K:zac):List V->Hp->VK->Prop:=fun vs H Q=>∃(a:Addr) (is:Th),vs=[.ref a]/\g9 K H a (is.map V.int)/\Q (.int is.sum) H
theorem Lz {K:zac}:Cy K xC (KK K):=by
 intro m H μ xs d μ' vs Q s r e k;unfold xC at e;split at e
 ·rename_i x
  obtain ⟨ys,e1,e⟩:=zaa.mp e;obtain ⟨bs,e2,e⟩:=zaa.mp e;cases e;obtain ⟨v,rfl,r1⟩:=oO r;obtain ⟨a,ws,rfl,q,r2⟩:=fO s r1 e1;rw [nX e2] at r2;rw [nW r2] at q;exact ⟨a,bs,rfl,q,k _ H m .refl s (by simp only [ar,am])⟩
 ·cases e
theorem Br {is:Th}{its:Te}(r:aU (is.map V.int) its):∀(i:Nat) v,its.toArray[i]?=some v->∃t,v=.int (is.getD i 0) t:=fun i v e=>by
 have e:its[i]?=some v:=by simpa using e
 have hi:i < its.length:=(zau.mp e).1;have hl:=r.length;rw [zal] at hl
 have hb:i < is.length:=by omega
 obtain ⟨u,q1,q2⟩:=aU.get (i:=i) (x:=.int is[i]) r (by simp [hb]);rw [e] at q1;cases q1;obtain ⟨t,rfl⟩:=q2;exact ⟨t,by simp [hb]⟩
theorem wA {is:Th}:∀n,n<=is.length->preSum (fun i=>is.getD i 0) n=(is.take n).sum
 |0,_=>by simp [preSum]
 |n+1,h=>by
  have hn:n < is.length:=h;have e1:is.take (n+1)=is.take n++[is[n]]:=(List.take_append_getElem hn).symm;rw [preSum,wA n (by omega),e1,List.sum_append];simp [hn]
theorem yr {X:Cx}(hc:X.calm=true):im X (.builtin "sum") (KK X.K):=by
 intro pins s σ H vs us Q I rv q;obtain ⟨a,is,rfl,q',q⟩:=q
 cases rv with
 |cons r1 rr =>
  cases rr;cases r1;obtain ⟨its,rv,p,hz⟩:=I.list q'
  have hlt:a < s.heap.objs.size:=by obtain ⟨o,n,e,_⟩:=p;exact zam e
  have hl:its.toArray.size=is.length:=by have:=rv.length;rw [zal] at this;simp [this]
  refine call_sum_walkG (zch p.isList ?_);refine ⟨_,_,_,_,_,_,fun i=>is.getD i 0,rfl,Walks.list (A:=X.A.in1) (show X.A.in1.handled=none from I.ok.hd hc) s.heap.objs.size a (zax hlt) its.toArray,⟨⟨_,zaq _ rfl,rfl,rfl⟩,p.isList.push _⟩,fun b hb=>?_,Br rv,fun h' tk t' hk=>?_⟩
  ·show b < (s.heap.push _).objs.size
   rw [zbe];simp only [zak,zaC,or_false] at hb;rcases hb with hb|hb
   ·rw [hb];exact zcD _
   ·rw [hb];exact zaR hlt
  ·rw [hl,wA _ (zao _),List.take_length]
   refine ⟨.int _,H,I.kept (t':=tk) fun b o e=>hk b o ?_ (zae _ e),⟨_,rfl⟩,q⟩;intro z;rw [zaE.mp z] at e;exact absurd (zam e) (zaG _)
end HW
namespace L2
open PySem PySem.Spec PyProof.Rows
section
variable  {X:Cx}{pins:Tc}{σ:St}{H:Hp}{s:Shared}{h':Heap}
theorem aD.turnedL {t':Nat}{its:Tf}(I:aD X pins σ H s)(k:∀b o,b∉its->s.heap.get? b=some o->h'.get? b=some o)
  (hf:∀it∈its,H it=none/\it≠X.env.locals/\(it∈X.ex\/X.s₀.heap.objs.size<=it)/\(∀x c,X.env.cells.lookup x=some c->c≠it)/\∀p∈X.pn++pins,p.1≠it):aD X pins σ H {s with heap:=h',toks:=t'}:=by
 have nit:∀b u,H b=some u->b∉its:=fun b u e z=>by rw [(hf b z).1] at e;cases e
 refine I.step (g':=s.gens) (d':=s.drawn) (ch:=its) (fun b hb=>?_) (fun b o _ _ hc e _=>k b o hc e) (fun b o _ _ hc e _=>⟨o.slots,k b o hc e⟩) (fun _ _ _ _ n=>n)
  (fun b o hc e=>⟨o,k b o hc e⟩) (fun _ _ e=>e) (fun _ _ _ e=>e) (fun b ps e=>⟨#[],by rw [e];simp⟩) (fun m hm=>?_) (fun b u e=>?_) I.bare
 ·obtain ⟨_,hL,h1,h2,h3⟩:=hf b hb
  exact ⟨h1,hL,h2,h3⟩
 ·obtain ⟨o,es,ep,ho,r⟩:=hm
  exact ⟨o,es,ep,k _ o (fun z=>(hf _ z).2.1 rfl) ho,r⟩
 ·refine (I.hok b u e).stay (fun c v hc q=>k c v ?_ q) (fun _ q=>q) fun _ _ q=>q
  rcases hc with z|z
  ·rw [z];exact nit b u e
  ·exact nit c _ z
end
theorem Dk {h:Heap}{o:Obj}{b:Addr}(hb:b < h.objs.size):(h.push o).get? b=h.get? b:=by
 unfold Heap.get? Heap.push;simp [Array.getElem?_push,zax hb]
def PN (K:zac)(a:Addr):It :=
 ⟨fun i H=>∃xs x,g9 K H a xs/\xs[i]?=some x,fun i H v H'=>∃T x,v=.ref T/\H T=none/\H'=upd H T (.tup [.int (i:Int),x])/\∀xs,g9 K H a xs->xs[i]?=some x,fun i H=>∃xs,g9 K H a xs/\xs.length<=i⟩
theorem xA {P:Program}{w:World}{K:zac}{elts:Tj}{x1}{pos:Pos}(a it e:Addr)(hne:e≠it):vV P w K (.Tuple elts x1 pos) (PN K a) [e,it] e (fun i h=>(∃old,IsEnum h e it i old)/\h.IsListIter it a i) where
 mem:=by simp
 obj:=fun i h ⟨⟨old,he⟩,st⟩ b hb=>by
  rcases (by simpa using hb:b=e\/b=it) with z|z
  ·subst z
   exact ⟨_,he,fun v z=>by
    have z':Data.fields _=Data.cell v:=z
    cases z'⟩
  ·subst z
   obtain ⟨o,e,c,d⟩:=st;exact ⟨o,e,fun v z=>by rw [d] at z;cases z⟩
 keep:=fun i h h' ⟨⟨old,he⟩,st⟩ k=>⟨⟨old,k e (by simp) _ he⟩,st.at fun o q=>k it (by simp) o q⟩
 item:=by
  intro X hP hw hK hc i pins s σ H E I hf st hg;subst hP hw hK;obtain ⟨⟨old,he⟩,st⟩:=st;obtain ⟨xs,x,hq,hx⟩:=hg;obtain ⟨its,rv,p,hz⟩:=I.list hq;obtain ⟨u,hu,ru⟩:=rv.get hx;refine wpAny_pyNext_enum_item he st p.isList (x:=u) (by simpa using hu) hne fun h1 o1 st1 hT hsz kk=>?_;refine ⟨_,rfl,wpAny_letOwnedTupleGo_enum o1 fun h2 he2 sb=>?_⟩;have elt:e < s.heap.objs.size:=zam he
  have ilt:it < s.heap.objs.size:=by obtain ⟨o,q,_⟩:=st;exact zam q
  have nT:H s.heap.objs.size=none:=I.hok.fresh (zao _)
  have tup:bE X.prog X.w (upd H s.heap.objs.size (.tup [.int (i:Int),x])) (s.heap.push {cls:=.type "tuple",data:=.seq #[.int (i:Int) s.toks,u]}) s.heap.objs.size (.tup [.int (i:Int),x]) :=
   ⟨(by decide:2<=sizeLine),[.int (i:Int) s.toks,u],.cons ⟨_,rfl⟩ (.cons ru .nil),jo.new _ _⟩
  have I1:=I.laid (t':=s.toks) (fun b o q=>zae _ q) (zao _) tup;have hT2:h2.get? s.heap.objs.size=some {cls:=.type "tuple",data:=.seq #[.int (i:Int) s.toks,u]}:=(sb.2 _ (zbF elt)).trans hT
  have I2:aD X pins σ (upd H s.heap.objs.size (.tup [.int (i:Int),x])) {s with heap:=h2,toks:=s.toks+1}:=by
   refine aD.turnedL (s:={s with heap:=s.heap.push {cls:=.type "tuple",data:=.seq #[.int (i:Int) s.toks,u]}}) (its:=[e,it]) I1 (fun b o hb q=>?_) fun b hb=>?_
   ·have hb1:b≠e:=fun z=>hb (by simp [z])
    have hb2:b≠it:=fun z=>hb (by simp [z])
    by_cases hbT:b=s.heap.objs.size
    ·subst hbT
     have q:(s.heap.push {cls:=.type "tuple",data:=.seq #[.int (i:Int) s.toks,u]}).get? s.heap.objs.size=some o:=q;rw [zaq _ rfl] at q;cases q;exact hT2
    ·have q:(s.heap.push {cls:=.type "tuple",data:=.seq #[.int (i:Int) s.toks,u]}).get? b=some o:=q
     have hlt:b < s.heap.objs.size:=by
      have h0:=zam q;rw [zbe] at h0;exact Nat.lt_of_le_of_ne (Nat.le_of_lt_succ h0) hbT
     have q0:s.heap.get? b=some o:=by rw [←q];exact (Dk hlt).symm
     exact (sb.2 b hb1).trans (kk b o hb1 hb2 q0)
   ·obtain ⟨f0,f1,f2,f3,f4,f5⟩:=hf b hb
    have hbT:b≠s.heap.objs.size:=by
     rcases (by simpa using hb:b=e\/b=it) with z|z <;> rw [z]
     ·exact zax elt
     ·exact zax ilt
    exact ⟨by rw [aB hbT];exact f0,f1,f3,f4,f5⟩
  refine ⟨.ref s.heap.objs.size,_,I2,rfl,⟨_,x,rfl,nT,rfl,fun ys hy=>by rw [I.list_inj hy hq];exact hx⟩,⟨⟨_,he2⟩,st1.at fun o q=>(sb.2 it (Ne.symm hne)).trans q⟩,fun b hb=>?_⟩
  have hbT:b≠s.heap.objs.size:=by
   rcases (by simpa using hb:b=e\/b=it) with z|z <;> rw [z]
   ·exact zax elt
   ·exact zax ilt
  rw [aB hbT];exact (hf b hb).1
 done:=by
  intro X hP hw hK hc i pins s σ H E I hf st hg;subst hP hw hK;obtain ⟨⟨old,he⟩,st⟩:=st;obtain ⟨xs,hq,hx⟩:=hg;obtain ⟨its,rv,p,hz⟩:=I.list hq;obtain ⟨f0,f1,f2,f3,f4,f5⟩:=hf it (by simp);have hl:=rv.length;exact wpAny_pyNext_enum_end (I.ok.hd hc) he st p.isList (by simp;omega) fun h' eb=>⟨rfl,I.turned (t':=s.toks) (fun b o hb e=>eb b o hb e) f0 f1 f3 f4 f5⟩
 self:=fun _ _ _ _ _ st h=>by
  obtain ⟨⟨old,he⟩,st⟩:=st;exact wpAny_pyIter_enum he h
section
variable  {X:Cx}
def F8 (K:zac)(ta:TA):TI:=fun σ H R=>ta σ H fun vs H1=>∃a,vs=[.ref a]/\(∃xs,g9 K H1 a xs)/\R (PN K a) H1
theorem Dy {elts:Tj}{x1}{pt:Pos}{a:Expr}{ta:TA}{p pos:Pos}(hg:Gl X "enumerate")(hm:X.mg "enumerate" = none)(ha:PA X [a] ta)(hs:starEach [a] X.env=[(false,eval a X.env)]:=by rfl) :
  PI X (.Tuple elts x1 pt) (.Call (.Name "enumerate" p) [a] [] pos) (F8 X.K ta):=by
 intro pins s σ H R I h;refine Call_ (j9 I hg hm (show bootBuiltins "enumerate" = some (.type "enumerate") by decide +kernel) (PyProof.Rows.callWith_type1 (cy (ha pos pins s σ H _ I h) fun us s1 hh=>?_) hs rfl));obtain ⟨vs,H1,I1,r1,q1⟩:=hh;obtain ⟨l,e,⟨xs,hq⟩,q⟩:=q1;subst e
 cases r1 with
 |cons r rr =>
  cases rr;cases r;obtain ⟨its,rv,p,hz⟩:=I1.list hq;refine call_enumerate_list p.isList fun h' he st hsz kk=>?_;refine wpAny_pyIter_enum he ?_;refine ⟨s1.heap.objs.size+1,[s1.heap.objs.size+1,s1.heap.objs.size],_,_,H1,rfl,I1.kept (t':=s1.toks) kk,xA l s1.heap.objs.size (s1.heap.objs.size+1) (Nat.succ_ne_self _),⟨⟨_,he⟩,st⟩,fun b hb=>?_,q⟩;rcases (by simpa using hb:b=s1.heap.objs.size+1\/b=s1.heap.objs.size) with z|z <;> rw [z]
  ·exact I1.fpOk (zce _) (I1.hok.fresh (zce _))
  ·exact I1.fpOk (zao _) (I1.hok.fresh (zao _))
end
end L2
namespace HW
open PySem PySem.Spec PyProof.Rows L2
structure Gy (K:zac)(J:It)(xs:List D)(P:Hp->Prop):Prop where
 st:∀H H',TF H H'->P H->P H'
 stop:∀i H,P H->xs.length<=i->J.stop i H
 go:∀(i:Nat) d H,xs[i]?=some d->P H->J.go i H
 yld:∀(i:Nat) d H x H',xs[i]?=some d->P H->J.yld i H x H'->(∀a o,H a=some o->H' a=some o)/\am K H' d x
def Dc (K:zac)(f:FI):TI:=fun σ H R=>∃ρ μ m xs μ',dJ K m H ρ σ/\aO K m H μ/\f ρ μ=some (xs,μ') /\
 ∀J P H' m',cQ m H m' H'->aO K m' H' μ'->Gy K J xs P->P H'->R J H'
theorem tG {m:Tf}{H H':Hp}(s:∀a o,H a=some o->H' a=some o):cQ m H m H' :=
 ⟨⟨[],by simp,fun _ z=>nomatch z⟩,⟨fun a xs e=>s _ _ e,fun a o x e=>s _ _ e⟩,fun a o e _=>s _ _ e,fun a e=>by
  cases q:H a with
  |none=>rfl
  |some o=>rw [s _ _ q] at e;cases e⟩
section
variable  {K:zac}{m:Tf}{σ:L2.St}{H:Hp}{μ:ac}{D:eJ}
theorem C7 {fi g b}(h:gC K (dB fi g b) D σ H):GT (Dc K fi) (oE K g) (gC K b) D σ H:=by
 obtain ⟨ρ,μ,m,o,hl,hs,e,k⟩:=h;obtain ⟨⟨xs,μ1⟩,e1,e⟩:=zaa.mp e;refine ⟨ρ,μ,m,xs,μ1,hl,hs,e1,fun J P H1 m1 x1 s1 ok p1=>?_⟩
 refine ⟨fun i n σ H=>n=xs.length - i/\i<=xs.length/\P H/\∃ρ μ m,dJ K m H ρ σ/\aO K m H μ/\cb g b (xs.drop i) ρ μ=some o/\eJ.of K m H D o,
  ⟨_,rfl,za3 _,p1,ρ,μ1,m1,dJ.ext x1 hl,s1,by simpa using e,eJ.of_ext x1 k⟩,?_⟩
 rintro i n σ H ⟨rfl,hi,p,ρ,μ,m,hl,hs,e,k⟩
 by_cases hlt:i < xs.length
 ·have hx:xs[i]?=some xs[i]:=zas hlt
  rw [zbw hlt,cb] at e;obtain ⟨⟨ρ1,μ1⟩,e1,e⟩:=zaa.mp e;obtain ⟨o1,e2,e⟩:=zaa.mp e
  refine .inr ⟨ok.go i _ H hx p,fun σ H=>i+1<=xs.length/\P H/\∃ρ μ m,dJ K m H ρ σ/\aO K m H μ/\cb g b (xs.drop (i+1)) ρ μ=some o/\eJ.of K m H D o,
   fun σ' H' z=>⟨xs.length - (i+1),by omega,rfl,z⟩,fun x H' y=>?_⟩
  obtain ⟨xe,rx⟩:=ok.yld i _ H x H' hx p y;have x0:cQ m H m H':=tG xe;refine ⟨ρ,μ,m,.v xs[i],ρ1,μ1,dJ.ext x0 hl,hs.same xe,rx,e1,fun σ1 H1 m1 x1 s1 l1=>?_⟩;have x1:=x0.trans x1;refine ⟨ρ1,μ1,m1,o1,l1,s1,e2,?_⟩
  cases o1 with
  |nx ρ2 μ2=>exact fun σ2 H2 m2 x2 s2 l2=>⟨hlt,ok.st _ _ (x1.trans x2).tf p,ρ2,μ2,m2,l2,s2,e,eJ.of_ext (x1.trans x2) k⟩
  |ct ρ2 μ2=>exact fun σ2 H2 m2 x2 s2 l2=>⟨hlt,ok.st _ _ (x1.trans x2).tf p,ρ2,μ2,m2,l2,s2,e,eJ.of_ext (x1.trans x2) k⟩
  |bk ρ2 μ2=>cases e;exact fun σ2 H2 m2 x2 s2 l2=>k σ2 H2 m2 (x1.trans x2) s2 l2
  |rt d μ2=>cases e;exact fun v H2 m2 x2 s2 l2=>k v H2 m2 (x1.trans x2) s2 l2
 ·have:i=xs.length:=by omega
  subst this;rw [zcE,cb] at e;cases e;exact .inl ⟨ok.stop _ H p (zao _),k σ H m .refl hs hl⟩
end
def lA (xs:List D):List D:=xs.zipIdx.map fun p=>.tup [.int ((p.2:Nat):Int),p.1]
def Ea (f:FE):FI:=fun ρ μ=>(f ρ μ).bind fun a=>match a.1 with|.v (.fl xs)=>some (lA xs,a.2)|_=>none
theorem BU {xs:List D}:(lA xs).length=xs.length:=by simp [lA]
theorem tI {xs:List D}{i:Nat}{d:D}(h:(lA xs)[i]?=some d):∃x,xs[i]?=some x/\d=.tup [.int (i:Int),x]:=by
 unfold lA at h;rw [zaS,List.getElem?_zipIdx] at h
 cases hx:xs[i]? with
 |none=>rw [hx] at h;cases h
 |some x =>
  rw [hx] at h;cases h;exact ⟨x,rfl,by simp⟩
theorem sh {H:Hp}{T:Addr}{o':HO}(h:H T=none)(a:Addr)(o:HO)(e:H a=some o):upd H T o' a=some o:=by
 have ne:a≠T:=fun z=>by rw [z,h] at e;cases e
 rw [aB ne];exact e
theorem IQ {K:zac}{H:Hp}{a vs xs}(r0:RelDs K H xs vs):Gy K (PN K a) (lA xs) (fun H=>GA K H a vs/\RelDs K H xs vs) where
 st:=fun H H' t ⟨f,r⟩=>⟨f.tf t,RelDs.tf t _ _ r⟩
 stop:=fun i H ⟨f,r⟩ hi=>⟨vs,f.sq,by rw [←r.length,←BU];exact hi⟩
 go:=fun i d H e ⟨f,r⟩=>let ⟨x,hx,_⟩:=tI e;let ⟨v,q,_⟩:=r.get hx;⟨vs,v,f.sq,q⟩
 yld:=fun i d H x H' e ⟨f,r⟩ ⟨T,y,e1,e2,e3,e4⟩=>by
  obtain ⟨z,hz,rfl⟩:=tI e;obtain ⟨v,q,rv⟩:=r.get hz;have:=e4 vs f.sq;rw [q] at this;cases this;subst e1 e3;refine ⟨sh e2,?_⟩;simp only [am];refine ⟨T,[.int (i:Int),y],rfl,gG.of db,?_⟩;simp only [RelDs,am];exact ⟨_,_,rfl,rfl,_,_,rfl,am.tf (tG (m:=[]) (sh e2)).tf _ _ rv,rfl⟩
theorem Hs {K:zac}{H:Hp}{R:It->Hp->Prop}{f}(h:Dc K (Ea f) σ H R):F8 K (iY K (af f ai)) σ H R:=by
 obtain ⟨ρ,μ,m,xs,μ',hl,hs,e,k⟩:=h;obtain ⟨⟨x,μ1⟩,e1,e⟩:=zaa.mp e;refine ⟨ρ,μ,m,[x],μ1,hl,hs,by simp [af,ai,e1],fun vs H1 m1 x1 s1 r1=>?_⟩;split at e
 ·rename_i ys q
  cases e;simp only at q;subst q;obtain ⟨v,r,rfl,r1,r2⟩:=r1;have r2:r=[]:=r2;simp only [ar,am] at r1;obtain ⟨a,ws,rfl,fa,ra⟩:=r1;subst r2;exact ⟨a,rfl,⟨ws,fa.sq⟩,k _ _ H1 m1 x1 s1 (IQ ra) ⟨fa,ra⟩⟩
 ·cases e
def xI (i:Nat)(g:Int->Int->Int)(f:FE):FS:=fun ρ μ=>match ρ[i]? with
 |some (some (.v (.int a)))=>(f ρ μ).bind fun r=>(match r with|(.v (.int b),μ1)=>some (.nx (ρ.set i (some (.v (.int (g a b))))) μ1)|_=>none)
 |_=>none
theorem HE {K:zac}{H:Hp}{D:eJ}{i:Nat}{g:Int->Int->Int}{f:FE}(h:gC K (xI i g f) D σ H):Kv i (az K f) (QL g) D σ H:=by
 obtain ⟨ρ,μ,m,o,hl,hs,e,k⟩:=h;unfold xI at e;split at e
 ·rename_i a ha
  obtain ⟨⟨x,μ1⟩,e1,e⟩:=zaa.mp e;split at e
  ·rename_i b μ2 hx
   cases hx;cases e;obtain ⟨v,hv,rv⟩:=hl.2 _ _ ha;simp only [ar,am] at rv;subst rv;refine ⟨_,hv,ρ,μ,m,_,_,hl,hs,e1,fun v H1 m1 x1 s1 r1=>?_⟩;simp only [ar,am] at r1;subst r1;exact ⟨a,b,rfl,rfl,k _ H1 m1 x1 s1 ((dJ.ext x1 hl).set (by simp only [ar,am]) i)⟩
  ·cases e
 ·cases e
def jF (kvs:List (aE×D))(k:aE):Option D:=(kvs.find? fun kv=>decide (kv.1=k)).map (·.2)
theorem KD.val {K:zac}{H:Hp}:∀{kvs:List (aE×D)} {es:List (aE×V)} (k:aE),KD K H kvs es->(jF kvs k=none/\cx es k=none)\/∃d v,jF kvs k=some d/\cx es k=some v/\am K H d v
 |[],es,k,h=>by
  have:es=[]:=by simpa using h.1
  subst this;exact .inl ⟨rfl,rfl⟩
 |(a,d)::kvs,[],k,h=>by have:=h.1;simp at this
 |(a,d)::kvs,(b,v)::es,k,h=>by
  obtain ⟨rfl,h1,h2⟩:=KD.cons.mp h
  by_cases e:b=k
  ·refine .inr ⟨d,v,?_,?_,h1⟩
   ·simp [jF,e]
   ·simp [cx,e]
  ·have ih:=KD.val k h2
   have e1:jF ((b,d)::kvs) k=jF kvs k:=by simp [jF,e]
   have e2:cx ((b,v)::es) k=cx es k:=hV e;rw [e1,e2];exact ih
def mI (x:R)(μ:ac):Option (List (aE×D)):=match x with
 |.p n=>match μ[n]? with|some (.dct kvs)=>some kvs|some (.fzd kvs)=>some kvs|_=>none
 |.v (.fd ks ds)=>if ks.length=ds.length then some (ks.zip ds) else none
 |_=>none
theorem Bc {K:zac}{m:Tf}{H:Hp}{μ:ac}{x:R}{v:V}{kvs:List (aE×D)}(s:aO K m H μ)(r:ar K m H x v)(e:mI x μ=some kvs):∃a es,v=.ref a/\Rd H a (.dK es)/\KD K H kvs es:=by
 unfold mI at e;split at e
 ·rename_i n
  obtain ⟨a,rfl,ha⟩:=r;split at e
  ·rename_i q
   cases e;obtain ⟨es,ea,e1,e2⟩:=s.cell _ _ a q ha;exact ⟨a,es,rfl,.inl ea,e1,e2⟩
  ·rename_i q
   cases e;obtain ⟨o,es,ea,e1,e2⟩:=s.cell _ _ a q ha;exact ⟨a,es,rfl,.inr ⟨o,ea⟩,e1,e2⟩
  ·cases e
 ·rename_i ks ds
  split at e
  ·rename_i hl
   cases e;simp only [ar,am] at r;obtain ⟨a,o,es,rfl,ea,e1,e2⟩:=r;refine ⟨a,es,rfl,.inr ⟨o,ea⟩,?_,?_⟩
   ·rw [zcF (by simp [hl]),e1]
   ·rw [zcG (by simp [hl])];exact e2
  ·cases e
 ·cases e
def tF (fo fk fx:FE):FE:=fun ρ μ=>(fo ρ μ).bind fun o=>if (mI o.1 o.2).isSome=true then (fk ρ o.2).bind fun k=>(fx ρ k.2).bind fun x=>(mI o.1 x.2).bind fun kvs=>(dW k.1).bind fun key=>some ((match jF kvs key with|some d=>.v d|none=>x.1),x.2) else none
theorem Hu {K:zac}{H:Hp}{Q:VK}{fo fk fx}(h:az K (tF fo fk fx) σ H Q):zw (az K fo) (az K fk) (az K fx) σ H Q:=by
 obtain ⟨ρ,μ,m,d,μ',hl,hs,e,kk⟩:=h;obtain ⟨⟨o,μ1⟩,e1,e⟩:=zaa.mp e;split at e
 ·rename_i h0
  obtain ⟨⟨k,μ2⟩,e2,e⟩:=zaa.mp e;obtain ⟨⟨x,μ3⟩,e3,e⟩:=zaa.mp e;obtain ⟨kvs,e4,e⟩:=zaa.mp e;obtain ⟨key,e5,e⟩:=zaa.mp e;cases e;refine ⟨ρ,μ,m,o,μ1,hl,hs,e1,fun vo H1 m1 x1 s1 r1=>?_⟩;obtain ⟨kvs0,e0⟩:=zb2.mp h0;obtain ⟨a,es,rfl,hR,hK⟩:=Bc s1 r1 e0;refine ⟨a,rfl,.inl ⟨es,hR⟩,?_⟩;refine ⟨ρ,μ1,m1,k,μ2,hl.ext x1,s1,e2,fun vk H2 m2 x2 s2 r2=>?_⟩;refine ⟨ρ,μ2,m2,x,μ3,hl.ext (x1.trans x2),s2,e3,fun vx H3 m3 x3 s3 r3=>?_⟩;obtain ⟨a',es',ea,hR',hK'⟩:=Bc s3 (r1.ext (x2.trans x3)) e4;cases ea;have hk:=ll (r2.ext x3) e5;refine ⟨cx es' key,.inl ⟨es',key,hR',hk,rfl⟩,?_⟩;rcases KD.val key hK' with ⟨n1,n2⟩|⟨dd,vv,n1,n2,n3⟩
  ·rw [n2]
   simp only [n1] at kk;exact kk _ H3 m3 ((x1.trans x2).trans x3) s3 r3
  ·rw [n2]
   simp only [n1] at kk;exact kk _ H3 m3 ((x1.trans x2).trans x3) s3 n3
 ·cases e
end HW
namespace HS
open PySem PySem.Spec PyProof.Rows
end HS
namespace HW
open PySem PySem.Spec PyProof.Rows L2 HS
end HW
namespace HS
open PySem PySem.Spec PyProof.Rows
end HS
namespace HW
open PySem PySem.Spec PyProof.Rows L2 HS
end HW
namespace HX
open PySem
abbrev eO (C:Value)(vs:Ti):Obj:={cls:=C,dict:=none,data:=.fields vs,slots:=#[]}
structure Fl (G:Addr->Prop)(h:Heap)(e:Addr)(C fl:Value):Prop where
 is:∃vs T ts c,¬ G e/\¬ G T/\T≠e/\h.get? e=some (eO C vs)/\vs[1]?=some (.ref T)/\h.get? T=some (eO c ts)/\ts[3]?=some fl
 all:∀b,G b->∃o,h.get? b=some o
end HX
namespace HW
open PySem PySem.Spec PyProof.Rows L2
abbrev Rf (K:zac)(c:Str)(C:Addr):Prop:=PySem.W.nsIn K mainGlobals c=some (some (.ref C))
structure RL (K:zac)(D:Addr):Prop where
 dc:PySem.W.hasDictIn K D=true
 ga:PySem.W.findIn K (.ref D) "__getattribute__" = some (some (.builtin "BaseException.__getattribute__"))
 gn:PySem.W.findIn K (.ref D) "__getattr__" = some none
 fi:PySem.W.findIn K (.ref D) "__class__" = some (some (.builtin "object.__class__"))
 mr:PySem.W.mroIn K D (.type "object")=some true
 mb:PySem.W.mroIn K D (.type "BaseException")=some true
 gt:PySem.W.specialIn K (.builtin "object.__class__") "__get__" = some (some (.builtin "getset_descriptor.__get__"))
 tk:PySem.W.takesIn K (.builtin "object.__class__")=some true
end HW
namespace HW
open PySem L2
end HW
namespace HX
open PySem
end HX
namespace HW
open PySem PySem.Spec PyProof.Rows L2
end HW
namespace HS
open PySem PyProof.Rows
def NJ (xs:Array Keyed)(lo hi:Nat):Prop:=∀i j,lo<=i->i<=j->j < hi->K xs i<=K xs j
def mx (lo hi:Nat)(xs ys:Array Keyed):Prop:=∀k,¬ (lo<=k/\k < hi)->ys[k]?=xs[k]?
structure SB (a₀:Array Keyed)(st:SortSt):Prop where
 perm:(arrOf st).Perm a₀
 kind:kindOf st=oneType'
 ok:failedOf st=none
structure RO (a₀:Array Keyed)(lo hi:Nat)(st st':SortSt):Prop where
 b:SB a₀ st'
 pend:pendingOf st'=pendingOf st
 out:mx lo hi (arrOf st) (arrOf st')
section
variable  {prog:Program}{w:World}{A:Around}{E:Tb}{s:Shared}{a₀:Array Keyed}
theorem Lp {st:SortSt}{a b:Int}{t u:Tok}{p q:Value}{Q:Option Bool->SortSt->Prop}(hk:kindOf st=oneType')(h:Q (some (decide (a < b))) st):wpS (model prog w) A E s (lt' (.int a t,p) (.int b u,q)) Q st:=by
 rw [lt'_eq];refine wpS_bind (wpS_get ?_);rw [hk,keyLt'_oneType];exact wpS_bind (wpS_lift (zbG (oneLt_int ⟨rfl,wpS_pure h⟩)))
def IK (xs:Array Keyed):Prop:=∀i,i < xs.size->∃t q,xs[i]?=some (.int (K xs i) t,q)
end
def kk (p:Keyed):Int:=numOf p.1
def Le (x y:Keyed):Prop:=kk x<=kk y
structure Mg (A B O:List Keyed)(ia ib:Nat):Prop where
 perm:(O++A.drop ia++B.drop ib).Perm (A++B)
 srt:O.Pairwise Le
 toA:∀x∈O,∀y∈A.drop ia,Le x y
 toB:∀x∈O,∀y∈B.drop ib,Le x y
 len:O.length=ia+ib
structure Rj (st st':SortSt):Prop where
 kind:kindOf st'=kindOf st
 arr:arrOf st'=arrOf st
 pend:pendingOf st'=pendingOf st
 ok:failedOf st'=failedOf st
section
variable  {prog:Program}{w:World}{A:Around}{E:Tb}{s:Shared}{a₀:Array Keyed}
structure RP (a b:Array Keyed):Prop where
 ka:IK a
 kb:IK b
 sa:NJ a 0 a.size
 sb:NJ b 0 b.size
 na:0 < a.size
 nb:0 < b.size
end
structure Mh (A B O:List Keyed)(na nb:Nat):Prop where
 perm:(A.take na++B.take nb++O).Perm (A++B)
 srt:O.Pairwise Le
 toA:∀x∈A.take na,∀y∈O,Le x y
 toB:∀x∈B.take nb,∀y∈O,Le x y
structure Wb (xs ys:Array Keyed)(lo hi:Nat):Prop where
 perm:ys.Perm xs
 out:mx lo hi xs ys
 src:∀q,lo<=q->q < hi->∃r,lo<=r/\r < hi/\K ys q=K xs r
 srt:NJ ys lo hi
def Mw (xs:Array Keyed):List (Nat×Nat×Nat)->Nat->Nat->Prop
 |[],b,e=>b=e
 |(a,n,_)::r,b,e=>a=b/\0 < n/\NJ xs a (a+n)/\Mw xs r (b+n) e
structure PF (a₀:Array Keyed)(st:SortSt)(lo:Nat):Prop where
 b:SB a₀ st
 r:Mw (arrOf st) (pendingOf st).toList 0 lo
end HS
namespace HS
open PySem PySem.Spec PyProof.Rows L2
end HS
namespace HW
open PySem PySem.Spec PyProof.Rows L2 HS
end HW
namespace HS
open PySem PySem.Spec PyProof.Rows
end HS
namespace HW
open PySem PySem.Spec PyProof.Rows L2 HS
end HW
namespace HW
open PySem PySem.Spec PyProof.Rows L2
def KR (K:zac)(m:Tf)(H:Hp)(kvs:List (aE×R))(es:List (aE×V)):Prop:=es.map (·.1)=kvs.map (·.1)/\bg K m H (kvs.map (·.2)) (es.map (·.2))
def cF (kvs:List (aE×R))(k:aE):Option R:=(kvs.find? fun kv=>decide (kv.1=k)).map (·.2)
section
variable  {K:zac}{m m':Tf}{H H':Hp}
theorem KR.nil:KR K m H [] []:=⟨rfl,rfl⟩
theorem KR.cons {k k':aE}{d:R}{v:V}{kvs:List (aE×R)}{es:List (aE×V)}:KR K m H ((k,d)::kvs) ((k',v)::es) ↔ k'=k/\ar K m H d v/\KR K m H kvs es:=by
 constructor
 ·rintro ⟨h1,h2⟩
  simp only [zaf,List.cons.injEq] at h1;obtain ⟨w,r,e,h3,h4⟩:=h2;simp only [zaf,List.cons.injEq] at e;obtain ⟨rfl,rfl⟩:=e;exact ⟨h1.1,h3,h1.2,h4⟩
 ·rintro ⟨rfl,h1,h2,h3⟩
  exact ⟨by simp [h2],⟨_,_,rfl,h1,h3⟩⟩
theorem KR.snoc {k:aE}{d:R}{v:V}(rd:ar K m H d v):∀{kvs:List (aE×R)} {es:List (aE×V)},KR K m H kvs es->KR K m H (kvs++[(k,d)]) (es++[(k,v)])
 |[],[],_=>KR.cons.mpr ⟨rfl,rd,.nil⟩
 |[],e::es,h=>by have:=h.1;simp at this
 |q::kvs,[],h=>by have:=h.1;simp at this
 |(a,x)::kvs,(b,y)::es,h=>by
  obtain ⟨rfl,h1,h2⟩:=KR.cons.mp h;exact KR.cons.mpr ⟨rfl,h1,KR.snoc rd h2⟩
theorem KR.val:∀{kvs:List (aE×R)} {es:List (aE×V)} (k:aE),KR K m H kvs es->(cF kvs k=none/\cx es k=none)\/∃d v,cF kvs k=some d/\cx es k=some v/\ar K m H d v
 |[],es,k,h=>by
  have:es=[]:=by simpa using h.1
  subst this;exact .inl ⟨rfl,rfl⟩
 |(a,d)::kvs,[],k,h=>by have:=h.1;simp at this
 |(a,d)::kvs,(b,v)::es,k,h=>by
  obtain ⟨rfl,h1,h2⟩:=KR.cons.mp h
  by_cases e:b=k
  ·refine .inr ⟨d,v,?_,?_,h1⟩
   ·simp [cF,e]
   ·simp [cx,e]
  ·have ih:=KR.val k h2
   have e1:cF ((b,d)::kvs) k=cF kvs k:=by simp [cF,e]
   have e2:cx ((b,v)::es) k=cx es k:=hV e;rw [e1,e2];exact ih
theorem KR.ext (x:cQ m H m' H'){kvs:List (aE×R)}{es:List (aE×V)}(h:KR K m H kvs es):KR K m' H' kvs es:=⟨h.1,bg.ext x h.2⟩
theorem KR.len {kvs:List (aE×R)}{es:List (aE×V)}(h:KR K m H kvs es):es.length=kvs.length:=by simpa using congrArg List.length h.1
end
def Fy (td ty tx:TE):TE:=fun σ H Q=>td σ H fun x H1=>∃a,x=.ref a/\NP H1 a/\ty σ H1 fun y H2=>tx σ H2 fun z H3=>∃kvs k,H3 a=some (.dK kvs)/\y=kV k/\kvs.length < sizeLine /\
 (∀v,cx kvs k=some v->Q v H3)/\(cx kvs k=none->Q z (upd H3 a (.dK (kvs++[(k,z)]))))
theorem DF {o e f:Expr}{apos cpos:Pos}{td ty tx:TE}(ho:PE X o td)(he:PE X e ty)(hf:PE X f tx)(m:M2 X o "setdefault" apos e f cpos):PE X (.Call (.Attribute o "setdefault" apos) [e,f] [] cpos) (Fy td ty tx):=by
 intro pins s σ H Q I h;refine zc7 m.base m.few m.line PySem.F.plainAttrs_dict PySem.F.slot_dict_setdefault PySem.F.type_dict_setdefault (cy (ho pins s σ H _ I h) fun u s1 hh=>?_);obtain ⟨x,H1,I1,rx,a,ex,d,q1⟩:=hh;subst ex;obtain rfl:u=Value.ref a:=rx;obtain ⟨t1,t2,_⟩:=vc I1 d;refine ⟨t1,t2,?_⟩;rw [m.trees];refine Calls.callWith_builtin rfl (Calls.evalArgs_plain (Calls.spliced_cons (cy (he pins s1 σ H1 _ I1 q1) fun iv s2 hh=>?_)));obtain ⟨y,H2,I2,ry,q2⟩:=hh;refine Calls.spliced_cons (cy (hf pins s2 σ H2 _ I2 q2) fun fv s3 hh=>Calls.spliced_nil ?_);obtain ⟨z,H3,I3,rz,kvs,k,ea,ey,hz,qa,qb⟩:=hh;subst ey;obtain ⟨zz,hd,vs,rel,dd⟩:=BX I3.hok ea;refine call_meetsIn PySem.F.slot_dict_setdefault dd.typeIs PySem.F.entry_dict_setdefault (PySem.F.args_dict_setdefault_3 _ _ _) (kt_meets_setdefault (aX X.prog X.w) a (mi ry) hd fv) ⟨vs,dd,by rw [←rel.length];exact zz,fun v hv=>?_,fun hn h' dd' hs=>?_⟩
 ·have r:=rel.val k
  rw [hv] at r
  cases q:cx kvs k with
  |none=>rw [q] at r;exact r.elim
  |some v'=>rw [q] at r;exact ⟨v',H3,I3.tok _,r,qa v' q⟩
 ·have r:=rel.val k
  rw [hn] at r
  cases q:cx kvs k with
  |some v'=>rw [q] at r;exact r.elim
  |none =>
   have he:∃q,h'.get? a=some q:=let ⟨q,_,_,hq,_⟩:=dd';⟨q,hq⟩;have rp:=rel.put k rz;rw [nI _ q] at rp;exact ⟨z,_,lC I3 (by rw [ea];exact True.intro) hs he (vD (by rw [zaX];exact hz) hd rp dd'),rz,qb q⟩
def tL (μ:ac)(n:Nat):Option (List (aE×R)):=match μ[n]? with|some (.dr kvs)=>some kvs|_=>none
def oe (fo fk fx:FE):FE:=fun ρ μ=>(fo ρ μ).bind fun o=>match o.1 with
 |.p n=>if (tL o.2 n).isSome=true then (fk ρ o.2).bind fun k=>(fx ρ k.2).bind fun x=>(tL x.2 n).bind fun kvs=>(dW k.1).bind fun key =>
  if kvs.length < 1000 then some (match cF kvs key with|some r=>(r,x.2)|none=>(x.1,x.2.set n (.dr (kvs++[(key,x.1)])))) else none else none
 |_=>none
theorem BW {K:zac}{m:Tf}{H:Hp}{μ:ac}{n:Nat}{a:Addr}{kvs:List (aE×R)}(s:aO K m H μ)(ha:m[n]?=some a)(e:tL μ n=some kvs):μ[n]?=some (.dr kvs)/\∃es,H a=some (.dK es)/\KR K m H kvs es:=by
 unfold tL at e;split at e
 ·rename_i q
  cases e;obtain ⟨es,ea,e1,e2⟩:=s.cell _ _ a q ha;exact ⟨q,es,ea,e1,e2⟩
 ·cases e
theorem C3 {K:zac}{H:Hp}{Q:VK}{fo fk fx}(h:az K (oe fo fk fx) σ H Q):Fy (az K fo) (az K fk) (az K fx) σ H Q:=by
 obtain ⟨ρ,μ,m,d,μ',hl,hs,e,kk⟩:=h;obtain ⟨⟨o,μ1⟩,e1,e⟩:=zaa.mp e;split at e
 ·rename_i n hn
  simp only at hn;subst hn;split at e
  ·rename_i h0
   obtain ⟨⟨k,μ2⟩,e2,e⟩:=zaa.mp e;obtain ⟨⟨x,μ3⟩,e3,e⟩:=zaa.mp e;obtain ⟨kvs,e4,e⟩:=zaa.mp e;obtain ⟨key,e5,e⟩:=zaa.mp e;split at e
   ·rename_i hlt
    refine ⟨ρ,μ,m,_,μ1,hl,hs,e1,fun vo H1 m1 x1 s1 r1=>?_⟩;obtain ⟨kvs0,e0⟩:=zb2.mp h0;obtain ⟨a,rfl,ha⟩:=r1;obtain ⟨_,es,hR,hK⟩:=BW s1 ha e0;refine ⟨a,rfl,.inl ⟨es,.inl hR⟩,?_⟩;refine ⟨ρ,μ1,m1,k,μ2,hl.ext x1,s1,e2,fun vk H2 m2 x2 s2 r2=>?_⟩;refine ⟨ρ,μ2,m2,x,μ3,hl.ext (x1.trans x2),s2,e3,fun vx H3 m3 x3 s3 r3=>?_⟩;have x13:=(x1.trans x2).trans x3
    have ha3:m3[n]?=some a:=by
     obtain ⟨a',ea',q⟩:=ar.ext (x2.trans x3) (show ar K m1 H1 (.p n) (.ref a) from ⟨a,rfl,ha⟩);cases ea';exact q
    obtain ⟨q3,es',hR',hK'⟩:=BW s3 ha3 e4;have hk:=ll (r2.ext x3) e5;refine ⟨es',key,hR',hk,?_,fun v hv=>?_,fun hv=>?_⟩
    ·rw [hK'.len];exact zaB hlt (by rw [zbh];omega)
    ·rcases KR.val key hK' with ⟨n1,n2⟩|⟨dd,vv,n1,n2,n3⟩
     ·rw [n2] at hv;cases hv
     ·rw [n2] at hv;cases hv
      simp only [n1] at e;cases e;exact kk _ H3 m3 x13 s3 n3
    ·rcases KR.val key hK' with ⟨n1,n2⟩|⟨dd,vv,n1,n2,n3⟩
     ·simp only [n1] at e
      cases e;have y:cQ m3 H3 m3 (upd H3 a (.dK (es'++[(key,vx)]))):=.put (zaH ha3) hR' (by simp) (by simp);have kr:=KR.snoc (k:=key) (r3.ext y) (hK'.ext y);exact kk _ _ m3 (x13.trans y) (s3.put ha3 hR' (by simp) (by simp) ⟨_,bf,kr.1,kr.2⟩) (r3.ext y)
     ·rw [n2] at hv;cases hv
   ·cases e
  ·cases e
 ·cases e
inductive EN (B:Hp->Prop):Hp->Prop
 |here {H}:B H->EN B H
 |step {H} (a:Addr) (u:HO):H a=some u->fS u->(∀o,EN B (upd H a (.frz o u)))->EN B H
def Kt (t:TE):TE:=fun σ H Q=>t σ H fun v H1=>EN (Q v) H1
theorem D6 {B:Hp->Prop}{H:Hp}(f:EN B H):∀{s:Shared},aD X pins σ H s->∃H',aD X pins σ H' s/\B H':=by
 induction f with
 |here b=>exact fun I=>⟨_,I,b⟩
 |step a u e hu _ ih =>
  intro s I;obtain ⟨o,I2⟩:=aD.frz I e hu;exact ih o I2
theorem Ik {e:Expr}{t:TE}(h:PE X e t):PE X e (Kt t):=fun pins s σ H Q I q=>by
 refine cy (h pins s σ H _ I q) fun v s1 hh=>?_;obtain ⟨x,H1,I1,r1,q1⟩:=hh;obtain ⟨H2,I2,q2⟩:=D6 q1 I1;exact ⟨x,H2,I2,r1,q2⟩
def MT:R->ac->Option (D×ac)
 |.v d,μ=>some (d,μ)
 |.p n,μ=>match μ[n]? with|some (.lst xs)=>some (.fl xs,μ.set n (.fz xs))|some (.fz xs)=>some (.fl xs,μ)|_=>none
 |_,_=>none
def yi:List R->ac->Option (List D×ac)
 |[],μ=>some ([],μ)
 |x::r,μ=>(MT x μ).bind fun a=>(yi r a.2).bind fun b=>some (a.1::b.1,b.2)
def Eb (f:FE):FE:=fun ρ μ=>(f ρ μ).bind fun a=>match a.1 with
 |.p n=>(tL a.2 n).bind fun kvs=>(yi (kvs.map (·.2)) a.2).bind fun b=>some (.v (.fd (kvs.map (·.1)) b.1),b.2.set n (.fzd ((kvs.map (·.1)).zip b.1)))
 |_=>none
def ue (m:Tf)(μ:ac)(H:Hp)(μ':ac)(H':Hp):Prop:=∀(n:Nat) kvs a,μ[n]?=some (.dr kvs)->m[n]?=some a->μ'[n]?=some (.dr kvs)/\H' a=H a
section
variable  {K:zac}{m:Tf}
theorem ue.refl {μ H}:ue m μ H μ H:=fun _ _ _ h _=>⟨h,rfl⟩
theorem ue.trans {μ H μ1 H1 μ2 H2}(a:ue m μ H μ1 H1)(b:ue m μ1 H1 μ2 H2):ue m μ H μ2 H2:=fun n k c h1 h2 =>
 let ⟨p,q⟩:=a n k c h1 h2
 let ⟨p',q'⟩:=b n k c p h2
 ⟨p',q'.trans q⟩
theorem Jf {H:Hp}{μ μ':ac}{x:R}{d:D}{v:V}{B:Hp->Prop}(hs:aO K m H μ)(r:ar K m H x v)(e:MT x μ=some (d,μ'))
  (k:∀H',cQ m H m H'->aO K m H' μ'->am K H' d v->ue m μ H μ' H'->EN B H'):EN B H:=by
 cases x with
 |v d'=>cases e;exact k H .refl hs r .refl
 |s b xs=>cases e
 |x _=>cases e
 |f _ _=>cases e
 |p n =>
  obtain ⟨a,rfl,ha⟩:=r;simp only [MT] at e;split at e
  ·rename_i xs q
   cases e;obtain ⟨vs,ea,rr⟩:=hs.cell n _ a q ha;refine .step a _ ea trivial fun o=>?_;have x:cQ m H m (upd H a (.frz o (.lst vs))):=.put (zaH ha) ea (by simp) (by simp);refine k _ x (hs.put ha ea (by simp) (by simp) ⟨o,vs,bf,RelDs.tf x.tf _ _ rr⟩) ?_ fun n' kvs a' h1 h2=>?_
   ·simp only [am]
    exact ⟨a,vs,rfl,.inl ⟨o,bf⟩,RelDs.tf x.tf _ _ rr⟩
   ·have hne:n'≠n:=by rintro rfl;rw [q] at h1;cases h1
    refine ⟨by rw [zag (Ne.symm hne)];exact h1,?_⟩
    have:a'≠a:=by
     rintro rfl;obtain ⟨p1,q1⟩:=zau.mp h2;obtain ⟨p2,q2⟩:=zau.mp ha;exact hne ((zbH hs.nd).mp (q1.trans q2.symm))
    unfold upd;rw [if_neg this]
  ·rename_i xs q
   cases e;obtain ⟨o,vs,ea,rr⟩:=hs.cell n _ a q ha;refine k H .refl hs ?_ .refl;simp only [am];exact ⟨a,vs,rfl,.inl ⟨o,ea⟩,rr⟩
  ·cases e
theorem wX:∀{xs:List R} {H:Hp} {μ μ':ac} {ds:List D} {vs:List V} {B:Hp->Prop},aO K m H μ->bg K m H xs vs->yi xs μ=some (ds,μ') ->
  (∀H',cQ m H m H'->aO K m H' μ'->RelDs K H' ds vs->ue m μ H μ' H'->EN B H')->EN B H
 |[],H,μ,μ',ds,vs,B,hs,r,e,k=>by
  cases e;exact k H .refl hs (by have r:vs=[]:=r;subst r;simp only [RelDs]) .refl
 |x::xs,H,μ,μ',ds,vs,B,hs,r,e,k=>by
  obtain ⟨v,ws,rfl,r1,r2⟩:=r;obtain ⟨⟨d1,μ1⟩,e1,e⟩:=zaa.mp e;obtain ⟨⟨ds1,μ2⟩,e2,e⟩:=zaa.mp e;cases e;refine Jf hs r1 e1 fun H1 x1 s1 rd1 st1=>wX s1 (bg.ext x1 r2) e2 fun H2 x2 s2 rd2 st2=>?_;exact k H2 (x1.trans x2) s2 (by simp only [RelDs];exact ⟨v,ws,rfl,am.tf x2.tf _ _ rd1,rd2⟩) (st1.trans st2)
theorem sZ:∀{xs:List R} {μ μ':ac} {ds:List D},yi xs μ=some (ds,μ')->ds.length=xs.length
 |[],_,_,_,e=>by cases e;rfl
 |x::xs,_,_,_,e=>by
  obtain ⟨⟨d1,μ1⟩,e1,e⟩:=zaa.mp e;obtain ⟨⟨ds1,μ2⟩,e2,e⟩:=zaa.mp e;cases e;simp [sZ e2]
theorem Hx {H:Hp}{Q:VK}{f}(h:az K (Eb f) σ H Q):Kt (az K f) σ H Q:=by
 obtain ⟨ρ,μ,m,d,μ',hl,hs,e,k⟩:=h;obtain ⟨⟨x,μ1⟩,e1,e⟩:=zaa.mp e;refine ⟨ρ,μ,m,x,μ1,hl,hs,e1,fun v H1 m1 x1 s1 r1=>?_⟩;split at e
 ·rename_i n hn
  simp only at hn;subst hn;obtain ⟨kvs,e2,e⟩:=zaa.mp e;obtain ⟨⟨ds,μ2⟩,e3,e⟩:=zaa.mp e;cases e;obtain ⟨a,rfl,ha⟩:=r1;obtain ⟨q,es,ea,hk⟩:=BW s1 ha e2;refine wX s1 hk.2 e3 fun H2 x2 s2 rd st=>?_;obtain ⟨q',ea'⟩:=st n kvs a q ha;have ea2:H2 a=some (.dK es):=ea'.trans ea;refine .step a _ ea2 trivial fun o=>.here ?_;have x3:cQ m1 H2 m1 (upd H2 a (.frz o (.dK es))):=.put (zaH ha) ea2 (by simp) (by simp)
  have hl1:(kvs.map (·.1)).length=ds.length:=by have:=sZ e3;simpa using this.symm
  refine k _ _ m1 ((x1.trans x2).trans x3) (s2.put ha ea2 (by simp) (by simp) ⟨o,es,bf,?_,?_⟩) ?_
  ·rw [zcF (Nat.le_of_eq hl1)];exact hk.1
  ·rw [zcG (Nat.le_of_eq hl1.symm)];exact RelDs.tf x3.tf _ _ rd
  ·simp only [ar,am]
   exact ⟨a,o,es,rfl,bf,hk.1,RelDs.tf x3.tf _ _ rd⟩
 ·cases e
end
def lV (g:FG)(c:FT)(f:FE):List D->Lo->ac->Option (List (Int×Nat)×ac)
 |[],ρ,μ=>some ([],μ)
 |x::xs,ρ,μ=>(g (.v x) ρ μ).bind fun a=>(c a.1 a.2).bind fun b=>if b.1=true then (f a.1 b.2).bind fun y=>match y.1 with
   |.v (.int i)=>(lV g c f xs a.1 (y.2++[.lst []])).bind fun r=>some ((i,y.2.length)::r.1,r.2)
   |_=>none
  else none
def xY (l:List (Int×Nat)):List (aE×R):=l.map fun p=>(.inl p.1,.p p.2)
def Gi (ix:List Nat)(k:Nat)(fi:FI)(g:FG)(c:FT)(f:FE):FE:=fun ρ μ=>(fi ρ μ).bind fun a=>if a.1.length<=1000 then (lV g c f a.1 (dz k ix ρ) a.2).bind fun r =>
 if (r.1.map (·.1)).Nodup then some (.p r.2.length,r.2++[.dr (xY r.1)]) else none else none
theorem nH:∀(ps kvs:List (aE×V)),(kvs++ps).map (·.1) |>.Nodup->lJ kvs ps=kvs++ps
 |[],kvs,_=>by simp [lJ]
 |p::ps,kvs,h=>by
  have e:fW kvs p.1 p.2=kvs++[p]:=by
   refine nI _ ?_
   cases q:cx kvs p.1 with
   |none=>rfl
   |some v =>
    exfalso
    unfold cx at q;obtain ⟨kv,q1,q2⟩:=zaM.mp q;have h1:=List.mem_of_find?_eq_some q1;have h2:=zdj q1;simp only [decide_eq_true_eq] at h2;rw [zaZ,zbE] at h;exact h.2.2 kv.1 (zba h1) p.1 (by simp) h2
  have ih:=nH ps (kvs++[p]) (by simpa using h);unfold lJ at ih ⊢;rw [zbf,e,ih];simp
section
variable  {K:zac}{σ:L2.St}{H:Hp}{Q:VK}
theorem eI.tf {H H':Hp}(t:TF H H'){ws:List V}{es:List (aE×V)}(h:eI K H ws es):eI K H' ws es:=by
 unfold eI at h ⊢
 induction h with
 |nil=>exact .nil
 |cons h _ ih=>obtain ⟨a,e,q⟩:=h;exact .cons ⟨a,e,gG.tf t q⟩ ih
theorem eI.snoc {H:Hp}{ws:List V}{es:List (aE×V)}{v:V}{e:aE×V}(h:eI K H ws es)(q:∃t,v=.ref t/\gG K H t [kV e.1,e.2]):eI K H (ws++[v]) (es++[e]):=by
 unfold eI at h ⊢
 induction h with
 |nil=>exact .cons q .nil
 |cons h _ ih=>exact .cons h ih
theorem KI {ix:List Nat}{k:Nat}{own:Tl}{fi:FI}{g:FG}{c:FT}{f:FE}(hk:own.length=k)(h:az K (Gi ix k fi g c f) σ H Q) :
  GU (Ao K) (kO (wf ix own (uh K fi) (oE K g) (fI K c) (GR (kO (az K f) (kO (GS rW) rW)))) rW) σ H Q:=by
 obtain ⟨ρ,μ,m,d,μ',hl,hs,e,kk⟩:=h;obtain ⟨⟨xs,μ1⟩,e1,e⟩:=zaa.mp e;split at e
 ·rename_i hz
  obtain ⟨⟨r,μr⟩,e2,e⟩:=zaa.mp e;split at e
  ·rename_i hnd
   cases e;refine ⟨ρ,μ,m,xs,μ1,hl,hs,e1,fun J P H1 m1 x1 s1 ok p1=>?_⟩
   refine ⟨fun i n ys τ H=>n=xs.length - i/\i<=xs.length/\ys.length<=i/\P H/\∃ρ μ m qs r' es,dJ K m H ρ τ/\aO K m H μ/\eI K H ys es/\KR K m H (xY qs) es/\lV g c f (xs.drop i) ρ μ=some (r',μr)/\r=qs++r' /\
    ∀v H' m',cQ m H m' H'->aO K m' H' (μr++[.dr (xY r)])->ar K m' H' (.p μr.length) v->Q v H',
    ⟨_,rfl,za3 _,zao _,p1,_,μ1,m1,[],r,[],pZ hk (hl.ext x1),s1,.nil,.nil,by simpa using e2,rfl,fun v H' m' x2 s2 r2=>kk v H' m' (x1.trans x2) s2 r2⟩,?_⟩
   rintro i n ys τ H ⟨rfl,hi,hy,p,ρ,μ,m,qs,r',es,hl,hs,rs,kr,e,er,kk⟩
   by_cases hlt:i < xs.length
   ·have hx:xs[i]?=some xs[i]:=zas hlt
    rw [zbw hlt,lV] at e;obtain ⟨⟨ρ1,μ2⟩,q1,e⟩:=zaa.mp e;obtain ⟨⟨b,μ3⟩,q2,e⟩:=zaa.mp e;refine .inr ⟨ok.go i _ H hx p,zcp hy (zaB hlt (zbg hz (by rw [zbh];omega))),fun x H' y=>?_⟩;obtain ⟨rfl,rx⟩:=ok.yld i _ H x H' hx p y;refine ⟨ρ,μ,m,.v xs[i],ρ1,μ2,hl,hs,rx,q1,fun σ1 H1 m1 x1 s1 l1=>?_⟩;refine ⟨ρ1,μ2,m1,b,μ3,l1,s1,q2,fun H2 m2 x2 s2=>?_⟩
    cases b with
    |true =>
     simp only [if_true] at e ⊢;obtain ⟨⟨y',μ4⟩,q3,e⟩:=zaa.mp e;refine ⟨ρ1,μ3,m2,y',μ4,l1.ext x2,s2,q3,fun w H3 m3 x3 s3 r3=>?_⟩;split at e
     ·rename_i j hj
      simp only at hj;subst hj;obtain ⟨⟨r1,μ5⟩,q4,e⟩:=zaa.mp e;cases e
      have r3:w=.int j:=by simpa only [ar,am] using r3
      subst r3;refine ⟨za3 _,fun l hl0=>?_⟩;refine ⟨by simp only [zaD,zco];rw [zbh];omega,fun t ht0=>?_⟩;have x4:=(x1.trans x2).trans x3;have x5:cQ m3 H3 (m3++[l]) (upd H3 l (.lst [])):=.newH hl0;have s5:aO K (m3++[l]) (upd H3 l (.lst [])) (μ4++[.lst []]):=s3.newH hl0 ⟨_,bf,by simp only [RelDs]⟩;have x6:cQ (m3++[l]) (upd H3 l (.lst [])) (m3++[l]) (upd (upd H3 l (.lst [])) t (.tup [.int j,.ref l])):=.new ht0;have s6:=s5.same (bO ht0 (o:=.tup [.int j,.ref l]));have x7:=x4.trans (x5.trans x6)
      refine ⟨_,(by omega:xs.length - (i+1) < xs.length - i),rfl,hlt,by rw [zaX];exact Nat.succ_le_succ hy,ok.st _ _ x7.tf p,ρ1,_,_,qs++[(j,μ4.length)],r1,es++[(.inl j,.ref l)],l1.ext ((x2.trans x3).trans (x5.trans x6)),s6,
       (eI.tf x7.tf rs).snoc ⟨t,rfl,.inl (.inl bf)⟩,?_,q4,by rw [er,zbj];rfl,fun v H' m' x8 s8 r8=>kk v H' m' (x7.trans x8) s8 r8⟩
      have z:=KR.snoc (K:=K) (k:=.inl j) (d:=.p μ4.length) (v:=.ref l) (m:=m3++[l]) (H:=upd (upd H3 l (.lst [])) t (.tup [.int j,.ref l])) ⟨l,rfl,by rw [←s3.len];simp⟩ (kr.ext x7);simpa [xY] using z
     ·cases e
    |false =>
     simp only [zan,if_false] at e;cases e
   ·have:i=xs.length:=by omega
    subst this;rw [zcE,lV] at e;cases e;refine .inl ⟨ok.stop _ H p (zao _),fun t ht=>?_⟩;rw [zbm] at er;subst er;have x2:cQ m H m (upd H t (.lst ys)):=.new ht;refine ⟨t,ys,es,rfl,bf,eI.tf x2.tf rs,fun l hl0=>?_⟩
    have hn:lJ [] es=es:=by
     have:=nH es [] (by
      rw [za9,kr.1];unfold xY;rw [za2];have hnd:(r.map (·.1)).Nodup:=hnd
      show (r.map fun p=>(Sum.inl p.1:aE)).Nodup
      unfold List.Nodup at hnd ⊢;rw [zbi] at hnd ⊢
      exact hnd.imp fun h z=>h (Sum.inl.inj z))
     simpa using this
    rw [hn];have s2:=hs.same (bO ht (o:=.lst ys));have x3:cQ m (upd H t (.lst ys)) (m++[l]) (upd (upd H t (.lst ys)) l (.dK es)):=.newH hl0;have z:=kr.ext (x2.trans x3);exact kk _ _ (m++[l]) (x2.trans x3) (s2.newH hl0 ⟨es,bf,z.1,z.2⟩) ⟨l,rfl,by rw [←hs.len];simp⟩
  ·cases e
 ·cases e
end
def jJ (x:R)(μ:ac):Option (List (aE×R)):=match x with
 |.v (.fd ks ds)=>if ks.length=ds.length then some (ks.zip (ds.map R.v)) else none
 |.p n=>match μ[n]? with|some (.dct kvs)=>some (kvs.map fun p=>(p.1,R.v p.2))|some (.fzd kvs)=>some (kvs.map fun p=>(p.1,R.v p.2))|some (.dr kvs)=>some kvs|some (.fzr kvs)=>some kvs|_=>none
 |_=>none
theorem mU {K:zac}{m:Tf}{H:Hp}:∀{ds:List D} {vs:List V},RelDs K H ds vs->bg K m H (ds.map R.v) vs
 |[],_,h=>h
 |_::_,_,⟨v,r,e,h1,h2⟩=>⟨v,r,e,h1,mU h2⟩
theorem DZ {K:zac}{m:Tf}{H:Hp}{μ:ac}{x:R}{v:V}{kvs:List (aE×R)}(s:aO K m H μ)(r:ar K m H x v)(e:jJ x μ=some kvs):∃a es,v=.ref a/\Rd H a (.dK es)/\KR K m H kvs es:=by
 unfold jJ at e;split at e
 ·rename_i ks ds
  split at e
  ·rename_i hl
   cases e;simp only [ar,am] at r;obtain ⟨a,o,es,rfl,ea,e1,e2⟩:=r;refine ⟨a,es,rfl,.inr ⟨o,ea⟩,?_,?_⟩
   ·rw [zcF (by simp [hl]),e1]
   ·rw [zcG (by simp [hl])];exact mU e2
  ·cases e
 ·rename_i n
  obtain ⟨a,rfl,ha⟩:=r;split at e
  ·rename_i kv q
   cases e;obtain ⟨es,ea,e1,e2⟩:=s.cell _ _ a q ha;refine ⟨a,es,rfl,.inl ea,by simp [e1,Function.comp_def],?_⟩;have:=mU (m:=m) e2;simpa [Function.comp_def] using this
  ·rename_i kv q
   cases e;obtain ⟨o,es,ea,e1,e2⟩:=s.cell _ _ a q ha;refine ⟨a,es,rfl,.inr ⟨o,ea⟩,by simp [e1,Function.comp_def],?_⟩;have:=mU (m:=m) e2;simpa [Function.comp_def] using this
  ·rename_i kv q
   cases e;obtain ⟨es,ea,e1,e2⟩:=s.cell _ _ a q ha;exact ⟨a,es,rfl,.inl ea,e1,e2⟩
  ·rename_i kv q
   cases e;obtain ⟨o,es,ea,e1,e2⟩:=s.cell _ _ a q ha;exact ⟨a,es,rfl,.inr ⟨o,ea⟩,e1,e2⟩
  ·cases e
 ·cases e
def lz (fo fk:FE):FE:=fun ρ μ=>(fo ρ μ).bind fun o=>(fk ρ o.2).bind fun k=>(jJ o.1 k.2).bind fun kvs=>(dW k.1).bind fun key=>(cF kvs key).bind fun r=>some (r,k.2)
theorem HC {K:zac}{H:Hp}{Q:VK}{fo fk}(h:az K (lz fo fk) σ H Q):zx (az K fo) (az K fk) σ H Q:=by
 obtain ⟨ρ,μ,m,d,μ',hl,hs,e,kk⟩:=h;obtain ⟨⟨o,μ1⟩,e1,e⟩:=zaa.mp e;obtain ⟨⟨k,μ2⟩,e2,e⟩:=zaa.mp e;obtain ⟨kvs,e4,e⟩:=zaa.mp e;obtain ⟨key,e5,e⟩:=zaa.mp e;obtain ⟨r,e6,e⟩:=zaa.mp e;cases e;refine ⟨ρ,μ,m,o,μ1,hl,hs,e1,fun vo H1 m1 x1 s1 r1=>?_⟩;refine ⟨ρ,μ1,m1,k,μ2,hl.ext x1,s1,e2,fun vk H2 m2 x2 s2 r2=>?_⟩;obtain ⟨a,es,rfl,hR,hK⟩:=DZ s2 (r1.ext x2) e4;have hk:=ll r2 e5;rcases KR.val key hK with ⟨n1,n2⟩|⟨dd,vv,n1,n2,n3⟩
 ·rw [n1] at e6;cases e6
 ·rw [n1] at e6;cases e6
  exact ⟨a,vv,rfl,.inl ⟨es,key,hR,hk,n2.symm⟩,kk _ H2 m2 (x1.trans x2) s2 n3⟩
end HW
namespace HT2
open PySem PySem.W PyProof.Rows
section
variable  {r:Nat->Int}{n:Nat}{s:Shared}{cmp:Nat->Nat->(Bool->Shared->Prop)->Shared->Prop}
abbrev key (r:Nat->Int)(p:Array Nat)(k:Nat):Int:=r (p.getD k 0)
def Up (r:Nat->Int)(p:Array Nat)(a:Nat):Prop:=∀i j,i < j->j < a->key r p i < key r p j
def Dn (r:Nat->Int)(p:Array Nat)(a:Nat):Prop:=∀i j,i < j->j < a->key r p j < key r p i
structure Pm (n:Nat)(p:Array Nat):Prop where
 pm:p.toList.Perm (List.range n)
theorem Pm.size {p:Array Nat}(h:Pm n p):p.size=n:=by have:=h.pm.length_eq;simpa using this
theorem Pm.lt {p:Array Nat}(h:Pm n p){k:Nat}(hk:k < n):p.getD k 0 < n:=by
 have hs:=h.size
 have hm:p.getD k 0∈p.toList:=by
  have:p[k]?=some p[k]:=zap (by omega);rw [zaP,this,zbt];simp
 have:=h.pm.mem_iff.mp hm;simpa using this
theorem Pm.inj {p:Array Nat}(h:Pm n p){i j:Nat}(hi:i < n)(hj:j < n)(e:p.getD i 0=p.getD j 0):i=j:=by
 have hs:=h.size;have nd:p.toList.Nodup:=h.pm.nodup_iff.mpr zdc;have ei:p[i]?=some p[i]:=zap (by omega);have ej:p[j]?=some p[j]:=zap (by omega);rw [zaP,zaP,ei,ej,zbt,zbt] at e
 have e':p.toList[i]'(by simpa using (by omega:i < p.size))=p.toList[j]'(by simpa using (by omega:j < p.size)):=by simpa using e
 exact (zbH nd).mp e'
structure Rk (r:Nat->Int)(n:Nat)(s:Shared)(cmp:Nat->Nat->(Bool->Shared->Prop)->Shared->Prop):Prop where
 inj:∀i j,i < n->j < n->r i=r j->i=j
 ask:∀i j,i < n->j < n->∀C:Bool->Shared->Prop,C (decide (r i < r j)) s->cmp i j C s
theorem Rk.ne (R:Rk r n s cmp){p:Array Nat}(h:Pm n p){i j:Nat}(hi:i < n)(hj:j < n)(ne:i≠j):key r p i≠key r p j:=fun e=>ne (h.inj hi hj (R.inj _ _ (h.lt hi) (h.lt hj) e))
theorem vS (R:Rk r n s cmp){p:Array Nat}(h:Pm n p){Q:Nat->Shared->Prop}:∀(f a:Nat),1<=a->a+f<=n->Up r p a->(∀m,a<=m->m<=a+f->Up r p m->(m=a+f\/key r p m < key r p (m - 1))->Q m s)->(kas_asc p f a).kasWp cmp Q s
 |0,a,_,_,hu,k=>k a (zao _) (zao _) hu (.inl rfl)
 |f+1,a,h1,h2,hu,k=>by
  refine R.ask _ _ (h.lt (by omega)) (h.lt (by omega)) _ ?_
  by_cases hc:key r p a < key r p (a - 1)
  ·have hd:decide (r (p.getD a 0) < r (p.getD (a - 1) 0))=true:=zaQ hc
   rw [hd];exact k a (zao _) (by omega) hu (.inr hc)
  ·have hd:decide (r (p.getD a 0) < r (p.getD (a - 1) 0))=false:=zaK hc
   rw [hd];have hne:=R.ne h (show a < n by omega) (show a - 1 < n by omega) (by omega);refine vS R h f (a+1) (by omega) (by omega) (fun i j hij hj=>?_) fun m m1 m2 m3 m4=>k m (by omega) (by omega) m3 (by rcases m4 with q|q;exact .inl (by omega);exact .inr q)
   by_cases hja:j=a
   ·subst hja
    have:key r p i<=key r p (j - 1):=by
     by_cases hi:i=j - 1
     ·rw [hi];exact zcz _
     ·exact Int.le_of_lt (hu i (j - 1) (by omega) (by omega))
    omega
   ·exact hu i j hij (by omega)
theorem xk (R:Rk r n s cmp){p:Array Nat}(h:Pm n p){Q:Array Nat×Nat×Nat->Shared->Prop}:∀(f a:Nat),1<=a->a+f<=n->Dn r p a->(∀m,a<=m->m<=a+f->Dn r p m->Q (p,m,0) s)->(kas_desc f p a 0).kasWp cmp Q s
 |0,a,_,_,hu,k=>k a (zao _) (zao _) hu
 |f+1,a,h1,h2,hu,k=>by
  refine R.ask _ _ (h.lt (by omega)) (h.lt (by omega)) _ ?_;have hne:=R.ne h (show a < n by omega) (show a - 1 < n by omega) (by omega)
  by_cases hc:key r p a < key r p (a - 1)
  ·have hd:decide (r (p.getD a 0) < r (p.getD (a - 1) 0))=true:=zaQ hc
   rw [hd];refine xk R h f (a+1) (by omega) (by omega) (fun i j hij hj=>?_) fun m m1 m2 m3=>k m (by omega) (by omega) m3
   by_cases hja:j=a
   ·subst hja
    have:key r p (j - 1)<=key r p i:=by
     by_cases hi:i=j - 1
     ·rw [hi];exact zcz _
     ·exact Int.le_of_lt (hu i (j - 1) (by omega) (by omega))
    omega
   ·exact hu i j hij (by omega)
  ·have hd:decide (r (p.getD a 0) < r (p.getD (a - 1) 0))=false:=zaK hc
   rw [hd];refine R.ask _ _ (h.lt (by omega)) (h.lt (by omega)) _ ?_;have hd2:decide (r (p.getD (a - 1) 0) < r (p.getD a 0))=true:=zaQ (show key r p (a - 1) < key r p a by omega);rw [hd2];exact k a (zao _) (by omega) hu
theorem zR {p:Array Nat}(h:Pm n p){m k:Nat}(hm:m<=n)(hk:k < m):(kas_rev p 0 m).getD k 0=p.getD (m - 1 - k) 0:=by
 have hs:=h.size;have:=getElem?_mirror_all (xs:=p) (i:=0) (j:=m) (by omega) k
 rw [if_pos (by omega)] at this
 unfold kas_rev;rw [zaP,this,zaP]
 congr 2
 omega
theorem G8 {p:Array Nat}(h:Pm n p){m:Nat}:Pm n (kas_rev p 0 m):=⟨(Array.perm_iff_toList_perm.mp (mirror_perm p 0 m _)).trans h.pm⟩
theorem zr (R:Rk r n s cmp){p:Array Nat}(h:Pm n p){Q:Nat×Array Nat->Shared->Prop}{a:Nat}(h1:1<=a)(h2:a<=n)(hd:Dn r p a)(k:∀m p',Pm n p'->Up r p' m->1<=m->m<=n->Q (m,p') s):(kas_tail3 a n p).kasWp cmp Q s:=by
 unfold kas_tail3;rw [KasT.kasWp_bind];have hr:=G8 h (m:=a);refine vS R hr (n - a) a h1 (by omega) (fun i j hij hj=>?_) fun m m1 m2 m3 _=>k m _ hr m3 (by omega) (by omega);unfold key;rw [zR h h2 (by omega),zR h h2 (by omega)];exact hd (a - 1 - j) (a - 1 - i) (by omega) (by omega)
theorem B1 (R:Rk r n s cmp){p:Array Nat}(h:Pm n p)(hn:1<=n){Q:Nat×Array Nat->Shared->Prop}(k:∀m p',Pm n p'->Up r p' m->1<=m->m<=n->Q (m,p') s):(kas_count n p).kasWp cmp Q s:=by
 unfold kas_count;rw [KasT.kasWp_bind];refine vS R h (n - 1) 1 (zao _) (by omega) (fun i j hij hj=>by omega) fun m m1 m2 m3 m4=>?_
 by_cases hm:m=n
 ·subst hm
  rw [if_pos (by simp)];exact k m p h m3 hn (zao _)
 ·rw [if_neg (by simpa using hm)]
  by_cases hm1:m > 1
  ·rw [if_pos hm1]
   refine R.ask _ _ (h.lt (by omega)) (h.lt (by omega)) _ ?_;have hd:decide (r (p.getD 0 0) < r (p.getD (m - 1) 0))=true:=zaQ (m3 0 (m - 1) (by omega) (by omega));rw [hd];exact k m p h m3 (by omega) (by omega)
  ·rw [if_neg hm1]
   have hm':m=1:=by omega
   subst hm'
   have hlt:key r p 1 < key r p 0:=by
    rcases m4 with q|q
    ·omega
    ·exact q
   unfold kas_descPart;rw [KasT.kasWp_bind];refine xk R h (n - (1+1)) (1+1) (by omega) (by omega) (fun i j hij hj=>?_) fun m' q1 q2 q3=>?_
   ·have hj1:j=1:=by omega
    have hi0:i=0:=by omega
    subst hj1 hi0;exact hlt
   ·show KasT.kasWp cmp (if (0:Nat) > 0 then _ else _) Q s
    rw [if_neg (by omega)];exact zr R h (show 1<=m' by omega) (show m'<=n by omega) q3 k
theorem nK (R:Rk r n s cmp){p:Array Nat}(h:Pm n p){Q:Nat->Shared->Prop}{k:Nat}(hk:k < n):∀(f l u:Nat),l<=u->u<=k->u - l<=f->(∀i < l,key r p i < key r p k)->(∀i,u<=i->i < k->key r p k < key r p i)->Up r p k ->
  (∀x,x<=k->(∀i < x,key r p i < key r p k)->(∀i,x<=i->i < k->key r p k < key r p i)->Q x s)->(kas_place p k f l u).kasWp cmp Q s
 |0,l,u,h1,h2,h3,hl,hu,_,kk=>kk l (by omega) hl (fun i h4 h5=>hu i (by omega) h5)
 |f+1,l,u,h1,h2,h3,hl,hu,up,kk=>by
  unfold kas_place
  by_cases hlu:l >= u
  ·rw [if_pos hlu]
   exact kk l (by omega) hl (fun i h4 h5=>hu i (by omega) h5)
  ·rw [if_neg hlu]
   refine R.ask _ _ (h.lt hk) (h.lt (by omega)) _ ?_;have hne:=R.ne h hk (show (l+u) / 2 < n by omega) (by omega)
   by_cases hc:key r p k < key r p ((l+u) / 2)
   ·have hd:decide (r (p.getD k 0) < r (p.getD ((l+u) / 2) 0))=true:=zaQ hc
    rw [hd];refine nK R h hk f l ((l+u) / 2) (by omega) (by omega) (by omega) hl (fun i h4 h5=>?_) up kk
    by_cases hi:i=(l+u) / 2
    ·rw [hi];exact hc
    ·have:=up ((l+u) / 2) i (by omega) h5
     omega
   ·have hd:decide (r (p.getD k 0) < r (p.getD ((l+u) / 2) 0))=false:=zaK hc
    rw [hd];refine nK R h hk f ((l+u) / 2+1) u (by omega) h2 (by omega) (fun i hi=>?_) hu up kk
    by_cases hi':i=(l+u) / 2
    ·rw [hi'];omega
    ·have:=up i ((l+u) / 2) (by omega) (by omega)
     omega
theorem JA {p:Array Nat}(h:Pm n p){k l i:Nat}(hk:k < n)(hl:l<=k):(bubble p k (k - l)).getD i 0=if i=l then p.getD k 0 else if l < i/\i<=k then p.getD (i - 1) 0 else p.getD i 0:=by
 have hs:=h.size;have:=getElem?_bubble (xs:=p) (src:=k) (by omega) (k - l) (by omega) i
 rw [show k - (k - l)=l by omega] at this
 simp only [zaP];rw [this];split
 ·rfl
 ·split <;> rfl
theorem B8 (R:Rk r n s cmp){Q:Array Nat->Shared->Prop}:∀(f:Nat) (p:Array Nat) (k:Nat),Pm n p->Up r p k->k+f=n->(∀p',Pm n p'->Up r p' n->Q p' s)->(kas_bin f p k).kasWp cmp Q s
 |0,p,k,h,hu,hk,kk=>kk p h (by rw [←hk];exact hu)
 |f+1,p,k,h,hu,hk,kk=>by
  unfold kas_bin;rw [KasT.kasWp_bind];refine nK R h (by omega) k 0 k (by omega) (zao _) (by omega) (fun i hi=>by omega) (fun i h4 h5=>by omega) hu fun l l1 l2 l3=>?_;refine B8 R f (bubble p k (k - l)) (k+1) ⟨(Array.perm_iff_toList_perm.mp (bubble_perm p k _)).trans h.pm⟩ (fun i j hij hj=>?_) (by omega) kk;have b:=fun i=>JA h (k:=k) (l:=l) (i:=i) (by omega) l1
  show r _ < r _
  rw [b i,b j]
  by_cases hi:i=l
  ·rw [if_pos hi,if_neg (by omega),if_pos (by omega)]
   exact l3 (j - 1) (by omega) (by omega)
  ·rw [if_neg hi]
   by_cases hj':j=l
   ·rw [if_pos hj',if_neg (by omega)]
    exact l2 i (by omega)
   ·rw [if_neg hj']
    by_cases h6:l < i/\i<=k
    ·rw [if_pos h6,if_pos (by omega)]
     exact hu (i - 1) (j - 1) (by omega) (by omega)
    ·rw [if_neg h6]
     by_cases h7:l < j/\j<=k
     ·rw [if_pos h7]
      by_cases h8:i=j - 1
      ·omega
      ·exact hu i (j - 1) (by omega) (by omega)
     ·rw [if_neg h7]
      exact hu i j hij (by omega)
theorem CP (R:Rk r n s cmp)(hn:1<=n){Q:Array Nat->Shared->Prop}(k:∀p,Pm n p->Up r p n->Q p s):(kas_sort n).kasWp cmp Q s:=by
 unfold kas_sort;rw [KasT.kasWp_bind];refine B1 R (p:=(List.range n).toArray) ⟨by simp⟩ hn fun m p h hu h1 h2=>?_
 show KasT.kasWp cmp (if m < n then kas_bin (n - max m 1) p (max m 1) else .ret p) Q s
 rw [Nat.max_eq_left h1]
 by_cases hm:m < n
 ·rw [if_pos hm]
  exact B8 R (n - m) p m h hu (by omega) k
 ·rw [if_neg hm]
  have:m=n:=by omega
  subst this;exact k p h hu
end
def iO:List Int->List Int->Bool
 |[],[]=>false
 |[],_::_=>true
 |_::_,[]=>false
 |x::xs,y::ys=>if x=y then iO xs ys else decide (x < y)
theorem gK:∀a,iO a a=false
 |[]=>rfl
 |x::xs=>by simp [iO,gK xs]
theorem mZ:∀a b,iO a b=true\/a=b\/iO b a=true
 |[],[]=>.inr (.inl rfl)
 |[],_::_=>.inl rfl
 |_::_,[]=>.inr (.inr rfl)
 |x::xs,y::ys=>by
  by_cases e:x=y
  ·subst e
   rcases mZ xs ys with h|h|h
   ·exact .inl (by simp [iO,h])
   ·exact .inr (.inl (by rw [h]))
   ·exact .inr (.inr (by simp [iO,h]))
  ·by_cases hl:x < y
   ·exact .inl (by simp [iO,e,hl])
   ·exact .inr (.inr (by simp [iO,Ne.symm e];omega))
theorem gd:∀a b c,iO a b=true->iO b c=true->iO a c=true
 |[],[],_,h,_=>by cases h
 |[],_::_,[],_,h=>by cases h
 |[],_::_,_::_,_,_=>rfl
 |_::_,[],_,h,_=>by cases h
 |_::_,_::_,[],_,h=>by cases h
 |x::xs,y::ys,z::zs,h,g=>by
  simp only [iO] at h g ⊢
  by_cases e1:x=y
  ·subst e1
   rw [if_pos rfl] at h
   by_cases e2:x=z
   ·subst e2
    rw [if_pos rfl] at g ⊢;exact gd xs ys zs h g
   ·rw [if_neg e2] at g ⊢;exact g
  ·rw [if_neg e1] at h
   have h1:x < y:=of_decide_eq_true h
   by_cases e2:y=z
   ·subst e2
    rw [if_neg e1];exact h
   ·rw [if_neg e2] at g
    have h2:y < z:=of_decide_eq_true g;rw [if_neg (by omega)];exact zaQ (by omega)
def mF (L:Ta)(i:Nat):Int:=((L.filter fun k=>iO k (L.getD i [])).length:Nat)
theorem pR {L:Ta}{a b:Th}(h:iO a b=true)(hm:a∈L):(L.filter fun k=>iO k a).length < (L.filter fun k=>iO k b).length:=by
 have sub:∀M:Ta,(M.filter fun k=>iO k a).length<=(M.filter fun k=>iO k b).length:=fun M=>by
  induction M with
  |nil=>simp
  |cons x xs ih =>
   simp only [zbz]
   cases hx:iO x a with
   |true=>rw [gd x a b hx h];simp;exact ih
   |false=>cases iO x b <;> simp <;> omega
 induction L with
 |nil=>simp at hm
 |cons x xs ih =>
  simp only [zbz];rcases zak.mp hm with rfl|hm
  ·rw [gK,h]
   have:=sub xs;simp;omega
  ·have:=ih hm
   cases hx:iO x a with
   |true=>rw [gd x a b hx h];simp;exact this
   |false=>cases iO x b <;> simp <;> omega
theorem sY {L:Ta}{i:Nat}(h:i < L.length):L.getD i []∈L:=by
 rw [zbu,zas h,zbt];exact zcC h
theorem mV {L:Ta}{i j:Nat}(hi:i < L.length)(hj:j < L.length):decide (mF L i < mF L j)=iO (L.getD i []) (L.getD j []):=by
 rcases mZ (L.getD i []) (L.getD j []) with h|h|h
 ·rw [h]
  refine zaQ ?_;have:=pR h (sY hi);unfold mF;omega
 ·have hr:mF L i=mF L j:=by unfold mF;rw [h]
  rw [hr,h,gK];exact zaK (by omega)
 ·have:=pR h (sY hj)
  have hn:iO (L.getD i []) (L.getD j [])=false:=by
   cases q:iO (L.getD i []) (L.getD j []) with
   |false=>rfl
   |true=>have:=gd _ _ _ q h;rw [gK] at this;cases this
  rw [hn];refine zaK ?_;unfold mF;omega
theorem Ad {L:Ta}(nd:L.Nodup){i j:Nat}(hi:i < L.length)(hj:j < L.length)(e:mF L i=mF L j):i=j:=by
 have h1:=mV hi hj;have h2:=mV hj hi;rw [zaK (by omega)] at h1 h2;rcases mZ (L.getD i []) (L.getD j []) with h|h|h
 ·rw [h] at h1;cases h1
 ·simp only [zbu,zas hi,zas hj,zbt] at h
  exact (zbH nd).mp h
 ·rw [h] at h2;cases h2
section
variable  {prog:Program}{w:World}{A:Around}{E:Tb}{s:Shared}
theorem A5 {b:Bool}{Q:Bool->Shared->Prop}:∀{xs ys:Te} {ns ms:Th} (i:Nat),IntsAre xs ns->IntsAre ys ms->Q (iO ns ms) s->KatLex prog w A b (decide (xs.length < ys.length)) Q (xs.zip ys) i s:=by
  intro xs ys ns ms i r
  induction r generalizing ys ms i with
  |nil=>intro q h;cases q <;> exact h
  |cons n t r ih =>
   rename_i xs ns
   intro q h
   cases q with
   |nil=>exact h
   |cons m u q =>
    rename_i ys ms
    show KatLex prog w A b _ Q ((.int n t,.int m u)::xs.zip ys) i s
    refine kat_cons (wpAny_eqBool_int ?_)
    by_cases e:n=m
    · subst e
      rw [zcl];refine kat_yes ?_
      have hd:decide ((Value.int n t::xs).length < (Value.int n u::ys).length)=decide (xs.length < ys.length):=by simp
      rw [hd];exact ih (i+1) q (by simpa [iO] using h)
    · rw [show (n == m)=false by simpa using e]
      refine kat_no ?_
      have h':Q (decide (n < m)) s:=by simpa [iO,e] using h
      cases (b && i == 0) with
      |true=>exact oneLt_int h'
      |false=>first|exact kat_one _ _ (lt_int h')|exact kat_one _ _ (lt_int (boolBack_bool h'))
def be (h:Heap):List Value->List (Th)->Prop
 |[],[]=>True
 |v::vs,L::Ls=>(∃a o its n,v=.ref a/\h.get? a=some o/\o.cls=.type "tuple"/\o.data=.seq its n/\IntsAre its.toList L)/\be h vs Ls
 |_,_=>False
theorem be.len {h:Heap}:∀{vs:Te} {L:Ta},be h vs L->vs.length=L.length
 |[],[],_=>rfl
 |[],_::_,h=>h.elim
 |_::_,[],h=>h.elim
 |_::vs,_::L,h=>by simp [be.len h.2]
theorem be.at {h:Heap}:∀{vs:Te} {L:Ta},be h vs L->∀i,i < L.length->∃a o its n,vs.getD i .none=.ref a/\h.get? a=some o/\o.cls=.type "tuple"/\o.data=.seq its n/\IntsAre its.toList (L.getD i [])
 |[],[],_,i,hi=>by simp at hi
 |[],_::_,h,_,_=>h.elim
 |_::_,[],h,_,_=>h.elim
 |v::vs,x::L,h,0,_=>h.1
 |v::vs,x::L,h,i+1,hi=>be.at h.2 i (by simpa using hi)
theorem be.keep {h h':Heap}(k:∀b o,h.get? b=some o->h'.get? b=some o):∀{vs:Te} {L:Ta},be h vs L->be h' vs L
 |[],[],_=>trivial
 |[],_::_,h=>h.elim
 |_::_,[],h=>h.elim
 |_::vs,_::L,h=>by
  obtain ⟨⟨a,o,its,n,e,g,r⟩,t⟩:=h;exact ⟨⟨a,o,its,n,e,k _ _ g,r⟩,be.keep k t⟩
theorem be.keepNe {h h':Heap}{a:Addr}(k:∀b o,h.get? b=some o->b≠a->h'.get? b=some o):∀{vs:Te} {L:Ta},be h vs L->(∀v∈vs,v≠.ref a)->be h' vs L
 |[],[],_,_=>trivial
 |[],_::_,h,_=>h.elim
 |_::_,[],h,_=>h.elim
 |v::vs,_::L,h,hn=>by
  obtain ⟨⟨b,o,its,n,e,g,r⟩,t⟩:=h;exact ⟨⟨b,o,its,n,e,k _ _ g fun z=>hn v (by simp) (by rw [e,z]),r⟩,be.keepNe k t fun u hu=>hn u (by simp [hu])⟩
theorem be.firsts {h:Heap}:∀{vs:Te} {L:Ta},be h vs L->(∀x∈L,x≠[])->∃fs,KatTups h vs fs/\fs.length=L.length/\∀f∈fs,∃n t,f=.int n t
 |[],[],_,_=>⟨[],trivial,rfl,by simp⟩
 |[],_::_,h,_=>h.elim
 |_::_,[],h,_=>h.elim
 |v::vs,x::L,h,hn=>by
  obtain ⟨⟨a,o,its,n,e,g,c,d,r⟩,t⟩:=h;obtain ⟨fs,q1,q2,q3⟩:=be.firsts t fun y hy=>hn y (by simp [hy]);have hx:=hn x (by simp);generalize hits:its.toList=il at r
  cases r with
  |nil=>exact absurd rfl hx
  |cons m tk r' =>
   have h0:its[0]?=some (.int m tk):=by rw [←za4,hits];rfl
   exact ⟨.int m tk::fs,by subst e;exact KatTups.cons g c d h0 q1,by simp [q2],fun f hf=>by
    rcases zak.mp hf with rfl|hf
    ·exact ⟨m,tk,rfl⟩
    ·exact q3 f hf⟩
theorem nG {α:Type}:∀(l:List α) (d:α),l=(List.range l.length).map fun i=>l.getD i d:=fun l d=>by
 refine zde (by simp) fun k h1 h2=>?_;simp only [zbI,zc0];rw [zbu,zas h1];rfl
theorem ph {a:Addr}{vs:Te}{L:Ta}{n:Nat}{P:PySem.Fin->Shared->Prop}(ho:s.heap.get? a=some (seqObj "list" vs.toArray n))(hT:be s.heap vs L)(nd:L.Nodup)(h64:L.length < 64)(hne:2<=L.length->∀x∈L,x≠[])
  (hna:∀v∈vs,v≠.ref a)
  (h:∀(out:Ti) (L':Ta),(∃is:List Nat,out.toList=is.map (fun i=>vs.getD i .none)/\L'=is.map (fun i=>L.getD i [])/\∀i∈is,i < L.length)->L'.Perm L->L'.Pairwise (fun x y=>iO x y=true)->P (.done (.ret .none)) {s with heap:=sortedHeap s.heap a vs out}):wpAny (model prog w) A (Builtin.«list.sort» ⟨[.ref a],[]⟩) P E s:=by
 have hl:=hT.len;rw [list_sort_plain];have ha:a < s.heap.objs.size:=zam ho
 have hz:vs.length<=sizeLine:=by rw [zbh];omega
 refine zab (listItems_at ho rfl (zab (listUpdate_at ho rfl ?_ (by simpa using hz) (by simp))));obtain ⟨c1,o1⟩:∃c1,(s.heap.update a (Obj.mapSeq fun _=>#[])).get? a=some (seqObj "list" #[] c1):=⟨_,get?_update_seq ho (fun _=>#[])⟩;refine zab (seqEpoch_at o1 rfl (zab (wpAny_newTuple (zab (zc5 (zaF ?_) (za3 _))) (by simpa using hz))))
 have o6:(((s.heap.update a (Obj.mapSeq fun _=>#[])).push (seqObj "tuple" vs.toArray 0)).push (seqObj "list" #[] 0)).get? a=some (seqObj "list" #[] c1):=by
  rw [Heap.get?_push_ne _ _ _ (by rw [size_push',Heap.size_update];exact zax (zaR ha)),Heap.get?_push_ne _ _ _ (by rw [Heap.size_update];exact zax ha)];exact o1
 show wpAny (model prog w) A _ P E {s with heap:=((s.heap.update a (Obj.mapSeq fun _=>#[])).push (seqObj "tuple" vs.toArray 0)).push (seqObj "list" #[] 0)}
 dsimp only
 by_cases h2:vs.toArray.size < 2
 ·rw [if_pos h2,if_pos h2]
  refine zab (zad (zab (zad ?_)));dsimp only
  have hm:Array.map (fun x=>x.snd) (arrOf (SortSt.mk' general' (vs.toArray.zip vs.toArray) #[] 7 none))=vs.toArray:=by
   show Array.map (fun x=>x.snd) (vs.toArray.zip vs.toArray)=vs.toArray
   apply Array.ext
   ·simp
   ·intro i h1 h3;simp
  rw [hm];refine zab (seqEpoch_at o6 rfl (zab (listUpdate_at o6 rfl ?_ (by simp) (by rw [zat];omega))))
  show wpAny (model prog w) A (if (c1 != c1)=true then _ else _) P E _
  simp only [bne_self_eq_false,zan,if_false];refine zad (h vs.toArray L ⟨List.range L.length,by rw [←hl];simpa using nG vs .none,nG L [],fun i hi=>by simpa using hi⟩ (List.Perm.refl _) ?_)
  have:L.length < 2:=by simp at h2;omega
  match L,this with
  |[],_=>exact .nil
  |[x],_=>simp
 ·rw [if_neg h2,if_neg h2]
  have hb2:2<=L.length:=by simp at h2;omega
  have keep:∀b o,s.heap.get? b=some o->b≠a->(((s.heap.update a (Obj.mapSeq fun _=>#[])).push (seqObj "tuple" vs.toArray 0)).push (seqObj "list" #[] 0)).get? b=some o:=fun b o e ne =>
   zae _ (zae _ (by rw [zaz _ _ (Ne.symm ne)];exact e))
  have hT1:be (((s.heap.update a (Obj.mapSeq fun _=>#[])).push (seqObj "tuple" vs.toArray 0)).push (seqObj "list" #[] 0)) vs L:=hT.keepNe keep hna;obtain ⟨fs,q1,q2,q3⟩:=hT1.firsts (hne hb2);refine zab (kat_kind (T:=.type "int") q1 (by omega) (fun v hv=>?_) (by decide) ?_)
  ·obtain ⟨m,tk,rfl⟩:=q3 v hv
   exact .now
  refine zab (zbB (kat_run (ks:=vs) (vs:=vs) (Q:=fun st' s'=>∃p:Array Nat,p.size=vs.length/\arrOf st'=p.map (kas_item (vs.toArray.zip vs.toArray))/\failedOf st'=none/\s'={s with heap:=((s.heap.update a (Obj.mapSeq fun _=>#[])).push (seqObj "tuple" vs.toArray 0)).push (seqObj "list" #[] 0)}/\Pm L.length p/\Up (mF L) p L.length)
   (G:=fun p s'=>s'={s with heap:=((s.heap.update a (Obj.mapSeq fun _=>#[])).push (seqObj "tuple" vs.toArray 0)).push (seqObj "list" #[] 0)}/\Pm L.length p/\Up (mF L) p L.length)
   rfl (by omega) (by omega) (fun p' st' s' a1 a2 a3 a4=>⟨p',a1,a2,a3,a4⟩) ?_) ?_ fun _ _ e=>e)
  ·rw [hl]
   refine CP (r:=mF L) (n:=L.length) ⟨fun i j hi hj e=>Ad nd hi hj e,fun i j hi hj C hC=>?_⟩ (by omega) fun p hp hu=>⟨rfl,hp,hu⟩;obtain ⟨x,ox,ix,nx,e1,e2,e3,e4,e5⟩:=hT1.at i hi;obtain ⟨y,oy,iy,ny,f1,f2,f3,f4,f5⟩:=hT1.at j hj;unfold kas_ask;rw [e1,f1];refine kat_lt e2 e4 f2 f4 ?_;rw [mV hi hj] at hC;have:=A5 (prog:=prog) (w:=w) (A:=A) (b:=(Value.type "int" != Value.type "tuple")) 0 e5 f5 hC;simpa using this
  ·rintro ⟨⟨⟩,st'⟩ s' ⟨p,hp,har,hf,rfl,hpm,hup⟩
   dsimp only;have hout:=kat_snds (ks:=vs) (vs:=vs) rfl har;rw [hout]
   have hsz:(List.toArray (p.toList.map fun i=>vs.getD i Value.none)).size<=sizeLine+1:=by rw [zat,zal,zaN,hp];omega
   refine zab (seqEpoch_at o6 rfl (zab (listUpdate_at o6 rfl ?_ (by simp) hsz)));rw [hf];simp only [bne_self_eq_false,zan,if_false]
   have hlt:∀i∈p.toList,i < L.length:=fun i hi=>by have:=hpm.pm.mem_iff.mp hi;simpa using this
   refine zad (h _ (p.toList.map fun i=>L.getD i []) ⟨p.toList,by simp,rfl,hlt⟩ ?_ ?_)
   ·have:=hpm.pm.map fun i=>L.getD i []
    refine this.trans (List.Perm.of_eq ?_);refine zde (by simp) fun k h1 h2=>?_;simp only [zbI,zc0];rw [zbu,zas (by simpa using h1)];rfl
   ·rw [zbi,zbc]
    intro i j hi hj hij;have hsz2:=hpm.size
    have hi':i < p.size:=by simpa using hi
    have hj':j < p.size:=by simpa using hj
    have hk:=hup i j hij (by omega);unfold key at hk
    have gi:p.getD i 0=p[i]:=by rw [zaP,zap hi'];rfl
    have gj:p.getD j 0=p[j]:=by rw [zaP,zap hj'];rfl
    rw [gi,gj] at hk;have:=mV (L:=L) (i:=p[i]) (j:=p[j]) (hlt _ (by simp)) (hlt _ (by simp))
    rw [zaQ hk] at this
    simpa using this.symm
end
end HT2
namespace HK
open PySem PySem.Spec PyProof.Rows L2
def DE (h:Heap)(d:Addr)(es:Array DictEntry)(ep:Nat):Prop:=∃ob,h.get? d=some ob/\ob.ExactDict/\ob.data=.dict es ep
section
variable  {prog:Program}{w:World}{A:Around}{E:Tb}{s:Shared}{d it:Addr}{es:Array DictEntry}{ep i:Nat}
theorem DE.ty (m:DE s.heap d es ep):s.TypeIs (.ref d) "dict":=let ⟨ob,g,x,_⟩:=m;⟨ob,g,x.1⟩
theorem DE.at {h h':Heap}(m:DE h d es ep)(k:∀ob,h.get? d=some ob->h'.get? d=some ob):DE h' d es ep:=let ⟨ob,g,r⟩:=m;⟨ob,k _ g,r⟩
theorem Lv {Q:Tb}(nd:(d == sysModules)=false)(m:DE s.heap d es ep)
  (fin:Q (.ref s.heap.objs.size) {s with heap:=s.heap.push {cls:=.type "dict_keyiterator",data:=.fields #[.ref d,.int 0 0,.int es.size 0,.int ep 0]}}):wpAny (model prog w) A (pyIter (.ref d)) Q E s:=by
 obtain ⟨ob,g,x,dt⟩:=id m;refine zcw m.ty F.slot_dict_iter (zaT F.slot_dict_iter m.ty F.entry_dict_iter ?_ (F.args_dict_iter_1 _));unfold Builtin.«dict.__iter__» Builtin.Dict.dictSlotNone;refine zab (zab (wpAny_notOrdered_dict m.ty ?_));refine (show wpAny _ _ (pure (Value.ref d)) _ _ s from zad (show wpAny _ _ (Builtin.Dict.showsAll d >>= _) _ _ s from ?_));unfold Builtin.Dict.showsAll;rw [if_neg (show ¬ (d == sysModules)=true by rw [nd];decide)];refine zab (zad (zab (zcx g dt (zab (zdk g dt (zab (zaV (zad ⟨_,rfl,"dict_keyiterator",_,⟨_,zaq _ rfl,rfl⟩,F.slot_dict_keyiterator_next.lookup,?_⟩))))))));simpa [rawInt] using fin
theorem Ln {e:DictEntry}{Q:Option Value->Shared->Prop}(k:s.heap.IsKeyIter it d i es.size ep)(m:DE s.heap d es ep)(ge:es[i]?=some e)
  (fin:∀h',h'.IsKeyIter it d (i+1) es.size ep->Heap.SameBut it s.heap h'->Q (some e.key) {s with heap:=h'}):wpAny (model prog w) A (pyNext (.ref it)) Q E s:=by
 obtain ⟨oi,gi,ci,di⟩:=id k;obtain ⟨ob,g,x,dt⟩:=id m;have ty:=k.typeIs;unfold pyNext;refine zab (zbG (za5 (name:=Str.ofString "__next__") ty F.slot_dict_keyiterator_next (zaT F.slot_dict_keyiterator_next ty F.entry_dict_keyiterator_next ?_ (F.args_dict_keyiterator_next_1 _))));refine zab (zad (zab (zab ?_)))
 first|refine zab (zbM ty (zad (zab (zbQ gi di ?_))))|refine zab (zb6 ty (zad (zab (zbQ gi di ?_))))
 simp only [show Builtin.Dict_items.ownsTuple "dict_keyiterator" = false by decide,zan,if_false];refine (show wpAny _ _ (if (Value.ref d == Value.none)=true then _ else _) _ _ s from ?_);rw [if_neg (show ¬ ((Value.ref d == Value.none)=true) by exact zbd)];refine zab (zad (zab (zcx g dt ?_)));rw [if_neg (show ¬ _ by simp)];refine zab (zad (zab (zdk g dt ?_)));rw [if_neg (show ¬ _ by simp)];refine zad ?_;simp only [show ¬ ((i:Int) < 0) by omega,if_false,zbL,ge];refine zab ?_
 first|refine zab (zbM ty (zad (zab (zcI ty ?_))))|refine zab (zb6 ty (zad (zab (zcI ty ?_))))
 refine (show wpAny _ _ (setField (.ref it) 1 (rawInt ((i:Int)+1)) >>= _) _ _ s from zab (zbR gi di (by simp) ?_))
 have k':(s.heap.update it (Obj.mapFields (·.setIfInBounds 1 (rawInt ((i:Int)+1))))).IsKeyIter it d (i+1) es.size ep :=
  ⟨_,zaI _ gi (Obj.isFreed_of_fields (Obj.data_mapFields di _)),(Obj.cls_mapFields ..).trans ci,by rw [Obj.data_mapFields di];simp [rawInt]⟩
 refine zab (zaF (zab (zcI (s:={s with heap:=s.heap.update it (Obj.mapFields (·.setIfInBounds 1 (rawInt ((i:Int)+1))))}) k'.typeIs ?_)));exact (show wpAny _ _ (pure e.key) _ _ _ from zad (zad ⟨_,rfl,zad (fin _ k' (Heap.SameBut.update ..))⟩))
theorem Lr {Q:Option Value->Shared->Prop}(hh:A.handled=none)(k:s.heap.IsKeyIter it d es.size es.size ep)(m:DE s.heap d es ep)
  (fin:∀h',Heap.ExtBut it s.heap h'->Q none {s with heap:=h'}):wpAny (model prog w) A (pyNext (.ref it)) Q E s:=by
 obtain ⟨oi,gi,ci,di⟩:=id k;obtain ⟨ob,g,x,dt⟩:=id m;have ty:=k.typeIs;unfold pyNext;refine zab (zbG (za5 (name:=Str.ofString "__next__") ty F.slot_dict_keyiterator_next (zaT F.slot_dict_keyiterator_next ty F.entry_dict_keyiterator_next ?_ (F.args_dict_keyiterator_next_1 _))));refine zab (zad (zab (zab ?_)))
 first|refine zab (zbM ty (zad (zab (zbQ gi di ?_))))|refine zab (zb6 ty (zad (zab (zbQ gi di ?_))))
 simp only [show Builtin.Dict_items.ownsTuple "dict_keyiterator" = false by decide,zan,if_false];refine (show wpAny _ _ (if (Value.ref d == Value.none)=true then _ else _) _ _ s from ?_);rw [if_neg (show ¬ ((Value.ref d == Value.none)=true) by exact zbd)];refine zab (zad (zab (zcx g dt ?_)));rw [if_neg (show ¬ _ by simp)];refine zab (zad (zab (zdk g dt ?_)));rw [if_neg (show ¬ _ by simp)];refine zad ?_;simp only [show ¬ ((es.size:Int) < 0) by omega,if_false,zbL,zcy (zao es.size)];refine zab ?_
 first|refine zab (zbM ty (zad ?_))|refine zab (zb6 ty (zad ?_))
 refine (show wpAny _ _ (setField (.ref it) 0 .none >>= _) _ _ s from zab (zbR gi di (by simp) ?_));refine (show wpAny _ _ (newExc (.type "StopIteration") [] >>= _) _ _ _ from zab ?_);simp only [newExc,newTuple];refine zab (zaV (zab (m:=firstArgMember _ _) (zdm (a:=Value.none) (by first|rfl|(simp only [firstArgMember];rfl)) (zaV ?_ (by size_fits)))) (by size_fits));simp only [raiseNew];refine zab (wpAny_handled ?_);rw [show A.in1.handled=none by exact hh];refine zab (zad (wpAny_throw (zab ?_)));exact zbS (T:="StopIteration") (b:=true) ⟨_,zaq _ rfl,rfl⟩ isSubtype_stop (zad (fin _ (((Heap.SameBut.update ..).extBut.push _).push _)))
theorem GD (hh:A.handled=none)(I d:Addr)(ne:d≠I)(es:Array DictEntry)(ep:Nat):Walks prog w A I [I,d] [I] es.size (fun i v=>∃e,es[i]?=some e/\v=e.key) (fun i h=>h.IsKeyIter I d i es.size ep/\DE h d es ep) where
 sub:=fun b z=>by simp at z;simp [z]
 frame:=fun _ _ _ q z=>⟨q.1.at fun o e=>z I (by simp) o e,q.2.at fun o e=>z d (by simp) o e⟩
 item:=fun i s Q E hi q fin=>by
  refine Ln q.1 q.2 (zap hi) fun h' k' sb=>fin _ h' s.toks ⟨_,zap hi,rfl⟩ ⟨k',q.2.at fun o e=>sb.extBut d o ne e⟩ fun b o hb e=>sb.extBut b o (fun z=>hb (by simp [z])) e
 done:=fun s Q E q fin=>Lr hh q.1 q.2 fun h' eb=>fin h' s.toks fun b o hb e=>eb b o (fun z=>hb (by simp [z])) e
 self:=fun _ _ _ _ q fin=>wpAny_pyIter_keyiter q.1 fin
end
end HK
namespace HK
open PySem PySem.Spec PyProof.Rows L2 HT2
section
variable  {prog:Program}{w:World}{A:Around}{E:Tb}{s:Shared}
theorem D0 {es:Array DictEntry}{vs:Te}(hl:vs.length=es.size)(h:∀(i:Nat) v,vs[i]?=some v->∃e,es[i]?=some e/\v=e.key):vs=es.toList.map (·.key):=by
 refine zde (by simpa using hl) fun i h1 h2=>?_;obtain ⟨e,g,q⟩:=h i vs[i] (zas h1)
 have hi:i < es.size:=by simpa using h2
 rw [zap hi] at g;cases g;rw [q];simp
theorem B2 {a:Addr}{es:Array DictEntry}{ep:Nat}{Q:List Value->Shared->Prop}(hh:A.handled=none)(hd:(a == sysModules)=false)(hm:DE s.heap a es ep)(hz:es.size<=sizeLine)
  (h:∀(h':Heap) (tk:Nat),(∀b o,s.heap.get? b=some o->h'.get? b=some o)->s.toks<=tk->s.heap.objs.size<=h'.objs.size->Q (es.toList.map (·.key)) {s with heap:=h',toks:=tk}) :
  wpAny (model prog w) A (collect (.ref a)) Q E s:=by
 obtain ⟨o,ho,hx,hdat⟩:=id hm;have hlt:=zam ho;unfold collect;refine zab (zcU (za1 F.entry_proto_collect ?_));rw [zaU F.plain_proto_collect _];refine (show wpAny _ A.in1 (newList [] >>= fun l=>again (.builtin "list.__iadd__" ⟨[l,.ref a],[]⟩)) _ _ s from zab (zaV ?_));refine zad ⟨zbk F.plain_list_iadd _,za1 F.entry_list_iadd ?_⟩;rw [zaU F.plain_list_iadd _];refine (show wpAny _ A.in1 (Builtin.List.listExtendWith (.ref s.heap.objs.size) (.ref a) (.ref s.heap.objs.size)) _ _ _ from ?_);unfold Builtin.List.listExtendWith;have hm1:DE (s.heap.push {cls:=.type "list",data:=.seq ([]:Te).toArray}) a es ep:=hm.at fun _ e=>zae _ e;have hT:Shared.TypeIs {s with heap:=s.heap.push {cls:=.type "list",data:=.seq ([]:Te).toArray}} (.ref a) "dict":=DE.ty (s:={s with heap:=s.heap.push {cls:=.type "list",data:=.seq ([]:Te).toArray}}) hm1;refine zab (zby hT ?_)
 have h1:Builtin.List.listSameRef (.ref s.heap.objs.size) (.ref a)=false:=by simp [Builtin.List.listSameRef,zbF hlt]
 simp only [h1,show (Value.type "dict" == Value.type "list")=false by decide,show (Value.type "dict" == Value.type "tuple")=false by decide,zcA,zan,if_false];refine zab (Lv hd hm1 ?_);have hsz:(s.heap.push {cls:=.type "list",data:=.seq ([]:Te).toArray}).objs.size=s.heap.objs.size+1:=zbe ..;generalize hI:(s.heap.push {cls:=.type "list",data:=.seq ([]:Te).toArray}).objs.size=I at *;have kp:∀b o,(s.heap.push {cls:=.type "list",data:=.seq ([]:Te).toArray}).get? b=some o->((s.heap.push {cls:=.type "list",data:=.seq ([]:Te).toArray}).push {cls:=.type "dict_keyiterator",data:=.fields #[.ref a,.int 0 0,.int es.size 0,.int ep 0]}).get? b=some o:=fun b o e=>zae _ e;generalize hh1:(s.heap.push {cls:=.type "list",data:=.seq ([]:Te).toArray}).push {cls:=.type "dict_keyiterator",data:=.fields #[.ref a,.int 0 0,.int es.size 0,.int ep 0]}=h1 at *;have hIt:h1.IsKeyIter I a 0 es.size ep:=⟨_,by rw [←hh1,←hI];exact zaq _ rfl,rfl,rfl⟩;have hma:DE h1 a es ep:=hm1.at fun o e=>kp _ o e;have hTa:Shared.TypeIs {s with heap:=h1} (.ref a) "dict":=DE.ty (s:={s with heap:=h1}) hma;refine zab (zaF (HS.pL hTa ?_))
 refine (show wpAny _ A.in1 (rule "list.extend.makes-room" >>= fun _=>Builtin.List.listTouch (.ref s.heap.objs.size) >>= fun _ =>
  again (.builtin "list.extend.loop" ⟨[.ref s.heap.objs.size,.ref I,.ref s.heap.objs.size],[]⟩)) _ _ _ from zab (zca (zab ?_)))
 have hL:h1.get? s.heap.objs.size=some {cls:=.type "list",data:=.seq ([]:Te).toArray}:=kp _ _ (zaq _ rfl)
 have hSf:s.heap.objs.size∉[I,a]:=fun hm=>by
  simp only [zak,zaC,or_false] at hm;rcases hm with e|e
  ·rw [hsz] at e;omega
  ·exact zaG _ (e ▸ hlt)
 refine (show wpAny _ A.in1 (updateSeq s.heap.objs.size (·.push .none) >>= fun _=>updateSeq s.heap.objs.size (·.pop)) _ _ _ from zab (zbv hL rfl ?_));have hL2:=zaI (Obj.mapSeq (·.push Value.none)) hL rfl;refine zbv (s:={s with heap:=_}) hL2 rfl ?_;have hL3:=zaI (Obj.mapSeq (·.pop)) hL2 rfl
 have oth:∀b o,b≠s.heap.objs.size->h1.get? b=some o->((h1.update s.heap.objs.size (Obj.mapSeq (·.push Value.none))).update s.heap.objs.size (Obj.mapSeq (·.pop))).get? b=some o :=
  fun b o hb e=>(zaz _ _ (Ne.symm hb)).trans ((zaz _ _ (Ne.symm hb)).trans e)
 have W1:=GD (prog:=prog) (w:=w) (A:=A.in1) (show A.in1.handled=none from hh) I a (by rw [hsz];exact zax (zaR hlt)) es ep
 refine zad ⟨zbk F.plain_extend_loop _,codeAny_extend_loopS W1.toS hz _ hSf _ es.size 0 _ _ _ rfl (za3 _)
  (W1.frame 0 h1 _ ⟨hIt,hma⟩ fun b hb o e=>oth b o (fun q=>hSf (q ▸ hb)) e) hL3 (ItemsOf.nil _) fun s' acc c hm' hS' hacc=>?_⟩
 refine (show wpAny _ A (load s.heap.objs.size >>= _) _ _ s' from zab (wpAny_load hS' ?_));dsimp only;obtain ⟨h',g',d',tk',os'⟩:=s';have eg:g'=s.gens:=hm'.gens;have ed:d'=s.drawn:=hm'.drawn;have eo:os'=s.os:=hm'.os;subst eg;subst ed;subst eo;refine zad ?_;have hk:acc.toList=es.toList.map (·.key):=D0 (by rw [←hacc.1];simp) fun i v hv=>hacc.2 i v (by simpa using hv);rw [hk];refine h h' tk' (fun b o e=>hm'.heap b o (fun hb=>?_) (oth b o (fun q=>?_) (kp _ _ (zae _ e)))) hm'.toks (zb1 (zam hS'))
 ·have hb1:=zam e
  simp only [zak,zaC,or_false] at hb;rcases hb with q|q
  ·exact zaG _ (q ▸ hb1)
  ·rw [q,hsz] at hb1;exact absurd hb1 (Nat.not_lt.mpr (zce _))
 ·exact zaG _ (q ▸ zam e)
theorem CO {a:Addr}{es:Array DictEntry}{ep:Nat}{L:Ta}{Q:Tb}(hh:A.handled=none)(hd:(a == sysModules)=false)(hm:DE s.heap a es ep)(hT:be s.heap (es.toList.map (·.key)) L)(nd:L.Nodup)(h64:L.length < 64)(hne:2<=L.length->∀x∈L,x≠[])
  (h:∀(is:List Nat) (h':Heap) (tk:Nat) (l:Addr) (c:Nat),(∀i∈is,i < L.length)->(is.map fun i=>L.getD i []).Perm L->(is.map fun i=>L.getD i []).Pairwise (fun x y=>iO x y=true)->(∀b o,s.heap.get? b=some o->h'.get? b=some o)->s.toks<=tk ->
   s.heap.objs.size<=l->h'.get? l=some (seqObj "list" (is.map fun i=>(es.toList.map (·.key)).getD i .none).toArray c)->Q (.ref l) {s with heap:=h',toks:=tk}) :
  wpAny (model prog w) A (call (.builtin "sorted") [.ref a]) Q E s:=by
 have hvl:(es.toList.map (·.key)).length=L.length:=hT.len
 have hes:es.size=L.length:=by simpa using hvl
 refine Calls.call_function_entry kind_sorted plain_sorted entry_sorted (args_sorted1 _) ?_;unfold Builtin.«sorted»;refine zab (m:=checkCount "sorted" 1 1 _) (zad (zab (B2 (show A.in1.handled=none from hh) hd hm (by rw [hes,zbh];omega) fun h' tk kp ht hge=>?_)));generalize es.toList.map (·.key)=vs at *;refine zab (zc5 ?_ (by rw [hvl,zbh];omega));have hoL:(h'.push (seqObj "list" vs.toArray 0)).get? h'.objs.size=some (seqObj "list" vs.toArray 0):=zaq _ rfl;have hT2:be (h'.push (seqObj "list" vs.toArray 0)) vs L:=hT.keep fun b o e=>zae _ (kp b o e)
 have hna:∀v∈vs,v≠.ref h'.objs.size:=fun v hv e=>by
  obtain ⟨i,hi,rfl⟩:=za7 hv;obtain ⟨b,o,its,n,q1,q2,_⟩:=hT.at i (by omega);rw [zbu,zas hi] at q1;simp only [zbt] at q1;rw [e] at q1;cases q1;exact absurd (zam (kp _ _ q2)) (zaG _)
 refine zab (zaF (zaT (s:={s with heap:=h'.push (seqObj "list" vs.toArray 0),toks:=tk}) slot_list_sort ⟨_,hoL,rfl⟩ entry_list_sort (ph (s:={s with heap:=h'.push (seqObj "list" vs.toArray 0),toks:=tk}) hoL hT2 nd h64 hne hna fun out L' ⟨is,a1,a2,a3⟩ a4 a5=>⟨_,rfl,?_⟩) (args_list_sort _)))
 obtain ⟨c,hc⟩:∃c,(sortedHeap (h'.push (seqObj "list" vs.toArray 0)) h'.objs.size vs out).get? h'.objs.size=some (seqObj "list" out c):=by
  unfold sortedHeap;obtain ⟨e1,q1⟩:∃e1,((h'.push (seqObj "list" vs.toArray 0)).update h'.objs.size (Obj.mapSeq fun _=>#[])).get? h'.objs.size=some (seqObj "list" #[] e1):=⟨_,get?_update_seq hoL (fun _=>#[])⟩;exact ⟨_,get?_update_seq (zae _ (zae _ q1)) (fun _=>out)⟩
 have ho:out=(is.map fun i=>vs.getD i .none).toArray:=by rw [←a1]
 subst a2;rw [ho] at hc;refine zad ⟨_,rfl,h is _ tk h'.objs.size c a3 a4 a5 (fun b o e=>?_) ht hge (by rw [ho];exact hc)⟩;have hb:=kp b o e;have ne:h'.objs.size≠b:=zbF (zam hb);unfold sortedHeap;rw [zaz _ _ ne];refine zae _ (zae _ ?_);rw [zaz _ _ ne];exact zae _ hb
end
end HK
namespace HW
open PySem PySem.Spec PyProof.Rows L2 HS HT2 HK
def uY (k:Th):List (Th)->Ta
 |[]=>[k]
 |x::l=>if iO k x=true then k::x::l else x::uY k l
def bD:List (Th)->Ta
 |[]=>[]
 |k::l=>uY k (bD l)
theorem lK (k:Th):∀l,(uY k l).Perm (k::l)
 |[]=>.refl _
 |x::l=>by
  unfold uY;split
  ·exact .refl _
  ·exact ((lK k l).cons x).trans (.swap k x l)
theorem bT:∀l,(bD l).Perm l
 |[]=>.refl _
 |k::l=>(lK k _).trans ((bT l).cons k)
abbrev Cw (l:Ta):Prop:=l.Pairwise fun x y=>iO x y=true
theorem wL {k:Th}:∀{l:Ta},Cw l->k∉l->Cw (uY k l)
 |[],_,_=>by simp [uY]
 |x::l,h,hk=>by
  obtain ⟨h1,h2⟩:=zay.mp h;unfold uY;split
  ·rename_i c
   refine zay.mpr ⟨fun y hy=>?_,h⟩;rcases zak.mp hy with rfl|hy
   ·exact c
   ·exact gd _ _ _ c (h1 y hy)
  ·rename_i c
   refine zay.mpr ⟨fun y hy=>?_,wL h2 fun z=>hk (zaj _ z)⟩;rcases zak.mp ((lK k l).mem_iff.mp hy) with rfl|hy
   ·rcases mZ x y with q|q|q
    ·exact q
    ·exact absurd zah (q ▸ hk)
    ·exact absurd q c
   ·exact h1 y hy
theorem gq:∀{l:Ta},l.Nodup->Cw (bD l)
 |[],_=>.nil
 |k::l,h=>by
  obtain ⟨h1,h2⟩:=zaJ.mp h;exact wL (gq h2) fun z=>h1 ((bT l).mem_iff.mp z)
theorem jy:∀{a b:Ta},Cw a->Cw b->a.Perm b->a=b
 |[],b,_,_,p=>by rw [List.nil_perm.mp p]
 |x::a,[],_,_,p=>by simpa using p.length_eq
 |x::a,y::b,ha,hb,p=>by
  obtain ⟨a1,a2⟩:=zay.mp ha;obtain ⟨b1,b2⟩:=zay.mp hb
  have e:x=y:=by
   rcases zak.mp (p.mem_iff.mp zah) with h|h
   ·exact h
   ·rcases zak.mp (p.mem_iff.mpr zah) with h'|h'
    ·exact h'.symm
    ·have q:=gd _ _ _ (b1 x h) (a1 y h')
     rw [gK] at q;cases q
  subst e;rw [jy a2 b2 ((List.perm_cons x).mp p)]
def Bd:List R->ac->Option (R×ac)
 |[x],μ=>(d5 x μ).bind fun xs=>(fT xs).bind fun ns=>some (.v (.key ns),μ)
 |_,_=>none
theorem Bs {K:zac}{H:Hp}:∀{xs:List D} {ns:Th} {vs:List V},fT xs=some ns->RelDs K H xs vs->vs=ns.map V.int
 |[],ns,vs,e,r=>by cases e;exact r
 |.int n::xs,ns,vs,e,r=>by
  simp only [fT] at e;obtain ⟨ms,e1,rfl⟩:=zaM.mp e;obtain ⟨v,r',rfl,h1,h2⟩:=r;simp only [am] at h1;subst h1;rw [Bs e1 h2];rfl
 |.non::_,_,_,e,_=>by cases e
 |.bl _::_,_,_,e,_=>by cases e
 |.str _::_,_,_,e,_=>by cases e
 |.tup _::_,_,_,e,_=>by cases e
 |.fl _::_,_,_,e,_=>by cases e
 |.fd _ _::_,_,_,e,_=>by cases e
 |.key _::_,_,_,e,_=>by cases e
theorem LI {K:zac}:Cy K Bd (KJ K):=by
 intro m H μ xs d μ' vs Q s r e k;unfold Bd at e;split at e
 ·rename_i x
  obtain ⟨ys,e1,e⟩:=zaa.mp e;obtain ⟨ns,e2,e⟩:=zaa.mp e;cases e;obtain ⟨v,rfl,r1⟩:=oO r;obtain ⟨a,ws,rfl,q,r⟩:=fO s r1 e1;refine ⟨a,ws,rfl,.inl ⟨q,fun p hp=>?_⟩⟩;obtain ⟨x1,x2,x3⟩:=lc s r hp;refine k _ _ _ x1 x2 ?_;simp only [ar,am];exact ⟨p,rfl,by rw [bf,Bs e2 r]⟩
 ·cases e
theorem pq {K:zac}{H:Hp}:∀(ns:Th),RelDs K H (ns.map D.int) (ns.map V.int)
 |[]=>rfl
 |n::ns=>⟨_,_,rfl,by simp only [am],pq ns⟩
abbrev kk (k:Th):List aE:=k.map Sum.inl
theorem IC {a b:Th}(h:kk a=kk b):a=b:=by
 induction a generalizing b with
 |nil=>cases b with
  |nil=>rfl
  |cons y b=>cases h
 |cons x a ih=>cases b with
  |nil=>cases h
  |cons y b =>
   simp only [kk,zaf,List.cons.injEq,Sum.inl.injEq] at h;rw [h.1,ih h.2]
theorem ID (k:Th):(kk k).map kV=k.map V.int:=by
 rw [za2];rfl
def ik (H:Hp):List Addr->List (Th)->Prop
 |[],[]=>True
 |a::as,k::ks=>H a=some (.tup (k.map V.int))/\ik H as ks
 |_,_=>False
theorem ik.at {H:Hp}:∀{as:Tf} {ks:Ta},ik H as ks->∀i,i < ks.length->H (as.getD i 0)=some (.tup ((ks.getD i []).map V.int))
 |[],[],_,i,hi=>by simp at hi
 |[],_::_,h,_,_=>h.elim
 |_::_,[],h,_,_=>h.elim
 |_::_,_::_,h,0,_=>h.1
 |_::_,_::_,h,i+1,hi=>ik.at h.2 i (by simpa using hi)
theorem ik.pick {H:Hp}{as:Tf}{ks:Ta}(h:ik H as ks):∀(is:List Nat),(∀i∈is,i < ks.length)->ik H (is.map fun i=>as.getD i 0) (is.map fun i=>ks.getD i [])
 |[],_=>trivial
 |i::is,hi=>⟨h.at i (hi i zah),ik.pick h is fun j hj=>hi j (zaj _ hj)⟩
theorem ik.rels {K:zac}{H:Hp}:∀{as:Tf} {ks:Ta},ik H as ks->RelDs K H (ks.map D.key) (as.map V.ref)
 |[],[],_=>rfl
 |[],_::_,h=>h.elim
 |_::_,[],h=>h.elim
 |_::_,_::_,h=>⟨_,_,rfl,by simp only [am];exact ⟨_,rfl,h.1⟩,ik.rels h.2⟩
def sn:List V->Hp->VK->Prop:=fun vs H Q=>∃p kvs L,vs=[.ref p]/\H p=some (.dT kvs)/\kvs.map (·.1)=L.map kk/\L.length < 64/\(2<=L.length->∀x∈L,x≠[]) /\
 ∀as,ik H as (bD L)->∀l,H l=none->Q (.ref l) (upd H l (.lst (as.map V.ref)))
theorem qW {X:Cx}(hc:X.calm=true):im X (.builtin "sorted") sn:=by
 intro pins s σ H vs us Q I r h;obtain ⟨p,kvs,L,rfl,hp,hk,h64,hne,q⟩:=h;obtain ⟨u,rfl,rx⟩:=l7 r;cases rx;obtain ⟨hz,hs,xs,kt,o,es,ep,g,hx,hd,he,hn⟩:=(show bE X.prog X.w H s.heap p (.dT kvs) from I.hok p _ hp)
 have key:∀{ks:List (List aE×V)} {ys:List (List aE×Addr×Value)} {L:Ta},Paired (fun (p:List aE×V) (q:List aE×Addr×Value)=>p.1=q.1/\H q.2.1=some (.tup (p.1.map kV))/\aY p.2 q.2.2) ks ys->ks.map (·.1)=L.map kk ->
   ik H (ys.map (·.2.1)) L/\be s.heap (ys.map fun y=>.ref y.2.1) L/\ys.map (·.1)=L.map kk:=by
  intro ks ys L kt
  induction kt generalizing L with
  |nil=>intro e;cases L with
   |nil=>exact ⟨trivial,trivial,rfl⟩
   |cons _ _=>cases e
  | @cons a b ps qs h1 h2 ih =>
   intro e
   cases L with
   |nil=>cases e
   |cons k L =>
    simp only [zaf,List.cons.injEq] at e;obtain ⟨i1,i2,i3⟩:=ih e.2
    have hb:H b.2.1=some (.tup (k.map V.int)):=by rw [h1.2.1,e.1,ID]
    obtain ⟨_,its,rv,⟨ob,g1,g2,n,g3⟩,_⟩:=(show bE X.prog X.w H s.heap b.2.1 (.tup (k.map V.int)) from I.hok _ _ hb);exact ⟨⟨hb,i1⟩,⟨⟨b.2.1,ob,its.toArray,n,rfl,g1,g2,g3,by simpa using f8 rv⟩,i2⟩,by simp only [zaf,i3,←h1.1,e.1]⟩
 obtain ⟨pa,ta,ka⟩:=key kt hk
 have hkeys:es.toList.map (·.key)=xs.map fun y=>.ref y.2.1:=by rw [he,za2];rfl
 have nd:L.Nodup:=by
  rw [ka] at hn;exact (zbi.mp hn).imp fun h e=>h (by rw [e])
 refine CO (I.ok.hd hc) hs ⟨o,g,hx,hd⟩ (by rw [hkeys];exact ta) nd h64 hne fun is h' tk l c i1 i2 i3 kp ht hl hL=>?_;have hpk:=pa.pick is i1;have heq:(is.map fun i=>L.getD i [])=bD L:=jy i3 (gq nd) (i2.trans (bT L).symm);rw [heq] at hpk
 have hlen:is.length=L.length:=by simpa using i2.length_eq
 refine ⟨.ref l,_,I.laid (t':=tk) kp hl (show bE X.prog X.w _ h' _ (.lst ((is.map fun i=>(xs.map (·.2.1)).getD i 0).map V.ref)) from ⟨by rw [zal,zal,hlen,zbh];omega,(is.map fun i=>(es.toList.map (·.key)).getD i .none),c,?_,by simpa [seqObj] using hL⟩),rfl,q _ hpk _ (I.hok.fresh hl)⟩;rw [hkeys]
 have hxl:xs.length=L.length:=by simpa using congrArg List.length ka
 clear hpk heq i2 i3 hL hlen
 induction is with
 |nil=>exact .nil
 |cons i is ih =>
  have hi:i < xs.length:=by rw [hxl];exact i1 i zah
  refine .cons ?_ (ih fun j hj=>i1 j (zaj _ hj))
  show _=Value.ref _
  simp [zbu,zas hi]
theorem Bq {X:Cx}{H:Hp}{s:Shared}(I:aD X pins σ H s){b:Addr}{zs:List V}(h:g9 X.K H b zs):∃(its:Te) (n:Nat),aU zs its/\s.heap.get? b=some {cls:=.type "list",data:=.seq its.toArray n}:=by
 rcases h with h|⟨o,its,n,hk,hc,hd,hs,hz,r⟩
 ·obtain ⟨z,its,n,r,e⟩:=h.ok I.hok
  exact ⟨its,n,r,e⟩
 ·refine ⟨its.toList,n,r,?_⟩
  have e:=I.kIn b o hk;obtain ⟨c,d,dt,sl⟩:=o;simp only at hc hd hs;obtain ⟨hd,hl⟩:=hd;subst hc hd hs hl;simpa using e
def FR (K:zac):R2:=fun x y H Q=>∃l b xs zs,x=.ref l/\y=.ref b/\g9 K H l xs/\g9 K H b zs/\xs.length+zs.length<=sizeLine/\∀p,H p=none->Q (.ref p) (upd H p (.lst (xs++zs)))
theorem DP {X:Cx}:jU X (binaryOp .Add) (FR X.K):=by
 intro pins s σ H x y v u Q I rx ry h;obtain ⟨l,b,xs,zs,rfl,rfl,hH,hB,hz,q⟩:=h;cases rx;cases ry;obtain ⟨its,n,r,e⟩:=Bq I hH;obtain ⟨its2,n2,r2,e2⟩:=Bq I hB;have l1:=r.length;have l2:=r2.length;refine PySem.P.add_list e e2 ?_ (by rw [zat,zat];omega);rw [show its.toArray++its2.toArray=(its++its2).toArray by simp];exact ⟨.ref _,_,I.lnew (t':=s.toks) (r.append r2) (by rw [zaX];omega),rfl,q _ I.fresh⟩
def oN:R->ac->Option (List D)
 |.p a,μ=>(match μ[a]? with|some (.lst xs)=>some xs|some (.fz xs)=>some xs|_=>none)
 |.v (.fl xs),_=>some xs
 |_,_=>none
theorem ql {K:zac}{m:Tf}{H:Hp}{μ:ac}(s:aO K m H μ){x:R}{v:V}{xs:List D}(e:oN x μ=some xs)(r:ar K m H x v):∃a vs,v=.ref a/\g9 K H a vs/\RelDs K H xs vs:=by
 refine fO s r ?_;rw [←e]
 cases x with
 |v d=>cases d <;> rfl
 |_=>rfl
def mN (x y:R)(μ:ac):Option (R×ac):=(oN x μ).bind fun xs=>(oN y μ).bind fun ys=>if xs.length+ys.length<=sizeLine then some (.p μ.length,μ++[.lst (xs++ys)]) else none
theorem Je {K:zac}:oW K mN (FR K):=by
 intro m H μ x y d μ' v u Q s rx ry e k;unfold mN at e;obtain ⟨xs,e1,e⟩:=zaa.mp e;obtain ⟨ys,e2,e⟩:=zaa.mp e;split at e
 ·rename_i hz
  cases e;obtain ⟨b,vs,rfl,ea,r1⟩:=ql s e1 rx;obtain ⟨c,ws,rfl,f,r2⟩:=ql s e2 ry;refine ⟨b,c,vs,ws,rfl,rfl,ea,f,by rw [←r1.length,←r2.length];exact hz,fun p hp=>?_⟩;obtain ⟨x1,x2,x3⟩:=et s (r1.append r2) hp;exact k _ _ _ x1 x2 x3
 ·cases e
end HW
namespace PySem
section
variable  {prog:Program}{w:World}{K:Type}[DecidableEq K]{knd:HeapKind prog w K}{A:Around}{E:Tb}{s:Shared}
theorem oP {d a:Addr}{xs:List (K×Addr×Value)}{k:K}{dflt:Value}{Q:Tb}(hu:knd.room A)(hkey:knd.is s.heap k a)(hm:s.heap.DictOfH knd d xs)
  (h1:∀v,(atKey xs k).map (·.2)=some v->Q v {s with toks:=s.toks+knd.draws k})
  (h2:atKey xs k=none->∀h',h'.DictOfH knd d (storedH xs k a dflt)->Heap.SameBut d s.heap h'->Q dflt {s with heap:=h',toks:=s.toks+knd.draws k})
  (hsz:xs.length<=sizeLine) :
  wpAny (model prog w) A (dictSetDefault d (.ref a) dflt) Q E s:=by
 obtain ⟨o,es,ep,ho,hc,hd,he,his,hn⟩:=hm;unfold dictSetDefault
 try with_reducible refine zaF ?_
 refine zab (knd.pyHash hu hkey ?_);refine zab (wpAny_dictFind_heap (s:={s with toks:=s.toks+knd.draws k}) hu hkey ho hd he his hn ?_ ?_)
 ·intro hno
  have hnot:k∉xs.map (·.1):=not_mem_keys_of_get hno
  refine zab (zca (zab (wpAny_updateDictKeys (hz:=by have e:=size_of_entries he;omega) (s:={s with toks:=s.toks+knd.draws k}) ho hd (zad (h2 (atKey_none_of_get hno) _ ⟨_,_,ep+1,zaI _ ho (Obj.isFreed_of_dict (Obj.data_mapDictKeys hd _)),
   hc.mapDictKeys _,Obj.data_mapDictKeys hd _,?_,?_,?_⟩ (Heap.SameBut.update ..))))))
  ·rw [storedH_new (atKey_none_of_get hno)]
   simp [he,entryOfKey]
  ·rw [storedH_new (atKey_none_of_get hno)]
   intro x hx;rcases zaW.mp hx with hx|hx
   ·exact knd.keeps (his x hx) ho hd (Heap.SameBut.update ..)
   ·simp only [zaE] at hx
    subst hx;exact knd.keeps hkey ho hd (Heap.SameBut.update ..)
  ·rw [storedH_new (atKey_none_of_get hno)]
   rw [zaZ,zbE];refine ⟨hn,by simp,?_⟩;intro x hx y hy;simp only [zaf,zaY,zaE] at hy;subst hy;exact fun e=>hnot (e ▸ hx)
 ·intro j p hj
  refine zab (zcx (s:={s with toks:=s.toks+knd.draws k}) ho hd ?_);rw [entry_at he j,hj];exact zab (zca (zad (h1 _ (by rw [atKey_of_get hn hj];rfl))))
theorem jK (knd:HeapKind prog w K){k:K}{a:Addr}(d:Addr)(hd:(d == sysModules)=false)(dflt:Value) :
  MeetsIn prog w (Builtin.«dict.setdefault» ⟨[.ref d,.ref a,dflt],[]⟩) (fun A R s=>knd.room A.in1/\knd.is s.heap k a/\∃xs,s.heap.DictOfH knd d xs/\xs.length<=sizeLine /\
   (∀v,(atKey xs k).map (·.2)=some v->R (.ok (.ret v)) {s with toks:=s.toks+knd.draws k}) /\
   (atKey xs k=none->∀h',h'.DictOfH knd d (storedH xs k a dflt)->Heap.SameBut d s.heap h'->R (.ok (.ret dflt)) {s with heap:=h',toks:=s.toks+knd.draws k})) :=
 .of_wp fun A R s hh=>by
  obtain ⟨hu,hkey,xs,hm,hz,h1,h2⟩:=hh;unfold Builtin.«dict.setdefault»;refine zab ?_;unfold Builtin.Dict.keyAndDefault;refine zab (wpAny_notOrdered_dict hm.typeIs ?_)
  show wpAny _ _ (pure (d,Value.ref a,some dflt)) _ _ s
  refine zad ?_
  show wpAny _ _ (if (d == sysModules)=true then _ else (dictSetDefault d (.ref a) dflt >>= _)) _ _ s
  rw [if_neg (by rw [hd];exact zbd)];exact zab (oP (hsz:=hz) hu hkey hm (fun v hv=>zad ⟨v,rfl,h1 v hv⟩) fun hn h' hm' hs'=>zad ⟨dflt,rfl,h2 hn h' hm' hs'⟩)
end
end PySem
namespace HW
open PySem PySem.Spec PyProof.Rows L2
def Fx (td ty tx:TE):TE:=fun σ H Q=>td σ H fun x H1=>∃a,x=.ref a/\NP H1 a/\ty σ H1 fun y H2=>tx σ H2 fun z H3=>∃kvs k b,H3 a=some (.dT kvs)/\y=.ref b/\H3 b=some (.tup (k.map kV))/\kvs.length < sizeLine /\
 (∀v,cx kvs k=some v->Q v H3)/\(cx kvs k=none->Q z (upd H3 a (.dT (kvs++[(k,z)]))))
theorem DD {X:Cx}(hu:X.A.units+1 < cLine){o e f:Expr}{apos cpos:Pos}{td ty tx:TE}(ho:PE X o td)(he:PE X e ty)(hf:PE X f tx)(m:M2 X o "setdefault" apos e f cpos):PE X (.Call (.Attribute o "setdefault" apos) [e,f] [] cpos) (Fx td ty tx):=by
 intro pins s σ H Q I h;refine zc7 m.base m.few m.line PySem.F.plainAttrs_dict PySem.F.slot_dict_setdefault PySem.F.type_dict_setdefault (cy (ho pins s σ H _ I h) fun u s1 hh=>?_);obtain ⟨x,H1,I1,rx,a,ex,d,q1⟩:=hh;subst ex;obtain rfl:u=Value.ref a:=rx;obtain ⟨t1,t2,_⟩:=vc I1 d;refine ⟨t1,t2,?_⟩;rw [m.trees];refine Calls.callWith_builtin rfl (Calls.evalArgs_plain (Calls.spliced_cons (cy (he pins s1 σ H1 _ I1 q1) fun iv s2 hh=>?_)));obtain ⟨y,H2,I2,ry,q2⟩:=hh;refine Calls.spliced_cons (cy (hf pins s2 σ H2 _ I2 q2) fun fv s3 hh=>Calls.spliced_nil ?_);obtain ⟨z,H3,I3,rz,kvs,k,b,ea,ey,eb,hz,qa,qb⟩:=hh;subst ey;cases (show iv=Value.ref b from ry);obtain ⟨zz,hd,xs,rel,dd⟩:=Go I3.hok ea
 have hxz:xs.length<=sizeLine:=by rw [←Paired.length rel];exact zz
 refine call_meetsIn PySem.F.slot_dict_setdefault dd.typeIs PySem.F.entry_dict_setdefault (PySem.F.args_dict_setdefault_3 _ _ _) (jK (tupleKind (aX X.prog X.w)) (k:=k) a hd fv) ⟨tupleKind_room_in1 hu,lM I3.hok eb,xs,dd,hxz,fun v hv=>?_,fun hn h' dd' hs=>?_⟩
 ·have r:=rel.val k
  rw [hv] at r
  cases q:cx kvs k with
  |none=>rw [q] at r;exact r.elim
  |some v'=>rw [q] at r;exact ⟨v',H3,I3.tok _,r,qa v' q⟩
 ·have r:=rel.val k
  rw [hn] at r
  cases q:cx kvs k with
  |some v'=>rw [q] at r;exact r.elim
  |none =>
   have rp:=rel.put k eb rz;rw [nI _ q] at rp;obtain ⟨q',es,ep,hq,h2,h3,h4,_,h5⟩:=dd';refine ⟨z,_,lC (ob:=.dT (kvs++[(k,z)])) I3 (by rw [ea];exact True.intro) hs ⟨q',hq⟩ ⟨by rw [zaX];exact hz,hd,_,rp.keeps fun c ys ec=>?_,q',es,ep,hq,h2,h3,h4,h5⟩,rz,qb q⟩;rw [aB (F4 ec ea (fun z=>nomatch z))];exact ec
def mz (K:zac)(m:Tf)(H:Hp)(kvs:List (Th×R))(es:List (List aE×V)):Prop:=es.map (·.1)=kvs.map (fun p=>kk p.1)/\bg K m H (kvs.map (·.2)) (es.map (·.2))
def iK (kvs:List (Th×R))(k:Th):Option R:=(kvs.find? fun p=>decide (p.1=k)).map (·.2)
section
variable  {K:zac}{m m':Tf}{H H':Hp}
theorem mz.nil:mz K m H [] []:=⟨rfl,rfl⟩
theorem mz.cons {k:Th}{k':List aE}{d:R}{v:V}{kvs:List (Th×R)}{es:List (List aE×V)}:mz K m H ((k,d)::kvs) ((k',v)::es) ↔ k'=kk k/\ar K m H d v/\mz K m H kvs es:=by
 constructor
 ·rintro ⟨h1,h2⟩
  simp only [zaf,List.cons.injEq] at h1;obtain ⟨w,r,e,h3,h4⟩:=h2;simp only [zaf,List.cons.injEq] at e;obtain ⟨rfl,rfl⟩:=e;exact ⟨h1.1,h3,h1.2,h4⟩
 ·rintro ⟨rfl,h1,h2,h3⟩
  exact ⟨by simp [h2],⟨_,_,rfl,h1,h3⟩⟩
theorem mz.snoc {k:Th}{d:R}{v:V}(rd:ar K m H d v):∀{kvs:List (Th×R)} {es:List (List aE×V)},mz K m H kvs es->mz K m H (kvs++[(k,d)]) (es++[(kk k,v)])
 |[],[],_=>mz.cons.mpr ⟨rfl,rd,.nil⟩
 |[],e::es,h=>by have:=h.1;simp at this
 |q::kvs,[],h=>by have:=h.1;simp at this
 |(a,x)::kvs,(b,y)::es,h=>by
  obtain ⟨rfl,h1,h2⟩:=mz.cons.mp h;exact mz.cons.mpr ⟨rfl,h1,mz.snoc rd h2⟩
theorem mz.val:∀{kvs:List (Th×R)} {es:List (List aE×V)} (k:Th),mz K m H kvs es->(iK kvs k=none/\cx es (kk k)=none)\/∃d v,iK kvs k=some d/\cx es (kk k)=some v/\ar K m H d v
 |[],es,k,h=>by
  have:es=[]:=by simpa using h.1
  subst this;exact .inl ⟨rfl,rfl⟩
 |(a,d)::kvs,[],k,h=>by have:=h.1;simp at this
 |(a,d)::kvs,(b,v)::es,k,h=>by
  obtain ⟨rfl,h1,h2⟩:=mz.cons.mp h
  by_cases e:a=k
  ·refine .inr ⟨d,v,?_,?_,h1⟩
   ·simp [iK,e]
   ·simp [cx,e]
  ·have ih:=mz.val k h2
   have e1:iK ((a,d)::kvs) k=iK kvs k:=by simp [iK,e]
   have e2:cx ((kk a,v)::es) (kk k)=cx es (kk k):=hV fun z=>e (IC z);rw [e1,e2];exact ih
theorem mz.ext (x:cQ m H m' H'){kvs:List (Th×R)}{es:List (List aE×V)}(h:mz K m H kvs es):mz K m' H' kvs es:=⟨h.1,bg.ext x h.2⟩
theorem mz.len {kvs:List (Th×R)}{es:List (List aE×V)}(h:mz K m H kvs es):es.length=kvs.length:=by simpa using congrArg List.length h.1
end
def gP (μ:ac)(n:Nat):Option (List (Th×R)):=match μ[n]? with|some (.dtr kvs)=>some kvs|_=>none
theorem qP {K:zac}{m:Tf}{H:Hp}{μ:ac}{n:Nat}{a:Addr}{kvs:List (Th×R)}(s:aO K m H μ)(ha:m[n]?=some a)(e:gP μ n=some kvs):μ[n]?=some (.dtr kvs)/\∃es,H a=some (.dT es)/\mz K m H kvs es:=by
 unfold gP at e;split at e
 ·rename_i q
  cases e;obtain ⟨es,ea,e1,e2⟩:=s.cell _ _ a q ha;exact ⟨q,es,ea,e1,e2⟩
 ·cases e
def Ed:FE:=fun _ μ=>some (.p μ.length,μ++[.dtr []])
theorem HB {K:zac}{H:Hp}{Q:VK}(h:az K Ed σ H Q):zu σ H Q:=by
 obtain ⟨ρ,μ,m,d,μ',hl,hs,e,k⟩:=h;cases e;intro p hp;have x:cQ m H (m++[p]) (upd H p (.dT [])):=.newH hp;exact k _ _ (m++[p]) x (hs.newH hp ⟨[],bf,rfl,rfl⟩) ⟨p,rfl,by rw [←hs.len];simp⟩
def oa (fo fk fx:FE):FE:=fun ρ μ=>(fo ρ μ).bind fun o=>match o.1 with
 |.p n=>if (gP o.2 n).isSome=true then (fk ρ o.2).bind fun k=>match k.1 with
  |.v (.key ks)=>(fx ρ k.2).bind fun x=>(gP x.2 n).bind fun kvs=>if kvs.length < 1000 then some (match iK kvs ks with|some r=>(r,x.2)|none=>(x.1,x.2.set n (.dtr (kvs++[(ks,x.1)])))) else none
  |_=>none
  else none
 |_=>none
theorem C1 {K:zac}{H:Hp}{Q:VK}{fo fk fx}(h:az K (oa fo fk fx) σ H Q):Fx (az K fo) (az K fk) (az K fx) σ H Q:=by
 obtain ⟨ρ,μ,m,d,μ',hl,hs,e,kc⟩:=h;obtain ⟨⟨o,μ1⟩,e1,e⟩:=zaa.mp e;split at e
 ·rename_i n hn
  simp only at hn;subst hn;split at e
  ·rename_i h0
   obtain ⟨⟨k,μ2⟩,e2,e⟩:=zaa.mp e;split at e
   ·rename_i ks hks
    simp only at hks;subst hks;obtain ⟨⟨x,μ3⟩,e3,e⟩:=zaa.mp e;obtain ⟨kvs,e4,e⟩:=zaa.mp e;split at e
    ·rename_i hlt
     refine ⟨ρ,μ,m,_,μ1,hl,hs,e1,fun vo H1 m1 x1 s1 r1=>?_⟩;obtain ⟨kvs0,e0⟩:=zb2.mp h0;obtain ⟨a,rfl,ha⟩:=r1;obtain ⟨_,es,hR,hK⟩:=qP s1 ha e0;refine ⟨a,rfl,.inr ⟨es,.inl hR⟩,?_⟩;refine ⟨ρ,μ1,m1,_,μ2,hl.ext x1,s1,e2,fun vk H2 m2 x2 s2 r2=>?_⟩;refine ⟨ρ,μ2,m2,x,μ3,hl.ext (x1.trans x2),s2,e3,fun vx H3 m3 x3 s3 r3=>?_⟩;have x13:=(x1.trans x2).trans x3
     have ha3:m3[n]?=some a:=by
      obtain ⟨a',ea',q⟩:=ar.ext (x2.trans x3) (show ar K m1 H1 (.p n) (.ref a) from ⟨a,rfl,ha⟩);cases ea';exact q
     obtain ⟨q3,es',hR',hK'⟩:=qP s3 ha3 e4;have r2':=r2.ext x3;simp only [ar,am] at r2';obtain ⟨b,rfl,hb⟩:=r2';refine ⟨es',kk ks,b,hR',rfl,by rw [ID];exact hb,?_,fun v hv=>?_,fun hv=>?_⟩
     ·rw [hK'.len];exact zaB hlt (by rw [zbh];omega)
     ·rcases mz.val ks hK' with ⟨n1,n2⟩|⟨dd,vv,n1,n2,n3⟩
      ·rw [n2] at hv;cases hv
      ·rw [n2] at hv;cases hv
       simp only [n1] at e;cases e;exact kc _ H3 m3 x13 s3 n3
     ·rcases mz.val ks hK' with ⟨n1,n2⟩|⟨dd,vv,n1,n2,n3⟩
      ·simp only [n1] at e
       cases e;have y:cQ m3 H3 m3 (upd H3 a (.dT (es'++[(kk ks,vx)]))):=.put (zaH ha3) hR' (by simp) (by simp);have kr:=mz.snoc (k:=ks) (r3.ext y) (hK'.ext y);exact kc _ _ m3 (x13.trans y) (s3.put ha3 hR' (by simp) (by simp) ⟨_,bf,kr.1,kr.2⟩) (r3.ext y)
      ·rw [n2] at hv;cases hv
    ·cases e
   ·cases e
  ·cases e
 ·cases e
def BD (fo fk:FE):FE:=fun ρ μ=>(fo ρ μ).bind fun o=>(fk ρ o.2).bind fun k=>match o.1,k.1 with
 |.p n,.v (.key ks)=>(gP k.2 n).bind fun kvs=>(iK kvs ks).bind fun d=>some (d,k.2)
 |_,_=>none
theorem Hd {K:zac}{H:Hp}{Q:VK}{fo fk}(h:az K (BD fo fk) σ H Q):zx (az K fo) (az K fk) σ H Q:=by
 obtain ⟨ρ,μ,m,d,μ',hl,hs,e,kk'⟩:=h;obtain ⟨⟨o,μ1⟩,e1,e⟩:=zaa.mp e;obtain ⟨⟨k,μ2⟩,e2,e⟩:=zaa.mp e;dsimp only at e;split at e
 ·rename_i n ks e0
  obtain ⟨kvs,e3,e⟩:=zaa.mp e;obtain ⟨dd,e4,e⟩:=zaa.mp e;cases e;refine ⟨ρ,μ,m,_,μ1,hl,hs,e1,fun vo H1 m1 x1 s1 r1=>?_⟩;refine ⟨ρ,μ1,m1,_,_,hl.ext x1,s1,e2,fun vk H2 m2 x2 s2 r2=>?_⟩;obtain ⟨a,rfl,ha⟩:=r1.ext x2;simp only [ar,am] at r2;obtain ⟨b,rfl,hb⟩:=r2;obtain ⟨_,es,ea,kd⟩:=qP s2 ha e3;rcases mz.val ks kd with ⟨n1,n2⟩|⟨d',v',n1,n2,n3⟩
  ·rw [n1] at e4;cases e4
  ·rw [n1] at e4;cases e4
   exact ⟨a,v',rfl,.inr ⟨es,kk ks,b,.inl ea,rfl,by rw [ID];exact hb,n2.symm⟩,kk' _ H2 m2 (x1.trans x2) s2 n3⟩
 ·cases e
def pd:List R->ac->Option (R×ac)
 |[.p n],μ=>(gP μ n).bind fun kvs=>if kvs.length < 64/\(kvs.length < 2\/∀p∈kvs,p.1≠[]) then some (.p μ.length,μ++[.lst ((bD (kvs.map (·.1))).map D.key)]) else none
 |_,_=>none
theorem D5 {K:zac}:Cy K pd sn:=by
 intro m H μ xs d μ' vs Q s r e k;unfold pd at e;split at e
 ·rename_i n
  obtain ⟨kvs,e1,e⟩:=zaa.mp e;split at e
  ·rename_i hc
   cases e;obtain ⟨v,rfl,r1⟩:=oO r;obtain ⟨a,rfl,ha⟩:=r1;obtain ⟨_,es,ea,kd⟩:=qP s ha e1;refine ⟨a,es,kvs.map (·.1),rfl,ea,by rw [kd.1,za2];rfl,by simpa using hc.1,fun h2 x hx=>?_,fun as pa l hl=>?_⟩
   ·rw [zal] at h2
    obtain ⟨p,hp,rfl⟩:=zar.mp hx;rcases hc.2 with h|h
    ·omega
    ·exact h p hp
   ·obtain ⟨x1,x2,x3⟩:=et s (pa.rels (K:=K)) hl
    exact k _ _ _ x1 x2 x3
  ·cases e
 ·cases e
def Ec:FE:=fun _ μ=>some (.p μ.length,μ++[.dr []])
theorem Hz {K:zac}{H:Hp}{Q:VK}(h:az K Ec σ H Q):uF σ H Q:=by
 obtain ⟨ρ,μ,m,d,μ',hl,hs,e,k⟩:=h;cases e;intro p hp;have x:cQ m H (m++[p]) (upd H p (.dK [])):=.newH hp;exact k _ _ (m++[p]) x (hs.newH hp ⟨[],bf,rfl,rfl⟩) ⟨p,rfl,by rw [←hs.len];simp⟩
def og (fk fv:FE):FE:=fun ρ μ=>(fk ρ (μ++[.dr []])).bind fun a=>(fv ρ a.2).bind fun b=>(dW a.1).bind fun k =>
 match b.2[μ.length]? with|some (.dr [])=>some (.p μ.length,b.2.set μ.length (.dr [(k,b.1)]))|_=>none
theorem zZ {K:zac}{fk fv:FE}{H:Hp}{Q:VK}(h:az K (og fk fv) σ H Q):FF [(az K fk,az K fv)] σ H Q:=by
 obtain ⟨ρ,μ,m,d,μ',hl,hs,e,k⟩:=h;obtain ⟨⟨a,μ1⟩,e1,e⟩:=zaa.mp e;obtain ⟨⟨b,μ2⟩,e2,e⟩:=zaa.mp e;obtain ⟨key,e3,e⟩:=zaa.mp e;split at e
 ·rename_i q
  cases e;intro p hp;have x0:cQ m H (m++[p]) (upd H p (.dK [])):=.newH hp;have s0:aO K (m++[p]) (upd H p (.dK [])) (μ++[.dr []]):=hs.newH hp ⟨[],bf,rfl,rfl⟩;refine sk (K:=K) [(fk,fv)] (rs:=[(a,b)]) (μ':=μ2) (hl.ext x0) s0 (by simp only [vp,e1,e2,zaw]) fun ps H2 m2 x2 s2 rp=>?_
  have hm2:m2[μ.length]?=some p:=by
   obtain ⟨ex,rfl,_⟩:=x2.ext;rw [←hs.len,zbj];simp
  obtain ⟨es,ea,q1,q2⟩:=s2.cell _ _ p q hm2
  have hes:es=[]:=by simpa using q1
  subst hes;obtain ⟨vx,vy,r,rfl,r1,r2,r3⟩:=rp;have r3:r=[]:=r3;subst r3;refine ⟨ea,[(key,vy)],by rw [ll r1 e3];rfl,by simp,?_⟩;have x3:cQ m2 H2 m2 (upd H2 p (.dK [(key,vy)])):=.put (zaH hm2) ea (by simp) (by simp);exact k _ _ m2 (x0.trans (x2.trans x3)) (s2.put hm2 ea (by simp) (by simp) ⟨_,bf,rfl,⟨_,_,rfl,r2.ext x3,rfl⟩⟩) ⟨p,rfl,hm2⟩
 ·cases e
mutual
def gD:D->D
 |.tup xs=>.tup (unkDs xs)
 |.fl xs=>.fl (unkDs xs)
 |.key ks=>.tup (ks.map D.int)
 |.fd ks ds=>.fd ks ds
 |.non=>.non
 |.bl b=>.bl b
 |.int i=>.int i
 |.str x=>.str x
def unkDs:List D->List D
 |[]=>[]
 |x::xs=>gD x::unkDs xs
end
theorem oZ:∀xs:List D,unkDs xs=xs.map gD
 |[]=>by simp only [unkDs,zaY]
 |x::xs=>by simp only [unkDs,zaf,oZ xs]
section
variable  {K:zac}{H:Hp}
mutual
theorem am.unk:∀(d:D) (v:V),am K H d v->am K H (gD d) v
 |.non,_,h=>by simpa only [gD] using h
 |.bl _,_,h=>by simpa only [gD] using h
 |.int _,_,h=>by simpa only [gD] using h
 |.str _,_,h=>by simpa only [gD] using h
 |.fd _ _,_,h=>by simpa only [gD] using h
 |.tup xs,v,h=>by
  simp only [gD,am] at h ⊢;obtain ⟨a,vs,e,s,r⟩:=h;exact ⟨a,vs,e,s,RelDs.unk xs vs r⟩
 |.fl xs,v,h=>by
  simp only [gD,am] at h ⊢;obtain ⟨a,vs,e,s,r⟩:=h;exact ⟨a,vs,e,s,RelDs.unk xs vs r⟩
 |.key ks,v,h=>by
  simp only [gD,am] at h ⊢;obtain ⟨a,e,q⟩:=h;exact ⟨a,_,e,.inl (.inl q),pq ks⟩
theorem RelDs.unk:∀(ds:List D) (vs:List V),RelDs K H ds vs->RelDs K H (unkDs ds) vs
 |[],_,h=>by simpa only [unkDs] using h
 |d::ds,vs,h=>by
  simp only [unkDs,RelDs] at h ⊢;obtain ⟨v,r,e,h1,h2⟩:=h;exact ⟨v,r,e,am.unk d v h1,RelDs.unk ds r h2⟩
end
end
def uk {α:Type}(f:List D->α):List D->α:=fun ds=>f (unkDs ds)
theorem o0 (ds:List D):(unkDs ds).length=ds.length:=by rw [oZ,zal]
theorem Ky {K:zac}{n:Nat}{f:MF}{vs:List V}{H:Hp}{Q:VK}{E:XK}(h:yA K n (uk f) vs H Q E):yA K n f vs H Q E:=by
 obtain ⟨ds,d,hl,r,e,k⟩:=h;exact ⟨unkDs ds,d,(o0 ds).trans hl,RelDs.unk ds vs r,e,k⟩
theorem GW {K:zac}{n:Nat}{f:List D->Option aw}{vs:List V}{H:Hp}{Q:VK}{E:XK}(h:xE K n (cX K (uk f)) vs H Q E):xE K n (cX K f) vs H Q E:=by
 obtain ⟨ds,P,hl,r,e,k⟩:=h;exact ⟨unkDs ds,P,(o0 ds).trans hl,RelDs.unk ds vs r,e,k⟩
def uo:R->R
 |.v d=>.v (gD d)
 |x=>x
def GI:aw->aw
 |.lst xs=>.lst (unkDs xs)
 |.fz xs=>.fz (unkDs xs)
 |c=>c
def rK (μ:ac):ac:=μ.map GI
theorem gB.unk {K:zac}{m:Tf}{H:Hp}{c:aw}{a:Addr}(h:gB K m H c a):gB K m H (GI c) a:=by
 cases c with
 |lst xs=>obtain ⟨vs,e,r⟩:=h;exact ⟨vs,e,RelDs.unk xs vs r⟩
 |fz xs=>obtain ⟨o,vs,e,r⟩:=h;exact ⟨o,vs,e,RelDs.unk xs vs r⟩
 |_=>exact h
theorem aO.unk {K:zac}{m:Tf}{H:Hp}{μ:ac}(s:aO K m H μ):aO K m H (rK μ) :=
 ⟨s.nd,by rw [s.len,rK,zal],fun i c a e1 e2=>by
  rw [rK,zaS] at e1;obtain ⟨c',q1,q2⟩:=zaM.mp e1;subst q2
  exact (s.cell i c' a q1 e2).unk⟩
theorem ar.unk {K:zac}{m:Tf}{H:Hp}{x:R}{v:V}(h:ar K m H x v):ar K m H (uo x) v:=by
 cases x with
 |v d=>exact am.unk d v h
 |_=>exact h
def lG (neg:Bool):R->R->ac->Option (R×ac):=fun x y μ=>(jh neg (uo x) (uo y) (rK μ)).bind fun r=>some (r.1,μ)
theorem Gd {K:zac}{neg:Bool}:oW K (lG neg) (Dg K neg):=by
 intro m H μ x y d μ' v u Q s rx ry e k;obtain ⟨⟨r,μ1⟩,e1,e⟩:=zaa.mp e;cases e;have e0:=e1;unfold jh at e1;obtain ⟨a,q1,e1⟩:=zaa.mp e1;obtain ⟨b,q2,e1⟩:=zaa.mp e1;split at e1
 ·cases e1
  exact ⟨m,rK μ,uo x,uo y,_,s.unk,rx.unk,ry.unk,e0,k _ H m .refl s (by simp only [ar,am])⟩
 ·cases e1
def Lw (neg:Bool):R->R->ac->Option (R×ac)
 |.v (.int i),.v (.fd ks ds),μ=>some (.v (.bl (if neg then !(ks.any fun k=>decide (k=.inl i)) else ks.any fun k=>decide (k=.inl i))),μ)
 |x,y,μ=>Om neg x y μ
theorem LK {K:zac}{neg:Bool}:oW K (Lw neg) (fun x y H Q=>MI K neg x y H Q\/qt neg x y H Q):=by
 intro m H μ x y d μ' v u Q s rx ry e k;unfold Lw at e;split at e
 ·rename_i i ks ds
  cases e;simp only [ar,am] at rx ry;subst rx;obtain ⟨a,o,es,rfl,ea,e1,e2⟩:=ry;refine .inr ⟨a,es,.inl i,rfl,rfl,.inr ⟨o,ea⟩,k _ H m .refl s ?_⟩
  have hv:(cx es (.inl i)).isSome=ks.any fun k=>decide (k=.inl i):=by
   rw [jq,←e1,List.any_map];rfl
  rw [hv];simp only [ar,am]
 ·exact LJ m H μ _ _ d μ' v u Q s rx ry e k
end HW
namespace L2
open PySem PySem.Spec PyProof.Rows
def NN (a:Addr)(o:Obj)(es:List (aE×V)):It :=
 ⟨fun i H=>H a=some (.frz o (.dK es))/\i < es.length,fun i H x H'=>H'=H/\∃kv,es[i]?=some kv/\x=kV kv.1,fun i H=>H a=some (.frz o (.dK es))/\es.length<=i⟩
def Jr (o:Obj):Nat:=match o.data with|.dict _ ep=>ep|_=>0
theorem qI {P:Program}{w:World}{H:Hp}{h:Heap}{a:Addr}{o:Obj}{es:List (aE×V)}(ok:io P w H h)(e:H a=some (.frz o (.dK es))):(a == sysModules)=false/\∃vs,KV es vs/\h.DictAt (aX P w) a vs (Jr o):=by
 obtain ⟨q1,_,q3,vs,q4,o',es',ep,r1,r2,r3,r4⟩:=(show bE P w H h a (.frz o (.dK es)) from ok a _ e);have z:=q1.symm.trans r1;cases z;refine ⟨q3,vs,q4,o,es',r1,r2,?_,r4⟩;rw [r3];unfold Jr;rw [r3]
theorem zU {P:Program}{w:World}{k:aE}{u:Value}(h:(aX P w).is k u=true):aY (kV k) u:=by
 rcases bj (show i9 k u=true from h) with ⟨i,t,rfl,rfl⟩|⟨x,t,rfl,rfl⟩|⟨rfl,rfl⟩
 ·exact ⟨t,rfl⟩
 ·exact ⟨t,rfl⟩
 ·rfl
theorem KV.at {es:List (aE×V)}{vs:List (aE×Value)}(h:KV es vs){i:Nat}{k:aE}{v:V}(e:es[i]?=some (k,v)):∃u,vs[i]?=some (k,u):=by
 induction h generalizing i with
 |nil=>simp at e
 |cons r t ih =>
  cases i with
  |zero =>
   simp only [zb9,Option.some.injEq] at e ⊢;subst e
   rename_i q _ _
   exact ⟨q.2,Prod.ext r.1.symm rfl⟩
  |succ i=>simpa using ih (by simpa using e)
theorem xB {P:Program}{w:World}{K:zac}{tg:Expr}(a it:Addr)(o:Obj)(es:List (aE×V)):vV P w K tg (NN a o es) [it] it (fun i h=>h.IsKeyIter it a i es.length (Jr o)) where
 mem:=by simp
 obj:=fun i h st b hb=>by
  have e:b=it:=by simpa using hb
  subst e;obtain ⟨o,e,c,d⟩:=st;exact ⟨o,e,fun v z=>by rw [d] at z;cases z⟩
 keep:=fun i h h' st k=>st.at fun o e=>k it (by simp) o e
 item:=by
  intro X hP hw hK hc i pins s σ H E I hf st hg;subst hP hw hK;obtain ⟨hq,hi⟩:=hg;obtain ⟨hd,vs,kv,da⟩:=qI I.hok hq;have hx:es[i]?=some es[i]:=zas hi;obtain ⟨u,hu⟩:=kv.at (k:=es[i].1) (v:=es[i].2) hx;obtain ⟨f0,f1,f2,f3,f4,f5⟩:=hf it (by simp);have hlen:vs.length=es.length:=kv.length.symm;rw [←hlen] at st;refine wpAny_pyNext_dict_item st da hu fun key h' hkey st' sb=>?_;rw [hlen] at st';have I1:aD X pins σ H {s with heap:=h'}:=I.turned (t':=s.toks) (fun b o hb e=>(sb.2 b hb).trans e) f0 f1 f3 f4 f5;obtain ⟨oi,e,c,d⟩:=id st';exact ⟨key,rfl,wW (s:={s with heap:=h'}) e c d (by decide) ⟨kV es[i].1,H,I1,zU hkey,⟨rfl,_,hx,rfl⟩,st',fun b hb=>(hf b hb).1⟩⟩
 done:=by
  intro X hP hw hK hc i pins s σ H E I hf st hg;subst hP hw hK;obtain ⟨hq,hi⟩:=hg;obtain ⟨hd,vs,kv,da⟩:=qI I.hok hq;obtain ⟨f0,f1,f2,f3,f4,f5⟩:=hf it (by simp);have hlen:vs.length=es.length:=kv.length.symm;rw [←hlen] at st;exact wpAny_pyNext_dict_end (I.ok.hd hc) st da (by simp;omega) fun h' eb=>⟨rfl,I.turned (t':=s.toks) (fun b o hb e=>eb b o hb e) f0 f1 f3 f4 f5⟩
 self:=fun _ _ _ _ _ st h=>wpAny_pyIter_keyiter st h
def F9 (tl:TE):TI:=fun σ H R=>tl σ H fun x H1=>∃a o es,x=.ref a/\H1 a=some (.frz o (.dK es))/\R (NN a o es) H1
theorem Dz {tg l:Expr}{tl:TE}(hl:PE X l tl):PI X tg l (F9 tl):=by
 intro pins s σ H R I h;refine cy (hl pins s σ H _ I h) fun v s1 hh=>?_;obtain ⟨x,H1,I1,r1,q1⟩:=hh;obtain ⟨a,o,es,e,hq,q⟩:=q1;subst e;cases r1;obtain ⟨hd,vs,kv,da⟩:=qI I1.hok hq;refine wpAny_pyIter_dict hd da ?_;refine ⟨s1.heap.objs.size,[s1.heap.objs.size],_,_,H1,rfl,I1.kept (t':=s1.toks) fun b o e=>zae _ e,xB a _ o es,⟨_,zaq _ rfl,rfl,by rw [kv.length];rfl⟩,fun b hb=>?_,q⟩
 have e:b=s1.heap.objs.size:=by simpa using hb
 subst e;exact I1.fpOk (zao _) (I1.hok.fresh (zao _))
end L2
namespace HW
open PySem PySem.Spec PyProof.Rows L2
def kD:aE->D
 |.inl i=>.int i
 |.inr (some x)=>.str x
 |.inr none=>.non
theorem II {K:zac}{H:Hp}(k:aE):am K H (kD k) (kV k):=by
 rcases k with i|(_|x) <;> simp only [kD,kV,am]
theorem IR {K:zac}{a:Addr}{o:Obj}{es:List (aE×V)}:Cl K (NN a o es) (es.map fun p=>kD p.1) (fun H=>H a=some (.frz o (.dK es))) where
 st:=fun H H' t p=>t.frz _ _ _ p
 stop:=fun i H p hi=>⟨p,by simpa using hi⟩
 go:=fun i d H e p=>⟨p,by
  have:=(zau.mp e).1
  simpa using this⟩
 yld:=fun i d H x H' e p ⟨e1,kv,e2,e3⟩=>by
  rw [zaS,e2] at e;cases e;subst e3;exact ⟨e1,II _⟩
def Jg:R->ac->Option (List aE×ac)
 |.v (.fd ks _),μ=>some (ks,μ)
 |.p n,μ=>match μ[n]? with
  |some (.dct kvs)=>some (kvs.map (·.1),μ.set n (.fzd kvs))|some (.fzd kvs)=>some (kvs.map (·.1),μ)
  |some (.dr kvs)=>some (kvs.map (·.1),μ.set n (.fzr kvs))|some (.fzr kvs)=>some (kvs.map (·.1),μ)
  |_=>none
 |_,_=>none
def kj (f:FE):FI:=fun ρ μ=>(f ρ μ).bind fun a=>(Jg a.1 a.2).bind fun b=>some (b.1.map kD,b.2)
theorem Ht {K:zac}{H:Hp}{R:It->Hp->Prop}{f}(h:uh K (kj f) σ H R):F9 (MH (az K f)) σ H R:=by
 obtain ⟨ρ,μ,m,xs,μ',hl,hs,e,k⟩:=h;obtain ⟨⟨x,μ1⟩,e1,e⟩:=zaa.mp e;obtain ⟨⟨ks,μ2⟩,e2,e⟩:=zaa.mp e;cases e;refine ⟨ρ,μ,m,x,μ1,hl,hs,e1,fun v H1 m1 x1 s1 r1=>?_⟩;dsimp only at e2
 have fin:∀(a:Addr) (o:Obj) (es:List (aE×V)) (H2:Hp),H2 a=some (.frz o (.dK es))->es.map (·.1)=ks->cQ m1 H1 m1 H2->aO K m1 H2 μ2->∃a' o' es',(V.ref a:V)=.ref a'/\H2 a'=some (.frz o' (.dK es'))/\R (NN a' o' es') H2:=fun a o es H2 q1 q2 q3 q4 =>
  ⟨a,o,es,rfl,q1,k _ _ H2 m1 (x1.trans q3) q4 (by
   have:=IR (K:=K) (a:=a) (o:=o) (es:=es)
   rw [←q2,za2];exact this) q1⟩
 cases x with
 |s _ _=>cases e2
 |x _=>cases e2
 |f _ _=>cases e2
 |v d =>
  cases d with
  |fd ks' ds =>
   cases e2;simp only [ar,am] at r1;obtain ⟨a,o,es,rfl,q1,q2,q3⟩:=r1;exact .inl (fin a o es H1 q1 q2 .refl s1)
  |_=>cases e2
 |p n =>
  obtain ⟨a,rfl,ha⟩:=r1;simp only [Jg] at e2;split at e2
  ·rename_i kvs q
   cases e2;obtain ⟨es,q1,q2,q3⟩:=s1.cell _ _ a q ha;refine .inr ⟨a,_,q1,trivial,fun o=>?_⟩;have x:cQ m1 H1 m1 (upd H1 a (.frz o (.dK es))):=.put (zaH ha) q1 (by simp) (by simp);exact fin a o es _ bf q2 x (s1.put ha q1 (by simp) (by simp) ⟨o,es,bf,q2,RelDs.tf x.tf _ _ q3⟩)
  ·rename_i kvs q
   cases e2;obtain ⟨o,es,q1,q2,q3⟩:=s1.cell _ _ a q ha;exact .inl (fin a o es H1 q1 q2 .refl s1)
  ·rename_i kvs q
   cases e2;obtain ⟨es,q1,q2,q3⟩:=s1.cell _ _ a q ha;refine .inr ⟨a,_,q1,trivial,fun o=>?_⟩;have x:cQ m1 H1 m1 (upd H1 a (.frz o (.dK es))):=.put (zaH ha) q1 (by simp) (by simp);exact fin a o es _ bf q2 x (s1.put ha q1 (by simp) (by simp) ⟨o,es,bf,q2,bg.ext x q3⟩)
  ·rename_i kvs q
   cases e2;obtain ⟨o,es,q1,q2,q3⟩:=s1.cell _ _ a q ha;exact .inl (fin a o es H1 q1 q2 .refl s1)
  ·cases e2
end HW
namespace HW
open PySem
abbrev gA (h:Heap)(z TI TO T:Addr)(fl:Bool):Prop :=
 h.get? z=some {cls:=.type "zip",dict:=none,data:=.fields #[rawInt T,.bool fl,.bool false,.ref TI,.ref TO],slots:=#[]}
section
variable  {prog:Program}{w:World}{A:Around}{E:Tb}{s:Shared}
theorem l6 {M:Model}{a:Addr}{Q:Option Obj->Shared->Prop}(h:Q (s.heap.get? a) s):wpAny M A (loadIfAlive a) Q E s :=
 fun Γ p _=>by
  show Sem.wp M Γ (.loadIfAlive a .pure) _ _ p s
  rw [Sem.wp_loadIfAlive];exact (zad (M:=M) (A:=A) (E:=E) h) Γ p ‹_›
theorem oH {z TI TO T i1 i2 l1 l2:Addr}{k1 k2:Nat}{xs ys:Ti}{x y:Value}{fl:Bool}{oT:Obj}{Q:Tb}(D:ZipApart z TI TO i1 i2 l1 l2)
  (hz:gA s.heap z TI TO T fl) (hT:s.heap.get? T=some oT) (hTI:IsPair s.heap TI (.ref i1) (.ref i2))
  (h1:s.heap.IsListIter i1 l1 k1) (h2:s.heap.IsListIter i2 l2 k2) (hl1:s.heap.IsList l1 xs) (hl2:s.heap.IsList l2 ys) (hx:xs[k1]?=some x) (hy:ys[k2]?=some y)
  (hQ:∀h',gA h' z TI TO T true->h'.IsListIter i1 l1 (k1+1)->h'.IsListIter i2 l2 (k2+1)->IsPair h' s.heap.objs.size x y->h'.objs.size=s.heap.objs.size+1 ->
   (∀c o,c≠z->c≠i1->c≠i2->s.heap.get? c=some o->h'.get? c=some o)->Q (.ref s.heap.objs.size) {s with heap:=h'}) :
  wpAny (model prog w) A (Builtin.«zip.__next__» ⟨[.ref z],[]⟩) (fun fin s'=>∃v,fin=.done (.ret v)/\Q v s') E s:=by
 show wpAny _ _ (field (.ref z) 2 >>= _) _ _ _
 refine zab (zbJ hz rfl (x:=.bool false) rfl ?_)
 show wpAny _ _ (field (.ref z) 3 >>= _) _ _ _
 refine zab (zbJ hz rfl (x:=.ref TI) rfl ?_);refine zab (zbT hTI rfl ?_)
 show wpAny _ _ (Builtin.SmallTypes.ownedTupleIsFree (.ref z) >>= _) _ _ _
 refine zab ?_;unfold Builtin.SmallTypes.ownedTupleIsFree;refine zab (zbJ hz rfl (x:=rawInt T) rfl ?_)
 show wpAny _ _ (loadIfAlive (Int.toNat (T:Int)) >>= _) _ _ _
 refine zab (l6 ?_);rw [zbL,hT];simp only [Option.isNone_some,zan,if_false];refine zab (zbJ hz rfl (x:=.bool fl) rfl ?_)
 cases fl with
 |false =>
  show wpAny _ _ (setField (.ref z) 1 (.bool true) >>= fun _=>pure false) _ _ _
  refine zab (wpAny_setField_rec hz (by simp) fun h₁ hz1 hs₁=>zad ?_)
  replace hz1:gA h₁ z TI TO T true:=hz1
  simp only [zan,if_false];rw [←zbY];simp only [zcd,zcV];refine zab (zab (zab (zaF ?_)))
  show wpAny _ _ (Builtin.SmallTypes.nextOf (.ref i1) >>= _) _ _ _
  refine zab (zcf (h1.extBut hs₁.extBut D.i1z) (hl1.extBut hs₁.extBut D.l1z) hx fun h₂ h12 hs₂=>zad ?_);refine zad ?_;refine zab (zab (zaF ?_))
  show wpAny _ _ (Builtin.SmallTypes.nextOf (.ref i2) >>= _) _ _ _
  refine zab (zcf ((h2.extBut hs₁.extBut D.i2z).extBut hs₂.extBut D.i12.symm) ((hl2.extBut hs₁.extBut D.l2z).extBut hs₂.extBut D.l2i1) hy fun h₃ h23 hs3=>zad ?_);refine zad (zad ?_);refine zab (wpAny_newTuple ?_ (show 2<=sizeLine by decide))
  have hsz:h₃.objs.size=s.heap.objs.size:=by rw [hs3.1,hs₂.1,hs₁.1]
  have hz3:gA h₃ z TI TO T true:=hs3.extBut _ _ D.i2z.symm (hs₂.extBut _ _ D.i1z.symm hz1);have h13:h₃.IsListIter i1 l1 (k1+1):=h12.extBut hs3.extBut D.i12;have pz:IsPair (h₃.push {cls:=.type "tuple",data:=.seq #[x,y]}) h₃.objs.size x y:=zaq _ rfl;refine zad ⟨_,rfl,?_⟩
  show Q (.ref h₃.objs.size) _
  rw [hsz] at pz ⊢;exact hQ _ (zae _ hz3) (h13.at fun o e=>zae _ e) (h23.at fun o e=>zae _ e) pz (by rw [zbe,hsz]) fun c o c1 c2 c3 e=>zae _ (hs3.extBut _ _ c3 (hs₂.extBut _ _ c2 (hs₁.extBut _ _ c1 e)))
 |true =>
  have hz1:gA s.heap z TI TO T true:=hz;have hs₁:Heap.SameBut z s.heap s.heap:=⟨rfl,fun _ _=>rfl⟩
  show wpAny _ _ (pure false) _ _ _
  refine zad ?_;simp only [zan,if_false];rw [←zbY];simp only [zcd,zcV];refine zab (zab (zab (zaF ?_)))
  show wpAny _ _ (Builtin.SmallTypes.nextOf (.ref i1) >>= _) _ _ _
  refine zab (zcf (h1.extBut hs₁.extBut D.i1z) (hl1.extBut hs₁.extBut D.l1z) hx fun h₂ h12 hs₂=>zad ?_);refine zad ?_;refine zab (zab (zaF ?_))
  show wpAny _ _ (Builtin.SmallTypes.nextOf (.ref i2) >>= _) _ _ _
  refine zab (zcf ((h2.extBut hs₁.extBut D.i2z).extBut hs₂.extBut D.i12.symm) ((hl2.extBut hs₁.extBut D.l2z).extBut hs₂.extBut D.l2i1) hy fun h₃ h23 hs3=>zad ?_);refine zad (zad ?_);refine zab (wpAny_newTuple ?_ (show 2<=sizeLine by decide))
  have hsz:h₃.objs.size=s.heap.objs.size:=by rw [hs3.1,hs₂.1,hs₁.1]
  have hz3:gA h₃ z TI TO T true:=hs3.extBut _ _ D.i2z.symm (hs₂.extBut _ _ D.i1z.symm hz1);have h13:h₃.IsListIter i1 l1 (k1+1):=h12.extBut hs3.extBut D.i12;have pz:IsPair (h₃.push {cls:=.type "tuple",data:=.seq #[x,y]}) h₃.objs.size x y:=zaq _ rfl;refine zad ⟨_,rfl,?_⟩
  show Q (.ref h₃.objs.size) _
  rw [hsz] at pz ⊢;exact hQ _ (zae _ hz3) (h13.at fun o e=>zae _ e) (h23.at fun o e=>zae _ e) pz (by rw [zbe,hsz]) fun c o c1 c2 c3 e=>zae _ (hs3.extBut _ _ c3 (hs₂.extBut _ _ c2 (hs₁.extBut _ _ c1 e)))
theorem p9 {z TI TO T i1 i2 l1 l2:Addr}{k1:Nat}{xs:Ti}{fl:Bool}{oT:Obj}{Q:Fin->Shared->Prop}(hh:A.handled=none)(D:ZipApart z TI TO i1 i2 l1 l2)
  (hz:gA s.heap z TI TO T fl) (hT:s.heap.get? T=some oT) (hTI:IsPair s.heap TI (.ref i1) (.ref i2))
  (h1:s.heap.IsListIter i1 l1 k1) (hl1:s.heap.IsList l1 xs) (hx:xs[k1]?=none)
  (hE:∀h' e,(∀c o,c≠z->c≠i1->s.heap.get? c=some o->h'.get? c=some o)->(∃o,h'.get? e=some o/\o.cls=.type "StopIteration")->E (.ref e) {s with heap:=h'}) :
  wpAny (model prog w) A (Builtin.«zip.__next__» ⟨[.ref z],[]⟩) Q E s:=by
 show wpAny _ _ (field (.ref z) 2 >>= _) _ _ _
 refine zab (zbJ hz rfl (x:=.bool false) rfl ?_)
 show wpAny _ _ (field (.ref z) 3 >>= _) _ _ _
 refine zab (zbJ hz rfl (x:=.ref TI) rfl ?_);refine zab (zbT hTI rfl ?_)
 show wpAny _ _ (Builtin.SmallTypes.ownedTupleIsFree (.ref z) >>= _) _ _ _
 refine zab ?_;unfold Builtin.SmallTypes.ownedTupleIsFree;refine zab (zbJ hz rfl (x:=rawInt T) rfl ?_)
 show wpAny _ _ (loadIfAlive (Int.toNat (T:Int)) >>= _) _ _ _
 refine zab (l6 ?_);rw [zbL,hT];simp only [Option.isNone_some,zan,if_false];refine zab (zbJ hz rfl (x:=.bool fl) rfl ?_)
 cases fl with
 |false =>
  show wpAny _ _ (setField (.ref z) 1 (.bool true) >>= fun _=>pure false) _ _ _
  refine zab (wpAny_setField_rec hz (by simp) fun h₁ hz1 hs₁=>zad ?_);simp only [zan,if_false];rw [←zbY];simp only [zcd,zcV];refine zab (zab (zab (zaF ?_)))
  show wpAny _ _ (Builtin.SmallTypes.nextOf (.ref i1) >>= _) _ _ _
  exact zab (wpAny_nextOf_list_end hh (h1.extBut hs₁.extBut D.i1z) (hl1.extBut hs₁.extBut D.l1z) hx fun h₂ e hs₂ he=>hE h₂ e (fun c o c1 c3 q=>hs₂ _ _ c3 (hs₁.extBut _ _ c1 q)) he)
 |true =>
  have hs₁:Heap.SameBut z s.heap s.heap:=⟨rfl,fun _ _=>rfl⟩
  show wpAny _ _ (pure false) _ _ _
  refine zad ?_;simp only [zan,if_false];rw [←zbY];simp only [zcd,zcV];refine zab (zab (zab (zaF ?_)))
  show wpAny _ _ (Builtin.SmallTypes.nextOf (.ref i1) >>= _) _ _ _
  exact zab (wpAny_nextOf_list_end hh (h1.extBut hs₁.extBut D.i1z) (hl1.extBut hs₁.extBut D.l1z) hx fun h₂ e hs₂ he=>hE h₂ e (fun c o c1 c3 q=>hs₂ _ _ c3 (hs₁.extBut _ _ c1 q)) he)
end
end HW
namespace HW
open PySem PySem.Spec PyProof.Rows L2
theorem ul:typeLookup (.type "zip") "__len__" = pure none:=by rw [zb0,zbx];kernel_rfl
theorem rF:typeLookup (.type "zip") "__length_hint__" = pure none:=by rw [zb0,zbx];kernel_rfl
structure EC (h:Heap)(S z TI TO i1 i2 l1 l2:Addr)(xs ys:Ti)(k:Nat):Prop where
 st:(k=0/\IsZip h z TI TO .none/\IsPair h TO .none .none)\/∃T fl oT,gA h z TI TO T fl/\h.get? T=some oT/\T∉[S,z,TO,i1,i2]
 ti:IsPair h TI (.ref i1) (.ref i2)
 h1:h.IsListIter i1 l1 k
 h2:h.IsListIter i2 l2 k
 l1:h.IsList l1 xs
 l2:h.IsList l2 ys
 to:∃o,h.get? TO=some o
section
variable  {prog:Program}{w:World}{A:Around}{E:Tb}{s:Shared}{S z TI TO i1 i2 l1 l2:Addr}{xs ys:Ti}{k:Nat}
theorem EC.ty {h:Heap}(Z:EC h S z TI TO i1 i2 l1 l2 xs ys k):∃o,h.get? z=some o/\o.cls=.type "zip":=by
 rcases Z.st with ⟨_,h,_⟩|⟨T,fl,oT,h,_⟩
 ·exact ⟨_,h,rfl⟩
 ·exact ⟨_,h,rfl⟩
theorem su {T:Addr}{x y:Value}{fl:Bool}{oT:Obj}{k1 k2:Nat}{Q:Option Value->Shared->Prop}(D:ZipApart z TI TO i1 i2 l1 l2)
  (hz:gA s.heap z TI TO T fl) (hT:s.heap.get? T=some oT) (hTI:IsPair s.heap TI (.ref i1) (.ref i2))
  (h1:s.heap.IsListIter i1 l1 k1) (h2:s.heap.IsListIter i2 l2 k2) (hl1:s.heap.IsList l1 xs) (hl2:s.heap.IsList l2 ys) (hx:xs[k1]?=some x) (hy:ys[k2]?=some y)
  (hQ:∀h',gA h' z TI TO T true->h'.IsListIter i1 l1 (k1+1)->h'.IsListIter i2 l2 (k2+1)->IsPair h' s.heap.objs.size x y->h'.objs.size=s.heap.objs.size+1 ->
   (∀c o,c≠z->c≠i1->c≠i2->s.heap.get? c=some o->h'.get? c=some o)->Q (some (.ref s.heap.objs.size)) {s with heap:=h'}) :
  wpAny (model prog w) A (pyNext (.ref z)) Q E s:=by
 have hTy:s.TypeIs (.ref z) "zip":=⟨_,hz,rfl⟩;unfold pyNext
 exact zab (zbG (za5 (name:=Str.ofString "__next__") hTy F.slot_zip_next
  (zaT F.slot_zip_next hTy F.entry_zip_next
   (oH D hz hT hTI h1 h2 hl1 hl2 hx hy fun h' a1 a2 a3 a4 a5 a6=>zad (hQ h' a1 a2 a3 a4 a5 a6)) (F.args_zip_next_1 _))))
theorem sv {T:Addr}{fl:Bool}{oT:Obj}{k1:Nat}{Q:Option Value->Shared->Prop}(hh:A.handled=none)(D:ZipApart z TI TO i1 i2 l1 l2)
  (hz:gA s.heap z TI TO T fl) (hT:s.heap.get? T=some oT) (hTI:IsPair s.heap TI (.ref i1) (.ref i2))
  (h1:s.heap.IsListIter i1 l1 k1) (hl1:s.heap.IsList l1 xs) (hx:xs[k1]?=none)
  (hQ:∀h',(∀c o,c≠z->c≠i1->s.heap.get? c=some o->h'.get? c=some o)->Q none {s with heap:=h'}):wpAny (model prog w) A (pyNext (.ref z)) Q E s:=by
 have hTy:s.TypeIs (.ref z) "zip":=⟨_,hz,rfl⟩;unfold pyNext
 refine zab (zbG (za5 (name:=Str.ofString "__next__") hTy F.slot_zip_next
  (zaT F.slot_zip_next hTy F.entry_zip_next (p9 hh D hz hT hTI h1 hl1 hx fun h' e hk he=>?_) (F.args_zip_next_1 _))))
 obtain ⟨o,ho,hc⟩:=he;refine zab (zbS (T:="StopIteration") (b:=true) ⟨o,ho,hc⟩ isSubtype_stop ?_);exact zad (hQ _ hk)
theorem yB {x y:Value}{Q:Option Value->Shared->Prop}(D:ZipApart z TI TO i1 i2 l1 l2)(hS:∃o,s.heap.get? S=some o)(Z:EC s.heap S z TI TO i1 i2 l1 l2 xs ys k)(hx:xs[k]?=some x)(hy:ys[k]?=some y)
  (hQ:∀h',EC h' S z TI TO i1 i2 l1 l2 xs ys (k+1)->IsPair h' s.heap.objs.size x y->h'.objs.size=s.heap.objs.size+1->(∀c o,c∉[z,TO,i1,i2]->s.heap.get? c=some o->h'.get? c=some o)->Q (some (.ref s.heap.objs.size)) {s with heap:=h'}) :
  wpAny (model prog w) A (pyNext (.ref z)) Q E s:=by
 have lt:∀{b:Addr} {o:Obj},s.heap.get? b=some o->b≠s.heap.objs.size:=fun e=>zax (zam e);obtain ⟨oS,hS⟩:=hS
 have fresh:∀{oz oto:Obj},s.heap.get? z=some oz->s.heap.get? TO=some oto->s.heap.objs.size∉[S,z,TO,i1,i2]:=fun hz hto z=>by
  obtain ⟨o1,e1,_⟩:=Z.h1;obtain ⟨o2,e2,_⟩:=Z.h2;simp only [zak,zaC,or_false] at z;rcases z with z|z|z|z|z
  ·exact lt hS z.symm
  ·exact lt hz z.symm
  ·exact lt hto z.symm
  ·exact lt e1 z.symm
  ·exact lt e2 z.symm
 rcases Z.st with ⟨rfl,hz,hto⟩|⟨T,fl,oT,hz,hT,hTn⟩
 ·refine wpAny_pyNext_zip_item D hz Z.ti hto Z.h1 Z.h2 Z.l1 Z.l2 hx hy fun h' a1 a2 a3 a4 a5 a6 a7=>?_
  have kp:∀c o,c∉[z,TO,i1,i2]->s.heap.get? c=some o->h'.get? c=some o:=fun c o hc e=>by
   simp only [zak,zaC,or_false,not_or] at hc;exact a7 c o hc.1 hc.2.1 hc.2.2.1 hc.2.2.2 e
  refine hQ h' ⟨.inr ⟨_,false,_,a1,a5,fresh hz hto⟩,a7 _ _ D.TIz D.TITO D.TIi1 D.TIi2 Z.ti,a3,a4,?_,?_,⟨_,a2⟩⟩ a5 a6 kp
  ·exact Z.l1.at fun o e=>a7 _ _ D.l1z D.l1TO D.l1i1 D.l1i2 e
  ·exact Z.l2.at fun o e=>a7 _ _ D.l2z D.l2TO D.l2i1 D.l2i2 e
 ·refine su D hz hT Z.ti Z.h1 Z.h2 Z.l1 Z.l2 hx hy fun h' a1 a3 a4 a5 a6 a7=>?_
  simp only [zak,zaC,or_false,not_or] at hTn
  have kp:∀c o,c∉[z,TO,i1,i2]->s.heap.get? c=some o->h'.get? c=some o:=fun c o hc e=>by
   simp only [zak,zaC,or_false,not_or] at hc;exact a7 c o hc.1 hc.2.2.1 hc.2.2.2 e
  refine hQ h' ⟨.inr ⟨T,true,oT,a1,a7 _ _ hTn.2.1 hTn.2.2.2.1 hTn.2.2.2.2 hT,by simp only [zak,zaC,or_false,not_or];exact hTn⟩,a7 _ _ D.TIz D.TIi1 D.TIi2 Z.ti,a3,a4,?_,?_,Z.to.imp fun o e=>a7 _ _ D.TOz D.TOi1 D.TOi2 e⟩ a5 a6 kp
  ·exact Z.l1.at fun o e=>a7 _ _ D.l1z D.l1i1 D.l1i2 e
  ·exact Z.l2.at fun o e=>a7 _ _ D.l2z D.l2i1 D.l2i2 e
theorem yC {Q:Option Value->Shared->Prop}(hh:A.handled=none)(D:ZipApart z TI TO i1 i2 l1 l2)(Z:EC s.heap S z TI TO i1 i2 l1 l2 xs ys k)(hx:xs[k]?=none)
  (hQ:∀h',(∀c o,c∉[z,TO,i1,i2]->s.heap.get? c=some o->h'.get? c=some o)->Q none {s with heap:=h'}):wpAny (model prog w) A (pyNext (.ref z)) Q E s:=by
 rcases Z.st with ⟨rfl,hz,hto⟩|⟨T,fl,oT,hz,hT,hTn⟩
 ·refine wpAny_pyNext_zip_end hh D hz Z.ti hto Z.h1 Z.h2 Z.l1 Z.l2 (.inl hx) fun h' a7=>hQ h' fun c o hc e=>?_
  simp only [zak,zaC,or_false,not_or] at hc;exact a7 c o hc.1 hc.2.1 hc.2.2.1 hc.2.2.2 e
 ·refine sv hh D hz hT Z.ti Z.h1 Z.l1 hx fun h' a7=>hQ h' fun c o hc e=>?_
  simp only [zak,zaC,or_false,not_or] at hc;exact a7 c o hc.1 hc.2.2.1 e
def vU (h:Heap)(n0:Nat)(no:Tf)(xs ys:Ti)(acc:Ti)(k:Nat):Prop:=acc.size=k/\∃ts:Tf,ts.length=k/\acc=(ts.map Value.ref).toArray/\ts.Nodup/\∀(i:Nat) t,ts[i]?=some t->n0<=t/\t∉no/\∃x y,xs[i]?=some x/\ys[i]?=some y/\IsPair h t x y
theorem vU.keep {h h':Heap}{n0:Nat}{no:Tf}{xs ys acc:Ti}{k:Nat}(Z:vU h n0 no xs ys acc k)(kp:∀c o,c∉no->h.get? c=some o->h'.get? c=some o):vU h' n0 no xs ys acc k:=by
 obtain ⟨h1,ts,h2,h3,h4,h5⟩:=Z;exact ⟨h1,ts,h2,h3,h4,fun i t e=>let ⟨a,b,x,y,p,q,r⟩:=h5 i t e;⟨a,b,x,y,p,q,kp _ _ b r⟩⟩
theorem yE (hh:A.handled=none){R:Result->Shared->Prop}(D:ZipApart z TI TO i1 i2 l1 l2)(hsz:xs.size=ys.size)(hn:xs.size<=sizeLine)(hSn:S∉[z,TI,TO,i1,i2,l1,l2])(n0:Nat)(res:Value) :
  ∀(m i:Nat) (s:Shared) (acc:Ti) (c:Nat),xs.size - i=m->i<=xs.size->n0<=s.heap.objs.size->EC s.heap S z TI TO i1 i2 l1 l2 xs ys i->s.heap.get? S=some {cls:=.type "list",dict:=none,data:=.seq acc c,slots:=#[]}->vU s.heap n0 [S,z,TO,i1,i2] xs ys acc i ->
  (∀h' acc' c',(∀b o,b∉[S,z,TO,i1,i2]->s.heap.get? b=some o->h'.get? b=some o)->h'.get? S=some {cls:=.type "list",dict:=none,data:=.seq acc' c',slots:=#[]}->vU h' n0 [S,z,TO,i1,i2] xs ys acc' xs.size->R (.ok (.ret res)) {s with heap:=h'}) ->
  codeAny (model prog w) A (.builtin "list.extend.loop" ⟨[.ref S,.ref z,res],[]⟩) R s:=by
 have hS4:S∉[z,TO,i1,i2]:=fun q=>hSn (by simp only [zak,zaC,or_false] at q ⊢;rcases q with q|q|q|q <;> simp [q]);have sub:∀c,c∉[S,z,TO,i1,i2]->c∉[z,TO,i1,i2]:=fun c h q=>h (zaj _ q);intro m
 induction m with
 |zero =>
  intro i s acc c hk hi h0 Z hS hacc hR
  have hin:i=xs.size:=by omega
  subst hin;refine za1 F.entry_extend_loop ?_;rw [zaU F.plain_extend_loop _]
  show wpAny _ A.in1 (pyNext (.ref z) >>= _) _ _ s
  refine zab (yC (show A.in1.handled=none from hh) D Z (by simp) fun h' kp=>?_);exact zad (hR h' acc c (fun b o hb e=>kp b o (sub b hb) e) (kp S _ hS4 hS) (hacc.keep fun c o hc e=>kp c o (sub c hc) e))
 |succ m ih =>
  intro i s acc c hk hi h0 Z hS hacc hR
  have hlt:i < xs.size:=by omega
  refine za1 F.entry_extend_loop ?_;rw [zaU F.plain_extend_loop _]
  show wpAny _ A.in1 (pyNext (.ref z) >>= _) _ _ s
  have hx:xs[i]?=some xs[i]:=zap hlt;have hy:ys[i]?=some (ys[i]'(by omega)):=zap (by omega);refine zab (yB D ⟨_,hS⟩ Z hx hy fun h' Z' hp hs' kp=>?_);have hS':=kp S _ hS4 hS
  show wpAny _ A.in1 (updateSeq S (·.push (.ref s.heap.objs.size)) >>= _) _ _ _
  have hTS:s.heap.objs.size≠S:=fun q=>zaG _ (q ▸ zam hS:s.heap.objs.size < s.heap.objs.size);have up:∀b o,b≠S->h'.get? b=some o->(h'.update S (Obj.mapSeq (·.push (.ref s.heap.objs.size)))).get? b=some o:=fun b o hb e=>(zaz _ _ (Ne.symm hb)).trans e;have nS:∀{b:Addr},b∈[z,TI,TO,i1,i2,l1,l2]->b≠S:=fun hb q=>hSn (q ▸ hb)
  have Z2:EC (h'.update S (Obj.mapSeq (·.push (.ref s.heap.objs.size)))) S z TI TO i1 i2 l1 l2 xs ys (i+1):=by
   refine ⟨?_,up _ _ (nS (by simp)) Z'.ti,Z'.h1.at fun o e=>up _ _ (nS (by simp)) e,Z'.h2.at fun o e=>up _ _ (nS (by simp)) e,Z'.l1.at fun o e=>up _ _ (nS (by simp)) e,Z'.l2.at fun o e=>up _ _ (nS (by simp)) e,Z'.to.imp fun o e=>up _ _ (nS (by simp)) e⟩;rcases Z'.st with ⟨q,_⟩|⟨T,fl,oT,q1,q2,q3⟩
   ·omega
   ·exact .inr ⟨T,fl,oT,up _ _ (nS (by simp)) q1,up _ _ (fun q=>q3 (by simp [q])) q2,q3⟩
  have oz:=Z.ty
  have fr:s.heap.objs.size∉[S,z,TO,i1,i2]:=by
   rcases Z'.st with ⟨q,_⟩|⟨T,fl,oT,q1,q2,q3⟩
   ·omega
   ·intro q
    obtain ⟨o1,e1,_⟩:=Z.h1;obtain ⟨o2,e2,_⟩:=Z.h2;obtain ⟨o3,e3,_⟩:=oz;simp only [zak,zaC,or_false] at q;rcases q with q|q|q|q|q
    ·exact hTS q
    ·exact zaG _ (q ▸ zam e3:s.heap.objs.size < s.heap.objs.size)
    ·obtain ⟨o4,e4⟩:=Z.to
     exact zaG _ (q ▸ zam e4:s.heap.objs.size < s.heap.objs.size)
    ·exact zaG _ (q ▸ zam e1:s.heap.objs.size < s.heap.objs.size)
    ·exact zaG _ (q ▸ zam e2:s.heap.objs.size < s.heap.objs.size)
  have A2:vU (h'.update S (Obj.mapSeq (·.push (.ref s.heap.objs.size)))) n0 [S,z,TO,i1,i2] xs ys (acc.push (.ref s.heap.objs.size)) (i+1):=by
   obtain ⟨c1,ts,c2,c3,c4,c5⟩:=hacc;refine ⟨by rw [Array.size_push,c1],ts++[s.heap.objs.size],by simp [c2],by rw [c3];simp,?_,fun j t e=>?_⟩
   ·rw [zbE]
    refine ⟨c4,by simp,fun a ha b hb=>?_⟩;rw [zaE.mp hb];obtain ⟨j,hj,e⟩:=za7 ha;obtain ⟨_,_,x,y,_,_,p⟩:=c5 j a (by rw [←e];exact zas hj);exact zax (zam p)
   ·by_cases hj:j < ts.length
    ·rw [zai hj] at e
     obtain ⟨a,b,x,y,p,q,r⟩:=c5 j t e;exact ⟨a,b,x,y,p,q,up _ _ (fun q=>b (by simp [q])) (kp _ _ (sub _ b) r)⟩
    ·rw [zaO (by omega)] at e
     have hj2:j - ts.length=0:=by
      cases q:j - ts.length with
      |zero=>rfl
      |succ n=>rw [q] at e;simp at e
     have hji:j=i:=by omega
     rw [hj2] at e;simp at e;subst e hji;exact ⟨h0,fr,_,_,hx,hy,up _ _ hTS hp⟩
  refine zab ?_
  refine zbv hS' rfl (zad ⟨zbk F.plain_extend_loop _,ih (i+1) _ (acc.push (.ref s.heap.objs.size)) _ (by omega) hlt ?_ Z2 (zaI _ hS' rfl) A2 fun h'' acc' c' kp'' hS'' hacc'=>?_⟩)
   (by rw [hacc.1];omega) (by show (acc.push (.ref s.heap.objs.size)).size<=sizeLine+1;rw [Array.size_push,hacc.1];omega)
  ·show n0<=(h'.update S (Obj.mapSeq (·.push (.ref s.heap.objs.size)))).objs.size
   have h9:s.heap.objs.size < (h'.update S (Obj.mapSeq (·.push (.ref s.heap.objs.size)))).objs.size:=zam (up _ _ hTS hp);exact zb1 (zcp h0 h9)
  ·exact hR h'' acc' c' (fun b o hb e=>kp'' b o hb (up _ _ (fun q=>hb (by simp [q])) (kp b o (sub b hb) e))) hS'' hacc'
theorem oV {Q:Tb}(hh:A.handled=none)(D:ZipApart z TI TO i1 i2 l1 l2)(hsz:xs.size=ys.size)(hn:xs.size<=sizeLine)(hlt:∀b∈[z,TI,TO,i1,i2,l1,l2],b < s.heap.objs.size)(Z:∀S,EC s.heap S z TI TO i1 i2 l1 l2 xs ys 0)
  (hQ:∀h' acc' c',(∀b o,b∉[s.heap.objs.size,z,TO,i1,i2]->s.heap.get? b=some o->h'.get? b=some o)->h'.get? s.heap.objs.size=some {cls:=.type "list",dict:=none,data:=.seq acc' c',slots:=#[]}->vU h' (s.heap.objs.size+1) [s.heap.objs.size,z,TO,i1,i2] xs ys acc' xs.size->Q (.ref s.heap.objs.size) {s with heap:=h'}) :
  wpAny (model prog w) A (call (.type "list") [.ref z]) Q E s:=by
 refine callType_codes (Q₁:=fun obj s₁=>obj=.ref s.heap.objs.size/\s₁={s with heap:=s.heap.push {cls:=.type "list",data:=.seq #[]}}) F.called_list (F.typeCall_list_1 _) F.entry_list_init
  (code_list_new _ ⟨rfl,rfl⟩) fun obj s₁ h₁=>?_
 obtain ⟨rfl,rfl⟩:=h₁;have hS:(s.heap.push {cls:=.type "list",data:=.seq #[]}).get? s.heap.objs.size=some {cls:=.type "list",data:=.seq #[]}:=zaq _ rfl;have hsp:(s.heap.push {cls:=.type "list",data:=.seq #[]}).objs.size=s.heap.objs.size+1:=zbe ..;have hSn:s.heap.objs.size∉[z,TI,TO,i1,i2,l1,l2]:=fun q=>zaG _ (hlt _ q);have nS:∀{b:Addr},b∈[z,TI,TO,i1,i2,l1,l2]->b≠s.heap.objs.size:=fun hb q=>hSn (q ▸ hb);refine ⟨⟨_,hS,rfl⟩,F.args_list_init_2 _ _,?_⟩;generalize hSa:s.heap.objs.size=S at *;have k0:∀b o,s.heap.get? b=some o->(s.heap.push {cls:=.type "list",data:=.seq #[]}).get? b=some o:=fun b o e=>zae _ e;generalize hh1:s.heap.push {cls:=.type "list",data:=.seq #[]}=h1 at *
 show wpAny _ A.in1.in1 (do let old ←Builtin.List.listItems (.ref S);Builtin.List.listUpdate (.ref S) (fun _=>#[]);letGo old.toList.reverse;Builtin.List.listExtendWith (.ref S) (.ref z) .none) _ _ _
 refine zab ?_;unfold Builtin.List.listItems;refine zab (zbT hS rfl (zad ?_))
 show wpAny _ A.in1.in1 (updateSeq S (fun _=>#[]) >>= fun _=>letGo (#[]:Ti).toList.reverse >>= fun _=>Builtin.List.listExtendWith (.ref S) (.ref z) .none) _ _ _
 refine zab (zbv hS rfl ?_);have hS₂:=zaI (Obj.mapSeq (fun _=>(#[]:Ti))) hS rfl
 have oth:∀b o,b≠S->h1.get? b=some o->(h1.update S (Obj.mapSeq (fun _=>(#[]:Ti)))).get? b=some o :=
  fun b o hb e=>(zaz _ _ (Ne.symm hb)).trans e
 have hsz2:(h1.update S (Obj.mapSeq (fun _=>(#[]:Ti)))).objs.size=h1.objs.size:=(Heap.SameBut.update ..).1;generalize hh2:h1.update S (Obj.mapSeq (fun _=>(#[]:Ti)))=h2 at *;refine zab (wpAny_letGo ?_);have Z0:=Z S;have k2:∀b o,b≠S->s.heap.get? b=some o->h2.get? b=some o:=fun b o hb e=>oth b o hb (k0 b o e)
 have Zk:∀{h3:Heap},(∀b o,b≠S->s.heap.get? b=some o->h3.get? b=some o)->EC h3 S z TI TO i1 i2 l1 l2 xs ys 0:=fun {h3} kk=>by
  refine ⟨?_,kk _ _ (nS (by simp)) Z0.ti,Z0.h1.at fun o e=>kk _ _ (nS (by simp)) e,Z0.h2.at fun o e=>kk _ _ (nS (by simp)) e,Z0.l1.at fun o e=>kk _ _ (nS (by simp)) e,Z0.l2.at fun o e=>kk _ _ (nS (by simp)) e,Z0.to.imp fun o e=>kk _ _ (nS (by simp)) e⟩;rcases Z0.st with ⟨q,q1,q2⟩|⟨T,fl,oT,q1,q2,q3⟩
  ·exact .inl ⟨q,kk _ _ (nS (by simp)) q1,kk _ _ (nS (by simp)) q2⟩
  ·exact .inr ⟨T,fl,oT,kk _ _ (nS (by simp)) q1,kk _ _ (fun q=>q3 (by simp [q])) q2,q3⟩
 have hT2:Shared.TypeIs {s with heap:=h2} (.ref z) "zip":=(Zk k2).ty;unfold Builtin.List.listExtendWith;refine zab (zby hT2 ?_)
 have e1:Builtin.List.listSameRef (.ref S) (.ref z)=false:=by simp [Builtin.List.listSameRef,Ne.symm (nS (b:=z) (by simp))]
 have e2:(Value.type "zip" == Value.type "list")=false:=by decide
 have e3:(Value.type "zip" == Value.type "tuple")=false:=by decide
 simp only [e1,e2,e3,zcA,zan,if_false]
 have itz:∀{Q':Tb} {E':Tb},Q' (.ref z) {s with heap:=h2}->wpAny (model prog w) A.in1.in1 (pyIter (.ref z)) Q' E' {s with heap:=h2}:=fun {Q' E'} hq=>by
  refine zcw hT2 F.slot_zip_iter (zaT F.slot_zip_iter hT2 F.entry_zip_iter ?_ (F.args_zip_iter_1 _))
  show wpAny _ _ (ret (.ref z)) _ _ _
  exact zad ⟨_,rfl,"zip",_,hT2,F.slot_zip_next.lookup,hq⟩
 refine zab (itz ?_);refine zab (zaF ?_);unfold Builtin.List.listLengthHint;refine zab (zbZ hT2 ul ?_)
 show wpAny _ A.in1.in1 (specialOf (Value.ref z) (Str.ofString "__length_hint__") >>= _) _ _ _
 refine zab (zbZ hT2 rF ?_);refine zad ?_
 show wpAny _ A.in1.in1 (rule "list.extend.makes-room" >>= fun _=>Builtin.List.listTouch (.ref S) >>= fun _ =>
  again (.builtin "list.extend.loop" ⟨[.ref S,.ref z,.none],[]⟩)) _ _ _
 refine zab (zca ?_);refine zab ?_
 show wpAny _ A.in1.in1 (updateSeq S (·.push .none) >>= fun _=>updateSeq S (·.pop)) _ _ _
 refine zab (zbv hS₂ rfl ?_);have hS3:=zaI (Obj.mapSeq (·.push Value.none)) hS₂ rfl;refine zbv (s:={s with heap:=_}) (hz:=by seq_fits) hS3 rfl ?_;have hS₄:=zaI (Obj.mapSeq (·.pop)) hS3 rfl
 have oth2:∀b o,b≠S->h2.get? b=some o->((h2.update S (Obj.mapSeq (·.push Value.none))).update S (Obj.mapSeq (·.pop))).get? b=some o :=
  fun b o hb e=>(zaz _ _ (Ne.symm hb)).trans ((zaz _ _ (Ne.symm hb)).trans e)
 have hsz3:((h2.update S (Obj.mapSeq (·.push Value.none))).update S (Obj.mapSeq (·.pop))).objs.size=S+1:=by
  rw [(Heap.SameBut.update ..).1,(Heap.SameBut.update ..).1,hsz2,hsp]
 generalize hh4:(h2.update S (Obj.mapSeq (·.push Value.none))).update S (Obj.mapSeq (·.pop))=h4 at *;have k4:∀b o,b≠S->s.heap.get? b=some o->h4.get? b=some o:=fun b o hb e=>oth2 b o hb (k2 b o hb e);refine zad ⟨zbk F.plain_extend_loop _,yE (s:={s with heap:=h4}) (show A.in1.handled=none from hh) D hsz hn hSn (S+1) .none xs.size 0 _ _ rfl (za3 _) (by show S+1<=h4.objs.size;rw [hsz3];exact zao _) (Zk k4) hS₄ ⟨rfl,[],rfl,rfl,List.nodup_nil,fun i t e=>by simp at e⟩ fun h' acc' c' kp hS' hacc=>?_⟩;refine ⟨rfl,hQ h' acc' c' (fun b o hb e=>kp b o hb (k4 b o (fun q=>hb (by simp [q])) e)) hS' hacc⟩
end
inductive my:List (V×V)->List Addr->Hp->Hp->Prop
 |nil {H}:my [] [] H H
 |cons {x y ps t ts H H'}:H t=none->my ps ts (upd H t (.tup [x,y])) H'->my ((x,y)::ps) (t::ts) H H'
def Km (K:zac)(t:TA):TE:=fun σ H Q=>t σ H fun vs H1=>∃a b xs ys,vs=[.ref a,.ref b]/\g9 K H1 a xs/\g9 K H1 b ys/\xs.length=ys.length/\xs.length<=sizeLine /\
 ∀ts H2 l,my (xs.zip ys) ts H1 H2->H2 l=none->Q (.ref l) (upd H2 l (.lst (ts.map .ref)))
theorem oC {s0 s:Shared}{H0:Hp}(I0:aD X pins σ H0 s0):∀(ps:List (V×V)) (us:List (Value×Value)) (ts:Tf) (H:Hp),aD X pins σ H s->ts.Nodup->(∀t∈ts,s0.heap.objs.size<=t/\H t=none)->ps.length=ts.length->us.length=ts.length ->
  (∀(i:Nat) t p u,ts[i]?=some t->ps[i]?=some p->us[i]?=some u->aY p.1 u.1/\aY p.2 u.2/\IsPair s.heap t u.1 u.2)->∃H',my ps ts H H'/\aD X pins σ H' s/\∀b,b∉ts->H' b=H b
 |[],[],[],H,I,_,_,_,_,_=>⟨H,.nil,I,fun _ _=>rfl⟩
 |[],_::_,[],_,_,_,_,_,h,_=>by simp at h
 |_::_,_,[],_,_,_,_,h,_,_=>by simp at h
 |[],_,_::_,_,_,_,_,h,_,_=>by simp at h
 |_::_,[],_::_,_,_,_,_,_,h,_=>by simp at h
 |(x,y)::ps,(u,v)::us,t::ts,H,I,nd,hn,h1,h2,h3=>by
  rw [zaJ] at nd;obtain ⟨hge,ht⟩:=hn t zah;obtain ⟨r1,r2,hp⟩:=h3 0 t (x,y) (u,v) rfl rfl rfl;have ok:bE X.prog X.w (upd H t (.tup [x,y])) s.heap t (.tup [x,y]):=⟨(by show 2<=sizeLine;decide),[u,v],.cons r1 (.cons r2 .nil),⟨⟨_,hp,rfl,_,rfl⟩,fun o e=>by rw [hp] at e;cases e;rfl⟩⟩;have I1:=aD.adopt I (I0.fpOk hge ht) (zbg I0.sz hge) ok
  obtain ⟨H',l,I',k⟩:=oC I0 ps us ts (upd H t (.tup [x,y])) I1 nd.2 (fun b hb=>⟨(hn b (zaj _ hb)).1,by rw [aB (fun (z:b=t)=>nd.1 (by rw [←z];exact hb))];exact (hn b (zaj _ hb)).2⟩) (by simpa using h1) (by simpa using h2)
   fun i t' p' u' e1 e2 e3=>h3 (i+1) t' p' u' (by simpa using e1) (by simpa using e2) (by simpa using e3)
  refine ⟨H',.cons ht l,I',fun b hb=>?_⟩;rw [k b fun z=>hb (zaj _ z),aB (fun (z:b=t)=>hb (by rw [z];exact zah))]
theorem Ie {X:Cx}{a b:Expr}{t:TA}{p p2 pos pos2:Pos}(hc:X.calm=true)(hg:Gl X "list")(hm:X.mg "list" = none)(hg2:Gl X "zip")(hm2:X.mg "zip" = none)(ha:PA X [a,b] t)
  (hs:starEach [.Call (.Name "zip" p2) [a,b] [] pos2] X.env=[(false,eval (.Call (.Name "zip" p2) [a,b] [] pos2) X.env)]:=by rfl)
  (he:starEach [a,b] X.env=(false,eval a X.env)::starEach [b] X.env:=by rfl) (hpl:(backTo pos2 (starEach [b] X.env)).any (·.1)=false:=by rfl) :
  PE X (.Call (.Name "list" p) [.Call (.Name "zip" p2) [a,b] [] pos2] [] pos) (Km X.K t):=by
 intro pins s σ H Q I h;refine zcb (j9 I hg hm (by decide +kernel:bootBuiltins "list" = some (.type "list")) ?_ (by decide) (by decide));refine PyProof.Rows.callWith_type1 ?_ hs rfl;rw [hs]
 show wpAny _ _ (spliced [(false,eval (.Call (.Name "zip" p2) [a,b] [] pos2) X.env)]) _ _ s
 refine Calls.spliced_cons ?_;refine zcb (j9 I hg2 hm2 (by decide +kernel:bootBuiltins "zip" = some (.type "zip")) ?_ (by decide) (by decide));refine PyProof.Rows.callWith_type1 (cy (ha pos2 pins s σ H _ I h) fun us s1 hh=>?_) he hpl;obtain ⟨vs,H1,I1,r1,q1⟩:=hh;obtain ⟨l1,l2,xs,ys,rfl,hx,hy,hlen,hz,q⟩:=q1
 cases r1 with
 |cons ra rr =>
  cases rr with
  |cons rb rr =>
   cases rr;cases ra;cases rb;obtain ⟨i1,rv1,p1,_⟩:=I1.list hx;obtain ⟨i2,rv2,p2',_⟩:=I1.list hy;have hl1:=rv1.length;have hl2:=rv2.length
   have lt1:l1 < s1.heap.objs.size:=by obtain ⟨o,_,e,_⟩:=p1;exact zam e
   have Lp:l2 < s1.heap.objs.size:=by obtain ⟨o,_,e,_⟩:=p2';exact zam e
   refine call_zip_2 p1.isList p2'.isList fun h' z1 z2 z3 z4 z5 z6 z7=>Calls.spliced_nil ?_;have D:ZipApart (s1.heap.objs.size+4) (s1.heap.objs.size+2) (s1.heap.objs.size+3) s1.heap.objs.size (s1.heap.objs.size+1) l1 l2:=PyProof.Rows.zipApart_new lt1 Lp;refine oV (s:={s1 with heap:=h'}) (I1.ok.hd hc) D (by simp;omega) (by simp;omega) (fun b hb=>?_) (fun S=>⟨.inl ⟨rfl,z1,z3⟩,z2,z4,z5,p1.isList.at fun o e=>z7 _ _ e,p2'.isList.at fun o e=>z7 _ _ e,⟨_,z3⟩⟩) fun h2 acc c kp hS hacc=>?_
   ·show b < h'.objs.size
    rw [z6];simp only [zak,zaC,or_false] at hb;have lt1:(l1:Nat) < s1.heap.objs.size:=lt1;have Lp:(l2:Nat) < s1.heap.objs.size:=Lp
    have:(b:Nat) < s1.heap.objs.size+5:=by
     rcases hb with h|h|h|h|h|h|h <;> (rw [h];first|exact zaR (zaR (zaR (zaR (zaR lt1))))|exact zaR (zaR (zaR (zaR (zaR Lp))))|exact Nat.add_lt_add_left (by decide) _|exact Nat.lt_add_of_pos_right (by decide))
    exact this
   ·obtain ⟨c1,ts,c2,c3,c4,c5⟩:=hacc
    have big:∀b o,s1.heap.get? b=some o->h2.get? b=some o:=fun b o e=>by
     have hlt:=zam e;refine kp b o (fun hb=>?_) (z7 b o e);have hb:b∈[h'.objs.size,s1.heap.objs.size+4,s1.heap.objs.size+3,s1.heap.objs.size,s1.heap.objs.size+1]:=hb;rw [z6] at hb;simp only [zak,zaC,or_false] at hb
     have hge:s1.heap.objs.size<=(b:Nat):=by
      rcases hb with h|h|h|h|h <;> (rw [h];first|exact zb7 _ _|exact zao _)
     exact absurd hlt (Nat.not_lt.mpr hge)
    have I2:aD X pins σ H1 {s1 with heap:=h2}:=I1.kept (t':=s1.toks) big
    have n1:i1.toArray.size=xs.length:=by simp;omega
    rw [n1] at c1 c2;have hL:H1 h'.objs.size=none:=I1.hok.fresh (by rw [z6];omega)
    obtain ⟨H2,lay,I3,k⟩:=oC I1 (xs.zip ys) (i1.zip i2) ts H1 I2 c4 (fun t ht=>by
     obtain ⟨j,hj,e⟩:=za7 ht;obtain ⟨b1,_⟩:=c5 j t (by rw [←e];exact zas hj);have b1:h'.objs.size+1<=t:=b1
     have b2:s1.heap.objs.size<=t:=by rw [z6] at b1;exact zbg (zb7 _ 6) b1
     exact ⟨b2,I1.hok.fresh b2⟩) (by rw [List.length_zip,c2];omega) (by rw [List.length_zip,c2];omega) fun j t p u e1 e2 e3=>by
      obtain ⟨_,_,x,y,w1,w2,w3⟩:=c5 j t e1;obtain ⟨px,py⟩:=p;obtain ⟨ux,uy⟩:=u;rw [List.getElem?_zip_eq_some] at e2 e3
      have w1:i1[j]?=some x:=by simpa using w1
      have w2:i2[j]?=some y:=by simpa using w2
      obtain ⟨a1,a2,a3⟩:=rv1.get e2.1;obtain ⟨b1,b2,b3⟩:=rv2.get e2.2;have q1:=e3.1.symm.trans w1;have q2:=e3.2.symm.trans w2;cases q1;cases q2;have q3:=a2.symm.trans w1;have q4:=b2.symm.trans w2;cases q3;cases q4;exact ⟨a3,b3,w3⟩
    have hL2:H2 h'.objs.size=none:=by
     rw [k _ fun hin=>?_]
     ·exact hL
     ·obtain ⟨j,hj,e⟩:=za7 hin
      have e':ts[j]?=some h'.objs.size:=(zas hj).trans (congrArg some e);obtain ⟨b1,_⟩:=c5 j _ e';exact absurd (show h'.objs.size+1<=h'.objs.size from b1) (Nat.not_succ_le_self _)
    have vals:∀ts:Tf,aU (ts.map V.ref) (ts.map Value.ref):=fun ts=>by
     induction ts with
     |nil=>exact .nil
     |cons t ts ih=>exact .cons rfl ih
    have I4:=aD.adopt (o:=.lst (ts.map .ref)) I3 (I1.fpOk (by rw [z6];omega) hL2) (zbg I1.sz (by rw [z6];omega)) ⟨by rw [zal,c2];exact hz,ts.map Value.ref,c,vals ts,by rw [←c3];exact hS⟩;exact ⟨.ref h'.objs.size,_,I4,rfl,q ts H2 _ lay hL2⟩
def jP (xs ys:List D):List D:=(xs.zip ys).map fun p=>.tup [p.1,p.2]
def n8 (fa fb:FE):FE:=fun ρ μ=>(fa ρ μ).bind fun a=>(fb ρ a.2).bind fun b=>(d5 a.1 b.2).bind fun xs=>(d5 b.1 b.2).bind fun ys=>if xs.length=ys.length/\xs.length<=sizeLine then some (.p b.2.length,b.2++[.lst (jP xs ys)]) else none
theorem A6 {ps:List (V×V)}{ts:Tf}{H H':Hp}(h:my ps ts H H'):∀a o,H a=some o->H' a=some o:=by
 induction h with
 |nil=>exact fun _ _ e=>e
 |cons hn _ ih=>exact fun a o e=>ih a o (bO hn a o e)
theorem wN {ps:List (V×V)}{ts:Tf}{H H':Hp}{m:Tf}(h:my ps ts H H'):cQ m H m H':=by
 induction h with
 |nil=>exact .refl
 |cons hn _ ih=>exact (cQ.new hn).trans ih
theorem DX {K:zac}{ps:List (V×V)}{ts:Tf}{H H':Hp}(h:my ps ts H H'):∀{xs ys:List D},xs.length=ys.length->RelDs K H xs (ps.map (·.1))->RelDs K H ys (ps.map (·.2))->RelDs K H' (jP xs ys) (ts.map .ref):=by
 induction h with
 |nil =>
  intro xs ys hl r1 r2;have:xs=[]:=zcT (by rw [r1.length];rfl);subst this;simp only [jP,List.zip_nil_left,zaY,RelDs]
 | @cons x y ps t ts H H' hn l ih =>
  intro xs ys hl r1 r2
  cases xs with
  |nil=>simp [RelDs] at r1
  |cons dx xs =>
   cases ys with
   |nil=>simp at hl
   |cons dy ys =>
    simp only [zaf,RelDs] at r1 r2;obtain ⟨v1,w1,e1,a1,b1⟩:=r1;obtain ⟨v2,w2,e2,a2,b2⟩:=r2;simp only [List.cons.injEq] at e1 e2;obtain ⟨rfl,rfl⟩:=e1;obtain ⟨rfl,rfl⟩:=e2;have tf:TF H (upd H t (.tup [x,y])):=(cQ.new (m:=[]) hn).tf;have tf2:TF (upd H t (.tup [x,y])) H':=(wN (m:=[]) l).tf;have:=ih (by simpa using hl) (RelDs.tf tf _ _ b1) (RelDs.tf tf _ _ b2)
    show RelDs K H' (.tup [dx,dy]::jP xs ys) (.ref t::ts.map .ref)
    simp only [RelDs,am];refine ⟨_,_,rfl,⟨t,[x,y],rfl,.inl (.inl (tf2.tup _ _ bf)),?_⟩,this⟩;exact ⟨x,[y],rfl,am.tf (tf.trans tf2) _ _ a1,y,[],rfl,am.tf (tf.trans tf2) _ _ a2,rfl⟩
theorem G9 {K:zac}{H:Hp}{Q:VK}{fa fb}(h:az K (n8 fa fb) σ H Q):Km K (iY K (af fa (af fb ai))) σ H Q:=by
 obtain ⟨ρ,μ,m,d,μ',hl,hs,e,k⟩:=h;obtain ⟨⟨x,μ1⟩,e1,e⟩:=zaa.mp e;obtain ⟨⟨y,μ2⟩,e2,e⟩:=zaa.mp e;obtain ⟨xs,e3,e⟩:=zaa.mp e;obtain ⟨ys,e4,e⟩:=zaa.mp e;split at e
 ·rename_i hz
  cases e;refine ⟨ρ,μ,m,[x,y],μ2,hl,hs,by simp [af,e1,e2,ai],fun vs H1 m1 x1 s1 r1=>?_⟩;obtain ⟨v,r,rfl,ra,rr⟩:=r1;obtain ⟨u,r',rfl,rb,rn⟩:=rr;have rn:r'=[]:=rn;subst rn;obtain ⟨a,vs,rfl,qa,ma⟩:=fO s1 ra e3;obtain ⟨b,us,rfl,qb,mb⟩:=fO s1 rb e4;have h1:=ma.length;have h2:=mb.length;refine ⟨a,b,vs,us,rfl,qa,qb,by omega,by omega,fun ts H2 l lay hn=>?_⟩;have x2:cQ m1 H1 m1 H2:=wN lay;have z1:(vs.zip us).map (·.1)=vs:=zcF (by omega);have z2:(vs.zip us).map (·.2)=us:=zcG (by omega);have rel:=DX (K:=K) lay hz.1 (by rw [z1];exact ma) (by rw [z2];exact mb);obtain ⟨y1,y2,y3⟩:=et (s1.same (A6 lay)) rel hn;exact k _ _ _ ((x1.trans x2).trans y1) y2 y3
 ·cases e
end HW
namespace HS
open PySem PySem.Spec PyProof.Rows
theorem zM {m:Nat}(hm:m∈eP)(h:Int){j:Nat}(hj:j < m+1):∃t,t < SetTable.turns m/\(gS m t (SetTable.bits h % (m+1)) (SetTable.bits h)).1=j:=by
 have hb:SetTable.bits h < 2 ^ 64:=by
  unfold SetTable.bits;have:=zcr h (show (0:Int) < 2 ^ 64 by decide);have:=zcN h (show (2 ^ 64:Int)≠0 by decide);omega
 have hp:(gS m 13 (SetTable.bits h % (m+1)) (SetTable.bits h)).2=0:=by
  rw [uH];exact Nat.div_eq_of_lt (Nat.lt_trans hb (by decide))
 have hi:(gS m 13 (SetTable.bits h % (m+1)) (SetTable.bits h)).1 < m+1:=qm m _ _ _ (zct _ (by omega));obtain ⟨t,ht,e⟩:=wE hm hi hj;refine ⟨13+t,by unfold SetTable.turns;omega,?_⟩;rw [nE,hp,lI,e]
def bh (t:SetTable):Nat->SetTable.Probe->SetTable.Probe
 |0,p=>p
 |n+1,p=>bh t n (t.advance p)
theorem jl (t:SetTable):∀(a b:Nat) (p:SetTable.Probe),bh t (a+b) p=bh t b (bh t a p)
 |0,b,p=>by rw [zdb];rfl
 |a+1,b,p=>by rw [Nat.succ_add];exact jl t a b _
theorem jD (t:SetTable)(n:Nat)(p:SetTable.Probe):bh t (n+1) p=t.advance (bh t n p):=jl t n 1 p
def fr (m i p:Nat):SetTable.Probe:={j:=i,more:=SetTable.runEnd m i - i,i:=i,perturb:=p,dummy:=none}
theorem m5 (t:SetTable)(i pb:Nat):∀(k j:Nat),bh t (k+1) {j:=j,more:=k,i:=i,perturb:=pb,dummy:=none}=fr t.mask (SetTable.leap t.mask i pb).1 (SetTable.leap t.mask i pb).2
 |0,j=>by
  show bh t 1 _=_
  unfold bh bh SetTable.advance;rw [if_neg (by simp)];rfl
 |k+1,j=>by
  have e:t.advance {j:=j,more:=k+1,i:=i,perturb:=pb,dummy:=none}={j:=j+1,more:=k,i:=i,perturb:=pb,dummy:=none}:=by
   unfold SetTable.advance;rw [if_pos (by simp)];rfl
  show bh t (k+1) (t.advance _)=_
  rw [e];exact m5 t i pb k (j+1)
theorem G5 (m i:Nat):SetTable.runEnd m i - i<=9:=by unfold SetTable.runEnd;split <;> omega
theorem ub (t:SetTable):∀(k i p:Nat),∃n,n<=10 * k/\bh t n (fr t.mask i p)=fr t.mask (gS t.mask k i p).1 (gS t.mask k i p).2
 |0,i,p=>⟨0,by omega,rfl⟩
 |k+1,i,p=>by
  obtain ⟨n,h1,h2⟩:=ub t k (SetTable.leap t.mask i p).1 (SetTable.leap t.mask i p).2;have:=G5 t.mask i;refine ⟨(SetTable.runEnd t.mask i - i+1)+n,by omega,?_⟩;rw [jl];unfold fr at h2 ⊢;rw [m5 t i p (SetTable.runEnd t.mask i - i) i];exact h2
theorem kQ (t:SetTable)(h:Int):t.probeStart h=fr t.mask (SetTable.bits h % (t.mask+1)) (SetTable.bits h):=rfl
theorem wU (j:Nat):SetTable.has #[] j=false:=rfl
theorem cG (t:SetTable)(hd:t.dummies = #[])(j:Nat):(t.slot j=.empty/\t.place[SetTable.below t.place j]?≠some j)\/(t.slot j=.live (SetTable.below t.place j)/\t.place[SetTable.below t.place j]?=some j):=by
 unfold SetTable.slot
 by_cases c:t.place[SetTable.below t.place j]?=some j
 ·right;exact ⟨by simp [c],c⟩
 ·left
  refine ⟨?_,c⟩
  have:(t.place[SetTable.below t.place j]? == some j)=false:=by simpa using c
  simp only [this,hd,wU,zan,if_false]
theorem CU (t:SetTable)(hf:t.place.size<=t.mask):∃j,j < t.mask+1/\j∉t.place.toList:=by
 apply Classical.byContradiction;intro hn;have hall:∀j∈List.range (t.mask+1),j∈t.place.toList:=fun j hj=>Classical.byContradiction fun c=>hn ⟨j,zbp.mp hj,c⟩
 have key:∀(l m:List Nat),l.Nodup->(∀x∈l,x∈m)->l.length<=m.length:=by
  intro l
  induction l with
  |nil=>intro m _ _;exact za3 _
  |cons x l ih =>
   intro m hn h;obtain ⟨h1,h2⟩:=zaJ.mp hn;have hx:=h x zah;have:=ih (m.erase x) h2 fun y hy=>(List.mem_erase_of_ne (fun e=>by subst e;exact h1 hy)).mpr (h y (zaj _ hy))
   rw [List.length_erase_of_mem hx] at this
   have:0 < m.length:=List.length_pos_of_mem hx;simp only [zaD];omega
 have:=key _ _ zdc hall
 rw [List.length_range,zaN] at this
 omega
theorem vC {t:SetTable}(hm:t.mask∈eP)(hd:t.dummies = #[])(hf:t.place.size<=t.mask)(h:Int):∃N,N < 10 * SetTable.turns t.mask/\t.slot (bh t N (t.probeStart h)).j=.empty:=by
 obtain ⟨j,h1,h2⟩:=CU t hf;obtain ⟨k,k1,k2⟩:=zM hm h h1;obtain ⟨n,n1,n2⟩:=ub t k (SetTable.bits h % (t.mask+1)) (SetTable.bits h);refine ⟨n,by omega,?_⟩;rw [kQ,n2,k2];rcases cG t hd (fr t.mask j (gS t.mask k (SetTable.bits h % (t.mask+1)) (SetTable.bits h)).2).j with c|c
 ·exact c.1
 ·exfalso
  exact h2 (by have:=zcJ c.2;rw [zbC];exact this)
theorem yw (t:SetTable)(p:SetTable.Probe):(t.advance p).dummy=p.dummy:=by
 unfold SetTable.advance;split <;> rfl
theorem kC (t:SetTable):∀(n:Nat) (p:SetTable.Probe),(bh t n p).dummy=p.dummy
 |0,_=>rfl
 |n+1,p=>(kC t n _).trans (yw t p)
theorem Gc {t:SetTable}(hashAt:Nat->Int)(h:Int)(hd:t.dummies = #[]){N:Nat}{p:SetTable.Probe}(hp:p.dummy=none)(hE:t.slot (bh t N p).j=.empty):∀(f m:Nat),m<=N->N - m < f ->
  (∃j,SetTable.probe.go t hashAt h f (bh t m p)=some (.empty j none)/\t.slot j=.empty) \/
  (∃n i,m<=n/\n < N/\SetTable.probe.go t hashAt h f (bh t m p)=some (.candidate (bh t n p).j i (bh t (n+1) p))/\t.slot (bh t n p).j=.live i/\hashAt i=h)
 |0,m,_,h2=>by omega
 |f+1,m,h1,h2=>by
  unfold SetTable.probe.go;rcases cG t hd (bh t m p).j with ⟨c,_⟩|⟨c,c'⟩
  ·rw [c]
   exact .inl ⟨_,by rw [kC,hp],c⟩
  ·rw [c]
   have hmN:m < N:=by
    rcases zb3 m N with z|z
    ·exact z
    ·have:m=N:=by omega
     subst this;rw [hE] at c;cases c
   by_cases q:hashAt (SetTable.below t.place (bh t m p).j)=h
   ·right
    refine ⟨m,_,zao _,hmN,?_,c,q⟩;simp only [q,zcl,if_true];rw [jD]
   ·have q':(hashAt (SetTable.below t.place (bh t m p).j) == h)=false:=by simpa using q
    simp only [q',zan,if_false];rw [←jD];rcases Gc hashAt h hd hp hE f (m+1) hmN (by omega) with z|⟨n,i,z1,z2,z3⟩
    ·exact .inl z
    ·exact .inr ⟨n,i,by omega,z2,z3⟩
section
variable  {prog:Program}{w:World}{A:Around}{E:Tb}{s:Shared}
abbrev jW (prog:Program)(w:World)(h:Heap)(ks:Th)(a:Addr):Prop:=IsTupleKey (intKind prog w) h ks a
theorem items_int {prog:Program}{w:World}{ks:Th}{vs:Te}(h:ItemsAre (intKind prog w) ks vs):∀v∈vs,∃n t,v=.int n t:=by
 induction h with
 |nil=>intro v hv;simp at hv
 | @cons k v' ks vs h1 _ ih =>
  intro v hv;rcases zak.mp hv with rfl|hv
  ·cases v with
   |int n t=>exact ⟨n,t,rfl⟩
   |_=>simp [intKind,Value.isInt] at h1
  ·exact ih v hv
theorem tV {ks:Th}{a:Addr}{Q:Bool->Shared->Prop}(hk:jW prog w s.heap ks a)(h:Q false s):wpAny (model prog w) A (ofAClassStatement 8 (.ref a)) Q E s:=by
 have hT:=hk.typeIs;obtain ⟨o,items,n,ho,_,hd,hi⟩:=hk;have hall:=items_int hi;unfold ofAClassStatement;refine zab (zby hT ?_);dsimp only;rw [if_pos (by decide)];refine zab (zad ?_);simp only [zbo,zan,if_false];refine zab (zbT ho hd ?_);dsimp only;refine zab ?_;rw [←zbY];refine zdf _ (fun rest r s'=>r.1=none/\s'=s/\∀v∈rest,∃n t,v=Value.int n t) _ ?_ ?_ _ _ ⟨rfl,rfl,hall⟩
 ·rintro v rest r s' ⟨hr,rfl,hv⟩
  obtain ⟨m,t,rfl⟩:=hv v zah;refine zab (show wpAny _ _ (pure false) _ _ _ from zad ?_);simp only [zan,if_false];exact zad ⟨rfl,rfl,fun u hu=>hv u (zaj _ hu)⟩
 ·rintro ⟨r1,r2⟩ s' ⟨hr,rfl,_⟩
  simp only at hr;subst hr;exact zad h
theorem xw {ks:Th}{a:Addr}{Q:Bool->Shared->Prop}(hk:jW prog w s.heap ks a)(h:Q true s):wpAny (model prog w) A (hashByValue 8 (.ref a)) Q E s:=by
 have hT:=hk.typeIs;obtain ⟨o,items,n,ho,_,hd,hi⟩:=hk;have hall:=items_int hi;unfold hashByValue;refine zab (zbZ hT F.slot_tuple_hash.lookup ?_);dsimp only;refine zab (zbT ho hd ?_);refine zab ?_
 show wpAny _ _ (forIn items _ _) _ _ s
 rw [←zbY];refine zdf _ (fun rest r s'=>r.1=none/\s'=s/\∀v∈rest,∃n t,v=Value.int n t) _ ?_ ?_ _ _ ⟨rfl,rfl,hall⟩
 ·rintro v rest r s' ⟨hr,rfl,hv⟩
  obtain ⟨m,t,rfl⟩:=hv v zah;refine zab (show wpAny _ _ (pure true) _ _ _ from zad ?_);simp only [zbo,zan,if_false];exact zad ⟨rfl,rfl,fun u hu=>hv u (zaj _ hu)⟩
 ·rintro ⟨r1,r2⟩ s' ⟨hr,rfl,_⟩
  simp only at hr;subst hr;exact zad h
theorem rH {ks:Th}{a:Addr}{ys:Te}{Q:Bool->Shared->Prop}(hk:jW prog w s.heap ks a)(hy:∀y∈ys,∃b ls,y=.ref b/\jW prog w s.heap ls b)(h:Q false s):wpAny (model prog w) A (searchCouldBeSeen (.ref a) ys) Q E s:=by
 unfold searchCouldBeSeen;refine zab ?_;refine zdf _ (fun rest r s'=>r.1=none/\s'=s/\∀y∈rest,∃b ls,y=Value.ref b/\jW prog w s.heap ls b) _ ?_ ?_ _ _ ⟨rfl,rfl,hy⟩
 ·rintro y rest r s' ⟨hr,rfl,hv⟩
  obtain ⟨b,ls,rfl,hb⟩:=hv y zah;have nx:∀r':Option Bool×Unit,r'.1=none->r'.1=none/\s'=s'/\∀y∈rest,∃b ls,y=Value.ref b/\jW prog w s'.heap ls b:=fun r' e=>⟨e,rfl,fun u hu=>hv u (zaj _ hu)⟩;dsimp only;split
  ·exact zad (nx _ rfl)
  ·refine zab (wpAny_eqIsQuiet_tuple hk ?_)
   simp only [zbo,zan,if_false];refine zab (wpAny_eqIsQuiet_tuple hb ?_);simp only [zbo,zan,if_false];refine zab (tV hk ?_);simp only [zan,if_false];refine zab (tV hb ?_);simp only [zan,if_false];exact zad (nx _ rfl)
 ·rintro ⟨r1,r2⟩ s' ⟨hr,rfl,_⟩
  simp only at hr;subst hr;exact zad h
structure uc (prog:Program)(w:World)(led:Bool)(h:Heap)(es:Array (Int×Value))(t:SetTable)(vs:Te):Prop where
 W:lF led es t
 ms:t.mask∈eP
 dm:t.dummies = #[]
 pl:t.plain=true
 lo:t.place.size * 5 < t.mask * 3
 pm:(es.toList.map (·.2)).Perm vs
 el:∀e∈es.toList,∃b ls,e.2=.ref b/\jW prog w h ls b
theorem wV {t:SetTable}{HA:Nat->Int}{h:Int}(hd:t.dummies = #[]){N:Nat}{p:SetTable.Probe}(hp:p.dummy=none)(hE:t.slot (bh t N p).j=.empty){f m:Nat}(h1:m<=N)(h2:N - m < f):∃met,SetTable.probe.go t HA h f (bh t m p)=some met:=by
 rcases Gc HA h hd hp hE f m h1 h2 with ⟨j,e',hj⟩|⟨n,i,n1,n2,e',hl,hq⟩
 ·exact ⟨_,e'⟩
 ·exact ⟨_,e'⟩
theorem sI:∀m∈eP,(m % 2 == 0)=false:=by decide
theorem jW.same {h h':Heap}{ks:Th}{a S:Addr}{o:Obj}{es:Array (Int×Value)}{ep:Nat}{t:SetTable}(x:jW prog w h ks a)(ho:h.get? S=some o)(hd:o.data=.set es ep t)(hs:Heap.SameBut S h h'):jW prog w h' ks a:=by
 obtain ⟨o',items,n,ho',hc,hd',hi⟩:=x
 have hne:a≠S:=by
  rintro rfl;obtain rfl:o'=o:=Option.some.inj (ho'.symm.trans ho);rw [hd] at hd';exact nomatch hd'
 exact ⟨o',items,n,(hs.2 a hne).trans ho',hc,hd',hi⟩
end
def EI (prog:Program)(w:World)(led:Bool)(h:Heap)(o:Obj)(vs:Te):Prop:=∃es ep t,o.ExactSet/\o.data=.set es ep t/\uc prog w led h es t vs
theorem s9 {prog:Program}{w:World}(led:Bool)(h:Heap):EI prog w led h (cE led) [] :=
 ⟨#[],0,_,⟨rfl,rfl,rfl⟩,rfl,⟨⟨by decide,by rfl,fun _=>List.Pairwise.nil,rfl⟩,(show 7∈eP by decide),rfl,rfl,(show 0 * 5 < 7 * 3 by decide),List.Perm.refl _,fun _ h=>by simp at h⟩⟩
section
variable  {prog:Program}{w:World}{A:Around}{R:Result->Shared->Prop}{I:Addr}{fp wr:Tf}{G:Array GenState->Array GenState->Prop}{n:Nat}{P:Nat->Value->Prop}{St:Nat->Shared->Prop}
theorem jW.keep {h h':Heap}{ks:Th}{a:Addr}(x:jW prog w h ks a)(k:∀o,h.get? a=some o->h'.get? a=some o):jW prog w h' ks a:=by
 obtain ⟨o,items,n,ho,r⟩:=x;exact ⟨o,items,n,k _ ho,r⟩
theorem uc.keep {led:Bool}{h h':Heap}{es:Array (Int×Value)}{t:SetTable}{vs:Te}(T:uc prog w led h es t vs)(k:∀b,Value.ref b∈vs->∀o,h.get? b=some o->h'.get? b=some o):uc prog w led h' es t vs :=
 ⟨T.W,T.ms,T.dm,T.pl,T.lo,T.pm,fun e he=>by
  obtain ⟨b,ls,e1,e2⟩:=T.el e he
  exact ⟨b,ls,e1,e2.keep (k b (T.pm.mem_iff.mp (zar.mpr ⟨e,he,e1⟩)))⟩⟩
end
section
variable  {prog:Program}{w:World}{A:Around}{E:Tb}{s:Shared}
theorem xT {α β:Type}{f:α->β}{l1 l2:List β}(p:l1.Perm l2):∀zs:List α,zs.map f=l2->∃zs':List α,zs'.Perm zs/\zs'.map f=l1:=by
 induction p with
 |nil=>intro zs e;exact ⟨[],by rw [List.map_eq_nil_iff.mp e],rfl⟩
 |cons x _ ih =>
  intro zs e;obtain ⟨z,zs',rfl,rfl,e2⟩:=zcQ.mp e;obtain ⟨ws,h1,h2⟩:=ih zs' e2;exact ⟨z::ws,h1.cons z,by rw [zaf,h2]⟩
 |swap x y l =>
  intro zs e;obtain ⟨z,zs',rfl,rfl,e2⟩:=zcQ.mp e;obtain ⟨z2,zs2,rfl,rfl,e3⟩:=zcQ.mp e2;exact ⟨z2::z::zs2,List.Perm.swap z z2 zs2,by rw [zaf,zaf,e3]⟩
 |trans _ _ ih1 ih2 =>
  intro zs e;obtain ⟨ws,h1,h2⟩:=ih2 zs e;obtain ⟨us,h3,h4⟩:=ih1 ws h2;exact ⟨us,h3.trans h1,h4⟩
def EJ (led:Bool)(o:Obj)(ps:List (Addr×Th)):Prop:=∃es ep t,o.ExactSet/\o.data=.set es ep t/\lF led es t/\(es.toList.map (·.2)).Perm (ps.map fun p=>Value.ref p.1)
theorem EI.o {led:Bool}{h:Heap}{o:Obj}{ps:List (Addr×Th)}(x:EI prog w led h o (ps.map fun p=>Value.ref p.1)):EJ led o ps:=by
 obtain ⟨es,ep,t,h1,h2,T⟩:=x;exact ⟨es,ep,t,h1,h2,T.W,T.pm⟩
abbrev JG (h:Heap)(p:Addr×Th):Prop:=∃o its n,h.get? p.1=some o/\o.cls=.type "tuple"/\o.data=.seq its n/\IntsAre its.toList p.2
theorem v0 {h:Heap}:∀{ps:List (Addr×Th)},(∀p∈ps,JG h p)->HT2.be h (ps.map fun p=>Value.ref p.1) (ps.map (·.2))
 |[],_=>trivial
 |p::ps,hp=>by
  obtain ⟨o,its,n,r⟩:=hp p zah;exact ⟨⟨p.1,o,its,n,rfl,r⟩,v0 fun q hq=>hp q (zaj _ hq)⟩
theorem rY {a:Addr}{o:Obj}{ps:List (Addr×Th)}{Q:Tb}(hh:A.handled=none)(ho:s.heap.get? a=some o)(hS:EJ (!bt w) o ps)(hps:∀p∈ps,JG s.heap p)(nd:(ps.map (·.2)).Nodup)(h64:ps.length < 64)(hne:2<=ps.length->∀p∈ps,p.2≠[])
  (h:∀(qs:List (Addr×Th)) (h':Heap) (d:Drawn) (tk:Nat) (l:Addr) (c:Nat),(∀q∈qs,q∈ps)->(qs.map (·.2)).Perm (ps.map (·.2))->(qs.map (·.2)).Pairwise (fun x y=>HT2.iO x y=true)->(∀b o,s.heap.get? b=some o->h'.get? b=some o)->s.toks<=tk ->
   s.heap.objs.size<=l->h'.get? l=some (seqObj "list" (qs.map fun q=>Value.ref q.1).toArray c)->Q (.ref l) {s with heap:=h',drawn:=d,toks:=tk}) :
  wpAny (model prog w) A (call (.builtin "sorted") [.ref a]) Q E s:=by
 obtain ⟨es,ep,t,hx,hd,G,pm⟩:=hS;refine Calls.call_function_entry kind_sorted plain_sorted entry_sorted (args_sorted1 _) ?_;unfold Builtin.«sorted»;refine zab (m:=checkCount "sorted" 1 1 _) (zad (zab (yp (show A.in1.handled=none from hh) ho hx hd G fun ord h' d tk hord kp ht hge=>?_)));obtain ⟨rs,r1,r2⟩:=xT ((hord.map (·.2)).trans pm) ps rfl;have r2':ord.map (·.2)=rs.map fun p=>Value.ref p.1:=r2.symm;rw [r2'];have hrl:rs.length=ps.length:=r1.length_eq;have hmem:∀q∈rs,q∈ps:=fun q hq=>r1.mem_iff.mp hq;have hT0:HT2.be s.heap (rs.map fun p=>Value.ref p.1) (rs.map (·.2)):=v0 fun q hq=>hps q (hmem q hq);have nd':(rs.map (·.2)).Nodup:=(r1.map (·.2)).nodup_iff.mpr nd;refine zab (zc5 ?_ (by rw [zal,zbh];omega));generalize hvs:(rs.map fun p=>Value.ref p.1)=vs at *
 have hvl:vs.length=rs.length:=by rw [←hvs,zal]
 have hoL:(h'.push (seqObj "list" vs.toArray 0)).get? h'.objs.size=some (seqObj "list" vs.toArray 0):=zaq _ rfl;have hT2:HT2.be (h'.push (seqObj "list" vs.toArray 0)) vs (rs.map (·.2)):=hT0.keep fun b o e=>zae _ (kp b o e)
 have hna:∀v∈vs,v≠.ref h'.objs.size:=fun v hv e=>by
  rw [←hvs] at hv;obtain ⟨p,hp,rfl⟩:=zar.mp hv;obtain ⟨op,itp,np,q1,_⟩:=hps p (hmem p hp)
  injection e with e
  have:=zam (kp _ _ q1)
  rw [e] at this
  exact absurd this (zaG _)
 refine zab (zaF (zaT (s:={s with heap:=h'.push (seqObj "list" vs.toArray 0),drawn:=d,toks:=tk}) slot_list_sort ⟨_,hoL,rfl⟩ entry_list_sort (HT2.ph (s:={s with heap:=h'.push (seqObj "list" vs.toArray 0),drawn:=d,toks:=tk}) hoL hT2 nd' (by rw [zal];omega) (fun h2 x hx'=>by
  obtain ⟨p,hp,rfl⟩:=zar.mp hx';rw [zal] at h2
  exact hne (by omega) p (hmem p hp)) hna fun out L' ⟨is,a1,a2,a3⟩ a4 a5=>⟨_,rfl,?_⟩) (args_list_sort _)))
 obtain ⟨c,hc⟩:∃c,(sortedHeap (h'.push (seqObj "list" vs.toArray 0)) h'.objs.size vs out).get? h'.objs.size=some (seqObj "list" out c):=by
  unfold sortedHeap;obtain ⟨e1,q1⟩:∃e1,((h'.push (seqObj "list" vs.toArray 0)).update h'.objs.size (Obj.mapSeq fun _=>#[])).get? h'.objs.size=some (seqObj "list" #[] e1):=⟨_,get?_update_seq hoL (fun _=>#[])⟩;exact ⟨_,get?_update_seq (zae _ (zae _ q1)) (fun _=>out)⟩
 have b1:out.toList=(is.map fun i=>rs.getD i (0,[])).map fun q=>Value.ref q.1:=by
  rw [a1,za2];refine zbN fun i hi=>?_
  have hi':i < rs.length:=by have:=a3 i hi;rwa [zal] at this
  rw [←hvs];simp [List.getD,hi']
 have b2:L'=(is.map fun i=>rs.getD i (0,[])).map (·.2):=by
  rw [a2,za2];refine zbN fun i hi=>?_
  have hi':i < rs.length:=by have:=a3 i hi;rwa [zal] at this
  simp [List.getD,hi']
 have ho':out=((is.map fun i=>rs.getD i (0,[])).map fun q=>Value.ref q.1).toArray:=by rw [←b1]
 rw [b2] at a4 a5;refine zad ⟨_,rfl,h (is.map fun i=>rs.getD i (0,[])) _ d tk h'.objs.size c (fun q hq=>?_) (a4.trans (r1.map (·.2))) a5 (fun b o e=>?_) ht hge (by rw [←ho'];exact hc)⟩
 ·obtain ⟨i,hi,rfl⟩:=zar.mp hq
  have hi':i < rs.length:=by have:=a3 i hi;rwa [zal] at this
  refine hmem _ ?_;simp [List.getD,hi']
 ·have hb:=kp b o e
  have ne:h'.objs.size≠b:=zbF (zam hb);unfold sortedHeap;rw [zaz _ _ ne];refine zae _ (zae _ ?_);rw [zaz _ _ ne];exact zae _ hb
end
end HS
namespace HW
open PySem PySem.Spec PyProof.Rows L2 HS HT2
theorem sT {prog:Program}{w:World}:∀{its:Te} {ks:Th},IntsAre its ks->ItemsAre (intKind prog w) ks its
 |_,_,.nil=>.nil
 |_,_,.cons n t h=>.cons (intKind_is _ _ _ _) (sT h)
abbrev Cg (K:zac)(H:Hp)(ps:List (Addr×Th)):Prop:=∀q∈ps,gG K H q.1 (q.2.map V.int)
theorem aD.tupA {X:Cx}{H:Hp}{s:Shared}(I:aD X pins σ H s){p:Addr×Th}(h:gG X.K H p.1 (p.2.map V.int)):JG s.heap p:=by
 obtain ⟨its,r',⟨o',ho',hc',n',hd'⟩,hz⟩:=I.tuple h;exact ⟨o',its.toArray,n',ho',hc',hd',by simpa using f8 r'⟩
theorem pv:∀{ps:List (Addr×Th)} {its:Te},aU (ps.map fun q=>V.ref q.1) its->its=ps.map fun q=>Value.ref q.1
 |[],its,h=>by cases h;rfl
 |p::ps,its,h=>by
  cases h with
  |cons h1 h2=>rw [pv h2];rw [show _=Value.ref p.1 from h1];rfl
theorem m8:∀(ps:List (Addr×Th)),aU (ps.map fun q=>V.ref q.1) (ps.map fun q=>Value.ref q.1)
 |[]=>.nil
 |p::ps=>.cons rfl (m8 ps)
def wt (K:zac)(b:Bool):List V->Hp->VK->Prop:=fun vs H Q=>∃(p:Addr) (o:Obj) (ps:List (Addr×Th)),vs=[.ref p]/\H p=some (jz o)/\EJ b o ps/\Cg K H ps/\(ps.map (·.2)).Nodup/\ps.length < 64/\(2<=ps.length->∀p∈ps,p.2≠[]) /\
 ∀(l:Addr) (qs:List (Addr×Th)),H l=none->(∀q∈qs,q∈ps)->qs.map (·.2)=bD (ps.map (·.2))->Q (.ref l) (upd H l (.lst (qs.map fun q=>V.ref q.1)))
theorem t4 {X:Cx}(hc:X.calm=true):im X (.builtin "sorted") (wt X.K (!HS.bt X.w)):=by
 intro pins s σ H vs us Q I r h;obtain ⟨p,o,ps,rfl,hp,hS,hT,nd,h64,hne,q⟩:=h;obtain ⟨u,rfl,rx⟩:=l7 r;cases rx;have ho:s.heap.get? p=some o:=(I.hok p _ hp).1;refine rY (I.ok.hd hc) ho hS (fun q hq=>aD.tupA I (hT q hq)) nd h64 hne fun qs h' d tk l c a1 a2 a3 kp ht hl hL=>?_;have e:qs.map (·.2)=bD (ps.map (·.2)):=jy a3 (gq nd) (a2.trans (bT _).symm)
 have hlen:qs.length=ps.length:=by have:=a2.length_eq;simpa using this
 have I1:aD X pins σ (upd H l (.lst (qs.map fun q=>V.ref q.1))) {s with heap:=h',toks:=tk} :=
  I.laid (t':=tk) kp hl (show bE X.prog X.w _ h' _ (.lst _) from ⟨by rw [zal,hlen,zbh];omega,_,c,m8 qs,by simpa [seqObj] using hL⟩)
 exact ⟨.ref l,_,aD.drw I1 d,rfl,q _ qs (I.hok.fresh hl) a1 e⟩
def yO:D->Option (Th)
 |.tup xs=>fT xs
 |.key ks=>some ks
 |_=>none
def rQ:List D->Option (Ta)
 |[]=>some []
 |d::r=>(yO d).bind fun k=>(rQ r).bind fun ks=>some (k::ks)
abbrev kT (ks:Th):D:=.tup (ks.map .int)
theorem CC {K:zac}{H:Hp}{d:D}{ks:Th}{v:V}(e:yO d=some ks)(r:am K H d v):∃a,v=.ref a/\gG K H a (ks.map V.int):=by
 unfold yO at e;split at e
 ·simp only [am] at r
  obtain ⟨a,vs,rfl,h1,h2⟩:=r;rw [Bs e h2] at h1;exact ⟨a,rfl,h1⟩
 ·cases e
  simp only [am] at r;obtain ⟨a,rfl,h⟩:=r;exact ⟨a,rfl,.inl (.inl h)⟩
 ·cases e
theorem rP {K:zac}{H:Hp}:∀{ds:List D} {L:Ta} {vs:List V},rQ ds=some L->RelDs K H ds vs->∃ps:List (Addr×Th),vs=ps.map (fun q=>V.ref q.1)/\ps.map (·.2)=L/\Cg K H ps
 |[],L,vs,e,r=>by
  cases e;simp only [RelDs] at r;subst r;exact ⟨[],rfl,rfl,fun _ h=>nomatch h⟩
 |d::ds,L,vs,e,r=>by
  obtain ⟨k,e1,e⟩:=zaa.mp e;obtain ⟨ks,e2,e⟩:=zaa.mp e;cases e;simp only [RelDs] at r;obtain ⟨v,vr,rfl,r1,r2⟩:=r;obtain ⟨a,rfl,h1⟩:=CC e1 r1;obtain ⟨ps,rfl,rfl,h2⟩:=rP e2 r2
  exact ⟨(a,k)::ps,rfl,rfl,fun q hq=>by
   rcases zak.mp hq with rfl|hq
   ·exact h1
   ·exact h2 q hq⟩
theorem wS {K:zac}{H:Hp}:∀{qs:List (Addr×Th)},Cg K H qs->RelDs K H ((qs.map (·.2)).map kT) (qs.map fun q=>V.ref q.1)
 |[],_=>by simp only [zaY,RelDs]
 |q::qs,h=>by
  simp only [zaf,RelDs,am];exact ⟨_,_,rfl,⟨q.1,_,rfl,h q zah,nF⟩,wS fun p hp=>h p (zaj _ hp)⟩
end HW
namespace HS
open PySem PySem.Spec PyProof.Rows
theorem rA (t:SetTable)(i pb:Nat):∀(k j mo:Nat),k<=mo->bh t k {j:=j,more:=mo,i:=i,perturb:=pb,dummy:=none}={j:=j+k,more:=mo - k,i:=i,perturb:=pb,dummy:=none}
 |0,j,mo,_=>rfl
 |k+1,j,mo,h=>by
  have e:t.advance {j:=j,more:=mo,i:=i,perturb:=pb,dummy:=none}={j:=j+1,more:=mo - 1,i:=i,perturb:=pb,dummy:=none}:=by
   unfold SetTable.advance;rw [if_pos (by show mo > 0;omega)]
  show bh t k (t.advance _)=_
  rw [e,rA t i pb k (j+1) (mo - 1) (by omega)];simp only [SetTable.Probe.mk.injEq,and_true,true_and];omega
theorem vg {n k:Nat}{p:Nat->Bool}(h:(List.range n).find? p=some k):k < n/\p k=true/\∀x < k,p x=false:=by
 have h1:=zdj h;have h2:=List.mem_of_find?_eq_some h;refine ⟨by simpa using h2,h1,fun x hx=>?_⟩;rw [List.find?_range_eq_some] at h;have:=h.2.2 x hx;simpa using this
theorem n4 (t:SetTable)(owner:Array (Option Nat)):∀(fuel i p r:Nat),SetTable.layClean.free t.mask owner fuel i p=some r->∃n,(bh t n (fr t.mask i p)).j=r/\∀k < n,(owner.getD (bh t k (fr t.mask i p)).j (some 0)).isNone=false
 |0,i,p,r,e=>by simp [SetTable.layClean.free] at e
 |fuel+1,i,p,r,e=>by
  have hi:i<=SetTable.runEnd t.mask i:=by unfold SetTable.runEnd;split <;> omega
  unfold SetTable.layClean.free at e;split at e
  ·rename_i k hk
   cases e;obtain ⟨k1,k2,k3⟩:=vg hk;refine ⟨k,?_,fun x hx=>?_⟩
   ·unfold fr;rw [rA _ _ _ _ _ _ (by omega)]
   ·unfold fr;rw [rA _ _ _ _ _ _ (by omega)];exact k3 x hx
  ·rename_i hk
   obtain ⟨n,n1,n2⟩:=n4 t owner fuel _ _ r e;have hall:=List.find?_eq_none.mp hk;refine ⟨(SetTable.runEnd t.mask i - i+1)+n,?_,fun x hx=>?_⟩
   ·rw [jl];unfold fr at n1 ⊢;rw [m5];exact n1
   ·by_cases c:x < SetTable.runEnd t.mask i - i+1
    ·unfold fr;rw [rA _ _ _ _ _ _ (by omega)]
     exact Bool.eq_false_iff.mpr (hall x (by rw [zbp];omega))
    ·have hx':x=(SetTable.runEnd t.mask i - i+1)+(x - (SetTable.runEnd t.mask i - i+1)):=by omega
     rw [hx',jl];have:=n2 (x - (SetTable.runEnd t.mask i - i+1)) (by omega);unfold fr at this ⊢;rw [m5];exact this
structure JS (m:Nat)(p:SetTable.Probe):Prop where
 j:p.j+p.more<=m
 i:p.i<=m
theorem AC {m i p:Nat}(h:i<=m):JS m (fr m i p):=⟨by
 show i+(SetTable.runEnd m i - i)<=m
 unfold SetTable.runEnd;split <;> omega,h⟩
theorem Dw {t:SetTable}{p:SetTable.Probe}(h:JS t.mask p):JS t.mask (t.advance p):=by
 unfold SetTable.advance;split
 ·have:=h.j;exact ⟨by show p.j+1+(p.more - 1)<=t.mask;omega,h.i⟩
 ·have hl:(SetTable.leap t.mask p.i p.perturb).1<=t.mask:=by
   unfold SetTable.leap;have:=zct (p.i * 5+1+p.perturb / 32) (show 0 < t.mask+1 by omega)
   show _ % _<=_
   omega
  exact ⟨(AC (p:=0) hl).j,hl⟩
theorem sA {t:SetTable}:∀(n:Nat) {p:SetTable.Probe},JS t.mask p->JS t.mask (bh t n p)
 |0,_,h=>h
 |n+1,_,h=>sA n (Dw h)
theorem xR (t:SetTable)(h:Int):JS t.mask (t.probeStart h):=by
 rw [kQ];exact AC (by have:=zct (SetTable.bits h) (show 0 < t.mask+1 by omega);omega)
theorem oB {t u:SetTable}(h:t.mask=u.mask):∀(n:Nat) (p:SetTable.Probe),bh t n p=bh u n p
 |0,_=>rfl
 |n+1,p=>by
  have e:t.advance p=u.advance p:=by unfold SetTable.advance;rw [h]
  show bh t n (t.advance p)=bh u n (u.advance p)
  rw [e];exact oB h n _
theorem nu {t u:SetTable}(h:t.mask=u.mask)(x:Int):t.probeStart x=u.probeStart x:=by unfold SetTable.probeStart;rw [h]
def p8 (t:SetTable)(h:Int)(j:Nat):Prop:=∃n,(bh t n (t.probeStart h)).j=j/\∀k < n,t.slot (bh t k (t.probeStart h)).j≠.empty
def NR (t:SetTable)(owner:Array (Option Nat))(h:Int)(j:Nat):Prop:=∃n,(bh t n (t.probeStart h)).j=j/\∀k < n,(owner.getD (bh t k (t.probeStart h)).j (some 0)).isNone=false
theorem xn {t:SetTable}{owner:Array (Option Nat)}{h:Int}{j r k:Nat}(c:NR t owner h j):NR t (owner.setIfInBounds r (some k)) h j:=by
 obtain ⟨n,n1,n2⟩:=c;refine ⟨n,n1,fun x hx=>?_⟩;have:=n2 x hx;generalize (bh t x (t.probeStart h)).j=y at *;simp only [zaP,zcW] at this ⊢
 by_cases e:r=y
 ·subst e
  split
  ·split <;> simp
  ·rename_i hne;exact absurd rfl hne
 ·rw [if_neg e];exact this
theorem n5 {t:SetTable}:∀(hs:Th) (all:Th) (owner owner':Array (Option Nat)) (k k':Nat),owner.size=t.mask+1->all.drop k=hs->(∀j k',owner[j]?=some (some k')->k' < k/\∃h,all[k']?=some h/\NR t owner h j) ->
  (hs.foldl (init:=some (owner,k)) fun acc h=>do
   let (owner,k) ←acc
   let j ←SetTable.layClean.free t.mask owner (SetTable.turns t.mask) (SetTable.bits h % (t.mask+1)) (SetTable.bits h)
   pure (owner.setIfInBounds j (some k),k+1))=some (owner',k') ->
  ∀j k',owner'[j]?=some (some k')->∃h,all[k']?=some h/\NR t owner' h j
 |[],all,owner,owner',k,k',hz,hd,inv,e=>by
  cases e;exact fun j k' q=>(inv j k' q).2
 |h::hs,all,owner,owner',k,k',hz,hd,inv,e=>by
  rw [zbf] at e
  have hk:all[k]?=some h:=by
   have:=congrArg (fun l=>l[0]?) hd;simpa using this
  cases ef:SetTable.layClean.free t.mask owner (SetTable.turns t.mask) (SetTable.bits h % (t.mask+1)) (SetTable.bits h) with
  |none =>
   exfalso
   have stuck:∀l:Th,(l.foldl (init:=(none:Option (Array (Option Nat)×Nat))) fun acc h=>do
    let (owner,k) ←acc
    let j ←SetTable.layClean.free t.mask owner (SetTable.turns t.mask) (SetTable.bits h % (t.mask+1)) (SetTable.bits h)
    pure (owner.setIfInBounds j (some k),k+1))=none:=by
    intro l
    induction l with
    |nil=>rfl
    |cons x l ih=>exact ih
   simp only [bind,Option.bind,ef] at e;have:=stuck hs
   simp only [bind,Option.bind] at this
   rw [this] at e;cases e
  |some r =>
   simp only [bind,Option.bind,ef,pure] at e;refine n5 hs all (owner.setIfInBounds r (some k)) owner' (k+1) k' (by simpa using hz) ?_ ?_ (by simpa only [bind,Option.bind,pure] using e)
   ·rw [←List.drop_drop,hd];rfl
   ·intro j k'' q
    obtain ⟨n,n1,n2⟩:=n4 t owner _ _ _ _ ef;rw [zcW] at q
    by_cases c:r=j
    ·subst c
     rw [if_pos rfl] at q;split at q
     ·cases q
      exact ⟨by omega,h,hk,xn ⟨n,by rw [kQ];exact n1,fun x hx=>by rw [kQ];exact n2 x hx⟩⟩
     ·cases q
    ·rw [if_neg c] at q
     obtain ⟨q1,h',q2,q3⟩:=inv j k'' q;exact ⟨by omega,h',q2,xn q3⟩
theorem lg {t:SetTable}(hd:t.dummies = #[])(hs:t.place.toList.Pairwise (· < ·))(j:Nat):t.slot j≠.empty ↔ j∈t.place.toList:=by
 obtain ⟨b1,b2,b3⟩:=lE j hs;constructor
 ·intro h
  rcases cG t hd j with ⟨c,_⟩|⟨_,c⟩
  ·exact absurd c h
  ·exact zbC.mpr (zcJ c)
 ·intro h e
  rcases cG t hd j with ⟨_,c⟩|⟨c,_⟩
  ·obtain ⟨i,hi,q⟩:=zck.mp h
   rw [zaN] at hi;rw [zbs] at q
   have h1:¬ i < SetTable.below t.place j:=fun z=>by have:=b2 i hi z;omega
   by_cases h2:i=SetTable.below t.place j
   ·subst h2
    exact c (by rw [zap hi,q])
   ·have hb:SetTable.below t.place j < t.place.size:=by omega
    have h3:=b3 _ hb (zao _);have h4:=zbc.mp hs (SetTable.below t.place j) i (by rw [zaN];exact hb) (by rw [zaN];exact hi) (by omega);simp only [zbs] at h4;omega
  ·rw [c] at e;cases e
theorem u0 {m finger moves:Nat}{led plain:Bool}{hs:Array Int}{t:SetTable}{o:Array Nat}(hm:m∈eP)(hl:hs.size<=m)(e:SetTable.laid m finger moves led plain hs=some (t,o))(i j k:Nat)(hj:t.place[i]?=some j)(hk:o[i]?=some k):∃h,hs[k]?=some h/\p8 t h j:=by
 have hr:=(nP e).1;obtain ⟨owner,e1,e2,e3⟩:=tU hm hs (by omega)
 have hlaid:SetTable.laid m finger moves led plain hs=some (({mask:=m,place:=((c7 (m+1) owner).map (·.1)).toArray,dummies:=#[],finger,led,moves,plain}:SetTable),((c7 (m+1) owner).map (·.2)).toArray):=by
  unfold SetTable.laid;rw [e1];rfl
 rw [hlaid] at e;cases e
 have live:∀y z,(y,z)∈c7 (m+1) owner ↔ owner[y]?=some (some z):=fun y z=>by
  unfold c7;rw [zcX];constructor
  ·rintro ⟨x,hx,q⟩
   obtain ⟨z',q1,q2⟩:=zaM.mp q;cases q2;rw [zaP] at q1
   cases q0:owner[y]? with
   |none=>rw [q0] at q1;cases q1
   |some u=>rw [q0] at q1;simp only [zbt] at q1;rw [q1]
  ·intro q
   have hy:y < owner.size:=(zbb.mp q).1;exact ⟨y,by rw [zbp];omega,by rw [zaP,q];rfl⟩
 have hjk:(j,k)∈c7 (m+1) owner:=by
  simp only [List.getElem?_toArray,zaS] at hj hk;obtain ⟨p,p1,p2⟩:=zaM.mp hj;obtain ⟨q,q1,q2⟩:=zaM.mp hk;rw [p1] at q1;cases q1;cases p2;cases q2;exact zaH p1
 have hown:=(live j k).mp hjk;generalize ht:(({mask:=m,place:=((c7 (m+1) owner).map (·.1)).toArray,dummies:=#[],finger,led,moves,plain}:SetTable))=t at *
 have htm:t.mask=m:=by rw [←ht]
 have htd:t.dummies = #[]:=by rw [←ht]
 have htp:∀y,y∈t.place.toList ↔ ∃z,owner[y]?=some (some z):=fun y=>by
  rw [←ht];simp only [List.toList_toArray,zar];constructor
  ·rintro ⟨⟨y',z⟩,q1,q2⟩;cases q2;exact ⟨z,(live _ _).mp q1⟩
  ·rintro ⟨z,q⟩;exact ⟨(y,z),(live _ _).mpr q,rfl⟩
 obtain ⟨k',ef⟩:∃k',(hs.toList.foldl (init:=some (Array.replicate (t.mask+1) none,0)) fun acc h=>do
   let (owner,k) ←acc
   let j ←SetTable.layClean.free t.mask owner (SetTable.turns t.mask) (SetTable.bits h % (t.mask+1)) (SetTable.bits h)
   pure (owner.setIfInBounds j (some k),k+1))=some (owner,k'):=by
  rw [htm];unfold SetTable.layClean at e1;rw [←Array.foldl_toList] at e1;obtain ⟨p,p1,p2⟩:=zaM.mp e1;exact ⟨p.2,by rw [p1,←p2]⟩
 obtain ⟨h,h1,n,n1,n2⟩:=n5 hs.toList hs.toList (Array.replicate (t.mask+1) none) owner 0 k' (by simp) rfl (fun j' k'' q=>by
  simp [Array.getElem?_replicate] at q) ef j k hown
 refine ⟨h,by simpa using h1,n,n1,fun x hx=>(lg htd hr _).mpr ((htp _).mpr ?_)⟩;have hb:=(sA x (xR t h)).j;have hq:=n2 x hx
 have hy:(bh t x (t.probeStart h)).j < owner.size:=by omega
 rw [zaP,zap hy,zbt] at hq
 cases q:owner[(bh t x (t.probeStart h)).j] with
 |none=>rw [q] at hq;cases hq
 |some z=>exact ⟨z,by rw [zap hy,q]⟩
def Co (es:Array (Int×Value))(t:SetTable):Prop:=∀(i:Nat) (e:Int×Value) (j:Nat),es[i]?=some e->t.place[i]?=some j->p8 t e.1 j
theorem vI {t u:SetTable}(hm:t.mask=u.mask)(h:∀x,t.slot x≠.empty->u.slot x≠.empty){hv:Int}{j:Nat}(c:p8 t hv j):p8 u hv j:=by
 obtain ⟨n,n1,n2⟩:=c;refine ⟨n,by rw [←nu hm,←oB hm];exact n1,fun k hk=>?_⟩;rw [←nu hm,←oB hm];exact h _ (n2 k hk)
theorem Bt {α:Type}(xs:Array α)(p:Nat)(x:α)(hp:p<=xs.size)(i:Nat):(SetTable.insertAt xs p x)[i]?=if i < p then xs[i]? else if i=p then some x else xs[i - 1]?:=by
 rw [←za4,SetTable.toList_insertAt]
 have hl:(xs.toList.take p).length=p:=by rw [zbO,zaN];omega
 by_cases h:i < p
 ·rw [if_pos h,zai (by omega),List.getElem?_take,if_pos h,za4]
 ·rw [if_neg h,zaO (by omega),hl]
  by_cases h2:i=p
  ·subst h2;simp
  ·rw [if_neg h2,List.getElem?_cons]
   rw [if_neg (by omega),List.getElem?_drop,za4]
   congr 1;omega
theorem xP {es:Array (Int×Value)}{t:SetTable}{hv:Int}{v:Value}{j:Nat}(hd:t.dummies = #[])(hs:t.place.toList.Pairwise (· < ·))(hsz:t.place.size=es.size)(hfree:t.place[SetTable.below t.place j]?≠some j)(c:Co es t)(hn:p8 t hv j) :
  Co (SetTable.insertAt es (SetTable.below t.place j) (hv,v)) {t with place:=SetTable.insertAt t.place (SetTable.below t.place j) j,plain:=true}:=by
 obtain ⟨b1,_,_⟩:=lE j hs
 have more:∀x,t.slot x≠.empty->({t with place:=SetTable.insertAt t.place (SetTable.below t.place j) j,plain:=true}:SetTable).slot x≠.empty:=fun x hx=>by
  refine (lg (t:={t with place:=SetTable.insertAt t.place (SetTable.below t.place j) j,plain:=true}) hd (lu hs hfree) x).mpr ?_;have:=(lg hd hs x).mp hx;refine (SetTable.insertAt_perm t.place (SetTable.below t.place j) j).mem_iff.mpr ?_;rw [zc8];exact zbr _ this
 intro i e j' h1 h2;rw [Bt _ _ _ (by omega)] at h1;have h2:(SetTable.insertAt t.place (SetTable.below t.place j) j)[i]?=some j':=h2;rw [Bt _ _ _ b1] at h2;refine vI (t:=t) (u:={t with place:=SetTable.insertAt t.place (SetTable.below t.place j) j,plain:=true}) rfl more ?_
 by_cases q:i < SetTable.below t.place j
 ·rw [if_pos q] at h1 h2;exact c i e j' h1 h2
 ·rw [if_neg q] at h1 h2
  by_cases q2:i=SetTable.below t.place j
  ·rw [if_pos q2] at h1 h2
   cases h1;cases h2;exact hn
  ·rw [if_neg q2] at h1 h2;exact c _ e j' h1 h2
theorem vf {t:SetTable}(HA:Nat->Int)(h:Int)(hd:t.dummies = #[]){p:SetTable.Probe}(hp:p.dummy=none):∀(f m:Nat) {met:SetTable.Met},SetTable.probe.go t HA h f (bh t m p)=some met ->
  ∃n,m<=n/\(∀k,m<=k->k < n->∃i,t.slot (bh t k p).j=.live i/\HA i≠h) /\
   ((met=.empty (bh t n p).j none/\t.slot (bh t n p).j=.empty)\/∃i,met=.candidate (bh t n p).j i (bh t (n+1) p)/\t.slot (bh t n p).j=.live i/\HA i=h)
 |0,m,met,e=>by simp [SetTable.probe.go] at e
 |f+1,m,met,e=>by
  unfold SetTable.probe.go at e;rcases cG t hd (bh t m p).j with ⟨c,_⟩|⟨c,c'⟩
  ·rw [c] at e
   cases e;exact ⟨m,zao _,fun k h1 h2=>by omega,.inl ⟨by rw [kC,hp],c⟩⟩
  ·rw [c] at e
   dsimp only at e;split at e
   ·rename_i q
    cases e;exact ⟨m,zao _,fun k h1 h2=>by omega,.inr ⟨_,by rw [jD],c,by simpa using q⟩⟩
   ·rename_i q
    rw [←jD] at e;obtain ⟨n,n1,n2,n3⟩:=vf HA h hd hp f (m+1) e;refine ⟨n,by omega,fun k h1 h2=>?_,n3⟩
    by_cases z:k=m
    ·subst z;exact ⟨_,c,by simpa using q⟩
    ·exact n2 k (by omega) h2
section
variable  {prog:Program}{w:World}{A:Around}{E:Tb}{s:Shared}
theorem wK {t:SetTable}(hd:t.dummies = #[])(hs:t.place.toList.Pairwise (· < ·)){i j:Nat}(h:t.place[i]?=some j):t.slot j=.live i:=by
 have hm:j∈t.place.toList:=zbC.mpr (zcJ h);rcases cG t hd j with ⟨c,_⟩|⟨c,c'⟩
 ·exact absurd c ((lg hd hs j).mpr hm)
 ·rw [c]
  congr 1
  obtain ⟨a1,a2⟩:=zbb.mp h;obtain ⟨b1,b2⟩:=zbb.mp c';rcases zcv (SetTable.below t.place j) i with z|z|z
  ·have:=zbc.mp hs _ _ (by rw [zaN];exact b1) (by rw [zaN];exact a1) z
   simp only [zbs] at this;omega
  ·exact z
  ·have:=zbc.mp hs _ _ (by rw [zaN];exact a1) (by rw [zaN];exact b1) z
   simp only [zbs] at this;omega
theorem sd {S a b0:Addr}{led:Bool}{o:Obj}{es:Array (Int×Value)}{ep:Nat}{t:SetTable}{vs:Te}{ks:Th}{hv:Int}{i0 j0 n0:Nat}{Q:SetFound->Shared->Prop}(hu:A.units < cLine)(ho:s.heap.get? S=some o)(hd:o.data=.set es ep t)(T:uc prog w led s.heap es t vs)(ha:jW prog w s.heap ks a)
  (he0:es[i0]?=some (hv,.ref b0)) (hb0:jW prog w s.heap ks b0) (hj0:t.place[i0]?=some j0) (c1:(bh t n0 (t.probeStart hv)).j=j0) (c2:∀k < n0,t.slot (bh t k (t.probeStart hv)).j≠.empty) (hN:n0 < 10 * SetTable.turns t.mask) (h:Q (.there none) s) :
  ∀(fuel m:Nat) (stand:Option SetTable.Probe),m<=n0->n0 - m < fuel->stand.getD (t.probeStart hv)=bh t m (t.probeStart hv)->wpAny (model prog w) A (setSearchFrom S (.ref a) hv true fuel stand) Q E s
 |0,m,_,_,h2,_=>by omega
 |fuel+1,m,stand,h1,h2,h3=>by
  have hsz:t.place.size=es.size:=by have:=T.W.ft;simp [SetTable.fits] at this;exact this.1
  have hrs:=T.W.rs T.pl
  have hl0:t.slot (bh t n0 (t.probeStart hv)).j=.live i0:=by rw [c1];exact wK T.dm hrs hj0
  have hh0:(es[i0]?.map (·.1)).getD 0=hv:=by rw [he0];rfl
  unfold setSearchFrom;refine zab (zaL ho hd T.W.ft ?_);dsimp only;rw [if_neg (by unfold SetTable.gaveWay;rw [sI _ T.ms];exact zbd),h3];split
  ·rename_i met hm
   unfold SetTable.probe at hm;obtain ⟨n,n1,n2,n3⟩:=vf _ hv T.dm (p:=t.probeStart hv) rfl _ m hm
   have hn:n<=n0:=by
    rcases zb3 n0 n with z|z
    ·obtain ⟨i,q1,q2⟩:=n2 n0 h1 z
     rw [hl0] at q1;cases q1;exact absurd hh0 q2
    ·exact z
   rcases n3 with ⟨rfl,hj⟩|⟨i,rfl,hl,hq⟩
   ·exfalso
    rcases zcq hn with z|z
    ·exact c2 n z hj
    ·rw [z,hl0] at hj;cases hj
   ·dsimp only
    have hi:i < es.size:=by
     rcases cG t T.dm (bh t n (t.probeStart hv)).j with ⟨c,_⟩|⟨c,c'⟩
     ·rw [c] at hl;cases hl
     ·rw [c] at hl
      cases hl;rw [←hsz];exact (zbb.mp c').1
    have hel:=T.el es[i] (by simp);obtain ⟨b,ls,hb,hB⟩:=hel
    have hes:es[i]?=some (es[i].1,.ref b):=by rw [zap hi,←hb]
    have rest:wpAny (model prog w) A (match es[i]? with
     |some (fst,y)=>do
      let equal ←holding [y] (eqBool y (Value.ref a))
      let __x ←setState S
      match __x with
       |(es',fst,t') =>
        if (true && equal)=true then pure (SetFound.there none)
        else match t'.sameMemory t.moves t.mask with
         |some same=>do
          let still ←match if same=true then t'.slot (bh t n (t.probeStart hv)).j else SetTable.Slot.empty with
           |SetTable.Slot.live i'=>match es'[i']? with
            |some (fst,y')=>do
             let __do_lift ←isSame y' y
             pure (if __do_lift=true then some i' else none)
            |none=>pure none
           |_=>pure none
          match still with
           |none=>do
            rule "set.search.anew"
            setSearchFrom S (Value.ref a) hv true fuel none
           |some i'=>if equal=true then pure (SetFound.there (some i')) else setSearchFrom S (Value.ref a) hv true fuel (some (bh t (n+1) (t.probeStart hv)))
         |_=>unsupported "set.changed-during-lookup:is-the-new-block-at-the-old-address"
     |_=>unsupported "internal:set-entry") Q E s:=by
     rw [hes];dsimp only;refine zab (zaF (wpAny_eqBool_tuple hu hB ha ?_))
     by_cases hk:ls=ks
     ·rw [zaQ hk]
      refine zab (zaL ho hd T.W.ft ?_);dsimp only;rw [if_pos (by decide)];exact zad h
     rw [zaK hk]
     have hnn:n < n0:=by
      rcases zcq hn with z|z
      ·exact z
      ·exfalso
       rw [z,hl0] at hl;cases hl;rw [hes] at he0;cases he0;exact hk (IsTupleKey.inj hB hb0)
     refine zab (zaL ho hd T.W.ft ?_);dsimp only;rw [if_neg (by decide)]
     have hsm:t.sameMemory t.moves t.mask=some true:=by unfold SetTable.sameMemory;rw [if_pos (by simp)]
     rw [hsm];dsimp only;rw [if_pos rfl,hl];dsimp only;rw [hes];dsimp only;refine zab (wpAny_isSame_ref_self (zab (zad ?_)));rw [if_pos (by simp)];dsimp only;rw [if_neg (by decide)];exact sd hu ho hd T ha he0 hb0 hj0 c1 c2 hN h fuel (n+1) _ hnn (by omega) rfl
    split
    ·refine zab (rH ha (fun y hy=>?_) ?_)
     ·obtain ⟨e,he,rfl⟩:=zar.mp hy
      have:e∈es.toList:=by have:=zbC.mp he;rw [Array.mem_filter] at this;exact zbC.mpr this.1
      obtain ⟨b',ls',e1,e2⟩:=T.el e this;exact ⟨b',ls',e1,e2⟩
     ·simp only [zan,if_false]
      exact rest
    ·exact rest
  ·rename_i hm
   exfalso
   unfold SetTable.probe at hm;obtain ⟨N,hN',hE⟩:=vC T.ms T.dm (by have:=T.lo;omega) hv
   have hmN:m<=N:=by
    rcases zb3 N n0 with z|z
    ·exact absurd hE (c2 N z)
    ·omega
   exact (wV (f:=10 * SetTable.turns t.mask) T.dm (p:=t.probeStart hv) rfl hE hmN (by omega)).elim fun met e=>hm met e
theorem se {S a:Addr}{led:Bool}{o:Obj}{es:Array (Int×Value)}{ep:Nat}{t:SetTable}{vs:Te}{ks:Th}{hv:Int}{Q:SetFound->Shared->Prop}(hu:A.units < cLine)(ho:s.heap.get? S=some o)(hd:o.data=.set es ep t)(T:uc prog w led s.heap es t vs)(ha:jW prog w s.heap ks a)
  (hne:∀b ls,Value.ref b∈vs->jW prog w s.heap ls b->ls≠ks) {N:Nat} (hE:t.slot (bh t N (t.probeStart hv)).j=.empty) (hN:N < 10 * SetTable.turns t.mask) (h:∀j,t.slot j=.empty->p8 t hv j->Q (.free j false) s) :
  ∀(fuel m:Nat) (stand:Option SetTable.Probe),m<=N->(∀k < m,t.slot (bh t k (t.probeStart hv)).j≠.empty)->N - m < fuel->stand.getD (t.probeStart hv)=bh t m (t.probeStart hv)->wpAny (model prog w) A (setSearchFrom S (.ref a) hv true fuel stand) Q E s
 |0,m,_,_,_,h2,_=>by omega
 |fuel+1,m,stand,h1,hac,h2,h3=>by
  have hsz:t.place.size=es.size:=by have:=T.W.ft;simp [SetTable.fits] at this;exact this.1
  unfold setSearchFrom;refine zab (zaL ho hd T.W.ft ?_);dsimp only;rw [if_neg (by unfold SetTable.gaveWay;rw [sI _ T.ms];exact zbd),h3];split
  ·rename_i met hm
   unfold SetTable.probe at hm;obtain ⟨n,n1,n2,n3⟩:=vf _ hv T.dm (p:=t.probeStart hv) rfl _ m hm
   have hacc:∀k < n,t.slot (bh t k (t.probeStart hv)).j≠.empty:=fun k hk=>by
    rcases zb3 k m with z|z
    ·exact hac k z
    ·obtain ⟨i,q1,_⟩:=n2 k z hk
     rw [q1];exact fun z=>by cases z
   rcases n3 with ⟨rfl,hj⟩|⟨i,rfl,hl,hq⟩
   ·exact zad (h _ hj ⟨n,rfl,hacc⟩)
   ·dsimp only
    have hi:i < es.size:=by
     rcases cG t T.dm (bh t n (t.probeStart hv)).j with ⟨c,_⟩|⟨c,c'⟩
     ·rw [c] at hl;cases hl
     ·rw [c] at hl
      cases hl;rw [←hsz];exact (zbb.mp c').1
    have hel:=T.el es[i] (by simp);obtain ⟨b,ls,hb,hB⟩:=hel
    have hes:es[i]?=some (es[i].1,.ref b):=by rw [zap hi,←hb]
    have hvs:Value.ref b∈vs:=T.pm.mem_iff.mp (zar.mpr ⟨es[i],by simp,hb⟩)
    have rest:wpAny (model prog w) A (match es[i]? with
     |some (fst,y)=>do
      let equal ←holding [y] (eqBool y (Value.ref a))
      let __x ←setState S
      match __x with
       |(es',fst,t') =>
        if (true && equal)=true then pure (SetFound.there none)
        else match t'.sameMemory t.moves t.mask with
         |some same=>do
          let still ←match if same=true then t'.slot (bh t n (t.probeStart hv)).j else SetTable.Slot.empty with
           |SetTable.Slot.live i'=>match es'[i']? with
            |some (fst,y')=>do
             let __do_lift ←isSame y' y
             pure (if __do_lift=true then some i' else none)
            |none=>pure none
           |_=>pure none
          match still with
           |none=>do
            rule "set.search.anew"
            setSearchFrom S (Value.ref a) hv true fuel none
           |some i'=>if equal=true then pure (SetFound.there (some i')) else setSearchFrom S (Value.ref a) hv true fuel (some (bh t (n+1) (t.probeStart hv)))
         |_=>unsupported "set.changed-during-lookup:is-the-new-block-at-the-old-address"
     |_=>unsupported "internal:set-entry") Q E s:=by
     rw [hes];dsimp only;refine zab (zaF (wpAny_eqBool_tuple hu hB ha ?_));rw [zaK (hne b ls hvs hB)];refine zab (zaL ho hd T.W.ft ?_);dsimp only;rw [if_neg (by decide)]
     have hsm:t.sameMemory t.moves t.mask=some true:=by unfold SetTable.sameMemory;rw [if_pos (by simp)]
     rw [hsm];dsimp only;rw [if_pos rfl,hl];dsimp only;rw [hes];dsimp only;refine zab (wpAny_isSame_ref_self (zab (zad ?_)));rw [if_pos (by simp)];dsimp only;rw [if_neg (by decide)]
     have hnN:n < N:=by
      rcases zcv n N with z|z|z
      ·exact z
      ·rw [z,hE] at hl;cases hl
      ·exact absurd hE (hacc N z)
     exact se hu ho hd T ha hne hE hN h fuel (n+1) _ hnN (fun k hk=>by
      rcases zcq (Nat.le_of_lt_succ hk) with z|z
      ·exact hacc k z
      ·rw [z,hl];exact fun z=>by cases z) (by omega) rfl
    split
    ·refine zab (rH ha (fun y hy=>?_) ?_)
     ·obtain ⟨e,he,rfl⟩:=zar.mp hy
      have:e∈es.toList:=by have:=zbC.mp he;rw [Array.mem_filter] at this;exact zbC.mpr this.1
      obtain ⟨b',ls',e1,e2⟩:=T.el e this;exact ⟨b',ls',e1,e2⟩
     ·simp only [zan,if_false]
      exact rest
    ·exact rest
  ·rename_i hm
   exfalso
   unfold SetTable.probe at hm;exact (wV (f:=10 * SetTable.turns t.mask) T.dm (p:=t.probeStart hv) rfl hE h1 (by omega)).elim fun met e=>hm met e
theorem CV {led:Bool}{S:Addr}{o:Obj}{es:Array (Int×Value)}{ep:Nat}{t:SetTable}{vs:Te}{wanted:Nat}{Q:Unit->Shared->Prop}(ho:s.heap.get? S=some o)(hx:o.ExactSet)(hd:o.data=.set es ep t)(G:lF led es t)(hpl:t.plain=true)(hpm:(es.toList.map (·.2)).Perm vs)(hel:∀e∈es.toList,∃b ls,e.2=.ref b/\jW prog w s.heap ls b)(hw:wanted < 256)(hl:vs.length * 4<=wanted)
  (h:∀h' es' t',Heap.SameBut S s.heap h'->h'.get? S=some {o with data:=.set es' (ep+1) t'}->uc prog w led h' es' t' vs->Co es' t'->es'.toList.Perm es.toList->Q () {s with heap:=h'}) :
  wpAny (model prog w) A (setRelay S wanted) Q E s:=by
 obtain ⟨m1,m2,m3⟩:=Cd wanted hw;have m7:7<=SetTable.sizeAbove wanted - 1:=(by decide:∀m∈eP,7<=m) _ m1
 have hlen:es.size=vs.length:=by have:=hpm.length_eq;simpa using this
 unfold setRelay;refine zab (zaL ho hd G.ft ?_);dsimp only;rw [if_neg (by rw [zbh];omega)];obtain ⟨t',ord,e,q1,q2,q3,q4,q5,q6,q7,q8⟩:=DY (finger:=t.finger) (moves:=t.movedTo (SetTable.sizeAbove wanted - 1)) (led:=t.led) (plain:=t.plain) m1 (es.map (·.1)) (by rw [Array.size_map];omega);rw [Array.size_map] at q1 q2 q8
 have hp:(ord.filterMap (es[·]?)).toList.Perm es.toList:=by rw [Array.toList_filterMap];exact jf q1
 have hall:∀k∈ord.toList,k < es.size:=fun k hk=>by simpa using q1.mem_iff.mp hk
 have hfm:∀(l:List Nat),(∀k∈l,k < es.size)->∀(i:Nat) (e:Int×Value),(l.filterMap (es[·]?))[i]?=some e->∃k:Nat,l[i]?=some k/\es[k]?=some e:=by
  intro l
  induction l with
  |nil=>intro _ i e q;simp at q
  |cons x l ih =>
   intro hl i e q;obtain ⟨ex,hx⟩:∃ex,es[x]?=some ex:=⟨_,zap (hl x zah)⟩;rw [za6,hx] at q
   cases i with
   |zero=>simp only [zb9,Option.some.injEq] at q;subst q;exact ⟨x,rfl,hx⟩
   |succ i=>simp only [List.getElem?_cons_succ] at q ⊢;exact ih (fun k hk=>hl k (zaj _ hk)) i e q
 have hch:Co (ord.filterMap (es[·]?)) t':=fun i x j h1 h2=>by
  rw [←za4,Array.toList_filterMap] at h1;obtain ⟨k,k1,k2⟩:=hfm ord.toList hall i x h1;obtain ⟨hx',z1,z2⟩:=u0 m1 (by rw [Array.size_map];omega) e i j k h2 (by rw [←za4];exact k1);rw [Array.getElem?_map,k2] at z1;cases z1;exact z2
 have hsz:(ord.filterMap (es[·]?)).size=es.size:=by have:=hp.length_eq;rwa [zaN,zaN] at this
 have e':t.relaid (es.map (·.1)) wanted=some (t',ord):=e;rw [e'];refine zab (show wpAny _ _ (if ((ord.filterMap (es[·]?)).size != es.size)=true then (do unsupported "internal:set-table-lost-an-element";pure (ord.filterMap (es[·]?),t')) else pure (ord.filterMap (es[·]?),t')) _ _ _ from ?_);rw [if_neg (by simp [hsz])];refine zad (hX ho hx hd (by rw [hsz];exact G.bd) fun h' b1 g1=>?_);refine h h' _ t' b1 g1 ⟨⟨by rw [hsz];exact G.bd,by rw [hsz];exact q2,fun _=>q3,q4.trans G.ld⟩,by rw [q6];exact m1,q7,q5.trans hpl,by rw [q8,q6];omega,(hp.map _).trans hpm,fun x hx'=>?_⟩ hch hp;obtain ⟨b,ls,e1,e2⟩:=hel x (hp.mem_iff.mp hx');exact ⟨b,ls,e1,e2.same ho hd b1⟩
structure ud (prog:Program)(w:World)(TH:List Int->Int)(led:Bool)(h:Heap)(es:Array (Int×Value))(t:SetTable)(vs:Te):Prop where
 T:uc prog w led h es t vs
 ch:Co es t
 hh:∀e∈es.toList,∃b ls,e.2=.ref b/\jW prog w h ls b/\e.1=TH ls
theorem Mt {S a:Addr}{led:Bool}{o:Obj}{es:Array (Int×Value)}{ep:Nat}{t:SetTable}{vs:Te}{ks:Th}{TH:List Int->Int}{Q:Bool->Shared->Prop}(hu:A.units < cLine)(ho:s.heap.get? S=some o)(hx:o.ExactSet)(hd:o.data=.set es ep t)(TC:ud prog w TH led s.heap es t vs)(ha:jW prog w s.heap ks a)
  (hne:∀b ls,Value.ref b∈vs->jW prog w s.heap ls b->ls≠ks) (hl:vs.length < 63)
  (h:∀h' es' ep' t',Heap.SameBut S s.heap h'->h'.get? S=some {o with data:=.set es' ep' t'}->ud prog w TH led h' es' t' (vs++[.ref a])->Q true {s with heap:=h'}) :
  wpAny (model prog w) A (setAddHashed S (.ref a) (TH ks)) Q E s:=by
 obtain ⟨T,Tch,Thh⟩:=TC;generalize hhv:TH ks=hv
 have hlen:es.size=vs.length:=by have:=T.pm.length_eq;simpa using this
 have hsz:t.place.size=es.size:=by have:=T.W.ft;simp [SetTable.fits] at this;exact this.1
 have hlo:=T.lo;obtain ⟨N,hN,hE⟩:=vC T.ms T.dm (by omega) hv
 have hsb:10 * SetTable.turns t.mask<=2700:=by
  have:∀m∈eP,10 * SetTable.turns m<=2700:=by decide
  exact this _ T.ms
 unfold setAddHashed setAddHashedIn;refine zaF (zab (zaL ho hd T.W.ft ?_));dsimp only;rw [if_neg (by unfold byScan Value.scannable;simp)];unfold setSearch;refine zab (se hu ho hd T ha hne hE hN (fun j hj hc=>?_) 100000 0 none (za3 _) (fun k hk=>by omega) (by omega) rfl);dsimp only;refine zab (zaL ho hd T.W.ft ?_)
 have hfree:t.place[SetTable.below t.place j]?≠some j:=by
  rcases cG t T.dm j with ⟨_,c⟩|⟨c,_⟩
  ·exact c
  ·rw [c] at hj;cases hj
 have hput:t.put j=({t with place:=SetTable.insertAt t.place (SetTable.below t.place j) j},SetTable.below t.place j):=by
  unfold SetTable.put;rw [T.dm,wU];simp only [zan,if_false]
 dsimp only;rw [hput];dsimp only;rw [T.pl,if_pos rfl];refine zab (xw ha ?_);rw [if_pos rfl];have pe:=SetTable.insertAt_perm es (SetTable.below t.place j) (hv,Value.ref a);rw [zc8] at pe;have pp:=SetTable.insertAt_perm t.place (SetTable.below t.place j) j
 have s1:(SetTable.insertAt es (SetTable.below t.place j) (hv,Value.ref a)).size=es.size+1:=by have:=pe.length_eq;simpa using this
 have s2:(SetTable.insertAt t.place (SetTable.below t.place j) j).size=t.place.size+1:=by have:=pp.length_eq;simpa using this
 have ch1:=xP (v:=.ref a) T.dm (T.W.rs T.pl) hsz hfree Tch hc;generalize hes1:SetTable.insertAt es (SetTable.below t.place j) (hv,Value.ref a)=es1 at *
 have G1:lF led es1 {t with place:=SetTable.insertAt t.place (SetTable.below t.place j) j,plain:=true}:=by
  refine ⟨by rw [s1];unfold scanBound;omega,?_,fun _=>lu (T.W.rs T.pl) hfree,T.W.ld⟩;simp only [SetTable.fits,SetTable.fill,s1,s2,T.dm];simp;omega
 have pm1:(es1.toList.map (·.2)).Perm (vs++[.ref a]):=by
  refine (pe.map (·.2)).trans ?_;rw [zaZ];exact T.pm.append (List.Perm.refl _)
 have el1:∀e∈es1.toList,∃b ls,e.2=.ref b/\jW prog w s.heap ls b:=fun e he=>by
  rcases zaW.mp (pe.mem_iff.mp he) with he|he
  ·exact T.el e he
  ·rw [zaE] at he;subst he;exact ⟨a,ks,rfl,ha⟩
 refine zab (hX ho hx hd G1.bd fun h1 b1 g1=>?_)
 have el2:∀e∈es1.toList,∃b ls,e.2=.ref b/\jW prog w h1 ls b:=fun e he=>by
  obtain ⟨b,ls,e1,e2⟩:=el1 e he;exact ⟨b,ls,e1,e2.same ho hd b1⟩
 have hh1:∀e∈es1.toList,∃b ls,e.2=.ref b/\jW prog w h1 ls b/\e.1=TH ls:=fun e he=>by
  rcases zaW.mp (pe.mem_iff.mp he) with he|he
  ·obtain ⟨b,ls,e1,e2,e3⟩:=Thh e he
   exact ⟨b,ls,e1,e2.same ho hd b1,e3⟩
  ·rw [zaE] at he;subst he;exact ⟨a,ks,rfl,ha.same ho hd b1,hhv.symm⟩
 split
 ·have hgr:SetTable.grown (es.size+1)=(es.size+1) * 4:=by unfold SetTable.grown;rw [if_neg (by omega)]
  rw [hgr];refine zab (CV (s:={s with heap:=h1}) g1 hx rfl G1 rfl pm1 el2 (by omega) (by simp;omega) fun h2 es2 t2 b2 g2 T2 C2 P2=>zad ?_)
  exact h h2 es2 _ t2 (b1.trans b2) g2 ⟨T2,C2,fun e he=>by
   obtain ⟨b,ls,e1,e2,e3⟩:=hh1 e (P2.mem_iff.mp he)
   exact ⟨b,ls,e1,e2.same g1 rfl b2,e3⟩⟩
 ·rename_i hfull
  refine zad (h h1 es1 _ _ b1 g1 ⟨⟨G1,T.ms,T.dm,rfl,?_,pm1,el2⟩,ch1,hh1⟩);simp only [zbU,Bool.true_and,SetTable.tooFull,SetTable.fill,T.dm,decide_eq_true_eq] at hfull;simp only [Array.size_empty,Nat.add_zero] at hfull
  show (SetTable.insertAt t.place (SetTable.below t.place j) j).size * 5 < t.mask * 3
  omega
theorem Ms {S a b0:Addr}{led:Bool}{o:Obj}{es:Array (Int×Value)}{ep:Nat}{t:SetTable}{vs:Te}{ks:Th}{TH:List Int->Int}{Q:Bool->Shared->Prop}(hu:A.units < cLine)(ho:s.heap.get? S=some o)(hx:o.ExactSet)(hd:o.data=.set es ep t)(TC:ud prog w TH led s.heap es t vs)(ha:jW prog w s.heap ks a)
  (hb:Value.ref b0∈vs) (hB:jW prog w s.heap ks b0) (h:Q false s):wpAny (model prog w) A (setAddHashed S (.ref a) (TH ks)) Q E s:=by
 obtain ⟨T,Tch,Thh⟩:=TC
 have hsz:t.place.size=es.size:=by have:=T.W.ft;simp [SetTable.fits] at this;exact this.1
 have hlo:=T.lo;obtain ⟨e,he,hb'⟩:=zar.mp (T.pm.mem_iff.mpr hb);obtain ⟨b1,ls,e1,e2,e3⟩:=Thh e he;rw [hb'] at e1;cases e1;have hls:ls=ks:=IsTupleKey.inj e2 hB;subst hls;obtain ⟨i0,hi0⟩:=List.getElem?_of_mem he;rw [za4] at hi0;have hee:e=(TH ls,.ref b0):=Prod.ext e3 hb';subst hee
 have hip:i0 < t.place.size:=by rw [hsz];exact (zbb.mp hi0).1
 obtain ⟨n0,c1,c2⟩:=Tch i0 _ _ hi0 (zap hip);obtain ⟨N,hN,hE⟩:=vC T.ms T.dm (by omega) (TH ls)
 have hnN:n0 < N:=by
  rcases zcv n0 N with z|z|z
  ·exact z
  ·have:=wK T.dm (T.W.rs T.pl) (zap hip)
   rw [←c1,z] at this
   rw [hE] at this;cases this
  ·exact absurd hE (c2 N z)
 have hsb:10 * SetTable.turns t.mask<=2700:=by
  have:∀m∈eP,10 * SetTable.turns m<=2700:=by decide
  exact this _ T.ms
 unfold setAddHashed setAddHashedIn;refine zaF (zab (zaL ho hd T.W.ft ?_));dsimp only;rw [if_neg (by unfold byScan Value.scannable;simp)];unfold setSearch;refine zab (sd hu ho hd T ha hi0 hB (zap hip) c1 c2 (by omega) ?_ 100000 0 none (za3 _) (by omega) rfl);exact zad h
end
def mL (acc:List (Addr×Th))(p:Addr×Th):List (Addr×Th):=if p.2∈acc.map (·.2) then acc else acc++[p]
def mM (ps:List (Addr×Th)):List (Addr×Th):=ps.foldl mL []
theorem je:∀(ps acc:List (Addr×Th)),(∀p∈ps.foldl mL acc,p∈acc\/p∈ps)/\(ps.foldl mL acc).length<=acc.length+ps.length/\((acc.map (·.2)).Nodup->((ps.foldl mL acc).map (·.2)).Nodup)/\(∀k,k∈(ps.foldl mL acc).map (·.2) ↔ k∈acc.map (·.2)\/k∈ps.map (·.2))
 |[],acc=>⟨fun p h=>.inl h,by simp,fun h=>h,fun k=>by simp⟩
 |q::ps,acc=>by
  obtain ⟨h1,h2,h3,h4⟩:=je ps (mL acc q);rw [zbf];unfold mL at h1 h2 h3 h4 ⊢
  by_cases c:q.2∈acc.map (·.2)
  ·rw [if_pos c] at h1 h2 h3 h4 ⊢
   refine ⟨fun p hp=>(h1 p hp).imp id (zaj _),by simp only [zaD];omega,h3,fun k=>?_⟩;rw [h4,zaf,zak];constructor
   ·rintro (z|z)
    ·exact .inl z
    ·exact .inr (.inr z)
   ·rintro (z|z|z)
    ·exact .inl z
    ·exact .inl (z ▸ c)
    ·exact .inr z
  ·rw [if_neg c] at h1 h2 h3 h4 ⊢
   refine ⟨fun p hp=>?_,by simp only [zaX,zaD,zco] at h2 ⊢;omega,fun nd=>h3 ?_,fun k=>?_⟩
   ·rcases h1 p hp with z|z
    ·rcases zaW.mp z with z|z
     ·exact .inl z
     ·rw [zaE] at z;subst z;exact .inr zah
    ·exact .inr (zaj _ z)
   ·rw [zaZ,zbE]
    refine ⟨nd,by simp,fun x hx y hy e=>?_⟩;simp only [zaf,zaY,zaE] at hy;subst hy;subst e;exact c hx
   ·rw [h4]
    simp only [zaZ,zaW,zaf,zak,zaY,zaC,or_false,or_assoc]
theorem jA (ps:List (Addr×Th)):∀p∈mM ps,p∈ps:=fun p h=>by
 rcases (je ps []).1 p h with z|z
 ·simp at z
 ·exact z
theorem wY (ps:List (Addr×Th)):(mM ps).length<=ps.length:=by have:=(je ps []).2.1;simpa [mM] using this
theorem pN (ps:List (Addr×Th)):((mM ps).map (·.2)).Nodup:=(je ps []).2.2.1 (by simp)
theorem D7 (ps:List (Addr×Th))(k:Th):k∈(mM ps).map (·.2) ↔ k∈ps.map (·.2):=by have:=(je ps []).2.2.2 k;simpa [mM] using this
def vW (prog:Program)(w:World)(led:Bool)(h:Heap)(o:Obj)(vs:Te):Prop:=∃es ep t,o.ExactSet/\o.data=.set es ep t/\ud prog w (tupleKeyHash (intKind prog w)) led h es t vs
theorem tj {prog:Program}{w:World}(led:Bool)(h:Heap):vW prog w led h (cE led) []:=by
 obtain ⟨es,ep,t,x1,x2,T⟩:=s9 (prog:=prog) (w:=w) led h
 have he:es = #[]:=by
  have:=T.pm.length_eq
  simp at this
  exact this
 exact ⟨es,ep,t,x1,x2,T,fun i e j h1 h2=>by subst he;simp at h1,fun e he'=>by subst he;simp at he'⟩
section
variable  {prog:Program}{w:World}{A:Around}{R:Result->Shared->Prop}{I:Addr}{fp wr:Tf}{G:Array GenState->Array GenState->Prop}{n:Nat}{P:Nat->Value->Prop}{St:Nat->Shared->Prop}
theorem ud.keep {TH:List Int->Int}{led:Bool}{h h':Heap}{es:Array (Int×Value)}{t:SetTable}{vs:Te}(T:ud prog w TH led h es t vs)(k:∀b,Value.ref b∈vs->∀o,h.get? b=some o->h'.get? b=some o):ud prog w TH led h' es t vs :=
 ⟨T.T.keep k,T.ch,fun e he=>by
  obtain ⟨b,ls,e1,e2,e3⟩:=T.hh e he
  exact ⟨b,ls,e1,e2.keep (k b (T.T.pm.mem_iff.mp (zar.mpr ⟨e,he,e1⟩))),e3⟩⟩
theorem qd (W:WalksS prog w A.in1 I fp wr G n P St)(hu:A.in1.units < cLine)(S:Addr)(hSf:S∉fp){led:Bool}(ps:List (Addr×Th))(hms:ps.length=n)(hval:∀i v,P i v->∃p,ps[i]?=some p/\v=.ref p.1)(hb:ps.length < 64) :
  ∀(k i:Nat) (s:Shared) (o:Obj),n - i=k->i<=n->St i s->s.heap.get? S=some o->vW prog w led s.heap o ((mM (ps.take i)).map fun p=>Value.ref p.1)->(∀p∈ps,jW prog w s.heap p.2 p.1/\p.1∉S::wr) ->
   (∀s' o',Moved (S::wr) G s s'->s'.heap.get? S=some o'->vW prog w led s'.heap o' ((mM ps).map fun p=>Value.ref p.1)->R (.ok (.ret .none)) s') ->
   codeAny (model prog w) A (.builtin "set.update.loop" ⟨[.ref S,.ref I],[]⟩) R s:=by
 have nw:S∉wr:=fun h=>hSf (W.sub _ h);have up:∀b∈wr,b∈S::wr:=fun b hb=>zaj _ hb
 have av:∀{i:Nat} {b:Addr},Value.ref b∈(mM (ps.take i)).map (fun p=>Value.ref p.1)->∃p∈ps,p.1=b:=fun h=>by
  obtain ⟨p,hp,e⟩:=zar.mp h;exact ⟨p,zcR (jA _ p hp),by cases e;rfl⟩
 intro k
 induction k with
 |zero =>
  intro i s o hk hi hst ho hS hps hR
  have hin:i=n:=by omega
  subst hin;refine za1 F.entry_set_update_loop ?_;rw [zaU F.plain_set_update_loop _];refine (show wpAny _ A.in1 (pyNext (.ref I) >>= _) _ _ s from zab (W.done s _ _ hst fun s' hm=>?_));refine (show wpAny _ A.in1 (ret Value.none) _ _ s' from zad (hR s' o (hm.mono up) (hm.heap S _ nw ho) ?_));rw [List.take_of_length_le (by omega)] at hS;obtain ⟨es,ep,t,x1,x2,T⟩:=hS;refine ⟨es,ep,t,x1,x2,T.keep fun b hb o e=>hm.heap b o (fun z=>?_) e⟩;obtain ⟨p,hp,e'⟩:=zar.mp hb;cases e';exact (hps p (jA _ p hp)).2 (up _ z)
 |succ k ih =>
  intro i s o hk hi hst ho hS hps hR
  have hlt:i < n:=by omega
  refine za1 F.entry_set_update_loop ?_;rw [zaU F.plain_set_update_loop _];refine (show wpAny _ A.in1 (pyNext (.ref I) >>= _) _ _ s from zab (W.item i s _ _ hlt hst fun v s' hP hst' hm=>?_));obtain ⟨p,hpi,rfl⟩:=hval i v hP;have hpm:p∈ps:=zaH hpi;have ho':=hm.heap S _ nw ho;have hps':∀p∈ps,jW prog w s'.heap p.2 p.1/\p.1∉S::wr:=fun p hp=>⟨(hps p hp).1.keep fun o e=>hm.heap _ _ (fun z=>(hps p hp).2 (up _ z)) e,(hps p hp).2⟩;obtain ⟨es,ep,t,x1,x2,T0⟩:=hS
  have T:ud prog w (tupleKeyHash (intKind prog w)) led s'.heap es t ((mM (ps.take i)).map fun p=>Value.ref p.1):=T0.keep fun b hb o e=>by
   obtain ⟨q,hq,rfl⟩:=av hb;exact hm.heap _ _ (fun z=>(hps q hq).2 (up _ z)) e
  refine (show wpAny _ A.in1 (holding [Value.ref p.1] (setAdd S (.ref p.1)) >>= _) _ _ s' from zab (zaF ?_));unfold setAdd;refine zaF (zab (wpAny_pyHash_tuple hu (hps' p hpm).1 ?_))
  have hk2:mM (ps.take (i+1))=mL (mM (ps.take i)) p:=by
   rw [List.take_add_one,hpi];unfold mM;rw [Option.toList_some,List.foldl_append];rfl
  by_cases hin:p.2∈(mM (ps.take i)).map (·.2)
  ·obtain ⟨q,hq,eq⟩:=zar.mp hin
   have hqm:q∈ps:=zcR (jA _ q hq)
   have hk3:mM (ps.take (i+1))=mM (ps.take i):=by rw [hk2];unfold mL;rw [if_pos hin]
   refine Ms (s:={s' with toks:=s'.toks+(p.2.length+1)}) (b0:=q.1) hu ho' x1 x2 T (hps' p hpm).1 (zar.mpr ⟨q,hq,rfl⟩) (by rw [←eq];exact (hps' q hqm).1) ?_;refine zad ⟨zbk F.plain_set_update_loop _,ih (i+1) _ _ (by omega) hlt (W.frame _ s' _ _ hst' (zb7 _ _) fun b hb o e=>e) ho' ⟨es,ep,t,x1,x2,by rw [hk3];exact T⟩ hps' fun s2 o2 hm2 q2 g2=>?_⟩;exact hR s2 o2 (Moved.trans W.gtrans ((hm.mono up).then_heap (zb7 _ _) fun b o hb e=>e) hm2) q2 g2
  have hne:∀b ls,Value.ref b∈(mM (ps.take i)).map (fun p=>Value.ref p.1)->jW prog w s'.heap ls b->ls≠p.2:=fun b ls hb' hB e=>by
   obtain ⟨q,hq,eq⟩:=zar.mp hb';cases eq;have h1:=(hps' q (zcR (jA _ q hq))).1;have h2:ls=q.2:=IsTupleKey.inj hB h1;exact hin (zar.mpr ⟨q,hq,by rw [←h2,e]⟩)
  refine Mt (s:={s' with toks:=s'.toks+(p.2.length+1)}) hu ho' x1 x2 T (hps' p hpm).1 hne (by have:=wY (ps.take i);rw [zal];rw [zbO] at this;omega) fun h' es' ep' t' hsb ho2 T2=>?_
  have hk3:(mM (ps.take (i+1))).map (fun p=>Value.ref p.1)=(mM (ps.take i)).map (fun p=>Value.ref p.1)++[.ref p.1]:=by
   rw [hk2];unfold mL;rw [if_neg hin];simp
  have hps2:∀p∈ps,jW prog w h' p.2 p.1/\p.1∉S::wr:=fun q hq=>⟨(hps' q hq).1.keep fun o e=>by rw [hsb.2 q.1 (fun z:q.1=S=>(hps q hq).2 (by rw [z];exact zah))];exact e,(hps q hq).2⟩;refine zad ⟨zbk F.plain_set_update_loop _,ih (i+1) _ _ (by omega) hlt (W.frame _ s' _ _ hst' (zb7 _ _) fun b hb o e=>?_) ho2 ⟨es',ep',t',x1,rfl,by rw [hk3];exact T2⟩ hps2 fun s2 o2 hm2 q2 g2=>?_⟩
  ·rw [hsb.2 b (fun h:b=S=>hSf (h ▸ hb))];exact e
  ·refine hR s2 o2 (Moved.trans W.gtrans ((hm.mono up).then_heap (zb7 _ _) fun b o hb e=>?_) hm2) q2 g2
   rw [hsb.2 b (fun h:b=S=>hb (by rw [h];exact zah))];exact e
end
section
variable  {prog:Program}{w:World}{A:Around}{E:Tb}{s:Shared}
set_option maxHeartbeats 3200000 in
theorem zH {l:Addr}{its:Ti}{ps:List (Addr×Th)}{Q:Tb}
  (hh:A.handled=none) (hu:A.in1.in1.in1.units < cLine) (hl:s.heap.IsList l its) (hi:its.toList=ps.map fun p=>Value.ref p.1) (hp:∀p∈ps,jW prog w s.heap p.2 p.1) (hb:ps.length < 64)
  (h:∀(h':Heap) (tk:Nat) (o:Obj),h'.get? s.heap.objs.size=some o->vW prog w (!w.params.followText "set-order") h' o ((mM ps).map fun p=>Value.ref p.1) ->
   (∀b o,s.heap.get? b=some o->h'.get? b=some o)->s.toks<=tk->Q (.ref s.heap.objs.size) {s with heap:=h',toks:=tk}) :
  wpAny (model prog w) A (call (.type "set") [.ref l]) Q E s:=by
 obtain ⟨c,tl,hmro⟩:=F.called_set.mro;have hmade:=F.called_set.made;have hsub:=F.called_set.sub;refine wpAny_call (zcM (show wpAny _ _ (callAny (.type "set") _) _ _ _ from ?_));refine zad ⟨Code.quiet_builtin _ (by decide +kernel),za1 F.entry_type_call ?_⟩;rw [Around.under_plain (weight_type_call_type "set" [.ref l] []) rfl];have h1:=F.called_set.notType;have h2:=F.called_set.canCreate;have hct:=F.typeCall_set_1 (.ref l)
 repeat (any_goals (first|assumption|wp_step))
 refine zbX (Iy (.ref l) (E:=E) (Q₁:=fun obj s₁=>obj=.ref s.heap.objs.size/\s₁={s with heap:=s.heap.push (cE (!w.params.followText "set-order"))}) ⟨rfl,rfl⟩) fun r s₁ hr=>?_;generalize hled:(!w.params.followText "set-order")=led at *
 cases r with
 |error e=>exact hr
 |ok fl =>
  cases fl with
  |ret obj =>
   obtain ⟨rfl,rfl⟩:=hr;have hS:(s.heap.push (cE led)).get? s.heap.objs.size=some (cE led):=zaq _ rfl;have hT:Shared.TypeIs {s with heap:=s.heap.push (cE led)} (.ref s.heap.objs.size) "set":=⟨_,hS,rfl⟩;have hli:=F.called_set.init.lookup;have hbi:=F.called_set.init.bind (.ref s.heap.objs.size)
   repeat (any_goals (first|assumption|wp_step))
   refine zbX (zcO (R:=wants (fun r s₂=>r=.none/\∃h' tk o,s₂={s with heap:=h',toks:=tk}/\h'.get? s.heap.objs.size=some o/\vW prog w led h' o ((mM ps).map fun p=>Value.ref p.1) /\
     (∀b o,s.heap.get? b=some o->h'.get? b=some o)/\s.toks<=tk) E) F.called_set.init.plain F.entry_set_init (check_set_init_1 hT ?_)) fun r₂ s₂ hr₂=>?_
   ·obtain ⟨ol,hol,hcl,nl,hdl⟩:=hl
    obtain ⟨ocls,odict,odata,oslots⟩:=ol;simp only at hcl hdl;subst hcl;subst hdl;have hol':(s.heap.push (cE led)).get? l=some {cls:=.type "list",dict:=odict,data:=.seq its nl,slots:=oslots}:=zae _ hol;have hs1:=F.sub_list_set;have hs2:=F.sub_list_frozenset
    have hne:(Value.type "list" == Value.type "dict")=false:=by decide
    have hl1:(s.heap.push (cE led)).IsList l its:=⟨_,hol',rfl,nl,rfl⟩;unfold Builtin.«set.__init__» noKeywords Builtin.Frozenset.updateFrom;generalize hPI:pyIter=PI
    wp_walk;subst hPI
    refine zch hl1 (zab (zcU ?_));have hlS:l < s.heap.objs.size:=zam hol
    have hh3:A.in1.in1.in1.handled=none:=by simp [hh]
    have hneI:l≠(s.heap.push (cE led)).objs.size:=by rw [zbe];exact zax (zaR hlS)
    have hSf:s.heap.objs.size∉[(s.heap.push (cE led)).objs.size,l]:=by
     rw [zbe];simp only [zak,zaC,or_false,not_or];exact ⟨zax (zcD _),zbF hlS⟩
    have hsz:its.size=ps.length:=by have:=congrArg List.length hi;simpa using this
    have hp1:∀p∈ps,jW prog w ((s.heap.push (cE led)).push {cls:=.type "list_iterator",data:=.fields #[.ref l,.int 0 0]}) p.2 p.1/\p.1 < s.heap.objs.size:=fun p hp'=>by
     obtain ⟨op,itp,np,q1,q2,q3,q4⟩:=hp p hp';exact ⟨⟨op,itp,np,zae _ (zae _ q1),q2,q3,q4⟩,zam q1⟩
    refine qd ((Walks.list hh3 _ l hneI its).toS) hu s.heap.objs.size hSf (led:=led) ps hsz.symm
     (fun i v hv=>by
      have:its.toList[i]?=some v:=by rw [za4];exact hv
      rw [hi,zaS] at this
      obtain ⟨p,e1,e2⟩:=zaM.mp this
      exact ⟨p,e1,e2.symm⟩) hb (its.size - 0) 0 _ (cE led) (by omega) (za3 _)
     ⟨⟨_,zaq _ rfl,rfl,rfl⟩,(hl1.push _)⟩ (zae _ hS) (tj led _) (fun p hp'=>⟨(hp1 p hp').1,fun z=>?_⟩) fun s' o' hm ho' hS'=>?_
    ·have:=(hp1 p hp').2
     simp only [zak,zaC,or_false] at z;rcases z with z|z
     ·rw [z] at this;exact zaG _ this
     ·rw [z,zbe] at this;exact absurd this (Nat.not_lt.mpr (zce _))
    obtain ⟨h',g',d',tk',os'⟩:=s';have eg:g'=s.gens:=hm.gens;have ed:d'=s.drawn:=hm.drawn;have eo:os'=s.os:=hm.os;subst eg;subst ed;subst eo;refine (show wpAny _ _ _ _ _ _ from zad (show wpAny _ _ (ret Value.none) _ _ _ from zad ⟨rfl,h',tk',o',rfl,ho',hS',fun b o e=>?_,hm.toks⟩));have hbs:=zam e;refine hm.heap b o ?_ (zae _ (zae _ e));rw [zbe];simp only [zak,zaC,or_false,not_or];exact ⟨zax hbs,zax (zaR hbs)⟩
   ·cases r₂ with
    |error e=>exact hr₂
    |ok fl2 =>
     cases fl2 with
     |ret r =>
      obtain ⟨rfl,h',tk,o,rfl,ho,hS',hk',ht⟩:=hr₂
      repeat (any_goals (first|assumption|wp_step))
      exact h _ _ o ho hS' hk' ht
     |_=>exact hr₂.elim
  |_=>exact hr.elim
theorem vW.v {led:Bool}{h:Heap}{o:Obj}{vs:Te}(x:vW prog w led h o vs):EI prog w led h o vs :=
 let ⟨es,ep,t,x1,x2,T⟩:=x
 ⟨es,ep,t,x1,x2,T.T⟩
end
end HS
namespace HW
open PySem PySem.Spec PyProof.Rows L2 HS HT2
def Mm (acc:Ta)(k:Th):Ta:=if k∈acc then acc else acc++[k]
def dd (L:Ta):Ta:=L.foldl Mm []
theorem xl:∀(ps acc:List (Addr×Th)),(ps.foldl mL acc).map (·.2)=(ps.map (·.2)).foldl Mm (acc.map (·.2))
 |[],_=>rfl
 |q::ps,acc=>by
  rw [zbf,xl ps,zaf,zbf]
  congr 1
  unfold mL Mm;split <;> simp
theorem qQ (ps:List (Addr×Th)):(mM ps).map (·.2)=dd (ps.map (·.2)):=xl ps []
theorem Gp (L:Ta):∃ps:List (Addr×Th),ps.map (·.2)=L:=⟨L.map fun k=>(0,k),by rw [za2];exact List.map_id'' (fun _=>rfl) L⟩
theorem ji (L:Ta):(dd L).Nodup:=by
 obtain ⟨ps,rfl⟩:=Gp L;rw [←qQ];exact pN ps
theorem vE (L:Ta)(k:Th):k∈dd L ↔ k∈L:=by
 obtain ⟨ps,rfl⟩:=Gp L;rw [←qQ];exact D7 ps k
def Aj (K:zac)(b:Bool):List V->Hp->VK->Prop:=fun vs H Q=>∃(p:Addr) (ps:List (Addr×Th)),vs=[.ref p]/\g9 K H p (ps.map fun q=>V.ref q.1)/\Cg K H ps/\ps.length < 64/\∀l o,H l=none->EJ b o (mM ps)->Q (.ref l) (upd H l (jz o))
theorem vJ {X:Cx}(hc:X.calm=true)(hu:X.A.units+64 < cLine):im X (.type "set") (Aj X.K (!HS.bt X.w)):=by
 intro pins s σ H vs us Q I r h;obtain ⟨p,ps,rfl,hq,hT,h64,q⟩:=h;obtain ⟨u,rfl,rx⟩:=l7 r;cases rx;obtain ⟨its,r',pl,hz⟩:=I.list hq;have hi:=pv r';refine zH (its:=its.toArray) (ps:=ps) (I.ok.hd hc) (by simp only [Around.in1_units];omega) pl.isList (by simpa using hi) (fun q hq'=>?_) h64 fun h' tk o ho hS kp ht=>?_
 ·obtain ⟨o,itq,n,q1,q2,q3,q4⟩:=aD.tupA I (hT q hq')
  exact ⟨o,itq,n,q1,q2,q3,sT q4⟩
 ·exact ⟨.ref s.heap.objs.size,_,I.laid (t':=tk) kp (zao _) (show bE X.prog X.w _ h' _ (jz o) from ⟨ho,trivial,⟨o,ho⟩,fun _ _ _ _=>trivial⟩),rfl,q _ _ (I.hok.fresh (zao _)) hS.v.o⟩
def Kx (x:R)(μ:ac):Option (R×ac):=(oN x μ).bind fun ds=>(rQ ds).bind fun L=>if L.length < 64/\((dd L).length < 2\/∀k∈L,k≠[]) then some (.p μ.length,μ++[.lst ((bD (dd L)).map kT)]) else none
def vm (fa:FE):FE:=fun ρ μ=>(fa ρ μ).bind fun a=>Kx a.1 a.2
theorem HH {K:zac}{H:Hp}{Q:VK}{fa:FE}{b:Bool}(h:az K (vm fa) σ H Q):GU (wt K b) (kO (GU (Aj K b) (kO (az K fa) rW)) rW) σ H Q:=by
 obtain ⟨ρ,μ,m,d,μ',hl,hs,e,kk'⟩:=h;obtain ⟨⟨x,μ1⟩,e1,e⟩:=zaa.mp e;obtain ⟨ds,e2,e⟩:=zaa.mp e;obtain ⟨L,e3,e⟩:=zaa.mp e;split at e
 ·rename_i hc
  obtain ⟨h64,hne⟩:=hc;cases e;refine ⟨ρ,μ,m,x,μ1,hl,hs,e1,fun v H1 m1 x1 s1 r1=>?_⟩;obtain ⟨a,vs,rfl,q1,q2⟩:=ql s1 e2 r1;obtain ⟨ps,rfl,rfl,hT⟩:=rP e3 q2
  have h64':ps.length < 64:=by simpa using h64
  have hl':=wY ps;refine ⟨a,ps,rfl,q1,hT,h64',fun l o hl' hO=>?_⟩;have x2:cQ m1 H1 m1 (upd H1 l (jz o)):=cQ.new hl';have s2:aO K m1 (upd H1 l (jz o)) μ1:=s1.same (bO hl');have hT2:Cg K (upd H1 l (jz o)) (mM ps):=fun q hq=>gG.tf (.of (bO hl')) (hT q (jA _ q hq));refine ⟨l,o,mM ps,rfl,bf,hO,hT2,pN ps,by omega,fun h2 p hp=>?_,fun l2 qs hl2 hm hq=>?_⟩
  ·rcases hne with z|z
   ·rw [←qQ,zal] at z;omega
   ·exact z _ (zar.mpr ⟨p,jA _ p hp,rfl⟩)
  ·obtain ⟨x3,s3,r3⟩:=et s2 (wS fun q hq'=>hT2 q (hm q hq')) hl2
   rw [hq,qQ] at s3;exact kk' _ _ _ (x1.trans (x2.trans x3)) s3 r3
 ·cases e
def kR (b:Bool):List R->ac->Option (R×ac)
 |[.v (.fd ks _)],μ=>(fg ks).bind fun ns=>if ns.length < 64 then some (.p μ.length,μ++[.lst ((gr ns).map D.int)]) else none
 |_,_=>none
theorem IW {K:zac}{b:Bool}:Cy K (kR b) so:=by
 intro m H μ xs d μ' vs Q s r e k;unfold kR at e;split at e
 ·rename_i ks ds
  obtain ⟨v,rfl,r1⟩:=oO r;simp only [ar,am] at r1;obtain ⟨a,o,es,rfl,ea,e1,e2⟩:=r1;obtain ⟨ns,q1,e⟩:=zaa.mp e;split at e
  ·rename_i h64
   cases e;refine ⟨a,es,ns,rfl,.inr ⟨o,ea⟩,by rw [e1];exact nY q1,h64,fun l hl=>?_⟩;obtain ⟨x1,x2,x3⟩:=et s (nF (K:=K) (H:=H) (ns:=gr ns)) hl;exact k _ _ _ x1 x2 x3
  ·cases e
 ·cases e
end HW
namespace HW
open PySem PySem.Spec PyProof.Rows L2
structure PD (P:Addr)(q:Str)(H H':Hp):Prop where
 keep:∀b o,b≠P->H b=some o->H' b=some o
 tab:∃ps,H' P=some (.tbl ps)/\jE H' q ps
def Kl (P:Nat)(q:Str)(μ:ac):Bool:=match μ[0]? with|some (aw.tb P' q')=>decide (P'=P) && decide (q'=q)|_=>false
def Os (P:Nat)(q:Str):mx->Option D
 |.rt r μ=>(Cr r μ).bind fun a=>if Kl P q a.2=true then some a.1 else none
 |.nx _ μ=>if Kl P q μ=true then some .non else none
 |_=>none
def RG (P:Nat)(q:Str)(k:Nat)(b:FS):MF:=fun ds=>(b (ds.map (fun d=>some (.v d))++List.replicate (k - ds.length) none) [.tb P q]).bind (Os P q)
def RF (K:zac)(P:Nat)(q:Str)(n:Nat)(f:MF):Sp:=fun vs H Q _=>∃ds d,ds.length=n/\RelDs K H ds vs/\f ds=some d/\(∃ps,H P=some (.tbl ps)/\jE H q ps)/\∀v H',PD P q H H'->am K H' d v->Q v H'
def Rp (Pg:Program)(w:World)(K:zac)(mg:Td)(base:Heap)(k:Nat)(x:Str)(ps:Tl)(P:Nat)(q:Str)(mf:MF):Prop :=
 ∃f fd,dk Pg w K mg base mB k f fd ps (RF K P q ps.length mf)/\PySem.W.keepIn K (.ref f)=true/\iN K fd ps []/\mg x=some (.ref f)
structure PP (K:zac)(x:Str)(st:Stmt)(f:Addr)(fd:FuncData)(c:Addr):Prop where
 ex:∃(oc:Value) (od:Option Addr) (kV doc pm:Value) (an:Option Addr) (ct:Value) (osl:Array (Tg)),
  fd=PySem.W.fnOf x x (iG st) (cO st) (ak st) .none kV doc pm an (.ref c) ct/\K.lookup f=some ⟨oc,od,.func fd,osl⟩/\PySem.W.codeIn K (.ref c) x=true
 kp:PySem.W.keepIn K (.ref f)=true
abbrev rC (e:Expr)(es:Tj)(X:Cx):Prop:=starEach (e::es) X.env=(false,eval e X.env)::starEach es X.env
def gY:Expr->Bool
 |.Starred ..=>true
 |_=>false
theorem aH {e:Expr}{es:Tj}{env:Env}(h:gY e=false):starEach (e::es) env=(false,eval e env)::starEach es env:=by
 cases e <;> first|rfl|(simp [gY] at h)
theorem bo {env:Env}{pos:Pos}:∀{es:Tj},es.any gY=false->(backTo pos (starEach es env)).any (·.1)=false
 |[],_=>rfl
 |e::es,h=>by
  rw [zbA,Bool.or_eq_false_iff] at h;rw [aH h.1];have ih:=bo (env:=env) (pos:=pos) h.2;unfold backTo at ih ⊢;rw [zaf,zbA,ih];rfl
theorem t9 {e:Expr}{es:Tj}{env:Env}(h:gY e=false):(assignEach (e::es) env).map (·.2)=assign e env::(assignEach es env).map (·.2):=by
 cases e <;> first|rfl|(simp [gY] at h)
theorem jM {prog:Program}{w:World}{A:Around}{E:Tb}{s:Shared}{t sl:Addr}{items:Ti}{vl vu:Value}{lo hi:Option Int}{Q:Tb}(ht:IsTup s.heap t items)(hs:s.heap.IsSliceOf sl vl vu .none)(pl:IsPart vl lo)(pu:IsPart vu hi)
  (hw:HT.dl items.size 0 lo=0/\HT.dl items.size items.size hi=items.size)
  (h:Q (.ref t) s):wpAny (model prog w) A (getItem (.ref t) (.ref sl)) Q E s:=by
 obtain ⟨os,hos,hcs,hds⟩:=id hs;have hTs:s.TypeIs (.ref sl) "slice":=⟨os,hos,hcs⟩;unfold getItem
 try with_reducible refine zaF ?_
 first|refine zab (zad ?_)|skip
 refine zab (wpAny_sequenceKey ht.typeIs (by decide) ?_)
 refine zab (za5 (name:=Str.ofString "__getitem__") ht.typeIs PyProof.Rows.slot_tuple_getitem
  (zaT PyProof.Rows.slot_tuple_getitem ht.typeIs entry_tuple_getitem ?_ (args_tuple_getitem _ _)))
 show wpAny _ _ (Builtin.Tuple.tupleItemsOf (.ref t) >>= _) _ _ s
 refine zab (tupleItemsOf_ ht ?_);refine zab (zby hTs ?_);rw [if_pos (by decide)];refine zab (HT.hZ hs pl pu ?_)
 have hyes:((((HT.dl items.size 0 lo:Nat):Int) == 0 && (1:Int) == 1 && (HT.dl items.size items.size hi - HT.dl items.size 0 lo) == items.size)=true):=by
  rw [hw.1,hw.2];simp
 show wpAny _ _ (if (((HT.dl items.size 0 lo:Nat):Int) == 0 && (1:Int) == 1 && (HT.dl items.size items.size hi - HT.dl items.size 0 lo) == items.size)=true then _ else _) _ _ s
 rw [if_pos hyes];refine zab (m:=Builtin.Tuple.tupleIsExact (.ref t)) (zab (zby ht.typeIs (zad ?_)));rw [if_pos (by decide)];refine zab (zca ?_)
 first
  |exact zad ⟨_,rfl,zad h⟩
  |exact zab (zad (zad ⟨_,rfl,zad h⟩))
  |exact zab (zad ⟨_,rfl,zad h⟩)
def qS (xs:List D)(lo hi:Option Int):List D:=(xs.drop (HT.dl xs.length 0 lo)).take (HT.dl xs.length xs.length hi - HT.dl xs.length 0 lo)
def KO (K:zac):V->Option Int->Option Int->Hp->VK->Prop:=fun x lo hi H Q=>KN K x lo hi H Q\/KM K x lo hi H Q \/
 ∃a xs,x=.ref a/\gG K H a xs/\(HT.dl xs.length 0 lo=0/\HT.dl xs.length xs.length hi=xs.length)/\Q (.ref a) H
theorem zG {X:Cx}:Ch X (fun x lo hi H Q=>∃a xs,x=.ref a/\gG X.K H a xs/\(HT.dl xs.length 0 lo=0/\HT.dl xs.length xs.length hi=xs.length)/\Q (.ref a) H):=by
 intro pins s σ H x v vl vu lo hi sl Q I rx hs pl pu h;obtain ⟨a,xs,rfl,hx,hw,q⟩:=h;cases rx;obtain ⟨its,r,ht,hz⟩:=I.tuple hx
 have hlen:its.toArray.size=xs.length:=by rw [zat];exact r.length.symm
 refine ⟨"tuple",_,PyProof.Rows.slot_tuple_getitem.lookup,ht.typeIs,?_⟩;exact jM ht hs pl pu (by rw [hlen];exact hw) ⟨.ref a,H,I,rfl,q⟩
theorem GY {X:Cx}:Ch X (KO X.K):=Ch.or CQ (Ch.or GX zG)
abbrev FO:=Lo->ac->Option (Option Int×ac)
def ug (K:zac)(f:FO):TO:=fun σ H Q=>∃ρ μ m o μ',dJ K m H ρ σ/\aO K m H μ/\f ρ μ=some (o,μ')/\∀H' m',cQ m H m' H'->aO K m' H' μ'->Q o H'
def i6:FO:=fun _ μ=>some (none,μ)
def k9 (f:FE):FO:=fun ρ μ=>(f ρ μ).bind fun a=>match a.1 with|.v (.int i)=>some (some i,a.2)|_=>none
def GZ (x:R)(lo hi:Option Int)(μ:ac):Option (R×ac):=match x with
 |.v (.tup xs)=>some (.v (.tup (qS xs lo hi)),μ)
 |x=>(d5 x μ).bind fun xs=>some (.p μ.length,μ++[.lst (qS xs lo hi)])
def LU (fa:FE)(fl fh:FO):FE:=fun ρ μ=>(fa ρ μ).bind fun a=>(fl ρ a.2).bind fun l=>(fh ρ l.2).bind fun h=>GZ a.1 l.1 h.1 h.2
theorem RelDs.drop {K:zac}{H:Hp}:∀{xs:List D} {vs:List V} (n:Nat),RelDs K H xs vs->RelDs K H (xs.drop n) (vs.drop n)
 |_,_,0,h=>h
 |[],_,n+1,h=>by simp only [RelDs] at h;subst h;simp only [List.drop_nil,RelDs]
 |x::xs,_,n+1,h=>by
  simp only [RelDs] at h;obtain ⟨v,r,rfl,_,h2⟩:=h;exact RelDs.drop n h2
theorem RelDs.take {K:zac}{H:Hp}:∀{xs:List D} {vs:List V} (n:Nat),RelDs K H xs vs->RelDs K H (xs.take n) (vs.take n)
 |_,_,0,h=>by simp only [List.take_zero,RelDs]
 |[],_,n+1,h=>by simp only [RelDs] at h;subst h;simp only [List.take_nil,RelDs]
 |x::xs,_,n+1,h=>by
  simp only [RelDs] at h;obtain ⟨v,r,rfl,h1,h2⟩:=h;simp only [List.take_succ_cons,RelDs];exact ⟨v,_,rfl,h1,RelDs.take n h2⟩
theorem RelDs.cut {K:zac}{H:Hp}{xs:List D}{vs:List V}{lo hi:Option Int}(h:RelDs K H xs vs):RelDs K H (qS xs lo hi) (qR vs lo hi):=by
 unfold qS qR;rw [h.length];exact (h.drop _).take _
section
variable  {K:zac}{σ:L2.St}{H:Hp}{Q:VK}
theorem zX {Q:Option Int->Hp->Prop}(h:ug K i6 σ H Q):we σ H Q:=by
 obtain ⟨ρ,μ,m,o,μ',hl,hs,e,k⟩:=h;cases e;exact k H m .refl hs
theorem zW {f}{Q:Option Int->Hp->Prop}(h:ug K (k9 f) σ H Q):Fz (az K f) σ H Q:=by
 obtain ⟨ρ,μ,m,o,μ',hl,hs,e,k⟩:=h;obtain ⟨⟨x,μ1⟩,e1,e⟩:=zaa.mp e;split at e
 ·rename_i i q
  cases e;simp only at q;subst q;exact ⟨ρ,μ,m,_,μ1,hl,hs,e1,fun v H1 m1 x1 s1 r1=>⟨i,by simpa only [ar,am] using r1,k H1 m1 x1 s1⟩⟩
 ·cases e
theorem KA {m:Tf}{μ μ':ac}{x d:R}{v:V}{lo hi:Option Int}(s:aO K m H μ)(r:ar K m H x v)(e:GZ x lo hi μ=some (d,μ'))(k:∀w H' m',cQ m H m' H'->aO K m' H' μ'->ar K m' H' d w->Q w H'):KO K v lo hi H Q:=by
 have lst:∀xs,d5 x μ=some xs->(some (R.p μ.length,μ++[aw.lst (qS xs lo hi)]):Option (R×ac))=some (d,μ')->KO K v lo hi H Q:=fun xs e1 e2=>by
  cases e2;obtain ⟨a,vs,rfl,q,rr⟩:=fO s r e1;refine .inl ⟨a,vs,rfl,q,fun p hp=>?_⟩;obtain ⟨x1,x2,x3⟩:=et s (rr.cut (lo:=lo) (hi:=hi)) hp;exact k _ _ _ x1 x2 x3
 have gen:(d5 x μ).bind (fun xs=>some (R.p μ.length,μ++[aw.lst (qS xs lo hi)]))=some (d,μ')->KO K v lo hi H Q:=fun e=>by
  obtain ⟨xs,e1,e⟩:=zaa.mp e;exact lst xs e1 e
 cases x with
 |p n=>exact gen e
 |s _ n=>exact gen e
 |x n=>exact gen e
 |f L ds=>exact gen e
 |v d0 =>
  cases d0 with
  |tup xs =>
   cases e;simp only [ar,am] at r;obtain ⟨a,vs,rfl,q,rr⟩:=r
   by_cases hw:HT.dl vs.length 0 lo=0/\HT.dl vs.length vs.length hi=vs.length
   ·refine .inr (.inr ⟨a,vs,rfl,q,hw,k _ H m .refl s ?_⟩)
    simp only [ar,am];refine ⟨a,vs,rfl,q,?_⟩;have:=rr.cut (lo:=lo) (hi:=hi)
    unfold qR at this
    rw [hw.1,hw.2] at this
    simpa using this
   ·refine .inr (.inl ⟨a,vs,rfl,q,hw,fun p hp=>?_⟩)
    obtain ⟨x1,x2,x3⟩:=lc s (rr.cut (lo:=lo) (hi:=hi)) hp;exact k _ _ _ x1 x2 x3
  |non=>exact gen e
  |bl _=>exact gen e
  |int _=>exact gen e
  |str _=>exact gen e
  |fl _=>exact gen e
  |fd _ _=>exact gen e
  |key _=>exact gen e
theorem KE {fa fl fh}(h:az K (LU fa fl fh) σ H Q):QF (KO K) (az K fa) (ug K fl) (ug K fh) σ H Q:=by
 obtain ⟨ρ,μ,m,d,μ',hl,hs,e,k⟩:=h;obtain ⟨⟨x,μ1⟩,e1,e⟩:=zaa.mp e;obtain ⟨⟨l,μ2⟩,e2,e⟩:=zaa.mp e;obtain ⟨⟨u,μ3⟩,e3,e⟩:=zaa.mp e;refine ⟨ρ,μ,m,x,μ1,hl,hs,e1,fun v H1 m1 x1 s1 r1=>?_⟩;refine ⟨ρ,μ1,m1,l,μ2,hl.ext x1,s1,e2,fun H2 m2 x2 s2=>?_⟩;refine ⟨ρ,μ2,m2,u,μ3,hl.ext (x1.trans x2),s2,e3,fun H3 m3 x3 s3=>?_⟩;exact KA s3 (r1.ext (x2.trans x3)) e fun w H4 m4 x4 s4 r4=>k w H4 m4 (((x1.trans x2).trans x3).trans x4) s4 r4
end
theorem PO.imp {e:Option Expr}{t t':TO}(h:PO X e t)(k:∀{σ H Q},t' σ H Q->t σ H Q):PO X e t':=fun pins s σ H Q I q=>h pins s σ H Q I (k q)
def mq (fa:FE)(fl fh:FO)(k:Int):FE:=fun ρ μ=>(fa ρ μ).bind fun a=>(fl ρ a.2).bind fun l=>(fh ρ l.2).bind fun h=>if k=0 then none else (d5 a.1 h.2).bind fun xs=>some (.p h.2.length,h.2++[.lst (eN xs l.1 h.1 k)])
theorem C0 {K:zac}{H:Hp}{Q:VK}{fa fl fh}{k:Int}(h:az K (mq fa fl fh k) σ H Q):Fw K (az K fa) (ug K fl) (ug K fh) (ug K (k9 (fK (.int k)))) σ H Q:=by
 obtain ⟨ρ,μ,m,d,μ',hl,hs,e,kk⟩:=h;obtain ⟨⟨x,μ1⟩,e1,e⟩:=zaa.mp e;obtain ⟨⟨l,μ2⟩,e2,e⟩:=zaa.mp e;obtain ⟨⟨u,μ3⟩,e3,e⟩:=zaa.mp e;split at e
 ·cases e
 ·rename_i hk
  obtain ⟨xs,e4,e⟩:=zaa.mp e;cases e;refine ⟨ρ,μ,m,x,μ1,hl,hs,e1,fun v H1 m1 x1 s1 r1=>?_⟩;refine ⟨ρ,μ1,m1,l,μ2,hl.ext x1,s1,e2,fun H2 m2 x2 s2=>?_⟩;refine ⟨ρ,μ2,m2,u,μ3,hl.ext (x1.trans x2),s2,e3,fun H3 m3 x3 s3=>?_⟩;refine ⟨ρ,μ3,m3,some k,μ3,hl.ext ((x1.trans x2).trans x3),s3,rfl,fun H4 m4 x4 s4=>⟨k,rfl,?_⟩⟩;obtain ⟨a,vs,rfl,q,rr⟩:=fO s4 (r1.ext ((x2.trans x3).trans x4)) e4;refine ⟨a,vs,rfl,q,hk,fun p hp=>?_⟩
  have rp:RelDs K H4 (eN xs l u k) (eN vs l u k):=by
   unfold eN;rw [rr.length];exact RelDs.pick _ rr
  obtain ⟨y1,y2,y3⟩:=et s4 rp hp;exact kk _ _ _ ((((x1.trans x2).trans x3).trans x4).trans y1) y2 y3
def w9:FE:=fun _ μ=>some (.p μ.length,μ++[.dct []])
theorem C9 {K:zac}{H:Hp}{Q:VK}(h:az K w9 σ H Q):uF σ H Q:=by
 obtain ⟨ρ,μ,m,d,μ',hl,hs,e,k⟩:=h;cases e;intro p hp;refine k _ _ (m++[p]) (.newH hp) (hs.newH hp ⟨[],bf,rfl,by simp only [zaY,RelDs]⟩) ⟨p,rfl,?_⟩;rw [←hs.len];simp
namespace R
section
variable  {X:Cx}{a b e o:Expr}{es:Tj}{fa fb:FE}{ga:FA}{pos p p2 apos:Pos}{x:Str}
theorem ah {i j}:PE X (.Constant (.int i) j pos) (az X.K (fK (.int i))):=PE.imp Ij (kW fun _ _=>by simp only [ar,am])
theorem pA (ha:PE X a (az X.K fa)):PE X (.UnaryOp .USub a pos) (az X.K (mn qC fa)):=PE.imp (Lf GJ ha) (KC LD)
theorem As (ha:PE X a (az X.K fa)):PO X (some a) (ug X.K (k9 fa)):=PO.imp (Dt ha) zW
theorem HP {k:Nat}{f:Addr}{fd:FuncData}{ps:Tl}{n:Nat}{mf:MF}(F:dk X.prog X.w X.K X.mg X.base mB k f fd ps (yA X.K n mf))(hr:dO k X.A)(hg:Gl X x)(hm:X.mg x=some (.ref f))(hk:PySem.W.keepIn X.K (.ref f)=true)(hb:iN X.K fd ps [])
  (ha:PA X (e::es) (iY X.K ga)) (hdb:(x == ("__debug__" : Str))=false:=by decide) (he:rC e es X:=by exact aH rfl) (hpl:(backTo pos (starEach es X.env)).any (·.1)=false:=by exact bo rfl) :
  PE X (.Call (.Name x p) (e::es) [] pos) (az X.K (aS mf n ga)):=PE.imp (qz F hr hg hm hk hb .nil AO ha hdb he hpl) Db
theorem qu {lo hi:Option Expr}{fl fh:FO}{j:Nat}{p3 p4:Pos}(ha:PE X a (az X.K fa))(hl:PO X lo (ug X.K fl))(hh:PO X hi (ug X.K fh)):PE X (.Subscript a (.Slice lo hi (some (.UnaryOp .USub (.Constant (.int 1) j p3) p4)) p2) pos) (az X.K (mq fa fl fh (-1))) :=
 have e:mn qC (fK (.int 1))=fK (.int (-1)):=rfl
 PE.imp (DC ha hl hh (As (show PE X _ (az X.K (fK (.int (-1)))) from e ▸ pA ah))) C0
theorem jv {d:D}(h:jp X.K X.mg x d)(hg:Gl X x:=by rfl)(hd:(x == ("__debug__" : Str))=false:=by decide):PE X (.Name x pos) (az X.K (fK d)):=by
 obtain ⟨u,v,hm,r,rd⟩:=h;exact PE.imp (DG hg hm r hd) (kW fun _ H=>rd H)
theorem nq {op:CmpOp}{r:R2}{g:R->R->ac->Option (R×ac)}(ho:jU X (compareOp op) r)(hg:oW X.K g r)(ha:PE X a (az X.K fa))(hb:PE X b (az X.K fb))(hm:behindInMarks op b=false):PT X (.Compare a [op] [b] pos) (fI X.K (fB (ax g fa fb))) :=
 PT.imp (wz ho ha hb hm) fun h=>by
  obtain ⟨ρ,μ,m,d,μ',hl,hs,e,k⟩:=wo h;exact iL hg ⟨ρ,μ,m,d,μ',hl,hs,e,k⟩
theorem N7 {op:CmpOp}{neg:Bool}{c:D}{cv:V}(hc:(c=.non/\cv=.non)\/∃b,c=.bl b/\cv=.bl b)(ho:jU X (compareOp op) (HI neg cv))(ha:PE X a (az X.K fa))(hb:PE X b (tC cv))(hm:behindInMarks op b=false):PT X (.Compare a [op] [b] pos) (fI X.K (fB (mn (F6 neg c) fa))) :=
 PT.imp (wz ho ha hb hm) fun h=>by
  obtain ⟨ρ,μ,m,d,μ',hl,hs,e,k⟩:=wo h;exact KG hc ⟨ρ,μ,m,d,μ',hl,hs,e,k⟩
variable  {ta tb:FT}{rest:Tj}
variable  {st:Stmt}{sts aa bb:Tk}{sa sb:FS}{c tg iter:Expr}
variable  {g:FG}{gs:Gz}{fi:FI}
theorem lZ.imp {ifs:Tj}{t t':TT}(h:lZ X ifs t)(k:∀{σ H Q},t' σ H Q->t σ H Q):lZ X ifs t':=fun pins s σ H Q I q=>h pins s σ H Q I (k q)
theorem gT {ifs:Tj}{scope:Scope}(ix:List Nat)(own caps:Tl)(hc:X.calm=true)(n:aK X.env.scope scope own caps)(hi:PI X tg iter (uh X.K fi))
  (hb:∀cl C s₂ H₂ fp,PG (aL X scope cl C s₂ H₂ fp (own++caps)) tg (oE X.K g)/\lZ (aL X scope cl C s₂ H₂ fp (own++caps)) ifs (fI X.K ta)/\PE (aL X scope cl C s₂ H₂ fp (own++caps)) e (az X.K fa))
  (hix:ix.map (fun i=>X.N[i]?)=caps.map some:=by rfl)
  (hs:∀x,foldedSetIterable iter X.env x=pure x:=by intro _;rfl):PE X (.ListComp e [⟨tg,iter,ifs,0⟩] scope pos) (az X.K (cj ix own.length fi g ta fa)):=by
 refine PE.imp (sE (ix:=ix) hc n (by simpa using congrArg List.length hix) (fun j i y h1 h2=>?_) hi hb hs) (wn rfl);have:=congrArg (fun l=>l[j]?) hix
 simp only [zaS,h1,h2,za8] at this
 exact Option.some.inj this
theorem iX (i:Nat){py spos:Pos}{ifs:Tj}{scope:Scope}(ix:List Nat)(own caps:Tl)(hc:X.calm=true)(n:aK X.env.scope scope own caps)(hN:X.N.Nodup)(hi:PI X tg iter (uh X.K fi))
  (hb:∀cl C s₂ H₂ fp,PG (aL X scope cl C s₂ H₂ fp (own++caps)) tg (oE X.K g)/\lZ (aL X scope cl C s₂ H₂ fp (own++caps)) ifs (fI X.K ta)/\PE (aL X scope cl C s₂ H₂ fp (own++caps)) e (az X.K fa))
  (hsw:swapsWith (.ListComp e [⟨tg,iter,ifs,0⟩] scope pos) (some (.Name x py)) spos.line X.env=pure true:=by rfl)
  (hy:X.N[i]?=some x:=by rfl) (hyl:Cj X.env.scope x:=by first|exact Or.inl rfl|exact Or.inr rfl)
  (hix:ix.map (fun i=>X.N[i]?)=caps.map some:=by rfl)
  (hs:∀x,foldedSetIterable iter X.env x=pure x:=by intro _;rfl) (hf:X.fn x=true\/X.env.scope.names.lookup x=some .local:=by first|exact .inl rfl|exact .inr rfl) :
  PS X (.Assign [.Name x py] (.ListComp e [⟨tg,iter,ifs,0⟩] scope pos) spos) (gC X.K (aI i (cj ix own.length fi g ta fa))):=by
 refine PS.imp (Az (i:=i) (ix:=ix) hc n hN hy hyl (by simpa using congrArg List.length hix) (fun j i y h1 h2=>?_) hi hb hsw hs hf) fun h=>?_
 ·have:=congrArg (fun l=>l[j]?) hix
  simp only [zaS,h1,h2,za8] at this
  exact Option.some.inj this
 ·have h':=zV h
  obtain ⟨ρ,μ,m,d,μ',hl,hs,e,k⟩:=h';exact wn rfl ⟨ρ,μ,m,d,μ',hl,hs,e,k⟩
end
end R
def jS (x:R)(μ:ac):Bool:=match x with|.v (.fl _)=>true|.p n=>(match μ[n]? with|some (.lst _)=>true|some (.fz _)=>true|_=>false)|_=>false
def oR (g:R->List R->ac->Option (R×ac))(fa:FE)(ga:FA):FE:=fun ρ μ=>(fa ρ μ).bind fun a=>if jS a.1 a.2=true then (ga ρ a.2).bind fun b=>g a.1 b.1 b.2 else none
theorem sV {K:zac}{m:Tf}{H:Hp}{μ:ac}{x:R}{v:V}(s:aO K m H μ)(r:ar K m H x v)(e:jS x μ=true):MD K "list" v H:=by
 have:∃xs,d5 x μ=some xs:=by
  cases x with
  |v d=>cases d <;> simp_all [jS,d5]
  |s _ _=>simp [jS] at e
  |x _=>simp [jS] at e
  |f _ _=>simp [jS] at e
  |p n =>
   simp only [jS] at e;simp only [d5];split at e
   ·rename_i xs q;exact ⟨xs,by first|rfl|rw [q]⟩
   ·rename_i xs q;exact ⟨xs,by first|rfl|rw [q]⟩
   ·cases e
 obtain ⟨xs,e⟩:=this;obtain ⟨a,vs,rfl,q,_⟩:=fO s r e;exact .inl ⟨rfl,vs,q⟩
theorem KF {K:zac}{H:Hp}{Q:VK}{g r fa ga}(hg:NQ K g r)(h:az K (oR g fa ga) σ H Q):QI K "list" r (az K fa) (iY K ga) σ H Q:=by
 obtain ⟨ρ,μ,m,d,μ',hl,hs,e,k⟩:=h;obtain ⟨⟨x,μ1⟩,e1,e⟩:=zaa.mp e;split at e
 ·rename_i hx
  obtain ⟨⟨ys,μ2⟩,e2,e⟩:=zaa.mp e;refine ⟨ρ,μ,m,x,μ1,hl,hs,e1,fun v H1 m1 x1 s1 r1=>⟨sV s1 r1 hx,?_⟩⟩;refine ⟨ρ,μ1,m1,ys,μ2,hl.ext x1,s1,e2,fun vs H2 m2 x2 s2 r2=>?_⟩;exact hg m2 H2 μ2 x ys d μ' v vs Q s2 (r1.ext x2) r2 e fun w H3 m3 x3 s3 r3=>k w H3 m3 ((x1.trans x2).trans x3) s3 r3
 ·cases e
theorem Hm {K:zac}{H:Hp}{Q:VK}{g r fa}(hg:NQ K g r)(h:az K (oR g fa ai) σ H Q):Ku K "list" r (az K fa) σ H Q:=by
 obtain ⟨ρ,μ,m,d,μ',hl,hs,e,k⟩:=h;obtain ⟨⟨x,μ1⟩,e1,e⟩:=zaa.mp e;split at e
 ·rename_i hx
  exact ⟨ρ,μ,m,x,μ1,hl,hs,e1,fun v H1 m1 x1 s1 r1=>⟨sV s1 r1 hx,hg m1 H1 μ1 x [] d μ' v [] Q s1 r1 rfl e fun w H3 m3 x3 s3 r3=>k w H3 m3 (x1.trans x3) s3 r3⟩⟩
 ·cases e
structure cZ (K:zac)(mg:Td)(x:Str)(st:Stmt)(ps:Tl):Prop where
 ex:∃f fd,rB K x x st f fd/\iN K fd ps []/\mg x=some (.ref f)
structure PQ (K:zac)(mg:Td)(x:Str)(st:Stmt)(ps:Tl)(c:Addr):Prop where
 ex:∃f fd,PP K x st f fd c/\iN K fd ps []/\mg x=some (.ref f)
def bR (P:Program)(w:World)(K:zac)(mg:Td)(base:Heap)(k:Nat)(x:Str)(ps:Tl)(mf:MF):Prop :=
 ∃f fd,dk P w K mg base mB k f fd ps (yA K ps.length mf)/\PySem.W.keepIn K (.ref f)=true/\iN K fd ps []/\mg x=some (.ref f)
def jV (P:Program)(w:World)(K:zac)(mg:Td)(base:Heap)(k:Nat)(x:Str)(ps:Tl)(mf:MC):Prop :=
 ∃f fd,dk P w K mg base mB k f fd ps (xE K ps.length (cX K mf))/\PySem.W.keepIn K (.ref f)=true/\iN K fd ps []/\mg x=some (.ref f)
theorem wQ {P:Program}{w:World}{K:zac}{mg:Td}{base:Heap}{k:Nat}{x:Str}{ps:Tl}{mf:MF}(h:bR P w K mg base k x ps mf):bR P w K mg base k x ps (uk mf) :=
 let ⟨f,fd,F,r⟩:=h
 ⟨f,fd,F.imp fun _ _ _ _ z=>Ky z,r⟩
theorem sO {P:Program}{w:World}{K:zac}{mg:Td}{base:Heap}{k:Nat}{x:Str}{ps:Tl}{mf:MC}(h:jV P w K mg base k x ps mf):jV P w K mg base k x ps (uk mf) :=
 let ⟨f,fd,F,r⟩:=h
 ⟨f,fd,F.imp fun _ _ _ _ z=>GW z,r⟩
structure PH (K:zac)(C:Addr)(nm qual:Str)(st:Stmt)(ps:Tl):Prop where
 ex:∃f fd,rB K nm qual st f fd/\iN K fd ps []/\PJ K C nm f
namespace R
theorem okP {P:Program}{w:World}{K:zac}{mg:Td}{base:Heap}{x:Str}{st:Stmt}{N ps:Tl}{k:Nat}{b:FS}(d:cZ K mg x st ps)(S:aT N ps (ak st))
  (hbody:∀(f:Addr) (cdv:Value) (A:Around) (outer:List Env) (s:Shared) (H:Hp) (E:XK),dO k (A.deeper (envOfC x (ak st) s.heap.objs.size f cdv))->oG (lR mB P w K mg base N x (ak st) f cdv A outer s H E).nox (cO st) (gC K b)) :
  bR P w K mg base (k+1) x ps (fV N.length b):=by
 obtain ⟨f,fd,F,B,M⟩:=d.ex;exact ⟨f,fd,rB.okP F S (hbody f),F.kp,B,M⟩
theorem aW {X:Cx}{k:Nat}{x:Str}{ps:Tl}{mf:MF}{e:Expr}{es:Tj}{ga:FA}{p pos:Pos}{n:Nat}(F:bR X.prog X.w X.K X.mg X.base k x ps mf)(hr:dO k X.A)(ha:PA X (e::es) (iY X.K ga))(hg:Gl X x:=by rfl)(hn:ps.length=n:=by rfl)
  (hdb:(x == ("__debug__" : Str))=false:=by decide) (he:rC e es X:=by exact aH rfl) (hpl:(backTo pos (starEach es X.env)).any (·.1)=false:=by exact bo rfl) :
  PE X (.Call (.Name x p) (e::es) [] pos) (az X.K (aS mf n ga)):=by
 subst hn;obtain ⟨f,fd,F,kp,B,M⟩:=F;exact HP F hr hg M kp B ha hdb he hpl
theorem qw {X:Cx}{k:Nat}{x:Str}{ps:Tl}{mf:MF}{e:Expr}{es:Tj}{ga:FA}{p pos:Pos}{n:Nat}(F:bR X.prog X.w X.K X.mg X.base k x ps mf)(hr:dO k X.A)(ha:PA X (e::es) (iY X.K ga))(hg:Gl X x:=by rfl)(hn:ps.length=n:=by rfl)
  (hdb:(x == ("__debug__" : Str))=false:=by decide) (he:rC e es X:=by exact aH rfl) (hpl:(backTo pos (starEach es X.env)).any (·.1)=false:=by exact bo rfl) :
  PE X (.Call (.Name x p) (e::es) [] pos) (az X.K (lQ mf n ga)):=by
 subst hn;obtain ⟨f,fd,F,kp,B,M⟩:=F;exact PE.imp (qz (dk.borN (F.imp fun _ _ _ _ h=>Kz h) ps.length) hr hg M kp B .nil AO ha hdb he hpl) Aa
theorem okN {P:Program}{w:World}{K:zac}{mg:Td}{base:Heap}{x:Str}{st:Stmt}{N ps:Tl}{k:Nat}{b:FS}(d:cZ K mg x st ps)(S:aT N ps (ak st))
  (hbody:∀(f:Addr) (cdv:Value) (A:Around) (outer:List Env) (s:Shared) (H:Hp) (E:XK),dO k (A.deeper (envOfC x (ak st) s.heap.objs.size f cdv))->oG (lR mB P w K mg base N x (ak st) f cdv A outer s H E).nox (cO st) (gC K b)) :
  jV P w K mg base (k+1) x ps (zP N.length b):=by
 obtain ⟨f,fd,F,B,M⟩:=d.ex;exact ⟨f,fd,rB.okN F S (hbody f),F.kp,B,M⟩
theorem fe {X:Cx}{k:Nat}{x:Str}{ps:Tl}{mf:MC}{e:Expr}{es:Tj}{ga:FA}{p pos:Pos}{n:Nat}(F:jV X.prog X.w X.K X.mg X.base k x ps mf)(hr:dO k X.A)(ha:PA X (e::es) (iY X.K ga))(hg:Gl X x:=by rfl)(hn:ps.length=n:=by rfl)
  (hdb:(x == ("__debug__" : Str))=false:=by decide) (he:rC e es X:=by exact aH rfl) (hpl:(backTo pos (starEach es X.env)).any (·.1)=false:=by exact bo rfl) :
  PE X (.Call (.Name x p) (e::es) [] pos) (az X.K (bX mf n ga)):=by
 subst hn;obtain ⟨f,fd,F,kp,B,M⟩:=F;exact PE.imp (qz (dk.borN F ps.length) hr hg M kp B .nil AO ha hdb he hpl) Ab
theorem HQ {X:Cx}{kx tg iter:Expr}{fa:FE}{fi:FI}{g:FG}{ta:FT}{p pos cp tp lp:Pos}{x1:Nat}{ifs:Tj}{scope:Scope}(ix:List Nat)(own caps:Tl)(hc:X.calm=true)(hg:Gl X "dict")(hm:X.mg "dict" = none)(n:aK X.env.scope scope own caps)(hi:PI X tg iter (uh X.K fi))
  (hb:∀cl C s₂ H₂ fp,PG (aL X scope cl C s₂ H₂ fp (own++caps)) tg (oE X.K g)/\lZ (aL X scope cl C s₂ H₂ fp (own++caps)) ifs (fI X.K ta)/\PE (aL X scope cl C s₂ H₂ fp (own++caps)) kx (az X.K fa))
  (hix:ix.map (fun i=>X.N[i]?)=caps.map some:=by rfl)
  (hs:∀x,foldedSetIterable iter X.env x=pure x:=by intro _;rfl) (hst:gY kx=false:=by rfl):PE X (.Call (.Name "dict" p) [.ListComp (.Tuple [kx,.List [] lp] x1 tp) [⟨tg,iter,ifs,0⟩] scope cp] [] pos) (az X.K (Gi ix own.length fi g ta fa)):=by
 refine PE.imp (f9 (pV hc) hg hm (by decide +kernel) (gJ (sE (ix:=ix) hc n (by simpa using congrArg List.length hix) (fun j i y h1 h2=>?_) hi (fun cl C s₂ H₂ fp=>⟨(hb cl C s₂ H₂ fp).1,(hb cl C s₂ H₂ fp).2.1,AH (gJ (hb cl C s₂ H₂ fp).2.2 (gJ (AK j7) j7) (aH hst))⟩) hs) j7)) (KI rfl);have:=congrArg (fun l=>l[j]?) hix
 simp only [zaS,h1,h2,za8] at this
 exact Option.some.inj this
end R
theorem lj {K:zac}{T:String}(h1:PySem.W.kitOne K (.type "NoneType") (.type T)=some ("NoneType" == T || ("NoneType" == "bool" && T == "int")))
  (h2:PySem.W.kitOne K (.type "bool") (.type T)=some ("bool" == T || ("bool" == "bool" && T == "int"))) (h3:PySem.W.kitOne K (.type "int") (.type T)=some ("int" == T || ("int" == "bool" && T == "int")))
  (h4:PySem.W.kitOne K (.type "str") (.type T)=some ("str" == T || ("str" == "bool" && T == "int"))) (h5:PySem.W.kitOne K (.type "tuple") (.type T)=some ("tuple" == T || ("tuple" == "bool" && T == "int")))
  (h6:PySem.W.kitOne K (.type "list") (.type T)=some ("list" == T || ("list" == "bool" && T == "int"))) (h7:PySem.W.kitOne K (.type "dict") (.type T)=some ("dict" == T || ("dict" == "bool" && T == "int"))):oD K T:=fun t ht=>by
 simp only [zak,zaC,or_false] at ht;rcases ht with rfl|rfl|rfl|rfl|rfl|rfl|rfl <;> assumption
theorem xZ {K:zac}:oD K "int":=lj rfl rfl rfl rfl rfl rfl rfl
theorem nQ {K:zac}:oD K "bool":=lj rfl rfl rfl rfl rfl rfl rfl
theorem dg {K:zac}:oD K "tuple":=lj rfl rfl rfl rfl rfl rfl rfl
theorem u3 {K:zac}:oD K "list":=lj rfl rfl rfl rfl rfl rfl rfl
theorem yv:bootBuiltins "int" = some (.type "int"):=by decide +kernel
theorem ot:bootBuiltins "bool" = some (.type "bool"):=by decide +kernel
theorem dj:bootBuiltins "tuple" = some (.type "tuple"):=by decide +kernel
theorem vP:bootBuiltins "list" = some (.type "list"):=by decide +kernel
theorem IA {K:zac}{H:Hp}{a:Addr}{ns:Th}{mf:MF}(hO:Ci H)(hS:g9 K H a (ns.map V.int))(h:mf [.fl (ns.map .int)]=some (.bl true)):yA K 1 mf [.ref a] H (fun v _=>v=.bl true) fun _ _ _=>False:=by
 refine ⟨_,_,rfl,?_,h,fun v H' _ r=>by simpa only [am] using r⟩
 have rInts:∀{ns:Th},RelDs K H (ns.map .int) (ns.map V.int):=fun {ns}=>by
  induction ns with
  |nil=>simp only [zaY,RelDs]
  |cons n ns ih=>simp only [zaf,RelDs];exact ⟨_,_,rfl,by simp only [am],ih⟩
 simp only [RelDs];refine ⟨_,_,rfl,?_,rfl⟩;simp only [am];refine ⟨a,_,rfl,?_,rInts⟩;rcases hS with (hS|⟨o,hS⟩)|hS
 ·rcases hO a with z|⟨o,xs,z⟩ <;> rw [hS] at z <;> cases z
 ·exact .inl ⟨o,hS⟩
 ·exact .inr (.inr hS)
namespace R
end R
@[irreducible] def ZE (X:Cx)(e:Expr)(t:TE):Prop:=L2.PE X e t
@[irreducible] def ZT (X:Cx)(e:Expr)(t:TT):Prop:=L2.PT X e t
@[irreducible] def ZW (X:Cx)(e:Expr)(t:TT):Prop:=L2.PW X e t
@[irreducible] def ZA (X:Cx)(e:Tj)(t:TA):Prop:=L2.PA X e t
@[irreducible] def ZS (X:Cx)(e:Stmt)(t:TS):Prop:=L2.PS X e t
@[irreducible] def Ce (X:Cx)(e:Tk)(t:TS):Prop:=L2.oG X e t
@[irreducible] def ZG (X:Cx)(e:Expr)(t:TG):Prop:=L2.PG X e t
@[irreducible] def NH (X:Cx)(e:Tj)(t:Ct):Prop:=L2.Cu X e t
@[irreducible] def ZO (X:Cx)(e:Option Expr)(t:TO):Prop:=L2.PO X e t
@[irreducible] def Cf (X:Cx)(e:Tj)(t:TT):Prop:=HW.lZ X e t
@[irreducible] def ZI (X:Cx)(tg iter:Expr)(t:TI):Prop:=L2.PI X tg iter t
section
variable  {X:Cx}{a b e o:Expr}{es:Tj}{fa fb:FE}{ga:FA}{pos p p2 apos:Pos}{x:Str}
theorem ae (i:Nat)(hN:X.N[i]?=some x:=by rfl)(hv:Mu X.env.scope x:=by first|exact Or.inl rfl|exact Or.inr (Or.inl rfl)|exact Or.inr (Or.inr rfl))(hd:(x == ("__debug__" : Str))=false:=by decide)
  (hcd:(x == ("__classdict__" : Str))=false:=by decide):ZE X (.Name x pos) (az X.K (ad i)):=by
 exists PE.imp (Ig hN hv hd hcd) Hb
theorem ah {i j}:ZE X (.Constant (.int i) j pos) (az X.K (fK (.int i))):=by
 exists R.ah
theorem jI {i j}:ZE X (.Constant (.bool i) j pos) (az X.K (fK (.bl i))):=by
 exists PE.imp Li (kW fun _ _=>by simp only [ar,am])
theorem FY {j}:ZE X (.Constant .none j pos) (az X.K (fK .non)):=by
 exists PE.imp AJ (kW fun _ _=>by simp only [ar,am])
theorem dU (ha:ZE X a (az X.K fa))(hb:ZE X b (az X.K fb)):ZE X (.BinOp a .Add b pos) (az X.K (ax ij fa fb)):=by
 exists PE.imp (nL ((Iu.or (uR.or (DO.or Is))).or DQ) ha hb) (iL Jd)
theorem l8 (ha:ZE X a (az X.K fa))(hb:ZE X b (az X.K fb)):ZE X (.BinOp a .Sub b pos) (az X.K (ax jH fa fb)):=by
 exists PE.imp (nL Io ha hb) (iL LA)
theorem l9 (ha:ZE X a (az X.K fa))(hb:ZE X b (az X.K fb)):ZE X (.BinOp a .Mult b pos) (az X.K (ax lf fa fb)):=by
 exists PE.imp (nL Iq ha hb) (iL LE)
theorem eh (ha:ZE X a (az X.K fa))(hb:ZE X b (az X.K fb)):ZE X (.BinOp a .FloorDiv b pos) (az X.K (ax dH fa fb)):=by
 exists PE.imp (nL DN ha hb) (iL LM)
theorem cC (ha:ZE X a (az X.K fa))(hb:ZE X b (az X.K fb)):ZE X (.BinOp a .Mod b pos) (az X.K (ax b7 fa fb)):=by
 exists PE.imp (nL Ir ha hb) (iL LF)
theorem Aq (ha:ZE X a (az X.K fa))(hb:ZE X b (az X.K fb)):ZE X (.BinOp a .Pow b pos) (az X.K (ax mG fa fb)):=by
 exists PE.imp (nL Ip ha hb) (iL LC)
theorem pA (ha:ZE X a (az X.K fa)):ZE X (.UnaryOp .USub a pos) (az X.K (mn qC fa)):=by
 exists R.pA ha
theorem FX (ha:ZE X a (az X.K fa)):ZE X (.UnaryOp .Not a pos) (az X.K (BE fa)):=by
 exists PE.imp (Ii ha) Hj
theorem Od (ha:ZE X a (az X.K fa))(hb:ZE X b (az X.K fb)):ZE X (.Compare a [.Lt] [b] pos) (az X.K (ax JO fa fb)):=by
 exists PE.imp (qy F0 ha hb (gW _)) (iL LG)
theorem K5 (hu:X.A.units+64 < cLine)(ha:ZE X a (az X.K fa))(hb:ZE X b (az X.K fb)):ZE X (.Compare a [.Eq] [b] pos) (az X.K (ax (jh false) fa fb)):=by
 exists PE.imp (qy (uQ hu) ha hb (gW _)) (iL Jb)
theorem ww {rest:Tj}(ha:ZE X a (az X.K fa))(hb:ZE X (.BoolOp .And (b::rest) pos) (az X.K fb)):ZE X (.BoolOp .And (a::b::rest) pos) (az X.K (qJ fa fb)):=by
 exists PE.imp (Im ha hb) HG
theorem Ar {op}(ha:ZE X a (az X.K fa)):ZE X (.BoolOp op [a] pos) (az X.K fa):=by
 exists Ih ha
theorem ao:ZA X [] (iY X.K ai):=by
 exists PA.imp j7 Hk
theorem ag (ha:ZE X e (az X.K fa))(hr:ZA X es (iY X.K ga))(hs:rC e es X:=by exact aH rfl):ZA X (e::es) (iY X.K (af fa ga)):=by
 exists PA.imp (gJ ha hr hs) Da
theorem cU {x1}(h:ZA X es (iY X.K ga)):ZE X (.Tuple es x1 pos) (az X.K (cW ga)):=by
 exists PE.imp (AH h) Hc
theorem fA (h:ZA X es (iY X.K ga)):ZE X (.List es pos) (az X.K (du ga)):=by
 exists PE.imp (AK h) Hn
theorem HN:ZE X (.Dict [] [] pos) (az X.K w9):=by
 exists PE.imp sC C9
theorem b6 (ha:ZE X a (az X.K fa)):ZE X a (az X.K (cq fa)):=by
 exists PE.imp (uP ha) FP
theorem bM (ha:ZE X a (az X.K fa))(hb:ZE X b (az X.K fb))(hs:xr b:=by intro _ _;rfl):ZE X (.Subscript a b pos) (az X.K (ax c9 fa fb)):=by
 exists PE.imp (Lg IM ha hb hs) (iL Op)
theorem K3:ZO X none (ug X.K i6):=by
 exists PO.imp Du zX
theorem As (ha:ZE X a (az X.K fa)):ZO X (some a) (ug X.K (k9 fa)):=by
 exists R.As ha
theorem Oc {lo hi:Option Expr}{fl fh:FO}(ha:ZE X a (az X.K fa))(hl:ZO X lo (ug X.K fl))(hh:ZO X hi (ug X.K fh)):ZE X (.Subscript a (.Slice lo hi none p2) pos) (az X.K (LU fa fl fh)):=by
 exists PE.imp (AI GY ha hl hh) KE
theorem iM (hg:Gl X "len")(hm:X.mg "len" = none)(ha:ZA X (e::es) (iY X.K ga))(he:rC e es X:=by exact aH rfl)(hpl:(backTo pos (starEach es X.env)).any (·.1)=false:=by exact bo rfl) :
  ZE X (.Call (.Name "len" p) (e::es) [] pos) (az X.K (eL gF ga)):=by
 exists PE.imp (gk qZ hg hm PySem.boot_len ha (he:=he) (hpl:=hpl)) (kX LH)
theorem Au (hc:X.calm=true)(hg:Gl X "dict")(hm:X.mg "dict" = none)(ha:ZA X (e::es) (iY X.K ga))(he:rC e es X:=by exact aH rfl)(hpl:(backTo pos (starEach es X.env)).any (·.1)=false:=by exact bo rfl) :
  ZE X (.Call (.Name "dict" p) (e::es) [] pos) (az X.K (eL mt ga)):=by
 exists PE.imp (f9 (pV hc) hg hm (by decide +kernel) ha (he:=he) (hpl:=hpl)) (kX Jc)
theorem qu {lo hi:Option Expr}{fl fh:FO}{j:Nat}{p3 p4:Pos}(ha:ZE X a (az X.K fa))(hl:ZO X lo (ug X.K fl))(hh:ZO X hi (ug X.K fh)):ZE X (.Subscript a (.Slice lo hi (some (.UnaryOp .USub (.Constant (.int 1) j p3) p4)) p2) pos) (az X.K (mq fa fl fh (-1))):=by
 exists R.qu ha hl hh
theorem jv {d:D}(h:jp X.K X.mg x d)(hg:Gl X x:=by rfl)(hd:(x == ("__debug__" : Str))=false:=by decide):ZE X (.Name x pos) (az X.K (fK d)):=by
 exists R.jv h hg hd
theorem uK {f:Expr}{fb fc:FE}{cpos:Pos}(hu:X.A.units+64 < cLine)(ho:ZE X o (az X.K fa))(he:ZE X e (az X.K fb))(hf:ZE X f (az X.K fc))(m:M2 X o "get" apos e f cpos:=by exact ⟨rfl,rfl,rfl,rfl⟩) :
  ZE X (.Call (.Attribute o "get" apos) [e,f] [] cpos) (az X.K (tF fa fb fc)):=by
 exists PE.imp (AN (by omega) ho he hf m) Hu
theorem mW (hg:Gl X "tuple")(hm:X.mg "tuple" = none)(ha:ZA X (e::es) (iY X.K ga))(he:rC e es X:=by exact aH rfl)(hpl:(backTo pos (starEach es X.env)).any (·.1)=false:=by exact bo rfl) :
  ZE X (.Call (.Name "tuple" p) (e::es) [] pos) (az X.K (eL qe ga)):=by
 exists PE.imp (f9 jT hg hm (by decide +kernel) ha (he:=he) (hpl:=hpl)) (kX Ly)
theorem qv (hg:Gl X "list")(hm:X.mg "list" = none)(ha:ZA X (e::es) (iY X.K ga))(he:rC e es X:=by exact aH rfl)(hpl:(backTo pos (starEach es X.env)).any (·.1)=false:=by exact bo rfl) :
  ZE X (.Call (.Name "list" p) (e::es) [] pos) (az X.K (eL gL ga)):=by
 exists PE.imp (f9 qY hg hm (by decide +kernel) ha (he:=he) (hpl:=hpl)) (kX Ja)
theorem K8 (hc:X.calm=true)(hg:Gl X "all")(hm:X.mg "all" = none)(ha:ZA X (e::es) (iY X.K ga))(he:rC e es X:=by exact aH rfl)(hpl:(backTo pos (starEach es X.env)).any (·.1)=false:=by exact bo rfl) :
  ZE X (.Call (.Name "all" p) (e::es) [] pos) (az X.K (eL (Cc false) ga)):=by
 exists PE.imp (gk (yt hc) hg hm PyProof.Rows.boot_all ha (he:=he) (hpl:=hpl)) (kX LP)
theorem K2 (hc:X.calm=true)(hg:Gl X "sum")(hm:X.mg "sum" = none)(ha:ZA X (e::es) (iY X.K ga))(he:rC e es X:=by exact aH rfl)(hpl:(backTo pos (starEach es X.env)).any (·.1)=false:=by exact bo rfl) :
  ZE X (.Call (.Name "sum" p) (e::es) [] pos) (az X.K (eL xC ga)):=by
 exists PE.imp (gk (yr hc) hg hm (by decide +kernel) ha (he:=he) (hpl:=hpl)) (kX Lz)
theorem iZ {T:String}{y:Str}(hT:oD X.K T)(hg:Gl X "isinstance")(hm:X.mg "isinstance" = none)(hgT:Gl X y)(hmT:X.mg y=none)(hvT:bootBuiltins y=some (.type T))(ha:ZE X e (az X.K fa))(hn:y≠"__name__":=by decide)(hdb:(y == ("__debug__" : Str))=false:=by decide)
  (he:starEach (e::[.Name y p2]) X.env=(false,eval e X.env)::starEach [.Name y p2] X.env:=by exact aH rfl) (hpl:(backTo pos (starEach [.Name y p2] X.env)).any (·.1)=false:=by rfl) :
  ZE X (.Call (.Name "isinstance" p) [e,.Name y p2] [] pos) (az X.K (mn (jc T) fa)):=by
 exists PE.imp (gk (B4 hT) hg hm (by decide +kernel) (gJ ha (gJ (DI (v:=.ty T) hgT hmT hvT rfl hn hdb) j7 rfl) he) (he:=he) (hpl:=hpl)) Ho
theorem fm (ha:ZE X a (az X.K fa))(he:∀whole,isTrue a X.env whole=(do let v ←whole;standAt a.pos;holding [v] (truthy v)):=by intro _;rfl):ZT X a (fI X.K (eZ fa)):=by
 exists PT.imp (Aw ha he) He
theorem N6 (ha:ZE X a (az X.K fa))(hb:ZE X b (az X.K fb)):ZT X (.Compare a [.Lt] [b] pos) (fI X.K (fB (ax JO fa fb))):=by
 exists R.nq F0 LG ha hb (gW _)
theorem GQ (ha:ZE X a (az X.K fa))(hb:ZE X b (az X.K fb)):ZT X (.Compare a [.LtE] [b] pos) (fI X.K (fB (ax JQ fa fb))):=by
 exists R.nq Lj Oo ha hb (gW _)
theorem CI (ha:ZE X a (az X.K fa))(hb:ZE X b (az X.K fb)):ZT X (.Compare a [.Gt] [b] pos) (fI X.K (fB (ax Gb fa fb))):=by
 exists R.nq Lk Oq ha hb (gW _)
theorem CJ (hu:X.A.units+64 < cLine)(ha:ZE X a (az X.K fa))(hb:ZE X b (az X.K fb)):ZT X (.Compare a [.Eq] [b] pos) (fI X.K (fB (ax (jh false) fa fb))):=by
 exists R.nq (uQ hu) Jb ha hb (gW _)
theorem mD (hu:X.A.units+64 < cLine)(ha:ZE X a (az X.K fa))(hb:ZE X b (az X.K fb)):ZT X (.Compare a [.NotEq] [b] pos) (fI X.K (fB (ax (jh true) fa fb))):=by
 exists R.nq (AS hu) Jb ha hb (gW _)
theorem GP {j}(ha:ZE X a (az X.K fa)):ZT X (.Compare a [.IsNot] [.Constant .none j p] pos) (fI X.K (fB (mn (F6 true .non) fa))):=by
 exists R.N7 (.inl ⟨rfl,rfl⟩) sG ha AJ (gW _)
variable  {ta tb:FT}{rest:Tj}
theorem gH (ha:ZT X a (fI X.K ta)):ZT X (.UnaryOp .Not a pos) (fI X.K (eM ta)):=by
 exists PT.imp (HY ha) CY
theorem EX (ha:ZT X a (fI X.K ta))(hb:ZW X (.BoolOp .And (b::rest) pos) (fI X.K tb)):ZW X (.BoolOp .And (a::b::rest) pos) (fI X.K (rX ta tb)):=by
 exists PW.imp (HU ha hb) CZ
theorem jX (ha:ZT X a (fI X.K ta))(hb:ZW X (.BoolOp .Or (b::rest) pos) (fI X.K tb)):ZW X (.BoolOp .Or (a::b::rest) pos) (fI X.K (gE ta tb)):=by
 exists PW.imp (K9 ha hb) Hf
theorem yJ (ha:ZT X a (fI X.K ta)):ZW X (.BoolOp .And [a] pos) (fI X.K ta):=by
 exists Dj ha
theorem jQ (ha:ZT X a (fI X.K ta)):ZW X (.BoolOp .Or [a] pos) (fI X.K ta):=by
 exists HR ha
theorem yz (h:ZW X a (fI X.K ta)):ZT X a (fI X.K ta):=by
 exists h.pt
theorem HM {c:Expr}(hc:ZT X c (fI X.K ta))(ha:ZE X a (az X.K fa))(hb:ZE X b (az X.K fb)):ZE X (.IfExp c a b pos) (az X.K (Jj ta fa fb)):=by
 exists PE.imp (AL hc ha hb) KH
variable  {st:Stmt}{sts aa bb:Tk}{sa sb:FS}{c tg iter:Expr}
theorem cT:Ce X [] (gC X.K bC):=by
 exists oG.imp Dm C4
theorem aj (h1:ZS X st (gC X.K sa))(h2:Ce X sts (gC X.K sb)):Ce X (st::sts) (gC X.K (aq sa sb)):=by
 exists oG.imp (Ax h1 h2) Hg
theorem aJ (h1:ZS X st (gC X.K sa)):Ce X [st] (gC X.K sa):=by
 exists Dl h1
theorem eS (he:ZE X e (az X.K fa))(hs:swapsWith e none pos.line X.env=pure false:=by rfl):ZS X (.Expr e pos) (gC X.K (ee fa)):=by
 exists PS.imp (Do he hs) C8
theorem bz (he:ZE X e (az X.K fa)):ZS X (.Return (some e) pos) (gC X.K (bV fa)):=by
 exists PS.imp (H9 he) Hh
theorem fN (hc:ZT X c (fI X.K ta))(ha:Ce X aa (gC X.K sa))(hb:Ce X bb (gC X.K sb)):ZS X (.If c aa bb pos) (gC X.K (ju ta sa sb)):=by
 exists PS.imp (Lc hc ha hb) Hq
theorem zO (i:Nat){pos':Pos}(hN:X.N.Nodup)(he:ZE X e (az X.K fa))(hi:X.N[i]?=some x:=by rfl)(hx:Cj X.env.scope x:=by first|exact Or.inl rfl|exact Or.inr rfl)(hf:X.fn x=true\/X.env.scope.names.lookup x=some .local:=by first|exact .inl rfl|exact .inr rfl) :
  ZS X (.AugAssign (.Name x pos') .Add e pos) (gC X.K (xI i (fun a b=>a+b) fa)):=by
 exists PS.imp (Ia hN hi hx he IU hf) HE
theorem aN (i:Nat){pos':Pos}(hN:X.N.Nodup)(he:ZE X e (az X.K fa))(hi:X.N[i]?=some x:=by rfl)(hx:Cj X.env.scope x:=by first|exact Or.inl rfl|exact Or.inr rfl)(hs:swapsWith e (some (.Name x pos')) pos.line X.env=pure false:=by rfl)(hf:X.fn x=true\/X.env.scope.names.lookup x=some .local:=by first|exact .inl rfl|exact .inr rfl) :
  ZS X (.Assign [.Name x pos'] e pos) (gC X.K (aI i fa)):=by
 exists PS.imp (HZ hN hi hx he hs hf) zV
variable  {g:FG}{gs:Gz}{fi:FI}
theorem bx (i:Nat)(hN:X.N.Nodup)(hi:X.N[i]?=some x:=by rfl)(hx:Cj X.env.scope x:=by first|exact Or.inl rfl|exact Or.inr rfl)(hf:X.fn x=true\/X.env.scope.names.lookup x=some .local:=by first|exact .inl rfl|exact .inr rfl):ZG X (.Name x pos) (oE X.K (aV i)):=by
 exists PG.imp (DB hN hi hx hf) Hw
theorem dF:NH X [] (sm X.K bn):=by
 exists Cu.imp DA zY
theorem aR (h1:ZG X e (oE X.K g))(h2:NH X es (sm X.K gs))(hs:(assignEach (e::es) X.env).map (·.2)=assign e X.env::(assignEach es X.env).map (·.2):=by exact t9 rfl):NH X (e::es) (sm X.K (ap g gs)):=by
 exists Cu.imp (AG h1 h2 hs) xL
theorem jN {k n:Nat}(hc:X.calm=true)(h:NH X es (sm X.K gs))(hn:(assignEach es X.env).length=n:=by rfl)(hst:(assignEach es X.env).findIdx? (·.1)=none:=by rfl):ZG X (.Tuple es k pos) (oE X.K (ie n gs)):=by
 exists PG.imp (Ic hc h hn hst) Hv
theorem LB (hu : X.A.units + 64 < cLine) (ha : ZE X a (az X.K fa)) (hb : ZE X b (az X.K fb)) (hq : ∀ v, assign (.Subscript a b pos) X.env v = (do
      let ov ← holding [v] (eval a X.env)
      let iv ← holding [v, ov] (eval b X.env)
      standAt pos
      holding [v, ov, iv] (setItem ov iv v)
      release [v, ov, iv] []) := by intro _; rfl) : ZG X (.Subscript a b pos) (oE X.K (qH fa fb)) := by
  exists PG.imp (Id ha hb (uf.or zI (zJ (by omega))) hq) C6
theorem cV (ha:ZE X a (az X.K fa)):ZI X tg a (uh X.K (bm fa)):=by
 exists PI.imp (Dx (uP ha)) C5
theorem On {k:Nat}{pt:Pos}(hg:Gl X "enumerate")(hm:X.mg "enumerate" = none)(ha:ZE X a (az X.K fa))(hs:starEach [a] X.env=[(false,eval a X.env)]:=by exact aH rfl):ZI X (.Tuple es k pt) (.Call (.Name "enumerate" p) [a] [] pos) (Dc X.K (Ea fa)):=by
 exists PI.imp (Dy hg hm (ag ha ao hs) hs) Hs
theorem D4 (hg:Gl X "range")(hm:X.mg "range" = none)(ha:ZE X a (az X.K fa))(hs:starEach [a] X.env=[(false,eval a X.env)]:=by exact aH rfl):ZI X tg (.Call (.Name "range" p) [a] [] pos) (uh X.K (vj fa)):=by
 exists PI.imp (xS hg hm (ag ha ao hs) hs) Hr
theorem G2 (hc:X.calm=true)(hi:ZI X tg iter (Dc X.K fi))(hg:ZG X tg (oE X.K g))(hb:Ce X aa (gC X.K sa))(hp:PassesOwn (model X.prog X.w) X.A X.env X.xe)(hs:∀x,foldedSetIterable iter X.env x=pure x:=by intro _;rfl):ZS X (.For tg iter aa [] pos) (gC X.K (dB fi g sa)):=by
 exists PS.imp (Ay hp hc hi hg hb hs) C7
theorem d9 (hc:X.calm=true)(hi:ZI X tg iter (uh X.K fi))(hg:ZG X tg (oE X.K g))(hb:Ce X aa (gC X.K sa))(hp:PassesOwn (model X.prog X.w) X.A X.env X.xe)(hs:∀x,foldedSetIterable iter X.env x=pure x:=by intro _;rfl):ZS X (.For tg iter aa [] pos) (gC X.K (dB fi g sa)):=by
 exists PS.imp (Ay hp hc hi hg hb hs) Hy
theorem pi (he:ZE X e (az X.K fa))(hg:ZG X tg (oE X.K g))(hs:swapsWithSole [tg] e pos.line X.env=pure false:=by rfl)(hw:swappedStores [tg] e X.env=pure none:=by rfl)(h1:(assignEach [tg] X.env).map (·.2)=[assign tg X.env]:=by rfl):ZS X (.Assign [tg] e pos) (gC X.K (qq fa g)):=by
 exists PS.imp (Ib he hg hs hw h1) HF
theorem jg:Cf X [] (fI X.K dw):=by
 exists R.lZ.imp AE Ha
theorem w6 (h:ZT X c (fI X.K ta)):Cf X [c] (fI X.K ta):=by
 exists AD h
theorem gT {ifs:Tj}{scope:Scope}(ix:List Nat)(own caps:Tl)(hc:X.calm=true)(n:aK X.env.scope scope own caps)(hi:ZI X tg iter (uh X.K fi))
  (hb:∀cl C s₂ H₂ fp,ZG (aL X scope cl C s₂ H₂ fp (own++caps)) tg (oE X.K g)/\Cf (aL X scope cl C s₂ H₂ fp (own++caps)) ifs (fI X.K ta)/\ZE (aL X scope cl C s₂ H₂ fp (own++caps)) e (az X.K fa))
  (hix:ix.map (fun i=>X.N[i]?)=caps.map some:=by rfl)
  (hs:∀x,foldedSetIterable iter X.env x=pure x:=by intro _;rfl):ZE X (.ListComp e [⟨tg,iter,ifs,0⟩] scope pos) (az X.K (cj ix own.length fi g ta fa)):=by
 exists R.gT ix own caps hc n hi hb hix hs
theorem iX (i:Nat){py spos:Pos}{ifs:Tj}{scope:Scope}(ix:List Nat)(own caps:Tl)(hc:X.calm=true)(n:aK X.env.scope scope own caps)(hN:X.N.Nodup)(hi:ZI X tg iter (uh X.K fi))
  (hb:∀cl C s₂ H₂ fp,ZG (aL X scope cl C s₂ H₂ fp (own++caps)) tg (oE X.K g)/\Cf (aL X scope cl C s₂ H₂ fp (own++caps)) ifs (fI X.K ta)/\ZE (aL X scope cl C s₂ H₂ fp (own++caps)) e (az X.K fa))
  (hsw:swapsWith (.ListComp e [⟨tg,iter,ifs,0⟩] scope pos) (some (.Name x py)) spos.line X.env=pure true:=by rfl)
  (hy:X.N[i]?=some x:=by rfl) (hyl:Cj X.env.scope x:=by first|exact Or.inl rfl|exact Or.inr rfl)
  (hix:ix.map (fun i=>X.N[i]?)=caps.map some:=by rfl)
  (hs:∀x,foldedSetIterable iter X.env x=pure x:=by intro _;rfl) (hf:X.fn x=true\/X.env.scope.names.lookup x=some .local:=by first|exact .inl rfl|exact .inr rfl) :
  ZS X (.Assign [.Name x py] (.ListComp e [⟨tg,iter,ifs,0⟩] scope pos) spos) (gC X.K (aI i (cj ix own.length fi g ta fa))):=by
 exists R.iX i ix own caps hc n hN hi hb hsw hy hyl hix hs hf
end
theorem okP {P:Program}{w:World}{K:zac}{mg:Td}{base:Heap}{x:Str}{st:Stmt}{N ps:Tl}{k:Nat}{b:FS}(d:cZ K mg x st ps)(S:aT N ps (ak st))
  (hbody:∀(f:Addr) (cdv:Value) (A:Around) (outer:List Env) (s:Shared) (H:Hp) (E:XK),dO k (A.deeper (envOfC x (ak st) s.heap.objs.size f cdv))->Ce (lR mB P w K mg base N x (ak st) f cdv A outer s H E).nox (cO st) (gC K b)) :
  bR P w K mg base (k+1) x ps (fV N.length b):=by
 exists R.okP d S hbody
theorem aW {X:Cx}{k:Nat}{x:Str}{ps:Tl}{mf:MF}{e:Expr}{es:Tj}{ga:FA}{p pos:Pos}{n:Nat}(F:bR X.prog X.w X.K X.mg X.base k x ps mf)(hr:dO k X.A)(ha:ZA X (e::es) (iY X.K ga))(hg:Gl X x:=by rfl)(hn:ps.length=n:=by rfl)
  (hdb:(x == ("__debug__" : Str))=false:=by decide) (he:rC e es X:=by exact aH rfl) (hpl:(backTo pos (starEach es X.env)).any (·.1)=false:=by exact bo rfl) :
  ZE X (.Call (.Name x p) (e::es) [] pos) (az X.K (aS mf n ga)):=by
 exists R.aW F hr ha hg hn hdb he hpl
theorem qw {X:Cx}{k:Nat}{x:Str}{ps:Tl}{mf:MF}{e:Expr}{es:Tj}{ga:FA}{p pos:Pos}{n:Nat}(F:bR X.prog X.w X.K X.mg X.base k x ps mf)(hr:dO k X.A)(ha:ZA X (e::es) (iY X.K ga))(hg:Gl X x:=by rfl)(hn:ps.length=n:=by rfl)
  (hdb:(x == ("__debug__" : Str))=false:=by decide) (he:rC e es X:=by exact aH rfl) (hpl:(backTo pos (starEach es X.env)).any (·.1)=false:=by exact bo rfl) :
  ZE X (.Call (.Name x p) (e::es) [] pos) (az X.K (lQ mf n ga)):=by
 exists R.qw F hr ha hg hn hdb he hpl
theorem okN {P:Program}{w:World}{K:zac}{mg:Td}{base:Heap}{x:Str}{st:Stmt}{N ps:Tl}{k:Nat}{b:FS}(d:cZ K mg x st ps)(S:aT N ps (ak st))
  (hbody:∀(f:Addr) (cdv:Value) (A:Around) (outer:List Env) (s:Shared) (H:Hp) (E:XK),dO k (A.deeper (envOfC x (ak st) s.heap.objs.size f cdv))->Ce (lR mB P w K mg base N x (ak st) f cdv A outer s H E).nox (cO st) (gC K b)) :
  jV P w K mg base (k+1) x ps (zP N.length b):=by
 exists R.okN d S hbody
theorem fe {X:Cx}{k:Nat}{x:Str}{ps:Tl}{mf:MC}{e:Expr}{es:Tj}{ga:FA}{p pos:Pos}{n:Nat}(F:jV X.prog X.w X.K X.mg X.base k x ps mf)(hr:dO k X.A)(ha:ZA X (e::es) (iY X.K ga))(hg:Gl X x:=by rfl)(hn:ps.length=n:=by rfl)
  (hdb:(x == ("__debug__" : Str))=false:=by decide) (he:rC e es X:=by exact aH rfl) (hpl:(backTo pos (starEach es X.env)).any (·.1)=false:=by exact bo rfl) :
  ZE X (.Call (.Name x p) (e::es) [] pos) (az X.K (bX mf n ga)):=by
 exists R.fe F hr ha hg hn hdb he hpl
theorem uJ {X:Cx}{o e f:Expr}{fa fb fc:FE}{apos cpos:Pos}(ho:ZE X o (az X.K fa))(he:ZE X e (az X.K fb))(hf:ZE X f (az X.K fc))(m:M2 X o "setdefault" apos e f cpos:=by exact ⟨rfl,rfl,rfl,rfl⟩) :
  ZE X (.Call (.Attribute o "setdefault" apos) [e,f] [] cpos) (az X.K (oe fa fb fc)):=by
 exists PE.imp (DF ho he hf m) C3
theorem K4 {X:Cx}{a:Expr}{fa:FE}(ha:ZE X a (az X.K fa)):ZE X a (az X.K (Eb fa)):=by
 exists PE.imp (Ik ha) Hx
theorem me {X:Cx}{a b:Expr}{fa fb:FE}{pos:Pos}(hu:X.A.units+64 < cLine)(ha:ZE X a (az X.K fa))(hb:ZE X b (az X.K fb))(hs:EK b:=by intro _ _;rfl):ZE X (.Subscript a b pos) (az X.K (lz fa fb)):=by
 exists PE.imp (wC (by omega) ha hb hs) HC
theorem pw {X:Cx}{e:Expr}{es:Tj}{ga:FA}{p pos:Pos}(hc:X.calm=true)(hg:Gl X "sorted")(hm:X.mg "sorted" = none)(ha:ZA X (e::es) (iY X.K ga))(he:rC e es X:=by exact aH rfl)(hpl:(backTo pos (starEach es X.env)).any (·.1)=false:=by exact bo rfl) :
  ZE X (.Call (.Name "sorted" p) (e::es) [] pos) (az X.K (eL (kR (!HS.bt X.w)) ga)):=by
 exists PE.imp (gk (qX hc) hg hm (by decide +kernel) ha (he:=he) (hpl:=hpl)) (kX IW)
theorem HQ {X:Cx}{kx tg iter:Expr}{fa:FE}{fi:FI}{g:FG}{ta:FT}{p pos cp tp lp:Pos}{x1:Nat}{ifs:Tj}{scope:Scope}(ix:List Nat)(own caps:Tl)(hc:X.calm=true)(hg:Gl X "dict")(hm:X.mg "dict" = none)(n:aK X.env.scope scope own caps)(hi:ZI X tg iter (uh X.K fi))
  (hb:∀cl C s₂ H₂ fp,ZG (aL X scope cl C s₂ H₂ fp (own++caps)) tg (oE X.K g)/\Cf (aL X scope cl C s₂ H₂ fp (own++caps)) ifs (fI X.K ta)/\ZE (aL X scope cl C s₂ H₂ fp (own++caps)) kx (az X.K fa))
  (hix:ix.map (fun i=>X.N[i]?)=caps.map some:=by rfl)
  (hs:∀x,foldedSetIterable iter X.env x=pure x:=by intro _;rfl) (hst:gY kx=false:=by rfl):ZE X (.Call (.Name "dict" p) [.ListComp (.Tuple [kx,.List [] lp] x1 tp) [⟨tg,iter,ifs,0⟩] scope cp] [] pos) (az X.K (Gi ix own.length fi g ta fa)):=by
 exists R.HQ ix own caps hc hg hm n hi hb hix hs hst
theorem HL {X:Cx}{e:Expr}{es:Tj}{ga:FA}{p pos:Pos}(hg:Gl X "tuple")(hm:X.mg "tuple" = none)(ha:ZA X (e::es) (iY X.K ga))(he:rC e es X:=by exact aH rfl)(hpl:(backTo pos (starEach es X.env)).any (·.1)=false:=by exact bo rfl):ZE X (.Call (.Name "tuple" p) (e::es) [] pos) (az X.K (eL Bd ga)):=by
 exists PE.imp (f9 jT hg hm (by decide +kernel) ha (he:=he) (hpl:=hpl)) (kX LI)
theorem FZ {X:Cx}{e:Expr}{fa:FE}{p pos p2 pos2:Pos}(hc:X.calm=true)(hu:X.A.units+64 < cLine)(hg:Gl X "sorted")(hm:X.mg "sorted" = none)(hg2:Gl X "set")(hm2:X.mg "set" = none)(ha:ZE X e (az X.K fa))(hs:gY e=false:=by rfl) :
  ZE X (.Call (.Name "sorted" p) [.Call (.Name "set" p2) [e] [] pos2] [] pos) (az X.K (vm fa)):=by
 exists PE.imp (gk (t4 hc) hg hm (by decide +kernel) (gJ (f9 (vJ hc hu) hg2 hm2 (by decide +kernel) (gJ ha j7 (aH hs)) (he:=aH hs)) j7)) HH
theorem Av {X:Cx}{a b:Expr}{fa fb:FE}{pos:Pos}(ha:ZE X a (az X.K fa))(hb:ZE X b (az X.K fb)):ZE X (.BinOp a .Add b pos) (az X.K (ax mN fa fb)):=by
 exists PE.imp (nL DP ha hb) (iL Je)
theorem HJ {X:Cx}{o e f:Expr}{fa fb fc:FE}{apos cpos:Pos}(hu:X.A.units+64 < cLine)(ho:ZE X o (az X.K fa))(he:ZE X e (az X.K fb))(hf:ZE X f (az X.K fc))(m:M2 X o "setdefault" apos e f cpos:=by exact ⟨rfl,rfl,rfl,rfl⟩) :
  ZE X (.Call (.Attribute o "setdefault" apos) [e,f] [] cpos) (az X.K (oa fa fb fc)):=by
 exists PE.imp (DD (by omega) ho he hf m) C1
theorem K7 {X:Cx}{pos:Pos}:ZE X (.Dict [] [] pos) (az X.K Ed):=by
 exists PE.imp AM HB
theorem K6 {X:Cx}{pos:Pos}:ZE X (.Dict [] [] pos) (az X.K Ec):=by
 exists PE.imp sC Hz
theorem zt {X:Cx}{a b:Expr}{fa fb:FE}{pos:Pos}(hu:X.A.units+64 < cLine)(ha:ZE X a (az X.K fa))(hb:ZE X b (az X.K fb))(hm:behindInMarks .NotIn b=false:=by rfl):ZT X (.Compare a [.NotIn] [b] pos) (fI X.K (fB (ax (Lw true) fa fb))):=by
 exists R.nq (qA.or (qB hu)) LK ha hb hm
theorem K1 {X:Cx}{a b:Expr}{fa fb:FE}{pos:Pos}(hu:X.A.units+64 < cLine)(ha:ZE X a (az X.K fa))(hb:ZE X b (az X.K fb))(hs:EK b:=by intro _ _;rfl):ZE X (.Subscript a b pos) (az X.K (BD fa fb)):=by
 exists PE.imp (wC (by omega) ha hb hs) Hd
theorem xO {X:Cx}{e:Expr}{es:Tj}{ga:FA}{p pos:Pos}(hc:X.calm=true)(hg:Gl X "sorted")(hm:X.mg "sorted" = none)(ha:ZA X (e::es) (iY X.K ga))(he:rC e es X:=by exact aH rfl)(hpl:(backTo pos (starEach es X.env)).any (·.1)=false:=by exact bo rfl) :
  ZE X (.Call (.Name "sorted" p) (e::es) [] pos) (az X.K (eL pd ga)):=by
 exists PE.imp (gk (qW hc) hg hm (by decide +kernel) ha (he:=he) (hpl:=hpl)) (kX D5)
theorem Dh {X:Cx}{k1 v1:Expr}{f1 g1:FE}{pos:Pos}(hk1:ZE X k1 (az X.K f1))(hv1:ZE X v1 (az X.K g1)):ZE X (.Dict [some k1] [v1] pos) (az X.K (og f1 g1)):=by
 exists PE.imp (DH (AA hk1 hv1 Ds) rfl rfl (by simp) (by simp)) zZ
theorem Bu {X:Cx}{tg a:Expr}{fa:FE}(ha:ZE X a (az X.K fa)):ZI X tg a (uh X.K (kj fa)):=by
 exists PI.imp (Dz (uP ha)) Ht
theorem FW {X:Cx}{a b:Expr}{fa fb:FE}{p p2 pos pos2:Pos}(hc:X.calm=true)(hg:Gl X "list")(hm:X.mg "list" = none)(hg2:Gl X "zip")(hm2:X.mg "zip" = none)(ha:ZE X a (az X.K fa))(hb:ZE X b (az X.K fb))(sa:gY a=false:=by rfl)(sb:gY b=false:=by rfl) :
  ZE X (.Call (.Name "list" p) [.Call (.Name "zip" p2) [a,b] [] pos2] [] pos) (az X.K (n8 fa fb)):=by
 exists PE.imp (Ie hc hg hm hg2 hm2 (ag ha (ag hb ao (aH sb)) (aH sa)) (aH rfl) (aH sa) (bo (by simp [sb]))) G9
theorem At {X:Cx}{a b:Expr}{fa fb:FE}{pos:Pos}(hu:X.A.units+64 < cLine)(ha:ZE X a (az X.K fa))(hb:ZE X b (az X.K fb)):ZE X (.Compare a [.Eq] [b] pos) (az X.K (ax (lG false) fa fb)):=by
 exists PE.imp (qy (uQ hu) ha hb (gW _)) (iL Gd)
theorem o8 {X:Cx}{a b:Expr}{fa fb:FE}{pos:Pos}(hu:X.A.units+64 < cLine)(ha:ZE X a (az X.K fa))(hb:ZE X b (az X.K fb)):ZT X (.Compare a [.NotEq] [b] pos) (fI X.K (fB (ax (lG true) fa fb))):=by
 exists R.nq (AS hu) Gd ha hb (gW _)
section
variable  {X:Cx}{e o:Expr}{es:Tj}{fa:FE}{ga:FA}{apos cpos:Pos}
theorem i4 (ho:ZE X o (az X.K fa))(ha:ZA X (e::es) (iY X.K ga))(hbase:attributeBase o "append" X.env (eval o X.env)=eval o X.env:=by rfl)
  (hfew:((backTo cpos (starEach (e::es) X.env)).all (fun x=>!x.1) && (backToKw cpos (keywordEach [] X.env)).all (fun x=>x.1.isSome)
   && decide ((e::es).length+([]:List Keyword).length+(if ([]:List Keyword).isEmpty then 0 else 1) < 30))=true:=by rfl)
  (hline:(apos.endLine == cpos.line)=true:=by rfl) (hs:rC e es X:=by exact aH rfl) (hplain:(backTo cpos (starEach es X.env)).any (·.1)=false:=by exact bo rfl) :
  ZE X (.Call (.Attribute o "append" apos) (e::es) [] cpos) (az X.K (oR jO fa ga)):=by
 exists PE.imp (Lh PySem.F.plainAttrs_list PySem.F.slot_list_append PySem.F.type_list_append xW ho ha hbase hfew hline hs hplain) (KF LO)
theorem wv (ho:ZE X o (az X.K fa))(hbase:attributeBase o "clear" X.env (eval o X.env)=eval o X.env:=by rfl)(hline:(apos.endLine == cpos.line)=true:=by rfl) :
  ZE X (.Call (.Attribute o "clear" apos) [] [] cpos) (az X.K (oR tT fa ai)):=by
 exists PE.imp (Il PySem.F.plainAttrs_list PySem.F.slot_list_clear PySem.F.type_list_clear AX ho hbase hline) (Hm LN)
end
theorem Jh {P:Program}{w:World}{K:zac}{mg:Td}{base:Heap}{x qual:Str}{st:Stmt}{f:Addr}{fd:FuncData}{N ps:Tl}{k:Nat}{b:FS}(F:rB K x qual st f fd)(S:aT N ps (ak st))
  (hbody:∀(cdv:Value) (A:Around) (outer:List Env) (s:Shared) (H:Hp) (E:XK),dO k (A.deeper (envOfC qual (ak st) s.heap.objs.size f cdv))->Ce (lR mB P w K mg base N qual (ak st) f cdv A outer s H E).nox (cO st) (gC K b)) :
  dk P w K mg base mB (k+1) f fd ps (yA K ps.length (fV N.length b)):=by
 exists rB.okP F S hbody
theorem RC {P:List Value->Prop}(h:P []):∀us:Te,us.length=0->P us:=fun us e=>by rw [zbD.mp e];exact h
theorem MB {P:List Value->Prop}{n:Nat}(h:∀a us,us.length=n->P (a::us)):∀us:Te,us.length=n+1->P us:=fun us e=>by
 cases us with
 |nil=>cases e
 |cons a us=>exact h a us (Nat.succ.inj e)
theorem yy {P:List Value->Prop}(h:∀a,P [a]):∀us:Te,us.length=1->P us:=MB fun a=>RC (P:=fun us=>P (a::us)) (h a)
theorem JK {P:List Value->Prop}(h:∀a b,P [a,b]):∀us:Te,us.length=2->P us:=MB fun a=>yy (P:=fun us=>P (a::us)) (h a)
theorem JW {P:List Value->Prop}(h:∀a b c,P [a,b,c]):∀us:Te,us.length=3->P us:=MB fun a=>JK (P:=fun us=>P (a::us)) (h a)
theorem RB {P:List Value->Prop}(h:∀a b c d,P [a,b,c,d]):∀us:Te,us.length=4->P us:=MB fun a=>JW (P:=fun us=>P (a::us)) (h a)
section
variable  {K:zac}{h:Heap}{mg:Td}{x:Str}{st:Stmt}{ps:Tl}
def FK (K:zac)(x:Str)(st:Stmt):Prop:=∃f:Addr,PySem.W.nsIn K mainGlobals x=some (some (.ref f))/\∃(oc:Value) (od:Option Addr) (kV dc pm:Value) (an:Option Addr) (cd ct:Value) (sl:Array (Tg)),
 K.lookup f=some ⟨oc,od,.func (PySem.W.fnOf x x (iG st) (cO st) (ak st) .none kV dc pm an cd ct),sl⟩/\PySem.W.codeIn K cd x=true/\PySem.W.keepIn K (.ref f)=true
abbrev GB (x:Str)(st:Stmt)(ps:Tl):Prop:=∀(kV doc pm:Value) (an:Option Addr) (cdv ct:Value) (us:Te),us.length=ps.length->bindArgs (PySem.W.fnOf x x (iG st) (cO st) (ak st) .none kV doc pm an cdv ct) ⟨us,[]⟩=pure (ps.zip us)
theorem FK.at_ (a:FK K x st)(X:K.In h)(G:h.Ns mainGlobals mg)(hb:GB x st ps):cZ K mg x st ps:=by
 obtain ⟨f,a,oc,od,kV,dc,pm,an,cd,ct,sl,l,c,k⟩:=a;have F:=Bz l c k;exact ⟨_,_,F,F.binds hb,zc6 X G a⟩
theorem FK.law {fa:Addr}(a:FK K x st)(X:K.In h)(G:h.Ns mainGlobals mg)(e:mg x=some (.ref fa))(hb:GB x st ps):∃fd,rB K x x st fa fd/\∀(s:Shared) (us:Te),us.length=ps.length->BindsTo s fd ⟨us,[]⟩ (ps.zip us):=by
 obtain ⟨f,a,oc,od,kV,dc,pm,an,cd,ct,sl,l,c,k⟩:=a;have:=e.symm.trans (zc6 X G a);cases this;exact ⟨_,Bz l c k,fun s us hl=>.of_eq (hb _ _ _ _ _ _ us hl)⟩
end
end HW
namespace HW
open PySem L2
section
variable  {ρ:Lo}{μ μ1:ac}{x y:R}{d:D}
theorem BF {ρ:Lo}:ad 0 (some x::ρ) μ=some (x,μ):=rfl
theorem Gj {i:Nat}{o:Option R}{ρ:Lo}:ad (i+1) (o::ρ) μ=ad i ρ μ:=by simp [ad]
theorem RJ:fK d ρ μ=some (.v d,μ):=rfl
def J8 (o:Option (R×ac))(g:R->R->ac->Option (R×ac))(fb:FE)(ρ:Lo):Option (R×ac):=o.bind fun a=>(fb ρ a.2).bind fun b=>g a.1 b.1 b.2
def Fg (x:R)(o:Option (R×ac))(g:R->R->ac->Option (R×ac)):Option (R×ac):=o.bind fun b=>g x b.1 b.2
theorem Gk {g fa fb}:ax g fa fb ρ μ=J8 (fa ρ μ) g fb ρ:=rfl
theorem BJ {g fb}:J8 (some (x,μ)) g fb ρ=Fg x (fb ρ μ) g:=rfl
theorem BI {g}:Fg x (some (y,μ)) g=g x y μ:=rfl
def J1 (o:Option (R×ac))(g:R->ac->Option (R×ac)):Option (R×ac):=o.bind fun a=>g a.1 a.2
theorem QN {g fa}:mn g fa ρ μ=J1 (fa ρ μ) g:=rfl
theorem OC {g}:J1 (some (x,μ)) g=g x μ:=rfl
theorem Jm:ai ρ μ=some ([],μ):=rfl
def zj (o:Option (R×ac))(fr:FA)(ρ:Lo):Option (List R×ac):=o.bind fun a=>(fr ρ a.2).bind fun r=>some (a.1::r.1,r.2)
def wa (x:R)(o:Option (List R×ac)):Option (List R×ac):=o.bind fun r=>some (x::r.1,r.2)
theorem qL {fa fr}:af fa fr ρ μ=zj (fa ρ μ) fr ρ:=rfl
theorem BO {fr}:zj (some (x,μ)) fr ρ=wa x (fr ρ μ):=rfl
theorem BN {xs}:wa x (some (xs,μ))=some (x::xs,μ):=rfl
def Kk (o:Option (List R×ac))(g:List R->ac->Option (R×ac)):Option (R×ac):=o.bind fun a=>g a.1 a.2
theorem Me {g fa}:eL g fa ρ μ=Kk (fa ρ μ) g:=rfl
theorem Jo {g xs}:Kk (some (xs,μ)) g=g xs μ:=rfl
def N5 (o:Option (R×ac)):Option (Bool×ac):=o.bind fun a=>match a.1 with|.v (.bl b)=>some (b,a.2)|_=>none
theorem Mi {fa}:fB fa ρ μ=N5 (fa ρ μ):=rfl
theorem Re {b}:N5 (some (.v (.bl b),μ))=some (b,μ):=rfl
def E8 (o:Option (R×ac)):Option (Bool×ac):=o.bind fun a=>(yP a.1 a.2).bind fun b=>some (b,a.2)
theorem BG {fa}:eZ fa ρ μ=E8 (fa ρ μ):=rfl
theorem MU {b}:E8 (some (.v (.bl b),μ))=some (b,μ):=rfl
def Fs (o:Option (Bool×ac))(u:FT)(ρ:Lo):Option (Bool×ac):=o.bind fun c=>if c.1=true then u ρ c.2 else some (false,c.2)
def J7 (o:Option (Bool×ac))(u:FT)(ρ:Lo):Option (Bool×ac):=o.bind fun c=>if c.1=true then some (true,c.2) else u ρ c.2
def Fh (o:Option (Bool×ac)):Option (Bool×ac):=o.bind fun c=>some (!c.1,c.2)
theorem MV {t u}:rX t u ρ μ=Fs (t ρ μ) u ρ:=rfl
theorem LX {b u}:Fs (some (b,μ)) u ρ=if b=true then u ρ μ else some (false,μ):=rfl
theorem vq {t u}:gE t u ρ μ=J7 (t ρ μ) u ρ:=rfl
theorem Ee {b u}:J7 (some (b,μ)) u ρ=if b=true then some (true,μ) else u ρ μ:=rfl
theorem xa {t}:eM t ρ μ=Fh (t ρ μ):=rfl
theorem LV {b}:Fh (some (b,μ))=some (!b,μ):=rfl
def zp (o:Option (R×ac))(fb:FE)(ρ:Lo):Option (R×ac):=o.bind fun a=>match a.1 with|.v (.bl c)=>if c=true then fb ρ a.2 else some (.v (.bl false),a.2)|_=>none
def yZ (o:Option (R×ac)):Option (R×ac):=o.bind fun a=>match a.1 with|.v (.bl c)=>some (.v (.bl (!c)),a.2)|_=>none
theorem BQ {fa fb}:qJ fa fb ρ μ=zp (fa ρ μ) fb ρ:=rfl
theorem xg {c fb}:zp (some (.v (.bl c),μ)) fb ρ=if c=true then fb ρ μ else some (.v (.bl false),μ):=rfl
theorem OM {fa}:BE fa ρ μ=yZ (fa ρ μ):=rfl
theorem M8 {c}:yZ (some (.v (.bl c),μ))=some (.v (.bl (!c)),μ):=rfl
def Kc (o:Option (Bool×ac))(fa fb:FE)(ρ:Lo):Option (R×ac):=o.bind fun c=>if c.1=true then fa ρ c.2 else fb ρ c.2
theorem Q6 {t fa fb}:Jj t fa fb ρ μ=Kc (t ρ μ) fa fb ρ:=rfl
theorem O4 {c fa fb}:Kc (some (c,μ)) fa fb ρ=if c=true then fa ρ μ else fb ρ μ:=rfl
def E7 (o:Option (List R×ac)):Option (R×ac):=o.bind fun a=>(vals a.1).bind fun ds=>if ds.length<=sizeLine then some (.v (.tup ds),a.2) else none
def Fi (o:Option (List R×ac)):Option (R×ac):=o.bind fun a=>(vals a.1).bind fun ds=>if ds.length<=sizeLine then some (.p a.2.length,a.2++[.lst ds]) else none
theorem OE {fa}:cW fa ρ μ=E7 (fa ρ μ):=rfl
theorem OS {fa}:du fa ρ μ=Fi (fa ρ μ):=rfl
theorem Nl:w9 ρ μ=some (.p μ.length,μ++[.dct []]):=rfl
def rV (o:Option (R×ac)):Option (R×ac):=o.bind fun a=>(Cr a.1 a.2).bind fun b=>some (.v b.1,b.2)
theorem Gm {fa}:cq fa ρ μ=rV (fa ρ μ):=rfl
theorem Pa:rV (some (.v d,μ))=some (.v d,μ):=rfl
def zn (o:Option (List R×ac))(f:MF)(n:Nat):Option (R×ac):=o.bind fun a=>(vals a.1).bind fun ds=>if ds.length=n then (f ds).bind fun d=>some (.v d,a.2) else none
theorem xf {f n fa}:aS f n fa ρ μ=zn (fa ρ μ) f n:=rfl
theorem M9:bC ρ μ=some (.nx ρ μ):=rfl
def N4 (o:Option mx)(b:FS):Option mx:=o.bind fun o=>match o with|.nx ρ' μ'=>b ρ' μ'|o=>some o
theorem vt {a b}:aq a b ρ μ=N4 (a ρ μ) b:=rfl
theorem xb {b}:N4 (some (.nx ρ μ)) b=b ρ μ:=rfl
theorem M4 {b}:N4 (some (.rt x μ)) b=some (.rt x μ):=rfl
def zi (o:Option (R×ac))(ρ:Lo):Option mx:=o.bind fun a=>some (.nx ρ a.2)
theorem Nk {f}:ee f ρ μ=zi (f ρ μ) ρ:=rfl
theorem Ma:zi (some (x,μ)) ρ=some (.nx ρ μ):=rfl
def Fe (o:Option (R×ac)):Option mx:=o.bind fun a=>some (.rt a.1 a.2)
theorem BH {f}:bV f ρ μ=Fe (f ρ μ):=rfl
theorem Ef:Fe (some (x,μ))=some (.rt x μ):=rfl
def v7 (o:Option (Bool×ac))(a b:FS)(ρ:Lo):Option mx:=o.bind fun c=>if c.1=true then a ρ c.2 else b ρ c.2
theorem vz {t a b}:ju t a b ρ μ=v7 (t ρ μ) a b ρ:=rfl
theorem O2 {a b}:v7 (some (true,μ)) a b ρ=a ρ μ:=rfl
theorem O3 {a b}:v7 (some (false,μ)) a b ρ=b ρ μ:=rfl
def Fd (o:Option (R×ac))(i:Nat)(ρ:Lo):Option mx:=o.bind fun a=>some (.nx (ρ.set i (some a.1)) a.2)
theorem Jl {i f}:aI i f ρ μ=Fd (f ρ μ) i ρ:=rfl
theorem M3 {i}:Fd (some (x,μ)) i ρ=some (.nx (ρ.set i (some x)) μ):=rfl
def Fn (o:Option (List D×ac))(g:FG)(b:FS)(ρ:Lo):Option mx:=o.bind fun a=>cb g b a.1 ρ a.2
theorem BL {i g b}:dB i g b ρ μ=Fn (i ρ μ) g b ρ:=Eq.trans rfl rfl
theorem xc {xs g b}:Fn (some (xs,μ)) g b ρ=cb g b xs ρ μ:=Eq.trans rfl rfl
def yX (o:Option (R×ac)):Option (List D×ac):=o.bind fun a=>match a.1 with|.v (.fl xs)=>some (xs,a.2)|.v (.tup xs)=>some (xs,a.2)|_=>none
theorem Ej {f}:bm f ρ μ=yX (rV (f ρ μ)):=rfl
theorem BK {xs}:yX (some (.v (.fl xs),μ))=some (xs,μ):=rfl
theorem L7 {xs}:yX (some (.v (.tup xs),μ))=some (xs,μ):=rfl
def J6 (o:Option (R×ac)):Option (List D×ac):=o.bind fun a=>match a.1 with|.v (.int j)=>if -(2 ^ 62)<=j/\j < 2 ^ 62 then some ((List.range j.toNat).map fun i=>.int (i:Nat),a.2) else none|_=>none
theorem L4 {f}:vj f ρ μ=J6 (f ρ μ):=Eq.trans rfl rfl
theorem qK {j:Int}(h : -(2 ^ 62)<=j/\j < 2 ^ 62):J6 (some (.v (.int j),μ))=some ((List.range j.toNat).map fun i=>.int (i:Nat),μ):=by
 show (if -(2 ^ 62)<=j/\j < 2 ^ 62 then _ else _)=_
 rw [if_pos h]
def zk (o:Option (List D×ac))(ix:List Nat)(k:Nat)(g:FG)(c:FT)(f:FE)(ρ:Lo):Option (R×ac):=o.bind fun a=>if a.1.length<=sizeLine then
 (bv g c f a.1 (dz k ix ρ) a.2).bind fun r=>some (.p r.2.length,r.2++[.lst r.1]) else none
theorem Nm {ix k i g c f}:cj ix k i g c f ρ μ=zk (i ρ μ) ix k g c f ρ:=Eq.trans rfl rfl
theorem Ot:dw ρ μ=some (true,μ):=rfl
def J5 (o:Option (R×ac))(fl fh:FO)(ρ:Lo):Option (R×ac):=o.bind fun a=>(fl ρ a.2).bind fun l=>(fh ρ l.2).bind fun h=>GZ a.1 l.1 h.1 h.2
def Fc (x:R)(o:Option (Option Int×ac))(fh:FO)(ρ:Lo):Option (R×ac):=o.bind fun l=>(fh ρ l.2).bind fun h=>GZ x l.1 h.1 h.2
def Fb (x:R)(l:Option Int)(o:Option (Option Int×ac)):Option (R×ac):=o.bind fun h=>GZ x l h.1 h.2
theorem QQ {fa fl fh}:LU fa fl fh ρ μ=J5 (fa ρ μ) fl fh ρ:=rfl
theorem OK {fl fh}:J5 (some (x,μ)) fl fh ρ=Fc x (fl ρ μ) fh ρ:=rfl
theorem OJ {l fh}:Fc x (some (l,μ)) fh ρ=Fb x l (fh ρ μ):=rfl
theorem OI {l h}:Fb x l (some (h,μ))=GZ x l h μ:=rfl
def QD (o:Option (R×ac)):Option (Option Int×ac):=o.bind fun a=>match a.1 with|.v (.int i)=>some (some i,a.2)|_=>none
theorem QV:i6 ρ μ=some (none,μ):=rfl
theorem QU {f}:k9 f ρ μ=QD (f ρ μ):=rfl
theorem OL {i}:QD (some (.v (.int i),μ))=some (some i,μ):=rfl
def CD (o:Option (R×ac))(g:R->List R->ac->Option (R×ac))(ga:FA)(ρ:Lo):Option (R×ac):=o.bind fun a=>if jS a.1 a.2=true then (ga ρ a.2).bind fun b=>g a.1 b.1 b.2 else none
def rT (x:R)(o:Option (List R×ac))(g:R->List R->ac->Option (R×ac)):Option (R×ac):=o.bind fun b=>g x b.1 b.2
theorem QZ {g fa ga}:oR g fa ga ρ μ=CD (fa ρ μ) g ga ρ:=rfl
theorem OQ {g xs}:rT x (some (xs,μ)) g=g x xs μ:=rfl
variable  {i j:Int}{b c:Bool}{xs ys:List D}
theorem OG:jH (.v (.int i)) (.v (.int j)) μ=some (.v (.int (i - j)),μ):=rfl
theorem Q1:JO (.v (.int i)) (.v (.int j)) μ=some (.v (.bl (decide (i < j))),μ):=rfl
theorem Q3:JQ (.v (.int i)) (.v (.int j)) μ=some (.v (.bl (decide (i<=j))),μ):=rfl
theorem Q7:Gb (.v (.int i)) (.v (.int j)) μ=some (.v (.bl (decide (j < i))),μ):=rfl
theorem cr (h:0 < j):b7 (.v (.int i)) (.v (.int j)) μ=some (.v (.int (i % j)),μ):=by simp [b7,vd,h]
theorem e7 (h:0 < j)(h2:j < 1073741824):dH (.v (.int i)) (.v (.int j)) μ=some (.v (.int (i / j)),μ):=by simp [dH,vd,h,h2]
theorem Eg (h : -(2 ^ 64) < j/\j < 2 ^ 64):lf (.v (.int i)) (.v (.int j)) μ=some (.v (.int (i * j)),μ):=by
 show (if (decide (-(2 ^ 64) < i/\i < 2 ^ 64) || decide (-(2 ^ 64) < j/\j < 2 ^ 64))=true then _ else _)=_
 rw [if_pos (by rw [Bool.or_eq_true];exact .inr (zaQ h))]
theorem iC (h : -(2 ^ 64) < i/\i < 2 ^ 64):lf (.v (.int i)) (.v (.int j)) μ=some (.v (.int (i * j)),μ):=by
 show (if (decide (-(2 ^ 64) < i/\i < 2 ^ 64) || decide (-(2 ^ 64) < j/\j < 2 ^ 64))=true then _ else _)=_
 rw [if_pos (by rw [Bool.or_eq_true];exact .inl (zaQ h))]
theorem vw (h:0<=j/\j<=1000000/\i.natAbs < 2 ^ 64):mG (.v (.int i)) (.v (.int j)) μ=some (.v (.int (i ^ j.toNat)),μ):=by simp [mG,vd,h]
theorem ON:qC (.v (.int i)) μ=some (.v (.int (-i)),μ):=rfl
theorem Eh:gF [.v (.tup xs)] μ=some (.v (.int xs.length),μ):=rfl
theorem Ei:gF [.v (.fl xs)] μ=some (.v (.int xs.length),μ):=rfl
theorem oh {k:Nat}:aV k x ρ μ=some (ρ.set k (some x),μ):=rfl
theorem vR {α:Type}{xs:List α}{i:Int}{a:α}(h0:0<=i)(h:xs[i.toNat]?=some a):oA xs i=some a:=by
 unfold oA Bj;have hl:=(zau.mp h).1;rw [if_pos h0,if_pos (by omega)];simpa using h
def eK (o:Option mx):Option D:=o.bind fin
theorem Pc:eK (some (.rt (.v d) μ))=some d:=rfl
end
theorem jx {n:Nat}(xs:Th):okDs n (xs.map D.int)=true:=by
 induction xs with
 |nil=>cases n <;> rfl
 |cons x xs ih=>cases n <;> simpa [okDs,eU] using ih
theorem jB (xs ys:Th):eqDs (xs.map D.int) (ys.map D.int)=decide (xs=ys):=by
 induction xs generalizing ys with
 |nil=>cases ys <;> simp [bQ,cY,dQ,dR]
 |cons x xs ih =>
  cases ys with
  |nil=>simp [bQ,cY,dQ,dR]
  |cons y ys=>simp [bQ,cY,dQ,dR,fZ,iD,iE,f6,ih ys];rfl
def Ke (o:Option (Lo×ac))(b:FS):Option mx:=o.bind fun a=>b a.1 a.2
theorem yk {ρ:Lo}{μ:ac}{b:FS}:Ke (some (ρ,μ)) b=b ρ μ:=rfl
theorem DW {g:FG}{b:FS}(I:Nat->Lo->ac->Prop){xs:List D}{ρ:Lo}{μ:ac}(h0:I 0 ρ μ)
  (hs:∀(i:Nat) x ρ μ,xs[i]?=some x->I i ρ μ->∃ρ' μ',Ke (g (.v x) ρ μ) b=some (.nx ρ' μ')/\I (i+1) ρ' μ') :
  ∃ρ' μ',cb g b xs ρ μ=some (.nx ρ' μ')/\I xs.length ρ' μ':=by
 have key:∀(n:Nat) (ys:List D) (i:Nat) ρ μ,ys.length=n->xs.drop i=ys->i<=xs.length->I i ρ μ->∃ρ' μ',cb g b ys ρ μ=some (.nx ρ' μ')/\I xs.length ρ' μ':=by
  intro n
  induction n with
  |zero =>
   intro ys i ρ μ hn hd hi h;have:ys=[]:=zcT hn;subst this
   have:i=xs.length:=by
    have:=congrArg List.length hd;simp at this;omega
   subst this;exact ⟨ρ,μ,rfl,h⟩
  |succ n ih =>
   intro ys i ρ μ hn hd hi h
   cases ys with
   |nil=>simp at hn
   |cons y ys =>
    have hlt:i < xs.length:=by
     have:=congrArg List.length hd;simp at this;omega
    have hc:=zbw hlt;rw [hd] at hc
    injection hc with h1 h2
    obtain ⟨ρ',μ',e0,h'⟩:=hs i y ρ μ (by rw [h1];exact zas hlt) h;obtain ⟨⟨ρ1,μ1⟩,e1,e2⟩:=zaa.mp e0;obtain ⟨ρ2,μ2,e3,h3⟩:=ih ys (i+1) ρ' μ' (by simpa using hn) h2.symm hlt h';exact ⟨ρ2,μ2,by simp only [cb,e1,e2,zaw];exact e3,h3⟩
 exact key xs.length xs 0 ρ μ rfl (by simp) (za3 _) h0
section
variable  {ρ:Lo}{μ μ1:ac}{x y:R}{d:D}
def wb (o:Option (List R×ac))(f:MF)(n:Nat):Option (R×ac):=o.bind fun a=>(hJ a.1 a.2).bind fun ds=>if ds.length=n then (f ds).bind fun d=>if dN d=true then some (.v d,a.2) else none else none
theorem Mc {f n fa}:lQ f n fa ρ μ=wb (fa ρ μ) f n:=rfl
end
section
variable  {ρ:Lo}{μ μ1:ac}{x y:R}{d e:D}{n m:Nat}{xs ys:List D}{i j:Int}{b c:Bool}
def NB (o:Option aw)(n:Nat)(g:R->List R->ac->Option (R×ac))(ga:FA)(ρ:Lo)(μ:ac):Option (R×ac):=match o with|some (.lst _)=>rT (.p n) (ga ρ μ) g|some (.fz _)=>rT (.p n) (ga ρ μ) g|_=>none
theorem OO {g ga}:CD (some (.p n,μ)) g ga ρ=NB μ[n]? n g ga ρ μ:=by
 cases h:μ[n]? with
 |none=>simp [CD,jS,NB,h]
 |some c=>cases c <;> simp [CD,jS,NB,rT,h]
theorem OP {g ga}:NB (some (.lst xs)) n g ga ρ μ=rT (.p n) (ga ρ μ) g:=rfl
def Mr (o:Option aw)(n:Nat)(d:D)(μ:ac):Option (R×ac):=match o with|some (.lst xs)=>if xs.length < sizeLine then some (.v .non,μ.set n (.lst (xs++[d]))) else none|_=>none
theorem Nv:jO (.p n) [.v d] μ=Mr μ[n]? n d μ:=rfl
theorem Nw:Mr (some (.lst xs)) n d μ=if xs.length < sizeLine then some (.v .non,μ.set n (.lst (xs++[d]))) else none:=rfl
def Mq (o:Option aw)(n:Nat)(μ:ac):Option (R×ac):=match o with|some (.lst _)=>some (.v .non,μ.set n (.lst []))|_=>none
theorem Nn:tT (.p n) [] μ=Mq μ[n]? n μ:=rfl
theorem No:Mq (some (.lst xs)) n μ=some (.v .non,μ.set n (.lst [])):=rfl
def Pv (o:Option aw):Option (List D):=match o with|some (.lst xs)=>some xs|some (.fz xs)=>some xs|_=>none
theorem OY:eY (.v (.tup xs)) μ=some xs:=rfl
theorem O0:eY (.v (.fl xs)) μ=some xs:=rfl
theorem OZ:eY (.p n) μ=Pv μ[n]?:=rfl
theorem O1:Pv (some (.lst xs))=some xs:=rfl
def Kb (o:Option (List D))(i:Int)(μ:ac):Option (R×ac):=o.bind fun xs=>(oA xs i).bind fun d=>some (.v d,μ)
def Fk (o:Option D)(μ:ac):Option (R×ac):=o.bind fun d=>some (.v d,μ)
theorem Q5:c9 x (.v (.int i)) μ=Kb (eY x μ) i μ:=rfl
theorem OX:Kb (some xs) i μ=Fk (oA xs i) μ:=rfl
theorem OW:Fk (some d) μ=some (.v d,μ):=rfl
theorem Pk {a:D}{l:List D}:oA (a::l) 0=some a:=vR (by decide) rfl
theorem Pj {a b:D}{l:List D}:oA (a::b::l) 1=some b:=vR (by decide) rfl
def Fj (o:Option (List D))(μ:ac):Option (R×ac):=o.bind fun xs=>some (.v (.int xs.length),μ)
theorem OU:gF [x] μ=Fj (eY x μ) μ:=rfl
theorem Nb:Fj (some xs) μ=some (.v (.int xs.length),μ):=rfl
def J4 (o:Option (List D))(μ:ac):Option (R×ac):=o.bind fun xs=>some (.v (.tup xs),μ)
theorem QP:qe [x] μ=J4 (eY x μ) μ:=rfl
theorem OF:J4 (some xs) μ=some (.v (.tup xs),μ):=rfl
def Ka (o:Option (List D))(μ:ac):Option (R×ac):=o.bind fun xs=>some (.p μ.length,μ++[.lst xs])
theorem Q2:gL [x] μ=Ka (eY x μ) μ:=rfl
theorem OT:Ka (some xs) μ=some (.p μ.length,μ++[.lst xs]):=rfl
def Rg (o:Option aw):Option D:=match o with|some (.lst xs)=>some (.fl xs)|some (.fz xs)=>some (.fl xs)|_=>none
theorem Ou:kH (.v d) μ=some d:=rfl
theorem Jk:kH (.p n) μ=Rg μ[n]?:=rfl
theorem Ov:Rg (some (.lst xs))=some (.fl xs):=rfl
def GM (o p:Option D)(neg:Bool)(μ:ac):Option (R×ac):=o.bind fun a=>p.bind fun b=>if (eU 60 a && eU 60 b)=true then some (.v (.bl (if neg then !iF a b else iF a b)),μ) else none
theorem Pe:jh b x y μ=GM (kH x μ) (kH y μ) b μ:=rfl
theorem Ph:GM (some d) (some e) false μ=if (eU 60 d && eU 60 e)=true then some (.v (.bl (iF d e)),μ) else none:=rfl
theorem Pd:GM (some d) (some e) true μ=if (eU 60 d && eU 60 e)=true then some (.v (.bl (!iF d e)),μ) else none:=rfl
theorem Ix:eU n (.int i)=true:=by cases n <;> rfl
theorem Lm:eU n (.bl b)=true:=by cases n <;> rfl
theorem Oe:eU n .non=true:=by cases n <;> rfl
theorem Pt:iF (.int i) (.int j)=(i == j):=rfl
def yu (o:Option aw):Option D:=match o with|some (.lst xs)=>some (.fl xs)|some (.fz xs)=>some (.fl xs)|some (.dct kvs)=>some (.fd (kvs.map (·.1)) (kvs.map (·.2)))|some (.fzd kvs)=>some (.fd (kvs.map (·.1)) (kvs.map (·.2)))|_=>none
theorem BM:eK (some (.rt (.p n) μ))=yu μ[n]?:=by
 cases h:μ[n]? with
 |none=>simp [eK,fin,Cr,yu,h]
 |some c=>cases c <;> simp [eK,fin,Cr,yu,h]
def Mp (o:Option aw)(n:Nat)(μ:ac):Option (R×ac):=match o with|some (.lst xs)=>some (.v (.fl xs),μ.set n (.fz xs))|some (.fz xs)=>some (.v (.fl xs),μ)|some (.dct kvs)=>some (.v (.fd (kvs.map (·.1)) (kvs.map (·.2))),μ.set n (.fzd kvs))|some (.fzd kvs)=>some (.v (.fd (kvs.map (·.1)) (kvs.map (·.2))),μ)|_=>none
theorem vA:rV (some (.p n,μ))=Mp μ[n]? n μ:=by
 cases h:μ[n]? with
 |none=>simp [rV,Cr,Mp,h]
 |some c=>cases c <;> simp [rV,Cr,Mp,h]
theorem O9:Mp (some (.lst xs)) n μ=some (.v (.fl xs),μ.set n (.fz xs)):=rfl
theorem Jn:Mp (some (.fz xs)) n μ=some (.v (.fl xs),μ):=rfl
def Kj (o:Option D)(xs:List R)(μ:ac):Option (List D):=o.bind fun d=>(hJ xs μ).bind fun ds=>some (d::ds)
def Fr (d:D)(o:Option (List D)):Option (List D):=o.bind fun ds=>some (d::ds)
theorem OB:hJ [] μ=some []:=rfl
theorem QM {rs}:hJ (x::rs) μ=Kj (NF x μ) rs μ:=rfl
theorem OA {rs}:Kj (some d) rs μ=Fr d (hJ rs μ):=rfl
theorem Oz {ds}:Fr d (some ds)=some (d::ds):=rfl
def NE (o:Option aw):Option D:=match o with|some (.lst xs)=>some (.fl xs)|some (.fz xs)=>some (.fl xs)|some (.dct kvs)=>some (.fd (kvs.map (·.1)) (kvs.map (·.2)))|some (.fzd kvs)=>some (.fd (kvs.map (·.1)) (kvs.map (·.2)))|_=>none
theorem Pp:NF (.v d) μ=some d:=rfl
theorem Pq:NF (.p n) μ=NE μ[n]?:=rfl
theorem Pr:NE (some (.lst xs))=some (.fl xs):=rfl
theorem Po:NE (some (.fz xs))=some (.fl xs):=rfl
def JZ (o:Option (List D))(f:MF)(n:Nat)(μ:ac):Option (R×ac):=o.bind fun ds=>if ds.length=n then (f ds).bind fun d=>some (.v d,μ) else none
def J0 (o:Option D)(μ:ac):Option (R×ac):=o.bind fun d=>some (.v d,μ)
theorem Rb {rs f n}:zn (some (rs,μ)) f n=JZ (vals rs) f n μ:=rfl
theorem Ra {f:MF}{ds:List D}:JZ (some ds) f n μ=if ds.length=n then J0 (f ds) μ else none:=rfl
theorem Q9:J0 (some d) μ=some (.v d,μ):=rfl
def GK (d:D)(o:Option (List D)):Option (List D):=o.bind fun ds=>some (d::ds)
theorem Oy:vals []=some []:=rfl
theorem Ox {rs}:vals (.v d::rs)=GK d (vals rs):=by unfold GK;cases h:vals rs <;> simp [vals,h]
theorem Ow {ds}:GK d (some ds)=some (d::ds):=rfl
def E3 (o:Option (List D))(f:MF)(n:Nat)(μ:ac):Option (R×ac):=o.bind fun ds=>if ds.length=n then (f ds).bind fun d=>if dN d=true then some (.v d,μ) else none else none
def E5 (o:Option D)(μ:ac):Option (R×ac):=o.bind fun d=>if dN d=true then some (.v d,μ) else none
theorem QT {rs f n}:wb (some (rs,μ)) f n=E3 (hJ rs μ) f n μ:=rfl
theorem QS {f:MF}{ds:List D}:E3 (some ds) f n μ=if ds.length=n then E5 (f ds) μ else none:=rfl
theorem QR:E5 (some d) μ=if dN d=true then some (.v d,μ) else none:=rfl
def J3 (o:Option (List D))(μ:ac):Option (R×ac):=o.bind fun ds=>if ds.length<=sizeLine then some (.v (.tup ds),μ) else none
theorem QO {rs}:E7 (some (rs,μ))=J3 (vals rs) μ:=rfl
theorem OD {ds}:J3 (some ds) μ=if ds.length<=sizeLine then some (.v (.tup ds),μ) else none:=rfl
def J9 (o:Option (List D))(μ:ac):Option (R×ac):=o.bind fun ds=>if ds.length<=sizeLine then some (.p μ.length,μ++[.lst ds]) else none
theorem Q0 {rs}:Fi (some (rs,μ))=J9 (vals rs) μ:=rfl
theorem OR {ds}:J9 (some ds) μ=if ds.length<=sizeLine then some (.p μ.length,μ++[.lst ds]) else none:=rfl
def Fq (o:Option (R×ac))(g:FG)(ρ:Lo):Option mx:=o.bind fun a=>(g a.1 ρ a.2).bind fun b=>some (.nx b.1 b.2)
def zo (o:Option (Lo×ac)):Option mx:=o.bind fun b=>some (.nx b.1 b.2)
theorem Pn {f g}:qq f g ρ μ=Fq (f ρ μ) g ρ:=rfl
theorem Nu {g}:Fq (some (x,μ)) g ρ=zo (g x ρ μ):=rfl
theorem Nt:zo (some (ρ,μ))=some (.nx ρ μ):=rfl
theorem O5 {g}:ie n g (.v (.tup xs)) ρ μ=if xs.length=n then g (xs.map .v) ρ μ else none:=rfl
theorem O7:bn [] ρ μ=some (ρ,μ):=rfl
def Kd (o:Option (Lo×ac))(r:Gz)(ds:List R):Option (Lo×ac):=o.bind fun a=>r ds a.1 a.2
theorem Q8 {g r ds}:ap g r (x::ds) ρ μ=Kd (g x ρ μ) r ds:=rfl
theorem O6 {r ds}:Kd (some (ρ,μ)) r ds=r ds ρ μ:=rfl
theorem OH {l h}:GZ (.v (.fl xs)) l h μ=some (.p μ.length,μ++[.lst (qS xs l h)]):=rfl
theorem Mf:ij (.v (.int i)) (.v (.int j)) μ=some (.v (.int (i+j)),μ):=rfl
def Fa (o:Option (R×ac))(fi:FE)(dv:D)(ρ:Lo):Option (Lo×ac):=o.bind fun o=>(fi ρ o.2).bind fun i=>(uL o.1 i.1 dv i.2).bind fun μ'=>some (ρ,μ')
def yV (x:R)(o:Option (R×ac))(dv:D)(ρ:Lo):Option (Lo×ac):=o.bind fun i=>(uL x i.1 dv i.2).bind fun μ'=>some (ρ,μ')
def yU (o:Option ac)(ρ:Lo):Option (Lo×ac):=o.bind fun μ'=>some (ρ,μ')
theorem MZ {fo fi}:qH fo fi (.v d) ρ μ=Fa (fo ρ μ) fi d ρ:=rfl
theorem MY {fi}:Fa (some (x,μ)) fi d ρ=yV x (fi ρ μ) d ρ:=rfl
theorem MX:yV x (some (y,μ)) d ρ=yU (uL x y d μ) ρ:=rfl
theorem MW:yU (some μ) ρ=some (ρ,μ):=rfl
def Jz (o:Option aw)(n:Nat)(i:R)(dv:D)(μ:ac):Option ac:=match o with
  |some (.lst xs)=>(match i with|.v (.int k)=>(Bj xs.length k).bind fun j=>some (μ.set n (.lst (xs.set j dv)))|_=>none)
  |some (.dct kvs)=>if kvs.length < sizeLine then (dW i).bind fun k=>some (μ.set n (.dct (kY kvs k dv))) else none
  |_=>none
theorem M5:uL (.p n) x d μ=Jz μ[n]? n x d μ:=rfl
def Ff (o:Option Nat)(n:Nat)(xs:List D)(d:D)(μ:ac):Option ac:=o.bind fun j=>some (μ.set n (.lst (xs.set j d)))
theorem M6:Jz (some (.lst xs)) n (.v (.int i)) d μ=Ff (Bj xs.length i) n xs d μ:=rfl
theorem L5 {j:Nat}:Ff (some j) n xs d μ=some (μ.set n (.lst (xs.set j d))):=rfl
def Ki (o:Option (List D×ac)):Option (R×ac):=o.bind fun r=>some (.p r.2.length,r.2++[.lst r.1])
theorem Mb {ix k g c f}:zk (some (xs,μ)) ix k g c f ρ=if xs.length<=sizeLine then Ki (bv g c f xs (dz k ix ρ) μ) else none:=Eq.trans rfl rfl
theorem Pi {r:List D}:Ki (some (r,μ))=some (.p μ.length,μ++[.lst r]):=rfl
theorem Nr:dz 1 [] ρ=[none]:=rfl
theorem Nq {i:Nat}:dz 1 [i] ρ=[none,(ρ[i]?).join]:=rfl
theorem Np {i j:Nat}:dz 1 [i,j] ρ=[none,(ρ[i]?).join,(ρ[j]?).join]:=rfl
theorem Q4 {x:Option R}:(some x).join=x:=rfl
def Ft (o:Option (List D))(any:Bool)(μ:ac):Option (R×ac):=o.bind fun xs=>(kq xs).bind fun bs=>some (.v (.bl (if any then bs.any id else bs.all id)),μ)
def zq (o:Option (List Bool))(any:Bool)(μ:ac):Option (R×ac):=o.bind fun bs=>some (.v (.bl (if any then bs.any id else bs.all id)),μ)
theorem Ps:Cc b [x] μ=Ft (d5 x μ) b μ:=rfl
theorem Ny:Ft (some xs) b μ=zq (kq xs) b μ:=rfl
theorem Nx {bs:List Bool}:zq (some bs) false μ=some (.v (.bl (bs.all id)),μ):=rfl
theorem Na:d5 (.p n) μ=Pv μ[n]?:=rfl
def wc (o:Option (List R×ac))(f:MC)(n:Nat):Option (R×ac):=o.bind fun a=>(hJ a.1 a.2).bind fun ds=>if ds.length=n then (f ds).bind fun c=>if pQ c=true then some (.p a.2.length,a.2++[c]) else none else none
def E4 (o:Option (List D))(f:MC)(n:Nat)(μ:ac):Option (R×ac):=o.bind fun ds=>if ds.length=n then (f ds).bind fun c=>if pQ c=true then some (.p μ.length,μ++[c]) else none else none
def E6 (o:Option aw)(μ:ac):Option (R×ac):=o.bind fun c=>if pQ c=true then some (.p μ.length,μ++[c]) else none
theorem Md {f:MC}{fa}:bX f n fa ρ μ=wc (fa ρ μ) f n:=rfl
theorem QY {f:MC}{rs}:wc (some (rs,μ)) f n=E4 (hJ rs μ) f n μ:=rfl
theorem QX {f:MC}{ds:List D}:E4 (some ds) f n μ=if ds.length=n then E6 (f ds) μ else none:=rfl
theorem QW {k:aw}:E6 (some k) μ=if pQ k=true then some (.p μ.length,μ++[k]) else none:=rfl
theorem Pb:pQ (.lst xs)=flatDs xs:=rfl
def tE (o:Option mx):Option aw:=o.bind BB
def xo (o:Option aw):Option aw:=match o with|some (.lst xs)=>some (.lst xs)|some (.dct kvs)=>some (.dct kvs)|_=>none
theorem L8:tE (some (.rt (.p n) μ))=xo μ[n]?:=by
 cases h:μ[n]? with
 |none=>simp [tE,BB,xo,h]
 |some c=>cases c <;> simp [tE,BB,xo,h]
theorem L9:xo (some (.lst xs))=some (.lst xs):=rfl
theorem Ek {ns:Th}:fT (ns.map D.int)=some ns:=by
 induction ns with
 |nil=>rfl
 |cons n ns ih=>simp [fT,ih]
def yY (o:Option aE)(kvs:List (aE×D))(n:Nat)(d:D)(μ:ac):Option ac:=o.bind fun k=>some (μ.set n (.dct (kY kvs k d)))
theorem M7 {kvs}:Jz (some (.dct kvs)) n x d μ=if kvs.length < sizeLine then yY (dW x) kvs n d μ else none:=rfl
theorem L6 {kvs k}:yY (some k) kvs n d μ=some (μ.set n (.dct (kY kvs k d))):=rfl
theorem OV:dW (.v (.int i))=some (.inl i):=rfl
def Fm (o:Option (R×ac))(fk fx:FE)(ρ:Lo):Option (R×ac):=o.bind fun o=>if (mI o.1 o.2).isSome=true then (fk ρ o.2).bind fun k=>(fx ρ k.2).bind fun x=>(mI o.1 x.2).bind fun kvs=>(dW k.1).bind fun key=>some ((match jF kvs key with|some d=>.v d|none=>x.1),x.2) else none
def Mo (o:Option aw):Option (List (aE×D)):=match o with|some (.dct kvs)=>some kvs|some (.fzd kvs)=>some kvs|_=>none
def zg (o:Option (List (aE×D)))(x:R)(fk fx:FE)(ρ:Lo)(μ:ac):Option (R×ac):=if o.isSome=true then (fk ρ μ).bind fun k=>(fx ρ k.2).bind fun y=>(mI x y.2).bind fun kvs=>(dW k.1).bind fun key=>some ((match jF kvs key with|some d=>.v d|none=>y.1),y.2) else none
def zf (o:Option (R×ac))(x:R)(fx:FE)(ρ:Lo):Option (R×ac):=o.bind fun k=>(fx ρ k.2).bind fun y=>(mI x y.2).bind fun kvs=>(dW k.1).bind fun key=>some ((match jF kvs key with|some d=>.v d|none=>y.1),y.2)
def ze (o:Option (R×ac))(x k:R):Option (R×ac):=o.bind fun y=>(mI x y.2).bind fun kvs=>(dW k).bind fun key=>some ((match jF kvs key with|some d=>.v d|none=>y.1),y.2)
def zd (o:Option (List (aE×D)))(k y:R)(μ:ac):Option (R×ac):=o.bind fun kvs=>(dW k).bind fun key=>some ((match jF kvs key with|some d=>.v d|none=>y),μ)
def y0 (o:Option D)(y:R):R:=match o with|some d=>.v d|none=>y
theorem O8 {fo fk fx}:tF fo fk fx ρ μ=Fm (fo ρ μ) fk fx ρ:=rfl
theorem Nc:mI (.p n) μ=Mo μ[n]?:=rfl
theorem Nd {kvs}:Mo (some (.dct kvs))=some kvs:=rfl
theorem Nj {fk fx}:Fm (some (x,μ)) fk fx ρ=zg (mI x μ) x fk fx ρ μ:=rfl
theorem Ni {kvs fk fx}:zg (some kvs) x fk fx ρ μ=zf (fk ρ μ) x fx ρ:=rfl
theorem Nh {fx}:zf (some (y,μ)) x fx ρ=ze (fx ρ μ) x y:=rfl
theorem Ng {z}:ze (some (z,μ)) x y=zd (mI x μ) y z μ:=rfl
theorem Nf {kvs}:zd (some kvs) (.v (.int i)) y μ=some (y0 (jF kvs (.inl i)) y,μ):=rfl
def yW (o:Option (R×ac))(fl fh:FO)(k:Int)(ρ:Lo):Option (R×ac):=o.bind fun a=>(fl ρ a.2).bind fun l=>(fh ρ l.2).bind fun h=>if k=0 then none else (d5 a.1 h.2).bind fun xs=>some (.p h.2.length,h.2++[.lst (eN xs l.1 h.1 k)])
def v5 (x:R)(o:Option (Option Int×ac))(fh:FO)(k:Int)(ρ:Lo):Option (R×ac):=o.bind fun l=>(fh ρ l.2).bind fun h=>if k=0 then none else (d5 x h.2).bind fun xs=>some (.p h.2.length,h.2++[.lst (eN xs l.1 h.1 k)])
def v4 (x:R)(l:Option Int)(o:Option (Option Int×ac))(k:Int):Option (R×ac):=o.bind fun h=>if k=0 then none else (d5 x h.2).bind fun xs=>some (.p h.2.length,h.2++[.lst (eN xs l h.1 k)])
def qg (o:Option (List D))(l h:Option Int)(k:Int)(μ:ac):Option (R×ac):=if k=0 then none else o.bind fun xs=>some (.p μ.length,μ++[.lst (eN xs l h k)])
theorem M0 {fa fl fh}{k:Int}:mq fa fl fh k ρ μ=yW (fa ρ μ) fl fh k ρ:=rfl
theorem L3 {fl fh}{k:Int}:yW (some (x,μ)) fl fh k ρ=v5 x (fl ρ μ) fh k ρ:=rfl
theorem L0 {fh}{l:Option Int}{k:Int}:v5 x (some (l,μ)) fh k ρ=v4 x l (fh ρ μ) k:=rfl
theorem LY {l h:Option Int}{k:Int}:v4 x l (some (h,μ)) k=qg (d5 x μ) l h k μ:=rfl
theorem mP:2<=sizeLine:=by decide
theorem RN:0<=sizeLine:=by decide
theorem RM:3<=sizeLine:=by decide
theorem dA {n:Nat}(h:n < 4000):n < sizeLine:=zaB h (by decide)
theorem bK {n:Nat}(h:n < 4000):n<=sizeLine:=zb1 (dA h)
end
theorem wJ {α:Type}{x y:α}{l:List α}:(x::l).set 0 y=y::l:=rfl
theorem wI {α:Type}{x y:α}{l:List α}{n:Nat}:(x::l).set (n+1) y=x::l.set n y:=rfl
theorem DV {α:Type}{x:α}{l:List α}:(x::l)[0]?=some x:=rfl
theorem MO {α:Type}{x:α}{l:List α}{n:Nat}:(x::l)[n+1]?=l[n]?:=rfl
theorem Og {α:Type}{x:α}{l:List α}:(x::l).length=l.length+1:=rfl
theorem MN {α:Type}:([]:List α).length=0:=rfl
theorem Oj {α:Type}{x:α}{l r:List α}:(x::l)++r=x::(l++r):=rfl
theorem MP {α:Type}{r:List α} : []++r=r:=rfl
theorem Of {α β:Type}{f:α->β}{x:α}{l:List α}:(x::l).map f=f x::l.map f:=rfl
theorem MM {α β:Type}{f:α->β}:([]:List α).map f=[]:=rfl
theorem QK {n:Nat}:0+n=n:=zdb n
theorem MK:(!true)=false:=rfl
theorem ML:(!false)=true:=rfl
theorem Oh {α:Type}{a b:α}:(if true=true then a else b)=a:=rfl
theorem Oi {α:Type}{a b:α}:(if false=true then a else b)=b:=rfl
section
variable  {g:FG}{b:FS}{ρ:Lo}{μ:ac}
def CF (o:Option mx)(g:FG)(b:FS)(xs:List D):Option mx:=o.bind fun o=>match o with
  |.nx ρ' μ'=>cb g b xs ρ' μ'
  |.ct ρ' μ'=>cb g b xs ρ' μ'
  |.bk ρ' μ'=>some (.nx ρ' μ')
  |.rt d μ'=>some (.rt d μ')
theorem bH {x:D}{xs:List D}:cb g b (x::xs) ρ μ=CF (Ke (g (.v x) ρ μ) b) g b xs:=by
 show (g (.v x) ρ μ).bind _=_
 cases e:g (.v x) ρ μ <;> rfl
theorem Lq:cb g b [] ρ μ=some (.nx ρ μ):=rfl
theorem pG {xs}:CF (some (.nx ρ μ)) g b xs=cb g b xs ρ μ:=rfl
theorem ic {α σ:Type}(e:α->D)(S:σ->Lo×ac)(P:σ->List α->Prop):∀(as:List α) (s:σ),P s as ->
  (∀s a r,P s (a::r)->∃s',Ke (g (.v (e a)) (S s).1 (S s).2) b=some (.nx (S s').1 (S s').2)/\P s' r) ->
  ∃s',cb g b (as.map e) (S s).1 (S s).2=some (.nx (S s').1 (S s').2)/\P s' []
 |[],s,h,_=>⟨s,rfl,h⟩
 |a::as,s,h,k=>by
  obtain ⟨s1,h1,h2⟩:=k s a as h;obtain ⟨s2,h3,h4⟩:=ic e S P as s1 h2 k;exact ⟨s2,by rw [zaf,bH,h1,pG,h3],h4⟩
theorem iw (n:Nat)(I:Nat->Lo->ac->Prop)(h0:I 0 ρ μ)
  (hs:∀i < n,∀ρ μ,I i ρ μ->∃ρ' μ',Ke (g (.v (.int (i:Int))) ρ μ) b=some (.nx ρ' μ')/\I (i+1) ρ' μ') :
  ∃ρ' μ',cb g b ((List.range n).map fun i=>.int ((i:Nat):Int)) ρ μ=some (.nx ρ' μ')/\I n ρ' μ':=by
 obtain ⟨ρ',μ',e,h⟩:=DW (g:=g) (b:=b) I (xs:=(List.range n).map fun i=>D.int ((i:Nat):Int)) h0 fun i x ρ μ hx hI=>by
  rw [zaS] at hx;obtain ⟨k,hk,rfl⟩:=zaM.mp hx;obtain ⟨hl,hk⟩:=zau.mp hk;rw [zc0] at hk;subst hk;exact hs i (by simpa using hl) ρ μ hI
 exact ⟨ρ',μ',e,by simpa using h⟩
end
theorem e8 {α:Type}{f:FE}{μ:ac}{rest:Lo}(e out:α->D):∀(xs:List α) (x0:Option R),(∀a∈xs,f (some (.v (e a))::rest) μ=some (.v (out a),μ))->bv (aV 0) dw f (xs.map e) (x0::rest) μ=some (xs.map out,μ)
 |[],_,_=>rfl
 |a::xs,x0,h=>by
  have h1:=h a zah;have ih:=e8 e out xs (some (.v (e a))) fun b hb=>h b (zaj _ hb);simp only [zaf,bv,aV,zc1,zaw,dw,if_true,h1,ih]
theorem A2 {a b:Prop}(x:a)(y:b):a/\b:=⟨x,y⟩
section
variable  {ρ:Lo}{μ:ac}{x y z:R}{d:D}{n:Nat}{i:Int}
def uE (a:Int)(o:Option (R×ac))(i:Nat)(g:Int->Int->Int)(ρ:Lo):Option mx:=o.bind fun r=>match r with|(.v (.int b),μ1)=>some (.nx (ρ.set i (some (.v (.int (g a b))))) μ1)|_=>none
def Fp (o:Option (Option R))(i:Nat)(g:Int->Int->Int)(f:FE)(ρ:Lo)(μ:ac):Option mx:=match o with|some (some (.v (.int a)))=>uE a (f ρ μ) i g ρ|_=>none
theorem QB {i g f}:xI i g f ρ μ=Fp ρ[i]? i g f ρ μ:=rfl
theorem NX {a i g f}:Fp (some (some (.v (.int a)))) i g f ρ μ=uE a (f ρ μ) i g ρ:=rfl
theorem NW {a b i g}:uE a (some (.v (.int b),μ)) i g ρ=some (.nx (ρ.set i (some (.v (.int (g a b))))) μ):=rfl
def E9 (o:Option (List D))(μ:ac):Option (R×ac):=o.bind fun xs=>(fT xs).bind fun is=>some (.v (.int is.sum),μ)
def yT (o:Option (Th))(μ:ac):Option (R×ac):=o.bind fun is=>some (.v (.int is.sum),μ)
theorem P0:xC [x] μ=E9 (d5 x μ) μ:=rfl
theorem NU {xs}:E9 (some xs) μ=yT (fT xs) μ:=rfl
theorem NT {is}:yT (some is) μ=some (.v (.int is.sum),μ):=rfl
def Pu (o:Option aw):Option (List (aE×R)):=match o with|some (.dct kvs)=>some (kvs.map fun p=>(p.1,R.v p.2))|some (.fzd kvs)=>some (kvs.map fun p=>(p.1,R.v p.2))|some (.dr kvs)=>some kvs|some (.fzr kvs)=>some kvs|_=>none
def Kg (o:Option (R×ac))(fk:FE)(ρ:Lo):Option (R×ac):=o.bind fun o=>(fk ρ o.2).bind fun k=>(jJ o.1 k.2).bind fun kvs=>(dW k.1).bind fun key=>(cF kvs key).bind fun r=>some (r,k.2)
def Fo (x:R)(o:Option (R×ac)):Option (R×ac):=o.bind fun k=>(jJ x k.2).bind fun kvs=>(dW k.1).bind fun key=>(cF kvs key).bind fun r=>some (r,k.2)
def zh (o:Option (List (aE×R)))(y:R)(μ:ac):Option (R×ac):=o.bind fun kvs=>(dW y).bind fun key=>(cF kvs key).bind fun r=>some (r,μ)
def v8 (o:Option R)(μ:ac):Option (R×ac):=o.bind fun r=>some (r,μ)
theorem Rw {fo fk}:lz fo fk ρ μ=Kg (fo ρ μ) fk ρ:=rfl
theorem Qo {fk}:Kg (some (x,μ)) fk ρ=Fo x (fk ρ μ):=rfl
theorem Qn:Fo x (some (y,μ))=zh (jJ x μ) y μ:=rfl
theorem Qm {kvs}:zh (some kvs) (.v (.int i)) μ=v8 (cF kvs (.inl i)) μ:=rfl
theorem Qk {kvs}:zh (some kvs) (.v .non) μ=v8 (cF kvs (.inr none)) μ:=rfl
theorem Ql:v8 (some x) μ=some (x,μ):=rfl
theorem Ru:jJ (.p n) μ=Pu μ[n]?:=rfl
theorem Qd {kvs}:Pu (some (.dr kvs))=some kvs:=rfl
theorem Qc {kvs}:Pu (some (.fzr kvs))=some kvs:=rfl
def NC (o:Option aw):Option (List (aE×R)):=match o with|some (.dr kvs)=>some kvs|_=>none
def o5 (o:Option R)(n:Nat)(kvs:List (aE×R))(key:aE)(z:R)(μ:ac):R×ac:=match o with|some r=>(r,μ)|none=>(z,μ.set n (.dr (kvs++[(key,z)])))
def rR (o:Option (List (aE×R)))(n:Nat)(y z:R)(μ:ac):Option (R×ac):=o.bind fun kvs=>(dW y).bind fun key=>if kvs.length < 1000 then some (o5 (cF kvs key) n kvs key z μ) else none
def v6 (n:Nat)(y:R)(o:Option (R×ac)):Option (R×ac):=o.bind fun x=>rR (NC x.2[n]?) n y x.1 x.2
def rS (n:Nat)(o:Option (R×ac))(fx:FE)(ρ:Lo):Option (R×ac):=o.bind fun k=>v6 n k.1 (fx ρ k.2)
def NA (o:Option aw)(n:Nat)(fk fx:FE)(ρ:Lo)(μ:ac):Option (R×ac):=match o with|some (.dr _)=>rS n (fk ρ μ) fx ρ|_=>none
def GL (o:Option (R×ac))(fk fx:FE)(ρ:Lo):Option (R×ac):=o.bind fun o=>match o.1 with|.p n=>NA o.2[n]? n fk fx ρ o.2|_=>none
theorem Rt {fo fk fx}:oe fo fk fx ρ μ=GL (fo ρ μ) fk fx ρ:=by
 unfold oe GL;refine congrArg _ (funext fun o=>?_)
 cases o.1 with
 |p n =>
  dsimp only;unfold NA tL
  cases e:o.2[n]? with
  |none=>rfl
  |some c =>
   cases c with
   |dr kvs =>
    show (fk ρ o.2).bind _=rS n _ fx ρ
    unfold rS;refine congrArg _ (funext fun k=>?_);unfold v6;refine congrArg _ (funext fun x=>?_);unfold rR NC o5
    cases x.2[n]? with
    |none=>rfl
    |some c=>cases c <;> rfl
   |_=>rfl
 |_=>rfl
theorem Qb {fk fx}:GL (some (.p n,μ)) fk fx ρ=NA μ[n]? n fk fx ρ μ:=rfl
theorem Qa {kvs fk fx}:NA (some (.dr kvs)) n fk fx ρ μ=rS n (fk ρ μ) fx ρ:=rfl
theorem P9 {fx}:rS n (some (y,μ)) fx ρ=v6 n y (fx ρ μ):=rfl
theorem P8:v6 n y (some (z,μ))=rR (NC μ[n]?) n y z μ:=rfl
theorem P7 {kvs}:NC (some (.dr kvs))=some kvs:=rfl
theorem P6 {kvs}:rR (some kvs) n (.v (.int i)) z μ=if kvs.length < 1000 then some (o5 (cF kvs (.inl i)) n kvs (.inl i) z μ) else none:=rfl
theorem P5 {kvs}:rR (some kvs) n (.v .non) z μ=if kvs.length < 1000 then some (o5 (cF kvs (.inr none)) n kvs (.inr none) z μ) else none:=rfl
theorem P3 {kvs key}:o5 (some x) n kvs key z μ=(x,μ):=rfl
theorem P1 {kvs key}:o5 none n kvs key z μ=(z,μ.set n (.dr (kvs++[(key,z)]))):=rfl
def JY (o:Option (R×ac))(fb:FE)(ρ:Lo):Option (R×ac):=o.bind fun a=>(fb ρ a.2).bind fun b=>(d5 a.1 b.2).bind fun xs=>(d5 b.1 b.2).bind fun ys=>if xs.length=ys.length/\xs.length<=sizeLine then some (.p b.2.length,b.2++[.lst (jP xs ys)]) else none
def E2 (x:R)(o:Option (R×ac)):Option (R×ac):=o.bind fun b=>(d5 x b.2).bind fun xs=>(d5 b.1 b.2).bind fun ys=>if xs.length=ys.length/\xs.length<=sizeLine then some (.p b.2.length,b.2++[.lst (jP xs ys)]) else none
def EZ (o p:Option (List D))(μ:ac):Option (R×ac):=o.bind fun xs=>p.bind fun ys=>if xs.length=ys.length/\xs.length<=sizeLine then some (.p μ.length,μ++[.lst (jP xs ys)]) else none
theorem Rr {fa fb}:n8 fa fb ρ μ=JY (fa ρ μ) fb ρ:=rfl
theorem PV {fb}:JY (some (x,μ)) fb ρ=E2 x (fb ρ μ):=rfl
theorem PU:E2 x (some (y,μ))=EZ (d5 x μ) (d5 y μ) μ:=rfl
theorem PR {xs ys}:EZ (some xs) (some ys) μ=if xs.length=ys.length/\xs.length<=sizeLine then some (.p μ.length,μ++[.lst (jP xs ys)]) else none:=rfl
def Ri (o:Option aw)(n:Nat)(μ:ac):Option (List D×ac):=((match o with
  |some (.dct kvs)=>some (kvs.map (·.1),μ.set n (.fzd kvs))|some (.fzd kvs)=>some (kvs.map (·.1),μ)
  |some (.dr kvs)=>some (kvs.map (·.1),μ.set n (.fzr kvs))|some (.fzr kvs)=>some (kvs.map (·.1),μ)
  |_=>none):Option (List aE×ac)).bind fun b=>some (b.1.map HW.kD,b.2)
def GO (o:Option (R×ac)):Option (List D×ac):=o.bind fun a=>(Jg a.1 a.2).bind fun b=>some (b.1.map HW.kD,b.2)
theorem RA {f}:kj f ρ μ=GO (f ρ μ):=rfl
theorem QA {ks ds}:GO (some (.v (.fd ks ds),μ))=some (ks.map HW.kD,μ):=rfl
theorem Qz:GO (some (.p n,μ))=Ri μ[n]? n μ:=rfl
theorem Qy {kvs}:Ri (some (.dr kvs)) n μ=some ((kvs.map (·.1)).map HW.kD,μ.set n (.fzr kvs)):=rfl
theorem Qf:HW.kD (.inl i)=.int i:=rfl
theorem Qe:HW.kD (.inr none)=.non:=rfl
def ND (o:Option aw)(n:Nat)(k:aE)(z:R)(μ:ac):Option (R×ac):=match o with|some (.dr [])=>some (.p n,μ.set n (.dr [(k,z)]))|_=>none
def v9 (n:Nat)(y:R)(o:Option (R×ac)):Option (R×ac):=o.bind fun b=>(dW y).bind fun k=>ND b.2[n]? n k b.1 b.2
def Kh (n:Nat)(o:Option (R×ac))(fv:FE)(ρ:Lo):Option (R×ac):=o.bind fun a=>v9 n a.1 (fv ρ a.2)
theorem Rx {fk fv}:og fk fv ρ μ=Kh μ.length (fk ρ (μ++[.dr []])) fv ρ:=rfl
theorem Qs {fv}:Kh n (some (y,μ)) fv ρ=v9 n y (fv ρ μ):=rfl
theorem Qr:v9 n (.v (.int i)) (some (z,μ))=ND μ[n]? n (.inl i) z μ:=rfl
theorem Qq:v9 n (.v .non) (some (z,μ))=ND μ[n]? n (.inr none) z μ:=rfl
theorem Qp {k}:ND (some (.dr [])) n k z μ=some (.p n,μ.set n (.dr [(k,z)])):=rfl
theorem Qt:Ec ρ μ=some (.p μ.length,μ++[.dr []]):=rfl
theorem Qu:Ed ρ μ=some (.p μ.length,μ++[.dtr []]):=rfl
def GN (o:Option (List D×ac))(ix:List Nat)(k:Nat)(g:FG)(c:FT)(f:FE)(ρ:Lo):Option (R×ac):=o.bind fun a=>if a.1.length<=1000 then (lV g c f a.1 (dz k ix ρ) a.2).bind fun r =>
 if (r.1.map (·.1)).Nodup then some (.p r.2.length,r.2++[.dr (xY r.1)]) else none else none
theorem Ry {ix k fi g c f}:Gi ix k fi g c f ρ μ=GN (fi ρ μ) ix k g c f ρ:=rfl
theorem Qw:GN (some ([],μ)) [] 1 (aV 0) dw (ad 0) ρ=some (.p μ.length,μ++[.dr []]):=rfl
theorem Qv:GN (some ([.int 0],μ)) [] 1 (aV 0) dw (ad 0) ρ=some (.p (μ++[aw.lst []]).length,(μ++[aw.lst []])++[.dr [(.inl 0,.p μ.length)]]):=rfl
def Kf (o:Option (R×ac)):Option (List D×ac):=o.bind fun a=>match a.1 with|.v (.fl xs)=>some (lA xs,a.2)|_=>none
theorem Rv {f}:Ea f ρ μ=Kf (f ρ μ):=rfl
theorem Qj {xs}:Kf (some (.v (.fl xs),μ))=some (lA xs,μ):=rfl
theorem Qi {ks ds}:Lw true (.v (.int i)) (.v (.fd ks ds)) μ=some (.v (.bl (!(ks.any fun k=>decide (k=.inl i)))),μ):=rfl
theorem Qg:F6 true .non (.v .non) μ=some (.v (.bl false),μ):=rfl
theorem Qh:F6 true .non (.v (.int i)) μ=some (.v (.bl true),μ):=rfl
def Nz (o:Option aw):Option (List (Th×R)):=match o with|some (.dtr kvs)=>some kvs|_=>none
def yR (o:Option (List (Th×R)))(k:Th)(μ:ac):Option (R×ac):=o.bind fun kvs=>(iK kvs k).bind fun d=>some (d,μ)
def yS (x:R)(o:Option (R×ac)):Option (R×ac):=o.bind fun k=>match x,k.1 with
 |.p n,.v (.key ks)=>yR (Nz k.2[n]?) ks k.2
 |_,_=>none
def J2 (o:Option (R×ac))(fk:FE)(ρ:Lo):Option (R×ac):=o.bind fun o=>yS o.1 (fk ρ o.2)
theorem Rs {fo fk}:BD fo fk ρ μ=J2 (fo ρ μ) fk ρ:=rfl
theorem PZ {fk}:J2 (some (x,μ)) fk ρ=yS x (fk ρ μ):=rfl
theorem PY {k}:yS (.p n) (some (.v (.key k),μ))=yR (Nz μ[n]?) k μ:=rfl
theorem NS {kvs}:Nz (some (.dtr kvs))=some kvs:=rfl
theorem PX {kvs k}:yR (some kvs) k μ=v8 (iK kvs k) μ:=rfl
theorem JT:pd [.p n] μ=(Nz μ[n]?).bind fun kvs=>if kvs.length < 64/\(kvs.length < 2\/∀p∈kvs,p.1≠[]) then some (.p μ.length,μ++[.lst ((bD (kvs.map (·.1))).map D.key)]) else none:=rfl
theorem EW {ks ds}:jJ (.v (.fd ks ds)) μ=if ks.length=ds.length then some (ks.zip (ds.map R.v)) else none:=rfl
def Rh (o:Option aw)(μ:ac):Option (R×ac):=match o with|some (.lst ds)=>(gl ds).bind fun kvs=>some (.p μ.length,μ++[.dct (mX [] kvs)])|_=>none
theorem Rz:mt [.p n] μ=Rh μ[n]? μ:=rfl
theorem Qx {ds}:Rh (some (.lst ds)) μ=(gl ds).bind fun kvs=>some (.p μ.length,μ++[.dct (mX [] kvs)]):=rfl
theorem Mz {xs:List D}{l h:Option Int}:qg (some xs) l h (-1) μ=some (.p μ.length,μ++[.lst (eN xs l h (-1))]):=by simp [qg]
theorem NV {kvs}:yu (some (.dct kvs))=some (.fd (kvs.map (·.1)) (kvs.map (·.2))):=rfl
end
end HW
namespace LW
open PySem HW
abbrev aP (i:Int):Option R:=some (.v (.int i))
abbrev aM (n:Nat):Option R:=some (.p n)
end LW
local macro_rules
 | `(tactic| push_cast [$xs,*] $[$loc]?) => do
  let ids : Array (Lean.TSyntax `term) := ("mP RN RM wJ wI DV MO Og MN Oj MP Of MM QK MK ML Oh Oi Lq pG BF Gj RJ Gk BJ BI QN OC Jm Me Jo Mi Re BG MU MV LX vq Ee xa LV BQ xg OM M8 Q6 O4 OE OS Nl Gm Pa xf M9 vt xb M4 Nk Ma BH Ef vz O2 O3 BL xc Ej BK L7 L4 Ot QZ OQ OG Q1 Q3 Q7 ON oh Pc yk OO OP Nv Nw OY O0 OZ O1 Q5 OX OW Pk Pj OU Nb QP OF Q2 OT Ou Jk Ov Pe Ph Pd Ix Lm Oe Pt BM vA O9 Jn OB QM OA Oz Pp Pq Pr Po Rb Ra Q9 Oy Ox Ow QO OD Q0 OR Pn Nu Nt O5 O7 Q8 O6 Mf Na qL BO BN Jl M3 Nm QQ OK OJ OI QV QU OL Mc Nn No QT QS QR OH MZ MY MX MW M5 M6 L5 Mb Pi Nr Nq Np Q4 Ps Ny Nx Md QY QX QW Pb L8 L9 Ek M7 L6 OV O8 Nc Nd Nj Ni Nh Ng Nf M0 L3 L0 LY QB NX NW P0 NU NT Rw Qo Qn Qm Qk Ql Ru Qd Qc Rt Qb Qa P9 P8 P7 P6 P5 P3 P1 Rr PV PU PR RA QA Qz Qy Qf Qe Rx Qs Qr Qq Qp Qt Qu Ry Qw Qv Rv Qj Qi Qg Qh Rs PZ PY NS PX NV Rz Qx Mz".splitOn " ").toArray.map fun n => ⟨(Lean.mkIdent (String.toName ("HW." ++ n))).raw⟩
  `(tactic| simp -implicitDefEqProofs only [$xs,*, $[$ids:term],*, Nat.reduceAdd, if_true, zc4] $[$loc]?)
namespace LW
open PySem PySem.Spec PyProof.Rows L2 HW
def oK (i:Nat):Stmt:=PySem.Challenge.pw_heldwhen_k18_table_made.main.body.getD i (.Pass ⟨0,0,0,0⟩)
abbrev jZ:Stmt:=oK 3
theorem eR:aT ["ground","pairs","last","steps","turn","reach"] ["ground","pairs"] (ak jZ):=⟨rfl,rfl,rfl,by decide +kernel,rfl,by decide +kernel,by decide +kernel⟩
abbrev dS:Stmt:=oK 5
theorem ba:aT ["weighted","changes","reach","weight","sign","edge","change"] ["weighted"] (ak dS):=⟨rfl,rfl,rfl,by decide +kernel,rfl,by decide +kernel,by decide +kernel⟩
abbrev bA:Stmt:=oK 6
theorem ay:aT ["weighted","below","many","total","lowest","last","edges","changes","edge","here"] ["weighted"] (ak bA):=⟨rfl,rfl,rfl,by decide +kernel,rfl,by decide +kernel,by decide +kernel⟩
abbrev eQ:Stmt:=oK 7
theorem bP:aT ["plots","steps","place","plot","turn","reach"] ["plots"] (ak eQ):=⟨rfl,rfl,rfl,by decide +kernel,rfl,by decide +kernel,by decide +kernel⟩
abbrev aZ:Stmt:=oK 8
theorem aA:aT ["weighted","weights","reaches","steps","grounds","pairs","last","turn","place","reach","here","weight"] ["weighted"] (ak aZ):=⟨rfl,rfl,rfl,by decide +kernel,rfl,by decide +kernel,by decide +kernel⟩
abbrev fU:Stmt:=oK 10
theorem qp:aT ["plots"] ["plots"] (ak fU):=⟨rfl,rfl,rfl,by decide +kernel,rfl,by decide +kernel,by decide +kernel⟩
abbrev fq:Stmt:=oK 11
theorem fu:aT ["pairs","plots","row","plot","entries"] ["pairs"] (ak fq):=⟨rfl,rfl,rfl,by decide +kernel,rfl,by decide +kernel,by decide +kernel⟩
abbrev iU:Stmt:=oK 13
theorem sf:aT ["script","k"] ["script","k"] (ak iU):=⟨rfl,rfl,rfl,by decide +kernel,rfl,by decide +kernel,by decide +kernel⟩
abbrev iQ:Stmt:=oK 14
theorem iW:aT ["cell","k","number"] ["cell","k"] (ak iQ):=⟨rfl,rfl,rfl,by decide +kernel,rfl,by decide +kernel,by decide +kernel⟩
abbrev iu:Stmt:=oK 15
theorem cI:aT ["number","scale","edges","at","rest","turn"] ["number","scale"] (ak iu):=⟨rfl,rfl,rfl,by decide +kernel,rfl,by decide +kernel,by decide +kernel⟩
abbrev iS:Stmt:=oK 16
theorem bB:aT ["cell","k","scale","number","ground","last","turn","steps","step","reach"] ["cell","k","scale"] (ak iS):=⟨rfl,rfl,rfl,by decide +kernel,rfl,by decide +kernel,by decide +kernel⟩
abbrev j5:Stmt:=oK 17
theorem gf:aT ["cell","k","width","number","row","column"] ["cell","k","width"] (ak j5):=⟨rfl,rfl,rfl,by decide +kernel,rfl,by decide +kernel,by decide +kernel⟩
abbrev iT:Stmt:=oK 18
theorem bZ:aT ["plot","day","turn","truth","edges","at","reach","edge"] ["plot","day","turn"] (ak iT):=⟨rfl,rfl,rfl,by decide +kernel,rfl,by decide +kernel,by decide +kernel⟩
abbrev iq:Stmt:=oK 19
theorem qo:aT ["thing"] ["thing"] (ak iq):=⟨rfl,rfl,rfl,by decide +kernel,rfl,by decide +kernel,by decide +kernel⟩
abbrev ir:Stmt:=oK 20
theorem kU:aT ["some","k"] ["some"] (ak ir):=⟨rfl,rfl,rfl,by decide +kernel,rfl,by decide +kernel,by decide +kernel⟩
abbrev fJ:Stmt:=oK 21
theorem mE:aT ["thing"] ["thing"] (ak fJ):=⟨rfl,rfl,rfl,by decide +kernel,rfl,by decide +kernel,by decide +kernel⟩
abbrev d7:Stmt:=oK 22
theorem d8:aT ["thing","last","step"] ["thing"] (ak d7):=⟨rfl,rfl,rfl,by decide +kernel,rfl,by decide +kernel,by decide +kernel⟩
abbrev cS:Stmt:=oK 23
theorem fL:aT ["thing","width","entry","rows"] ["thing","width"] (ak cS):=⟨rfl,rfl,rfl,by decide +kernel,rfl,by decide +kernel,by decide +kernel⟩
abbrev iR:Stmt:=oK 24
theorem bN:aT ["cell","k","table","scale","number","turn","day","plot","reach"] ["cell","k","table","scale"] (ak iR):=⟨rfl,rfl,rfl,by decide +kernel,rfl,by decide +kernel,by decide +kernel⟩
abbrev jr:Stmt:=oK 25
theorem xH:aT ["pairs","day","turn"] ["pairs","day","turn"] (ak jr):=⟨rfl,rfl,rfl,by decide +kernel,rfl,by decide +kernel,by decide +kernel⟩
abbrev qi:Stmt:=oK 26
theorem fM:aT ["script","width","scale","pairs","handed","answer","cell","day","turn","kept","whole","again"] ["script"] (ak qi):=⟨rfl,rfl,rfl,by decide +kernel,rfl,by decide +kernel,by decide +kernel⟩
abbrev gN:FS:=(ju (fB (ax (jh true) (ad 5) (ad 2)))
  (aq (ee (oR jO (ad 3) (af (cW (af (ad 4) (af (ad 5) ai))) ai)))
  (aI 2 (ad 5)))
  bC)
abbrev lW:FS:=(aq (aI 2 (ad 0))
  (aq (aI 3 (du ai))
  (aq (dB (bm (ad 1)) (ie 2 (ap (aV 4) (ap (aV 5) bn)))
  gN)
  (bV (cW (af (ad 0) (af (eL qe (af (ad 3) ai)) ai)))))))
def gc:MF:=fV 6 (lW)
abbrev dE:FS:=(aq (aI 6 (tF (ad 1) (ad 5) (cW (af (fK (.int 0)) (af (fK (.int 0)) ai)))))
  (aq (qq (cW (af (ax ij (ax c9 (ad 6) (fK (.int 0))) (ad 4)) (af (ax ij (ax c9 (ad 6) (fK (.int 1))) (ax lf (ad 4) (ad 3))) ai))) (qH (ad 1) (ad 5)))
  (aI 4 (mn qC (ad 4)))))
abbrev cA:FS:=(aq (aI 4 (Jj (eZ (ax c9 (ad 2) (fK (.int 0)))) (mn qC (fK (.int 1))) (fK (.int 1))))
  (dB (bm (ax c9 (ad 2) (fK (.int 1)))) (aV 5)
  dE))
abbrev eG:FS:=(aq (aI 1 w9)
  (aq (dB (bm (ad 0)) (ie 2 (ap (aV 2) (ap (aV 3) bn)))
  cA)
  (bV (ad 1))))
def bF:MF:=fV 7 (eG)
abbrev cg:FS:=(ee (oR jO (oe (ad 1) (ad 4) (du ai)) (af (cW (af (ad 2) (af (ad 5) ai))) ai)))
abbrev ez:FS:=(dB (bm (ax c9 (ad 3) (fK (.int 1)))) (ie 2 (ap (aV 4) (ap (aV 5) bn)))
  cg)
abbrev fQ:FS:=(aq (aI 1 Ec)
  (aq (dB (Ea (cq (ad 0))) (ie 2 (ap (aV 2) (ap (aV 3) bn)))
  ez)
  (bV (Eb (ad 1)))))
def bY:MF:=fV 6 (fQ)
abbrev iI:FS:=(aq (ju (fB (ax JO (ad 1) (eL gF (af (ad 0) ai))))
  (bV (ax c9 (ad 0) (ad 1)))
  bC)
  (bV (fK (.int 0))))
def cL:MF:=fV 2 (iI)
abbrev kw:FS:=(aq (aI 2 (ax b7 (ax lf (ax ij (ax b7 (ad 0) (fK (.int 2147483629))) (fK (.int 1))) (fK (.int 1103515245))) (fK (.int 2147483629))))
  (aq (aI 2 (ax b7 (ax ij (ax ij (ax lf (ad 2) (ad 2)) (ax lf (ad 1) (fK (.int 69621)))) (fK (.int 12345))) (fK (.int 2147483587))))
  (bV (ax b7 (ax lf (ad 2) (ad 2)) (fK (.int 2147483629))))))
def br:MF:=fV 3 (kw)
abbrev gX:FS:=(aq (aI 3 (ax ij (ax ij (ad 3) (fK (.int 1))) (ax b7 (ax dH (ad 4) (fK (.int 2))) (fK (.int 4)))))
  (aq (ee (oR jO (ad 2) (af (ax lf (ad 3) (ad 1)) ai)))
  (aI 4 (ax dH (ad 4) (fK (.int 8))))))
abbrev jk:FS:=(aq (aI 2 (du ai))
  (aq (aI 3 (ax jH (ax b7 (ad 0) (fK (.int 5))) (fK (.int 2))))
  (aq (aI 4 (ax dH (ad 0) (fK (.int 15))))
  (aq (dB (vj (ax ij (ax b7 (ax dH (ad 0) (fK (.int 5))) (fK (.int 3))) (ax b7 (ad 4) (fK (.int 2))))) (aV 5)
  gX)
  (bV (cW (af (ax JO (ax b7 (ad 4) (fK (.int 5))) (fK (.int 2))) (af (eL qe (af (ad 2) ai)) ai))))))))
def df:MF:=fV 6 (jk)
abbrev eB:FS:=(ju (fB (ax JQ (ad 5) (ad 2)))
  (qq (ad 6) (ie 2 (ap (aV 3) (ap (aV 4) bn))))
  bC)
abbrev eA:FS:=(ju (fB (ax JQ (ad 7) (ad 1)))
  (aI 3 (BE (ad 3)))
  bC)
abbrev kB:FS:=(aq (qq (ax c9 (ad 0) (fK (.int 0))) (ie 2 (ap (aV 3) (ap (aV 4) bn))))
  (aq (dB (bm (ax c9 (ad 0) (fK (.int 1)))) (ie 2 (ap (aV 5) (ap (aV 6) bn)))
  eB)
  (aq (dB (bm (ad 4)) (aV 7)
  eA)
  (bV (ad 3)))))
def cK:MF:=fV 8 (kB)
abbrev t8:FS:=(bV (qJ (mn (jc "int") (ad 0)) (BE (mn (jc "bool") (ad 0)))))
def de:MF:=fV 1 (t8)
abbrev au (bt:Bool):FS:=(aq (xI 2 (fun a b=>a+b) (ax c9 (lz (ad 7) (ad 8)) (fK (.int 0))))
  (aq (xI 3 (fun a b=>a+b) (ax c9 (lz (ad 7) (ad 8)) (fK (.int 1))))
  (aq (aI 9 (Jj (fB (ax Gb (ad 2) (fK (.int 0)))) (ad 3) (fK .non)))
  (aq (ju (fB (ax (jh true) (ad 9) (ad 5)))
  (aq (ee (oR jO (lz (ad 6) (ad 5)) (af (ad 8) ai)))
  (ee (oR jO (oe (ad 6) (ad 9) (du ai)) (af (ad 8) ai))))
  bC)
  (aI 5 (ad 9))))))
abbrev dI (bt:Bool):FS:=(aq (aI 1 (cj [] 2 (bm (ad 0)) (ie 2 (ap (aV 0) (ap (aV 1) bn))) (eZ (ax c9 (ad 0) (fK (.int 0)))) (ad 1)))
  (aq (aI 2 (eL gF (af (ad 1) ai)))
  (aq (aI 3 (eL xC (af (ad 1) ai)))
  (aq (aI 4 (Jj (fB (ax Gb (ad 2) (fK (.int 0)))) (ad 3) (fK .non)))
  (aq (aI 5 (ad 4))
  (aq (aI 6 (og (ad 4) (du ai)))
  (aq (aI 7 (aS bF 1 (af (cq (ad 0)) ai)))
  (aq (dB (bm (eL (kR bt) (af (ad 7) ai))) (aV 8)
  (au bt))
  (bV (eL mt (af (cj [4,6] 1 (kj (ad 6)) (aV 0) (fB (mn (F6 true .non) (ad 0))) (cW (af (ad 0) (af (cW (af (ax (jh false) (ad 0) (ad 1)) (af (eL qe (af (lz (ad 2) (ad 0)) ai)) ai))) ai)))) ai)))))))))))
def aQ (bt:Bool):MF:=fV 10 (dI bt)
abbrev fY:FS:=(aq (aI 9 (aS df 2 (af (cq (aS br 2 (af (cq (ad 0)) (af (cq (ax ij (ax ij (ad 1) (fK (.int 5))) (ad 8))) ai)))) (af (cq (ad 2)) ai))))
  (aq (ju (fB (ax (jh true) (ad 9) (ad 5)))
  (aq (ee (oR jO (ad 7) (af (cW (af (ax lf (ad 6) (ax c9 (du (af (fK (.int 1)) (af (ax mG (fK (.int 10)) (fK (.int 30))) ai))) (ax b7 (ax dH (ad 3) (fK (.int 80))) (fK (.int 2))))) (af (ad 9) ai))) ai)))
  (aI 5 (ad 9)))
  bC)
  (aI 6 (ax ij (ax ij (ad 6) (fK (.int 1))) (ax b7 (ax dH (aS br 2 (af (cq (ad 0)) (af (cq (ax ij (ad 1) (fK (.int 9)))) ai))) (fK (.int 3))) (fK (.int 3)))))))
abbrev kA:FS:=(aq (aI 3 (aS br 2 (af (cq (ad 0)) (af (cq (ad 1)) ai))))
  (aq (aI 4 (cW (af (fK (.bl false)) (af (cW ai) ai))))
  (aq (ju (fB (ax (jh false) (ax b7 (ad 3) (fK (.int 4))) (fK (.int 0))))
  (aI 4 (aS df 2 (af (cq (ax dH (ad 3) (fK (.int 4)))) (af (cq (ad 2)) ai))))
  bC)
  (aq (aI 5 (ad 4))
  (aq (aI 6 (ax jH (ax b7 (ax dH (ad 3) (fK (.int 16))) (fK (.int 5))) (fK (.int 1))))
  (aq (aI 7 (du ai))
  (aq (dB (vj (ax b7 (ax dH (ad 3) (fK (.int 4))) (fK (.int 4)))) (aV 8)
  fY)
  (bV (cW (af (ad 4) (af (eL qe (af (ad 7) ai)) ai)))))))))))
def ck:MF:=fV 10 (kA)
abbrev i8:FS:=(aq (ee (oR jO (ad 4) (af (ax c9 (du (af (fK (.int 0)) (af (fK (.int 1)) (af (fK (.int 1)) (af (mn qC (fK (.int 1))) (af (fK (.int 2)) (af (ax b7 (ad 0) (ax mG (fK (.int 10)) (fK (.int 50)))) ai))))))) (ax b7 (ad 3) (fK (.int 6)))) ai)))
  (aI 3 (ax dH (ad 3) (fK (.int 6)))))
abbrev lX:FS:=(aq (aI 3 (aS br 2 (af (cq (ad 0)) (af (cq (ax ij (ad 1) (fK (.int 17)))) ai))))
  (aq (aI 4 (du ai))
  (aq (dB (vj (ad 2)) (aV 5)
  i8)
  (bV (eL Bd (af (ad 4) ai))))))
def c6:MF:=fV 6 (lX)
abbrev ff:FS:=(ju (gE (eM (eZ (aS de 1 (af (cq (ax c9 (ad 0) (ad 1))) ai)))) (rX (fB (ax Gb (ad 1) (fK (.int 0)))) (fB (ax JQ (ax c9 (ad 0) (ad 1)) (ax c9 (ad 0) (ax jH (ad 1) (fK (.int 1))))))))
  (bV (fK (.bl false)))
  bC)
abbrev jj:FS:=(aq (dB (vj (eL gF (af (ad 0) ai))) (aV 1)
  ff)
  (bV (fK (.bl true))))
def b9:MF:=fV 2 (jj)
abbrev ky:FS:=(aq (aI 4 (aS br 2 (af (cq (ad 0)) (af (cq (ax ij (ad 1) (fK (.int 31)))) ai))))
  (aq (aI 5 (ax jH (ax b7 (ad 4) (fK (.int 9))) (fK (.int 2))))
  (aq (aI 6 (ax jH (ax lf (ax jH (ax b7 (ax dH (ad 4) (fK (.int 9))) (fK (.int 15))) (fK (.int 4))) (ad 3)) (ax b7 (ax dH (ad 4) (fK (.int 135))) (fK (.int 2)))))
  (aq (ju (rX (fB (ax (jh true) (ad 2) (du ai))) (fB (ax Gb (ax b7 (ax dH (ad 4) (fK (.int 270))) (fK (.int 3))) (fK (.int 0)))))
  (aq (aI 7 (ax c9 (ax c9 (ad 2) (ax b7 (ax dH (ad 4) (fK (.int 810))) (eL gF (af (ad 2) ai)))) (fK (.int 1))))
  (aq (aI 8 (ax c9 (ad 7) (fK (.int 0))))
  (aq (ju (fB (ax (jh true) (ax c9 (ad 7) (fK (.int 1))) (cW ai)))
  (aq (qq (ax c9 (ax c9 (ad 7) (fK (.int 1))) (ax b7 (ax dH (ad 4) (fK (.int 9000))) (eL gF (af (ax c9 (ad 7) (fK (.int 1))) ai)))) (ie 2 (ap (aV 5) (ap (aV 8) bn))))
  (aI 5 (ax jH (ad 5) (ax b7 (ax dH (ad 4) (fK (.int 90000))) (fK (.int 2))))))
  bC)
  (ju (fB (ax (jh true) (ax c9 (ad 8) (fK (.int 1))) (cW ai)))
  (aI 6 (ax jH (ax c9 (ax c9 (ad 8) (fK (.int 1))) (ax b7 (ax dH (ad 4) (fK (.int 180000))) (eL gF (af (ax c9 (ad 8) (fK (.int 1))) ai)))) (ax b7 (ax dH (ad 4) (fK (.int 1800000))) (fK (.int 2)))))
  bC))))
  bC)
  (bV (cW (af (ad 6) (af (ad 5) ai))))))))
def eX:MF:=fV 9 (ky)
abbrev ow (bt:Bool):FS:=(bV (vm (cj [1,2] 2 (bm (ad 0)) (ie 2 (ap (aV 0) (ap (aV 1) bn))) (eZ (aS cK 3 (af (cq (ad 1)) (af (cq (ad 2)) (af (cq (ad 3)) ai))))) (ad 0))))
def gp (bt:Bool):MC:=zP 3 (ow bt)
abbrev cz (bt:Bool):FS:=(qq (cq (ad 9)) (qH (ad 2) (ad 8)))
abbrev bJ (bt:Bool):FS:=(ee (oR jO (oe (ad 5) (ad 11) (du ai)) (af (cW (af (ad 7) (af (lz (ad 10) (ad 11)) ai))) ai)))
abbrev bu (bt:Bool):FS:=(ju (fB (ax (Lw true) (ad 11) (ad 10)))
  (ee (oR jO (lz (ad 5) (ad 11)) (af (cW (af (ad 7) (af (fK (.tup [(.bl false),(.tup [])])) ai))) ai)))
  bC)
abbrev bc (bt:Bool):FS:=(aq (dB (bm (lz (ad 3) (ad 7))) (ie 2 (ap (aV 8) (ap (aV 9) bn)))
  (cz bt))
  (aq (aI 10 (aS (aQ bt) 1 (af (cq (n8 (ad 2) (ad 1))) ai)))
  (aq (dB (kj (ad 10)) (aV 11)
  (bJ bt))
  (aq (dB (kj (ad 6)) (aV 11)
  (bu bt))
  (aI 6 (ad 10))))))
abbrev eF (bt:Bool):FS:=(aq (aI 1 (cj [] 2 (bm (ad 0)) (ie 2 (ap (aV 0) (ap (aV 1) bn))) dw (ad 1)))
  (aq (aI 2 (cj [] 2 (bm (ad 0)) (ie 2 (ap (aV 0) (ap (aV 1) bn))) dw (ax c9 (ad 0) (fK (.int 0)))))
  (aq (aI 3 (aS bY 1 (af (cq (cj [] 2 (bm (ad 0)) (ie 2 (ap (aV 0) (ap (aV 1) bn))) dw (ad 0))) ai)))
  (aq (aI 4 (aS (aQ bt) 1 (af (cq (n8 (ad 2) (ad 1))) ai)))
  (aq (aI 5 (Gi [] 1 (kj (ad 4)) (aV 0) dw (ad 0)))
  (aq (aI 6 (ad 4))
  (aq (dB (bm (eL (kR bt) (af (ad 3) ai))) (aV 7)
  (bc bt))
  (bV (eL mt (af (cj [4,5] 1 (kj (ad 5)) (aV 0) dw (cW (af (ad 0) (af (aS gc 2 (af (cq (tF (ad 1) (ad 0) (fK (.tup [(.bl false),(.tup [])])))) (af (cq (lz (ad 2) (ad 0))) ai))) ai)))) ai))))))))))
def b8 (bt:Bool):MF:=fV 12 (eF bt)
abbrev gy:FS:=(aq (ju (gE (eM (eZ (mn (jc "tuple") (ad 0)))) (gE (fB (ax (jh true) (eL gF (af (ad 0) ai)) (fK (.int 2)))) (eM (eZ (mn (jc "bool") (ax c9 (ad 0) (fK (.int 0))))))))
  (bV (fK (.bl false)))
  bC)
  (bV (qJ (mn (jc "tuple") (ax c9 (ad 0) (fK (.int 1)))) (aS b9 1 (af (cq (ax c9 (ad 0) (fK (.int 1)))) ai)))))
def cD:MF:=fV 1 (gy)
abbrev fH (bt:Bool):FS:=(aq (ju (fB (ax (jh false) (eL gF (af (ad 0) ai)) (fK (.int 1))))
  (bV (ax c9 (ad 0) (fK (.int 0))))
  bC)
  (bV (tF (aS (b8 bt) 1 (af (cq (cj [] 1 (bm (ad 0)) (aV 0) dw (cW (af (ad 0) (af (fK (.int 0)) ai))))) ai)) (fK (.int 0)) (fK (.tup [(.tup [(.bl false),(.tup [])]),(.tup [])])))))
def ca (bt:Bool):MF:=fV 1 (fH bt)
abbrev dP:FS:=(aq (ju (gE (eM (eZ (mn (jc "tuple") (ad 2)))) (gE (fB (ax (jh true) (eL gF (af (ad 2) ai)) (fK (.int 2)))) (gE (eM (eZ (aS cD 1 (af (cq (ax c9 (ad 2) (fK (.int 1)))) ai)))) (fB (ax (jh false) (ax c9 (ad 2) (fK (.int 1))) (ad 1))))))
  (bV (fK (.bl false)))
  bC)
  (aI 1 (ax c9 (ad 2) (fK (.int 1)))))
abbrev g8:FS:=(aq (ju (gE (eM (eZ (mn (jc "tuple") (ad 0)))) (gE (fB (ax (jh true) (eL gF (af (ad 0) ai)) (fK (.int 2)))) (eM (eZ (aS cD 1 (af (cq (ax c9 (ad 0) (fK (.int 0)))) ai))))))
  (bV (fK (.bl false)))
  bC)
  (aq (ju (eM (eZ (mn (jc "tuple") (ax c9 (ad 0) (fK (.int 1))))))
  (bV (fK (.bl false)))
  bC)
  (aq (aI 1 (ax c9 (ad 0) (fK (.int 0))))
  (aq (dB (bm (ax c9 (ad 0) (fK (.int 1)))) (aV 2)
  dP)
  (bV (aS b9 1 (af (cq (cj [] 1 (bm (ax c9 (ad 0) (fK (.int 1)))) (aV 0) dw (ax c9 (ad 0) (fK (.int 0))))) ai)))))))
def dL:MF:=fV 3 (g8)
abbrev eu (bt:Bool):FS:=(ee (oR jO (oa (ad 1) (ad 2) (du ai)) (af (ad 3) ai)))
abbrev ku (bt:Bool):FS:=(aq (aI 1 Ed)
  (aq (dB (bm (ad 0)) (ie 2 (ap (aV 2) (ap (aV 3) bn)))
  (eu bt))
  (aq (aI 4 (cj [1] 1 (bm (eL pd (af (ad 1) ai))) (aV 0) dw (cW (af (ad 0) (af (aS (ca bt) 1 (af (cq (BD (ad 1) (ad 0))) ai)) ai)))))
  (bV (cj [] 1 (bm (ad 4)) (aV 0) (fB (ax (jh true) (ax c9 (ad 0) (fK (.int 1))) (fK (.tup [(.tup [(.bl false),(.tup [])]),(.tup [])])))) (ad 0))))))
def aC (bt:Bool):MC:=zP 5 (ku bt)
abbrev dq (bt:Bool):FS:=(aq (ju (gE (eM (eZ (mn (jc "tuple") (ad 2)))) (gE (fB (ax (jh true) (eL gF (af (ad 2) ai)) (fK (.int 2)))) (eM (eZ (mn (jc "tuple") (ax c9 (ad 2) (fK (.int 0))))))))
  (bV (fK (.bl false)))
  bC)
  (aq (ju (gE (fB (ax (jh true) (eL gF (af (ax c9 (ad 2) (fK (.int 0))) ai)) (ad 1))) (eM (eZ (eL (Cc false) (af (cj [] 1 (bm (ax c9 (ad 2) (fK (.int 0)))) (aV 0) dw (aS de 1 (af (cq (ad 0)) ai))) ai)))))
  (bV (fK (.bl false)))
  bC)
  (ju (gE (eM (eZ (aS dL 1 (af (cq (ax c9 (ad 2) (fK (.int 1)))) ai)))) (fB (ax (jh false) (ax c9 (ad 2) (fK (.int 1))) (cW (af (cW (af (fK (.bl false)) (af (cW ai) ai))) (af (cW ai) ai))))))
  (bV (fK (.bl false)))
  bC)))
abbrev gx (bt:Bool):FS:=(aq (ju (eM (eZ (mn (jc "list") (ad 0))))
  (bV (fK (.bl false)))
  bC)
  (aq (dB (bm (ad 0)) (aV 2)
  (dq bt))
  (aq (aI 3 (cj [] 1 (bm (ad 0)) (aV 0) dw (ax c9 (ad 0) (fK (.int 0)))))
  (bV (ax (jh false) (ad 3) (vm (ad 3)))))))
def bS (bt:Bool):MF:=fV 4 (gx bt)
abbrev lh (bt:Bool):FS:=(aq (qq (aS (uk eX) 4 (af (cq (ad 6)) (af (fK (.int 2)) (af (cq (ad 3)) (af (cq (ad 2)) ai))))) (ie 2 (ap (aV 7) (ap (aV 8) bn))))
  (ju (fB (ax (lG true) (bX (uk (gp bt)) 3 (af (ad 5) (af (ad 7) (af (ad 8) ai)))) (bX (uk (gp bt)) 3 (af (ad 3) (af (ad 7) (af (ad 8) ai))))))
  (bV (fK (.bl false)))
  bC))
abbrev Cb (bt:Bool):FS:=(aq (aI 1 (ax b7 (aS cL 2 (af (cq (ad 0)) (af (fK (.int 0)) ai))) (fK (.int 4))))
  (aq (aI 2 (ax c9 (du (af (fK (.int 1)) (af (fK (.int 1)) (af (ax mG (fK (.int 10)) (fK (.int 40))) ai)))) (ax b7 (ax dH (aS cL 2 (af (cq (ad 0)) (af (fK (.int 0)) ai))) (fK (.int 4))) (fK (.int 3)))))
  (aq (aI 3 (cj [1,2] 1 (bm (LU (ad 0) (k9 (fK (.int 1))) (k9 (fK (.int 41))))) (aV 0) dw (cW (af (aS c6 3 (af (cq (ad 0)) (af (fK (.int 1)) (af (cq (ad 1)) ai)))) (af (aS ck 3 (af (cq (ad 0)) (af (fK (.int 1)) (af (cq (ad 2)) ai)))) ai)))))
  (aq (aI 4 (eL gL (af (ad 3) ai)))
  (aq (aI 5 (bX (aC bt) 1 (af (ad 4) ai)))
  (aq (ju (gE (fB (ax (lG true) (ad 4) (ad 3))) (eM (eZ (lQ (uk (bS bt)) 2 (af (ad 5) (af (ad 1) ai))))))
  (bV (fK (.bl false)))
  bC)
  (aq (dB (bm (ax mN (du (af (fK (.int 0)) ai)) (ad 0))) (aV 6)
  (lh bt))
  (aq (ju (gE (fB (ax (lG true) (bX (aC bt) 1 (af (ax mN (mq (eL gL (af (ad 5) ai)) i6 i6 (-1)) (ad 3)) ai)) (ad 5))) (fB (ax (lG true) (bX (aC bt) 1 (af (ad 5) ai)) (ad 5))))
  (bV (fK (.bl false)))
  bC)
  (aq (aI 9 (eL gL (af (ad 5) ai)))
  (aq (aI 10 (eL gL (af (ad 5) ai)))
  (aq (aI 11 (bX (aC bt) 1 (af (ad 10) ai)))
  (aq (ee (oR tT (ad 4) ai))
  (aq (ee (oR tT (ad 10) ai))
  (aq (ju (gE (fB (ax (lG true) (ad 5) (ad 9))) (fB (ax (lG true) (ad 11) (ad 9))))
  (bV (fK (.bl false)))
  bC)
  (aq (ee (oR jO (ad 5) (af (cq (ad 3)) ai)))
  (bV (qJ (ax (lG false) (ad 4) (du ai)) (qJ (ax (lG false) (bX (aC bt) 1 (af (ad 3) ai)) (ad 9)) (ax (lG false) (bX (aC bt) 1 (af (du ai) ai)) (du ai))))))))))))))))))))
def sM (bt:Bool):MF:=fV 12 (Cb bt)
def zs:Tl:=["tuple","len","sum","sorted","dict","enumerate","list","zip","range","isinstance","bool","int","all","set"]
def NG (mg:Td)(l:Tl):Prop:=∀(i:Nat) (x:Str),l[i]?=some x->mg x=none
theorem GC {mg:Td}:NG mg []:=fun i x e=>by simp at e
theorem c8 {mg:Td}{x:Str}{l:Tl}(h:mg x=none)(t:NG mg l):NG mg (x::l):=fun i y e=>by
 cases i with
 |zero=>cases e;exact h
 |succ i=>exact t i y e
def Zs (mg:Td):Prop:=NG mg zs
section
variable  {P:Program}{w:World}{K:zac}{mg:Td}{base:Heap}
set_option maxHeartbeats 4000000
theorem yd (z:Zs mg)(d:cZ K mg "plot_of" jZ ["ground","pairs"])  : bR P w K mg base 1 "plot_of" ["ground","pairs"] gc :=
 okP (k:=0) d eR fun f cdv A outer s H E hr =>
  (aj (aN 2 eR.nd (ae 0))
  (aj (aN 3 eR.nd (fA ao))
  (aj (d9 rfl (cV (ae 1)) (jN rfl (aR (bx 4 eR.nd) (aR (bx 5 eR.nd) dF)))
  (aJ (fN (mD hr.units (ae 5) (ae 2))
  (aj (eS (i4 (ae 3) (ag (cU (ag (ae 4) (ag (ae 5) ao))) ao)))
  (aJ (aN 2 eR.nd (ae 5))))
  cT)) PassesOwn.never)
  (aJ (bz (cU (ag (ae 0) (ag (mW rfl (z 0 _ rfl) (ag (ae 3) ao)) ao))))))))
theorem lq (z:Zs mg)(d:cZ K mg "changes_by_edge" dS ["weighted"])  : bR P w K mg base 1 "changes_by_edge" ["weighted"] bF :=
 okP (k:=0) d ba fun f cdv A outer s H E hr =>
  (aj (aN 1 ba.nd HN)
  (aj (d9 rfl (cV (ae 0)) (jN rfl (aR (bx 2 ba.nd) (aR (bx 3 ba.nd) dF)))
  (aj (aN 4 ba.nd (HM (fm (bM (ae 2) ah)) (pA ah) ah))
  (aJ (d9 rfl (cV (bM (ae 2) ah)) (bx 5 ba.nd)
  (aj (aN 6 ba.nd (uK hr.units (ae 1) (ae 5) (cU (ag ah (ag ah ao)))))
  (aj (pi (cU (ag (dU (bM (ae 6) ah) (ae 4)) (ag (dU (bM (ae 6) ah) (l9 (ae 4) (ae 3))) ao))) (LB hr.units (ae 1) (ae 5)))
  (aJ (aN 4 ba.nd (pA (ae 4)))))) PassesOwn.never))) PassesOwn.never)
  (aJ (bz (ae 1)))))
theorem jL (z:Zs mg)(d:cZ K mg "reaches_by_weight" bA ["weighted"])(eE:bR P w K mg base 1 "changes_by_edge" ["weighted"] bF):bR P w K mg base 2 "reaches_by_weight" ["weighted"] (aQ (!HS.bt w)) :=
 okP (k:=1) d ay fun f cdv A outer s H E hr =>
  (aj (iX 1 [] ["reach","weight"] [] rfl (show aK (ak bA) _ ["reach","weight"] [] from ⟨rfl,by decide +kernel,by decide +kernel,by decide +kernel,by decide +kernel,by decide +kernel⟩) ay.nd (cV (ae 0)) (fun cl C s₂ H₂ fp=>⟨(jN rfl (aR (bx 0 (show (["reach","weight"]:Tl).Nodup by decide +kernel)) (aR (bx 1 (show (["reach","weight"]:Tl).Nodup by decide +kernel)) dF))),(w6 (fm (bM (ae 0) ah))),(ae 1)⟩))
  (aj (aN 2 ay.nd (iM rfl (z 1 _ rfl) (ag (ae 1) ao)))
  (aj (aN 3 ay.nd (K2 rfl rfl (z 2 _ rfl) (ag (ae 1) ao)))
  (aj (aN 4 ay.nd (HM (CI (ae 2) ah) (ae 3) FY))
  (aj (aN 5 ay.nd (ae 4))
  (aj (aN 6 ay.nd (Dh (ae 4) (fA ao)))
  (aj (aN 7 ay.nd (aW eE (hr.mono (by decide)) (ag (b6 (ae 0)) ao)))
  (aj (d9 rfl (cV (pw rfl rfl (z 3 _ rfl) (ag (ae 7) ao))) (bx 8 ay.nd)
  (aj (zO 2 ay.nd (bM (me hr.units (ae 7) (ae 8)) ah))
  (aj (zO 3 ay.nd (bM (me hr.units (ae 7) (ae 8)) ah))
  (aj (aN 9 ay.nd (HM (CI (ae 2) ah) (ae 3) FY))
  (aj (fN (mD hr.units (ae 9) (ae 5))
  (aj (eS (i4 (me hr.units (ae 6) (ae 5)) (ag (ae 8) ao)))
  (aJ (eS (i4 (uJ (ae 6) (ae 9) (fA ao)) (ag (ae 8) ao)))))
  cT)
  (aJ (aN 5 ay.nd (ae 9))))))) PassesOwn.never)
  (aJ (bz (Au rfl rfl (z 4 _ rfl) (ag (gT [4,6] ["told"] ["lowest","edges"] rfl (show aK (ak bA) _ ["told"] ["lowest","edges"] from ⟨rfl,by decide +kernel,by decide +kernel,by decide +kernel,by decide +kernel,by decide +kernel⟩) (Bu (ae 6)) (fun cl C s₂ H₂ fp=>⟨(bx 0 (show (["told","lowest","edges"]:Tl).Nodup by decide +kernel)),(w6 (GP (ae 0))),(cU (ag (ae 0) (ag (cU (ag (K5 hr.units (ae 0) (ae 1)) (ag (mW rfl (z 0 _ rfl) (ag (me hr.units (ae 2) (ae 0)) ao)) ao))) ao)))⟩)) ao))))))))))))
theorem mJ (z:Zs mg)(d:cZ K mg "steps_by_turn" eQ ["plots"])  : bR P w K mg base 1 "steps_by_turn" ["plots"] bY :=
 okP (k:=0) d bP fun f cdv A outer s H E hr =>
  (aj (aN 1 bP.nd K6)
  (aj (G2 rfl (On rfl (z 5 _ rfl) (b6 (ae 0))) (jN rfl (aR (bx 2 bP.nd) (aR (bx 3 bP.nd) dF)))
  (aJ (d9 rfl (cV (bM (ae 3) ah)) (jN rfl (aR (bx 4 bP.nd) (aR (bx 5 bP.nd) dF)))
  (aJ (eS (i4 (uJ (ae 1) (ae 4) (fA ao)) (ag (cU (ag (ae 2) (ag (ae 5) ao))) ao)))) PassesOwn.never)) PassesOwn.never)
  (aJ (bz (K4 (ae 1))))))
theorem lm (z:Zs mg)(d:cZ K mg "plots_by_weight" aZ ["weighted"])(fP:bR P w K mg base 1 "steps_by_turn" ["plots"] bY)(cB:bR P w K mg base 2 "reaches_by_weight" ["weighted"] (aQ (!HS.bt w)))(lO:bR P w K mg base 1 "plot_of" ["ground","pairs"] gc)(c_NO_NUMBERS:jp K mg "NO_NUMBERS" (.tup [(.bl false),(.tup [])])):bR P w K mg base 3 "plots_by_weight" ["weighted"] (b8 (!HS.bt w)) :=
 okP (k:=2) d aA fun f cdv A outer s H E hr =>
  (aj (iX 1 [] ["plot","weight"] [] rfl (show aK (ak aZ) _ ["plot","weight"] [] from ⟨rfl,by decide +kernel,by decide +kernel,by decide +kernel,by decide +kernel,by decide +kernel⟩) aA.nd (cV (ae 0)) (fun cl C s₂ H₂ fp=>⟨(jN rfl (aR (bx 0 (show (["plot","weight"]:Tl).Nodup by decide +kernel)) (aR (bx 1 (show (["plot","weight"]:Tl).Nodup by decide +kernel)) dF))),jg,(ae 1)⟩))
  (aj (iX 2 [] ["plot","weight"] [] rfl (show aK (ak aZ) _ ["plot","weight"] [] from ⟨rfl,by decide +kernel,by decide +kernel,by decide +kernel,by decide +kernel,by decide +kernel⟩) aA.nd (cV (ae 0)) (fun cl C s₂ H₂ fp=>⟨(jN rfl (aR (bx 0 (show (["plot","weight"]:Tl).Nodup by decide +kernel)) (aR (bx 1 (show (["plot","weight"]:Tl).Nodup by decide +kernel)) dF))),jg,(bM (ae 0) ah)⟩))
  (aj (aN 3 aA.nd (aW fP (hr.mono (by decide)) (ag (b6 (gT [] ["plot","weight"] [] rfl (show aK (ak aZ) _ ["plot","weight"] [] from ⟨rfl,by decide +kernel,by decide +kernel,by decide +kernel,by decide +kernel,by decide +kernel⟩) (cV (ae 0)) (fun cl C s₂ H₂ fp=>⟨(jN rfl (aR (bx 0 (show (["plot","weight"]:Tl).Nodup by decide +kernel)) (aR (bx 1 (show (["plot","weight"]:Tl).Nodup by decide +kernel)) dF))),jg,(ae 0)⟩))) ao)))
  (aj (aN 4 aA.nd (aW cB (hr.mono (by decide)) (ag (b6 (FW rfl rfl (z 6 _ rfl) rfl (z 7 _ rfl) (ae 2) (ae 1))) ao)))
  (aj (aN 5 aA.nd (HQ [] ["weight"] [] rfl rfl (z 4 _ rfl) (show aK (ak aZ) _ ["weight"] [] from ⟨rfl,by decide +kernel,by decide +kernel,by decide +kernel,by decide +kernel,by decide +kernel⟩) (Bu (ae 4)) (fun cl C s₂ H₂ fp=>⟨(bx 0 (show (["weight"]:Tl).Nodup by decide +kernel)),jg,(ae 0)⟩)))
  (aj (aN 6 aA.nd (ae 4))
  (aj (d9 rfl (cV (pw rfl rfl (z 3 _ rfl) (ag (ae 3) ao))) (bx 7 aA.nd)
  (aj (d9 rfl (cV (me hr.units (ae 3) (ae 7))) (jN rfl (aR (bx 8 aA.nd) (aR (bx 9 aA.nd) dF)))
  (aJ (pi (b6 (ae 9)) (LB hr.units (ae 2) (ae 8)))) PassesOwn.never)
  (aj (aN 10 aA.nd (aW cB (hr.mono (by decide)) (ag (b6 (FW rfl rfl (z 6 _ rfl) rfl (z 7 _ rfl) (ae 2) (ae 1))) ao)))
  (aj (d9 rfl (Bu (ae 10)) (bx 11 aA.nd)
  (aJ (eS (i4 (uJ (ae 5) (ae 11) (fA ao)) (ag (cU (ag (ae 7) (ag (me hr.units (ae 10) (ae 11)) ao))) ao)))) PassesOwn.never)
  (aj (d9 rfl (Bu (ae 6)) (bx 11 aA.nd)
  (aJ (fN (zt hr.units (ae 11) (ae 10))
  (aJ (eS (i4 (me hr.units (ae 5) (ae 11)) (ag (cU (ag (ae 7) (ag (jv c_NO_NUMBERS) ao))) ao))))
  cT)) PassesOwn.never)
  (aJ (aN 6 aA.nd (ae 10))))))) PassesOwn.never)
  (aJ (bz (Au rfl rfl (z 4 _ rfl) (ag (gT [4,5] ["weight"] ["grounds","pairs"] rfl (show aK (ak aZ) _ ["weight"] ["grounds","pairs"] from ⟨rfl,by decide +kernel,by decide +kernel,by decide +kernel,by decide +kernel,by decide +kernel⟩) (Bu (ae 5)) (fun cl C s₂ H₂ fp=>⟨(bx 0 (show (["weight","grounds","pairs"]:Tl).Nodup by decide +kernel)),jg,(cU (ag (ae 0) (ag (aW lO (hr.mono (by decide)) (ag (b6 (uK hr.units (ae 1) (ae 0) (jv c_NO_NUMBERS))) (ag (b6 (me hr.units (ae 2) (ae 0))) ao))) ao)))⟩)) ao)))))))))))
theorem sS (z:Zs mg)(d:cZ K mg "all_spots" fU ["plots"])(eC:bR P w K mg base 3 "plots_by_weight" ["weighted"] (b8 (!HS.bt w)))(c_NO_SPOTS:jp K mg "NO_SPOTS" (.tup [(.tup [(.bl false),(.tup [])]),(.tup [])])):bR P w K mg base 4 "all_spots" ["plots"] (ca (!HS.bt w)) :=
 okP (k:=3) d qp fun f cdv A outer s H E hr =>
  (aj (fN (CJ hr.units (iM rfl (z 1 _ rfl) (ag (ae 0) ao)) ah)
  (aJ (bz (bM (ae 0) ah)))
  cT)
  (aJ (bz (uK hr.units (aW eC (hr.mono (by decide)) (ag (b6 (gT [] ["plot"] [] rfl (show aK (ak fU) _ ["plot"] [] from ⟨rfl,by decide +kernel,by decide +kernel,by decide +kernel,by decide +kernel,by decide +kernel⟩) (cV (ae 0)) (fun cl C s₂ H₂ fp=>⟨(bx 0 (show (["plot"]:Tl).Nodup by decide +kernel)),jg,(cU (ag (ae 0) (ag ah ao)))⟩))) ao)) ah (jv c_NO_SPOTS)))))
theorem u4 (z:Zs mg)(d:cZ K mg "table_of" fq ["pairs"])(jd:bR P w K mg base 4 "all_spots" ["plots"] (ca (!HS.bt w)))(c_NO_SPOTS:jp K mg "NO_SPOTS" (.tup [(.tup [(.bl false),(.tup [])]),(.tup [])])):jV P w K mg base 5 "table_of" ["pairs"] (aC (!HS.bt w)) :=
 okN (k:=4) d fu fun f cdv A outer s H E hr =>
  (aj (aN 1 fu.nd K7)
  (aj (d9 rfl (cV (ae 0)) (jN rfl (aR (bx 2 fu.nd) (aR (bx 3 fu.nd) dF)))
  (aJ (eS (i4 (HJ hr.units (ae 1) (ae 2) (fA ao)) (ag (ae 3) ao)))) PassesOwn.never)
  (aj (iX 4 [1] ["row"] ["plots"] rfl (show aK (ak fq) _ ["row"] ["plots"] from ⟨rfl,by decide +kernel,by decide +kernel,by decide +kernel,by decide +kernel,by decide +kernel⟩) fu.nd (cV (xO rfl rfl (z 3 _ rfl) (ag (ae 1) ao))) (fun cl C s₂ H₂ fp=>⟨(bx 0 (show (["row","plots"]:Tl).Nodup by decide +kernel)),jg,(cU (ag (ae 0) (ag (aW jd (hr.mono (by decide)) (ag (b6 (K1 hr.units (ae 1) (ae 0))) ao)) ao)))⟩))
  (aJ (bz (gT [] ["entry"] [] rfl (show aK (ak fq) _ ["entry"] [] from ⟨rfl,by decide +kernel,by decide +kernel,by decide +kernel,by decide +kernel,by decide +kernel⟩) (cV (ae 4)) (fun cl C s₂ H₂ fp=>⟨(bx 0 (show (["entry"]:Tl).Nodup by decide +kernel)),(w6 (mD hr.units (bM (ae 0) ah) (jv c_NO_SPOTS))),(ae 0)⟩)))))))
theorem va (z:Zs mg)(d:cZ K mg "_law_cell" iU ["script","k"])  : bR P w K mg base 1 "_law_cell" ["script","k"] cL :=
 okP (k:=0) d sf fun f cdv A outer s H E hr =>
  (aj (fN (N6 (ae 1) (iM rfl (z 1 _ rfl) (ag (ae 0) ao)))
  (aJ (bz (bM (ae 0) (ae 1))))
  cT)
  (aJ (bz ah)))
theorem u5 (z:Zs mg)(d:cZ K mg "_law_stir" iQ ["cell","k"])  : bR P w K mg base 1 "_law_stir" ["cell","k"] br :=
 okP (k:=0) d iW fun f cdv A outer s H E hr =>
  (aj (aN 2 iW.nd (cC (l9 (dU (cC (ae 0) ah) ah) ah) ah))
  (aj (aN 2 iW.nd (cC (dU (dU (l9 (ae 2) (ae 2)) (l9 (ae 1) ah)) ah) ah))
  (aJ (bz (cC (l9 (ae 2) (ae 2)) ah)))))
theorem sR (z:Zs mg)(d:cZ K mg "_law_reach" iu ["number","scale"])  : bR P w K mg base 1 "_law_reach" ["number","scale"] df :=
 okP (k:=0) d cI fun f cdv A outer s H E hr =>
  (aj (aN 2 cI.nd (fA ao))
  (aj (aN 3 cI.nd (l8 (cC (ae 0) ah) ah))
  (aj (aN 4 cI.nd (eh (ae 0) ah))
  (aj (d9 rfl (D4 rfl (z 8 _ rfl) (dU (cC (eh (ae 0) ah) ah) (cC (ae 4) ah))) (bx 5 cI.nd)
  (aj (aN 3 cI.nd (dU (dU (ae 3) ah) (cC (eh (ae 4) ah) ah)))
  (aj (eS (i4 (ae 2) (ag (l9 (ae 3) (ae 1)) ao)))
  (aJ (aN 4 cI.nd (eh (ae 4) ah))))) PassesOwn.never)
  (aJ (bz (cU (ag (Od (cC (ae 4) ah) ah) (ag (mW rfl (z 0 _ rfl) (ag (ae 2) ao)) ao)))))))))
theorem u7 (z:Zs mg)(d:cZ K mg "_law_plot" iS ["cell","k","scale"])(bU:bR P w K mg base 1 "_law_stir" ["cell","k"] br)(gO:bR P w K mg base 1 "_law_reach" ["number","scale"] df):bR P w K mg base 2 "_law_plot" ["cell","k","scale"] ck :=
 okP (k:=1) d bB fun f cdv A outer s H E hr =>
  (aj (aN 3 bB.nd (aW bU (hr.mono (by decide)) (ag (b6 (ae 0)) (ag (b6 (ae 1)) ao))))
  (aj (aN 4 bB.nd (cU (ag jI (ag (cU ao) ao))))
  (aj (fN (CJ hr.units (cC (ae 3) ah) ah)
  (aJ (aN 4 bB.nd (aW gO (hr.mono (by decide)) (ag (b6 (eh (ae 3) ah)) (ag (b6 (ae 2)) ao)))))
  cT)
  (aj (aN 5 bB.nd (ae 4))
  (aj (aN 6 bB.nd (l8 (cC (eh (ae 3) ah) ah) ah))
  (aj (aN 7 bB.nd (fA ao))
  (aj (d9 rfl (D4 rfl (z 8 _ rfl) (cC (eh (ae 3) ah) ah)) (bx 8 bB.nd)
  (aj (aN 9 bB.nd (aW gO (hr.mono (by decide)) (ag (b6 (aW bU (hr.mono (by decide)) (ag (b6 (ae 0)) (ag (b6 (dU (dU (ae 1) ah) (ae 8))) ao)))) (ag (b6 (ae 2)) ao))))
  (aj (fN (mD hr.units (ae 9) (ae 5))
  (aj (eS (i4 (ae 7) (ag (cU (ag (l9 (ae 6) (bM (fA (ag ah (ag (Aq ah ah) ao))) (cC (eh (ae 3) ah) ah))) (ag (ae 9) ao))) ao)))
  (aJ (aN 5 bB.nd (ae 9))))
  cT)
  (aJ (aN 6 bB.nd (dU (dU (ae 6) ah) (cC (eh (aW bU (hr.mono (by decide)) (ag (b6 (ae 0)) (ag (b6 (dU (ae 1) ah)) ao))) ah) ah)))))) PassesOwn.never)
  (aJ (bz (cU (ag (ae 4) (ag (mW rfl (z 0 _ rfl) (ag (ae 7) ao)) ao))))))))))))
theorem ye (z:Zs mg)(d:cZ K mg "_law_row" j5 ["cell","k","width"])(bU:bR P w K mg base 1 "_law_stir" ["cell","k"] br):bR P w K mg base 2 "_law_row" ["cell","k","width"] c6 :=
 okP (k:=1) d gf fun f cdv A outer s H E hr =>
  (aj (aN 3 gf.nd (aW bU (hr.mono (by decide)) (ag (b6 (ae 0)) (ag (b6 (dU (ae 1) ah)) ao))))
  (aj (aN 4 gf.nd (fA ao))
  (aj (d9 rfl (D4 rfl (z 8 _ rfl) (ae 2)) (bx 5 gf.nd)
  (aj (eS (i4 (ae 4) (ag (bM (fA (ag ah (ag ah (ag ah (ag (pA ah) (ag ah (ag (cC (ae 0) (Aq ah ah)) ao))))))) (cC (ae 3) ah)) ao)))
  (aJ (aN 3 gf.nd (eh (ae 3) ah)))) PassesOwn.never)
  (aJ (bz (HL rfl (z 0 _ rfl) (ag (ae 4) ao)))))))
theorem u9 (z:Zs mg)(d:cZ K mg "_law_lies" iT ["plot","day","turn"])  : bR P w K mg base 1 "_law_lies" ["plot","day","turn"] cK :=
 okP (k:=0) d bZ fun f cdv A outer s H E hr =>
  (aj (pi (bM (ae 0) ah) (jN rfl (aR (bx 3 bZ.nd) (aR (bx 4 bZ.nd) dF))))
  (aj (d9 rfl (cV (bM (ae 0) ah)) (jN rfl (aR (bx 5 bZ.nd) (aR (bx 6 bZ.nd) dF)))
  (aJ (fN (GQ (ae 5) (ae 2))
  (aJ (pi (ae 6) (jN rfl (aR (bx 3 bZ.nd) (aR (bx 4 bZ.nd) dF)))))
  cT)) PassesOwn.never)
  (aj (d9 rfl (cV (ae 4)) (bx 7 bZ.nd)
  (aJ (fN (GQ (ae 7) (ae 1))
  (aJ (aN 3 bZ.nd (FX (ae 3))))
  cT)) PassesOwn.never)
  (aJ (bz (ae 3))))))
theorem sP (z:Zs mg)(d:cZ K mg "_law_whole" iq ["thing"])  : bR P w K mg base 1 "_law_whole" ["thing"] de :=
 okP (k:=0) d qo fun f cdv A outer s H E hr =>
  (aJ (bz (ww (iZ xZ rfl (z 9 _ rfl) rfl (z 11 _ rfl) yv (ae 0)) (Ar (FX (iZ nQ rfl (z 9 _ rfl) rfl (z 10 _ rfl) ot (ae 0)))))))
theorem sQ (z:Zs mg)(d:cZ K mg "_law_rises" ir ["some"])(dX:bR P w K mg base 1 "_law_whole" ["thing"] de):bR P w K mg base 2 "_law_rises" ["some"] b9 :=
 okP (k:=1) d kU fun f cdv A outer s H E hr =>
  (aj (d9 rfl (D4 rfl (z 8 _ rfl) (iM rfl (z 1 _ rfl) (ag (ae 0) ao))) (bx 1 kU.nd)
  (aJ (fN (yz (jX (gH (fm (aW dX (hr.mono (by decide)) (ag (b6 (bM (ae 0) (ae 1))) ao)))) (jQ (yz (EX (CI (ae 1) ah) (yJ (GQ (bM (ae 0) (ae 1)) (bM (ae 0) (l8 (ae 1) ah)))))))))
  (aJ (bz jI))
  cT)) PassesOwn.never)
  (aJ (bz jI)))
theorem nU (z:Zs mg)(d:cZ K mg "_law_is_reach" fJ ["thing"])(dY:bR P w K mg base 2 "_law_rises" ["some"] b9):bR P w K mg base 3 "_law_is_reach" ["thing"] cD :=
 okP (k:=2) d mE fun f cdv A outer s H E hr =>
  (aj (fN (yz (jX (gH (fm (iZ dg rfl (z 9 _ rfl) rfl (z 0 _ rfl) dj (ae 0)))) (jX (mD hr.units (iM rfl (z 1 _ rfl) (ag (ae 0) ao)) ah) (jQ (gH (fm (iZ nQ rfl (z 9 _ rfl) rfl (z 10 _ rfl) ot (bM (ae 0) ah))))))))
  (aJ (bz jI))
  cT)
  (aJ (bz (ww (iZ dg rfl (z 9 _ rfl) rfl (z 0 _ rfl) dj (bM (ae 0) ah)) (Ar (aW dY (hr.mono (by decide)) (ag (b6 (bM (ae 0) ah)) ao)))))))
theorem oQ (z:Zs mg)(d:cZ K mg "_law_is_plot" d7 ["thing"])(dY:bR P w K mg base 2 "_law_rises" ["some"] b9)(eD:bR P w K mg base 3 "_law_is_reach" ["thing"] cD):bR P w K mg base 4 "_law_is_plot" ["thing"] dL :=
 okP (k:=3) d d8 fun f cdv A outer s H E hr =>
  (aj (fN (yz (jX (gH (fm (iZ dg rfl (z 9 _ rfl) rfl (z 0 _ rfl) dj (ae 0)))) (jX (mD hr.units (iM rfl (z 1 _ rfl) (ag (ae 0) ao)) ah) (jQ (gH (fm (aW eD (hr.mono (by decide)) (ag (b6 (bM (ae 0) ah)) ao))))))))
  (aJ (bz jI))
  cT)
  (aj (fN (gH (fm (iZ dg rfl (z 9 _ rfl) rfl (z 0 _ rfl) dj (bM (ae 0) ah))))
  (aJ (bz jI))
  cT)
  (aj (aN 1 d8.nd (bM (ae 0) ah))
  (aj (d9 rfl (cV (bM (ae 0) ah)) (bx 2 d8.nd)
  (aj (fN (yz (jX (gH (fm (iZ dg rfl (z 9 _ rfl) rfl (z 0 _ rfl) dj (ae 2)))) (jX (mD hr.units (iM rfl (z 1 _ rfl) (ag (ae 2) ao)) ah) (jX (gH (fm (aW eD (hr.mono (by decide)) (ag (b6 (bM (ae 2) ah)) ao)))) (jQ (CJ hr.units (bM (ae 2) ah) (ae 1)))))))
  (aJ (bz jI))
  cT)
  (aJ (aN 1 d8.nd (bM (ae 2) ah)))) PassesOwn.never)
  (aJ (bz (aW dY (hr.mono (by decide)) (ag (b6 (gT [] ["step"] [] rfl (show aK (ak d7) _ ["step"] [] from ⟨rfl,by decide +kernel,by decide +kernel,by decide +kernel,by decide +kernel,by decide +kernel⟩) (cV (bM (ae 0) ah)) (fun cl C s₂ H₂ fp=>⟨(bx 0 (show (["step"]:Tl).Nodup by decide +kernel)),jg,(bM (ae 0) ah)⟩))) ao))))))))
theorem nR (z:Zs mg)(d:cZ K mg "_law_is_table" cS ["thing","width"])(gZ:bR P w K mg base 4 "_law_is_plot" ["thing"] dL)(dX:bR P w K mg base 1 "_law_whole" ["thing"] de):bR P w K mg base 5 "_law_is_table" ["thing","width"] (bS (!HS.bt w)) :=
 okP (k:=4) d fL fun f cdv A outer s H E hr =>
  (aj (fN (gH (fm (iZ u3 rfl (z 9 _ rfl) rfl (z 6 _ rfl) vP (ae 0))))
  (aJ (bz jI))
  cT)
  (aj (d9 rfl (cV (ae 0)) (bx 2 fL.nd)
  (aj (fN (yz (jX (gH (fm (iZ dg rfl (z 9 _ rfl) rfl (z 0 _ rfl) dj (ae 2)))) (jX (mD hr.units (iM rfl (z 1 _ rfl) (ag (ae 2) ao)) ah) (jQ (gH (fm (iZ dg rfl (z 9 _ rfl) rfl (z 0 _ rfl) dj (bM (ae 2) ah))))))))
  (aJ (bz jI))
  cT)
  (aj (fN (yz (jX (mD hr.units (iM rfl (z 1 _ rfl) (ag (bM (ae 2) ah) ao)) (ae 1)) (jQ (gH (fm (K8 rfl rfl (z 12 _ rfl) (ag (gT [] ["one"] [] rfl (show aK (ak cS) _ ["one"] [] from ⟨rfl,by decide +kernel,by decide +kernel,by decide +kernel,by decide +kernel,by decide +kernel⟩) (cV (bM (ae 2) ah)) (fun cl C s₂ H₂ fp=>⟨(bx 0 (show (["one"]:Tl).Nodup by decide +kernel)),jg,(aW dX (hr.mono (by decide)) (ag (b6 (ae 0)) ao))⟩)) ao)))))))
  (aJ (bz jI))
  cT)
  (aJ (fN (yz (jX (gH (fm (aW gZ (hr.mono (by decide)) (ag (b6 (bM (ae 2) ah)) ao)))) (jQ (CJ hr.units (bM (ae 2) ah) (cU (ag (cU (ag jI (ag (cU ao) ao))) (ag (cU ao) ao)))))))
  (aJ (bz jI))
  cT)))) PassesOwn.never)
  (aj (iX 3 [] ["entry"] [] rfl (show aK (ak cS) _ ["entry"] [] from ⟨rfl,by decide +kernel,by decide +kernel,by decide +kernel,by decide +kernel,by decide +kernel⟩) fL.nd (cV (ae 0)) (fun cl C s₂ H₂ fp=>⟨(bx 0 (show (["entry"]:Tl).Nodup by decide +kernel)),jg,(bM (ae 0) ah)⟩))
  (aJ (bz (K5 hr.units (ae 3) (FZ rfl hr.units rfl (z 3 _ rfl) rfl (z 13 _ rfl) (ae 3))))))))
theorem u6 (z:Zs mg)(d:cZ K mg "_law_spot" iR ["cell","k","table","scale"])(bU:bR P w K mg base 1 "_law_stir" ["cell","k"] br):bR P w K mg base 2 "_law_spot" ["cell","k","table","scale"] eX :=
 okP (k:=1) d bN fun f cdv A outer s H E hr =>
  (aj (aN 4 bN.nd (aW bU (hr.mono (by decide)) (ag (b6 (ae 0)) (ag (b6 (dU (ae 1) ah)) ao))))
  (aj (aN 5 bN.nd (l8 (cC (ae 4) ah) ah))
  (aj (aN 6 bN.nd (l8 (l9 (l8 (cC (eh (ae 4) ah) ah) ah) (ae 3)) (cC (eh (ae 4) ah) ah)))
  (aj (fN (yz (EX (mD hr.units (ae 2) (fA ao)) (yJ (CI (cC (eh (ae 4) ah) ah) ah))))
  (aj (aN 7 bN.nd (bM (bM (ae 2) (cC (eh (ae 4) ah) (iM rfl (z 1 _ rfl) (ag (ae 2) ao)))) ah))
  (aj (aN 8 bN.nd (bM (ae 7) ah))
  (aj (fN (mD hr.units (bM (ae 7) ah) (cU ao))
  (aj (pi (bM (bM (ae 7) ah) (cC (eh (ae 4) ah) (iM rfl (z 1 _ rfl) (ag (bM (ae 7) ah) ao)))) (jN rfl (aR (bx 5 bN.nd) (aR (bx 8 bN.nd) dF))))
  (aJ (aN 5 bN.nd (l8 (ae 5) (cC (eh (ae 4) ah) ah)))))
  cT)
  (aJ (fN (mD hr.units (bM (ae 8) ah) (cU ao))
  (aJ (aN 6 bN.nd (l8 (bM (bM (ae 8) ah) (cC (eh (ae 4) ah) (iM rfl (z 1 _ rfl) (ag (bM (ae 8) ah) ao)))) (cC (eh (ae 4) ah) ah))))
  cT)))))
  cT)
  (aJ (bz (cU (ag (ae 6) (ag (ae 5) ao)))))))))
theorem Bi (z:Zs mg)(d:cZ K mg "_law_at" jr ["pairs","day","turn"])(kh:bR P w K mg base 1 "_law_lies" ["plot","day","turn"] cK):jV P w K mg base 2 "_law_at" ["pairs","day","turn"] (gp (!HS.bt w)) :=
 okN (k:=1) d xH fun f cdv A outer s H E hr =>
  (aJ (bz (FZ rfl hr.units rfl (z 3 _ rfl) rfl (z 13 _ rfl) (gT [1,2] ["row","plot"] ["day","turn"] rfl (show aK (ak jr) _ ["row","plot"] ["day","turn"] from ⟨rfl,by decide +kernel,by decide +kernel,by decide +kernel,by decide +kernel,by decide +kernel⟩) (cV (ae 0)) (fun cl C s₂ H₂ fp=>⟨(jN rfl (aR (bx 0 (show (["row","plot","day","turn"]:Tl).Nodup by decide +kernel)) (aR (bx 1 (show (["row","plot","day","turn"]:Tl).Nodup by decide +kernel)) dF))),(w6 (fm (aW kh (hr.mono (by decide)) (ag (b6 (ae 1)) (ag (b6 (ae 2)) (ag (b6 (ae 3)) ao)))))),(ae 0)⟩)))))
theorem Lu {f:Addr}{fd:FuncData}(z:Zs mg)(F:rB K "law" "law" qi f fd)(dh:jV P w K mg base 5 "table_of" ["pairs"] (aC (!HS.bt w)))(iB:bR P w K mg base 1 "_law_cell" ["script","k"] cL)(kf:bR P w K mg base 2 "_law_spot" ["cell","k","table","scale"] eX)(lP:bR P w K mg base 2 "_law_row" ["cell","k","width"] c6)(kg:bR P w K mg base 2 "_law_plot" ["cell","k","scale"] ck)(gw:bR P w K mg base 5 "_law_is_table" ["thing","width"] (bS (!HS.bt w)))(lw:jV P w K mg base 2 "_law_at" ["pairs","day","turn"] (gp (!HS.bt w))):dk P w K mg base mB 6 f fd ["script"] (yA K 1 (sM (!HS.bt w))) :=
 Jh (k:=5) F fM fun cdv A outer s H E hr =>
  (aj (aN 1 fM.nd (cC (aW iB (hr.mono (by decide)) (ag (b6 (ae 0)) (ag ah ao))) ah))
  (aj (aN 2 fM.nd (bM (fA (ag ah (ag ah (ag (Aq ah ah) ao)))) (cC (eh (aW iB (hr.mono (by decide)) (ag (b6 (ae 0)) (ag ah ao))) ah) ah)))
  (aj (iX 3 [1,2] ["cell"] ["width","scale"] rfl (show aK (ak qi) _ ["cell"] ["width","scale"] from ⟨rfl,by decide +kernel,by decide +kernel,by decide +kernel,by decide +kernel,by decide +kernel⟩) fM.nd (cV (Oc (ae 0) (As ah) (As ah))) (fun cl C s₂ H₂ fp=>⟨(bx 0 (show (["cell","width","scale"]:Tl).Nodup by decide +kernel)),jg,(cU (ag (aW lP (hr.mono (by decide)) (ag (b6 (ae 0)) (ag ah (ag (b6 (ae 1)) ao)))) (ag (aW kg (hr.mono (by decide)) (ag (b6 (ae 0)) (ag ah (ag (b6 (ae 2)) ao)))) ao)))⟩))
  (aj (aN 4 fM.nd (qv rfl (z 6 _ rfl) (ag (ae 3) ao)))
  (aj (aN 5 fM.nd (fe dh (hr.mono (by decide)) (ag (ae 4) ao)))
  (aj (fN (yz (jX (o8 hr.units (ae 4) (ae 3)) (jQ (gH (fm (qw (wQ gw) (hr.mono (by decide)) (ag (ae 5) (ag (ae 1) ao))))))))
  (aJ (bz jI))
  cT)
  (aj (d9 rfl (cV (Av (fA (ag ah ao)) (ae 0))) (bx 6 fM.nd)
  (aj (pi (aW (wQ kf) (hr.mono (by decide)) (ag (b6 (ae 6)) (ag ah (ag (b6 (ae 3)) (ag (b6 (ae 2)) ao))))) (jN rfl (aR (bx 7 fM.nd) (aR (bx 8 fM.nd) dF))))
  (aJ (fN (o8 hr.units (fe (sO lw) (hr.mono (by decide)) (ag (ae 5) (ag (ae 7) (ag (ae 8) ao)))) (fe (sO lw) (hr.mono (by decide)) (ag (ae 3) (ag (ae 7) (ag (ae 8) ao)))))
  (aJ (bz jI))
  cT))) PassesOwn.never)
  (aj (fN (yz (jX (o8 hr.units (fe dh (hr.mono (by decide)) (ag (Av (qu (qv rfl (z 6 _ rfl) (ag (ae 5) ao)) K3 K3) (ae 3)) ao)) (ae 5)) (jQ (o8 hr.units (fe dh (hr.mono (by decide)) (ag (ae 5) ao)) (ae 5)))))
  (aJ (bz jI))
  cT)
  (aj (aN 9 fM.nd (qv rfl (z 6 _ rfl) (ag (ae 5) ao)))
  (aj (aN 10 fM.nd (qv rfl (z 6 _ rfl) (ag (ae 5) ao)))
  (aj (aN 11 fM.nd (fe dh (hr.mono (by decide)) (ag (ae 10) ao)))
  (aj (eS (wv (ae 4)))
  (aj (eS (wv (ae 10)))
  (aj (fN (yz (jX (o8 hr.units (ae 5) (ae 9)) (jQ (o8 hr.units (ae 11) (ae 9)))))
  (aJ (bz jI))
  cT)
  (aj (eS (i4 (ae 5) (ag (b6 (ae 3)) ao)))
  (aJ (bz (ww (At hr.units (ae 4) (fA ao)) (ww (At hr.units (fe dh (hr.mono (by decide)) (ag (ae 3) ao)) (ae 9)) (Ar (At hr.units (fe dh (hr.mono (by decide)) (ag (fA ao) ao)) (fA ao))))))))))))))))))))))
end
set_option maxHeartbeats 4000000 in
theorem JC {l:PySem.W.OpenLaw}{w:World}{K:zac}{h:Heap}{mg:Td}{fa:Addr}(X:K.In h)(G:h.Ns mainGlobals mg)(hfa:mg "law" = some (.ref fa))
  (a0:FK K "plot_of" jZ)
  (a1:FK K "changes_by_edge" dS)
  (a2:FK K "reaches_by_weight" bA)
  (a3:FK K "steps_by_turn" eQ)
  (a4:FK K "plots_by_weight" aZ)
  (a5:FK K "all_spots" fU)
  (a6:FK K "table_of" fq)
  (a7:FK K "_law_cell" iU)
  (a8:FK K "_law_stir" iQ)
  (a9:FK K "_law_reach" iu)
  (a10:FK K "_law_plot" iS)
  (a11:FK K "_law_row" j5)
  (a12:FK K "_law_lies" iT)
  (a13:FK K "_law_whole" iq)
  (a14:FK K "_law_rises" ir)
  (a15:FK K "_law_is_reach" fJ)
  (a16:FK K "_law_is_plot" d7)
  (a17:FK K "_law_is_table" cS)
  (a18:FK K "_law_spot" iR)
  (a19:FK K "_law_at" jr)
  (a20:FK K "law" qi)
  {qNO_NUMBERS:Addr} {qnNO_NUMBERS:Nat} {qsNO_NUMBERS:Array (Tg)} {qNO_NUMBERS_1:Addr} {qnNO_NUMBERS_1:Nat} {qsNO_NUMBERS_1:Array (Tg)} {qNO_SPOTS:Addr} {qnNO_SPOTS:Nat} {qsNO_SPOTS:Array (Tg)} {qNO_SPOTS_1:Addr} {qnNO_SPOTS_1:Nat} {qsNO_SPOTS_1:Array (Tg)} {qNO_SPOTS_0:Addr} {qnNO_SPOTS_0:Nat} {qsNO_SPOTS_0:Array (Tg)} {qNO_SPOTS_0_1:Addr} {qnNO_SPOTS_0_1:Nat} {qsNO_SPOTS_0_1:Array (Tg)} (gNO_NUMBERS:PySem.W.nsIn K mainGlobals "NO_NUMBERS" = some (some (.ref qNO_NUMBERS))) (LNO_NUMBERS:K.lookup qNO_NUMBERS=some ⟨.type "tuple",none,.seq ([(.bool false),(.ref qNO_NUMBERS_1)]:Te).toArray qnNO_NUMBERS,qsNO_NUMBERS⟩) (LNO_NUMBERS_1:K.lookup qNO_NUMBERS_1=some ⟨.type "tuple",none,.seq ([]:Te).toArray qnNO_NUMBERS_1,qsNO_NUMBERS_1⟩) (gNO_SPOTS:PySem.W.nsIn K mainGlobals "NO_SPOTS" = some (some (.ref qNO_SPOTS))) (LNO_SPOTS:K.lookup qNO_SPOTS=some ⟨.type "tuple",none,.seq ([(.ref qNO_SPOTS_0),(.ref qNO_SPOTS_1)]:Te).toArray qnNO_SPOTS,qsNO_SPOTS⟩) (LNO_SPOTS_1:K.lookup qNO_SPOTS_1=some ⟨.type "tuple",none,.seq ([]:Te).toArray qnNO_SPOTS_1,qsNO_SPOTS_1⟩) (LNO_SPOTS_0:K.lookup qNO_SPOTS_0=some ⟨.type "tuple",none,.seq ([(.bool false),(.ref qNO_SPOTS_0_1)]:Te).toArray qnNO_SPOTS_0,qsNO_SPOTS_0⟩) (LNO_SPOTS_0_1:K.lookup qNO_SPOTS_0_1=some ⟨.type "tuple",none,.seq ([]:Te).toArray qnNO_SPOTS_0_1,qsNO_SPOTS_0_1⟩) (z0:PySem.W.nsIn K mainGlobals "tuple" = some none) (z1:PySem.W.nsIn K mainGlobals "len" = some none) (z2:PySem.W.nsIn K mainGlobals "sum" = some none) (z3:PySem.W.nsIn K mainGlobals "sorted" = some none) (z4:PySem.W.nsIn K mainGlobals "dict" = some none) (z5:PySem.W.nsIn K mainGlobals "enumerate" = some none) (z6:PySem.W.nsIn K mainGlobals "list" = some none) (z7:PySem.W.nsIn K mainGlobals "zip" = some none) (z8:PySem.W.nsIn K mainGlobals "range" = some none) (z9:PySem.W.nsIn K mainGlobals "isinstance" = some none) (z10:PySem.W.nsIn K mainGlobals "bool" = some none) (z11:PySem.W.nsIn K mainGlobals "int" = some none) (z12:PySem.W.nsIn K mainGlobals "all" = some none) (z13:PySem.W.nsIn K mainGlobals "set" = some none) :
  ∃fd:FuncData,(∀(s:Shared) (v:Value),BindsTo s fd ⟨[v],[]⟩ [("script",v)])/\∀base:Heap,K.In base->base.Ns mainGlobals mg->dk l.prog w K mg base mB 6 fa fd ["script"] (fun vs H Q E=>∀b,yA K 1 (sM b) vs H Q E):=by
 have z:Zs mg:=(c8 (za0 X G z0) (c8 (za0 X G z1) (c8 (za0 X G z2) (c8 (za0 X G z3) (c8 (za0 X G z4) (c8 (za0 X G z5) (c8 (za0 X G z6) (c8 (za0 X G z7) (c8 (za0 X G z8) (c8 (za0 X G z9) (c8 (za0 X G z10) (c8 (za0 X G z11) (c8 (za0 X G z12) (c8 (za0 X G z13) GC))))))))))))));have c_NO_NUMBERS:jp K mg "NO_NUMBERS" (.tup [(.bl false),(.tup [])]):=tR (zc6 X G gNO_NUMBERS) (lS LNO_NUMBERS (show 2<=sizeLine by decide) (ig Gq (ig (lS LNO_NUMBERS_1 (show 0<=sizeLine by decide) jC) jC)));have c_NO_SPOTS:jp K mg "NO_SPOTS" (.tup [(.tup [(.bl false),(.tup [])]),(.tup [])]):=tR (zc6 X G gNO_SPOTS) (lS LNO_SPOTS (show 2<=sizeLine by decide) (ig (lS LNO_SPOTS_0 (show 2<=sizeLine by decide) (ig Gq (ig (lS LNO_SPOTS_0_1 (show 0<=sizeLine by decide) jC) jC))) (ig (lS LNO_SPOTS_1 (show 0<=sizeLine by decide) jC) jC)));have d_plot_of:=a0.at_ (ps:=["ground","pairs"]) X G (fun _ _ _ _ _ _=>JK fun _ _=>rfl);have d_changes_by_edge:=a1.at_ (ps:=["weighted"]) X G (fun _ _ _ _ _ _=>yy fun _=>rfl);have d_reaches_by_weight:=a2.at_ (ps:=["weighted"]) X G (fun _ _ _ _ _ _=>yy fun _=>rfl);have d_steps_by_turn:=a3.at_ (ps:=["plots"]) X G (fun _ _ _ _ _ _=>yy fun _=>rfl);have d_plots_by_weight:=a4.at_ (ps:=["weighted"]) X G (fun _ _ _ _ _ _=>yy fun _=>rfl);have d_all_spots:=a5.at_ (ps:=["plots"]) X G (fun _ _ _ _ _ _=>yy fun _=>rfl);have d_table_of:=a6.at_ (ps:=["pairs"]) X G (fun _ _ _ _ _ _=>yy fun _=>rfl);have d_law_cell:=a7.at_ (ps:=["script","k"]) X G (fun _ _ _ _ _ _=>JK fun _ _=>rfl);have d_law_stir:=a8.at_ (ps:=["cell","k"]) X G (fun _ _ _ _ _ _=>JK fun _ _=>rfl);have d_law_reach:=a9.at_ (ps:=["number","scale"]) X G (fun _ _ _ _ _ _=>JK fun _ _=>rfl);have d_law_plot:=a10.at_ (ps:=["cell","k","scale"]) X G (fun _ _ _ _ _ _=>JW fun _ _ _=>rfl);have d_law_row:=a11.at_ (ps:=["cell","k","width"]) X G (fun _ _ _ _ _ _=>JW fun _ _ _=>rfl);have d_law_lies:=a12.at_ (ps:=["plot","day","turn"]) X G (fun _ _ _ _ _ _=>JW fun _ _ _=>rfl);have d_law_whole:=a13.at_ (ps:=["thing"]) X G (fun _ _ _ _ _ _=>yy fun _=>rfl);have d_law_rises:=a14.at_ (ps:=["some"]) X G (fun _ _ _ _ _ _=>yy fun _=>rfl);have d_law_is_reach:=a15.at_ (ps:=["thing"]) X G (fun _ _ _ _ _ _=>yy fun _=>rfl);have d_law_is_plot:=a16.at_ (ps:=["thing"]) X G (fun _ _ _ _ _ _=>yy fun _=>rfl);have d_law_is_table:=a17.at_ (ps:=["thing","width"]) X G (fun _ _ _ _ _ _=>JK fun _ _=>rfl);have d_law_spot:=a18.at_ (ps:=["cell","k","table","scale"]) X G (fun _ _ _ _ _ _=>RB fun _ _ _ _=>rfl);have d_law_at:=a19.at_ (ps:=["pairs","day","turn"]) X G (fun _ _ _ _ _ _=>JW fun _ _ _=>rfl);obtain ⟨fdL,FL,bL⟩:=a20.law (ps:=["script"]) X G hfa (fun _ _ _ _ _ _=>yy fun _=>rfl);refine ⟨fdL,fun s v=>bL s [v] rfl,fun base _ _=>?_⟩;have lO:=yd (P:=l.prog) (w:=w) (base:=base) z d_plot_of;have eE:=lq (P:=l.prog) (w:=w) (base:=base) z d_changes_by_edge;have fP:=mJ (P:=l.prog) (w:=w) (base:=base) z d_steps_by_turn;have iB:=va (P:=l.prog) (w:=w) (base:=base) z d_law_cell;have bU:=u5 (P:=l.prog) (w:=w) (base:=base) z d_law_stir;have gO:=sR (P:=l.prog) (w:=w) (base:=base) z d_law_reach;have kh:=u9 (P:=l.prog) (w:=w) (base:=base) z d_law_lies;have dX:=sP (P:=l.prog) (w:=w) (base:=base) z d_law_whole;have cB:=jL (P:=l.prog) (w:=w) (base:=base) z d_reaches_by_weight eE;have kg:=u7 (P:=l.prog) (w:=w) (base:=base) z d_law_plot bU gO;have lP:=ye (P:=l.prog) (w:=w) (base:=base) z d_law_row bU;have dY:=sQ (P:=l.prog) (w:=w) (base:=base) z d_law_rises dX;have kf:=u6 (P:=l.prog) (w:=w) (base:=base) z d_law_spot bU;have lw:=Bi (P:=l.prog) (w:=w) (base:=base) z d_law_at kh;have eC:=lm (P:=l.prog) (w:=w) (base:=base) z d_plots_by_weight fP cB lO c_NO_NUMBERS;have eD:=nU (P:=l.prog) (w:=w) (base:=base) z d_law_is_reach dY;have jd:=sS (P:=l.prog) (w:=w) (base:=base) z d_all_spots eC c_NO_SPOTS;have gZ:=oQ (P:=l.prog) (w:=w) (base:=base) z d_law_is_plot dY eD;have dh:=u4 (P:=l.prog) (w:=w) (base:=base) z d_table_of jd c_NO_SPOTS;have gw:=nR (P:=l.prog) (w:=w) (base:=base) z d_law_is_table gZ dX;exact (Lu (P:=l.prog) (w:=w) (base:=base) z FL dh iB kf lP kg gw lw).imp fun _ _ _ _ h=>h _
end LW
namespace LW
open PySem HW
theorem xx (a0 a1:D):gc [a0,a1]=eK (lW [some (.v a0),some (.v a1),none,none,none,none] []):=rfl
theorem kL (a0:D):bF [a0]=eK (eG [some (.v a0),none,none,none,none,none,none] []):=rfl
theorem jG (bt:Bool)(a0:D):aQ bt [a0]=eK (dI bt [some (.v a0),none,none,none,none,none,none,none,none,none] []):=rfl
theorem mC (a0:D):bY [a0]=eK (fQ [some (.v a0),none,none,none,none,none] []):=rfl
theorem kK (bt:Bool)(a0:D):b8 bt [a0]=eK (eF bt [some (.v a0),none,none,none,none,none,none,none,none,none,none,none] []):=rfl
theorem rN (bt:Bool)(a0:D):ca bt [a0]=eK (fH bt [some (.v a0)] []):=rfl
theorem uq (bt:Bool)(a0:D):aC bt [a0]=tE (ku bt [some (.v a0),none,none,none,none] []):=rfl
theorem uw (a0 a1:D):cL [a0,a1]=eK (iI [some (.v a0),some (.v a1)] []):=rfl
theorem ur (a0 a1:D):br [a0,a1]=eK (kw [some (.v a0),some (.v a1),none] []):=rfl
theorem rM (a0 a1:D):df [a0,a1]=eK (jk [some (.v a0),some (.v a1),none,none,none,none] []):=rfl
theorem uu (a0 a1 a2:D):ck [a0,a1,a2]=eK (kA [some (.v a0),some (.v a1),some (.v a2),none,none,none,none,none,none,none] []):=rfl
theorem xy (a0 a1 a2:D):c6 [a0,a1,a2]=eK (lX [some (.v a0),some (.v a1),some (.v a2),none,none,none] []):=rfl
theorem uv (a0 a1 a2:D):cK [a0,a1,a2]=eK (kB [some (.v a0),some (.v a1),some (.v a2),none,none,none,none,none] []):=rfl
theorem rL (a0:D):b9 [a0]=eK (jj [some (.v a0),none] []):=rfl
theorem nj (a0:D):cD [a0]=eK (gy [some (.v a0)] []):=rfl
theorem oJ (a0:D):dL [a0]=eK (g8 [some (.v a0),none,none] []):=rfl
theorem ni (bt:Bool)(a0 a1:D):bS bt [a0,a1]=eK (gx bt [some (.v a0),some (.v a1),none,none] []):=rfl
theorem ut (a0 a1 a2 a3:D):eX [a0,a1,a2,a3]=eK (ky [some (.v a0),some (.v a1),some (.v a2),some (.v a3),none,none,none,none,none] []):=rfl
theorem yM (bt:Bool)(a0 a1 a2:D):gp bt [a0,a1,a2]=tE (ow bt [some (.v a0),some (.v a1),some (.v a2)] []):=rfl
theorem JX (bt:Bool)(a0:D):sM bt [a0]=eK (Cb bt [some (.v a0),none,none,none,none,none,none,none,none,none,none,none] []):=rfl
abbrev Rc:=Bool×Th
abbrev rD (r:Rc):D:=.tup [.bl r.1,.tup (r.2.map .int)]
abbrev sD (p:Int×Rc):D:=.tup [.int p.1,rD p.2]
theorem gU {n:Nat}{xs:List D}(h:okDs n xs=true):eU (n+1) (.tup xs)=true:=by simpa [eU] using h
theorem F3 {n:Nat}{xs:List D}(h:okDs n xs=true):eU (n+1) (.fl xs)=true:=by simpa [eU] using h
theorem em {n:Nat}{x:D}{xs:List D}(h:eU n x=true)(h':okDs n xs=true):okDs n (x::xs)=true:=by simp [okDs,h,h']
theorem k7 {n:Nat}:okDs n []=true:=by cases n <;> rfl
theorem uS {n:Nat}(r:Rc):eU (n+2) (rD r)=true:=gU (em Lm (em (gU (jx _)) k7))
theorem AT {n:Nat}(p:Int×Rc):eU (n+3) (sD p)=true:=gU (em Ix (em (uS _) k7))
theorem k8 {α:Type}{n:Nat}{f:α->D}(h:∀a,eU n (f a)=true):∀xs:List α,okDs n (xs.map f)=true
 |[]=>k7
 |x::xs=>em (h x) (k8 h xs)
abbrev pD (g:Rc)(qs:List (Int×Rc)):D:=.tup [rD g,.tup (qs.map sD)]
theorem AU {n:Nat}(g:Rc)(qs:List (Int×Rc)):eU (n+5) (pD g qs)=true:=gU (em (uS _) (em (gU (k8 (fun p=>AT p) qs)) k7))
theorem sH (r:Rc):eU 60 (rD r)=true:=uS r
theorem F2 (g:Rc)(qs:List (Int×Rc)):eU 60 (pD g qs)=true:=AU g qs
theorem oj (r s:Rc):iF (rD r) (rD s)=decide (r=s):=by
 obtain ⟨a,xs⟩:=r;obtain ⟨b,ys⟩:=s;simp only [rD,fZ,iD,iE,f6,bQ,cY,dQ,dR,jB,zcB,Prod.mk.injEq];cases a <;> cases b <;> simp
theorem Mk (p q:Int×Rc):iF (sD p) (sD q)=decide (p=q):=by
 obtain ⟨a,r⟩:=p;obtain ⟨b,s⟩:=q;have:=oj r s;simp only [sD,fZ,iD,iE,f6,bQ,cY,dQ,dR,zcB,Prod.mk.injEq,zdl] at this ⊢;rw [this]
 congr 1
theorem xh {α:Type}[DecidableEq α]{f:α->D}(h:∀a b,iF (f a) (f b)=decide (a=b)):∀xs ys:List α,eqDs (xs.map f) (ys.map f)=decide (xs=ys)
 |[],[]=>by simp [bQ,cY,dQ,dR]
 |[],_::_=>by simp [bQ,cY,dQ,dR]
 |_::_,[]=>by simp [bQ,cY,dQ,dR]
 |x::xs,y::ys=>by simp only [zaf,bQ,cY,dQ,dR,h,xh h xs ys,List.cons.injEq,zdl]
theorem Gn (g h:Rc)(ps qs:List (Int×Rc)):iF (pD g ps) (pD h qs)=decide (g=h/\ps=qs):=by
 show (iF (rD g) (rD h) && (eqDs (ps.map sD) (qs.map sD) && true))=_
 rw [oj,xh Mk,zcB,zdl]
theorem ki:∀xs:Th,flatDs (xs.map .int)=true
 |[]=>rfl
 |x::xs=>by simp [flatDs,dN,ki xs]
theorem w5 (r:Rc):dN (rD r)=true:=by simp [rD,dN,flatDs,ki]
theorem tw:∀ps:List (Int×Rc),flatDs (ps.map sD)=true
 |[]=>rfl
 |p::ps=>by
  show ((true && (dN (rD p.2) && true)) && flatDs (ps.map sD))=true
  rw [w5,tw ps];rfl
theorem D9 (g:Rc)(ps:List (Int×Rc)):dN (pD g ps)=true:=by
 have:=w5 g;simp only [pD,dN,flatDs,tw,zcB] at *;exact this
def i5:Rc->List (Int×Rc)->List (Int×Rc)
 |_,[]=>[]
 |g,p::ps=>if p.2=g then i5 g ps else p::i5 p.2 ps
theorem jw:∀(g:Rc) (ps:List (Int×Rc)) (q),q∈i5 g ps->q∈ps
 |_,[],_,h=>h
 |g,p::ps,q,h=>by
  unfold i5 at h;split at h
  ·exact zaj _ (jw g ps q h)
  ·rcases zak.mp h with h|h
   ·exact h ▸ zah
   ·exact zaj _ (jw p.2 ps q h)
abbrev Up (ps:List (Int×Rc)):Prop:=ps.Pairwise fun a b=>a.1 < b.1
theorem uM:∀(g:Rc) (ps:List (Int×Rc)),Up ps->Up (i5 g ps)
 |_,[],_=>List.Pairwise.nil
 |g,p::ps,h=>by
  obtain ⟨h1,h2⟩:=zay.mp h;unfold i5;split
  ·exact uM g ps h2
  ·exact zay.mpr ⟨fun q hq=>h1 q (jw _ _ q hq),uM p.2 ps h2⟩
def ET:Rc->List (Int×Rc)->Prop
 |_,[]=>True
 |g,p::ps=>p.2≠g/\ET p.2 ps
theorem qx:∀(g:Rc) (ps:List (Int×Rc)),ET g (i5 g ps)
 |_,[]=>trivial
 |g,p::ps=>by
  unfold i5;split
  ·exact qx g ps
  ·rename_i h;exact ⟨h,qx p.2 ps⟩
def ra:Rc->List (Int×Rc)->Int->Rc
 |g,[],_=>g
 |g,p::ps,t=>if t < p.1 then g else ra p.2 ps t
theorem cJ:∀(g:Rc) (ps:List (Int×Rc)) (t:Int),(∀p∈ps,t < p.1)->ra g ps t=g
 |_,[],_,_=>rfl
 |g,p::ps,t,h=>by unfold ra;rw [if_pos (h p zah)]
theorem uN (g:Rc)(ps:List (Int×Rc))(hl:ps.length < 2000):gc [rD g,.fl (ps.map sD)]=some (pD g (i5 g ps)):=by
 rw [xx];push_cast [lW]
 have key:∀(ps out:List (Int×Rc)) (last:Rc) (x4 x5:Option R),out.length+ps.length < 2000->∃last' x4' x5',
   cb (ie 2 (ap (aV 4) (ap (aV 5) bn))) gN (ps.map sD) [some (.v (rD g)),some (.v (.fl (ps.map sD))),some (.v (rD last)),aM 0,x4,x5] [.lst (out.map sD)]=some (.nx [some (.v (rD g)),some (.v (.fl (ps.map sD))),some (.v (rD last')),aM 0,x4',x5'] [.lst ((out++i5 last ps).map sD)]):=by
  intro ps;generalize hA:R.v (D.fl (List.map sD ps))=A;clear hA
  induction ps with
  |nil=>intro out last x4 x5 _;exact ⟨last,x4,x5,by simp [cb,i5]⟩
  |cons p ps ih =>
   intro out last x4 x5 h;simp only [zaD] at h;have hs:(out.map sD).length < sizeLine:=dA (by simp;omega);rw [zaf,bH]
   by_cases e:p.2=last
   ·obtain ⟨l',a',b',hh⟩:=ih out last (some (.v (.int p.1))) (some (.v (rD p.2))) (by omega)
    refine ⟨l',a',b',?_⟩
    have he:iF (rD p.2) (rD last)=true:=by rw [oj];exact zaQ e
    push_cast [gN,sD,sH,he] at hh ⊢;rw [hh,i5,if_pos e]
   ·obtain ⟨l',a',b',hh⟩:=ih (out++[p]) p.2 (some (.v (.int p.1))) (some (.v (rD p.2))) (by simp;omega)
    refine ⟨l',a',b',?_⟩
    have he:iF (rD p.2) (rD last)=false:=by rw [oj];exact zaK e
    push_cast [gN,sH,he,hs] at hh ⊢;rw [i5,if_neg e];simp only [zaZ,zbj,zaf,zaY,zcH,za9] at hh ⊢;exact hh
 obtain ⟨a,b,c,h⟩:=key ps [] g none none (by simpa using hl);simp only [zaY,za9] at h;rw [h];push_cast [HW.mP]
theorem rc {α:Type}{f:α->D}{xs:List α}{k:Nat}{a:α}(h:xs[k]?=some a):L2.oA (xs.map f) (k:Int)=some (f a):=vR (by omega) (by simp [h])
def lst:Rc->List (Int×Rc)->Rc
 |g,[]=>g
 |_,p::ps=>lst p.2 ps
theorem i7:∀(g:Rc) (l:List (Int×Rc)) (p),lst g (l++[p])=p.2
 |_,[],_=>rfl
 |_,q::l,p=>i7 q.2 l p
theorem kZ:∀(g:Rc) (l:List (Int×Rc)) (p:Int×Rc),i5 g (l++[p])=i5 g l++(if p.2=lst g l then [] else [p])
 |g,[],p=>by by_cases e:p.2=g <;> simp [i5,lst,e]
 |g,q::l,p=>by
  by_cases e:q.2=g
  ·simp only [zcH,i5,if_pos e,kZ g l p,show lst g (q::l)=lst g l from by rw [lst,e]]
  ·simp only [zcH,i5,if_neg e,kZ q.2 l p,show lst g (q::l)=lst q.2 l from rfl]
def lv:Bool->List Int->Int->Bool
 |b,[],_=>b
 |b,x::xs,d=>if d < x then b else lv (!b) xs d
theorem cM {d:Int}:∀{xs:Th} {b:Bool},(∀x∈xs,d < x)->lv b xs d=b
 |[],_,_=>rfl
 |x::xs,b,h=>by rw [lv,if_pos (h x zah)]
theorem AZ {e d:Int}(hed:e<=d):∀{xs:Th} {b:Bool},(∀x∈xs,e < x->d < x)->lv b xs d=lv b xs e
 |[],_,_=>rfl
 |x::xs,b,h=>by
  rw [lv,lv];have h1:=h x zah;have ih:=AZ (b:=!b) hed (xs:=xs) fun y hy=>h y (zaj _ hy)
  by_cases q:e < x
  ·rw [if_pos q,if_pos (h1 q)]
  ·rw [if_neg q,if_neg (by omega),ih]
theorem DU {b c:Bool}{x:Int}{xs ys:Th}(hx:∀y∈xs,x < y)(hy:∀y∈ys,x < y)(h:∀d,lv b (x::xs) d=lv c (x::ys) d)(hb:b=c):∀d,lv (!b) xs d=lv (!c) ys d:=fun d=>by
 have:=h d
 rw [lv,lv] at this
 by_cases q:d < x
 ·rw [cM fun y z=>by have:=hx y z;omega,cM fun y z=>by have:=hy y z;omega,hb]
 ·rwa [if_neg q,if_neg q] at this
theorem nO:∀xs:Th,∃d:Int,∀x∈xs,d < x
 |[]=>⟨0,fun _ h=>nomatch h⟩
 |x::xs=>by
  obtain ⟨d,h⟩:=nO xs;refine ⟨min d (x - 1),fun y hy=>?_⟩;rcases zak.mp hy with rfl|hy
  ·omega
  ·have:=h y hy;omega
theorem qD {b c:Bool}{xs ys:Th}(h:∀d,lv b xs d=lv c ys d):b=c:=by
 obtain ⟨d,hd⟩:=nO (xs++ys);have:=h d
 rwa [cM fun x hx=>hd x (zbr _ hx),cM fun x hx=>hd x (zaA _ hx)] at this
theorem uW:∀{xs ys:Th} {b c:Bool},xs.Pairwise (· < ·)->ys.Pairwise (· < ·)->(∀d,lv b xs d=lv c ys d)->b=c/\xs=ys
 |[],[],b,c,_,_,h=>⟨qD h,rfl⟩
 |[],y::ys,b,c,_,h2,h=>by
  have hb:=qD h;have:=h y
  rw [lv,lv,if_neg (by omega),cM (zay.mp h2).1,hb] at this
  cases c <;> cases this
 |x::xs,[],b,c,h1,_,h=>by
  have hb:=qD h;have:=h x
  rw [lv,lv,if_neg (by omega),cM (zay.mp h1).1,hb] at this
  cases c <;> cases this
 |x::xs,y::ys,b,c,h1,h2,h=>by
  have hb:=qD h;obtain ⟨p1,p2⟩:=zay.mp h1;obtain ⟨q1,q2⟩:=zay.mp h2
  have hxy:x=y:=by
   rcases zda x y with z|z|z
   ·have:=h x
    rw [lv,lv,if_neg (by omega),if_pos z,cM p1,hb] at this
    cases c <;> cases this
   ·exact z
   ·have:=h y
    rw [lv,lv,if_pos z,if_neg (by omega),cM q1,hb] at this
    cases c <;> cases this
  subst hxy;exact ⟨hb,by rw [(uW p2 q2 (DU p1 q1 h hb)).2]⟩
abbrev mH (r:Rc)(d:Int):Bool:=lv r.1 r.2 d
theorem CW {r s:Rc}(hr:r.2.Pairwise (· < ·))(hs:s.2.Pairwise (· < ·))(h:∀d,mH r d=mH s d):r=s:=Prod.ext (uW hr hs h).1 (uW hr hs h).2
theorem qr {g h:Rc}{ps qs:List (Int×Rc)}(e:∀t,ra g ps t=ra h qs t):g=h:=by
 obtain ⟨d,hd⟩:=nO (ps.map (·.1)++qs.map (·.1));have:=e d
 rwa [cJ _ _ _ fun p hp=>hd _ (zbr _ (zba hp)),cJ _ _ _ fun p hp=>hd _ (zaA _ (zba hp))] at this
theorem Ag:∀{ps qs:List (Int×Rc)} {g h:Rc},Up ps->Up qs->ET g ps->ET h qs->(∀t,ra g ps t=ra h qs t)->g=h/\ps=qs
 |[],[],g,h,_,_,_,_,e=>⟨qr e,rfl⟩
 |[],q::qs,g,h,_,u2,_,d2,e=>by
  have hg:=qr e;have:=e q.1
  rw [ra,ra,if_neg (by omega),cJ _ _ _ (zay.mp u2).1] at this
  exact absurd (this.symm.trans hg) d2.1
 |p::ps,[],g,h,u1,_,d1,_,e=>by
  have hg:=qr e;have:=e p.1
  rw [ra,ra,if_neg (by omega),cJ _ _ _ (zay.mp u1).1] at this
  exact absurd (this.trans hg.symm) d1.1
 |p::ps,q::qs,g,h,u1,u2,d1,d2,e=>by
  have hg:=qr e;obtain ⟨p1,p2⟩:=zay.mp u1;obtain ⟨q1,q2⟩:=zay.mp u2
  have hx:p.1=q.1:=by
   rcases zda p.1 q.1 with z|z|z
   ·have:=e p.1
    rw [ra,ra,if_neg (by omega),if_pos z,cJ _ _ _ p1] at this
    exact absurd (this.trans hg.symm) d1.1
   ·exact z
   ·have:=e q.1
    rw [ra,ra,if_pos z,if_neg (by omega),cJ _ _ _ q1] at this
    exact absurd (this.symm.trans hg) d2.1
  have e2:p.2=q.2:=by
   have:=e p.1
   rwa [ra,ra,if_neg (by omega),if_neg (by omega),cJ _ _ _ p1,cJ _ _ _ fun y hy=>by have:=q1 y hy;omega] at this
  have:=Ag (g:=p.2) (h:=q.2) p2 q2 d1.2 d2.2 fun t=>by
   have:=e t
   rw [ra,ra] at this
   by_cases z:t < p.1
   ·rw [cJ _ _ _ fun y hy=>by have:=p1 y hy;omega,cJ _ _ _ fun y hy=>by have:=q1 y hy;omega,e2]
   ·rwa [if_neg z,if_neg (by omega)] at this
  exact ⟨hg,by rw [this.2,show p=q from Prod.ext hx e2]⟩
structure Pf (g:Rc)(qs:List (Int×Rc)):Prop where
 gu:g.2.Pairwise (· < ·)
 up:Up qs
 dif:ET g qs
 ru:∀q∈qs,q.2.2.Pairwise (· < ·)
theorem Af:∀{qs:List (Int×Rc)} {g:Rc} {t:Int},ra g qs t=g\/∃q∈qs,ra g qs t=q.2
 |[],_,_=>.inl rfl
 |q::qs,g,t=>by
  rw [ra]
  by_cases z:t < q.1
  ·rw [if_pos z];exact .inl rfl
  ·rw [if_neg z]
   rcases Af (qs:=qs) (g:=q.2) (t:=t) with h|⟨p,hp,h⟩
   ·exact .inr ⟨q,zah,h⟩
   ·exact .inr ⟨p,zaj _ hp,h⟩
theorem Pf.at {g qs}(p:Pf g qs)(t:Int):(ra g qs t).2.Pairwise (· < ·):=by
 rcases Af (qs:=qs) (g:=g) (t:=t) with h|⟨q,hq,h⟩
 ·rw [h];exact p.gu
 ·rw [h];exact p.ru q hq
theorem AB {g h:Rc}{ps qs:List (Int×Rc)}(a:Pf g ps)(b:Pf h qs)(e:∀t d,mH (ra g ps t) d=mH (ra h qs t) d):g=h/\ps=qs :=
 Ag a.up b.up a.dif b.dif fun t=>CW (a.at t) (b.at t) (e t)
def li (b:Bool):Int:=if b=true then 1 else 0
def sg (b:Bool):Int:=if b=true then -1 else 1
theorem G0 (b:Bool) : -sg b=sg (!b):=by cases b <;> rfl
theorem KB (b:Bool):sg b=li (!b) - li b:=by cases b <;> rfl
def al:Int->List Int->Int->Int
 |_,[],_=>0
 |s,x::xs,e=>(if x=e then s else 0)+al (-s) xs e
theorem Gs (e:Int):∀{xs:Th} {b:Bool},xs.Pairwise (· < ·)->al (sg b) xs e=li (lv b xs e) - li (lv b xs (e - 1))
 |[],b,_=>by simp [al,lv]
 |x::xs,b,h=>by
  obtain ⟨p1,p2⟩:=zay.mp h;rw [al,G0,Gs e p2,lv,lv];rcases zda x e with z|z|z
  ·rw [if_neg (by omega),if_neg (by omega),if_neg (by omega),zdd]
  ·subst z
   rw [if_pos rfl,if_neg (by omega),if_pos (by omega),cM (d:=x) p1,cM fun y hy=>by have:=p1 y hy;omega,KB];omega
  ·rw [if_neg (by omega),if_pos (by omega),if_pos (by omega),cM (d:=e) fun y hy=>by have:=p1 y hy;omega,cM fun y hy=>by have:=p1 y hy;omega]
   omega
def cn:List Rc->Int->Int
 |[],_=>0
 |r::rs,d=>li (mH r d)+cn rs d
def c0:List Rc->Int
 |[]=>0
 |r::rs=>li r.1+c0 rs
abbrev An (rs:List Rc)(d:Int):Bool:=rs.any fun r=>mH r d
abbrev A0 (rs:List Rc):Bool:=rs.any (·.1)
theorem om (d:Int):∀rs:List Rc,0<=cn rs d/\(An rs d=decide (0 < cn rs d))
 |[]=>⟨zcz 0,rfl⟩
 |r::rs=>by
  obtain ⟨h1,h2⟩:=om d rs;unfold An at h2 ⊢;rw [cn,zbA,h2];cases q:mH r d
  ·exact ⟨by simp [li];omega,by simp [li]⟩
  ·exact ⟨by simp [li];omega,by simp [li];omega⟩
theorem vK:∀rs:List Rc,0<=c0 rs/\(A0 rs=decide (0 < c0 rs))
 |[]=>⟨zcz 0,rfl⟩
 |r::rs=>by
  obtain ⟨h1,h2⟩:=vK rs;unfold A0 at h2 ⊢;rw [c0,zbA,h2];cases q:r.1
  ·exact ⟨by simp [li];omega,by simp [li]⟩
  ·exact ⟨by simp [li];omega,by simp [li];omega⟩
theorem qU {d:Int}:∀{rs:List Rc},(∀r∈rs,∀x∈r.2,d < x)->cn rs d=c0 rs
 |[],_=>rfl
 |r::rs,h=>by rw [cn,c0,qU fun q hq=>h q (zaj _ hq),show mH r d=r.1 from cM (h r zah)]
theorem vG {e d:Int}(hed:e<=d):∀{rs:List Rc},(∀r∈rs,∀x∈r.2,e < x->d < x)->cn rs d=cn rs e
 |[],_=>rfl
 |r::rs,h=>by rw [cn,cn,vG hed fun q hq=>h q (zaj _ hq),show mH r d=mH r e from AZ hed (h r zah)]
def wk (h:Int->Bool):Bool->List Int->Th
 |_,[]=>[]
 |s,e::es=>if h e=s then wk h s es else e::wk h (h e) es
theorem m6 (h:Int->Bool):∀(es:Th) (s:Bool),(wk h s es).Sublist es
 |[],_=>.slnil
 |e::es,s=>by
  rw [wk]
  by_cases q:h e=s
  ·rw [if_pos q];exact (m6 h es s).cons _
  ·rw [if_neg q];exact (m6 h es (h e)).cons₂ _
theorem F5 (h:Int->Bool):∀(es:Th) (s:Bool) (L:Int),es.Pairwise (· < ·)->(∀d,L<=d->(∀x∈es,d < x)->h d=s)->(∀e∈es,∀d,e<=d->(∀x∈es,e < x->d < x)->h d=h e)->∀d,L<=d->lv s (wk h s es) d=h d
 |[],s,L,_,h1,_,d,hd=>by rw [wk,lv];exact (h1 d hd fun _ z=>nomatch z).symm
 |e::es,s,L,hs,h1,h2,d,hd=>by
  obtain ⟨p1,p2⟩:=zay.mp hs
  have h1':∀d,e<=d->(∀x∈es,d < x)->h d=h e:=fun d q1 q2=>h2 e zah d q1 fun x hx q=>by
   rcases zak.mp hx with rfl|hx
   ·omega
   ·exact q2 x hx
  have h2':∀e'∈es,∀d,e'<=d->(∀x∈es,e' < x->d < x)->h d=h e':=fun e' he' d q1 q2=>h2 e' (zaj _ he') d q1 fun x hx q=>by
   rcases zak.mp hx with rfl|hx
   ·have:=p1 e' he';omega
   ·exact q2 x hx q
  have ih:=F5 h es (h e) e p2 h1' h2' d
  have late:∀t:Bool,d < e->lv t (wk h t es) d=t:=fun t q=>cM fun x hx=>by have:=p1 x ((m6 h es t).subset hx);omega
  have hq:d < e->h d=s:=fun q=>h1 d hd fun x hx=>by
   rcases zak.mp hx with rfl|hx
   ·exact q
   ·have:=p1 x hx;omega
  rw [wk]
  by_cases q:h e=s
  ·rw [if_pos q]
   by_cases z:d < e
   ·rw [late s z,hq z]
   ·rw [←q];exact ih (by omega)
  ·rw [if_neg q,lv]
   by_cases z:d < e
   ·rw [if_pos z,hq z]
   ·rw [if_neg z,show (!s)=h e by revert q;cases s <;> cases h e <;> simp];exact ih (by omega)
structure JH (rs:List Rc)(es:Th):Prop where
 up:es.Pairwise (· < ·)
 all:∀x,x∈es ↔ ∃r∈rs,x∈r.2
abbrev Un (rs:List Rc)(es:Th):Rc:=(A0 rs,wk (An rs) (A0 rs) es)
theorem JH.un {rs es}(h:JH rs es)(d:Int):mH (Un rs es) d=An rs d:=by
 have a:∀d,(∀x∈es,d < x)->An rs d=A0 rs:=fun d hd=>by
  rw [(om d rs).2,(vK rs).2,qU fun r hr x hx=>hd x ((h.all x).mpr ⟨r,hr,hx⟩)]
 exact F5 (An rs) es (A0 rs) d h.up (fun d' _ q=>a d' q) (fun e he d' h1 h2=>by
  rw [(om d' rs).2,(om e rs).2,vG h1 fun r hr x hx=>h2 x ((h.all x).mpr ⟨r,hr,hx⟩)]) d (zcz _)
theorem JH.unUp {rs es}(h:JH rs es):(Un rs es).2.Pairwise (· < ·):=h.up.sublist (m6 _ _ _)
theorem JH.sub {rs es}(h:JH rs es):∀x∈(Un rs es).2,∃r∈rs,x∈r.2:=fun x hx=>(h.all x).mp ((m6 _ _ _).subset hx)
end LW
namespace LW
open PySem HW L2
abbrev kc (p:Int×Int):aE×D:=(.inl p.1,.tup [.int p.2,.int 0])
def gv:List (Int×Int)->Int->Int
 |[],_=>0
 |p::l,e=>if p.1=e then p.2 else gv l e
def bp:List (Int×Int)->Int->Int->List (Int×Int)
 |[],e,s=>[(e,s)]
 |p::l,e,s=>if p.1=e then (p.1,p.2+s)::l else p::bp l e s
theorem Ga (e s x:Int):∀l:List (Int×Int),gv (bp l e s) x=gv l x+(if e=x then s else 0)
 |[]=>by simp [bp,gv]
 |p::l=>by
  have ih:=Ga e s x l;rw [bp]
  by_cases q:p.1=e
  ·rw [if_pos q,gv,gv]
   by_cases z:p.1=x
   ·rw [if_pos z,if_pos z,if_pos (by omega)]
   ·rw [if_neg z,if_neg z,if_neg (by omega)];omega
  ·rw [if_neg q,gv,gv]
   by_cases z:p.1=x
   ·rw [if_pos z,if_pos z,if_neg (by omega)];omega
   ·rw [if_neg z,if_neg z,ih]
theorem q9 (e s x:Int):∀l:List (Int×Int),x∈(bp l e s).map (·.1) ↔ x∈l.map (·.1)\/x=e
 |[]=>by simp [bp]
 |p::l=>by
  have ih:=q9 e s x l;rw [bp]
  by_cases q:p.1=e
  ·rw [if_pos q]
   simp only [zaf,zak];constructor
   ·exact .inl
   ·rintro (h|h)
    ·exact h
    ·exact .inl (h.trans q.symm)
  ·rw [if_neg q]
   simp only [zaf,zak,ih,or_assoc]
theorem B5 (e s:Int):∀l:List (Int×Int),(l.map (·.1)).Nodup->((bp l e s).map (·.1)).Nodup
 |[],_=>by simp [bp]
 |p::l,h=>by
  rw [zaf,zaJ] at h;have ih:=B5 e s l h.2;rw [bp]
  by_cases q:p.1=e
  ·rw [if_pos q,zaf,zaJ];exact h
  ·rw [if_neg q,zaf,zaJ]
   refine ⟨fun z=>?_,ih⟩;rcases (q9 e s p.1 l).mp z with z|z
   ·exact h.1 z
   ·exact q z
theorem vO (e s:Int):∀l:List (Int×Int),(bp l e s).length<=l.length+1
 |[]=>by simp [bp]
 |p::l=>by
  have ih:=vO e s l;rw [bp];split
  ·simp
  ·simp only [zaD];omega
theorem ve {e:Int}:∀{l:List (Int×Int)},e∉l.map (·.1)->gv l e=0
 |[],_=>rfl
 |p::l,h=>by
  rw [zaf,zak,not_or] at h;rw [gv,if_neg (fun z=>h.1 z.symm),ve h.2]
theorem Be (e:Int):∀l:List (Int×Int),jF (l.map kc) (.inl e)=if e∈l.map (·.1) then some (.tup [.int (gv l e),.int 0]) else none
 |[]=>rfl
 |p::l=>by
  have ih:=Be e l;unfold jF at ih ⊢;rw [zaf,zaf,gv]
  by_cases q:p.1=e
  ·rw [zbV (by simp [q]),if_pos (by rw [q];exact zah),if_pos q];rfl
  ·have q':¬ ((Sum.inl p.1:aE)=.inl e):=fun z=>q (Sum.inl.inj z)
   rw [zbW (by simp [q']),ih,if_neg q]
   by_cases z:e∈l.map (·.1)
   ·rw [if_pos z,if_pos (zaj _ z)]
   ·rw [if_neg z,if_neg (fun w=>by rcases zak.mp w with w|w;exact q w.symm;exact z w)]
theorem IH (e:Int)(l:List (Int×Int)):y0 (jF (l.map kc) (.inl e)) (.v (.tup [.int 0,.int 0]))=.v (.tup [.int (gv l e),.int 0]):=by
 rw [Be]
 by_cases z:e∈l.map (·.1)
 ·rw [if_pos z];rfl
 ·rw [if_neg z,ve z];rfl
theorem wR {e:Int}{d:D}:∀{l:List (Int×Int)},e∉l.map (·.1)->(l.map kc).map (fun kv=>if kv.1=(.inl e:aE) then (kv.1,d) else kv)=l.map kc
 |[],_=>rfl
 |p::l,h=>by
  rw [zaf,zak,not_or] at h;rw [zaf,zaf,wR h.2,if_neg (fun z=>h.1 (Sum.inl.inj z).symm)]
theorem Bh (e:Int):∀l:List (Int×Int),((l.map kc).any fun kv=>decide (kv.1=(.inl e:aE)))=decide (e∈l.map (·.1))
 |[]=>rfl
 |p::l=>by
  rw [zaf,zbA,Bh e l,zaf]
  by_cases q:p.1=e
  ·simp [q]
  ·have q':¬ ((Sum.inl p.1:aE)=.inl e):=fun z=>q (Sum.inl.inj z)
   have q2:¬ e=p.1:=fun z=>q z.symm;simp [q',q2]
theorem Bg {e s:Int}:∀{l:List (Int×Int)},(l.map (·.1)).Nodup->e∈l.map (·.1)->(l.map kc).map (fun kv=>if kv.1=(.inl e:aE) then (kv.1,D.tup [.int (gv l e+s),.int 0]) else kv)=(bp l e s).map kc
 |[],_,h=>by cases h
 |p::l,nd,h=>by
  rw [zaf,zaJ] at nd;rw [zaf,zaf,bp,gv]
  by_cases q:p.1=e
  ·rw [if_pos (congrArg Sum.inl q),if_pos q,if_pos q,wR (q ▸ nd.1)]
   rfl
  ·have q':¬ ((Sum.inl p.1:aE)=.inl e):=fun z=>q (Sum.inl.inj z)
   rw [if_neg q',if_neg q,if_neg q,Bg nd.2 (by
    rw [zaf] at h;rcases zak.mp h with w|w
    ·exact absurd w.symm q
    ·exact w)]
   rfl
theorem Bf {e s:Int}:∀{l:List (Int×Int)},e∉l.map (·.1)->l++[(e,s)]=bp l e s
 |[],_=>rfl
 |p::l,h=>by
  rw [zaf,zak,not_or] at h;rw [bp,if_neg (fun z=>h.1 z.symm),←Bf h.2];rfl
theorem IG {e s:Int}{l:List (Int×Int)}(nd:(l.map (·.1)).Nodup):kY (l.map kc) (.inl e) (.tup [.int (gv l e+s),.int 0])=(bp l e s).map kc:=by
 unfold kY;rw [Bh]
 by_cases z:e∈l.map (·.1)
 ·rw [if_pos (zaQ z),Bg nd z]
 ·rw [if_neg (by simpa using z),ve z,zdd,←Bf z,zaZ];rfl
def vN:List (Int×Int)->Int->List Int->List (Int×Int)
 |l,_,[]=>l
 |l,s,x::xs=>vN (bp l x s) (-s) xs
theorem By (e:Int):∀(xs:Th) (l:List (Int×Int)) (s:Int),gv (vN l s xs) e=gv l e+al s xs e
 |[],l,s=>by simp [vN,al]
 |x::xs,l,s=>by rw [vN,By e xs,Ga,al];omega
theorem t6 (e:Int):∀(xs:Th) (l:List (Int×Int)) (s:Int),e∈(vN l s xs).map (·.1) ↔ e∈l.map (·.1)\/e∈xs
 |[],l,s=>by simp [vN]
 |x::xs,l,s=>by rw [vN,t6 e xs,q9,zak,or_assoc]
theorem vM:∀(xs:Th) (l:List (Int×Int)) (s:Int),(l.map (·.1)).Nodup->((vN l s xs).map (·.1)).Nodup
 |[],l,s,h=>h
 |x::xs,l,s,h=>vM xs _ _ (B5 x s l h)
theorem xp:∀(xs:Th) (l:List (Int×Int)) (s:Int),(vN l s xs).length<=l.length+xs.length
 |[],l,s=>by simp [vN]
 |x::xs,l,s=>by
  have:=xp xs (bp l x s) (-s);have:=vO x s l;rw [vN,zaD];omega
theorem tZ (x0 x2:Option R):∀(xs:Th) (l:List (Int×Int)) (s:Int) (x5 x6:Option R),(l.map (·.1)).Nodup->l.length+xs.length<=3000 ->
  ∃s' y5 y6,cb (aV 5) dE (xs.map .int) [x0,aM 0,x2,aP 0,aP s,x5,x6] [.dct (l.map kc)]=some (.nx [x0,aM 0,x2,aP 0,aP s',y5,y6] [.dct ((vN l s xs).map kc)])
 |[],l,s,x5,x6,_,_=>⟨s,x5,x6,rfl⟩
 |x::xs,l,s,x5,x6,nd,hl=>by
  rw [zaD] at hl;obtain ⟨s',y5,y6,e⟩:=tZ x0 x2 xs (bp l x s) (-s) (some (.v (.int x))) (some (.v (.tup [.int (gv l x),.int 0]))) (B5 x s l nd) (by have:=vO x s l;omega);refine ⟨s',y5,y6,?_⟩;have hz:(l.map kc).length < sizeLine:=dA (by rw [zal];omega);have hp:=IG (e:=x) (s:=s) nd
  have hm:(0:Int)+s * 0=0:=by omega
  rw [vN,zaf,bH];push_cast [dE,IH,hz,hp,hm,Eg (j:=0) (by decide)];exact e
abbrev wD (r:Rc):D:=.tup [rD r,.int 0]
def tX:List (Int×Int)->List Rc->List (Int×Int)
 |l,[]=>l
 |l,r::rs=>tX (vN l (sg r.1) r.2) rs
def EY:List Rc->Nat
 |[]=>0
 |r::rs=>r.2.length+EY rs
theorem Bx (e:Int):∀(rs:List Rc) (l:List (Int×Int)),(∀r∈rs,r.2.Pairwise (· < ·))->gv (tX l rs) e=gv l e+(cn rs e - cn rs (e - 1))
 |[],l,_=>by simp [tX,cn]
 |r::rs,l,h=>by
  rw [tX,Bx e rs _ fun q hq=>h q (zaj _ hq),By,Gs e (h r zah),cn,cn,show mH r e=lv r.1 r.2 e from rfl,show mH r (e - 1)=lv r.1 r.2 (e - 1) from rfl];omega
theorem tW (e:Int):∀(rs:List Rc) (l:List (Int×Int)),e∈(tX l rs).map (·.1) ↔ e∈l.map (·.1)\/∃r∈rs,e∈r.2
 |[],l=>by simp [tX]
 |r::rs,l=>by
  rw [tX,tW e rs,t6,or_assoc];simp
theorem B3:∀(rs:List Rc) (l:List (Int×Int)),(l.map (·.1)).Nodup->((tX l rs).map (·.1)).Nodup
 |[],l,h=>h
 |r::rs,l,h=>B3 rs _ (vM _ _ _ h)
theorem tY (x0:Option R):∀(rs:List Rc) (l:List (Int×Int)) (x2 x3 x4 x5 x6:Option R),(l.map (·.1)).Nodup->l.length+EY rs<=3000 ->
  ∃y2 y3 y4 y5 y6,cb (ie 2 (ap (aV 2) (ap (aV 3) bn))) cA (rs.map wD) [x0,aM 0,x2,x3,x4,x5,x6] [.dct (l.map kc)]=some (.nx [x0,aM 0,y2,y3,y4,y5,y6] [.dct ((tX l rs).map kc)])
 |[],l,x2,x3,x4,x5,x6,_,_=>⟨x2,x3,x4,x5,x6,rfl⟩
 |r::rs,l,x2,x3,x4,x5,x6,nd,hl=>by
  rw [EY] at hl;obtain ⟨s',z5,z6,e1⟩:=tZ x0 (some (.v (rD r))) r.2 l (sg r.1) x5 x6 nd (by omega);obtain ⟨y2,y3,y4,y5,y6,e⟩:=tY x0 rs (vN l (sg r.1) r.2) (some (.v (rD r))) (some (.v (.int 0))) (some (.v (.int s'))) z5 z6 (vM _ _ _ nd) (by have:=xp r.2 l (sg r.1);omega);refine ⟨y2,y3,y4,y5,y6,?_⟩;rw [tX,zaf,bH];obtain ⟨b,xs⟩:=r;cases b
  ·simp only [sg,zan,if_false] at e1
   push_cast [cA,wD,e1];exact e
  ·simp only [sg,if_true] at e1
   push_cast [cA,wD,e1];exact e
abbrev Gr (rs:List Rc):List aE:=(tX [] rs).map fun p=>.inl p.1
abbrev Jy (rs:List Rc):List D:=(tX [] rs).map fun p=>.tup [.int p.2,.int 0]
theorem vH (rs:List Rc)(ht:EY rs<=3000):bF [.fl (rs.map wD)]=some (.fd (Gr rs) (Jy rs)):=by
 rw [kL];obtain ⟨y2,y3,y4,y5,y6,e⟩:=tY (some (.v (.fl (rs.map wD)))) rs [] none none none none none (by simp) (by simpa using ht);push_cast [eG];rw [show ([]:List (Int×Int)).map kc=[] from rfl] at e;push_cast [e,za2];rfl
theorem Jx {rs:List Rc}{k:Int}(h:k∈(tX [] rs).map (·.1)):cF ((Gr rs).zip ((Jy rs).map R.v)) (.inl k)=some (.v (.tup [.int (gv (tX [] rs) k),.int 0])):=by
 have key:∀l:List (Int×Int),k∈l.map (·.1)->cF ((l.map fun p=>(Sum.inl p.1:aE)).zip ((l.map fun p=>D.tup [.int p.2,.int 0]).map R.v)) (.inl k)=some (.v (.tup [.int (gv l k),.int 0])):=by
  intro l
  induction l with
  |nil=>intro h;cases h
  |cons p l ih =>
   intro h;unfold cF at ih ⊢;simp only [zaf,zc2,gv]
   by_cases q:p.1=k
   ·rw [zbV (by simp [q]),if_pos q];rfl
   ·have q':¬ ((Sum.inl p.1:aE)=.inl k):=fun z=>q (Sum.inl.inj z)
    rw [zbW (by simp [q']),if_neg q];refine ih ?_;rw [zaf] at h;rcases zak.mp h with w|w
    ·exact absurd w.symm q
    ·exact w
 exact key _ h
theorem Ev (rs:List Rc):fg (Gr rs)=some ((tX [] rs).map (·.1)):=by
 have key:∀l:List (Int×Int),fg (l.map fun p=>(Sum.inl p.1:aE))=some (l.map (·.1)):=by
  intro l
  induction l with
  |nil=>rfl
  |cons p l ih=>simp only [zaf,fg,ih,za8]
 exact key _
theorem yL {l:Th}(nd:l.Nodup):(gr l).Pairwise (· < ·):=by
 have h1:=iA l;have h2:=(cN l).nodup_iff.mpr nd
 exact (List.pairwise_and_iff.mpr ⟨h1,h2⟩).imp fun h=>by have:=h.1;have:=h.2;omega
abbrev ui (rs:List Rc):Th:=gr ((tX [] rs).map (·.1))
theorem ko (rs:List Rc):JH rs (ui rs):=⟨yL (B3 rs [] (by simp)),fun x=>by rw [(cN _).mem_iff,tW];simp⟩
abbrev hv (b:Bool):D:=if b=true then .int 0 else .non
abbrev hk (b:Bool):aE:=if b=true then .inl 0 else .inr none
def RI (lo:Bool)(E:Th)(μ:ac):Prop:=μ[2]?=some (.lst (E.map .int))/\((E=[]/\μ[1]?=some (.dr [(hk lo,.p 2)]))\/∃n,2 < n/\E≠[]/\μ[1]?=some (.dr [(hk lo,.p 2),(hk (!lo),.p n)])/\μ[n]?=some (.lst (E.map .int)))
theorem Ep:iF .non .non=true:=rfl
theorem Jv:iF .non (.int 0)=false:=rfl
theorem Er:iF (.int 0) .non=false:=rfl
theorem bG {α:Type}{l:List α}{i:Nat}{a:α}(h:l[i]?=some a):i < l.length:=(zau.mp h).1
section
variable  {bt:Bool}{ks:List aE}{ds:List D}{kz:List (aE×R)}{x0 x1 x9:Option R}{lo last:Bool}{many e g:Int}{E:Th}{μ:ac}
theorem Dd (hkv:∀μ,jJ (.v (.fd ks ds)) μ=some kz)(hdx:cF kz (.inl e)=some (.v (.tup [.int g,.int 0])))(hq:decide (0 < many+g)=last) :
  au bt [x0,x1,aP many,aP 0,some (.v (hv lo)),some (.v (hv last)),aM 1,some (.v (.fd ks ds)),aP e,x9] μ =
   some (.nx [x0,x1,aP ((many+g)),aP 0,some (.v (hv lo)),some (.v (hv last)),aM 1,some (.v (.fd ks ds)),aP e,some (.v (hv last))] μ):=by
 cases last
 ·push_cast [au,hv,zan,if_false,hkv,hdx,hq,Ep,zcS]
 ·push_cast [au,hv,if_true,hkv,hdx,hq,zcS,zcl]
theorem N3 {a:R}{l}:cF ((.inl 0,a)::l) (.inl 0)=some a:=rfl
theorem N2 {a:R}{l}:cF ((.inr none,a)::l) (.inr none)=some a:=rfl
theorem N1 {a b:R}:cF [(.inl 0,a),(.inr none,b)] (.inr none)=some b:=rfl
theorem N0 {a b:R}:cF [(.inr none,a),(.inl 0,b)] (.inl 0)=some b:=rfl
theorem NZ {a:R}:cF [(.inl 0,a)] (.inr none)=none:=rfl
theorem NY {a:R}:cF [(.inr none,a)] (.inl 0)=none:=rfl
theorem Ac (hkv:∀μ,jJ (.v (.fd ks ds)) μ=some kz)(hdx:cF kz (.inl e)=some (.v (.tup [.int g,.int 0])))(hq:decide (0 < many+g) = !lo)(h1:μ[1]?=some (.dr [(hk lo,.p 2)]))(h2:μ[2]?=some (.lst [])) :
  ∃μ',au bt [x0,x1,aP many,aP 0,some (.v (hv lo)),some (.v (hv lo)),aM 1,some (.v (.fd ks ds)),aP e,x9] μ =
   some (.nx [x0,x1,aP ((many+g)),aP 0,some (.v (hv lo)),some (.v (hv (!lo))),aM 1,some (.v (.fd ks ds)),aP e,some (.v (hv (!lo)))] μ')/\RI lo [e] μ':=by
 have l2:=bG h2
 have a1:(μ.set 2 (.lst [.int e])++[aw.lst []])[1]?=some (.dr [(hk lo,.p 2)]):=by
  rw [zai (by rw [zbn];omega),zag (by omega)];exact h1
 have a2:(((μ.set 2 (.lst [.int e])++[aw.lst []]).set 1 (.dr [(hk lo,.p 2),(hk (!lo),.p μ.length)])))[μ.length]?=some (.lst []):=by
  rw [zag (by omega),zaO (by rw [zbn];exact zao _)];simp
 have a3:(μ.set 2 (.lst [.int e]))[1]?=some (.dr [(hk lo,.p 2)]):=by rw [zag (by omega)];exact h1
 have z0:(0:Nat) < sizeLine:=dA (by omega)
 have z1:(1:Nat) < 1000:=by omega
 refine ⟨((μ.set 2 (.lst [.int e])++[aw.lst []]).set 1 (.dr [(hk lo,.p 2),(hk (!lo),.p μ.length)])).set μ.length (.lst [.int e]),?_,?_,.inr ⟨μ.length,l2,by simp,?_,?_⟩⟩
 ·cases lo
  ·simp only [hk,zan,if_false,if_true,zbU,zbo] at h1 a1 a2 a3 hq ⊢
   push_cast [au,hkv,hdx,hq,Ep,Jv,Er,zcS,N3,N2,N1,N0,NZ,NY,h1,h2,a1,a2,a3,zbn,z0,z1,za9]
  ·simp only [hk,zan,if_false,if_true,zbU,zbo] at h1 a1 a2 a3 hq ⊢
   push_cast [au,hkv,hdx,hq,Ep,Jv,Er,zcS,N3,N2,N1,N0,NZ,NY,h1,h2,a1,a2,a3,zbn,z0,z1,za9]
 ·rw [zag (by omega),zag (by omega),zai (by rw [zbn];omega),zav (by omega)];rfl
 ·rw [zag (by omega),zav (by simp;omega)]
 ·rw [zav (by simp)];rfl
theorem De {a b n:Nat}(hkv:∀μ,jJ (.v (.fd ks ds)) μ=some kz)(hdx:cF kz (.inl e)=some (.v (.tup [.int g,.int 0])))(hq:decide (0 < many+g) = !last)(hE:E.length < 3000)(hn:2 < n)(h1:μ[1]?=some (.dr [(hk lo,.p 2),(hk (!lo),.p n)]))(h2:μ[2]?=some (.lst (E.map .int)))(h3:μ[n]?=some (.lst (E.map .int)))
  (ha:a=if last=lo then 2 else n) (hb:b=if last=lo then n else 2) :
  ∃μ',au bt [x0,x1,aP many,aP 0,some (.v (hv lo)),some (.v (hv last)),aM 1,some (.v (.fd ks ds)),aP e,x9] μ =
   some (.nx [x0,x1,aP ((many+g)),aP 0,some (.v (hv lo)),some (.v (hv (!last))),aM 1,some (.v (.fd ks ds)),aP e,some (.v (hv (!last)))] μ')/\RI lo (E++[e]) μ':=by
 have l2:=bG h2;have l3:=bG h3
 have ab:a≠b/\a≠1/\b≠1/\a < μ.length/\b < μ.length/\((a=2/\b=n)\/(a=n/\b=2)):=by
  subst ha;subst hb;split <;> refine ⟨by omega,by omega,by omega,by omega,by omega,by simp⟩
 obtain ⟨ab1,ab2,ab3,la,lb,ab4⟩:=ab
 have ga:μ[a]?=some (.lst (E.map .int)):=by rcases ab4 with h|h <;> rw [h.1] <;> assumption
 have gb:μ[b]?=some (.lst (E.map .int)):=by rcases ab4 with h|h <;> rw [h.2] <;> assumption
 have a1:(μ.set a (.lst (E.map .int++[.int e]))++[aw.lst []])[1]?=some (.dr [(hk lo,.p 2),(hk (!lo),.p n)]):=by
  rw [zai (by rw [zbn];omega),zag (by omega)];exact h1
 have a2:(μ.set a (.lst (E.map .int++[.int e]))++[aw.lst []])[b]?=some (.lst (E.map .int)):=by
  rw [zai (by rw [zbn];omega),zag (by omega)];exact gb
 have a3:(μ.set a (.lst (E.map .int++[.int e])))[1]?=some (.dr [(hk lo,.p 2),(hk (!lo),.p n)]):=by rw [zag (by omega)];exact h1
 have z0:(E.map D.int).length < sizeLine:=dA (by rw [zal];omega)
 have z1:(2:Nat) < 1000:=by omega
 have fin:∀c,c=a\/c=b->((μ.set a (.lst (E.map .int++[.int e]))++[aw.lst []]).set b (.lst (E.map .int++[.int e])))[c]?=some (.lst ((E++[e]).map .int)):=fun c hc=>by
  rw [zaZ,zaf,zaY];rcases hc with rfl|rfl
  ·rw [zag (by omega),zai (by rw [zbn];omega),zav (by omega)]
  ·rw [zav (by simp;omega)]
 refine ⟨(μ.set a (.lst (E.map .int++[.int e]))++[aw.lst []]).set b (.lst (E.map .int++[.int e])),?_,fin 2 (by omega),.inr ⟨n,hn,by simp,?_,fin n (by omega)⟩⟩
 ·cases lo <;> cases last <;> simp only [if_true,Bool.true_eq_false,zan,if_false] at ha hb <;> subst ha <;> subst hb <;>
  simp only [hk,zan,if_false,if_true,zbU,zbo] at h1 a1 a2 a3 hq ⊢ <;>
  push_cast [au,hkv,hdx,hq,Ep,Jv,Er,zcS,N3,N2,N1,N0,NZ,NY,h1,h2,h3,a1,a2,a3,zbn,z0,z1]
 ·rw [zag (by omega)];exact a1
end
theorem wq (bt:Bool){ks:List aE}{ds:List D}{kz:List (aE×R)}(hkv:∀μ,jJ (.v (.fd ks ds)) μ=some kz){rs:List Rc}(x0 x1:Option R)(lo:Bool):∀(es:Th) (L many:Int) (last:Bool) (E:Th) (μ:ac) (x8 x9:Option R),
  (∀e∈es,cF kz (.inl e)=some (.v (.tup [.int (cn rs e - cn rs (e - 1)),.int 0])))->es.Pairwise (· < ·)->(∀x∈es,L < x)->(∀d,L<=d->(∀x∈es,d < x)->cn rs d=many)->(∀r∈rs,∀x∈r.2,L < x->x∈es) ->
  E.length+es.length<=2000->RI lo E μ->(E=[]->last=lo) ->
  ∃many' last' μ' y8 y9,cb (aV 8) (au bt) (es.map .int) [x0,x1,aP many,aP 0,some (.v (hv lo)),some (.v (hv last)),aM 1,some (.v (.fd ks ds)),x8,x9] μ =
   some (.nx [x0,x1,aP many',aP 0,some (.v (hv lo)),some (.v (hv last')),aM 1,some (.v (.fd ks ds)),y8,y9] μ')/\RI lo (E++wk (An rs) last es) μ'
 |[],L,many,last,E,μ,x8,x9,_,_,_,_,_,_,hR,_=>⟨many,last,μ,x8,x9,rfl,by rw [wk,zbm];exact hR⟩
 |e::es,L,many,last,E,μ,x8,x9,hd,hs,hL,hm,hin,hE,hR,hl=>by
  obtain ⟨p1,p2⟩:=zay.mp hs;rw [zaD] at hE
  have hm1:cn rs (e - 1)=many:=hm (e - 1) (by have:=hL e zah;omega) fun x hx=>by
   rcases zak.mp hx with rfl|hx
   ·omega
   ·have:=p1 x hx;omega
  have hmany:many+(cn rs e - cn rs (e - 1))=cn rs e:=by omega
  have hq:decide (0 < many+(cn rs e - cn rs (e - 1)))=An rs e:=by rw [hmany];exact (om e rs).2.symm
  have hdx:=hd e zah
  have hin':∀r∈rs,∀x∈r.2,e < x->x∈es:=fun r hr x hx q=>by
   rcases zak.mp (hin r hr x hx (by have:=hL e zah;omega)) with rfl|z
   ·omega
   ·exact z
  have nxt:=fun last E μ x9=>wq bt hkv (rs:=rs) x0 x1 lo es e (many+(cn rs e - cn rs (e - 1))) last E μ (some (.v (.int e))) x9 (fun y hy=>hd y (zaj _ hy)) p2 p1 (fun d q1 q2=>by
   rw [hmany];exact vG q1 fun r hr x hx q=>q2 x (hin' r hr x hx q)) hin'
  have go:∀(μ1:ac) (last1:Bool) (E1:Th),au bt [x0,x1,aP many,aP 0,some (.v (hv lo)),some (.v (hv last)),aM 1,some (.v (.fd ks ds)),aP e,x9] μ =
    some (.nx [x0,x1,aP ((many+(cn rs e - cn rs (e - 1)))),aP 0,some (.v (hv lo)),some (.v (hv last1)),aM 1,some (.v (.fd ks ds)),aP e,some (.v (hv last1))] μ1)->RI lo E1 μ1->(E1=[]->last1=lo)->E1.length+es.length<=2000->E++wk (An rs) last (e::es)=E1++wk (An rs) last1 es ->
    ∃many' last' μ' y8 y9,cb (aV 8) (au bt) ((e::es).map .int) [x0,x1,aP many,aP 0,some (.v (hv lo)),some (.v (hv last)),aM 1,some (.v (.fd ks ds)),x8,x9] μ =
     some (.nx [x0,x1,aP many',aP 0,some (.v (hv lo)),some (.v (hv last')),aM 1,some (.v (.fd ks ds)),y8,y9] μ')/\RI lo (E++wk (An rs) last (e::es)) μ':=by
   intro μ1 last1 E1 hst hR1 hl1 hE1 hw;obtain ⟨many',last',μ',y8,y9,h1,h2⟩:=nxt last1 E1 μ1 (some (.v (hv last1))) hE1 hR1 hl1;refine ⟨many',last',μ',y8,y9,?_,by rw [hw];exact h2⟩;rw [zaf,bH,oh,yk]
   show CF (au bt [x0,x1,aP many,aP 0,some (.v (hv lo)),some (.v (hv last)),aM 1,some (.v (.fd ks ds)),aP e,x9] μ) _ _ _=_
   rw [hst,pG];exact h1
  by_cases c:An rs e=last
  ·exact go μ last E (Dd hkv hdx (hq.trans c)) hR hl (by omega) (by rw [wk,if_pos c])
  ·have c':An rs e = !last:=by revert c;cases An rs e <;> cases last <;> simp
   have hw:E++wk (An rs) last (e::es)=(E++[e])++wk (An rs) (!last) es:=by rw [wk,if_neg c,c',zbj];rfl
   obtain ⟨r2,⟨rE,r1⟩|⟨n,hn,_,r1,r3⟩⟩:=hR
   ·subst rE
    have:=hl rfl;subst this;obtain ⟨μ1,s1,s2⟩:=Ac (bt:=bt) (x0:=x0) (x1:=x1) (x9:=x9) hkv hdx (hq.trans c') r1 r2;exact go μ1 _ [e] s1 s2 (by simp) (by simp;omega) hw
   ·obtain ⟨μ1,s1,s2⟩:=De (bt:=bt) (x0:=x0) (x1:=x1) (x9:=x9) hkv hdx (hq.trans c') (by omega) hn r1 r2 r3 rfl rfl
    exact go μ1 _ (E++[e]) s1 s2 (by simp) (by simp;omega) hw
theorem lD {α:Type}{c:FT}{f:FE}{rest:Lo}{μ:ac}(ea eb:α->D)(p:α->Bool)(out:α->D):∀(T:List α) (x0 x1:Option R),(∀a∈T,c (some (.v (ea a))::some (.v (eb a))::rest) μ=some (p a,μ))->(∀a∈T,p a=true->f (some (.v (ea a))::some (.v (eb a))::rest) μ=some (.v (out a),μ)) ->
  bv (ie 2 (ap (aV 0) (ap (aV 1) bn))) c f (T.map fun a=>.tup [ea a,eb a]) (x0::x1::rest) μ=some ((T.filter p).map out,μ)
 |[],_,_,_,_=>rfl
 |e::T,x0,x1,h,h'=>by
  have h1:=h e zah;have ih:=lD ea eb p out T (some (.v (ea e))) (some (.v (eb e))) (fun b hb=>h b (zaj _ hb)) (fun b hb=>h' b (zaj _ hb));have hg:ie 2 (ap (aV 0) (ap (aV 1) bn)) (.v (.tup [ea e,eb e])) (x0::x1::rest) μ=some (some (.v (ea e))::some (.v (eb e))::rest,μ):=rfl
  cases hp:p e with
  |true =>
   have h2:=h' e zah hp;simp only [zaf,bv,hg,zaw,h1,hp,if_true,h2,ih,zbz]
  |false=>simp only [zaf,bv,hg,zaw,h1,hp,zan,if_false,ih,zbz]
theorem CK:1<=sizeLine:=by decide
theorem dM {α:Type}{cs:List α}{c:α}:(cs++[c])[cs.length]?=some c:=by simp
theorem vL:∀rs:List Rc,c0 rs=((rs.filter (·.1)).length:Int)
 |[]=>rfl
 |r::rs=>by
  rw [c0,vL rs,zbz];cases r.1 <;> simp [li] <;> omega
theorem nr:∀(l:List Rc),(l.map fun _=>(0:Int)).sum=0
 |[]=>rfl
 |r::l=>by simp [nr l]
abbrev uD (u:Rc):D:=if u=(false,[]) then .fd [] [] else .fd [.inl 0] [rD u]
abbrev cR:FT:=fB (mn (F6 true .non) (ad 0))
abbrev fR:FE:=cW (af (ad 0) (af (cW (af (ax (jh false) (ad 0) (ad 1)) (af (eL qe (af (lz (ad 2) (ad 0)) ai)) ai))) ai))
theorem lT {lo:Bool}{x0:Option R}{xs:List D}{μ:ac}:bv (aV 0) cR fR (.non::xs) [x0,some (.v (hv lo)),aM 1] μ=bv (aV 0) cR fR xs [some (.v .non),some (.v (hv lo)),aM 1] μ:=by
 rw [bv];push_cast [zaw,zan,if_false]
theorem lU {lo:Bool}{x0:Option R}{xs:List D}{μ:ac}{kvs:List (aE×R)}{n:Nat}{E:Th}(h1:μ[1]?=some (.fzr kvs))(hv0:cF kvs (.inl 0)=some (.p n))(hn:μ[n]?=some (.lst (E.map .int))) :
  bv (aV 0) cR fR (.int 0::xs) [x0,some (.v (hv lo)),aM 1] μ=(bv (aV 0) cR fR xs [aP 0,some (.v (hv lo)),aM 1] μ).bind fun r=>some (.tup [.int 0,rD (lo,E)]::r.1,r.2):=by
 rw [bv];cases lo
 ·push_cast [hv,zan,if_false,zaw,h1,hv0,hn,Er]
 ·push_cast [hv,if_true,zaw,h1,hv0,hn,zcl]
theorem uI (bt:Bool)(rs:List Rc)(hs:∀r∈rs,r.2.Pairwise (· < ·))(ht:EY rs<=3000)(hl:rs.length<=2000)(he:(ui rs).length < 64):aQ bt [.fl (rs.map wD)]=some (uD (Un rs (ui rs))):=by
 rw [jG];have z1:(rs.map wD).length<=sizeLine:=bK (by rw [zal];omega);have z1':rs.length<=sizeLine:=bK (by omega);have fl:=zcK (fun r:Rc=>r.1) rs
 have cm:bv (ie 2 (ap (aV 0) (ap (aV 1) bn))) (eZ (ax c9 (ad 0) (fK (.int 0)))) (ad 1) (rs.map wD) (dz 2 [] [some (.v (.fl (rs.map wD))),none,none,none,none,none,none,none,none,none]) []=some ((rs.filter (·.1)).map (fun _=>D.int 0),[]) :=
  lD (rest:=[]) rD (fun _=>.int 0) (·.1) (fun _=>.int 0) rs none none (fun r _=>by push_cast [HW.mP]) (fun r _ _=>by push_cast [HW.mP])
 have hi:fT ((rs.filter (·.1)).map (fun _=>D.int 0))=some ((rs.filter (·.1)).map fun _=>(0:Int)):=by
  have:=Ek (ns:=(rs.filter (·.1)).map fun _=>(0:Int))
  rwa [za2] at this
 have hgt:decide ((0:Int) < (((rs.filter (·.1)).length:Nat):Int))=A0 rs:=by rw [←vL];exact (vK rs).2.symm
 have hce:=vH rs ht
 have he':((tX [] rs).map (·.1)).length < 64:=by rw [←(cN _).length_eq];exact he
 have hsF:∀μ:ac,kR bt [.v (.fd (Gr rs) (Jy rs))] μ=some (.p μ.length,μ++[.lst ((ui rs).map .int)]):=fun μ=>by
  simp only [kR,Ev,zaw,he',if_true]
 obtain ⟨L,hL⟩:=nO (ui rs);have ok:=ko rs
 obtain ⟨many',last',μ',y8,y9,e,hR⟩:=wq bt (ks:=Gr rs) (ds:=Jy rs) (kz:=(Gr rs).zip ((Jy rs).map R.v)) (fun μ=>by rw [EW,if_pos (by simp)]) (rs:=rs) (some (.v (.fl (rs.map wD)))) (some (.p 0)) (A0 rs) (ui rs) L (((rs.filter (·.1)).length:Nat):Int) (A0 rs) []
  [.lst ((rs.filter (·.1)).map (fun _=>D.int 0)),.dr [(hk (A0 rs),.p 2)],.lst [],.fz ((ui rs).map .int)] none none
  (fun x hx=>by
   have:=Jx (rs:=rs) (k:=x) ((cN _).mem_iff.mp hx)
   rwa [Bx x rs [] hs,show gv [] x=0 from rfl,zdd] at this)
  ok.up hL (fun d _ q=>by rw [←vL];exact qU fun r hr x hx=>q x ((ok.all x).mpr ⟨r,hr,hx⟩))
  (fun r hr x hx _=>(ok.all x).mpr ⟨r,hr,hx⟩) (by simp;omega) ⟨rfl,.inl ⟨rfl,rfl⟩⟩ (fun _=>rfl)
 rw [za9] at hR;have hU:Un rs (ui rs)=(A0 rs,wk (An rs) (A0 rs) (ui rs)):=rfl;rw [hU];generalize wk (An rs) (A0 rs) (ui rs)=E at hR ⊢;generalize A0 rs=lo at hR e hgt ⊢;have z2:((rs.filter (·.1)).map (fun _=>D.int 0)).length<=sizeLine:=bK (by rw [zal];omega);have z2':(rs.filter (·.1)).length<=sizeLine:=bK (by omega)
 have d6:∀(X:FS),(aq (aI 1 (cj [] 2 (bm (ad 0)) (ie 2 (ap (aV 0) (ap (aV 1) bn))) (eZ (ax c9 (ad 0) (fK (.int 0)))) (ad 1)))
  (aq (aI 2 (eL gF (af (ad 1) ai)))
  (aq (aI 3 (eL xC (af (ad 1) ai)))
  (aq (aI 4 (Jj (fB (ax Gb (ad 2) (fK (.int 0)))) (ad 3) (fK .non)))
  (aq (aI 5 (ad 4))
  (aq (aI 6 (og (ad 4) (du ai)))
  (aq (aI 7 (aS bF 1 (af (cq (ad 0)) ai)))
  (aq (dB (bm (eL (kR bt) (af (ad 7) ai))) (aV 8)
  (au bt)) X)))))))) [some (.v (.fl (rs.map wD))),none,none,none,none,none,none,none,none,none] [] =
   X [some (.v (.fl (rs.map wD))),aM 0,aP many',aP 0,some (.v (hv lo)),some (.v (hv last')),aM 1,some (.v (.fd (Gr rs) (Jy rs))),y8,y9] μ':=fun X=>by
  cases lo
  ·simp only [hv,hk,zan,if_false] at e
   push_cast [z1,z1',cm,z2,z2',zal,hi,nr,hgt,hce,hsF,e,hv,zan,if_false]
  ·simp only [hv,hk,if_true] at e
   push_cast [z1,z1',cm,z2,z2',zal,hi,nr,hgt,hce,hsF,e,hv]
 have fin:∃k n,dI bt [some (.v (.fl (rs.map wD))),none,none,none,none,none,none,none,none,none] []=some (.rt (.p n) k)/\yu k[n]?=some (uD (lo,E)):=by
  refine Exists.elim (?_:∃(k:ac) (n:Nat),bV (eL mt (af (cj [4,6] 1 (kj (ad 6)) (aV 0) cR fR) ai)) [some (.v (.fl (rs.map wD))),aM 0,aP many',aP 0,some (.v (hv lo)),some (.v (hv last')),aM 1,some (.v (.fd (Gr rs) (Jy rs))),y8,y9] μ'=some (.rt (.p n) k)/\yu k[n]?=some (uD (lo,E))) fun k h=>Exists.elim h fun n h=>⟨k,n,?_,h.2⟩
  ·obtain ⟨r2,⟨rE,r1⟩|⟨n,hn,hE,r1,r3⟩⟩:=hR
   ·subst rE
    have l2:=bG r2;cases lo
    ·simp only [hk,zan,if_false] at r1
     refine ⟨μ'.set 1 (.fzr [(.inr none,.p 2)])++[aw.lst []]++[aw.dct []],(μ'.set 1 (.fzr [(.inr none,.p 2)])++[aw.lst []]).length,?_,by rw [dM];rfl⟩;have c1:bv (aV 0) cR fR [.non] [none,some (.v .non),aM 1] (μ'.set 1 (.fzr [(.inr none,.p 2)]))=some ([],μ'.set 1 (.fzr [(.inr none,.p 2)])):=lT (lo:=false);push_cast [r1,CK,c1,dM,gl,zaw];rfl
    ·simp only [hk,if_true] at r1
     have g2:(μ'.set 1 (.fzr [(.inl 0,.p 2)]))[2]?=some (.lst (([]:Th).map .int)):=by rw [zag (by omega)];exact r2
     have g1:(μ'.set 1 (.fzr [(.inl 0,.p 2)]))[1]?=some (.fzr [(.inl 0,.p 2)]):=zav (by omega);refine ⟨μ'.set 1 (.fzr [(.inl 0,.p 2)])++[aw.lst [.tup [.int 0,rD (true,[])]]]++[aw.dct [(.inl 0,rD (true,[]))]],(μ'.set 1 (.fzr [(.inl 0,.p 2)])++[aw.lst [.tup [.int 0,rD (true,[])]]]).length,?_,by rw [dM];rfl⟩;have c1:bv (aV 0) cR fR [.int 0] [none,aP 0,aM 1] (μ'.set 1 (.fzr [(.inl 0,.p 2)]))=some ([.tup [.int 0,rD (true,[])]],μ'.set 1 (.fzr [(.inl 0,.p 2)])):=lU (lo:=true) g1 rfl g2;push_cast [r1,CK,c1,dM,gl,zaw,za8];rfl
   ·have l2:=bG r2
    have hu:uD (lo,E)=.fd [.inl 0] [rD (lo,E)]:=by
     unfold uD;rw [if_neg (fun z=>hE (congrArg Prod.snd z))]
    rw [hu];generalize hkv : [(hk lo,R.p 2),(hk (!lo),R.p n)]=kvs at r1;have g1:(μ'.set 1 (.fzr kvs))[1]?=some (.fzr kvs):=zav (by omega)
    have g2:(μ'.set 1 (.fzr kvs))[2]?=some (.lst (E.map .int)):=by rw [zag (by omega)];exact r2
    have g3:(μ'.set 1 (.fzr kvs))[n]?=some (.lst (E.map .int)):=by rw [zag (by omega)];exact r3
    refine ⟨μ'.set 1 (.fzr kvs)++[aw.lst [.tup [.int 0,rD (lo,E)]]]++[aw.dct [(.inl 0,rD (lo,E))]],(μ'.set 1 (.fzr kvs)++[aw.lst [.tup [.int 0,rD (lo,E)]]]).length,?_,by rw [dM];rfl⟩
    have c0:bv (aV 0) cR fR ((kvs.map (·.1)).map HW.kD) [none,some (.v (hv lo)),aM 1] (μ'.set 1 (.fzr kvs))=some ([.tup [.int 0,rD (lo,E)]],μ'.set 1 (.fzr kvs)):=by
     cases lo
     ·subst hkv
      exact lT.trans (by rw [show [((hk (!false):aE),R.p n)].map (·.1)=[.inl 0] from rfl];exact (lU (lo:=false) g1 rfl g3).trans rfl)
     ·subst hkv
      exact (lU (lo:=true) g1 rfl g2).trans (by erw [lT];rfl)
    have kl:((kvs.map (·.1)).map HW.kD).length=2:=by subst hkv;rfl
    push_cast [r1];rw [if_pos (by rw [kl];exact mP)];push_cast [c0,dM,gl,zaw,za8];rfl
  ·exact (d6 _).trans h.1
 obtain ⟨k,n,f1,f2⟩:=fin;rw [f1,BM,f2]
section
variable  {κ:Type}[DecidableEq κ]
theorem eV:∀(l m:List κ),l.Nodup->(∀x∈l,x∈m)->l.length<=m.length
 |[],_,_,_=>za3 _
 |x::l,m,hn,h=>by
  obtain ⟨h1,h2⟩:=zaJ.mp hn;have hx:=h x zah;have:=eV l (m.erase x) h2 fun y hy=>(List.mem_erase_of_ne (fun e=>by subst e;exact h1 hy)).mpr (h y (zaj _ hy))
  rw [List.length_erase_of_mem hx] at this
  have:0 < m.length:=List.length_pos_of_mem hx;simp only [zaD];omega
abbrev Hl (κ:Type):=List (κ×Nat×List D)
abbrev kvs (l:Hl κ):List (κ×R):=l.map fun p=>(p.1,R.p p.2.1)
def cu:Hl κ->κ->Nat->D->Hl κ
 |[],k,a,d=>[(k,a,[d])]
 |p::l,k,a,d=>if p.1=k then (p.1,p.2.1,p.2.2++[d])::l else p::cu l k a d
def cont:Hl κ->κ->List D
 |[],_=>[]
 |p::l,k=>if p.1=k then p.2.2 else cont l k
def adr:Hl κ->κ->Option Nat
 |[],_=>none
 |p::l,k=>if p.1=k then some p.2.1 else adr l k
theorem ii (k x:κ)(a:Nat)(d:D):∀l:Hl κ,cont (cu l k a d) x=cont l x++(if k=x then [d] else [])
 |[]=>by by_cases q:k=x <;> simp [cu,cont,q]
 |p::l=>by
  have ih:=ii k x a d l;rw [cu]
  by_cases q:p.1=k
  ·rw [if_pos q,cont,cont]
   by_cases z:p.1=x
   ·rw [if_pos z,if_pos z,if_pos (q.symm.trans z)]
   ·rw [if_neg z,if_neg z,if_neg (fun w=>z (q.trans w)),zbm]
  ·rw [if_neg q,cont,cont]
   by_cases z:p.1=x
   ·rw [if_pos z,if_pos z,if_neg (fun w=>q (z.trans w.symm)),zbm]
   ·rw [if_neg z,if_neg z,ih]
theorem gh (k x:κ)(a:Nat)(d:D):∀l:Hl κ,x∈(cu l k a d).map (·.1) ↔ x∈l.map (·.1)\/x=k
 |[]=>by simp [cu]
 |p::l=>by
  have ih:=gh k x a d l;rw [cu]
  by_cases q:p.1=k
  ·rw [if_pos q]
   simp only [zaf,zak];constructor
   ·exact .inl
   ·rintro (h|h)
    ·exact h
    ·exact .inl (h.trans q.symm)
  ·rw [if_neg q];simp only [zaf,zak,ih,or_assoc]
theorem nJ (k:κ)(a:Nat)(d:D):∀l:Hl κ,(l.map (·.1)).Nodup->((cu l k a d).map (·.1)).Nodup
 |[],_=>by simp [cu]
 |p::l,h=>by
  rw [zaf,zaJ] at h;rw [cu]
  by_cases q:p.1=k
  ·rw [if_pos q,zaf,zaJ];exact h
  ·rw [if_neg q,zaf,zaJ]
   refine ⟨fun z=>?_,nJ k a d l h.2⟩;rcases (gh k p.1 a d l).mp z with z|z
   ·exact h.1 z
   ·exact q z
theorem sy (k:κ)(a:Nat)(d:D):∀l:Hl κ,(cu l k a d).length<=l.length+1
 |[]=>by simp [cu]
 |p::l=>by
  have ih:=sy k a d l;rw [cu];split
  ·simp
  ·simp only [zaD];omega
theorem jm {k:κ}:∀{l:Hl κ},adr l k=none ↔ k∉l.map (·.1)
 |[]=>by simp [adr]
 |p::l=>by
  have ih:=jm (k:=k) (l:=l);rw [adr]
  by_cases q:p.1=k
  ·rw [if_pos q];simp [q]
  ·rw [if_neg q,ih,zaf,zak,not_or];exact ⟨fun h=>⟨fun z=>q z.symm,h⟩,fun h=>h.2⟩
theorem iJ {k:κ}{a:Nat}:∀{l:Hl κ},adr l k=some a->(k,a,cont l k)∈l
 |[],h=>by cases h
 |p::l,h=>by
  rw [adr] at h;rw [cont]
  by_cases q:p.1=k
  ·rw [if_pos q] at h ⊢
   cases h;rw [←q];exact zah
  ·rw [if_neg q] at h ⊢
   exact zaj _ (iJ h)
structure HD (C:List (κ×R)->aw)(n:Nat)(μ:ac)(l:Hl κ):Prop where
 dict:μ[n]?=some (C (kvs l))
 nd:(n::l.map fun p=>p.2.1).Nodup
 cell:∀p∈l,μ[p.2.1]?=some (.lst p.2.2)
theorem wO {k:κ}{a b:Nat}{d:D}:∀{l:Hl κ},k∈l.map (·.1)->kvs (cu l k b d)=kvs l/\(cu l k b d).map (fun p=>p.2.1)=l.map fun p=>p.2.1
 |[],h=>by cases h
 |p::l,h=>by
  rw [cu]
  by_cases q:p.1=k
  ·rw [if_pos q];exact ⟨rfl,rfl⟩
  ·rw [if_neg q]
   have:=wO (a:=a) (b:=b) (d:=d) (l:=l) (by
    rw [zaf] at h;rcases zak.mp h with w|w
    ·exact absurd w.symm q
    ·exact w)
   exact ⟨congrArg (_ :: ·) this.1,congrArg (_ :: ·) this.2⟩
theorem wy {k:κ}{b:Nat}{d:D}:∀{l:Hl κ} {p},(l.map (·.1)).Nodup->p∈cu l k b d->k∈l.map (·.1)->(p∈l/\p.1≠k)\/(p.1=k/\adr l k=some p.2.1/\p.2.2=cont l k++[d])
 |[],p,_,_,h=>by cases h
 |q::l,p,nd,hp,h=>by
  rw [zaf,zaJ] at nd;rw [cu] at hp;rw [adr,cont]
  by_cases z:q.1=k
  ·rw [if_pos z] at hp ⊢
   rw [if_pos z];rcases zak.mp hp with rfl|hp
   ·exact .inr ⟨z,rfl,rfl⟩
   ·exact .inl ⟨zaj _ hp,fun w=>nd.1 (by rw [z,←w];exact zba hp)⟩
  ·rw [if_neg z] at hp ⊢
   rw [if_neg z];rcases zak.mp hp with rfl|hp
   ·exact .inl ⟨zah,z⟩
   ·rcases wy nd.2 hp (by
     rw [zaf] at h;rcases zak.mp h with w|w
     ·exact absurd w.symm z
     ·exact w) with w|w
    ·exact .inl ⟨zaj _ w.1,w.2⟩
    ·exact .inr w
theorem pB {k:κ}{b:Nat}{d:D}:∀{l:Hl κ},k∉l.map (·.1)->cu l k b d=l++[(k,b,[d])]
 |[],_=>rfl
 |p::l,h=>by
  rw [zaf,zak,not_or] at h;rw [cu,if_neg (fun z=>h.1 z.symm),pB h.2];rfl
variable  {C:List (κ×R)->aw}{n:Nat}{μ:ac}{l:Hl κ}
theorem HD.lt (h:HD C n μ l):n < μ.length:=bG h.dict
theorem HD.adr (h:HD C n μ l){k:κ}{a:Nat}(e:adr l k=some a):μ[a]?=some (.lst (cont l k)):=h.cell _ (iJ e)
theorem HD.adrN (h:HD C n μ l){k:κ}{a:Nat}(e:LW.adr l k=some a):a≠n:=fun z=>by
 subst z;exact (zaJ.mp h.nd).1 (zar.mpr ⟨_,iJ e,rfl⟩)
theorem HD.old (h:HD C n μ l)(nk:(l.map (·.1)).Nodup){k:κ}{a:Nat}(e:LW.adr l k=some a)(d:D)(b:Nat):HD C n ((μ++[aw.lst []]).set a (.lst (cont l k++[d]))) (cu l k b d):=by
 have hk:k∈l.map (·.1):=by
  refine Classical.byContradiction fun z=>?_;rw [jm.mpr z] at e;cases e
 have la:=bG (h.adr e);obtain ⟨k1,k2⟩:=wO (a:=a) (b:=b) (d:=d) hk;refine ⟨?_,by rw [k2];exact h.nd,fun p hp=>?_⟩
 ·rw [zag (h.adrN e),zai h.lt,k1];exact h.dict
 ·rcases wy nk hp hk with ⟨w,w2⟩|⟨w1,w2,w3⟩
  ·have:a≠p.2.1:=fun z=>by
    have m1:=iJ e;have:=(zaJ.mp h.nd).2;obtain ⟨i,hi,e1⟩:=za7 m1;obtain ⟨j,hj,e2⟩:=za7 w;have hij:i=j:=(zbH (xs:=l.map fun p=>p.2.1) (h₀:=by simpa using hi) (h₁:=by simpa using hj) this).mp (by rw [zbI,zbI,e1,e2];exact z);subst hij;rw [e1] at e2;exact w2 (by rw [←e2])
   have hc:=h.cell p w;rw [zag this,zai (bG hc)];exact hc
  ·rw [e] at w2
   cases w2;rw [w3,zav (by simp;omega)]
theorem HD.new (h:HD C n μ l){k:κ}(hk:k∉l.map (·.1))(d:D):HD C n (((μ++[aw.lst []]).set n (C (kvs l++[(k,.p μ.length)]))).set μ.length (.lst [d])) (cu l k μ.length d):=by
 have hn:=h.lt;rw [pB hk];refine ⟨?_,?_,fun p hp=>?_⟩
 ·rw [zag (by omega),zav (by simp;omega)]
  simp [kvs]
 ·rw [zaZ,←zcH,zbE]
  refine ⟨h.nd,by simp,fun x hx y hy=>?_⟩;simp only [zaf,zaY,zaE] at hy;subst hy;rcases zak.mp hx with rfl|hx
  ·omega
  ·obtain ⟨p,hp,rfl⟩:=zar.mp hx
   have:=bG (h.cell p hp);omega
 ·rcases zaW.mp hp with hp|hp
  ·have hc:=h.cell p hp
   have:=bG hc;have pn:n≠p.2.1:=fun z=>(zaJ.mp h.nd).1 (by rw [z];exact zba (f:=fun p:κ×Nat×List D=>p.2.1) hp);rw [zag (by omega),zag pn,zai this];exact hc
  ·rw [zaE] at hp
   subst hp;rw [zav (by simp)]
end
abbrev dC (l:List (Int×R)):aw:=.dr (l.map fun q=>(.inl q.1,q.2))
theorem JU (k:Int):∀l:Hl Int,cF ((kvs l).map fun q=>((.inl q.1:aE),q.2)) (.inl k)=(adr l k).map R.p
 |[]=>rfl
 |p::l=>by
  have ih:=JU k l;unfold cF at ih ⊢;rw [adr];simp only [kvs,zaf]
  by_cases q:p.1=k
  ·rw [zbV (by simp [q]),if_pos q];rfl
  ·have q':¬ ((Sum.inl p.1:aE)=.inl k):=fun z=>q (Sum.inl.inj z)
   rw [zbW (by simp [q']),if_neg q];exact ih
abbrev Cs (i:Int)(r:Rc):D:=.tup [.int i,rD r]
structure SB (M:Th)(μ:ac)(l:Hl Int)(N:Nat):Prop where
 hd:HD dC 0 μ l
 nk:(l.map (·.1)).Nodup
 km:∀k∈l.map (·.1),k∈M
 cl:∀k,(cont l k).length<=N
theorem CT {x0 x3:Option R}{i t:Int}{r:Rc}{μ:ac}{l:Hl Int}{N:Nat}{M:Th}(hM:M.length < 1000)(h:SB M μ l N)(ht:t∈M)(hN:N < 3000) :
  ∃μ' b,cg [x0,aM 0,aP i,x3,aP t,some (.v (rD r))] μ=some (.nx [x0,aM 0,aP i,x3,aP t,some (.v (rD r))] μ')/\SB M μ' (cu l t b (Cs i r)) (N+1):=by
 have hdd:=h.hd.dict;have lt:=h.hd.lt
 have h2:(μ++[aw.lst []])[0]?=some (dC (kvs l)):=by rw [zai lt];exact hdd
 have zl:((kvs l).map fun q=>((.inl q.1:aE),q.2)).length < 1000:=by have:=eV _ M h.nk h.km;rw [zal] at this;simp;omega
 have zc:(cont l t).length < sizeLine:=dA (by have:=h.cl t;omega);have z0:(0:Nat) < sizeLine:=dA (by omega)
 have sb:∀(μ':ac) (b:Nat),HD dC 0 μ' (cu l t b (Cs i r))->SB M μ' (cu l t b (Cs i r)) (N+1):=fun μ' b hh=>⟨hh,nJ _ _ _ _ h.nk,fun k hk=>by
   rcases (gh t k b (Cs i r) l).mp hk with z|z
   ·exact h.km k z
   ·exact z ▸ ht,fun k=>by
  rw [ii,zaX];have:=h.cl k;split
  ·simp;omega
  ·simp;omega⟩
 have vi:=JU t l
 cases e:adr l t with
 |some a =>
  have ga:=h.hd.adr e
  have g2:(μ++[aw.lst []])[a]?=some (.lst (cont l t)):=by rw [zai (bG ga)];exact ga
  rw [e,za8] at vi;refine ⟨_,0,?_,sb _ 0 (h.hd.old h.nk e (Cs i r) 0)⟩;push_cast [cg,dC,hdd,h2,zl,vi,g2,zc]
 |none =>
  rw [e,Option.map_none] at vi
  have g2:((μ++[aw.lst []]).set 0 (.dr (((kvs l).map fun q=>((.inl q.1:aE),q.2))++[(.inl t,.p μ.length)])))[μ.length]?=some (.lst []):=by
   rw [zag (by omega)];exact dM
  have hn:=h.hd.new (jm.mp e) (Cs i r);refine ⟨_,μ.length,?_,sb _ _ hn⟩;push_cast [cg,hdd,h2,zl,vi,g2,z0,za9,dC,zaZ]
theorem FJ {x0 x3:Option R}{i:Int}{M:Th}(hM:M.length < 1000):∀(qs:List (Int×Rc)) {μ:ac} {l:Hl Int} {N:Nat} (x4 x5:Option R),SB M μ l N->(∀q∈qs,q.1∈M)->N+qs.length < 3000 ->
  ∃μ' l' y4 y5,cb (ie 2 (ap (aV 4) (ap (aV 5) bn))) cg (qs.map sD) [x0,aM 0,aP i,x3,x4,x5] μ=some (.nx [x0,aM 0,aP i,x3,y4,y5] μ')/\SB M μ' l' (N+qs.length) /\
   (∀x,cont l' x=cont l x++(qs.filter fun q=>decide (q.1=x)).map fun q=>Cs i q.2)/\(∀x,x∈l'.map (·.1) ↔ x∈l.map (·.1)\/x∈qs.map (·.1))
 |[],μ,l,N,x4,x5,h,_,_=>⟨μ,l,x4,x5,rfl,h,fun x=>by simp,fun x=>by simp⟩
 |q::qs,μ,l,N,x4,x5,h,hq,hN=>by
  rw [zaD] at hN;obtain ⟨μ1,b,e1,h1⟩:=CT (x0:=x0) (x3:=x3) (i:=i) (t:=q.1) (r:=q.2) hM h (hq q zah) (by omega);obtain ⟨μ2,l2,y4,y5,e2,h2,c2,k2⟩:=FJ (x0:=x0) (x3:=x3) (i:=i) hM qs (some (.v (.int q.1))) (some (.v (rD q.2))) h1 (fun x hx=>hq x (zaj _ hx)) (by omega);refine ⟨μ2,l2,y4,y5,?_,by rw [zaD,show N+(qs.length+1)=N+1+qs.length by omega];exact h2,fun x=>?_,fun x=>?_⟩
  ·rw [zaf,bH]
   push_cast [sD] at e1 ⊢;rw [e1,pG];exact e2
  ·rw [c2,ii,zbj,zbz]
   by_cases z:q.1=x <;> simp [z]
  ·rw [k2,gh,zaf,zak,or_assoc]
abbrev Pl:=Rc×List (Int×Rc)
abbrev eT (p:Pl):D:=pD p.1 p.2
def CM (x:Int):Int->List Pl->List D
 |_,[]=>[]
 |i,p::ps=>((p.2.filter fun q=>decide (q.1=x)).map fun q=>Cs i q.2)++CM x (i+1) ps
def qf:List Pl->Nat
 |[]=>0
 |p::ps=>p.2.length+qf ps
def JR:Int->List Pl->List D
 |_,[]=>[]
 |i,p::ps=>.tup [.int i,eT p]::JR (i+1) ps
theorem Js (ps:List Pl):lA (ps.map eT)=JR 0 ps:=by
 have key:∀(ps:List Pl) (i:Nat),((ps.map eT).zipIdx i).map (fun p=>D.tup [.int ((p.2:Nat):Int),p.1])=JR (i:Int) ps:=by
  intro ps
  induction ps with
  |nil=>intro i;rfl
  |cons p ps ih =>
   intro i;have:=ih (i+1);simp only [zaf,List.zipIdx_cons,JR,this];rw [show ((i+1:Nat):Int)=(i:Int)+1 by omega]
 exact key ps 0
theorem zN {x0:Option R}{M:Th}(hM:M.length < 1000):∀(ps:List Pl) {i:Int} {μ:ac} {l:Hl Int} {N:Nat} (x2 x3 x4 x5:Option R),SB M μ l N->(∀p∈ps,∀q∈p.2,q.1∈M)->N+qf ps < 3000 ->
  ∃μ' l' y2 y3 y4 y5,cb (ie 2 (ap (aV 2) (ap (aV 3) bn))) ez (JR i ps) [x0,aM 0,x2,x3,x4,x5] μ=some (.nx [x0,aM 0,y2,y3,y4,y5] μ')/\SB M μ' l' (N+qf ps) /\
   (∀x,cont l' x=cont l x++CM x i ps)/\(∀x,x∈l'.map (·.1) ↔ x∈l.map (·.1)\/∃p∈ps,x∈p.2.map (·.1))
 |[],i,μ,l,N,x2,x3,x4,x5,h,_,_=>⟨μ,l,x2,x3,x4,x5,rfl,h,fun x=>by simp [CM],fun x=>by simp⟩
 |p::ps,i,μ,l,N,x2,x3,x4,x5,h,hq,hN=>by
  rw [qf] at hN;obtain ⟨μ1,l1,z4,z5,e1,h1,c1,k1⟩:=FJ (x0:=x0) (x3:=some (.v (eT p))) (i:=i) hM p.2 x4 x5 h (hq p zah) (by omega);obtain ⟨μ2,l2,y2,y3,y4,y5,e2,h2,c2,k2⟩:=zN (x0:=x0) hM ps (i:=i+1) (some (.v (.int i))) (some (.v (eT p))) z4 z5 h1 (fun x hx=>hq x (zaj _ hx)) (by omega);refine ⟨μ2,l2,y2,y3,y4,y5,?_,by rw [qf,←Nat.add_assoc];exact h2,fun x=>?_,fun x=>?_⟩
  ·rw [JR,bH]
   push_cast [ez,eT,pD] at e1 ⊢;rw [e1,pG];exact e2
  ·rw [c2,c1,CM,zbj]
  ·rw [k2,k1,or_assoc];simp
theorem Gg:∀(l:Hl Int) (μ:ac),(l.map fun p=>p.2.1).Nodup->(∀p∈l,μ[p.2.1]?=some (.lst p.2.2))->∃μ',yi (((kvs l).map fun q=>((.inl q.1:aE),q.2)).map (·.2)) μ=some (l.map (fun p=>.fl p.2.2),μ')
 |[],μ,_,_=>⟨μ,rfl⟩
 |p::l,μ,nd,hc=>by
  rw [zaf,zaJ] at nd;have c0:=hc p zah
  obtain ⟨μ',e⟩:=Gg l (μ.set p.2.1 (.fz p.2.2)) nd.2 fun q hq=>by
   have hne:p.2.1≠q.2.1:=fun z=>nd.1 (by rw [z];exact zba (f:=fun p:Int×Nat×List D=>p.2.1) hq);rw [zag hne];exact hc q (zaj _ hq)
  refine ⟨μ',?_⟩;simp only [zaf,yi,MT,c0,zaw] at e ⊢;rw [e];rfl
structure ST (ps:List Pl)(ks:List aE)(ds:List D):Prop where
 ex:∃ts:Th,fg ks=some ts/\ts.Nodup/\(∀x,x∈ts ↔ ∃p∈ps,x∈p.2.map (·.1))/\∃kz,(∀μ,jJ (.v (.fd ks ds)) μ=some kz)/\∀t∈ts,cF kz (.inl t)=some (.v (.fl (CM t 0 ps)))
theorem sW:∀l:Hl Int,fg (((kvs l).map fun q=>((.inl q.1:aE),q.2)).map (·.1))=some (l.map (·.1))
 |[]=>rfl
 |p::l=>by
  have:=sW l;simp only [kvs,zaf,fg] at this ⊢;rw [this];rfl
theorem JV {k:Int}:∀l:Hl Int,k∈l.map (·.1)->cF ((((kvs l).map fun q=>((.inl q.1:aE),q.2)).map (·.1)).zip ((l.map fun p=>D.fl p.2.2).map R.v)) (.inl k)=some (.v (.fl (cont l k)))
 |[],h=>by cases h
 |p::l,h=>by
  have ih:=JV (k:=k) l;unfold cF at ih ⊢;rw [cont];simp only [kvs,zaf,zc2] at ih ⊢
  by_cases q:p.1=k
  ·rw [zbV (by simp [q]),if_pos q];rfl
  ·have q':¬ ((Sum.inl p.1:aE)=.inl k):=fun z=>q (Sum.inl.inj z)
   rw [zbW (by simp [q']),if_neg q];refine ih ?_;rw [zaf] at h;rcases zak.mp h with w|w
   ·exact absurd w.symm q
   ·exact w
theorem zA (ps:List Pl){M:Th}(hM:M.length < 1000)(hq:∀p∈ps,∀q∈p.2,q.1∈M)(hN:qf ps < 3000):∃ks ds,bY [.fl (ps.map eT)]=some (.fd ks ds)/\ST ps ks ds:=by
 rw [mC];obtain ⟨μ,l,y2,y3,y4,y5,e,h,c,k⟩:=zN (x0:=some (.v (.fl (ps.map eT)))) hM ps (i:=0) (μ:=[.dr []]) (l:=[]) (N:=0) none none none none ⟨⟨rfl,by simp,fun _ h=>nomatch h⟩,by simp,by simp,fun k=>by simp [cont]⟩ hq (by omega);obtain ⟨μ',ef⟩:=Gg l μ (zaJ.mp h.hd.nd).2 h.hd.cell
 have hdr:tL μ 0=some ((kvs l).map fun q=>((.inl q.1:aE),q.2)):=by simp only [tL,h.hd.dict,dC]
 refine ⟨((kvs l).map fun q=>((.inl q.1:aE),q.2)).map (·.1),l.map fun p=>.fl p.2.2,?_,⟨l.map (·.1),sW l,h.nk,fun x=>by rw [k];simp,_,fun μ=>by rw [EW,if_pos (by simp)],fun t ht=>?_⟩⟩
 ·push_cast [fQ,Js,e]
  push_cast [Eb,zaw,hdr,ef]
 ·rw [JV l ht,c t];rfl
def upd (t:Int)(qs:List (Int×Rc))(r:Rc):Rc:=(qs.filter fun q=>decide (q.1=t)).foldl (fun _ q=>q.2) r
theorem pS {t:Int}{qs:List (Int×Rc)}(h:∀q∈qs,t < q.1):(qs.filter fun q=>decide (q.1=t))=[]:=by
 rw [List.filter_eq_nil_iff];intro q hq;have:=h q hq;simp;omega
theorem yK {t t':Int}(ht:t' < t):∀{qs:List (Int×Rc)} {g:Rc},Up qs->(∀q∈qs,t' < q.1->t<=q.1)->upd t qs (ra g qs t')=ra g qs t
 |[],_,_,_=>rfl
 |q::qs,g,hu,h=>by
  obtain ⟨p1,p2⟩:=zay.mp hu;have h0:=h q zah;have ih:=yK ht (qs:=qs) (g:=q.2) p2 fun x hx=>h x (zaj _ hx);rw [ra,ra];unfold upd at ih ⊢
  by_cases z:t' < q.1
  ·have z2:=h0 z
   rw [if_pos z]
   by_cases w:t < q.1
   ·rw [if_pos w,List.filter_cons_of_neg (by simp;omega),pS fun x hx=>by have:=p1 x hx;omega];rfl
   ·have:q.1=t:=by omega
    rw [if_neg w,List.filter_cons_of_pos (by simpa using this),pS fun x hx=>by have:=p1 x hx;omega,cJ _ _ _ fun x hx=>by have:=p1 x hx;omega];rfl
  ·rw [if_neg z,if_neg (by omega),List.filter_cons_of_neg (by simp;omega),ih]
def Cp (x:Int):Nat->List Pl->List (Nat×Rc)
 |_,[]=>[]
 |i,p::ps=>((p.2.filter fun q=>decide (q.1=x)).map fun q=>(i,q.2))++Cp x (i+1) ps
theorem wj (x:Int):∀(ps:List Pl) (i:Nat),CM x (i:Int) ps=(Cp x i ps).map fun e=>Cs (e.1:Int) e.2
 |[],_=>rfl
 |p::ps,i=>by
  have:=wj x ps (i+1);rw [CM,Cp,zaZ,←this,za2,show ((i+1:Nat):Int)=(i:Int)+1 by omega];rfl
def xF (R:List Rc)(e:Nat×Rc):List Rc:=R.set e.1 e.2
def yG (t:Int):List Pl->List Rc->List Rc
 |p::ps,b::B=>upd t p.2 b::yG t ps B
 |_,_=>[]
theorem CS {α:Type}(A:List α)(b x:α)(B:List α):(A++b::B).set A.length x=A++x::B:=by simp
theorem tq (A B:List Rc):∀(fs:List (Int×Rc)) (b:Rc),(fs.map fun q=>(A.length,q.2)).foldl xF (A++b::B)=A++(fs.foldl (fun _ q=>q.2) b)::B
 |[],b=>rfl
 |f::fs,b=>by
  rw [zaf,zbf,zbf,xF,CS];exact tq A B fs f.2
theorem tt (t:Int):∀(ps:List Pl) (A B:List Rc),B.length=ps.length->(Cp t A.length ps).foldl xF (A++B)=A++yG t ps B
 |[],A,B,h=>by
  have:B=[]:=zbD.mp h;subst this;rfl
 |p::ps,A,[],h=>by cases h
 |p::ps,A,b::B,h=>by
  have ih:=tt t ps (A++[upd t p.2 b]) B (by simpa using h);rw [zaX,List.length_singleton] at ih;rw [Cp,List.foldl_append,tq,yG]
  show (Cp t (A.length+1) ps).foldl xF (A++upd t p.2 b::B)=_
  rw [show A++upd t p.2 b::B=A++[upd t p.2 b]++B by simp,ih];simp
abbrev bW (ps:List Pl)(t:Int):List Rc:=ps.map fun p=>ra p.1 p.2 t
theorem yF {t t':Int}(ht:t' < t):∀{ps:List Pl},(∀p∈ps,Up p.2)->(∀p∈ps,∀q∈p.2,t' < q.1->t<=q.1)->yG t ps (bW ps t')=bW ps t
 |[],_,_=>rfl
 |p::ps,h1,h2=>by
  have:=yF ht (ps:=ps) (fun x hx=>h1 x (zaj _ hx)) fun x hx=>h2 x (zaj _ hx);simp only [bW,zaf,yG] at this ⊢;rw [this,yK ht (h1 p zah) (h2 p zah)]
theorem zE (t:Int):∀(ps:List Pl) (i:Nat),∀e∈Cp t i ps,e.1 < i+ps.length
 |[],_,e,h=>by cases h
 |p::ps,i,e,h=>by
  rw [Cp] at h;rw [zaD];rcases zaW.mp h with h|h
  ·obtain ⟨q,_,rfl⟩:=zar.mp h
   show i < _;omega
  ·have:=zE t ps (i+1) e h;omega
theorem r9 (bt:Bool){x0 x1 x3 x4 x5 x6 x7 x10 x11:Option R}:∀(es:List (Nat×Rc)) (S:List Rc) (μ:ac) (x8 x9:Option R),μ[1]?=some (.lst (S.map rD))->(∀e∈es,e.1 < S.length) ->
  ∃y8 y9,cb (ie 2 (ap (aV 8) (ap (aV 9) bn))) (cz bt) (es.map fun e=>Cs (e.1:Int) e.2) [x0,x1,aM 1,x3,x4,x5,x6,x7,x8,x9,x10,x11] μ =
   some (.nx [x0,x1,aM 1,x3,x4,x5,x6,x7,y8,y9,x10,x11] (μ.set 1 (.lst ((es.foldl xF S).map rD))))
 |[],S,μ,x8,x9,h,_=>⟨x8,x9,by
   have:μ.set 1 (.lst (S.map rD))=μ:=by
    obtain ⟨h1,h2⟩:=zau.mp h;rw [←h2];exact List.set_getElem_self h1
   rw [List.foldl_nil,this];rfl⟩
 |e::es,S,μ,x8,x9,h,hl=>by
  have h1:=bG h;have he:=hl e zah;obtain ⟨y8,y9,ih⟩:=r9 bt (x0:=x0) (x1:=x1) (x3:=x3) (x4:=x4) (x5:=x5) (x6:=x6) (x7:=x7) (x10:=x10) (x11:=x11) es (S.set e.1 e.2) (μ.set 1 (.lst ((S.set e.1 e.2).map rD))) (some (.v (.int (e.1:Int)))) (some (.v (rD e.2))) (zav h1) (fun x hx=>by rw [zbn];exact hl x (zaj _ hx));refine ⟨y8,y9,?_⟩
  have hi:Bj (S.map rD).length (e.1:Int)=some e.1:=by
   unfold Bj;rw [if_pos (by omega),if_pos (by rw [zal];omega)];simp
  have hm:(S.map rD).set e.1 (rD e.2)=(S.set e.1 e.2).map rD:=by rw [List.map_set]
  rw [zaf,bH];push_cast [cz,h,hi,hm];rw [List.set_set] at ih;exact ih
abbrev NO:Rc:=(false,[])
def PI (n:Nat)(pr:Bool)(L:List (Int×Rc))(μ:ac):Prop:=1 < n/\((pr=false/\L=[]/\μ[n]?=some (.dr []))\/(pr=true/\∃m,1 < m/\m≠n/\μ[n]?=some (.dr [(.inl 0,.p m)])/\μ[m]?=some (.lst (L.map sD))))
theorem PI.more {n pr L μ}(h:PI n pr L μ)(ν:ac):PI n pr L (μ++ν):=by
 obtain ⟨h0,⟨h1,h2,h3⟩|⟨h1,m,h2,h3,h4,h5⟩⟩:=h
 ·exact ⟨h0,.inl ⟨h1,h2,by rw [zai (bG h3)];exact h3⟩⟩
 ·exact ⟨h0,.inr ⟨h1,m,h2,h3,by rw [zai (bG h4)];exact h4,by rw [zai (bG h5)];exact h5⟩⟩
theorem PI.set1 {n pr L μ}(h:PI n pr L μ)(c:aw):PI n pr L (μ.set 1 c):=by
 obtain ⟨h0,⟨h1,h2,h3⟩|⟨h1,m,h2,h3,h4,h5⟩⟩:=h
 ·exact ⟨h0,.inl ⟨h1,h2,by rw [zag (by omega)];exact h3⟩⟩
 ·exact ⟨h0,.inr ⟨h1,m,h2,h3,by rw [zag (by omega)];exact h4,by rw [zag (by omega)];exact h5⟩⟩
def Pz (μ ν:ac):Prop:=ν[0]?=μ[0]?/\ν[1]?=μ[1]?
section
variable  {bt:Bool}{x0 x1 x2 x3 x4 x6 x8 x9 x11:Option R}{n:Nat}{t:Int}{U:Rc}{pr:Bool}{L:List (Int×Rc)}{μ:ac}
theorem MA {a:R}:cF [(.inl 0,a)] (.inl 0)=some a:=rfl
theorem Dq (h:PI n pr L μ)(hL:L.length < 1000) :
  ∃μ',cb (aV 11) (bJ bt) [.int 0] [x0,x1,x2,x3,x4,aM n,x6,aP t,x8,x9,some (.v (.fd [.inl 0] [rD U])),x11] μ =
   some (.nx [x0,x1,x2,x3,x4,aM n,x6,aP t,x8,x9,some (.v (.fd [.inl 0] [rD U])),aP 0] μ')/\PI n true (L++[(t,U)]) μ'/\Pz μ μ':=by
 have z0:(0:Nat) < sizeLine:=dA (by omega)
 have z1:(0:Nat) < 1000:=by omega
 have z2:(1:Nat) < 1000:=by omega
 have kr:∀μ:ac,jJ (.v (.fd [.inl 0] [rD U])) μ=some [(.inl 0,.v (rD U))]:=fun _=>rfl;have vn:cF [] (.inl 0)=none:=rfl;obtain ⟨h0,⟨h1,h2,h3⟩|⟨h1,m,h2,h3,h4,h5⟩⟩:=h
 ·subst h2
  have l3:=bG h3
  have a1:(μ++[aw.lst []])[n]?=some (.dr []):=by rw [zai l3];exact h3
  have a2:((μ++[aw.lst []]).set n (.dr [(.inl 0,.p μ.length)]))[μ.length]?=some (.lst []):=by
   rw [zag (by omega)];exact dM
  refine ⟨((μ++[aw.lst []]).set n (.dr [(.inl 0,.p μ.length)])).set μ.length (.lst [sD (t,U)]),?_,⟨h0,.inr ⟨rfl,μ.length,by omega,by omega,?_,?_⟩⟩,?_,?_⟩
  ·rw [bH]
   push_cast [bJ,h3,a1,vn,kr,MA,z0,z1,a2,za9]
  ·rw [zag (by omega),zav (by simp;omega)]
  ·rw [zav (by simp)];rfl
  ·rw [zag (by omega),zag (by omega),zai (by omega)]
  ·rw [zag (by omega),zag (by omega),zai (by omega)]
 ·have l4:=bG h4
  have l5:=bG h5
  have a1:(μ++[aw.lst []])[n]?=some (.dr [(.inl 0,.p m)]):=by rw [zai l4];exact h4
  have a2:(μ++[aw.lst []])[m]?=some (.lst (L.map sD)):=by rw [zai l5];exact h5
  have zl:(L.map sD).length < sizeLine:=dA (by rw [zal];omega);refine ⟨(μ++[aw.lst []]).set m (.lst (L.map sD++[sD (t,U)])),?_,⟨h0,.inr ⟨rfl,m,h2,h3,?_,?_⟩⟩,?_,?_⟩
  ·rw [bH]
   push_cast [bJ,h4,a1,kr,MA,z2,a2,zl]
  ·rw [zag (by omega)];exact a1
  ·rw [zav (by simp;omega),zaZ];rfl
  ·rw [zag (by omega),zai (by omega)]
  ·rw [zag (by omega),zai (by omega)]
theorem Dp:cb (aV 11) (bu bt) [.int 0] [x0,x1,x2,x3,x4,aM n,x6,aP t,x8,x9,some (.v (.fd [.inl 0] [rD U])),x11] μ =
      some (.nx [x0,x1,x2,x3,x4,aM n,x6,aP t,x8,x9,some (.v (.fd [.inl 0] [rD U])),aP 0] μ):=by
  have k:(([(Sum.inl 0:aE)].any fun k=>decide (k=.inl 0)))=true:=rfl;rw [bH];push_cast [bu,k]
theorem Dr (h:PI n true L μ)(hL:L.length < 1000) :
  ∃μ',cb (aV 11) (bu bt) [.int 0] [x0,x1,x2,x3,x4,aM n,x6,aP t,x8,x9,some (.v (.fd [] [])),x11] μ =
   some (.nx [x0,x1,x2,x3,x4,aM n,x6,aP t,x8,x9,some (.v (.fd [] [])),aP 0] μ')/\PI n true (L++[(t,NO)]) μ'/\Pz μ μ':=by
 obtain ⟨h0,⟨h1,h2,h3⟩|⟨h1,m,h2,h3,h4,h5⟩⟩:=h
 ·cases h1
 ·have l5:=bG h5
  have k:((([]:List aE).any fun k=>decide (k=.inl 0)))=false:=rfl;have zl:(L.map sD).length < sizeLine:=dA (by rw [zal];omega);refine ⟨μ.set m (.lst (L.map sD++[sD (t,NO)])),?_,⟨h0,.inr ⟨rfl,m,h2,h3,?_,?_⟩⟩,?_,?_⟩
  ·rw [bH]
   push_cast [bu,k,h4,MA,h5,zl];rfl
  ·rw [zag (by omega)];exact h4
  ·rw [zav (by omega),zaZ];rfl
  ·rw [zag (by omega)]
  ·rw [zag (by omega)]
end
structure BP (ES TS:Th)(p:Pl):Prop where
 pf:Pf p.1 p.2
 ge:∀e∈p.1.2,e∈ES
 re:∀q∈p.2,∀e∈q.2.2,e∈ES
 te:∀q∈p.2,q.1∈TS
theorem rG {l:Th}(h:l.Pairwise (· < ·)):l.Nodup:=h.imp fun h=>by omega
theorem BP.at {ES TS p}(b:BP ES TS p)(t:Int):(ra p.1 p.2 t).2.Pairwise (· < ·)/\(∀e∈(ra p.1 p.2 t).2,e∈ES)/\(ra p.1 p.2 t).2.length<=ES.length:=by
 have h1:=b.pf.at t
 have h2:∀e∈(ra p.1 p.2 t).2,e∈ES:=by
  rcases Af (qs:=p.2) (g:=p.1) (t:=t) with h|⟨q,hq,h⟩
  ·rw [h];exact b.ge
  ·rw [h];exact b.re q hq
 exact ⟨h1,h2,eV _ _ (rG h1) h2⟩
abbrev UU (ps:List Pl)(t:Int):Rc:=Un (bW ps t) (ui (bW ps t))
section
variable  {ES TS:Th}
theorem yQ {t:Int}:∀{ps:List Pl},(∀p∈ps,BP ES TS p)->EY (bW ps t)<=ES.length * ps.length
 |[],_=>by simp [EY]
 |p::ps,h=>by
  have ih:=yQ (t:=t) (ps:=ps) fun x hx=>h x (zaj _ hx);have:=((h p zah).at t).2.2;simp only [bW,zaf,EY,zaD,Nat.mul_add,Nat.mul_one] at ih ⊢;omega
theorem Ju {t:Int}{ps:List Pl}(h:∀p∈ps,BP ES TS p):(ui (bW ps t)).length<=ES.length/\∀e∈ui (bW ps t),e∈ES:=by
 have ok:=ko (bW ps t)
 have h2:∀e∈ui (bW ps t),e∈ES:=fun e he=>by
  obtain ⟨r,hr,h1⟩:=(ok.all e).mp he;obtain ⟨p,hp,rfl⟩:=zar.mp hr;exact ((h p hp).at t).2.1 e h1
 exact ⟨eV _ _ (rG ok.up) h2,h2⟩
theorem FM (bt:Bool){t:Int}{ps:List Pl}(hE:ES.length<=16)(h:∀p∈ps,BP ES TS p)(hn:ps.length<=80):aQ bt [.fl ((bW ps t).map wD)]=some (uD (UU ps t)) :=
 uI bt (bW ps t) (fun r hr=>by obtain ⟨p,hp,rfl⟩:=zar.mp hr;exact ((h p hp).at t).1)
  (by
   have:=yQ (t:=t) h;have:=Nat.mul_le_mul hE hn
   omega) (by rw [zal];omega) (by have:=(Ju (t:=t) h).1;omega)
theorem yD:∀(ps:List Pl) (f:Pl->Rc),jP ((ps.map f).map rD) (ps.map fun _=>D.int 0)=(ps.map f).map wD
 |[],_=>rfl
 |p::ps,f=>by
  have:=yD ps f;unfold jP at this ⊢;simp only [zaf,zc2,this]
theorem vZ:uD NO=.fd [] []:=rfl
theorem rO {U:Rc}(h:U≠NO):uD U=.fd [.inl 0] [rD U]:=if_neg h
theorem nD {μ:ac}{c c':aw}:(μ++[c]).set μ.length c'=μ++[c']:=by simp
theorem Di (bt:Bool){ks:List aE}{ds:List D}{kz:List (aE×R)}(hkv:∀μ,jJ (.v (.fd ks ds)) μ=some kz){ps:List Pl}(hE:ES.length<=16)(hb:∀p∈ps,BP ES TS p)(hn:ps.length<=80){x0 x4 x8 x9 x10 x11:Option R}{n:Nat}{t T:Int}{last:Rc}{pr:Bool}{L:List (Int×Rc)}{μ:ac}
  (hv:cF kz (.inl t)=some (.v (.fl (CM t 0 ps)))) (hT:T < t) (hin:∀p∈ps,∀q∈p.2,T < q.1->t<=q.1) (h0:μ[0]?=some (.lst (ps.map fun _=>.int 0))) (h1:μ[1]?=some (.lst ((bW ps T).map rD))) (hp:PI n pr L μ) (hl:last≠NO->pr=true) (hL:L.length < 1000) :
  ∃μ' pr' L' y8 y9 y11,bc bt [x0,aM 0,aM 1,some (.v (.fd ks ds)),x4,aM n,some (.v (uD last)),aP t,x8,x9,x10,x11] μ =
    some (.nx [x0,aM 0,aM 1,some (.v (.fd ks ds)),x4,aM n,some (.v (uD (UU ps t))),aP t,y8,y9,some (.v (uD (UU ps t))),y11] μ') /\
   μ'[0]?=some (.lst (ps.map fun _=>.int 0))/\μ'[1]?=some (.lst ((bW ps t).map rD))/\PI n pr' L' μ'/\(UU ps t≠NO->pr'=true)/\(pr=true->pr'=true) /\
   L'=(if UU ps t=NO/\last=NO then L else L++[(t,UU ps t)]):=by
 have hfold:(Cp t 0 ps).foldl xF (bW ps T)=bW ps t:=by
  have:=tt t ps [] (bW ps T) (by simp)
  rw [za9,za9,zco] at this
  rw [this,yF hT (fun p hp=>(hb p hp).pf.up) hin]
 obtain ⟨y8,y9,e1⟩:=r9 bt (x0:=x0) (x1:=some (.p 0)) (x3:=some (.v (.fd ks ds))) (x4:=x4) (x5:=some (.p n)) (x6:=some (.v (uD last))) (x7:=some (.v (.int t))) (x10:=x10) (x11:=x11) (Cp t 0 ps) (bW ps T) μ x8 x9 h1 (fun e he=>by have:=zE t ps 0 e he;rw [zal];omega);have hst:=wj t ps 0;rw [show ((0:Nat):Int)=0 from rfl] at hst;rw [←hst,hfold] at e1;have l1:=bG h1;have a1:(μ.set 1 (.lst ((bW ps t).map rD)))[1]?=some (.lst ((bW ps t).map rD)):=zav l1
 have a0:(μ.set 1 (.lst ((bW ps t).map rD)))[0]?=some (.lst (ps.map fun _=>.int 0)):=by rw [zag (by omega)];exact h0
 have hz:=yD ps (fun p=>ra p.1 p.2 t);have hre:=FM bt (t:=t) hE hb hn;have z1:((bW ps t).map rD).length=(ps.map fun _=>D.int 0).length/\((bW ps t).map rD).length<=sizeLine:=⟨by simp,bK (by simp;omega)⟩;have hp2:PI n pr L (μ.set 1 (.lst ((bW ps t).map rD))++[aw.fz ((bW ps t).map wD)]):=(hp.set1 _).more _;generalize hμ:μ.set 1 (.lst ((bW ps t).map rD))=μ1 at e1 a1 a0 hp2
 have b0:(μ1++[aw.fz ((bW ps t).map wD)])[0]?=some (.lst (ps.map fun _=>.int 0)):=by rw [zai (bG a0)];exact a0
 have b1:(μ1++[aw.fz ((bW ps t).map wD)])[1]?=some (.lst ((bW ps t).map rD)):=by rw [zai (bG a1)];exact a1
 have lk:(μ1++[aw.lst ((bW ps t).map wD)])[μ1.length]?=some (.lst ((bW ps t).map wD)):=dM
 have d6:∀X:FS,(aq (dB (bm (lz (ad 3) (ad 7))) (ie 2 (ap (aV 8) (ap (aV 9) bn))) (cz bt))
   (aq (aI 10 (aS (aQ bt) 1 (af (cq (n8 (ad 2) (ad 1))) ai))) X)) [x0,aM 0,aM 1,some (.v (.fd ks ds)),x4,aM n,some (.v (uD last)),aP t,x8,x9,x10,x11] μ =
   X [x0,aM 0,aM 1,some (.v (.fd ks ds)),x4,aM n,some (.v (uD last)),aP t,y8,y9,some (.v (uD (UU ps t))),x11] (μ1++[aw.fz ((bW ps t).map wD)]):=fun X=>by
  have z2:(ps.map fun _=>D.int 0).length<=sizeLine:=bK (by simp;omega);push_cast [hkv,hv,e1,a1,a0,z1,z2,hz,lk,nD,hre,and_self]
 refine Exists.imp (fun μ' h=>Exists.imp (fun pr' h=>Exists.imp (fun L' h=>?_) h) h) (?_:∃μ' pr' L' y11,(aq (dB (kj (ad 10)) (aV 11) (bJ bt)) (aq (dB (kj (ad 6)) (aV 11) (bu bt)) (aI 6 (ad 10)))) [x0,aM 0,aM 1,some (.v (.fd ks ds)),x4,aM n,some (.v (uD last)),aP t,y8,y9,some (.v (uD (UU ps t))),x11] (μ1++[aw.fz ((bW ps t).map wD)]) =
   some (.nx [x0,aM 0,aM 1,some (.v (.fd ks ds)),x4,aM n,some (.v (uD (UU ps t))),aP t,y8,y9,some (.v (uD (UU ps t))),y11] μ') /\
   Pz (μ1++[aw.fz ((bW ps t).map wD)]) μ'/\PI n pr' L' μ'/\(UU ps t≠NO->pr'=true)/\(pr=true->pr'=true)/\L'=(if UU ps t=NO/\last=NO then L else L++[(t,UU ps t)]))
 ·obtain ⟨y11,g1,g2,g3⟩:=h
  exact ⟨y8,y9,y11,(d6 _).trans g1,by rw [g2.1];exact b0,by rw [g2.2];exact b1,g3⟩
 ·generalize (μ1++[aw.fz ((bW ps t).map wD)])=μ2 at hp2
  by_cases c1:UU ps t=NO
  ·by_cases c2:last=NO
   ·refine ⟨μ2,pr,L,x11,?_,⟨rfl,rfl⟩,hp2,fun h=>absurd c1 h,id,by rw [if_pos ⟨c1,c2⟩]⟩
    rw [c1,c2,vZ];push_cast [HW.mP]
   ·have hpr:=hl c2
    subst hpr;obtain ⟨μ3,f1,f2,f3⟩:=Dr (bt:=bt) (x0:=x0) (x1:=some (.p 0)) (x2:=some (.p 1)) (x3:=some (.v (.fd ks ds))) (x4:=x4) (x6:=some (.v (.fd [.inl 0] [rD last]))) (x8:=y8) (x9:=y9) (x11:=x11) (t:=t) hp2 hL;refine ⟨μ3,true,L++[(t,NO)],aP 0,?_,f3,f2,fun h=>absurd c1 h,id,by rw [if_neg (fun h=>c2 h.2),c1]⟩;rw [c1,rO c2,vZ];push_cast [f1]
  ·obtain ⟨μ3,f1,f2,f3⟩:=Dq (bt:=bt) (x0:=x0) (x1:=some (.p 0)) (x2:=some (.p 1)) (x3:=some (.v (.fd ks ds))) (x4:=x4) (x6:=some (.v (uD last))) (x8:=y8) (x9:=y9) (x11:=x11) (t:=t) (U:=UU ps t) hp2 hL
   refine ⟨μ3,true,L++[(t,UU ps t)],aP 0,?_,f3,f2,fun _=>rfl,fun _=>rfl,by rw [if_neg (fun h=>c1 h.1)]⟩;rw [rO c1]
   by_cases c2:last=NO
   ·rw [c2,vZ] at f1 ⊢
    push_cast [f1]
   ·rw [rO c2] at f1 ⊢
    have k2:=Dp (bt:=bt) (x0:=x0) (x1:=some (.p 0)) (x2:=some (.p 1)) (x3:=some (.v (.fd ks ds))) (x4:=x4) (x6:=some (.v (.fd [.inl 0] [rD last]))) (x8:=y8) (x9:=y9) (x11:=some (.v (.int 0))) (n:=n) (t:=t) (U:=UU ps t) (μ:=μ3);push_cast [f1,k2]
end
section
variable  {ES TS:Th}
theorem wx (bt:Bool){ks:List aE}{ds:List D}{kz:List (aE×R)}(hkv:∀μ,jJ (.v (.fd ks ds)) μ=some kz){ps:List Pl}(hE:ES.length<=16)(hb:∀p∈ps,BP ES TS p)(hn:ps.length<=80){x0 x4:Option R}{n:Nat}{G:Rc}:∀(ts:Th) (T:Int) (last:Rc) (pr:Bool) (L La:List (Int×Rc)) (μ:ac) (x7 x8 x9 x10 x11:Option R),
  (∀t∈ts,cF kz (.inl t)=some (.v (.fl (CM t 0 ps))))->ts.Pairwise (· < ·)->(∀t∈ts,T < t)->(∀p∈ps,∀q∈p.2,T < q.1->q.1∈ts)->μ[0]?=some (.lst (ps.map fun _=>.int 0))->μ[1]?=some (.lst ((bW ps T).map rD))->PI n pr L μ->(last≠NO->pr=true)->L.length+ts.length<=900 ->
  i5 G L=i5 G La->lst G L=last->lst G La=last ->
  ∃μ' pr' L' y6 y7 y8 y9 y10 y11,cb (aV 7) (bc bt) (ts.map .int) [x0,aM 0,aM 1,some (.v (.fd ks ds)),x4,aM n,some (.v (uD last)),x7,x8,x9,x10,x11] μ =
    some (.nx [x0,aM 0,aM 1,some (.v (.fd ks ds)),x4,aM n,y6,y7,y8,y9,y10,y11] μ')/\PI n pr' L' μ'/\(pr=true->pr'=true)/\L'.length<=L.length+ts.length/\i5 G L'=i5 G (La++ts.map fun t=>(t,UU ps t))
 |[],T,last,pr,L,La,μ,x7,x8,x9,x10,x11,_,_,_,_,_,_,hp,_,_,h1,_,_=>⟨μ,pr,L,_,x7,x8,x9,x10,x11,rfl,hp,id,by simp,by simpa using h1⟩
 |t::ts,T,last,pr,L,La,μ,x7,x8,x9,x10,x11,hv,hs,hT,hin,g0,g1,hp,hl,hL,h1,h2,h3=>by
  obtain ⟨p1,p2⟩:=zay.mp hs;rw [zaD] at hL;have ht:=hT t zah
  obtain ⟨μ1,pr1,L1,y8,y9,y11,e1,c0,c1,c2,c3,c4,c5⟩:=Di bt hkv hE hb hn (x0:=x0) (x4:=x4) (x8:=x8) (x9:=x9) (x10:=x10) (x11:=x11) (hv t zah) ht (fun p hp q hq z=>by
   rcases zak.mp (hin p hp q hq z) with w|w
   ·omega
   ·have:=p1 _ w;omega) g0 g1 hp hl (by omega)
  have hs1:i5 G L1=i5 G (La++[(t,UU ps t)])/\lst G L1=UU ps t/\L1.length<=L.length+1:=by
   rw [c5,kZ,h3]
   by_cases z:UU ps t=NO/\last=NO
   ·rw [if_pos z,if_pos (show (t,UU ps t).2=last from z.1.trans z.2.symm),zbm]
    exact ⟨h1,by rw [h2,z.2,z.1],by omega⟩
   ·rw [if_neg z,kZ,i7,h1,h2]
    exact ⟨rfl,rfl,by simp⟩
  obtain ⟨s1,s2,s3⟩:=hs1
  obtain ⟨μ2,pr2,L2,z6,z7,z8,z9,z10,z11,e2,d1,d2,d3,d4⟩:=wx bt hkv hE hb hn (x0:=x0) (x4:=x4) (n:=n) (G:=G) ts t (UU ps t) pr1 L1 (La++[(t,UU ps t)]) μ1 (some (.v (.int t))) y8 y9 (some (.v (uD (UU ps t)))) y11
   (fun x hx=>hv x (zaj _ hx)) p2 p1 (fun p hp q hq z=>by
    rcases zak.mp (hin p hp q hq (by omega)) with w|w
    ·omega
    ·exact w) c0 c1 c2 c3 (by omega) s1 s2 (by rw [i7])
  refine ⟨μ2,pr2,L2,z6,z7,z8,z9,z10,z11,?_,d1,fun h=>d2 (c4 h),by rw [zaD];omega,by rw [d4,zaf,zbj];rfl⟩;rw [zaf,bH,oh,yk]
  show CF (bc bt [x0,aM 0,aM 1,some (.v (.fd ks ds)),x4,aM n,some (.v (uD last)),aP t,x8,x9,x10,x11] μ) _ _ _=_
  rw [e1,pG];exact e2
abbrev fF:FE:=cW (af (ad 0) (af (aS gc 2 (af (cq (tF (ad 1) (ad 0) (fK (.tup [(.bl false),(.tup [])])))) (af (cq (lz (ad 2) (ad 0))) ai))) ai))
abbrev yl:FS:=bV (eL mt (af (cj [4,5] 1 (kj (ad 5)) (aV 0) dw fF) ai))
theorem Jt {x0 x1 x2 x3 x6 x7 x8 x9 x10 x11:Option R}{G:Rc}{n:Nat}{μ:ac}(h:μ[n]?=some (.dr [])):eK (yl [x0,x1,x2,x3,some (.v (uD G)),aM n,x6,x7,x8,x9,x10,x11] μ)=some (.fd [] []):=by
 have c:bv (aV 0) dw fF [] [none,some (.v (uD G)),aM n] (μ.set n (.fzr []))=some ([],μ.set n (.fzr [])):=rfl;push_cast [h,c,dM,gl,zaw];rfl
theorem IV {G:Rc}{ρ:Lo}{x2:Option R}{μ:ac}:tF (ad 1) (ad 0) (fK (.tup [(.bl false),(.tup [])])) [aP 0,some (.v (uD G)),x2] μ=some (.v (rD G),μ):=by
 by_cases c:G=NO
 ·rw [c];rfl
 ·rw [rO c];rfl
theorem Eo {x0 x1 x2 x3 x6 x7 x8 x9 x10 x11:Option R}{G:Rc}{n m:Nat}{μ:ac}{L:List (Int×Rc)}(hm:m≠n)(h:μ[n]?=some (.dr [(.inl 0,.p m)]))(h2:μ[m]?=some (.lst (L.map sD)))(hL:L.length < 2000):eK (yl [x0,x1,x2,x3,some (.v (uD G)),aM n,x6,x7,x8,x9,x10,x11] μ)=some (.fd [.inl 0] [pD G (i5 G L)]):=by
 have ln:=bG h;have a1:(μ.set n (.fzr [(.inl 0,.p m)]))[n]?=some (.fzr [(.inl 0,.p m)]):=zav ln
 have a2:(μ.set n (.fzr [(.inl 0,.p m)]))[m]?=some (.lst (L.map sD)):=by rw [zag (fun z=>hm z.symm)];exact h2
 have hp:=uN G L hL
 have c:bv (aV 0) dw fF [.int 0] [none,some (.v (uD G)),aM n] (μ.set n (.fzr [(.inl 0,.p m)]))=some ([.tup [.int 0,pD G (i5 G L)]],(μ.set n (.fzr [(.inl 0,.p m)])).set m (.fz (L.map sD))):=by
  rw [bv];have:=IV (G:=G) (ρ:=[]) (x2:=some (.p n)) (μ:=μ.set n (.fzr [(.inl 0,.p m)]))
  push_cast [HW.mP] at this
  push_cast [this,a1,MA,a2,hp,zaw];rfl
 push_cast [h,CK,c,dM,gl,zaw,za8];rfl
abbrev oI (p:Pl):D:=.tup [eT p,.int 0]
theorem v3:∀{ps:List Pl},(∀p∈ps,BP ES TS p)->qf ps<=TS.length * ps.length
 |[],_=>by simp [qf]
 |p::ps,h=>by
  have ih:=v3 (ps:=ps) fun x hx=>h x (zaj _ hx);have b:=h p zah;have nd:(p.2.map (·.1)).Nodup:=rG (zbi.mpr b.pf.up)
  have:=eV _ TS nd fun x hx=>by obtain ⟨q,hq,rfl⟩:=zar.mp hx;exact b.te q hq
  rw [zal] at this
  simp only [qf,zaD,Nat.mul_add,Nat.mul_one];omega
abbrev aG (ps:List Pl):Rc:=Un (ps.map (·.1)) (ui (ps.map (·.1)))
theorem Gu {ps:List Pl}:∃T:Int,(∀p∈ps,∀q∈p.2,T < q.1)/\bW ps T=ps.map (·.1):=by
 obtain ⟨T,h⟩:=nO (ps.flatMap fun p=>p.2.map (·.1));have h':∀p∈ps,∀q∈p.2,T < q.1:=fun p hp q hq=>h _ (List.mem_flatMap.mpr ⟨p,hp,zba hq⟩);exact ⟨T,h',zbN fun p hp=>cJ _ _ _ (h' p hp)⟩
theorem Lb (bt:Bool){ps:List Pl}(hE:ES.length<=16)(hTS:TS.length<=22)(hb:∀p∈ps,BP ES TS p)(hn:ps.length<=80) :
    ∃ts:Th,ts.Pairwise (· < ·)/\(∀x,x∈ts ↔ ∃p∈ps,x∈p.2.map (·.1))/\∃v,b8 bt [.fl (ps.map oI)]=some v/\((v=.fd [] []/\aG ps=NO/\i5 (aG ps) (ts.map fun t=>(t,UU ps t))=[])\/v=.fd [.inl 0] [pD (aG ps) (i5 (aG ps) (ts.map fun t=>(t,UU ps t)))]):=by
  have htt:=v3 hb;have htm:=Nat.mul_le_mul hTS hn;obtain ⟨ks,ds,hst,⟨ts0,hik,hnd,hts,kz,hkv,hval⟩⟩:=zA ps (M:=TS) (by omega) (fun p hp q hq=>(hb p hp).te q hq) (by omega);obtain ⟨T,hT,hrT⟩:=Gu (ps:=ps);have hre:=FM bt (t:=T) hE hb hn
  have hUT:UU ps T=aG ps:=by show Un (bW ps T) (ui (bW ps T))=_;rw [hrT]
  rw [hUT,hrT] at hre
  have tl:ts0.length < 64:=by
    have:=eV ts0 TS hnd fun x hx=>by
      obtain ⟨p,hp,h⟩:=(hts x).mp hx;obtain ⟨q,hq,rfl⟩:=zar.mp h;exact (hb p hp).te q hq
    omega
  have tl2:(gr ts0).length < 64:=by rw [(cN ts0).length_eq];exact tl
  have tm:∀x,x∈gr ts0 ↔ ∃p∈ps,x∈p.2.map (·.1):=fun x=>by rw [(cN ts0).mem_iff];exact hts x
  have tup:=yL hnd
  have hsF:∀μ:ac,kR bt [.v (.fd ks ds)] μ=some (.p μ.length,μ++[.lst ((gr ts0).map .int)]):=fun μ=>by
    simp only [kR,hik,zaw,tl,if_true]
  refine ⟨gr ts0,tup,tm,?_⟩;rw [kK];generalize gr ts0=ts at tl2 tm tup hsF;have z1:(ps.map oI).length<=sizeLine:=bK (by rw [zal];omega);have z1':ps.length<=sizeLine:=bK (by omega);have hz:=yD ps (·.1);have ft:∀l:List Pl,l.filter (fun _=>true)=l:=fun l=>List.filter_eq_self.mpr fun _ _=>rfl
  have cmp:∀(f:FE) (out:Pl->D) (μ:ac) (ρ:Lo),(∀p,f [some (.v (eT p)),aP 0] μ=some (.v (out p),μ))->bv (ie 2 (ap (aV 0) (ap (aV 1) bn))) dw f (ps.map oI) (dz 2 [] ρ) μ=some (ps.map out,μ):=fun f out μ ρ hf=>by
    have:=lD (c:=dw) (f:=f) (rest:=[]) (μ:=μ) eT (fun _=>.int 0) (fun _=>true) out ps none none (fun _ _=>rfl) (fun p _ _=>hf p)
    rw [ft] at this
    exact this
  have cm1:=cmp (ad 1) (fun _=>.int 0) [] [some (.v (.fl (ps.map oI))),none,none,none,none,none,none,none,none,none,none,none] (fun p=>by push_cast [HW.mP]);have cm2:=cmp (ax c9 (ad 0) (fK (.int 0))) (fun p=>rD p.1) [.lst (ps.map fun _=>.int 0)] [some (.v (.fl (ps.map oI))),aM 0,none,none,none,none,none,none,none,none,none,none] (fun p=>by push_cast [HW.mP]);have cm3:=cmp (ad 0) eT [.lst (ps.map fun _=>.int 0),.lst (ps.map fun p=>rD p.1)] [some (.v (.fl (ps.map oI))),aM 0,aM 1,none,none,none,none,none,none,none,none,none] (fun p=>by push_cast [HW.mP]);rw [za2,show (rD ∘ fun x:Pl=>x.1)=fun p=>rD p.1 from rfl] at hz
  have d6:∀X:FS,(aq (aI 1 (cj [] 2 (bm (ad 0)) (ie 2 (ap (aV 0) (ap (aV 1) bn))) dw (ad 1)))
    (aq (aI 2 (cj [] 2 (bm (ad 0)) (ie 2 (ap (aV 0) (ap (aV 1) bn))) dw (ax c9 (ad 0) (fK (.int 0)))))
    (aq (aI 3 (aS bY 1 (af (cq (cj [] 2 (bm (ad 0)) (ie 2 (ap (aV 0) (ap (aV 1) bn))) dw (ad 0))) ai)))
    (aq (aI 4 (aS (aQ bt) 1 (af (cq (n8 (ad 2) (ad 1))) ai))) X)))) [some (.v (.fl (ps.map oI))),none,none,none,none,none,none,none,none,none,none,none] [] =
      X [some (.v (.fl (ps.map oI))),aM 0,aM 1,some (.v (.fd ks ds)),some (.v (uD (aG ps))),none,none,none,none,none,none,none] [.lst (ps.map fun _=>.int 0),.lst (ps.map fun p=>rD p.1),.fz (ps.map eT),.fz ((ps.map (·.1)).map wD)]:=fun X=>by
    push_cast [zal,z1',cm1,cm2,cm3,hst,hz,hre,and_self]
  have main:∀(n:Nat) (pr:Bool) (μ0:ac),PI n pr [] μ0->μ0[0]?=some (.lst (ps.map fun _=>.int 0))->μ0[1]?=some (.lst (ps.map fun p=>rD p.1))->(aG ps≠NO->pr=true)->∃v,eK (aq (dB (bm (eL (kR bt) (af (ad 3) ai))) (aV 7) (bc bt)) yl [some (.v (.fl (ps.map oI))),aM 0,aM 1,some (.v (.fd ks ds)),some (.v (uD (aG ps))),aM n,some (.v (uD (aG ps))),none,none,none,none,none] μ0)=some v/\((v=.fd [] []/\aG ps=NO/\i5 (aG ps) (ts.map fun t=>(t,UU ps t))=[])\/v=.fd [.inl 0] [pD (aG ps) (i5 (aG ps) (ts.map fun t=>(t,UU ps t)))]):=by
    intro n pr μ0 hPI g0 g1 hG
    obtain ⟨μ',pr',L',y6,y7,y8,y9,y10,y11,e,d1,d2,d3,d4⟩:=wx bt hkv hE hb hn (x0:=some (.v (.fl (ps.map oI)))) (x4:=some (.v (uD (aG ps)))) (n:=n) (G:=aG ps) ts T (aG ps) pr [] [] (μ0++[.fz (ts.map .int)]) none none none none none
      (fun t ht=>hval t ((hts t).mpr ((tm t).mp ht))) tup (fun t ht=>by
        obtain ⟨p,hp,h⟩:=(tm t).mp ht;obtain ⟨q,hq,rfl⟩:=zar.mp h
        exact hT p hp q hq) (fun p hp q hq _=>(tm _).mpr ⟨p,hp,zba hq⟩)
      (by rw [zai (bG g0)];exact g0) (by rw [zai (bG g1),hrT,za2];exact g1) (hPI.more _) hG (by simp;omega) rfl rfl rfl
    rw [za9] at d4
    have st:aq (dB (bm (eL (kR bt) (af (ad 3) ai))) (aV 7) (bc bt)) yl [some (.v (.fl (ps.map oI))),aM 0,aM 1,some (.v (.fd ks ds)),some (.v (uD (aG ps))),aM n,some (.v (uD (aG ps))),none,none,none,none,none] μ0=yl [some (.v (.fl (ps.map oI))),aM 0,aM 1,some (.v (.fd ks ds)),some (.v (uD (aG ps))),aM n,y6,y7,y8,y9,y10,y11] μ':=by
      rw [vt,BL,Ej]
      have:rV (eL (kR bt) (af (ad 3) ai) [some (.v (.fl (ps.map oI))),aM 0,aM 1,some (.v (.fd ks ds)),some (.v (uD (aG ps))),aM n,some (.v (uD (aG ps))),none,none,none,none,none] μ0)=some (.v (.fl (ts.map .int)),μ0++[.fz (ts.map .int)]):=by
        have lk:(μ0++[aw.lst (ts.map .int)])[μ0.length]?=some (.lst (ts.map .int)):=dM;push_cast [hsF,lk,nD]
      rw [this,BK,xc,e,xb]
    rw [st];obtain ⟨_,⟨q1,q2,q3⟩|⟨q1,m,_,q3,q4,q5⟩⟩:=d1
    · refine ⟨_,Jt q3,.inl ⟨rfl,?_,?_⟩⟩
      · refine Classical.byContradiction fun z=>?_
        rw [d2 (hG z)] at q1;cases q1
      · rw [←d4,q2];rfl
    · refine ⟨_,Eo q3 q4 q5 (by simp at d3;omega),.inr ?_⟩
      rw [d4]
  have hb':eF bt [some (.v (.fl (ps.map oI))),none,none,none,none,none,none,none,none,none,none,none] []=(aq (aI 5 (Gi [] 1 (kj (ad 4)) (aV 0) dw (ad 0))) (aq (aI 6 (ad 4)) (aq (dB (bm (eL (kR bt) (af (ad 3) ai))) (aV 7) (bc bt)) yl))) [some (.v (.fl (ps.map oI))),aM 0,aM 1,some (.v (.fd ks ds)),some (.v (uD (aG ps))),none,none,none,none,none,none,none] [.lst (ps.map fun _=>.int 0),.lst (ps.map fun p=>rD p.1),.fz (ps.map eT),.fz ((ps.map (·.1)).map wD)]:=d6 _;rw [hb']
  by_cases c:aG ps=NO
  · have hh:∀Y:FS,(aq (aI 5 (Gi [] 1 (kj (ad 4)) (aV 0) dw (ad 0))) (aq (aI 6 (ad 4)) Y)) [some (.v (.fl (ps.map oI))),aM 0,aM 1,some (.v (.fd ks ds)),some (.v (uD (aG ps))),none,none,none,none,none,none,none] [.lst (ps.map fun _=>.int 0),.lst (ps.map fun p=>rD p.1),.fz (ps.map eT),.fz ((ps.map (·.1)).map wD)] =
        Y [some (.v (.fl (ps.map oI))),aM 0,aM 1,some (.v (.fd ks ds)),some (.v (uD (aG ps))),aM 4,some (.v (uD (aG ps))),none,none,none,none,none] [.lst (ps.map fun _=>.int 0),.lst (ps.map fun p=>rD p.1),.fz (ps.map eT),.fz ((ps.map (·.1)).map wD),.dr []]:=fun Y=>by
      rw [c,vZ];push_cast [HW.mP]
    rw [hh];exact main 4 false _ ⟨by omega,.inl ⟨rfl,rfl,rfl⟩⟩ rfl rfl (fun h=>absurd c h)
  · have hh:∀Y:FS,(aq (aI 5 (Gi [] 1 (kj (ad 4)) (aV 0) dw (ad 0))) (aq (aI 6 (ad 4)) Y)) [some (.v (.fl (ps.map oI))),aM 0,aM 1,some (.v (.fd ks ds)),some (.v (uD (aG ps))),none,none,none,none,none,none,none] [.lst (ps.map fun _=>.int 0),.lst (ps.map fun p=>rD p.1),.fz (ps.map eT),.fz ((ps.map (·.1)).map wD)] =
        Y [some (.v (.fl (ps.map oI))),aM 0,aM 1,some (.v (.fd ks ds)),some (.v (uD (aG ps))),aM 5,some (.v (uD (aG ps))),none,none,none,none,none] [.lst (ps.map fun _=>.int 0),.lst (ps.map fun p=>rD p.1),.fz (ps.map eT),.fz ((ps.map (·.1)).map wD),.lst [],.dr [(.inl 0,.p 4)]]:=fun Y=>by
      rw [rO c];push_cast [HW.mP]
    rw [hh];exact main 5 true _ ⟨by omega,.inr ⟨rfl,4,by omega,by omega,rfl,rfl⟩⟩ rfl rfl (fun _=>rfl)
end
theorem Df {g:Rc}{L:List (Int×Rc)}(hu:Up L)(t:Int):ra g (i5 g L) t=ra g L t:=by
 induction L generalizing g with
 |nil=>rfl
 |cons p L ih =>
  obtain ⟨h1,h2⟩:=zay.mp hu;unfold i5;split
  ·rename_i e
   rw [ih h2]
   show _=if t < p.1 then g else ra p.2 L t
   split
   ·exact cJ _ _ _ fun x hx=>by have:=h1 x hx;omega
   ·rw [e]
  ·show (if t < p.1 then g else ra p.2 (i5 p.2 L) t)=if t < p.1 then g else ra p.2 L t
   rw [ih h2]
theorem Ah {T t:Int}(h:T<=t):∀{qs:List (Int×Rc)} {g:Rc},(∀q∈qs,T < q.1->t < q.1)->ra g qs t=ra g qs T
 |[],_,_=>rfl
 |q::qs,g,hq=>by
  have h0:=hq q zah;have ih:=Ah (g:=q.2) h (qs:=qs) fun x hx=>hq x (zaj _ hx);rw [ra,ra]
  by_cases z:T < q.1
  ·rw [if_pos z,if_pos (h0 z)]
  ·rw [if_neg z,if_neg (by omega),ih]
section
variable  {ES TS:Th}{ps:List Pl}
abbrev lY (ps:List Pl)(t d:Int):Bool:=ps.any fun p=>mH (ra p.1 p.2 t) d
theorem xv (t d:Int):An (bW ps t) d=lY ps t d:=by unfold An bW lY;rw [List.any_map];rfl
theorem JF (t d:Int):mH (UU ps t) d=lY ps t d:=by rw [←xv];exact (ko (bW ps t)).un d
theorem xq {T t:Int}(h:T<=t)(hq:∀p∈ps,∀q∈p.2,T < q.1->t < q.1)(d:Int):lY ps t d=lY ps T d:=by
 rw [←xv,←xv]
 congr 1
 exact zbN fun p hp=>Ah h (hq p hp)
theorem Ai (d:Int):∀(ts:Th) (G:Rc) (T:Int),ts.Pairwise (· < ·)->(∀t∈ts,T < t)->(∀p∈ps,∀q∈p.2,T < q.1->q.1∈ts)->mH G d=lY ps T d->∀t',T<=t'->mH (ra G (ts.map fun t=>(t,UU ps t)) t') d=lY ps t' d
 |[],G,T,_,_,hin,hG,t',ht=>by
  rw [xq ht (fun p hp q hq z=>by cases hin p hp q hq z)];exact hG
 |t::ts,G,T,hs,hT,hin,hG,t',ht=>by
  obtain ⟨p1,p2⟩:=zay.mp hs;rw [zaf,ra]
  by_cases z:t' < t
  ·rw [if_pos z,xq ht (fun p hp q hq w=>by
    rcases zak.mp (hin p hp q hq w) with e|e
    ·omega
    ·have:=p1 _ e;omega)]
   exact hG
  ·rw [if_neg z]
   exact Ai d ts (UU ps t) t p2 p1 (fun p hp q hq w=>by
    rcases zak.mp (hin p hp q hq (by have:=hT t zah;omega)) with e|e
    ·omega
    ·exact e) (JF t d) t' (by omega)
theorem Gv (hb:∀p∈ps,BP ES TS p)(t:Int):(UU ps t).2.Pairwise (· < ·)/\∀e∈(UU ps t).2,e∈ES:=by
 have ok:=ko (bW ps t);refine ⟨ok.unUp,fun e he=>?_⟩;obtain ⟨r,hr,h⟩:=ok.sub e he;obtain ⟨p,hp,rfl⟩:=zar.mp hr;exact ((hb p hp).at t).2.1 e h
theorem JD (bt:Bool)(hE:ES.length<=16)(hTS:TS.length<=22)(hb:∀p∈ps,BP ES TS p)(hn:ps.length<=80):∃P:Pl,ca bt [.fl (ps.map eT)]=some (eT P)/\BP ES TS P/\∀t d,mH (ra P.1 P.2 t) d=lY ps t d:=by
 rw [rN]
 have two2:∀k:Nat,((k:Int) == 1)=decide (k=1):=fun k=>by
  rw [zcP];simp;omega
 by_cases c:ps.length=1
 ·obtain ⟨p,rfl⟩:=List.length_eq_one_iff.mp c
  refine ⟨p,?_,hb p zah,fun t d=>by simp [lY]⟩;push_cast [fH,zaf,zaY,two2,decide_true]
 ·have c':decide (ps.length=1)=false:=zaK c
  obtain ⟨ts,tup,tm,v,e,hv⟩:=Lb bt hE hTS hb hn;refine ⟨(aG ps,i5 (aG ps) (ts.map fun t=>(t,UU ps t))),?_,⟨⟨(ko _).unUp,?_,qx _ _,fun q hq=>?_⟩,fun x hx=>?_,fun q hq=>?_,fun q hq=>?_⟩,fun t d=>?_⟩
  ·have cm:bv (aV 0) dw (cW (af (ad 0) (af (fK (.int 0)) ai))) (ps.map eT) [none] []=some (ps.map oI,[]) :=
    e8 eT oI ps none fun p _=>by push_cast [HW.mP]
   have z1:ps.length<=sizeLine:=bK (by omega);rcases hv with ⟨rfl,h1,h2⟩|rfl
   ·rw [h2,h1]
    push_cast [fH,zal,two2,c',z1,cm,e];rfl
   ·push_cast [fH,zal,two2,c',z1,cm,e]
    rfl
  ·exact uM _ _ (zbi.mpr tup)
  ·obtain ⟨t,_,rfl⟩:=zar.mp (jw _ _ q hq)
   exact (Gv hb t).1
  ·obtain ⟨r,hr,h⟩:=(ko _).sub x hx
   obtain ⟨p,hp,rfl⟩:=zar.mp hr;exact (hb p hp).ge x h
  ·obtain ⟨t,_,rfl⟩:=zar.mp (jw _ _ q hq)
   exact (Gv hb t).2
  ·obtain ⟨t,ht,rfl⟩:=zar.mp (jw _ _ q hq)
   obtain ⟨p,hp,h⟩:=(tm t).mp ht;obtain ⟨q',hq',rfl⟩:=zar.mp h;exact (hb p hp).te q' hq'
  ·show mH (ra (aG ps) (i5 (aG ps) (ts.map fun t=>(t,UU ps t))) t) d=_
   rw [Df (zbi.mpr tup)];obtain ⟨T,hT,hrT⟩:=Gu (ps:=ps)
   have hT':∀p∈ps,∀q∈p.2,min T t < q.1:=fun p hp q hq=>by have:=hT p hp q hq;omega
   refine Ai d ts (aG ps) (min T t) tup (fun x hx=>?_) (fun p hp q hq _=>(tm _).mpr ⟨p,hp,zba hq⟩) ?_ t (by omega)
   ·obtain ⟨p,hp,h⟩:=(tm x).mp hx
    obtain ⟨q,hq,rfl⟩:=zar.mp h;exact hT' p hp q hq
   ·have:bW ps (min T t)=ps.map (·.1):=zbN fun p hp=>cJ _ _ _ (hT' p hp)
    rw [←xv,this];exact (ko _).un d
end
abbrev tC (l:List (Th×R)):aw:=.dtr l
abbrev En:=Th×Pl
abbrev bi (e:En):D:=.tup [.key e.1,eT e.2]
theorem qc (k:Th):∀l:Hl (Th),iK (kvs l) k=(adr l k).map R.p
 |[]=>rfl
 |p::l=>by
  have ih:=qc k l;unfold iK at ih ⊢;rw [adr];simp only [kvs,zaf]
  by_cases q:p.1=k
  ·rw [zbV (by simp [q]),if_pos q];rfl
  ·rw [zbW (by simp [q]),if_neg q]
   exact ih
theorem zK {fo fk:FE}{ρ:Lo}{μ:ac}{n a:Nat}{k:Th}{l:Hl (Th)}(ho:fo ρ μ=some (.p n,μ))(hk:fk ρ μ=some (.v (.key k),μ))(h:HD tC n μ l)(e:adr l k=some a)(hl:l.length < 1000):oa fo fk (du ai) ρ μ=some (.p a,μ++[.lst []]):=by
 have h1:gP μ n=some (kvs l):=by simp only [gP,h.dict]
 have h2:gP (μ++[aw.lst []]) n=some (kvs l):=by simp only [gP,zai h.lt,h.dict]
 have hL:du ai ρ μ=some (.p μ.length,μ++[aw.lst []]):=rfl
 have hl':(kvs l).length < 1000:=by simpa using hl
 have hv:=qc k l;rw [e,za8] at hv;simp only [oa,ho,zaw,h1,zcZ,if_true,hk,hL,h2,hl',hv]
theorem zL {fo fk:FE}{ρ:Lo}{μ:ac}{n:Nat}{k:Th}{l:Hl (Th)}(ho:fo ρ μ=some (.p n,μ))(hk:fk ρ μ=some (.v (.key k),μ))(h:HD tC n μ l)(e:adr l k=none)(hl:l.length < 1000):oa fo fk (du ai) ρ μ=some (.p μ.length,(μ++[aw.lst []]).set n (tC (kvs l++[(k,.p μ.length)]))):=by
 have h1:gP μ n=some (kvs l):=by simp only [gP,h.dict]
 have h2:gP (μ++[aw.lst []]) n=some (kvs l):=by simp only [gP,zai h.lt,h.dict]
 have hL:du ai ρ μ=some (.p μ.length,μ++[aw.lst []]):=rfl
 have hl':(kvs l).length < 1000:=by simpa using hl
 have hv:=qc k l;rw [e,Option.map_none] at hv;simp only [oa,ho,zaw,h1,zcZ,if_true,hk,hL,h2,hl',hv]
structure TB (μ:ac)(l:Hl (Th))(N:Nat):Prop where
 hd:HD tC 0 μ l
 nk:(l.map (·.1)).Nodup
 ln:l.length<=N
 cl:∀k,(cont l k).length<=N
theorem CG (bt:Bool){x0 x4:Option R}{e:En}{μ:ac}{l:Hl (Th)}{N:Nat}(h:TB μ l N)(hN:N < 900) :
  ∃μ' b,eu bt [x0,aM 0,some (.v (.key e.1)),some (.v (eT e.2)),x4] μ=some (.nx [x0,aM 0,some (.v (.key e.1)),some (.v (eT e.2)),x4] μ')/\TB μ' (cu l e.1 b (eT e.2)) (N+1):=by
 have zc:(cont l e.1).length < sizeLine:=dA (by have:=h.cl e.1;omega);have z0:(0:Nat) < sizeLine:=dA (by omega)
 have hl:l.length < 1000:=by have:=h.ln;omega
 have lt:=h.hd.lt
 have sb:∀(μ':ac) (b:Nat),HD tC 0 μ' (cu l e.1 b (eT e.2))->TB μ' (cu l e.1 b (eT e.2)) (N+1):=fun μ' b hh=>⟨hh,nJ _ _ _ _ h.nk,by have:=sy e.1 b (eT e.2) l;have:=h.ln;omega,fun k=>by
  rw [ii,zaX];have:=h.cl k;split
  ·simp;omega
  ·simp;omega⟩
 cases q:adr l e.1 with
 |some a =>
  have ga:=h.hd.adr q
  have g2:(μ++[aw.lst []])[a]?=some (.lst (cont l e.1)):=by rw [zai (bG ga)];exact ga
  have hs:=zK (fo:=ad 1) (fk:=ad 2) (ρ:=[x0,aM 0,some (.v (.key e.1)),some (.v (eT e.2)),x4]) rfl rfl h.hd q hl;refine ⟨_,0,?_,sb _ 0 (h.hd.old h.nk q (eT e.2) 0)⟩;push_cast [eu,hs,g2,zc]
 |none =>
  have hs:=zL (fo:=ad 1) (fk:=ad 2) (ρ:=[x0,aM 0,some (.v (.key e.1)),some (.v (eT e.2)),x4]) rfl rfl h.hd q hl
  have g2:((μ++[aw.lst []]).set 0 (tC (kvs l++[(e.1,.p μ.length)])))[μ.length]?=some (.lst []):=by
   rw [zag (by omega)];exact dM
  refine ⟨_,μ.length,?_,sb _ _ (h.hd.new (jm.mp q) (eT e.2))⟩;push_cast [eu,hs,g2,z0,za9]
theorem wd (bt:Bool){x0 x4:Option R}:∀(es:List En) {μ:ac} {l:Hl (Th)} {N:Nat} (x2 x3:Option R),TB μ l N->N+es.length < 900 ->
  ∃μ' l' y2 y3,cb (ie 2 (ap (aV 2) (ap (aV 3) bn))) (eu bt) (es.map bi) [x0,aM 0,x2,x3,x4] μ=some (.nx [x0,aM 0,y2,y3,x4] μ')/\TB μ' l' (N+es.length) /\
   (∀x,cont l' x=cont l x++(es.filter fun e=>decide (e.1=x)).map fun e=>eT e.2)/\(∀x,x∈l'.map (·.1) ↔ x∈l.map (·.1)\/x∈es.map (·.1))
 |[],μ,l,N,x2,x3,h,_=>⟨μ,l,x2,x3,rfl,h,fun x=>by simp,fun x=>by simp⟩
 |e::es,μ,l,N,x2,x3,h,hN=>by
  rw [zaD] at hN;obtain ⟨μ1,b,e1,h1⟩:=CG bt (x0:=x0) (x4:=x4) (e:=e) h (by omega);obtain ⟨μ2,l2,y2,y3,e2,h2,c2,k2⟩:=wd bt (x0:=x0) (x4:=x4) es (some (.v (.key e.1))) (some (.v (eT e.2))) h1 (by omega);refine ⟨μ2,l2,y2,y3,?_,by rw [zaD,show N+(es.length+1)=N+1+es.length by omega];exact h2,fun x=>?_,fun x=>?_⟩
  ·rw [zaf,bH]
   have hg:ie 2 (ap (aV 2) (ap (aV 3) bn)) (.v (bi e)) [x0,aM 0,x2,x3,x4] μ=some ([x0,aM 0,some (.v (.key e.1)),some (.v (eT e.2)),x4],μ):=rfl;rw [hg,yk,e1,pG];exact e2
  ·rw [c2,ii,zbj,zbz]
   by_cases z:e.1=x <;> simp [z]
  ·rw [k2,gh,zaf,zak,or_assoc]
abbrev fE (bt:Bool):FE:=cW (af (ad 0) (af (aS (ca bt) 1 (af (cq (BD (ad 1) (ad 0))) ai)) ai))
theorem tK (bt:Bool){l:Hl (Th)}(F:List Int->Pl)(hnd:(0::l.map fun p=>p.2.1).Nodup)(nk:(l.map (·.1)).Nodup):∀(rows:Ta) (μ:ac) (x0:Option R),rows.Nodup->(∀r∈rows,ca bt [.fl (cont l r)]=some (eT (F r)))->μ[0]?=some (tC (kvs l))->(∀r∈rows,∃a,adr l r=some a/\μ[a]?=some (.lst (cont l r))) ->
  ∃μ',bv (aV 0) dw (fE bt) (rows.map D.key) [x0,aM 0] μ=some (rows.map fun r=>bi (r,F r),μ')
 |[],μ,x0,_,_,_,_=>⟨μ,rfl⟩
 |r::rows,μ,x0,hr,hF,h0,hc=>by
  obtain ⟨n1,n2⟩:=zaJ.mp hr;obtain ⟨a,ea,ga⟩:=hc r zah
  have a0:a≠0:=fun z=>by
   subst z;exact (zaJ.mp hnd).1 (zar.mpr ⟨_,iJ ea,rfl⟩)
  have hF0:=hF r zah
  obtain ⟨μ',e⟩:=tK bt F hnd nk rows (μ.set a (.fz (cont l r))) (some (.v (.key r))) n2 (fun x hx=>hF x (zaj _ hx)) (by rw [zag a0];exact h0) (fun x hx=>by
   obtain ⟨b,eb,gb⟩:=hc x (zaj _ hx);refine ⟨b,eb,?_⟩
   have:a≠b:=fun z=>by
    subst z;have m1:=iJ ea;have m2:=iJ eb;obtain ⟨i,hi,e1⟩:=za7 m1;obtain ⟨j,hj,e2⟩:=za7 m2;have hij:i=j:=(zbH (xs:=l.map fun p=>p.2.1) (h₀:=by simpa using hi) (h₁:=by simpa using hj) (zaJ.mp hnd).2).mp (by rw [zbI,zbI,e1,e2]);subst hij;rw [e1] at e2;exact n1 (by have:=congrArg Prod.fst e2;simp only at this;rw [this];exact hx)
   rw [zag this];exact gb)
  refine ⟨μ',?_⟩;have hv:=qc r l;rw [ea,za8] at hv;rw [zaf,bv];push_cast [zaw,h0,tC,hv,ga,hF0,e]
theorem mw {α:Type}{c:FT}{f:FE}{μ:ac}{rest:Lo}(e out:α->D)(p:α->Bool):∀(xs:List α) (x0:Option R),(∀a∈xs,c (some (.v (e a))::rest) μ=some (p a,μ))->(∀a∈xs,p a=true->f (some (.v (e a))::rest) μ=some (.v (out a),μ))->bv (aV 0) c f (xs.map e) (x0::rest) μ=some ((xs.filter p).map out,μ)
 |[],_,_,_=>rfl
 |a::xs,x0,h,h'=>by
  have h1:=h a zah;have ih:=mw e out p xs (some (.v (e a))) (fun b hb=>h b (zaj _ hb)) (fun b hb=>h' b (zaj _ hb))
  cases hp:p a with
  |true =>
   have h2:=h' a zah hp;simp only [zaf,bv,aV,zc1,zaw,h1,hp,if_true,h2,ih,zbz]
  |false=>simp only [zaf,bv,aV,zc1,zaw,h1,hp,zan,if_false,ih,zbz]
abbrev dD (T:List En):aw:=.lst (T.map bi)
abbrev NL:D:=.tup [.tup [.bl false,.tup []],.tup []]
theorem AV:eU 60 NL=true:=rfl
abbrev Cv:Pl:=(NO,[])
def JN (e:En):Bool:=!decide (e.2=Cv)
theorem BS (p:Pl):iF (eT p) NL=decide (p=Cv) :=
 (Gn p.1 NO p.2 []).trans (decide_eq_decide.mpr ⟨fun h=>Prod.ext h.1 h.2,fun h=>by rw [h];exact ⟨rfl,rfl⟩⟩)
abbrev iz (p:Pl)(t d:Int):Bool:=mH (ra p.1 p.2 t) d
theorem A4 (t d:Int):iz Cv t d=false:=rfl
section
variable  {ES TS:Th}{RW:Ta}{w:Nat}
structure oX (ES TS:Th)(RW:Ta)(w:Nat)(es:List En):Prop where
 bp:∀e∈es,BP ES TS e.2
 rw:∀e∈es,e.1∈RW/\e.1.length=w
 ln:es.length<=80
structure gz (ES TS:Th)(es T:List En):Prop where
 up:Cw (T.map (·.1))
 ok:∀e∈T,BP ES TS e.2/\e.2≠Cv
 row:∀e∈T,e.1∈es.map (·.1)
 pt:∀r t d,(∃e∈T,e.1=r/\iz e.2 t d=true) ↔ (∃e∈es,e.1=r/\iz e.2 t d=true)
theorem kN (bt:Bool)(hE:ES.length<=16)(hTS:TS.length<=22)(hR:RW.length<=40){es:List En}(h:oX ES TS RW w es):∃T,aC bt [.fl (es.map bi)]=some (.lst (T.map bi))/\gz ES TS es T:=by
 rw [uq];have hln:=h.ln;obtain ⟨μ,l,y2,y3,e,tb,c,k⟩:=wd bt (x0:=some (.v (.fl (es.map bi)))) (x4:=none) es (μ:=[.dtr []]) (l:=[]) (N:=0) none none ⟨⟨rfl,by simp,fun _ h=>nomatch h⟩,by simp,by simp,fun k=>by simp [cont]⟩ (by omega)
 have k':∀x,x∈l.map (·.1) ↔ x∈es.map (·.1):=fun x=>by rw [k];simp
 have kl:l.length<=40:=by
  have:=eV (l.map (·.1)) RW tb.nk fun x hx=>by
   obtain ⟨e,he,rfl⟩:=zar.mp ((k' x).mp hx);exact (h.rw e he).1
  rw [zal] at this;omega
 have hps:∀r,cont l r=((es.filter fun e=>decide (e.1=r)).map (·.2)).map eT:=fun r=>by
  rw [c,za2];rfl
 have hF:∀r,∃P:Pl,ca bt [.fl (cont l r)]=some (eT P)/\BP ES TS P/\∀t d,iz P t d=lY ((es.filter fun e=>decide (e.1=r)).map (·.2)) t d:=fun r=>by
  rw [hps r];refine JD bt hE hTS (fun p hp=>?_) ?_
  ·obtain ⟨e,he,rfl⟩:=zar.mp hp
   exact h.bp e (zbl.mp he).1
  ·have:=zcK (fun e:En=>decide (e.1=r)) es
   rw [zal];omega
 have hany:∀r t d,lY ((es.filter fun e=>decide (e.1=r)).map (·.2)) t d=true ↔ ∃e∈es,e.1=r/\iz e.2 t d=true:=fun r t d=>by
  unfold lY;rw [List.any_eq_true];constructor
  ·rintro ⟨p,hp,hl⟩
   obtain ⟨e,he,rfl⟩:=zar.mp hp;obtain ⟨h1,h2⟩:=zbl.mp he;exact ⟨e,h1,by simpa using h2,hl⟩
  ·rintro ⟨e,he,h1,hl⟩
   exact ⟨e.2,zar.mpr ⟨e,zbl.mpr ⟨he,by simpa using h1⟩,rfl⟩,hl⟩
 have F:=fun r=>Classical.choose (hF r);have hF':∃F:List Int->Pl,∀r,ca bt [.fl (cont l r)]=some (eT (F r))/\BP ES TS (F r)/\∀t d,iz (F r) t d=lY ((es.filter fun e=>decide (e.1=r)).map (·.2)) t d:=⟨fun r=>Classical.choose (hF r),fun r=>Classical.choose_spec (hF r)⟩;clear F;obtain ⟨F,hF⟩:=hF';have rnd:(bD (l.map (·.1))).Nodup:=(bT _).nodup_iff.mpr tb.nk
 have rm:∀r,r∈bD (l.map (·.1)) ↔ r∈es.map (·.1):=fun r=>by rw [(bT _).mem_iff];exact k' r
 have few:(kvs l).length < 64/\((kvs l).length < 2\/∀p∈kvs l,p.1≠[]):=by
  refine ⟨by rw [zal];omega,?_⟩
  have hw:∀x∈l.map (·.1),x.length=w:=fun x hx=>by
   obtain ⟨e,he,rfl⟩:=zar.mp ((k' x).mp hx);exact (h.rw e he).2
  by_cases z:w=0
  ·refine .inl ?_
   have:=eV (l.map (·.1)) [[]] tb.nk fun x hx=>by
    have:=hw x hx
    rw [z] at this
    rw [zbD.mp this];exact zah
   rw [zal] at this ⊢;simp at this;omega
  ·refine .inr fun p hp e=>?_
   obtain ⟨q,hq,rfl⟩:=zar.mp hp;have:=hw q.1 (zba hq);simp only at e
   rw [e] at this
   simp at this;omega
 have g0:(μ++[aw.fz ((bD (l.map (·.1))).map D.key)])[0]?=some (tC (kvs l)):=by rw [zai tb.hd.lt];exact tb.hd.dict
 obtain ⟨μ2,ce⟩:=tK bt F tb.hd.nd tb.nk (bD (l.map (·.1))) (μ++[aw.fz ((bD (l.map (·.1))).map D.key)]) none rnd (fun r _=>(hF r).1) g0 (fun r hr=>by
  cases q:adr l r with
  |none=>exact absurd ((bT _).mem_iff.mp hr) (jm.mp q)
  |some a=>exact ⟨a,rfl,by have:=tb.hd.adr q;rw [zai (bG this)];exact this⟩)
 have rl:(bD (l.map (·.1))).length<=40:=by rw [(bT _).length_eq,zal];exact kl
 refine ⟨((bD (l.map (·.1))).map fun r=>(r,F r)).filter JN,?_,?_⟩
 ·have z1:(bD (l.map (·.1))).length<=sizeLine:=bK (by omega)
  have cf:∀μ:ac,bv (aV 0) (fB (ax (jh true) (ax c9 (ad 0) (fK (.int 1))) (fK (.tup [(.tup [(.bl false),(.tup [])]),(.tup [])])))) (ad 0) ((bD (l.map (·.1))).map fun r=>bi (r,F r)) [none] μ=some ((((bD (l.map (·.1))).map fun r=>(r,F r)).filter JN).map bi,μ):=fun μ=>by
   have:=mw (c:=fB (ax (jh true) (ax c9 (ad 0) (fK (.int 1))) (fK NL))) (f:=ad 0) (μ:=μ) (rest:=[]) bi bi JN ((bD (l.map (·.1))).map fun r=>(r,F r)) none (fun e _=>by
    push_cast [F2,AV,BS,JN]) (fun e _ _=>by push_cast [HW.mP])
   rw [za2] at this
   exact this
  have km:(kvs l).map (·.1)=l.map (·.1):=by unfold kvs;rw [za2];rfl
  have lk:(μ++[aw.lst ((bD (l.map (·.1))).map D.key)])[μ.length]?=some (.lst ((bD (l.map (·.1))).map D.key)):=dM;have hd0:μ[0]?=some (.dtr (kvs l)):=tb.hd.dict
  have sr:pd [.p 0] μ=some (.p μ.length,μ++[.lst ((bD (l.map (·.1))).map D.key)]):=by
   rw [JT,hd0,NS,zaw,if_pos few,km]
  have lk2:(μ2++[aw.lst ((bD (l.map (·.1))).map fun r=>bi (r,F r))])[μ2.length]?=some (.lst ((bD (l.map (·.1))).map fun r=>bi (r,F r))):=dM;push_cast [ku,e,sr,lk,nD,zal,z1,ce,lk2,cf,dM]
 ·refine ⟨?_,fun e he=>?_,fun e he=>?_,fun r t d=>?_⟩
  ·have h1:=gq tb.nk
   have h2:((bD (l.map (·.1))).map fun r=>(r,F r)).Pairwise fun x y=>HT2.iO x.1 y.1=true:=zbi.mpr h1;exact zbi.mpr (h2.sublist List.filter_sublist)
  ·obtain ⟨h1,h2⟩:=zbl.mp he
   obtain ⟨r,_,rfl⟩:=zar.mp h1;exact ⟨(hF r).2.1,by simpa [JN] using h2⟩
  ·obtain ⟨h1,h2⟩:=zbl.mp he
   obtain ⟨r,hr,rfl⟩:=zar.mp h1;exact (rm r).mp hr
  ·rw [←hany,←(hF r).2.2]
   constructor
   ·rintro ⟨e,he,h1,h2⟩
    obtain ⟨r',hr',rfl⟩:=zar.mp (zbl.mp he).1;simp only at h1 h2;subst h1;exact h2
   ·intro hl
    refine ⟨(r,F r),zbl.mpr ⟨zar.mpr ⟨r,?_,rfl⟩,?_⟩,rfl,hl⟩
    ·rw [rm]
     rw [(hF r).2.2,hany] at hl;obtain ⟨e,he,h1,_⟩:=hl;exact zar.mpr ⟨e,he,h1⟩
    ·unfold JN
     rw [Bool.not_eq_true',decide_eq_false_iff_not];intro z;simp only at z;rw [z,A4] at hl;cases hl
end
end LW
namespace LW
open PySem HW
theorem dG (i:Int){j:Int}(h:0 < j):0<=i % j/\i % j < j:=⟨zcN _ (by omega),zcr _ h⟩
theorem JP {cs:List aw}{c:aw}:(cs++[c])[cs.length]?=some c:=by simp
theorem kP (c k:Int)(hk:0<=k/\k < 1000):∃n:Int,br [.int c,.int k]=some (.int n)/\0<=n/\n < 2147483629:=by
 have b1:=dG c (j:=2147483629) (by decide);have b2:=dG ((c % 2147483629+1) * 1103515245) (j:=2147483629) (by decide);obtain ⟨x,hx⟩:∃x,x=(c % 2147483629+1) * 1103515245 % 2147483629:=⟨_,rfl⟩;have b3:=dG (x * x+k * 69621+12345) (j:=2147483587) (by decide);refine ⟨_,?_,dG (((x * x+k * 69621+12345) % 2147483587) * ((x * x+k * 69621+12345) % 2147483587)) (j:=2147483629) (by decide)⟩;rw [ur];push_cast [kw,cr (i:=c) (j:=2147483629) (by decide),iC (i:=c % 2147483629+1) (j:=1103515245) (by omega),cr (i:=(c % 2147483629+1) * 1103515245) (j:=2147483629) (by decide),←hx,iC (i:=x) (j:=x) (by omega),iC (i:=k) (j:=69621) (by omega),cr (i:=x * x+k * 69621+12345) (j:=2147483587) (by decide),iC (i:=(x * x+k * 69621+12345) % 2147483587) (j:=(x * x+k * 69621+12345) % 2147483587) (by omega),cr (j:=2147483629) (by decide)]
def Cm (s:Int):Th:=(List.range 16).map fun i=>((i:Nat) - 1:Int) * s
def EG (P:Int):Th:=((List.range 11).map fun i=>((i:Nat) - 1:Int))++(List.range 11).map fun i=>((i:Nat) - 1:Int) * P
theorem ER (s:Int):(Cm s).length=16:=by simp [Cm]
theorem EF (P:Int):(EG P).length=22:=by simp [EG]
theorem EQ {s k:Int}(h1 : -1<=k)(h2:k<=14):k * s∈Cm s:=zar.mpr ⟨(k+1).toNat,zbp.mpr (by omega),by rw [zcm (by omega)];congr 1;omega⟩
theorem EE {P k f:Int}(h1 : -1<=k)(h2:k<=9)(hf:f=1\/f=P):k * f∈EG P:=by
 rcases hf with rfl|rfl
 ·exact zbr _ (zar.mpr ⟨(k+1).toNat,zbp.mpr (by omega),by rw [zcm (by omega)];omega⟩)
 ·exact zaA _ (zar.mpr ⟨(k+1).toNat,zbp.mpr (by omega),by rw [zcm (by omega)];congr 1;omega⟩)
theorem sj (n s:Int)(hs:0 < s):∃r:Rc,df [.int n,.int s]=some (rD r)/\r.2.Pairwise (· < ·)/\∀e∈r.2,e∈Cm s:=by
 rw [rM];have b1:=dG (n / 5) (j:=3) (by decide);have b2:=dG (n / 15) (j:=2) (by decide);have b3:=dG n (j:=5) (by decide);obtain ⟨m,hm⟩:∃m:Nat,(n / 5 % 3+n / 15 % 2).toNat=m:=⟨_,rfl⟩
 have hm3:m<=3:=by omega
 push_cast [jk,cr (i:=n) (j:=5) (by decide),e7 (i:=n) (j:=15) (by decide) (by decide),e7 (i:=n) (j:=5) (by decide) (by decide),cr (i:=n / 5) (j:=3) (by decide),cr (i:=n / 15) (j:=2) (by decide),qK (j:=n / 5 % 3+n / 15 % 2) (by omega),hm]
 obtain ⟨ρ',μ',e,at',es,rest,x5,rfl,rfl,h1,h2,⟨h3,h5⟩,h4⟩:=iw (g:=aV 5) (b:=gX) (ρ:=[aP n,aP s,aM 0,aP ((n % 5 - 2)),aP ((n / 15)),none]) (μ:=[.lst []]) m
  (fun i ρ μ=>∃(at':Int) (es:Th) (rest:Int) (x5:Option R),ρ=[aP n,aP s,aM 0,aP at',aP rest,x5]/\μ=[.lst (es.map .int)]/\es.Pairwise (· < ·)/\(∀e∈es,e<=at' * s)/\(es.length<=i/\∀e∈es,∃k:Int,-1<=k/\k<=14/\e=k * s)/\(-(2:Int)<=at'/\at'<=2+4 * (i:Int)))
  ⟨n % 5 - 2,[],n / 15,none,rfl,rfl,.nil,(fun e he=>by cases he),⟨by simp,fun e he=>by cases he⟩,by omega⟩ (by
   rintro i hi ρ μ ⟨at',es,rest,x5,rfl,rfl,h1,h2,⟨h3,h5⟩,h4⟩;have b4:=dG (rest / 2) (j:=4) (by decide);have hlen:(es.map D.int).length < sizeLine:=dA (by simp;omega);have hgt:at' * s < (at'+1+rest / 2 % 4) * s:=zc3 (by omega) hs;refine ⟨[aP n,aP s,aM 0,aP ((at'+1+rest / 2 % 4)),aP ((rest / 8)),aP ((i:Int))],[.lst ((es++[(at'+1+rest / 2 % 4) * s]).map .int)],?_,at'+1+rest / 2 % 4,es++[(at'+1+rest / 2 % 4) * s],rest / 8,_,rfl,rfl,zcL.mpr ⟨h1,zb8 _ _,fun a ha b hb=>?_⟩,fun e he=>?_,⟨by simp;omega,fun e he=>?_⟩,by omega⟩
   ·push_cast [gX,e7 (i:=rest) (j:=2) (by decide) (by decide),cr (i:=rest / 2) (j:=4) (by decide),iC (i:=at'+1+rest / 2 % 4) (j:=s) (by omega),hlen,e7 (i:=rest) (j:=8) (by decide) (by decide),zaZ]
   ·rw [zaE.mp hb];have:=h2 a ha;omega
   ·rcases zaW.mp he with he|he
    ·have:=h2 e he;omega
    ·rw [zaE.mp he];exact zcz _
   ·rcases zaW.mp he with he|he
    ·exact h5 e he
    ·exact ⟨at'+1+rest / 2 % 4,by omega,by omega,zaE.mp he⟩)
 rw [e];push_cast [cr (i:=rest) (j:=5) (by decide)]
 exact ⟨(_,es),rfl,h1,fun e he=>by
  obtain ⟨k,k1,k2,rfl⟩:=h5 e he
  exact EQ k1 k2⟩
theorem tN:∀(g:Rc) (l:List (Int×Rc)) (p:Int×Rc),ET g l->p.2≠lst g l->ET g (l++[p])
 |_,[],_,_,h=>⟨h,trivial⟩
 |_,q::l,p,hd,h=>⟨hd.1,tN q.2 l p hd.2 h⟩
theorem Dv (c s:Int)(hs:0 < s){P:Int}(hpow:∀μ:ac,mG (.v (.int 10)) (.v (.int 30)) μ=some (.v (.int P),μ))(hP0:0 < P):∃p:Pl,ck [.int c,.int 1,.int s]=some (eT p)/\BP (Cm s) (EG P) p:=by
 rw [uu];obtain ⟨n,hn,hn0,hn1⟩:=kP c 1 (by decide);obtain ⟨n9,hn9,hn90,hn91⟩:=kP c 10 (by decide);have b2:=dG (n / 80) (j:=2) (by decide)
 obtain ⟨f,hf,hf0,hf1⟩:∃f:Int,L2.oA [D.int 1,D.int P] (n / 80 % 2)=some (.int f)/\0 < f/\(f=1\/f=P):=by
  have:n / 80 % 2=0\/n / 80 % 2=1:=by omega
  rcases this with h|h <;> rw [h]
  ·exact ⟨1,rfl,by decide,.inl rfl⟩
  ·exact ⟨P,rfl,hP0,.inr rfl⟩
 obtain ⟨g,hg,hgr⟩:∃g:Rc,v7 (some (n % 4 == 0,[])) (aI 4 (aS df 2 (af (cq (ax dH (ad 3) (fK (.int 4)))) (af (cq (ad 2)) ai)))) bC
   [aP c,aP 1,aP s,aP n,some (.v (.tup [.bl false,.tup []])),none,none,none,none,none] =
   some (.nx [aP c,aP 1,aP s,aP n,some (.v (rD g)),none,none,none,none,none] [])/\g.2.Pairwise (· < ·)/\∀e∈g.2,e∈Cm s:=by
  obtain ⟨r,hr,hr1,hr2⟩:=sj (n / 4) s hs
  cases n % 4 == 0 with
  |true=>exact ⟨r,by push_cast [e7 (i:=n) (j:=4) (by decide) (by decide),hr],hr1,hr2⟩
  |false=>exact ⟨(false,[]),by push_cast [HW.mP];rfl,.nil,fun _ h=>nomatch h⟩
 have b3:=dG (n / 16) (j:=5) (by decide);have b4:=dG (n / 4) (j:=4) (by decide);obtain ⟨m,hm⟩:∃m:Nat,(n / 4 % 4).toNat=m:=⟨_,rfl⟩
 have hm3:m<=3:=by omega
 push_cast [kA,hn,cr (i:=n) (j:=4) (by decide)];rw [hg];push_cast [e7 (i:=n) (j:=16) (by decide) (by decide),cr (i:=n / 16) (j:=5) (by decide),e7 (i:=n) (j:=4) (by decide) (by decide),cr (i:=n / 4) (j:=4) (by decide),qK (j:=n / 4 % 4) (by omega),hm]
 obtain ⟨ρ',μ',e,last,turn,qs,x8,x9,rfl,⟨cs,rfl⟩,h1,h2,h3,h4,h5,h6,h7⟩:=iw (g:=aV 8) (b:=fY) (ρ:=[aP c,aP 1,aP s,aP n,some (.v (rD g)),some (.v (rD g)),aP ((n / 16 % 5 - 1)),aM 0,none,none]) (μ:=[.lst []]) m
  (fun i ρ μ=>∃(last:Rc) (turn:Int) (qs:List (Int×Rc)) (x8 x9:Option R),ρ=[aP c,aP 1,aP s,aP n,some (.v (rD g)),some (.v (rD last)),aP turn,aM 0,x8,x9]/\(∃cs:List aw,μ=.lst (qs.map sD)::cs)/\Up qs/\ET g qs/\last=lst g qs/\(∀p∈qs,p.1 < turn * f)/\qs.length<=i/\(∀p∈qs,(p.2.2.Pairwise (· < ·)/\∀e∈p.2.2,e∈Cm s)/\p.1∈EG P)/\(-(1:Int)<=turn/\turn<=3+3 * (i:Int)))
  ⟨g,n / 16 % 5 - 1,[],none,none,rfl,⟨[],rfl⟩,.nil,trivial,rfl,(fun _ h=>by cases h),by simp,(fun _ h=>by cases h),by omega⟩ (by
   rintro i hi ρ μ ⟨last,turn,qs,x8,x9,rfl,⟨cs,rfl⟩,h1,h2,h3,h4,h5,h6,h7⟩
   have hi3:(i:Int)<=2:=by omega
   obtain ⟨k,hk,hk0,hk1⟩:=kP c (1+5+(i:Int)) (by omega);obtain ⟨r,hr,hr1,hr2⟩:=sj k s hs;have b5:=dG (n9 / 3) (j:=3) (by decide);have hlen:(qs.map sD).length < sizeLine:=dA (by simp;omega);have hgt:turn * f < (turn+1+n9 / 3 % 3) * f:=zc3 (by omega) hf0;have hn9':br [.int c,.int (1+9)]=some (.int n9):=hn9
   by_cases hz:r=last
   ·have hz':decide (r=last)=true:=zaQ hz
    refine ⟨_,_,?_,last,turn+1+n9 / 3 % 3,qs,aP ((i:Int)),some (.v (rD r)),rfl,⟨cs,rfl⟩,h1,h2,h3,fun p hp=>by have:=h4 p hp;omega,by omega,h6,by omega⟩;push_cast [fY,hk,hr,sH,oj,hz',hn9',e7 (i:=n9) (j:=3) (by decide) (by decide),cr (i:=n9 / 3) (j:=3) (by decide)]
   ·have hz':decide (r=last)=false:=zaK hz
    refine ⟨_,_,?_,r,turn+1+n9 / 3 % 3,qs++[(turn * f,r)],aP ((i:Int)),some (.v (rD r)),rfl,⟨cs++[.lst [.int 1,.int P]],rfl⟩,zcL.mpr ⟨h1,zb8 _ _,fun a ha b hb=>?_⟩,tN g qs _ h2 (by rw [←h3];exact hz),by rw [i7],fun p hp=>?_,by simp;omega,fun p hp=>?_,by omega⟩
    ·push_cast [fY,hk,hr,sH,oj,hz',hn9',e7 (i:=n9) (j:=3) (by decide) (by decide),cr (i:=n9 / 3) (j:=3) (by decide),hpow,mP,e7 (i:=n) (j:=80) (by decide) (by decide),cr (i:=n / 80) (j:=2) (by decide),hf,iC (i:=turn) (j:=f) (by omega),hlen,zaZ,JP]
    ·rw [zaE.mp hb];exact h4 a ha
    ·rcases zaW.mp hp with hp|hp
     ·have:=h4 p hp;omega
     ·rw [zaE.mp hp];exact hgt
    ·rcases zaW.mp hp with hp|hp
     ·exact h6 p hp
     ·rw [zaE.mp hp];exact ⟨⟨hr1,hr2⟩,EE (by omega) (by omega) hf1⟩)
 rw [e];push_cast [HW.mP];exact ⟨(g,qs),rfl,⟨hgr.1,h1,h2,fun q hq=>(h6 q hq).1.1⟩,hgr.2,fun q hq=>(h6 q hq).1.2,fun q hq=>(h6 q hq).2⟩
theorem Ld (a b c d e f:Int)(i:Int)(h:0<=i/\i < 6):∃x:Int,L2.oA [D.int a,.int b,.int c,.int d,.int e,.int f] i=some (.int x):=by
 have:i=0\/i=1\/i=2\/i=3\/i=4\/i=5:=by omega
 rcases this with h|h|h|h|h|h <;> rw [h] <;> exact ⟨_,rfl⟩
theorem RE:6<=sizeLine:=by decide
theorem G7 (c:Int)(w:Nat)(hw:w<=3):∃r:Th,c6 [.int c,.int 1,.int (w:Int)]=some (.key r)/\r.length=w:=by
 rw [xy];obtain ⟨n,hn,hn0,hn1⟩:=kP c 18 (by decide);obtain ⟨P,hP⟩:∃P:Int,P=10 ^ (50:Int).toNat:=⟨_,rfl⟩
 have hpow:∀μ:ac,mG (.v (.int 10)) (.v (.int 50)) μ=some (.v (.int P),μ):=fun μ=>by rw [vw (by decide),hP]
 have hP0:0 < P:=by rw [hP];exact Int.pow_pos (by decide)
 clear hP;have hn':br [.int c,.int (1+17)]=some (.int n):=hn;push_cast [lX,hn',qK (j:=(w:Int)) (by omega),zbL]
 obtain ⟨ρ',μ',e,k,r,x5,rfl,⟨cs,rfl⟩,h1⟩:=iw (g:=aV 5) (b:=i8) (ρ:=[aP c,aP 1,aP ((w:Int)),aP n,aM 0,none]) (μ:=[.lst []]) w
  (fun i ρ μ=>∃(k:Int) (r:Th) (x5:Option R),ρ=[aP c,aP 1,aP ((w:Int)),aP k,aM 0,x5]/\(∃cs:List aw,μ=.lst (r.map .int)::cs)/\r.length=i)
  ⟨n,[],none,rfl,⟨[],rfl⟩,rfl⟩ (by
   rintro i hi ρ μ ⟨k,r,x5,rfl,⟨cs,rfl⟩,h1⟩;have b:=dG k (j:=6) (by decide);obtain ⟨x,hx⟩:=Ld 0 1 1 (-1) 2 (c % P) (k % 6) b;have hlen:(r.map D.int).length < sizeLine:=dA (by simp;omega);refine ⟨_,_,?_,k / 6,r++[x],aP ((i:Int)),rfl,⟨cs++[.lst [.int 0,.int 1,.int 1,.int (-1),.int 2,.int (c % P)]],rfl⟩,by simp;omega⟩
   push_cast [i8,hpow,cr (i:=c) (j:=P) hP0,RE,cr (i:=k) (j:=6) (by decide),JP,hx,hlen,e7 (i:=k) (j:=6) (by decide) (by decide),zaZ])
 rw [e];refine ⟨r,?_,h1⟩;push_cast [Bd,zaw]
def la (t:Int)(h:Rc)(q:Int×Rc):Rc:=if q.1<=t then q.2 else h
theorem Bb:∀(qs:List (Int×Rc)) (g:Rc) (t:Int),Up qs->qs.foldl (la t) g=ra g qs t
 |[],_,_,_=>rfl
 |q::qs,g,t,hu=>by
  obtain ⟨h1,h2⟩:=zay.mp hu;rw [zbf,ra]
  by_cases h:t < q.1
  ·rw [if_pos h,la,if_neg (by omega),Bb qs g t h2]
   exact cJ _ _ _ fun p hp=>by have:=h1 p hp;omega
  ·rw [if_neg h,la,if_pos (by omega),Bb qs q.2 t h2]
def tg (d:Int)(b:Bool)(e:Int):Bool:=if e<=d then !b else b
theorem Fu (d:Int):∀(es:Th) (b:Bool),es.Pairwise (· < ·)->es.foldl (tg d) b=lv b es d
 |[],_,_=>rfl
 |e::es,b,h=>by
  obtain ⟨p1,p2⟩:=zay.mp h;rw [zbf,Fu d es _ p2,lv,tg]
  by_cases z:e<=d
  ·rw [if_pos z,if_neg (by omega)]
  ·rw [if_neg z,if_pos (by omega),cM fun x hx=>by have:=p1 x hx;omega]
theorem uZ (g:Rc)(qs:List (Int×Rc))(d t:Int)(hp:Pf g qs):cK [pD g qs,.int d,.int t]=some (.bl (mH (ra g qs t) d)):=by
 rw [uv]
 obtain ⟨⟨r,x5,x6⟩,e,h1⟩:=ic (g:=ie 2 (ap (aV 5) (ap (aV 6) bn))) (b:=eB) sD
  (fun st:Rc×Option R×Option R=>([some (.v (pD g qs)),aP d,aP t,some (.v (.bl st.1.1)),some (.v (.tup (st.1.2.map .int))),st.2.1,st.2.2,none],([]:ac)))
  (fun st rem=>rem.foldl (la t) st.1=ra g qs t) qs (g,none,none) (Bb qs g t hp.up) (by
   rintro ⟨h,x,y⟩ q rem hh;refine ⟨(la t h q,aP q.1,some (.v (rD q.2))),?_,hh⟩
   by_cases hz:q.1<=t
   ·have hz':decide (q.1<=t)=true:=zaQ hz
    push_cast [eB,sD,rD,hz',la,if_pos hz]
   ·have hz':decide (q.1<=t)=false:=zaK hz
    push_cast [eB,sD,rD,hz',la,if_neg hz])
 have h1:r=ra g qs t:=h1
 obtain ⟨⟨b,x7⟩,e2,h2⟩:=ic (g:=aV 7) (b:=eA) D.int
  (fun st:Bool×Option R=>([some (.v (pD g qs)),aP d,aP t,some (.v (.bl st.1)),some (.v (.tup (r.2.map .int))),x5,x6,st.2],([]:ac)))
  (fun st rem=>rem.foldl (tg d) st.1=mH r d) r.2 (r.1,none) (Fu d r.2 r.1 (by rw [h1];exact hp.at t)) (by
   rintro ⟨b,x⟩ q rem hh;refine ⟨(tg d b q,some (.v (.int q))),?_,hh⟩
   by_cases hz:q<=d
   ·have hz':decide (q<=d)=true:=zaQ hz
    push_cast [eA,hz',tg,if_pos hz]
   ·have hz':decide (q<=d)=false:=zaK hz
    push_cast [eA,hz',tg,if_neg hz])
 have h2:b=mH r d:=h2;have e':cb (ie 2 (ap (aV 5) (ap (aV 6) bn))) eB (qs.map sD) [some (.v (.tup [.tup [.bl g.1,.tup (g.2.map .int)],.tup (qs.map sD)])),aP d,aP t,some (.v (.bl g.1)),some (.v (.tup (g.2.map .int))),none,none,none] []=_:=e;have e2':cb (aV 7) eA (r.2.map .int) [some (.v (.tup [.tup [.bl g.1,.tup (g.2.map .int)],.tup (qs.map sD)])),aP d,aP t,some (.v (.bl r.1)),some (.v (.tup (r.2.map .int))),x5,x6,none] []=_:=e2;push_cast [kB,pD,rD];rw [e'];push_cast [pD,rD];rw [e2'];push_cast [h2,h1]
abbrev bI (r:Th):D:=.tup (r.map .int)
abbrev gR (e:En):D:=.tup [bI e.1,eT e.2]
theorem lH (i:Int):de [.int i]=some (.bl true):=rfl
theorem pj (x:D)(ns:Th)(hlen:∀μ:ac,gF [.v x] μ=some (.v (.int (ns.length:Int)),μ))(hix:∀(i:Int) (p:Int) (μ:ac),L2.oA (ns.map D.int) i=some (.int p)->c9 (.v x) (.v (.int i)) μ=some (.v (.int p),μ))(hu:ns.Pairwise (· < ·))(hl:ns.length < 2000):b9 [x]=some (.bl true):=by
 rw [rL]
 have h62 : -(2 ^ 62:Int)<=(ns.length:Int)/\(ns.length:Int) < 2 ^ 62:=by omega
 obtain ⟨ρ',μ',e,x1,rfl,rfl⟩:=iw (g:=aV 1) (b:=ff) (ρ:=[some (.v x),none]) (μ:=[]) ns.length
  (fun i ρ μ=>∃x1,ρ=[some (.v x),x1]/\μ=[]) ⟨none,rfl,rfl⟩ (by
   rintro i hi ρ μ ⟨x1,rfl,rfl⟩;obtain ⟨p,hp⟩:∃p,ns[i]?=some p:=⟨_,zas hi⟩;have c0:=fun μ=>hix (i:Int) p μ (rc hp)
   cases i with
   |zero =>
    have c1:decide ((0:Int) < ((0:Nat):Int))=false:=rfl;have c0':∀μ:ac,c9 (.v x) (.v (.int ((0:Nat):Int))) μ=some (.v (.int p),μ):=c0;refine ⟨[some (.v x),aP (((0:Nat):Int))],[],?_,_,rfl,rfl⟩;push_cast [ff,oh,yk,vz,vq,xa,BG,xf,qL,Gm,Gk,BF,Gj,wJ,wI,BJ,BI,c0',lH,c1]
   |succ j =>
    obtain ⟨q,hq⟩:∃q,ns[j]?=some q:=⟨_,zas (by omega)⟩;have c1:decide ((0:Int) < ((j+1:Nat):Int))=true:=zaQ (by omega)
    have c2:((j+1:Nat):Int) - 1=(j:Int):=by omega
    have c3:=fun μ=>hix (j:Int) q μ (rc hq)
    have hlt:q < p:=by
     obtain ⟨h1,h1'⟩:=zau.mp hq;obtain ⟨h2,h2'⟩:=zau.mp hp;rw [←h1',←h2'];exact zbc.mp hu j (j+1) h1 h2 (by omega)
    have c4:decide (p<=q)=false:=zaK (by omega);refine ⟨[some (.v x),aP (((j+1:Nat):Int))],[],?_,_,rfl,rfl⟩
    push_cast [ff,oh,yk,vz,vq,xa,BG,xf,qL,Gm,Gk,BF,Gj,wJ,wI,BJ,BI,c0,c2,c3,lH,c1,c4])
 push_cast [jj,vt,BL,L4,Me,qL,BF,Jm,BO,BN,Jo,hlen,qK h62,xc,zbL,e]
theorem xJ (ns:Th)(hu:ns.Pairwise (· < ·))(hl:ns.length < 2000):b9 [.tup (ns.map .int)]=some (.bl true) :=
 pj _ ns (fun μ=>by rw [Eh,zal]) (fun i p μ h=>by push_cast [h]) hu hl
theorem zQ (ns:Th)(hu:ns.Pairwise (· < ·))(hl:ns.length < 2000):b9 [.fl (ns.map .int)]=some (.bl true) :=
 pj _ ns (fun μ=>by rw [Ei,zal]) (fun i p μ h=>by push_cast [h]) hu hl
theorem t1 (xs:List D)(μ:ac):jc "tuple" (.v (.tup xs)) μ=some (.v (.bl true),μ):=rfl
theorem t2 (b:Bool)(μ:ac):jc "bool" (.v (.bl b)) μ=some (.v (.bl true),μ):=rfl
theorem t3 (xs:List D)(μ:ac):jc "list" (.v (.fl xs)) μ=some (.v (.bl true),μ):=rfl
theorem ME:(((2:Nat):Int) == 2)=true:=rfl
theorem sU (r:Rc)(hu:r.2.Pairwise (· < ·))(hl:r.2.length < 2000):cD [rD r]=some (.bl true):=by
 rw [nj];have h:=xJ r.2 hu hl;push_cast [gy,t1,t2,ME,h]
theorem Bo {ES TS:Th}(hE:ES.length<=16)(hT:TS.length<=22){g:Rc}{qs:List (Int×Rc)}(h:BP ES TS (g,qs)):dL [pD g qs]=some (.bl true):=by
 rw [oJ]
 have rl:∀l:Th,l.Pairwise (· < ·)->(∀e∈l,e∈ES)->l.length < 2000:=fun l h1 h2=>by have:=eV l ES (rG h1) h2;omega
 have rg:=sU g h.pf.gu (rl _ h.pf.gu h.ge)
 obtain ⟨⟨dn,x2⟩,e,hd,-⟩:=ic (g:=aV 2) (b:=dP) sD
  (fun st:List (Int×Rc)×Option R=>([some (.v (pD g qs)),some (.v (rD (lst g st.1))),st.2],([]:ac)))
  (fun st rem=>st.1++rem=qs/\True) qs ([],none) ⟨rfl,trivial⟩ (by
   rintro ⟨dn,x2⟩ q rem ⟨hd,-⟩;simp only at hd
   have hq:q∈qs:=by rw [←hd];simp
   have rq:=sU q.2 (h.pf.ru q hq) (rl _ (h.pf.ru q hq) (h.re q hq))
   have hne:q.2≠lst g dn:=by
    have key:∀(a:List (Int×Rc)) (g:Rc) (r:List (Int×Rc)),ET g (a++q::r)->q.2≠lst g a:=by
     intro a
     induction a with
     |nil=>intro g r hz;exact hz.1
     |cons p a ih=>intro g r hz;exact ih p.2 r hz.2
    exact key dn g rem (by rw [hd];exact h.pf.dif)
   have hne':decide (q.2=lst g dn)=false:=zaK hne;refine ⟨(dn++[q],some (.v (sD q))),?_,by simp only [zbj,List.singleton_append];exact ⟨hd,trivial⟩⟩
   push_cast [dP,sD,t1,ME,rq,sH,oj,hne',i7])
 rw [zbm] at hd
 have hn:qs.length<=22:=by
  have:=eV (qs.map (·.1)) TS (rG (zbi.mpr h.pf.up)) fun x hx=>by obtain ⟨q,hq,rfl⟩:=zar.mp hx;exact h.te q hq
  rw [zal] at this;omega
 have hz:(qs.map sD).length<=sizeLine:=bK (by simp;omega);have hc:=e8 (f:=ax c9 (ad 0) (fK (.int 0))) (μ:=[]) (rest:=[]) sD (fun q=>D.int q.1) qs none (fun q _=>by push_cast [sD])
 have hcm:qs.map (fun q=>D.int q.1)=(qs.map (·.1)).map D.int:=by rw [za2];rfl
 rw [hcm] at hc;have hz2:((qs.map (·.1)).map D.int).length<=sizeLine:=bK (by simp;omega);have hr:=zQ (qs.map (·.1)) (zbi.mpr h.pf.up) (by simp;omega);have e':cb (aV 2) dP (qs.map sD) [some (.v (.tup [rD g,.tup (qs.map sD)])),some (.v (rD g)),none] []=_:=e;push_cast [g8,pD,t1,ME,rg];rw [e'];push_cast [hz,hc,hz2,hr]
theorem vF (ks:Th)(μ:ac):bv (aV 0) dw (aS de 1 (af (cq (ad 0)) ai)) (ks.map .int) [none] μ=some (ks.map (fun _=>D.bl true),μ) :=
 e8 (rest:=[]) D.int (fun _=>D.bl true) ks none (fun k _=>by push_cast [lH])
theorem ua:∀ks:Th,kq (ks.map fun _=>D.bl true)=some (ks.map fun _=>true)
 |[]=>rfl
 |k::ks=>by simp only [zaf,kq,ua ks,zaw]
theorem gK:∀a:Th,HT2.iO a a=false
 |[]=>rfl
 |x::a=>by simp [HT2.iO,gK a]
theorem j8 {l:Ta}(h:Cw l):l.Nodup:=h.imp fun {a b} h e=>by subst e;rw [gK] at h;cases h
theorem A1 {l:Ta}(h:Cw l):bD l=l:=jy (gq (j8 h)) h (bT l)
theorem pK:∀ns:Th,fT (ns.map D.int)=some ns
 |[]=>rfl
 |n::ns=>by simp only [zaf,fT,pK ns,za8]
theorem jY:∀rows:Ta,rQ (rows.map bI)=some rows
 |[]=>rfl
 |r::rows=>by
  have:yO (bI r)=some r:=by unfold yO;exact pK r
  simp only [zaf,rQ,this,jY rows,zaw]
theorem wF {n:Nat}(rows:Ta):eU (n+3) (.fl (rows.map bI))=true:=F3 (k8 (fun r=>gU (jx r)) rows)
theorem xi (a:Ta):iF (.fl (a.map bI)) (.fl (a.map bI))=true:=by
 have:∀l:Ta,eqDs (l.map bI) (l.map bI)=true:=by
  intro l
  induction l with
  |nil=>rfl
  |cons x l ih=>simp only [zaf,bQ,cY,dQ,dR,ih,zcB,bI,fZ,iD,iE,f6,jB,zaQ]
 simp only [fZ,iD,iE,f6,this]
theorem BZ:∀(l acc:Ta),(acc++l).Nodup->l.foldl Mm acc=acc++l
 |[],acc,_=>by simp
 |k::l,acc,h=>by
  have hk:k∉acc:=fun z=>by
   have:=(zbE.mp h).2.2 k z k zah;exact this rfl
  rw [zbf,Mm,if_neg hk,BZ l (acc++[k]) (by simpa using h)];simp
theorem Mn {l:Ta}(h:l.Nodup):dd l=l:=by
 have:=BZ l [] (by simpa using h);simpa [dd] using this
theorem BC {w:Nat}{T:List En}(hn:T.length < 64)(hr:∀e∈T,e.1.length=w)(nd:(T.map (·.1)).Nodup):(T.map (·.1)).length < 64/\((T.map (·.1)).length < 2\/∀k∈T.map (·.1),k≠[]):=by
 refine ⟨by simpa using hn,?_⟩
 have hw:∀k∈T.map (·.1),k.length=w:=fun k hk=>by obtain ⟨e,he,rfl⟩:=zar.mp hk;exact hr e he
 by_cases z:w=0
 ·refine .inl ?_
  have:=eV (T.map (·.1)) [[]] nd fun x hx=>by
   have:=hw x hx
   rw [z] at this
   rw [zbD.mp this];exact zah
  simp at this ⊢;omega
 ·refine .inr fun k hk e=>?_
  have:=hw k hk
  rw [e] at this
  simp at this;omega
theorem Bn (bt:Bool){ES TS:Th}(hE:ES.length<=16)(hT:TS.length<=22){w:Nat}{T:List En}(h3:w<=3)(hn:T.length<=40)(hb:∀e∈T,BP ES TS e.2/\e.2≠Cv)(hr:∀e∈T,e.1.length=w)(up:Cw (T.map (·.1))):bS bt [.fl (T.map gR),.int (w:Int)]=some (.bl true):=by
 rw [ni]
 obtain ⟨⟨μ,x2⟩,e,-⟩:=ic (g:=aV 2) (b:=dq bt) gR
  (fun st:ac×Option R=>([some (.v (.fl (T.map gR))),aP ((w:Int)),st.2,none],st.1))
  (fun st rem=>∀e∈rem,e∈T) T ([],none) (fun _ h=>h) (by
   rintro ⟨μ,x2⟩ e rem hm;have he:=hm e zah;obtain ⟨pg,hz⟩:=hb e he;have hw:=hr e he
   have hz':iF (eT e.2) NL=false:=by rw [BS];exact zaK hz
   have hp:=Bo hE hT (g:=e.2.1) (qs:=e.2.2) pg
   have hww:((e.1.length:Int) == (w:Int))=true:=by rw [hw];exact zcl _
   have hwl:e.1.length<=sizeLine:=bK (by omega);have cw:=vF e.1;have at':=ua e.1
   have hall:(e.1.map fun _=>true).all id=true:=by simp
   have okn:=AV;obtain ⟨r,g,qs⟩:=e;simp only at hw hww hwl cw at' hall hp hz';refine ⟨(μ++[aw.lst (r.map fun _=>D.bl true)],some (.v (gR (r,g,qs)))),?_,fun e he=>hm e (zaj _ he)⟩
   push_cast [dq,gR,bI,eT,t1,ME,hww,zal,hwl,cw,at',hall,hp,F2,okn,hz',JP,zbo])
 have z1:(T.map gR).length<=sizeLine:=bK (by simp;omega);have hc:=e8 (f:=ax c9 (ad 0) (fK (.int 0))) (μ:=μ) (rest:=[]) gR (fun e=>bI e.1) T none (fun e _=>by push_cast [gR])
 have hcm:T.map (fun e=>bI e.1)=(T.map (·.1)).map bI:=by rw [za2];rfl
 rw [hcm] at hc;have z2:((T.map (·.1)).map bI).length<=sizeLine:=bK (by simp;omega);have few:=BC (w:=w) (T:=T) (by omega) hr (j8 up)
 have ss:Kx (.p μ.length) (μ++[.lst ((T.map (·.1)).map bI)])=some (.p (μ++[aw.lst ((T.map (·.1)).map bI)]).length,μ++[.lst ((T.map (·.1)).map bI)]++[.lst ((T.map (·.1)).map bI)]):=by
  unfold Kx oN;simp only [JP,zaw,jY];rw [Mn (j8 up),if_pos few,A1 up]
 have e':cb (aV 2) (dq bt) (T.map gR) [some (.v (.fl (T.map gR))),aP ((w:Int)),none,none] []=_:=e;push_cast [gx,t3];rw [e'];generalize hrows:(T.map (·.1)).map bI=rows at *
 have okr:eU 60 (.fl rows)=true:=by rw [←hrows];exact wF _
 have eqr:iF (.fl rows) (.fl rows)=true:=by rw [←hrows];exact xi _
 have g1:(μ++[aw.lst rows]++[aw.lst rows])[μ.length]?=some (.lst rows):=by
  rw [zai (by simp)];exact JP
 have fs:vm (ad 3) [some (.v (.fl (T.map gR))),aP ((w:Int)),x2,aM μ.length] (μ++[.lst rows])=some (.p (μ++[aw.lst rows]).length,μ++[.lst rows]++[.lst rows]):=ss;push_cast [z1,hc,z2,fs,g1,JP,okr,eqr]
abbrev g7 (d t:Int)(es:List En):Ta:=(es.filter fun e=>iz e.2 t d).map (·.1)
theorem IB (bt:Bool){w:Nat}{es:List En}(hb:∀e∈es,Pf e.2.1 e.2.2)(hn:es.length < 64)(hr:∀e∈es,e.1.length=w)(d t:Int):gp bt [.fl (es.map gR),.int d,.int t]=some (.lst ((bD (dd (g7 d t es))).map bI)):=by
 rw [yM]
 have hc:(g7 d t es).length<=es.length:=by rw [zal];exact zcK _ _
 have z1:(es.map gR).length<=sizeLine:=bK (by rw [zal];omega)
 have cm0:=lD (c:=eZ (aS cK 3 (af (cq (ad 1)) (af (cq (ad 2)) (af (cq (ad 3)) ai))))) (f:=ad 0) (rest:=[aP d,aP t]) (μ:=[]) (fun e:En=>bI e.1) (fun e=>eT e.2) (fun e=>iz e.2 t d) (fun e=>bI e.1) es none none (fun e he=>by
   have h1:=uZ e.2.1 e.2.2 d t (hb e he)
   push_cast [h1]) (fun e _ _=>by push_cast [HW.mP])
 have cm:bv (ie 2 (ap (aV 0) (ap (aV 1) bn))) (eZ (aS cK 3 (af (cq (ad 1)) (af (cq (ad 2)) (af (cq (ad 3)) ai))))) (ad 0) (es.map gR) (dz 2 [1,2] [some (.v (.fl (es.map gR))),aP d,aP t]) []=some ((g7 d t es).map bI,[]):=by
  rw [g7,za2];exact cm0
 have fw:(g7 d t es).length < 64/\((dd (g7 d t es)).length < 2\/∀k∈g7 d t es,k≠[]):=by
  refine ⟨by omega,?_⟩
  have hw:∀k∈g7 d t es,k.length=w:=fun k hk=>by
   obtain ⟨e,he,rfl⟩:=zar.mp hk;exact hr e (zbl.mp he).1
  by_cases z:w=0
  ·refine .inl ?_
   have:=eV (dd (g7 d t es)) [[]] (ji _) fun x hx=>by
    have:=hw x ((vE _ x).mp hx)
    rw [z] at this
    rw [zbD.mp this];exact zah
   simp at this;omega
  ·refine .inr fun k hk e=>?_
   have:=hw k hk
   rw [e] at this
   simp at this;omega
 have hcomp:cj [1,2] 2 (bm (ad 0)) (ie 2 (ap (aV 0) (ap (aV 1) bn))) (eZ (aS cK 3 (af (cq (ad 1)) (af (cq (ad 2)) (af (cq (ad 3)) ai))))) (ad 0) [some (.v (.fl (es.map gR))),aP d,aP t] []=some (.p 0,[.lst ((g7 d t es).map bI)]):=by
  push_cast [z1,cm]
 have ss:Kx (.p 0) [.lst ((g7 d t es).map bI)]=some (.p 1,[.lst ((g7 d t es).map bI),.lst ((bD (dd (g7 d t es))).map bI)]):=by
  unfold Kx oN;simp only [DV,zaw,jY];rw [if_pos fw];rfl
 have fs:vm (cj [1,2] 2 (bm (ad 0)) (ie 2 (ap (aV 0) (ap (aV 1) bn))) (eZ (aS cK 3 (af (cq (ad 1)) (af (cq (ad 2)) (af (cq (ad 3)) ai))))) (ad 0)) [some (.v (.fl (es.map gR))),aP d,aP t] []=some (.p 1,[.lst ((g7 d t es).map bI),.lst ((bD (dd (g7 d t es))).map bI)]):=by
  simp only [vm,hcomp,zaw,ss]
 simp only [ow,BH,fs,Ef];rfl
theorem Iw {n:Nat}(e:En):eU (n+6) (gR e)=true:=gU (em (gU (jx _)) (em (AU _ _) k7))
theorem F1 (es:List En):eU 60 (.fl (es.map gR))=true:=F3 (k8 (fun e=>Iw e) es)
theorem CN (cell k s:Int)(hk:0<=k/\k < 100){Ts:List En}:∃d t:Int,eX [.int cell,.int k,.fl (Ts.map gR),.int s]=some (.tup [.int d,.int t]):=by
 rw [ut];obtain ⟨n,hn,hn0,hn1⟩:=kP cell (k+31) (by omega);have dv:∀(j:Int),0 < j->j < 2 ^ 30->∀(μ:ac),dH (.v (.int n)) (.v (.int j)) μ=some (.v (.int (n / j)),μ):=fun j j0 j1 μ=>e7 (by omega) (by omega);have m9:∀μ:ac,b7 (.v (.int n)) (.v (.int 9)) μ=some (.v (.int (n % 9)),μ):=fun μ=>cr (by decide);have md:∀(i j:Int),0 < j->∀μ:ac,b7 (.v (.int i)) (.v (.int j)) μ=some (.v (.int (i % j)),μ):=fun i j j0 μ=>cr (by omega);have b15:=dG (n / 9) (j:=15) (by decide);have ml:∀μ:ac,lf (.v (.int (n / 9 % 15 - 4))) (.v (.int s)) μ=some (.v (.int ((n / 9 % 15 - 4) * s)),μ):=fun μ=>iC (by omega);have okT:eU 60 (.fl (Ts.map gR))=true:=F1 Ts;have ok0:eU 60 (.fl [])=true:=rfl
 have okn:eU 60 (.tup [])=true:=by decide +kernel
 have pre:∀X:FS,(aq (aI 4 (aS br 2 (af (cq (ad 0)) (af (cq (ax ij (ad 1) (fK (.int 31)))) ai)))) (aq (aI 5 (ax jH (ax b7 (ad 4) (fK (.int 9))) (fK (.int 2)))) (aq (aI 6 (ax jH (ax lf (ax jH (ax b7 (ax dH (ad 4) (fK (.int 9))) (fK (.int 15))) (fK (.int 4))) (ad 3)) (ax b7 (ax dH (ad 4) (fK (.int 135))) (fK (.int 2))))) X)))
   [aP cell,aP k,some (.v (.fl (Ts.map gR))),aP s,none,none,none,none,none] []=X [aP cell,aP k,some (.v (.fl (Ts.map gR))),aP s,aP n,aP ((n % 9 - 2)),aP (((n / 9 % 15 - 4) * s - n / 135 % 2)),none,none] []:=fun X=>by
  push_cast [hn,m9,dv 9 (by decide) (by decide),dv 135 (by decide) (by decide),md _ 15 (by decide),md _ 2 (by decide),ml]
 rw [show ky [aP cell,aP k,some (.v (.fl (Ts.map gR))),aP s,none,none,none,none,none] []=_ from pre _]
 by_cases hT:Ts=[]
 ·subst hT
  have e0:iF (.fl (([]:List En).map gR)) (.fl [])=true:=rfl;push_cast [okT,ok0,e0,zbo];exact ⟨_,_,rfl⟩
 ·have e0:iF (.fl (Ts.map gR)) (.fl [])=false:=by
   cases Ts with
   |nil=>exact absurd rfl hT
   |cons e T=>rfl
  cases q3:decide (0 < n / 270 % 3) with
  |false =>
   push_cast [dv 270 (by decide) (by decide),md _ 3 (by decide),okT,ok0,e0,q3,zbU];exact ⟨_,_,rfl⟩
  |true =>
   have pick:∀{α:Type} (f:α->D) (xs:List α) (i:Int),xs≠[]->∃x∈xs,L2.oA (xs.map f) (i % (xs.length:Int))=some (f x)/\(0:Int) < (xs.length:Int):=fun {α} f xs i hx=>by
    have hpos:(0:Int) < (xs.length:Int):=by have:=List.length_pos_iff.mpr hx;omega
    obtain ⟨j,hj⟩:∃j:Nat,(j:Int)=i % (xs.length:Int):=⟨(i % (xs.length:Int)).toNat,by rw [zcm (zcN _ (by omega))]⟩
    have hlt:j < xs.length:=by have:=zcr i hpos;omega
    exact ⟨xs[j],zcC hlt,by rw [←hj];exact rc (zas hlt),hpos⟩
   obtain ⟨e,he,a1,p1⟩:=pick gR Ts (n / 810) hT;have mT:=fun μ=>md (n / 810) (Ts.length:Int) p1 μ;obtain ⟨row,g,qs⟩:=e;have okq:eU 60 (.tup (qs.map sD))=true:=gU (k8 (fun p=>AT p) qs);have oke:∀r:Rc,eU 60 (.tup (r.2.map .int))=true:=fun r=>gU (jx _)
   have eqe:∀r:Rc,iF (.tup (r.2.map .int)) (.tup [])=decide (r.2=[]):=fun r=>by
    have:=jB r.2 [];simp only [fZ,iD,iE,f6];exact this
   have fin:∀(r:Rc) (x7:R) (t d:Int) (μ:ac),∃(d':Int),(ju (fB (ax (jh true) (ax c9 (ad 8) (fK (.int 1))) (cW ai))) (aI 6 (ax jH (ax c9 (ax c9 (ad 8) (fK (.int 1))) (ax b7 (ax dH (ad 4) (fK (.int 180000))) (eL gF (af (ax c9 (ad 8) (fK (.int 1))) ai)))) (ax b7 (ax dH (ad 4) (fK (.int 1800000))) (fK (.int 2))))) bC)
     [aP cell,aP k,some (.v (.fl (Ts.map gR))),aP s,aP n,aP t,aP d,some x7,some (.v (rD r))] μ=some (.nx [aP cell,aP k,some (.v (.fl (Ts.map gR))),aP s,aP n,aP t,aP d',some x7,some (.v (rD r))] μ):=fun r x7 t d μ=>by
    by_cases hr:r.2=[]
    ·have hr':decide (r.2=[])=true:=zaQ hr
     refine ⟨d,?_⟩;push_cast [oke,okn,eqe,hr',zbo]
    ·have hr':decide (r.2=[])=false:=zaK hr
     obtain ⟨x,hx,a2,p2⟩:=pick D.int r.2 (n / 180000) hr;have mR:=fun μ=>md (n / 180000) (r.2.length:Int) p2 μ;refine ⟨x - n / 1800000 % 2,?_⟩;push_cast [oke,okn,eqe,hr',zbU,dv 180000 (by decide) (by decide),dv 1800000 (by decide) (by decide),zal,mR,a2,md _ 2 (by decide)]
   generalize hL:(ju (fB (ax (jh true) (ax c9 (ad 8) (fK (.int 1))) (cW ai))) (aI 6 (ax jH (ax c9 (ax c9 (ad 8) (fK (.int 1))) (ax b7 (ax dH (ad 4) (fK (.int 180000))) (eL gF (af (ax c9 (ad 8) (fK (.int 1))) ai)))) (ax b7 (ax dH (ad 4) (fK (.int 1800000))) (fK (.int 2))))) bC)=L at fin
   by_cases hq:qs=[]
   ·subst hq
    have eq0:iF (.tup []) (.tup [])=true:=by decide +kernel
    obtain ⟨d',hf⟩:=fin g (.v (.tup [rD g,.tup []])) (n % 9 - 2) ((n / 9 % 15 - 4) * s - n / 135 % 2) [aw.lst []];refine ⟨d',n % 9 - 2,?_⟩
    try rw [hL]
    push_cast [dv 270 (by decide) (by decide),dv 810 (by decide) (by decide),md _ 3 (by decide),okT,ok0,e0,q3,zbU,zal,mT,a1,gR,eT,pD,zaY,okn,eq0,zbo,hf]
   ·have eq0:iF (.tup (qs.map sD)) (.tup [])=false:=by
     cases qs with
     |nil=>exact absurd rfl hq
     |cons q rs=>simp [fZ,iD,iE,f6,bQ,cY,dQ,dR]
    obtain ⟨q,hqm,a2,p2⟩:=pick sD qs (n / 9000) hq;have mQ:=fun μ=>md (n / 9000) (qs.length:Int) p2 μ;have a2':L2.oA (qs.map sD) (n / 9000 % (qs.length:Int))=some (.tup [.int q.1,rD q.2]):=a2;obtain ⟨d',hf⟩:=fin q.2 (.v (.tup [rD g,.tup (qs.map sD)])) (q.1 - n / 90000 % 2) ((n / 9 % 15 - 4) * s - n / 135 % 2) [aw.lst []];refine ⟨d',q.1 - n / 90000 % 2,?_⟩
    try rw [hL]
    push_cast [dv 270 (by decide) (by decide),dv 810 (by decide) (by decide),dv 9000 (by decide) (by decide),dv 90000 (by decide) (by decide),md _ 2 (by decide),md _ 3 (by decide),okT,ok0,e0,q3,zbU,zal,mT,a1,gR,eT,pD,okq,okn,eq0,mQ,a2',hf]
theorem iP:∀l:Th,unkDs (l.map D.int)=l.map .int
 |[]=>by simp only [zaY,unkDs]
 |i::l=>by simp only [zaf,unkDs,gD,iP l]
theorem GF (r:Rc):gD (rD r)=rD r:=by simp only [gD,unkDs,iP]
theorem vY:∀qs:List (Int×Rc),unkDs (qs.map sD)=qs.map sD
 |[]=>by simp only [zaY,unkDs]
 |q::qs=>by simp only [zaf,unkDs,gD,GF,vY qs,iP]
theorem GG (e:En):gD (bi e)=gR e:=by simp only [bi,gD,unkDs,iP,vY]
theorem kJ:∀es:List En,unkDs (es.map bi)=es.map gR
 |[]=>by simp only [zaY,unkDs]
 |e::es=>by rw [zaf,unkDs,GG,kJ es];rfl
theorem rJ:∀rows:Ta,unkDs (rows.map bI)=rows.map bI
 |[]=>by simp only [zaY,unkDs]
 |r::rows=>by simp only [zaf,unkDs,gD,iP,rJ rows]
section
variable  {ES TS:Th}{RW:Ta}{w:Nat}
theorem zF {p:Pl}(h:BP ES TS p)(hn:p≠Cv):∃t d,iz p t d=true:=by
 refine Classical.byContradiction fun z=>hn ?_;have h0:Pf Cv.1 Cv.2:=⟨.nil,.nil,trivial,fun _ h=>nomatch h⟩
 have:=AB h.pf h0 fun t d=>by
  rw [show mH (ra Cv.1 Cv.2 t) d=false from A4 t d]
  cases q:mH (ra p.1 p.2 t) d with
  |false=>rfl
  |true=>exact absurd ⟨t,d,q⟩ z
 exact Prod.ext this.1 this.2
theorem wm {es T:List En}(h:gz ES TS es T)(r:Th):r∈T.map (·.1) ↔ ∃t d,∃e∈es,e.1=r/\iz e.2 t d=true:=by
 constructor
 ·intro hr
  obtain ⟨e,he,rfl⟩:=zar.mp hr;obtain ⟨t,d,hl⟩:=zF (h.ok e he).1 (h.ok e he).2;exact ⟨t,d,(h.pt e.1 t d).mp ⟨e,he,rfl,hl⟩⟩
 ·rintro ⟨t,d,x⟩
  obtain ⟨e,he,h1,_⟩:=(h.pt r t d).mpr x;exact zar.mpr ⟨e,he,h1⟩
theorem wH {α β:Type}{f:α->β}:∀{T T':List α},T.map f=T'.map f->(∀e∈T,∀e'∈T',f e=f e'->e=e')->T=T'
 |[],[],_,_=>rfl
 |[],_::_,h,_=>by cases h
 |_::_,[],h,_=>by cases h
 |a::T,b::T',h,k=>by
  rw [zaf,zaf] at h;obtain ⟨h1,h2⟩:=List.cons_eq_cons.mp h;rw [k a zah b zah h1,wH h2 fun e he e' he'=>k e (zaj _ he) e' (zaj _ he')]
theorem wG {T:List En}(up:Cw (T.map (·.1))){e e':En}(h1:e∈T)(h2:e'∈T)(h:e.1=e'.1):e=e':=by
 obtain ⟨i,hi,e1⟩:=za7 h1;obtain ⟨j,hj,e2⟩:=za7 h2;have hij:i=j:=(zbH (xs:=T.map (·.1)) (h₀:=by simpa using hi) (h₁:=by simpa using hj) (j8 up)).mp (by rw [zbI,zbI,e1,e2];exact h);subst hij;exact e1.symm.trans e2
theorem o7 {es es' T T':List En}(h:gz ES TS es T)(h':gz ES TS es' T')(hp:∀r t d,(∃e∈es,e.1=r/\iz e.2 t d=true) ↔ (∃e∈es',e.1=r/\iz e.2 t d=true)):T=T':=by
 have hm:∀r,r∈T.map (·.1) ↔ r∈T'.map (·.1):=fun r=>by
  rw [wm h,wm h'];exact exists_congr fun t=>exists_congr fun d=>hp r t d
 have hrows:T.map (·.1)=T'.map (·.1):=jy h.up h'.up ((List.perm_ext_iff_of_nodup (j8 h.up) (j8 h'.up)).mpr hm);refine wH hrows fun e he e' he' hr=>Prod.ext hr ?_
 have:=AB (h.ok e he).1.pf (h'.ok e' he').1.pf fun t d=>by
  have a:iz e.2 t d=true ↔ ∃x∈T,x.1=e.1/\iz x.2 t d=true:=⟨fun q=>⟨e,he,rfl,q⟩,fun ⟨x,hx,h1,h2⟩=>by rw [wG h.up he hx h1.symm];exact h2⟩;have b:iz e'.2 t d=true ↔ ∃x∈T',x.1=e'.1/\iz x.2 t d=true:=⟨fun q=>⟨e',he',rfl,q⟩,fun ⟨x,hx,h1,h2⟩=>by rw [wG h'.up he' hx h1.symm];exact h2⟩;rw [h.pt] at a;rw [h'.pt,←hp,←hr] at b;exact zcP.mpr (a.trans b.symm)
 exact Prod.ext this.1 this.2
theorem Eu {es T:List En}(h:gz ES TS es T)(d t:Int):bD (dd (g7 d t T))=bD (dd (g7 d t es)):=by
 refine jy (gq (ji _)) (gq (ji _)) (((bT _).trans ?_).trans (bT _).symm);refine (List.perm_ext_iff_of_nodup (ji _) (ji _)).mpr fun r=>?_;rw [vE,vE]
 have key:∀l:List En,r∈g7 d t l ↔ ∃e∈l,e.1=r/\iz e.2 t d=true:=fun l=>by
  unfold g7;rw [zar];constructor
  ·rintro ⟨e,he,h1⟩
   obtain ⟨h2,h3⟩:=zbl.mp he;exact ⟨e,h2,h1,h3⟩
  ·rintro ⟨e,he,h1,h2⟩
   exact ⟨e,zbl.mpr ⟨he,h2⟩,h1⟩
 rw [key,key,h.pt]
theorem gz.len {es T:List En}(h:gz ES TS es T)(ho:oX ES TS RW w es)(hR:RW.length<=40):T.length<=40:=by
 have:=eV (T.map (·.1)) RW (j8 h.up) fun x hx=>by
  obtain ⟨e,he,rfl⟩:=zar.mp hx;obtain ⟨e',he',h1⟩:=zar.mp (h.row e he);rw [←h1];exact (ho.rw e' he').1
 rw [zal] at this;omega
theorem gz.rows {es T:List En}(h:gz ES TS es T)(ho:oX ES TS RW w es):∀e∈T,e.1∈RW/\e.1.length=w:=fun e he=>by
 obtain ⟨e',he',h1⟩:=zar.mp (h.row e he);rw [←h1];exact ho.rw e' he'
theorem gz.en {es T:List En}(h:gz ES TS es T)(ho:oX ES TS RW w es)(hR:RW.length<=40):oX ES TS RW w T :=
 ⟨fun e he=>(h.ok e he).1,h.rows ho,by have:=h.len ho hR;omega⟩
theorem gz.both {es T:List En}(h:gz ES TS es T)(ho:oX ES TS RW w es)(hR:RW.length<=40)(hn:es.length<=40):oX ES TS RW w (T.reverse++es) :=
 ⟨fun e he=>by
  rcases zaW.mp he with he|he
  ·exact (h.ok e (zdg.mp he)).1
  ·exact ho.bp e he,fun e he=>by
  rcases zaW.mp he with he|he
  ·exact h.rows ho e (zdg.mp he)
  ·exact ho.rw e he,by have:=h.len ho hR;simp;omega⟩
theorem Ey {es T:List En}(h:gz ES TS es T)(r:Th)(t d:Int):(∃e∈T.reverse++es,e.1=r/\iz e.2 t d=true) ↔ (∃e∈es,e.1=r/\iz e.2 t d=true):=by
 constructor
 ·rintro ⟨e,he,h1,h2⟩
  rcases zaW.mp he with he|he
  ·exact (h.pt r t d).mp ⟨e,zdg.mp he,h1,h2⟩
  ·exact ⟨e,he,h1,h2⟩
 ·rintro ⟨e,he,h1,h2⟩
  exact ⟨e,zaA _ he,h1,h2⟩
end
theorem sB {α:Type}:∀l:List α,(List.range l.length).filterMap (fun k=>l[k]?)=l
 |[]=>rfl
 |a::l=>by
  have ih:=sB l;rw [zaD,List.range_succ_eq_map,za6,zcY];simp only [zb9];rw [show ((fun k=>(a::l)[k]?) ∘ Nat.succ)=fun k=>l[k]? from funext fun k=>by simp,ih]
theorem GV (n:Nat):sliceRange ((n:Int) - 1) (-1) (-1)=(List.range n).map fun k=>n - 1 - k:=by
 have h:(if ((n:Int) - 1) > -1 then (((n:Int) - 1) - (-1) - (-1) - 1) / (-(-1)) else 0).toNat=n:=by
  by_cases z:n=0
  ·subst z;rfl
  ·rw [if_pos (by omega)]
   rw [show -(-1:Int)=1 from rfl,Int.ediv_one];omega
 unfold sliceRange;rw [if_neg (by decide)]
 show (List.range (if ((n:Int) - 1) > -1 then (((n:Int) - 1) - (-1) - (-1) - 1) / (-(-1)) else 0).toNat).map (fun k:Nat=>((n:Int) - 1 + -1 * (k:Int)).toNat)=_
 rw [h];refine zbN fun k hk=>?_;have:=zbp.mp hk;omega
theorem tu {α β:Type}{f g:α->Option β}:∀{l:List α},(∀x∈l,f x=g x)->l.filterMap f=l.filterMap g
 |[],_=>rfl
 |a::l,h=>by rw [za6,za6,h a zah,tu fun x hx=>h x (zaj _ hx)]
theorem zB {α:Type}(xs:List α):eN xs none none (-1)=xs.reverse:=by
 have h1:sliceBounds none none (some (-1)) xs.length=((xs.length:Int) - 1,-1,-1):=rfl;unfold eN;rw [h1]
 show (sliceRange ((xs.length:Int) - 1) (-1) (-1)).filterMap (fun i=>xs[i]?)=_
 rw [GV,zcY];have h2:=sB xs.reverse;rw [List.length_reverse] at h2
 conv=>rhs;rw [←h2]
 refine tu fun k hk=>?_;have:=zbp.mp hk;rw [List.getElem?_reverse this];rfl
theorem GH {μ:ac}{a:Nat}{c:aw}(h:μ[a]?=some c):(rK μ)[a]?=some (GI c):=by unfold rK;rw [zaS,h];rfl
def LZ (c:aw)(xs:List D):Prop:=c=.lst xs\/c=.fz xs
theorem tH {neg:Bool}{μ:ac}{a b:Nat}{c c':aw}{xs ys:List D}(ha:μ[a]?=some c)(hb:μ[b]?=some c')(za:LZ c xs)(zb:LZ c' xs)(hu:unkDs xs=ys)(ok:eU 60 (.fl ys)=true)(eq:iF (.fl ys) (.fl ys)=true):lG neg (.p a) (.p b) μ=some (.v (.bl (!neg)),μ):=by
 have v:∀{n:Nat} {c:aw},μ[n]?=some c->LZ c xs->kH (.p n) (rK μ)=some (.fl ys):=fun {n c} h z=>by
  rw [Jk,GH h,←hu];rcases z with rfl|rfl <;> rfl
 unfold lG;rw [show uo (.p a)=.p a from rfl,show uo (.p b)=.p b from rfl];unfold jh;rw [v ha za,v hb zb,zaw,zaw,ok,eq];cases neg <;> rfl
theorem BR:∀es:List En,eqDs (es.map gR) (es.map gR)=true
 |[]=>rfl
 |e::es=>by
  have h1:iF (eT e.2) (eT e.2)=true:=by
   have:=Gn e.2.1 e.2.1 e.2.2 e.2.2;rw [this];simp
  have h2:iF (bI e.1) (bI e.1)=true:=by simp only [bI,fZ,iD,iE,f6,jB,decide_true]
  have h3:iF (gR e) (gR e)=true:=by
   show eqDs [bI e.1,eT e.2] [bI e.1,eT e.2]=true
   simp only [bQ,cY,dQ,dR,h1,h2,zc4]
  rw [zaf]
  show (iF (gR e) (gR e) && eqDs (es.map gR) (es.map gR))=true
  rw [h3,BR es];rfl
theorem Mj (es:List En):iF (.fl (es.map gR)) (.fl (es.map gR))=true:=by simp only [fZ,iD,iE,f6,BR]
theorem n6:∀es:List En,flatDs (es.map bi)=true
 |[]=>rfl
 |e::es=>by
  have h1:dN (bi e)=true:=by
   have:=D9 e.2.1 e.2.2
   show flatDs [.key e.1,eT e.2]=true
   simp only [flatDs,dN] at this ⊢;simpa using this
  rw [zaf,flatDs,h1,n6 es];rfl
theorem tz:∀rows:Ta,flatDs (rows.map bI)=true
 |[]=>rfl
 |r::rows=>by simp only [zaf,flatDs,bI,dN,ki,tz rows,zc4]
theorem qM {neg:Bool}{μ:ac}{a b:Nat}{c c':aw}{es:List En}(ha:μ[a]?=some c)(hb:μ[b]?=some c')(za:LZ c (es.map bi))(zb:LZ c' (es.map bi)):lG neg (.p a) (.p b) μ=some (.v (.bl (!neg)),μ) :=
 tH ha hb za zb (kJ es) (F1 es) (Mj es)
theorem Jp {neg:Bool}{μ:ac}{a b:Nat}{rows:Ta}(ha:μ[a]?=some (.lst (rows.map bI)))(hb:μ[b]?=some (.lst (rows.map bI))):lG neg (.p a) (.p b) μ=some (.v (.bl (!neg)),μ) :=
 tH ha hb (.inl rfl) (.inl rfl) (rJ rows) (wF rows) (xi rows)
theorem iV {a c:FS}{ρ ρ':Lo}{μ μ':ac}(q:a ρ μ=some (.nx ρ' μ')):eK (aq a c ρ μ)=eK (c ρ' μ'):=by rw [vt,q,xb]
section
variable  {bt:Bool}{ES TS:Th}{RW:Ta}{w:Nat}{ps T:List En}
theorem Ba {d t:Int}{es:List En}(ho:oX ES TS RW w es)(hn:es.length<=40):uk (gp bt) [.fl (es.map bi),.int d,.int t]=some (.lst ((bD (dd (g7 d t es))).map bI)):=by
 have:=IB bt (w:=w) (fun e he=>(ho.bp e he).pf) (by omega) (fun e he=>(ho.rw e he).2) d t;unfold uk;simp only [unkDs,gD,kJ];exact this
theorem Gh {μ:ac}{c:aw}{xs:List D}(h:μ[2]?=some c)(z:LZ c xs):rV (some (.p 2,μ))=some (.v (.fl xs),μ.set 2 (.fz xs)):=by
 rw [vA,h];rcases z with rfl|rfl
 ·rfl
 ·rw [Jn]
  have:μ.set 2 (.fz xs)=μ:=by
   obtain ⟨h1,h2⟩:=zau.mp h;rw [←h2];exact List.set_getElem_self h1
  rw [this]
theorem A7 (ho:oX ES TS RW w ps)(hn:ps.length<=40)(hR:RW.length<=40)(tb:gz ES TS ps T){x0 x1 x7 x8 x9 x10 x11:Option R}{s cell:Int}{μ:ac}{c:aw}(h2:μ[2]?=some c)(z2:LZ c (ps.map bi))(h4:μ[4]?=some (.lst (T.map bi))) :
  ∃μ' y7 y8,lh bt [x0,x1,aP s,aM 2,aM 3,aM 4,aP cell,x7,x8,x9,x10,x11] μ=some (.nx [x0,x1,aP s,aM 2,aM 3,aM 4,aP cell,y7,y8,x9,x10,x11] μ') /\
   μ'[2]?=some (.fz (ps.map bi))/\μ'[3]?=μ[3]?/\μ'[4]?=μ[4]?:=by
 obtain ⟨d,t,hs⟩:=CN cell 2 s (by decide) (Ts:=ps)
 have hs':uk eX [.int cell,.int 2,.fl (ps.map bi),.int s]=some (.tup [.int d,.int t]):=by
  unfold uk;simp only [unkDs,gD,kJ];exact hs
 have tn:=tb.len ho hR;have a1:=Ba (bt:=bt) (d:=d) (t:=t) (tb.en ho hR) tn;have a2:=Ba (bt:=bt) (d:=d) (t:=t) ho hn;rw [Eu tb] at a1;have fz:=Gh h2 z2;rw [vA] at fz;have l2:=bG h2;have l4:=bG h4;generalize bD (dd (g7 d t ps))=rows at a1 a2;have fl:=tz rows
 have g4:(μ.set 2 (.fz (ps.map bi)))[4]?=some (.lst (T.map bi)):=by rw [zag (by omega)];exact h4
 have g2:(μ.set 2 (.fz (ps.map bi))++[aw.lst (rows.map bI)])[2]?=some (.fz (ps.map bi)):=by rw [zai (by rw [zbn];omega),zav l2]
 have g5:(μ.set 2 (.fz (ps.map bi))++[aw.lst (rows.map bI)]++[aw.lst (rows.map bI)])[(μ.set 2 (.fz (ps.map bi))).length]?=some (.lst (rows.map bI)):=by
  rw [zai (by simp)];exact dM
 have g6:(μ.set 2 (.fz (ps.map bi))++[aw.lst (rows.map bI)]++[aw.lst (rows.map bI)])[(μ.set 2 (.fz (ps.map bi))++[aw.lst (rows.map bI)]).length]?=some (.lst (rows.map bI)):=dM;have ek:=Jp (neg:=true) g5 g6;refine ⟨μ.set 2 (.fz (ps.map bi))++[aw.lst (rows.map bI)]++[aw.lst (rows.map bI)],aP d,aP t,?_,?_,?_,?_⟩
 ·push_cast [lh,fz,hs',g4,a1,fl,g2,a2,ek]
 ·rw [zai (by simp;omega)];exact g2
 ·by_cases z:3 < μ.length
  ·rw [zai (by simp;omega),zai (by simp;omega),zag (by omega)]
  ·omega
 ·rw [zai (by simp;omega),zai (by simp;omega),zag (by omega)]
theorem t5 {fa:FE}{ρ:Lo}{μ0 μ:ac}{a:Nat}{c:aw}{es:List En}(hf:fa ρ μ0=some (.p a,μ))(ha:μ[a]?=some c)(hz:LZ c (es.map bi))(ht:aC bt [.fl (es.map bi)]=some (.lst (T.map bi))):bX (aC bt) 1 (af fa ai) ρ μ0=some (.p μ.length,μ++[.lst (T.map bi)]):=by
 have fl:=n6 T
 have hc:NE (some c)=some (.fl (es.map bi)):=by rcases hz with rfl|rfl <;> rfl
 push_cast [hf,ha,hc,ht,fl]
theorem Ml {neg:Bool}{fa fb:FE}{ρ:Lo}{μ0 μ1 μ2:ac}{a b:Nat}{c c':aw}{es:List En}(hf:fa ρ μ0=some (.p a,μ1))(hg:fb ρ μ1=some (.p b,μ2))(ha:μ2[a]?=some c)(hb:μ2[b]?=some c')(za:LZ c (es.map bi))(zb:LZ c' (es.map bi)):ax (lG neg) fa fb ρ μ0=some (.v (.bl (!neg)),μ2):=by
 have:=qM (neg:=neg) ha hb za zb;push_cast [hf,hg,this]
theorem cP {μ ν:ac}{i:Nat}{c:aw}(h:μ[i]?=some c):(μ++ν)[i]?=some c:=by rw [zai (bG h)];exact h
end
abbrev zS (bt:Bool):FS:=(aq (ju (gE (fB (ax (lG true) (bX (aC bt) 1 (af (ax mN (mq (eL gL (af (ad 5) ai)) i6 i6 (-1)) (ad 3)) ai)) (ad 5))) (fB (ax (lG true) (bX (aC bt) 1 (af (ad 5) ai)) (ad 5))))
  (bV (fK (.bl false)))
  bC)
  (aq (aI 9 (eL gL (af (ad 5) ai)))
  (aq (aI 10 (eL gL (af (ad 5) ai)))
  (aq (aI 11 (bX (aC bt) 1 (af (ad 10) ai)))
  (aq (ee (oR tT (ad 4) ai))
  (aq (ee (oR tT (ad 10) ai))
  (aq (ju (gE (fB (ax (lG true) (ad 5) (ad 9))) (fB (ax (lG true) (ad 11) (ad 9))))
  (bV (fK (.bl false)))
  bC)
  (aq (ee (oR jO (ad 5) (af (cq (ad 3)) ai)))
  (bV (qJ (ax (lG false) (ad 4) (du ai)) (qJ (ax (lG false) (bX (aC bt) 1 (af (ad 3) ai)) (ad 9)) (ax (lG false) (bX (aC bt) 1 (af (du ai) ai)) (du ai)))))))))))))
theorem xK {bt:Bool}{ps T:List En}(hn:ps.length<=40)(tn:T.length<=40)
  (ht1:aC bt [.fl ((T.reverse++ps).map bi)]=some (.lst (T.map bi))) (ht2:aC bt [.fl (T.map bi)]=some (.lst (T.map bi))) (ht3:aC bt [.fl (ps.map bi)]=some (.lst (T.map bi))) (ht0:aC bt [.fl (([]:List En).map bi)]=some (.lst (([]:List En).map bi)))
  {x0 x1 x2 x6 x7 x8:Option R} {μ:ac} {c:aw} (h2:μ[2]?=some c) (z2:LZ c (ps.map bi)) (h3:μ[3]?=some (.lst (ps.map bi))) (h4:μ[4]?=some (.lst (T.map bi))) :
  eK (zS bt [x0,x1,x2,aM 2,aM 3,aM 4,x6,x7,x8,none,none,none] μ)=some (.bl true):=by
 have l4:=bG h4
 obtain ⟨μb,hμb,e1⟩:∃μb,(μb:ac)=μ++[dD T]++[aw.lst (T.reverse.map bi)]/\ax mN (mq (eL gL (af (ad 5) ai)) i6 i6 (-1)) (ad 3) [x0,x1,x2,aM 2,aM 3,aM 4,x6,x7,x8,none,none,none] μ=some (.p μb.length,μb++[aw.lst ((T.reverse++ps).map bi)]):=by
  refine ⟨_,rfl,?_⟩;have lk:(μ++[dD T])[μ.length]?=some (.lst (T.map bi)):=dM
  have aF:mN (.p (μ++[dD T]).length) (.p 2) (μ++[dD T]++[aw.lst (T.reverse.map bi)])=some (.p (μ++[dD T]++[aw.lst (T.reverse.map bi)]).length,μ++[dD T]++[aw.lst (T.reverse.map bi)]++[aw.lst ((T.reverse++ps).map bi)]):=by
   have s1:oN (.p (μ++[dD T]).length) (μ++[dD T]++[aw.lst (T.reverse.map bi)])=some (T.reverse.map bi):=by
    unfold oN;simp only [dM]
   have s2:oN (.p 2) (μ++[dD T]++[aw.lst (T.reverse.map bi)])=some (ps.map bi):=by
    unfold oN;simp only [cP (cP h2)];rcases z2 with rfl|rfl <;> rfl
   unfold mN;rw [s1,s2,zaw,zaw,if_pos (bK (by simp;omega)),zaZ]
  have rv:eN (T.map bi) none none (-1)=T.reverse.map bi:=by rw [zB,List.map_reverse]
  push_cast [h4,lk,rv,aF]
 have b4:μb[4]?=some (.lst (T.map bi)):=by rw [hμb];exact cP (cP h4)
 have b3:μb[3]?=some (.lst (ps.map bi)):=by rw [hμb];exact cP (cP h3)
 have b2:μb[2]?=some c:=by rw [hμb];exact cP (cP h2)
 clear hμb;have c1:=t5 (bt:=bt) e1 dM (.inl rfl) ht1;generalize hμd:μb++[aw.lst ((T.reverse++ps).map bi)]=μd at c1 e1
 have d4:μd[4]?=some (.lst (T.map bi)):=by rw [←hμd];exact cP b4
 have d3:μd[3]?=some (.lst (ps.map bi)):=by rw [←hμd];exact cP b3
 have d2:μd[2]?=some c:=by rw [←hμd];exact cP b2
 have q1:=Ml (neg:=true) (fb:=ad 5) (b:=4) (μ2:=μd++[dD T]) c1 (by push_cast [HW.mP]) dM (cP d4) (.inl rfl) (.inl rfl);have c2:=t5 (bt:=bt) (fa:=ad 5) (ρ:=[x0,x1,x2,aM 2,aM 3,aM 4,x6,x7,x8,none,none,none]) (μ0:=μd++[dD T]) (μ:=μd++[dD T]) (a:=4) (by push_cast [HW.mP]) (cP d4) (.inl rfl) ht2;have q2:=Ml (neg:=true) (fb:=ad 5) (b:=4) (μ2:=μd++[dD T]++[dD T]) c2 (by push_cast [HW.mP]) dM (cP (cP d4)) (.inl rfl) (.inl rfl)
 have s8:ju (gE (fB (ax (lG true) (bX (aC bt) 1 (af (ax mN (mq (eL gL (af (ad 5) ai)) i6 i6 (-1)) (ad 3)) ai)) (ad 5))) (fB (ax (lG true) (bX (aC bt) 1 (af (ad 5) ai)) (ad 5)))) (bV (fK (.bl false))) bC [x0,x1,x2,aM 2,aM 3,aM 4,x6,x7,x8,none,none,none] μ=some (.nx [x0,x1,x2,aM 2,aM 3,aM 4,x6,x7,x8,none,none,none] (μd++[dD T]++[dD T])):=by
  rw [vz,vq,Mi,q1];rw [show N5 (some (R.v (D.bl (!true)),μd++[dD T]))=some (false,μd++[dD T]) from rfl,Ee,if_neg (by decide),Mi,q2];rfl
 rw [zS,iV s8];have f4:(μd++[dD T]++[dD T])[4]?=some (.lst (T.map bi)):=cP (cP d4);have f3:(μd++[dD T]++[dD T])[3]?=some (.lst (ps.map bi)):=cP (cP d3);have f2:(μd++[dD T]++[dD T])[2]?=some c:=cP (cP d2);generalize μd++[dD T]++[dD T]=μe at f4 f3 f2;have le:=bG f4;refine (iV (by push_cast [f4];rfl)).trans ?_;refine (iV (by push_cast [cP f4];rfl)).trans ?_;have c3:=t5 (bt:=bt) (fa:=ad 10) (ρ:=[x0,x1,x2,aM 2,aM 3,aM 4,x6,x7,x8,aM μe.length,aM ((μe++[dD T]).length),none]) (μ0:=μe++[dD T]++[dD T]) (μ:=μe++[dD T]++[dD T]) (a:=(μe++[dD T]).length) (by push_cast [HW.mP]) dM (.inl rfl) ht2
 have s11:aI 11 (bX (aC bt) 1 (af (ad 10) ai)) [x0,x1,x2,aM 2,aM 3,aM 4,x6,x7,x8,aM μe.length,aM ((μe++[dD T]).length),none] (μe++[dD T]++[dD T])=some (.nx [x0,x1,x2,aM 2,aM 3,aM 4,x6,x7,x8,aM μe.length,aM ((μe++[dD T]).length),aM ((μe++[dD T]++[dD T]).length)] (μe++[dD T]++[dD T]++[dD T])):=by
  rw [Jl,c3];rfl
 rw [iV s11];obtain ⟨n,hn'⟩:∃n,n=μe.length:=⟨_,rfl⟩
 have w1:(μe++[dD T]).length=n+1:=by simp [hn']
 have w2:(μe++[dD T]++[dD T]).length=n+2:=by simp [hn']
 rw [w1,w2,←hn'];have g4:(μe++[dD T]++[dD T]++[dD T])[4]?=some (.lst (T.map bi)):=cP (cP (cP f4));have g3:(μe++[dD T]++[dD T]++[dD T])[3]?=some (.lst (ps.map bi)):=cP (cP (cP f3));have g2:(μe++[dD T]++[dD T]++[dD T])[2]?=some c:=cP (cP (cP f2))
 have gn:(μe++[dD T]++[dD T]++[dD T])[n]?=some (.lst (T.map bi)):=by rw [hn'];exact cP (cP dM)
 have gn1:(μe++[dD T]++[dD T]++[dD T])[n+1]?=some (.lst (T.map bi)):=by rw [←w1];exact cP dM
 have gn2:(μe++[dD T]++[dD T]++[dD T])[n+2]?=some (.lst (T.map bi)):=by rw [←w2];exact dM
 have hn4:4 < n:=by omega
 generalize μe++[dD T]++[dD T]++[dD T]=μh at g4 g3 g2 gn gn1 gn2;have ln2:=bG gn2;clear s11 c3 s8 q1 q2 c1 c2 w1 w2;refine (iV (by push_cast [g3];rfl)).trans ?_
 have i1:(μh.set 3 (.lst []))[n+1]?=some (.lst (T.map bi)):=by rw [zag (by omega)];exact gn1
 refine (iV (by push_cast [i1];rfl)).trans ?_
 have j4:((μh.set 3 (.lst [])).set (n+1) (.lst []))[4]?=some (.lst (T.map bi)):=by rw [zag (by omega),zag (by omega)];exact g4
 have j3:((μh.set 3 (.lst [])).set (n+1) (.lst []))[3]?=some (.lst (([]:List En).map bi)):=by rw [zag (by omega),zav (by omega)];rfl
 have j2:((μh.set 3 (.lst [])).set (n+1) (.lst []))[2]?=some c:=by rw [zag (by omega),zag (by omega)];exact g2
 have jn:((μh.set 3 (.lst [])).set (n+1) (.lst []))[n]?=some (.lst (T.map bi)):=by rw [zag (by omega),zag (by omega)];exact gn
 have jn2:((μh.set 3 (.lst [])).set (n+1) (.lst []))[n+2]?=some (.lst (T.map bi)):=by rw [zag (by omega),zag (by omega)];exact gn2
 generalize (μh.set 3 (.lst [])).set (n+1) (.lst [])=μj at j4 j3 j2 jn jn2;have k1:=qM (neg:=true) j4 jn (.inl rfl) (.inl rfl);have k2:=qM (neg:=true) jn2 jn (.inl rfl) (.inl rfl);refine (iV (by push_cast [k1,k2];rfl)).trans ?_;have fz:=Gh j2 z2;rw [vA] at fz
 have m4:(μj.set 2 (.fz (ps.map bi)))[4]?=some (.lst (T.map bi)):=by rw [zag (by omega)];exact j4
 have zT:(T.map bi).length < sizeLine:=dA (by rw [zal];omega);refine (iV (by push_cast [j4,fz,m4,zT];rfl)).trans ?_;have lj2:=bG j2
 have o3:((μj.set 2 (.fz (ps.map bi))).set 4 (.lst (T.map bi++[.fl (ps.map bi)])))[3]?=some (.lst (([]:List En).map bi)):=by rw [zag (by omega),zag (by omega)];exact j3
 have o2:((μj.set 2 (.fz (ps.map bi))).set 4 (.lst (T.map bi++[.fl (ps.map bi)])))[2]?=some (.fz (ps.map bi)):=by rw [zag (by omega),zav lj2]
 have on:((μj.set 2 (.fz (ps.map bi))).set 4 (.lst (T.map bi++[.fl (ps.map bi)])))[n]?=some (.lst (T.map bi)):=by rw [zag (by omega),zag (by omega)];exact jn
 generalize (μj.set 2 (.fz (ps.map bi))).set 4 (.lst (T.map bi++[.fl (ps.map bi)]))=μk at o3 o2 on;have hL:∀(ρ:Lo) (ν:ac),du ai ρ ν=some (.p ν.length,ν++[.lst (([]:List En).map bi)]):=fun _ _=>rfl;have r1:=Ml (neg:=false) (fa:=ad 4) (fb:=du ai) (ρ:=[x0,x1,x2,aM 2,aM 3,aM 4,x6,x7,x8,aM n,aM ((n+1)),aM ((n+2))]) (μ0:=μk) (μ1:=μk) (a:=3) (by push_cast [HW.mP]) (hL _ _) (cP o3) dM (.inl rfl) (.inl rfl);have c4:=t5 (bt:=bt) (fa:=ad 3) (ρ:=[x0,x1,x2,aM 2,aM 3,aM 4,x6,x7,x8,aM n,aM ((n+1)),aM ((n+2))]) (μ0:=μk++[.lst (([]:List En).map bi)]) (μ:=μk++[.lst (([]:List En).map bi)]) (a:=2) (by push_cast [HW.mP]) (cP o2) (.inr rfl) ht3;have r2:=Ml (neg:=false) (fb:=ad 9) (b:=n) (μ2:=μk++[.lst (([]:List En).map bi)]++[dD T]) c4 (by push_cast [HW.mP]) dM (cP (cP on)) (.inl rfl) (.inl rfl);have c5:=t5 (bt:=bt) (T:=[]) (fa:=du ai) (ρ:=[x0,x1,x2,aM 2,aM 3,aM 4,x6,x7,x8,aM n,aM ((n+1)),aM ((n+2))]) (μ0:=μk++[.lst (([]:List En).map bi)]++[dD T]) (hL _ _) dM (.inl rfl) ht0;have r3:=Ml (neg:=false) (fb:=du ai) c5 (hL _ _) (cP dM) dM (.inl rfl) (.inl rfl);rw [BH,BQ,r1,xg,if_pos (by decide),BQ,r2,xg,if_pos (by decide),r3];rfl
theorem Ew (ns:Th)(k:Nat):∃c,cL [.fl (ns.map .int),.int (k:Int)]=some (.int c):=by
 rw [uw]
 by_cases h:k < ns.length
 ·have c0:decide ((k:Int) < (ns.length:Int))=true:=zaQ (by omega)
  have c1:L2.oA (ns.map D.int) (k:Int)=some (.int ns[k]):=rc (zas h);exact ⟨ns[k],by push_cast [iI,zal,c0,c1]⟩
 ·have c0:decide ((k:Int) < (ns.length:Int))=false:=zaK (by omega)
  exact ⟨0,by push_cast [iI,zal,c0]⟩
theorem A8 (bt:Bool)(ns:Th)(hl:ns.length<=63):sM bt [.fl (ns.map .int)]=some (.bl true):=by
 rw [JX];obtain ⟨c,hc⟩:=Ew ns 0;have hc':cL [.fl (ns.map .int),.int 0]=some (.int c):=hc;have bw:=dG c (j:=4) (by decide);obtain ⟨w,hw⟩:∃w:Nat,c % 4=(w:Int):=⟨(c % 4).toNat,by omega⟩
 have hw3:w<=3:=by omega
 obtain ⟨P4,hP4,hP40⟩:∃P:Int,(∀μ:ac,mG (.v (.int 10)) (.v (.int 40)) μ=some (.v (.int P),μ))/\0 < P:=⟨10 ^ (40:Int).toNat,fun μ=>vw (by decide),Int.pow_pos (by decide)⟩;obtain ⟨P,hP,hP0⟩:∃P:Int,(∀μ:ac,mG (.v (.int 10)) (.v (.int 30)) μ=some (.v (.int P),μ))/\0 < P:=⟨10 ^ (30:Int).toNat,fun μ=>vw (by decide),Int.pow_pos (by decide)⟩;have b3:=dG (c / 4) (j:=3) (by decide)
 obtain ⟨s,hs1,hs⟩:∃x:Int,L2.oA [D.int 1,D.int 1,D.int P4] (c / 4 % 3)=some (.int x)/\0 < x:=by
  have:c / 4 % 3=0\/c / 4 % 3=1\/c / 4 % 3=2:=by omega
  rcases this with h|h|h <;> rw [h]
  ·exact ⟨1,rfl,by decide⟩
  ·exact ⟨1,rfl,by decide⟩
  ·exact ⟨P4,rfl,hP40⟩
 obtain ⟨ms,hms,hml⟩:∃ms:Th,qS (ns.map D.int) (some 1) (some 41)=ms.map D.int/\ms.length<=40:=by
  unfold qS;rw [←List.map_drop,←List.map_take];refine ⟨_,rfl,?_⟩;have h1:∀d n:Nat,HT.dl n d (some 1)=min 1 n:=fun d n=>rfl;have h2:∀d n:Nat,HT.dl n d (some 41)=min 41 n:=fun d n=>rfl;simp only [h1,h2,zal,zbO,zcj];omega
 have hf:∀c:Int,∃e:En,c6 [.int c,.int 1,.int (w:Int)]=some (.key e.1)/\e.1.length=w/\ck [.int c,.int 1,.int s]=some (eT e.2)/\BP (Cm s) (EG P) e.2:=fun c=>by
  obtain ⟨r,h1,h2⟩:=G7 c w hw3;obtain ⟨p,h3,h4⟩:=Dv c s hs hP hP0;exact ⟨(r,p),h1,h2,h3,h4⟩
 obtain ⟨f,hf⟩:∃f:Int->En,∀c,c6 [.int c,.int 1,.int (w:Int)]=some (.key (f c).1)/\(f c).1.length=w/\ck [.int c,.int 1,.int s]=some (eT (f c).2)/\BP (Cm s) (EG P) (f c).2:=⟨fun c=>Classical.choose (hf c),fun c=>Classical.choose_spec (hf c)⟩
 have cm:∀μ:ac,bv (aV 0) dw (cW (af (aS c6 3 (af (cq (ad 0)) (af (fK (.int 1)) (af (cq (ad 1)) ai)))) (af (aS ck 3 (af (cq (ad 0)) (af (fK (.int 1)) (af (cq (ad 2)) ai)))) ai))) (ms.map .int) [none,aP ((w:Int)),aP s] μ=some ((ms.map f).map bi,μ):=fun μ=>by
  have:=e8 (f:=cW (af (aS c6 3 (af (cq (ad 0)) (af (fK (.int 1)) (af (cq (ad 1)) ai)))) (af (aS ck 3 (af (cq (ad 0)) (af (fK (.int 1)) (af (cq (ad 2)) ai)))) ai))) (μ:=μ) (rest:=[aP ((w:Int)),aP s]) D.int (fun c=>bi (f c)) ms none (fun c _=>by
   push_cast [(hf c).1,(hf c).2.2.1])
  rw [za2];exact this
 have hE:(Cm s).length<=16:=by rw [ER];omega
 have hT:(EG P).length<=22:=by rw [EF];omega
 have ho:oX (Cm s) (EG P) ((ms.map f).map (·.1)) w (ms.map f):=⟨fun e he=>by
   obtain ⟨c,_,rfl⟩:=zar.mp he
   exact (hf c).2.2.2,fun e he=>⟨zba he,by
   obtain ⟨c,_,rfl⟩:=zar.mp he
   exact (hf c).2.1⟩,by rw [zal];omega⟩
 have hR:((ms.map f).map (·.1)).length<=40:=by simp;omega
 have hn:(ms.map f).length<=40:=by rw [zal];exact hml
 generalize ms.map f=ps at cm ho hR hn;generalize ps.map (·.1)=RW at ho hR;obtain ⟨T,ht3,tb⟩:=kN bt hE hT hR ho;have tn:=tb.len ho hR
 have ht2:aC bt [.fl (T.map bi)]=some (.lst (T.map bi)):=by
  obtain ⟨T',h1,h2⟩:=kN bt hE hT hR (tb.en ho hR);rw [h1,o7 h2 tb tb.pt]
 have ht1:aC bt [.fl ((T.reverse++ps).map bi)]=some (.lst (T.map bi)):=by
  obtain ⟨T',h1,h2⟩:=kN bt hE hT hR (tb.both ho hR hn);rw [h1,o7 h2 tb (Ey tb)]
 have ht0:aC bt [.fl (([]:List En).map bi)]=some (.lst (([]:List En).map bi)):=by
  obtain ⟨T',h1,h2⟩:=kN bt (es:=[]) hE hT hR (w:=w) ⟨(fun _ h=>nomatch h),(fun _ h=>nomatch h),by simp⟩
  have:T'=[]:=by
   cases T' with
   |nil=>rfl
   |cons e T'=>have:=h2.row e zah;simp at this
  rw [h1,this]
 have ist:=Bn bt hE hT hw3 tn tb.ok (fun e he=>(tb.rows ho e he).2) tb.up
 have ist':uk (bS bt) [.fl (T.map bi),.int (w:Int)]=some (.bl true):=by
  unfold uk;simp only [unkDs,gD,kJ];exact ist
 have hd:∀μ:ac,b7 (.v (.int c)) (.v (.int 4)) μ=some (.v (.int (w:Int)),μ):=fun μ=>by rw [cr (by decide),hw]
 have hq:∀μ:ac,dH (.v (.int c)) (.v (.int 4)) μ=some (.v (.int (c / 4)),μ):=fun μ=>e7 (by decide) (by decide);have h3m:∀μ:ac,b7 (.v (.int (c / 4))) (.v (.int 3)) μ=some (.v (.int (c / 4 % 3)),μ):=fun μ=>cr (by decide);have z1:1+(ns.map D.int).length<=sizeLine:=bK (by simp;omega)
 have aF:∀c0 c1 c2 c3 c4:aw,mN (.p 5) (.v (.fl (ns.map .int))) [c0,c1,c2,c3,c4,.lst [.int 0]]=some (.p 6,[c0,c1,c2,c3,c4,.lst [.int 0],.lst (.int 0::ns.map .int)]):=fun c0 c1 c2 c3 c4=>by
  show (if 1+(ns.map D.int).length<=sizeLine then _ else _)=_
  rw [if_pos z1];rfl
 obtain ⟨⟨μ,x6,x7,x8⟩,e,cH,hH,hcH,h3,h4⟩:=ic (g:=aV 6) (b:=lh bt) D.int
  (fun st:ac×Option R×Option R×Option R=>([some (.v (.fl (ns.map .int))),aP ((w:Int)),aP s,aM 2,aM 3,aM 4,st.2.1,st.2.2.1,st.2.2.2,none,none,none],st.1))
  (fun st _=>∃cH,st.1[2]?=some cH/\LZ cH (ps.map bi)/\st.1[3]?=some (.lst (ps.map bi))/\st.1[4]?=some (.lst (T.map bi))) (0::ns) ([aw.lst [.int 1,.int 1,.int P4],.fz (ms.map .int),.lst (ps.map bi),.lst (ps.map bi),.lst (T.map bi),.lst [.int 0],.fz (.int 0::ns.map .int)],none,none,none) ⟨_,rfl,.inl rfl,rfl,rfl⟩ (by
   rintro ⟨μ,x6,x7,x8⟩ cell rem ⟨cH,hH,hcH,h3,h4⟩;obtain ⟨μ',y7,y8,q,a1,a2,a3⟩:=A7 (bt:=bt) ho hn hR tb (x0:=some (.v (.fl (ns.map .int)))) (x1:=some (.v (.int (w:Int)))) (x7:=x7) (x8:=x8) (x9:=none) (x10:=none) (x11:=none) (s:=s) (cell:=cell) hH hcH h4;refine ⟨(μ',aP cell,y7,y8),?_,_,a1,.inr rfl,a2.trans h3,a3.trans h4⟩;rw [oh,yk]
   exact q)
 have rt:=xK (bt:=bt) hn tn ht1 ht2 ht3 ht0 (x0:=some (.v (.fl (ns.map .int)))) (x1:=some (.v (.int (w:Int)))) (x2:=some (.v (.int s))) (x6:=x6) (x7:=x7) (x8:=x8) hH hcH h3 h4;have zm:(ms.map D.int).length<=sizeLine:=bK (by rw [zal];omega);have ek:lG true (.p 3) (.p 2) [aw.lst [.int 1,.int 1,.int P4],.fz (ms.map .int),.lst (ps.map bi),.lst (ps.map bi),.lst (T.map bi)]=some (.v (.bl false),[aw.lst [.int 1,.int 1,.int P4],.fz (ms.map .int),.lst (ps.map bi),.lst (ps.map bi),.lst (T.map bi)]):=qM (neg:=true) rfl rfl (.inl rfl) (.inl rfl);have flT:=n6 T
 have hstart:Cb bt [some (.v (.fl (ns.map .int))),none,none,none,none,none,none,none,none,none,none,none] []=zS bt [some (.v (.fl (ns.map .int))),aP ((w:Int)),aP s,aM 2,aM 3,aM 4,x6,x7,x8,none,none,none] μ:=by
  have:∀X:FS,(aq (aI 1 (ax b7 (aS cL 2 (af (cq (ad 0)) (af (fK (.int 0)) ai))) (fK (.int 4))))
  (aq (aI 2 (ax c9 (du (af (fK (.int 1)) (af (fK (.int 1)) (af (ax mG (fK (.int 10)) (fK (.int 40))) ai)))) (ax b7 (ax dH (aS cL 2 (af (cq (ad 0)) (af (fK (.int 0)) ai))) (fK (.int 4))) (fK (.int 3)))))
  (aq (aI 3 (cj [1,2] 1 (bm (LU (ad 0) (k9 (fK (.int 1))) (k9 (fK (.int 41))))) (aV 0) dw (cW (af (aS c6 3 (af (cq (ad 0)) (af (fK (.int 1)) (af (cq (ad 1)) ai)))) (af (aS ck 3 (af (cq (ad 0)) (af (fK (.int 1)) (af (cq (ad 2)) ai)))) ai)))))
  (aq (aI 4 (eL gL (af (ad 3) ai)))
  (aq (aI 5 (bX (aC bt) 1 (af (ad 4) ai)))
  (aq (ju (gE (fB (ax (lG true) (ad 4) (ad 3))) (eM (eZ (lQ (uk (bS bt)) 2 (af (ad 5) (af (ad 1) ai))))))
  (bV (fK (.bl false)))
  bC)
  (aq (dB (bm (ax mN (du (af (fK (.int 0)) ai)) (ad 0))) (aV 6)
  (lh bt)) X))))))) [some (.v (.fl (ns.map .int))),none,none,none,none,none,none,none,none,none,none,none] []=X [some (.v (.fl (ns.map .int))),aP ((w:Int)),aP s,aM 2,aM 3,aM 4,x6,x7,x8,none,none,none] μ:=fun X=>by
   simp only [zaf] at e;push_cast [hc',hd,hq,h3m,hP4,hs1,hms,zm,cm,ht3,flT,ek,ist',dN,CK,aF,e]
  exact this _
 rw [hstart];exact rt
end LW
namespace PySem.W.Fast
def tw10258142513458482559:=0
def tw10837627312440018259:=0
def tw10985762860258695554:=0
def tw11453739504950452322:=0
def tw11629966562354125682:=0
def tw11687333522911481793:=0
def tw11714934204363638594:=0
def tw11880490255407540779:=0
def tw11887899927929339436:=0
def tw11929634867593156576:=0
def tw11934420240556629190:=0
def tw12772216342167326274:=0
def tw12805839852842967769:=0
def tw13006499175660360089:=0
def tw13365320154127660644:=0
def tw13392747948671492844:=0
def tw13536361591297766029:=0
def tw13537842433668122158:=0
def tw13783296758873405369:=0
def tw13988883123546398455:=0
def tw1401338847854161779:=0
def tw14205254330702296530:=0
def tw14331773360716548139:=0
def tw14382473143984913333:=0
def tw1503943752168850164:=0
def tw15053384337797290029:=0
def tw15329795275928574257:=0
def tw15402135170743790094:=0
def tw16927366813096366388:=0
def tw17406555646619320129:=0
def tw17561611853510189211:=0
def tw17838790150963052772:=0
def tw18194371849826540994:=0
def tw18356152892652380527:=0
def tw18377648258162037102:=0
def tw1854237974611745739:=0
def tw1976865491733863652:=0
def tw2100692762550652381:=0
def tw2353735151091575677:=0
def tw2416097266766432039:=0
def tw2477609910994570197:=0
def tw2709488676200303790:=0
def tw2888141743825654699:=0
def tw2910482432051906179:=0
def tw3164516789668232714:=0
def tw3590734632591921391:=0
def tw423684148050089096:=0
def tw4501083473191202923:=0
def tw5018636832472067880:=0
def tw5218564663390867615:=0
def tw5398040473246492535:=0
def tw5426807967286386242:=0
def tw5936157390996498538:=0
def tw660942629198363951:=0
def tw6744732419462105213:=0
def tw7502899650900179858:=0
def tw7877706901452702777:=0
def tw8181285603550170618:=0
def tw8913833009304666139:=0
def tw9099712454125247700:=0
def tw9117002371147221497:=0
def tw9215904372939480670:=0
def tw9281060241440180567:=0
def tw9695188836075672874:=0
def tw9928701535294465956:=0
end PySem.W.Fast
open PySem PySem.W PyProof.Rows
set_option maxRecDepth 100000 in
set_option maxHeartbeats 0 in
theorem PySem.Challenge.cw_heldwhen_k18_table_made_holds : PySem.Challenge.rw_heldwhen_k18_table_made.Holds := by
 w_on; o_law; k_head; (case hw => w_witness2)
 k_fill
 refine L2.yI (l := PySem.Challenge.rw_heldwhen_k18_table_made) (n := 63) (k := 6) (x := "script") (CX := L2.mB) (sp := fun K => (fun vs H Q E => ∀ b, HW.yA K 1 (LW.sM b) vs H Q E)) rfl (by decide) rfl ⟨rfl, by decide, by decide⟩ (fun w h Y => PySem.W.kIn_of Y) ?F (fun K H a ns hl hO hS => fun b => HW.IA hO hS (LW.A8 b ns hl)) fun _ _ _ _ z => z
 case F =>
  intro w mg fa h KX G hmg
  refine' LW.JC KX G hmg ?a0 ?a1 ?a2 ?a3 ?a4 ?a5 ?a6 ?a7 ?a8 ?a9 ?a10 ?a11 ?a12 ?a13 ?a14 ?a15 ?a16 ?a17 ?a18 ?a19 ?a20 ?gNO_NUMBERS ?LNO_NUMBERS ?LNO_NUMBERS_1 ?gNO_SPOTS ?LNO_SPOTS ?LNO_SPOTS_1 ?LNO_SPOTS_0 ?LNO_SPOTS_0_1 ?z0 ?z1 ?z2 ?z3 ?z4 ?z5 ?z6 ?z7 ?z8 ?z9 ?z10 ?z11 ?z12 ?z13
  (case a0 | a1 | a2 | a3 | a4 | a5 | a6 | a7 | a8 | a9 | a10 | a11 | a12 | a13 | a14 | a15 | a16 | a17 | a18 | a19 | a20 => exact ⟨_, by k_is, _, _, _, _, _, _, _, _, _, by k_is, by k_is, by k_is⟩)
  (case gNO_NUMBERS | LNO_NUMBERS | LNO_NUMBERS_1 | gNO_SPOTS | LNO_SPOTS | LNO_SPOTS_1 | LNO_SPOTS_0 | LNO_SPOTS_0_1 | z0 | z1 | z2 | z3 | z4 | z5 | z6 | z7 | z8 | z9 | z10 | z11 | z12 | z13 => k_is)
