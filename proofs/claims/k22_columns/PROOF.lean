import PyProof.Rows.All
import Wide.All
import OpenK.AllK
import Wide.FinOn
import Lean
import PyProof.EqAt
import PyProof.EqKinds
import PyProof.TupleCall
import PyProof.IsiH_tuple
import PyProof.NsDelKeeps
import PyProof.ForAny
import KE.KIsAll
import KE.KSortTup
import KE.KLam
import KE.KNestM
import PyProof.SliceStr2
import PyProof.StrBlockI
import PyProof.Rows.StrInSeq3
import PyProof.TupleKey
import PyProof.IsRules
import PyProof.SumWalkG
import PyProof.EnumFor
import PyProof.EnumStmt
import PyProof.EnumMake
import PyProof.StrBlock2
import PyProof.ZipIter
import PyProof.ListNew
import PyProof.DictIter
import PyProof.DictFindH
import PyProof.ListRange
import PyProof.TupleOfGen
import PySem.Challenge.RW_heldwhen_k22_columns
local macro_rules | `(tactic| exists $t) => `(tactic| with_unfolding_all exact $t)
local macro_rules | `(tactic| decide) => `(tactic| decide +kernel)
local macro_rules | `(tactic| ac_rfl) => `(tactic| (constructor <;> first | rfl | decide +kernel))
set_option Elab.async false
set_option linter.all false
set_option maxRecDepth 100000
noncomputable section
open PySem PySem.Spec SetTable Builtin.List Builtin.SmallTypes
namespace Y0
open PyProof.Rows
def zaa:=@Option.bind_eq_some_iff
def zab:=@wpAny_bind
abbrev zac:=PySem.W.Frag
def zad:=@wpAny_pure
def zae:=@Heap.get?_push_of_some
def zaf:=@List.map_cons
def zag:=@List.mem_cons_self
def zah:=@List.length_map
def zai:=@List.mem_cons_of_mem
def zaj:=@List.getElem?_append_left
def zak:=@List.getElem?_set_ne
def zal:=@List.mem_cons
def zam:=@Heap.lt_size
def zan:=@List.mem_map
def zao:=@Nat.le_refl
def zap:=@Bool.false_eq_true
def zaq:=@Heap.get?_push_size
def zar:=@Array.getElem?_eq_getElem
def zas:=@List.getElem?_eq_getElem
def zat:=@Nat.ne_of_lt
def zau:=@List.getElem?_eq_some_iff
def zav:=@Option.bind_some
def zaw:=@List.pairwise_cons
def zax:=@List.size_toArray
def zay:=@List.getElem?_set_self
def zaz:=@Heap.get?_update_other
def zaA:=@Nat.lt_of_lt_of_le
def zaB:=@List.mem_singleton
def zaC:=@List.mem_append_right
def zaD:=@List.length_cons
def zaE:=@List.not_mem_nil
def zaF:=@Nat.lt_irrefl
def zaG:=@decide_eq_false
def zaH:=@wpAny_holding
def zaI:=@List.mem_of_getElem?
def zaJ:=@Heap.get?_update_self
def zaK:=@List.nodup_cons
def zaL:=@decide_eq_true
def zaM:=@Array.length_toList
def zaN:=@wpAny_setState_of
def zaO:=@Around.under_plainId
def zaP:=@List.getElem?_append_right
def zaQ:=@Option.map_eq_some_iff
def zaR:=@List.map_map
def zaS:=@Array.getD_eq_getD_getElem?
def zaT:=@wpAny_newObj_type
def zaU:=@Nat.lt_succ_of_lt
def zaV:=@wpAny_call_entry
def zaW:=@codeAny_builtin
def zaX:=@List.map_append
def zaY:=@PySem.W.mg_none_of
def zaZ:=@List.mem_map_of_mem
def za0:=@List.getElem?_map
def za1:=@List.length_append
def za2:=@List.mem_append
def za3:=@List.append_assoc
def za4:=@Array.getElem?_toList
def za5:=@wpAny_callSpecial?_slot
def za6:=@List.getElem_of_mem
def za7:=@Option.map_some
def za8:=@List.nil_append
def za9:=@Heap.size_push
def zba:=@sizeLine_eq
def zbb:=@Nat.zero_le
def zbc:=@List.map_nil
def zbd:=@plainId_quiet
def zbe:=@Array.getElem?_eq_some_iff
def zbf:=@List.getD_eq_getElem?_getD
def zbg:=@List.pairwise_iff_getElem
def zbh:=@Bool.false_ne_true
def zbi:=@List.append_nil
def zbj:=@List.foldl_cons
def zbk:=@List.pairwise_map
def zbl:=@List.mem_range
def zbm:=@List.length_set
def zbn:=@Bool.not_true
def zbo:=@Nat.le_trans
def zbp:=@List.mem_filter
def zbq:=@PySem.W.kia_one
def zbr:=@List.mem_append_left
def zbs:=@Array.getElem_toList
def zbt:=@wpAny_typeOf
def zbu:=@List.nodup_append
def zbv:=@wpAny_updateSeq
def zbw:=@List.drop_eq_getElem_cons
def zbx:=@builtinLookup_eq_fast
def zby:=@List.filter_cons
def zbz:=@List.getElem_map
def zbA:=@List.any_cons
def zbB:=@wpAny_mono
def zbC:=@Array.mem_toList_iff
def zbD:=@List.length_eq_zero_iff
def zbE:=@List.map_congr_left
def zbF:=@Nat.ne_of_gt
def zbG:=@List.find?_cons_of_pos
def zbH:=@List.find?_cons_of_neg
def zbI:=@wpAny_attempt
def zbJ:=@List.getElem_inj
def zbK:=@List.length_take
def zbL:=@List.lookup_cons
def zbM:=@Option.getD_some
def zbN:=@wpAny_Call_Name_kw
def zbO:=@wpAny_field
def zbP:=@Nat.le_of_lt
def zbQ:=@List.filterMap_cons_some
def zbR:=@Int.toNat_natCast
def zbS:=@wpAny_typeNameOfWhole_keyiter
def zbT:=@List.eq_nil_of_length_eq_zero
def zbU:=@Bool.and_eq_true
def zbV:=@wpAny_fieldsOf
def zbW:=@wpAny_setField
def zbX:=@wpAny_isInstance
def zbY:=@wpAny_seqItems
def zbZ:=@Bool.not_false
def zb0:=@codeAny_mono
def zb1:=@Array.forIn_toList
def zb2:=@wpAny_specialOf
def zb3:=@typeLookup_type
def zb4:=@Option.isSome_iff_exists
def zb5:=@List.length_drop
def zb6:=@Nat.lt_trans
def zb7:=@Nat.lt_or_ge
def zb8:=@wpAny_askSetting
def zb9:=@List.cons_append
def zca:=@beq_self_eq_true
def zcb:=@wpAny_typeNameOf_keyiter
def zcc:=@Nat.le_add_right
def zcd:=@List.filterMap_cons
def zce:=@List.pairwise_singleton
def zcf:=@List.getElem?_cons_zero
def zcg:=@wpAny_rule
def zch:=@List.find?_cons
def zci:=@List.length_nil
def zcj:=@List.forIn_cons
def zck:=@PySem.W.cellsFrom_some
def zcl:=@Nat.le_succ
def zcm:=@wpAny_nextOf_list_item
def zcn:=@wpAny_truthy_bool
def zco:=@wpAny_pyIter_list
def zcp:=@List.getElem?_eq_none
def zcq:=@List.mem_iff_getElem
def zcr:=@Nat.lt_succ_self
def zcs:=@Int.toNat_of_nonneg
def zct:=@wpAny_passesOwn
def zcu:=@codeAny_of_tree
def zcv:=@List.mem_of_find?_eq_some
def zcw:=@Option.isSome_some
def zcx:=@Nat.lt_of_le_of_lt
def zcy:=@Nat.lt_or_eq_of_le
def zcz:=@Int.emod_lt_of_pos
def zcA:=@List.filterMap_cons_none
def zcB:=@List.getElem_range
def zcC:=@List.set_cons_zero
def zcD:=@Nat.mod_lt
def zcE:=@wpAny_runValue
def zcF:=@List.getElem?_replicate
def zcG:=@Nat.lt_trichotomy
def zcH:=@wpAny_pyIter_slot
def zcI:=@wpAny_dictEntries
def zcJ:=@Array.getElem?_eq_none
def zcK:=@Int.le_refl
def zcL:=@List.length_pos_of_mem
def zcM:=@Bool.or_false
def zcN:=@Bool.and_true
def zcO:=@List.getElem_mem
def zcP:=@List.any_eq_true
def zcQ:=@List.drop_length
def zcR:=@List.map_fst_zip
def zcS:=@List.map_snd_zip
def zcT:=@List.ext_getElem
def zcU:=@wpAny_isOneOf_keyiter
def zcV:=@Array.mem_of_getElem?
def zcW:=@List.length_filter_le
def zcX:=@Classical.choose_spec
def zcY:=@List.pairwise_append
def zcZ:=@List.find?_some
def zc0:=@Int.emod_nonneg
def zc1:=@codeAny_call_builtin
def zc2:=@Bool.eq_iff_iff
def zc3:=@List.any_map
def zc4:=@List.map_eq_cons_iff
def zc5:=@List.mem_of_mem_take
def zc6:=@Int.add_zero
def zc7:=@List.filter_sublist
def zc8:=@List.nodup_nil
def zc9:=@List.forIn_nil
def zda:=@Array.getElem?_setIfInBounds
def zdb:=@wpAny_of_eq
def zdc:=@List.mem_filterMap
def zdd:=@List.find?_eq_none
def zde:=@List.zip_cons_cons
def zdf:=@Int.mul_lt_mul_of_pos_right
def zdg:=@Bool.and_self
def zdh:=@wpAny_newList
def zdi:=@PySem.W.mg_of
def zdj:=@wpAny_Call_method
def zdk:=@Array.toList_push
def zdl:=@List.length_range
def zdm:=@PySem.W.kitx_list
def zdn:=@Int.lt_trichotomy
def zdo:=@wpAny_load
def zdp:=@Nat.zero_add
def zdq:=@List.nodup_range
def zdr:=@Int.zero_add
def zds:=@wpAny_forIn_list
def zdt:=@wpAny_execs_nil
def zdu:=@List.of_mem_zip
def zdv:=@wpAny_dictEpoch
def zdw:=@Bool.decide_and
end Y0
open Y0
namespace Y1z
abbrev Ta:=List (List Int)
abbrev Tb:=Value->Shared->Prop
abbrev Tc:=List (Addr×Obj)
abbrev Td:=Str->Option Value
abbrev Te:=List Value
abbrev Tf:=List Addr
abbrev Tg:=Option Value
abbrev Th:=List Int
abbrev Ti:=Array Value
abbrev Tj:=List Expr
abbrev Tk:=List Stmt
abbrev Tl:=List Str
end Y1z
open Y1z
namespace L2
open PyProof.Rows
section
variable {prog:Program}{w:World}{A:Around}{E:Tb}{s:Shared}
theorem lw {Q:Int->Shared->Prop}(h:Q 0xFCA86420 {s with toks:=s.toks+1}):wpAny (model prog w) A (pyHash .none) Q E s:=by
 have hT:s.TypeIs .none "NoneType":=rfl
 show wpAny _ _ (pyHashByItsType .none) _ _ s
 unfold pyHashByItsType;refine zab (wpAny_cRoomFor_byValue rfl ?_);refine zab (zb2 hT F.slot_NoneType_hash.lookup ?_);rw [if_neg (by decide)];refine zab (zb2 hT F.slot_NoneType_hash.lookup ?_);rw [if_neg (by decide)]
 show wpAny _ _ (callSpecialIfBoundUnlessNone? .none "__hash__" _ >>= _) Q E s
 refine zab (wpAny_callSpecialIfBoundUnlessNone?_slot hT F.slot_NoneType_hash
  (zaV F.slot_NoneType_hash hT F.entry_NoneType_hash
   (show wpAny _ _ (do ret (←mkInt 0xFCA86420)) _ _ s from wpAny_ret_mkInt ?_) (F.args_NoneType_hash_1 _)))
 show wpAny _ _ (if (decide (-(2:Int) ^ 63<=0xFCA86420) && decide ((0xFCA86420:Int) < 2 ^ 63))=true then _ else _) Q E _
 rw [if_pos (by decide)];exact zad h
def lx {Q:Bool->Shared->Prop}(h:Q true s):wpAny (model prog w) A (eqBool .none .none) Q E s:=by unfold eqBool;refine zaH ?_;rw [if_pos (by decide)];exact zab (zcg (zad h))
end
abbrev aH:=Sum Int (Option Str)
def jD:aH->Value->Bool
 |.inl k,v=>Value.isInt k v|.inr (some x),v=>Value.isStrOf x v|.inr none,v=>v == .none
def Pe (w:World):aH->Int
 |.inl k=>hashInt k|.inr (some x)=>hashStr w x|.inr none=>0xFCA86420
theorem br:∀{k:aH} {v:Value},jD k v=true->(∃i t,k=Sum.inl i/\v=Value.int i t)\/(∃x t,k=Sum.inr (some x)/\v=Value.str x t)\/(k=Sum.inr none/\v=Value.none)
 |.inl i,v,h=>by obtain ⟨t,e⟩:=Value.isInt_shape (k:=i) (v:=v) h;exact .inl ⟨i,t,rfl,e⟩
 |.inr (some x),v,h=>by obtain ⟨t,e⟩:=Value.isStrOf_shape (x:=x) (v:=v) h;exact .inr (.inl ⟨x,t,rfl,e⟩)
 |.inr none,v,h=>.inr (.inr ⟨rfl,eq_of_beq h⟩)
def zo (i:Int)(t:Tok):jD (.inl i) (.int i t)=true:=by simp [jD,Value.isInt]
def zm (x:Str)(t:Tok):jD (.inr (some x)) (.str x t)=true:=by simp [jD,Value.isStrOf]
def zn:jD (.inr none) .none=true:=by simp [jD]
def JN (a b:Int):decide ((Sum.inl a:aH)=Sum.inl b)=(a == b):=by
 by_cases e:a=b
 ·subst e;simp
 ·have h:¬ (Sum.inl a:aH)=Sum.inl b:=fun q=>e (Sum.inl.inj q);rw [zaG h];exact (beq_eq_false_iff_ne.mpr e).symm
def JM (a b:Str):decide ((Sum.inr (some a):aH)=Sum.inr (some b))=decide (a=b):=by
 by_cases e:a=b
 ·subst e;simp
 ·have h:¬ (Sum.inr (some a):aH)=Sum.inr (some b):=fun q=>e (Option.some.inj (Sum.inr.inj q));rw [zaG h,zaG e]
def aY (prog:Program)(w:World):PySem.KeyKind prog w aH where
 is:=jD
 hash:=Pe w
 inj:=fun v a b ha hb=>by
  rcases br ha with ⟨i,t,rfl,rfl⟩|⟨x,t,rfl,rfl⟩|⟨rfl,rfl⟩
  ·rcases br hb with ⟨j,u,rfl,e⟩|⟨y,u,rfl,e⟩|⟨rfl,e⟩
   ·injection e with e1 _;rw [e1]
   ·exact nomatch e
   ·exact nomatch e
  ·rcases br hb with ⟨j,u,rfl,e⟩|⟨y,u,rfl,e⟩|⟨rfl,e⟩
   ·exact nomatch e
   ·injection e with e1 _;rw [e1]
   ·exact nomatch e
  ·rcases br hb with ⟨j,u,rfl,e⟩|⟨y,u,rfl,e⟩|⟨rfl,e⟩
   ·exact nomatch e
   ·exact nomatch e
   ·rfl
 byValue:=fun k v h=>by rcases br h with ⟨i,t,rfl,rfl⟩|⟨x,t,rfl,rfl⟩|⟨rfl,rfl⟩ <;> rfl
 pyHash:=fun hv h=>by
  rcases br hv with ⟨i,t,rfl,rfl⟩|⟨x,t,rfl,rfl⟩|⟨rfl,rfl⟩
  ·exact wpAny_pyHash_int h
  ·exact wpAny_pyHash_str h
  ·exact lw h
 eqBool:=fun hu hv h=>by
  rcases br hu with ⟨i,t,rfl,rfl⟩|⟨x,t,rfl,rfl⟩|⟨rfl,rfl⟩
  ·rcases br hv with ⟨j,u,rfl,rfl⟩|⟨y,u,rfl,rfl⟩|⟨rfl,rfl⟩
   ·rw [JN] at h;exact wpAny_eqBool_int h
   ·exact SeqAt.EqAt.int_str i t y u _ _ _ _ (by simpa using h)
   ·exact SeqAt.EqAt.int_none i t _ _ _ _ (by simpa using h)
  ·rcases br hv with ⟨j,u,rfl,rfl⟩|⟨y,u,rfl,rfl⟩|⟨rfl,rfl⟩
   ·exact SeqAt.EqAt.str_int x t j u _ _ _ _ (by simpa using h)
   ·rw [JM] at h;exact wpAny_eqBool_str h
   ·exact SeqAt.EqAt.str_none x t _ _ _ _ (by simpa using h)
  ·rcases br hv with ⟨j,u,rfl,rfl⟩|⟨y,u,rfl,rfl⟩|⟨rfl,rfl⟩
   ·exact SeqAt.EqAt.none_int j u _ _ _ _ (by simpa using h)
   ·exact SeqAt.EqAt.none_str y u _ _ _ _ (by simpa using h)
   ·exact lx (by simpa using h)
 «strs»:=fun k x t v h=>by
  rcases br h with ⟨i,u,rfl,e⟩|⟨y,u,rfl,e⟩|⟨rfl,e⟩
  ·exact nomatch e
  ·injection e with e1 _
   subst e1;cases v <;> rfl
  ·exact nomatch e
def t8 (prog:Program)(w:World)(i:Int)(t:Tok):(aY prog w).is (.inl i) (.int i t)=true:=zo i t
def t7 (prog:Program)(w:World)(x:Str)(t:Tok):(aY prog w).is (.inr (some x)) (.str x t)=true:=zm x t
inductive V where
 |non|bl (b:Bool)|int (i:Int)|str (x:Str)|byt (b:Array UInt8)|flt (b:UInt64)|ref (a:Addr)|ty (n:String)
 deriving DecidableEq
def aW:V->Value->Prop
 |.non,u=>u=Value.none|.bl b,u=>u=Value.bool b|.int i,u=>∃t,u=Value.int i t|.str x,u=>∃t,u=Value.str x t|.byt b,u=>∃t,u=Value.bytes b t|.flt b,u=>∃t,u=Value.float b t|.ref a,u=>u=Value.ref a|.ty n,u=>u=Value.type n
abbrev aZ:List V->List Value->Prop:=Paired aW
def aZ.length {xs:List V}{us:Te}(r:aZ xs us):xs.length=us.length:=Paired.length r
theorem aZ.get:∀{xs:List V} {us:Te} {i:Nat} {x:V},aZ xs us->xs[i]?=some x->∃u,us[i]?=some u/\aW x u
 |_,_,_,_,.nil,e=>by simp at e|_,_,0,_,.cons r _,e=>by simp at e;subst e;exact ⟨_,rfl,r⟩|_,_,i+1,x,.cons _ t,e=>by obtain ⟨u,h1,h2⟩:=aZ.get (i:=i) (x:=x) t (by simpa using e);exact ⟨u,by simpa using h1,h2⟩
theorem aZ.set {x:V}{u:Value}(r:aW x u):∀{xs:List V} {us:Te} (i:Nat),aZ xs us->aZ (xs.set i x) (us.set i u)
 |_,_,_,.nil=>.nil|_,_,0,.cons _ t=>.cons r t|_,_,i+1,.cons q t=>.cons q (aZ.set r i t)
theorem aZ.append:∀{xs ys:List V} {us ws:Te},aZ xs us->aZ ys ws->aZ (xs++ys) (us++ws)
 |_,_,_,_,.nil,s=>s|_,_,_,_,.cons r t,s=>.cons r (aZ.append t s)
theorem aZ.take:∀{xs:List V} {us:Te} (n:Nat),aZ xs us->aZ (xs.take n) (us.take n)
 |_,_,0,_=>.nil|_,_,_+1,.nil=>.nil|_,_,n+1,.cons r t=>.cons r (aZ.take n t)
theorem aZ.drop:∀{xs:List V} {us:Te} (n:Nat),aZ xs us->aZ (xs.drop n) (us.drop n)
 |_,_,0,r=>r|_,_,_+1,.nil=>.nil|_,_,n+1,.cons _ t=>aZ.drop n t
def nK:Option V->Option Value->Prop
 |some v,some u=>aW v u|none,none=>True|_,_=>False
def KV {κ:Type}:List (κ×V)->List (κ×Value)->Prop:=Paired fun (p:κ×V) (q:κ×Value)=>p.1=q.1/\aW p.2 q.2
def kV:aH->V
 |.inl i=>.int i|.inr (some x)=>.str x|.inr none=>.non
inductive HO where
 |lst (xs:List V)
 |tup (xs:List V)
 |dK (kvs:List (aH×V))|dT (kvs:List (List aH×V))
 |set (S:Int->Bool) (n:Nat)
 |ins (C dx:Addr) (fs:List (Str×V))
 |own (x:Addr)
 |xd (fs:List (Str×V))
 |met (f x:Addr)
 |rng (lo hi:Int)
 |frz (o:Obj) (u:HO)
 |tbl (ps:Ti)
 |ext (φ:Heap->Prop)
abbrev Hp:=Addr->Option HO
def upd (H:Hp)(a:Addr)(o:HO):Hp:=fun b=>if b=a then some o else H b
def dj {H:Hp}{a:Addr}{o:HO}:upd H a o a=some o:=by unfold upd;rw [if_pos rfl]
def aD {H:Hp}{a b:Addr}{o:HO}(h:b≠a):upd H a o b=H b:=by unfold upd;rw [if_neg h]
def G6 {H:Hp}{a b:Addr}{o u:HO}(h:H a=some o)(h':H b=some u)(d:o≠u):a≠b:=by intro e;subst e;rw [h] at h';exact d (Option.some.inj h')
def gO {H:Hp}{a b:Addr}{o:HO}(h:H a=some o)(h':H b=none):a≠b:=by intro e;subst e;rw [h] at h';cases h'
def jc (h:Heap)(a:Addr)(items:Ti):Prop:=IsTup h a items/\∀o,h.get? a=some o->o.dict=none
def jc.new (h:Heap)(items:Ti):jc (h.push {cls:=.type "tuple",data:=.seq items}) h.objs.size items:=⟨IsTup.new _ _,fun o e=>by rw [zaq _ rfl] at e;cases e;rfl⟩
section
variable (P:Program)(w:World)
def bI (H:Hp)(h:Heap)(a:Addr):HO->Prop
 |.lst xs=>xs.length<=sizeLine/\∃(its:Te) (n:Nat),aZ xs its/\h.get? a=some {cls:=.type "list",data:=.seq its.toArray n}|.tup xs=>xs.length<=sizeLine/\∃its:Te,aZ xs its/\jc h a its.toArray|.dK kvs=>kvs.length<=sizeLine/\(a == sysModules)=false/\∃vs,KV kvs vs/\h.DictOf (aY P w) a vs|.dT kvs=>kvs.length<=sizeLine/\(a == sysModules)=false/\∃xs:List (List aH×Addr×Value),
   Paired (fun (p:List aH×V) (q:List aH×Addr×Value)=>p.1=q.1/\H q.2.1=some (.tup (p.1.map kV))/\aW p.2 q.2.2) kvs xs /\
   ∃o es ep,h.get? a=some o/\o.ExactDict/\o.data=.dict es ep/\es.toList=xs.map (entryOfKey (tupleKind (aY P w)))/\(xs.map (·.1)).Nodup
 |.set S n=>h.SetOf (intKind P w) a S n|.ins C dx fs=>H dx=some (.own a)/\fs.length<=1000/\dx≠a/\h.get? a=some (PySem.W.instObj C dx) /\
   ∃mA,h.Ns1 dx mA/\(∀f,nK (fs.lookup f) (mA f))/\PySem.Within mA (fs.map (·.1))
 |.own _=>∃o,h.get? a=some o|.xd fs=>∃mA,h.Ns1 a mA/\∀f,nK (fs.lookup f) (mA f)|.rng lo hi=>∃t u v,h.get? a=some {cls:=.type "range",data:=.fields #[.int lo t,.int hi u,.int 1 v]}|.frz o u=>h.get? a=some o/\bI H h a u|.tbl ps=>h.get? a=some {cls:=.none,data:=.fields ps}|.met f x=>h.get? a=some (PySem.W.methodObj (.ref f) (.ref x))|.ext φ=>φ h/\(∃o,h.get? a=some o)/\∀h1 h2:Heap,φ h1->(∀o,h1.get? a=some o->h2.get? a=some o)->φ h2
def iJ (H:Hp)(h:Heap):Prop:=∀a o,H a=some o->bI P w H h a o
end
section
variable {P:Program}{w:World}{H H':Hp}{h h':Heap}{a:Addr}{o:HO}
theorem bI.lt (x:bI P w H h a o):a < h.objs.size:=by
 cases o with
 |lst xs=>obtain ⟨_,_,_,_,e⟩:=x;exact zam e
 |tup xs=>obtain ⟨_,_,_,p⟩:=x;exact p.1.lt
 |dK kvs=>obtain ⟨_,_,_,_,o,_,_,e,_⟩:=x;exact zam e
 |dT kvs=>obtain ⟨_,_,_,_,o,_,_,e,_⟩:=x;exact zam e
 |set S n=>obtain ⟨o,_,_,_,e,_⟩:=x;exact zam e
 |ins C dx fs=>obtain ⟨_,_,_,e,_⟩:=x;exact zam e
 |own y=>obtain ⟨_,e⟩:=x;exact zam e
 |xd fs=>obtain ⟨_,⟨_,_,_,e,_⟩,_⟩:=x;exact zam e
 |rng lo hi=>obtain ⟨_,_,_,e⟩:=x;exact zam e
 |frz ob u=>obtain ⟨e,_⟩:=x;exact zam e
 |tbl ps=>exact zam (show h.get? a=some _ from x)
 |met f y=>exact zam (show h.get? a=some _ from x)
 |ext φ=>obtain ⟨_,⟨_,e⟩,_⟩:=x;exact zam e
theorem Paired.mapP {Z β:Type}{F G:Z->β->Prop}{l₁:List Z}{l₂:List β}(h:Paired F l₁ l₂)(f:∀a b,F a b->G a b):Paired G l₁ l₂:=by
 induction h with|nil=>exact .nil|cons r t ih=>exact .cons (f _ _ r) ih
theorem bI.stay (x:bI P w H h a o)(k:∀b u,(b=a\/H b=some (.own a))->h.get? b=some u->h'.get? b=some u)
  (ho:∀b,H b=some (.own a)->H' b=some (.own a)) (ht:∀b xs,H b=some (.tup xs)->H' b=some (.tup xs)):bI P w H' h' a o:=by
 induction o with
 |lst xs=>obtain ⟨z,its,n,r,e⟩:=x;exact ⟨z,its,n,r,k _ _ (.inl rfl) e⟩
 |tup xs=>obtain ⟨z,its,r,⟨ob,e,c⟩,dn⟩:=x;exact ⟨z,its,r,⟨ob,k _ _ (.inl rfl) e,c⟩,fun o q=>by rw [k _ _ (.inl rfl) e] at q;cases q;exact dn _ e⟩
 |dK kvs=>obtain ⟨z,y,vs,r,ob,es,ep,e,c⟩:=x;exact ⟨z,y,vs,r,ob,es,ep,k _ _ (.inl rfl) e,c⟩
 |dT kvs =>
  obtain ⟨z,y,xs,r,ob,es,ep,e,c⟩:=x;exact ⟨z,y,xs,Paired.mapP r fun p q z=>⟨z.1,ht _ _ z.2.1,z.2.2⟩,ob,es,ep,k _ _ (.inl rfl) e,c⟩
 |set S n=>obtain ⟨ob,es,ep,t,e,c⟩:=x;exact ⟨ob,es,ep,t,k _ _ (.inl rfl) e,c⟩
 |ins C dx fs =>
  obtain ⟨d,z,ne,e,mA,⟨od,es,ep,e2,c⟩,r⟩:=x;exact ⟨ho _ d,z,ne,k _ _ (.inl rfl) e,mA,⟨od,es,ep,k _ _ (.inr d) e2,c⟩,r⟩
 |own y=>obtain ⟨ob,e⟩:=x;exact ⟨ob,k _ _ (.inl rfl) e⟩
 |xd fs=>obtain ⟨mA,⟨od,es,ep,e,c⟩,r⟩:=x;exact ⟨mA,⟨od,es,ep,k _ _ (.inl rfl) e,c⟩,r⟩
 |rng lo hi=>obtain ⟨t,u,v,e⟩:=x;exact ⟨t,u,v,k _ _ (.inl rfl) e⟩
 |frz ob u ih=>obtain ⟨e,q⟩:=x;exact ⟨k _ _ (.inl rfl) e,ih q⟩
 |tbl ps =>
  have e:h.get? a=some {cls:=.none,data:=.fields ps}:=x
  show h'.get? a=some {cls:=.none,data:=.fields ps}
  exact k a _ (.inl rfl) e
 |met f y =>
  have e:h.get? a=some (PySem.W.methodObj (.ref f) (.ref y)):=x
  show h'.get? a=some (PySem.W.methodObj (.ref f) (.ref y))
  exact k a _ (.inl rfl) e
 |ext φ=>obtain ⟨p,⟨o,e⟩,st⟩:=x;exact ⟨st _ _ p fun o q=>k _ _ (.inl rfl) q,⟨o,k _ _ (.inl rfl) e⟩,st⟩
def iJ.lt (x:iJ P w H h)(e:H a=some o):a < h.objs.size:=(x a o e).lt
theorem iJ.fresh (x:iJ P w H h)(e:h.objs.size<=a):H a=none:=by
 cases q:H a with|none=>rfl|some u=>exact absurd (zaA (x.lt q) e) (zaF _)
def iJ.kept (x:iJ P w H h)(k:∀b u,h.get? b=some u->h'.get? b=some u):iJ P w H h':=fun a o e =>
 (x a o e).stay (fun b u _ q=>k b u q) (fun _ q=>q) fun _ _ q=>q
def iJ.laid (x:iJ P w H h)(k:∀b u,h.get? b=some u->h'.get? b=some u)(hp:h.objs.size<=a)(new:bI P w (upd H a o) h' a o):iJ P w (upd H a o) h':=fun b u e=>by
 have hn:=x.fresh hp;by_cases hb:b=a
 ·subst hb;rw [dj] at e;cases e;exact new
 ·rw [aD hb] at e;exact (x b u e).stay (fun c v _ q=>k c v q) (fun c q=>by rw [aD (gO q hn)];exact q) fun c xs q=>by rw [aD (gO q hn)];exact q
end
def Rd (H:Hp)(a:Addr)(u:HO):Prop:=H a=some u\/∃o,H a=some (.frz o u)
def Rd.ok {H:Hp}{h:Heap}{a:Addr}{u:HO}(r:Rd H a u)(x:iJ P w H h):bI P w H h a u:=by
 rcases r with r|⟨o,r⟩
 ·exact x a u r
 ·obtain ⟨_,q⟩:=x a _ r;exact q
def Nu:Option HO->Prop
 |some (.lst _)=>True|some (.dK _)=>True|some (.dT _)=>True|some (.set _ _)=>True|some (.ins _ _ _)=>True|some (.ext _)=>True|_=>False
section
variable {P:Program}{w:World}{H:Hp}{h h':Heap}{x e:Addr}{o':HO}
theorem iJ.write (ok:iJ P w H h)(mu:Nu (H x))(he:e=x\/H e=some (.own x))(k:∀b u,b≠e->h.get? b=some u->h'.get? b=some u)(heo:∃u,h'.get? e=some u)
  (new:bI P w (upd H x o') h' x o'):iJ P w (upd H x o') h':=fun b u q=>by
 have nown:∀c y,H c=some (.own y)->c≠x:=fun c y r z=>by subst z;rw [r] at mu;exact mu
 have ntup:∀c xs,H c=some (.tup xs)->c≠x:=fun c xs r z=>by subst z;rw [r] at mu;exact mu
 by_cases hb:b=x
 ·subst hb;rw [dj] at q;cases q;exact new
 ·rw [aD hb] at q
  by_cases hbe:b=e
  ·have q':H b=some (.own x):=by
    rcases he with z|z
    ·exact absurd (hbe.trans z) hb
    ·rw [hbe];exact z
   rw [q] at q';cases q';obtain ⟨v,hv⟩:=heo;exact ⟨v,by rw [hbe];exact hv⟩
  ·refine (ok b u q).stay (fun c v hc r=>k c v ?_ r) (fun c r=>by rw [aD (nown c b r)];exact r) fun c xs r=>by rw [aD (ntup c xs r)];exact r
   rcases hc with rfl|hc
   ·exact hbe
   ·rintro rfl
    rcases he with z|z
    ·exact nown c b hc z
    ·rw [hc] at z;cases z;exact hb rfl
end
structure Un (fs ex:Tf)(H H':Hp)(h h':Heap):Prop where
 keep:∀b o,h.get? b=some o->H b=none->b∉fs->b∉ex->h'.get? b=some o
 slot:∀b o,h.get? b=some o->H b=none->b∈fs->b∉ex->∃sl,h'.get? b=some {o with slots:=sl}
 free:∀b o,h.get? b=some o->H b=none->b∉ex->H' b=none
 there:∀b o,h.get? b=some o->b∉ex->∃o',h'.get? b=some o'
 tups:∀b xs,H b=some (.tup xs)->H' b=some (.tup xs)
 frzs:∀b o u,H b=some (.frz o u)->H' b=some (.frz o u)
 tbls:∀b ps,H b=some (.tbl ps)->∃more,H' b=some (.tbl (ps++more))
section
variable {fs ex:Tf}{H H1:Hp}{h h1 h':Heap}{a x e:Addr}{o:HO}
def Un.any (u:Un fs ex H H1 h h1){b:Addr}{ob:Obj}(q:h.get? b=some ob)(n:H b=none)(hx:b∉ex):∃sl,h1.get? b=some {ob with slots:=sl}:=by
 by_cases hb:b∈fs
 ·exact u.slot b ob q n hb hx
 ·exact ⟨ob.slots,u.keep b ob q n hb hx⟩
def Un.kept (k:∀b u,h.get? b=some u->h'.get? b=some u):Un fs ex H H h h' :=
 ⟨fun b ob q _ _ _=>k b ob q,fun b ob q _ _ _=>⟨ob.slots,k b ob q⟩,fun _ _ _ n _=>n,fun b ob q _=>⟨ob,k b ob q⟩,fun _ _ q=>q,fun _ _ _ q=>q,fun _ ps q=>⟨#[],by rw [q];simp⟩⟩
def Un.refl:Un fs ex H H h h:=Un.kept fun _ _ q=>q
def Un.laid (k:∀b u,h.get? b=some u->h'.get? b=some u)(hp:h.objs.size<=a)(hn:H a=none):Un fs ex H (upd H a o) h h' where
 keep:=fun b u q _ _ _=>k b u q
 slot:=fun b u q _ _ _=>⟨u.slots,k b u q⟩
 free:=fun b u q n _=>by rw [aD (zat (zaA (zam q) hp))];exact n
 there:=fun b u q _=>⟨u,k b u q⟩
 tups:=fun b xs q=>by rw [aD (gO q hn)];exact q
 frzs:=fun b u xs q=>by rw [aD (gO q hn)];exact q
 tbls:=fun b ps q=>⟨#[],by rw [aD (gO q hn),q];simp⟩
def Un.write (mu:Nu (H x))(he:e=x\/H e=some (.own x))(k:∀b u,b≠e->h.get? b=some u->h'.get? b=some u)(heo:∃u,h'.get? e=some u):Un fs ex H (upd H x o) h h':=by
 have hx:∀b,H b=none->b≠x:=fun b n z=>by subst z;rw [n] at mu;exact mu
 have hb:∀b,H b=none->b≠e:=fun b n z=>by
  subst z;rcases he with r|r
  ·exact hx b n r
  ·rw [n] at r;cases r
 have hm:∀b u,H b=some u->¬ Nu (some u)->b≠x:=fun b u q nm z=>by subst z;rw [q] at mu;exact nm mu
 refine ⟨fun b u q n _ _=>k b u (hb b n) q,fun b u q n _ _=>⟨u.slots,k b u (hb b n) q⟩,fun b u q n _=>by rw [aD (hx b n)];exact n,fun b u q _=>?_,
  fun b xs q=>by rw [aD (hm b _ q fun z=>z)];exact q,fun b u xs q=>by rw [aD (hm b _ q fun z=>z)];exact q,fun b ps q=>⟨#[],by rw [aD (hm b _ q fun z=>z),q];simp⟩⟩
 by_cases hbe:b=e
 ·subst hbe;exact heo
 ·exact ⟨u,k b u hbe q⟩
end
def NB (h:Heap)(H:Hp):Tf:=(List.range h.objs.size).filter fun a=>(H a).isSome
def rR (h:Heap)(H:Hp):Heap:=PySem.W.hideAll h (NB h H)
def zw (h:Heap)(H:Hp):(rR h H).objs.size=h.objs.size:=PySem.W.hideAll_size _ _
def Ct {h:Heap}{H:Hp}{b:Addr}{o:Obj}(e:h.get? b=some o)(n:H b=none):(rR h H).get? b=some o :=
 PySem.W.hideAll_get _ e fun hm=>by have q:(H b).isSome=true:=(zbp.mp hm).2;rw [n] at q;simp at q
theorem EZ {h:Heap}{H:Hp}{b:Addr}{o:Obj}(e:(rR h H).get? b=some o):h.get? b=some o/\H b=none:=by
 have e':h.get? b=some o:=PySem.W.of_hideAll (NB h H) e;refine ⟨e',?_⟩
 cases q:H b with|none=>rfl|some x =>
  have hm:b∈NB h H:=zbp.mpr ⟨zbl.mpr (zam e'),by simp [q]⟩;have z:(rR h H).get? b=none:=PySem.W.hideAll_none (NB h H) hm;rw [z] at e;cases e
def FM (g h:Heap)(L:Addr):Tc:=(List.range h.objs.size).filterMap fun a=>if a=L\/(g.get? a).isSome=true then none else (h.get? a).map fun o=>(a,o)
def rest (g h:Heap)(L d:Addr):Tc:=(FM g h L).filter fun p=>decide (p.1≠d)
structure Mod (K:zac)(mg:Td)(base:Heap):Prop where
 kin:K.In base
 glob:base.Ns mainGlobals mg
 blt:∃mb,base.Ns builtinsNs mb/\∀x:Str,x≠"__name__"->mb x=bootBuiltins x
 nolimit:base.NoLimit
structure Cx where
 prog:Program
 w:World
 K:zac
 mg:Td
 base:Heap
 A:Around
 N:Tl
 s₀:Shared
 H₀:Hp
 env:Env
 outer:List Env
 stack:List Env
 ex:Tf
 fn:Str->Bool
 calm:Bool
 pn:Tc
 xe:Tb
def zy (l:List Env):Tf:=l.filterMap (·.frame)
abbrev Cx.fs (X:Cx):Tf:=zy X.outer
def Nq (sc:Scope)(x:Str):Prop:=sc.names.lookup x=some .local\/sc.names.lookup x=some .cell\/sc.names.lookup x=some .free
def Dv (sc:Scope)(x:Str):Prop:=sc.names.lookup x=some .local\/sc.names.lookup x=some .cell
def QN (env:Env)(h:Heap)(m:Td)(x:Str)(u:Value):Prop :=
 (env.kindOf x=some .local/\m x=some u)\/((env.kindOf x=some .cell\/env.kindOf x=some .free)/\∃c,env.cells.lookup x=some c/\h.IsCell c (some u))
structure Cx.Ok (X:Cx):Prop where
 mod:Mod X.K X.mg X.base
 kind:X.env.scope.kind=.function
 glob:X.env.globals=mainGlobals
 blt:X.env.builtins=builtinsNs
 above:X.s₀.heap.objs.size<=X.env.locals
 inj:∀x y c,X.env.cells.lookup x=some c->X.env.cells.lookup y=some c->x=y
 has:∀x,(X.env.kindOf x=some .cell\/X.env.kindOf x=some .free)->∃c,X.env.cells.lookup x=some c
 cab:∀x c,X.fn x=true->X.env.cells.lookup x=some c->X.s₀.heap.objs.size<=c
 hd:X.calm=true->X.A.handled=none
 frames:X.A.frames=some X.stack
 stk:X.stack=X.outer\/(X.stack=X.env::X.outer/\X.env.frame=some X.env.locals)
 exf:∀b∈X.ex,b≠X.env.locals/\∀x c,X.env.cells.lookup x=some c->c≠b
 bs:∀b o,X.base.get? b=some o->X.s₀.heap.get? b=some o/\X.H₀ b=none
 bsz:X.base.objs.size<=X.s₀.heap.objs.size
 noex:∀b o,X.base.get? b=some o->b∉X.ex
 exfs:∀b∈X.ex,b∉X.fs
 funs:X.s₀.heap.FunFrames X.base X.outer
 frf:∀b∈X.fs,X.H₀ b=none
structure aF (X:Cx)(pins:Tc)(Y:List (Option V))(H:Hp)(s:Shared):Prop where
 ok:X.Ok
 os:s.os=X.s₀.os
 bare:AllBare s.gens
 base:Un X.fs X.ex X.H₀ H X.s₀.heap s.heap
 loc:∃m,s.heap.Ns X.env.locals m/\∀(i:Nat) (x:Str) (v:V),X.N[i]?=some x->Y[i]?=some (some v)->Nq X.env.scope x->∃u,aW v u/\QN X.env s.heap m x u
 cell:∀x c,X.env.cells.lookup x=some c->∃v,s.heap.IsCell c v
 free:H X.env.locals=none
 freeC:∀x c,X.env.cells.lookup x=some c->H c=none
 pin:∀p∈X.pn++pins,s.heap.get? p.1=some p.2/\H p.1=none/\p.1≠X.env.locals/\p.1∉X.fs/\∀v,p.2.data≠.cell v
 hok:iJ X.prog X.w H s.heap
 len:Y.length=X.N.length
section
variable {X:Cx}{pins:Tc}{Y:List (Option V)}{H H':Hp}{s:Shared}{h':Heap}
def Cx.Ok.nofr (ok:X.Ok){b:Addr}{o:Obj}(e:X.base.get? b=some o):b∉X.fs:=fun hb=>by have:=(ok.funs.mem hb).1;rw [e] at this;cases this
def aF.bs (I:aF X pins Y H s):∀b o,X.base.get? b=some o->s.heap.get? b=some o/\H b=none:=fun b o e =>
 ⟨I.base.keep b o (I.ok.bs b o e).1 (I.ok.bs b o e).2 (I.ok.nofr e) (I.ok.noex b o e),I.base.free b o (I.ok.bs b o e).1 (I.ok.bs b o e).2 (I.ok.noex b o e)⟩
def aF.bk (I:aF X pins Y H s):∀b o,X.base.get? b=some o->s.heap.get? b=some o:=fun b o e=>(I.bs b o e).1
def aF.mod (I:aF X pins Y H s):Mod X.K X.mg X.base:=I.ok.mod
def aF.kIn (I:aF X pins Y H s):X.K.In s.heap:=I.ok.mod.kin.keeps I.bk
def aF.lt (I:aF X pins Y H s):X.env.locals < s.heap.objs.size:=let ⟨_,hn,_⟩:=I.loc;hn.lt
def aF.sz (I:aF X pins Y H s):X.s₀.heap.objs.size<=s.heap.objs.size:=zbo I.ok.above (zbP I.lt)
def aF.nofs (I:aF X pins Y H s){a:Addr}(h:s.heap.objs.size<=a):a∉X.fs:=fun hb=>by obtain ⟨_,o,ho,_⟩:=I.ok.funs.mem hb;exact absurd (zaA (zam ho) (zbo I.sz h)) (zaF _)
def aF.cne (I:aF X pins Y H s):∀x c,X.env.cells.lookup x=some c->c≠X.env.locals:=fun x c e z=>by obtain ⟨v,o,ho,hd⟩:=I.cell x c e;obtain ⟨m,⟨o',es,ep,ho',hd',_⟩,_⟩:=I.loc;rw [z,ho'] at ho;cases ho;rw [hd'] at hd;cases hd
def aF.funs (I:aF X pins Y H s):s.heap.FunFrames X.base X.outer:=by
 have all:∀(l:List Env),(∀b∈zy l,b∈X.fs)->X.s₀.heap.FunFrames X.base l->s.heap.FunFrames X.base l:=by
  intro l;induction l with|nil=>intro _ _;trivial|cons env r ih =>
   intro hs hl;obtain ⟨hk,⟨L,o,hf,hn,ho,hd⟩,hr⟩:=hl;have hL:L∈X.fs:=hs L (by unfold zy;rw [zcd,hf];exact zag);obtain ⟨sl,e⟩:=I.base.slot L o ho (I.ok.frf L hL) hL fun z=>I.ok.exfs L z hL;exact ⟨hk,⟨L,_,hf,hn,e,hd⟩,ih (fun b hb=>hs b (by unfold zy;rw [zcd,hf];exact zai _ hb)) hr⟩
 exact all X.outer (fun _ hb=>hb) I.ok.funs
def aF.stack (I:aF X pins Y H s):s.heap.FunFrames X.base X.stack:=by
 rcases I.ok.stk with e|⟨e,hf⟩
 ·rw [e];exact I.funs
 ·rw [e];obtain ⟨m,hn,_⟩:=I.loc;refine .cons (by rw [I.ok.kind];decide) hf hn ?_ I.funs;exact Heap.get?_none_of_le (zbo I.ok.bsz I.ok.above)
def aF.stkSub (I:aF X pins Y H s):∀b∈zy X.stack,b∈X.env.locals::X.fs:=fun b hb=>by
 rcases I.ok.stk with e|⟨e,hf⟩
 ·rw [e] at hb;exact zai _ hb
 ·rw [e] at hb;unfold zy at hb;rw [zcd,hf] at hb;exact hb
def aF.stkFree (I:aF X pins Y H s):∀b∈zy X.stack,H b=none:=fun b hb=>by
 rcases zal.mp (I.stkSub b hb) with e|hb
 ·rw [e];exact I.free
 ·obtain ⟨_,o,ho,_⟩:=I.ok.funs.mem hb;exact I.base.free b o ho (I.ok.frf b hb) fun z=>I.ok.exfs b z hb
def aF.step {g':Array GenState}{t':Nat}{d':Drawn}{ch:Tf}(I:aF X pins Y H s)
  (hch:∀b∈ch,(b∈X.ex\/X.s₀.heap.objs.size<=b)/\b≠X.env.locals/\(∀x c,X.env.cells.lookup x=some c->c≠b)/\∀p∈X.pn++pins,p.1≠b)
  (keep:∀b o,b≠X.env.locals->b∉X.fs->b∉ch->s.heap.get? b=some o->H b=none->h'.get? b=some o)
  (slot:∀b o,b≠X.env.locals->b∈X.fs->b∉ch->s.heap.get? b=some o->H b=none->∃sl,h'.get? b=some {o with slots:=sl}) (free:∀b o,b∉ch->s.heap.get? b=some o->H b=none->H' b=none)
  (there:∀b o,b∉ch->s.heap.get? b=some o->∃o',h'.get? b=some o')
  (tups:∀b xs,H b=some (.tup xs)->H' b=some (.tup xs)) (frzs:∀b o u,H b=some (.frz o u)->H' b=some (.frz o u)) (tbls:∀b ps,H b=some (.tbl ps)->∃more,H' b=some (.tbl (ps++more)))
  (ns:∀m,s.heap.Ns X.env.locals m->h'.Ns X.env.locals m) (hok:iJ X.prog X.w H' h') (hg:AllBare g') :
  aF X pins Y H' {s with heap:=h',gens:=g',drawn:=d',toks:=t'}:=by
 have neL:∀b o,X.s₀.heap.get? b=some o->b≠X.env.locals:=fun b o e=>zat (zaA (zam e) I.ok.above)
 have neC:∀b o,X.s₀.heap.get? b=some o->b∉X.ex->b∉ch:=fun b o e hx hb=>by
  rcases (hch b hb).1 with z|z
  ·exact hx z
  ·exact absurd (zaA (zam e) z) (zaF _)
 have cellK:∀x c,X.env.cells.lookup x=some c->∀v,s.heap.IsCell c v->h'.IsCell c v:=fun x c e v ⟨o,ho,hd⟩=>by
  have nch:c∉ch:=fun z=>(hch c z).2.2.1 x c e rfl
  by_cases hc:c∈X.fs
  ·obtain ⟨sl,q⟩:=slot c o (I.cne x c e) hc nch ho (I.freeC x c e)
   exact ⟨_,q,hd⟩
  ·exact ⟨o,keep c o (I.cne x c e) hc nch ho (I.freeC x c e),hd⟩
 refine ⟨I.ok,I.os,hg,⟨fun b o e n hb hx=>?_,fun b o e n hb hx=>?_,fun b o e n hx=>?_,fun b o e hx=>?_,fun b xs e=>tups b xs (I.base.tups b xs e),fun b o xs e=>frzs b o xs (I.base.frzs b o xs e),fun b ps e=>?_⟩,?_,fun x c e=>?_,?_,fun x c e=>?_,fun p hp=>?_,hok,I.len⟩
 ·exact keep b o (neL b o e) hb (neC b o e hx) (I.base.keep b o e n hb hx) (I.base.free b o e n hx)
 ·obtain ⟨sl,e1⟩:=I.base.slot b o e n hb hx
  obtain ⟨sl',e2⟩:=slot b _ (neL b o e) hb (neC b o e hx) e1 (I.base.free b o e n hx);exact ⟨sl',e2⟩
 ·obtain ⟨o',e1⟩:=I.base.there b o e hx
  exact free b o' (neC b o e hx) e1 (I.base.free b o e n hx)
 ·obtain ⟨o',e1⟩:=I.base.there b o e hx
  exact there b o' (neC b o e hx) e1
 ·obtain ⟨m1,e1⟩:=I.base.tbls b ps e
  obtain ⟨m2,e2⟩:=tbls b _ e1;exact ⟨m1++m2,by rw [e2,Array.append_assoc]⟩
 ·obtain ⟨m,hn,hl⟩:=I.loc
  refine ⟨m,ns m hn,fun i x v e1 e2 e3=>?_⟩;obtain ⟨u,r,l⟩:=hl i x v e1 e2 e3;refine ⟨u,r,?_⟩;rcases l with l|⟨k,c,e,z⟩
  ·exact .inl l
  ·exact .inr ⟨k,c,e,cellK x c e _ z⟩
 ·obtain ⟨v,z⟩:=I.cell x c e
  exact ⟨v,cellK x c e v z⟩
 ·obtain ⟨m,⟨o,_,_,ho,_⟩,_⟩:=I.loc
  exact free _ o (fun z=>(hch _ z).2.1 rfl) ho I.free
 ·obtain ⟨v,o,ho,hd⟩:=I.cell x c e
  exact free c o (fun z=>(hch c z).2.2.1 x c e rfl) ho (I.freeC x c e)
 ·obtain ⟨e,n,ne,nf,d⟩:=I.pin p hp
  have nch:p.1∉ch:=fun z=>(hch p.1 z).2.2.2 p hp rfl;exact ⟨keep p.1 p.2 ne nf nch e n,free p.1 p.2 nch e n,ne,nf,d⟩
theorem aF.un {t':Nat}(I:aF X pins Y H s)(u:Un X.fs [] H H' s.heap h')(hok:iJ X.prog X.w H' h'):aF X pins Y H' {s with heap:=h',toks:=t'}:=by obtain ⟨m,⟨o,es,ep,ho,r⟩,_⟩:=id I.loc;obtain ⟨sl,hL⟩:=u.any ho I.free (by simp);exact I.step (g':=s.gens) (d':=s.drawn) (ch:=[]) (fun _ z=>nomatch z) (fun b o _ hb _ e n=>u.keep b o e n hb (by simp)) (fun b o _ hb _ e n=>u.slot b o e n hb (by simp)) (fun b o _ e n=>u.free b o e n (by simp)) (fun b o _ e=>u.there b o e (by simp)) u.tups u.frzs u.tbls (fun m' hm=>by obtain ⟨o',es',ep',ho',r'⟩:=hm;rw [ho] at ho';cases ho';exact ⟨_,es',ep',hL,r'⟩) hok I.bare
theorem aF.call {g':Array GenState}{t':Nat}{d':Drawn}{ch:Tf}(I:aF X pins Y H s)(u:Un (zy X.stack) ch H H' s.heap h')(hok:iJ X.prog X.w H' h')(hg:AllBare g')
  (hch:∀b∈ch,(b∈X.ex\/X.s₀.heap.objs.size<=b)/\b≠X.env.locals/\(∀x c,X.env.cells.lookup x=some c->c≠b)/\∀p∈X.pn++pins,p.1≠b) :
  aF X pins Y H' {s with heap:=h',gens:=g',drawn:=d',toks:=t'}:=by
 obtain ⟨m,⟨o,es,ep,ho,r⟩,_⟩:=id I.loc;obtain ⟨sl,hL⟩:=u.any ho I.free fun z=>(hch _ z).2.1 rfl
 exact I.step (ch:=ch) hch (fun b o hL hb hc e n=>u.keep b o e n (fun z=>(zal.mp (I.stkSub b z)).elim hL hb) hc) (fun b o _ _ hc e n=>u.any e n hc) (fun b o hc e n=>u.free b o e n hc) (fun b o hc e=>u.there b o e hc) u.tups u.frzs u.tbls (fun m' hm=>by
  obtain ⟨o',es',ep',ho',r'⟩:=hm;rw [ho] at ho';cases ho'
  exact ⟨_,es',ep',hL,r'⟩) hok hg
def aF.turned {t':Nat}{it:Addr}(I:aF X pins Y H s)(k:∀b o,b≠it->s.heap.get? b=some o->h'.get? b=some o)(hn:H it=none)(hL:it≠X.env.locals)
  (h1:it∈X.ex\/X.s₀.heap.objs.size<=it) (h2:∀x c,X.env.cells.lookup x=some c->c≠it) (h3:∀p∈X.pn++pins,p.1≠it):aF X pins Y H {s with heap:=h',toks:=t'}:=by
 have nit:∀b u,H b=some u->b≠it:=fun b u e z=>by rw [z,hn] at e;cases e
 refine I.step (g':=s.gens) (d':=s.drawn) (ch:=[it]) (fun b hb=>?_) (fun b o _ _ hc e _=>k b o (fun z=>hc (by simp [z])) e) (fun b o _ _ hc e _=>⟨o.slots,k b o (fun z=>hc (by simp [z])) e⟩) (fun _ _ _ _ n=>n)
  (fun b o hc e=>⟨o,k b o (fun z=>hc (by simp [z])) e⟩) (fun _ _ e=>e) (fun _ _ _ e=>e) (fun b ps e=>⟨#[],by rw [e];simp⟩) (fun m hm=>?_) (fun b u e=>?_) I.bare
 ·have e:b=it:=by simpa using hb
  subst e;exact ⟨h1,hL,h2,h3⟩
 ·obtain ⟨o,es,ep,ho,r⟩:=hm
  exact ⟨o,es,ep,k _ o (Ne.symm hL) ho,r⟩
 ·refine (I.hok b u e).stay (fun c v hc q=>k c v ?_ q) (fun _ q=>q) fun _ _ q=>q
  rcases hc with z|z
  ·rw [z];exact nit b u e
  ·exact nit c _ z
def aF.tok (I:aF X pins Y H s)(t:Nat):aF X pins Y H {s with toks:=t}:=I.un (h':=s.heap) (t':=t) Un.refl I.hok
def aF.kept {t':Nat}(I:aF X pins Y H s)(k:∀b u,s.heap.get? b=some u->h'.get? b=some u):aF X pins Y H {s with heap:=h',toks:=t'}:=I.un (Un.kept k) (I.hok.kept k)
def aF.laid {a:Addr}{o:HO}{t':Nat}(I:aF X pins Y H s)(k:∀b u,s.heap.get? b=some u->h'.get? b=some u)(hp:s.heap.objs.size<=a)(new:bI X.prog X.w (upd H a o) h' a o) :
  aF X pins Y (upd H a o) {s with heap:=h',toks:=t'}:=I.un (Un.laid k hp (I.hok.fresh hp)) (I.hok.laid k hp new)
def aF.write {x e:Addr}{o:HO}{t':Nat}(I:aF X pins Y H s)(mu:Nu (H x))(he:e=x\/H e=some (.own x))(k:∀b u,b≠e->s.heap.get? b=some u->h'.get? b=some u)(heo:∃u,h'.get? e=some u)
  (new:bI X.prog X.w (upd H x o) h' x o):aF X pins Y (upd H x o) {s with heap:=h',toks:=t'}:=I.un (Un.write mu he k heo) (I.hok.write mu he k heo new)
def aF.pins_of {pins':Tc}(I:aF X pins Y H s)(h:∀p∈pins',s.heap.get? p.1=some p.2/\H p.1=none/\p.1≠X.env.locals/\p.1∉X.fs/\∀v,p.2.data≠.cell v):aF X pins' Y H s :=
 ⟨I.ok,I.os,I.bare,I.base,I.loc,I.cell,I.free,I.freeC,fun p hp=>(za2.mp hp).elim (fun z=>I.pin p (zbr _ z)) (h p),I.hok,I.len⟩
def t5 {N:Tl}(hN:N.Nodup){i j:Nat}{x:Str}(a:N[i]?=some x)(b:N[j]?=some x):i=j:=by obtain ⟨h1,e1⟩:=zau.mp a;obtain ⟨h2,e2⟩:=zau.mp b;exact (zbJ hN).mp (e1.trans e2.symm)
theorem p6 {M:Model}{A:Around}{E:Tb}{i:Nat}{x:Str}{v:V}{u:Value}{Q:Unit->Shared->Prop}(I:aF X pins Y H s)(hN:X.N.Nodup)(hi:X.N[i]?=some x)(hx:Dv X.env.scope x)(r:aW v u)
  (h:∀s',aF X pins (Y.set i (some v)) H s'->(∃a,Heap.SameBut a s.heap s'.heap/\(a=X.env.locals\/X.env.cells.lookup x=some a))->Q () s') (hf:X.fn x=true\/X.env.scope.names.lookup x=some .local:=by first|exact .inl rfl|exact .inr rfl|assumption):wpAny M A (storeName X.env x u) Q E s:=by
 obtain ⟨m,hn,hl⟩:=id I.loc
 have hcls:(X.env.scope.kind == .class || (X.env.scope.kind == .module && X.env.locals != X.env.globals))=false:=by rw [I.ok.kind];rfl
 have hiY:i < Y.length:=by rw [I.len];exact (zau.mp hi).1
 have cne:=I.cne
 have tracked:∀{a:Addr} {h':Heap},(∃o,s.heap.get? a=some o/\H a=none)->Heap.SameBut a s.heap h'->iJ X.prog X.w H h':=fun {a h'} ha hs b ob e=>by
  obtain ⟨_,_,hfree⟩:=ha;refine (I.hok b ob e).stay (fun c w' hc q=>(hs.2 c ?_).trans q) (fun _ q=>q) fun _ _ q=>q;rintro rfl;rcases hc with rfl|hc
  ·rw [hfree] at e;cases e
  ·rw [hfree] at hc;cases hc
 rcases hx with hk|hk
 ·refine wpAny_storeName_local hk hn (fun h' hn' hs=>?_) hcls
  obtain ⟨oL,_,_,hoL,_⟩:=id hn;refine h _ ⟨I.ok,I.os,I.bare,⟨fun b o e n hb hx=>?_,fun b o e n hb hx=>?_,I.base.free,fun b o e hx=>?_,I.base.tups,I.base.frzs,I.base.tbls⟩,⟨_,hn',fun j y v' e1 e2 e3=>?_⟩,fun y c e=>?_,I.free,I.freeC,fun p hp=>?_,tracked ⟨oL,hoL,I.free⟩ hs,by simpa using I.len⟩ ⟨_,hs,.inl rfl⟩
  ·exact (hs.2 b (zat (zaA (zam e) I.ok.above))).trans (I.base.keep b o e n hb hx)
  ·obtain ⟨sl,e1⟩:=I.base.slot b o e n hb hx
   exact ⟨sl,(hs.2 b (zat (zaA (zam e) I.ok.above))).trans e1⟩
  ·obtain ⟨o',e1⟩:=I.base.there b o e hx
   exact ⟨o',(hs.2 b (zat (zaA (zam e) I.ok.above))).trans e1⟩
  ·by_cases hj:j=i
   ·subst hj
    rw [hi] at e1;cases e1;rw [zay hiY] at e2;cases e2;exact ⟨u,r,.inl ⟨hk,by simp⟩⟩
   ·rw [zak (Ne.symm hj)] at e2
    obtain ⟨u',r',q⟩:=hl j y v' e1 e2 e3;refine ⟨u',r',?_⟩;rcases q with ⟨k,e⟩|⟨k,c,e,z⟩
    ·refine .inl ⟨k,?_⟩
     have:y≠x:=fun e=>hj (t5 hN e1 (e ▸ hi));simp [this,e]
    ·exact .inr ⟨k,c,e,z.sameBut hs (cne y c e)⟩
  ·obtain ⟨w',z⟩:=I.cell y c e
   exact ⟨w',z.sameBut hs (cne y c e)⟩
  ·obtain ⟨e,n,ne,nf,d⟩:=I.pin p hp
   exact ⟨(hs.2 p.1 ne).trans e,n,ne,nf,d⟩
 ·have hfn:X.fn x=true:=by
   rcases hf with z|z
   ·exact z
   ·rw [z] at hk;cases hk
  obtain ⟨c,hc⟩:=I.ok.has x (.inl hk);obtain ⟨w',z⟩:=I.cell x c hc;refine wpAny_storeName_cell I.ok.kind hk hc z (fun h' hc' hs=>?_);obtain ⟨oc,hoc,hocd⟩:=id z;refine h {s with heap:=h'} ⟨I.ok,I.os,I.bare,⟨fun b o e n hb hx=>?_,fun b o e n hb hx=>?_,I.base.free,fun b o e hx=>?_,I.base.tups,I.base.frzs,I.base.tbls⟩,⟨m,hn.sameBut hs (Ne.symm (cne x c hc)),fun j y v' e1 e2 e3=>?_⟩,fun y c' e=>?_,I.free,I.freeC,fun p hp=>?_,tracked ⟨oc,hoc,I.freeC x c hc⟩ hs,by simpa using I.len⟩ ⟨c,hs,.inr hc⟩
  ·exact (hs.2 b (zat (zaA (zam e) (I.ok.cab x c hfn hc)))).trans (I.base.keep b o e n hb hx)
  ·obtain ⟨sl,e1⟩:=I.base.slot b o e n hb hx
   exact ⟨sl,(hs.2 b (zat (zaA (zam e) (I.ok.cab x c hfn hc)))).trans e1⟩
  ·obtain ⟨o',e1⟩:=I.base.there b o e hx
   exact ⟨o',(hs.2 b (zat (zaA (zam e) (I.ok.cab x c hfn hc)))).trans e1⟩
  ·by_cases hj:j=i
   ·subst hj
    rw [hi] at e1;cases e1;rw [zay hiY] at e2;cases e2;exact ⟨u,r,.inr ⟨.inl hk,c,hc,hc'⟩⟩
   ·rw [zak (Ne.symm hj)] at e2
    obtain ⟨u',r',q⟩:=hl j y v' e1 e2 e3;refine ⟨u',r',?_⟩;rcases q with q|⟨k,c',e,z'⟩
    ·exact .inl q
    ·refine .inr ⟨k,c',e,z'.sameBut hs ?_⟩
     rintro rfl;exact hj (t5 hN e1 (I.ok.inj _ _ _ e hc ▸ hi))
  ·by_cases hcc:c'=c
   ·subst hcc;exact ⟨_,hc'⟩
   ·obtain ⟨w2,z2⟩:=I.cell y c' e
    exact ⟨w2,z2.sameBut hs hcc⟩
  ·obtain ⟨e,n,ne,nf,d⟩:=I.pin p hp
   refine ⟨(hs.2 p.1 ?_).trans e,n,ne,nf,d⟩;intro q;rw [q,hoc] at e;have q':oc=p.2:=Option.some.inj e;exact d w' (by rw [←q'];exact hocd)
def iC {M:Model}{A:Around}{E:Tb}{i:Nat}{x:Str}{v:V}{u:Value}{Q:Unit->Shared->Prop}(I:aF X pins Y H s)(hN:X.N.Nodup)(hi:X.N[i]?=some x)(hx:Dv X.env.scope x)(r:aW v u)
  (h:∀s',aF X pins (Y.set i (some v)) H s'->Q () s') (hf:X.fn x=true\/X.env.scope.names.lookup x=some .local:=by first|exact .inl rfl|exact .inr rfl|assumption):wpAny M A (storeName X.env x u) Q E s :=
 p6 I hN hi hx r (fun s' I' _=>h s' I') hf
def aF.call' {s':Shared}{ch:Tf}(I:aF X pins Y H s)(ho:s'.os=s.os)(u:Un (zy X.stack) ch H H' s.heap s'.heap)(hok:iJ X.prog X.w H' s'.heap)(hg:AllBare s'.gens)
  (hch:∀b∈ch,(b∈X.ex\/X.s₀.heap.objs.size<=b)/\b≠X.env.locals/\(∀x c,X.env.cells.lookup x=some c->c≠b)/\∀p∈X.pn++pins,p.1≠b):aF X pins Y H' s':=by
 obtain ⟨h',g',d',t',o'⟩:=s';have e:o'=s.os:=ho;subst e;exact I.call (g':=g') (t':=t') (d':=d') u hok hg hch
end
abbrev XK:=Value->Option Addr->Hp->Prop
abbrev St:=List (Option V)
abbrev VK:=V->Hp->Prop
abbrev TE:=St->Hp->VK->Prop
abbrev TT:=St->Hp->(Bool->Hp->Prop)->Prop
abbrev TA:=St->Hp->(List V->Hp->Prop)->Prop
structure eT where
 nx:St->Hp->Prop
 rt:VK
 bk:St->Hp->Prop:=fun _ _=>False
 ct:St->Hp->Prop:=fun _ _=>False
abbrev TS:=eT->St->Hp->Prop
def EP (X:Cx)(pins:Tc)(Y:St)(Q:VK)(u:Value)(s':Shared):Prop:=∃v H',aF X pins Y H' s'/\aW v u/\Q v H'
def TP (X:Cx)(pins:Tc)(Y:St)(Q:Bool->Hp->Prop)(b:Bool)(s':Shared):Prop:=∃H',aF X pins Y H' s'/\Q b H'
def AP (X:Cx)(pins:Tc)(Y:St)(Q:List V->Hp->Prop)(us:Te)(s':Shared):Prop:=∃vs H',aF X pins Y H' s'/\aZ vs us/\Q vs H'
def SP (X:Cx)(pins:Tc)(D:eT)(f:Flow)(s':Shared):Prop :=
 match f with
 |.next=>∃Y' H',aF X pins Y' H' s'/\D.nx Y' H'|.brk=>∃Y' H',aF X pins Y' H' s'/\D.bk Y' H'|.cont=>∃Y' H',aF X pins Y' H' s'/\D.ct Y' H'|.ret u=>∃v Y' H',aF X pins Y' H' s'/\aW v u/\D.rt v H'
def PE (X:Cx)(e:Expr)(t:TE):Prop :=
 ∀(pins:Tc) (s:Shared) (Y:St) (H:Hp) (Q:VK),aF X pins Y H s->t Y H Q->wpAny (model X.prog X.w) X.A (eval e X.env) (EP X pins Y Q) X.xe s
def PT (X:Cx)(e:Expr)(t:TT):Prop :=
 ∀(pins:Tc) (s:Shared) (Y:St) (H:Hp) (Q:Bool->Hp->Prop),aF X pins Y H s->t Y H Q->wpAny (model X.prog X.w) X.A (isTrue e X.env (eval e X.env)) (TP X pins Y Q) X.xe s
def PW (X:Cx)(e:Expr)(t:TT):Prop :=
 ∀(whole:Sem Value) (pins:Tc) (s:Shared) (Y:St) (H:Hp) (Q:Bool->Hp->Prop),aF X pins Y H s->t Y H Q->wpAny (model X.prog X.w) X.A (isTrue e X.env whole) (TP X pins Y Q) X.xe s
def PW.pt {t:TT}(h:PW X e t):PT X e t:=h _
def PA (X:Cx)(es:Tj)(t:TA):Prop :=
 ∀(pos:Pos) (pins:Tc) (s:Shared) (Y:St) (H:Hp) (Q:List V->Hp->Prop),aF X pins Y H s->t Y H Q->wpAny (model X.prog X.w) X.A (spliced (backTo pos (starEach es X.env))) (AP X pins Y Q) X.xe s
def PS (X:Cx)(st:Stmt)(t:TS):Prop :=
 ∀(pins:Tc) (s:Shared) (Y:St) (H:Hp) (D:eT),aF X pins Y H s->t D Y H->wpAny (model X.prog X.w) X.A (exec st X.env) (SP X pins D) X.xe s
def pL (X:Cx)(st:Tk)(t:TS):Prop :=
 ∀(pins:Tc) (s:Shared) (Y:St) (H:Hp) (D:eT),aF X pins Y H s->t D Y H->wpAny (model X.prog X.w) X.A (execs st X.env) (SP X pins D) X.xe s
def cL {Z:Type}{t:Sem Z}{Q Q':Z->Shared->Prop}{M:Model}{E:Tb}{s:Shared}(h:wpAny M A t Q E s)(hQ:∀a s,Q a s->Q' a s):wpAny M A t Q' E s:=zbB h hQ fun _ _ x=>x
section
variable {X:Cx}
def Lr (i:Nat):TE:=fun Y H Q=>∃v,Y[i]?=some (some v)/\Q v H
def tC (v:V):TE:=fun _ H Q=>Q v H
def Js {i:Nat}{x:Str}(hN:X.N[i]?=some x)(hv:Nq X.env.scope x)(hd:(x == ("__debug__" : Str))=false:=by decide)(hcd:(x == ("__classdict__" : Str))=false:=by decide):PE X (.Name x pos) (Lr i):=by
 intro pins s Y H Q I h;obtain ⟨v,e,h⟩:=h;obtain ⟨m,hn,hl⟩:=I.loc;obtain ⟨u,r,l⟩:=hl i x v hN e hv;have fin:EP X pins Y Q u s:=⟨v,H,I,r,h⟩;rcases l with ⟨hk,hm⟩|⟨hk,c,hc,hcell⟩
 ·exact wpAny_Name (wpAny_loadName_local I.ok.kind hk hn hm fin) hd
 ·rcases hk with hk|hk
  ·exact wpAny_Name (wpAny_loadName_cell I.ok.kind hk hc hcell fin) hd
  ·exact wpAny_Name (wpAny_loadName_free I.ok.kind hk hc hcell fin hcd) hd
def Jv {i j pos}:PE X (.Constant (.int i) j pos) (tC (.int i)):=fun _ _ _ H _ I h=>wpAny_Constant_int ⟨.int i,H,I.tok _,⟨_,rfl⟩,h⟩
def Ml {b j pos}:PE X (.Constant (.bool b) j pos) (tC (.bl b)):=fun _ _ _ H _ I h=>Constant_bool ⟨.bl b,H,I,rfl,h⟩
def BL {j pos}:PE X (.Constant .none j pos) (tC .non):=fun _ _ _ H _ I h=>Constant_none ⟨.non,H,I,rfl,h⟩
def Gl (X:Cx)(x:Str):Prop:=X.env.kindOf x=some .globalImplicit
def xP {E:Tb}{s:Shared}{H:Hp}{x:Str}{u:Value}{pos:Pos}{Q:Tb}(I:aF X pins Y H s)(hg:Gl X x)(hm:X.mg x=some u)(h:Q u s)
  (hd:(x == ("__debug__" : Str))=false:=by decide):wpAny (model X.prog X.w) X.A (eval (.Name x pos) X.env) Q E s :=
 Calls.Name_function_global I.ok.kind hg (Calls.loadGlobal_global (by rw [I.ok.glob];exact I.mod.glob.keeps I.bk) hm h) hd
def iV {E:Tb}{s:Shared}{H:Hp}{x:Str}{u:Value}{pos:Pos}{Q:Tb}(I:aF X pins Y H s)(hg:Gl X x)(hm:X.mg x=none)(hv:bootBuiltins x=some u)(h:Q u s)
  (hn:x≠"__name__":=by decide) (hd:(x == ("__debug__" : Str))=false:=by decide):wpAny (model X.prog X.w) X.A (eval (.Name x pos) X.env) Q E s:=by
 obtain ⟨mb,h1,h2⟩:=I.mod.blt;exact Calls.Name_function_global I.ok.kind hg (Calls.loadGlobal_builtin (by rw [I.ok.glob];exact I.mod.glob.keeps I.bk) hm (by rw [I.ok.blt];exact h1.keeps I.bk) ((h2 x hn).trans hv) h) hd
def EN {x:Str}{v:V}{u:Value}(hg:Gl X x)(hm:X.mg x=some u)(r:aW v u)(hd:(x == ("__debug__" : Str))=false:=by decide):PE X (.Name x pos) (tC v) :=
 fun _ _ _ H _ I h=>xP I hg hm ⟨v,H,I,r,h⟩ hd
def EQ {x:Str}{v:V}{u:Value}(hg:Gl X x)(hm:X.mg x=none)(hv:bootBuiltins x=some u)(r:aW v u)(hn:x≠"__name__":=by decide)(hd:(x == ("__debug__" : Str))=false:=by decide):PE X (.Name x pos) (tC v) :=
 fun _ _ _ H _ I h=>iV I hg hm hv ⟨v,H,I,r,h⟩ hn hd
variable {a b:Expr}{ta tb:TE}{pos:Pos}
def tB (t:TE):TT:=fun Y H Q=>t Y H fun x H1=>∃c,x=.bl c/\Q c H1
variable {tA tB':TT}{rest:Tj}
def LA (t u:TT):TT:=fun Y H Q=>t Y H fun c H1=>if c=true then u Y H1 Q else Q false H1
def RH (t u:TT):TT:=fun Y H Q=>t Y H fun c H1=>if c=true then Q true H1 else u Y H1 Q
def Lw (t:TT):TT:=fun Y H Q=>t Y H fun c H1=>Q (!c) H1
theorem Er (ha:PT X a tA):PW X (.BoolOp .And [a] pos) tA:=by
 intro wh pins s Y H Q I h;refine isTrue_and (cL (ha pins s Y H Q I h) fun c s1 e=>?_)
 cases c with|true=>exact isTrue_and_nil e|false=>exact e
theorem Jh (ha:PT X a tA):PW X (.BoolOp .Or [a] pos) tA:=by
 intro wh pins s Y H Q I h;refine isTrue_or (cL (ha pins s Y H Q I h) fun c s1 e=>?_)
 cases c with|false=>exact isTrue_or_nil e|true=>exact e
theorem Ji (ha:PT X a tA)(hb:PW X (.BoolOp .And (b::rest) pos) tB'):PW X (.BoolOp .And (a::b::rest) pos) (LA tA tB'):=by
 intro wh pins s Y H Q I h;refine isTrue_and (cL (ha pins s Y H _ I h) fun c s1 hh=>?_);obtain ⟨H1,I1,q1⟩:=hh
 cases c with|true=>exact hb wh pins s1 Y H1 Q I1 q1|false=>exact ⟨H1,I1,q1⟩
theorem Mc (ha:PT X a tA)(hb:PW X (.BoolOp .Or (b::rest) pos) tB'):PW X (.BoolOp .Or (a::b::rest) pos) (RH tA tB'):=by
 intro wh pins s Y H Q I h;refine isTrue_or (cL (ha pins s Y H _ I h) fun c s1 hh=>?_);obtain ⟨H1,I1,q1⟩:=hh
 cases c with|true=>exact ⟨H1,I1,q1⟩|false=>exact hb wh pins s1 Y H1 Q I1 q1
def Jk (ha:PT X a tA):PT X (.UnaryOp .Not a pos) (Lw tA):=by intro pins s Y H Q I h;exact isTrue_not (ha pins s Y H (fun c H1=>Q (!c) H1) I h)
def GN (ta tb:TE):TE:=fun Y H Q=>ta Y H fun x H1=>∃c,x=.bl c/\if c=true then tb Y H1 Q else Q (.bl false) H1
def GJ (ta:TE):TE:=fun Y H Q=>ta Y H fun x H1=>∃c,x=.bl c/\Q (.bl (!c)) H1
def Jt {op}{t:TE}(h:PE X a t):PE X (.BoolOp op [a] pos) t:=fun pins s Y H Q I hw=>BoolOp_one (h pins s Y H Q I hw)
theorem Jx (ha:PE X a ta)(hb:PE X (.BoolOp .And (b::rest) pos) tb):PE X (.BoolOp .And (a::b::rest) pos) (GN ta tb):=by
 intro pins s Y H Q I h;refine BoolOp_and (cL (ha pins s Y H _ I h) fun v s1 hh=>?_);obtain ⟨x,H1,I1,r1,q1⟩:=hh;obtain ⟨c,rfl,q1⟩:=q1;cases r1;refine zcn ?_
 cases c with|true=>exact hb pins s1 Y H1 Q I1 q1|false=>exact ⟨.bl false,H1,I1,rfl,q1⟩
def Ju (ha:PE X a ta):PE X (.UnaryOp .Not a pos) (GJ ta):=by intro pins s Y H Q I h;refine UnaryOp_ (cL (ha pins s Y H _ I h) fun v s1 hh=>?_);obtain ⟨x,H1,I1,r1,q1⟩:=hh;obtain ⟨c,rfl,q1⟩:=q1;cases r1;exact not_of (zcn ⟨.bl (!c),H1,I1,rfl,q1⟩)
def RJ (t:TT)(ta tb:TE):TE:=fun Y H Q=>t Y H fun c H1=>if c=true then ta Y H1 Q else tb Y H1 Q
theorem BN {c:Expr}(hc:PT X c tA)(ha:PE X a ta)(hb:PE X b tb):PE X (.IfExp c a b pos) (RJ tA ta tb):=by
 intro pins s Y H Q I h;refine wpAny_IfExp (cL (hc pins s Y H _ I h) fun d s1 hh=>?_);obtain ⟨H1,I1,q1⟩:=hh
 cases d with|true=>exact ha pins s1 Y H1 Q I1 q1|false=>exact hb pins s1 Y H1 Q I1 q1
end
def jg (K:zac)(H:Hp)(a:Addr)(xs:List V):Prop :=
 Rd H a (.lst xs) \/
  ∃(o:Obj) (its:Ti) (n:Nat),K.lookup a=some o/\o.cls=.type "list"/\(o.dict=none/\o.slots = #[])/\o.data=.seq its n/\its.size<=sizeLine/\aZ xs its.toList
def hX (K:zac)(H:Hp)(a:Addr)(xs:List V):Prop :=
 Rd H a (.tup xs) \/
  ∃(o:Obj) (its:Ti) (n:Nat),K.lookup a=some o/\o.cls=.type "tuple"/\o.dict=none/\o.data=.seq its n/\its.size<=sizeLine/\aZ xs its.toList
def QE:Value->Option V
 |.none=>some .non|.bool b=>some (.bl b)|.int i _=>some (.int i)|.str x _=>some (.str x)|.bytes b _=>some (.byt b)|.float b _=>some (.flt b)|.ref a=>some (.ref a)|.type n=>some (.ty n)|_=>none
theorem aW.abs {x:V}{u:Value}(r:aW x u):QE u=some x:=by
 cases x with
 |non=>cases r;rfl|bl _=>cases r;rfl|int _=>obtain ⟨t,rfl⟩:=r;rfl
 |str _=>obtain ⟨t,rfl⟩:=r;rfl
 |byt _=>obtain ⟨t,rfl⟩:=r;rfl
 |flt _=>obtain ⟨t,rfl⟩:=r;rfl
 |ref _=>cases r;rfl|ty _=>cases r;rfl
def aW.inj {x y:V}{u:Value}(r:aW x u)(q:aW y u):x=y:=Option.some.inj (r.abs.symm.trans q.abs)
theorem aZ.inj {xs ys:List V}{us:Te}(h:aZ xs us):aZ ys us->xs=ys:=by
 induction h generalizing ys with|nil=>intro q;cases q;rfl|cons r t ih=>intro q;cases q with|cons r' t'=>rw [r.inj r',ih t']
section
variable {X:Cx}{pins:Tc}{Y:St}{H:Hp}{s:Shared}{a:Addr}{xs ys:List V}
def hX.of {K:zac}(h:H a=some (.tup xs)):hX K H a xs:=.inl (.inl h)
def aF.list (I:aF X pins Y H s)(h:jg X.K H a xs):∃its:Te,aZ xs its/\PlainL s.heap a its.toArray/\xs.length<=sizeLine:=by
 rcases h with h|⟨o,its,n,hk,hc,hd,hs,hz,r⟩
 ·obtain ⟨z,its,n,r,e⟩:=h.ok I.hok;exact ⟨its,r,⟨_,n,e,rfl,rfl,rfl⟩,z⟩
 ·refine ⟨its.toList,r,⟨o,n,I.kIn a o hk,hc,hd.1,by simpa using hs⟩,?_⟩;have e:=r.length;simp only [zaM] at e;omega
def aF.tuple (I:aF X pins Y H s)(h:hX X.K H a xs):∃its:Te,aZ xs its/\IsTup s.heap a its.toArray/\xs.length<=sizeLine:=by
 rcases h with h|⟨o,its,n,hk,hc,hn,hs,hz,r⟩
 ·obtain ⟨z,its,r,p⟩:=h.ok I.hok;exact ⟨its,r,p.1,z⟩
 ·refine ⟨its.toList,r,⟨o,I.kIn a o hk,hc,n,by simpa using hs⟩,?_⟩;have e:=r.length;simp only [zaM] at e;omega
def aF.list_inj (I:aF X pins Y H s)(h:jg X.K H a xs)(h':jg X.K H a ys):xs=ys:=by
 obtain ⟨its,r,⟨o,n,e,_,_,d⟩,_⟩:=I.list h;obtain ⟨its',r',⟨o',n',e',_,_,d'⟩,_⟩:=I.list h';rw [e] at e';cases e';rw [d] at d';injection d' with d1 _
 have:its=its':=by simpa using congrArg Array.toList d1
 subst this;exact r.inj r'
def aF.tuple_inj (I:aF X pins Y H s)(h:hX X.K H a xs)(h':hX X.K H a ys):xs=ys:=by
 obtain ⟨its,r,⟨o,e,_,n,d⟩,_⟩:=I.tuple h;obtain ⟨its',r',⟨o',e',_,n',d'⟩,_⟩:=I.tuple h';rw [e] at e';cases e';rw [d] at d';injection d' with d1 _
 have:its=its':=by simpa using congrArg Array.toList d1
 subst this;exact r.inj r'
end
noncomputable abbrev Cx.wish (X:Cx)(E:Tb):Cx:={X with xe:=E}
abbrev Cx.nox (X:Cx):Cx:=X.wish fun _ _=>False
def Cx.Ok.wish {X:Cx}(ok:X.Ok)(E:Tb):(X.wish E).Ok :=
 ⟨ok.mod,ok.kind,ok.glob,ok.blt,ok.above,ok.inj,ok.has,ok.cab,ok.hd,ok.frames,ok.stk,ok.exf,ok.bs,ok.bsz,ok.noex,ok.exfs,ok.funs,ok.frf⟩
def Cx.Ok.unwish {X:Cx}{E:Tb}(ok:(X.wish E).Ok):X.Ok :=
 ⟨ok.mod,ok.kind,ok.glob,ok.blt,ok.above,ok.inj,ok.has,ok.cab,ok.hd,ok.frames,ok.stk,ok.exf,ok.bs,ok.bsz,ok.noex,ok.exfs,ok.funs,ok.frf⟩
section
variable {X:Cx}{pins:Tc}{Y:St}{H:Hp}{s:Shared}{E:Tb}
def aF.wish (I:aF X pins Y H s)(E:Tb):aF (X.wish E) pins Y H s:=⟨I.ok.wish E,I.os,I.bare,I.base,I.loc,I.cell,I.free,I.freeC,I.pin,I.hok,I.len⟩
def aF.unwish (I:aF (X.wish E) pins Y H s):aF X pins Y H s:=⟨I.ok.unwish,I.os,I.bare,I.base,I.loc,I.cell,I.free,I.freeC,I.pin,I.hok,I.len⟩
theorem SP.unwish {D:eT}{f:Flow}{s':Shared}(h:SP (X.wish E) pins D f s'):SP X pins D f s':=by
 cases f with
 |next=>obtain ⟨Y',H',I,q⟩:=h;exact ⟨Y',H',I.unwish,q⟩
 |brk=>obtain ⟨Y',H',I,q⟩:=h;exact ⟨Y',H',I.unwish,q⟩
 |cont=>obtain ⟨Y',H',I,q⟩:=h;exact ⟨Y',H',I.unwish,q⟩
 |ret u=>obtain ⟨v,Y',H',I,r,q⟩:=h;exact ⟨v,Y',H',I.unwish,r,q⟩
def pL.nox {st:Tk}{t:TS}(h:pL X.nox st t):pL X st t:=fun pins s Y H D I hw =>
 zbB (h pins s Y H D (I.wish _) hw) (fun _ _ q=>q.unwish) fun _ _ z=>False.elim z
end
section
variable {X:Cx}{st:Stmt}{rest:Tk}{t u:TS}{e:Expr}{te:TE}{pos:Pos}
def GK:TS:=fun D Y H=>D.nx Y H
def Lu (t u:TS):TS:=fun D Y H=>t {D with nx:=u D} Y H
def Eu:pL X [] GK:=fun _ _ Y H _ I h=>zdt ⟨Y,H,I,h⟩
theorem By (h1:PS X st t)(h2:pL X rest u):pL X (st::rest) (Lu t u):=by
 intro pins s Y H D I h;refine wpAny_execs_cons (cL (h1 pins s Y H {D with nx:=u D} I h) fun f s1 q=>?_)
 cases f with
 |next =>
  obtain ⟨Y',H',I',q⟩:=q;exact h2 pins s1 Y' H' D I' q
 |ret v=>exact q|brk=>exact q|cont=>exact q
theorem Et (h1:PS X st t):pL X [st] t:=by
 intro pins s Y H D I h;refine wpAny_execs_cons (cL (h1 pins s Y H D I h) fun f s1 q=>?_)
 cases f with|next=>exact zdt q|ret v=>exact q|brk=>exact q|cont=>exact q
def aF.quiet {H:Hp}{s:Shared}(I:aF X pins Y H s):interactive X.env=false:=by simp [interactive,I.ok.kind]
def GL (te:TE):TS:=fun D Y H=>te Y H fun _ H1=>D.nx Y H1
theorem Ev (he:PE X e te)(hs:swapsWith e none pos.line X.env=pure false:=by rfl):PS X (.Expr e pos) (GL te):=by intro pins s Y H D I h;exact wpAny_Expr_any (cL (he pins s Y H _ I h) fun v s1 ⟨x,H1,I1,r1,q1⟩=>⟨Y,H1,I1,q1⟩) I.quiet hs
def Lv (te:TE):TS:=fun D Y H=>te Y H D.rt
def Jm (he:PE X e te):PS X (.Return (some e) pos) (Lv te):=by intro pins s Y H D I h;exact wpAny_Return_some (cL (he pins s Y H _ I h) fun v s1 ⟨x,H1,I1,r1,q1⟩=>⟨x,Y,H1,I1,r1,q1⟩)
def Lx (c:TT)(t u:TS):TS:=fun D Y H=>c Y H fun b H1=>if b=true then t D Y H1 else u D Y H1
theorem Me {c:Expr}{a b:Tk}{tc:TT}(hc:PT X c tc)(ha:pL X a t)(hb:pL X b u):PS X (.If c a b pos) (Lx tc t u):=by
 intro pins s Y H D I h;refine wpAny_If (cL (hc pins s Y H _ I h) fun d s1 hh=>?_);obtain ⟨H1,I1,q1⟩:=hh
 cases d with|true=>exact ha pins s1 Y H1 D I1 q1|false=>exact hb pins s1 Y H1 D I1 q1
end
abbrev TG:=V->St->Hp->(St->Hp->Prop)->Prop
abbrev DI:=List V->St->Hp->(St->Hp->Prop)->Prop
def PG (X:Cx)(target:Expr)(t:TG):Prop :=
 ∀(pins:Tc) (s:Shared) (Y:St) (H:Hp) (v:V) (u:Value) (Q:St->Hp->Prop),aF X pins Y H s->aW v u->t v Y H Q ->
  wpAny (model X.prog X.w) X.A (assign target X.env u) (fun _ s'=>∃Y' H',aF X pins Y' H' s'/\Q Y' H') X.xe s
def DJ (X:Cx)(ts:Tj)(t:DI):Prop :=
 ∀(pins:Tc) (s:Shared) (Y:St) (H:Hp) (vs:List V) (us:Te) (Q:St->Hp->Prop),aF X pins Y H s->aZ vs us->t vs Y H Q ->
  wpAny (model X.prog X.w) X.A (assignInOrder ((assignEach ts X.env).map (·.2)) us) (fun _ s'=>∃Y' H',aF X pins Y' H' s'/\Q Y' H') X.xe s
abbrev FV:=V->V->V->Hp->(Hp->Prop)->Prop
def sx (X:Cx)(t:FV):Prop :=
 ∀(pins:Tc) (s:Shared) (Y:St) (H:Hp) (o i v:V) (ov iv u:Value) (Q:Hp->Prop),aF X pins Y H s->aW o ov->aW i iv->aW v u->t o i v H Q ->
  wpAny (model X.prog X.w) X.A (setItem ov iv u) (fun _ s'=>∃H',aF X pins Y H' s'/\Q H') X.xe s
abbrev OC:=V->V->Hp->VK->Prop
def Sm (X:Cx)(op:Operator)(t:OC):Prop :=
 ∀(pins:Tc) (s:Shared) (Y:St) (H:Hp) (x y:V) (v u:Value) (Q:VK),aF X pins Y H s->aW x v->aW y u->t x y H Q ->
  wpAny (model X.prog X.w) X.A (inplaceOp op v u) (EP X pins Y Q) X.xe s
section
variable {X:Cx}{pos:Pos}
def qv (i:Nat):TG:=fun v Y H Q=>Q (Y.set i (some v)) H
def EJ {i:Nat}{x:Str}(hN:X.N.Nodup)(hi:X.N[i]?=some x)(hx:Dv X.env.scope x)(hf:X.fn x=true\/X.env.scope.names.lookup x=some .local:=by first|exact .inl rfl|exact .inr rfl|assumption):PG X (.Name x pos) (qv i):=by intro pins s Y H v u Q I r h;exact wpAny_assign_Name (iC I hN hi hx r (fun s' I'=>⟨_,H,I',h⟩) hf)
def MV:DI:=fun vs Y H Q=>vs=[]/\Q Y H
def Hf (t:TG)(u:DI):DI:=fun vs Y H Q=>∃v r,vs=v::r/\t v Y H fun Y' H'=>u r Y' H' Q
def EI:DJ X [] MV:=by intro pins s Y H vs us Q I r h;obtain ⟨e,h⟩:=h;subst e;cases r;exact assignInOrder_nil ⟨Y,H,I,h⟩
theorem BH {e:Expr}{es:Tj}{t:TG}{u:DI}(h1:PG X e t)(h2:DJ X es u)
  (hs:(assignEach (e::es) X.env).map (·.2)=assign e X.env::(assignEach es X.env).map (·.2):=by rfl):DJ X (e::es) (Hf t u):=by
 intro pins s Y H vs us Q I r h;obtain ⟨v,vr,e1,h⟩:=h;subst e1
 cases r with|cons r rr =>
  rw [hs];refine assignInOrder_cons (cL (h1 pins s Y H _ _ _ I r h) fun _ s1 hh=>?_);obtain ⟨Y1,H1,I1,q1⟩:=hh;exact h2 pins s1 Y1 H1 _ _ Q I1 rr q1
def MU (K:zac)(n:Nat)(t:DI):TG:=fun v Y H Q=>∃a xs,v=.ref a/\hX K H a xs/\xs.length=n/\t xs Y H Q
theorem Jq {es:Tj}{k:Nat}{t:DI}{n:Nat}(hc:X.calm=true)(h:DJ X es t)
  (hn:(assignEach es X.env).length=n:=by rfl) (hst:(assignEach es X.env).findIdx? (·.1)=none:=by rfl):PG X (.Tuple es k pos) (MU X.K n t):=by
 intro pins s Y H v u Q I r hw;obtain ⟨a,xs,e1,hq,hl,hw⟩:=hw;subst e1;cases r;obtain ⟨its,rv,ht,hz⟩:=I.tuple hq;refine assign_Tuple_tuple (I.ok.hd hc) ht (by simp [hn,←hl,rv.length]) hst fun h' hx=>?_;have I1:aF X pins Y H {s with heap:=h'}:=I.kept (t':=s.toks) fun b o e=>hx b o (zat (zam e)) e;exact h pins _ Y H xs _ Q I1 (by simpa using rv) hw
def pW (to ti:TE)(t:FV):TG:=fun v Y H Q=>to Y H fun o H1=>ti Y H1 fun i H2=>t o i v H2 fun H3=>Q Y H3
def BI {o i:Expr}{to ti:TE}{t:FV}(ho:PE X o to)(hi:PE X i ti)(hs:sx X t)
  (ha:∀v,assign (.Subscript o i pos) X.env v=(do
   let ov ←holding [v] (eval o X.env)
   let iv ←holding [v,ov] (eval i X.env)
   standAt pos
   holding [v,ov,iv] (setItem ov iv v)
   release [v,ov,iv] []):=by intro _;rfl):PG X (.Subscript o i pos) (pW to ti t):=by
 intro pins s Y H v u Q I r h;rw [ha];refine zab (zaH (cL (ho pins s Y H _ I h) fun ov s1 hh=>?_));obtain ⟨x,H1,I1,r1,q1⟩:=hh;refine zab (zaH (cL (hi pins s1 Y H1 _ I1 q1) fun iv s2 hh=>?_));obtain ⟨y,H2,I2,r2,q2⟩:=hh;refine zab (wpAny_standAt (zab (zaH (cL (hs pins s2 Y H2 x y v ov iv u _ I2 r1 r2 r q2) fun _ s3 hh=>?_))));obtain ⟨H3,I3,q3⟩:=hh;exact wpAny_release ⟨Y,H3,I3,q3⟩
def AJ (te:TE)(g:TG):TS:=fun D Y H=>te Y H fun x H1=>g x Y H1 D.nx
theorem Jo {tg e:Expr}{te:TE}{g:TG}(he:PE X e te)(hg:PG X tg g)(hs:swapsWithSole [tg] e pos.line X.env=pure false:=by rfl)(hw:swappedStores [tg] e X.env=pure none:=by rfl)
  (h1:(assignEach [tg] X.env).map (·.2)=[assign tg X.env]:=by rfl):PS X (.Assign [tg] e pos) (AJ te g):=by
 intro pins s Y H D I h;refine wpAny_Assign_stores (cL (he pins s Y H _ I h) fun v s1 hh=>?_) hs hw;obtain ⟨x,H1,I1,r1,q1⟩:=hh;rw [h1];exact cL (hg pins s1 Y H1 x v _ I1 r1 q1) fun _ s2 q=>q
theorem Jl {i:Nat}{x:Str}{te:TE}{pos':Pos}(hN:X.N.Nodup)(hi:X.N[i]?=some x)(hx:Dv X.env.scope x)(he:PE X e te)(hs:swapsWith e (some (.Name x pos')) pos.line X.env=pure false:=by rfl)(hf:X.fn x=true\/X.env.scope.names.lookup x=some .local:=by first|exact .inl rfl|exact .inr rfl|assumption) :
  PS X (.Assign [.Name x pos'] e pos) (AJ te (qv i)):=by
 intro pins s Y H D I h;refine wpAny_Assign_Name (cL (he pins s Y H _ I h) fun v s1 hh=>?_) hs;obtain ⟨y,H1,I1,r1,q1⟩:=hh;exact iC I1 hN hi hx r1 (fun s2 I2=>⟨_,H1,I2,q1⟩) hf
def Lz (i:Nat)(te:TE)(ti:OC):TS:=fun D Y H=>∃x,Y[i]?=some (some x)/\te Y H fun y H1=>ti x y H1 fun z H2=>D.nx (Y.set i (some z)) H2
def Jn {i:Nat}{x:Str}{te:TE}{op:Operator}{ti:OC}{pos':Pos}(hN:X.N.Nodup)(hi:X.N[i]?=some x)(hx:Dv X.env.scope x)(he:PE X e te)(ho:Sm X op ti)(hf:X.fn x=true\/X.env.scope.names.lookup x=some .local:=by first|exact .inl rfl|exact .inr rfl|assumption) :
  PS X (.AugAssign (.Name x pos') op e pos) (Lz i te ti):=by
 intro pins s Y H D I h;obtain ⟨v,e1,h⟩:=h;obtain ⟨m,hn,hl⟩:=I.loc
 have vis:Nq X.env.scope x:=by rcases hx with k|k;exact .inl k;exact .inr (.inl k)
 obtain ⟨u,r,l⟩:=hl i x v hi e1 vis;refine wpAny_AugAssign_Name ?_
 have go:wpAny (model X.prog X.w) X.A (eval e X.env) (fun w s₂=>wpAny (model X.prog X.w) X.A (inplaceOp op u w) (fun r s₃=>wpAny (model X.prog X.w) X.A (storeName X.env x r) (fun _=>SP X pins D .next) X.xe s₃) X.xe s₂) X.xe s:=by
  refine cL (he pins s Y H _ I h) fun w s1 hh=>?_;obtain ⟨y,H1,I1,r1,q1⟩:=hh;refine cL (ho pins s1 Y H1 v y u w _ I1 r r1 q1) fun z s2 hh=>?_;obtain ⟨zv,H2,I2,r2,q2⟩:=hh;exact iC I2 hN hi hx r2 (fun s3 I3=>⟨_,H2,I3,q2⟩) hf
 rcases l with ⟨hk,hm⟩|⟨hk,c,hc,hcell⟩
 ·exact wpAny_loadName_local I.ok.kind hk hn hm go
 ·rcases hk with hk|hk
  ·exact wpAny_loadName_cell I.ok.kind hk hc hcell go
  ·rcases hx with k|k
   ·have:X.env.scope.names.lookup x=some .free:=hk
    rw [k] at this;cases this
   ·have:X.env.scope.names.lookup x=some .free:=hk
    rw [k] at this;cases this
def RN (f:Int->Int->Int):OC:=fun x y H Q=>∃i j,x=.int i/\y=.int j/\Q (.int (f i j)) H
def J1:Sm X .Add (RN fun i j=>i+j):=by intro pins s Y H x y v u Q I r1 r2 h;obtain ⟨i,j,e1,e2,q⟩:=h;subst e1;subst e2;obtain ⟨t,rfl⟩:=r1;obtain ⟨t',rfl⟩:=r2;exact iadd_int ⟨.int _,H,I.tok _,⟨_,rfl⟩,q⟩
end
structure It where
 go:Nat->Hp->Prop
 yld:Nat->Hp->V->Hp->Prop
 stop:Nat->Hp->Prop
def mi (X:Cx)(pins:Tc)(H:Hp)(b:Addr):Prop :=
 H b=none/\b≠X.env.locals/\b∉X.fs/\(b∈X.ex\/X.s₀.heap.objs.size<=b)/\(∀x c,X.env.cells.lookup x=some c->c≠b)/\∀p∈X.pn++pins,p.1≠b
def aF.fpOk {H H':Hp}{s:Shared}{b:Addr}(I:aF X pins Y H s)(hb:s.heap.objs.size<=b)(hn:H' b=none):mi X pins H' b:=by
 refine ⟨hn,zbF (zaA I.lt hb),I.nofs hb,.inr (zbo I.sz hb),fun x c e z=>?_,fun p hp z=>?_⟩
 ·obtain ⟨v,q⟩:=I.cell x c e;exact absurd (zaA q.lt (by rw [z];exact hb)) (zaF _)
 ·exact absurd (zaA (zam (I.pin p hp).1) (by rw [z];exact hb)) (zaF _)
structure wX (P:Program)(w:World)(K:zac)(tg:Expr)(J:It)(fp:Tf)(it:Addr)(tn:Nat->Heap->Prop):Prop where
 mem:it∈fp
 obj:∀i h,tn i h->∀b∈fp,∃o,h.get? b=some o/\∀v,o.data≠.cell v
 keep:∀i h h',tn i h->(∀b∈fp,∀o,h.get? b=some o->h'.get? b=some o)->tn i h'
 item:∀(X:Cx),X.prog=P->X.w=w->X.K=K->X.calm=true->∀(i:Nat) (pins:Tc) (s:Shared) (Y:St) (H:Hp) (E:Tb),aF X pins Y H s->(∀b∈fp,mi X pins H b)->tn i s.heap->J.go i H ->
  wpAny (model P w) X.A (pyNext (.ref it)) (fun r s1=>∃u,r=some u /\
   wpAny (model P w) X.A (letOwnedTupleGo tg (.ref it) u) (fun _ s2=>∃x H',aF X pins Y H' s2/\aW x u/\J.yld i H x H'/\tn (i+1) s2.heap/\∀b∈fp,H' b=none) E s1) E s
 done:∀(X:Cx),X.prog=P->X.w=w->X.K=K->X.calm=true->∀(i:Nat) (pins:Tc) (s:Shared) (Y:St) (H:Hp) (E:Tb),aF X pins Y H s->(∀b∈fp,mi X pins H b)->tn i s.heap->J.stop i H ->
  wpAny (model P w) X.A (pyNext (.ref it)) (fun r s1=>r=none/\aF X pins Y H s1) E s
 self:∀(A:Around) (i:Nat) (s:Shared) (Q:Tb) (E:Tb),tn i s.heap->Q (.ref it) s->wpAny (model P w) A (pyIter (.ref it)) Q E s
abbrev TI:=St->Hp->(It->Hp->Prop)->Prop
def Sn (X:Cx)(pins:Tc)(Y:St)(tg:Expr)(R:It->Hp->Prop)(itv:Value)(s2:Shared):Prop :=
 ∃(it:Addr) (fp:Tf) (tn:Nat->Heap->Prop) (J:It) (H':Hp),itv=.ref it/\aF X pins Y H' s2/\wX X.prog X.w X.K tg J fp it tn/\tn 0 s2.heap/\(∀b∈fp,mi X pins H' b)/\R J H'
def PI (X:Cx)(tg iter:Expr)(wi:TI):Prop :=
 ∀(pins:Tc) (s:Shared) (Y:St) (H:Hp) (R:It->Hp->Prop),aF X pins Y H s->wi Y H R ->
  wpAny (model X.prog X.w) X.A (eval iter X.env) (fun v s1=>wpAny (model X.prog X.w) X.A (pyIter v) (Sn X pins Y tg R) X.xe s1) X.xe s
def xY {M : Model} {A : Around} {E : Tb} {s : Shared} {tg : Expr} {it : Addr} {u : Value} {o : Obj} {n : String} {vs : Ti} {Q : Unit -> Shared -> Prop} (ho : s.heap.get? it = some o) (hc : o.cls = .type n) (hd : o.data = .fields vs)
    (hn : ["enumerate", "zip", "dict_itemiterator", "dict_reverseitemiterator", "odict_iterator", "itertools.zip_longest", "itertools.pairwise"].contains n = false) (hQ : Q () s) : wpAny M A (letOwnedTupleGo tg (.ref it) u) Q E s := by
  unfold letOwnedTupleGo
  cases tg <;> first
    | exact zad hQ
    | (cases u <;> first
        | exact zad hQ
        | (refine zab (zdo ho ?_)
           rw [hc, hd]
           show wpAny M A (if (["enumerate", "zip", "dict_itemiterator", "dict_reverseitemiterator", "odict_iterator", "itertools.zip_longest", "itertools.pairwise"].contains n && vs[0]? == some (rawInt _)) = true then _ else _) Q E s
           rw [if_neg (by intro h; rw [hn, Bool.false_and] at h; cases h)]
           exact zad hQ))
def QP (K:zac)(a:Addr):It :=
 ⟨fun i H=>∃xs x,jg K H a xs/\xs[i]?=some x,fun i H x H'=>H'=H/\∀xs,jg K H a xs->xs[i]?=some x,fun i H=>∃xs,jg K H a xs/\xs.length<=i⟩
def QO (K:zac)(a:Addr):It :=
 ⟨fun i H=>∃xs x,hX K H a xs/\xs[i]?=some x,fun i H x H'=>H'=H/\∀xs,hX K H a xs->xs[i]?=some x,fun i H=>∃xs,hX K H a xs/\xs.length<=i⟩
def OG (lo:Int)(n:Nat):It:=⟨fun i _=>i < n,fun i H x H'=>H'=H/\x=.int (lo+i),fun i _=>n<=i⟩
theorem yF {K:zac}{tg:Expr}(a it:Addr):wX P w K tg (QP K a) [it] it (fun i h=>h.IsListIter it a i) where
 mem:=by simp
 obj:=fun i h st b hb=>by
  have e:b=it:=by simpa using hb
  subst e;obtain ⟨o,e,c,d⟩:=st;exact ⟨o,e,fun v z=>by rw [d] at z;cases z⟩
 keep:=fun i h h' st k=>st.at fun o e=>k it (by simp) o e
 item:=by intro X hP hw hK hc i pins s Y H E I hf st hg;subst hP hw hK;obtain ⟨xs,x,hq,hx⟩:=hg;obtain ⟨its,rv,p,hz⟩:=I.list hq;obtain ⟨u,hu,ru⟩:=rv.get hx;obtain ⟨f0,f1,f2,f3,f4,f5⟩:=hf it (by simp);refine wpAny_pyNext_list_item st p.isList (x:=u) (by simpa using hu) fun h' st' sb=>?_;have I1:aF X pins Y H {s with heap:=h'}:=I.turned (t':=s.toks) (fun b o hb e=>(sb.2 b hb).trans e) f0 f1 f3 f4 f5;obtain ⟨o,e,c,d⟩:=id st';exact ⟨u,rfl,xY (s:={s with heap:=h'}) e c d (by decide) ⟨x,H,I1,ru,⟨rfl,fun ys hy=>by rw [I.list_inj hy hq];exact hx⟩,st',fun b hb=>(hf b hb).1⟩⟩
 done:=by intro X hP hw hK hc i pins s Y H E I hf st hg;subst hP hw hK;obtain ⟨xs,hq,hx⟩:=hg;obtain ⟨its,rv,p,hz⟩:=I.list hq;obtain ⟨f0,f1,f2,f3,f4,f5⟩:=hf it (by simp);have hl:=rv.length;exact wpAny_pyNext_list_end (I.ok.hd hc) st p.isList (by simp;omega) fun h' eb=>⟨rfl,I.turned (t':=s.toks) (fun b o hb e=>eb b o hb e) f0 f1 f3 f4 f5⟩
 self:=fun _ _ _ _ _ st h=>wpAny_pyIter_listiter st h
theorem vB {K:zac}{tg:Expr}(a it:Addr):wX P w K tg (QO K a) [it] it (fun i h=>h.IsTupleIter it a i) where
 mem:=by simp
 obj:=fun i h st b hb=>by
  have e:b=it:=by simpa using hb
  subst e;obtain ⟨o,e,c,d⟩:=st;exact ⟨o,e,fun v z=>by rw [d] at z;cases z⟩
 keep:=fun i h h' st k=>st.at fun o e=>k it (by simp) o e
 item:=by intro X hP hw hK hc i pins s Y H E I hf st hg;subst hP hw hK;obtain ⟨xs,x,hq,hx⟩:=hg;obtain ⟨its,rv,p,hz⟩:=I.tuple hq;obtain ⟨u,hu,ru⟩:=rv.get hx;obtain ⟨f0,f1,f2,f3,f4,f5⟩:=hf it (by simp);refine wpAny_pyNext_tuple_item st (show s.heap.IsTuple a its.toArray from p) (x:=u) (by simpa using hu) fun h' st' sb=>?_;have I1:aF X pins Y H {s with heap:=h'}:=I.turned (t':=s.toks) (fun b o hb e=>(sb.2 b hb).trans e) f0 f1 f3 f4 f5;obtain ⟨o,e,c,d⟩:=id st';exact ⟨u,rfl,xY (s:={s with heap:=h'}) e c d (by decide) ⟨x,H,I1,ru,⟨rfl,fun ys hy=>by rw [I.tuple_inj hy hq];exact hx⟩,st',fun b hb=>(hf b hb).1⟩⟩
 done:=by intro X hP hw hK hc i pins s Y H E I hf st hg;subst hP hw hK;obtain ⟨xs,hq,hx⟩:=hg;obtain ⟨its,rv,p,hz⟩:=I.tuple hq;obtain ⟨f0,f1,f2,f3,f4,f5⟩:=hf it (by simp);have hl:=rv.length;exact wpAny_pyNext_tuple_end (I.ok.hd hc) st (show s.heap.IsTuple a its.toArray from p) (by simp;omega) fun h' eb=>⟨rfl,I.turned (t':=s.toks) (fun b o hb e=>eb b o hb e) f0 f1 f3 f4 f5⟩
 self:=fun _ _ _ _ _ st h=>wpAny_pyIter_tupleiter st h
def vC {w:World}{K:zac}{tg:Expr}(it:Addr)(lo:Int)(n:Nat):wX P w K tg (OG lo n) [it] it (fun i h=>IsRangeIter h it (lo+(i:Nat) * 1) ((n:Int) - (i:Nat)) 1) where
 mem:=by simp
 obj:=fun i h st b hb=>by
  have e:b=it:=by simpa using hb
  subst e;exact ⟨_,st,fun v z=>by
   have z':Data.fields _=Data.cell v:=z
   cases z'⟩
 keep:=fun i h h' st k=>k it (by simp) _ st
 item:=by intro X hP hw hK hc i pins s Y H E I hf st hg;subst hP hw hK;obtain ⟨f0,f1,f2,f3,f4,f5⟩:=hf it (by simp);have W:=Walks.range (prog:=X.prog) (w:=X.w) (I.ok.hd hc) it lo 1 n;refine W.item i s _ _ hg st fun v h' tk hv st' kk=>?_;obtain ⟨t,rfl⟩:=hv;have I1:aF X pins Y H {s with heap:=h',toks:=tk}:=I.turned (fun b o hb e=>kk b o (by simpa using hb) e) f0 f1 f3 f4 f5;refine ⟨_,rfl,xY (s:={s with heap:=h',toks:=tk}) (n:="range_iterator") st' rfl rfl (by decide) ⟨.int (lo+i),H,I1,⟨t,?_⟩,⟨rfl,rfl⟩,st',fun b hb=>(hf b hb).1⟩⟩;rw [Int.mul_one]
 done:=by intro X hP hw hK hc i pins s Y H E I hf st hg;subst hP hw hK;obtain ⟨f0,f1,f2,f3,f4,f5⟩:=hf it (by simp);exact wpAny_pyNext_range_end (I.ok.hd hc) st (by have:n<=i:=hg;omega) fun h' eb=>⟨rfl,I.turned (t':=s.toks) (fun b o hb e=>eb b o hb e) f0 f1 f3 f4 f5⟩
 self:=fun _ _ _ _ _ st h=>wpAny_pyIter_rangeiter st h
section
variable {X:Cx}{tg:Expr}
def Bf {H:Hp}{s:Shared}{R:It->Hp->Prop}{E:Tb}{lo hi:Int}{t u v:Tok}{tk:Nat}(I:aF X pins Y H s)(h1 : -(2 ^ 62)<=lo)(h2:lo < 2 ^ 62)(h3 : -(2 ^ 62)<=hi)(h4:hi < 2 ^ 62)
  (q:R (OG lo (hi - lo).toNat) H):wpAny (model X.prog X.w) X.A (pyIter (.ref s.heap.objs.size)) (Sn X pins Y tg R) E {s with heap:=s.heap.push {cls:=.type "range",data:=.fields #[.int lo t,.int hi u,.int 1 v]},toks:=tk}:=by
 refine wpAny_pyIter_range (IsRange.new ..) (small_one h1 h2 h3 h4) ?_;have I1:aF X pins Y H {s with heap:=s.heap.push {cls:=.type "range",data:=.fields #[.int lo t,.int hi u,.int 1 v]},toks:=tk}:=I.kept fun b o e=>zae _ e
 refine ⟨(s.heap.push {cls:=.type "range",data:=.fields #[.int lo t,.int hi u,.int 1 v]}).objs.size,[(s.heap.push {cls:=.type "range",data:=.fields #[.int lo t,.int hi u,.int 1 v]}).objs.size],_,_,H,rfl,
  I1.kept (t':=tk) fun b o e=>zae _ e,vC _ lo (hi - lo).toNat,?_,fun b hb=>?_,q⟩
 ·have e1:lo+((0:Nat):Int) * 1=lo:=by simp
  have e2:(((hi - lo).toNat:Nat):Int) - ((0:Nat):Int)=Builtin.Range.rangeSize lo hi 1:=by rw [rangeSize_one];split <;> omega
  show IsRangeIter _ _ (lo+((0:Nat):Int) * 1) ((((hi - lo).toNat:Nat):Int) - ((0:Nat):Int)) 1
  rw [e1,e2];exact zaq _ rfl
 ·have e:b=(s.heap.push {cls:=.type "range",data:=.fields #[.int lo t,.int hi u,.int 1 v]}).objs.size:=by simpa using hb
  subst e;exact I1.fpOk (zao _) (I1.hok.fresh (zao _))
def G9 (ta:TA):TI:=fun Y H R=>ta Y H fun vs H1=>∃j:Int,vs=[.int j]/\-(2 ^ 62)<=j/\j < 2 ^ 62/\R (OG 0 j.toNat) H1
theorem zb {a:Expr}{ta:TA}{p pos:Pos}(hg:Gl X "range")(hm:X.mg "range" = none)(ha:PA X [a] ta)(hs:starEach [a] X.env=[(false,eval a X.env)]:=by rfl):PI X tg (.Call (.Name "range" p) [a] [] pos) (G9 ta):=by
 intro pins s Y H R I h;refine Call_ (iV I hg hm boot_range (PyProof.Rows.callWith_type1 (cL (ha pos pins s Y H _ I h) fun us s1 hh=>?_) hs rfl));obtain ⟨vs,H1,I1,r1,q1⟩:=hh;obtain ⟨j,e,q1,q2,q⟩:=q1;subst e
 cases r1 with|cons r rr =>
  cases rr;obtain ⟨t,rfl⟩:=r;exact call_range_1 (Bf I1 (by omega) (by omega) q1 q2 (by simpa using q))
def HZ (wi:TI)(g:TG)(tb:TS):TS:=fun D Y H=>wi Y H fun J H1=>∃W:Nat->Nat->St->Hp->Prop,(∃m,W 0 m Y H1)/\∀i m Y H,W i m Y H ->
 (J.stop i H/\D.nx Y H)\/(J.go i H/\∃N:St->Hp->Prop,(∀Y' H',N Y' H'->∃m',m' < m/\W (i+1) m' Y' H')/\∀x H',J.yld i H x H'->g x Y H' fun Y2 H2=>tb {D with nx:=N,ct:=N,bk:=D.nx} Y2 H2)
def kU (fp:Tf)(h:Heap):Tc:=fp.filterMap fun b=>(h.get? b).map fun o=>(b,o)
def ff {fp:Tf}{h:Heap}{b:Addr}{o:Obj}(hb:b∈fp)(e:h.get? b=some o):(b,o)∈kU fp h:=zdc.mpr ⟨b,hb,by rw [e];rfl⟩
theorem qm {fp:Tf}{h:Heap}{p:Addr×Obj}(hp:p∈kU fp h):p.1∈fp/\h.get? p.1=some p.2:=by
 obtain ⟨b,hb,e⟩:=zdc.mp hp
 cases q:h.get? b with|none=>rw [q] at e;cases e|some o =>
  rw [q] at e;have e':(b,o)=p:=Option.some.inj e;subst e';exact ⟨hb,q⟩
def aF.pinned {H:Hp}{s:Shared}{fp:Tf}(I:aF X pins Y H s)(hf:∀b∈fp,mi X pins H b)(ho:∀b∈fp,∃o,s.heap.get? b=some o/\∀v,o.data≠.cell v):aF X (pins++kU fp s.heap) Y H s :=
 I.pins_of fun p hp=>(za2.mp hp).elim (fun z=>I.pin p (zaC _ z)) fun z=>by obtain ⟨hb,e⟩:=qm z;obtain ⟨f0,f1,f2,_⟩:=hf p.1 hb;obtain ⟨o,e',d⟩:=ho p.1 hb;rw [e] at e';cases e';exact ⟨e,f0,f1,f2,d⟩
def aF.unpinned {pins pl:Tc}{H:Hp}{s:Shared}(I:aF X (pins++pl) Y H s):aF X pins Y H s:=I.pins_of fun p hp=>I.pin p (zaC _ (zbr _ hp))
def Bz {iter:Expr}{body:Tk}{wi:TI}{g:TG}{tb:TS}{pos:Pos}(hp:PassesOwn (model X.prog X.w) X.A X.env X.xe)(hc:X.calm=true)(hi:PI X tg iter wi)(hg:PG X tg g)(hb:pL X body tb)
  (hs:∀x,foldedSetIterable iter X.env x=pure x:=by intro _;rfl):PS X (.For tg iter body [] pos) (HZ wi g tb):=by
 intro pins s Y H D I h;refine wpAny_For (cL (hi pins s Y H _ I h) fun v s1 h1=>cL h1 fun itv s2 h2=>?_) hs;obtain ⟨it,fp,tn,J,H2,e,I2,T,st2,f2,W,⟨m0,w0⟩,turn⟩:=h2;subst e;have stat:∀{H':Hp},(∀b∈fp,H' b=none)->∀b∈fp,mi X pins H' b:=fun hn b hb=>⟨hn b hb,(f2 b hb).2⟩;refine codeAny_forLoop_any (fun n s'=>∃i Y' H',aF X pins Y' H' s'/\tn i s'.heap/\(∀b∈fp,H' b=none)/\W i n Y' H') ?_ m0 ⟨0,Y,H2,I2,st2,fun b hb=>(f2 b hb).1,w0⟩;rintro n s3 ⟨i,Y3,H3,I3,st3,fr3,w3⟩;rcases turn i n Y3 H3 w3 with ⟨stop,qn⟩|⟨go,N,hN,step⟩
 ·refine zct hp (cL (T.done X rfl rfl rfl hc i pins s3 Y3 H3 X.xe I3 (stat fr3) st3 stop) fun r s4 hh=>?_)
  obtain ⟨hr,I4⟩:=hh;subst hr;exact zdt ⟨Y3,H3,I4,qn⟩
 ·refine zct hp (cL (T.item X rfl rfl rfl hc i pins s3 Y3 H3 X.xe I3 (stat fr3) st3 go) fun r s4 hh=>?_)
  obtain ⟨u,hr,h4⟩:=hh;subst hr;refine zct hp (cL h4 fun _ s5 hh=>?_);obtain ⟨x,H5,I5,r5,y5,st5,fr5⟩:=hh;have I5':=I5.pinned (stat fr5) (T.obj _ _ st5);refine zct hp (cL (hg _ s5 Y3 H5 x u _ I5' r5 (step x H5 y5)) fun _ s6 hh=>?_);obtain ⟨Y6,H6,I6,q6⟩:=hh;refine zct hp (cL (hb _ s6 Y6 H6 _ I6 q6) fun f s7 q7=>?_)
  have again:∀{Y7:St} {H7:Hp},aF X (pins++kU fp s5.heap) Y7 H7 s7->N Y7 H7->∃m,m < n/\∃i Y' H',aF X pins Y' H' s7/\tn i s7.heap/\(∀b∈fp,H' b=none)/\W i m Y' H':=fun {Y7 H7} I7 n7=>by
   obtain ⟨m',hm,w7⟩:=hN Y7 H7 n7;refine ⟨m',hm,i+1,Y7,H7,I7.unpinned,T.keep _ _ _ st5 fun b hb o e=>(I7.pin (b,o) (zaC _ (zaC _ (ff hb e)))).1,fun b hb=>?_,w7⟩;obtain ⟨o,e,d⟩:=T.obj _ _ st5 b hb;exact (I7.pin (b,o) (zaC _ (zaC _ (ff hb e)))).2.1
  cases f with
  |next=>obtain ⟨Y7,H7,I7,n7⟩:=q7;exact again I7 n7
  |cont=>obtain ⟨Y7,H7,I7,n7⟩:=q7;exact again I7 n7
  |brk=>obtain ⟨Y7,H7,I7,q7⟩:=q7;exact ⟨Y7,H7,I7.unpinned,q7⟩
  |ret v=>obtain ⟨x7,Y7,H7,I7,r7,q7⟩:=q7;exact ⟨x7,Y7,H7,I7.unpinned,r7,q7⟩
end
abbrev R2:=V->V->Hp->VK->Prop
def lu (X:Cx)(f:Value->Value->Sem Value)(r:R2):Prop :=
 ∀(pins:Tc) (s:Shared) (Y:St) (H:Hp) (x y:V) (v u:Value) (Q:VK),aF X pins Y H s->aW x v->aW y u->r x y H Q ->
  wpAny (model X.prog X.w) X.A (f v u) (EP X pins Y Q) X.xe s
def QF (X:Cx)(f:Value->Sem Value)(r:V->Hp->VK->Prop):Prop :=
 ∀(pins:Tc) (s:Shared) (Y:St) (H:Hp) (x:V) (v:Value) (Q:VK),aF X pins Y H s->aW x v->r x H Q ->
  wpAny (model X.prog X.w) X.A (f v) (EP X pins Y Q) X.xe s
def ip (X:Cx)(f:Value)(r:List V->Hp->VK->Prop):Prop :=
 ∀(pins:Tc) (s:Shared) (Y:St) (H:Hp) (xs:List V) (us:Te) (Q:VK),aF X pins Y H s->aZ xs us->r xs H Q ->
  wpAny (model X.prog X.w) X.A (call f us) (EP X pins Y Q) X.xe s
def QH (X:Cx)(r:V->Hp->(Bool->Hp->Prop)->Prop):Prop :=
 ∀(pins:Tc) (s:Shared) (Y:St) (H:Hp) (x:V) (v:Value) (Q:Bool->Hp->Prop),aF X pins Y H s->aW x v->r x H Q ->
  wpAny (model X.prog X.w) X.A (truthy v) (TP X pins Y Q) X.xe s
def KH (r:R2)(ta tb:TE):TE:=fun Y H Q=>ta Y H fun x H1=>tb Y H1 fun y H2=>r x y H2 Q
def RF (r:V->Hp->VK->Prop)(ta:TE):TE:=fun Y H Q=>ta Y H fun x H1=>r x H1 Q
def rI (C:Int->Int->Prop)(g:Int->Int->V):R2:=fun x y H Q=>∃i j,x=.int i/\y=.int j/\C i j/\Q (g i j) H
def yV (g:Int->Int->V):R2:=fun x y H Q=>∃i j,x=.int i/\y=.int j/\Q (g i j) H
def rU (g:Int->V):V->Hp->VK->Prop:=fun x H Q=>∃i,x=.int i/\Q (g i) H
section
variable {X:Cx}{a b:Expr}{ta tb:TE}{pos:Pos}
def Ku (ha:PE X a ta)(hb:PE X b tb){s:Shared}{H:Hp}{R:V->V->Hp->Prop}(I:aF X pins Y H s)
  (h:ta Y H fun x H1=>tb Y H1 fun y H2=>R x y H2) {Q:Tb} {f:Value->Value->Sem Value}
  (hf:∀v u s2 x y H2,aF X pins Y H2 s2->aW x v->aW y u->R x y H2->wpAny (model X.prog X.w) X.A (f v u) Q X.xe s2) :
  wpAny (model X.prog X.w) X.A (eval a X.env) (fun v s₁=>wpAny (model X.prog X.w) X.A (eval b X.env) (fun u s₂=>wpAny (model X.prog X.w) X.A (f v u) Q X.xe s₂) X.xe s₁) X.xe s:=by
 refine cL (ha pins s Y H _ I h) fun v s1 hh=>?_;obtain ⟨x,H1,I1,r1,q1⟩:=hh;refine cL (hb pins s1 Y H1 _ I1 q1) fun u s2 hh=>?_;obtain ⟨y,H2,I2,r2,q2⟩:=hh;exact hf v u s2 x y H2 I2 r1 r2 q2
def qk {op:Operator}{r:R2}(ho:lu X (binaryOp op) r)(ha:PE X a ta)(hb:PE X b tb):PE X (.BinOp a op b pos) (KH r ta tb):=by intro pins s Y H Q I h;exact wpAny_BinOp (Ku ha hb I h fun v u s2 x y H2 I2 rx ry q=>ho pins s2 Y H2 x y v u Q I2 rx ry q)
def Mi {op:UnaryOp}{r:V->Hp->VK->Prop}(ho:QF X (unaryOp op) r)(ha:PE X a ta):PE X (.UnaryOp op a pos) (RF r ta):=by intro pins s Y H Q I h;exact UnaryOp_ (cL (ha pins s Y H _ I h) fun v s1 ⟨x,H1,I1,r1,q1⟩=>ho pins s1 Y H1 x v Q I1 r1 q1)
def NE {f:Value->Value->Sem Value}{C:Int->Int->Prop}{g:Int->Int->Int}
  (rule:∀(i j:Int) (t u:Tok) (s:Shared) (Q:Tb) (E:Tb),C i j->Q (.int (g i j) s.toks) {s with toks:=s.toks+1}->wpAny (model X.prog X.w) X.A (f (.int i t) (.int j u)) Q E s) :
  lu X f (rI C fun i j=>.int (g i j)):=by
 intro pins s Y H x y v u Q I rx ry h;obtain ⟨i,j,rfl,rfl,hc,q⟩:=h;obtain ⟨t,rfl⟩:=rx;obtain ⟨t',rfl⟩:=ry;exact rule i j t t' s _ _ hc ⟨.int (g i j),H,I.tok _,⟨_,rfl⟩,q⟩
def Mo {f:Value->Value->Sem Value}{g:Int->Int->Int}
  (rule:∀(i j:Int) (t u:Tok) (s:Shared) (Q:Tb) (E:Tb),Q (.int (g i j) s.toks) {s with toks:=s.toks+1}->wpAny (model X.prog X.w) X.A (f (.int i t) (.int j u)) Q E s) :
  lu X f (yV fun i j=>.int (g i j)):=by
 intro pins s Y H x y v u Q I rx ry h;obtain ⟨i,j,rfl,rfl,q⟩:=h;obtain ⟨t,rfl⟩:=rx;obtain ⟨t',rfl⟩:=ry;exact rule i j t t' s _ _ ⟨.int (g i j),H,I.tok _,⟨_,rfl⟩,q⟩
def JF {f:Value->Value->Sem Value}{g:Int->Int->Bool}
  (rule:∀(i j:Int) (t u:Tok) (s:Shared) (Q:Tb) (E:Tb),Q (.bool (g i j)) s->wpAny (model X.prog X.w) X.A (f (.int i t) (.int j u)) Q E s) :
  lu X f (yV fun i j=>.bl (g i j)):=by
 intro pins s Y H x y v u Q I rx ry h;obtain ⟨i,j,rfl,rfl,q⟩:=h;obtain ⟨t,rfl⟩:=rx;obtain ⟨t',rfl⟩:=ry;exact rule i j t t' s _ _ ⟨.bl (g i j),H,I,rfl,q⟩
def KE (i j:Int):Prop:=0 < j/\j < 1073741824
def KC (i j:Int):Prop:=0<=j/\j<=1000000/\i.natAbs < 2 ^ 64
def Dz (i j:Int):Prop:=(-(2 ^ 64) < i/\i < 2 ^ 64)\/(-(2 ^ 64) < j/\j < 2 ^ 64)
def Dz.ok {i j:Int}(h:Dz i j):IntMulOk i j:=by
 rcases h with ⟨h1,h2⟩|⟨h1,h2⟩
 ·exact .of_left (intBits_le_64 h1 h2)
 ·exact .of_right (intBits_le_64 h1 h2)
def JE:lu X (binaryOp .Add) (yV fun i j=>.int (i+j)):=Mo fun _ _ _ _ _ _ _ q=>add_int q
def Jy:lu X (binaryOp .Sub) (yV fun i j=>.int (i - j)):=Mo fun _ _ _ _ _ _ _ q=>sub_int q
def JB:lu X (binaryOp .Mult) (rI Dz fun i j=>.int (i * j)):=NE fun _ _ _ _ _ _ _ hc q=>mul_int q hc.ok
def EW:lu X (binaryOp .FloorDiv) (rI KE fun i j=>.int (i / j)):=NE fun i j _ _ _ _ _ hc q=>by have h1:(0:Int) < j:=hc.1;have h2:j < 1073741824:=hc.2;exact floordiv_int (by omega) (by rw [Int.fdiv_eq_ediv_of_nonneg i (by omega)];exact q) (.inl (PyProof.noPylong_small (by omega)))
def JC:lu X (binaryOp .Mod) (rI (fun _ j=>0 < j) fun i j=>.int (i % j)):=NE fun i j _ _ _ _ _ hc q=>by have h1:(0:Int) < j:=hc;exact mod_int' (by omega) (by rw [Int.fmod_eq_emod_of_nonneg i (by omega)];exact q)
def Jz:lu X (binaryOp .Pow) (rI KC fun i j=>.int (i ^ j.toNat)):=NE fun _ _ _ _ _ _ _ hc q=>pow_int_small hc.1 hc.2.1 hc.2.2 q
def SG {f:Value->Sem Value}{g:Int->Int}
  (rule:∀(i:Int) (t:Tok) (s:Shared) (Q:Tb) (E:Tb),Q (.int (g i) s.toks) {s with toks:=s.toks+1}->wpAny (model X.prog X.w) X.A (f (.int i t)) Q E s) :
  QF X f (rU fun i=>.int (g i)):=by
 intro pins s Y H x v Q I rx h;obtain ⟨i,rfl,q⟩:=h;obtain ⟨t,rfl⟩:=rx;exact rule i t s _ _ ⟨.int (g i),H,I.tok _,⟨_,rfl⟩,q⟩
def HH:QF X (unaryOp .USub) (rU fun i=>.int (-i)):=SG fun _ _ _ _ _ q=>neg_int q
end
section
variable {X:Cx}{a b c:Expr}{ta tb:TE}{pos:Pos}
def Kc {H:Hp}{s:Shared}{Q:VK}{k k':Bool}(I:aF X pins Y H s)(q:Q (.bl k) H)(e:k=k'):EP X pins Y Q (.bool k') s:=by subst e;exact ⟨.bl k,H,I,rfl,q⟩
def G4:lu X (compareOp .Lt) (yV fun i j=>.bl (decide (i < j))):=JF fun _ _ _ _ _ _ _ q=>lt_int q
def Mm:lu X (compareOp .LtE) (yV fun i j=>.bl (decide (i<=j))):=JF fun _ _ _ _ _ _ _ q=>le_int q
def Mn:lu X (compareOp .Gt) (yV fun i j=>.bl (decide (j < i))):=JF fun _ _ _ _ _ _ _ q=>gt_int q
theorem EV:lu X (compareOp .IsNot) (fun x y H Q=>y=.non/\Q (.bl (!decide (x=.non))) H):=by
 intro pins s Y H x y v u Q I rx ry h;obtain ⟨rfl,q⟩:=h;cases ry;refine isnot_none_gen (Kc I q ?_)
 cases x <;> first
  |(cases rx;rfl)
  |(obtain ⟨t,rfl⟩:=rx;rfl)
def lu.or {f:Value->Value->Sem Value}{r r':R2}(h:lu X f r)(h':lu X f r'):lu X f (fun x y H Q=>r x y H Q\/r' x y H Q):=by
 intro pins s Y H x y v u Q I rx ry q;rcases q with q|q
 ·exact h pins s Y H x y v u Q I rx ry q
 ·exact h' pins s Y H x y v u Q I rx ry q
def jz (b:Expr){op:CmpOp}(h:op≠.In:=by decide)(h2:op≠.NotIn:=by decide):behindInMarks op b=false:=by
 have e1:(op == CmpOp.In)=false:=by cases op <;> first|rfl|exact absurd rfl h
 have e2:(op == CmpOp.NotIn)=false:=by cases op <;> first|rfl|exact absurd rfl h2
 cases b <;> simp [behindInMarks,e1,e2]
def xE {op:CmpOp}{r:R2}(ho:lu X (compareOp op) r)(ha:PE X a ta)(hb:PE X b tb)(hm:behindInMarks op b=false):PE X (.Compare a [op] [b] pos) (KH r ta tb):=by intro pins s Y H Q I h;exact wpAny_Compare1 (Ku ha hb I h fun v u s2 x y H2 I2 rx ry q=>ho pins s2 Y H2 x y v u Q I2 rx ry q) hm
def GF (t:TE):TT:=fun Y H Q=>t Y H fun x H'=>∃k,x=.bl k/\Q k H'
def xA {op:CmpOp}{r:R2}(ho:lu X (compareOp op) r)(ha:PE X a ta)(hb:PE X b tb)(hm:behindInMarks op b=false):PT X (.Compare a [op] [b] pos) (GF (KH r ta tb)):=by intro pins s Y H Q I h;refine wpAny_isTrue_Compare1 (cL (ha pins s Y H _ I h) fun v s1 hh=>?_) hm;obtain ⟨x,H1,I1,r1,q1⟩:=hh;refine cL (hb pins s1 Y H1 _ I1 q1) fun u s2 hh=>?_;obtain ⟨y,H2,I2,r2,q2⟩:=hh;refine cL (ho pins s2 Y H2 x y v u _ I2 r1 r2 q2) fun c s3 hh=>?_;obtain ⟨z,H3,I3,r3,k,e,q3⟩:=hh;subst e;cases r3;exact zcn ⟨H3,I3,q3⟩
def FQ (K:zac)(x:V)(H:Hp)(k:Bool):Prop :=
 match x with
 |.non=>k=false|.bl b=>k=b|.int i=>k=(i != 0)|.str y=>y.length<=sizeLine/\k=((y.length:Int) != 0)|.byt y=>y.size<=sizeLine/\k=((y.size:Int) != 0)|.ref p=>(∃xs,jg K H p xs/\k = !xs.isEmpty)\/(∃xs,hX K H p xs/\k = !xs.isEmpty)\/∃kvs,H p=some (.dK kvs)/\k = !kvs.isEmpty|_=>False
theorem wj {κ:Type}{kvs:List (κ×V)}{vs:List (κ×Value)}(r:KV kvs vs):(!vs.isEmpty) = !kvs.isEmpty:=by cases r <;> rfl
def oR {xs:List V}{its:Te}(r:aZ xs its):(!its.toArray.isEmpty) = !xs.isEmpty:=by cases r <;> simp
def my:(sizeLine:Nat) < 2 ^ 63:=by rw [zba];decide
theorem vD:QH X (fun x H Q=>∃k,FQ X.K x H k/\Q k H):=by
 intro pins s Y H x v Q I rx h;obtain ⟨k,e,q⟩:=h;have hl:=my;have hs:sizeLine=16777216:=zba
 cases x with
 |non =>
  cases rx;have e':k=false:=e;subst e';exact truthy_none ⟨H,I,q⟩
 |bl b =>
  cases rx;have e':k=b:=e;subst e';exact zcn ⟨H,I,q⟩
 |int i =>
  obtain ⟨t,rfl⟩:=rx;have e':k=(i != 0):=e;subst e';exact PySem.P.truthy_int ⟨H,I,q⟩
 |str y =>
  obtain ⟨t,rfl⟩:=rx;obtain ⟨hy,e'⟩:y.length<=sizeLine/\k=((y.length:Int) != 0):=e;subst e';exact PySem.P.truthy_str (by omega) ⟨H,I.tok _,q⟩
 |byt y =>
  obtain ⟨t,rfl⟩:=rx;obtain ⟨hy,e'⟩:y.size<=sizeLine/\k=((y.size:Int) != 0):=e;subst e';exact PySem.W.truthy_bytes (by omega) ⟨H,I.tok _,q⟩
 |ref p =>
  cases rx;have e':(∃xs,jg X.K H p xs/\k = !xs.isEmpty)\/(∃xs,hX X.K H p xs/\k = !xs.isEmpty)\/∃kvs,H p=some (.dK kvs)/\k = !kvs.isEmpty:=e;rcases e' with ⟨xs,hx,e'⟩|⟨xs,hx,e'⟩|⟨kvs,hx,e'⟩
  ·subst e';obtain ⟨its,r,pl,hz⟩:=I.list hx;have hlen:=r.length;exact wpAny_truthy_list pl.isList (by simp only [zax];omega) ⟨H,I.tok _,by rw [oR r];exact q⟩
  ·subst e';obtain ⟨its,r,pl,hz⟩:=I.tuple hx;have hlen:=r.length;exact truthy_tuple pl (by simp only [zax];omega) ⟨H,I.tok _,by rw [oR r];exact q⟩
  ·subst e';obtain ⟨hz,hS,vs,r,m⟩:kvs.length<=sizeLine/\(p == sysModules)=false/\∃vs,KV kvs vs/\s.heap.DictOf (aY X.prog X.w) p vs:=I.hok p _ hx;have hlen:kvs.length=vs.length:=Paired.length r;exact wpAny_truthy_dict hS m (by omega) ⟨H,I.tok _,by rw [wj r];exact q⟩
 |_=>exact (show False from e).elim
def Bx (ha:PE X a ta)(he:∀whole,isTrue a X.env whole=(do let v ←whole;standAt a.pos;holding [v] (truthy v))) :
  PT X a (fun Y H Q=>ta Y H fun x H'=>∃k,FQ X.K x H' k/\Q k H'):=by
 intro pins s Y H Q I h;exact isTrue_plain (cL (ha pins s Y H _ I h) fun v s1 ⟨x,H1,I1,r1,q1⟩=>vD pins s1 Y H1 x v Q I1 r1 q1) (he _)
def vU:lu X (binaryOp .Add) (fun x y H Q=>∃i j,x=.str i/\y=.str j/\i.length+j.length<=sizeLine/\Q (.str (i++j)) H):=by intro pins s Y H x y v u Q I rx ry h;obtain ⟨i,j,rfl,rfl,hz,q⟩:=h;obtain ⟨t,rfl⟩:=rx;obtain ⟨t',rfl⟩:=ry;exact add_str (fun t' tk=>⟨.str (i++j),H,I.tok _,⟨_,rfl⟩,q⟩) hz
theorem mU {x:V}{us:Te}(r:aZ [x] us):∃u,us=[u]/\aW x u:=by
 cases r with|cons r1 r2=>cases r2;exact ⟨_,rfl,r1⟩
theorem KQ {x y:V}{us:Te}(r:aZ [x,y] us):∃u w',us=[u,w']/\aW x u/\aW y w':=by
 cases r with|cons r1 r2 =>
  cases r2 with|cons r3 r4=>cases r4;exact ⟨_,_,rfl,r1,r3⟩
def zI (hc:X.calm=true):ip X (.builtin "min") (fun xs H Q=>∃i j,xs=[.int i,.int j]/\Q (.int (if j < i then j else i)) H):=by
 intro pins s Y H xs us Q I r h;obtain ⟨i,j,rfl,q⟩:=h;obtain ⟨u,w',rfl,⟨t,rfl⟩,⟨t',rfl⟩⟩:=KQ r;refine min_two_ints (I.ok.hd hc) fun h' tk k=>⟨_,H,I.kept k,?_,q⟩;by_cases hj:j < i
 ·rw [if_pos hj,if_pos hj];exact ⟨_,rfl⟩
 ·rw [if_neg hj,if_neg hj];exact ⟨_,rfl⟩
end
theorem nK.some_of {v:V}{o:Tg}(r:nK (some v) o):∃u,o=some u/\aW v u:=by
 cases o with
 |none=>exact (show False from r).elim
 |some u=>exact ⟨u,rfl,r⟩
structure SY (K:zac)(C:Addr):Prop where
 pg:PySem.W.plainGet K C Str.empty=true
 hd:PySem.W.hasDictIn K C=true
 po:PySem.W.plainOver K C=true
 sa:PySem.W.findIn K (.ref C) "__setattr__" = some (some (.builtin "object.__setattr__"))
structure QM (K:zac)(C:Addr)(m:Str)(f:Addr):Prop where
 at_:PySem.W.findIn K (.ref C) m=some (some (.ref f))
 fn:PySem.W.isFn K (.ref f)=true
 kp:PySem.W.keepIn K (.ref f)=true
structure dU (k:Nat)(A:Around):Prop where
 hd:A.handled=none
 dp:A.depth+3 * k+5 < recursionLimit
 un:A.units+16 * k+200 < cLine
def dU.mono {j k:Nat}(r:dU k A)(h:j<=k):dU j A:=⟨r.hd,by have:=r.dp;omega,by have:=r.un;omega⟩
def dU.deeper {k:Nat}{A:Around}(r:dU (k+1) A)(env:Env):dU k (A.deeper env) :=
 ⟨r.hd,by have:=r.dp;show A.depth+1+3 * k+5 < _;omega,by have:=r.un;show A.units+3+16 * k+200 < _;omega⟩
def dU.depth {k:Nat}{A:Around}(r:dU k A):A.depth < recursionLimit:=by have:=r.dp;omega
def dU.units {k:Nat}{A:Around}(r:dU k A):A.units+64 < cLine:=by have:=r.un;omega
def sS:TA:=fun _ H Q=>Q [] H
def lF (ta:TE)(tr:TA):TA:=fun Y H Q=>ta Y H fun x H1=>tr Y H1 fun xs H2=>Q (x::xs) H2
section
variable {X:Cx}{e:Expr}{es:Tj}{te:TE}{t:TA}{pos:Pos}
def kW:PA X [] sS:=fun _ _ _ _ H Q I h=>Calls.spliced_nil ⟨[],H,I,.nil,h⟩
theorem hZ (ha:PE X e te)(hr:PA X es t)(hs:starEach (e::es) X.env=(false,eval e X.env)::starEach es X.env:=by rfl):PA X (e::es) (lF te t):=by
 intro pos pins s Y H Q I h;rw [hs]
 show wpAny _ _ (spliced ((false,eval e X.env)::backTo pos (starEach es X.env))) _ _ s
 refine Calls.spliced_cons (cL (ha pins s Y H _ I h) fun u s1 hh=>?_);obtain ⟨x,H1,I1,r1,q1⟩:=hh;exact cL (hr pos pins s1 Y H1 _ I1 q1) fun us s2 ⟨xs,H2,I2,r2,q2⟩=>⟨x::xs,H2,I2,.cons r1 r2,q2⟩
def HV (t:TA):TE:=fun Y H Q=>t Y H fun xs H1=>xs.length<=sizeLine/\∀p,H1 p=none->Q (.ref p) (upd H1 p (.tup xs))
def HY (t:TA):TE:=fun Y H Q=>t Y H fun xs H1=>xs.length<=sizeLine/\∀p,H1 p=none->Q (.ref p) (upd H1 p (.lst xs))
def BJ {x1}(h:PA X es t):PE X (.Tuple es x1 pos) (HV t):=by intro pins s Y H Q I hq;refine wpAny_Tuple_spliced (cL (h pos pins s Y H _ I hq) fun us s1 hh=>?_);obtain ⟨xs,H1,I1,r,z,q⟩:=hh;refine ⟨by rw [←r.length];exact z,?_⟩;have hf:H1 s1.heap.objs.size=none:=I1.hok.fresh (zao _);refine ⟨.ref s1.heap.objs.size,upd H1 s1.heap.objs.size (.tup xs),I1.laid (t':=s1.toks) (fun b u e=>zae _ e) (zao _) ?_,rfl,q _ hf⟩;exact ⟨z,us,r,jc.new _ _⟩
def BM (h:PA X es t):PE X (.List es pos) (HY t):=by intro pins s Y H Q I hq;refine wpAny_List_spliced (cL (h pos pins s Y H _ I hq) fun us s1 hh=>?_);obtain ⟨xs,H1,I1,r,z,q⟩:=hh;refine ⟨by rw [←r.length];exact z,?_⟩;have hf:H1 s1.heap.objs.size=none:=I1.hok.fresh (zao _);refine ⟨.ref s1.heap.objs.size,upd H1 s1.heap.objs.size (.lst xs),I1.laid (t':=s1.toks) (fun b u e=>zae _ e) (zao _) ?_,rfl,q _ hf⟩;exact ⟨z,us,0,r,zaq _ rfl⟩
end
abbrev Sp:=List V->Hp->VK->XK->Prop
abbrev yw:=List Env->Hp->Shared->XK->Tb
structure F1 (P:Program)(w:World)(K:zac)(mg:Td)(base:Heap)(A:Around)(outer:List Env)(s:Shared)(H:Hp):Prop where
 frames:A.frames=some outer
 mod:Mod K mg base
 bs:∀b o,base.get? b=some o->s.heap.get? b=some o/\H b=none
 bsz:base.objs.size<=s.heap.objs.size
 funs:s.heap.FunFrames base outer
 frf:∀b∈zy outer,H b=none
 hok:iJ P w H s.heap
 bare:AllBare s.gens
def CE (outer:List Env)(P:Program)(w:World)(H:Hp)(s:Shared)(Q:VK)(u:Value)(s':Shared):Prop :=
 ∃v H',s'.os=s.os/\AllBare s'.gens/\Un (zy outer) [] H H' s.heap s'.heap/\iJ P w H' s'.heap/\aW v u/\Q v H'
def CR (CX:yw)(outer:List Env)(P:Program)(w:World)(H:Hp)(s:Shared)(Q:VK)(E:XK)(r:Result)(s':Shared):Prop :=
 match r with
 |.ok (.ret u)=>CE outer P w H s Q u s'|.ok _=>False|.error e=>CX outer H s E e s'
structure dE (P:Program)(w:World)(K:zac)(mg:Td)(base:Heap)(CX:yw)(k:Nat)(f:Addr)(fd:FuncData)(ps:Tl)(sp:Sp):Prop where
 len:∀vs H Q E,sp vs H Q E->vs.length=ps.length
 run:∀(A:Around) (outer:List Env) (s:Shared) (H:Hp) (args:Args) (us:Te) (vs:List V) (Q:VK) (E:XK),dU k A->F1 P w K mg base A outer s H->BindsTo s fd args (ps.zip us)->aZ vs us->sp vs H Q E ->
  codeAny (model P w) A (.call (.ref f) args) (CR CX outer P w H s Q E) s
def dE.imp {P:Program}{w:World}{K:zac}{mg:Td}{base:Heap}{CX:yw}{k:Nat}{f:Addr}{fd:FuncData}{ps:Tl}{sp sp':Sp}(F:dE P w K mg base CX k f fd ps sp)
  (h:∀vs H Q E,sp' vs H Q E->sp vs H Q E):dE P w K mg base CX k f fd ps sp' :=
 ⟨fun vs H Q E q=>F.len vs H Q E (h _ _ _ _ q),fun A outer s H args us vs Q E hr he hb hv hs=>F.run A outer s H args us vs Q E hr he hb hv (h _ _ _ _ hs)⟩
section
variable {X:Cx}{pins:Tc}{Y:St}{H:Hp}{s s':Shared}
def aF.env0 (I:aF X pins Y H s):F1 X.prog X.w X.K X.mg X.base X.A X.stack s H :=
 ⟨I.ok.frames,I.ok.mod,I.bs,zbo I.ok.bsz I.sz,I.stack,I.stkFree,I.hok,I.bare⟩
def aF.after {Q:VK}{u:Value}(I:aF X pins Y H s)(h:CE X.stack X.prog X.w H s Q u s'):EP X pins Y Q u s':=by obtain ⟨v,H',os,bare,un,hok,r,q⟩:=h;obtain ⟨hh,g,d,t,os'⟩:=s';obtain rfl:os'=s.os:=os;exact ⟨v,H',I.call (h':=hh) (g':=g) (d':=d) (t':=t) (ch:=[]) un hok bare (fun b z=>absurd z (by simp)),r,q⟩
end
def xn (sp:Sp)(dvs:List V)(E:XK)(t:TA):TE:=fun Y H Q=>t Y H fun vs H1=>sp (vs++dvs) H1 Q E
def ji (K:zac)(fd:FuncData)(ps:Tl)(ds:Te):Prop :=
 ∀(s:Shared) (us:Te),K.In s.heap->(us++ds).length=ps.length->BindsTo s fd ⟨us,[]⟩ (ps.zip (us++ds))
def ji.all {K:zac}{ps:Tl}(h:∀us:Te,us.length=ps.length->bindArgs fd ⟨us,[]⟩=pure (ps.zip us)):ji K fd ps []:=fun s us _ hl=>by rw [zbi] at hl ⊢;exact .of_eq (h us hl)
def wZ (CX:yw)(X:Cx)(E:XK):Prop:=∀(pins:Tc) (Y:St) (H:Hp) (s:Shared) (e:Value) (s':Shared),aF X pins Y H s->CX X.stack H s E e s'->X.xe e s'
section
variable {X:Cx}{CX:yw}{k:Nat}{f:Addr}{fd:FuncData}{ps:Tl}{sp:Sp}{dvs:List V}{ds:Te}{E:XK}{x:Str}{p pos:Pos}{e:Expr}{es:Tj}{t:TA}
theorem Ij {pins:Tc}{Y:St}{H:Hp}{s:Shared}{Q:VK}{us:Te}{vs:List V}(F:dE X.prog X.w X.K X.mg X.base CX k f fd ps sp)(hr:dU k X.A)(hb:ji X.K fd ps ds)(hd:aZ dvs ds)(hx:wZ CX X E)
  (I:aF X pins Y H s) (r:aZ vs us) (h:sp (vs++dvs) H Q E):wpAny (model X.prog X.w) X.A (call (.ref f) us) (EP X pins Y Q) X.xe s:=by
 have r2:aZ (vs++dvs) (us++ds):=r.append hd
 have hl:(us++ds).length=ps.length:=by rw [←r2.length];exact F.len _ _ _ _ h
 refine wpAny_call (zb0 (F.run X.A X.stack s H ⟨us,[]⟩ (us++ds) (vs++dvs) Q E hr I.env0 (hb s us I.kIn hl) r2 h) fun r s' hq=>?_)
 cases r with|error e=>exact hx pins Y H s e s' I hq|ok fl =>
  cases fl with|ret u=>exact I.after hq|next=>exact False.elim hq|brk=>exact False.elim hq|cont=>exact False.elim hq
theorem rF (F:dE X.prog X.w X.K X.mg X.base CX k f fd ps sp)(hr:dU k X.A)(hg:Gl X x)(hm:X.mg x=some (.ref f))(hk:PySem.W.keepIn X.K (.ref f)=true)(hb:ji X.K fd ps ds)(hd:aZ dvs ds)(hx:wZ CX X E)
  (ha:PA X (e::es) t) (hdb:(x == ("__debug__" : Str))=false:=by decide) (he:starEach (e::es) X.env=(false,eval e X.env)::starEach es X.env:=by rfl) (hpl:(backTo pos (starEach es X.env)).any (·.1)=false:=by rfl) :
  PE X (.Call (.Name x p) (e::es) [] pos) (xn sp dvs E t):=by
 intro pins s Y H Q I h;refine zbN (xP I hg hm ?_ hdb);refine PySem.W.callWith_K (h₀:=X.base) I.ok.mod.kin hk (cL (ha pos pins s Y H _ I h) fun us s1 hh=>?_) he hpl;obtain ⟨vs,H1,I1,r,q⟩:=hh;refine ⟨I1.kIn,?_⟩;exact Ij F hr hb hd hx I1 r q
end
structure aM (N P:Tl)(sc:Scope):Prop where
 kind:sc.kind=.function
 co:sc.isCoroutine=false
 gen:sc.isGenerator=false
 nd:N.Nodup
 pre:N.take P.length=P
 par:∀x∈P,sc.names.lookup x=some .local\/sc.names.lookup x=some .cell
 nofree:∀y∈sc.names,y.2≠.free
theorem qK {kindOf:Str->Option NameKind}{x:Str}:∀{binds:List (Str×Value)} {m:Td},(∀v,(x,v)∉binds)->bindL kindOf binds m x=m x
 |[],_,_=>rfl|(n,v)::r,m,h=>by
  unfold bindL;rw [qK fun w hw=>h w (zai _ hw)];split
  ·have:x≠n:=by rintro rfl;exact h v zag
   simp [this]
  ·rfl
theorem qM {kindOf:Str->Option NameKind}{x:Str}:∀{binds:List (Str×Value)} {m:Td},(∀v,(x,v)∉binds)->bindC kindOf binds m x=m x
 |[],_,_=>rfl|(n,v)::r,m,h=>by
  unfold bindC;rw [qM fun w hw=>h w (zai _ hw)];split
  ·rfl
  ·have:x≠n:=by rintro rfl;exact h v zag
   simp [this]
theorem qL {kindOf:Str->Option NameKind}{x:Str}{v:Value}:∀{P:Tl} {vs:Te} {i:Nat} {m:Td},P.Nodup->P[i]?=some x->vs[i]?=some v->kindOf x=some .local ->
  bindL kindOf (P.zip vs) m x=some v
 |[],_,_,_,_,h,_,_=>by simp at h|_::_,[],_,_,_,_,h,_=>by simp at h|p::P,w::vs,0,m,nd,h1,h2,hk=>by
  simp at h1 h2;subst h1;subst h2
  show bindL kindOf ((p,w)::P.zip vs) m p=_
  unfold bindL;rw [qK fun v hv=>(zaK.mp nd).1 (zdu hv).1,if_pos hk];simp
 |p::P,w::vs,i+1,m,nd,h1,h2,hk=>by
  show bindL kindOf ((p,w)::P.zip vs) m x=_
  unfold bindL;exact qL (i:=i) (zaK.mp nd).2 (by simpa using h1) (by simpa using h2) hk
theorem qN {kindOf:Str->Option NameKind}{x:Str}{v:Value}:∀{P:Tl} {vs:Te} {i:Nat} {m:Td},P.Nodup->P[i]?=some x->vs[i]?=some v->kindOf x≠some .local ->
  bindC kindOf (P.zip vs) m x=some v
 |[],_,_,_,_,h,_,_=>by simp at h|_::_,[],_,_,_,_,h,_=>by simp at h|p::P,w::vs,0,m,nd,h1,h2,hk=>by
  simp at h1 h2;subst h1;subst h2
  show bindC kindOf ((p,w)::P.zip vs) m p=_
  unfold bindC;rw [qM fun v hv=>(zaK.mp nd).1 (zdu hv).1,if_neg hk];simp
 |p::P,w::vs,i+1,m,nd,h1,h2,hk=>by
  show bindC kindOf ((p,w)::P.zip vs) m x=_
  unfold bindC;exact qN (i:=i) (zaK.mp nd).2 (by simpa using h1) (by simpa using h2) hk
def et (N:Tl)(vs:List V):St:=vs.map some++List.replicate (N.length - vs.length) none
def mE (CX:yw)(P:Program)(w:World)(K:zac)(mg:Td)(base:Heap)(N:Tl)(qual:Str)(scope:Scope)(f:Addr)(cd:Value)(A:Around)(outer:List Env)(s:Shared)(H:Hp)(E:XK):Cx where
 prog:=P
 w:=w
 K:=K
 mg:=mg
 base:=base
 A:=A.deeper (envOfC qual scope s.heap.objs.size f cd)
 N:=N
 s₀:=s
 H₀:=H
 env:=envOfC qual scope s.heap.objs.size f cd
 outer:=outer
 stack:=envOfC qual scope s.heap.objs.size f cd::outer
 ex:=[]
 calm:=true
 fn:=fun _=>true
 pn:=[]
 xe:=fun e s'=>wpAny (model P w) (A.deeper (envOfC qual scope s.heap.objs.size f cd)) (leaving (envOfC qual scope s.heap.objs.size f cd) e) (fun _ s''=>CX outer H s E e s'') (fun e' s''=>CX outer H s E e' s'') s'
def uY {sc:Scope}{n:Nat}{x:Str}(h:sc.names.lookup x=some .cell):∃c,(cellsFrom n sc.names []).lookup x=some c:=by have q:=zck sc.names n [] (.inl h);exact zb4.mp q
def zt {CX:yw}{P:Program}{w:World}{K:zac}{mg:Td}{base:Heap}{N ps:Tl}{qual:Str}{scope:Scope}{f:Addr}{cd:Value}{A:Around}{outer:List Env}{s s1:Shared}{H:Hp}{E:XK}{us:Te}{vs:List V}
  (S:aM N ps scope) (hd:A.handled=none) (e0:F1 P w K mg base A outer s H) (hl:vs.length=ps.length) (r:aZ vs us)
  (x:InCallC s s.heap.objs.size (bindL (envOfC qual scope s.heap.objs.size f cd).kindOf (ps.zip us) fun _=>none) (cellsFrom (s.heap.objs.size+1) scope.names []) (bindC (envOfC qual scope s.heap.objs.size f cd).kindOf (ps.zip us) fun _=>none) s1) :
  aF (mE CX P w K mg base N qual scope f cd A outer s H E) [] (et N vs) H s1:=by
 have hpl:ps.length<=N.length:=by have:=congrArg List.length S.pre;rw [zbK] at this;omega
 obtain ⟨h1,tk,rfl,hk⟩:=x.done;have noA:∀b:Addr,b∉(mE CX P w K mg base N qual scope f cd A outer s H E).ex:=fun b z=>absurd (show b∈([]:Tf) from z) (by simp)
 refine ⟨⟨e0.mod,S.kind,rfl,rfl,zao _,fun y z c h1 h2=>?_,fun y hy=>?_,fun y c _ h=>?_,fun _=>hd,Around.frames_deeper e0.frames,.inr ⟨rfl,rfl⟩,fun b z=>absurd z (noA b),e0.bs,e0.bsz,fun b _ _=>noA b,fun b z=>absurd z (noA b),e0.funs,e0.frf⟩,
  rfl,e0.bare,Un.kept hk,⟨_,x.toInCall.ns,fun i y v h1 h2 h3=>?_⟩,fun y c h=>⟨_,x.cell y c h⟩,e0.hok.fresh (zao _),fun y c h=>?_,fun p hp=>absurd (show p∈([]:Tc) from hp) (by simp),e0.hok.kept hk,?_⟩
 ·exact name_of_addr x.apart (PySem.mem_of_lookup h1) (PySem.mem_of_lookup h2)
 ·have hy:scope.names.lookup y=some .cell\/scope.names.lookup y=some .free:=hy
  rcases hy with hy|hy
  ·exact uY hy
  ·exact absurd rfl (S.nofree _ (PySem.mem_of_lookup hy))
 ·exact zbP (x.above y c (PySem.mem_of_lookup h))
 ·have hi:i < vs.length:=by
   unfold et at h2
   by_cases hi:i < vs.length
   ·exact hi
   ·rw [zaP (by simpa using hi)] at h2
    rw [zcF] at h2;split at h2 <;> cases h2
  have ha:vs[i]?=some v:=by
   unfold et at h2;rw [zaj (by simpa using hi),za0] at h2
   cases e:vs[i]? with|none=>rw [e] at h2;cases h2|some a=>rw [e] at h2;cases h2;rfl
  obtain ⟨u,hu,rv⟩:=r.get ha
  have hp:ps[i]?=some y:=by
   rw [←S.pre,List.getElem?_take_of_lt (by omega)];exact h1
  have ndP:ps.Nodup:=by rw [←S.pre];exact S.nd.sublist (List.take_sublist _ _)
  refine ⟨u,rv,?_⟩;rcases S.par y (zaI hp) with k|k
  ·exact .inl ⟨k,qL ndP hp hu k⟩
  ·obtain ⟨c,e⟩:=uY (n:=s.heap.objs.size+1) k
   refine .inr ⟨.inl k,c,e,?_⟩;have q:=x.cell y c e;rw [qN ndP hp hu (by show scope.names.lookup y≠_;rw [k];decide)] at q;exact q
 ·exact e0.hok.fresh (zbP (x.above y c (PySem.mem_of_lookup h)))
 ·unfold et
  show _=N.length
  rw [za1,zah,List.length_replicate];omega
theorem MX {CX:yw}{P:Program}{w:World}{K:zac}{mg:Td}{base:Heap}{k:Nat}{f:Addr}{name qual:Str}{params:Arguments}{body:Tk}{scope:Scope}{dV kV doc pm cdv ct oc:Value}{an od:Option Addr}
  {osl:Array (Tg)} {N ps:Tl} {sp:Sp} (lk:K.lookup f=some ⟨oc,od,.func (PySem.W.fnOf name qual params body scope dV kV doc pm an cdv ct),osl⟩) (hcd:PySem.W.codeIn K cdv qual=true) (S:aM N ps scope)
  (len:∀vs H Q E,sp vs H Q E->vs.length=ps.length)
  (hbody:∀(A:Around) (outer:List Env) (s:Shared) (H:Hp) (vs:List V) (Q:VK) (E:XK),dU k (A.deeper (envOfC qual scope s.heap.objs.size f cdv))->sp vs H Q E ->
   ∃t,pL (mE CX P w K mg base N qual scope f cdv A outer s H E) body t/\t {nx:=fun _ H'=>Q .non H',rt:=Q} (et N vs) H) :
  dE P w K mg base CX (k+1) f (PySem.W.fnOf name qual params body scope dV kV doc pm an cdv ct) ps sp:=by
 refine ⟨len,fun A outer s H args us vs Q E hr e0 hb r hsp=>?_⟩;have hl:=len _ _ _ _ hsp;have KX:K.In s.heap:=e0.mod.kin.keeps fun b o e=>(e0.bs b o e).1;have lim:s.heap.NoLimit:=e0.mod.nolimit.keeps fun b o e=>(e0.bs b o e).1
 have hkind:∀y∈ps.zip us,scope.names.lookup y.1=some .local\/(scope.names.lookup y.1=some .cell/\((cellsFrom (s.heap.objs.size+1) scope.names []).lookup y.1).isSome=true):=fun ⟨n,v⟩ hy=>by
  rcases S.par n (zdu hy).1 with q|q
  ·exact .inl q
  ·exact .inr ⟨q,zck _ _ _ (.inl q)⟩
 refine codeAny_call_function hr.depth (KX _ _ lk) rfl S.co S.gen rfl (PySem.W.codeRec_of KX hcd) (hb _ _ _ _ ?_);refine wpAny_newFunctionEnv_cells S.kind hkind fun env he s1 x=>?_;subst he;refine ⟨lim.keeps x.toInCall.keep,codeAny_func ?_⟩;obtain ⟨t,ht,hq⟩:=hbody A outer s H vs Q E (hr.deeper _) hsp;have I:aF (mE CX P w K mg base N qual scope f cdv A outer s H E) [] (et N vs) H s1:=zt S hr.hd e0 hl r x;refine zbB (ht [] s1 (et N vs) H _ I hq) (fun fl s' hs=>?_) fun e s' hs=>hs
 have fin:∀{Y':St} {H':Hp} {v:V} {u:Value},aF (mE CX P w K mg base N qual scope f cdv A outer s H E) [] Y' H' s'->aW v u->Q v H'->CE outer P w H s Q u s' :=
  fun {Y' H' v u} J rv q=>⟨v,H',J.os,J.bare,J.base,J.hok,rv,q⟩
 cases fl with
 |ret u =>
  obtain ⟨v,Y',H',J,rv,q⟩:=hs;exact fin J rv q
 |next =>
  obtain ⟨Y',H',J,q⟩:=hs;exact fin (v:=V.non) (u:=Value.none) J rfl q
 |brk =>
  obtain ⟨_,_,_,q⟩:=hs;exact False.elim q
 |cont =>
  obtain ⟨_,_,_,q⟩:=hs;exact False.elim q
section
variable {X:Cx}{x:Str}{p pos:Pos}{e:Expr}{es:Tj}{t:TA}{id T:String}{r:List V->Hp->VK->Prop}
def H9 (r:List V->Hp->VK->Prop)(t:TA):TE:=fun Y H Q=>t Y H fun vs H1=>r vs H1 Q
theorem eC (hc:ip X (.builtin id) r)(hg:Gl X x)(hm:X.mg x=none)(hv:bootBuiltins x=some (.builtin id))(ha:PA X (e::es) t)(hn:x≠"__name__":=by decide)(hdb:(x == ("__debug__" : Str))=false:=by decide)
  (he:starEach (e::es) X.env=(false,eval e X.env)::starEach es X.env:=by rfl) (hpl:(backTo pos (starEach es X.env)).any (·.1)=false:=by rfl):PE X (.Call (.Name x p) (e::es) [] pos) (H9 r t):=by
 intro pins s Y H Q I h;refine zbN (iV I hg hm hv ?_ hn hdb);exact PyProof.Rows.callWith_builtin1 (cL (ha pos pins s Y H _ I h) fun us s1 ⟨vs,H1,I1,r1,q1⟩=>hc pins s1 Y H1 vs us Q I1 r1 q1) he hpl
theorem gC (hc:ip X (.type T) r)(hg:Gl X x)(hm:X.mg x=none)(hv:bootBuiltins x=some (.type T))(ha:PA X (e::es) t)(hn:x≠"__name__":=by decide)(hdb:(x == ("__debug__" : Str))=false:=by decide)
  (he:starEach (e::es) X.env=(false,eval e X.env)::starEach es X.env:=by rfl) (hpl:(backTo pos (starEach es X.env)).any (·.1)=false:=by rfl):PE X (.Call (.Name x p) (e::es) [] pos) (H9 r t):=by
 intro pins s Y H Q I h;refine zbN (iV I hg hm hv ?_ hn hdb);exact PyProof.Rows.callWith_type1 (cL (ha pos pins s Y H _ I h) fun us s1 ⟨vs,H1,I1,r1,q1⟩=>hc pins s1 Y H1 vs us Q I1 r1 q1) he hpl
end
end L2
namespace HT
open PyProof.Rows
section
variable {prog:Program}{w:World}{A:Around}{E:Tb}{s:Shared}
theorem FH {t b:Addr}{vs ws:Te}{Q:Tb}(ht:IsTup s.heap t vs.toArray)(hb:IsTup s.heap b ws.toArray)(hv:vs≠[])
  (h1:ws=[]->Q (.ref t) s) (h2:ws≠[]->Q (.ref s.heap.objs.size) {s with heap:=s.heap.push {cls:=.type "tuple",data:=.seq (vs++ws).toArray}})
  (hsz:vs.length+ws.length<=sizeLine):wpAny (model prog w) A (binaryOp .Add (.ref t) (.ref b)) Q E s:=by
 obtain ⟨⟨cls,dd,data,sl⟩,ho,hc,n,hd⟩:=id ht;obtain ⟨⟨cls2,dd2,data2,sl2⟩,ho2,hc2,n2,hd2⟩:=id hb;simp only at hc hd hc2 hd2;subst hc hd hc2 hd2
 have e:vs.toArray++ws.toArray=(vs++ws).toArray:=by simp
 by_cases hw:ws=[]
 ·exact concat_meets ⟨_,ho,rfl⟩ ⟨_,ho2,rfl⟩ noFill_tuple_add seq_tuple_add PySem.F.slot_tuple_add PySem.F.entry_tuple_add (PySem.F.args_tuple_add_2 _ _)
   (tuple_addW1 t b vs.toArray ws.toArray n n2 dd dd2 sl sl2 (by simpa using hv) (by simp [hw])) ⟨ho,ho2,h1 hw⟩
 ·refine concat_meets ⟨_,ho,rfl⟩ ⟨_,ho2,rfl⟩ noFill_tuple_add seq_tuple_add PySem.F.slot_tuple_add PySem.F.entry_tuple_add (PySem.F.args_tuple_add_2 _ _)
   (tuple_addW2 t b vs.toArray ws.toArray n n2 dd dd2 sl sl2 (by simpa using hv) (by simpa using hw) (by rw [zax,zax];exact hsz)) ⟨ho,ho2,?_⟩
  rw [e];exact h2 hw
def dl (n d:Nat):Option Int->Nat
 |none=>d|some v=>if v < 0 then (v+(n:Int)).toNat else min v.toNat n
theorem Ig (n d:Nat)(hd:d<=n)(o:Option Int):dl n d o<=n:=by
 cases o with|none=>exact hd|some v =>
  show (if v < 0 then (v+(n:Int)).toNat else min v.toNat n)<=n
  by_cases hv:v < 0
  ·rw [if_pos hv];omega
  ·rw [if_neg hv];exact Nat.min_le_right _ _
def yp (v:Int)(n d:Nat):(if v < 0 then max (v+(n:Int)) 0 else min v (n:Int))=((dl n d (some v):Nat):Int):=by
 show (if v < 0 then max (v+(n:Int)) 0 else min v (n:Int))=(((if v < 0 then (v+(n:Int)).toNat else min v.toNat n):Nat):Int)
 by_cases hv:v < 0
 ·simp only [if_pos hv];omega
 ·simp only [if_neg hv];omega
def wV (lo hi:Option Int)(n:Nat):Builtin.Slice.sliceAdjust lo hi 1 (n:Int)=(((dl n 0 lo:Nat):Int),((dl n n hi:Nat):Int)):=by
 have h1:¬ ((1:Int) < 0):=by omega
 unfold Builtin.Slice.sliceAdjust;simp only [h1,if_false];refine Prod.ext ?_ ?_
 ·cases lo with|none=>rfl|some v=>exact yp v n 0
 ·cases hi with|none=>rfl|some v=>exact yp v n n
def vR (i j:Nat):Builtin.Slice.slicePlaces (i:Int) (j:Int) 1=j - i:=by
 unfold Builtin.Slice.slicePlaces;have h1:(1:Int) > 0:=by omega
 simp only [h1,if_true,Int.ediv_one];split <;> omega
theorem oo {v:Value}{o:Option Int}{Q:Option Int->Shared->Prop}(p:IsPart v o)(h:Q o s):wpAny (model prog w) A (Builtin.Slice.slicePartIndex v) Q E s:=by
 cases p with|none=>exact slicePart_none h|int i t=>exact slicePart_int h
theorem iD {sl:Addr}{vl vu:Value}{lo hi:Option Int}{n:Nat}{Q:Int×Int×Nat->Shared->Prop}(hs:s.heap.IsSliceOf sl vl vu .none)(pl:IsPart vl lo)(pu:IsPart vu hi)
  (h:Q (((dl n 0 lo:Nat):Int),1,dl n n hi - dl n 0 lo) s):wpAny (model prog w) A (Builtin.Slice.sliceApplied (.ref sl) (pure (n:Int))) Q E s:=by
 obtain ⟨os,hos,hcs,hds⟩:=id hs;unfold Builtin.Slice.sliceApplied Builtin.Slice.sliceFields;refine zab (zab (zbO hos hds (x:=vl) rfl (zab (zbO hos hds (x:=vu) rfl (zab (zbO hos hds (x:=.none) rfl (zad ?_)))))));refine zab (slicePart_none ?_)
 show wpAny _ _ (if ((1:Int) == 0)=true then _ else _) _ _ s
 rw [if_neg (by decide)];refine zab (oo pl (zab (oo pu (zab (zad ?_)))))
 show wpAny _ _ (match Builtin.Slice.sliceAdjust lo hi 1 (n:Int) with|(lo,hi)=>pure (lo,(1:Int),Builtin.Slice.slicePlaces lo hi 1)) _ _ s
 rw [wV lo hi n]
 show wpAny _ _ (pure (((dl n 0 lo:Nat):Int),(1:Int),Builtin.Slice.slicePlaces ((dl n 0 lo:Nat):Int) ((dl n n hi:Nat):Int) 1)) _ _ s
 rw [vR];exact zad h
theorem BG (xs:Ti)(i k:Nat):((List.range k).filterMap fun (m:Nat)=>xs[((i:Int)+(m:Int) * 1).toNat]?).toArray=((xs.toList.drop i).take k).toArray:=by
 have e:(fun (m:Nat)=>xs[((i:Int)+(m:Int) * 1).toNat]?)=fun m=>xs[i+m]?:=by
  funext m;have:((i:Int)+(m:Int) * 1).toNat=i+m:=by omega
  rw [this]
 rw [e];have:=pick_run xs i k;rw [List.filterMap_map] at this
 have e2:((fun x=>xs[x]?) ∘ fun x=>i+x)=fun m=>xs[i+m]?:=rfl;rw [e2] at this
 rw [this]
theorem lX {t sl:Addr}{items:Ti}{vl vu:Value}{lo hi:Option Int}{Q:Tb}(ht:IsTup s.heap t items)(hs:s.heap.IsSliceOf sl vl vu .none)(pl:IsPart vl lo)(pu:IsPart vu hi)
  (hw:¬ (dl items.size 0 lo=0/\dl items.size items.size hi=items.size))
  (h:Q (.ref s.heap.objs.size) {s with heap:=s.heap.push {cls:=.type "tuple",data:=.seq ((items.toList.drop (dl items.size 0 lo)).take (dl items.size items.size hi - dl items.size 0 lo)).toArray}})
  (hsz:items.size<=sizeLine):wpAny (model prog w) A (getItem (.ref t) (.ref sl)) Q E s:=by
 have htake:sizeOk (.seq ((items.toList.drop (dl items.size 0 lo)).take (dl items.size items.size hi - dl items.size 0 lo)).toArray):=by
  show ((items.toList.drop (dl items.size 0 lo)).take (dl items.size items.size hi - dl items.size 0 lo)).toArray.size<=sizeLine
  rw [zax,zbK,zb5,zaM];omega
 have hj:dl items.size items.size hi<=items.size:=Ig _ _ (zao _) hi;obtain ⟨os,hos,hcs,hds⟩:=id hs;have hTs:s.TypeIs (.ref sl) "slice":=⟨os,hos,hcs⟩;unfold getItem
 try with_reducible refine zaH ?_
 first|refine zab (zad ?_)|skip
 refine zab (wpAny_sequenceKey ht.typeIs (by decide) ?_)
 refine zab (za5 (name:=Str.ofString "__getitem__") ht.typeIs PyProof.Rows.slot_tuple_getitem
  (zaV PyProof.Rows.slot_tuple_getitem ht.typeIs entry_tuple_getitem ?_ (args_tuple_getitem _ _)))
 show wpAny _ _ (Builtin.Tuple.tupleItemsOf (.ref t) >>= _) _ _ s
 refine zab (tupleItemsOf_ ht ?_);refine zab (zbt hTs ?_);rw [if_pos (by decide)];refine zab (iD hs pl pu ?_)
 have hno:¬ ((((dl items.size 0 lo:Nat):Int) == 0 && (1:Int) == 1 && (dl items.size items.size hi - dl items.size 0 lo) == items.size)=true):=by
  intro q;rw [zbU,zbU] at q;have q1:((dl items.size 0 lo:Nat):Int)=0:=eq_of_beq q.1.1;have q2:dl items.size items.size hi - dl items.size 0 lo=items.size:=eq_of_beq q.2;exact hw ⟨by omega,by omega⟩
 show wpAny _ _ (if (((dl items.size 0 lo:Nat):Int) == 0 && (1:Int) == 1 && (dl items.size items.size hi - dl items.size 0 lo) == items.size)=true then _ else _) _ _ s
 rw [if_neg hno,BG]
 first
  |exact zab (m:=Builtin.Tuple.tupleExact _) (zaT (zad ⟨_,rfl,zad h⟩) htake)
  |exact zab (m:=Builtin.Tuple.tupleExact _) (zaT (zab (zad (zad ⟨_,rfl,zad h⟩))) htake)
  |exact zab (zab (m:=Builtin.Tuple.tupleExact _) (zaT (zad (zad ⟨_,rfl,zad h⟩)) htake))
  |exact zab (zab (m:=Builtin.Tuple.tupleExact _) (zaT (zad ⟨_,rfl,zad h⟩) htake))
end
end HT
namespace L2
open PyProof.Rows
abbrev TO:=St->Hp->(Option Int->Hp->Prop)->Prop
def PO (X:Cx)(e:Option Expr)(t:TO):Prop :=
 ∀(pins:Tc) (s:Shared) (Y:St) (H:Hp) (Q:Option Int->Hp->Prop),aF X pins Y H s->t Y H Q ->
  wpAny (model X.prog X.w) X.A (evalPart e X.env) (fun u s'=>∃o H',aF X pins Y H' s'/\IsPart u o/\Q o H') X.xe s
def xk:TO:=fun _ H Q=>Q none H
def GI (t:TE):TO:=fun Y H Q=>t Y H fun x H1=>∃i,x=.int i/\Q (some i) H1
section
variable {X:Cx}{e:Expr}{te:TE}{lo hi:Option Expr}{tl th:TO}{pos p2:Pos}
def EB:PO X none xk:=by intro pins s Y H Q I h;rw [evalPart_none];exact zad ⟨none,H,I,.none,h⟩
def EA (h:PE X e te):PO X (some e) (GI te):=by intro pins s Y H Q I hw;rw [evalPart_some];refine cL (h pins s Y H _ I hw) fun u s1 hh=>?_;obtain ⟨x,H1,I1,r1,q1⟩:=hh;obtain ⟨i,rfl,q⟩:=q1;obtain ⟨t,rfl⟩:=r1;exact ⟨some i,H1,I1,.int i t,q⟩
def Ds (X:Cx)(r:V->Option Int->Option Int->Hp->VK->Prop):Prop :=
 ∀(pins:Tc) (s:Shared) (Y:St) (H:Hp) (x:V) (v vl vu:Value) (lo hi:Option Int) (sl:Addr) (Q:VK),aF X pins Y H s->aW x v->s.heap.IsSliceOf sl vl vu .none->IsPart vl lo->IsPart vu hi->r x lo hi H Q ->
  ∃T id,typeLookup (.type T) "__getitem__" = pure (some (.builtin id))/\s.TypeIs v T/\wpAny (model X.prog X.w) X.A (getItem v (.ref sl)) (EP X pins Y Q) X.xe s
def Ds.or {r r':V->Option Int->Option Int->Hp->VK->Prop}(h:Ds X r)(h':Ds X r'):Ds X (fun x lo hi H Q=>r x lo hi H Q\/r' x lo hi H Q):=by
 intro pins s Y H x v vl vu lo hi sl Q I rx hs pl pu q;rcases q with q|q
 ·exact h pins s Y H x v vl vu lo hi sl Q I rx hs pl pu q
 ·exact h' pins s Y H x v vl vu lo hi sl Q I rx hs pl pu q
def RG (r:V->Option Int->Option Int->Hp->VK->Prop)(te:TE)(tl th:TO):TE:=fun Y H Q=>te Y H fun x H1=>tl Y H1 fun l H2=>th Y H2 fun u H3=>r x l u H3 Q
theorem BK {r:V->Option Int->Option Int->Hp->VK->Prop}(hr:Ds X r)(he:PE X e te)(hl:PO X lo tl)(hu:PO X hi th):PE X (.Subscript e (.Slice lo hi none p2) pos) (RG r te tl th):=by
 intro pins s Y H Q I h;refine Subscript_ (cL (he pins s Y H _ I h) fun v s1 hh=>?_);obtain ⟨x,H1,I1,r1,q1⟩:=hh;refine wpAny_Slice (cL (hl pins s1 Y H1 _ I1 q1) fun vl s2 hh=>?_);obtain ⟨l,H2,I2,pl,q2⟩:=hh;refine cL (hu pins s2 Y H2 _ I2 q2) fun vu s3 hh=>?_;obtain ⟨u,H3,I3,pu,q3⟩:=hh;rw [evalPart_none];refine zad ?_;have I4:aF X pins Y H3 {s3 with heap:=s3.heap.push {cls:=.type "slice",data:=.fields #[vl,vu,.none]}}:=I3.kept (t':=s3.toks) fun b ob q=>zae _ q;obtain ⟨T,id,hT,ht,hg⟩:=hr pins {s3 with heap:=s3.heap.push {cls:=.type "slice",data:=.fields #[vl,vu,.none]}} Y H3 x v vl vu l u s3.heap.objs.size Q I4 r1 (Heap.IsSliceOf.new ..) pl pu q3
 show wpAny (model X.prog X.w) X.A (subscriptTail e (.Slice lo hi none p2) v (.ref s3.heap.objs.size)) (EP X pins Y Q) X.xe {s3 with heap:=s3.heap.push {cls:=.type "slice",data:=.fields #[vl,vu,.none]}}
 exact tail_any (ops:=[.ref s3.heap.objs.size,v]) ht hT hg (by with_unfolding_all rfl)
def se (xs:List V)(lo hi:Option Int):List V:=(xs.drop (HT.dl xs.length 0 lo)).take (HT.dl xs.length xs.length hi - HT.dl xs.length 0 lo)
def ng (xs:List V)(lo hi:Option Int):(se xs lo hi).length<=xs.length:=by unfold se;rw [zbK,zb5];omega
def LN (K:zac):V->Option Int->Option Int->Hp->VK->Prop:=fun x lo hi H Q=>∃a xs,x=.ref a/\hX K H a xs /\
 ¬ (HT.dl xs.length 0 lo=0/\HT.dl xs.length xs.length hi=xs.length)/\∀p,H p=none->Q (.ref p) (upd H p (.tup (se xs lo hi)))
def Ia:Ds X (LN X.K):=by
 intro pins s Y H x v vl vu lo hi sl Q I rx hs pl pu h;obtain ⟨a,xs,rfl,hx,hw,q⟩:=h;cases rx;obtain ⟨its,r,ht,hz⟩:=I.tuple hx;have hlen:its.toArray.size=xs.length:=by rw [zax];exact r.length.symm
 refine ⟨"tuple",_,PyProof.Rows.slot_tuple_getitem.lookup,ht.typeIs,?_⟩;refine HT.lX ht hs pl pu (by rw [hlen];exact hw) ?_ (by rw [hlen];exact hz);rw [hlen];refine ⟨.ref s.heap.objs.size,_,I.laid (t':=s.toks) (o:=.tup (se xs lo hi)) (fun b ob q=>zae _ q) (zao _) ?_,rfl,q _ (I.hok.fresh (zao _))⟩;exact ⟨zbo (ng xs lo hi) hz,_,(r.drop (HT.dl xs.length 0 lo)).take (HT.dl xs.length xs.length hi - HT.dl xs.length 0 lo),jc.new _ _⟩
def GV (K:zac):R2:=fun x y H Q=>∃a b xs ys,x=.ref a/\y=.ref b/\hX K H a xs/\hX K H b ys/\xs≠[]/\xs.length+ys.length<=sizeLine /\
 (ys=[]->Q (.ref a) H)/\(ys≠[]->∀p,H p=none->Q (.ref p) (upd H p (.tup (xs++ys))))
theorem aZ.nil_iff {xs:List V}{us:Te}(r:aZ xs us):us=[] ↔ xs=[]:=by
 cases r with|nil=>simp|cons _ _=>simp
def EX:lu X (binaryOp .Add) (GV X.K):=by intro pins s Y H x y v u Q I rx ry h;obtain ⟨a,b,xs,ys,rfl,rfl,ha,hb,hx,hz,q1,q2⟩:=h;cases rx;cases ry;obtain ⟨its,r1,p1,_⟩:=I.tuple ha;obtain ⟨its2,r2,p2,_⟩:=I.tuple hb;refine HT.FH p1 p2 (fun z=>hx (r1.nil_iff.mp z)) (fun z=>⟨.ref a,H,I,rfl,q1 (r2.nil_iff.mp z)⟩) (fun z=>?_) (by rw [←r1.length,←r2.length];exact hz);refine ⟨.ref s.heap.objs.size,_,I.laid (t':=s.toks) (o:=.tup (xs++ys)) (fun b ob q=>zae _ q) (zao _) ?_,rfl,q2 (fun w=>z (r2.nil_iff.mpr w)) _ (I.hok.fresh (zao _))⟩;exact ⟨by rw [za1];exact hz,_,r1.append r2,jc.new _ _⟩
end
noncomputable def Cg (n:Nat)(i:Int):Option Nat:=if 0<=i then (if i < n then some i.toNat else none) else if -(n:Int)<=i then some (i+n).toNat else none
def nW {Z:Type}(xs:List Z)(i:Int):Option Z:=(Cg xs.length i).bind fun j=>xs[j]?
def xV {n:Nat}{i:Int}{j:Nat}(h:Cg n i=some j):seqIndex? i n=some j/\j < n/\-(n:Int)<=i/\i < n:=by
 unfold Cg at h;by_cases h0:0<=i
 ·rw [if_pos h0] at h;by_cases h1:i < n
  ·rw [if_pos h1] at h;have e:i.toNat=j:=Option.some.inj h;exact ⟨by rw [seqIndex_of h0 h1,e],by omega,by omega,h1⟩
  ·rw [if_neg h1] at h;cases h
 ·rw [if_neg h0] at h;by_cases h1 : -(n:Int)<=i
  ·rw [if_pos h1] at h;have e:(i+n).toNat=j:=Option.some.inj h;exact ⟨by rw [seqIndex_neg (by omega) h1,e],by omega,h1,by omega⟩
  ·rw [if_neg h1] at h;cases h
theorem so {Z:Type}{xs:List Z}{i:Int}{v:Z}(h:nW xs i=some v):∃j,seqIndex? i xs.length=some j/\xs[j]?=some v/\j < xs.length/\-(xs.length:Int)<=i/\i < xs.length:=by
 unfold nW at h
 cases e:Cg xs.length i with|none=>rw [e] at h;cases h|some j =>
  rw [e] at h;obtain ⟨h1,h2,h3,h4⟩:=xV e;exact ⟨j,h1,h,h2,h3,h4⟩
def yv (b:Expr):Prop:=∀o i,subscripted b false o i=operate [o,i] (getItem o i)
def FZ (X:Cx)(r:R2):Prop :=
 ∀(value slice:Expr) (pins:Tc) (s:Shared) (Y:St) (H:Hp) (x y:V) (v u:Value) (Q:VK),aF X pins Y H s->aW x v->aW y u->r x y H Q ->
  subscripted slice false v u=operate [v,u] (getItem v u)->wpAny (model X.prog X.w) X.A (subscriptTail value slice v u) (EP X pins Y Q) X.xe s
def SN (X:Cx)(id:String)(r:V->List V->Hp->VK->Prop):Prop :=
 ∀(pins:Tc) (s:Shared) (Y:St) (H:Hp) (x:V) (xs:List V) (v:Value) (us:Te) (Q:VK),aF X pins Y H s->aW x v->aZ xs us->r x xs H Q ->
  wpAny (model X.prog X.w) X.A (call (.builtin id) (v::us)) (EP X pins Y Q) X.xe s
section
variable {X:Cx}{a b:Expr}{ta tb:TE}{pos:Pos}
def FZ.or {r r':R2}(h:FZ X r)(h':FZ X r'):FZ X (fun x y H Q=>r x y H Q\/r' x y H Q):=by
 intro value slice pins s Y H x y v u Q I rx ry q hs;rcases q with q|q
 ·exact h value slice pins s Y H x y v u Q I rx ry q hs
 ·exact h' value slice pins s Y H x y v u Q I rx ry q hs
def Mj {r:R2}(hr:FZ X r)(ha:PE X a ta)(hb:PE X b tb)(hs:yv b):PE X (.Subscript a b pos) (KH r ta tb):=by intro pins s Y H Q I h;exact Subscript_ (Ku ha hb I h fun v u s2 x y H2 I2 rx ry q=>hr a b pins s2 Y H2 x y v u Q I2 rx ry q (hs _ _))
def LT (K:zac):R2:=fun x y H Q=>∃p xs i v,x=.ref p/\y=.int i/\jg K H p xs/\nW xs i=some v/\Q v H
def LR (K:zac):R2:=fun x y H Q=>∃p xs i v,x=.ref p/\y=.int i/\hX K H p xs/\nW xs i=some v/\Q v H
def LS:R2:=fun x y H Q=>∃z i c,x=.str z/\y=.int i/\z.length<=sizeLine/\nW z.cps.toList i=some c/\Q (.str ⟨#[c]⟩) H
def Fa:FZ X (LT X.K):=by
 intro value slice pins s Y H x y v u Q I rx ry h hs;obtain ⟨p,xs,i,z,rfl,rfl,hq,he,q⟩:=h;cases rx;obtain ⟨t,rfl⟩:=ry;obtain ⟨its,r,pl,hz⟩:=I.list hq;obtain ⟨j,h1,h2,h3,h4,h5⟩:=so he;obtain ⟨w,ew,rw'⟩:=r.get h2;have hl:=r.length;have hn:=my;have fin:EP X pins Y Q w s:=⟨z,H,I,rw',q⟩;by_cases h0:0<=i
 ·have hj:i.toNat=j:=by
   rw [seqIndex_of h0 h5] at h1;exact Option.some.inj h1
  exact item_listR pl.isList h0 (by omega) (by rw [hj];simpa using ew) fin hs
 ·have hj:(i+(its.toArray.size:Int)).toNat=j:=by
   rw [seqIndex_neg (by omega) h4] at h1;rw [zax,←hl];exact Option.some.inj h1
  exact subscriptTail_builtinR (x:=w) pl.isList.typeIs slot_list_getitem.lookup
   (wpAny_getItem_list_neg (Q:=fun r s'=>r=w/\EP X pins Y Q r s') pl.isList (by omega) (by rw [zax] <;> omega) (by omega) (by rw [hj];simpa using ew) ⟨rfl,fin⟩) hs
def JR:FZ X (LR X.K):=by
 intro value slice pins s Y H x y v u Q I rx ry h hs;obtain ⟨p,xs,i,z,rfl,rfl,hq,he,q⟩:=h;cases rx;obtain ⟨t,rfl⟩:=ry;obtain ⟨its,r,pl,hz⟩:=I.tuple hq;obtain ⟨j,h1,h2,h3,h4,h5⟩:=so he;obtain ⟨w,ew,rw'⟩:=r.get h2;have hl:=r.length;have hn:=my;have fin:EP X pins Y Q w s:=⟨z,H,I,rw',q⟩;exact subscriptTail_builtinR (x:=w) pl.typeIs slot_tuple_getitem.lookup
  (getItem_tuple (j:=j) (Q:=fun r s'=>r=w/\EP X pins Y Q r s') pl (by omega) (by omega) (by rw [zax,←hl];exact h1) (by simpa using ew) ⟨rfl,fin⟩) hs
def JS:FZ X LS:=by
 intro value slice pins s Y H x y v u Q I rx ry h hs;obtain ⟨z,i,c,rfl,rfl,hz,he,q⟩:=h;obtain ⟨t,rfl⟩:=rx;obtain ⟨t',rfl⟩:=ry;obtain ⟨j,h1,h2,h3,h4,h5⟩:=so he;have hl:z.cps.toList.length=z.length:=by simp [Str.length]
 rw [hl] at h1 h4 h5;have hn:=my;exact tail_any (typeIs_str s z t) slot_str_getitem.lookup (getItem_str (c:=c) (by have e1:decide (i < -(2 ^ 63:Int))=false:=zaG (by omega);have e2:decide (i >= 2 ^ 63)=false:=zaG (by omega);rw [e1,e2,zcM]) (by rw [h1];simpa using h2) ⟨.str ⟨#[c]⟩,H,I.tok _,⟨_,rfl⟩,q⟩) hs
def RL (K:zac):R2:=fun x y H Q=>LT K x y H Q\/LR K x y H Q\/LS x y H Q
def JT:FZ X (RL X.K):=Fa.or (JR.or JS)
def v0 (its:Te)(n j:Nat)(u:Value):Obj.mapSeq (·.setIfInBounds j u) {cls:=.type "list",data:=.seq its.toArray n}={cls:=.type "list",data:=.seq (its.set j u).toArray n}:=by simp [Obj.mapSeq]
def aF.lst {H:Hp}{s:Shared}{p:Addr}{xs:List V}(I:aF X pins Y H s)(h:H p=some (.lst xs)) :
  ∃(its:Te) (n:Nat),aZ xs its/\s.heap.get? p=some {cls:=.type "list",data:=.seq its.toArray n}/\xs.length<=sizeLine:=by
 obtain ⟨z,its,n,r,e⟩:=I.hok p _ h;exact ⟨its,n,r,e,z⟩
def aF.lstUpd {H:Hp}{s:Shared}{p:Addr}{xs ys:List V}{its its':Te}{n n':Nat}{f:Obj->Obj}(I:aF X pins Y H s)(h:H p=some (.lst xs))
  (ho:s.heap.get? p=some {cls:=.type "list",data:=.seq its.toArray n}) (hf:f {cls:=.type "list",data:=.seq its.toArray n}={cls:=.type "list",data:=.seq its'.toArray n'}) (r:aZ ys its') (hz:ys.length<=sizeLine) (t:Nat) :
  aF X pins Y (upd H p (.lst ys)) {s with heap:=s.heap.update p f,toks:=t}:=by
 have e:(s.heap.update p f).get? p=some {cls:=.type "list",data:=.seq its'.toArray n'}:=by
  rw [zaJ f ho (by rw [hf] <;> rfl),hf]
 refine I.write (x:=p) (e:=p) (by rw [h];trivial) (.inl rfl) (fun b u hb q=>(zaz _ _ (Ne.symm hb)).trans q) ⟨_,e⟩ ?_;exact ⟨hz,its',n',r,e⟩
def Bl:V->V->V->Hp->(Hp->Prop)->Prop:=fun o i v H Q=>∃p xs k j,o=.ref p/\i=.int k/\H p=some (.lst xs)/\Cg xs.length k=some j/\Q (upd H p (.lst (xs.set j v)))
def AS:sx X Bl:=by
 intro pins s Y H o i v ov iv u Q I ro ri rv h;obtain ⟨p,xs,k,j,rfl,rfl,hp,hj,q⟩:=h;cases ro;obtain ⟨t,rfl⟩:=ri;obtain ⟨its,n,r,ho,hz⟩:=I.lst hp;obtain ⟨h1,h2,h3,h4⟩:=xV hj;have hl:=r.length;have hn:=my;have I':aF X pins Y (upd H p (.lst (xs.set j v))) {s with heap:=s.heap.update p (Obj.mapSeq (·.setIfInBounds j u))} :=
  I.lstUpd hp ho (v0 its n j u) (r.set rv j) (by rw [zbm];exact hz) s.toks
 by_cases h0:0<=k
 ·have hk:k.toNat=j:=by
   rw [seqIndex_of h0 h4] at h1;exact Option.some.inj h1
  exact PySem.W.ki_setAt ho h0 (by omega) (by rw [zax,←hl];exact h4) (by rw [hk];exact ⟨_,I',q⟩)
 ·have hk:(k+(its.toArray.size:Int)).toNat=j:=by
   rw [seqIndex_neg (by omega) h3] at h1;rw [zax,←hl];exact Option.some.inj h1
  exact PySem.W.ki_setBack ho (by omega) (by rw [zax,←hl];exact h3) (by omega) (by rw [hk];exact ⟨_,I',q⟩)
def qY (lo hi:Option Int)(n:Nat):(sliceBounds lo hi none n).1=((HT.dl n 0 lo:Nat):Int)/\(sliceBounds lo hi none n).2.1=((HT.dl n n hi:Nat):Int)/\(sliceBounds lo hi none n).2.2=1:=by
 refine ⟨?_,?_,rfl⟩
 ·cases lo with|none=>simp [sliceBounds,HT.dl]|some i =>
   simp only [sliceBounds,HT.dl,Option.getD_none,show (1:Int) > 0 by decide,if_true];by_cases h:i < 0
   ·simp only [h,if_true] <;> omega
   ·simp only [h,if_false] <;> omega
 ·cases hi with|none=>simp [sliceBounds,HT.dl]|some i =>
   simp only [sliceBounds,HT.dl,Option.getD_none,show (1:Int) > 0 by decide,if_true];by_cases h:i < 0
   ·simp only [h,if_true] <;> omega
   ·simp only [h,if_false] <;> omega
theorem pQ (its:Te)(lo hi:Option Int):slicePick its.toArray lo hi none=((its.drop (HT.dl its.length 0 lo)).take (HT.dl its.length its.length hi - HT.dl its.length 0 lo)).toArray:=by obtain ⟨h1,h2,h3⟩:=qY lo hi its.toArray.size;unfold slicePick;rw [h1,h2,h3];simp only [sliceRange_one,pick_run,zax] <;> rfl
def LO (K:zac):V->Option Int->Option Int->Hp->VK->Prop:=fun x lo hi H Q=>∃a xs,x=.ref a/\jg K H a xs/\∀p,H p=none->Q (.ref p) (upd H p (.lst (se xs lo hi)))
def DX:Ds X (LO X.K):=by intro pins s Y H x v vl vu lo hi sl Q I rx hs pl pu h;obtain ⟨a,xs,rfl,hx,q⟩:=h;cases rx;obtain ⟨its,r,ht,hz⟩:=I.list hx;have hlen:=r.length;refine ⟨"list",_,slot_list_getitem.lookup,ht.isList.typeIs,?_⟩;refine wpAny_getItem_list_slice ht.isList hs pl pu .none (by simp) ?_ (by rw [zax] <;> omega);rw [pQ,←hlen];refine ⟨.ref s.heap.objs.size,_,I.laid (t':=s.toks) (o:=.lst (se xs lo hi)) (fun b ob q=>zae _ q) (zao _) ?_,rfl,q _ (I.hok.fresh (zao _))⟩;exact ⟨zbo (ng xs lo hi) hz,_,0,(r.drop (HT.dl xs.length 0 lo)).take (HT.dl xs.length xs.length hi - HT.dl xs.length 0 lo),zaq _ rfl⟩
def lZ:V->Bool
 |.non=>true|.bl _=>true|.int _=>true|.str _=>true|_=>false
noncomputable def Fu:V->V->Bool
 |.non,.non=>true|.bl a,.bl b=>a == b|.bl a,.int b=>(if a then 1 else 0) == b|.int a,.bl b=>a == (if b then 1 else 0)|.int a,.int b=>a == b|.str a,.str b=>a == b|_,_=>false
theorem Kj {s:Shared}{y x:V}{u v:Value}(ry:aW y u)(rx:aW x v)(fy:lZ y=true)(fx:lZ x=true):SeqAt.EqAt A s u v (Fu y x):=by
 cases y with
 |non =>
  cases ry
  cases x with
  |non=>cases rx;exact SeqAt.EqAt.same _|bl b=>cases rx;exact SeqAt.EqAt.none_bool b|int b=>obtain ⟨t,rfl⟩:=rx;exact SeqAt.EqAt.none_int b t
  |str b=>obtain ⟨t,rfl⟩:=rx;exact SeqAt.EqAt.none_str b t
  |_=>exact absurd (show false=true from fx) zbh
 |bl a =>
  cases ry
  cases x with
  |non=>cases rx;exact SeqAt.EqAt.bool_none a|bl b=>cases rx;exact SeqAt.EqAt.bool_bool a b|int b=>obtain ⟨t,rfl⟩:=rx;exact SeqAt.EqAt.bool_int a b t
  |str b=>obtain ⟨t,rfl⟩:=rx;exact SeqAt.EqAt.bool_str a b t
  |_=>exact absurd (show false=true from fx) zbh
 |int a =>
  obtain ⟨t',rfl⟩:=ry
  cases x with
  |non=>cases rx;exact SeqAt.EqAt.int_none a t'|bl b=>cases rx;exact SeqAt.EqAt.int_bool a t' b|int b=>obtain ⟨t,rfl⟩:=rx;exact SeqAt.EqAt.int_int a t' b t
  |str b=>obtain ⟨t,rfl⟩:=rx;exact SeqAt.EqAt.int_str a t' b t
  |_=>exact absurd (show false=true from fx) zbh
 |str a =>
  obtain ⟨t',rfl⟩:=ry
  cases x with
  |non=>cases rx;exact SeqAt.EqAt.str_none a t'|bl b=>cases rx;exact SeqAt.EqAt.str_bool a t' b|int b=>obtain ⟨t,rfl⟩:=rx;exact SeqAt.EqAt.str_int a t' b t
  |str b=>obtain ⟨t,rfl⟩:=rx;exact SeqAt.EqAt.str_str a t' b t
  |_=>exact absurd (show false=true from fx) zbh
 |_=>exact absurd (show false=true from fy) zbh
def Fv (x:V)(u:Value):Bool:=match u with
 |.none=>Fu .non x|.bool b=>Fu (.bl b) x|.int i _=>Fu (.int i) x|.str z _=>Fu (.str z) x|_=>false
theorem CW {x y:V}{u:Value}(r:aW y u)(f:lZ y=true):Fv x u=Fu y x:=by
 cases y with
 |non=>cases r;rfl|bl b=>cases r;rfl|int i=>obtain ⟨t,rfl⟩:=r;rfl
 |str z=>obtain ⟨t,rfl⟩:=r;rfl
 |_=>exact absurd (show false=true from f) zbh
theorem sv {x:V}:∀{xs:List V} {us:Te},aZ xs us->xs.all lZ=true->us.any (Fv x)=xs.any fun y=>Fu y x
 |_,_,.nil,_=>rfl|y::xs,u::us,.cons r t,f=>by rw [List.all_cons,zbU] at f;rw [zbA,zbA,CW r f.1,sv t f.2]
theorem oJ {s:Shared}{x:V}{v:Value}(rx:aW x v)(fx:lZ x=true):∀{xs:List V} {us:Te},aZ xs us->xs.all lZ=true->∀u∈us,SeqAt.EqAt A s u v (Fv x u)
 |_,_,.nil,_=>fun u hu=>by cases hu|y::xs,u::us,.cons r t,f=>fun u' hu=>by
  rw [List.all_cons,zbU] at f;rcases zal.mp hu with rfl|hu
  ·rw [CW r f.1];exact Kj r rx f.1 fx
  ·exact oJ rx fx t f.2 u' hu
def NM (x:V)(xs:List V):Bool:=xs.any fun y=>Fu y x
def ND (K:zac)(neg:Bool):R2:=fun x y H Q=>∃p xs,y=.ref p/\(jg K H p xs\/hX K H p xs)/\lZ x=true/\xs.all lZ=true/\Q (.bl (if neg then !NM x xs else NM x xs)) H
def rG:lu X (compareOp .NotIn) (ND X.K true):=by
 intro pins s Y H x y v u Q I rx ry h;obtain ⟨p,xs,rfl,hq,fx,fs,q⟩:=h;cases ry;rcases hq with hq|hq
 ·obtain ⟨its,r,pl,hz⟩:=I.list hq;refine SeqAt.notIn_listAt (Fv x) pl.isList (fun w hw=>oJ rx fx r fs w (by simpa using hw)) ⟨.bl _,H,I,rfl,?_⟩;rw [show its.toArray.any (Fv x)=its.any (Fv x) by simp,sv r fs];exact q
 ·obtain ⟨its,r,pl,hz⟩:=I.tuple hq;refine SeqAt.notIn_tupleAt (Fv x) pl (fun w hw=>oJ rx fx r fs w (by simpa using hw)) ⟨.bl _,H,I,rfl,?_⟩;rw [show its.toArray.any (Fv x)=its.any (Fv x) by simp,sv r fs];exact q
def sm:ip X (.builtin "len") (fun xs H Q=>∃p ys,xs=[.ref p]/\(jg X.K H p ys\/hX X.K H p ys)/\Q (.int ys.length) H):=by
 intro pins s Y H xs us Q I r h;obtain ⟨p,ys,rfl,hq,q⟩:=h;obtain ⟨u,rfl,rx⟩:=mU r;cases rx;have hn:=my;rcases hq with hq|hq
 ·obtain ⟨its,r',pl,hz⟩:=I.list hq;have hlen:=r'.length;exact Calls.call_len_list pl.isList (by simp only [zax] <;> omega) ⟨.int ys.length,H,I.tok _,⟨s.toks+1,by rw [zax,hlen]⟩,q⟩
 ·obtain ⟨its,r',pl,hz⟩:=I.tuple hq;have hlen:=r'.length;exact len_tuple pl (by simp only [zax] <;> omega) ⟨.int ys.length,H,I.tok _,⟨s.toks+1,by rw [zax,hlen]⟩,q⟩
def sk:ip X (.type "list") (fun xs H Q=>∃p ys,xs=[.ref p]/\(jg X.K H p ys\/hX X.K H p ys)/\∀l,H l=none->Q (.ref l) (upd H l (.lst ys))):=by
 intro pins s Y H xs us Q I r h;obtain ⟨p,ys,rfl,hq,q⟩:=h;obtain ⟨u,rfl,rx⟩:=mU r;cases rx;have fin:∀(its:Te),aZ ys its->ys.length<=sizeLine->∀(h':Heap) (c':Nat),(∀b o',s.heap.get? b=some o'->h'.get? b=some o') ->
   h'.get? s.heap.objs.size=some {cls:=.type "list",dict:=none,data:=.seq its.toArray c',slots:=#[]}->EP X pins Y Q (.ref s.heap.objs.size) {s with heap:=h'}:=fun its r' hz h' c' kp e =>
  ⟨.ref s.heap.objs.size,_,I.laid (t':=s.toks) kp (zao _) (show bI X.prog X.w _ h' _ (.lst ys) from ⟨hz,its,c',r',e⟩),rfl,q _ (I.hok.fresh (zao _))⟩
 rcases hq with hq|hq
 ·obtain ⟨its,r',pl,hz⟩:=I.list hq;have hlen:=r'.length;obtain ⟨o,ho,hc,n,hd⟩:=pl.isList;exact call_list_seq p (.inl rfl) ho hc hd (fun h' c' kp e=>fin its r' hz h' c' kp e) (by simp only [zax] <;> omega)
 ·obtain ⟨its,r',pl,hz⟩:=I.tuple hq;have hlen:=r'.length;obtain ⟨o,ho,hc,n,hd⟩:=pl;exact call_list_seq p (.inr rfl) ho hc hd (fun h' c' kp e=>fin its r' hz h' c' kp e) (by simp only [zax] <;> omega)
def kN:ip X (.type "tuple") (fun xs H Q=>∃p ys,xs=[.ref p]/\((jg X.K H p ys/\∀l,H l=none->Q (.ref l) (upd H l (.tup ys)))\/(hX X.K H p ys/\Q (.ref p) H))):=by
 intro pins s Y H xs us Q I r h;obtain ⟨p,ys,rfl,h⟩:=h;obtain ⟨u,rfl,rx⟩:=mU r;cases rx;rcases h with ⟨hq,q⟩|⟨hq,q⟩
 ·obtain ⟨its,r',pl,hz⟩:=I.list hq;have hlen:=r'.length;refine call_tuple_list pl.isList (fun h' kp=>?_) (by simp only [zax] <;> omega);have I1:aF X pins Y H {s with heap:=h'}:=I.kept (t':=s.toks) kp;have I2:aF X pins Y (upd H h'.objs.size (.tup ys)) {s with heap:=h'.push {cls:=.type "tuple",data:=.seq its.toArray}} :=
   I1.laid (t':=s.toks) (fun b o e=>zae _ e) (zao _) (show bI X.prog X.w _ _ _ (.tup ys) from ⟨hz,its,r',jc.new _ _⟩)
  exact ⟨.ref h'.objs.size,_,I2,rfl,q _ (I1.hok.fresh (zao _))⟩
 ·obtain ⟨its,r',pl,hz⟩:=I.tuple hq;exact call_tuple_same pl ⟨.ref p,H,I,rfl,q⟩
def OX (K:zac)(T:String)(x:V)(H:Hp):Prop:=match x with
 |.str _=>T = "str"|.int _=>T = "int"|.ref p=>(T = "list"/\∃xs,jg K H p xs)\/(T = "tuple"/\∃o,K.lookup p=some o/\o.cls=.type "tuple"/\o.dict=none) \/
   (T = "dict"/\((∃kvs,H p=some (.dK kvs))\/∃kvs,H p=some (.dT kvs)))\/(T = "set"/\∃S n,H p=some (.set S n))
 |_=>False
theorem HI {H:Hp}{s:Shared}{T:String}{x:V}{v:Value}(I:aF X pins Y H s)(r:aW x v)(ty:OX X.K T x H) :
  s.TypeIs v T/\∀a,v=.ref a->∃ob,s.heap.get? a=some ob/\ob.dict=none:=by
 cases x with
 |str z =>
  obtain ⟨t,rfl⟩:=r;cases (show T = "str" from ty);exact ⟨typeIs_str s z t,fun _ e=>nomatch e⟩
 |int i =>
  obtain ⟨t,rfl⟩:=r;cases (show T = "int" from ty);exact ⟨typeIs_int s i t,fun _ e=>nomatch e⟩
 |ref p =>
  cases r;rcases ty with ⟨rfl,xs,hq⟩|⟨rfl,o,hk,hc,hd⟩|⟨rfl,hk⟩|⟨rfl,S,n,hk⟩
  ·obtain ⟨its,_,pl,_⟩:=I.list hq
   refine ⟨pl.isList.typeIs,fun a e=>?_⟩;cases e;obtain ⟨o,n,e,c,hd,_⟩:=pl;exact ⟨o,e,hd⟩
  ·refine ⟨⟨o,I.kIn p o hk,hc⟩,fun a e=>?_⟩
   cases e;exact ⟨o,I.kIn _ o hk,hd⟩
  ·have z:∃o,s.heap.get? p=some o/\o.ExactDict:=by
    rcases hk with ⟨kvs,hk⟩|⟨kvs,hk⟩
    ·obtain ⟨_,_,_,_,o,_,_,e,ex,_⟩:=I.hok p _ hk
     exact ⟨o,e,ex⟩
    ·obtain ⟨_,_,_,_,o,_,_,e,ex,_⟩:=I.hok p _ hk
     exact ⟨o,e,ex⟩
   obtain ⟨o,e,ex⟩:=z;refine ⟨⟨o,e,ex.1⟩,fun a e2=>?_⟩;cases e2;exact ⟨o,e,ex.2.1⟩
  ·obtain ⟨o,_,_,_,e,ex,_⟩:=I.hok p _ hk
   refine ⟨⟨o,e,ex.1⟩,fun a e2=>?_⟩;cases e2;exact ⟨o,e,ex.2.1⟩
 |_=>exact False.elim ty
def RK (K:zac)(T:String)(r:V->List V->Hp->VK->Prop)(to:TE)(t:TA):TE:=fun Y H Q=>to Y H fun x H1=>OX K T x H1/\t Y H1 fun xs H2=>r x xs H2 Q
variable {o e:Expr}{es:Tj}{to:TE}{t:TA}{name:Str}{apos cpos:Pos}{T id:String}{r:V->List V->Hp->VK->Prop}
theorem Mk (pa:PlainAttrs T)(slot:Slot T name id)(hty:typeOf (.builtin id)=pure (.type "method_descriptor"))(hm:SN X id r)(ho:PE X o to)(ha:PA X (e::es) t)
  (hbase:attributeBase o name X.env (eval o X.env)=eval o X.env:=by rfl)
  (hfew:((backTo cpos (starEach (e::es) X.env)).all (fun x=>!x.1) && (backToKw cpos (keywordEach [] X.env)).all (fun x=>x.1.isSome)
   && decide ((e::es).length+([]:List Keyword).length+(if ([]:List Keyword).isEmpty then 0 else 1) < 30))=true:=by rfl)
  (hline:(apos.endLine == cpos.line)=true:=by rfl) (hs:starEach (e::es) X.env=(false,eval e X.env)::starEach es X.env:=by rfl) (hplain:(backTo cpos (starEach es X.env)).any (·.1)=false:=by rfl) :
  PE X (.Call (.Attribute o name apos) (e::es) [] cpos) (RK X.K T r to t):=by
 intro pins s Y H Q I h;refine wpAny_Call_method_late hbase hfew hline rfl (cL (ho pins s Y H _ I h) fun v s1 hh=>?_);obtain ⟨x,H1,I1,r1,ty,q1⟩:=hh;obtain ⟨h1,h2⟩:=HI I1 r1 ty;refine ⟨T,id,pa,slot,hty,h1,h2,?_⟩;have hA:=ha cpos pins s1 Y H1 _ I1 q1;rw [hs] at hA ⊢;refine Calls.callWith_builtin (by show (false || (backTo cpos (starEach es X.env)).any (·.1))=false;rw [hplain] <;> rfl) (Calls.evalArgs_plain ?_);exact cL hA fun us s2 ⟨vs,H2,I2,r2,q2⟩=>hm pins s2 Y H2 x vs v us Q I2 r1 r2 q2
end
def SO (X:Cx)(id:String)(r:V->List V->Hp->VK->Prop):Prop :=
 ∀(pins:Tc) (s:Shared) (Y:St) (H:Hp) (x:V) (xs:List V) (v:Value) (us:Te) (Q:VK),aF X pins Y H s->aW x v->aZ xs us->r x xs H Q ->
  wpAny (model X.prog X.w) X.A (call (.builtin id) (v::us)) (EP X pins Y Q) X.xe s
def aZ.one {x:V}{us:Te}(h:aZ [x] us):∃u,us=[u]/\aW x u:=by cases h with|cons r t=>cases t;exact ⟨_,rfl,r⟩
section
variable {X:Cx}{pins:Tc}{Y:St}{H:Hp}{s:Shared}{l:Addr}{xs ys:List V}
def aF.lset {its its':Te}{n:Nat}{f:Array Value->Ti}{t':Nat}(I:aF X pins Y H s)(hH:H l=some (.lst xs))
  (e:s.heap.get? l=some {cls:=.type "list",data:=.seq its.toArray n}) (hf:f its.toArray=its'.toArray) (hv:aZ ys its') (hz:ys.length<=sizeLine) :
  aF X pins Y (upd H l (.lst ys)) {s with heap:=s.heap.update l (Obj.mapSeq f),toks:=t'}:=by
 have q:=PySem.IsL.update e f;rw [hf] at q;refine I.write (x:=l) (e:=l) (by rw [hH];exact trivial) (.inl rfl) (fun b' u hb hu=>(zaz s.heap (Obj.mapSeq f) (Ne.symm hb)).trans hu) ⟨_,q⟩ ?_;exact ⟨hz,its',_,hv,q⟩
def aF.lnew {its:Te}{t':Nat}(I:aF X pins Y H s)(hv:aZ ys its)(hz:ys.length<=sizeLine) :
  aF X pins Y (upd H s.heap.objs.size (.lst ys)) {s with heap:=s.heap.push {cls:=.type "list",data:=.seq its.toArray},toks:=t'} :=
 I.laid (fun _ _ q=>zae _ q) (zao _) ⟨hz,its,0,hv,zaq _ rfl⟩
def aF.fresh (I:aF X pins Y H s):H s.heap.objs.size=none:=I.hok.fresh (zao _)
def aF.lstM (I:aF X pins Y H s)(hH:H l=some (.lst xs)):xs.length<=sizeLine/\∃(its:Te) (n:Nat),aZ xs its/\xs.length=its.length/\s.heap.get? l=some {cls:=.type "list",data:=.seq its.toArray n}:=by obtain ⟨z,its,n,r,e⟩:=I.hok l _ hH;exact ⟨z,its,n,r,r.length,e⟩
end
section
variable {X:Cx}
def xw:V->List V->Hp->VK->Prop:=fun x vs H Q=>∃l xs y,x=.ref l/\vs=[y]/\H l=some (.lst xs)/\xs.length < sizeLine/\Q .non (upd H l (.lst (xs++[y])))
def zg:SO X "list.append" xw:=by intro pins s Y H x vs v us Q I rx rv h;obtain ⟨l,xs,y,rfl,rfl,hH,hz,q⟩:=h;cases rx;obtain ⟨u,rfl,ru⟩:=rv.one;obtain ⟨z,its,n,r,hl,e⟩:=I.lstM hH;refine call_meets F.slot_list_append ⟨_,e,rfl⟩ F.entry_list_append (F.args_list_append_2 _ _) (PySem.list_append l its.toArray n u (by rw [zax];omega)) ⟨e,?_⟩;refine ⟨.non,_,I.lset (its':=its++[u]) hH e (by simp) (r.append (.cons ru .nil)) ?_,rfl,q⟩;rw [za1,List.length_singleton];omega
def LV:R2:=fun x y H Q=>∃l b xs zs,x=.ref l/\y=.ref b/\H l=some (.lst xs)/\H b=some (.lst zs)/\xs.length+zs.length<=sizeLine/\∀p,H p=none->Q (.ref p) (upd H p (.lst (xs++zs)))
def JD:lu X (binaryOp .Add) LV:=by
 intro pins s Y H x y v u Q I rx ry h;obtain ⟨l,b,xs,zs,rfl,rfl,hH,hB,hz,q⟩:=h;cases rx;cases ry;obtain ⟨z,its,n,r,hl,e⟩:=I.lstM hH;obtain ⟨z2,its2,n2,r2,hl2,e2⟩:=I.lstM hB;refine PySem.P.add_list e e2 ?_ (by rw [zax,zax];omega);have ea:its.toArray++its2.toArray=(its++its2).toArray:=by simp
 rw [ea];exact ⟨.ref _,_,I.lnew (t':=s.toks) (r.append r2) (by rw [za1];omega),rfl,q _ I.fresh⟩
end
section
variable {κ:Type}[DecidableEq κ]
def b9 (kvs:List (κ×V))(k:κ):Option V:=(kvs.find? fun kv=>decide (kv.1=k)).map (·.2)
def eB (kvs:List (κ×V))(k:κ)(v:V):List (κ×V) :=
 if (kvs.any fun kv=>decide (kv.1=k))=true then kvs.map (fun kv=>if kv.1=k then (kv.1,v) else kv) else kvs++[(k,v)]
def lz {p:κ×V}{r:List (κ×V)}{k:κ}(e:p.1=k):b9 (p::r) k=some p.2:=by simp [b9,zch,e]
def gF {p:κ×V}{r:List (κ×V)}{k:κ}(e:¬ p.1=k):b9 (p::r) k=b9 r k:=by simp [b9,zch,e]
theorem n5 (k:κ):∀kvs:List (κ×V),(kvs.any fun kv=>decide (kv.1=k))=(b9 kvs k).isSome
 |[]=>rfl|p::r=>by
  rw [zbA];by_cases e:p.1=k
  ·simp only [lz e,zaL e,Bool.true_or,zcw]
  ·rw [gF e,zaG e,Bool.false_or];exact n5 k r
def ie (kvs:List (κ×V))(k:κ)(v:V):(eB kvs k v).length<=kvs.length+1:=by
 unfold eB;split
 ·rw [zah];omega
 ·rw [za1,zaD,zci];omega
def oF {kvs:List (κ×V)}{k:κ}(v:V)(h:b9 kvs k=none):eB kvs k v=kvs++[(k,v)]:=by unfold eB;rw [n5,h];exact if_neg (by decide)
theorem nK.isSome_eq {o:Option V}{u:Tg}(r:nK o u):o.isSome=u.isSome:=by
 cases o with
 |none=>cases u with|none=>rfl|some _=>exact (show False from r).elim
 |some _=>cases u with
  |none=>exact (show False from r).elim
  |some _=>rfl
theorem nK.getD {o:Option V}{u:Tg}{d:V}{d':Value}(r:nK o u)(rd:aW d d'):aW (o.getD d) (u.getD d'):=by
 cases o with
 |none=>cases u with|none=>exact rd|some _=>exact (show False from r).elim
 |some _=>cases u with
  |none=>exact (show False from r).elim
  |some _=>exact r
theorem KV.val {kvs:List (κ×V)}{vs:List (κ×Value)}(r:KV kvs vs)(k:κ):nK (b9 kvs k) (valueAt vs k):=by
 unfold KV at r;induction r with|nil=>exact True.intro| @cons p q ps qs h t ih =>
  obtain ⟨h1,h2⟩:=h;by_cases e:p.1=k
  ·have e':q.1=k:=h1.symm.trans e;have b:valueAt (q::qs) k=some q.2:=(by simp [valueAt,zch,e']);rw [lz e,b];exact h2
  ·have e':¬ q.1=k:=fun z=>e (h1.trans z);have b:valueAt (q::qs) k=valueAt qs k:=(by simp [valueAt,zch,e']);rw [gF e,b];exact ih
theorem KV.any {kvs:List (κ×V)}{vs:List (κ×Value)}(r:KV kvs vs)(k:κ):(kvs.any fun kv=>decide (kv.1=k))=vs.any fun kv=>decide (kv.1=k):=by
 unfold KV at r;induction r with|nil=>rfl|cons h t ih=>rw [zbA,zbA,ih,h.1]
theorem KV.repl {kvs:List (κ×V)}{vs:List (κ×Value)}(r:KV kvs vs)(k:κ){y:V}{u:Value}(ry:aW y u) :
  KV (kvs.map fun kv=>if kv.1=k then (kv.1,y) else kv) (vs.map fun kv=>if kv.1=k then (kv.1,u) else kv):=by
 unfold KV at r ⊢
 induction r with|nil=>exact .nil| @cons p q ps qs h t ih =>
  rw [zaf,zaf];refine .cons ?_ ih;obtain ⟨h1,h2⟩:=h
  by_cases e:p.1=k
  ·rw [if_pos e,if_pos (h1.symm.trans e)];exact ⟨h1,ry⟩
  ·rw [if_neg e,if_neg (fun z=>e (h1.trans z))];exact ⟨h1,h2⟩
def KV.put {kvs:List (κ×V)}{vs:List (κ×Value)}(r:KV kvs vs)(k:κ){y:V}{u:Value}(ry:aW y u):KV (eB kvs k y) (stored vs k u):=by
 unfold eB stored;rw [r.any k];by_cases e:(vs.any fun kv=>decide (kv.1=k))=true
 ·rw [if_pos e,if_pos e];exact r.repl k ry
 ·rw [if_neg e,if_neg e];exact Paired.snoc r ⟨rfl,ry⟩
def KV.length {kvs:List (κ×V)}{vs:List (κ×Value)}(r:KV kvs vs):kvs.length=vs.length:=Paired.length r
end
theorem m5 {k:aH}{u:Value}(r:aW (kV k) u):(aY P w).is k u=true:=by
 cases k with
 |inl i=>obtain ⟨t,e⟩:=(show ∃t,u=Value.int i t from r);subst e;exact t8 P w i t
 |inr o=>cases o with
  |some x=>obtain ⟨t,e⟩:=(show ∃t,u=Value.str x t from r);subst e;exact t7 P w x t
  |none=>have e:u=Value.none:=r;subst e;exact zn
theorem qq :∀{ks:List aH} {us:Te},aZ (ks.map kV) us->ItemsAre (aY P w) ks us
 |[],_,r=>by rw [zbc] at r;cases r;exact .nil|k::ks,_,r=>by
  rw [zaf] at r
  cases r with|cons h t=>exact .cons (m5 h) (qq t)
abbrev KT (H:Hp):List (List aH×V)->List (List aH×Addr×Value)->Prop:=Paired fun p q=>p.1=q.1/\H q.2.1=some (.tup (p.1.map kV))/\aW p.2 q.2.2
theorem KT.val {H:Hp}{kvs:List (List aH×V)}{xs:List (List aH×Addr×Value)}(r:KT H kvs xs)(k:List aH):nK (b9 kvs k) ((atKey xs k).map (·.2)):=by
 induction r with|nil=>exact True.intro| @cons p q ps qs h t ih =>
  obtain ⟨h1,_,h2⟩:=h;by_cases e:p.1=k
  ·have e':q.1=k:=h1.symm.trans e;have b:atKey (q::qs) k=some q.2:=(by simp [atKey,zch,e']);rw [lz e,b];exact h2
  ·have e':¬ q.1=k:=fun z=>e (h1.trans z);have b:atKey (q::qs) k=atKey qs k:=(by simp [atKey,zch,e']);rw [gF e,b];exact ih
theorem KT.repl {H:Hp}{kvs:List (List aH×V)}{xs:List (List aH×Addr×Value)}(r:KT H kvs xs)(k:List aH){y:V}{u:Value}(ry:aW y u) :
  KT H (kvs.map fun kv=>if kv.1=k then (kv.1,y) else kv) (xs.map (putAt k u)):=by
 induction r with|nil=>exact .nil| @cons p q ps qs h t ih =>
  rw [zaf,zaf];refine .cons ?_ ih;obtain ⟨h1,h2,h3⟩:=h;unfold putAt
  by_cases e:p.1=k
  ·rw [if_pos e,if_pos (h1.symm.trans e)];exact ⟨h1,h2,ry⟩
  ·rw [if_neg e,if_neg (fun z=>e (h1.trans z))];exact ⟨h1,h2,h3⟩
def KT.put {H:Hp}{kvs:List (List aH×V)}{xs:List (List aH×Addr×Value)}(r:KT H kvs xs)(k:List aH){b:Addr}{y:V}{u:Value}(hb:H b=some (.tup (k.map kV)))(ry:aW y u) :
  KT H (eB kvs k y) (storedH xs k b u):=by
 have e:(kvs.any fun kv=>decide (kv.1=k))=(atKey xs k).isSome:=by
  rw [n5,(r.val k).isSome_eq,Option.isSome_map]
 unfold eB storedH;rw [e]
 by_cases q:(atKey xs k).isSome=true
 ·rw [if_pos q,if_pos q];exact r.repl k ry
 ·rw [if_neg q,if_neg q];exact Paired.snoc r ⟨rfl,hb,ry⟩
def KT.keeps {H H':Hp}{kvs:List (List aH×V)}{xs:List (List aH×Addr×Value)}(r:KT H kvs xs)(ht:∀b ys,H b=some (.tup ys)->H' b=some (.tup ys)):KT H' kvs xs :=
 Paired.mapP r fun _ _ z=>⟨z.1,ht _ _ z.2.1,z.2.2⟩
section
variable {P:Program}{w:World}{H:Hp}{h:Heap}{a:Addr}
def GS {u:HO}(ok:iJ P w H h)(e:Rd H a u):bI P w H h a u:=e.ok ok
def qD {kvs:List (aH×V)}(ok:iJ P w H h)(e:Rd H a (.dK kvs)):kvs.length<=sizeLine/\(a == sysModules)=false/\∃vs,KV kvs vs/\h.DictOf (aY P w) a vs :=
 show bI P w H h a (.dK kvs) from GS ok e
def C4 {kvs:List (aH×V)}(ok:iJ P w H h)(e:H a=some (.dK kvs)):kvs.length<=sizeLine/\(a == sysModules)=false/\∃vs,KV kvs vs/\h.DictOf (aY P w) a vs:=qD ok (.inl e)
def mz {ks:List aH}(ok:iJ P w H h)(e:H a=some (.tup (ks.map kV))):(tupleKind (aY P w)).is h ks a:=by obtain ⟨_,its,r,⟨o,h1,h2,n,h3⟩,_⟩:=(show bI P w H h a (.tup (ks.map kV)) from ok a _ e);exact ⟨o,its.toArray,n,h1,h2,h3,by simpa using qq r⟩
def qC {kvs:List (List aH×V)}(ok:iJ P w H h)(e:Rd H a (.dT kvs)):kvs.length<=sizeLine/\(a == sysModules)=false /\
  ∃xs,KT H kvs xs/\h.DictOfH (tupleKind (aY P w)) a xs:=by
 obtain ⟨z,y,xs,r,o,es,ep,h1,h2,h3,h4,h5⟩:=(show bI P w H h a (.dT kvs) from GS ok e);refine ⟨z,y,xs,r,o,es,ep,h1,h2,h3,h4,fun x hx=>?_,h5⟩
 have all:∀{l:List (List aH×V)} {m:List (List aH×Addr×Value)},KT H l m->∀x∈m,(tupleKind (aY P w)).is h x.1 x.2.1:=by
  intro l m q
  induction q with
  |nil=>intro x hx;exact nomatch hx
  | @cons p q ps qs hq t ih =>
   intro x hx;rcases zal.mp hx with e|hx
   ·subst e
    exact mz ok (by rw [←hq.1];exact hq.2.1)
   ·exact ih x hx
 exact all r x hx
def Ho {kvs:List (List aH×V)}(ok:iJ P w H h)(e:H a=some (.dT kvs)):kvs.length<=sizeLine/\(a == sysModules)=false /\
  ∃xs,KT H kvs xs/\h.DictOfH (tupleKind (aY P w)) a xs:=qC ok (.inl e)
end
def zP (H:Hp)(a:Addr)(y:V)(r:Option V):Prop :=
 (∃kvs k,Rd H a (.dK kvs)/\y=kV k/\r=b9 kvs k)\/∃kvs k b,Rd H a (.dT kvs)/\y=.ref b/\H b=some (.tup (k.map kV))/\r=b9 kvs k
def w4 (H:Hp)(a:Addr)(y v:V)(H':Hp):Prop :=
 (∃kvs k,H a=some (.dK kvs)/\y=kV k/\kvs.length < sizeLine/\H'=upd H a (.dK (eB kvs k v))) \/
 ∃kvs k b,H a=some (.dT kvs)/\y=.ref b/\H b=some (.tup (k.map kV))/\kvs.length < sizeLine/\H'=upd H a (.dT (eB kvs k v))
def w4.k {H:Hp}{a:Addr}{kvs:List (aH×V)}{k:aH}{v:V}(e:H a=some (.dK kvs))(hl:kvs.length < sizeLine):w4 H a (kV k) v (upd H a (.dK (eB kvs k v))):=.inl ⟨kvs,k,e,rfl,hl,rfl⟩
def w4.t {H:Hp}{a b:Addr}{kvs:List (List aH×V)}{k:List aH}{v:V}(e:H a=some (.dT kvs))(eb:H b=some (.tup (k.map kV)))(hl:kvs.length < sizeLine) :
  w4 H a (.ref b) v (upd H a (.dT (eB kvs k v))):=.inr ⟨kvs,k,b,e,rfl,eb,hl,rfl⟩
section
variable {X:Cx}{pins:Tc}{Y:St}{H:Hp}{s:Shared}{a:Addr}{y v:V}{u r:Value}{o:Option V}{A:Around}{E:Tb}
def aF.big (I:aF X pins Y H s):sysModules < s.heap.objs.size:=by have h:mainGlobals < s.heap.objs.size:=(I.mod.glob.keeps I.bk).lt;exact zb6 (by decide) h
def zE {Q:Tb}(hu:A.units+1 < cLine)(I:aF X pins Y H s)(g:zP H a y (some v))(ry:aW y u)(h:∀w' s',aF X pins Y H s'->aW v w'->Q w' s') :
  wpAny (model X.prog X.w) A (getItem (.ref a) u) Q E s:=by
 rcases g with ⟨kvs,k,e,ey,l⟩|⟨kvs,k,b,e,ey,eb,l⟩
 ·subst ey
  obtain ⟨z,hd,vs,rel,dd⟩:=qD I.hok e;obtain ⟨w',hw,rw'⟩:=nK.some_of (v:=v) (o:=valueAt vs k) (by rw [l];exact rel.val k);exact wpAny_getItem_of (m5 ry) dd.mapOf hw (h w' _ (I.tok _) rw')
 ·subst ey
  cases (show u=Value.ref b from ry);obtain ⟨z,hd,xs,rel,dd⟩:=qC I.hok e;obtain ⟨w',hw,rw'⟩:=nK.some_of (v:=v) (o:=(atKey xs k).map (·.2)) (by rw [l];exact rel.val k);obtain ⟨p,hp,hp2⟩:=zaQ.mp hw;refine wpAny_getItem_heap (tupleKind_room_in1 hu) (mz I.hok eb) dd hp ?_;rw [hp2];exact h w' _ (I.tok _) rw'
def FB {Q:Tb}(hu:A.units+1 < cLine)(I:aF X pins Y H s)(g:zP H a y o)(ry:aW y u)(h:∀s',aF X pins Y H s'->Q (.bool (!o.isSome)) s') :
  wpAny (model X.prog X.w) A (compareOp .NotIn u (.ref a)) Q E s:=by
 rcases g with ⟨kvs,k,e,ey,l⟩|⟨kvs,k,b,e,ey,eb,l⟩
 ·subst ey
  obtain ⟨z,hd,vs,rel,dd⟩:=qD I.hok e;refine wpAny_notIn_of (m5 ry) hd dd.mapOf ?_;rw [←(rel.val k).isSome_eq,←l];exact h _ (I.tok _)
 ·subst ey
  cases (show u=Value.ref b from ry);obtain ⟨z,hd,xs,rel,dd⟩:=qC I.hok e;refine wpAny_notIn_heap (tupleKind_room_in1 hu) (mz I.hok eb) hd dd ?_;have q:=(rel.val k).isSome_eq;rw [Option.isSome_map] at q;rw [←q,←l];exact h _ (I.tok _)
def l8 {h':Heap}{t':Nat}{ob:HO}(I:aF X pins Y H s)(mu:Nu (H a))(hs:Heap.SameBut a s.heap h')(he:∃q,h'.get? a=some q)(new:bI X.prog X.w (upd H a ob) h' a ob) :
  aF X pins Y (upd H a ob) {s with heap:=h',toks:=t'} :=
 I.write (x:=a) (e:=a) mu (.inl rfl) (fun b q hb z=>(hs.2 b hb).trans z) he new
def wG {H':Hp}{h':Heap}{kvs:List (aH×V)}{vs:List (aH×Value)}(z:kvs.length<=sizeLine)(hd:(a == sysModules)=false)(rel:KV kvs vs)(dd:h'.DictOf (aY P w) a vs) :
  bI P w H' h' a (.dK kvs):=⟨z,hd,vs,rel,dd⟩
def qE {H':Hp}{Q:Unit->Shared->Prop}(hu:A.units+1 < cLine)(I:aF X pins Y H s)(g:w4 H a y v H')(ry:aW y u)(rv:aW v r)(h:∀s',aF X pins Y H' s'->Q () s') :
  wpAny (model X.prog X.w) A (setItem (.ref a) u r) Q E s:=by
 rcases g with ⟨kvs,k,e,ey,l,eH⟩|⟨kvs,k,b,e,ey,eb,l,eH⟩
 ·subst ey eH
  obtain ⟨z,hd,vs,rel,dd⟩:=C4 I.hok e
  have hz:vs.length<=sizeLine:=by rw [←rel.length];exact z
  have hl:(eB kvs k v).length<=sizeLine:=by have:=ie kvs k v;omega
  refine wpAny_setItem_pairs (hsz:=hz) (m5 ry) dd fun h' dd' hs=>h _ ?_;have he:∃q,h'.get? a=some q:=let ⟨q,_,_,hq,_⟩:=dd';⟨q,hq⟩;exact l8 I (by rw [e];exact True.intro) hs he (wG hl hd (rel.put k rv) dd')
 ·subst ey eH
  cases (show u=Value.ref b from ry);obtain ⟨z,hd,xs,rel,dd⟩:=Ho I.hok e
  have hz:xs.length<=sizeLine:=by rw [←Paired.length rel];exact z
  have hl:(eB kvs k v).length<=sizeLine:=by have:=ie kvs k v;omega
  refine wpAny_setItem_heap (hsz:=hz) (tupleKind_room_in1 hu) (mz I.hok eb) dd fun h' dd' hs=>h _ ?_;obtain ⟨q,es,ep,hq,h2,h3,h4,_,h5⟩:=dd';refine l8 I (by rw [e];exact True.intro) hs ⟨q,hq⟩ ⟨hl,hd,_,(rel.put k eb rv).keeps fun c ys ec=>?_,q,es,ep,hq,h2,h3,h4,h5⟩;rw [aD (G6 ec e (fun z=>nomatch z))];exact ec
end
def Du (i:Expr):Prop:=∀ov iv,subscripted i false ov iv=operate [ov,iv] (getItem ov iv)
def DS {prog:Program}{w:World}{A:Around}{E:Tb}{s:Shared}{env:Env}{value slice:Expr}{pos:Pos}{T id:String}{Q:Tb}
  (hl:typeLookup (.type T) "__getitem__" = pure (some (.builtin id))) (hs:Du slice)
  (h:wpAny (model prog w) A (eval value env) (fun o s₁=>wpAny (model prog w) A (eval slice env) (fun i s₂=>s₂.TypeIs o T/\wpAny (model prog w) A (getItem o i) Q E s₂) E s₁) E s) :
  wpAny (model prog w) A (eval (.Subscript value slice pos) env) Q E s:=by
 refine Subscript_ (zbB h (fun o s₁ h₁=>zbB h₁ (fun i s₂ h₂=>?_) fun _ _ x=>x) fun _ _ x=>x);obtain ⟨hT,h₂⟩:=h₂;unfold subscriptTail;refine zab ?_;rw [getitemInPython_of_ne hT.not_modules];refine zab (zb2 hT hl ?_)
 have fin:wpAny (model prog w) A (subscripted slice false o i) (fun r s₃=>wpAny (model prog w) A (letTemporaryGo value o r >>= fun _=>pure r) Q E s₃) E s₂:=by
  rw [hs o i];exact wpAny_operating (zbB h₂ (fun r s₃ h₃=>zab (wpAny_letTemporaryGo (zad h₃))) fun _ _ x=>x)
 first
  |exact zad (zab fin)
  |exact zab (zad (zab fin))
  |exact zab fin
def uP {H:Hp}{s:Shared}{a:Addr}{y:V}{o:Option V}(I:aF X pins Y H s)(g:zP H a y o):s.TypeIs (.ref a) "dict":=by
 rcases g with ⟨kvs,k,e,_,_⟩|⟨kvs,k,b,e,_,_,_⟩
 ·obtain ⟨_,_,vs,_,dd⟩:=qD I.hok e;exact dd.typeIs
 ·obtain ⟨_,_,xs,_,dd⟩:=qC I.hok e;exact dd.typeIs
def xl (td ty:TE):TE:=fun Y H Q=>td Y H fun x H1=>ty Y H1 fun y H2=>∃a v,x=.ref a/\zP H2 a y (some v)/\Q v H2
section
variable {X:Cx}{o i:Expr}{pos:Pos}{td ty:TE}
def rC (hu:X.A.units+1 < cLine)(ho:PE X o td)(hi:PE X i ty)(hs:Du i):PE X (.Subscript o i pos) (xl td ty):=by intro pins s Y H Q I h;refine DS PySem.F.slot_dict_getitem.lookup hs (cL (ho pins s Y H _ I h) fun u s1 hh=>?_);obtain ⟨x,H1,I1,rx,q1⟩:=hh;refine cL (hi pins s1 Y H1 _ I1 q1) fun iv s2 hh=>?_;obtain ⟨y,H2,I2,ry,a,v,ex,g,q2⟩:=hh;subst ex;obtain rfl:u=Value.ref a:=rx;exact ⟨uP I2 g,zE hu I2 g ry fun w' s3 I3 rw'=>⟨v,H2,I3,rw',q2⟩⟩
end
def uN {H:Hp}(h:Heap)(hb:sysModules < h.objs.size):bI P w H (h.push {cls:=.type "dict",data:=.dict #[]}) h.objs.size (.dK []) :=
 ⟨zbb _,beq_eq_false_iff_ne.mpr (Ne.symm (zat hb)),[],.nil,Heap.DictOf.new h⟩
def C1 {H:Hp}(h:Heap)(hb:sysModules < h.objs.size):bI P w H (h.push {cls:=.type "dict",data:=.dict #[]}) h.objs.size (.dT []) :=
 ⟨zbb _,beq_eq_false_iff_ne.mpr (Ne.symm (zat hb)),[],.nil,_,#[],0,zaq _ rfl,⟨rfl,rfl,rfl⟩,rfl,rfl,zc8⟩
def vG:TE:=fun _ H Q=>∀p,H p=none->Q (.ref p) (upd H p (.dK []))
def vF:TE:=fun _ H Q=>∀p,H p=none->Q (.ref p) (upd H p (.dT []))
section
variable {X:Cx}{pos:Pos}
def tV:PE X (.Dict [] [] pos) vG:=fun pins s Y H Q I h =>
 wpAny_Dict_empty ⟨.ref s.heap.objs.size,_,I.laid (a:=s.heap.objs.size) (o:=.dK []) (t':=s.toks) (fun _ _ q=>zae _ q) (zao _) (uN s.heap I.big),rfl,h _ (I.hok.fresh (zao _))⟩
def tU:PE X (.Dict [] [] pos) vF:=fun pins s Y H Q I h =>
 wpAny_Dict_empty ⟨.ref s.heap.objs.size,_,I.laid (a:=s.heap.objs.size) (o:=.dT []) (t':=s.toks) (fun _ _ q=>zae _ q) (zao _) (C1 s.heap I.big),rfl,h _ (I.hok.fresh (zao _))⟩
end
def qW:List (TE×TE)->St->Hp->(List (V×V)->Hp->Prop)->Prop
 |[],_,H,Q=>Q [] H|(tk,tv)::r,Y,H,Q=>tk Y H fun x H1=>tv Y H1 fun y H2=>qW r Y H2 fun ps H3=>Q ((x,y)::ps) H3
abbrev VV:List (V×V)->List (Value×Value)->Prop:=Paired fun p q=>aW p.1 q.1/\aW p.2 q.2
def OE (X:Cx)(pos:Pos)(keys:List (Option Expr))(values:Tj)(trs:List (TE×TE)):Prop :=
 ∀(pins:Tc) (s:Shared) (Y:St) (H:Hp) (Q:List (V×V)->Hp->Prop),aF X pins Y H s->qW trs Y H Q ->
  wpAny (model X.prog X.w) X.A (evalPairs (pairTrees keys values X.env pos)) (fun vs s'=>∃ps H',aF X pins Y H' s'/\VV ps vs/\Q ps H') X.xe s
def Ez :OE X pos [] [] []:=fun pins s Y H Q I h=>pairTrees_nil_walk ⟨[],H,I,.nil,h⟩
def BB {k v:Expr}{ks:List (Option Expr)}{vs:Tj}{tk tv:TE}{trs:List (TE×TE)}(hk:PE X k tk)(hv:PE X v tv)(hr:OE X pos ks vs trs) :
  OE X pos (some k::ks) (v::vs) ((tk,tv)::trs):=fun pins s Y H Q I h =>
 pairTrees_cons_walk (cL (hk pins s Y H _ I h) fun u s1 ⟨x,H1,I1,rx,q1⟩=>cL (hv pins s1 Y H1 _ I1 q1) fun w2 s2 ⟨y,H2,I2,ry,q2⟩ =>
  cL (hr pins s2 Y H2 _ I2 q2) fun ws s3 ⟨ps,H3,I3,rel,q3⟩=>⟨(x,y)::ps,H3,I3,.cons ⟨rx,ry⟩ rel,q3⟩)
def oI (kvs more:List (aH×V)):List (aH×V):=more.foldl (fun acc kv=>eB acc kv.1 kv.2) kvs
theorem KV.merge:∀{more:List (aH×V)} {rs:List (aH×Value)} {kvs:List (aH×V)} {vs:List (aH×Value)},KV more rs->KV kvs vs->KV (oI kvs more) (merged vs rs):=by
 intro more rs kvs vs r;unfold KV at r;induction r generalizing kvs vs with|nil=>intro q;exact q| @cons p q ps qs h t ih =>
  intro r0;have e:KV (eB kvs p.1 p.2) (stored vs q.1 q.2):=by have:=r0.put p.1 h.2;rw [←h.1];exact this
  exact ih e
theorem kL:∀(more kvs:List (aH×V)),(oI kvs more).length<=kvs.length+more.length
 |[],kvs=>by show kvs.length<=kvs.length+0;omega
 |p::r,kvs=>by
  have h1:=kL r (eB kvs p.1 p.2);have h2:=ie kvs p.1 p.2
  show (oI (eB kvs p.1 p.2) r).length<=_
  rw [zaD];omega
theorem pB {P:Program}{w:World}:∀{kvs:List (aH×V)} {ws:List (Value×Value)},VV (kvs.map fun kv=>(kV kv.1,kv.2)) ws->∃rs,Carries (aY P w) ws rs/\KV kvs rs
 |[],_,r=>by rw [zbc] at r;cases r;exact ⟨[],True.intro,.nil⟩|p::kvs,_,r=>by
  rw [zaf] at r
  cases r with| @cons a b as bs h t =>
   obtain ⟨rs,c,q⟩:=pB (P:=P) (w:=w) t;obtain ⟨b1,b2⟩:=b;exact ⟨(p.1,b2)::rs,⟨m5 h.1,rfl,c⟩,.cons ⟨rfl,h.2⟩ q⟩
def GM (trs:List (TE×TE)):TE:=fun Y H Q=>∀p,H p=none->qW trs Y (upd H p (.dK [])) fun ps H2=>H2 p=some (.dK [])/\∃kvs:List (aH×V),ps=kvs.map (fun kv=>(kV kv.1,kv.2))/\kvs.length<=15/\Q (.ref p) (upd H2 p (.dK (oI [] kvs)))
def EO {pos:Pos}{keys:List (Option Expr)}{values:Tj}{trs:List (TE×TE)}(h:OE X pos keys values trs)(hall:keys.all (·.isSome)=true)(hl:keys.length=values.length)(h0:keys≠[])
  (h15:keys.length<=15):PE X (.Dict keys values pos) (GM trs):=by
 intro pins s Y H Q I q;have hn:=I.hok.fresh (zao s.heap.objs.size);have I1:=I.laid (a:=s.heap.objs.size) (o:=.dK []) (h':=s.heap.push {cls:=.type "dict",data:=.dict #[]}) (t':=s.toks) (fun _ _ q=>zae _ q) (zao _) (uN s.heap I.big);refine wpAny_Dict_walk (knd:=aY X.prog X.w) hall hl h0 h15 (cL (h pins _ Y _ _ I1 (q _ hn)) fun ws s2 hh=>?_);obtain ⟨ps,H2,I2,rel,e,kvs,ep,lk,q2⟩:=hh;subst ep;obtain ⟨rs,c,rk⟩:=pB (P:=X.prog) (w:=X.w) rel;obtain ⟨z,hd,vs0,r0,dd⟩:=C4 I2.hok e;cases r0;refine ⟨rs,c,dd,fun h' dd' hs=>⟨.ref s.heap.objs.size,_,?_,rfl,q2⟩⟩
 have hz:(oI [] kvs).length<=sizeLine:=by
  have h1:=kL kvs [];rw [zci] at h1;rw [zba];omega
 have he:∃q,h'.get? s.heap.objs.size=some q:=let ⟨q,_,_,hq,_⟩:=dd';⟨q,hq⟩;exact l8 I2 (by rw [e];exact True.intro) hs he (wG hz hd (rk.merge .nil) dd')
structure M1 (X:Cx)(o:Expr)(m:Str)(apos:Pos)(e:Expr)(cpos:Pos):Prop where
 base:attributeBase o m X.env (eval o X.env)=eval o X.env
 few:((backTo cpos (starEach [e] X.env)).all (fun x=>!x.1) && (backToKw cpos (keywordEach [] X.env)).all (fun x=>x.1.isSome)
  && decide (([e]:Tj).length+([]:List Keyword).length+(if ([]:List Keyword).isEmpty then 0 else 1) < 30))=true
 line:(apos.endLine == cpos.line)=true
 trees:backTo cpos (starEach [e] X.env)=[(false,eval e X.env)]
structure M2 (X:Cx)(o:Expr)(m:Str)(apos:Pos)(e f:Expr)(cpos:Pos):Prop where
 base:attributeBase o m X.env (eval o X.env)=eval o X.env
 few:((backTo cpos (starEach [e,f] X.env)).all (fun x=>!x.1) && (backToKw cpos (keywordEach [] X.env)).all (fun x=>x.1.isSome)
  && decide (([e,f]:Tj).length+([]:List Keyword).length+(if ([]:List Keyword).isEmpty then 0 else 1) < 30))=true
 line:(apos.endLine == cpos.line)=true
 trees:backTo cpos (starEach [e,f] X.env)=[(false,eval e X.env),(false,eval f X.env)]
def OI (H:Hp)(a:Addr):Prop:=(∃kvs,Rd H a (.dK kvs))\/∃kvs,Rd H a (.dT kvs)
def wm {H:Hp}{s:Shared}{a:Addr}(I:aF X pins Y H s)(d:OI H a) :
  s.TypeIs (.ref a) "dict"/\(∀b,Value.ref a=.ref b->∃ob,s.heap.get? b=some ob/\ob.dict=none)/\(a == sysModules)=false:=by
 rcases d with ⟨kvs,e⟩|⟨kvs,e⟩
 ·obtain ⟨_,hd,vs,_,dd⟩:=qD I.hok e
  refine ⟨dd.typeIs,fun b q=>?_,hd⟩;cases q;obtain ⟨ob,_,_,h1,h2,_⟩:=dd;exact ⟨ob,h1,h2.2.1⟩
 ·obtain ⟨_,hd,xs,_,dd⟩:=qC I.hok e
  refine ⟨dd.typeIs,fun b q=>?_,hd⟩;cases q;obtain ⟨ob,_,_,h1,h2,_⟩:=dd;exact ⟨ob,h1,h2.2.1⟩
section
variable {X:Cx}{pins:Tc}{Y:St}{H:Hp}{s:Shared}{a:Addr}{y d:V}{u r:Value}{o:Option V}{A:Around}{E:Tb}
def Kp {Q:Tb}(hu:A.units+1 < cLine)(I:aF X pins Y H s)(g:zP H a y o)(ry:aW y u)(rd:aW d r)(h:∀w' s',aF X pins Y H s'->aW (o.getD d) w'->Q w' s') :
  wpAny (model X.prog X.w) A (call (.builtin "dict.get") [.ref a,u,r]) Q E s:=by
 rcases g with ⟨kvs,k,e,ey,l⟩|⟨kvs,k,b,e,ey,eb,l⟩
 ·subst ey
  obtain ⟨z,hd,vs,rel,dd⟩:=qD I.hok e;refine call_meetsIn PySem.F.slot_dict_get dd.typeIs PySem.F.entry_dict_get (PySem.F.args_dict_get_3 _ _ _) (meets_dict_get_default (aY X.prog X.w) a (m5 ry) hd r) ⟨_,dd.mapOf,h _ _ (I.tok _) ?_⟩;rw [l];exact (rel.val k).getD rd
 ·subst ey
  cases (show u=Value.ref b from ry);obtain ⟨z,hd,xs,rel,dd⟩:=qC I.hok e;refine call_meetsIn PySem.F.slot_dict_get dd.typeIs PySem.F.entry_dict_get (PySem.F.args_dict_get_3 _ _ _) (meetsH_dict_get_default (tupleKind (aY X.prog X.w)) a b hd r) ⟨tupleKind_room_in1 hu,k,xs,mz I.hok eb,dd,h _ _ (I.tok _) ?_⟩;rw [l];exact (rel.val k).getD rd
end
def AI (td ty tx:TE):TE:=fun Y H Q=>td Y H fun x H1=>∃a,x=.ref a/\OI H1 a/\ty Y H1 fun y H2=>tx Y H2 fun z H3=>∃o,zP H3 a y o/\Q (o.getD z) H3
section
variable {X:Cx}{o e f:Expr}{apos cpos:Pos}{td ty tx:TE}
def BO (hu:X.A.units+1 < cLine)(ho:PE X o td)(he:PE X e ty)(hf:PE X f tx)(m:M2 X o "get" apos e f cpos):PE X (.Call (.Attribute o "get" apos) [e,f] [] cpos) (AI td ty tx):=by intro pins s Y H Q I h;refine zdj m.base m.few m.line PySem.F.plainAttrs_dict PySem.F.slot_dict_get PySem.F.type_dict_get (cL (ho pins s Y H _ I h) fun u s1 hh=>?_);obtain ⟨x,H1,I1,rx,a,ex,d,q1⟩:=hh;subst ex;obtain rfl:u=Value.ref a:=rx;obtain ⟨t1,t2,_⟩:=wm I1 d;refine ⟨t1,t2,?_⟩;rw [m.trees];refine Calls.callWith_builtin rfl (Calls.evalArgs_plain (Calls.spliced_cons (cL (he pins s1 Y H1 _ I1 q1) fun iv s2 hh=>?_)));obtain ⟨y,H2,I2,ry,q2⟩:=hh;refine Calls.spliced_cons (cL (hf pins s2 Y H2 _ I2 q2) fun fv s3 hh=>?_);obtain ⟨z,H3,I3,rz,ov,g,q3⟩:=hh;refine Calls.spliced_nil ?_;exact Kp hu I3 g ry rz fun w' s4 I4 rw'=>⟨_,H3,I4,rw',q3⟩
end
end L2
namespace Att
open PySem.W PySem.Calls PyProof.Rows
theorem nG {P:Params}{h:Heap}:∀(ns:Th) (vs:Te),WellAll P h vs (ns.map WData.int)->IntsAre vs ns:=by
 intro ns;induction ns with
 |nil =>
  intro vs w;rw [zbc] at w;cases w;exact .nil
 |cons n ns ih =>
  intro vs w;rw [zaf] at w
  cases w with|cons a b =>
   cases a;exact .cons _ _ (ih _ b)
theorem yO {l:OpenLaw}{n:Nat}(hn:l.most=some n){P:Params}{h:Heap}{args:List WData}{vals:Te}
  (hpre:l.row.toRowW.claim.pre args=true) (hwl:WellAll P h vals args) :
  ∃a vs ns,vals=[Value.ref a]/\args=[WData.list (ns.map WData.int)]/\h.get? a=some {cls:=.type "list",data:=.seq vs.toArray}/\IntsAre vs ns/\ns.length<=n:=by
 have hsh:WShape.hasAll [] args [.list .int]=true:=(pre_splitW hpre).1;have hc:l.pre.holds [] {args:=args}=true:=(pre_splitW hpre).2;obtain ⟨d,r,rfl,h1,h2⟩:=hasAllW_cons hsh;obtain rfl:=hasAllW_nil h2;obtain ⟨xs,rfl,h3⟩:=hasW_list h1;obtain ⟨ns,rfl⟩:=items_int h3
 have hlen:ns.length<=n:=by
  unfold OpenLaw.pre at hc
  have h4:(WTm.not (.lt (.lit (.int (n:Int))) (.len (.arg 0)))).holds [] {args:=[.list (ns.map .int)]}=true:=by
   have h4:=(holds_andW hc).1;rw [hn] at h4;exact h4
  have h5:=condW_of h4 (w_not (w_lt w_lit (w_len_list (w_arg rfl))));rw [zah] at h5;refine Nat.le_of_not_lt fun q=>?_
  have q':(n:Int) < ((ns.length:Nat):Int):=by omega
  first
   |(rw [zaL q'] at h5;exact absurd h5 (by decide))
   |(simp at h5;omega)
 cases hwl with|cons w1 w2 =>
  cases w2
  cases w1 with|list ho hall=>exact ⟨_,_,ns,rfl,rfl,ho,nG ns _ hall,hlen⟩
theorem y0 (l:OpenLaw)(args:List WData):l.row.toRowW.claim.post args (.bool true) args=true :=
 postW_of (r:=l.row.toRowW) (X:=(true == true))
  (show WShape.has [] (.bool true) .bool=true by first|rfl|decide|simp [WShape.has,WShape.arms,WShape.armsAll])
  (show (WTm.eq .res (.lit (.bool true))).value [] {args:=args,res:=some (.bool true),after:=args}=some (.bool (true == true)) from w_eq_bool (w_res rfl) w_lit) rfl
def attach_call {l:OpenLaw}{n:Nat}{q:Program}{loose:Tl}{XP:(Td)->Heap->Prop}{YP:World->Heap->Prop}{d:DefRec}
  (hn:l.most=some n) (hdf:d.params.defaults=[])
  (call:∀(w:World) (s₀ s₁:Shared) (mg mb:Td) (fa:Addr) (o:Obj) (pm cd doc:Value) (a:Addr) (vs:Te) (ns:Th),
   Ground q loose [] XP w s₀ mg mb s₁.heap->YP w s₁.heap ->
   s₁.heap.get? fa=some o->o.data=.func (docDef d.name d.params d.body d.scope pm cd doc)->s₁.heap.CodeRec cd d.name->mg d.name=some (.ref fa) ->
   s₁.heap.get? a=some {cls:=.type "list",data:=.seq vs.toArray}->IntsAre vs ns->ns.length<=n->s₁.gens = #[] ->
   codeAny (model l.prog w) callerA (.call (.ref fa) ⟨[.ref a],[]⟩) (fun r s'=>r=.ok (.ret (.bool true))/\OldK s₁.heap s'.heap/\s'.os=s₁.os/\AllBare s'.gens) s₁) :
  WalkO q loose XP YP l.row.toRowW d [] (fun f vs=>PySem.call f vs):=by
 intro w s₀ s₁ mg mb G Yz fa o pm cd doc dV kV ho hd hcd hD hmg hg args vals as hpre hlay hrd hwl hlo;obtain rfl:dV=.none:=Dflts.none hD hdf;obtain rfl:kV=.none:=Dflts.noKw hD;obtain ⟨a,vs,ns,rfl,rfl,hobj,hints,hlen⟩:=yO hn hpre hwl;refine enter_call (zb0 (call w s₀ s₁ mg mb fa o pm cd doc a vs ns G Yz ho (fd_plain hd) hcd hmg hobj hints hlen hg) fun r s' hq=>?_);obtain ⟨rfl,h2,h3,h4⟩:=hq;exact ⟨.inl ⟨.bool true,.bool true,[],rfl,fun _=>rfl,.bool true,y0 l _,fun _=>⟨List.Pairwise.nil,fun _ hm=>(nomatch hm)⟩⟩,h2,h3,h4⟩
end Att
namespace L2
open PyProof.Rows
theorem gB:∀{vs:Te} {ns:Th},IntsAre vs ns->aZ (ns.map V.int) vs
 |_,_,.nil=>.nil|_,_,.cons n t h=>.cons ⟨t,rfl⟩ (gB h)
def Dt (H:Hp):Prop:=∀b,H b=none\/∃o xs,H b=some (.frz o (.lst xs))
theorem B7 {P:Program}{w:World}{K:zac}{mg mb:Td}{CX:yw}{k:Nat}{fa a:Addr}{fd:FuncData}{x:Str}{sp:Sp}{s₁:Shared}{vs:Te}{ns:Th}
  (KX:K.In s₁.heap) (hns:s₁.heap.Ns mainGlobals mg) (hb:s₁.heap.Ns builtinsNs mb) (hbb:∀x:Str,x≠"__name__"->mb x=bootBuiltins x) (hlim:s₁.heap.NoLimit) (hg:s₁.gens = #[])
  (ha:s₁.heap.get? a=some {cls:=.type "list",data:=.seq vs.toArray}) (hi:IntsAre vs ns) (hl:ns.length<=sizeLine) (hr:dU k callerA)
  (F:∀base:Heap,K.In base->base.Ns mainGlobals mg->dE P w K mg base CX k fa fd [x] sp) (hbind:∀(s:Shared) (u:Value),BindsTo s fd ⟨[u],[]⟩ [(x,u)])
  (hsp:∀H:Hp,Dt H->jg K H a (ns.map V.int)->sp [.ref a] H (fun v _=>v=.bl true) fun _ _ _=>False)
  (hCX:∀H e s',CX [] H s₁ (fun _ _ _=>False) e s'->False) :
  codeAny (model P w) callerA (.call (.ref fa) ⟨[.ref a],[]⟩) (fun r s'=>r=.ok (.ret (.bool true))/\OldK s₁.heap s'.heap/\s'.os=s₁.os/\AllBare s'.gens) s₁:=by
 have rv:=gB hi;have lenV:=hi.length
 have core:∀H:Hp,Dt H->jg K H a (ns.map V.int)->iJ P w H s₁.heap->(∀b,H b≠none->b=a)->(H a≠none->K.lookup a=none) ->
   codeAny (model P w) callerA (.call (.ref fa) ⟨[.ref a],[]⟩) (fun r s'=>r=.ok (.ret (.bool true))/\OldK s₁.heap s'.heap/\s'.os=s₁.os/\AllBare s'.gens) s₁:=by
  intro H hO hS hok hA hK;have base_of:∀{b:Addr} {o:Obj},s₁.heap.get? b=some o->H b=none->(rR s₁.heap H).get? b=some o:=fun e n=>Ct e n
  have noA:∀{b:Addr} {o:Obj} {es:Array DictEntry} {ep:Nat},s₁.heap.get? b=some o->o.data=.dict es ep->H b=none:=fun {b o es ep} e d=>by
   cases q:H b with|none=>rfl|some u =>
    have e':b=a:=hA b (by rw [q];simp);subst e';rw [ha] at e;cases e;have d':Data.seq vs.toArray _=Data.dict es ep:=d;cases d'
  have nsK:∀{b:Addr} {m:Td},s₁.heap.Ns b m->(rR s₁.heap H).Ns b m:=fun {b m} ⟨o,es,ep,e,d,r⟩=>⟨o,es,ep,base_of e (noA e d),d,r⟩
  have hKb:K.In (rR s₁.heap H):=fun b o e=>base_of (KX b o e) (by
   cases q:H b with|none=>rfl|some u =>
    have e':b=a:=hA b (by rw [q];simp);subst e'
    rw [hK (by rw [q];simp)] at e;cases e)
  have hM:Mod K mg (rR s₁.heap H):=⟨hKb,nsK hns,⟨mb,nsK hb,hbb⟩,let ⟨mc,h1,h2⟩:=hlim;⟨mc,nsK h1,h2⟩⟩;have e0:F1 P w K mg (rR s₁.heap H) callerA [] s₁ H:=⟨rfl,hM,fun b o e=>EZ e,Nat.le_of_eq (zw _ _),trivial,fun b hb=>absurd (show b∈([]:Tf) from hb) (by simp),hok,.of_eq hg⟩;refine zb0 ((F _ hKb (nsK hns)).run callerA [] s₁ H ⟨[.ref a],[]⟩ [.ref a] [.ref a] _ _ hr e0 (hbind s₁ (.ref a)) (.cons rfl .nil) (hsp H hO hS)) fun r s' h=>?_
  cases r with|error e=>exact (hCX H e s' h).elim|ok fl =>
   cases fl with|next=>exact False.elim h|brk=>exact False.elim h|cont=>exact False.elim h|ret u =>
    obtain ⟨v,H',os,bare,un,hok',r',q⟩:=h;have q':v=.bl true:=q;subst q';obtain rfl:u=Value.bool true:=r';refine ⟨rfl,OldK.of_keep fun b o e=>?_,os,bare⟩
    cases q:H b with
    |none=>exact un.keep b o e q (by intro z;exact absurd (show b∈([]:Tf) from z) (by simp)) (by simp)
    |some u =>
     rcases hO b with z|⟨ob,xs,z⟩
     ·rw [q] at z;cases z
     ·have z2:=un.frzs b ob _ z
      obtain ⟨e1,_⟩:=hok b _ z;obtain ⟨e2,_⟩:=hok' b _ z2;rw [e] at e1;cases e1;exact e2
 cases hk:K.lookup a with
 |some o =>
  have e:=KX a o hk;rw [ha] at e;cases e;refine core (fun _=>none) (fun _=>.inl rfl) (.inr ⟨_,vs.toArray,_,hk,rfl,⟨rfl,rfl⟩,rfl,by rw [zax,lenV];exact hl,by simpa using rv⟩) (fun b u z=>by have z':(none:Option HO)=some u:=z;cases z') (fun b z=>absurd rfl z) fun z=>absurd rfl z
 |none =>
  refine core (fun b=>if b=a then some (.frz {cls:=.type "list",data:=.seq vs.toArray} (.lst (ns.map V.int))) else none) (fun b=>?_) (.inl (.inr ⟨{cls:=.type "list",data:=.seq vs.toArray},if_pos rfl⟩)) (fun b u z=>?_) (fun b z=>?_) fun _=>hk
  ·by_cases hb:b=a
   ·exact .inr ⟨_,_,if_pos hb⟩
   ·exact .inl (if_neg hb)
  ·by_cases hb:b=a
   ·have z':=(if_pos hb).symm.trans z
    cases z';subst hb;exact ⟨ha,by rw [zah];exact hl,vs,_,rv,ha⟩
   ·have z':=(if_neg hb).symm.trans z
    cases z'
  ·by_cases hb:b=a
   ·exact hb
   ·exact absurd (if_neg hb) z
def DK {l:PySem.W.OpenLaw}{n k:Nat}{q:Program}{loose:Tl}{XP:(Td)->Heap->Prop}{YP:World->Heap->Prop}{d:DefRec}{K:Params->zac}{CX:World->yw}{sp:World->Sp}{x:Str}
  (hn:l.most=some n) (hn2:n<=sizeLine) (hdf:d.params.defaults=[]) (hr:dU k callerA)
  (hY:∀(w:World) (h:Heap),YP w h->(K w.params).In h)
  (F:∀(w:World) (mg:Td) (fa:Addr) (h:Heap),(K w.params).In h->h.Ns mainGlobals mg->mg d.name=some (.ref fa) ->
   ∃fd:FuncData,(∀(s:Shared) (u:Value),BindsTo s fd ⟨[u],[]⟩ [(x,u)]) /\
    ∀base:Heap,(K w.params).In base->base.Ns mainGlobals mg->dE l.prog w (K w.params) mg base (CX w) k fa fd [x] (sp w))
  (hsp:∀(w:World) (H:Hp) (a:Addr) (ns:Th),ns.length<=n->Dt H->jg (K w.params) H a (ns.map V.int)->sp w [.ref a] H (fun v _=>v=.bl true) fun _ _ _=>False)
  (hCX:∀(w:World) (H:Hp) (s:Shared) (e:Value) (s':Shared),CX w [] H s (fun _ _ _=>False) e s'->False) :
  PySem.W.WalkO q loose XP YP l.row.toRowW d [] (fun f vs=>PySem.call f vs):=by
 refine Att.attach_call hn hdf fun w s₀ s₁ mg mb fa o pm cd doc a vs ns G Yz ho hd hcd hmg hobj hints hlen hg=>?_;have KX:=hY w _ Yz;obtain ⟨fd,hb,hF⟩:=F w mg fa _ KX G.T.g hmg;exact B7 KX G.T.g G.T.b G.T.builtins G.T.nolimit hg hobj hints (zbo hlen hn2) hr hF hb (fun H hO hS=>hsp w H a ns hlen hO hS) fun H e s'=>hCX w H s₁ e s'
def zZ {l:PySem.W.OpenLaw}{n k:Nat}{q:Program}{loose:Tl}{XP:(Td)->Heap->Prop}{YP:World->Heap->Prop}{d:DefRec}{K:Params->zac}{CX:yw}{sp:zac->Sp}{x:Str}
  (hn:l.most=some n) (hn2:n<=sizeLine) (hdf:d.params.defaults=[]) (hr:dU k callerA)
  (hY:∀(w:World) (h:Heap),YP w h->(K w.params).In h)
  (F:∀(w:World) (mg:Td) (fa:Addr) (h:Heap),(K w.params).In h->h.Ns mainGlobals mg->mg d.name=some (.ref fa) ->
   ∃fd:FuncData,(∀(s:Shared) (u:Value),BindsTo s fd ⟨[u],[]⟩ [(x,u)]) /\
    ∀base:Heap,(K w.params).In base->base.Ns mainGlobals mg->dE l.prog w (K w.params) mg base CX k fa fd [x] (sp (K w.params)))
  (hsp:∀(K:zac) (H:Hp) (a:Addr) (ns:Th),ns.length<=n->Dt H->jg K H a (ns.map V.int)->sp K [.ref a] H (fun v _=>v=.bl true) fun _ _ _=>False)
  (hCX:∀(H:Hp) (s:Shared) (e:Value) (s':Shared),CX [] H s (fun _ _ _=>False) e s'->False) :
  PySem.W.WalkO q loose XP YP l.row.toRowW d [] (fun f vs=>PySem.call f vs) :=
 DK (K:=K) (CX:=fun _=>CX) (sp:=fun w=>sp (K w.params)) hn hn2 hdf hr hY F (fun w H a ns h1 h2 h3=>hsp (K w.params) H a ns h1 h2 h3) fun _ H s e s'=>hCX H s e s'
def i5 (s:Stmt):Arguments:=match s with
 |.FunctionDef _ a _ _ _ _ _ _ _ _=>a|_=>{posonlyargs:=[],args:=[],vararg:=none,kwonlyargs:=[],kw_defaults:=[],kwarg:=none,defaults:=[]}
def cZ (s:Stmt):Tk:=match s with
 |.FunctionDef _ _ b _ _ _ _ _ _ _=>b|_=>[]
def ah (s:Stmt):Scope:=match s with
 |.FunctionDef _ _ _ _ _ _ sc _ _ _=>sc|_=>{kind:=.function,names:=[],isGenerator:=false,isCoroutine:=false}
abbrev nr:yw:=fun _ _ _ _ _ _=>False
abbrev E0:XK:=fun _ _ _=>False
def BQ:wZ nr X E0:=fun _ _ _ _ _ _ _ h=>h.elim
structure sA (K:zac)(x qual:Str)(st:Stmt)(f:Addr)(fd:FuncData):Prop where
 ex:∃(oc:Value) (od:Option Addr) (kV doc pm:Value) (an:Option Addr) (cdv ct:Value) (osl:Array (Tg)),
  fd=PySem.W.fnOf x qual (i5 st) (cZ st) (ah st) .none kV doc pm an cdv ct/\K.lookup f=some ⟨oc,od,.func fd,osl⟩/\PySem.W.codeIn K cdv qual=true
 kp:PySem.W.keepIn K (.ref f)=true
section
variable {P:Program}{w:World}{K:zac}{mg:Td}{base:Heap}
def sA.ok {x qual:Str}{st:Stmt}{f:Addr}{fd:FuncData}{N ps:Tl}{k:Nat}{sp:Sp}(F:sA K x qual st f fd)(S:aM N ps (ah st))(len:∀vs H Q E,sp vs H Q E->vs.length=ps.length)
  (hbody:∀(cdv:Value) (A:Around) (outer:List Env) (s:Shared) (H:Hp) (vs:List V) (Q:VK) (E:XK),dU k (A.deeper (envOfC qual (ah st) s.heap.objs.size f cdv))->sp vs H Q E ->
   ∃t,pL (mE nr P w K mg base N qual (ah st) f cdv A outer s H E).nox (cZ st) t/\t {nx:=fun _ H'=>Q .non H',rt:=Q} (et N vs) H):dE P w K mg base nr (k+1) f fd ps sp:=by
 obtain ⟨oc,od,kV,doc,pm,an,cdv,ct,osl,rfl,lk,hcd⟩:=F.ex;refine MX lk hcd S len fun A outer s H vs Q E hr hsp=>?_;obtain ⟨t,h,q⟩:=hbody cdv A outer s H vs Q E hr hsp;exact ⟨t,h.nox,q⟩
def sA.binds {x qual:Str}{st:Stmt}{f:Addr}{fd:FuncData}{ps:Tl}(F:sA K x qual st f fd)
  (h:∀(kV doc pm:Value) (an:Option Addr) (cdv ct:Value) (us:Te),us.length=ps.length->bindArgs (PySem.W.fnOf x qual (i5 st) (cZ st) (ah st) .none kV doc pm an cdv ct) ⟨us,[]⟩=pure (ps.zip us)):ji K fd ps []:=by
 obtain ⟨oc,od,kV,doc,pm,an,cdv,ct,osl,rfl,lk,hcd⟩:=F.ex;exact .all (h kV doc pm an cdv ct)
def Cw {x qual:Str}{st:Stmt}{f:Addr}{oc:Value}{od an:Option Addr}{osl:Array (Tg)}{kV doc pm cdv ct:Value}(l:K.lookup f=some ⟨oc,od,.func (PySem.W.fnOf x qual (i5 st) (cZ st) (ah st) .none kV doc pm an cdv ct),osl⟩)
  (c:PySem.W.codeIn K cdv qual=true) (k:PySem.W.keepIn K (.ref f)=true):sA K x qual st f (PySem.W.fnOf x qual (i5 st) (cZ st) (ah st) .none kV doc pm an cdv ct):=⟨⟨oc,od,kV,doc,pm,an,cdv,ct,osl,rfl,l,c⟩,k⟩
end
end L2
namespace HS
theorem Di (xs:Array Nat)(j:Nat)(hs:xs.toList.Pairwise (· < ·)):∀(fuel lo hi:Nat),hi - lo<=fuel->lo<=hi->hi<=xs.size ->
  (∀i (h:i < xs.size),i < lo->xs[i] < j)->(∀i (h:i < xs.size),hi<=i->j<=xs[i]) ->
  SetTable.below.go xs j fuel lo hi<=xs.size/\(∀i (h:i < xs.size),i < SetTable.below.go xs j fuel lo hi->xs[i] < j)/\(∀i (h:i < xs.size),SetTable.below.go xs j fuel lo hi<=i->j<=xs[i]):=by
 intro fuel
 have mono:∀i k (hi:i < xs.size) (hk:k < xs.size),i<=k->xs[i]<=xs[k]:=fun i k hi hk h=>by
  rcases zb7 i k with h|h
  ·have:=zbg.mp hs i k (by simpa using hi) (by simpa using hk) h
   simp at this;omega
  ·have:i=k:=by omega
   subst this;omega
 induction fuel with
 |zero =>
  intro lo hi hf hle hsz h1 h2
  have:lo=hi:=by omega
  subst this;exact ⟨hsz,h1,h2⟩
 |succ fuel ih =>
  intro lo hi hf hle hsz h1 h2;unfold SetTable.below.go
  by_cases hlt:lo < hi
  ·rw [if_pos hlt]
   dsimp only
   have hm:(lo+hi) / 2 < xs.size:=by omega
   have hg:xs.getD ((lo+hi) / 2) j=xs[(lo+hi) / 2]:=by simp [Array.getD,hm]
   rw [hg];split
   ·rename_i hc
    exact ih _ _ (by omega) (by omega) hsz (fun i h hi'=>zcx (mono i _ h hm (by omega)) hc) h2
   ·rename_i hc
    exact ih _ _ (by omega) (by omega) (by omega) h1 (fun i h hi'=>zbo (by omega) (mono _ i hm h hi'))
  ·rw [if_neg hlt]
   have:lo=hi:=by omega
   subst this;exact ⟨hsz,h1,h2⟩
def me {xs:Array Nat}(j:Nat)(hs:xs.toList.Pairwise (· < ·)) :
  SetTable.below xs j<=xs.size/\(∀i (h:i < xs.size),i < SetTable.below xs j->xs[i] < j)/\(∀i (h:i < xs.size),SetTable.below xs j<=i->j<=xs[i]) :=
 Di xs j hs xs.size 0 xs.size (by omega) (by omega) (by omega) (fun _ _ h=>by omega) (fun _ h h'=>by omega)
def Hw (t:SetTable):Prop:=t.plain=true->t.place.toList.Pairwise (· < ·)
def lW {xs:Array Nat}{j:Nat}(hs:xs.toList.Pairwise (· < ·))(hn:xs[SetTable.below xs j]?≠some j):(insertAt xs (SetTable.below xs j) j).toList.Pairwise (· < ·):=by
 obtain ⟨b1,b2,b3⟩:=me j hs;rw [toList_insertAt];generalize SetTable.below xs j=p at *;rw [zcY];refine ⟨hs.sublist (List.take_sublist _ _),zaw.mpr ⟨fun y hy=>?_,hs.sublist (List.drop_sublist _ _)⟩,fun x hx y hy=>?_⟩
 ·obtain ⟨i,hi,rfl⟩:=zcq.mp hy;simp only [zb5,zaM] at hi;rw [List.getElem_drop,zbs];have h1:=b3 (p+i) (by omega) (by omega);rcases zcy h1 with h|h
  ·exact h
  ·exfalso;rcases Nat.eq_zero_or_pos i with rfl|hi0
   ·exact hn (by rw [zar (by omega)];simp only [Nat.add_zero] at h;rw [←h])
   ·have h2:=b3 p (by omega) (by omega);have h3:=zbg.mp hs p (p+i) (by simp;omega) (by simp;omega) (by omega);simp only [zbs] at h3;omega
 ·obtain ⟨i,hi,rfl⟩:=zcq.mp hx;simp only [zbK,zaM] at hi;rw [List.getElem_take,zbs];have h1:=b2 i (by omega) (by omega);rcases zal.mp hy with rfl|hy
  ·exact h1
  ·obtain ⟨k,hk,rfl⟩:=zcq.mp hy;simp only [zb5,zaM] at hk;rw [List.getElem_drop,zbs];have:=b3 (p+k) (by omega) (by omega);omega
def oN {mask finger moves:Nat}{led plain:Bool}{hs:Array Int}{t':SetTable}{o:Array Nat}(e:laid mask finger moves led plain hs=some (t',o)):t'.place.toList.Pairwise (· < ·)/\t'.led=led:=by
 unfold laid at e;simp only [bind,Option.bind,pure] at e;split at e
 ·cases e
 ·cases e;refine ⟨?_,rfl⟩;rw [zbk,List.pairwise_filterMap];refine List.Pairwise.imp ?_ (List.pairwise_lt_range);intro a b hab x hx y hy;simp only [zaQ] at hx hy;obtain ⟨_,_,rfl⟩:=hx;obtain ⟨_,_,rfl⟩:=hy;exact hab
open PyProof.Rows
def val (e:Int×Value):Int:=match e.2 with|.int n _=>n|_=>0
def SQ (e:Int×Value):Prop:=∃n t,e=(hashInt n,.int n t)
structure Nr (led:Bool)(es:Array (Int×Value))(t:SetTable)(xs:Th):Prop where
 el:∀e∈es.toList,SQ e
 pm:(es.toList.map val).Perm xs
 nd:xs.Nodup
 bd:es.size < scanBound
 ft:t.fits es.size=true
 rs:Hw t
 ld:t.led=led
structure mh (led:Bool)(es:Array (Int×Value))(t:SetTable):Prop where
 bd:es.size < scanBound
 ft:t.fits es.size=true
 rs:Hw t
 ld:t.led=led
def QI (led:Bool)(o:Obj)(xs:Th):Prop:=∃es ep t,o.ExactSet/\o.data=.set es ep t/\Nr led es t xs
section
variable {prog:Program}{w:World}{A:Around}{E:Tb}{s:Shared}
def SK (xs:Th)(k:Int):Th:=if k∈xs then xs else xs++[k]
def iC {a:Addr}{o:Obj}{es es':Array (Int×Value)}{ep:Nat}{t t':SetTable}{Q:Unit->Shared->Prop}(ho:s.heap.get? a=some o)(hx:o.ExactSet)(hd:o.data=.set es ep t)
  (hb:es'.size < scanBound)
  (h:∀h',Heap.SameBut a s.heap h'->h'.get? a=some {o with data:=.set es' (ep+1) t'}->Q () {s with heap:=h'}):wpAny (model prog w) A (storeSet a es' t') Q E s:=by
 refine wpAny_storeSet_of ho hd (h _ (Heap.SameBut.update s.heap a _) ?_) (fits_of_scanBound hb);have q:=zaJ (Obj.putSet es' t') ho (by rw [putSet_of es' t' hd];rfl)
 rwa [putSet_of es' t' hd] at q
end
abbrev cK (led:Bool):Obj:={cls:=.type "set",dict:=none,data:=.set #[] 0 (.fresh 0 0 led)}
section
variable {prog:Program}{w:World}{A:Around}{E:Tb}{s:Shared}
def JI (a:Value){Q₁:Tb}(h:Q₁ (.ref s.heap.objs.size) {s with heap:=s.heap.push (cK (!w.params.followText "set-order"))}) :
  codeAny (model prog w) A (.call (.builtin "set.__new__") ⟨[.type "set",a],[]⟩) (wants Q₁ E) s:=by
 refine zcu (show wpAny _ A.in1 (do checkBuiltinCall "set.__new__" ⟨[.type "set",a],[]⟩;again (.builtin "set.__new__" ⟨[.type "set",a],[]⟩)) _ _ s from ?_);refine zab (zdb (F.newCall_set_1 a) (zad ⟨zbd F.plain_set_new _,zaW F.entry_set_new ?_⟩));rw [zaO F.plain_set_new _];have hsub:=sub_set_self;unfold Builtin.«set.__new__» Builtin.Frozenset.newClass;obtain ⟨hp,g,d,tk,os⟩:=s;dsimp only;wp_walk;refine zb8 (zad ?_);dsimp only;simp only [newObj];exact zab (wpAny_alloc (zad (zad h)))
end
def bB:Slot "set_iterator" "__next__" "set_iterator.__next__":=by
 refine .of (owner:="set_iterator") (n:="__next__") ?_ (by decide) (by decide) (by decide) ?_ ?_
 ·rw [zb3,zbx];kernel_rfl
 ·first|exact .inl (by decide)|exact .inr (by decide)
 ·rw [isSubtype_type];kernel_rfl
def fO:entryFor table "set_iterator.__next__" = some Builtin.«set_iterator.__next__»:=entryFor_of_tree (by kernel_rfl)
def gz (a:Value):argsOk "set_iterator.__next__" ⟨[a],[]⟩:=by unfold argsOk;kernel_rfl
def rZ:entryFor table "set.__iter__" = some Builtin.«frozenset.__iter__» :=
 entryFor_alias (id':="frozenset.__iter__") (by kernel_rfl) (by first|rfl|decide) (by decide) (by kernel_rfl)
theorem k9 {Z:Type}:∀{l:List Z} {i:Nat} (h:i < l.length),(l[i]::l.eraseIdx i).Perm l
 |x::xs,0,_=>by simp|x::xs,i+1,h=>by simp only [List.getElem_cons_succ,List.eraseIdx_cons_succ];exact (List.Perm.swap _ _ _).trans ((k9 (by simpa using h)).cons x)
section
variable {Z:Type}{M:Model}{A:Around}{E:Tb}{s:Shared}
def zG {src:Source}{n:Nat}{Q:Nat->Shared->Prop}(hn:0 < n)(h:∀i d,i < n->Q i {s with drawn:=d}):wpAny M A (choose src n) Q E s :=
 fun _ _ _=>⟨Nat.pos_iff_ne_zero.mp hn,h _ _ (zcD _ hn)⟩
theorem Fz (n:Nat):∀(xs:List Z) (s:Shared) (Q:List Z->Shared->Prop),xs.length=n->(∀ys d,ys.Perm xs->Q ys {s with drawn:=d})->wpAny M A (drawOrder n xs) Q E s:=by
 induction n with
 |zero =>
  intro xs s Q hl h;have e:xs=[]:=zbD.mp hl;subst e;exact zad (h [] s.drawn (List.Perm.refl _))
 |succ n ih =>
  intro xs s Q hl h
  cases xs with|nil=>cases hl|cons x xs =>
   unfold drawOrder;refine zab (zG (by simp) fun i d hi=>?_);rw [zas hi];dsimp only;refine zab (ih _ _ _ (by rw [List.length_eraseIdx_of_lt hi];simp at hl;simp;omega) fun ys d' hp=>zad ?_);exact h _ d' ((hp.cons _).trans (k9 hi))
end
abbrev bt (w:World):Bool:=w.params.followText "set-order"
def jF (f:Value)(i:Nat)(a:Addr)(n ep:Nat):Obj:={cls:=.type "set_iterator",data:=.fields #[f,.int i 0,.ref a,.int n 0,.int ep 0]}
def Cj {s:Shared}{I:Addr}{f:Value}{i:Nat}{a:Addr}{n ep:Nat}(h:s.heap.get? I=some (jF f i a n ep)):s.TypeIs (.ref I) "set_iterator":=⟨_,h,rfl⟩
def Dj {t:SetTable}(r:t.place.toList.Pairwise (· < ·))(i:Nat)(hi:i<=t.place.size):SetTable.below t.place (if h:0 < i then t.place[i - 1]'(by omega)+1 else 0)=i:=by
 obtain ⟨b1,b2,b3⟩:=me (if h:0 < i then t.place[i - 1]'(by omega)+1 else 0) r;generalize hB:SetTable.below t.place (if h:0 < i then t.place[i - 1]'(by omega)+1 else 0)=B at *;have lt:∀(x y:Nat) (hx:x < t.place.size) (hy:y < t.place.size),x < y->t.place[x] < t.place[y]:=fun x y hx hy hxy=>by have:=zbg.mp r x y (by simpa using hx) (by simpa using hy) hxy;simpa using this
 rcases zcG B i with h|h|h
 ·exfalso;have hp:0 < i:=by omega
  simp only [hp,dite_true] at b3;have h1:=b3 B (by omega) (zao _);rcases zb7 B (i - 1) with h2|h2
  ·have:=lt B (i - 1) (by omega) (by omega) h2;omega
  ·have:B=i - 1:=by omega
   subst this;omega
 ·exact h
 ·exfalso;have h1:=b2 i (by omega) h;by_cases hp:0 < i
  ·simp only [hp,dite_true] at h1;have:=lt (i - 1) i (by omega) (by omega) (by omega);omega
  ·simp only [hp,dite_false] at h1;omega
section
variable {prog:Program}{w:World}{A:Around}{E:Tb}{s:Shared}
def vY {led:Bool}{a:Addr}{o:Obj}{es:Array (Int×Value)}{ep:Nat}{t:SetTable}{i:Nat}{Q:Option (Value×Nat)->Shared->Prop}(hb:bt w=false)(hl:led=true)
  (ho:s.heap.get? a=some o) (hd:o.data=.set es ep t) (G:mh led es t) (hdr:(!t.plain && decide (es.size > 1))=false) (hi:i<=es.size) (hp:t.place.size=es.size)
  (h:Q (if hlt:i < es.size then some (es[i].2,t.place[i]+1) else none) s) :
  wpAny (model prog w) A (setNext a (if h:0 < i then t.place[i - 1]'(by omega)+1 else 0) i ep) Q E s:=by
 have r:t.place.toList.Pairwise (· < ·):=by
  cases hpl:t.plain with|true=>exact G.rs hpl|false =>
   have h1:¬ es.size > 1:=by simpa [hpl] using hdr
   have:t.place.toList.length<=1:=by simp;omega
   match hq:t.place.toList,this with
   |[],_=>exact List.Pairwise.nil|[x],_=>exact zce _ _
 unfold setNext;refine zab (zaN ho hd G.ft ?_);dsimp only;unfold setsByText;refine zab (zab (zb8 (zad ?_)));dsimp only;rw [show ((model prog w).w.params.followText "set-order")=false from hb];simp only [zap,↓reduceIte];split
 ·rename_i hc
  have:(!t.plain && decide (es.size > 1))=true:=hc;rw [hdr] at this;cases this
 ·refine zab (show wpAny _ _ (if (!t.led && !es.isEmpty)=true then unsupported "set:maker-not-led" else pure ()) _ _ _ from ?_)
  rw [if_neg (by rw [G.ld,hl];simp)];refine zad ?_;rw [Dj r i (by omega)];refine zad ?_
  by_cases hlt:i < es.size
  ·have h2:i < t.place.size:=by omega
   rw [dif_pos hlt] at h;rw [zar hlt,zar h2];exact h
  ·rw [dif_neg hlt] at h
   rw [zcJ (by omega)];exact h
theorem xD {Z:Type}(nx:Nat->Nat):∀(fuel k:Nat) (left:List Z) (out:Array Z),left.length=fuel->(pickOrder.go nx fuel k left out).toList.Perm (out.toList++left)
 |0,k,[],out,_=>by unfold pickOrder.go;simp|fuel+1,k,x::xs,out,hl=>by unfold pickOrder.go;have hlt:nx k % (x::xs).length < (x::xs).length:=zcD _ (by simp);generalize nx k % (x::xs).length=j at hlt;rw [zas hlt];dsimp only;refine (xD nx fuel (k+1) _ _ (by rw [List.length_eraseIdx_of_lt hlt];simp at hl;simp;omega)).trans ?_;rw [zdk,za3];exact (List.Perm.refl _).append (k9 hlt)
def qi {Z:Type}(nx:Nat->Nat)(xs:Array Z):(pickOrder nx xs).toList.Perm xs.toList:=by have:=xD nx xs.size 0 xs.toList #[] (by simp);simpa [pickOrder] using this
def ze {led:Bool}{a:Addr}{o:Obj}{es:Array (Int×Value)}{ep:Nat}{t:SetTable}{sl i:Nat}{Q:Option (Value×Nat)->Shared->Prop}(hb:bt w=true)
  (ho:s.heap.get? a=some o) (hd:o.data=.set es ep t) (G:mh led es t)
  (h:Q (((pickOrder (w.params.setOrder a ep) es)[i]?).map fun e=>(e.2,sl)) s) :
  wpAny (model prog w) A (setNext a sl i ep) Q E s:=by
 unfold setNext;refine zab (zaN ho hd G.ft ?_);dsimp only;unfold setsByText;refine zab (zab (zb8 (zad ?_)));dsimp only;rw [show ((model prog w).w.params.followText "set-order")=true from hb];simp only [bne_self_eq_false,zap,↓reduceIte];unfold setWalk setsByText;refine zab (zab (zaN ho hd G.ft (zab (zab (zb8 (zad ?_))))));dsimp only;rw [show ((model prog w).w.params.followText "set-order")=true from hb];simp only [↓reduceIte];refine zab (zb8 (zad (zad ?_)));exact h
end
section
variable {prog:Program}{w:World}{A:Around}{E:Tb}{s:Shared}
def ym {M:Model}{E:Tb}{s:Shared}{A:Around}{Q:Fin->Shared->Prop}(hh:A.handled=none)
  (h:∀h' a,(∀b o,s.heap.get? b=some o->h'.get? b=some o)->Shared.TypeIs {s with heap:=h'} (.ref a) "StopIteration"->E (.ref a) {s with heap:=h'}) :
  wpAny M A (newExc (.type "StopIteration") [] >>= fun e=>raiseNew e) Q E s:=by
 refine zab ?_;simp only [newExc,newTuple];refine zab (zaT ?_ (by size_fits));refine zab (m:=firstArgMember _ _) (zdb (a:=Value.none) (by first|rfl|(simp only [firstArgMember];rfl)) ?_);refine zaT ?_ (by size_fits);simp only [raiseNew];refine zab (wpAny_handled ?_);rw [hh];refine zab (zad (wpAny_throw (h _ _ (fun b o e=>zae _ (zae _ e)) ?_)));exact ⟨_,zaq _ rfl,rfl⟩
theorem Fb {led:Bool}{I a:Addr}{o:Obj}{es:Array (Int×Value)}{ep:Nat}{t:SetTable}{i sl sl':Nat}{x:Value}{Q:Option Value->Shared->Prop}
  (hI:s.heap.get? I=some (jF (.int sl 0) i a es.size ep)) (ho:s.heap.get? a=some o) (hd:o.data=.set es ep t) (G:mh led es t)
  (hnx:∀A' E' (Q':Option (Value×Nat)->Shared->Prop),Q' (some (x,sl')) s->wpAny (model prog w) A' (setNext a sl i ep) Q' E' s)
  (h:∀h',h'.get? I=some (jF (.int sl' 0) (i+1) a es.size ep)->Heap.SameBut I s.heap h'->Q (some x) {s with heap:=h'}):wpAny (model prog w) A (pyNext (.ref I)) Q E s:=by
 unfold pyNext;refine zab (zbI (za5 (name:=Str.ofString "__next__") (Cj hI) bB (zaV bB (Cj hI) fO ?_ (gz _))));unfold Builtin.«set_iterator.__next__»;refine zab (show wpAny _ _ (pure (Value.ref I,([]:Te))) _ _ _ from zad ?_);refine zab (zbV hI rfl ?_);dsimp only;unfold setEntries;refine zab (zab (zaN ho hd G.ft (zad ?_)));dsimp only;rw [if_neg (by simp)];refine zab (show wpAny _ _ (setNext a sl i ep) _ _ _ from hnx _ _ _ ?_);dsimp only;refine zab (zbW hI rfl (by simp) ?_);have h1:=zaJ (Obj.mapFields (·.setIfInBounds 0 (rawInt (sl':Int)))) hI rfl;refine zab (zbW (s:={s with heap:=_}) h1 rfl (by simp) ?_);have h2:=zaJ (Obj.mapFields (·.setIfInBounds 1 (rawInt ((i:Int)+1)))) h1 rfl;refine zad ⟨x,rfl,zad (h _ (h2.trans ?_) ((Heap.SameBut.update ..).trans (Heap.SameBut.update ..)))⟩;rfl
def JZ {led:Bool}{I a:Addr}{o:Obj}{es:Array (Int×Value)}{ep:Nat}{t:SetTable}{i sl:Nat}{Q:Option Value->Shared->Prop}(hh:A.handled=none)
  (hI:s.heap.get? I=some (jF (.int sl 0) i a es.size ep)) (ho:s.heap.get? a=some o) (hd:o.data=.set es ep t) (G:mh led es t)
  (hnx:∀A' E' (Q':Option (Value×Nat)->Shared->Prop),Q' none s->wpAny (model prog w) A' (setNext a sl i ep) Q' E' s)
  (h:∀h',(∀b o,b∉[I]->s.heap.get? b=some o->h'.get? b=some o)->Q none {s with heap:=h'}):wpAny (model prog w) A (pyNext (.ref I)) Q E s:=by
 unfold pyNext;refine zab (zbI (za5 (name:=Str.ofString "__next__") (Cj hI) bB (zaV bB (Cj hI) fO ?_ (gz _))));unfold Builtin.«set_iterator.__next__»;refine zab (show wpAny _ _ (pure (Value.ref I,([]:Te))) _ _ _ from zad ?_);refine zab (zbV hI rfl ?_);dsimp only;unfold setEntries;refine zab (zab (zaN ho hd G.ft (zad ?_)));dsimp only;rw [if_neg (by simp)];refine zab (show wpAny _ _ (setNext a sl i ep) _ _ _ from hnx _ _ _ ?_);dsimp only;refine zab (zbW hI rfl (by simp) ?_);refine ym (show A.in1.handled=none from hh) fun h' b kp hT=>?_;refine zab (zbX (T:="StopIteration") (b:=true) hT isSubtype_stop ?_);exact zad (h _ fun b o hb e=>kp b o (by rw [zaz _ _ (fun q:I=b=>hb (by simp [q]))];exact e))
def Ci {led:Bool}{I a tp:Addr}{o:Obj}{es:Array (Int×Value)}{ep:Nat}{t:SetTable}{i:Nat}{pl:List Nat}{x:Int×Value}{p:Nat}{Q:Option Value->Shared->Prop}
  (hI:s.heap.get? I=some (jF (.ref tp) i a es.size ep)) (htp:s.heap.get? tp=some {cls:=.type "tuple",data:=.seq (pl.map fun i:Nat=>rawInt i).toArray})
  (ho:s.heap.get? a=some o) (hd:o.data=.set es ep t) (G:mh led es t) (hp:pl[i]?=some p) (hx:es[p]?=some x)
  (h:∀h',h'.get? I=some (jF (.ref tp) (i+1) a es.size ep)->Heap.SameBut I s.heap h'->Q (some x.2) {s with heap:=h'}):wpAny (model prog w) A (pyNext (.ref I)) Q E s:=by
 unfold pyNext;refine zab (zbI (za5 (name:=Str.ofString "__next__") (Cj hI) bB (zaV bB (Cj hI) fO ?_ (gz _))));unfold Builtin.«set_iterator.__next__»;refine zab (show wpAny _ _ (pure (Value.ref I,([]:Te))) _ _ _ from zad ?_);refine zab (zbV hI rfl ?_);dsimp only;unfold setEntries;refine zab (zab (zaN ho hd G.ft (zad ?_)));dsimp only;rw [if_neg (by simp)];refine zab (zbY htp rfl ?_);dsimp only
 have hq:(pl.map fun i:Nat=>rawInt i).toArray[((i:Nat):Int).toNat]?=some (.int p 0):=by simp [hp,rawInt]
 rw [hq];dsimp only;unfold setNextDrawn;refine zab (zab (zaN ho hd G.ft ?_));dsimp only;rw [if_neg (by simp)];simp only [zbR,hx];refine zad (zab (zbW hI rfl (by simp) ?_));have h1:=zaJ (Obj.mapFields (·.setIfInBounds 1 (rawInt ((i:Int)+1)))) hI rfl;exact zad ⟨x.2,rfl,zad (h _ (h1.trans rfl) (Heap.SameBut.update ..))⟩
def Fc {led:Bool}{I a tp:Addr}{o:Obj}{es:Array (Int×Value)}{ep:Nat}{t:SetTable}{i:Nat}{pl:List Nat}{Q:Option Value->Shared->Prop}(hh:A.handled=none)
  (hI:s.heap.get? I=some (jF (.ref tp) i a es.size ep)) (htp:s.heap.get? tp=some {cls:=.type "tuple",data:=.seq (pl.map fun i:Nat=>rawInt i).toArray})
  (ho:s.heap.get? a=some o) (hd:o.data=.set es ep t) (G:mh led es t) (hp:pl.length<=i)
  (h:∀h',(∀b o,b∉[I]->s.heap.get? b=some o->h'.get? b=some o)->Q none {s with heap:=h'}):wpAny (model prog w) A (pyNext (.ref I)) Q E s:=by
 unfold pyNext;refine zab (zbI (za5 (name:=Str.ofString "__next__") (Cj hI) bB (zaV bB (Cj hI) fO ?_ (gz _))));unfold Builtin.«set_iterator.__next__»;refine zab (show wpAny _ _ (pure (Value.ref I,([]:Te))) _ _ _ from zad ?_);refine zab (zbV hI rfl ?_);dsimp only;unfold setEntries;refine zab (zab (zaN ho hd G.ft (zad ?_)));dsimp only;rw [if_neg (by simp)];refine zab (zbY htp rfl ?_);dsimp only
 have hq:(pl.map fun i:Nat=>rawInt i).toArray[((i:Nat):Int).toNat]?=none:=by simp;omega
 rw [hq];dsimp only;refine zab (zbW hI rfl (by simp) ?_);have h1:=zaJ (Obj.mapFields (·.setIfInBounds 0 (rawInt 0))) hI rfl;refine zab (zbW (s:={s with heap:=_}) h1 rfl (by simp) ?_);refine ym (show A.in1.handled=none from hh) fun h' b kp hT=>?_;refine zab (zbX (T:="StopIteration") (b:=true) hT isSubtype_stop ?_);refine zad (h _ fun b o hb e=>kp b o ?_);have ne:I≠b:=fun q=>hb (by simp [q]);rw [zaz _ _ ne,zaz _ _ ne];exact e
end
def lI:Slot "set_iterator" "__iter__" "set_iterator.__iter__":=by
 refine .of (owner:="set_iterator") (n:="__iter__") ?_ (by decide) (by decide) (by decide) ?_ ?_
 ·rw [zb3,zbx];kernel_rfl
 ·first|exact .inl (by decide)|exact .inr (by decide)
 ·rw [isSubtype_type];kernel_rfl
def su (a:Value):argsOk "set_iterator.__iter__" ⟨[a],[]⟩:=by unfold argsOk;kernel_rfl
def pY:entryFor table "set_iterator.__iter__" = some Builtin.«dict_keyiterator.__iter__» :=
 entryFor_alias (id':="dict_keyiterator.__iter__") (by kernel_rfl) (by first|rfl|decide) (by decide) (by kernel_rfl)
section
variable {prog:Program}{w:World}{A:Around}{E:Tb}{s:Shared}
def xp {I:Addr}{f:Value}{i:Nat}{a:Addr}{n ep:Nat}{Q:Tb}(hI:s.heap.get? I=some (jF f i a n ep))(h:Q (.ref I) s):wpAny (model prog w) A (pyIter (.ref I)) Q E s:=by refine zcH (Cj hI) lI (zaV lI (Cj hI) pY ?_ (su _));exact (show wpAny _ _ (ret (.ref I)) _ _ s from zad ⟨_,rfl,"set_iterator",_,Cj hI,bB.lookup,h⟩)
end
variable  {prog:Program}{w:World}
abbrev KI (ord:List (Int×Value))(i:Nat)(x:Value):Prop:=(ord[i]?).map (·.2)=some x
def zY {A:Around}(hh:A.handled=none){led:Bool}{I a:Addr}(hne:a≠I){o:Obj}{es:Array (Int×Value)}{ep:Nat}{t:SetTable}(hd:o.data=.set es ep t)(G:mh led es t)
  (ord:List (Int×Value)) (hl:ord.length=es.size) (sl:Nat->Nat)
  (hnx:∀i (s:Shared) A' E' (Q':Option (Value×Nat)->Shared->Prop),i<=es.size->s.heap.get? a=some o->Q' ((ord[i]?).map fun e=>(e.2,sl (i+1))) s->wpAny (model prog w) A' (setNext a (sl i) i ep) Q' E' s) :
  Walks prog w A I [I,a] [I] ord.length (KI ord) (fun i h=>h.get? I=some (jF (.int (sl i) 0) i a es.size ep)/\h.get? a=some o) where
 sub:=fun b hb=>by simp at hb;simp [hb]
 frame:=fun _ _ _ st hk=>⟨hk I (by simp) _ st.1,hk a (by simp) _ st.2⟩
 item:=fun i s Q E hi st hQ=>by
  have hx:ord[i]?=some ord[i]:=zas hi;refine Fb (x:=ord[i].2) (sl':=sl (i+1)) st.1 st.2 hd G (fun A' E' Q' q=>hnx i s A' E' Q' (by omega) st.2 (by rw [hx];exact q)) fun h' hI' hs=>?_;refine hQ _ h' s.toks (by simp [KI,hx]) ⟨hI',hs.extBut a o hne st.2⟩ fun b o hb e=>hs.extBut b o (fun h=>hb (by simp [h])) e
 done:=fun s Q E st hQ=>by
  refine JZ hh st.1 st.2 hd G (fun A' E' Q' q=>hnx _ s A' E' Q' (by omega) st.2 (by rw [zcp (by omega)];exact q)) fun h' hk=>hQ h' s.toks hk
 self:=fun _ _ _ _ st hQ=>xp st.1 hQ
def HG {A:Around}(hh:A.handled=none){led:Bool}{I a tp:Addr}(hne:a≠I)(hnt:tp≠I){o:Obj}{es:Array (Int×Value)}{ep:Nat}{t:SetTable}(hd:o.data=.set es ep t)(G:mh led es t)
  (pl:List Nat) (hpl:∀p∈pl,p < es.size) :
  Walks prog w A I [I,a,tp] [I] pl.length (KI (pl.filterMap (es[·]?))) (fun i h=>h.get? I=some (jF (.ref tp) i a es.size ep)/\h.get? a=some o/\h.get? tp=some {cls:=.type "tuple",data:=.seq (pl.map fun i:Nat=>rawInt i).toArray}) where
 sub:=fun b hb=>by simp at hb;simp [hb]
 frame:=fun _ _ _ st hk=>⟨hk I (by simp) _ st.1,hk a (by simp) _ st.2.1,hk tp (by simp) _ st.2.2⟩
 item:=fun i s Q E hi st hQ=>by
  have hp:pl[i]?=some pl[i]:=zas hi;have hx:es[pl[i]]?=some (es[pl[i]]'(hpl _ (zcO hi))):=zar _
  have hmap:pl.filterMap (es[·]?)=pl.pmap (fun p h=>es[p]'h) hpl:=by
   clear hQ st hp hx hi
   induction pl with|nil=>rfl|cons p ps ih=>rw [zbQ (b:=es[p]'(hpl p (by simp))) (zar _),ih (fun q hq=>hpl q (by simp [hq]))];rfl
  refine Ci st.1 st.2.2 st.2.1 hd G hp hx fun h' hI' hs=>?_;refine hQ _ h' s.toks ?_ ⟨hI',hs.extBut a o hne st.2.1,hs.extBut tp _ hnt st.2.2⟩ fun b o hb e=>hs.extBut b o (fun h=>hb (by simp [h])) e;rw [hmap];simp [KI,hp]
 done:=fun s Q E st hQ=>Fc hh st.1 st.2.2 st.2.1 hd G (zao _) fun h' hk=>hQ h' s.toks hk
 self:=fun _ _ _ _ st hQ=>xp st.1 hQ
def jN {es:Array (Int×Value)}{pl:List Nat}(h:pl.Perm (List.range es.size)):(pl.filterMap (es[·]?)).Perm es.toList :=
 (h.filterMap _).trans (by rw [filterMap_getElem?_range])
def wv {es:Array (Int×Value)}{pl:List Nat}(h:pl.Perm (List.range es.size)):(pl.filterMap (es[·]?)).length=pl.length:=by rw [(jN h).length_eq,h.length_eq];simp
def on (t:SetTable)(i:Nat):Nat:=if h:0 < i/\i<=t.place.size then t.place[i - 1]'(by omega)+1 else 0
section
variable {prog:Program}{w:World}{A:Around}{E:Tb}{s:Shared}
def Ch {a:Addr}{o:Obj}{es:Array (Int×Value)}{ep:Nat}{t:SetTable}{Q:Tb}(ho:s.heap.get? a=some o)(hx:o.ExactSet)(hd:o.data=.set es ep t)(G:mh (!bt w) es t)
  (h:∀(h':Heap) (d:Drawn) (I:Addr) (fp:Tf) (St:Nat->Heap->Prop) (ord:List (Int×Value)),(∀A',A'.handled=none->Walks prog w A' I fp [I] ord.length (KI ord) St)->St 0 h'->(∀b∈fp,b=a\/s.heap.objs.size<=b) ->
   (∀b o,s.heap.get? b=some o->h'.get? b=some o)->s.heap.objs.size<=I->ord.Perm es.toList->Q (.ref I) {s with heap:=h',drawn:=d}) :
  wpAny (model prog w) A (pyIter (.ref a)) Q E s:=by
 have hlt:=zam ho;have hT:s.TypeIs (.ref a) "set":=⟨o,ho,hx.1⟩
 have hpz:t.place.size=es.size:=by have:=G.ft;simp [fits] at this;exact this.1
 refine zcH hT F.slot_set_iter (zaV F.slot_set_iter hT rZ ?_ (F.args_set_iter_1 _));unfold Builtin.«frozenset.__iter__» Builtin.Frozenset.slot0 Builtin.Frozenset.sizeOf;refine zab (zab (show wpAny _ _ (pure (Value.ref a,([]:Te))) _ _ _ from zad (show wpAny _ _ (pure a) _ _ _ from zad ?_)));unfold setEntries;refine zab (zab (zab (zaN ho hd G.ft (zad (zad ?_)))));dsimp only;unfold setDrawn setsByText;refine zab (zab (zaN ho hd G.ft (zab (zab (zb8 (zad (zad ?_)))))));dsimp only;split
 ·rename_i hc
  have hdr:(!bt w && (!t.plain && decide (es.size > 1)))=true:=hc;simp only [zbU] at hdr;refine zab (Fz es.size (List.range es.size) _ _ (by simp) fun pl d hp=>?_);unfold newTuple;refine zab (zaT ?_ (show (pl.map fun i:Nat=>rawInt i).toArray.size<=sizeLine by have:=fits_of_scanBound G.bd;rw [zax,zah,hp.length_eq,zdl];exact this));unfold setEpoch;refine zab (zab (zaN (zae _ ho) hd G.ft (zad ?_)));unfold newFields;refine zab (zaT (zad ⟨_,rfl,"set_iterator",_,⟨_,zaq _ rfl,rfl⟩,bB.lookup,?_⟩));have hz:(s.heap.push {cls:=.type "tuple",data:=.seq (pl.map fun i:Nat=>rawInt i).toArray}).objs.size=s.heap.objs.size+1:=za9 ..;refine h _ d _ [_,a,s.heap.objs.size] _ (pl.filterMap (es[·]?)) (fun A' hA=>by rw [wv hp];exact HG hA (I:=(s.heap.push {cls:=.type "tuple",data:=.seq (pl.map fun i:Nat=>rawInt i).toArray}).objs.size) (tp:=s.heap.objs.size) (by rw [hz];exact zat (zaU hlt)) (by rw [hz];exact zat (zcr _)) hd G pl (fun p hp'=>by simpa using hp.mem_iff.mp hp')) ?_ ?_ ?_ ?_ (jN hp)
  ·exact ⟨zaq _ rfl,zae _ (zae _ ho),zae _ (zaq _ rfl)⟩
  ·intro b hb
   simp only [zal,zaE,or_false] at hb;rcases hb with rfl|rfl|rfl
   ·right;rw [hz];exact zcl _
   ·left;rfl
   ·right;exact zao _
  ·exact fun b o e=>zae _ (zae _ e)
  ·rw [hz];exact zcl _
 ·rename_i hc
  have hdr:¬ (!bt w && (!t.plain && decide (es.size > 1)))=true:=hc;refine zab (zad ?_);unfold setEpoch;refine zab (zab (zaN ho hd G.ft (zad ?_)));unfold newFields;refine zab (zaT (zad ⟨_,rfl,"set_iterator",_,⟨_,zaq _ rfl,rfl⟩,bB.lookup,?_⟩));have kp:∀b o,s.heap.get? b=some o->(s.heap.push (jF (.int ((0:Nat):Int) 0) 0 a es.size ep)).get? b=some o:=fun b o e=>zae _ e
  have fpo:∀b∈[s.heap.objs.size,a],b=a\/s.heap.objs.size<=b:=fun b hb=>by
   simp only [zal,zaE,or_false] at hb;rcases hb with rfl|rfl
   ·right;exact zao _
   ·left;rfl
  cases hb:bt w with
  |true =>
   refine h _ s.drawn _ [s.heap.objs.size,a] _ (pickOrder (w.params.setOrder a ep) es).toList (fun A' hA=>zY hA (zat hlt) hd G _ (by have:=(qi (w.params.setOrder a ep) es).length_eq;simpa using this) (fun _=>0) ?_) ⟨zaq _ rfl,kp _ _ ho⟩ fpo kp (zao _) (qi _ _);intro i s' A' E' Q' hi ho' q;exact ze hb ho' hd G (by rw [za4] at q;exact q)
  |false =>
   rw [hb] at hdr G
   have hdr':(!t.plain && decide (es.size > 1))=false:=by simpa using hdr
   refine h _ s.drawn _ [s.heap.objs.size,a] _ es.toList (fun A' hA=>zY hA (zat hlt) hd G es.toList (by simp) (on t) ?_) ⟨zaq _ rfl,kp _ _ ho⟩ fpo kp (zao _) (List.Perm.refl _);intro i s' A' E' Q' hi ho' q
   have e1:on t i=(if h:0 < i then t.place[i - 1]'(by omega)+1 else 0):=by
    by_cases h0:0 < i
    ·unfold on;rw [dif_pos ⟨h0,by omega⟩,dif_pos h0]
    ·unfold on;rw [dif_neg (fun h=>h0 h.1),dif_neg h0]
   rw [e1];refine vY hb rfl ho' hd G hdr' hi hpz ?_
   by_cases hlt:i < es.size
   ·rw [dif_pos hlt]
    rw [za4,zar hlt] at q;simp only [za7] at q;unfold on at q;rw [dif_pos ⟨by omega,by omega⟩] at q;exact q
   ·rw [dif_neg hlt]
    rw [zcp (by simp;omega)] at q;exact q
theorem FN {ord:List (Int×Value)}{acc:Ti}(h:ItemsOf (KI ord) acc ord.length):acc.toList=ord.map (·.2):=by
 refine List.ext_getElem? fun i=>?_;rw [za0,za4];rcases zb7 i ord.length with hi|hi
 ·have hs:i < acc.size:=by rw [h.1];exact hi
  have:=h.2 i acc[i] (zar hs);rw [zar hs];exact this.symm
 ·rw [zcp hi,zcJ (by rw [h.1];exact hi)];rfl
def Cs {a : Addr} {Q : Bool -> Shared -> Prop} (hT : s.TypeIs (.ref a) "set") (h : Q false s) : wpAny (model prog w) A (listLengthHint (.ref a)) Q E s := by
  unfold listLengthHint
  refine zab (zb2 hT F.slot_set_len.lookup ?_)
  have hsp : splitId "set.__len__" = some ("set", "__len__") := by decide
  simp only [hsp]
  refine zab (zbX hT sub_set_self ?_)
  simp only [zbn, zap, ↓reduceIte]
  refine (show wpAny _ _ (do let .ref _ ← typeOf (Value.ref a) | return false
                             let some k ← asInt? (← call (.builtin "len") [.ref a]) | unsupported "internal:len-gave-no-int"
                             return k != 0) _ _ _ from zab (zbt hT (zad h)))
def zF {a:Addr}{o:Obj}{es:Array (Int×Value)}{ep:Nat}{t:SetTable}{Q:List Value->Shared->Prop}(hh:A.handled=none)(ho:s.heap.get? a=some o)(hx:o.ExactSet)(hd:o.data=.set es ep t)(G:mh (!bt w) es t)
  (h:∀(ord:List (Int×Value)) (h':Heap) (d:Drawn) (tk:Nat),ord.Perm es.toList->(∀b o,s.heap.get? b=some o->h'.get? b=some o)->s.toks<=tk->s.heap.objs.size<=h'.objs.size->Q (ord.map (·.2)) {s with heap:=h',drawn:=d,toks:=tk}) :
  wpAny (model prog w) A (collect (.ref a)) Q E s:=by
 have hlt:=zam ho;unfold collect;refine zab (zcE (zaW F.entry_proto_collect ?_));rw [zaO F.plain_proto_collect _];refine (show wpAny _ A.in1 (newList [] >>= fun l=>again (.builtin "list.__iadd__" ⟨[l,.ref a],[]⟩)) _ _ s from zab (zaT ?_));refine zad ⟨zbd F.plain_list_iadd _,zaW F.entry_list_iadd ?_⟩;rw [zaO F.plain_list_iadd _];refine (show wpAny _ A.in1 (listExtendWith (.ref s.heap.objs.size) (.ref a) (.ref s.heap.objs.size)) _ _ _ from ?_);unfold listExtendWith;have ho1:(s.heap.push {cls:=.type "list",data:=.seq ([]:Te).toArray}).get? a=some o:=zae _ ho;have hT:Shared.TypeIs {s with heap:=s.heap.push {cls:=.type "list",data:=.seq ([]:Te).toArray}} (.ref a) "set":=⟨o,ho1,hx.1⟩;refine zab (zbt hT ?_)
 have h1:listSameRef (.ref s.heap.objs.size) (.ref a)=false:=by simp [listSameRef,zbF hlt]
 simp only [h1,show (Value.type "set" == Value.type "list")=false by decide,show (Value.type "set" == Value.type "tuple")=false by decide,zcM,zap,if_false];refine zab (Ch ho1 hx hd G fun h1 d I fp St ord W st hfp kp hI hord=>?_);have hTa:Shared.TypeIs {s with heap:=h1,drawn:=d} (.ref a) "set":=⟨o,kp _ _ ho1,hx.1⟩;refine zab (zaH (Cs hTa ?_))
 refine (show wpAny _ A.in1 (rule "list.extend.makes-room" >>= fun _=>listTouch (.ref s.heap.objs.size) >>= fun _ =>
  again (.builtin "list.extend.loop" ⟨[.ref s.heap.objs.size,.ref I,.ref s.heap.objs.size],[]⟩)) _ _ _ from zab (zcg (zab ?_)))
 have hL:h1.get? s.heap.objs.size=some {cls:=.type "list",data:=.seq ([]:Te).toArray}:=kp _ _ (zaq _ rfl);have hsz:(s.heap.push {cls:=.type "list",data:=.seq ([]:Te).toArray}).objs.size=s.heap.objs.size+1:=za9 ..
 have hSf:s.heap.objs.size∉fp:=fun hm=>by
  rcases hfp _ hm with e|e
  ·exact zaF _ (e ▸ hlt)
  ·rw [hsz] at e;exact zaF _ e
 refine (show wpAny _ A.in1 (updateSeq s.heap.objs.size (·.push .none) >>= fun _=>updateSeq s.heap.objs.size (·.pop)) _ _ _ from zab (zbv hL rfl ?_));have hL2:=zaJ (Obj.mapSeq (·.push Value.none)) hL rfl;refine zbv (s:={s with heap:=_,drawn:=d}) hL2 rfl ?_;have hL3:=zaJ (Obj.mapSeq (·.pop)) hL2 rfl
 have oth:∀b o,b≠s.heap.objs.size->h1.get? b=some o->((h1.update s.heap.objs.size (Obj.mapSeq (·.push Value.none))).update s.heap.objs.size (Obj.mapSeq (·.pop))).get? b=some o :=
  fun b o hb e=>(zaz _ _ (Ne.symm hb)).trans ((zaz _ _ (Ne.symm hb)).trans e)
 have W1:=W A.in1 (show A.in1.handled=none from hh)
 have hol:ord.length=es.size:=by have:=hord.length_eq;simpa using this
 refine zad ⟨zbd F.plain_extend_loop _,codeAny_extend_loopS W1.toS (by rw [hol];exact fits_of_scanBound G.bd) _ hSf _ ord.length 0 _ _ _ rfl (zbb _)
  (W1.frame 0 h1 _ st fun b hb o e=>oth b o (fun q=>hSf (q ▸ hb)) e) hL3 (ItemsOf.nil _) fun s' acc c hm hS' hacc=>?_⟩
 refine (show wpAny _ A (load s.heap.objs.size >>= _) _ _ s' from zab (zdo hS' ?_));dsimp only;obtain ⟨h',g',d',tk',os'⟩:=s';have eg:g'=s.gens:=hm.gens;have ed:d'=d:=hm.drawn;have eo:os'=s.os:=hm.os;subst eg;subst ed;subst eo;refine zad ?_;rw [FN hacc];refine h ord h' d' tk' hord (fun b o e=>hm.heap b o (fun hb=>?_) (oth b o (fun q=>?_) (kp _ _ (zae _ e)))) hm.toks (zbP (zam hS'))
 ·have hb1:=zam e
  simp only [zal,zaE,or_false] at hb;rcases hb with q|q
  ·exact zaF _ (q ▸ hb1)
  ·rw [hsz,←q] at hI;exact zaF _ (zaA hb1 (Nat.le_of_succ_le hI))
 ·exact zaF _ (q ▸ zam e)
end
def AM (M i:Nat):Nat:=(i * 5+1) % M
def DF (M:Nat):Nat->Nat->Nat
 |0,i=>i|t+1,i=>DF M t (AM M i)
theorem nR (M:Nat):∀s t i,DF M (s+t) i=DF M t (DF M s i)
 |0,t,i=>by rw [zdp];rfl|s+1,t,i=>by rw [Nat.succ_add];exact nR M s t _
def eW:List Nat:=[7,15,31,63,127,255]
def BS:∀m∈eW,DF (m+1) (m+1) 0=0:=by decide
def tX:∀m∈eW,∀j < m+1,∃t < m+1,DF (m+1) t 0=j:=by
 have:∀m∈eW,∀j < m+1,((List.range (m+1)).any fun t=>DF (m+1) t 0 == j)=true:=by decide
 intro m hm j hj;obtain ⟨t,ht,e⟩:=zcP.mp (this m hm j hj);exact ⟨t,by simpa using ht,by simpa using e⟩
def xF {m:Nat}(hm:m∈eW){i j:Nat}(hi:i < m+1)(hj:j < m+1):∃t < m+1,DF (m+1) t i=j:=by
 obtain ⟨s,hs,rfl⟩:=tX m hm i hi;obtain ⟨t,ht,rfl⟩:=tX m hm j hj;rcases zb7 t s with h|h
 ·refine ⟨m+1 - s+t,by omega,?_⟩;rw [←nR,show s+(m+1 - s+t)=(m+1)+t by omega,nR,BS m hm]
 ·refine ⟨t - s,by omega,?_⟩;rw [←nR,show s+(t - s)=t by omega]
theorem oX (m:Nat)(owner:Array (Option Nat)):∀fuel i p r,layClean.free m owner fuel i p=some r->owner[r]?=some none
 |0,i,p,r,e=>by simp [layClean.free] at e|fuel+1,i,p,r,e=>by
  unfold layClean.free at e;split at e
  ·rename_i k hk
   cases e;have:=zcZ hk;simp only [Array.getD] at this
   split at this
   ·rename_i hlt;rw [zar hlt];simpa using this
   ·simp at this
  ·exact oX m owner fuel _ _ r e
def iq (m:Nat):Nat->Nat->Nat->Nat×Nat
 |0,i,p=>(i,p)|t+1,i,p=>iq m t (leap m i p).1 (leap m i p).2
theorem qx (m:Nat)(owner:Array (Option Nat)):∀fuel i p,layClean.free m owner fuel i p=none->∀t < fuel,owner[(iq m t i p).1]?≠some none
 |0,i,p,_,t,ht=>by omega|fuel+1,i,p,e,t,ht=>by
  unfold layClean.free at e;split at e
  ·cases e
  ·rename_i hk
   cases t with
   |zero =>
    intro hq;have h0:=zdd.mp hk 0 (by have:i<=runEnd m i:=(by unfold runEnd;split <;> omega);simp;omega)
    simp only [iq] at hq;obtain ⟨hlt,hq⟩:=zbe.mp hq;simp [Array.getD,hlt,hq] at h0
   |succ t=>exact qx m owner fuel _ _ e t (by omega)
theorem vJ (m:Nat):∀t i p,(iq m t i p).2=p / 32 ^ t
 |0,i,p=>by simp [iq]|t+1,i,p=>by unfold iq;rw [vJ m t];simp only [leap];rw [Nat.div_div_eq_div_mul,Nat.pow_succ,Nat.mul_comm]
theorem ou (m:Nat):∀s t i p,iq m (s+t) i p=iq m t (iq m s i p).1 (iq m s i p).2
 |0,t,i,p=>by rw [zdp];rfl|s+1,t,i,p=>by rw [Nat.succ_add];exact ou m s t _ _
theorem mt (m:Nat):∀t i,(iq m t i 0).1=DF (m+1) t i
 |0,i=>rfl|t+1,i=>by
  have e:leap m i 0=(AM (m+1) i,0):=by simp [leap,AM]
  unfold iq DF;rw [e];exact mt m t _
theorem qZ (m:Nat):∀t i p,i < m+1->(iq m t i p).1 < m+1
 |0,i,p,h=>h|t+1,i,p,h=>qZ m t _ _ (zcD _ (by omega))
theorem Fg {m:Nat}(hm:m∈eW){owner:Array (Option Nat)}(h:Int){j:Nat}(hj:j < m+1)(hf:owner[j]?=some none) :
  ∃r,layClean.free m owner (turns m) (bits h % (m+1)) (bits h)=some r/\owner[r]?=some none:=by
 cases e:layClean.free m owner (turns m) (bits h % (m+1)) (bits h) with|some r=>exact ⟨r,rfl,oX m owner _ _ _ r e⟩|none =>
  exfalso
  have hn:=qx m owner _ _ _ e
  have hb:bits h < 2 ^ 64:=by
   unfold bits;have:=zcz h (show (0:Int) < 2 ^ 64 by decide);have:=zc0 h (show (2 ^ 64:Int)≠0 by decide);omega
  have hp:(iq m 13 (bits h % (m+1)) (bits h)).2=0:=by
   rw [vJ];exact Nat.div_eq_of_lt (zb6 hb (by decide))
  have hi:(iq m 13 (bits h % (m+1)) (bits h)).1 < m+1:=qZ m _ _ _ (zcD _ (by omega));obtain ⟨t,ht,e⟩:=xF hm hi hj;refine hn (13+t) (by unfold turns;omega) ?_;rw [ou,hp,mt,e];exact hf
def db (M:Nat)(owner:Array (Option Nat)):List (Nat×Nat):=(List.range M).filterMap fun j=>(owner.getD j none).map (j,·)
theorem yc {Z β:Type}{f g:Z->Option β}:∀{l:List Z},(∀y∈l,g y=f y)->l.filterMap g=l.filterMap f
 |[],_=>rfl|x::l,h=>by have ih:=yc (l:=l) fun y hy=>h y (by simp [hy]);simp only [zcd,h x (by simp),ih]
theorem Cy {f g:Nat->Option (Nat×Nat)}{j:Nat}{v:Nat×Nat}(hf:f j=none)(hg:g j=some v)(hx:∀x,x≠j->g x=f x):∀{l:List Nat},l.Nodup->j∈l->(l.filterMap g).Perm (v::l.filterMap f)
 |[],_,h=>by simp at h|x::l,hn,h=>by
  obtain ⟨h1,h2⟩:=zaK.mp hn;by_cases e:x=j
  ·subst e;have:l.filterMap g=l.filterMap f:=yc fun y hy=>hx y fun z=>h1 (z ▸ hy);rw [zbQ hg,zcA hf,this]
  ·have hj:j∈l:=by
    rcases zal.mp h with q|q
    ·exact absurd q.symm e
    ·exact q
   have ih:=Cy hf hg hx h2 hj
   cases q:f x with|none=>rw [zcA (by rw [hx x e];exact q),zcA q];exact ih|some u =>
    rw [zbQ (by rw [hx x e];exact q),zbQ q];exact (ih.cons u).trans (.swap _ _ _)
theorem B1 {M k r:Nat}{owner:Array (Option Nat)}(hs:owner.size=M)(hr:owner[r]?=some none):(db M (owner.setIfInBounds r (some k))).Perm ((r,k)::db M owner):=by
 obtain ⟨hlt,hq⟩:=zbe.mp hr;refine Cy (j:=r) (v:=(r,k)) ?_ ?_ ?_ zdq (zbl.mpr (by omega))
 ·simp [Array.getD,hlt,hq]
 ·simp [Array.getD,hlt]
 ·intro x hx;simp only [Array.getD,Array.size_setIfInBounds];split
  ·rename_i h;have e:(owner.setIfInBounds r (some k))[x]'(by simpa using h)=owner[x]:=Array.getElem_setIfInBounds_ne _ (Ne.symm hx);exact congrArg _ e
  ·rfl
def zi {M:Nat}{owner:Array (Option Nat)}(hs:owner.size=M)(h:∀j < M,owner[j]?≠some none):(db M owner).length=M:=by
 have:∀l:List Nat,(∀j∈l,j < M)->(l.filterMap fun j=>(owner.getD j none).map (j,·)).length=l.length:=by
  intro l;induction l with|nil=>intro _;rfl|cons x l ih =>
   intro hl;have hx:=hl x (by simp);have hlt:x < owner.size:=by omega
   cases q:owner[x] with|none=>exact absurd (by rw [zar hlt,q]) (h x hx)|some v =>
    rw [zbQ (b:=(x,v)) (by simp [Array.getD,hlt,q])];rw [zaD,ih fun j hj=>hl j (by simp [hj]),zaD]
 have:=this (List.range M) (by simp);simpa [db] using this
theorem yb {m:Nat}(hm:m∈eW):∀(hs:Th) (owner:Array (Option Nat)) (k:Nat),owner.size=m+1->((db (m+1) owner).map (·.2)).Perm (List.range k)->k+hs.length<=m+1 ->
  ∃owner',(hs.foldl (init:=some (owner,k)) fun acc h=>do
   let (owner,k) ←acc
   let j ←layClean.free m owner (turns m) (bits h % (m+1)) (bits h)
   pure (owner.setIfInBounds j (some k),k+1))=some (owner',k+hs.length)/\owner'.size=m+1/\((db (m+1) owner').map (·.2)).Perm (List.range (k+hs.length))
 |[],owner,k,h1,h2,h3=>⟨owner,by simp,h1,by simpa using h2⟩|h::hs,owner,k,h1,h2,h3=>by
  have hex:∃j,j < m+1/\owner[j]?=some none:=by
   refine Classical.byContradiction fun hc=>?_;have:=zi h1 fun j hj q=>hc ⟨j,hj,q⟩;have h4:=h2.length_eq;simp at h4 h3;omega
  obtain ⟨j,hj,hf⟩:=hex;obtain ⟨r,e,hr⟩:=Fg hm h hj hf
  have ih:=yb hm hs (owner.setIfInBounds r (some k)) (k+1) (by simpa using h1) (by
   refine ((B1 h1 hr).map (·.2)).trans ?_;rw [zaf,List.range_succ]
   exact (h2.cons k).trans (List.perm_append_singleton k _).symm) (by simp at h3;omega)
  obtain ⟨o',e1,e2,e3⟩:=ih;refine ⟨o',?_,e2,?_⟩
  ·rw [zbj]
   simp only [bind,Option.bind,e,pure];rw [show k+(h::hs).length=k+1+hs.length by simp;omega];exact e1
  ·rw [show k+(h::hs).length=k+1+hs.length by simp;omega];exact e3
theorem uS {m:Nat}(hm:m∈eW)(hs:Array Int)(hl:hs.size<=m+1):∃owner,layClean m hs=some owner/\owner.size=m+1/\((db (m+1) owner).map (·.2)).Perm (List.range hs.size):=by
 obtain ⟨o,e1,e2,e3⟩:=yb hm hs.toList (Array.replicate (m+1) none) 0 (by simp) (by
  have:db (m+1) (Array.replicate (m+1) none)=[]:=by unfold db;rw [List.filterMap_eq_nil_iff];intro j hj;simp at hj;simp [Array.getD,hj]
  rw [this];exact .refl _) (by simpa using hl)
 refine ⟨o,?_,e2,by simpa using e3⟩;unfold layClean;rw [←Array.foldl_toList,e1];rfl
def E7 {m finger moves:Nat}{led plain:Bool}(hm:m∈eW)(hs:Array Int)(hl:hs.size<=m) :
  ∃t o,laid m finger moves led plain hs=some (t,o)/\o.toList.Perm (List.range hs.size)/\t.fits hs.size=true/\t.place.toList.Pairwise (· < ·)/\t.led=led/\t.plain=plain/\t.mask=m/\t.dummies = #[]/\t.place.size=hs.size:=by
 obtain ⟨owner,e,e2,e3⟩:=uS hm hs (by omega)
 have hlen:(db (m+1) owner).length=hs.size:=by have:=e3.length_eq;simpa using this
 have hlaid:laid m finger moves led plain hs=some (({mask:=m,place:=((db (m+1) owner).map (·.1)).toArray,dummies:=#[],finger,led,moves,plain}:SetTable),((db (m+1) owner).map (·.2)).toArray):=by
  unfold laid;rw [e];rfl
 refine ⟨_,_,hlaid,by simpa using e3,?_,(oN hlaid).1,rfl,rfl,rfl,rfl,by simpa using hlen⟩;simp [fits,SetTable.fill,hlen];omega
def Dm:∀n < 256,sizeAbove n - 1∈eW/\n < sizeAbove n/\sizeAbove n<=256:=by decide
def rL:typeLookup (.type "list") "keys" = pure none:=by rw [zb3,zbx];kernel_rfl
section
variable {prog:Program}{w:World}{A:Around}{E:Tb}{h:Heap}{g:Array GenState}{d:Drawn}{t:Nat}{os:OsState}{a:Addr}{its:Ti}{n:Nat}
set_option maxHeartbeats 2000000 in
def vZ {tk:Tok}{Q:Fin->Shared->Prop}(hh:A.handled=none)(hx:h.get? a=some {cls:=.type "list",data:=.seq its n})
  (hq:∀h' tk' e,Heap.NewAttrErr h h' e (.ref a) "keys"->E (.ref e) ⟨h',g,d,tk',os⟩) :
  wpAny (model prog w) A (Builtin.«object.__getattribute__» ⟨[.ref a,.str "keys" tk],[]⟩) Q E ⟨h,g,d,t,os⟩:=by
 have hT:(⟨h,g,d,t,os⟩:Shared).TypeIs (.ref a) "list":=⟨_,hx,rfl⟩;have f4:=rL
 repeat (any_goals (first|assumption|wp_step))
 exact wpAny_raiseAttrError hh hq (attrMsg_fits (by decide) (by size_fits))
def E3 {tk:Tok}{Q:Tb}(hh:A.handled=none)(hx:h.get? a=some {cls:=.type "list",data:=.seq its n})
  (hq:∀h' tk' e,Heap.NewAttrErr h h' e (.ref a) "keys"->E (.ref e) ⟨h',g,d,tk',os⟩) :
  wpAny (model prog w) A (getAttrBy (.ref a) (.str "keys" tk) false) Q E ⟨h,g,d,t,os⟩:=by
 have hT:(⟨h,g,d,t,os⟩:Shared).TypeIs (.ref a) "list":=⟨_,hx,rfl⟩;have f2:=F.slot_list_getattribute.lookup;have f3:=F.slot_list_getattribute.bind (.ref a)
 repeat (any_goals (first|assumption|wp_step))
 refine zc1 F.slot_list_getattribute.plain F.entry_list_ga (F.slot_list_getattribute.check _ _ _ _ _ _ _ _ hT (F.args_list_getattribute_2 _ _) ?_);refine vZ (show A.in1.handled=none from hh) hx fun h' tk' e hx'=>?_;obtain ⟨t',u',he⟩:=hx'.there;have f1:=sub_AttributeError;have f5:typeLookup (.type "list") "__getattr__" = pure none:=am_miss_of_fast (by kernel_rfl);refine (show wpAny _ _ (getattributeRaised _ _ _ _ _ _ _) _ _ _ from ?_);unfold getattributeRaised
 repeat (any_goals (first|assumption|wp_step))
 exact hq _ _ _ hx'
def E2 {Q:Option Value->Shared->Prop}(hh:A.handled=none)(hx:h.get? a=some {cls:=.type "list",data:=.seq its n})
  (hq:∀h' tk',(∀c u,h.get? c=some u->h'.get? c=some u)->Q none ⟨h',g,d,tk',os⟩) :
  wpAny (model prog w) A (getAttr? (.ref a) "keys") Q E ⟨h,g,d,t,os⟩:=by
 unfold getAttr? getAttrBy?;refine zab (wpAny_mkText (zab (zbI (E3 hh hx fun h' tk' e hx'=>?_))));obtain ⟨t',u',he⟩:=hx'.there;exact zab (zbX (T:="AttributeError") ⟨_,he,rfl⟩ sub_AttributeError (zad (hq _ _ hx'.keeps)))
end
def l7:entryFor table "dict.update.loop" = some Builtin.«dict.update.loop»:=entryFor_of_tree (by kernel_rfl)
def gp:plainId "dict.update.loop" = true:=by decide
section
variable {prog:Program}{w:World}{A:Around}{R:Result->Shared->Prop}{I:Addr}{fp wr:Tf}{n:Nat}{P:Nat->Value->Prop}{St:Nat->Heap->Prop}
structure lq (h:Heap)(v key val:Value):Prop where
 ex:∃a o c,v=.ref a/\h.get? a=some o/\o.cls=.type "tuple"/\o.data=.seq #[key,val] c
def lq.keep {h h':Heap}{v key val:Value}(p:lq h v key val)(k:∀a o,v=.ref a->h.get? a=some o->h'.get? a=some o):lq h' v key val:=by obtain ⟨a,o,c,rfl,h1,h2,h3⟩:=p.ex;exact ⟨a,o,c,rfl,k a o rfl h1,h2,h3⟩
def putAll {K:Type}[DecidableEq K](kvs:List (K×Value))(ps:List (K×Value)):List (K×Value):=ps.foldl (fun a p=>stored a p.1 p.2) kvs
theorem zD {K:Type}[DecidableEq K]{knd:KeyKind prog w K}(W:Walks prog w A.in1 I fp wr n P St)(S:Addr)(hSf:S∉fp)(ps:List (K×Value))(hps:ps.length=n)(h₀:Heap)
  (hP:∀i v,P i v->∃k x key,ps[i]?=some (k,x)/\knd.is k key=true/\lq h₀ v key x/\∀a,v=.ref a->a≠S/\a∉wr) :
  ∀(k i:Nat) (s:Shared) (c:Int) (kvs:List (K×Value)),n - i=k->i<=n->St i s.heap->(∀b o,b≠S->b∉wr->h₀.get? b=some o->s.heap.get? b=some o)->s.heap.DictOf knd S kvs->kvs.length+k<=sizeLine ->
   (∀h' tk,(∀b o,b≠S->b∉wr->s.heap.get? b=some o->h'.get? b=some o)->s.toks<=tk\/True->h'.DictOf knd S (putAll kvs (ps.drop i))->R (.ok (.ret .none)) {s with heap:=h',toks:=tk}) ->
   codeAny (model prog w) A (.builtin "dict.update.loop" ⟨[.ref S,.ref I,.int c 0,.none],[]⟩) R s:=by
 have nw:S∉wr:=fun h=>hSf (W.sub _ h);intro k
 induction k with
 |zero =>
  intro i s c kvs hk hi hst h0 hS hb hR
  have hin:i=n:=by omega
  subst hin;refine zaW l7 ?_;rw [zaO gp _];refine (show wpAny _ A.in1 (pyNext (.ref I) >>= _) _ _ s from zab (W.done s _ _ hst fun h' tk hk'=>?_));refine (show wpAny _ A.in1 (do Builtin.Dict.addKeywords S [];ret Value.none) _ _ _ from zab (show wpAny _ _ (pure ()) _ _ _ from zad (zad ?_)));refine hR h' tk (fun b o _ hb e=>hk' b o hb e) (.inr trivial) ?_;rw [List.drop_of_length_le (by omega)];obtain ⟨o,es,ep,ho,r⟩:=hS;exact ⟨o,es,ep,hk' S o nw ho,r⟩
 |succ k ih =>
  intro i s c kvs hk hi hst h0 hS hb hR
  have hlt:i < n:=by omega
  refine zaW l7 ?_;rw [zaO gp _];refine (show wpAny _ A.in1 (pyNext (.ref I) >>= _) _ _ s from zab (W.item i s _ _ hlt hst fun v h1 tk1 hPv hst1 hk1=>?_));obtain ⟨kk,x,key,hpi,hkey,hpair,hap⟩:=hP i v hPv;have hpair1:lq h1 v key x:=hpair.keep fun a o e q=>hk1 a o (hap a e).2 (h0 a o (hap a e).1 (hap a e).2 q);obtain ⟨a,o,cc,rfl,ho,hc,hd⟩:=hpair1.ex
  have hS1:h1.DictOf knd S kvs:=by
   obtain ⟨o,es,ep,ho,r⟩:=hS;exact ⟨o,es,ep,hk1 S o nw ho,r⟩
  refine zab (zaH (zab (wpAny_tryCatch ?_)));unfold Builtin.Dict.pairItems;refine zab (zbt (T:="tuple") ⟨o,ho,hc⟩ ?_);rw [if_pos (by decide)];refine zab (zbY ho hd (zad ?_));refine (show wpAny _ _ (holding [key,x] (dictSet S key x)) _ _ _ from zaH (wpAny_dictSet_pairs (s:={s with heap:=h1,toks:=tk1}) hkey hS1 (fun h2 hS2 hsb=>?_) (by omega)))
  have hdrop:ps.drop i=(kk,x)::ps.drop (i+1):=by
   obtain ⟨hl,e⟩:=zau.mp hpi;rw [zbw hl,e]
  have hlen:(stored kvs kk x).length<=kvs.length+1:=stored_length_le kvs kk x;refine zad ⟨zbd gp _,ih (i+1) {s with heap:=h2,toks:=tk1+1} (c+1) _ (by omega) hlt (W.frame _ h1 _ hst1 fun b hb o e=>?_) (fun b o n1 n2 e=>?_) hS2 (by omega) fun h' tk' hk' ht hD=>?_⟩
  ·rw [hsb.2 b (fun h:b=S=>hSf (h ▸ hb))];exact e
  ·rw [hsb.2 b n1];exact hk1 b o n2 (h0 b o n1 n2 e)
  ·refine hR h' tk' (fun b o n1 n2 e=>hk' b o n1 n2 ?_) (.inr trivial) (by rw [hdrop];exact hD)
   show h2.get? b=some o
   rw [hsb.2 b n1];exact hk1 b o n2 e
end
def BY:mroOf (.type "dict")=pure [.type "dict",.type "object"]:=by rw [mroOf_type];kernel_rfl
def rK:typeLookup (.type "dict") "__new__" = pure (some (.builtin "dict.__new__")):=by rw [zb3,zbx];kernel_rfl
def sY:Slot "dict" "__init__" "dict.__init__":=by
 refine .of (owner:="dict") (n:="__init__") ?_ (by decide) (by decide) (by decide) ?_ ?_
 ·rw [zb3,zbx];kernel_rfl
 ·first|exact .inl (by decide)|exact .inr (by decide)
 ·rw [isSubtype_type];kernel_rfl
def fU:TypeCalled "dict" "dict.__new__" "dict.__init__" :=
 ⟨by decide,by decide,⟨_,_,BY⟩,madeBy_type BY rK (by decide),by decide,by rw [isSubtype_type];kernel_rfl,sY⟩
def vA (a:Value):checkTypeCall "dict" ⟨[a],[]⟩=pure ():=by kernel_rfl
def zf (a:Value):checkBuiltinCall "dict.__new__" ⟨[.type "dict",a],[]⟩=pure ():=by kernel_rfl
def uJ:entryFor table "dict.__new__" = some Builtin.«dict.__new__»:=entryFor_of_tree (by kernel_rfl)
def mY:plainId "dict.__new__" = true:=by decide
def r6:entryFor table "dict.__init__" = some Builtin.«dict.__init__»:=entryFor_of_tree (by kernel_rfl)
def oh:isSubtype (.type "dict") (.type "dict")=pure true:=by rw [isSubtype_type];kernel_rfl
def ub:builtinKind "dict.__init__" = some .slot:=by kernel_rfl
def qX:splitId "dict.__init__" = some ("dict","__init__"):=by kernel_rfl
def vI:Manifest.signature? "dict.__init__" = some ⟨.positional,"dict","dict",.self,[⟨"other",.posOnly,false⟩,⟨"kwargs",.varKw,false⟩]⟩:=by kernel_rfl
section
variable {prog:Program}{w:World}{A:Around}{E:Tb}{s:Shared}
abbrev em:Obj:={cls:=.type "dict",dict:=none,data:=.dict #[]}
def C8 (a:Value){Q₁:Tb}(h:Q₁ (.ref s.heap.objs.size) {s with heap:=s.heap.push em}) :
  codeAny (model prog w) A (.call (.builtin "dict.__new__") ⟨[.type "dict",a],[]⟩) (wants Q₁ E) s:=by
 refine zcu (show wpAny _ A.in1 (do checkBuiltinCall "dict.__new__" ⟨[.type "dict",a],[]⟩;again (.builtin "dict.__new__" ⟨[.type "dict",a],[]⟩)) _ _ s from ?_);refine zab (zdb (zf a) (zad ⟨zbd mY _,zaW uJ ?_⟩));rw [zaO mY _];have hsub:=oh;have hmro:=BY;unfold Builtin.«dict.__new__»;obtain ⟨hp,g,d,tk,os⟩:=s;dsimp only
 repeat (any_goals (first|assumption|wp_step))
def si {M:Model}{self a:Value}{Q:Unit->Shared->Prop}(hT:s.TypeIs self "dict")(hQ:Q () s) :
  wpAny M A (checkBuiltinCall "dict.__init__" ⟨[self,a],[]⟩) Q E s:=by
 simp only [checkBuiltinCall,ub,qX,vI];refine zab (zbX hT oh ?_);simp only [zbn,zap,if_false];unfold Bind.checkArgs;dsimp only;refine zab (m:=Bind.printed "dict" true _ _) (PyProof.Rows.printed_name (by decide) ?_);refine zab (m:=Bind.printed "dict" false _ _) (PyProof.Rows.printed_name (by decide) ?_)
 have hrn:(Manifest.Receiver.self == Manifest.Receiver.none)=false:=by decide
 have hn:(if (Manifest.Receiver.self == Manifest.Receiver.none)=true then [self,a].length else [self,a].length - 1)=1:=by simp [hrn]
 rw [hn];simp only [zbc]
 have hc:Bind.check ⟨.positional,"dict","dict",.self,[⟨"other",.posOnly,false⟩,⟨"kwargs",.varKw,false⟩]⟩ "dict" "dict" 1 []=pure ():=by kernel_rfl
 rw [hc];exact wpAny_onRaise (zad hQ)
set_option maxHeartbeats 3200000 in
theorem C5 {K:Type}[DecidableEq K]{knd:KeyKind prog w K}{l:Addr}{its:Ti}{c:Nat}{ps:List (K×Value)}{Q:Tb}
  (hh:A.handled=none) (hl:s.heap.get? l=some {cls:=.type "list",data:=.seq its c}) (hps:ps.length=its.size) (hz:its.size<=sizeLine)
  (hP:∀(i:Nat) v,its[i]?=some v->∃k x key,ps[i]?=some (k,x)/\knd.is k key=true/\lq s.heap v key x)
  (h:∀(h':Heap) (tk:Nat),h'.DictOf knd s.heap.objs.size (putAll [] ps)->(∀b o,s.heap.get? b=some o->h'.get? b=some o)->Q (.ref s.heap.objs.size) {s with heap:=h',toks:=tk}) :
  wpAny (model prog w) A (call (.type "dict") [.ref l]) Q E s:=by
 obtain ⟨cc,tl,hmro⟩:=fU.mro;have hmade:=fU.made;have hsub:=fU.sub;refine wpAny_call (zcu (show wpAny _ _ (callAny (.type "dict") _) _ _ _ from ?_));refine zad ⟨Code.quiet_builtin _ (by decide),zaW F.entry_type_call ?_⟩;rw [Around.under_plain (weight_type_call_type "dict" [.ref l] []) rfl];have h1:=fU.notType;have h2:=fU.canCreate;have hct:=vA (.ref l)
 repeat (any_goals (first|assumption|wp_step))
 refine zb0 (C8 (.ref l) (E:=E) (Q₁:=fun obj s₁=>obj=.ref s.heap.objs.size/\s₁={s with heap:=s.heap.push em}) ⟨rfl,rfl⟩) fun r s₁ hr=>?_
 cases r with|error e=>exact hr|ok fl =>
  cases fl with
  |ret obj =>
   obtain ⟨rfl,rfl⟩:=hr;have hS:(s.heap.push em).get? s.heap.objs.size=some em:=zaq _ rfl;have hT:Shared.TypeIs {s with heap:=s.heap.push em} (.ref s.heap.objs.size) "dict":=⟨_,hS,rfl⟩;have hli:=fU.init.lookup;have hbi:=fU.init.bind (.ref s.heap.objs.size)
   repeat (any_goals (first|assumption|wp_step))
   refine zb0 (zc1 (R:=wants (fun r s₂=>r=.none/\∃h' tk,s₂={s with heap:=h',toks:=tk}/\h'.DictOf knd s.heap.objs.size (putAll [] ps) /\
     (∀b o,s.heap.get? b=some o->h'.get? b=some o)) E) fU.init.plain r6 (si hT ?_)) fun r₂ s₂ hr₂=>?_
   ·have hlS:l < s.heap.objs.size:=zam hl
    have hl1:(s.heap.push em).get? l=some {cls:=.type "list",data:=.seq its c}:=zae _ hl;have hTl:Shared.TypeIs {s with heap:=s.heap.push em} (.ref l) "list":=⟨_,hl1,rfl⟩;unfold Builtin.«dict.__init__» Builtin.Dict.selfAndRest Builtin.Dict.notOrdered;refine zab (zab ?_);rw [if_pos (by decide)];refine zab (zbt hT ?_);rw [if_neg (by decide)];refine zad (zab (show wpAny _ _ (pure s.heap.objs.size) _ _ _ from zad (zad ?_)));refine (show wpAny _ _ (Builtin.Dict.updateFrom "dict.__init__" s.heap.objs.size (.ref l) [] .none) _ _ _ from ?_);unfold Builtin.Dict.updateFrom;refine zab (zbt hTl ?_);rw [if_pos (by decide)];refine zab (E2 (show A.in1.in1.handled=none from hh) hl1 fun h2 tk2 kp2=>?_);rw [if_pos (show (none:Tg).isNone=true from rfl)];have hl2:=kp2 _ _ hl1;have hS2:=kp2 _ _ hS;have hl3:h2.IsList l its:=⟨_,hl2,rfl,c,rfl⟩;refine zab (zcg (zab (zco hl3 ?_)));have hlI:l≠h2.objs.size:=zat (zam hl2);have hSI:s.heap.objs.size≠h2.objs.size:=zat (zam hS2)
    have hSf:s.heap.objs.size∉[h2.objs.size,l]:=by
     simp only [zal,zaE,or_false,not_or];exact ⟨hSI,zbF hlS⟩
    have hD0:(h2.push {cls:=.type "list_iterator",data:=.fields #[.ref l,.int 0 0]}).DictOf knd s.heap.objs.size [] :=
     ⟨em,#[],0,zae _ hS2,⟨rfl,rfl,rfl⟩,rfl,fun e he=>by simp at he,.nil,zc8⟩
    refine zad ⟨zbd gp _,zD (Walks.list (by simp [hh]) h2.objs.size l hlI its) s.heap.objs.size hSf ps hps s.heap (fun i v hv=>?_) (its.size - 0) 0 _ 0 [] (by omega) (zbb _)
     ⟨⟨_,zaq _ rfl,rfl,rfl⟩,hl3.push _⟩ (fun b o _ _ e=>zae _ (kp2 _ _ (zae _ e))) hD0 (by simpa using hz) fun h' tk' hk' _ hD=>?_⟩
    ·obtain ⟨k,x,key,e1,e2,e3⟩:=hP i v hv
     refine ⟨k,x,key,e1,e2,e3,fun a e=>?_⟩;obtain ⟨a',o',c',q1,q2,_,_⟩:=e3.ex;rw [q1] at e;cases e;refine ⟨zat (zam q2),?_⟩;simp only [zal,zaE,or_false];exact zat (zam (kp2 _ _ (zae _ q2)))
    ·refine ⟨rfl,h',tk',rfl,by simpa using hD,fun b o e=>hk' b o (zat (zam e)) ?_ (zae _ (kp2 _ _ (zae _ e)))⟩
     simp only [zal,zaE,or_false];exact zat (zam (kp2 _ _ (zae _ e)))
   ·cases r₂ with|error e=>exact hr₂|ok fl2 =>
     cases fl2 with
     |ret r =>
      obtain ⟨rfl,h',tk,rfl,hS',hk'⟩:=hr₂
      repeat (any_goals (first|assumption|wp_step))
      exact h _ _ hS' hk'
     |_=>exact hr₂.elim
  |_=>exact hr.elim
end
end HS
namespace L2
open PyProof.Rows
def ku (H:Hp)(q:Str)(ps:Ti):Prop:=TriplesOk ps.toList/\∀pos cv,codeAmong pos ps.toList=some cv->∃c' oc vs t,cv=.ref c'/\H c'=some (.frz oc (.ext fun _=>True))/\oc.data=.fields vs/\vs[1]?=some (.str q t)
def ku.mono {H H':Hp}{q:Str}{ps:Ti}(g:ku H q ps)(k:∀b o u,H b=some (.frz o u)->H' b=some (.frz o u)):ku H' q ps :=
 ⟨g.1,fun pos cv e=>let ⟨c',oc,vs,t,e1,e2,r⟩:=g.2 pos cv e;⟨c',oc,vs,t,e1,k _ _ _ e2,r⟩⟩
structure Dw (x:Str)(caps:Tl)(sc:Scope)(cl:List (Str×Addr)):Prop where
 kind:sc.kind=.function
 co:sc.isCoroutine=false
 gen:sc.isGenerator=false
 nd:(x::caps).Nodup
 par:sc.names.lookup x=some .local
 nocell:∀y∈sc.names,y.2≠.cell
 free:∀y,sc.names.lookup y=some .free->∃c,cl.lookup y=some c
 inj:∀y z c,cl.lookup y=some c->cl.lookup z=some c->y=z
end L2
namespace HW
open L2
inductive D where
 |non|bl (b:Bool)|int (i:Int)|str (x:Str)
 |tup (xs:List D)|fl (xs:List D)|fd (ks:List aH) (ds:List D)|key (ks:Th)
structure Nv where
 qual:Str
 params:Arguments
 body:Expr
 scope:Scope
 x:Str
 caps:Tl
inductive R where
 |v (d:D)|p (n:Nat)|s (b:Bool) (xs:Th)|x (c:Str)|f (L:Nv) (ds:List D)
inductive ap where
 |lst (xs:List D)|fz (xs:List D)|dct (kvs:List (aH×D))|fzd (kvs:List (aH×D))|dr (kvs:List (aH×R))|lr (xs:List R)|dt (kvs:List (Th×D))|tb (P:Nat) (q:Str)|ob (c:Str) (fs:List (Str×R))|tr (xs:List R)|fzr (kvs:List (aH×R))|dtr (kvs:List (Th×R))
abbrev ac:=List ap
abbrev Lo:=List (Option R)
abbrev FE:=Lo->ac->Option (R×ac)
abbrev FT:=Lo->ac->Option (Bool×ac)
abbrev FA:=Lo->ac->Option (List R×ac)
inductive ni where
 |nx (O:Lo) (U:ac)|rt (d:R) (U:ac)|bk (O:Lo) (U:ac)|ct (O:Lo) (U:ac)
abbrev FS:=Lo->ac->Option ni
def HB (K:zac)(H:Hp)(a:Addr)(vs:List V):Prop:=(∃o,H a=some (.frz o (.lst vs)))\/jg K (fun _=>none) a vs
mutual
def ao (K:zac)(H:Hp):D->V->Prop
 |.non,v=>v=.non|.bl b,v=>v=.bl b|.int i,v=>v=.int i|.str x,v=>v=.str x|.tup xs,v=>∃a vs,v=.ref a/\hX K H a vs/\RelDs K H xs vs|.fl xs,v=>∃a vs,v=.ref a/\HB K H a vs/\RelDs K H xs vs|.fd ks ds,v=>∃a o es,v=.ref a/\H a=some (.frz o (.dK es))/\es.map (·.1)=ks/\RelDs K H ds (es.map (·.2))|.key ks,v=>∃a,v=.ref a/\H a=some (.tup (ks.map V.int))
def RelDs (K:zac)(H:Hp):List D->List V->Prop
 |[],vs=>vs=[]|x::xs,vs=>∃v r,vs=v::r/\ao K H x v/\RelDs K H xs r
end
structure FY (K:zac)(H:Hp)(L:Nv)(ds:List D)(a:Addr)(cl:List (Str×Addr))(pm ctv:Value)(c':Addr):Prop where
 fn:H a=some (.frz (PySem.W.kla_obj "<lambda>" L.qual L.params L.body L.scope cl pm c' ctv) (.ext fun _=>True))
 code:∃oc vs t,H c'=some (.frz oc (.ext fun _=>True))/\oc.data=.fields vs/\vs[1]?=some (.str L.qual t)
 len:ds.length=L.caps.length
 cell:∀y c,cl.lookup y=some c->∃z o,H c=some (.frz o (.ext fun _=>True))/\o.data=.cell z
 cap:∀(i:Nat) y d,L.caps[i]?=some y->ds[i]?=some d->∃c o u vy,L.scope.names.lookup y=some .free/\cl.lookup y=some c/\H c=some (.frz o (.ext fun _=>True))/\o.data=.cell (some u)/\aW vy u/\ao K H d vy
 sc:Dw L.x L.caps L.scope cl
def au (K:zac)(m:Tf)(H:Hp):R->V->Prop
 |.v d,v=>ao K H d v|.p n,v=>∃a,v=.ref a/\m[n]?=some a|.s b xs,v=>∃a o,v=.ref a/\H a=some (.frz o (.ext fun _=>True))/\HS.QI b o xs|.x c,v=>∃a vs C,v=.ref a/\H a=some (.frz {cls:=.ref C,dict:=none,data:=.fields vs,slots:=#[]} (.ext fun _=>True))/\PySem.W.nsIn K mainGlobals c=some (some (.ref C))|.f L ds,v=>∃a cl pm ctv c',v=.ref a/\FY K H L ds a cl pm ctv c'
def bi (K:zac)(m:Tf)(H:Hp):List R->List V->Prop
 |[],vs=>vs=[]|x::xs,vs=>∃v r,vs=v::r/\au K m H x v/\bi K m H xs r
def jh (K:zac)(m:Tf)(H:Hp):ap->Addr->Prop
 |.lst xs,a=>∃vs,H a=some (.lst vs)/\RelDs K H xs vs|.fz xs,a=>∃o vs,H a=some (.frz o (.lst vs))/\RelDs K H xs vs|.dct kvs,a=>∃es,H a=some (.dK es)/\es.map (·.1)=kvs.map (·.1)/\RelDs K H (kvs.map (·.2)) (es.map (·.2))|.fzd kvs,a=>∃o es,H a=some (.frz o (.dK es))/\es.map (·.1)=kvs.map (·.1)/\RelDs K H (kvs.map (·.2)) (es.map (·.2))|.dr kvs,a=>∃es,H a=some (.dK es)/\es.map (·.1)=kvs.map (·.1)/\bi K m H (kvs.map (·.2)) (es.map (·.2))|.lr xs,a=>∃vs,H a=some (.lst vs)/\bi K m H xs vs|.tb P q,a=>a=P/\∃ps,H P=some (.tbl ps)/\ku H q ps|.ob c fs,a=>∃C dx es,PySem.W.nsIn K mainGlobals c=some (some (.ref C))/\H a=some (.ins C dx es)/\es.map (·.1)=fs.map (·.1)/\bi K m H (fs.map (·.2)) (es.map (·.2))|.tr xs,a=>∃vs,H a=some (.tup vs)/\bi K m H xs vs|.fzr kvs,a=>∃o es,H a=some (.frz o (.dK es))/\es.map (·.1)=kvs.map (·.1)/\bi K m H (kvs.map (·.2)) (es.map (·.2))|.dtr kvs,a=>∃es,H a=some (.dT es)/\es.map (·.1)=kvs.map (fun p=>p.1.map Sum.inl)/\bi K m H (kvs.map (·.2)) (es.map (·.2))|.dt kvs,a=>∃es,H a=some (.dT es)/\es.map (·.1)=kvs.map (fun p=>p.1.map Sum.inl)/\RelDs K H (kvs.map (·.2)) (es.map (·.2))
structure aO (K:zac)(m:Tf)(H:Hp)(U:ac):Prop where
 nd:m.Nodup
 len:m.length=U.length
 cell:∀(i:Nat) c a,U[i]?=some c->m[i]?=some a->jh K m H c a
structure TF (H H':Hp):Prop where
 tup:∀a xs,H a=some (.tup xs)->H' a=some (.tup xs)
 frz:∀a o u,H a=some (.frz o u)->H' a=some (.frz o u)
structure c6 (m:Tf)(H:Hp)(m':Tf)(H':Hp):Prop where
 ext:∃e,m'=m++e/\∀a∈e,H a=none
 tf:TF H H'
 keep:∀a o,H a=some o->a∉m->H' a=some o
 live:∀a,H' a=none->H a=none
def dN (K:zac)(m:Tf)(H:Hp)(O:Lo)(Y:St):Prop :=
 O.length=Y.length/\∀(i:Nat) d,O[i]?=some (some d)->∃v,Y[i]?=some (some v)/\au K m H d v
section
variable {K:zac}{H H' H1 H2:Hp}
def TF.refl:TF H H:=⟨fun _ _ h=>h,fun _ _ _ h=>h⟩
def TF.trans (a:TF H H1)(b:TF H1 H2):TF H H2:=⟨fun _ _ h=>b.tup _ _ (a.tup _ _ h),fun _ _ _ h=>b.frz _ _ _ (a.frz _ _ _ h)⟩
def TF.of (h:∀a o,H a=some o->H' a=some o):TF H H':=⟨fun _ _ e=>h _ _ e,fun _ _ _ e=>h _ _ e⟩
def hX.tf {a vs}(t:TF H H')(h:hX K H a vs):hX K H' a vs:=by
 rcases h with (h|⟨o,h⟩)|h
 ·exact .inl (.inl (t.tup _ _ h))
 ·exact .inl (.inr ⟨o,t.frz _ _ _ h⟩)
 ·exact .inr h
def HB.tf {a vs}(t:TF H H')(h:HB K H a vs):HB K H' a vs:=by
 rcases h with ⟨o,h⟩|h
 ·exact .inl ⟨o,t.frz _ _ _ h⟩
 ·exact .inr h
def HB.sq {a vs}(h:HB K H a vs):jg K H a vs:=by
 rcases h with ⟨o,h⟩|(h|⟨_,h⟩)|h
 ·exact .inl (.inr ⟨o,h⟩)
 ·cases h
 ·cases h
 ·exact .inr h
mutual
theorem ao.tf (t:TF H H'):∀(d:D) (v:V),ao K H d v->ao K H' d v
 |.non,_,h=>by simpa only [ao] using h|.bl _,_,h=>by simpa only [ao] using h|.int _,_,h=>by simpa only [ao] using h|.str _,_,h=>by simpa only [ao] using h|.tup xs,v,h=>by simp only [ao] at h ⊢;obtain ⟨a,vs,e,s,r⟩:=h;exact ⟨a,vs,e,hX.tf t s,RelDs.tf t xs vs r⟩
 |.fl xs,v,h=>by simp only [ao] at h ⊢;obtain ⟨a,vs,e,s,r⟩:=h;exact ⟨a,vs,e,s.tf t,RelDs.tf t xs vs r⟩
 |.fd ks ds,v,h=>by simp only [ao] at h ⊢;obtain ⟨a,o,es,e,s,k,r⟩:=h;exact ⟨a,o,es,e,t.frz _ _ _ s,k,RelDs.tf t ds _ r⟩
 |.key ks,v,h=>by simp only [ao] at h ⊢;obtain ⟨a,e,q⟩:=h;exact ⟨a,e,t.tup _ _ q⟩
theorem RelDs.tf (t:TF H H'):∀(ds:List D) (vs:List V),RelDs K H ds vs->RelDs K H' ds vs
 |[],_,h=>by simpa only [RelDs] using h|d::ds,vs,h=>by simp only [RelDs] at h ⊢;obtain ⟨v,r,e,h1,h2⟩:=h;exact ⟨v,r,e,ao.tf t d v h1,RelDs.tf t ds r h2⟩
end
def FY.tf {L ds a cl pm ctv c'}(t:TF H H')(h:FY K H L ds a cl pm ctv c'):FY K H' L ds a cl pm ctv c':=by
 refine ⟨t.frz _ _ _ h.fn,?_,h.len,fun y c e=>?_,fun i y d e1 e2=>?_,h.sc⟩
 ·obtain ⟨oc,vs,u,e,r⟩:=h.code;exact ⟨oc,vs,u,t.frz _ _ _ e,r⟩
 ·obtain ⟨z,o,q,r⟩:=h.cell y c e;exact ⟨z,o,t.frz _ _ _ q,r⟩
 ·obtain ⟨c,o,u,vy,k1,k2,k3,k4,k5,k6⟩:=h.cap i y d e1 e2;exact ⟨c,o,u,vy,k1,k2,t.frz _ _ _ k3,k4,k5,ao.tf t _ _ k6⟩
def c6.refl:c6 m H m H:=⟨⟨[],by simp⟩,.refl,fun _ _ h _=>h,fun _ h=>h⟩
def c6.trans (x:c6 m H m1 H1)(y:c6 m1 H1 m2 H2):c6 m H m2 H2:=by
 obtain ⟨e1,rfl,f1⟩:=x.ext;obtain ⟨e2,rfl,f2⟩:=y.ext;refine ⟨⟨e1++e2,by simp,fun a ha=>?_⟩,x.tf.trans y.tf,fun a o h n=>?_,fun a h=>x.live a (y.live a h)⟩
 ·rcases za2.mp ha with h|h
  ·exact f1 a h
  ·exact x.live a (f2 a h)
 ·refine y.keep a o (x.keep a o h n) fun z=>?_;rcases za2.mp z with z|z
  ·exact n z
  ·rw [f1 a z] at h;cases h
theorem au.ext (x:c6 m H m' H'){d:R}{v:V}(h:au K m H d v):au K m' H' d v:=by
 cases d with
 |v d=>exact ao.tf x.tf d v h|p n =>
  obtain ⟨a,e,q⟩:=h;obtain ⟨e1,rfl,_⟩:=x.ext;refine ⟨a,e,?_⟩;obtain ⟨hl,hq⟩:=zau.mp q;rw [zaj hl];exact q
 |s b xs =>
  obtain ⟨a,o,e,q,r⟩:=h;exact ⟨a,o,e,x.tf.frz _ _ _ q,r⟩
 |x c =>
  obtain ⟨a,vs,C,e,q,r⟩:=h;exact ⟨a,vs,C,e,x.tf.frz _ _ _ q,r⟩
 |f L ds =>
  obtain ⟨a,cl,pm,ctv,c',e,q⟩:=h;exact ⟨a,cl,pm,ctv,c',e,q.tf x.tf⟩
theorem bi.ext (x:c6 m H m' H'):∀{ds:List R} {vs:List V},bi K m H ds vs->bi K m' H' ds vs
 |[],_,h=>h|_::_,_,⟨v,r,e,h1,h2⟩=>⟨v,r,e,h1.ext x,bi.ext x h2⟩
def dN.ext (x:c6 m H m' H')(h:dN K m H O Y):dN K m' H' O Y :=
 ⟨h.1,fun i d e=>let ⟨v,q,r⟩:=h.2 i d e;⟨v,q,r.ext x⟩⟩
theorem au.tfm (t:TF H H')(y:∃e,m'=m++e){d:R}{v:V}(h:au K m H d v):au K m' H' d v:=by
 cases d with
 |v d=>exact ao.tf t d v h|p n =>
  obtain ⟨a,e,q⟩:=h;obtain ⟨e1,rfl⟩:=y;refine ⟨a,e,?_⟩;obtain ⟨hl,hq⟩:=zau.mp q;rw [zaj hl];exact q
 |s b xs =>
  obtain ⟨a,o,e,q,r⟩:=h;exact ⟨a,o,e,t.frz _ _ _ q,r⟩
 |x c =>
  obtain ⟨a,vs,C,e,q,r⟩:=h;exact ⟨a,vs,C,e,t.frz _ _ _ q,r⟩
 |f L ds =>
  obtain ⟨a,cl,pm,ctv,c',e,q⟩:=h;exact ⟨a,cl,pm,ctv,c',e,q.tf t⟩
theorem bi.tfm (t:TF H H')(y:∃e,m'=m++e):∀{ds:List R} {vs:List V},bi K m H ds vs->bi K m' H' ds vs
 |[],_,h=>h|_::_,_,⟨v,r,e,h1,h2⟩=>⟨v,r,e,h1.tfm t y,bi.tfm t y h2⟩
theorem jh.same (s:∀a o,H a=some o->H' a=some o)(y:∃e,m'=m++e){c:ap}{a:Addr}(h:jh K m H c a):jh K m' H' c a:=by
 cases c with
 |lst xs=>obtain ⟨vs,e,r⟩:=h;exact ⟨vs,s _ _ e,RelDs.tf (.of s) _ _ r⟩
 |fz xs=>obtain ⟨o,vs,e,r⟩:=h;exact ⟨o,vs,s _ _ e,RelDs.tf (.of s) _ _ r⟩
 |dct kvs=>obtain ⟨es,e,k,r⟩:=h;exact ⟨es,s _ _ e,k,RelDs.tf (.of s) _ _ r⟩
 |fzd kvs=>obtain ⟨o,es,e,k,r⟩:=h;exact ⟨o,es,s _ _ e,k,RelDs.tf (.of s) _ _ r⟩
 |dr kvs=>obtain ⟨es,e,k,r⟩:=h;exact ⟨es,s _ _ e,k,bi.tfm (.of s) y r⟩
 |lr xs=>obtain ⟨vs,e,r⟩:=h;exact ⟨vs,s _ _ e,bi.tfm (.of s) y r⟩
 |dt kvs=>obtain ⟨es,e,k,r⟩:=h;exact ⟨es,s _ _ e,k,RelDs.tf (.of s) _ _ r⟩
 |tb P q=>obtain ⟨e,ps,k,r⟩:=h;exact ⟨e,ps,s _ _ k,r.mono fun b o u g=>s _ _ g⟩
 |ob c fs=>obtain ⟨C,dx,es,n,e,k,r⟩:=h;exact ⟨C,dx,es,n,s _ _ e,k,bi.tfm (.of s) y r⟩
 |tr xs=>obtain ⟨vs,e,r⟩:=h;exact ⟨vs,s _ _ e,bi.tfm (.of s) y r⟩
 |fzr kvs=>obtain ⟨o,es,e,k,r⟩:=h;exact ⟨o,es,s _ _ e,k,bi.tfm (.of s) y r⟩
 |dtr kvs=>obtain ⟨es,e,k,r⟩:=h;exact ⟨es,s _ _ e,k,bi.tfm (.of s) y r⟩
theorem jh.some {c:ap}{a:Addr}(h:jh K m H c a):∃o,H a=some o:=by
 cases c with
 |lst xs=>obtain ⟨vs,e,r⟩:=h;exact ⟨_,e⟩
 |fz xs=>obtain ⟨o,vs,e,r⟩:=h;exact ⟨_,e⟩
 |dct kvs=>obtain ⟨es,e,k,r⟩:=h;exact ⟨_,e⟩
 |fzd kvs=>obtain ⟨o,es,e,k,r⟩:=h;exact ⟨_,e⟩
 |dr kvs=>obtain ⟨es,e,k,r⟩:=h;exact ⟨_,e⟩
 |lr xs=>obtain ⟨vs,e,r⟩:=h;exact ⟨_,e⟩
 |dt kvs=>obtain ⟨es,e,k,r⟩:=h;exact ⟨_,e⟩
 |tb P q=>obtain ⟨e,ps,k,r⟩:=h;exact ⟨_,e ▸ k⟩
 |ob c fs=>obtain ⟨C,dx,es,n,e,k,r⟩:=h;exact ⟨_,e⟩
 |tr xs=>obtain ⟨vs,e,r⟩:=h;exact ⟨_,e⟩
 |fzr kvs=>obtain ⟨o,es,e,k,r⟩:=h;exact ⟨_,e⟩
 |dtr kvs=>obtain ⟨es,e,k,r⟩:=h;exact ⟨_,e⟩
def aO.same (h:aO K m H U)(s:∀a o,H a=some o->H' a=some o):aO K m H' U :=
 ⟨h.nd,h.len,fun i c a e1 e2=>(h.cell i c a e1 e2).same s ⟨[],by simp⟩⟩
def aO.mem (h:aO K m H U){a:Addr}(ha:a∈m):∃o,H a=some o:=by
 obtain ⟨i,hi,e⟩:=za6 ha;have hi':i < U.length:=by rw [←h.len];exact hi
 exact (h.cell i U[i] a (zas hi') (by rw [←e];exact zas hi)).some
def aO.fresh (h:aO K m H U){p:Addr}(hp:H p=none):p∉m:=fun z=>by obtain ⟨o,e⟩:=h.mem z;rw [hp] at e;cases e
def aO.nil:aO K [] H []:=⟨.nil,rfl,fun i c a e=>by simp at e⟩
def bW {p:Addr}{o:HO}(hp:H p=none):∀a u,H a=some u->upd H p o a=some u:=fun a u e=>by unfold upd;rw [if_neg (fun z=>by rw [z,hp] at e;cases e)];exact e
def n8 {p:Addr}{o:HO}{a:Addr}(h:upd H p o a=none):H a=none:=by
 unfold upd at h;split at h
 ·cases h
 ·exact h
def bf {p:Addr}{o:HO}:upd H p o p=some o:=by unfold upd;rw [if_pos rfl]
def c6.new {p:Addr}{o:HO}(hp:H p=none):c6 m H m (upd H p o) :=
 ⟨⟨[],by simp⟩,.of (bW hp),fun a u e _=>bW hp a u e,fun _ h=>n8 h⟩
def c6.newH {p:Addr}{o:HO}(hp:H p=none):c6 m H (m++[p]) (upd H p o) :=
 ⟨⟨[p],rfl,fun a h=>by rw [zaB.mp h];exact hp⟩,.of (bW hp),fun a u e _=>bW hp a u e,fun _ h=>n8 h⟩
def aO.newH {p:Addr}{o:HO}{c:ap}(h:aO K m H U)(hp:H p=none)(hc:jh K (m++[p]) (upd H p o) c p):aO K (m++[p]) (upd H p o) (U++[c]):=by
 refine ⟨?_,by simp [h.len],fun i c' a e1 e2=>?_⟩
 ·refine zbu.mpr ⟨h.nd,by simp,fun a ha b hb=>?_⟩;rw [zaB.mp hb];rintro rfl;exact h.fresh hp ha
 ·by_cases hi:i < m.length
  ·rw [zaj hi] at e2;rw [zaj (by rw [←h.len];exact hi)] at e1;exact (h.cell i c' a e1 e2).same (bW hp) ⟨[p],rfl⟩
  ·rw [zaP (by omega)] at e2;rw [zaP (by have:=h.len;omega)] at e1;have hl:=h.len;have:i - m.length=0:=by
    cases q:i - m.length with|zero=>rfl|succ k=>rw [q] at e2;simp at e2
   have e3:i - U.length=0:=(by omega);rw [this] at e2;rw [e3] at e1;simp at e1 e2;subst e1 e2;exact hc
def c6.put {a:Addr}{o o':HO}(ha:a∈m)(e:H a=some o)(ho:∀xs,o≠.tup xs)(hf:∀x u,o≠.frz x u):c6 m H m (upd H a o'):=by
 have ne:∀b u,H b=some u->u≠o->b≠a:=fun b u q n z=>by rw [z,e] at q;exact n (Option.some.inj q).symm
 refine ⟨⟨[],by simp⟩,⟨fun b xs q=>?_,fun b x u q=>?_⟩,fun b u q n=>?_,fun b h=>n8 h⟩
 ·unfold upd;rw [if_neg (ne b _ q fun z=>ho xs z.symm)];exact q
 ·unfold upd;rw [if_neg (ne b _ q fun z=>hf x u z.symm)];exact q
 ·unfold upd;rw [if_neg (fun z:b=a=>n (by rw [z];exact ha))];exact q
def aO.put {n:Nat}{a:Addr}{o o':HO}{c:ap}(h:aO K m H U)(hn:m[n]?=some a)(e:H a=some o)(ho:∀xs,o≠.tup xs)(hf:∀x u,o≠.frz x u)(hc:jh K m (upd H a o') c a):aO K m (upd H a o') (U.set n c):=by
 have ha:a∈m:=zaI hn;have x:c6 m H m (upd H a o'):=.put ha e ho hf;refine ⟨h.nd,by simp [h.len],fun i c' b e1 e2=>?_⟩;by_cases hi:i=n
 ·subst hi;rw [hn] at e2;cases e2;rw [zay (by have:=(zau.mp hn).1;have:=h.len;omega)] at e1;cases e1;exact hc
 ·rw [zak (Ne.symm hi)] at e1;have nb:b≠a:=by rintro rfl;obtain ⟨h1,q1⟩:=zau.mp e2;obtain ⟨h2,q2⟩:=zau.mp hn;exact hi ((zbJ h.nd).mp (q1.trans q2.symm))
  have at':∀u,H b=some u->upd H a o' b=some u:=fun u q=>by unfold upd;rw [if_neg nb];exact q
  have z:=h.cell i c' b e1 e2
  cases c' with
  |lst xs=>obtain ⟨vs,e,r⟩:=z;exact ⟨vs,at' _ e,RelDs.tf x.tf _ _ r⟩
  |fz xs=>obtain ⟨o,vs,e,r⟩:=z;exact ⟨o,vs,at' _ e,RelDs.tf x.tf _ _ r⟩
  |dct kvs=>obtain ⟨es,e,k,r⟩:=z;exact ⟨es,at' _ e,k,RelDs.tf x.tf _ _ r⟩
  |fzd kvs=>obtain ⟨o,es,e,k,r⟩:=z;exact ⟨o,es,at' _ e,k,RelDs.tf x.tf _ _ r⟩
  |dr kvs=>obtain ⟨es,e,k,r⟩:=z;exact ⟨es,at' _ e,k,bi.tfm x.tf ⟨[],by simp⟩ r⟩
  |lr xs=>obtain ⟨vs,e,r⟩:=z;exact ⟨vs,at' _ e,bi.tfm x.tf ⟨[],by simp⟩ r⟩
  |dt kvs=>obtain ⟨es,e,k,r⟩:=z;exact ⟨es,at' _ e,k,RelDs.tf x.tf _ _ r⟩
  |tb P q=>obtain ⟨e,ps,k,r⟩:=z;subst e;exact ⟨rfl,ps,at' _ k,r.mono x.tf.frz⟩
  |ob c fs=>obtain ⟨C,dx,es,n,e,k,r⟩:=z;exact ⟨C,dx,es,n,at' _ e,k,bi.tfm x.tf ⟨[],by simp⟩ r⟩
  |tr xs=>obtain ⟨vs,e,r⟩:=z;exact ⟨vs,at' _ e,bi.tfm x.tf ⟨[],by simp⟩ r⟩
  |fzr kvs=>obtain ⟨o,es,e,k,r⟩:=z;exact ⟨o,es,at' _ e,k,bi.tfm x.tf ⟨[],by simp⟩ r⟩
  |dtr kvs=>obtain ⟨es,e,k,r⟩:=z;exact ⟨es,at' _ e,k,bi.tfm x.tf ⟨[],by simp⟩ r⟩
end
def az (K:zac)(f:FE):TE:=fun Y H Q=>∃O U m d U',dN K m H O Y/\aO K m H U/\f O U=some (d,U') /\
 ∀v H' m',c6 m H m' H'->aO K m' H' U'->au K m' H' d v->Q v H'
def fZ (K:zac)(f:FT):TT:=fun Y H Q=>∃O U m b U',dN K m H O Y/\aO K m H U/\f O U=some (b,U') /\
 ∀H' m',c6 m H m' H'->aO K m' H' U'->Q b H'
def je (K:zac)(f:FA):TA:=fun Y H Q=>∃O U m ds U',dN K m H O Y/\aO K m H U/\f O U=some (ds,U') /\
 ∀vs H' m',c6 m H m' H'->aO K m' H' U'->bi K m' H' ds vs->Q vs H'
def eT.of (K:zac)(m:Tf)(H:Hp)(D:eT):ni->Prop
 |.nx O U=>∀Y H' m',c6 m H m' H'->aO K m' H' U->dN K m' H' O Y->D.nx Y H'|.bk O U=>∀Y H' m',c6 m H m' H'->aO K m' H' U->dN K m' H' O Y->D.bk Y H'|.ct O U=>∀Y H' m',c6 m H m' H'->aO K m' H' U->dN K m' H' O Y->D.ct Y H'|.rt d U=>∀v H' m',c6 m H m' H'->aO K m' H' U->au K m' H' d v->D.rt v H'
def g9 (K:zac)(f:FS):TS:=fun D Y H=>∃O U m out,dN K m H O Y/\aO K m H U/\f O U=some out/\eT.of K m H D out
def ae (i:Nat):FE:=fun O U=>match O[i]? with|some (some d)=>some (d,U)|_=>none
def fK (d:D):FE:=fun _ U=>some (.v d,U)
def aA (g:R->R->ac->Option (R×ac))(fa fb:FE):FE:=fun O U=>(fa O U).bind fun a=>(fb O a.2).bind fun b=>g a.1 b.1 b.2
def nJ (g:R->ac->Option (R×ac))(fa:FE):FE:=fun O U=>(fa O U).bind fun a=>g a.1 a.2
def sy (K:zac)(g:R->R->ac->Option (R×ac))(r:R2):Prop :=
 ∀m H U x y d U' v u Q,aO K m H U->au K m H x v->au K m H y u->g x y U=some (d,U')->(∀w H' m',c6 m H m' H'->aO K m' H' U'->au K m' H' d w->Q w H')->r v u H Q
def Sq (K:zac)(g:R->ac->Option (R×ac))(r:V->Hp->VK->Prop):Prop :=
 ∀m H U x d U' v Q,aO K m H U->au K m H x v->g x U=some (d,U')->(∀w H' m',c6 m H m' H'->aO K m' H' U'->au K m' H' d w->Q w H')->r v H Q
def zQ (K:zac)(g:List R->ac->Option (R×ac))(r:List V->Hp->VK->Prop):Prop :=
 ∀m H U xs d U' vs Q,aO K m H U->bi K m H xs vs->g xs U=some (d,U')->(∀w H' m',c6 m H m' H'->aO K m' H' U'->au K m' H' d w->Q w H')->r vs H Q
def ai:FA:=fun _ U=>some ([],U)
def af (fa:FE)(fr:FA):FA:=fun O U=>(fa O U).bind fun a=>(fr O a.2).bind fun r=>some (a.1::r.1,r.2)
def dI (g:List R->ac->Option (R×ac))(fa:FA):FE:=fun O U=>(fa O U).bind fun a=>g a.1 a.2
section
variable {K:zac}{Y:St}{H:Hp}{Q:VK}
def Ip {i:Nat}(h:az K (ae i) Y H Q):Lr i Y H Q:=by
 obtain ⟨O,U,m,d,U',hl,hs,e,k⟩:=h;unfold ae at e;split at e
 ·rename_i d' q
  cases e;obtain ⟨v,q1,q2⟩:=hl.2 i _ q;exact ⟨v,q1,k v H m .refl hs q2⟩
 ·cases e
def lK {d:D}{v:V}(hv:∀m H,au K m H (.v d) v)(h:az K (fK d) Y H Q):tC v Y H Q:=by obtain ⟨O,U,m,d',U',hl,hs,e,k⟩:=h;cases e;exact k v H m .refl hs (hv _ _)
def kJ {g r fa fb}(hg:sy K g r)(h:az K (aA g fa fb) Y H Q):KH r (az K fa) (az K fb) Y H Q:=by obtain ⟨O,U,m,d,U',hl,hs,e,k⟩:=h;obtain ⟨⟨x,U1⟩,e1,e⟩:=zaa.mp e;obtain ⟨⟨y,U2⟩,e2,e⟩:=zaa.mp e;refine ⟨O,U,m,x,U1,hl,hs,e1,fun v H1 m1 x1 s1 r1=>?_⟩;refine ⟨O,U1,m1,y,U2,hl.ext x1,s1,e2,fun u H2 m2 x2 s2 r2=>?_⟩;exact hg m2 H2 U2 x y d U' v u Q s2 (r1.ext x2) r2 e fun w H3 m3 x3 s3 r3=>k w H3 m3 ((x1.trans x2).trans x3) s3 r3
def LF {g r fa}(hg:Sq K g r)(h:az K (nJ g fa) Y H Q):RF r (az K fa) Y H Q:=by obtain ⟨O,U,m,d,U',hl,hs,e,k⟩:=h;obtain ⟨⟨x,U1⟩,e1,e⟩:=zaa.mp e;refine ⟨O,U,m,x,U1,hl,hs,e1,fun v H1 m1 x1 s1 r1=>?_⟩;exact hg m1 H1 U1 x d U' v Q s1 r1 e fun w H3 m3 x3 s3 r3=>k w H3 m3 (x1.trans x3) s3 r3
theorem IB {Q:List V->Hp->Prop}(h:je K ai Y H Q):sS Y H Q:=by obtain ⟨O,U,m,ds,U',hl,hs,e,k⟩:=h;cases e;exact k [] H m .refl hs rfl
def Eg {fa fr}{Q:List V->Hp->Prop}(h:je K (af fa fr) Y H Q):lF (az K fa) (je K fr) Y H Q:=by obtain ⟨O,U,m,ds,U',hl,hs,e,k⟩:=h;obtain ⟨⟨x,U1⟩,e1,e⟩:=zaa.mp e;obtain ⟨⟨xs,U2⟩,e2,e⟩:=zaa.mp e;cases e;refine ⟨O,U,m,x,U1,hl,hs,e1,fun v H1 m1 x1 s1 r1=>?_⟩;refine ⟨O,U1,m1,xs,U2,hl.ext x1,s1,e2,fun vs H2 m2 x2 s2 r2=>?_⟩;exact k (v::vs) H2 m2 (x1.trans x2) s2 ⟨v,vs,rfl,r1.ext x2,r2⟩
def jv {g r fa}(hg:zQ K g r)(h:az K (dI g fa) Y H Q):H9 r (je K fa) Y H Q:=by obtain ⟨O,U,m,d,U',hl,hs,e,k⟩:=h;obtain ⟨⟨xs,U1⟩,e1,e⟩:=zaa.mp e;refine ⟨O,U,m,xs,U1,hl,hs,e1,fun vs H1 m1 x1 s1 r1=>?_⟩;exact hg m1 H1 U1 xs d U' vs Q s1 r1 e fun w H3 m3 x3 s3 r3=>k w H3 m3 (x1.trans x3) s3 r3
end
def fB (fa:FE):FT:=fun O U=>(fa O U).bind fun a=>match a.1 with|.v (.bl b)=>some (b,a.2)|_=>none
noncomputable def Ag:R->ac->Option Bool
 |.v .non,_=>some false|.v (.bl b),_=>some b|.v (.int i),_=>some (i != 0)|.v (.str x),_=>if x.length<=sizeLine then some ((x.length:Int) != 0) else none|.v (.tup xs),_=>some (!xs.isEmpty)|.v (.fl xs),_=>some (!xs.isEmpty)|.v (.fd _ _),_=>none|.v (.key _),_=>none|.s _ _,_=>none|.x _,_=>none|.f _ _,_=>none|.p n,U=>match U[n]? with|some (.lst xs)=>some (!xs.isEmpty)|some (.fz xs)=>some (!xs.isEmpty)|some (.dct kvs)=>some (!kvs.isEmpty)|_=>none
def fm (fa:FE):FT:=fun O U=>(fa O U).bind fun a=>(Ag a.1 a.2).bind fun b=>some (b,a.2)
def sT (t u:FT):FT:=fun O U=>(t O U).bind fun c=>if c.1=true then u O c.2 else some (false,c.2)
def hJ (t u:FT):FT:=fun O U=>(t O U).bind fun c=>if c.1=true then some (true,c.2) else u O c.2
def d6 (t:FT):FT:=fun O U=>(t O U).bind fun c=>some (!c.1,c.2)
def rV (fa fb:FE):FE:=fun O U=>(fa O U).bind fun a=>match a.1 with|.v (.bl c)=>if c=true then fb O a.2 else some (.v (.bl false),a.2)|_=>none
def CF (fa:FE):FE:=fun O U=>(fa O U).bind fun a=>match a.1 with|.v (.bl c)=>some (.v (.bl (!c)),a.2)|_=>none
def Ke (t:FT)(fa fb:FE):FE:=fun O U=>(t O U).bind fun c=>if c.1=true then fa O c.2 else fb O c.2
theorem RelDs.length {K:zac}{H:Hp}:∀{ds:List D} {vs:List V},RelDs K H ds vs->ds.length=vs.length
 |[],_,h=>by simp only [RelDs] at h;subst h;rfl|_::_,_,h=>by simp only [RelDs] at h;obtain ⟨v,r,rfl,_,h2⟩:=h;simp [RelDs.length h2]
def RelDs.empty {K:zac}{H:Hp}{ds:List D}{vs:List V}(h:RelDs K H ds vs):ds.isEmpty=vs.isEmpty:=by have:=h.length;cases ds <;> cases vs <;> simp_all
section
variable {K:zac}{Y:St}{H:Hp}{Q:VK}{B:Bool->Hp->Prop}
def O2z {fa}(h:fZ K (fB fa) Y H B):tB (az K fa) Y H B:=by
 obtain ⟨O,U,m,d,U',hl,hs,e,k⟩:=h;obtain ⟨⟨x,U1⟩,e1,e⟩:=zaa.mp e;split at e
 ·rename_i b q
  cases e;subst q;exact ⟨O,U,m,_,U1,hl,hs,e1,fun v H1 m1 x1 s1 r1=>⟨_,by simpa only [au,ao] using r1,k H1 m1 x1 s1⟩⟩
 ·cases e
def xt {fa}(h:fZ K (fB fa) Y H B):GF (az K fa) Y H B:=O2z h
theorem vD {m:Tf}{U:ac}{x:R}{b:Bool}{v:V}(s:aO K m H U)(r:au K m H x v)(e:Ag x U=some b):FQ K v H b:=by
 cases x with
 |v d =>
  cases d with
  |non=>cases e;cases r;rfl|bl c=>cases e;simp only [au,ao] at r;subst r;rfl|int i=>cases e;simp only [au,ao] at r;subst r;rfl|str x =>
   simp only [au,ao] at r;subst r;simp only [Ag] at e;split at e
   ·rename_i z;cases e;exact ⟨z,rfl⟩
   ·cases e
  |tup xs =>
   cases e;simp only [au,ao] at r;obtain ⟨a,vs,rfl,q,r⟩:=r;exact .inr (.inl ⟨vs,q,by rw [r.empty]⟩)
  |fl xs =>
   cases e;simp only [au,ao] at r;obtain ⟨a,vs,rfl,q,r⟩:=r;exact .inl ⟨vs,q.sq,by rw [r.empty]⟩
  |fd ks ds=>cases e|key ks=>cases e
 |s b xs=>cases e|x _=>cases e|f _ _=>cases e|p n =>
  obtain ⟨a,rfl,ha⟩:=r;simp only [Ag] at e;split at e
  ·rename_i xs q
   cases e;obtain ⟨vs,e,r⟩:=s.cell n _ a q ha;exact .inl ⟨vs,.inl (.inl e),by rw [r.empty]⟩
  ·rename_i xs q
   cases e;obtain ⟨o,vs,e,r⟩:=s.cell n _ a q ha;exact .inl ⟨vs,.inl (.inr ⟨o,e⟩),by rw [r.empty]⟩
  ·rename_i kvs q
   cases e;obtain ⟨es,e,k,r⟩:=s.cell n _ a q ha;refine .inr (.inr ⟨es,e,?_⟩);have:=congrArg List.length k;cases es <;> cases kvs <;> simp_all
  ·cases e
def Iu {fa}(h:fZ K (fm fa) Y H B):(fun Y H (Q:Bool->Hp->Prop)=>az K fa Y H fun x H1=>∃k,FQ K x H1 k/\Q k H1) Y H B:=by obtain ⟨O,U,m,d,U',hl,hs,e,k⟩:=h;obtain ⟨⟨x,U1⟩,e1,e⟩:=zaa.mp e;obtain ⟨b,e2,e⟩:=zaa.mp e;cases e;exact ⟨O,U,m,x,_,hl,hs,e1,fun v H1 m1 x1 s1 r1=>⟨_,vD s1 r1 e2,k H1 m1 x1 s1⟩⟩
theorem D7 {t u}(h:fZ K (sT t u) Y H B):LA (fZ K t) (fZ K u) Y H B:=by
 obtain ⟨O,U,m,d,U',hl,hs,e,k⟩:=h;obtain ⟨⟨c,U1⟩,e1,e⟩:=zaa.mp e;refine ⟨O,U,m,c,U1,hl,hs,e1,fun H1 m1 x1 s1=>?_⟩
 cases c with|true=>exact ⟨O,U1,m1,d,U',hl.ext x1,s1,e,fun H2 m2 x2 s2=>k H2 m2 (x1.trans x2) s2⟩|false=>cases e;exact k H1 m1 x1 s1
theorem Iv {t u}(h:fZ K (hJ t u) Y H B):RH (fZ K t) (fZ K u) Y H B:=by
 obtain ⟨O,U,m,d,U',hl,hs,e,k⟩:=h;obtain ⟨⟨c,U1⟩,e1,e⟩:=zaa.mp e;refine ⟨O,U,m,c,U1,hl,hs,e1,fun H1 m1 x1 s1=>?_⟩
 cases c with|false=>exact ⟨O,U1,m1,d,U',hl.ext x1,s1,e,fun H2 m2 x2 s2=>k H2 m2 (x1.trans x2) s2⟩|true=>cases e;exact k H1 m1 x1 s1
def D6 {t}(h:fZ K (d6 t) Y H B):Lw (fZ K t) Y H B:=by obtain ⟨O,U,m,d,U',hl,hs,e,k⟩:=h;obtain ⟨⟨c,U1⟩,e1,e⟩:=zaa.mp e;cases e;exact ⟨O,U,m,c,U1,hl,hs,e1,fun H1 m1 x1 s1=>k H1 m1 x1 s1⟩
def IU {fa fb}(h:az K (rV fa fb) Y H Q):GN (az K fa) (az K fb) Y H Q:=by
 obtain ⟨O,U,m,d,U',hl,hs,e,k⟩:=h;obtain ⟨⟨x,U1⟩,e1,e⟩:=zaa.mp e;split at e
 ·rename_i c q;subst q;refine ⟨O,U,m,_,U1,hl,hs,e1,fun v H1 m1 x1 s1 r1=>⟨c,by simpa only [au,ao] using r1,?_⟩⟩
  cases c with|true=>exact ⟨O,U1,m1,d,U',hl.ext x1,s1,e,fun w H2 m2 x2 s2 r2=>k w H2 m2 (x1.trans x2) s2 r2⟩|false=>cases e;exact k _ H1 m1 x1 s1 (by simp only [au,ao])
 ·cases e
def IA {fa}(h:az K (CF fa) Y H Q):GJ (az K fa) Y H Q:=by
 obtain ⟨O,U,m,d,U',hl,hs,e,k⟩:=h;obtain ⟨⟨x,U1⟩,e1,e⟩:=zaa.mp e;split at e
 ·rename_i c q
  cases e;subst q;exact ⟨O,U,m,_,U1,hl,hs,e1,fun v H1 m1 x1 s1 r1=>⟨c,by simpa only [au,ao] using r1,k _ H1 m1 x1 s1 (by simp only [au,ao])⟩⟩
 ·cases e
theorem LJ {t fa fb}(h:az K (Ke t fa fb) Y H Q):RJ (fZ K t) (az K fa) (az K fb) Y H Q:=by
 obtain ⟨O,U,m,d,U',hl,hs,e,k⟩:=h;obtain ⟨⟨c,U1⟩,e1,e⟩:=zaa.mp e;refine ⟨O,U,m,c,U1,hl,hs,e1,fun H1 m1 x1 s1=>?_⟩
 cases c with|true=>exact ⟨O,U1,m1,d,U',hl.ext x1,s1,e,fun w H2 m2 x2 s2 r2=>k w H2 m2 (x1.trans x2) s2 r2⟩|false=>exact ⟨O,U1,m1,d,U',hl.ext x1,s1,e,fun w H2 m2 x2 s2 r2=>k w H2 m2 (x1.trans x2) s2 r2⟩
end
noncomputable def vals:List R->Option (List D)
 |[]=>some []|.v d::r=>(vals r).bind fun ds=>some (d::ds)|.p _::_=>none|.s _ _::_=>none|.x _::_=>none|.f _ _::_=>none
theorem ly {K:zac}{m:Tf}{H:Hp}:∀{rs:List R} {ds:List D} {vs:List V},vals rs=some ds->bi K m H rs vs->RelDs K H ds vs
 |[],_,_,e,h=>by cases e;simp only [RelDs];exact h|.v d::r,_,_,e,⟨v,vs,rfl,h1,h2⟩=>by obtain ⟨ds,e1,e⟩:=zaa.mp e;cases e;simp only [RelDs];exact ⟨v,vs,rfl,h1,ly e1 h2⟩
 |.p _::_,_,_,e,_=>by cases e|.s _ _::_,_,_,e,_=>by cases e|.x _::_,_,_,e,_=>by cases e|.f _ _::_,_,_,e,_=>by cases e
def bT (fa:FA):FE:=fun O U=>(fa O U).bind fun a=>(vals a.1).bind fun ds=>if ds.length<=sizeLine then some (.v (.tup ds),a.2) else none
def fq (fa:FA):FE:=fun O U=>(fa O U).bind fun a=>(vals a.1).bind fun ds=>if ds.length<=sizeLine then some (.p a.2.length,a.2++[.lst ds]) else none
section
variable {K:zac}{m:Tf}{Y:St}{H:Hp}{Q:VK}{U:ac}
def j8 {ds:List D}{vs:List V}{p:Addr}(s:aO K m H U)(r:RelDs K H ds vs)(hp:H p=none):c6 m H m (upd H p (.tup vs))/\aO K m (upd H p (.tup vs)) U/\au K m (upd H p (.tup vs)) (.v (.tup ds)) (.ref p):=by refine ⟨.new hp,s.same (bW hp),?_⟩;simp only [au,ao];exact ⟨p,vs,rfl,.inl (.inl bf),RelDs.tf (.of (bW hp)) _ _ r⟩
def fJ {ds:List D}{vs:List V}{p:Addr}(s:aO K m H U)(r:RelDs K H ds vs)(hp:H p=none):c6 m H (m++[p]) (upd H p (.lst vs))/\aO K (m++[p]) (upd H p (.lst vs)) (U++[.lst ds])/\au K (m++[p]) (upd H p (.lst vs)) (.p U.length) (.ref p):=by refine ⟨.newH hp,s.newH hp ⟨vs,bf,RelDs.tf (.of (bW hp)) _ _ r⟩,p,rfl,?_⟩;rw [←s.len];simp
def Ir {fa}(h:az K (bT fa) Y H Q):HV (je K fa) Y H Q:=by
 obtain ⟨O,U,m,d,U',hl,hs,e,k⟩:=h;obtain ⟨⟨xs,U1⟩,e1,e⟩:=zaa.mp e;obtain ⟨ds,e2,e⟩:=zaa.mp e;split at e
 ·rename_i z
  cases e;refine ⟨O,U,m,xs,_,hl,hs,e1,fun vs H1 m1 x1 s1 r1=>?_⟩;have r2:=ly e2 r1;refine ⟨by rw [←r2.length];exact z,fun p hp=>?_⟩;obtain ⟨a,b,c⟩:=j8 s1 r2 hp;exact k _ _ _ (x1.trans a) b c
 ·cases e
def IC {fa}(h:az K (fq fa) Y H Q):HY (je K fa) Y H Q:=by
 obtain ⟨O,U,m,d,U',hl,hs,e,k⟩:=h;obtain ⟨⟨xs,U1⟩,e1,e⟩:=zaa.mp e;obtain ⟨ds,e2,e⟩:=zaa.mp e;split at e
 ·rename_i z
  cases e;refine ⟨O,U,m,xs,_,hl,hs,e1,fun vs H1 m1 x1 s1 r1=>?_⟩;have r2:=ly e2 r1;refine ⟨by rw [←r2.length];exact z,fun p hp=>?_⟩;obtain ⟨a,b,c⟩:=fJ s1 r2 hp;exact k _ _ _ (x1.trans a) b c
 ·cases e
end
def bG:FS:=fun O U=>some (.nx O U)
def ar (a b:FS):FS:=fun O U=>(a O U).bind fun o=>match o with|.nx O' U'=>b O' U'|o=>some o
def fS (f:FE):FS:=fun O U=>(f O U).bind fun a=>some (.nx O a.2)
def bP (f:FE):FS:=fun O U=>(f O U).bind fun a=>some (.rt a.1 a.2)
def ju (t:FT)(a b:FS):FS:=fun O U=>(t O U).bind fun c=>if c.1=true then a O c.2 else b O c.2
def aI (i:Nat)(f:FE):FS:=fun O U=>(f O U).bind fun a=>some (.nx (O.set i (some a.1)) a.2)
section
variable {K:zac}{m m' m1:Tf}{Y:St}{H H' H1:Hp}{D:eT}{U:ac}{O:Lo}
theorem eT.of_ext {o:ni}(x:c6 m H m1 H1)(h:eT.of K m H D o):eT.of K m1 H1 D o:=by
 cases o with|nx O U=>exact fun Y H' m' y=>h Y H' m' (x.trans y)|bk O U=>exact fun Y H' m' y=>h Y H' m' (x.trans y)|ct O U=>exact fun Y H' m' y=>h Y H' m' (x.trans y)|rt d U=>exact fun Y H' m' y=>h Y H' m' (x.trans y)
def dN.set {d:R}{v:V}(h:dN K m H O Y)(r:au K m H d v)(i:Nat):dN K m H (O.set i (some d)) (Y.set i (some v)):=by
 refine ⟨by simp [h.1],fun j d' e=>?_⟩;by_cases hj:j=i
 ·subst hj;by_cases hi:j < O.length
  ·rw [zay hi] at e
   cases e;exact ⟨v,zay (by rw [←h.1];exact hi),r⟩
  ·rw [zcp (by simp;omega)] at e
   cases e
 ·rw [zak (Ne.symm hj)] at e;obtain ⟨u,q1,q2⟩:=h.2 j d' e;exact ⟨u,by rw [zak (Ne.symm hj)];exact q1,q2⟩
def Ea (h:g9 K bG D Y H):GK D Y H:=by obtain ⟨O,U,m,o,hl,hs,e,k⟩:=h;cases e;exact k Y H m .refl hs hl
theorem Ix {a b}(h:g9 K (ar a b) D Y H):Lu (g9 K a) (g9 K b) D Y H:=by
 obtain ⟨O,U,m,o,hl,hs,e,k⟩:=h;obtain ⟨o1,e1,e⟩:=zaa.mp e;refine ⟨O,U,m,o1,hl,hs,e1,?_⟩
 cases o1 with|nx O1 U1=>exact fun Y1 H1 m1 x1 s1 l1=>⟨O1,U1,m1,o,l1,s1,e,eT.of_ext x1 k⟩|bk O1 U1=>cases e;exact k|ct O1 U1=>cases e;exact k|rt d U1=>cases e;exact k
def Ee {f}(h:g9 K (fS f) D Y H):GL (az K f) D Y H:=by obtain ⟨O,U,m,o,hl,hs,e,k⟩:=h;obtain ⟨⟨x,U1⟩,e1,e⟩:=zaa.mp e;cases e;exact ⟨O,U,m,x,U1,hl,hs,e1,fun v H1 m1 x1 s1 r1=>k Y H1 m1 x1 s1 (hl.ext x1)⟩
def Iy {f}(h:g9 K (bP f) D Y H):Lv (az K f) D Y H:=by obtain ⟨O,U,m,o,hl,hs,e,k⟩:=h;obtain ⟨⟨x,U1⟩,e1,e⟩:=zaa.mp e;cases e;exact ⟨O,U,m,x,U1,hl,hs,e1,k⟩
theorem IE {t a b}(h:g9 K (ju t a b) D Y H):Lx (fZ K t) (g9 K a) (g9 K b) D Y H:=by
 obtain ⟨O,U,m,o,hl,hs,e,k⟩:=h;obtain ⟨⟨c,U1⟩,e1,e⟩:=zaa.mp e;refine ⟨O,U,m,c,U1,hl,hs,e1,fun H1 m1 x1 s1=>?_⟩
 cases c with|true=>exact ⟨O,U1,m1,o,hl.ext x1,s1,e,eT.of_ext x1 k⟩|false=>exact ⟨O,U1,m1,o,hl.ext x1,s1,e,eT.of_ext x1 k⟩
def A5 {i f}(h:g9 K (aI i f) D Y H):AJ (az K f) (qv i) D Y H:=by obtain ⟨O,U,m,o,hl,hs,e,k⟩:=h;obtain ⟨⟨x,U1⟩,e1,e⟩:=zaa.mp e;cases e;exact ⟨O,U,m,x,U1,hl,hs,e1,fun v H1 m1 x1 s1 r1=>k _ H1 m1 x1 s1 ((hl.ext x1).set r1 i)⟩
end
abbrev FG:=R->Lo->ac->Option (Lo×ac)
def nN (K:zac)(g:FG):TG:=fun v Y H Q=>∃O U m d O' U',dN K m H O Y/\aO K m H U/\au K m H d v/\g d O U=some (O',U') /\
 ∀Y' H' m',c6 m H m' H'->aO K m' H' U'->dN K m' H' O' Y'->Q Y' H'
abbrev Hz:=List R->Lo->ac->Option (Lo×ac)
def tH (K:zac)(g:Hz):DI:=fun vs Y H Q=>∃O U m ds O' U',dN K m H O Y/\aO K m H U/\bi K m H ds vs/\g ds O U=some (O',U') /\
 ∀Y' H' m',c6 m H m' H'->aO K m' H' U'->dN K m' H' O' Y'->Q Y' H'
def aT (i:Nat):FG:=fun d O U=>some (O.set i (some d),U)
def bz:Hz:=fun ds O U=>match ds with|[]=>some (O,U)|_=>none
def aq (g:FG)(r:Hz):Hz:=fun ds O U=>match ds with|[]=>none|d::ds=>(g d O U).bind fun a=>r ds a.1 a.2
def iF (n:Nat)(g:Hz):FG:=fun d O U=>match d with|.v (.tup xs)=>if xs.length=n then g (xs.map .v) O U else none|_=>none
def pT (f:FE)(g:FG):FS:=fun O U=>(f O U).bind fun a=>(g a.1 O a.2).bind fun b=>some (.nx b.1 b.2)
section
variable {K:zac}{m m1:Tf}{Y:St}{H H1:Hp}{D:eT}{U:ac}{O:Lo}{v:V}{Q:St->Hp->Prop}
def IL {i}(h:nN K (aT i) v Y H Q):qv i v Y H Q:=by obtain ⟨O,U,m,d,O',U',hl,hs,r,e,k⟩:=h;cases e;exact k _ H m .refl hs (hl.set r i)
theorem A8 {vs}(h:tH K bz vs Y H Q):MV vs Y H Q:=by
 obtain ⟨O,U,m,ds,O',U',hl,hs,r,e,k⟩:=h
 cases ds with|nil=>cases e;exact ⟨r,k Y H m .refl hs hl⟩|cons d ds=>cases e
theorem yT {g r vs}(h:tH K (aq g r) vs Y H Q):Hf (nN K g) (tH K r) vs Y H Q:=by
 obtain ⟨O,U,m,ds,O',U',hl,hs,rr,e,k⟩:=h
 cases ds with|nil=>cases e|cons d ds =>
  obtain ⟨v,vr,rfl,r1,r2⟩:=rr;obtain ⟨⟨O1,U1⟩,e1,e⟩:=zaa.mp e;refine ⟨v,vr,rfl,O,U,m,d,O1,U1,hl,hs,r1,e1,fun Y1 H1 m1 x1 s1 l1=>?_⟩;exact ⟨O1,U1,m1,ds,O',U',l1,s1,r2.ext x1,e,fun Y2 H2 m2 x2 s2 l2=>k Y2 H2 m2 (x1.trans x2) s2 l2⟩
theorem RelDs.rs:∀{ds:List HW.D} {vs:List V},RelDs K H ds vs->bi K m H (ds.map .v) vs
 |[],_,h=>by simp only [RelDs] at h;exact h|d::ds,_,h=>by simp only [RelDs] at h;obtain ⟨v,r,rfl,h1,h2⟩:=h;exact ⟨v,r,rfl,h1,RelDs.rs h2⟩
def IJ {n g}(h:nN K (iF n g) v Y H Q):MU K n (tH K g) v Y H Q:=by
 obtain ⟨O,U,m,d,O',U',hl,hs,r,e,k⟩:=h;unfold iF at e;split at e
 ·rename_i xs;split at e
  ·rename_i hn;simp only [au,ao] at r;obtain ⟨a,vs,rfl,q,rr⟩:=r;exact ⟨a,vs,rfl,q,by rw [←rr.length];exact hn,O,U,m,_,O',U',hl,hs,rr.rs,e,k⟩
  ·cases e
 ·cases e
def IT {f g}(h:g9 K (pT f g) D Y H):AJ (az K f) (nN K g) D Y H:=by obtain ⟨O,U,m,o,hl,hs,e,k⟩:=h;obtain ⟨⟨x,U1⟩,e1,e⟩:=zaa.mp e;obtain ⟨⟨O2,U2⟩,e2,e⟩:=zaa.mp e;cases e;exact ⟨O,U,m,x,U1,hl,hs,e1,fun v H1 m1 x1 s1 r1=>⟨O,U1,m1,x,O2,U2,hl.ext x1,s1,r1,e2,fun Y2 H2 m2 x2 s2 l2=>k Y2 H2 m2 (x1.trans x2) s2 l2⟩⟩
end
def f9:HO->Prop
 |.lst _=>True|.set _ _=>True|.dK _=>True|_=>False
def NC (t:TE):TE:=fun Y H Q=>t Y H fun v H1=>Q v H1\/∃a u,H1 a=some u/\f9 u/\∀o,Q v (upd H1 a (.frz o u))
noncomputable def DG:R->ac->Option (D×ac)
 |.v d,U=>some (d,U)|.s _ _,_=>none|.x _,_=>none|.f _ _,_=>none|.p n,U=>match U[n]? with|some (.lst xs)=>some (.fl xs,U.set n (.fz xs))|some (.fz xs)=>some (.fl xs,U)|some (.dct kvs)=>some (.fd (kvs.map (·.1)) (kvs.map (·.2)),U.set n (.fzd kvs))|some (.fzd kvs)=>some (.fd (kvs.map (·.1)) (kvs.map (·.2)),U)|_=>none
def cD (f:FE):FE:=fun O U=>(f O U).bind fun a=>(DG a.1 a.2).bind fun b=>some (.v b.1,b.2)
section
variable {K:zac}{m:Tf}{Y:St}{H:Hp}{U:ac}{Q:VK}
theorem Hg {x:R}{d:D}{U':ac}{v:V}{B:Hp->Prop}(hs:aO K m H U)(r:au K m H x v)(e:DG x U=some (d,U'))
  (k:∀H',c6 m H m H'->aO K m H' U'->ao K H' d v->B H'):B H\/∃a u,H a=some u/\f9 u/\∀o,B (upd H a (.frz o u)):=by
 cases x with|v d'=>cases e;exact .inl (k H .refl hs r)|s b xs=>cases e|x _=>cases e|f _ _=>cases e|p n =>
  obtain ⟨a,rfl,ha⟩:=r;simp only [DG] at e;split at e
  ·rename_i xs q
   cases e;obtain ⟨vs,ea,rr⟩:=hs.cell n _ a q ha;refine .inr ⟨a,_,ea,trivial,fun o=>?_⟩;have x:c6 m H m (upd H a (.frz o (.lst vs))):=.put (zaI ha) ea (by simp) (by simp);refine k _ x (hs.put ha ea (by simp) (by simp) ⟨o,vs,bf,RelDs.tf x.tf _ _ rr⟩) ?_;simp only [ao];exact ⟨a,vs,rfl,.inl ⟨o,bf⟩,RelDs.tf x.tf _ _ rr⟩
  ·rename_i xs q
   cases e;obtain ⟨o,vs,ea,rr⟩:=hs.cell n _ a q ha;refine .inl (k H .refl hs ?_);simp only [ao];exact ⟨a,vs,rfl,.inl ⟨o,ea⟩,rr⟩
  ·rename_i kvs q
   cases e;obtain ⟨es,ea,ke,rr⟩:=hs.cell n _ a q ha;refine .inr ⟨a,_,ea,trivial,fun o=>?_⟩;have x:c6 m H m (upd H a (.frz o (.dK es))):=.put (zaI ha) ea (by simp) (by simp);refine k _ x (hs.put ha ea (by simp) (by simp) ⟨o,es,bf,ke,RelDs.tf x.tf _ _ rr⟩) ?_;simp only [ao];exact ⟨a,o,es,rfl,bf,ke,RelDs.tf x.tf _ _ rr⟩
  ·rename_i kvs q
   cases e;obtain ⟨o,es,ea,ke,rr⟩:=hs.cell n _ a q ha;refine .inl (k H .refl hs ?_);simp only [ao];exact ⟨a,o,es,rfl,ea,ke,rr⟩
  ·cases e
def GT {f}(h:az K (cD f) Y H Q):NC (az K f) Y H Q:=by obtain ⟨O,U,m,d,U',hl,hs,e,k⟩:=h;obtain ⟨⟨x,U1⟩,e1,e⟩:=zaa.mp e;obtain ⟨⟨d1,U2⟩,e2,e⟩:=zaa.mp e;cases e;refine ⟨O,U,m,x,U1,hl,hs,e1,fun v H1 m1 x1 s1 r1=>?_⟩;exact Hg (B:=fun H'=>Q v H') s1 r1 e2 fun H' y s2 r2=>k v H' m1 (x1.trans y) s2 r2
end
abbrev FI:=Lo->ac->Option (List D×ac)
structure Dy (K:zac)(J:It)(xs:List D)(P:Hp->Prop):Prop where
 st:∀H H',TF H H'->P H->P H'
 stop:∀i H,P H->xs.length<=i->J.stop i H
 go:∀(i:Nat) d H,xs[i]?=some d->P H->J.go i H
 yld:∀(i:Nat) d H x H',xs[i]?=some d->P H->J.yld i H x H'->H'=H/\ao K H d x
def vc (K:zac)(f:FI):TI:=fun Y H R=>∃O U m xs U',dN K m H O Y/\aO K m H U/\f O U=some (xs,U') /\
 ∀J P H' m',c6 m H m' H'->aO K m' H' U'->Dy K J xs P->P H'->R J H'
noncomputable def cg (g:FG)(b:FS):List D->Lo->ac->Option ni
 |[],O,U=>some (.nx O U)|x::xs,O,U=>(g (.v x) O U).bind fun a=>(b a.1 a.2).bind fun o=>match o with
  |.nx O' U'=>cg g b xs O' U'|.ct O' U'=>cg g b xs O' U'|.bk O' U'=>some (.nx O' U')|.rt d U'=>some (.rt d U')
def dF (i:FI)(g:FG)(b:FS):FS:=fun O U=>(i O U).bind fun a=>cg g b a.1 O a.2
section
variable {K:zac}{m:Tf}{Y:St}{H:Hp}{U:ac}{D:eT}
def IN {fi g b}(h:g9 K (dF fi g b) D Y H):HZ (vc K fi) (nN K g) (g9 K b) D Y H:=by
 obtain ⟨O,U,m,o,hl,hs,e,k⟩:=h;obtain ⟨⟨xs,U1⟩,e1,e⟩:=zaa.mp e;refine ⟨O,U,m,xs,U1,hl,hs,e1,fun J P H1 m1 x1 s1 ok p1=>?_⟩;refine ⟨fun i n Y H=>n=xs.length - i/\i<=xs.length/\P H/\∃O U m,dN K m H O Y/\aO K m H U/\cg g b (xs.drop i) O U=some o/\eT.of K m H D o,
  ⟨_,rfl,zbb _,p1,O,U1,m1,hl.ext x1,s1,by simpa using e,eT.of_ext x1 k⟩,?_⟩
 rintro i n Y H ⟨rfl,hi,p,O,U,m,hl,hs,e,k⟩;by_cases hlt:i < xs.length
 ·have hx:xs[i]?=some xs[i]:=zas hlt;rw [zbw hlt,cg] at e;obtain ⟨⟨O1,U1⟩,e1,e⟩:=zaa.mp e;obtain ⟨o1,e2,e⟩:=zaa.mp e;refine .inr ⟨ok.go i _ H hx p,fun Y H=>i+1<=xs.length/\P H/\∃O U m,dN K m H O Y/\aO K m H U/\cg g b (xs.drop (i+1)) O U=some o/\eT.of K m H D o,
   fun Y' H' z=>⟨xs.length - (i+1),by omega,rfl,z⟩,fun x H' y=>?_⟩
  obtain ⟨rfl,rx⟩:=ok.yld i _ H x H' hx p y;refine ⟨O,U,m,.v xs[i],O1,U1,hl,hs,rx,e1,fun Y1 H1 m1 x1 s1 l1=>?_⟩;refine ⟨O1,U1,m1,o1,l1,s1,e2,?_⟩
  cases o1 with|nx O2 U2=>exact fun Y2 H2 m2 x2 s2 l2=>⟨hlt,ok.st _ _ (x1.trans x2).tf p,O2,U2,m2,l2,s2,e,eT.of_ext (x1.trans x2) k⟩|ct O2 U2=>exact fun Y2 H2 m2 x2 s2 l2=>⟨hlt,ok.st _ _ (x1.trans x2).tf p,O2,U2,m2,l2,s2,e,eT.of_ext (x1.trans x2) k⟩|bk O2 U2=>cases e;exact fun Y2 H2 m2 x2 s2 l2=>k Y2 H2 m2 (x1.trans x2) s2 l2|rt d U2=>cases e;exact fun v H2 m2 x2 s2 l2=>k v H2 m2 (x1.trans x2) s2 l2
 ·have:i=xs.length:=by omega
  subst this;rw [zcQ,cg] at e;cases e;exact .inl ⟨ok.stop _ H p (zao _),k Y H m .refl hs hl⟩
end
def ba (f:FE):FI:=fun O U=>(cD f O U).bind fun a=>match a.1 with|.v (.fl xs)=>some (xs,a.2)|.v (.tup xs)=>some (xs,a.2)|_=>none
def Mx (K:zac)(tl:TE):TI:=fun Y H R=>tl Y H fun x H1=>∃a,x=.ref a/\(((∃xs,jg K H1 a xs)/\R (QP K a) H1)\/((∃xs,hX K H1 a xs)/\R (QO K a) H1))
noncomputable def uB (f:FE):FI:=fun O U=>(f O U).bind fun a=>match a.1 with|.v (.int j)=>if -(2 ^ 62)<=j/\j < 2 ^ 62 then some ((List.range j.toNat).map fun i=>.int (i:Nat),a.2) else none|_=>none
section
variable {K:zac}{m:Tf}{Y:St}{H:Hp}{U:ac}{R:It->Hp->Prop}
theorem RelDs.get:∀{ds:List D} {vs:List V} {i:Nat} {d:D},RelDs K H ds vs->ds[i]?=some d->∃v,vs[i]?=some v/\ao K H d v
 |[],_,_,_,_,e=>by simp at e|x::xs,vs,0,d,h,e=>by simp only [RelDs] at h;obtain ⟨v,r,rfl,h1,h2⟩:=h;simp at e;subst e;exact ⟨v,rfl,h1⟩
 |x::xs,vs,i+1,d,h,e=>by simp only [RelDs] at h;obtain ⟨v,r,rfl,h1,h2⟩:=h;obtain ⟨u,q1,q2⟩:=RelDs.get (i:=i) h2 (by simpa using e);exact ⟨u,by simpa using q1,q2⟩
def JW {a vs xs}(r0:RelDs K H xs vs):Dy K (QP K a) xs (fun H=>HB K H a vs/\RelDs K H xs vs) where
 st:=fun H H' t ⟨f,r⟩=>⟨f.tf t,RelDs.tf t _ _ r⟩
 stop:=fun i H ⟨f,r⟩ hi=>⟨vs,f.sq,by rw [←r.length];exact hi⟩
 go:=fun i d H e ⟨f,r⟩=>let ⟨v,q,_⟩:=r.get e;⟨vs,v,f.sq,q⟩
 yld:=fun i d H x H' e ⟨f,r⟩ ⟨e1,e2⟩=>by obtain ⟨v,q,rv⟩:=r.get e;have:=e2 vs f.sq;rw [q] at this;cases this;exact ⟨e1,rv⟩
def JU {a vs xs}(r0:RelDs K H xs vs):Dy K (QO K a) xs (fun H=>hX K H a vs/\RelDs K H xs vs) where
 st:=fun H H' t ⟨f,r⟩=>⟨hX.tf t f,RelDs.tf t _ _ r⟩
 stop:=fun i H ⟨f,r⟩ hi=>⟨vs,f,by rw [←r.length];exact hi⟩
 go:=fun i d H e ⟨f,r⟩=>let ⟨v,q,_⟩:=r.get e;⟨vs,v,f,q⟩
 yld:=fun i d H x H' e ⟨f,r⟩ ⟨e1,e2⟩=>by obtain ⟨v,q,rv⟩:=r.get e;have:=e2 vs f;rw [q] at this;cases this;exact ⟨e1,rv⟩
def JV (lo:Int)(n:Nat):Dy K (OG lo n) ((List.range n).map fun k=>.int (lo+(k:Nat))) (fun _=>True) where
 st:=fun _ _ _ _=>trivial
 stop:=fun i H _ hi=>by show n<=i;simpa using hi
 go:=fun i d H e _=>by
  have:=(zau.mp e).1
  show i < n;simpa using this
 yld:=fun i d H x H' e _ ⟨e1,e2⟩=>by
  have hi:=(zau.mp e).1;have hi':i < n:=by simpa using hi
  refine ⟨e1,?_⟩;simp [hi'] at e;subst e e2;simp only [ao]
def Eb {f}(h:vc K (ba f) Y H R):Mx K (NC (az K f)) Y H R:=by
 obtain ⟨O,U,m,xs,U',hl,hs,e,k⟩:=h;obtain ⟨⟨x,U1⟩,e1,e⟩:=zaa.mp e;refine GT ⟨O,U,m,x,U1,hl,hs,e1,fun v H1 m1 x1 s1 r1=>?_⟩;split at e
 ·rename_i ys q
  cases e;simp only at q;subst q;simp only [au,ao] at r1;obtain ⟨a,vs,rfl,f,r⟩:=r1;exact ⟨a,rfl,.inl ⟨⟨vs,f.sq⟩,k _ _ H1 m1 x1 s1 (JW r) ⟨f,r⟩⟩⟩
 ·rename_i ys q
  cases e;simp only at q;subst q;simp only [au,ao] at r1;obtain ⟨a,vs,rfl,f,r⟩:=r1;exact ⟨a,rfl,.inr ⟨⟨vs,f⟩,k _ _ H1 m1 x1 s1 (JU r) ⟨f,r⟩⟩⟩
 ·cases e
def IF {f}(h:vc K (uB f) Y H R):G9 (je K (af f ai)) Y H R:=by
 obtain ⟨O,U,m,xs,U',hl,hs,e,k⟩:=h;obtain ⟨⟨x,U1⟩,e1,e⟩:=zaa.mp e;refine ⟨O,U,m,[x],U1,hl,hs,by simp [af,ai,e1],fun vs H1 m1 x1 s1 r1=>?_⟩;split at e
 ·rename_i j q;split at e
  ·rename_i z
   cases e;simp only at q;subst q;obtain ⟨v,r,rfl,r1,r2⟩:=r1;have r2:r=[]:=r2;simp only [au,ao] at r1;subst r1 r2;have:=JV (K:=K) 0 j.toNat;simp only [zdr] at this
   exact ⟨j,rfl,z.1,z.2,k _ _ H1 m1 x1 s1 this trivial⟩
  ·cases e
 ·cases e
end
end HW
namespace HW
variable {K:zac}
open L2
abbrev MF:=List D->Option D
def ve (H H':Hp):Prop:=∀a o,H a=some o->H' a=some o
def DD (K:zac)(n:Nat)(f:MF):Sp:=fun vs H Q _=>∃ds d,ds.length=n/\RelDs K H ds vs/\f ds=some d/\∀v H',ve H H'->ao K H' d v->Q v H'
def fin:ni->Option D
 |.rt r U=>(DG r U).bind fun a=>some a.1|.nx _ _=>some .non|_=>none
def e7 (k:Nat)(b:FS):MF:=fun ds=>(b (ds.map (fun d=>some (.v d))++List.replicate (k - ds.length) none) []).bind fin
def aR (f:MF)(n:Nat)(fa:FA):FE:=fun O U=>(fa O U).bind fun a=>(vals a.1).bind fun ds=>if ds.length=n then (f ds).bind fun d=>some (.v d,a.2) else none
section
variable {K:zac}{m:Tf}{Y:St}{H H':Hp}{U:ac}{Q:VK}
theorem ve.ext (s:ve H H'):c6 m H m H':=⟨⟨[],by simp⟩,.of s,fun a o e _=>s a o e,fun a h=>by
 cases q:H a with|none=>rfl|some o=>rw [s a o q] at h;cases h⟩
def Eh {f n fa}{E:XK}(h:az K (aR f n fa) Y H Q):xn (DD K n f) [] E (je K fa) Y H Q:=by
 obtain ⟨O,U,m,d,U',hl,hs,e,k⟩:=h;obtain ⟨⟨xs,U1⟩,e1,e⟩:=zaa.mp e;obtain ⟨ds,e2,e⟩:=zaa.mp e;split at e
 ·rename_i hn;obtain ⟨d1,e3,e⟩:=zaa.mp e;cases e;refine ⟨O,U,m,xs,_,hl,hs,e1,fun vs H1 m1 x1 s1 r1=>?_⟩;refine ⟨ds,d1,hn,by simpa using ly e2 r1,e3,fun v H2 z r2=>?_⟩;exact k v H2 m1 (x1.trans z.ext) (s1.same z) r2
 ·cases e
def p7 {N:Tl}{ds:List D}{vs:List V}(r:RelDs K H ds vs):dN K [] H (ds.map (fun d=>some (.v d))++List.replicate (N.length - ds.length) none) (L2.et N vs):=by
 have hl:=r.length;unfold L2.et;refine ⟨by simp [hl],fun i d e=>?_⟩;by_cases hi:i < ds.length
 ·rw [zaj (by simpa using hi),za0] at e
  cases q:ds[i]? with|none=>rw [q] at e;cases e|some d' =>
   rw [q] at e;cases e;obtain ⟨v,q1,q2⟩:=r.get q;exact ⟨v,by rw [zaj (by simp;omega),za0,q1];rfl,q2⟩
 ·rw [zaP (by simpa using hi),zcF] at e;split at e <;> cases e
def EU (Q:VK):VK:=fun v H=>Q v H\/∃a u,H a=some u/\f9 u/\∀o,Q v (upd H a (.frz o u))
def c6.sam (x:c6 [] H m H'):ve H H':=fun a o e=>x.keep a o e (by simp)
theorem Ih {N:Tl}{b:FS}{ds:List D}{vs:List V}{d:D}{E:XK}(r:RelDs K H ds vs)(e:e7 N.length b ds=some d)(k:∀v H',ve H H'->ao K H' d v->Q v H') :
  g9 K b {nx:=fun _ H'=>EU Q .non H',rt:=EU Q} (L2.et N vs) H:=by
 obtain ⟨o,e1,e⟩:=zaa.mp e;refine ⟨_,[],[],o,p7 r,.nil,e1,?_⟩
 cases o with
 |nx O U =>
  cases e;exact fun Y H' m' x _ _=>.inl (k _ _ x.sam (by simp only [ao]))
 |bk O U=>cases e|ct O U=>cases e|rt q U =>
  obtain ⟨⟨d1,U1⟩,e2,e⟩:=zaa.mp e;cases e;intro v H' m' x s r';exact Hg (B:=fun H'=>Q v H') s r' e2 fun H2 y s2 r2=>k v H2 (x.trans y).sam r2
end
noncomputable def wo (C:Int->Int->Bool)(f:Int->Int->D):R->R->ac->Option (R×ac)
 |.v (.int i),.v (.int j),U=>if C i j=true then some (.v (f i j),U) else none|_,_,_=>none
def gI {C:Int->Int->Bool}{C':Int->Int->Prop}{f:Int->Int->D}{g:Int->Int->V}(hC:∀i j,C i j=true->C' i j)(hg:∀H i j,ao K H (f i j) (g i j)):sy K (wo C f) (rI C' g):=by
 intro m H U x y d U' v u Q s rx ry e k;unfold wo at e;split at e
 ·rename_i i j;split at e
  ·rename_i z
   cases e;simp only [au,ao] at rx ry;subst rx ry;exact ⟨i,j,rfl,rfl,hC i j z,k _ H m .refl s (hg H i j)⟩
  ·cases e
 ·cases e
def NP {f:Int->Int->D}{g:Int->Int->V}(hg:∀H i j,ao K H (f i j) (g i j)):sy K (wo (fun _ _=>true) f) (yV g):=by
 intro m H U x y d U' v u Q s rx ry e k;unfold wo at e;split at e
 ·rename_i i j;split at e
  ·cases e;simp only [au,ao] at rx ry;subst rx ry;exact ⟨i,j,rfl,rfl,k _ H m .refl s (hg H i j)⟩
  ·cases e
 ·cases e
abbrev mq:=wo (fun _ _=>true) fun i j=>.int (i - j)
abbrev mw:=wo (fun i j=>decide (-(2 ^ 64) < i/\i < 2 ^ 64) || decide (-(2 ^ 64) < j/\j < 2 ^ 64)) fun i j=>.int (i * j)
abbrev dh:=wo (fun _ j=>decide (0 < j/\j < 1073741824)) fun i j=>.int (i / j)
abbrev cC:=wo (fun _ j=>decide (0 < j)) fun i j=>.int (i % j)
abbrev nB:=wo (fun i j=>decide (0<=j/\j<=1000000/\i.natAbs < 2 ^ 64)) fun i j=>.int (i ^ j.toNat)
abbrev KK:=wo (fun _ _=>true) fun i j=>.bl (decide (i < j))
abbrev KM:=wo (fun _ _=>true) fun i j=>.bl (decide (i<=j))
abbrev Hd:=wo (fun _ _=>true) fun i j=>.bl (decide (j < i))
def t6:R->ac->Option (R×ac)
 |.v (.int i),U=>some (.v (.int (-i)),U)|_,_=>none
section
variable {K:zac}
def Bn {H:Hp}{i:Int}:ao K H (.int i) (.int i):=by simp only [ao]
def O5 {H:Hp}{i:Bool}:ao K H (.bl i) (.bl i):=by simp only [ao]
def MA:sy K mq (yV fun i j=>.int (i - j)):=NP fun _ _ _=>Bn
def MH:sy K mw (rI Dz fun i j=>.int (i * j)):=gI (fun i j h=>by simpa [Dz] using h) fun _ _ _=>Bn
def MQ:sy K dh (rI KE fun i j=>.int (i / j)):=gI (fun i j h=>by simpa [KE] using h) fun _ _ _=>Bn
def MI:sy K cC (rI (fun _ j=>0 < j) fun i j=>.int (i % j)):=gI (fun i j h=>by simpa using h) fun _ _ _=>Bn
def ME:sy K nB (rI KC fun i j=>.int (i ^ j.toNat)):=gI (fun i j h=>by simpa [KC] using h) fun _ _ _=>Bn
def MK:sy K KK (yV fun i j=>.bl (decide (i < j))):=NP fun _ _ _=>O5
def Pj:sy K KM (yV fun i j=>.bl (decide (i<=j))):=NP fun _ _ _=>O5
def Pn:sy K Hd (yV fun i j=>.bl (decide (j < i))):=NP fun _ _ _=>O5
def MG:Sq K t6 (rU fun i=>.int (-i)):=by
 intro m H U x d U' v Q s rx e k;unfold t6 at e;split at e
 ·rename_i i
  cases e;simp only [au,ao] at rx;subst rx;exact ⟨i,rfl,k _ H m .refl s (by simp only [au,ao])⟩
 ·cases e
end
noncomputable def Kx:R->R->ac->Option (R×ac)
 |.v (.int i),.v (.int j),U=>some (.v (.int (i+j)),U)|.v (.str x),.v (.str y),U=>if x.length+y.length<=sizeLine then some (.v (.str (x++y)),U) else none|.v (.tup xs),.v (.tup ys),U=>if xs≠[]/\xs.length+ys.length<=sizeLine then some (.v (.tup (xs++ys)),U) else none|.p a,.p b,U=>match U[a]?,U[b]? with|some (.lst xs),some (.lst ys)=>if xs.length+ys.length<=sizeLine then some (.p U.length,U++[.lst (xs++ys)]) else none|_,_=>none
 |_,_,_=>none
def LY:R2:=fun x y H Q=>∃i j,x=.str i/\y=.str j/\i.length+j.length<=sizeLine/\Q (.str (i++j)) H
def O3 (r r':R2):R2:=fun x y H Q=>r x y H Q\/r' x y H Q
def GX (K:zac):R2:=O3 (yV fun i j=>.int (i+j)) (O3 LY (O3 (GV K) LV))
theorem RelDs.append {K:zac}{H:Hp}:∀{xs ys:List D} {vs ws:List V},RelDs K H xs vs->RelDs K H ys ws->RelDs K H (xs++ys) (vs++ws)
 |[],_,_,_,h,h'=>by simp only [RelDs] at h;subst h;exact h'|x::xs,_,_,_,h,h'=>by
  simp only [RelDs] at h;obtain ⟨v,r,rfl,h1,h2⟩:=h
  show RelDs K H (x::(xs++_)) _
  simp only [RelDs];exact ⟨v,r++_,rfl,h1,RelDs.append h2 h'⟩
def RelDs.nil_iff {H:Hp}{xs:List D}{vs:List V}(h:RelDs K H xs vs):xs=[] ↔ vs=[]:=by have:=h.length;cases xs <;> cases vs <;> simp_all
def MT :sy K Kx (GX K):=by
 intro m H U x y d U' v u Q s rx ry e k;unfold Kx at e;split at e
 ·cases e;simp only [au,ao] at rx ry;subst rx ry;exact .inl ⟨_,_,rfl,rfl,k _ H m .refl s (by simp only [au,ao])⟩
 ·split at e
  ·rename_i z
   cases e;simp only [au,ao] at rx ry;subst rx ry;exact .inr (.inl ⟨_,_,rfl,rfl,z,k _ H m .refl s (by simp only [au,ao])⟩)
  ·cases e
 ·split at e
  ·rename_i z
   cases e;simp only [au,ao] at rx ry;obtain ⟨a,vs,rfl,qa,ra⟩:=rx;obtain ⟨b,ws,rfl,qb,rb⟩:=ry;refine .inr (.inr (.inl ⟨a,b,vs,ws,rfl,rfl,qa,qb,fun h=>z.1 (ra.nil_iff.mpr h),by rw [←ra.length,←rb.length];exact z.2,fun h=>?_,fun h p hp=>?_⟩))
   ·refine k _ H m .refl s ?_;have:=rb.nil_iff.mpr h;subst this;simp only [au,ao,zbi];exact ⟨a,vs,rfl,qa,ra⟩
   ·obtain ⟨x1,x2,x3⟩:=j8 s (ra.append rb) hp;exact k _ _ _ x1 x2 x3
  ·cases e
 ·split at e
  ·rename_i xs ys qa qb;split at e
   ·rename_i z
    cases e;obtain ⟨a',rfl,ha⟩:=rx;obtain ⟨b',rfl,hb⟩:=ry;obtain ⟨vs,ea,ra⟩:=s.cell _ _ a' qa ha;obtain ⟨ws,eb,rb⟩:=s.cell _ _ b' qb hb;refine .inr (.inr (.inr ⟨a',b',vs,ws,rfl,rfl,ea,eb,by rw [←ra.length,←rb.length];exact z,fun p hp=>?_⟩));obtain ⟨x1,x2,x3⟩:=fJ s (ra.append rb) hp;exact k _ _ _ x1 x2 x3
   ·cases e
  ·cases e
 ·cases e
noncomputable def fj:R->ac->Option (List D)
 |.v (.tup xs),_=>some xs|.v (.fl xs),_=>some xs|.p n,U=>match U[n]? with|some (.lst xs)=>some xs|some (.fz xs)=>some xs|_=>none
 |_,_=>none
noncomputable def f6:R->ac->Option (List D)
 |.v (.fl xs),_=>some xs|.p n,U=>match U[n]? with|some (.lst xs)=>some xs|some (.fz xs)=>some xs|_=>none
 |_,_=>none
section
variable {K:zac}{m:Tf}{H:Hp}{U:ac}
def gT {x:R}{xs:List D}{v:V}(s:aO K m H U)(r:au K m H x v)(e:f6 x U=some xs):∃a vs,v=.ref a/\jg K H a vs/\RelDs K H xs vs:=by
 unfold f6 at e;split at e
 ·cases e;simp only [au,ao] at r;obtain ⟨a,vs,rfl,q,r⟩:=r;exact ⟨a,vs,rfl,q.sq,r⟩
 ·obtain ⟨a,rfl,ha⟩:=r;split at e
  ·rename_i q
   cases e;obtain ⟨vs,e,r⟩:=s.cell _ _ a q ha;exact ⟨a,vs,rfl,.inl (.inl e),r⟩
  ·rename_i q
   cases e;obtain ⟨o,vs,e,r⟩:=s.cell _ _ a q ha;exact ⟨a,vs,rfl,.inl (.inr ⟨o,e⟩),r⟩
  ·cases e
 ·cases e
theorem jE {x:R}{xs:List D}{v:V}(s:aO K m H U)(r:au K m H x v)(e:fj x U=some xs):∃a vs,v=.ref a/\(jg K H a vs\/hX K H a vs)/\RelDs K H xs vs:=by
 cases x with
 |v d =>
  cases d with
  |tup ys =>
   cases e;simp only [au,ao] at r;obtain ⟨a,vs,rfl,q,r⟩:=r;exact ⟨a,vs,rfl,.inr q,r⟩
  |fl ys=>obtain ⟨a,vs,q1,q2,q3⟩:=gT s r (xs:=xs) e;exact ⟨a,vs,q1,.inl q2,q3⟩
  |non=>cases e|bl _=>cases e|int _=>cases e|str _=>cases e|fd _ _=>cases e|key _=>cases e
 |p n=>obtain ⟨a,vs,q1,q2,q3⟩:=gT s r (xs:=xs) e;exact ⟨a,vs,q1,.inl q2,q3⟩
 |s _ _=>cases e|x _=>cases e|f _ _=>cases e
end
def c7:R->R->ac->Option (R×ac)
 |x,.v (.int i),U=>(fj x U).bind fun xs=>(nW xs i).bind fun d=>some (.v d,U)|_,_,_=>none
def eU:List R->ac->Option (R×ac)
 |[x],U=>(fj x U).bind fun xs=>some (.v (.int xs.length),U)|_,_=>none
def FJ {H:Hp}{xs:List D}{vs:List V}{i:Int}{d:D}(r:RelDs K H xs vs)(e:nW xs i=some d):∃v,nW vs i=some v/\ao K H d v:=by obtain ⟨j,e1,e2⟩:=zaa.mp e;obtain ⟨v,q1,q2⟩:=r.get e2;exact ⟨v,by unfold nW;rw [←r.length,e1];exact q1,q2⟩
def Pk :sy K c7 (RL K):=by
 intro m H U x y d U' v u Q s rx ry e k;unfold c7 at e;split at e
 ·rename_i i;obtain ⟨xs,e1,e⟩:=zaa.mp e;obtain ⟨d1,e2,e⟩:=zaa.mp e;cases e;simp only [au,ao] at ry;subst ry;obtain ⟨a,vs,rfl,q,r⟩:=jE s rx e1;obtain ⟨w,q1,q2⟩:=FJ r e2;rcases q with q|q
  ·exact .inl ⟨a,vs,i,w,rfl,rfl,q,q1,k _ H m .refl s q2⟩
  ·exact .inr (.inl ⟨a,vs,i,w,rfl,rfl,q,q1,k _ H m .refl s q2⟩)
 ·cases e
def O4 (K:zac):List V->Hp->VK->Prop:=fun xs H Q=>∃p ys,xs=[.ref p]/\(jg K H p ys\/hX K H p ys)/\Q (.int ys.length) H
def oB {m:Tf}{H:Hp}{x:R}{vs:List V}(r:bi K m H [x] vs):∃v,vs=[v]/\au K m H x v:=by obtain ⟨v,r,rfl,h1,h2⟩:=r;have h2:r=[]:=h2;subst h2;exact ⟨v,rfl,h1⟩
def ML :zQ K eU (O4 K):=by
 intro m H U xs d U' vs Q s r e k;unfold eU at e;split at e
 ·rename_i x;obtain ⟨ys,e1,e⟩:=zaa.mp e;cases e;obtain ⟨v,rfl,r1⟩:=oB r;obtain ⟨a,ws,rfl,q,r⟩:=jE s r1 e1;exact ⟨a,ws,rfl,q,k _ H m .refl s (by simp only [au,ao];rw [r.length])⟩
 ·cases e
def mZ:List R->ac->Option (R×ac)
 |[x],U=>(fj x U).bind fun xs=>some (.p U.length,U++[.lst xs])|_,_=>none
def LQ (K:zac):List V->Hp->VK->Prop:=fun xs H Q=>∃p ys,xs=[.ref p]/\(jg K H p ys\/hX K H p ys)/\∀l,H l=none->Q (.ref l) (upd H l (.lst ys))
def J5 :zQ K mZ (LQ K):=by
 intro m H U xs d U' vs Q s r e k;unfold mZ at e;split at e
 ·rename_i x;obtain ⟨ys,e1,e⟩:=zaa.mp e;cases e;obtain ⟨v,rfl,r1⟩:=oB r;obtain ⟨a,ws,rfl,q,r⟩:=jE s r1 e1;refine ⟨a,ws,rfl,q,fun p hp=>?_⟩;obtain ⟨x1,x2,x3⟩:=fJ s r hp;exact k _ _ _ x1 x2 x3
 ·cases e
def lD:List R->ac->Option (R×ac)
 |[x],U=>(fj x U).bind fun xs=>some (.v (.tup xs),U)|_,_=>none
def LL (K:zac):List V->Hp->VK->Prop:=fun xs H Q=>∃p ys,xs=[.ref p]/\((jg K H p ys/\∀l,H l=none->Q (.ref l) (upd H l (.tup ys)))\/(hX K H p ys/\Q (.ref p) H))
def My :zQ K lD (LL K):=by
 intro m H U xs d U' vs Q s r e k;unfold lD at e;split at e
 ·rename_i x;obtain ⟨ys,e1,e⟩:=zaa.mp e;cases e;obtain ⟨v,rfl,r1⟩:=oB r;obtain ⟨a,ws,rfl,q,r⟩:=jE s r1 e1;rcases q with q|q
  ·refine ⟨a,ws,rfl,.inl ⟨q,fun p hp=>?_⟩⟩;obtain ⟨x1,x2,x3⟩:=j8 s r hp;exact k _ _ _ x1 x2 x3
  ·refine ⟨a,ws,rfl,.inr ⟨q,k _ H m .refl s ?_⟩⟩;simp only [au,ao];exact ⟨a,ws,rfl,q,r⟩
 ·cases e
noncomputable def jk:R->List R->ac->Option (R×ac)
 |.p n,[.v d],U=>match U[n]? with|some (.lst xs)=>if xs.length < sizeLine then some (.v .non,U.set n (.lst (xs++[d]))) else none|_=>none
 |_,_,_=>none
def Sr (K:zac)(g:R->List R->ac->Option (R×ac))(r:V->List V->Hp->VK->Prop):Prop :=
 ∀m H U x xs d U' v vs Q,aO K m H U->au K m H x v->bi K m H xs vs->g x xs U=some (d,U')->(∀w H' m',c6 m H m' H'->aO K m' H' U'->au K m' H' d w->Q w H')->r v vs H Q
def MR :Sr K jk xw:=by
 intro m H U x xs d U' v vs Q s rx rs e k;unfold jk at e;split at e
 ·split at e
  ·rename_i ys q;split at e
   ·rename_i z
    cases e;obtain ⟨a,rfl,ha⟩:=rx;obtain ⟨w,rfl,rw'⟩:=oB rs;obtain ⟨ws,ea,ra⟩:=s.cell _ _ a q ha;have x:c6 m H m (upd H a (.lst (ws++[w]))):=.put (zaI ha) ea (by simp) (by simp);refine ⟨a,ws,w,rfl,rfl,ea,by rw [←ra.length];exact z,k _ _ m x (s.put ha ea (by simp) (by simp) ⟨_,bf,?_⟩) (by simp only [au,ao])⟩;refine RelDs.tf x.tf _ _ (ra.append ?_);simp only [RelDs];exact ⟨w,[],rfl,rw',rfl⟩
   ·cases e
  ·cases e
 ·cases e
noncomputable def bv (g:FG)(c:FT)(f:FE):List D->Lo->ac->Option (List D×ac)
 |[],_,U=>some ([],U)|x::xs,O,U=>(g (.v x) O U).bind fun a=>(c a.1 a.2).bind fun b=>if b.1=true then (f a.1 b.2).bind fun y=>match y.1 with
   |.v d=>(bv g c f xs a.1 y.2).bind fun r=>some (d::r.1,r.2)|_=>none
  else bv g c f xs a.1 b.2
noncomputable def dg (k:Nat)(ix:List Nat)(O:Lo):Lo:=List.replicate k none++ix.map fun i=>(O[i]?).join
def bH (ix:List Nat)(k:Nat)(i:FI)(g:FG)(c:FT)(f:FE):FE:=fun O U=>(i O U).bind fun a=>if a.1.length<=sizeLine then
 (bv g c f a.1 (dg k ix O) a.2).bind fun r=>some (.p r.2.length,r.2++[.lst r.1]) else none
def bY:FT:=fun _ U=>some (true,U)
open PyProof.Rows
section
variable {X:Cx}
def PE.imp {t t':TE}(h:PE X e t)(k:∀{Y H Q},t' Y H Q->t Y H Q):PE X e t':=fun pins s Y H Q I q=>h pins s Y H Q I (k q)
def PT.imp {t t':TT}(h:PT X e t)(k:∀{Y H Q},t' Y H Q->t Y H Q):PT X e t':=fun pins s Y H Q I q=>h pins s Y H Q I (k q)
def PW.imp {t t':TT}(h:PW X e t)(k:∀{Y H Q},t' Y H Q->t Y H Q):PW X e t':=fun wh pins s Y H Q I q=>h wh pins s Y H Q I (k q)
def PA.imp {e:Tj}{t t':TA}(h:PA X e t)(k:∀{Y H Q},t' Y H Q->t Y H Q):PA X e t':=fun pos pins s Y H Q I q=>h pos pins s Y H Q I (k q)
def PS.imp {e:Stmt}{t t':TS}(h:PS X e t)(k:∀{D Y H},t' D Y H->t D Y H):PS X e t':=fun pins s Y H Q I q=>h pins s Y H Q I (k q)
def pL.imp {e:Tk}{t t':TS}(h:pL X e t)(k:∀{D Y H},t' D Y H->t D Y H):pL X e t':=fun pins s Y H Q I q=>h pins s Y H Q I (k q)
def PI.imp {tg e:Expr}{t t':TI}(h:PI X tg e t)(k:∀{Y H R},t' Y H R->t Y H R):PI X tg e t':=fun pins s Y H R I q=>h pins s Y H R I (k q)
def PG.imp {t t':TG}(h:PG X e t)(k:∀{v Y H Q},t' v Y H Q->t v Y H Q):PG X e t':=fun pins s Y H v u Q I r q=>h pins s Y H v u Q I r (k q)
def DJ.imp {e:Tj}{t t':DI}(h:DJ X e t)(k:∀{v Y H Q},t' v Y H Q->t v Y H Q):DJ X e t':=fun pins s Y H v u Q I r q=>h pins s Y H v u Q I r (k q)
end
section
variable {P:Program}{w:World}{H H0:Hp}{h h0:Heap}{a:Addr}{u:HO}{fs ex:Tf}
def f9.ne {b:Addr}{v:HO}(e:H a=some u)(hu:f9 u)(q:H b=some v)(n:¬ f9 v):b≠a:=fun z=>by rw [z,e] at q;cases q;exact n hu
def iJ.frz (ok:iJ P w H h)(e:H a=some u)(hu:f9 u):∃o,iJ P w (upd H a (.frz o u)) h:=by
 have ho:∃o,h.get? a=some o:=by
  have z:=ok a u e
  cases u with
  |lst xs=>obtain ⟨_,_,_,_,q⟩:=z;exact ⟨_,q⟩
  |set S n=>obtain ⟨o,_,_,_,q,_⟩:=z;exact ⟨_,q⟩
  |dK kvs=>obtain ⟨_,_,_,_,o,_,_,q,_⟩:=z;exact ⟨_,q⟩
  |_=>exact hu.elim
 obtain ⟨o,ho⟩:=ho;refine ⟨o,fun b v q=>?_⟩;have own:∀c y,H c=some (.own y)->upd H a (.frz o u) c=some (.own y):=fun c y r=>by rw [L2.aD (f9.ne e hu r fun z=>z)];exact r
 have tup:∀c xs,H c=some (.tup xs)->upd H a (.frz o u) c=some (.tup xs):=fun c xs r=>by rw [L2.aD (f9.ne e hu r fun z=>z)];exact r
 by_cases hb:b=a
 ·subst hb;rw [L2.dj] at q;cases q;exact ⟨ho,(ok b u e).stay (fun c v _ q=>q) (fun c r=>own c _ r) tup⟩
 ·rw [L2.aD hb] at q;exact (ok b v q).stay (fun c v _ q=>q) (fun c r=>own c _ r) tup
def Un.frz {o:Obj}(un:Un fs ex H0 H h0 h)(e:H a=some u)(hu:f9 u):Un fs ex H0 (upd H a (.frz o u)) h0 h where
 keep:=un.keep
 slot:=un.slot
 free:=fun b ob q n hx=>by have z:=un.free b ob q n hx;rw [L2.aD (fun y=>by rw [y,e] at z;cases z)];exact z
 there:=un.there
 tups:=fun b xs q=>by rw [L2.aD (f9.ne e hu (un.tups b xs q) fun z=>z)];exact un.tups b xs q
 frzs:=fun b ob v q=>by rw [L2.aD (f9.ne e hu (un.frzs b ob v q) fun z=>z)];exact un.frzs b ob v q
 tbls:=fun b ps q=>by obtain ⟨more,r⟩:=un.tbls b ps q;exact ⟨more,by rw [L2.aD (f9.ne e hu r fun z=>z)];exact r⟩
def aF.frz {s:Shared}(I:aF X pins Y H s)(e:H a=some u)(hu:f9 u):∃o,aF X pins Y (upd H a (.frz o u)) s:=by
 obtain ⟨o,ok⟩:=iJ.frz I.hok e hu;have nn:∀b,H b=none->upd H a (.frz o u) b=none:=fun b z=>by rw [L2.aD (fun y=>by rw [y,e] at z;cases z)];exact z
 refine ⟨o,I.ok,I.os,I.bare,Un.frz I.base e hu,I.loc,I.cell,nn _ I.free,fun x c q=>nn _ (I.freeC x c q),fun p hp=>?_,ok,I.len⟩;obtain ⟨q1,q2,q3⟩:=I.pin p hp;exact ⟨q1,nn _ q2,q3⟩
end
def vT {t:TE}(h:PE X e t):PE X e (NC t):=fun pins s Y H Q I q=>by
 refine cL (h pins s Y H _ I q) fun v s1 hh=>?_;obtain ⟨x,H1,I1,r1,q1⟩:=hh;rcases q1 with q1|⟨a,u,e,hu,q1⟩
 ·exact ⟨x,H1,I1,r1,q1⟩
 ·obtain ⟨o,I2⟩:=aF.frz I1 e hu;exact ⟨x,_,I2,r1,q1 o⟩
theorem dE.fz {mg:Td}{base:Heap}{CX:yw}{k:Nat}{f:Addr}{ps:Tl}{sp:Sp}(F:dE P w K mg base CX k f fd ps sp) :
  dE P w K mg base CX k f fd ps (fun vs H Q E=>sp vs H (EU Q) E):=by
 refine ⟨fun vs H Q E h=>F.len vs H _ E h,fun A outer s H args us vs Q E hr he hb hv hs=>?_⟩;refine zb0 (F.run A outer s H args us vs (EU Q) E hr he hb hv hs) fun r s' hq=>?_
 cases r with|error e=>exact hq|ok fl =>
  cases fl with|next=>exact hq|brk=>exact hq|cont=>exact hq|ret u =>
   obtain ⟨v,H',os,bare,un,hok,rv,q⟩:=hq;rcases q with q|⟨a,u',e,hu,q⟩
   ·exact ⟨v,H',os,bare,un,hok,rv,q⟩
   ·obtain ⟨o,ok⟩:=iJ.frz hok e hu
    exact ⟨v,_,os,bare,Un.frz un e hu,ok,rv,q o⟩
def sA.okP {P:Program}{w:World}{K:zac}{mg:Td}{base:Heap}{x qual:Str}{st:Stmt}{f:Addr}{fd:FuncData}{N ps:Tl}{k:Nat}{b:FS}(F:sA K x qual st f fd)(S:aM N ps (ah st))
  (hbody:∀(cdv:Value) (A:Around) (outer:List Env) (s:Shared) (H:Hp) (E:XK),dU k (A.deeper (envOfC qual (ah st) s.heap.objs.size f cdv))->pL (mE nr P w K mg base N qual (ah st) f cdv A outer s H E).nox (cZ st) (g9 K b)) :
  dE P w K mg base nr (k+1) f fd ps (DD K ps.length (e7 N.length b)):=by
 have G:dE P w K mg base nr (k+1) f fd ps (fun vs H Q _=>vs.length=ps.length/\g9 K b {nx:=fun _ H'=>Q .non H',rt:=Q} (L2.et N vs) H) :=
  L2.sA.ok F S (fun vs H Q E h=>h.1) fun cdv A outer s H vs Q E hr h=>⟨_,hbody cdv A outer s H E hr,h.2⟩
 refine (dE.fz G).imp fun vs H Q E ⟨ds,d,hn,r,e,k⟩=>⟨by rw [←r.length];exact hn,Ih (E:=E) r e k⟩
def EF {X:Cx}{tg l:Expr}{tl:TE}(hl:PE X l tl):PI X tg l (Mx X.K tl):=by
 intro pins s Y H R I h;refine cL (hl pins s Y H _ I h) fun v s1 hh=>?_;obtain ⟨x,H1,I1,r1,q1⟩:=hh;obtain ⟨a,e,q1⟩:=q1;subst e;cases r1;rcases q1 with ⟨⟨xs,hq⟩,q⟩|⟨⟨xs,hq⟩,q⟩
 ·obtain ⟨its,rv,p,hz⟩:=I1.list hq;refine zco p.isList ?_;refine ⟨s1.heap.objs.size,[s1.heap.objs.size],_,_,H1,rfl,I1.kept (t':=s1.toks) fun b o e=>zae _ e,yF a _,⟨_,zaq _ rfl,rfl,rfl⟩,fun b hb=>?_,q⟩;have e:b=s1.heap.objs.size:=by simpa using hb
  subst e;exact I1.fpOk (zao _) (I1.hok.fresh (zao _))
 ·obtain ⟨its,rv,p,hz⟩:=I1.tuple hq;refine wpAny_pyIter_tuple (show s1.heap.IsTuple a its.toArray from p) ?_;refine ⟨s1.heap.objs.size,[s1.heap.objs.size],_,_,H1,rfl,I1.kept (t':=s1.toks) fun b o e=>zae _ e,vB a _,⟨_,zaq _ rfl,rfl,rfl⟩,fun b hb=>?_,q⟩;have e:b=s1.heap.objs.size:=by simpa using hb
  subst e;exact I1.fpOk (zao _) (I1.hok.fresh (zao _))
theorem gK {env:Env}:∀{names:List (Str×NameKind)} {x:Str},
  (names.map fun (n,k)=>if (k == NameKind.free && env.scope.kind == .function && env.kindOf n == some .cell) then (n,NameKind.cell) else (n,k)).lookup x =
   (names.lookup x).map fun k=>if (k == NameKind.free && env.scope.kind == .function && env.kindOf x == some .cell) then NameKind.cell else k
 |[],_=>rfl|(n,k)::r,x=>by
  have ih:=@gK env r x
  show List.lookup x ((if (k == NameKind.free && env.scope.kind == .function && env.kindOf n == some .cell)=true then (n,NameKind.cell) else (n,k))::_)=_
  cases hx:x == n with
  |true =>
   have:x=n:=eq_of_beq hx;subst this;simp only [zbL,hx,za7]
   by_cases hc:(k == NameKind.free && env.scope.kind == .function && env.kindOf x == some .cell)=true
   ·simp [hc]
   ·simp [hc]
  |false =>
   by_cases hc:(k == NameKind.free && env.scope.kind == .function && env.kindOf n == some .cell)=true
   ·rw [if_pos hc];simp only [zbL,hx];exact ih
   ·rw [if_neg hc];simp only [zbL,hx];exact ih
theorem i7 {env:Env}:∀(names:List (Str×NameKind)) (acc:List (Str×Addr)),(∀x c,acc.lookup x=some c->env.cells.lookup x=some c) ->
  (∀y∈names,y.2=.free->∃c,env.cells.lookup y.1=some c) ->
  ∃cl:List (Str×Addr),(forIn names acc fun (x:Str×NameKind) (r:List (Str×Addr))=>(if (x.2 == NameKind.free)=true then do let a ←cellOf env x.1;pure (ForInStep.yield ((x.1,a)::r)) else pure (ForInStep.yield r):Sem (ForInStep (List (Str×Addr)))))=pure cl /\
   (∀x c,cl.lookup x=some c->env.cells.lookup x=some c)/\(∀x c,acc.lookup x=some c->∃c',cl.lookup x=some c')/\∀y∈names,y.2=.free->∃c,cl.lookup y.1=some c
 |[],acc,h1,_=>⟨acc,rfl,h1,fun x c e=>⟨c,e⟩,fun y hy=>by simp at hy⟩|(n,k)::r,acc,h1,h2=>by
  by_cases hk:k=.free
  ·subst hk
   obtain ⟨c,hc⟩:=h2 (n,.free) zag rfl
   have step:∀x c',List.lookup x ((n,c)::acc)=some c'->env.cells.lookup x=some c':=fun x c' e=>by
    rw [zbL] at e
    cases hx:x == n with|true=>rw [hx] at e;have:x=n:=eq_of_beq hx;subst this;rw [hc];exact e|false=>rw [hx] at e;exact h1 x c' e
   obtain ⟨cl,e,p1,p2,p3⟩:=i7 r ((n,c)::acc) step fun y hy=>h2 y (zai _ hy);have hn:∃c',List.lookup n ((n,c)::acc)=some c':=⟨c,by rw [zbL];simp⟩;refine ⟨cl,?_,p1,fun x c' e'=>?_,fun y hy hf=>?_⟩
   ·rw [zcj]
    show ((cellOf env n >>= fun a=>pure (ForInStep.yield ((n,a)::acc))) >>= _)=_
    unfold cellOf;rw [hc];exact e
   ·cases hx:x == n with
    |true=>have:x=n:=eq_of_beq hx;subst this;obtain ⟨c'',q⟩:=hn;exact p2 _ _ q
    |false=>exact p2 x c' (by rw [zbL,hx];exact e')
   ·rcases zal.mp hy with rfl|hy
    ·obtain ⟨c'',q⟩:=hn;exact p2 _ _ q
    ·exact p3 y hy hf
  ·obtain ⟨cl,e,p1,p2,p3⟩:=i7 r acc h1 fun y hy=>h2 y (zai _ hy)
   have hb:(k == NameKind.free)=false:=by simpa using hk
   refine ⟨cl,?_,p1,p2,fun y hy hf=>?_⟩
   ·rw [zcj]
    simp only [hb,zap,if_false];exact e
   ·rcases zal.mp hy with rfl|hy
    ·exact absurd hf hk
    ·exact p3 y hy hf
def pw {env:Env}{scope:Scope}(h:∀y∈scope.names,y.2=.free->∃c,env.cells.lookup y.1=some c) :
  ∃cl,closureFor scope env=pure cl/\(∀x c,cl.lookup x=some c->env.cells.lookup x=some c)/\∀y∈scope.names,y.2=.free->∃c,cl.lookup y.1=some c:=by
 obtain ⟨cl,e,p1,_,p3⟩:=i7 (env:=env) scope.names [] (fun x c e=>by simp at e) h;refine ⟨cl,?_,p1,p3⟩;unfold closureFor
 first
  |(show (forIn scope.names [] _ >>= fun r=>pure r)=_;rw [e];rfl)
  |(simp only [bind_pure];exact e)
structure ay (osc scope:Scope)(own:Tl)(caps:Tl):Prop where
 kind:scope.kind=.function
 cell:∀y∈scope.names,y.2=.cell->scope.names.lookup y.1=some .cell
 loc:∀y∈scope.names,y.2=.local->scope.names.lookup y.1=some .local
 free:∀y∈scope.names,y.2=.free->osc.names.lookup y.1=some .cell\/osc.names.lookup y.1=some .free
 cap:∀y∈caps,(y,NameKind.free)∈scope.names/\scope.names.lookup y=some .free
 nd:(own++caps).Nodup
def aL (X:Cx)(scope:Scope)(cl:List (Str×Addr))(C:Addr)(s₂:Shared)(H₂:Hp)(fp:Tf)(N:Tl):Cx :=
 {X with N:=N,s₀:=s₂,H₀:=H₂,env:=compEnvC scope cl C X.env,outer:=X.stack,stack:=X.stack,ex:=fp,fn:=fun x=>scope.names.lookup x == some .cell,pn:=[],xe:=fun _ _=>False}
def oM {names:List (Str×NameKind)}{x:Str}{k:NameKind}(h:names.lookup x=some k):(x,k)∈names:=PySem.mem_of_lookup h
structure Nx (X:Cx)(scope:Scope)(lo:Nat)(cl:List (Str×Addr)):Prop where
 src:∀x c,cl.lookup x=some c->(X.env.cells.lookup x=some c/\scope.names.lookup x≠some .cell)\/lo < c
 inj:∀x y c,cl.lookup x=some c->cl.lookup y=some c->x=y
 has:∀y∈scope.names,y.2=.free\/y.2=.cell->∃c,cl.lookup y.1=some c
 fr:∀y,scope.names.lookup y=some .free->∃c,cl.lookup y=some c/\X.env.cells.lookup y=some c
theorem pE {X:Cx}{scope:Scope}{own caps:Tl}(n:ay X.env.scope scope own caps){cl:List (Str×Addr)}{C:Addr}{x:Str}{k:NameKind}(h:(compEnvC scope cl C X.env).kindOf x=some k)(hk:k=.cell\/k=.free) :
  ∃k,(x,k)∈scope.names/\(k=.free\/k=.cell):=by
 have h':(relabel scope X.env).names.lookup x=some k:=h;unfold relabel at h';rw [gK] at h'
 cases q:scope.names.lookup x with|none=>rw [q] at h';cases h'|some k0 =>
  rw [q,za7] at h';have m:=oM q;have h2:=Option.some.inj h'
  by_cases hf:k0=.free
  ·subst hf;exact ⟨_,m,.inl rfl⟩
  ·have hb:(k0 == NameKind.free)=false:=by simpa using hf
   simp only [hb,Bool.false_and,zap,if_false] at h2;rcases hk with hk|hk
   ·exact ⟨_,m,.inr (h2.trans hk)⟩
   ·exact absurd (h2.trans hk) hf
theorem wS {X:Cx}{scope:Scope}{cl:List (Str×Addr)}{C:Addr}{x:Str}(h:scope.names.lookup x=some .free) :
  (compEnvC scope cl C X.env).kindOf x=some .cell\/(compEnvC scope cl C X.env).kindOf x=some .free:=by
 show (relabel scope X.env).names.lookup x=some .cell\/(relabel scope X.env).names.lookup x=some .free
 unfold relabel;rw [gK,h];simp only [za7];split
 ·exact .inl rfl
 ·exact .inr rfl
def Nx.ne {H:Hp}{lo b:Nat}{cl:List (Str×Addr)}(B:Nx X scope lo cl)(f:mi X pins H b)(hb:b < lo){x:Str}{c:Addr}(e:cl.lookup x=some c):c≠b:=by
 rcases B.src x c e with ⟨z,_⟩|z
 ·exact f.2.2.2.2.1 x c z
 ·exact Ne.symm (zat (zb6 hb z))
def Dg {X:Cx}{H₂:Hp}{s₂:Shared}{scope:Scope}{own caps:Tl}{cl:List (Str×Addr)}{C:Addr}{fp:Tf}(I:aF X pins Y H₂ s₂)(n:ay X.env.scope scope own caps)
  (B:Nx X scope s₂.heap.objs.size cl) (hC:s₂.heap.objs.size<=C) (hfs:∀b∈fp,b < s₂.heap.objs.size) (hf:∀b∈fp,mi X pins H₂ b) :
  (aL X scope cl C s₂ H₂ fp (own++caps)).Ok:=by
 refine ⟨I.ok.mod,n.kind,I.ok.glob,I.ok.blt,hC,B.inj,fun x hx=>?_,fun x c h _=>?_,I.ok.hd,I.ok.frames,.inl rfl,fun b hb=>⟨zat (zaA (hfs b hb) hC),fun x c e=>B.ne (hf b hb) (hfs b hb) e⟩,
  I.bs,zbo I.ok.bsz I.sz,fun b o e hb=>?_,fun b hb z=>?_,I.stack,I.stkFree⟩
 ·rcases hx with hx|hx
  ·obtain ⟨k,m,hk⟩:=pE n hx (.inl rfl);exact B.has _ m hk
  ·obtain ⟨k,m,hk⟩:=pE n hx (.inr rfl);exact B.has _ m hk
 ·rcases B.src x c ‹_› with ⟨_,z⟩|z
  ·exact absurd (eq_of_beq h) z
  ·exact zbP z
 ·rcases (hf b hb).2.2.2.1 with z|z
  ·exact I.ok.noex b o e z
  ·exact absurd (zaA (zaA (zam e) I.ok.bsz) z) (zaF _)
 ·rcases zal.mp (I.stkSub b z) with e|e
  ·exact (hf b hb).2.1 e
  ·exact (hf b hb).2.2.1 e
def ik (own:L2.St)(ix:List Nat)(Y:L2.St):L2.St:=own++ix.map fun i=>(Y[i]?).join
def u3 {X:Cx}{H₂:Hp}{s₂:Shared}{scope:Scope}{own caps:Tl}{ix:List Nat}{cl:List (Str×Addr)}{C:Addr}{fp:Tf}{h₁:Heap}{tk:Nat}(I:aF X pins Y H₂ s₂)(n:ay X.env.scope scope own caps)
  (B:Nx X scope s₂.heap.objs.size cl) (hC:s₂.heap.objs.size<=C) (hfs:∀b∈fp,b < s₂.heap.objs.size) (hf:∀b∈fp,mi X pins H₂ b)
  (hown:∀x c,cl.lookup x=some c->s₂.heap.objs.size < c->h₁.IsCell c none) (hix:ix.length=caps.length) (hix2:∀(j i:Nat) y,ix[j]?=some i->caps[j]?=some y->X.N[i]?=some y)
  (old:∀b o,s₂.heap.get? b=some o->h₁.get? b=some o) {m:Td} (hns:h₁.Ns C m) :
  aF (aL X scope cl C s₂ H₂ fp (own++caps)) [] (ik (own.map fun _=>none) ix Y) H₂ {s₂ with heap:=h₁,toks:=tk}:=by
 refine ⟨Dg I n B hC hfs hf,rfl,I.bare,Un.kept old,⟨m,hns,fun i x v e1 e2 hv=>?_⟩,fun x c e=>?_,I.hok.fresh hC,fun x c e=>(B.src x c e).elim (fun z=>I.freeC x c z.1) fun z=>I.hok.fresh (zbP z),fun p hp=>?_,I.hok.kept old,?_⟩
 ·have e1:(own++caps)[i]?=some x:=e1
  unfold ik at e2
  by_cases hi:i < own.length
  ·rw [zaj (by simpa using hi),za0] at e2
   cases q:own[i]? with|none=>rw [q] at e2;cases e2|some y=>rw [q] at e2;cases e2
  ·rw [zaP (by simpa using hi)] at e2
   rw [zaP (by omega)] at e1;simp only [zah] at e2;generalize i - own.length=j at e1 e2;rw [za0] at e2
   cases q:ix[j]? with|none=>rw [q] at e2;cases e2|some i' =>
    rw [q] at e2;have e3:(Y[i']?).join=some v:=Option.some.inj e2
    have e4:Y[i']?=some (some v):=by
     cases z:Y[i']? with|none=>rw [z] at e3;cases e3|some w'=>rw [z] at e3;cases w' with
      |none=>cases e3|some _=>cases e3;rfl
    have hN:=hix2 j i' x q e1;obtain ⟨mm,hl⟩:=n.cap x (zaI e1);have hk:X.env.kindOf x=some .cell\/X.env.kindOf x=some .free:=n.free _ mm rfl;obtain ⟨m0,hn0,hl0⟩:=I.loc
    have vis:Nq X.env.scope x:=by
     rcases hk with hk|hk
     ·exact .inr (.inl hk)
     ·exact .inr (.inr hk)
    obtain ⟨u,r,l⟩:=hl0 i' x v hN e4 vis;refine ⟨u,r,.inr ⟨wS hl,?_⟩⟩;obtain ⟨c,hc,hcx⟩:=B.fr x hl;rcases l with ⟨l,_⟩|⟨_,c',hc',z⟩
    ·exfalso
     rcases hk with hk|hk <;> rw [hk] at l <;> cases l
    ·rw [hc'] at hcx;cases hcx
     obtain ⟨o,ho,hd⟩:=z;exact ⟨_,hc,o,old _ _ ho,hd⟩
 ·rcases B.src x c e with ⟨z,_⟩|z
  ·obtain ⟨v,o,ho,hd⟩:=I.cell x c z
   exact ⟨v,o,old _ _ ho,hd⟩
  ·exact ⟨none,hown x c e z⟩
 ·exact absurd (show p∈([]:Tc) from hp) (by simp)
 ·show (ik _ ix Y).length=(own++caps).length
  unfold ik;simp [hix]
def mO (X:Cx)(ifs:Tj)(t:TT):Prop :=
 ∀(pins:Tc) (s:Shared) (Y:L2.St) (H:Hp) (Q:Bool->Hp->Prop),aF X pins Y H s->t Y H Q ->
  wpAny (model X.prog X.w) X.A (forIn ifs true fun c r=>if r=true then do let ok ←isTrue c X.env (eval c X.env);pure (ForInStep.yield ok) else pure (ForInStep.yield r)) (TP X pins Y Q) X.xe s
def Lq:TT:=fun _ H Q=>Q true H
def BF:mO X [] Lq:=fun pins s Y H Q I h=>wpAny_tests_nil ⟨H,I,h⟩
def BE {c:Expr}{t:TT}(h:PT X c t):mO X [c] t:=fun pins s Y H Q I q=>wpAny_tests_one (h pins s Y H Q I q)
theorem uR {prog:Program}{w:World}{A:Around}{R:Result->Shared->Prop}{s:Shared}{elt target iter:Expr}{ifs:Tj}{scope:Scope}{pos:Pos}{it acc:Value}{env:Env}(I:Nat->Shared->Prop)
  (turn:∀n s,I n s->wpAny (model prog w) A (pyNext it) (fun r s₁=>match r with
   |none=>R (.ok .next) s₁|some v=>wpAny (model prog w) A (letOwnedTupleGo target it v) (fun _ s₁'=>wpAny (model prog w) A (assign target env v) (fun _ s₂ =>
     wpAny (model prog w) A (forIn ifs true fun c r=>if r=true then do let ok ←isTrue c env (eval c env);pure (ForInStep.yield ok) else pure (ForInStep.yield r)) (fun ok s₃ =>
      if ok=true then wpAny (model prog w) A (eval elt env) (fun x s₄ =>
       wpAny (model prog w) A (call (.builtin "list.append") [acc,x]) (fun _ s₅=>∃m,m < n/\I m s₅) (fun _ _=>False) s₄) (fun _ _=>False) s₃
      else ∃m,m < n/\I m s₃) (fun _ _=>False) s₂) (fun _ _=>False) s₁') (fun _ _=>False) s₁) (fun _ _=>False) s)
  (n:Nat) (h:I n s):codeAny (model prog w) A (.compLoop (.ListComp elt [⟨target,iter,ifs,0⟩] scope pos) 0 it acc env) R s:=by
 refine codeAny_loop rfl I (fun n s hI=>?_) n h
 show wpAny _ A ((compTurn (.ListComp elt [⟨target,iter,ifs,0⟩] scope pos) 0 it acc env).onRaise (fun x=>do noteFrame x env;theTreesLotGoes x)) _ _ s
 refine wpAny_noted ?_;rw [compTurn_list];refine zab (wpAny_standAt (zab (zbB (turn n s hI) (fun r s₁ h₁=>?_) fun _ _ h'=>h'.elim)))
 cases r with|none=>exact zad h₁|some v =>
  refine zab (zbB h₁ (fun _ s₁' h₁'=>?_) fun _ _ h'=>h'.elim);refine zab (zbB h₁' (fun _ s₂ h₂=>zab (zbB h₂ (fun ok s₃ h₃=>?_) fun _ _ h'=>h'.elim)) fun _ _ h'=>h'.elim)
  cases ok with|false=>exact zad ⟨rfl,h₃⟩|true =>
   exact zab (zab (zbB h₃ (fun x s₄ h₄=>zab (zbB h₄ (fun _ s₅ h₅=>zad (zad ⟨rfl,h₅⟩)) fun _ _ h'=>h'.elim)) fun _ _ h'=>h'.elim))
def aF.adopt {X:Cx}{H:Hp}{s:Shared}{a:Addr}{o:HO}(I:aF X pins Y H s)(f:mi X pins H a)(hs:X.s₀.heap.objs.size<=a)(new:bI X.prog X.w (upd H a o) s.heap a o):aF X pins Y (upd H a o) s:=by
 obtain ⟨f0,f1,f2,f3,f4,f5⟩:=f;have ne:∀b u,H b=some u->b≠a:=fun b u e z=>by rw [z,f0] at e;cases e
 refine ⟨I.ok,I.os,I.bare,⟨I.base.keep,I.base.slot,fun b ob q n hx'=>?_,I.base.there,fun b xs q=>?_,fun b ob u q=>?_,fun b ps q=>?_⟩,I.loc,I.cell,?_,fun x c q=>?_,fun p hp=>?_,fun b u q=>?_,I.len⟩
 ·rw [L2.aD (zat (zaA (zam q) hs))];exact I.base.free b ob q n hx'
 ·rw [L2.aD (ne _ _ (I.base.tups b xs q))];exact I.base.tups b xs q
 ·rw [L2.aD (ne _ _ (I.base.frzs b ob u q))];exact I.base.frzs b ob u q
 ·obtain ⟨more,r⟩:=I.base.tbls b ps q;exact ⟨more,by rw [L2.aD (ne _ _ r)];exact r⟩
 ·rw [L2.aD (Ne.symm f1)];exact I.free
 ·rw [L2.aD (f4 x c q)];exact I.freeC x c q
 ·obtain ⟨q1,q2,q3⟩:=I.pin p hp;exact ⟨q1,by rw [L2.aD (f5 p hp)];exact q2,q3⟩
 ·by_cases hb:b=a
  ·subst hb;rw [L2.dj] at q;cases q;exact new
  ·rw [L2.aD hb] at q;exact (I.hok b u q).stay (fun c v _ q=>q) (fun c r=>by rw [L2.aD (ne _ _ r)];exact r) fun c xs r=>by rw [L2.aD (ne _ _ r)];exact r
def xm (ix:List Nat)(own:Tl)(wi:TI)(g:TG)(tc:TT)(te:TE):TE:=fun Y H Q=>wi Y H fun J H1 =>
 ∃W:Nat->Nat->List V->L2.St->Hp->Prop,(∃n,W 0 n [] (ik (own.map fun _=>none) ix Y) H1)/\∀i n ys τ H,W i n ys τ H ->
  (J.stop i H/\∀p,H p=none->Q (.ref p) (upd H p (.lst ys))) \/
  (J.go i H/\ys.length < sizeLine/\∀x H',J.yld i H x H'->g x τ H' fun τ2 H2=>tc τ2 H2 fun b H3=>if b=true then te τ2 H3 fun y H4=>∃n',n' < n/\W (i+1) n' (ys++[y]) τ2 H4 else ∃n',n' < n/\W (i+1) n' ys τ2 H3)
theorem ko:∀(names:List (Str×NameKind)) (k:Nat) (acc:List (Str×Addr)),cellsFrom k names acc=cellsFrom k names []++acc
 |[],_,_=>rfl|(x,d)::r,k,acc=>by
  unfold cellsFrom;split
  ·rw [ko r (k+1) ((x,k)::acc),ko r (k+1) [(x,k)],za3];rfl
  ·exact ko r k acc
theorem pA {x:Str}{c:Addr}:∀(names:List (Str×NameKind)) (k:Nat) (acc:List (Str×Addr)),(x,c)∈cellsFrom k names acc->(x,c)∈acc\/(x,NameKind.cell)∈names
 |[],_,_,h=>.inl h|(y,d)::r,k,acc,h=>by
  unfold cellsFrom at h;split at h
  ·rename_i hk;rcases pA r (k+1) _ h with h|h
   ·rcases zal.mp h with e|e
    ·cases e;rw [←eq_of_beq hk];exact .inr zag
    ·exact .inl e
   ·exact .inr (zai _ h)
  ·exact (pA r k acc h).imp id (zai _)
theorem iU {x:Str}:∀(a b:List (Str×Addr)),(a++b).lookup x=(a.lookup x).or (b.lookup x)
 |[],_=>rfl|(y,c)::a,b=>by
  rw [zb9,zbL,zbL];split
  ·rfl
  ·exact iU a b
def zM {X:Cx}{s₂ s₃:Shared}{H₂:Hp}{E:Tb}{scope:Scope}{own caps:Tl}{cl:List (Str×Addr)}{Q:Env->Shared->Prop}(I:aF X pins Y H₂ s₂)(n:ay X.env.scope scope own caps)(hs:s₂.heap.objs.size < s₃.heap.objs.size)
  (hcl:∀x c,cl.lookup x=some c->X.env.cells.lookup x=some c) (hcl2:∀y∈scope.names,y.2=.free->∃c,cl.lookup y.1=some c)
  (hQ:∀(h₁:Heap) (cl':List (Str×Addr)) (m:Td),(∀b o,s₃.heap.get? b=some o->h₁.get? b=some o)->h₁.Ns s₃.heap.objs.size m->Nx X scope s₂.heap.objs.size cl'->(∀x c,cl'.lookup x=some c->s₂.heap.objs.size < c->h₁.IsCell c none) ->
   Q {compEnvC scope cl' s₃.heap.objs.size X.env with scope:=scope} {s₃ with heap:=h₁}) :
  wpAny (model X.prog X.w) X.A (newFunctionEnv scope X.env.globals cl [] X.env.qual none .none (some X.env)) Q E s₃:=by
 simp only [newFunctionEnv,zcw,if_true];refine zab (wpAny_alloc ?_);refine zab (wpAny_layCells _ (fun name kind cells=>by cases hkc:kind == NameKind.cell <;> simp [hkc]) _ _ _ _ ?_);have ok:=cellsFrom_ok scope.names (s₃.heap.push {cls:=.type "dict",data:=.dict #[]}) (s₃.heap.objs.size+1) [] ⟨fun _ _ hm=>(nomatch hm),List.Pairwise.nil⟩ (by rw [za9];exact zao _);have e1:=ko scope.names (s₃.heap.push {cls:=.type "dict",data:=.dict #[]}).objs.size cl;refine zad (hQ _ _ _ (fun b o e=>pushCells_keeps _ _ b o (zae _ e)) ((Heap.Ns.new s₃.heap (.type "dict")).keeps (pushCells_keeps _ _)) ?_ ?_)
 all_goals
  rw [e1];generalize hO:cellsFrom (s₃.heap.push {cls:=.type "dict",data:=.dict #[]}).objs.size scope.names []=Ozz at ok e1;have own:∀{x c},Ozz.lookup x=some c->(pushCells (s₃.heap.push {cls:=.type "dict",data:=.dict #[]}) scope.names).IsCell c none/\s₂.heap.objs.size < c:=fun {x c} h=>⟨(ok.empty x c (PySem.mem_of_lookup h)).1,zb6 hs (ok.empty x c (PySem.mem_of_lookup h)).2⟩
  have ol:∀{x c},cl.lookup x=some c->c < s₂.heap.objs.size:=fun {x c} h=>by
   obtain ⟨v,o,q,_⟩:=I.cell x c (hcl x c h);exact zam q
  have spl:∀{x c},(Ozz++cl).lookup x=some c->Ozz.lookup x=some c\/(Ozz.lookup x=none/\cl.lookup x=some c):=fun {x c} h=>by
   rw [iU] at h
   cases q:Ozz.lookup x with|none=>rw [q] at h;exact .inr ⟨rfl,h⟩|some d=>rw [q] at h;exact .inl h
 ·refine ⟨fun x c h=>?_,fun x y c h1 h2=>?_,fun y hy hk=>?_,fun y hy=>?_⟩
  ·rcases spl h with h|⟨h1,h2⟩
   ·exact .inr (own h).2
   ·refine .inl ⟨hcl x c h2,fun z=>?_⟩
    have:=zck scope.names (s₃.heap.push {cls:=.type "dict",data:=.dict #[]}).objs.size [] (.inl z);rw [hO,h1] at this;cases this
  ·rcases spl h1 with h1|⟨_,h1⟩ <;> rcases spl h2 with h2|⟨_,h2⟩
   ·exact PySem.name_of_addr ok.apart (PySem.mem_of_lookup h1) (PySem.mem_of_lookup h2)
   ·exact absurd (zb6 (own h1).2 (ol h2)) (zaF _)
   ·exact absurd (zb6 (own h2).2 (ol h1)) (zaF _)
   ·exact I.ok.inj x y c (hcl x c h1) (hcl y c h2)
  ·rw [iU]
   cases q:Ozz.lookup y.1 with|some d=>exact ⟨d,rfl⟩|none =>
    rcases hk with hk|hk
    ·exact hcl2 y hy hk
    ·have:=zck scope.names (s₃.heap.push {cls:=.type "dict",data:=.dict #[]}).objs.size [] (.inl (n.cell y hy hk))
     rw [hO,q] at this;cases this
  ·obtain ⟨c,hc⟩:=hcl2 _ (oM hy) rfl
   refine ⟨c,?_,hcl y c hc⟩;rw [iU]
   cases q:Ozz.lookup y with|none=>exact hc|some d =>
    rw [←hO] at q;rcases pA _ _ _ (PySem.mem_of_lookup q) with z|z
    ·cases z
    ·have:=n.cell _ z rfl
     rw [hy] at this;cases this
 ·intro x c h hc
  rcases spl h with h|⟨_,h⟩
  ·exact (own h).1
  ·exact absurd (zb6 hc (ol h)) (zaF _)
theorem qI {X:Cx}{pins:Tc}{Y:L2.St}{s₂:Shared}{H₂:Hp}{E:Tb}{elt tg iter:Expr}{ifs:Tj}{scope:Scope}{pos:Pos}{own caps:Tl}{ix:List Nat}{g:TG}{tc:TT}{te:TE}{Q:VK}{cl:List (Str×Addr)}
  {it:Addr} {fp:Tf} {tn:Nat->Heap->Prop} {J:It} {RR:Value->Addr->Result->Shared->Prop}
  (hc:X.calm=true) (I:aF X pins Y H₂ s₂) (T:wX X.prog X.w X.K tg J fp it tn) (st:tn 0 s₂.heap) (hf:∀b∈fp,mi X pins H₂ b) (n:ay X.env.scope scope own caps)
  (hcl:∀x c,cl.lookup x=some c->X.env.cells.lookup x=some c) (hcl2:∀y∈scope.names,y.2=.free->∃c,cl.lookup y.1=some c)
  (hix:ix.length=caps.length) (hix2:∀(j i:Nat) y,ix[j]?=some i->caps[j]?=some y->X.N[i]?=some y)
  (hg:∀cl C,PG (aL X scope cl C s₂ H₂ fp (own++caps)) tg g) (ht:∀cl C,mO (aL X scope cl C s₂ H₂ fp (own++caps)) ifs tc) (he:∀cl C,PE (aL X scope cl C s₂ H₂ fp (own++caps)) elt te)
  (W:Nat->Nat->List V->L2.St->Hp->Prop) (hW0:∃n,W 0 n [] (ik (own.map fun _=>none) ix Y) H₂)
  (hW:∀i n ys τ H,W i n ys τ H->(J.stop i H/\∀p,H p=none->Q (.ref p) (upd H p (.lst ys))) \/
   (J.go i H/\ys.length < sizeLine/\∀x H',J.yld i H x H'->g x τ H' fun τ2 H2=>tc τ2 H2 fun b H3=>if b=true then te τ2 H3 fun y H4=>∃n',n' < n/\W (i+1) n' (ys++[y]) τ2 H4 else ∃n',n' < n/\W (i+1) n' ys τ2 H3))
  (hRR:∀(D C:Addr) (s':Shared) m H' ys,s'.heap.Ns C m->aF X pins Y (upd H' D (.lst ys)) s'->mi X pins (upd H' D (.lst ys)) C->Q (.ref D) (upd H' D (.lst ys))->RR (.ref D) C (.ok .next) s') :
  wpAny (model X.prog X.w) X.A (newList []) (fun acc s₃=>wpAny (model X.prog X.w) X.A (newFunctionEnv scope X.env.globals cl [] X.env.qual none .none (some X.env)) (fun cenv s₄ =>
   codeAny (model X.prog X.w) X.A (.compStart (.ListComp elt [⟨tg,iter,ifs,0⟩] scope pos) 0 (.ref it) acc {cenv with scope:=relabel scope X.env}) (RR acc cenv.locals) s₄) E s₃) E s₂:=by
 refine zaT (zM (s₂:=s₂) I n (by show s₂.heap.objs.size < (s₂.heap.push _).objs.size;rw [za9];exact zcr _) hcl hcl2 fun h₁ cl m₁ kp1 hns1 B hown=>?_);dsimp only at hns1 kp1 ⊢;generalize hH2:s₂.heap.push {cls:=.type "list",dict:=none,data:=.seq ([]:Te).toArray}=H2 at hns1 kp1 ⊢
 have hC:H2.objs.size=s₂.heap.objs.size+1:=by rw [←hH2,za9]
 have below:∀b,b < s₂.heap.objs.size->b≠H2.objs.size/\b≠s₂.heap.objs.size:=fun b hb=>⟨by rw [hC];exact zat (zaU hb),zat hb⟩
 have hDC:s₂.heap.objs.size≠H2.objs.size:=by rw [hC];exact zat (zcr _)
 have old:∀b o,s₂.heap.get? b=some o->h₁.get? b=some o:=fun b o e=>kp1 b o (hH2 ▸ zae _ e);have hacc:h₁.get? s₂.heap.objs.size=some {cls:=.type "list",data:=.seq ([]:Te).toArray}:=kp1 _ _ (hH2 ▸ zaq _ rfl)
 have fplt:∀b∈fp,b < s₂.heap.objs.size:=fun b hb=>by obtain ⟨o,e,_⟩:=T.obj _ _ st b hb;exact zam e
 have hCle:s₂.heap.objs.size<=H2.objs.size:=by rw [hC];exact zcl _
 have hfC:∀b∈fp,b < H2.objs.size:=fun b hb=>zaA (fplt b hb) hCle;have st₁:tn 0 h₁:=T.keep 0 _ _ st fun b _ o e=>old b o e;have I₀:=u3 (tk:=s₂.toks) I n B hCle fplt hf hown hix hix2 old hns1;clear hns1 kp1
 have cellD:∀x c,cl.lookup x=some c->c≠s₂.heap.objs.size:=fun x c e=>by
  rcases B.src x c e with ⟨z,_⟩|z
  ·obtain ⟨v,o,q,_⟩:=I.cell x c z;exact zat (zam q)
  ·exact Ne.symm (zat z)
 have stkD:∀b∈zy X.stack,b < s₂.heap.objs.size:=fun b hb=>by
  rcases zal.mp (I.stkSub b hb) with e|e
  ·rw [e];exact I.lt
  ·obtain ⟨_,o,q,_⟩:=I.funs.mem e;exact zam q
 have fpok:∀{ps:Tc} {H:Hp},(∀b∈fp,H b=none)->(∀p∈ps,p.1∉fp)->∀b∈fp,mi (aL X scope cl H2.objs.size s₂ H₂ fp (own++caps)) ps H b:=fun {ps H} hn hp b hb =>
  ⟨hn b hb,zat (hfC b hb),fun z=>by
   rcases zal.mp (I.stkSub b z) with e|e
   ·exact (hf b hb).2.1 e
   ·exact (hf b hb).2.2.1 e,.inl hb,fun x c e=>B.ne (hf b hb) (fplt b hb) e,fun p hp' z=>hp p (by simpa [aL] using hp') (z ▸ hb)⟩
 have Dfp:s₂.heap.objs.size∉fp:=fun z=>zaF _ (fplt _ z)
 have pinD:∀{H:Hp} {h:Heap} {its:Te} {k:Nat},H s₂.heap.objs.size=none->h.get? s₂.heap.objs.size=some {cls:=.type "list",data:=.seq its.toArray k} ->
   ∀p∈[((s₂.heap.objs.size,{cls:=.type "list",data:=.seq its.toArray k}):Addr×Obj)],h.get? p.1=some p.2/\H p.1=none/\p.1≠H2.objs.size/\p.1∉zy X.stack/\∀v,p.2.data≠.cell v:=fun {H h its k} hn e p hp=>by
  rw [zaB.mp hp];exact ⟨e,hn,hDC,fun z=>zaF _ (stkD _ z),fun v z=>by cases z⟩
 have cg:∀s₃:Shared,s₃={s₂ with heap:=h₁} ->
   codeAny (model X.prog X.w) X.A (.compLoop (.ListComp elt [⟨tg,iter,ifs,0⟩] scope pos) 0 (.ref it) (.ref s₂.heap.objs.size) (compEnvC scope cl H2.objs.size X.env)) (RR (.ref s₂.heap.objs.size) H2.objs.size) s₃:=by
  rintro s₃ rfl;obtain ⟨n0,hW0⟩:=hW0
  refine uR (fun n s'=>∃i ys its k τ H,aF (aL X scope cl H2.objs.size s₂ H₂ fp (own++caps)) [(s₂.heap.objs.size,{cls:=.type "list",data:=.seq its.toArray k})] τ H s'/\tn i s'.heap/\(∀b∈fp,H b=none)/\aZ ys its/\ys.length<=sizeLine/\W i n ys τ H) ?_ n0
   ⟨0,[],[],0,_,H₂,I₀.pins_of (pinD (I.hok.fresh (zao _)) hacc),st₁,fun b hb=>(hf b hb).1,.nil,zbb _,hW0⟩
  rintro n s3 ⟨i,ys,its,k,τ,H,I3,st3,fr3,rv,hz,w3⟩;have hD3:=I3.pin _ (zaC _ zag)
  have pfp:∀p∈[((s₂.heap.objs.size,{cls:=.type "list",data:=.seq its.toArray k}):Addr×Obj)],p.1∉fp:=fun p hp=>by rw [zaB.mp hp];exact Dfp
  rcases hW i n ys τ H w3 with ⟨stop,q⟩|⟨go,hlt,step⟩
  ·refine cL (T.done (aL X scope cl H2.objs.size s₂ H₂ fp (own++caps)) rfl rfl rfl hc i _ s3 τ H (fun _ _=>False) I3 (fpok fr3 pfp) st3 stop) fun r s4 hh=>?_
   obtain ⟨hr,I4⟩:=hh;subst hr;have hD4:=I4.pin _ (zaC _ zag);obtain ⟨m,hm,_⟩:=id I4.loc;have IX:aF X pins Y H s4:=I.call' (ch:=fp) I4.os I4.base I4.hok I4.bare fun b hb=>⟨(hf b hb).2.2.2.1,(hf b hb).2.1,(hf b hb).2.2.2.2⟩;have fD:mi X pins H s₂.heap.objs.size:=I.fpOk (zao _) hD4.2.1;have IY:=aF.adopt (o:=.lst ys) IX fD I.sz ⟨hz,its,k,rv,hD4.1⟩;exact hRR _ _ s4 m H ys hm IY (I.fpOk hCle (by rw [L2.aD (Ne.symm hDC)];exact I4.free)) (q _ hD4.2.1)
  ·refine cL (T.item (aL X scope cl H2.objs.size s₂ H₂ fp (own++caps)) rfl rfl rfl hc i _ s3 τ H (fun _ _=>False) I3 (fpok fr3 pfp) st3 go) fun r s4 hh=>?_
   obtain ⟨u,hr,h4⟩:=hh;subst hr;refine cL h4 fun _ s5 hh=>?_;obtain ⟨x,H5,I5,r5,y5,st5,fr5⟩:=hh;have I5':=I5.pinned (fpok fr5 pfp) (T.obj _ _ st5);refine cL (hg _ _ _ s5 τ H5 x u _ I5' r5 (step x H5 y5)) fun _ s6 hh=>?_;obtain ⟨Y6,H6,I6,q6⟩:=hh;refine cL (ht _ _ _ s6 Y6 H6 _ I6 q6) fun ok s7 hh=>?_;obtain ⟨H7,I7,q7⟩:=hh;have memD:∀p∈kU fp s5.heap,p.1≠s₂.heap.objs.size:=fun p hp z=>Dfp (z ▸ (qm hp).1)
   cases ok with
   |true =>
    refine cL (he _ _ _ s7 Y6 H7 _ I7 q7) fun u8 s8 hh=>?_;obtain ⟨y,H8,I8,r8,n',hn',w8⟩:=hh;have hD8:=I8.pin (s₂.heap.objs.size,_) (zaC _ (zbr _ zag));refine append_at (hsz:=by rw [zax,←rv.length];exact hz) hD8.1 fun h9 sb hD9=>?_;have I8':aF (aL X scope cl H2.objs.size s₂ H₂ fp (own++caps)) (kU fp s5.heap) Y6 H8 s8:=I8.pins_of fun p hp=>I8.pin p (zaC _ (zaC _ hp))
    have I9:aF (aL X scope cl H2.objs.size s₂ H₂ fp (own++caps)) (kU fp s5.heap) Y6 H8 {s8 with heap:=h9}:=I8'.turned (t':=s8.toks) (it:=s₂.heap.objs.size) (fun b o hb e=>sb.extBut b o hb e) hD8.2.1 hDC (.inr (zao _))
     cellD fun p hp=>memD p (by simpa [aL] using hp)
    have e9:(its.toArray.push u8)=(its++[u8]).toArray:=by simp
    rw [e9] at hD9;refine ⟨n',hn',i+1,ys++[y],its++[u8],k+1,Y6,H8,I9.pins_of (pinD hD8.2.1 hD9),T.keep _ _ _ st5 fun b hb o e=>(I9.pin (b,o) (zaC _ (ff hb e))).1,fun b hb=>?_,rv.append (.cons r8 .nil),by rw [za1];exact hlt,w8⟩;obtain ⟨o,e,d⟩:=T.obj _ _ st5 b hb;exact (I9.pin (b,o) (zaC _ (ff hb e))).2.1
   |false =>
    obtain ⟨n',hn',w8⟩:=q7;have hD7:=I7.pin (s₂.heap.objs.size,_) (zaC _ (zbr _ zag));refine ⟨n',hn',i+1,ys,its,k,Y6,H7,I7.pins_of (pinD hD7.2.1 hD7.1),T.keep _ _ _ st5 fun b hb o e=>(I7.pin (b,o) (zaC _ (zaC _ (ff hb e)))).1,fun b hb=>?_,rv,hz,w8⟩;obtain ⟨o,e,d⟩:=T.obj _ _ st5 b hb;exact (I7.pin (b,o) (zaC _ (zaC _ (ff hb e)))).2.1
 exact codeAny_compStart_list (cg _ rfl) (T.self _ 0 _ _ _ st₁ (cg _ rfl))
def tD (scope S:Scope):Scope:={scope with names:=scope.names.map fun (n,k)=>if (k == NameKind.free && S.kind == .function && S.names.lookup n == some .cell) then (n,NameKind.cell) else (n,k)}
def FC {X:Cx}{sc scope:Scope}{own caps N:Tl}{cl:List (Str×Addr)}{C:Addr}{s₂:Shared}{H₂:Hp}{fp:Tf}(h:ay (tD sc X.env.scope) scope own caps):ay (aL X sc cl C s₂ H₂ fp N).env.scope scope own caps:=h
def tW {X:Cx}{elt tg iter:Expr}{ifs:Tj}{scope:Scope}{pos:Pos}{own caps:Tl}{ix:List Nat}{wi:TI}{g:TG}{tc:TT}{te:TE}(hc:X.calm=true)(n:ay X.env.scope scope own caps)
  (hix:ix.length=caps.length) (hix2:∀(j i:Nat) y,ix[j]?=some i->caps[j]?=some y->X.N[i]?=some y) (hi:PI X tg iter wi)
  (hb:∀cl C s₂ H₂ fp,PG (aL X scope cl C s₂ H₂ fp (own++caps)) tg g/\mO (aL X scope cl C s₂ H₂ fp (own++caps)) ifs tc/\PE (aL X scope cl C s₂ H₂ fp (own++caps)) elt te)
  (hs:∀x,foldedSetIterable iter X.env x=pure x:=by intro _;rfl):PE X (.ListComp elt [⟨tg,iter,ifs,0⟩] scope pos) (xm ix own wi g tc te):=by
 intro pins s Y H Q I h;obtain ⟨cl,hclos,hcl,hcl2⟩:=pw (env:=X.env) (scope:=scope) fun y hy hf=>I.ok.has y.1 (n.free y hy hf);rw [eval_ListComp];refine wpAny_comprehension_free (use:=none) rfl hs hclos n.kind n.loc (cL (hi pins s Y H _ I h) fun v s1 h1=>cL h1 fun itv s2 h2=>?_);obtain ⟨it,fp,tn,J,H2,e,I2,T,st2,f2,W,w0,turn⟩:=h2;subst e;refine qI (RR:=fun acc C=>compPost (model X.prog X.w) X.A X.xe none (EP X pins Y Q) acc C) hc I2 T st2 f2 n hcl hcl2 hix hix2 (fun cl C=>(hb cl C s2 H2 fp).1) (fun cl C=>(hb cl C s2 H2 fp).2.1) (fun cl C=>(hb cl C s2 H2 fp).2.2) W w0 turn ?_;intro D C s' m H' ys hm IY fC q;refine ⟨m,hm,fun h' sb=>⟨.ref D,_,IY.turned (t':=s'.toks) (it:=C) (fun b o hb e=>sb.extBut b o hb e) fC.1 fC.2.1 fC.2.2.2.1 fC.2.2.2.2.1 fC.2.2.2.2.2,rfl,q⟩⟩
def BA {X:Cx}{elt tg iter:Expr}{ifs:Tj}{scope:Scope}{pos spos py:Pos}{own caps:Tl}{ix:List Nat}{wi:TI}{g:TG}{tc:TT}{te:TE}{i:Nat}{y:Str}(hc:X.calm=true)(n:ay X.env.scope scope own caps)
  (hN:X.N.Nodup) (hy:X.N[i]?=some y) (hyl:Dv X.env.scope y)
  (hix:ix.length=caps.length) (hix2:∀(j i:Nat) y,ix[j]?=some i->caps[j]?=some y->X.N[i]?=some y) (hi:PI X tg iter wi)
  (hb:∀cl C s₂ H₂ fp,PG (aL X scope cl C s₂ H₂ fp (own++caps)) tg g/\mO (aL X scope cl C s₂ H₂ fp (own++caps)) ifs tc/\PE (aL X scope cl C s₂ H₂ fp (own++caps)) elt te)
  (hsw:swapsWith (.ListComp elt [⟨tg,iter,ifs,0⟩] scope pos) (some (.Name y py)) spos.line X.env=pure true)
  (hs:∀x,foldedSetIterable iter X.env x=pure x:=by intro _;rfl) (hf:X.fn y=true\/X.env.scope.names.lookup y=some .local:=by first|exact .inl rfl|exact .inr rfl|assumption) :
  PS X (.Assign [.Name y py] (.ListComp elt [⟨tg,iter,ifs,0⟩] scope pos) spos) (AJ (xm ix own wi g tc te) (qv i)):=by
 intro pins s Y H Zz I h;obtain ⟨cl,hclos,hcl,hcl2⟩:=pw (env:=X.env) (scope:=scope) fun y hy hf=>I.ok.has y.1 (n.free y hy hf);rw [exec_Assign_Name_used _ _ _ _ hsw];refine zab (wpAny_standAt (zab ?_))
 show wpAny _ X.A (do let _ ←comprehension (.ListComp elt [⟨tg,iter,ifs,0⟩] scope pos) scope X.env _ (newList []) false (eval iter X.env) (some (assign (.Name y py) X.env))) _ _ s
 refine zab (zbB (wpAny_comprehension_free (use:=some (assign (.Name y py) X.env)) (Q:=fun _ s'=>SP X pins Zz .next s') rfl hs hclos n.kind n.loc (cL (hi pins s Y H _ I h) fun v s1 h1=>cL h1 fun itv s2 h2=>?_)) (fun _ s' hq=>zad (zad hq)) fun _ _ e=>e);obtain ⟨it,fp,tn,J,H2,e,I2,T,st2,f2,W,w0,turn⟩:=h2;subst e;refine qI (Q:=fun x H1=>qv i x Y H1 Zz.nx) (RR:=fun acc C=>compPost (model X.prog X.w) X.A X.xe (some (assign (.Name y py) X.env)) (fun _ s'=>SP X pins Zz .next s') acc C) hc I2 T st2 f2 n hcl hcl2 hix hix2 (fun cl C=>(hb cl C s2 H2 fp).1) (fun cl C=>(hb cl C s2 H2 fp).2.1) (fun cl C=>(hb cl C s2 H2 fp).2.2) W w0 turn ?_;intro D C s' m H' ys hm IY fC q
 show wpAny _ X.A (assign (.Name y py) X.env (.ref D)) _ _ _
 refine wpAny_assign_Name (p6 (v:=.ref D) IY hN hy hyl rfl (fun s'' IZ hh=>?_) hf);obtain ⟨a,sa,ha⟩:=hh
 have nC:C≠a:=by
  rcases ha with ha|ha
  ·rw [ha];exact fC.2.1
  ·exact Ne.symm (fC.2.2.2.2.1 _ _ ha)
 refine ⟨m,hm.sameBut sa nC,fun h' sb=>⟨_,_,IZ.turned (t':=s''.toks) (it:=C) (fun b o hb e=>sb.extBut b o hb e) fC.1 fC.2.1 fC.2.2.2.1 fC.2.2.2.2.1 fC.2.2.2.2.2,q⟩⟩
section
variable {K:zac}{m:Tf}{Y:L2.St}{H:Hp}{Q:VK}{U:ac}
def Io {B:Bool->Hp->Prop}(h:fZ K bY Y H B):Lq Y H B:=by obtain ⟨O,U,m,d,U',hl,hs,e,k⟩:=h;cases e;exact k H m .refl hs
def qJ {O:Lo}{k:Nat}{ix:List Nat}{own:Tl}(hk:own.length=k)(h:dN K m H O Y):dN K m H (dg k ix O) (ik (own.map fun _=>none) ix Y):=by
 subst hk;unfold dg ik;refine ⟨by simp,fun i d e=>?_⟩;by_cases hi:i < own.length
 ·rw [zaj (by simpa using hi),zcF] at e;split at e <;> cases e
 ·rw [zaP (by simpa using hi)] at e;rw [zaP (by simpa using hi)];simp only [List.length_replicate,zah] at e ⊢;generalize i - own.length=j at e ⊢;rw [za0] at e ⊢
  cases q:ix[j]? with|none=>rw [q] at e;cases e|some i' =>
   rw [q] at e;have e3:(O[i']?).join=some d:=Option.some.inj e;have e4:O[i']?=some (some d):=by
    cases z:O[i']? with|none=>rw [z] at e3;cases e3|some w'=>rw [z] at e3;cases w' with
     |none=>cases e3|some _=>cases e3;rfl
   obtain ⟨v,q1,q2⟩:=h.2 i' d e4;exact ⟨v,by simp [q1],q2⟩
def xr {ix:List Nat}{k:Nat}{own:Tl}{fi:FI}{g:FG}{c:FT}{f:FE}(hk:own.length=k)(h:az K (bH ix k fi g c f) Y H Q):xm ix own (vc K fi) (nN K g) (fZ K c) (az K f) Y H Q:=by
 obtain ⟨O,U,m,d,U',hl,hs,e,kk⟩:=h;obtain ⟨⟨xs,U1⟩,e1,e⟩:=zaa.mp e;split at e
 ·rename_i hz;obtain ⟨⟨r,Ur⟩,e2,e⟩:=zaa.mp e;cases e;refine ⟨O,U,m,xs,U1,hl,hs,e1,fun J P H1 m1 x1 s1 ok p1=>?_⟩;refine ⟨fun i n ys τ H=>n=xs.length - i/\i<=xs.length/\ys.length<=i/\P H/\∃O U m ds r',dN K m H O τ/\aO K m H U/\RelDs K H ds ys/\bv g c f (xs.drop i) O U=some (r',Ur)/\r=ds++r' /\
   ∀v H' m',c6 m H m' H'->aO K m' H' (Ur++[.lst r])->au K m' H' (.p Ur.length) v->Q v H',
   ⟨_,rfl,zbb _,zao _,p1,_,U1,m1,[],r,qJ hk (hl.ext x1),s1,by simp only [RelDs],by simpa using e2,rfl,fun v H' m' x2 s2 r2=>kk v H' m' (x1.trans x2) s2 r2⟩,?_⟩
  rintro i n ys τ H ⟨rfl,hi,hy,p,O,U,m,ds,r',hl,hs,rs,e,er,kk⟩;by_cases hlt:i < xs.length
  ·have hx:xs[i]?=some xs[i]:=zas hlt;rw [zbw hlt,bv] at e;obtain ⟨⟨O1,U2⟩,q1,e⟩:=zaa.mp e;obtain ⟨⟨b,U3⟩,q2,e⟩:=zaa.mp e;refine .inr ⟨ok.go i _ H hx p,zcx hy (zaA hlt hz),fun x H' y=>?_⟩;obtain ⟨rfl,rx⟩:=ok.yld i _ H x H' hx p y;refine ⟨O,U,m,.v xs[i],O1,U2,hl,hs,rx,q1,fun Y1 H1 m1 x1 s1 l1=>?_⟩;refine ⟨O1,U2,m1,b,U3,l1,s1,q2,fun H2 m2 x2 s2=>?_⟩
   cases b with
   |true =>
    simp only [if_true] at e ⊢;obtain ⟨⟨y',U4⟩,q3,e⟩:=zaa.mp e;refine ⟨O1,U3,m2,y',U4,l1.ext x2,s2,q3,fun w H3 m3 x3 s3 r3=>?_⟩
    cases y' with|p _=>cases e|s _ _=>cases e|x _=>cases e|f _ _=>cases e|v d1 =>
     obtain ⟨⟨r1,U5⟩,q4,e⟩:=zaa.mp e;cases e;have x4:=(x1.trans x2).trans x3;refine ⟨_,(by omega:xs.length - (i+1) < xs.length - i),rfl,hlt,by rw [za1];exact Nat.succ_le_succ hy,ok.st _ _ x4.tf p,O1,U4,m3,ds++[d1],r1,l1.ext (x2.trans x3),s3,
      (RelDs.tf x4.tf _ _ rs).append (by simp only [RelDs];exact ⟨w,[],rfl,r3,rfl⟩),q4,by rw [er,za3];rfl,fun v H' m' x5 s5 r5=>kk v H' m' (x4.trans x5) s5 r5⟩
   |false =>
    simp only [zap,if_false] at e ⊢;have x4:=x1.trans x2;exact ⟨_,(by omega:xs.length - (i+1) < xs.length - i),rfl,hlt,Nat.le_succ_of_le hy,ok.st _ _ x4.tf p,O1,U3,m2,ds,r',l1.ext x2,s2,RelDs.tf x4.tf _ _ rs,e,er,fun v H' m' x5 s5 r5=>kk v H' m' (x4.trans x5) s5 r5⟩
  ·have:i=xs.length:=by omega
   subst this;rw [zcQ,bv] at e;cases e;refine .inl ⟨ok.stop _ H p (zao _),fun p hp=>?_⟩;obtain ⟨a1,a2,a3⟩:=fJ hs rs hp;rw [zbi] at er;subst er;exact kk _ _ _ a1 a2 a3
 ·cases e
end
mutual
noncomputable def lE:D->PyData
 |.non=>.none|.bl b=>.bool b|.int i=>.int i|.str x=>.str x|.tup xs=>.tuple (toPys xs)|.fl xs=>.list (toPys xs)|.fd _ _=>.none|.key _=>.none
noncomputable def toPys:List D->List PyData
 |[]=>[]|x::xs=>lE x::toPys xs
end
mutual
noncomputable def e8:Nat->D->Bool
 |_,.non=>true|_,.bl _=>true|_,.int _=>true|_,.str x=>PyData.strOk x|_,.fd _ _=>false|_,.key _=>false|0,.tup _=>false|0,.fl _=>false|n+1,.tup xs=>okDs n xs|n+1,.fl xs=>okDs n xs
noncomputable def okDs:Nat->List D->Bool
 |_,[]=>true|n,x::xs=>e8 n x && okDs n xs
end
mutual
noncomputable def hV:D->D->Bool
 |.bl a,y=>match y with|.bl b=>a == b|.int j=>(if a then 1 else 0) == j|_=>false
 |.int i,y=>match y with|.bl b=>i == (if b then 1 else 0)|.int j=>i == j|_=>false
 |.str x,y=>match y with|.str z=>x == z|_=>false
 |.tup xs,y=>match y with|.tup ys=>eqDs xs ys|_=>false
 |.fl xs,y=>match y with|.fl ys=>eqDs xs ys|_=>false
 |_,y=>match y with|.non=>true|.fd _ _=>true|.key _=>true|_=>false
noncomputable def eqDs:List D->List D->Bool
 |[],[]=>true|x::xs,y::ys=>hV x y && eqDs xs ys|_,_=>false
end
theorem rX (xs ys:List D):hV (.tup xs) (.tup ys)=eqDs xs ys:=rfl
theorem wC (xs ys:List D):hV (.fl xs) (.fl ys)=eqDs xs ys:=rfl
theorem wE (a b:Bool):hV (.bl a) (.bl b)=(a == b):=rfl
theorem rY (i j:Int):hV (.int i) (.int j)=(i == j):=rfl
theorem eP:eqDs [] []=true:=rfl
theorem c9 (x y:D)(xs ys:List D):eqDs (x::xs) (y::ys)=(hV x y && eqDs xs ys):=rfl
theorem gw (y:D)(ys:List D):eqDs [] (y::ys)=false:=rfl
theorem gx (y:D)(ys:List D):eqDs (y::ys) []=false:=rfl
mutual
theorem wB:∀a b:D,PyData.eqv (lE a) (lE b)=hV a b
 |.non,b=>by cases b <;> rfl|.bl _,b=>by cases b <;> rfl|.int _,b=>by cases b <;> rfl|.str _,b=>by cases b <;> rfl|.tup xs,b=>by
  cases b with|tup ys=>exact eqDs_py xs ys|_=>rfl
 |.fl xs,b=>by
  cases b with|fl ys=>exact eqDs_py xs ys|_=>rfl
 |.fd _ _,b=>by cases b <;> rfl|.key _,b=>by cases b <;> rfl
theorem eqDs_py:∀a b:List D,PyData.eqvAll (toPys a) (toPys b)=eqDs a b
 |[],b=>by cases b <;> rfl|x::xs,b=>by
  cases b with|nil=>rfl|cons y ys=>rw [c9,←wB x y,←eqDs_py xs ys];rfl
end
mutual
theorem BW:∀(n:Nat) (d:D),e8 n d=true->(lE d).canLay0=true/\(lE d).depth<=n
 |_,.non,_=>by simp [lE,PyData.canLay0,PyData.depth]|_,.bl _,_=>by simp [lE,PyData.canLay0,PyData.depth]|_,.int _,_=>by simp [lE,PyData.canLay0,PyData.depth]|n,.str x,h=>by
  have h:PyData.strOk x=true:=by cases n <;> simpa [e8] using h
  simp [lE,PyData.canLay0,PyData.depth,h]
 |n,.fd _ _,h=>by cases n <;> simp [e8] at h|n,.key _,h=>by cases n <;> simp [e8] at h|0,.tup _,h=>by simp [e8] at h|0,.fl _,h=>by simp [e8] at h|n+1,.tup xs,h=>by obtain ⟨a,b⟩:=okDs_py n xs (by simpa [e8] using h);simp only [lE,PyData.canLay0,PyData.depth];exact ⟨a,by omega⟩
 |n+1,.fl xs,h=>by obtain ⟨a,b⟩:=okDs_py n xs (by simpa [e8] using h);simp only [lE,PyData.canLay0,PyData.depth];exact ⟨a,by omega⟩
theorem okDs_py:∀(n:Nat) (ds:List D),okDs n ds=true->PyData.canLayAll0 (toPys ds)=true/\PyData.depthAll (toPys ds)<=n
 |_,[],_=>by simp [toPys,PyData.canLayAll0,PyData.depthAll]|n,x::xs,h=>by
  have h':e8 n x=true/\okDs n xs=true:=by cases n <;> simpa [okDs] using h
  obtain ⟨a1,b1⟩:=BW n x h'.1;obtain ⟨a2,b2⟩:=okDs_py n xs h'.2;simp only [toPys,PyData.canLayAll0,PyData.depthAll,a1,a2,zdg,true_and];omega
end
def j3 {d:D}(h:e8 60 d=true):SeqAt.shaped (lE d)=true:=by obtain ⟨a,b⟩:=BW 60 d h;unfold SeqAt.shaped;rw [a,Bool.true_and];exact zaL (by omega)
section
variable {X:Cx}{pins:Tc}{Y:L2.St}{H:Hp}{s:Shared}
mutual
theorem tE (I:aF X pins Y H s):∀(k:Nat) (d:D) (v:V) (u:Value),e8 k d=true->ao X.K H d v->aW v u->∃as,Reads s.heap u (lE d) as
 |_,.non,v,u,_,h,r=>by simp only [ao] at h;subst h;cases r;exact ⟨_,.none⟩|_,.bl b,v,u,_,h,r=>by simp only [ao] at h;subst h;cases r;exact ⟨_,.bool b⟩|_,.int i,v,u,_,h,r=>by simp only [ao] at h;subst h;obtain ⟨t,rfl⟩:=r;exact ⟨_,.int i t⟩
 |_,.str x,v,u,_,h,r=>by simp only [ao] at h;subst h;obtain ⟨t,rfl⟩:=r;exact ⟨_,.str x t⟩
 |_,.fd _ _,v,u,hk,h,r=>by simp [e8] at hk|_,.key _,v,u,hk,h,r=>by simp [e8] at hk|0,.tup xs,v,u,hk,h,r=>by simp [e8] at hk|0,.fl xs,v,u,hk,h,r=>by simp [e8] at hk|k+1,.tup xs,v,u,hk,h,r=>by simp only [ao] at h;obtain ⟨a,vs,rfl,q,h⟩:=h;cases r;obtain ⟨its,rv,⟨o,e,c,n,hd⟩,_⟩:=I.tuple q;obtain ⟨as,ra⟩:=readss_of I k xs vs its (by simpa [e8] using hk) h rv;exact ⟨_,.tuple e c hd (by simpa using ra)⟩
 |k+1,.fl xs,v,u,hk,h,r=>by simp only [ao] at h;obtain ⟨a,vs,rfl,q,h⟩:=h;cases r;obtain ⟨its,rv,⟨o,n,e,c,_,hd⟩,_⟩:=I.list q.sq;obtain ⟨as,ra⟩:=readss_of I k xs vs its (by simpa [e8] using hk) h rv;exact ⟨_,.list e c hd (by simpa using ra)⟩
theorem readss_of (I:aF X pins Y H s):∀(k:Nat) (ds:List D) (vs:List V) (us:Te),okDs k ds=true->RelDs X.K H ds vs->aZ vs us->∃as,ReadsAll s.heap us (toPys ds) as
 |_,[],vs,us,_,h,r=>by simp only [RelDs] at h;subst h;cases r;exact ⟨_,.nil⟩|k,d::ds,vs,us,hk,h,r=>by
  have hk:e8 k d=true/\okDs k ds=true:=by cases k <;> simpa [okDs] using hk
  simp only [RelDs] at h;obtain ⟨v,vr,rfl,h1,h2⟩:=h
  cases r with|cons r1 r2 =>
   obtain ⟨as,q1⟩:=tE I k d v _ hk.1 h1 r1;obtain ⟨bs,q2⟩:=readss_of I k ds vr _ hk.2 h2 r2;exact ⟨_,.cons q1 q2⟩
end
end
def mS:R->ac->Option D
 |.v d,_=>some d|.p n,U=>match U[n]? with|some (.lst xs)=>some (.fl xs)|some (.fz xs)=>some (.fl xs)|_=>none
 |_,_=>none
def gg (neg:Bool):R->R->ac->Option (R×ac):=fun x y U=>(mS x U).bind fun a=>(mS y U).bind fun b=>if (e8 60 a && e8 60 b)=true then some (.v (.bl (if neg then !hV a b else hV a b)),U) else none
def Ja (K:zac)(neg:Bool):R2:=fun v u H Q=>∃m U x y d,aO K m H U/\au K m H x v/\au K m H y u/\gg neg x y U=some (.v (.bl d),U)/\Q (.bl d) H
def J6 {neg:Bool}:sy K (gg neg) (Ja K neg):=by
 intro m H U x y d U' v u Q s rx ry e k;have e0:=e;unfold gg at e;obtain ⟨a,e1,e⟩:=zaa.mp e;obtain ⟨b,e2,e⟩:=zaa.mp e;split at e
 ·cases e;exact ⟨m,U,x,y,_,s,rx,ry,e0,k _ H m .refl s (by simp only [au,ao])⟩
 ·cases e
theorem iK {X:Cx}{H:Hp}{s:Shared}{m:Tf}{U:ac}{x:R}{d:D}{v:V}{u:Value}(I:aF X pins Y H s)(S:aO X.K m H U)(r:au X.K m H x v)(ru:aW v u)(e:mS x U=some d)(hk:e8 60 d=true):∃as,Reads s.heap u (lE d) as:=by
 cases x with|v d'=>cases e;exact tE I 60 _ _ _ hk r ru|s _ _=>cases e|x _=>cases e|f _ _=>cases e|p n =>
  have hl:∃xs,d=.fl xs/\f6 (.p n) U=some xs:=by
   simp only [mS] at e;split at e
   ·rename_i xs q;cases e;exact ⟨xs,rfl,by simp [f6,q]⟩
   ·rename_i xs q;cases e;exact ⟨xs,rfl,by simp [f6,q]⟩
   ·cases e
  obtain ⟨xs,rfl,e2⟩:=hl;obtain ⟨a,vs,rfl,q,rr⟩:=gT S r e2;cases ru;obtain ⟨its,rv,⟨o,n',e,c,_,hd⟩,_⟩:=I.list q;obtain ⟨as,ra⟩:=readss_of I 59 xs vs its (by simpa [e8] using hk) rr rv;exact ⟨_,.list e c hd (by simpa using ra)⟩
def BT {X:Cx}(hu:X.A.units+64 < cLine):lu X (compareOp .Eq) (Ja X.K false):=by
 intro pins s Y H v u v' u' Q I rv ru q;obtain ⟨m,U,x,y,d,S,rx,ry,e,q⟩:=q;unfold gg at e;obtain ⟨a,e1,e⟩:=zaa.mp e;obtain ⟨b,e2,e⟩:=zaa.mp e;split at e
 ·rename_i z;rw [zbU] at z;cases e;obtain ⟨as,r1⟩:=iK I S rx rv e1 z.1;obtain ⟨bs,r2⟩:=iK I S ry ru e2 z.2;exact eq_dataH r1 r2 (j3 z.1) (j3 z.2) hu ⟨_,H,I,by rw [wB];rfl,q⟩
 ·cases e
def JA {X:Cx}(hu:X.A.units+64 < cLine):lu X (compareOp .NotEq) (Ja X.K true):=by
 intro pins s Y H v u v' u' Q I rv ru q;obtain ⟨m,U,x,y,d,S,rx,ry,e,q⟩:=q;unfold gg at e;obtain ⟨a,e1,e⟩:=zaa.mp e;obtain ⟨b,e2,e⟩:=zaa.mp e;split at e
 ·rename_i z;rw [zbU] at z;cases e;obtain ⟨as,r1⟩:=iK I S rx rv e1 z.1;obtain ⟨bs,r2⟩:=iK I S ry ru e2 z.2;exact ne_dataH r1 r2 (j3 z.1) (j3 z.2) hu ⟨_,H,I,by rw [wB];rfl,q⟩
 ·cases e
def G8 (neg:Bool)(c:D):R->ac->Option (R×ac):=fun x U=>match c,x with
 |.non,.v .non=>some (.v (.bl (!neg)),U)|.bl b,.v (.bl a)=>some (.v (.bl (if neg then !(a == b) else a == b)),U)|_,_=>some (.v (.bl neg),U)
def IW (neg:Bool)(c:V):R2:=fun x y H Q=>y=c/\Q (.bl (if neg then !decide (x=c) else decide (x=c))) H
section
variable {X:Cx}
def tY:lu X (compareOp .IsNot) (IW true .non):=EV
end
def J0 {m:Tf}{H:Hp}{neg:Bool}{c:D}{cv v:V}{x d:R}{U U':ac}(hc:(c=.non/\cv=.non)\/∃b,c=.bl b/\cv=.bl b)(r:au K m H x v)(e:G8 neg c x U=some (d,U')) :
  U'=U/\d=.v (.bl (if neg then !decide (v=cv) else decide (v=cv))):=by
 have nn:∀d0,d0≠.non->ao K H d0 v->v≠.non:=fun d0 h1 h2 z=>by
  subst z;cases d0 <;> simp only [ao] at h2 <;> first|exact h1 rfl|(obtain ⟨_,_,_,h,_⟩:=h2;cases h;done)|(obtain ⟨_,_,h,_⟩:=h2;cases h;done)|(obtain ⟨_,h,_⟩:=h2;cases h;done)|cases h2
 have nb:∀d0 b,(∀a,d0≠.bl a)->ao K H d0 v->v≠.bl b:=fun d0 b h1 h2 z=>by
  subst z;cases d0 <;> simp only [ao] at h2 <;> first|exact h1 _ rfl|(obtain ⟨_,_,_,h,_⟩:=h2;cases h;done)|(obtain ⟨_,_,h,_⟩:=h2;cases h;done)|(obtain ⟨_,h,_⟩:=h2;cases h;done)|cases h2
 have np:∀n,au K m H (.p n) v->v≠.non/\∀b,v≠.bl b:=fun n ⟨a,e,_⟩=>⟨fun z=>(by rw [e] at z;cases z),fun b z=>(by rw [e] at z;cases z)⟩;have ns:∀b' n,au K m H (.s b' n) v->v≠.non/\∀b,v≠.bl b:=fun b' n ⟨a,_,e,_⟩=>⟨fun z=>(by rw [e] at z;cases z),fun b z=>(by rw [e] at z;cases z)⟩;have nx:∀c,au K m H (.x c) v->v≠.non/\∀b,v≠.bl b:=fun c ⟨a,_,_,e,_⟩=>⟨fun z=>(by rw [e] at z;cases z),fun b z=>(by rw [e] at z;cases z)⟩;have nf:∀L ds,au K m H (.f L ds) v->v≠.non/\∀b,v≠.bl b:=fun L ds ⟨a,_,_,_,_,e,_⟩=>⟨fun z=>(by rw [e] at z;cases z),fun b z=>(by rw [e] at z;cases z)⟩;rcases hc with ⟨rfl,rfl⟩|⟨b,rfl,rfl⟩
 ·cases x with
  |v d0 =>
   by_cases h0:d0=.non
   ·subst h0
    have r:v=.non:=by simpa only [au,ao] using r
    subst r;cases e;cases neg <;> simp
   ·have:=nn d0 h0 r
    cases d0 <;> first|exact absurd rfl h0|(cases e;cases neg <;> simp [this])
  |p n=>have:=(np n r).1;cases e;cases neg <;> simp [this]|s b' n=>have:=(ns b' n r).1;cases e;cases neg <;> simp [this]|x c=>have:=(nx c r).1;cases e;cases neg <;> simp [this]|f L ds=>have:=(nf L ds r).1;cases e;cases neg <;> simp [this]
 ·cases x with
  |v d0 =>
   by_cases h0:∃a,d0=.bl a
   ·obtain ⟨a,rfl⟩:=h0
    have r:v=.bl a:=by simpa only [au,ao] using r
    subst r;cases e;cases neg <;> cases a <;> cases b <;> simp
   ·have:=nb d0 b (fun a z=>h0 ⟨a,z⟩) r
    cases d0 <;> first|exact absurd ⟨_,rfl⟩ h0|(cases e;cases neg <;> simp [this])
  |p n=>have:=(np n r).2 b;cases e;cases neg <;> simp [this]|s b' n=>have:=(ns b' n r).2 b;cases e;cases neg <;> simp [this]|x c=>have:=(nx c r).2 b;cases e;cases neg <;> simp [this]|f L ds=>have:=(nf L ds r).2 b;cases e;cases neg <;> simp [this]
def LI {H:Hp}{Q:VK}{fa:FE}{neg:Bool}{c:D}{cv:V}(hc:(c=.non/\cv=.non)\/∃b,c=.bl b/\cv=.bl b)(h:az K (nJ (G8 neg c) fa) Y H Q):KH (IW neg cv) (az K fa) (tC cv) Y H Q:=by obtain ⟨O,U,m,d,U',hl,hs,e,k⟩:=h;obtain ⟨⟨x,U1⟩,e1,e⟩:=zaa.mp e;refine ⟨O,U,m,x,U1,hl,hs,e1,fun v H1 m1 x1 s1 r1=>⟨rfl,?_⟩⟩;obtain ⟨rfl,rfl⟩:=J0 hc r1 e;exact k _ H1 m1 x1 s1 (by simp only [au,ao])
noncomputable def RC:R->ac->Option String
 |.v .non,_=>some "NoneType"|.v (.bl _),_=>some "bool"|.v (.int _),_=>some "int"|.v (.str _),_=>some "str"|.v (.tup _),_=>some "tuple"|.v (.fl _),_=>some "list"|.v (.fd _ _),_=>some "dict"|.v (.key _),_=>some "tuple"|.p n,U=>match U[n]? with|some (.lst _)=>some "list" | some (.fz _)=>some "list" | some (.dct _)=>some "dict" | _=>none
 |.s _ _,_=>none|.x _,_=>none|.f _ _,_=>none
def jG (T:String):R->ac->Option (R×ac):=fun x U=>(RC x U).bind fun t=>some (.v (.bl (t == T || (t == "bool" && T == "int"))),U)
def pJ (K:zac)(T:String):Prop:=∀t∈["NoneType","bool","int","str","tuple","list","dict"],PySem.W.kitOne K (.type t) (.type T)=some (t == T || (t == "bool" && T == "int"))
def LU (K:zac)(T:String):List V->Hp->VK->Prop:=fun vs H Q=>∃m U x v d,vs=[v,.ty T]/\aO K m H U/\au K m H x v/\jG T x U=some (.v (.bl d),U)/\Q (.bl d) H
def Dd {X : Cx} {T : String} (hT : pJ X.K T) : ip X (.builtin "isinstance") (LU X.K T) := by
  intro pins s Y H vs us Q I rv q
  obtain ⟨m, U, x, v, d, rfl, S, rx, e, q⟩ := q
  obtain ⟨t, e1, e⟩ := zaa.mp e
  cases e
  cases rv with| cons r1 rr =>
    cases rr with| cons r2 rr =>
      cases rr
      cases r2
      have fin : ∀ tk, EP X pins Y Q (.bool (t == T || (t == "bool" && T == "int"))) { s with toks := tk } := fun tk => ⟨.bl _, H, I.tok tk, rfl, q⟩
      cases x with
      | v d0 =>
        cases d0 with
        | non => cases e1; have r : v = .non := by simpa only [au, ao] using rx
                 subst r; cases r1; exact zbq PySem.W.kitx_none I.kIn True.intro (hT _ (by simp)) (fun z => nomatch z) fin
        | bl b => cases e1; have r : v = .bl b := by simpa only [au, ao] using rx
                  subst r; cases r1; exact zbq PySem.W.kitx_bool I.kIn True.intro (hT _ (by simp)) (fun z => nomatch z) fin
        | int i => cases e1; have r : v = .int i := by simpa only [au, ao] using rx
                   subst r; obtain ⟨t, rfl⟩ := r1; exact zbq PySem.W.kitx_int I.kIn True.intro (hT _ (by simp)) (fun z => nomatch z) fin
        | str i => cases e1; have r : v = .str i := by simpa only [au, ao] using rx
                   subst r; obtain ⟨t, rfl⟩ := r1; exact zbq PySem.W.kitx_str I.kIn True.intro (hT _ (by simp)) (fun z => nomatch z) fin
        | tup xs =>
          cases e1
          simp only [au, ao] at rx
          obtain ⟨a, ws, rfl, q', _⟩ := rx
          cases r1
          obtain ⟨its, _, ⟨o, h1, h2, _⟩, _⟩ := I.tuple q'
          exact zbq PySem.W.kitx_tuple I.kIn ⟨o, h1, h2⟩ (hT _ (by simp)) (fun z => nomatch z) fin
        | fl xs =>
          cases e1
          simp only [au, ao] at rx
          obtain ⟨a, ws, rfl, q', _⟩ := rx
          cases r1
          obtain ⟨its, _, ⟨o, n, h1, h2, _⟩, _⟩ := I.list q'.sq
          exact zbq zdm I.kIn ⟨o, h1, h2⟩ (hT _ (by simp)) (fun z => nomatch z) fin
        | fd ks ds =>
          cases e1
          simp only [au, ao] at rx
          obtain ⟨a, o', es, rfl, q', _⟩ := rx
          cases r1
          obtain ⟨_, _, _, vs, _, p⟩ := (show bI X.prog X.w H s.heap a (.frz o' (.dK es)) from I.hok a _ q')
          obtain ⟨o, es', ep, h1, h2, _⟩ := p
          exact zbq PySem.W.kitx_dict I.kIn ⟨o, h1, h2.1⟩ (hT _ (by simp)) (fun z => nomatch z) fin
        | key ks =>
          cases e1
          simp only [au, ao] at rx
          obtain ⟨a, rfl, q'⟩ := rx
          cases r1
          obtain ⟨its, _, ⟨o, h1, h2, _⟩, _⟩ := I.tuple (.inl (.inl q'))
          exact zbq PySem.W.kitx_tuple I.kIn ⟨o, h1, h2⟩ (hT _ (by simp)) (fun z => nomatch z) fin
      | s _ _ => cases e1| x _ => cases e1| f _ _ => cases e1| p n =>
        obtain ⟨a, rfl, ha⟩ := rx
        cases r1
        simp only [RC] at e1
        split at e1
        · rename_i xs z
          cases e1
          obtain ⟨ws, q', _⟩ := S.cell n _ a z ha
          obtain ⟨its, _, ⟨o, n, h1, h2, _⟩, _⟩ := I.list (.inl (.inl q'))
          exact zbq zdm I.kIn ⟨o, h1, h2⟩ (hT _ (by simp)) (fun z => nomatch z) fin
        · rename_i xs z
          cases e1
          obtain ⟨o', ws, q', _⟩ := S.cell n _ a z ha
          obtain ⟨its, _, ⟨o, n, h1, h2, _⟩, _⟩ := I.list (.inl (.inr ⟨o', q'⟩))
          exact zbq zdm I.kIn ⟨o, h1, h2⟩ (hT _ (by simp)) (fun z => nomatch z) fin
        · rename_i kvs z
          cases e1
          obtain ⟨es, q', _⟩ := S.cell n _ a z ha
          obtain ⟨_, _, vs, _, p⟩ := (show bI X.prog X.w H s.heap a (.dK es) from I.hok a _ q')
          obtain ⟨o, es', ep, h1, h2, _⟩ := p
          exact zbq PySem.W.kitx_dict I.kIn ⟨o, h1, h2.1⟩ (hT _ (by simp)) (fun z => nomatch z) fin
        · cases e1
def ID {H:Hp}{Q:VK}{fa:FE}{T:String}(h:az K (nJ (jG T) fa) Y H Q):H9 (LU K T) (lF (az K fa) (lF (tC (.ty T)) sS)) Y H Q:=by obtain ⟨O,U,m,d,U',hl,hs,e,k⟩:=h;obtain ⟨⟨x,U1⟩,e1,e⟩:=zaa.mp e;have e0:=e;obtain ⟨t,e2,e⟩:=zaa.mp e;cases e;exact ⟨O,U,m,x,_,hl,hs,e1,fun v H1 m1 x1 s1 r1=>⟨m1,_,x,v,_,rfl,s1,r1,e0,k _ H1 m1 x1 s1 (by simp only [au,ao])⟩⟩
noncomputable def lf:List D->Option (List Bool)
 |[]=>some []|.bl b::r=>(lf r).bind fun bs=>some (b::bs)|_::_=>none
def Dl (any:Bool):List R->ac->Option (R×ac)
 |[x],U=>(f6 x U).bind fun xs=>(lf xs).bind fun bs=>some (.v (.bl (if any then bs.any id else bs.all id)),U)|_,_=>none
def LX (K:zac)(any:Bool):List V->Hp->VK->Prop:=fun vs H Q=>∃(a:Addr) (bs:List Bool),vs=[.ref a]/\jg K H a (bs.map V.bl)/\Q (.bl (if any then bs.any id else bs.all id)) H
theorem qH {K:zac}{H:Hp}:∀{ds:List D} {bs:List Bool} {vs:List V},lf ds=some bs->RelDs K H ds vs->vs=bs.map V.bl
 |[],_,_,e,h=>by cases e;simp only [RelDs] at h;exact h|.bl b::r,_,_,e,h=>by obtain ⟨bs,e1,e⟩:=zaa.mp e;cases e;simp only [RelDs] at h;obtain ⟨v,vr,rfl,h1,h2⟩:=h;simp only [ao] at h1;subst h1;rw [qH e1 h2];rfl
 |.non::_,_,_,e,_=>by cases e|.int _::_,_,_,e,_=>by cases e|.str _::_,_,_,e,_=>by cases e|.tup _::_,_,_,e,_=>by cases e|.fl _::_,_,_,e,_=>by cases e|.fd _ _::_,_,_,e,_=>by cases e|.key _::_,_,_,e,_=>by cases e
def MS {any:Bool}:zQ K (Dl any) (LX K any):=by
 intro m H U xs d U' vs Q s r e k;unfold Dl at e;split at e
 ·rename_i x;obtain ⟨ys,e1,e⟩:=zaa.mp e;obtain ⟨bs,e2,e⟩:=zaa.mp e;cases e;obtain ⟨v,rfl,r1⟩:=oB r;obtain ⟨a,ws,rfl,q,r2⟩:=gT s r1 e1;rw [qH e2 r2] at q;exact ⟨a,bs,rfl,q,k _ H m .refl s (by simp only [au,ao])⟩
 ·cases e
def Df {bs:List Bool}{its:Te}(r:aZ (bs.map V.bl) its):∀(i:Nat) v,its.toArray[i]?=some v->v=.bool (bs.getD i false)/\i < bs.length:=fun i v e=>by
 have e:its[i]?=some v:=by simpa using e
 have hi:i < its.length:=(zau.mp e).1;have hl:=r.length;rw [zah] at hl;have hb:i < bs.length:=by omega
 obtain ⟨u,q1,q2⟩:=aZ.get (i:=i) (x:=.bl bs[i]) r (by simp [hb]);rw [e] at q1;cases q1;cases q2;simp [hb]
def yU {bs:List Bool}:((List.range bs.length).all fun i=>bs.getD i false)=bs.all id:=by
 rw [zc2,List.all_eq_true,List.all_eq_true];constructor
 ·intro h x hx;obtain ⟨i,hi,rfl⟩:=za6 hx;have:=h i (zbl.mpr hi);simpa [hi] using this
 ·intro h i hi;have hi:=zbl.mp hi;have:=h bs[i] (zcO hi);simpa [hi] using this
theorem zJ {X:Cx}(hc:X.calm=true):ip X (.builtin "all") (LX X.K false):=by
 intro pins s Y H vs us Q I rv q;obtain ⟨a,bs,rfl,q',q⟩:=q
 cases rv with|cons r1 rr =>
  cases rr;cases r1;obtain ⟨its,rv,p,hz⟩:=I.list q';have hlt:a < s.heap.objs.size:=by obtain ⟨o,n,e,_⟩:=p;exact zam e
  refine call_all_walk (zco p.isList ?_);refine ⟨_,_,_,_,_,_,fun i=>bs.getD i false,rfl,Walks.list (A:=X.A.in1) (show X.A.in1.handled=none from I.ok.hd hc) s.heap.objs.size a (zat hlt) its.toArray,⟨⟨_,zaq _ rfl,rfl,rfl⟩,p.isList.push _⟩,fun i v s' Q' E' hv hq=>?_,fun h' tk hk=>?_⟩
  ·rw [(Df rv i v hv).1];exact zcn hq
  ·have hl:its.toArray.size=bs.length:=by have:=rv.length;rw [zah] at this;simp [this]
   rw [hl,yU];refine ⟨.bl _,H,I.kept (t':=tk) fun b o e=>hk b o ?_ (zae _ e),rfl,q⟩;intro z;rw [zaB.mp z] at e;exact absurd (zam e) (zaF _)
end HW
namespace HW
variable {K:zac}
open PyProof.Rows L2 HS
def zu (x:Int):List Int->Th
 |[]=>[x]|y::ys=>if x<=y then x::y::ys else y::zu x ys
def gX:List Int->Th
 |[]=>[]|x::xs=>zu x (gX xs)
theorem mB (x:Int):∀xs,(zu x xs).Perm (x::xs)
 |[]=>.refl _|y::ys=>by
  unfold zu;split
  ·exact .refl _
  ·exact ((mB x ys).cons y).trans (.swap _ _ _)
theorem cV:∀xs,(gX xs).Perm xs
 |[]=>.refl _|x::xs=>(mB x _).trans ((cV xs).cons x)
theorem m6 (x:Int):∀{xs:Th},xs.Pairwise (·<=·)->(zu x xs).Pairwise (·<=·)
 |[],_=>zce _ _|y::ys,h=>by
  unfold zu;obtain ⟨h1,h2⟩:=zaw.mp h;split
  ·rename_i hxy;refine zaw.mpr ⟨fun z hz=>?_,h⟩;rcases zal.mp hz with rfl|hz
   ·exact hxy
   ·exact Int.le_trans hxy (h1 z hz)
  ·rename_i hxy;refine zaw.mpr ⟨fun z hz=>?_,m6 x h2⟩;rcases zal.mp ((mB x ys).mem_iff.mp hz) with rfl|hz
   ·omega
   ·exact h1 z hz
theorem iW:∀xs,(gX xs).Pairwise (·<=·)
 |[]=>.nil|x::xs=>m6 x (iW xs)
theorem om:∀{xs ys:Th},xs.Pairwise (·<=·)->ys.Pairwise (·<=·)->xs.Perm ys->xs=ys
 |[],ys,_,_,p=>(List.Perm.nil_eq p)|x::xs,[],_,_,p=>absurd p.length_eq (by simp)|x::xs,y::ys,hx,hy,p=>by
  obtain ⟨hx1,hx2⟩:=zaw.mp hx;obtain ⟨hy1,hy2⟩:=zaw.mp hy;have e:x=y:=by
   have h1:x∈y::ys:=p.mem_iff.mp (by simp);have h2:y∈x::xs:=p.mem_iff.mpr (by simp);rcases zal.mp h1 with h|h
   ·exact h
   ·rcases zal.mp h2 with h'|h'
    ·exact h'.symm
    ·exact Int.le_antisymm (hx1 y h') (hy1 x h)
  subst e;rw [om hx2 hy2 ((List.perm_cons _).mp p)]
def Cl {xs ns:Th}(h:ns.Pairwise (·<=·))(p:ns.Perm xs):ns=gX xs:=om h (iW xs) (p.trans (cV xs).symm)
theorem gB:∀{ns:Th} {its:Te},aZ (ns.map V.int) its->IntsAre its ns
 |[],its,h=>by cases h;exact .nil|n::ns,its,h=>by
  cases h with|cons r t=>obtain ⟨tk,rfl⟩:=r;exact .cons n tk (gB t)
theorem qr:∀{ns:Th} {its:Te},IntsAre its ns->aZ (ns.map V.int) its
 |_,_,.nil=>.nil|_,_,.cons n t h=>.cons ⟨t,rfl⟩ (qr h)
abbrev kf (o:Obj):HO:=.frz o (.ext fun _=>True)
def aF.drw {H:Hp}{s:Shared}(I:aF X pins Y H s)(d:Drawn):aF X pins Y H {s with drawn:=d} :=
 ⟨I.ok,I.os,I.bare,I.base,I.loc,I.cell,I.free,I.freeC,I.pin,I.hok,I.len⟩
noncomputable def gd:List D->Option (Th)
 |[]=>some []|.int n::r=>(gd r).map (n :: ·)|_=>none
theorem oV:∀{ds:List D} {ns:Th},gd ds=some ns->ds=ns.map D.int
 |[],ns,e=>by cases e;rfl|d::r,ns,e=>by cases d <;> simp only [gd] at e <;> first|cases e|skip;obtain ⟨ms,e1,rfl⟩:=zaQ.mp e;rw [oV e1];rfl
theorem oU {K:zac}{H:Hp}:∀{ns:Th} {vs:List V},RelDs K H (ns.map D.int) vs->vs=ns.map V.int
 |[],vs,h=>h|n::ns,vs,h=>by
  obtain ⟨v,r,rfl,h1,h2⟩:=h;have h1:v=.int n:=by simpa only [ao] using h1
  rw [h1,oU h2];rfl
theorem oA {K:zac}{H:Hp}:∀{ns:Th},RelDs K H (ns.map D.int) (ns.map V.int)
 |[]=>rfl|n::ns=>⟨_,_,rfl,by simp only [ao],oA⟩
noncomputable def t9:List R->ac->Option (R×ac)
 |[.v (.int i),.v (.int j)],U=>some (.v (.int (if j < i then j else i)),U)|_,_=>none
def O1z {m:Tf}{H:Hp}{x y:R}{vs:List V}(r:bi K m H [x,y] vs):∃v w,vs=[v,w]/\au K m H x v/\au K m H y w:=by obtain ⟨v,r,rfl,h1,h2⟩:=r;obtain ⟨w,r,rfl,h2,h3⟩:=h2;have h3:r=[]:=h3;subst h3;exact ⟨v,w,rfl,h1,h2⟩
def MJ :zQ K t9 (fun xs H Q=>∃i j,xs=[.int i,.int j]/\Q (.int (if j < i then j else i)) H):=by
 intro m H U xs d U' vs Q s r e k;unfold t9 at e;split at e
 ·cases e;obtain ⟨v,w,rfl,r1,r2⟩:=O1z r;simp only [au,ao] at r1 r2;subst r1;subst r2;exact ⟨_,_,rfl,k _ H m .refl s (by simp only [au,ao])⟩
 ·cases e
def NN (neg:Bool):R->R->ac->Option (R×ac)
 |.v (.int i),y,U=>(fj y U).bind fun ds=>(gd ds).bind fun ns=>some (.v (.bl (if neg then !ns.contains i else ns.contains i)),U)|_,_,_=>none
theorem um {i:Int}:∀{ns:Th},NM (.int i) (ns.map V.int)=ns.contains i
 |[]=>rfl|n::ns=>by have ih:=um (i:=i) (ns:=ns);unfold NM at ih ⊢;rw [zaf,zbA,ih,List.contains_cons];simp only [Fu];rw [show (n == i)=(i == n) from zc2.mpr ⟨fun h=>beq_iff_eq.mpr (beq_iff_eq.mp h).symm,fun h=>beq_iff_eq.mpr (beq_iff_eq.mp h).symm⟩]
theorem qy:∀{ns:Th},(ns.map V.int).all lZ=true
 |[]=>rfl|n::ns=>by rw [zaf,List.all_cons,qy];rfl
def MP {neg:Bool}:sy K (NN neg) (ND K neg):=by
 intro m H U x y d U' v u Q s rx ry e k;unfold NN at e;split at e
 ·obtain ⟨ds,e0,e⟩:=zaa.mp e;obtain ⟨ns,e1,e⟩:=zaa.mp e;cases e;simp only [au,ao] at rx;subst rx;obtain ⟨a,ws,rfl,q,rr⟩:=jE s ry e0;rw [oV e1] at rr;rw [oU rr] at q;refine ⟨a,ns.map V.int,rfl,q,rfl,qy,k _ H m .refl s ?_⟩;simp only [au,ao,um]
 ·cases e
def eS (K:zac)(H:Hp):List V->List (aH×V)->Prop:=Paired fun v kv=>∃t,v=.ref t/\hX K H t [kV kv.1,kv.2]
def mv (kvs ps:List (aH×V)):List (aH×V):=ps.foldl (fun a p=>eB a p.1 p.2) kvs
theorem tO:∀(ps kvs:List (aH×V)),(mv kvs ps).length<=kvs.length+ps.length
 |[],kvs=>by simp [mv]|p::ps,kvs=>by have h1:=tO ps (eB kvs p.1 p.2);have h2:=ie kvs p.1 p.2;simp only [mv,zbj,zaD] at h1 ⊢;omega
theorem tM:∀{ps:List (aH×V)} {qs:List (aH×Value)} {kvs:List (aH×V)} {vs:List (aH×Value)},KV kvs vs->KV ps qs->KV (mv kvs ps) (HS.putAll vs qs)
 |_,_,_,_,r,.nil=>r|p::ps,q::qs,_,_,r,.cons e t=>by obtain ⟨e1,e2⟩:=e;simp only [mv,HS.putAll,zbj];rw [←e1];exact tM (ps:=ps) (qs:=qs) (KV.put r p.1 e2) t
def BR {X : Cx} {H : Hp} {s : Shared} (I : aF X pins Y H s) : ∀ {ws : List V} {kvs : List (aH × V)} {its : Te}, eS X.K H ws kvs -> aZ ws its ->
    ∃ ps : List (aH × Value), KV kvs ps /\ ps.length = its.length /\ ∀ (i : Nat) v, its[i]? = some v -> ∃ k x key, ps[i]? = some (k, x) /\ (aY X.prog X.w).is k key = true /\ lq s.heap v key x := by
  intro ws kvs its p v
  induction p generalizing its with| nil => cases v; exact ⟨[], .nil, rfl, fun i v e => by simp at e⟩| @cons _ kv _ _ hp tp ih =>
   obtain ⟨k, y⟩ := kv
   cases v with| cons hv tv =>
    obtain ⟨ps, a1, a2, a3⟩ := ih tv
    obtain ⟨t, rfl, hs⟩ := hp
    cases hv
    obtain ⟨js, r, ⟨o, ho, hc, n, hd⟩, _⟩ := I.tuple hs
    cases r with| cons r1 rr =>
      cases rr with| cons r2 rr =>
        cases rr
        rename_i key x
        refine ⟨(k, x) :: ps, .cons ⟨rfl, r2⟩ a1, by simp [a2], fun i v e => ?_⟩
        cases i with| zero => simp at e; subst e; exact ⟨k, x, key, rfl, m5 r1, ⟨t, o, n, rfl, ho, hc, hd⟩⟩| succ i => simpa using a3 i v (by simpa using e)
def Bo (K:zac):List V->Hp->VK->Prop:=fun vs H Q=>∃p ws kvs,vs=[.ref p]/\H p=some (.lst ws)/\eS K H ws kvs/\∀l,H l=none->Q (.ref l) (upd H l (.dK (mv [] kvs)))
def qG {X:Cx}(hc:X.calm=true):ip X (.type "dict") (Bo X.K):=by
 intro pins s Y H vs us Q I r h;obtain ⟨p,ws,kvs,rfl,hH,hp,q⟩:=h;obtain ⟨u,rfl,rx⟩:=mU r;cases rx;obtain ⟨z,its,n,rv,hl,e⟩:=I.lstM hH;obtain ⟨ps,a1,a2,a3⟩:=BR I hp rv;have hk:kvs.length=its.length:=by have:=Paired.length a1;omega
 refine C5 (knd:=aY X.prog X.w) (ps:=ps) (I.ok.hd hc) e (by simpa using a2) (by simp;omega) (fun i v hv=>a3 i v (by simpa using hv)) fun h' tk hD kp=>?_;have hz:(mv [] kvs).length<=sizeLine:=by have:=tO kvs [];simp at this;omega
 exact ⟨.ref s.heap.objs.size,_,I.laid (t':=tk) kp (zao _) (show bI X.prog X.w _ h' _ (.dK _) from ⟨hz,beq_eq_false_iff_ne.mpr (zbF I.big),_,tM .nil a1,hD⟩),rfl,q _ (I.hok.fresh (zao _))⟩
noncomputable def gN:List D->Option (List (aH×D))
 |[]=>some []|.tup [.int i,d]::r=>(gN r).map ((.inl i,d) :: ·)|_=>none
def lL (kvs:List (aH×D))(k:aH)(v:D):List (aH×D):=if (kvs.any fun kv=>decide (kv.1=k))=true then kvs.map (fun kv=>if kv.1=k then (kv.1,v) else kv) else kvs++[(k,v)]
def nQ (kvs ps:List (aH×D)):List (aH×D):=ps.foldl (fun a p=>lL a p.1 p.2) kvs
def KD (K:zac)(H:Hp)(kvs:List (aH×D))(es:List (aH×V)):Prop:=es.map (·.1)=kvs.map (·.1)/\RelDs K H (kvs.map (·.2)) (es.map (·.2))
def KD.nil {H:Hp}:KD K H [] []:=⟨rfl,rfl⟩
def KD.any {H:Hp}{kvs:List (aH×D)}{es:List (aH×V)}(r:KD K H kvs es)(k:aH):(es.any fun kv=>decide (kv.1=k))=(kvs.any fun kv=>decide (kv.1=k)):=by
 have h1:∀{β:Type} (l:List (aH×β)),(l.any fun kv=>decide (kv.1=k))=((l.map (·.1)).any fun x=>decide (x=k)):=fun l=>by rw [zc3];rfl
 rw [h1,h1,r.1]
def KD.cons {K:zac}{H:Hp}{k k':aH}{d:D}{v:V}{kvs:List (aH×D)}{es:List (aH×V)}:KD K H ((k,d)::kvs) ((k',v)::es) ↔ k'=k/\ao K H d v/\KD K H kvs es:=by
 constructor
 ·rintro ⟨h1,h2⟩;simp only [zaf,List.cons.injEq] at h1;obtain ⟨w,r,e,h3,h4⟩:=h2;simp only [zaf,List.cons.injEq] at e;obtain ⟨rfl,rfl⟩:=e;exact ⟨h1.1,h3,h1.2,h4⟩
 ·rintro ⟨rfl,h1,h2,h3⟩;exact ⟨by simp [h2],⟨_,_,rfl,h1,h3⟩⟩
theorem KD.repl {K:zac}{H:Hp}{k:aH}{d:D}{v:V}(rd:ao K H d v):∀{kvs:List (aH×D)} {es:List (aH×V)},KD K H kvs es->KD K H (kvs.map fun kv=>if kv.1=k then (kv.1,d) else kv) (es.map fun kv=>if kv.1=k then (kv.1,v) else kv)
 |[],[],_=>.nil|[],e::es,h=>by have:=h.1;simp at this|q::kvs,[],h=>by have:=h.1;simp at this|(a,x)::kvs,(b,y)::es,h=>by
  obtain ⟨rfl,h1,h2⟩:=KD.cons.mp h;have ih:=KD.repl (k:=k) rd h2;rw [zaf,zaf];by_cases e:b=k
  ·rw [if_pos e,if_pos e];exact KD.cons.mpr ⟨rfl,rd,ih⟩
  ·rw [if_neg e,if_neg e];exact KD.cons.mpr ⟨rfl,h1,ih⟩
theorem KD.snoc {K:zac}{H:Hp}{k:aH}{d:D}{v:V}(rd:ao K H d v):∀{kvs:List (aH×D)} {es:List (aH×V)},KD K H kvs es->KD K H (kvs++[(k,d)]) (es++[(k,v)])
 |[],[],_=>KD.cons.mpr ⟨rfl,rd,.nil⟩|[],e::es,h=>by have:=h.1;simp at this|q::kvs,[],h=>by have:=h.1;simp at this|(a,x)::kvs,(b,y)::es,h=>by obtain ⟨rfl,h1,h2⟩:=KD.cons.mp h;exact KD.cons.mpr ⟨rfl,h1,KD.snoc rd h2⟩
def KD.put {H:Hp}{k:aH}{d:D}{v:V}{kvs:List (aH×D)}{es:List (aH×V)}(r:KD K H kvs es)(rd:ao K H d v):KD K H (lL kvs k d) (eB es k v):=by
 unfold lL eB;rw [r.any k];split
 ·exact r.repl rd
 ·exact r.snoc rd
theorem KD.putAll {K:zac}{H:Hp}:∀{ps:List (aH×D)} {qs:List (aH×V)} {kvs:List (aH×D)} {es:List (aH×V)},KD K H kvs es->KD K H ps qs->KD K H (nQ kvs ps) (mv es qs)
 |[],[],_,_,r,_=>r|[],e::es,_,_,_,h=>by have:=h.1;simp at this|q::kvs,[],_,_,_,h=>by have:=h.1;simp at this|(a,x)::ps,(b,y)::qs,_,_,r,h=>by obtain ⟨rfl,h1,h2⟩:=KD.cons.mp h;exact KD.putAll (ps:=ps) (qs:=qs) (r.put h1) h2
theorem ql {K:zac}{H:Hp}:∀{ds:List D} {ws:List V} {kvs:List (aH×D)},gN ds=some kvs->RelDs K H ds ws->∃qs,eS K H ws qs/\KD K H kvs qs
 |[],ws,kvs,e,r=>by cases e;have r:ws=[]:=r;subst r;exact ⟨[],.nil,.nil⟩|d::ds,ws,kvs,e,r=>by
  obtain ⟨v,ws',rfl,r1,r2⟩:=r;unfold gN at e;split at e
  ·cases e;rename_i h;cases h
  ·rename_i i x r' h
   cases h;obtain ⟨ks,e1,rfl⟩:=zaQ.mp e;obtain ⟨qs,p1,p2⟩:=ql e1 r2;simp only [ao] at r1;obtain ⟨a,vs,rfl,hq,hr⟩:=r1;obtain ⟨v1,t1,rfl,h1,hr⟩:=hr;obtain ⟨v2,t2,rfl,h2,hr⟩:=hr;have hr:t2=[]:=hr;subst hr;have h1:v1=.int i:=(by simpa only [ao] using h1);subst h1;exact ⟨(.inl i,v2)::qs,.cons ⟨a,rfl,hq⟩ p1,KD.cons.mpr ⟨rfl,h2,p2⟩⟩
  ·cases e
def nc:List R->ac->Option (R×ac)
 |[.p n],U=>match U[n]? with
  |some (.lst ds)=>(gN ds).bind fun kvs=>some (.p U.length,U++[.dct (nQ [] kvs)])|_=>none
 |_,_=>none
def J7 {K:zac}:zQ K nc (Bo K):=by
 intro m H U xs d U' vs Q s r e k;unfold nc at e;split at e
 ·rename_i n;split at e
  ·rename_i ds hn;obtain ⟨kvs,e1,e⟩:=zaa.mp e;cases e;obtain ⟨v,rfl,r1⟩:=oB r;obtain ⟨a,rfl,ha⟩:=r1;obtain ⟨ws,ea,ra⟩:=s.cell _ _ a hn ha;obtain ⟨qs,p1,p2⟩:=ql e1 ra;refine ⟨a,ws,qs,rfl,ea,p1,fun l hl=>?_⟩;have x:c6 m H (m++[l]) (upd H l (.dK (mv [] qs))):=.newH hl;have hk:=KD.putAll (K:=K) (H:=H) .nil p2;refine k _ _ (m++[l]) x (s.newH hl ⟨_,dj,hk.1,RelDs.tf x.tf _ _ hk.2⟩) ⟨l,rfl,?_⟩;rw [←s.len];simp
  ·cases e
 ·cases e
def rj (neg:Bool):R2:=fun x y H Q=>∃p kvs k,y=.ref p/\x=kV k/\Rd H p (.dK kvs)/\Q (.bl (if neg then !(b9 kvs k).isSome else (b9 kvs k).isSome)) H
def rH {X:Cx}(hu:X.A.units+64 < cLine):lu X (compareOp .NotIn) (rj true):=by intro pins s Y H x y v u Q I rx ry h;obtain ⟨p,kvs,k,rfl,rfl,hR,q⟩:=h;cases ry;exact FB (by omega) I (.inl ⟨kvs,k,hR,rfl,rfl⟩) rx fun s' I'=>⟨.bl _,H,I',rfl,q⟩
theorem jY (k:aH):∀(es:List (aH×V)),(b9 es k).isSome=es.any fun kv=>decide (kv.1=k)
 |[]=>rfl|(a,v)::es=>by
  have ih:=jY k es;unfold b9 at ih ⊢;by_cases e:a=k
  ·simp [e]
  ·simpa [e] using ih
def Ph (neg:Bool):R->R->ac->Option (R×ac)
 |.v (.int i),.p n,U=>match U[n]? with
  |some (.dct kvs)=>some (.v (.bl (if neg then !(kvs.any fun kv=>decide (kv.1=.inl i)) else kvs.any fun kv=>decide (kv.1=.inl i))),U)|some (.fzd kvs)=>some (.v (.bl (if neg then !(kvs.any fun kv=>decide (kv.1=.inl i)) else kvs.any fun kv=>decide (kv.1=.inl i))),U)|_=>NN neg (.v (.int i)) (.p n) U
 |x,y,U=>NN neg x y U
def MN {K:zac}{neg:Bool}:sy K (Ph neg) (fun x y H Q=>ND K neg x y H Q\/rj neg x y H Q):=by
 intro m H U x y d U' v u Q s rx ry e k;unfold Ph at e;split at e
 ·rename_i i n;split at e
  ·rename_i kvs hn
   cases e;simp only [au,ao] at rx;subst rx;obtain ⟨a,rfl,ha⟩:=ry;obtain ⟨es,ea,e1,e2⟩:=s.cell _ _ a hn ha;refine .inr ⟨a,es,.inl i,rfl,rfl,.inl ea,k _ H m .refl s ?_⟩;have hv:=(jY (.inl i) es).trans (KD.any (K:=K) (H:=H) ⟨e1,e2⟩ (.inl i));rw [hv];simp only [au,ao]
  ·rename_i kvs hn
   cases e;simp only [au,ao] at rx;subst rx;obtain ⟨a,rfl,ha⟩:=ry;obtain ⟨o,es,ea,e1,e2⟩:=s.cell _ _ a hn ha;refine .inr ⟨a,es,.inl i,rfl,rfl,.inr ⟨o,ea⟩,k _ H m .refl s ?_⟩;have hv:=(jY (.inl i) es).trans (KD.any (K:=K) (H:=H) ⟨e1,e2⟩ (.inl i));rw [hv];simp only [au,ao]
  ·exact .inl (MP m H U _ _ d U' v u Q s rx ry e k)
 ·exact .inl (MP m H U _ _ d U' v u Q s rx ry e k)
end HW
namespace HW
open PyProof.Rows L2
mutual
noncomputable def dR:D->Bool
 |.tup xs=>flatDs xs|.fl _=>false|.fd _ _=>false|_=>true
noncomputable def flatDs:List D->Bool
 |[]=>true|x::xs=>dR x && flatDs xs
end
def Oz:R->ac->Option D
 |.v d,_=>some d|.p n,U=>match U[n]? with
  |some (.lst xs)=>some (.fl xs)|some (.fz xs)=>some (.fl xs)|some (.dct kvs)=>some (.fd (kvs.map (·.1)) (kvs.map (·.2)))|some (.fzd kvs)=>some (.fd (kvs.map (·.1)) (kvs.map (·.2)))|_=>none
 |.s _ _,_=>none|.x _,_=>none|.f _ _,_=>none
noncomputable def iB:List R->ac->Option (List D)
 |[],_=>some []|x::xs,U=>(Oz x U).bind fun d=>(iB xs U).bind fun ds=>some (d::ds)
def jO (f:MF)(n:Nat)(fa:FA):FE:=fun O U=>(fa O U).bind fun a=>(iB a.1 a.2).bind fun ds=>if ds.length=n then (f ds).bind fun d=>if dR d=true then some (.v d,a.2) else none else none
abbrev MC:=List D->Option ap
def qz:ap->Bool
 |.lst xs=>flatDs xs|.dct kvs=>flatDs (kvs.map (·.2))|_=>false
noncomputable def CA:ni->Option ap
 |.rt (.p n) U=>match U[n]? with|some (.lst xs)=>some (.lst xs)|some (.dct kvs)=>some (.dct kvs)|_=>none
 |_=>none
def tw (k:Nat)(b:FS):MC:=fun ds=>(b (ds.map (fun d=>some (.v d))++List.replicate (k - ds.length) none) []).bind CA
def cj (f:MC)(n:Nat)(fa:FA):FE:=fun O U=>(fa O U).bind fun a=>(iB a.1 a.2).bind fun ds=>if ds.length=n then (f ds).bind fun c=>if qz c=true then some (.p a.2.length,a.2++[c]) else none else none
section
variable {P:Program}{w:World}{H H0:Hp}{h h0:Heap}{a:Addr}{u:HO}{o:Obj}{fs ex:Tf}
def iJ.thaw (ok:iJ P w H h)(e:H a=some (.frz o u))(hu:f9 u):iJ P w (upd H a u) h:=by
 have ne:∀c v,H c=some v->v≠.frz o u->c≠a:=fun c v q n z=>by rw [z,e] at q;exact n (Option.some.inj q).symm
 have own:∀c y,H c=some (.own y)->upd H a u c=some (.own y):=fun c y r=>by rw [L2.aD (ne c _ r (by simp))];exact r
 have tup:∀c xs,H c=some (.tup xs)->upd H a u c=some (.tup xs):=fun c xs r=>by rw [L2.aD (ne c _ r (by simp))];exact r
 intro b v q;by_cases hb:b=a
 ·subst hb;rw [L2.dj] at q;cases q;exact (ok b _ e).2.stay (fun c v _ q=>q) (fun c r=>own c _ r) tup
 ·rw [L2.aD hb] at q;exact (ok b v q).stay (fun c v _ q=>q) (fun c r=>own c _ r) tup
def Un.thaw (un:Un fs ex (upd H0 a (.frz o u)) H h0 h)(e:H0 a=some u)(hu:f9 u):Un fs ex H0 (upd H a u) h0 h:=by
 have nn:∀b,H0 b=none->b≠a:=fun b z y=>by rw [y,e] at z;cases z
 have nf:∀b v,H0 b=some v->¬ f9 v->b≠a:=fun b v q n=>f9.ne e hu q n;refine ⟨fun b ob q n hb hx=>un.keep b ob q (by rw [L2.aD (nn b n)];exact n) hb hx,fun b ob q n hb hx=>un.slot b ob q (by rw [L2.aD (nn b n)];exact n) hb hx,fun b ob q n hx=>?_,un.there,fun b xs q=>?_,fun b ob v q=>?_,fun b ps q=>?_⟩
 ·rw [L2.aD (nn b n)];exact un.free b ob q (by rw [L2.aD (nn b n)];exact n) hx
 ·have hb:=nf b _ q fun z=>z;rw [L2.aD hb];exact un.tups b xs (by rw [L2.aD hb];exact q)
 ·have hb:=nf b _ q fun z=>z;rw [L2.aD hb];exact un.frzs b ob v (by rw [L2.aD hb];exact q)
 ·have hb:=nf b _ q fun z=>z;obtain ⟨more,r⟩:=un.tbls b ps (by rw [L2.aD hb];exact q);exact ⟨more,by rw [L2.aD hb];exact r⟩
end
def bor (sp:Sp):Sp:=fun vs H Q E=>sp vs H Q E\/∃a u,H a=some u/\f9 u/\∀o,sp vs (upd H a (.frz o u)) (fun v H2=>Q v (upd H2 a u)) E
def borN:Nat->Sp->Sp
 |0,sp=>sp|n+1,sp=>bor (borN n sp)
def dE.bor {K:zac}{mg:Td}{base:Heap}{k:Nat}{f:Addr}{ps:Tl}{sp:Sp}(F:dE P w K mg base nr k f fd ps sp) :
  dE P w K mg base nr k f fd ps (HW.bor sp):=by
 refine ⟨fun vs H Q E h=>?_,fun A outer s H args us vs Q E hr he hb hv hs=>?_⟩
 ·rcases h with h|⟨a,u,e,hu,h⟩
  ·exact F.len vs H Q E h
  ·exact F.len _ _ _ _ (h {cls:=.none,data:=.fields #[]})
 ·rcases hs with hs|⟨a,u,e,hu,hs⟩
  ·exact F.run A outer s H args us vs Q E hr he hb hv hs
  ·obtain ⟨o,ok⟩:=iJ.frz he.hok e hu
   have nn:∀b,H b=none->upd H a (.frz o u) b=none:=fun b z=>by rw [L2.aD (fun y=>by rw [y,e] at z;cases z)];exact z
   refine zb0 (F.run A outer s (upd H a (.frz o u)) args us vs _ E hr ⟨he.frames,he.mod,fun b ob q=>⟨(he.bs b ob q).1,nn b (he.bs b ob q).2⟩,he.bsz,he.funs,fun b hb=>nn b (he.frf b hb),ok,he.bare⟩ hb hv (hs o)) fun r s' hq=>?_
   cases r with|error e=>exact hq|ok fl =>
    cases fl with|next=>exact hq|brk=>exact hq|cont=>exact hq|ret x =>
     obtain ⟨v,H',os,bare,un,hok,rv,q⟩:=hq;exact ⟨v,_,os,bare,Un.thaw un e hu,iJ.thaw hok (un.frzs a o u L2.dj) hu,rv,q⟩
theorem dE.borN {K:zac}{mg:Td}{base:Heap}{k:Nat}{f:Addr}{ps:Tl}{sp:Sp}(F:dE P w K mg base nr k f fd ps sp) :
  ∀n,dE P w K mg base nr k f fd ps (HW.borN n sp)
 |0=>F|n+1=>dE.bor (dE.borN F n)
def pK (H H2:Hp):Hp:=fun b=>match H b with|some u=>some u|none=>H2 b
def Cz (H H1:Hp):Prop:=∀b,H1 b=H b\/∃u o,H b=some u/\f9 u/\H1 b=some (.frz o u)
section
variable {K:zac}{H H1 H2:Hp}
theorem Cz.refl:Cz H H:=fun _=>.inl rfl
def Cz.upd {a:Addr}{u:HO}{o:Obj}(c:Cz H H1)(e:H1 a=some u)(hu:f9 u):Cz H (upd H1 a (.frz o u)):=fun b=>by
 by_cases hb:b=a
 ·subst hb;rw [L2.dj];rcases c b with z|⟨u',o',_,_,z⟩
  ·exact .inr ⟨u,o,by rw [←z,e],hu,rfl⟩
  ·rw [e] at z;cases z;exact hu.elim
 ·rw [L2.aD hb];exact c b
def Cz.trans (c:Cz H H1)(c':Cz H1 H2):Cz H H2:=fun b=>by
 rcases c' b with z|⟨u,o,z1,z2,z3⟩
 ·rw [z];exact c b
 ·rcases c b with y|⟨u',o',_,_,y⟩
  ·exact .inr ⟨u,o,by rw [←y,z1],z2,z3⟩
  ·rw [z1] at y;cases y;exact z2.elim
def Cz.tf (c:Cz H H1):TF H H1:=by
 refine ⟨fun a xs e=>?_,fun a o u e=>?_⟩
 ·rcases c a with z|⟨u,o,z1,z2,z3⟩
  ·rw [z,e]
  ·rw [e] at z1;cases z1;exact z2.elim
 ·rcases c a with z|⟨u',o',z1,z2,z3⟩
  ·rw [z,e]
  ·rw [e] at z1;cases z1;exact z2.elim
theorem ET (s:ve H H2):pK H H2=H2:=by
 funext b;unfold pK
 cases e:H b with|none=>rfl|some u=>exact (s b u e).symm
def nL:ve H (pK H H2):=fun a o e=>by unfold pK;rw [e]
def ER {a:Addr}{u v:HO}(e:H a=some u):upd (pK (upd H a v) H2) a u=pK H H2:=by
 funext b;by_cases hb:b=a
 ·subst hb;rw [L2.dj];unfold pK;rw [e]
 ·rw [L2.aD hb];unfold pK;rw [L2.aD hb]
def Iz {a:Addr}{xs:List V}(c:Cz H H1)(s:ve H1 H2)(h:hX K H2 a xs):hX K (pK H H2) a xs:=by
 have back:∀v,¬ f9 v->(∀o u,v=.frz o u->¬ f9 u)->H2 a=some v->pK H H2 a=some v:=fun v nf nz e=>by
  unfold pK
  cases q:H a with|none=>exact e|some u =>
   rcases c a with z|⟨u',o',z1,z2,z3⟩
   ·rw [q] at z;rw [s a u z] at e;exact e
   ·rw [s a _ z3] at e
    cases e;exact absurd z2 (nz o' u' rfl)
 rcases h with (h|⟨o,h⟩)|h
 ·exact .inl (.inl (back _ (fun z=>z) (fun _ _ z=>by cases z) h))
 ·exact .inl (.inr ⟨o,back _ (fun z=>z) (fun o u z=>by cases z;exact fun z=>z) h⟩)
 ·exact .inr h
theorem DL {a:Addr}{xs:List V}(c:Cz H H1)(s:ve H1 H2)(e:H2 a=some (.tup xs)):pK H H2 a=some (.tup xs):=by
 unfold pK
 cases q:H a with|none=>exact e|some u =>
  rcases c a with z|⟨u',o',z1,z2,z3⟩
  ·rw [q] at z;rw [s a u z] at e;exact e
  ·rw [s a _ z3] at e
   cases e
mutual
theorem uA (c:Cz H H1)(s:ve H1 H2):∀(d:D) (v:V),dR d=true->ao K H2 d v->ao K (pK H H2) d v
 |.non,_,_,h=>by simpa only [ao] using h|.bl _,_,_,h=>by simpa only [ao] using h|.int _,_,_,h=>by simpa only [ao] using h|.str _,_,_,h=>by simpa only [ao] using h|.tup xs,v,f,h=>by simp only [ao] at h ⊢;obtain ⟨a,vs,e,q,r⟩:=h;exact ⟨a,vs,e,Iz c s q,flats_ovr c s xs vs (by simpa only [dR] using f) r⟩
 |.fl _,_,f,_=>by simp [dR] at f|.fd _ _,_,f,_=>by simp [dR] at f|.key _,_,_,h=>by simp only [ao] at h ⊢;obtain ⟨a,e,q⟩:=h;exact ⟨a,e,DL c s q⟩
theorem flats_ovr (c:Cz H H1)(s:ve H1 H2):∀(ds:List D) (vs:List V),flatDs ds=true->RelDs K H2 ds vs->RelDs K (pK H H2) ds vs
 |[],_,_,h=>by simpa only [RelDs] using h|d::ds,vs,f,h=>by
  simp only [RelDs] at h ⊢;obtain ⟨v,r,e,h1,h2⟩:=h;have f':dR d=true/\flatDs ds=true:=by simpa [flatDs] using f
  exact ⟨v,r,e,uA c s d v f'.1 h1,flats_ovr c s ds r f'.2 h2⟩
end
end
def AO (K:zac)(n:Nat)(f:List D->Option (Hp->V->Hp->Prop)):Sp:=fun vs H Q _=>∃ds P,ds.length=n/\RelDs K H ds vs/\f ds=some P/\∀v H',ve H H'->P H v H'->Q v H'
section
variable {K:zac}{m:Tf}{Y:L2.St}{H H0:Hp}{U:ac}{Q:VK}
theorem JJ {n:Nat}{f:List D->Option (Hp->V->Hp->Prop)}{P:Hp->V->Hp->Prop}{E:XK}(hs:aO K m H0 U):∀(rs:List R) (vs vsP:List V) (ds dsP:List D) (H1:Hp) (Q:VK),Cz H0 H1->RelDs K H1 dsP vsP->bi K m H0 rs vs->iB rs U=some ds ->
  f (dsP++ds)=some P->(dsP++ds).length=n->(∀v H2 H1',Cz H1 H1'->ve H1' H2->P H1' v H2->Q v (pK H1 H2))->borN rs.length (AO K n f) (vsP++vs) H1 Q E
 |[],vs,vsP,ds,dsP,H1,Q,c,rp,rr,ev,ef,el,k=>by
  cases ev;have rr:vs=[]:=rr;subst rr;rw [zbi] at ef el ⊢;exact ⟨dsP,P,el,rp,ef,fun v H' s p=>by have:=k v H' H1 .refl s p;rwa [ET s] at this⟩
 |r::rs,vs,vsP,ds,dsP,H1,Q,c,rp,rr,ev,ef,el,k=>by
  obtain ⟨v,ws,rfl,r1,r2⟩:=rr;obtain ⟨d,e1,ev⟩:=zaa.mp ev;obtain ⟨es,e2,ev⟩:=zaa.mp ev;cases ev
  have app:∀{Z:Type} (a:List Z) (x:Z) (b:List Z),a++x::b=a++[x]++b:=fun a x b=>by simp
  rw [app] at ef el ⊢
  have go:∀(H1':Hp) (Q':VK),Cz H1 H1'->ao K H1' d v->(∀v H2 H1'',Cz H1' H1''->ve H1'' H2->P H1'' v H2->Q' v (pK H1' H2))->borN rs.length (AO K n f) (vsP++[v]++ws) H1' Q' E:=fun H1' Q' c' rd k' =>
   JJ hs rs ws (vsP++[v]) es (dsP++[d]) H1' Q' (c.trans c') (RelDs.append (RelDs.tf c'.tf _ _ rp) (by simp only [RelDs];exact ⟨_,_,rfl,rd,rfl⟩)) r2 e2 ef el k'
  cases r with
  |v d' =>
   cases e1;exact .inl (go H1 Q .refl (ao.tf c.tf _ _ r1) k)
  |s _ _=>cases e1|x _=>cases e1|f _ _=>cases e1|p i =>
   obtain ⟨a,rfl,ha⟩:=r1;have e1:(match U[i]? with|some (.lst xs)=>some (D.fl xs)|some (.fz xs)=>some (D.fl xs)|some (.dct kvs)=>some (D.fd (kvs.map (·.1)) (kvs.map (·.2)))|some (.fzd kvs)=>some (D.fd (kvs.map (·.1)) (kvs.map (·.2)))|_=>none)=some d:=e1
   have lent:∀u,f9 u->H0 a=some u->(∀H3 o,H3 a=some (.frz o u)->TF H0 H3->ao K H3 d (.ref a))->borN (rs.length+1) (AO K n f) (vsP++[V.ref a]++ws) H1 Q E:=fun u hu e0 rd=>by
    rcases c a with z|⟨u',o',z1,z2,z3⟩
    ·rw [e0] at z
     refine .inr ⟨a,u,z,hu,fun o=>?_⟩;have c1:Cz H1 (upd H1 a (.frz o u)):=Cz.refl.upd z hu
     exact go _ _ c1 (rd _ o L2.dj (c.tf.trans c1.tf)) fun v H2 H1'' c2 s2 p=>by
      rw [ER z];exact k v H2 H1'' (c1.trans c2) s2 p
    ·rw [e0] at z1;cases z1
     exact .inl (go H1 Q .refl (rd _ o' z3 c.tf) k)
   have known:∀o u,H0 a=some (.frz o u)->ao K H1 d (.ref a)->borN (rs.length+1) (AO K n f) (vsP++[V.ref a]++ws) H1 Q E:=fun o u e0 rd=>.inl (go H1 Q .refl rd k);split at e1
   ·rename_i xs q
    cases e1;obtain ⟨ws',ea,ra⟩:=hs.cell _ _ a q ha
    exact lent (.lst ws') trivial ea fun H3 o e3 t=>by simp only [ao];exact ⟨a,ws',rfl,.inl ⟨o,e3⟩,RelDs.tf t _ _ ra⟩
   ·rename_i xs q
    cases e1;obtain ⟨o,ws',ea,ra⟩:=hs.cell _ _ a q ha;exact known o _ ea (by simp only [ao];exact ⟨a,ws',rfl,.inl ⟨o,c.tf.frz _ _ _ ea⟩,RelDs.tf c.tf _ _ ra⟩)
   ·rename_i kvs q
    cases e1;obtain ⟨es',ea,e1,e2⟩:=hs.cell _ _ a q ha
    exact lent (.dK es') trivial ea fun H3 o e3 t=>by simp only [ao];exact ⟨a,o,es',rfl,e3,e1,RelDs.tf t _ _ e2⟩
   ·rename_i kvs q
    cases e1;obtain ⟨o,es',ea,e1,e2⟩:=hs.cell _ _ a q ha;exact known o _ ea (by simp only [ao];exact ⟨a,o,es',rfl,c.tf.frz _ _ _ ea,e1,RelDs.tf c.tf _ _ e2⟩)
   ·cases e1
def pX (K:zac)(f:MF):List D->Option (Hp->V->Hp->Prop):=fun ds=>(f ds).map fun d _ v H'=>ao K H' d v
def cX (K:zac)(f:MC):List D->Option (Hp->V->Hp->Prop):=fun ds=>(f ds).map fun c H v H'=>∃a,v=.ref a/\H a=none/\jh K [] H' c a
def LC {n:Nat}{f:MF}{vs:List V}{E:XK}(h:AO K n (pX K f) vs H Q E):DD K n f vs H Q E:=by obtain ⟨ds,P,el,r,ef,k⟩:=h;obtain ⟨d,e,rfl⟩:=zaQ.mp ef;exact ⟨ds,d,el,r,e,k⟩
theorem vj:∀{rs:List R} {ds:List D},iB rs U=some ds->rs.length=ds.length
 |[],_,h=>by cases h;rfl|r::rs,ds,h=>by obtain ⟨d,_,h⟩:=zaa.mp h;obtain ⟨es,e2,h⟩:=zaa.mp h;cases h;simp [vj e2]
def Bb {f n fa}{E:XK}(h:az K (jO f n fa) Y H Q):xn (borN n (AO K n (pX K f))) [] E (je K fa) Y H Q:=by
 obtain ⟨O,U,m,d,U',hl,hs,e,k⟩:=h;obtain ⟨⟨xs,U1⟩,e1,e⟩:=zaa.mp e;obtain ⟨ds,e2,e⟩:=zaa.mp e;split at e
 ·rename_i hn;obtain ⟨d1,e3,e⟩:=zaa.mp e;split at e
  ·rename_i hf
   cases e;refine ⟨O,U,m,xs,_,hl,hs,e1,fun vs H1 m1 x1 s1 r1=>?_⟩;have hx:xs.length=n:=(vj e2).trans hn
   show borN n (AO K n (pX K f)) (vs++[]) H1 Q E
   rw [zbi,←hx];refine JJ (dsP:=[]) (vsP:=[]) (P:=fun _ v H'=>ao K H' d1 v) s1 xs vs ds H1 Q .refl rfl r1 e2 ?_ (by simp [hn,hx]) fun v H2 H1' c s p=>?_
   ·rw [za8];unfold pX;rw [e3];rfl
   ·exact k v _ m1 (x1.trans (ve.ext nL)) (s1.same nL) (uA c s _ _ hf p)
  ·cases e
 ·cases e
def Bc {f n fa}{E:XK}(h:az K (cj f n fa) Y H Q):xn (borN n (AO K n (cX K f))) [] E (je K fa) Y H Q:=by
 obtain ⟨O,U,m,d,U',hl,hs,e,k⟩:=h;obtain ⟨⟨xs,U1⟩,e1,e⟩:=zaa.mp e;obtain ⟨ds,e2,e⟩:=zaa.mp e;split at e
 ·rename_i hn;obtain ⟨c1,e3,e⟩:=zaa.mp e;split at e
  ·rename_i hf
   cases e;refine ⟨O,U,m,xs,_,hl,hs,e1,fun vs H1 m1 x1 s1 r1=>?_⟩;have hx:xs.length=n:=(vj e2).trans hn
   show borN n (AO K n (cX K f)) (vs++[]) H1 Q E
   rw [zbi,←hx];refine JJ (dsP:=[]) (vsP:=[]) (P:=fun H v H'=>∃a,v=.ref a/\H a=none/\jh K [] H' c1 a) s1 xs vs ds H1 Q .refl rfl r1 e2 ?_ (by simp [hn,hx]) fun v H2 H1' c s p=>?_
   ·rw [za8];unfold cX;rw [e3];rfl
   ·obtain ⟨a,rfl,ha,hc⟩:=p;have h1a:H1 a=none:=by
     rcases c a with z|⟨u,o,_,_,z⟩
     ·rw [←z,ha]
     ·rw [ha] at z;cases z
    have at':∀u,H2 a=some u->pK H1 H2 a=some u:=fun u q=>(by unfold pK;rw [h1a];exact q);have hc':jh K (m1++[a]) (pK H1 H2) c1 a:=by
     cases c1 with
     |lst xs=>obtain ⟨vs,q,r⟩:=hc;exact ⟨vs,at' _ q,flats_ovr c s _ _ hf r⟩
     |dct kvs=>obtain ⟨es,q,q2,r⟩:=hc;exact ⟨es,at' _ q,q2,flats_ovr c s _ _ hf r⟩
     |fz xs=>cases hf|fzd kvs=>cases hf|dr kvs=>cases hf|lr xs=>cases hf|dt kvs=>cases hf|tb _ _=>cases hf|ob _ _=>cases hf|tr _=>cases hf|fzr _=>cases hf|dtr _=>cases hf
    have hn':a∉m1:=s1.fresh h1a;have ext:c6 m1 H1 (m1++[a]) (pK H1 H2):=by have z:=ve.ext (m:=m1) (nL (H:=H1) (H2:=H2));exact ⟨⟨[a],rfl,fun b hb=>by rw [zaB.mp hb];exact h1a⟩,z.tf,z.keep,z.live⟩
    have srel:aO K (m1++[a]) (pK H1 H2) (U1++[c1]):=by
     have s1':=s1.same (nL (H:=H1) (H2:=H2));refine ⟨zbu.mpr ⟨s1.nd,by simp,fun b hb b' hb'=>?_⟩,by simp [s1.len],fun i c' b q1 q2=>?_⟩
     ·rw [zaB.mp hb'];rintro rfl;exact hn' hb
     ·by_cases hi:i < m1.length
      ·rw [zaj hi] at q2;rw [zaj (by rw [←s1.len];exact hi)] at q1;exact (s1'.cell i c' b q1 q2).same (fun _ _ z=>z) ⟨[a],rfl⟩
      ·have hl:=s1.len;rw [zaP (by omega)] at q2;rw [zaP (by omega)] at q1;have z:i - m1.length=0:=by
        cases q:i - m1.length with|zero=>rfl|succ k=>rw [q] at q2;simp at q2
       have z':i - U1.length=0:=(by omega);rw [z] at q2;rw [z'] at q1;simp at q1 q2;subst q1 q2;exact hc'
    exact k _ _ (m1++[a]) (x1.trans ext) srel ⟨a,rfl,by rw [←s1.len];simp⟩
  ·cases e
 ·cases e
end
theorem sA.okN {P:Program}{w:World}{K:zac}{mg:Td}{base:Heap}{x qual:Str}{st:Stmt}{f:Addr}{fd:FuncData}{N ps:Tl}{k:Nat}{b:FS}(F:sA K x qual st f fd)(S:aM N ps (ah st))
  (hbody:∀(cdv:Value) (A:Around) (outer:List Env) (s:Shared) (H:Hp) (E:XK),dU k (A.deeper (envOfC qual (ah st) s.heap.objs.size f cdv))->pL (mE nr P w K mg base N qual (ah st) f cdv A outer s H E).nox (cZ st) (g9 K b)) :
  dE P w K mg base nr (k+1) f fd ps (AO K ps.length (cX K (tw N.length b))):=by
 have G:dE P w K mg base nr (k+1) f fd ps (fun vs H Q _=>vs.length=ps.length/\g9 K b {nx:=fun _ H'=>Q .non H',rt:=Q} (L2.et N vs) H) :=
  L2.sA.ok F S (fun vs H Q E h=>h.1) fun cdv A outer s H vs Q E hr h=>⟨_,hbody cdv A outer s H E hr,h.2⟩
 refine G.imp fun vs H Q E hh=>?_;obtain ⟨ds,P',hn,r,e,k⟩:=hh;refine ⟨by rw [←r.length];exact hn,?_⟩;obtain ⟨c,ec,rfl⟩:=zaQ.mp e;obtain ⟨o,e1,e2⟩:=zaa.mp ec;refine ⟨_,[],[],o,p7 r,.nil,e1,?_⟩
 cases o with|nx O U=>cases e2|bk O U=>cases e2|ct O U=>cases e2|rt d U =>
  cases d with|v d=>cases e2|s b xs=>cases e2|x _=>cases e2|f _ _=>cases e2|p n =>
   intro v H' m' x s' r';obtain ⟨a,rfl,ha⟩:=r';unfold CA at e2;have cell:∀c',U[n]?=some c'->jh K m' H' c' a:=fun c' q=>s'.cell n c' a q ha
   have free:H a=none:=by
    obtain ⟨e,rfl,f⟩:=x.ext;exact f a (by simpa using zaI ha)
   simp only at e2;split at e2
   ·rename_i xs q;cases e2;exact k _ _ x.sam ⟨a,rfl,free,cell _ q⟩
   ·rename_i kvs q;cases e2;exact k _ _ x.sam ⟨a,rfl,free,cell _ q⟩
   ·cases e2
end HW
namespace HW
variable {K:zac}
open PyProof.Rows L2
def GW (K:zac):R2:=fun x y H Q=>∃a b ys,x=.ref a/\y=.ref b/\hX K H a []/\hX K H b ys/\ys.length<=sizeLine/\Q (.ref b) H
theorem EY {X:Cx}:lu X (binaryOp .Add) (GW X.K):=by
 intro pins s Y H x y v u Q I rx ry h;obtain ⟨a,b,ys,rfl,rfl,ha,hb,hz,q⟩:=h;cases rx;cases ry;obtain ⟨its,r1,p1,_⟩:=I.tuple ha;obtain ⟨its2,r2,p2,_⟩:=I.tuple hb;cases r1;obtain ⟨⟨cls,dd,data,sl⟩,ho,hc,n,hd⟩:=id p1;obtain ⟨⟨cls2,dd2,data2,sl2⟩,ho2,hc2,n2,hd2⟩:=id p2;simp only at hc hd hc2 hd2;subst hc hd hc2 hd2;exact concat_meets ⟨_,ho,rfl⟩ ⟨_,ho2,rfl⟩ noFill_tuple_add seq_tuple_add PySem.F.slot_tuple_add PySem.F.entry_tuple_add (PySem.F.args_tuple_add_2 _ _)
  (tuple_addW0 a b #[] its2.toArray n n2 dd dd2 sl sl2 (by simp)) ⟨ho,ho2,⟨.ref b,H,I,rfl,q⟩⟩
def gA:R->R->ac->Option (R×ac)
 |.v (.tup []),.v (.tup ys),U=>if ys.length<=sizeLine then some (.v (.tup ys),U) else none|x,y,U=>Kx x y U
def J8 :sy K gA (fun x y H Q=>GX K x y H Q\/GW K x y H Q):=by
 intro m H U x y d U' v u Q s rx ry e k;unfold gA at e;split at e
 ·split at e
  ·rename_i z
   cases e;have ry':=ry;simp only [au,ao] at rx ry;obtain ⟨a,vs,rfl,qa,ra⟩:=rx;obtain ⟨b,ws,rfl,qb,rb⟩:=ry;have ra:vs=[]:=(by simpa only [RelDs] using ra);subst ra;exact .inr ⟨a,b,ws,rfl,rfl,qa,qb,by rw [←rb.length];exact z,k _ H m .refl s ry'⟩
  ·cases e
 ·exact .inl (MT m H U _ _ d U' v u Q s rx ry e k)
def Bm:V->V->V->Hp->(Hp->Prop)->Prop:=fun o i v H Q=>∃p kvs k,o=.ref p/\i=kV k/\H p=some (.dK kvs)/\kvs.length < sizeLine/\Q (upd H p (.dK (eB kvs k v)))
def AT {X:Cx}(hu:X.A.units+1 < cLine):sx X Bm:=by intro pins s Y H o i v ov iv u Q I ro ri rv h;obtain ⟨p,kvs,k,rfl,rfl,hp,hl,q⟩:=h;cases ro;exact qE hu I (w4.k hp hl) ri rv fun s' I'=>⟨_,I',q⟩
def sx.or {t u:FV}(h:sx X t)(h':sx X u):sx X (fun o i v H Q=>t o i v H Q\/u o i v H Q):=fun pins s Y H o i v ov iv z Q I ro ri rv q=>by
 rcases q with q|q
 ·exact h pins s Y H o i v ov iv z Q I ro ri rv q
 ·exact h' pins s Y H o i v ov iv z Q I ro ri rv q
noncomputable def ee:R->Option aH
 |.v (.int i)=>some (.inl i)|.v (.str x)=>some (.inr (some x))|.v .non=>some (.inr none)|_=>none
def vO (o i:R)(dv:D)(U:ac):Option ac:=match o with
 |.p n=>match U[n]? with
  |some (.lst xs)=>(match i with|.v (.int k)=>(Cg xs.length k).bind fun j=>some (U.set n (.lst (xs.set j dv)))|_=>none)
  |some (.dct kvs)=>if kvs.length < sizeLine then (ee i).bind fun k=>some (U.set n (.dct (lL kvs k dv))) else none|_=>none
 |_=>none
def pW (fo fi:FE):FG:=fun d O U=>match d with|.v dv=>(fo O U).bind fun o=>(fi O o.2).bind fun i=>(vO o.1 i.1 dv i.2).bind fun U'=>some (O,U')|_=>none
theorem RelDs.setAt {K:zac}{H:Hp}{d:D}{v:V}(h:ao K H d v):∀{ds:List D} {vs:List V} (j:Nat),RelDs K H ds vs->RelDs K H (ds.set j d) (vs.set j v)
 |[],vs,j,r=>by have r:vs=[]:=r;subst r;exact rfl|_::_,_,0,⟨v',r,e,h1,h2⟩=>by subst e;exact ⟨v,r,rfl,h,h2⟩|_::_,_,j+1,⟨v',r,e,h1,h2⟩=>by subst e;exact ⟨v',_,rfl,h1,RelDs.setAt h j h2⟩
def lT {m:Tf}{H:Hp}{x:R}{v:V}{k:aH}(r:au K m H x v)(e:ee x=some k):v=kV k:=by
 unfold ee at e;split at e
 ·cases e;simpa only [au,ao,kV] using r
 ·cases e;simpa only [au,ao,kV] using r
 ·cases e;simpa only [au,ao,kV] using r
 ·cases e
def Jj {K:zac}{m:Tf}{H:Hp}{U U':ac}{o i:R}{dv:D}{vo vi v:V}{Q:Hp->Prop}(s:aO K m H U)(ro:au K m H o vo)(ri:au K m H i vi)(rv:ao K H dv v)(e:vO o i dv U=some U')
  (k:∀H',c6 m H m H'->aO K m H' U'->Q H'):Bl vo vi v H Q\/Bm vo vi v H Q:=by
 unfold vO at e;split at e
 ·rename_i n
  split at e
  ·rename_i xs q
   split at e
   ·rename_i j
    obtain ⟨w,e1,e⟩:=zaa.mp e;cases e;obtain ⟨a,rfl,ha⟩:=ro
    have ri:vi=.int j:=by simpa only [au,ao] using ri
    subst ri;obtain ⟨ws,ea,ra⟩:=s.cell _ _ a q ha;have x:c6 m H m (upd H a (.lst (ws.set w v))):=.put (zaI ha) ea (by simp) (by simp);exact .inl ⟨a,ws,j,w,rfl,rfl,ea,by rw [←ra.length];exact e1,k _ x (s.put ha ea (by simp) (by simp) ⟨_,bf,RelDs.tf x.tf _ _ (RelDs.setAt rv w ra)⟩)⟩
   ·cases e
  ·rename_i kvs q
   split at e
   ·rename_i hl
    obtain ⟨w,e1,e⟩:=zaa.mp e;cases e;obtain ⟨a,rfl,ha⟩:=ro;obtain ⟨es,ea,q1,q2⟩:=s.cell _ _ a q ha;have kd:KD K H kvs es:=⟨q1,q2⟩;have kd':=kd.put (k:=w) rv;have x:c6 m H m (upd H a (.dK (eB es w v))):=.put (zaI ha) ea (by simp) (by simp);exact .inr ⟨a,es,w,rfl,lT ri e1,ea,by have:=congrArg List.length q1;simp at this;omega,k _ x (s.put ha ea (by simp) (by simp) ⟨_,bf,kd'.1,RelDs.tf x.tf _ _ kd'.2⟩)⟩
   ·cases e
  ·cases e
 ·cases e
def Ec {fo fi:FE}{v:V}{H:Hp}{Q:L2.St->Hp->Prop}(h:nN K (pW fo fi) v Y H Q):L2.pW (az K fo) (az K fi) (fun o i v H Q=>Bl o i v H Q\/Bm o i v H Q) v Y H Q:=by
 obtain ⟨O,U,m,d,O',U',hl,hs,r,e,k⟩:=h;unfold pW at e;split at e
 ·rename_i dv;obtain ⟨⟨o,U1⟩,e1,e⟩:=zaa.mp e;obtain ⟨⟨i,U2⟩,e2,e⟩:=zaa.mp e;obtain ⟨U3,e3,e⟩:=zaa.mp e;cases e;refine ⟨O,U,m,o,U1,hl,hs,e1,fun vo H1 m1 x1 s1 r1=>?_⟩;refine ⟨O,U1,m1,i,U2,hl.ext x1,s1,e2,fun vi H2 m2 x2 s2 r2=>?_⟩;exact Jj s2 (r1.ext x2) r2 (ao.tf (x1.tf.trans x2.tf) _ _ r) e3 fun H3 x3 s3=>k Y H3 m2 ((x1.trans x2).trans x3) s3 (hl.ext ((x1.trans x2).trans x3))
 ·cases e
def QD (lt:Int->Int->Bool)(ns:Th):Int:=ns.getD (argBest (fun i j=>lt (ns.getD i 0) (ns.getD j 0)) (ns.length - 1)) 0
end HW
namespace HS
open PyProof.Rows L2
section
variable {prog:Program}{w:World}{A:Around}{E:Tb}{s:Shared}
def qu {a:Addr}{Q:Bool->Shared->Prop}(hT:s.TypeIs (.ref a) "dict")(h:Q false s):wpAny (model prog w) A (listLengthHint (.ref a)) Q E s:=PySem.W.kdl_hint_dict hT h
theorem sf {a:Addr}{kvs:List (aH×Value)}{Q:List Value->Shared->Prop}(hh:A.handled=none)(hd:(a == sysModules)=false)(hm:s.heap.DictOf (aY prog w) a kvs)(hz:kvs.length<=sizeLine)
  (h:∀(vs:Te) (h':Heap) (tk:Nat),vs.length=kvs.length->(∀(i:Nat) v,vs[i]?=some v->∃k x,kvs[i]?=some (k,x)/\jD k v=true)->(∀b o,s.heap.get? b=some o->h'.get? b=some o)->s.toks<=tk->s.heap.objs.size<=h'.objs.size->Q vs {s with heap:=h',toks:=tk}) :
  wpAny (model prog w) A (collect (.ref a)) Q E s:=by
 obtain ⟨ep,hm⟩:=hm.dictAt;obtain ⟨o,es,ho,hx,hdat,r⟩:=id hm;have hlt:=zam ho;unfold collect;refine zab (zcE (zaW F.entry_proto_collect ?_));rw [zaO F.plain_proto_collect _];refine (show wpAny _ A.in1 (newList [] >>= fun l=>again (.builtin "list.__iadd__" ⟨[l,.ref a],[]⟩)) _ _ s from zab (zaT ?_));refine zad ⟨zbd F.plain_list_iadd _,zaW F.entry_list_iadd ?_⟩;rw [zaO F.plain_list_iadd _];refine (show wpAny _ A.in1 (listExtendWith (.ref s.heap.objs.size) (.ref a) (.ref s.heap.objs.size)) _ _ _ from ?_);unfold listExtendWith;have hm1:=hm.push {cls:=.type "list",data:=.seq ([]:Te).toArray};have hT:Shared.TypeIs {s with heap:=s.heap.push {cls:=.type "list",data:=.seq ([]:Te).toArray}} (.ref a) "dict":=hm1.dictOf.typeIs;refine zab (zbt hT ?_)
 have h1:listSameRef (.ref s.heap.objs.size) (.ref a)=false:=by simp [listSameRef,zbF hlt]
 simp only [h1,show (Value.type "dict" == Value.type "list")=false by decide,show (Value.type "dict" == Value.type "tuple")=false by decide,zcM,zap,if_false];refine zab (wpAny_pyIter_dict hd hm1 ?_);have hsz:(s.heap.push {cls:=.type "list",data:=.seq ([]:Te).toArray}).objs.size=s.heap.objs.size+1:=za9 ..;generalize hI:(s.heap.push {cls:=.type "list",data:=.seq ([]:Te).toArray}).objs.size=I at *;have kp:∀b o,(s.heap.push {cls:=.type "list",data:=.seq ([]:Te).toArray}).get? b=some o->((s.heap.push {cls:=.type "list",data:=.seq ([]:Te).toArray}).push {cls:=.type "dict_keyiterator",data:=.fields #[.ref a,.int 0 0,.int kvs.length 0,.int ep 0]}).get? b=some o:=fun b o e=>zae _ e;generalize hh1:(s.heap.push {cls:=.type "list",data:=.seq ([]:Te).toArray}).push {cls:=.type "dict_keyiterator",data:=.fields #[.ref a,.int 0 0,.int kvs.length 0,.int ep 0]}=h1 at *;have hIt:h1.IsKeyIter I a 0 kvs.length ep:=⟨_,by rw [←hh1,←hI];exact zaq _ rfl,rfl,rfl⟩;have hma:h1.DictAt (aY prog w) a kvs ep:=hm1.keep kp;have hTa:Shared.TypeIs {s with heap:=h1} (.ref a) "dict":=hma.dictOf.typeIs;refine zab (zaH (qu hTa ?_))
 refine (show wpAny _ A.in1 (rule "list.extend.makes-room" >>= fun _=>listTouch (.ref s.heap.objs.size) >>= fun _ =>
  again (.builtin "list.extend.loop" ⟨[.ref s.heap.objs.size,.ref I,.ref s.heap.objs.size],[]⟩)) _ _ _ from zab (zcg (zab ?_)))
 have hL:h1.get? s.heap.objs.size=some {cls:=.type "list",data:=.seq ([]:Te).toArray}:=kp _ _ (zaq _ rfl)
 have hSf:s.heap.objs.size∉[I,a]:=fun hm=>by
  simp only [zal,zaE,or_false] at hm;rcases hm with e|e
  ·rw [hsz] at e;omega
  ·exact zaF _ (e ▸ hlt)
 refine (show wpAny _ A.in1 (updateSeq s.heap.objs.size (·.push .none) >>= fun _=>updateSeq s.heap.objs.size (·.pop)) _ _ _ from zab (zbv hL rfl ?_));have hL2:=zaJ (Obj.mapSeq (·.push Value.none)) hL rfl;refine zbv (s:={s with heap:=_}) hL2 rfl ?_;have hL3:=zaJ (Obj.mapSeq (·.pop)) hL2 rfl
 have oth:∀b o,b≠s.heap.objs.size->h1.get? b=some o->((h1.update s.heap.objs.size (Obj.mapSeq (·.push Value.none))).update s.heap.objs.size (Obj.mapSeq (·.pop))).get? b=some o :=
  fun b o hb e=>(zaz _ _ (Ne.symm hb)).trans ((zaz _ _ (Ne.symm hb)).trans e)
 have W1:=Walks.dictKeys (prog:=prog) (w:=w) (knd:=aY prog w) (A:=A.in1) (show A.in1.handled=none from hh) I a (by rw [hsz];exact zat (zaU hlt)) kvs ep
 refine zad ⟨zbd F.plain_extend_loop _,codeAny_extend_loopS W1.toS hz _ hSf _ kvs.length 0 _ _ _ rfl (zbb _)
  (W1.frame 0 h1 _ ⟨hIt,hma⟩ fun b hb o e=>oth b o (fun q=>hSf (q ▸ hb)) e) hL3 (ItemsOf.nil _) fun s' acc c hm' hS' hacc=>?_⟩
 refine (show wpAny _ A (load s.heap.objs.size >>= _) _ _ s' from zab (zdo hS' ?_));dsimp only;obtain ⟨h',g',d',tk',os'⟩:=s';have eg:g'=s.gens:=hm'.gens;have ed:d'=s.drawn:=hm'.drawn;have eo:os'=s.os:=hm'.os;subst eg;subst ed;subst eo;refine zad ?_;refine h _ h' tk' (by rw [←hacc.1];simp) (fun i v hv=>hacc.2 i v (by simpa using hv)) (fun b o e=>hm'.heap b o (fun hb=>?_) (oth b o (fun q=>?_) (kp _ _ (zae _ e)))) hm'.toks (zbP (zam hS'))
 ·have hb1:=zam e
  simp only [zal,zaE,or_false] at hb;rcases hb with q|q
  ·exact zaF _ (q ▸ hb1)
  ·rw [q,hsz] at hb1;exact absurd hb1 (Nat.not_lt.mpr (zcl _))
 ·exact zaF _ (q ▸ zam e)
theorem qp:∀{vs:Te} {kvs:List (aH×Value)} {ns:Th},kvs.map (·.1)=ns.map Sum.inl->vs.length=kvs.length->(∀(i:Nat) v,vs[i]?=some v->∃k x,kvs[i]?=some (k,x)/\jD k v=true)->IntsAre vs ns
 |[],[],[],_,_,_=>.nil|[],[],_::_,e,_,_=>by simp at e|[],_::_,_,_,e,_=>by simp at e|_::_,[],_,_,e,_=>by simp at e|v::vs,kv::kvs,[],e,_,_=>by simp at e|v::vs,(k,x)::kvs,n::ns,e,hl,h=>by
  simp only [zaf,List.cons.injEq] at e;obtain ⟨e1,e2⟩:=e;subst e1;obtain ⟨k',x',q1,q2⟩:=h 0 v rfl;simp only [zcf,Option.some.injEq,Prod.mk.injEq] at q1;rw [←q1.1] at q2;rcases br q2 with ⟨i,t,q3,rfl⟩|⟨y,t,q3,rfl⟩|⟨q3,rfl⟩
  ·cases q3;exact .cons _ _ (qp e2 (by simpa using hl) fun i v hv=>h (i+1) v (by simpa using hv))
  ·cases q3
  ·cases q3
def sW {a:Addr}{kvs:List (aH×Value)}{xs:Th}{Q:Tb}(hh:A.handled=none)(hd:(a == sysModules)=false)(hm:s.heap.DictOf (aY prog w) a kvs)(hk:kvs.map (·.1)=xs.map Sum.inl)(h64:xs.length < 64)
  (h:∀(out:Ti) (ns:Th) (h':Heap) (tk:Nat) (l:Addr) (c:Nat),IntsAre out.toList ns->ns.Perm xs->ns.Pairwise (·<=·)->(∀b o,s.heap.get? b=some o->h'.get? b=some o)->s.toks<=tk ->
   s.heap.objs.size<=l->h'.get? l=some (seqObj "list" out c)->Q (.ref l) {s with heap:=h',toks:=tk}) :
  wpAny (model prog w) A (call (.builtin "sorted") [.ref a]) Q E s:=by
 have hlen:kvs.length=xs.length:=by simpa using congrArg List.length hk
 refine Calls.call_function_entry kind_sorted plain_sorted entry_sorted (args_sorted1 _) ?_;unfold Builtin.«sorted»;refine zab (m:=checkCount "sorted" 1 1 _) (zad (zab (sf (show A.in1.handled=none from hh) hd hm (by rw [hlen,zba];omega) fun vs h' tk hl hv kp ht hge=>?_)));have hI:IntsAre vs xs:=qp hk hl hv;have hvl:vs.length=xs.length:=IntsAre.length hI;refine zab (zdh ?_ (by rw [hvl,zba];omega));have hoL:(h'.push (seqObj "list" vs.toArray 0)).get? h'.objs.size=some (seqObj "list" vs.toArray 0):=zaq _ rfl;refine zab (zaH (zaV (s:={s with heap:=h'.push (seqObj "list" vs.toArray 0),toks:=tk}) slot_list_sort ⟨_,hoL,rfl⟩ entry_list_sort (list_sort_tree hoL hI (by omega) fun out ns' a1 a2 a3=>⟨_,rfl,?_⟩) (args_list_sort _)))
 obtain ⟨c,hc⟩:∃c,(sortedHeap (h'.push (seqObj "list" vs.toArray 0)) h'.objs.size vs out).get? h'.objs.size=some (seqObj "list" out c):=by
  unfold sortedHeap;obtain ⟨e1,q1⟩:∃e1,((h'.push (seqObj "list" vs.toArray 0)).update h'.objs.size (Obj.mapSeq fun _=>#[])).get? h'.objs.size=some (seqObj "list" #[] e1):=⟨_,get?_update_seq hoL (fun _=>#[])⟩;exact ⟨_,get?_update_seq (zae _ (zae _ q1)) (fun _=>out)⟩
 refine zad ⟨_,rfl,h out ns' _ tk h'.objs.size c a1 a2 a3 (fun b o e=>?_) ht hge hc⟩;have hb:=kp b o e;have ne:h'.objs.size≠b:=zbF (zam hb);unfold sortedHeap;rw [zaz _ _ ne];refine zae _ (zae _ ?_);rw [zaz _ _ ne];exact zae _ hb
end
end HS
namespace HW
open PyProof.Rows L2 HS
def tI:List V->Hp->VK->Prop:=fun vs H Q=>∃p kvs ns,vs=[.ref p]/\Rd H p (.dK kvs)/\kvs.map (·.1)=ns.map Sum.inl/\ns.length < 64/\∀l,H l=none->Q (.ref l) (upd H l (.lst ((gX ns).map V.int)))
theorem xS:∀{kvs:List (aH×V)} {vs:List (aH×Value)},KV kvs vs->vs.map (·.1)=kvs.map (·.1)
 |_,_,.nil=>rfl|_,_,.cons r t=>by simp only [zaf,xS t,r.1]
def sj {X:Cx}(hc:X.calm=true):ip X (.builtin "sorted") tI:=by
 intro pins s Y H vs us Q I r h;obtain ⟨p,kvs,ns,rfl,hp,hk,h64,q⟩:=h;obtain ⟨u,rfl,rx⟩:=mU r;cases rx;obtain ⟨hz,hs,es,hkv,hD⟩:kvs.length<=sizeLine/\(p == sysModules)=false/\∃vs,KV kvs vs/\s.heap.DictOf (aY X.prog X.w) p vs:=by
  rcases hp with hp|⟨o,hp⟩
  ·exact I.hok p _ hp
  ·exact (I.hok p _ hp).2
 refine sW (I.ok.hd hc) hs hD (by rw [xS hkv];exact hk) h64 fun out ns' h' tk l c a1 a2 a3 kp ht hl hL=>?_;have e:=Cl a3 a2;subst e;have hlen:(gX ns).length=ns.length:=(cV ns).length_eq;exact ⟨.ref l,_,I.laid (t':=tk) kp hl (show bI X.prog X.w _ h' _ (.lst _) from ⟨by rw [zah,hlen,zba];omega,out.toList,c,qr a1,by simpa [seqObj] using hL⟩),rfl,q _ (I.hok.fresh hl)⟩
noncomputable def fM:List aH->Option (Th)
 |[]=>some []|.inl n::r=>(fM r).map (n :: ·)|_=>none
theorem oW:∀{ks:List aH} {ns:Th},fM ks=some ns->ks=ns.map Sum.inl
 |[],ns,e=>by cases e;rfl|.inl n::r,ns,e=>by obtain ⟨ms,e1,rfl⟩:=zaQ.mp (show (fM r).map (n :: ·)=some ns from e);rw [oW e1];rfl
 |.inr x::r,ns,e=>by cases e
noncomputable def wx:List (FE×FE)->Lo->ac->Option (List (R×R)×ac)
 |[],_,U=>some ([],U)|(fk,fv)::r,O,U=>(fk O U).bind fun a=>(fv O a.2).bind fun b=>(wx r O b.2).bind fun c=>some ((a.1,b.1)::c.1,c.2)
section
variable {K:zac}{Y:L2.St}
def Hx (K:zac)(m:Tf)(H:Hp):List (R×R)->List (V×V)->Prop
 |[],ps=>ps=[]|p::ps,qs=>∃x y r,qs=(x,y)::r/\au K m H p.1 x/\au K m H p.2 y/\Hx K m H ps r
theorem tG:∀(prs:List (FE×FE)) {H:Hp} {Q:List (V×V)->Hp->Prop} {O:Lo} {U U':ac} {m:Tf} {rs:List (R×R)},dN K m H O Y->aO K m H U->wx prs O U=some (rs,U') ->
  (∀ps H' m',c6 m H m' H'->aO K m' H' U'->Hx K m' H' rs ps->Q ps H')->qW (prs.map fun p=>(az K p.1,az K p.2)) Y H Q
 |[],H,Q,O,U,U',m,rs,hl,hs,e,k=>by
  cases e;exact k [] H m .refl hs rfl
 |(fk,fv)::r,H,Q,O,U,U',m,rs,hl,hs,e,k=>by
  obtain ⟨⟨a,U1⟩,e1,e⟩:=zaa.mp e;obtain ⟨⟨b,U2⟩,e2,e⟩:=zaa.mp e;obtain ⟨⟨cs,U3⟩,e3,e⟩:=zaa.mp e;cases e;refine ⟨O,U,m,a,U1,hl,hs,e1,fun x H1 m1 x1 s1 r1=>?_⟩;refine ⟨O,U1,m1,b,U2,hl.ext x1,s1,e2,fun y H2 m2 x2 s2 r2=>?_⟩;exact tG r (hl.ext (x1.trans x2)) s2 e3 fun ps H3 m3 x3 s3 rp=>k _ H3 m3 ((x1.trans x2).trans x3) s3 ⟨x,y,ps,rfl,r1.ext (x2.trans x3),r2.ext x3,rp⟩
end
end HW
namespace HW
variable {K:zac}
open PyProof.Rows L2
def jX (K:zac)(mg:Td)(x:Str)(d:D):Prop:=∃u v,mg x=some u/\aW v u/\∀H,ao K H d v
def F5 (K:zac)(d:D)(v:V)(u:Value):Prop:=aW v u/\∀H,ao K H d v
def yx (K:zac)(ds:List D)(vs:List V)(us:Te):Prop:=aZ vs us/\∀H,RelDs K H ds vs
def kj :yx K [] [] []:=⟨.nil,fun _=>rfl⟩
def iG {d:D}{v:V}{u:Value}{ds:List D}{vs:List V}{us:Te}(h:F5 K d v u)(h':yx K ds vs us):yx K (d::ds) (v::vs) (u::us) :=
 ⟨.cons h.1 h'.1,fun H=>by simp only [RelDs];exact ⟨_,_,rfl,h.2 H,h'.2 H⟩⟩
def Hr {b:Bool}:F5 K (.bl b) (.bl b) (.bool b):=⟨rfl,fun H=>by simp only [ao]⟩
def mF {K:zac}{a:Addr}{us:Te}{n:Nat}{sl:Array (Tg)}{ds:List D}{vs:List V}(h:K.lookup a=some ⟨.type "tuple",none,.seq us.toArray n,sl⟩)(hz:us.length<=sizeLine)(r:yx K ds vs us):F5 K (.tup ds) (.ref a) (.ref a) :=
 ⟨rfl,fun H=>by simp only [ao];exact ⟨a,vs,rfl,.inr ⟨_,us.toArray,n,h,rfl,rfl,rfl,by simpa using hz,by simpa using r.1⟩,r.2 H⟩⟩
def uQ {mg:Td}{x:Str}{u:Value}{d:D}{v:V}(hm:mg x=some u)(r:F5 K d v u):jX K mg x d:=⟨u,v,hm,r.1,r.2⟩
def AL (i j c:Int):Prop:=-(2 ^ 61)<=i/\i < 2 ^ 61/\-(2 ^ 61)<=j/\j < 2 ^ 61/\c≠0/\-(2 ^ 30) < c/\c < 2 ^ 30
instance {i j c:Int}:Decidable (AL i j c):=by unfold AL;infer_instance
def yK:List R->ac->Option (R×ac)
 |[x],U=>(f6 x U).bind fun xs=>(gd xs).bind fun is=>some (.v (.int is.sum),U)|_,_=>none
def LM (K:zac):List V->Hp->VK->Prop:=fun vs H Q=>∃(a:Addr) (is:Th),vs=[.ref a]/\jg K H a (is.map V.int)/\Q (.int is.sum) H
def Mz :zQ K yK (LM K):=by
 intro m H U xs d U' vs Q s r e k;unfold yK at e;split at e
 ·rename_i x;obtain ⟨ys,e1,e⟩:=zaa.mp e;obtain ⟨bs,e2,e⟩:=zaa.mp e;cases e;obtain ⟨v,rfl,r1⟩:=oB r;obtain ⟨a,ws,rfl,q,r2⟩:=gT s r1 e1;rw [oV e2] at r2;rw [oU r2] at q;exact ⟨a,bs,rfl,q,k _ H m .refl s (by simp only [au,ao])⟩
 ·cases e
def Cn {is:Th}{its:Te}(r:aZ (is.map V.int) its):∀(i:Nat) v,its.toArray[i]?=some v->∃t,v=.int (is.getD i 0) t:=fun i v e=>by
 have e:its[i]?=some v:=by simpa using e
 have hi:i < its.length:=(zau.mp e).1;have hl:=r.length;rw [zah] at hl;have hb:i < is.length:=by omega
 obtain ⟨u,q1,q2⟩:=aZ.get (i:=i) (x:=.int is[i]) r (by simp [hb]);rw [e] at q1;cases q1;obtain ⟨t,rfl⟩:=q2;exact ⟨t,by simp [hb]⟩
theorem xB {is:Th}:∀n,n<=is.length->preSum (fun i=>is.getD i 0) n=(is.take n).sum
 |0,_=>by simp [preSum]|n+1,h=>by have hn:n < is.length:=h;have e1:is.take (n+1)=is.take n++[is[n]]:=(List.take_append_getElem hn).symm;rw [preSum,xB n (by omega),e1,List.sum_append];simp [hn]
theorem zH {X:Cx}(hc:X.calm=true):ip X (.builtin "sum") (LM X.K):=by
 intro pins s Y H vs us Q I rv q;obtain ⟨a,is,rfl,q',q⟩:=q
 cases rv with|cons r1 rr =>
  cases rr;cases r1;obtain ⟨its,rv,p,hz⟩:=I.list q';have hlt:a < s.heap.objs.size:=by obtain ⟨o,n,e,_⟩:=p;exact zam e
  have hl:its.toArray.size=is.length:=by have:=rv.length;rw [zah] at this;simp [this]
  refine call_sum_walkG (zco p.isList ?_);refine ⟨_,_,_,_,_,_,fun i=>is.getD i 0,rfl,Walks.list (A:=X.A.in1) (show X.A.in1.handled=none from I.ok.hd hc) s.heap.objs.size a (zat hlt) its.toArray,⟨⟨_,zaq _ rfl,rfl,rfl⟩,p.isList.push _⟩,fun b hb=>?_,Cn rv,fun h' tk t' hk=>?_⟩
  ·show b < (s.heap.push _).objs.size
   rw [za9];simp only [zal,zaE,or_false] at hb;rcases hb with hb|hb
   ·rw [hb];exact zcr _
   ·rw [hb];exact zaU hlt
  ·rw [hl,xB _ (zao _),List.take_length];refine ⟨.int _,H,I.kept (t':=tk) fun b o e=>hk b o ?_ (zae _ e),⟨_,rfl⟩,q⟩;intro z;rw [zaB.mp z] at e;exact absurd (zam e) (zaF _)
end HW
namespace L2
open PyProof.Rows
section
variable {X:Cx}{pins:Tc}{Y:St}{H:Hp}{s:Shared}{h':Heap}
def aF.turnedL {t':Nat}{its:Tf}(I:aF X pins Y H s)(k:∀b o,b∉its->s.heap.get? b=some o->h'.get? b=some o)
  (hf:∀it∈its,H it=none/\it≠X.env.locals/\(it∈X.ex\/X.s₀.heap.objs.size<=it)/\(∀x c,X.env.cells.lookup x=some c->c≠it)/\∀p∈X.pn++pins,p.1≠it):aF X pins Y H {s with heap:=h',toks:=t'}:=by
 have nit:∀b u,H b=some u->b∉its:=fun b u e z=>by rw [(hf b z).1] at e;cases e
 refine I.step (g':=s.gens) (d':=s.drawn) (ch:=its) (fun b hb=>?_) (fun b o _ _ hc e _=>k b o hc e) (fun b o _ _ hc e _=>⟨o.slots,k b o hc e⟩) (fun _ _ _ _ n=>n)
  (fun b o hc e=>⟨o,k b o hc e⟩) (fun _ _ e=>e) (fun _ _ _ e=>e) (fun b ps e=>⟨#[],by rw [e];simp⟩) (fun m hm=>?_) (fun b u e=>?_) I.bare
 ·obtain ⟨_,hL,h1,h2,h3⟩:=hf b hb
  exact ⟨h1,hL,h2,h3⟩
 ·obtain ⟨o,es,ep,ho,r⟩:=hm
  exact ⟨o,es,ep,k _ o (fun z=>(hf _ z).2.1 rfl) ho,r⟩
 ·refine (I.hok b u e).stay (fun c v hc q=>k c v ?_ q) (fun _ q=>q) fun _ _ q=>q
  rcases hc with z|z
  ·rw [z];exact nit b u e
  ·exact nit c _ z
end
def Es {h:Heap}{o:Obj}{b:Addr}(hb:b < h.objs.size):(h.push o).get? b=h.get? b:=by unfold Heap.get? Heap.push;simp [Array.getElem?_push,zat hb]
def QQ (K:zac)(a:Addr):It :=
 ⟨fun i H=>∃xs x,jg K H a xs/\xs[i]?=some x,fun i H v H'=>∃T x,v=.ref T/\H T=none/\H'=upd H T (.tup [.int (i:Int),x])/\∀xs,jg K H a xs->xs[i]?=some x,fun i H=>∃xs,jg K H a xs/\xs.length<=i⟩
def yG {K:zac}{elts:Tj}{x1}(a it e:Addr)(hne:e≠it):wX P w K (.Tuple elts x1 pos) (QQ K a) [e,it] e (fun i h=>(∃old,IsEnum h e it i old)/\h.IsListIter it a i) where
 mem:=by simp
 obj:=fun i h ⟨⟨old,he⟩,st⟩ b hb=>by
  rcases (by simpa using hb:b=e\/b=it) with z|z
  ·subst z;exact ⟨_,he,fun v z=>by
    have z':Data.fields _=Data.cell v:=z
    cases z'⟩
  ·subst z;obtain ⟨o,e,c,d⟩:=st;exact ⟨o,e,fun v z=>by rw [d] at z;cases z⟩
 keep:=fun i h h' ⟨⟨old,he⟩,st⟩ k=>⟨⟨old,k e (by simp) _ he⟩,st.at fun o q=>k it (by simp) o q⟩
 item:=by
  intro X hP hw hK hc i pins s Y H E I hf st hg;subst hP hw hK;obtain ⟨⟨old,he⟩,st⟩:=st;obtain ⟨xs,x,hq,hx⟩:=hg;obtain ⟨its,rv,p,hz⟩:=I.list hq;obtain ⟨u,hu,ru⟩:=rv.get hx;refine wpAny_pyNext_enum_item he st p.isList (x:=u) (by simpa using hu) hne fun h1 o1 st1 hT hsz kk=>?_;refine ⟨_,rfl,wpAny_letOwnedTupleGo_enum o1 fun h2 he2 sb=>?_⟩;have elt:e < s.heap.objs.size:=zam he;have ilt:it < s.heap.objs.size:=by obtain ⟨o,q,_⟩:=st;exact zam q
  have nT:H s.heap.objs.size=none:=I.hok.fresh (zao _);have tup:bI X.prog X.w (upd H s.heap.objs.size (.tup [.int (i:Int),x])) (s.heap.push {cls:=.type "tuple",data:=.seq #[.int (i:Int) s.toks,u]}) s.heap.objs.size (.tup [.int (i:Int),x]) :=
   ⟨(by decide:2<=sizeLine),[.int (i:Int) s.toks,u],.cons ⟨_,rfl⟩ (.cons ru .nil),jc.new _ _⟩
  have I1:=I.laid (t':=s.toks) (fun b o q=>zae _ q) (zao _) tup;have hT2:h2.get? s.heap.objs.size=some {cls:=.type "tuple",data:=.seq #[.int (i:Int) s.toks,u]}:=(sb.2 _ (zbF elt)).trans hT;have I2:aF X pins Y (upd H s.heap.objs.size (.tup [.int (i:Int),x])) {s with heap:=h2,toks:=s.toks+1}:=by
   refine aF.turnedL (s:={s with heap:=s.heap.push {cls:=.type "tuple",data:=.seq #[.int (i:Int) s.toks,u]}}) (its:=[e,it]) I1 (fun b o hb q=>?_) fun b hb=>?_
   ·have hb1:b≠e:=fun z=>hb (by simp [z]);have hb2:b≠it:=fun z=>hb (by simp [z]);by_cases hbT:b=s.heap.objs.size
    ·subst hbT;have q:(s.heap.push {cls:=.type "tuple",data:=.seq #[.int (i:Int) s.toks,u]}).get? s.heap.objs.size=some o:=q;rw [zaq _ rfl] at q;cases q;exact hT2
    ·have q:(s.heap.push {cls:=.type "tuple",data:=.seq #[.int (i:Int) s.toks,u]}).get? b=some o:=q;have hlt:b < s.heap.objs.size:=by have h0:=zam q;rw [za9] at h0;exact Nat.lt_of_le_of_ne (Nat.le_of_lt_succ h0) hbT
     have q0:s.heap.get? b=some o:=(by rw [←q];exact (Es hlt).symm);exact (sb.2 b hb1).trans (kk b o hb1 hb2 q0)
   ·obtain ⟨f0,f1,f2,f3,f4,f5⟩:=hf b hb;have hbT:b≠s.heap.objs.size:=by
     rcases (by simpa using hb:b=e\/b=it) with z|z <;> rw [z]
     ·exact zat elt
     ·exact zat ilt
    exact ⟨by rw [aD hbT];exact f0,f1,f3,f4,f5⟩
  refine ⟨.ref s.heap.objs.size,_,I2,rfl,⟨_,x,rfl,nT,rfl,fun ys hy=>by rw [I.list_inj hy hq];exact hx⟩,⟨⟨_,he2⟩,st1.at fun o q=>(sb.2 it (Ne.symm hne)).trans q⟩,fun b hb=>?_⟩;have hbT:b≠s.heap.objs.size:=by
   rcases (by simpa using hb:b=e\/b=it) with z|z <;> rw [z]
   ·exact zat elt
   ·exact zat ilt
  rw [aD hbT];exact (hf b hb).1
 done:=by intro X hP hw hK hc i pins s Y H E I hf st hg;subst hP hw hK;obtain ⟨⟨old,he⟩,st⟩:=st;obtain ⟨xs,hq,hx⟩:=hg;obtain ⟨its,rv,p,hz⟩:=I.list hq;obtain ⟨f0,f1,f2,f3,f4,f5⟩:=hf it (by simp);have hl:=rv.length;exact wpAny_pyNext_enum_end (I.ok.hd hc) he st p.isList (by simp;omega) fun h' eb=>⟨rfl,I.turned (t':=s.toks) (fun b o hb e=>eb b o hb e) f0 f1 f3 f4 f5⟩
 self:=fun _ _ _ _ _ st h=>by obtain ⟨⟨old,he⟩,st⟩:=st;exact wpAny_pyIter_enum he h
section
variable {X:Cx}
def Ha (K:zac)(ta:TA):TI:=fun Y H R=>ta Y H fun vs H1=>∃a,vs=[.ref a]/\(∃xs,jg K H1 a xs)/\R (QQ K a) H1
theorem EG {elts:Tj}{x1}{pt:Pos}{a:Expr}{ta:TA}{p pos:Pos}(hg:Gl X "enumerate")(hm:X.mg "enumerate" = none)(ha:PA X [a] ta)(hs:starEach [a] X.env=[(false,eval a X.env)]:=by rfl) :
  PI X (.Tuple elts x1 pt) (.Call (.Name "enumerate" p) [a] [] pos) (Ha X.K ta):=by
 intro pins s Y H R I h;refine Call_ (iV I hg hm (show bootBuiltins "enumerate" = some (.type "enumerate") by decide) (PyProof.Rows.callWith_type1 (cL (ha pos pins s Y H _ I h) fun us s1 hh=>?_) hs rfl));obtain ⟨vs,H1,I1,r1,q1⟩:=hh;obtain ⟨l,e,⟨xs,hq⟩,q⟩:=q1;subst e
 cases r1 with|cons r rr =>
  cases rr;cases r;obtain ⟨its,rv,p,hz⟩:=I1.list hq;refine call_enumerate_list p.isList fun h' he st hsz kk=>?_;refine wpAny_pyIter_enum he ?_;refine ⟨s1.heap.objs.size+1,[s1.heap.objs.size+1,s1.heap.objs.size],_,_,H1,rfl,I1.kept (t':=s1.toks) kk,yG l s1.heap.objs.size (s1.heap.objs.size+1) (Nat.succ_ne_self _),⟨⟨_,he⟩,st⟩,fun b hb=>?_,q⟩;rcases (by simpa using hb:b=s1.heap.objs.size+1\/b=s1.heap.objs.size) with z|z <;> rw [z]
  ·exact I1.fpOk (zcl _) (I1.hok.fresh (zcl _))
  ·exact I1.fpOk (zao _) (I1.hok.fresh (zao _))
end
end L2
namespace HW
variable {K:zac}
open PyProof.Rows L2
structure Hy (K:zac)(J:It)(xs:List D)(P:Hp->Prop):Prop where
 st:∀H H',TF H H'->P H->P H'
 stop:∀i H,P H->xs.length<=i->J.stop i H
 go:∀(i:Nat) d H,xs[i]?=some d->P H->J.go i H
 yld:∀(i:Nat) d H x H',xs[i]?=some d->P H->J.yld i H x H'->(∀a o,H a=some o->H' a=some o)/\ao K H' d x
def Ej (K:zac)(f:FI):TI:=fun Y H R=>∃O U m xs U',dN K m H O Y/\aO K m H U/\f O U=some (xs,U') /\
 ∀J P H' m',c6 m H m' H'->aO K m' H' U'->Hy K J xs P->P H'->R J H'
def uH {m:Tf}{H H':Hp}(s:∀a o,H a=some o->H' a=some o):c6 m H m H' :=
 ⟨⟨[],by simp,fun _ z=>nomatch z⟩,⟨fun a xs e=>s _ _ e,fun a o x e=>s _ _ e⟩,fun a o e _=>s _ _ e,fun a e=>by
  cases q:H a with|none=>rfl|some o=>rw [s _ _ q] at e;cases e⟩
section
variable {K:zac}{m:Tf}{Y:L2.St}{H:Hp}{U:ac}{D:eT}
def Ed {fi g b}(h:g9 K (dF fi g b) D Y H):HZ (Ej K fi) (nN K g) (g9 K b) D Y H:=by
 obtain ⟨O,U,m,o,hl,hs,e,k⟩:=h;obtain ⟨⟨xs,U1⟩,e1,e⟩:=zaa.mp e;refine ⟨O,U,m,xs,U1,hl,hs,e1,fun J P H1 m1 x1 s1 ok p1=>?_⟩;refine ⟨fun i n Y H=>n=xs.length - i/\i<=xs.length/\P H/\∃O U m,dN K m H O Y/\aO K m H U/\cg g b (xs.drop i) O U=some o/\eT.of K m H D o,
  ⟨_,rfl,zbb _,p1,O,U1,m1,dN.ext x1 hl,s1,by simpa using e,eT.of_ext x1 k⟩,?_⟩
 rintro i n Y H ⟨rfl,hi,p,O,U,m,hl,hs,e,k⟩;by_cases hlt:i < xs.length
 ·have hx:xs[i]?=some xs[i]:=zas hlt;rw [zbw hlt,cg] at e;obtain ⟨⟨O1,U1⟩,e1,e⟩:=zaa.mp e;obtain ⟨o1,e2,e⟩:=zaa.mp e;refine .inr ⟨ok.go i _ H hx p,fun Y H=>i+1<=xs.length/\P H/\∃O U m,dN K m H O Y/\aO K m H U/\cg g b (xs.drop (i+1)) O U=some o/\eT.of K m H D o,
   fun Y' H' z=>⟨xs.length - (i+1),by omega,rfl,z⟩,fun x H' y=>?_⟩
  obtain ⟨xe,rx⟩:=ok.yld i _ H x H' hx p y;have x0:c6 m H m H':=uH xe;refine ⟨O,U,m,.v xs[i],O1,U1,dN.ext x0 hl,hs.same xe,rx,e1,fun Y1 H1 m1 x1 s1 l1=>?_⟩;have x1:=x0.trans x1;refine ⟨O1,U1,m1,o1,l1,s1,e2,?_⟩
  cases o1 with|nx O2 U2=>exact fun Y2 H2 m2 x2 s2 l2=>⟨hlt,ok.st _ _ (x1.trans x2).tf p,O2,U2,m2,l2,s2,e,eT.of_ext (x1.trans x2) k⟩|ct O2 U2=>exact fun Y2 H2 m2 x2 s2 l2=>⟨hlt,ok.st _ _ (x1.trans x2).tf p,O2,U2,m2,l2,s2,e,eT.of_ext (x1.trans x2) k⟩|bk O2 U2=>cases e;exact fun Y2 H2 m2 x2 s2 l2=>k Y2 H2 m2 (x1.trans x2) s2 l2|rt d U2=>cases e;exact fun v H2 m2 x2 s2 l2=>k v H2 m2 (x1.trans x2) s2 l2
 ·have:i=xs.length:=by omega
  subst this;rw [zcQ,cg] at e;cases e;exact .inl ⟨ok.stop _ H p (zao _),k Y H m .refl hs hl⟩
end
noncomputable def l6 (xs:List D):List D:=xs.zipIdx.map fun p=>.tup [.int ((p.2:Nat):Int),p.1]
def Fi (f:FE):FI:=fun O U=>(f O U).bind fun a=>match a.1 with|.v (.fl xs)=>some (l6 xs,a.2)|_=>none
def CY {xs:List D}:(l6 xs).length=xs.length:=by simp [l6]
theorem uI {xs:List D}{i:Nat}{d:D}(h:(l6 xs)[i]?=some d):∃x,xs[i]?=some x/\d=.tup [.int (i:Int),x]:=by
 unfold l6 at h;rw [za0,List.getElem?_zipIdx] at h
 cases hx:xs[i]? with|none=>rw [hx] at h;cases h|some x =>
  rw [hx] at h;cases h;exact ⟨x,rfl,by simp⟩
def tu {H:Hp}{T:Addr}{o':HO}(h:H T=none)(a:Addr)(o:HO)(e:H a=some o):upd H T o' a=some o:=by
 have ne:a≠T:=fun z=>by rw [z,h] at e;cases e
 rw [aD ne];exact e
def JX {H:Hp}{a vs xs}(r0:RelDs K H xs vs):Hy K (QQ K a) (l6 xs) (fun H=>HB K H a vs/\RelDs K H xs vs) where
 st:=fun H H' t ⟨f,r⟩=>⟨f.tf t,RelDs.tf t _ _ r⟩
 stop:=fun i H ⟨f,r⟩ hi=>⟨vs,f.sq,by rw [←r.length,←CY];exact hi⟩
 go:=fun i d H e ⟨f,r⟩=>let ⟨x,hx,_⟩:=uI e;let ⟨v,q,_⟩:=r.get hx;⟨vs,v,f.sq,q⟩
 yld:=fun i d H x H' e ⟨f,r⟩ ⟨T,y,e1,e2,e3,e4⟩=>by obtain ⟨z,hz,rfl⟩:=uI e;obtain ⟨v,q,rv⟩:=r.get hz;have:=e4 vs f.sq;rw [q] at this;cases this;subst e1 e3;refine ⟨tu e2,?_⟩;simp only [ao];refine ⟨T,[.int (i:Int),y],rfl,hX.of dj,?_⟩;simp only [RelDs,ao];exact ⟨_,_,rfl,rfl,_,_,rfl,ao.tf (uH (m:=[]) (tu e2)).tf _ _ rv,rfl⟩
def IG {H:Hp}{R:It->Hp->Prop}{f}(h:Ej K (Fi f) Y H R):Ha K (je K (af f ai)) Y H R:=by
 obtain ⟨O,U,m,xs,U',hl,hs,e,k⟩:=h;obtain ⟨⟨x,U1⟩,e1,e⟩:=zaa.mp e;refine ⟨O,U,m,[x],U1,hl,hs,by simp [af,ai,e1],fun vs H1 m1 x1 s1 r1=>?_⟩;split at e
 ·rename_i ys q
  cases e;simp only at q;subst q;obtain ⟨v,r,rfl,r1,r2⟩:=r1;have r2:r=[]:=r2;simp only [au,ao] at r1;obtain ⟨a,ws,rfl,fa,ra⟩:=r1;subst r2;exact ⟨a,rfl,⟨ws,fa.sq⟩,k _ _ H1 m1 x1 s1 (JX ra) ⟨fa,ra⟩⟩
 ·cases e
noncomputable def yQ (i:Nat)(g:Int->Int->Int)(f:FE):FS:=fun O U=>match O[i]? with
 |some (some (.v (.int a)))=>(f O U).bind fun r=>(match r with|(.v (.int b),U1)=>some (.nx (O.set i (some (.v (.int (g a b))))) U1)|_=>none)
 |_=>none
def IS {H:Hp}{D:eT}{i:Nat}{g:Int->Int->Int}{f:FE}(h:g9 K (yQ i g f) D Y H):Lz i (az K f) (RN g) D Y H:=by
 obtain ⟨O,U,m,o,hl,hs,e,k⟩:=h;unfold yQ at e;split at e
 ·rename_i a ha;obtain ⟨⟨x,U1⟩,e1,e⟩:=zaa.mp e;split at e
  ·rename_i b U2 hx
   cases hx;cases e;obtain ⟨v,hv,rv⟩:=hl.2 _ _ ha;simp only [au,ao] at rv;subst rv;refine ⟨_,hv,O,U,m,_,_,hl,hs,e1,fun v H1 m1 x1 s1 r1=>?_⟩;simp only [au,ao] at r1;subst r1;exact ⟨a,b,rfl,rfl,k _ H1 m1 x1 s1 ((dN.ext x1 hl).set (by simp only [au,ao]) i)⟩
  ·cases e
 ·cases e
def ky (kvs:List (aH×D))(k:aH):Option D:=(kvs.find? fun kv=>decide (kv.1=k)).map (·.2)
theorem KD.val {K:zac}{H:Hp}:∀{kvs:List (aH×D)} {es:List (aH×V)} (k:aH),KD K H kvs es->(ky kvs k=none/\b9 es k=none)\/∃d v,ky kvs k=some d/\b9 es k=some v/\ao K H d v
 |[],es,k,h=>by
  have:es=[]:=by simpa using h.1
  subst this;exact .inl ⟨rfl,rfl⟩
 |(a,d)::kvs,[],k,h=>by have:=h.1;simp at this|(a,d)::kvs,(b,v)::es,k,h=>by
  obtain ⟨rfl,h1,h2⟩:=KD.cons.mp h;by_cases e:b=k
  ·refine .inr ⟨d,v,?_,?_,h1⟩
   ·simp [ky,e]
   ·simp [b9,e]
  ·have ih:=KD.val k h2;have e1:ky ((b,d)::kvs) k=ky kvs k:=(by simp [ky,e]);have e2:b9 ((b,v)::es) k=b9 es k:=gF e;rw [e1,e2];exact ih
noncomputable def nE (x:R)(U:ac):Option (List (aH×D)):=match x with
 |.p n=>match U[n]? with|some (.dct kvs)=>some kvs|some (.fzd kvs)=>some kvs|_=>none
 |.v (.fd ks ds)=>if ks.length=ds.length then some (ks.zip ds) else none|_=>none
def B9 {m:Tf}{H:Hp}{U:ac}{x:R}{v:V}{kvs:List (aH×D)}(s:aO K m H U)(r:au K m H x v)(e:nE x U=some kvs):∃a es,v=.ref a/\Rd H a (.dK es)/\KD K H kvs es:=by
 unfold nE at e;split at e
 ·rename_i n;obtain ⟨a,rfl,ha⟩:=r;split at e
  ·rename_i q
   cases e;obtain ⟨es,ea,e1,e2⟩:=s.cell _ _ a q ha;exact ⟨a,es,rfl,.inl ea,e1,e2⟩
  ·rename_i q
   cases e;obtain ⟨o,es,ea,e1,e2⟩:=s.cell _ _ a q ha;exact ⟨a,es,rfl,.inr ⟨o,ea⟩,e1,e2⟩
  ·cases e
 ·rename_i ks ds;split at e
  ·rename_i hl
   cases e;simp only [au,ao] at r;obtain ⟨a,o,es,rfl,ea,e1,e2⟩:=r;refine ⟨a,es,rfl,.inr ⟨o,ea⟩,?_,?_⟩
   ·rw [zcR (by simp [hl]),e1]
   ·rw [zcS (by simp [hl])];exact e2
  ·cases e
 ·cases e
def uG (fo fk fx:FE):FE:=fun O U=>(fo O U).bind fun o=>if (nE o.1 o.2).isSome=true then (fk O o.2).bind fun k=>(fx O k.2).bind fun x=>(nE o.1 x.2).bind fun kvs=>(ee k.1).bind fun key=>some ((match ky kvs key with|some d=>.v d|none=>x.1),x.2) else none
def II {H:Hp}{Q:VK}{fo fk fx}(h:az K (uG fo fk fx) Y H Q):AI (az K fo) (az K fk) (az K fx) Y H Q:=by
 obtain ⟨O,U,m,d,U',hl,hs,e,kk⟩:=h;obtain ⟨⟨o,U1⟩,e1,e⟩:=zaa.mp e;split at e
 ·rename_i h0;obtain ⟨⟨k,U2⟩,e2,e⟩:=zaa.mp e;obtain ⟨⟨x,U3⟩,e3,e⟩:=zaa.mp e;obtain ⟨kvs,e4,e⟩:=zaa.mp e;obtain ⟨key,e5,e⟩:=zaa.mp e;cases e;refine ⟨O,U,m,o,U1,hl,hs,e1,fun vo H1 m1 x1 s1 r1=>?_⟩;obtain ⟨kvs0,e0⟩:=zb4.mp h0;obtain ⟨a,es,rfl,hR,hK⟩:=B9 s1 r1 e0;refine ⟨a,rfl,.inl ⟨es,hR⟩,?_⟩;refine ⟨O,U1,m1,k,U2,hl.ext x1,s1,e2,fun vk H2 m2 x2 s2 r2=>?_⟩;refine ⟨O,U2,m2,x,U3,hl.ext (x1.trans x2),s2,e3,fun vx H3 m3 x3 s3 r3=>?_⟩;obtain ⟨a',es',ea,hR',hK'⟩:=B9 s3 (r1.ext (x2.trans x3)) e4;cases ea;have hk:=lT (r2.ext x3) e5;refine ⟨b9 es' key,.inl ⟨es',key,hR',hk,rfl⟩,?_⟩;rcases KD.val key hK' with ⟨n1,n2⟩|⟨dd,vv,n1,n2,n3⟩
  ·rw [n2];simp only [n1] at kk;exact kk _ H3 m3 ((x1.trans x2).trans x3) s3 r3
  ·rw [n2];simp only [n1] at kk;exact kk _ H3 m3 ((x1.trans x2).trans x3) s3 n3
 ·cases e
end HW
namespace HS
open PyProof.Rows
end HS
namespace HW
open PyProof.Rows L2 HS
end HW
namespace HS
open PyProof.Rows
end HS
namespace HW
open PyProof.Rows L2 HS
end HW
namespace HX
abbrev eO (C:Value)(vs:Ti):Obj:={cls:=C,dict:=none,data:=.fields vs,slots:=#[]}
structure Fl (G:Addr->Prop)(h:Heap)(e:Addr)(C fl:Value):Prop where
 is:∃vs T ts c,¬ G e/\¬ G T/\T≠e/\h.get? e=some (eO C vs)/\vs[1]?=some (.ref T)/\h.get? T=some (eO c ts)/\ts[3]?=some fl
 all:∀b,G b->∃o,h.get? b=some o
end HX
namespace HW
open PyProof.Rows L2
abbrev Si (K:zac)(c:Str)(C:Addr):Prop:=PySem.W.nsIn K mainGlobals c=some (some (.ref C))
structure SR (K:zac)(D:Addr):Prop where
 dc:PySem.W.hasDictIn K D=true
 ga:PySem.W.findIn K (.ref D) "__getattribute__" = some (some (.builtin "BaseException.__getattribute__"))
 gn:PySem.W.findIn K (.ref D) "__getattr__" = some none
 fi:PySem.W.findIn K (.ref D) "__class__" = some (some (.builtin "object.__class__"))
 mr:PySem.W.mroIn K D (.type "object")=some true
 mb:PySem.W.mroIn K D (.type "BaseException")=some true
 gt:PySem.W.specialIn K (.builtin "object.__class__") "__get__" = some (some (.builtin "getset_descriptor.__get__"))
 tk:PySem.W.takesIn K (.builtin "object.__class__")=some true
end HW
namespace HW
open L2
end HW
namespace HX
end HX
namespace HW
open PyProof.Rows L2
end HW
namespace HS
open PyProof.Rows
def OD (xs:Array Keyed)(lo hi:Nat):Prop:=∀i j,lo<=i->i<=j->j < hi->K xs i<=K xs j
def ni (lo hi:Nat)(xs ys:Array Keyed):Prop:=∀k,¬ (lo<=k/\k < hi)->ys[k]?=xs[k]?
structure SB (a₀:Array Keyed)(st:SortSt):Prop where
 perm:(arrOf st).Perm a₀
 kind:kindOf st=oneType'
 ok:failedOf st=none
structure SW (a₀:Array Keyed)(lo hi:Nat)(st st':SortSt):Prop where
 b:SB a₀ st'
 pend:pendingOf st'=pendingOf st
 out:ni lo hi (arrOf st) (arrOf st')
section
variable {prog:Program}{w:World}{A:Around}{E:Tb}{s:Shared}
def Mr {st:SortSt}{a b:Int}{t u:Tok}{p q:Value}{Q:Option Bool->SortSt->Prop}(hk:kindOf st=oneType')(h:Q (some (decide (a < b))) st):wpS (model prog w) A E s (lt' (.int a t,p) (.int b u,q)) Q st:=by rw [lt'_eq];refine wpS_bind (wpS_get ?_);rw [hk,keyLt'_oneType];exact wpS_bind (wpS_lift (zbI (oneLt_int ⟨rfl,wpS_pure h⟩)))
def IK (xs:Array Keyed):Prop:=∀i,i < xs.size->∃t q,xs[i]?=some (.int (K xs i) t,q)
end
def kk (p:Keyed):Int:=numOf p.1
def Le (x y:Keyed):Prop:=kk x<=kk y
structure Mg (A B Ozz:List Keyed)(ia ib:Nat):Prop where
 perm:(Ozz++A.drop ia++B.drop ib).Perm (A++B)
 srt:Ozz.Pairwise Le
 toA:∀x∈Ozz,∀y∈A.drop ia,Le x y
 toB:∀x∈Ozz,∀y∈B.drop ib,Le x y
 len:Ozz.length=ia+ib
structure Sl (st st':SortSt):Prop where
 kind:kindOf st'=kindOf st
 arr:arrOf st'=arrOf st
 pend:pendingOf st'=pendingOf st
 ok:failedOf st'=failedOf st
section
structure SX (a b:Array Keyed):Prop where
 ka:IK a
 kb:IK b
 sa:OD a 0 a.size
 sb:OD b 0 b.size
 na:0 < a.size
 nb:0 < b.size
end
structure Mh (A B Ozz:List Keyed)(na nb:Nat):Prop where
 perm:(A.take na++B.take nb++Ozz).Perm (A++B)
 srt:Ozz.Pairwise Le
 toA:∀x∈A.take na,∀y∈Ozz,Le x y
 toB:∀x∈B.take nb,∀y∈Ozz,Le x y
structure Wb (xs ys:Array Keyed)(lo hi:Nat):Prop where
 perm:ys.Perm xs
 out:ni lo hi xs ys
 src:∀q,lo<=q->q < hi->∃r,lo<=r/\r < hi/\K ys q=K xs r
 srt:OD ys lo hi
def Nt (xs:Array Keyed):List (Nat×Nat×Nat)->Nat->Nat->Prop
 |[],b,e=>b=e|(a,n,_)::r,b,e=>a=b/\0 < n/\OD xs a (a+n)/\Nt xs r (b+n) e
structure QK (a₀:Array Keyed)(st:SortSt)(lo:Nat):Prop where
 b:SB a₀ st
 r:Nt (arrOf st) (pendingOf st).toList 0 lo
open L2
end HS
namespace HW
open PyProof.Rows L2 HS
end HW
namespace HS
open PyProof.Rows
end HS
namespace HW
open PyProof.Rows L2 HS
end HW
namespace HW
variable {K:zac}
open PyProof.Rows L2
def KR (K:zac)(m:Tf)(H:Hp)(kvs:List (aH×R))(es:List (aH×V)):Prop:=es.map (·.1)=kvs.map (·.1)/\bi K m H (kvs.map (·.2)) (es.map (·.2))
def cO (kvs:List (aH×R))(k:aH):Option R:=(kvs.find? fun kv=>decide (kv.1=k)).map (·.2)
section
variable {K:zac}{m m':Tf}{H H':Hp}
def KR.nil:KR K m H [] []:=⟨rfl,rfl⟩
def KR.cons {k k':aH}{d:R}{v:V}{kvs:List (aH×R)}{es:List (aH×V)}:KR K m H ((k,d)::kvs) ((k',v)::es) ↔ k'=k/\au K m H d v/\KR K m H kvs es:=by
 constructor
 ·rintro ⟨h1,h2⟩;simp only [zaf,List.cons.injEq] at h1;obtain ⟨w,r,e,h3,h4⟩:=h2;simp only [zaf,List.cons.injEq] at e;obtain ⟨rfl,rfl⟩:=e;exact ⟨h1.1,h3,h1.2,h4⟩
 ·rintro ⟨rfl,h1,h2,h3⟩;exact ⟨by simp [h2],⟨_,_,rfl,h1,h3⟩⟩
theorem KR.snoc {k:aH}{d:R}{v:V}(rd:au K m H d v):∀{kvs:List (aH×R)} {es:List (aH×V)},KR K m H kvs es->KR K m H (kvs++[(k,d)]) (es++[(k,v)])
 |[],[],_=>KR.cons.mpr ⟨rfl,rd,.nil⟩|[],e::es,h=>by have:=h.1;simp at this|q::kvs,[],h=>by have:=h.1;simp at this|(a,x)::kvs,(b,y)::es,h=>by obtain ⟨rfl,h1,h2⟩:=KR.cons.mp h;exact KR.cons.mpr ⟨rfl,h1,KR.snoc rd h2⟩
theorem KR.val:∀{kvs:List (aH×R)} {es:List (aH×V)} (k:aH),KR K m H kvs es->(cO kvs k=none/\b9 es k=none)\/∃d v,cO kvs k=some d/\b9 es k=some v/\au K m H d v
 |[],es,k,h=>by
  have:es=[]:=by simpa using h.1
  subst this;exact .inl ⟨rfl,rfl⟩
 |(a,d)::kvs,[],k,h=>by have:=h.1;simp at this|(a,d)::kvs,(b,v)::es,k,h=>by
  obtain ⟨rfl,h1,h2⟩:=KR.cons.mp h;by_cases e:b=k
  ·refine .inr ⟨d,v,?_,?_,h1⟩
   ·simp [cO,e]
   ·simp [b9,e]
  ·have ih:=KR.val k h2;have e1:cO ((b,d)::kvs) k=cO kvs k:=(by simp [cO,e]);have e2:b9 ((b,v)::es) k=b9 es k:=gF e;rw [e1,e2];exact ih
def KR.ext (x:c6 m H m' H'){kvs:List (aH×R)}{es:List (aH×V)}(h:KR K m H kvs es):KR K m' H' kvs es:=⟨h.1,bi.ext x h.2⟩
def KR.len {kvs:List (aH×R)}{es:List (aH×V)}(h:KR K m H kvs es):es.length=kvs.length:=by simpa using congrArg List.length h.1
end
def GH (td ty tx:TE):TE:=fun Y H Q=>td Y H fun x H1=>∃a,x=.ref a/\OI H1 a/\ty Y H1 fun y H2=>tx Y H2 fun z H3=>∃kvs k,H3 a=some (.dK kvs)/\y=kV k/\kvs.length < sizeLine /\
 (∀v,b9 kvs k=some v->Q v H3)/\(b9 kvs k=none->Q z (upd H3 a (.dK (kvs++[(k,z)]))))
def EM {o e f:Expr}{apos cpos:Pos}{td ty tx:TE}(ho:PE X o td)(he:PE X e ty)(hf:PE X f tx)(m:M2 X o "setdefault" apos e f cpos):PE X (.Call (.Attribute o "setdefault" apos) [e,f] [] cpos) (GH td ty tx):=by
 intro pins s Y H Q I h;refine zdj m.base m.few m.line PySem.F.plainAttrs_dict PySem.F.slot_dict_setdefault PySem.F.type_dict_setdefault (cL (ho pins s Y H _ I h) fun u s1 hh=>?_);obtain ⟨x,H1,I1,rx,a,ex,d,q1⟩:=hh;subst ex;obtain rfl:u=Value.ref a:=rx;obtain ⟨t1,t2,_⟩:=wm I1 d;refine ⟨t1,t2,?_⟩;rw [m.trees];refine Calls.callWith_builtin rfl (Calls.evalArgs_plain (Calls.spliced_cons (cL (he pins s1 Y H1 _ I1 q1) fun iv s2 hh=>?_)));obtain ⟨y,H2,I2,ry,q2⟩:=hh;refine Calls.spliced_cons (cL (hf pins s2 Y H2 _ I2 q2) fun fv s3 hh=>Calls.spliced_nil ?_);obtain ⟨z,H3,I3,rz,kvs,k,ea,ey,hz,qa,qb⟩:=hh;subst ey;obtain ⟨zz,hd,vs,rel,dd⟩:=C4 I3.hok ea;refine call_meetsIn PySem.F.slot_dict_setdefault dd.typeIs PySem.F.entry_dict_setdefault (PySem.F.args_dict_setdefault_3 _ _ _) (kt_meets_setdefault (aY X.prog X.w) a (m5 ry) hd fv) ⟨vs,dd,by rw [←rel.length];exact zz,fun v hv=>?_,fun hn h' dd' hs=>?_⟩
 ·have r:=rel.val k;rw [hv] at r
  cases q:b9 kvs k with|none=>rw [q] at r;exact r.elim|some v'=>rw [q] at r;exact ⟨v',H3,I3.tok _,r,qa v' q⟩
 ·have r:=rel.val k;rw [hn] at r
  cases q:b9 kvs k with|some v'=>rw [q] at r;exact r.elim|none =>
   have he:∃q,h'.get? a=some q:=let ⟨q,_,_,hq,_⟩:=dd';⟨q,hq⟩;have rp:=rel.put k rz;rw [oF _ q] at rp;exact ⟨z,_,l8 I3 (by rw [ea];exact True.intro) hs he (wG (by rw [za1];exact hz) hd rp dd'),rz,qb q⟩
def uM (U:ac)(n:Nat):Option (List (aH×R)):=match U[n]? with|some (.dr kvs)=>some kvs|_=>none
def o8 (fo fk fx:FE):FE:=fun O U=>(fo O U).bind fun o=>match o.1 with
 |.p n=>if (uM o.2 n).isSome=true then (fk O o.2).bind fun k=>(fx O k.2).bind fun x=>(uM x.2 n).bind fun kvs=>(ee k.1).bind fun key =>
  if kvs.length < 1000 then some (match cO kvs key with|some r=>(r,x.2)|none=>(x.1,x.2.set n (.dr (kvs++[(key,x.1)])))) else none else none
 |_=>none
def C3 {m:Tf}{H:Hp}{U:ac}{n:Nat}{a:Addr}{kvs:List (aH×R)}(s:aO K m H U)(ha:m[n]?=some a)(e:uM U n=some kvs):U[n]?=some (.dr kvs)/\∃es,H a=some (.dK es)/\KR K m H kvs es:=by
 unfold uM at e;split at e
 ·rename_i q
  cases e;obtain ⟨es,ea,e1,e2⟩:=s.cell _ _ a q ha;exact ⟨q,es,ea,e1,e2⟩
 ·cases e
def D9 {H:Hp}{Q:VK}{fo fk fx}(h:az K (o8 fo fk fx) Y H Q):GH (az K fo) (az K fk) (az K fx) Y H Q:=by
 obtain ⟨O,U,m,d,U',hl,hs,e,kk⟩:=h;obtain ⟨⟨o,U1⟩,e1,e⟩:=zaa.mp e;split at e
 ·rename_i n hn;simp only at hn;subst hn;split at e
  ·rename_i h0;obtain ⟨⟨k,U2⟩,e2,e⟩:=zaa.mp e;obtain ⟨⟨x,U3⟩,e3,e⟩:=zaa.mp e;obtain ⟨kvs,e4,e⟩:=zaa.mp e;obtain ⟨key,e5,e⟩:=zaa.mp e;split at e
   ·rename_i hlt;refine ⟨O,U,m,_,U1,hl,hs,e1,fun vo H1 m1 x1 s1 r1=>?_⟩;obtain ⟨kvs0,e0⟩:=zb4.mp h0;obtain ⟨a,rfl,ha⟩:=r1;obtain ⟨_,es,hR,hK⟩:=C3 s1 ha e0;refine ⟨a,rfl,.inl ⟨es,.inl hR⟩,?_⟩;refine ⟨O,U1,m1,k,U2,hl.ext x1,s1,e2,fun vk H2 m2 x2 s2 r2=>?_⟩;refine ⟨O,U2,m2,x,U3,hl.ext (x1.trans x2),s2,e3,fun vx H3 m3 x3 s3 r3=>?_⟩;have x13:=(x1.trans x2).trans x3;have ha3:m3[n]?=some a:=by obtain ⟨a',ea',q⟩:=au.ext (x2.trans x3) (show au K m1 H1 (.p n) (.ref a) from ⟨a,rfl,ha⟩);cases ea';exact q
    obtain ⟨q3,es',hR',hK'⟩:=C3 s3 ha3 e4;have hk:=lT (r2.ext x3) e5;refine ⟨es',key,hR',hk,?_,fun v hv=>?_,fun hv=>?_⟩
    ·rw [hK'.len];exact zaA hlt (by rw [zba];omega)
    ·rcases KR.val key hK' with ⟨n1,n2⟩|⟨dd,vv,n1,n2,n3⟩
     ·rw [n2] at hv;cases hv
     ·rw [n2] at hv;cases hv;simp only [n1] at e;cases e;exact kk _ H3 m3 x13 s3 n3
    ·rcases KR.val key hK' with ⟨n1,n2⟩|⟨dd,vv,n1,n2,n3⟩
     ·simp only [n1] at e
      cases e;have y:c6 m3 H3 m3 (upd H3 a (.dK (es'++[(key,vx)]))):=.put (zaI ha3) hR' (by simp) (by simp);have kr:=KR.snoc (k:=key) (r3.ext y) (hK'.ext y);exact kk _ _ m3 (x13.trans y) (s3.put ha3 hR' (by simp) (by simp) ⟨_,bf,kr.1,kr.2⟩) (r3.ext y)
     ·rw [n2] at hv;cases hv
   ·cases e
  ·cases e
 ·cases e
inductive F0 (B:Hp->Prop):Hp->Prop
 |here {H}:B H->F0 B H
 |step {H} (a:Addr) (u:HO):H a=some u->f9 u->(∀o,F0 B (upd H a (.frz o u)))->F0 B H
def Ly (t:TE):TE:=fun Y H Q=>t Y H fun v H1=>F0 (Q v) H1
theorem Fe {B:Hp->Prop}{H:Hp}(f:F0 B H):∀{s:Shared},aF X pins Y H s->∃H',aF X pins Y H' s/\B H':=by
 induction f with|here b=>exact fun I=>⟨_,I,b⟩|step a u e hu _ ih =>
  intro s I;obtain ⟨o,I2⟩:=aF.frz I e hu;exact ih o I2
def Jw {t:TE}(h:PE X e t):PE X e (Ly t):=fun pins s Y H Q I q=>by refine cL (h pins s Y H _ I q) fun v s1 hh=>?_;obtain ⟨x,H1,I1,r1,q1⟩:=hh;obtain ⟨H2,I2,q2⟩:=Fe q1 I1;exact ⟨x,H2,I2,r1,q2⟩
noncomputable def NQ:R->ac->Option (D×ac)
 |.v d,U=>some (d,U)|.p n,U=>match U[n]? with|some (.lst xs)=>some (.fl xs,U.set n (.fz xs))|some (.fz xs)=>some (.fl xs,U)|_=>none
 |_,_=>none
noncomputable def zx:List R->ac->Option (List D×ac)
 |[],U=>some ([],U)|x::r,U=>(NQ x U).bind fun a=>(zx r a.2).bind fun b=>some (a.1::b.1,b.2)
def Fj (f:FE):FE:=fun O U=>(f O U).bind fun a=>match a.1 with
 |.p n=>(uM a.2 n).bind fun kvs=>(zx (kvs.map (·.2)) a.2).bind fun b=>some (.v (.fd (kvs.map (·.1)) b.1),b.2.set n (.fzd ((kvs.map (·.1)).zip b.1)))|_=>none
def vb (m:Tf)(U:ac)(H:Hp)(U':ac)(H':Hp):Prop:=∀(n:Nat) kvs a,U[n]?=some (.dr kvs)->m[n]?=some a->U'[n]?=some (.dr kvs)/\H' a=H a
section
variable {K:zac}{m:Tf}
def vb.refl {U H}:vb m U H U H:=fun _ _ _ h _=>⟨h,rfl⟩
def vb.trans {U H U1 H1 U2 H2}(a:vb m U H U1 H1)(b:vb m U1 H1 U2 H2):vb m U H U2 H2:=fun n k c h1 h2 =>
 let ⟨p,q⟩:=a n k c h1 h2
 let ⟨p',q'⟩:=b n k c p h2
 ⟨p',q'.trans q⟩
theorem J9 {H:Hp}{U U':ac}{x:R}{d:D}{v:V}{B:Hp->Prop}(hs:aO K m H U)(r:au K m H x v)(e:NQ x U=some (d,U'))
  (k:∀H',c6 m H m H'->aO K m H' U'->ao K H' d v->vb m U H U' H'->F0 B H'):F0 B H:=by
 cases x with|v d'=>cases e;exact k H .refl hs r .refl|s b xs=>cases e|x _=>cases e|f _ _=>cases e|p n =>
  obtain ⟨a,rfl,ha⟩:=r;simp only [NQ] at e;split at e
  ·rename_i xs q
   cases e;obtain ⟨vs,ea,rr⟩:=hs.cell n _ a q ha;refine .step a _ ea trivial fun o=>?_;have x:c6 m H m (upd H a (.frz o (.lst vs))):=.put (zaI ha) ea (by simp) (by simp);refine k _ x (hs.put ha ea (by simp) (by simp) ⟨o,vs,bf,RelDs.tf x.tf _ _ rr⟩) ?_ fun n' kvs a' h1 h2=>?_
   ·simp only [ao]
    exact ⟨a,vs,rfl,.inl ⟨o,bf⟩,RelDs.tf x.tf _ _ rr⟩
   ·have hne:n'≠n:=by rintro rfl;rw [q] at h1;cases h1
    refine ⟨by rw [zak (Ne.symm hne)];exact h1,?_⟩
    have:a'≠a:=by
     rintro rfl;obtain ⟨p1,q1⟩:=zau.mp h2;obtain ⟨p2,q2⟩:=zau.mp ha;exact hne ((zbJ hs.nd).mp (q1.trans q2.symm))
    unfold upd;rw [if_neg this]
  ·rename_i xs q
   cases e;obtain ⟨o,vs,ea,rr⟩:=hs.cell n _ a q ha;refine k H .refl hs ?_ .refl;simp only [ao];exact ⟨a,vs,rfl,.inl ⟨o,ea⟩,rr⟩
  ·cases e
theorem xZ:∀{xs:List R} {H:Hp} {U U':ac} {ds:List D} {vs:List V} {B:Hp->Prop},aO K m H U->bi K m H xs vs->zx xs U=some (ds,U') ->
  (∀H',c6 m H m H'->aO K m H' U'->RelDs K H' ds vs->vb m U H U' H'->F0 B H')->F0 B H
 |[],H,U,U',ds,vs,B,hs,r,e,k=>by
  cases e;exact k H .refl hs (by have r:vs=[]:=r;subst r;simp only [RelDs]) .refl
 |x::xs,H,U,U',ds,vs,B,hs,r,e,k=>by
  obtain ⟨v,ws,rfl,r1,r2⟩:=r;obtain ⟨⟨d1,U1⟩,e1,e⟩:=zaa.mp e;obtain ⟨⟨ds1,U2⟩,e2,e⟩:=zaa.mp e;cases e;refine J9 hs r1 e1 fun H1 x1 s1 rd1 st1=>xZ s1 (bi.ext x1 r2) e2 fun H2 x2 s2 rd2 st2=>?_;exact k H2 (x1.trans x2) s2 (by simp only [RelDs];exact ⟨v,ws,rfl,ao.tf x2.tf _ _ rd1,rd2⟩) (st1.trans st2)
theorem ur:∀{xs:List R} {U U':ac} {ds:List D},zx xs U=some (ds,U')->ds.length=xs.length
 |[],_,_,_,e=>by cases e;rfl|x::xs,_,_,_,e=>by obtain ⟨⟨d1,U1⟩,e1,e⟩:=zaa.mp e;obtain ⟨⟨ds1,U2⟩,e2,e⟩:=zaa.mp e;cases e;simp [ur e2]
def IM {H:Hp}{Q:VK}{f}(h:az K (Fj f) Y H Q):Ly (az K f) Y H Q:=by
 obtain ⟨O,U,m,d,U',hl,hs,e,k⟩:=h;obtain ⟨⟨x,U1⟩,e1,e⟩:=zaa.mp e;refine ⟨O,U,m,x,U1,hl,hs,e1,fun v H1 m1 x1 s1 r1=>?_⟩;split at e
 ·rename_i n hn;simp only at hn;subst hn;obtain ⟨kvs,e2,e⟩:=zaa.mp e;obtain ⟨⟨ds,U2⟩,e3,e⟩:=zaa.mp e;cases e;obtain ⟨a,rfl,ha⟩:=r1;obtain ⟨q,es,ea,hk⟩:=C3 s1 ha e2;refine xZ s1 hk.2 e3 fun H2 x2 s2 rd st=>?_;obtain ⟨q',ea'⟩:=st n kvs a q ha;have ea2:H2 a=some (.dK es):=ea'.trans ea;refine .step a _ ea2 trivial fun o=>.here ?_;have x3:c6 m1 H2 m1 (upd H2 a (.frz o (.dK es))):=.put (zaI ha) ea2 (by simp) (by simp);have hl1:(kvs.map (·.1)).length=ds.length:=by have:=ur e3;simpa using this.symm
  refine k _ _ m1 ((x1.trans x2).trans x3) (s2.put ha ea2 (by simp) (by simp) ⟨o,es,bf,?_,?_⟩) ?_
  ·rw [zcR (Nat.le_of_eq hl1)];exact hk.1
  ·rw [zcS (Nat.le_of_eq hl1.symm)];exact RelDs.tf x3.tf _ _ rd
  ·simp only [au,ao];exact ⟨a,o,es,rfl,bf,hk.1,RelDs.tf x3.tf _ _ rd⟩
 ·cases e
end
noncomputable def mI (g:FG)(c:FT)(f:FE):List D->Lo->ac->Option (List (Int×Nat)×ac)
 |[],O,U=>some ([],U)|x::xs,O,U=>(g (.v x) O U).bind fun a=>(c a.1 a.2).bind fun b=>if b.1=true then (f a.1 b.2).bind fun y=>match y.1 with
   |.v (.int i)=>(mI g c f xs a.1 (y.2++[.lst []])).bind fun r=>some ((i,y.2.length)::r.1,r.2)|_=>none
  else none
def zj (l:List (Int×Nat)):List (aH×R):=l.map fun p=>(.inl p.1,.p p.2)
def Hi (ix:List Nat)(k:Nat)(fi:FI)(g:FG)(c:FT)(f:FE):FE:=fun O U=>(fi O U).bind fun a=>if a.1.length<=1000 then (mI g c f a.1 (dg k ix O) a.2).bind fun r =>
 if (r.1.map (·.1)).Nodup then some (.p r.2.length,r.2++[.dr (zj r.1)]) else none else none
theorem oE:∀(ps kvs:List (aH×V)),(kvs++ps).map (·.1) |>.Nodup->mv kvs ps=kvs++ps
 |[],kvs,_=>by simp [mv]|p::ps,kvs,h=>by
  have e:eB kvs p.1 p.2=kvs++[p]:=by
   refine oF _ ?_
   cases q:b9 kvs p.1 with|none=>rfl|some v =>
    exfalso;unfold b9 at q;obtain ⟨kv,q1,q2⟩:=zaQ.mp q;have h1:=zcv q1;have h2:=zcZ q1;simp only [decide_eq_true_eq] at h2;rw [zaX,zbu] at h;exact h.2.2 kv.1 (zaZ h1) p.1 (by simp) h2
  have ih:=oE ps (kvs++[p]) (by simpa using h);unfold mv at ih ⊢;rw [zbj,e,ih];simp
section
variable {K:zac}{Y:L2.St}{H:Hp}{Q:VK}
theorem eS.tf {H H':Hp}(t:TF H H'){ws:List V}{es:List (aH×V)}(h:eS K H ws es):eS K H' ws es:=by
 unfold eS at h ⊢;induction h with|nil=>exact .nil|cons h _ ih=>obtain ⟨a,e,q⟩:=h;exact .cons ⟨a,e,hX.tf t q⟩ ih
theorem eS.snoc {H:Hp}{ws:List V}{es:List (aH×V)}{v:V}{e:aH×V}(h:eS K H ws es)(q:∃t,v=.ref t/\hX K H t [kV e.1,e.2]):eS K H (ws++[v]) (es++[e]):=by
 unfold eS at h ⊢;induction h with|nil=>exact .cons q .nil|cons h _ ih=>exact .cons h ih
def LK {ix:List Nat}{k:Nat}{own:Tl}{fi:FI}{g:FG}{c:FT}{f:FE}(hk:own.length=k)(h:az K (Hi ix k fi g c f) Y H Q) :
  H9 (Bo K) (lF (xm ix own (vc K fi) (nN K g) (fZ K c) (HV (lF (az K f) (lF (HY sS) sS)))) sS) Y H Q:=by
 obtain ⟨O,U,m,d,U',hl,hs,e,kk⟩:=h;obtain ⟨⟨xs,U1⟩,e1,e⟩:=zaa.mp e;split at e
 ·rename_i hz
  obtain ⟨⟨r,Ur⟩,e2,e⟩:=zaa.mp e;split at e
  ·rename_i hnd
   cases e;refine ⟨O,U,m,xs,U1,hl,hs,e1,fun J P H1 m1 x1 s1 ok p1=>?_⟩
   refine ⟨fun i n ys τ H=>n=xs.length - i/\i<=xs.length/\ys.length<=i/\P H/\∃O U m qs r' es,dN K m H O τ/\aO K m H U/\eS K H ys es/\KR K m H (zj qs) es/\mI g c f (xs.drop i) O U=some (r',Ur)/\r=qs++r' /\
    ∀v H' m',c6 m H m' H'->aO K m' H' (Ur++[.dr (zj r)])->au K m' H' (.p Ur.length) v->Q v H',
    ⟨_,rfl,zbb _,zao _,p1,_,U1,m1,[],r,[],qJ hk (hl.ext x1),s1,.nil,.nil,by simpa using e2,rfl,fun v H' m' x2 s2 r2=>kk v H' m' (x1.trans x2) s2 r2⟩,?_⟩
   rintro i n ys τ H ⟨rfl,hi,hy,p,O,U,m,qs,r',es,hl,hs,rs,kr,e,er,kk⟩
   by_cases hlt:i < xs.length
   ·have hx:xs[i]?=some xs[i]:=zas hlt
    rw [zbw hlt,mI] at e;obtain ⟨⟨O1,U2⟩,q1,e⟩:=zaa.mp e;obtain ⟨⟨b,U3⟩,q2,e⟩:=zaa.mp e;refine .inr ⟨ok.go i _ H hx p,zcx hy (zaA hlt (zbo hz (by rw [zba];omega))),fun x H' y=>?_⟩;obtain ⟨rfl,rx⟩:=ok.yld i _ H x H' hx p y;refine ⟨O,U,m,.v xs[i],O1,U2,hl,hs,rx,q1,fun Y1 H1 m1 x1 s1 l1=>?_⟩;refine ⟨O1,U2,m1,b,U3,l1,s1,q2,fun H2 m2 x2 s2=>?_⟩
    cases b with
    |true =>
     simp only [if_true] at e ⊢;obtain ⟨⟨y',U4⟩,q3,e⟩:=zaa.mp e;refine ⟨O1,U3,m2,y',U4,l1.ext x2,s2,q3,fun w H3 m3 x3 s3 r3=>?_⟩;split at e
     ·rename_i j hj
      simp only at hj;subst hj;obtain ⟨⟨r1,U5⟩,q4,e⟩:=zaa.mp e;cases e
      have r3:w=.int j:=by simpa only [au,ao] using r3
      subst r3;refine ⟨zbb _,fun l hl0=>?_⟩;refine ⟨by simp only [zaD,zci];rw [zba];omega,fun t ht0=>?_⟩;have x4:=(x1.trans x2).trans x3;have x5:c6 m3 H3 (m3++[l]) (upd H3 l (.lst [])):=.newH hl0;have s5:aO K (m3++[l]) (upd H3 l (.lst [])) (U4++[.lst []]):=s3.newH hl0 ⟨_,bf,by simp only [RelDs]⟩;have x6:c6 (m3++[l]) (upd H3 l (.lst [])) (m3++[l]) (upd (upd H3 l (.lst [])) t (.tup [.int j,.ref l])):=.new ht0;have s6:=s5.same (bW ht0 (o:=.tup [.int j,.ref l]));have x7:=x4.trans (x5.trans x6)
      refine ⟨_,(by omega:xs.length - (i+1) < xs.length - i),rfl,hlt,by rw [za1];exact Nat.succ_le_succ hy,ok.st _ _ x7.tf p,O1,_,_,qs++[(j,U4.length)],r1,es++[(.inl j,.ref l)],l1.ext ((x2.trans x3).trans (x5.trans x6)),s6,
       (eS.tf x7.tf rs).snoc ⟨t,rfl,.inl (.inl bf)⟩,?_,q4,by rw [er,za3];rfl,fun v H' m' x8 s8 r8=>kk v H' m' (x7.trans x8) s8 r8⟩
      have z:=KR.snoc (K:=K) (k:=.inl j) (d:=.p U4.length) (v:=.ref l) (m:=m3++[l]) (H:=upd (upd H3 l (.lst [])) t (.tup [.int j,.ref l])) ⟨l,rfl,by rw [←s3.len];simp⟩ (kr.ext x7);simpa [zj] using z
     ·cases e
    |false =>
     simp only [zap,if_false] at e;cases e
   ·have:i=xs.length:=by omega
    subst this;rw [zcQ,mI] at e;cases e;refine .inl ⟨ok.stop _ H p (zao _),fun t ht=>?_⟩;rw [zbi] at er;subst er;have x2:c6 m H m (upd H t (.lst ys)):=.new ht;refine ⟨t,ys,es,rfl,bf,eS.tf x2.tf rs,fun l hl0=>?_⟩
    have hn:mv [] es=es:=by
     have:=oE es [] (by
      rw [za8,kr.1];unfold zj;rw [zaR];have hnd:(r.map (·.1)).Nodup:=hnd
      show (r.map fun p=>(Sum.inl p.1:aH)).Nodup
      unfold List.Nodup at hnd ⊢;rw [zbk] at hnd ⊢
      exact hnd.imp fun h z=>h (Sum.inl.inj z))
     simpa using this
    rw [hn];have s2:=hs.same (bW ht (o:=.lst ys));have x3:c6 m (upd H t (.lst ys)) (m++[l]) (upd (upd H t (.lst ys)) l (.dK es)):=.newH hl0;have z:=kr.ext (x2.trans x3);exact kk _ _ (m++[l]) (x2.trans x3) (s2.newH hl0 ⟨es,bf,z.1,z.2⟩) ⟨l,rfl,by rw [←hs.len];simp⟩
  ·cases e
 ·cases e
end
noncomputable def kB (x:R)(U:ac):Option (List (aH×R)):=match x with
 |.v (.fd ks ds)=>if ks.length=ds.length then some (ks.zip (ds.map R.v)) else none|.p n=>match U[n]? with|some (.dct kvs)=>some (kvs.map fun p=>(p.1,R.v p.2))|some (.fzd kvs)=>some (kvs.map fun p=>(p.1,R.v p.2))|some (.dr kvs)=>some kvs|some (.fzr kvs)=>some kvs|_=>none
 |_=>none
theorem nM {K:zac}{m:Tf}{H:Hp}:∀{ds:List D} {vs:List V},RelDs K H ds vs->bi K m H (ds.map R.v) vs
 |[],_,h=>h|_::_,_,⟨v,r,e,h1,h2⟩=>⟨v,r,e,h1,nM h2⟩
def E8 {m:Tf}{H:Hp}{U:ac}{x:R}{v:V}{kvs:List (aH×R)}(s:aO K m H U)(r:au K m H x v)(e:kB x U=some kvs):∃a es,v=.ref a/\Rd H a (.dK es)/\KR K m H kvs es:=by
 unfold kB at e;split at e
 ·rename_i ks ds;split at e
  ·rename_i hl
   cases e;simp only [au,ao] at r;obtain ⟨a,o,es,rfl,ea,e1,e2⟩:=r;refine ⟨a,es,rfl,.inr ⟨o,ea⟩,?_,?_⟩
   ·rw [zcR (by simp [hl]),e1]
   ·rw [zcS (by simp [hl])];exact nM e2
  ·cases e
 ·rename_i n;obtain ⟨a,rfl,ha⟩:=r;split at e
  ·rename_i kv q
   cases e;obtain ⟨es,ea,e1,e2⟩:=s.cell _ _ a q ha;refine ⟨a,es,rfl,.inl ea,by simp [e1,Function.comp_def],?_⟩;have:=nM (m:=m) e2;simpa [Function.comp_def] using this
  ·rename_i kv q
   cases e;obtain ⟨o,es,ea,e1,e2⟩:=s.cell _ _ a q ha;refine ⟨a,es,rfl,.inr ⟨o,ea⟩,by simp [e1,Function.comp_def],?_⟩;have:=nM (m:=m) e2;simpa [Function.comp_def] using this
  ·rename_i kv q
   cases e;obtain ⟨es,ea,e1,e2⟩:=s.cell _ _ a q ha;exact ⟨a,es,rfl,.inl ea,e1,e2⟩
  ·rename_i kv q
   cases e;obtain ⟨o,es,ea,e1,e2⟩:=s.cell _ _ a q ha;exact ⟨a,es,rfl,.inr ⟨o,ea⟩,e1,e2⟩
  ·cases e
 ·cases e
def l0 (fo fk:FE):FE:=fun O U=>(fo O U).bind fun o=>(fk O o.2).bind fun k=>(kB o.1 k.2).bind fun kvs=>(ee k.1).bind fun key=>(cO kvs key).bind fun r=>some (r,k.2)
def IR {H:Hp}{Q:VK}{fo fk}(h:az K (l0 fo fk) Y H Q):xl (az K fo) (az K fk) Y H Q:=by
 obtain ⟨O,U,m,d,U',hl,hs,e,kk⟩:=h;obtain ⟨⟨o,U1⟩,e1,e⟩:=zaa.mp e;obtain ⟨⟨k,U2⟩,e2,e⟩:=zaa.mp e;obtain ⟨kvs,e4,e⟩:=zaa.mp e;obtain ⟨key,e5,e⟩:=zaa.mp e;obtain ⟨r,e6,e⟩:=zaa.mp e;cases e;refine ⟨O,U,m,o,U1,hl,hs,e1,fun vo H1 m1 x1 s1 r1=>?_⟩;refine ⟨O,U1,m1,k,U2,hl.ext x1,s1,e2,fun vk H2 m2 x2 s2 r2=>?_⟩;obtain ⟨a,es,rfl,hR,hK⟩:=E8 s2 (r1.ext x2) e4;have hk:=lT r2 e5;rcases KR.val key hK with ⟨n1,n2⟩|⟨dd,vv,n1,n2,n3⟩
 ·rw [n1] at e6;cases e6
 ·rw [n1] at e6;cases e6;exact ⟨a,vv,rfl,.inl ⟨es,key,hR,hk,n2.symm⟩,kk _ H2 m2 (x1.trans x2) s2 n3⟩
end HW
namespace HT2
open PySem.W PyProof.Rows
section
variable {r:Nat->Int}{n:Nat}{s:Shared}{cmp:Nat->Nat->(Bool->Shared->Prop)->Shared->Prop}
abbrev key (r:Nat->Int)(p:Array Nat)(k:Nat):Int:=r (p.getD k 0)
def Up (r:Nat->Int)(p:Array Nat)(a:Nat):Prop:=∀i j,i < j->j < a->key r p i < key r p j
def Dn (r:Nat->Int)(p:Array Nat)(a:Nat):Prop:=∀i j,i < j->j < a->key r p j < key r p i
structure Pm (n:Nat)(p:Array Nat):Prop where
 pm:p.toList.Perm (List.range n)
def Pm.size {p:Array Nat}(h:Pm n p):p.size=n:=by have:=h.pm.length_eq;simpa using this
def Pm.lt {p:Array Nat}(h:Pm n p){k:Nat}(hk:k < n):p.getD k 0 < n:=by
 have hs:=h.size;have hm:p.getD k 0∈p.toList:=by have:p[k]?=some p[k]:=zar (by omega);rw [zaS,this,zbM];simp
 have:=h.pm.mem_iff.mp hm;simpa using this
def Pm.inj {p:Array Nat}(h:Pm n p){i j:Nat}(hi:i < n)(hj:j < n)(e:p.getD i 0=p.getD j 0):i=j:=by
 have hs:=h.size;have nd:p.toList.Nodup:=h.pm.nodup_iff.mpr zdq;have ei:p[i]?=some p[i]:=zar (by omega);have ej:p[j]?=some p[j]:=zar (by omega);rw [zaS,zaS,ei,ej,zbM,zbM] at e;have e':p.toList[i]'(by simpa using (by omega:i < p.size))=p.toList[j]'(by simpa using (by omega:j < p.size)):=by simpa using e
 exact (zbJ nd).mp e'
structure Rk (r:Nat->Int)(n:Nat)(s:Shared)(cmp:Nat->Nat->(Bool->Shared->Prop)->Shared->Prop):Prop where
 inj:∀i j,i < n->j < n->r i=r j->i=j
 ask:∀i j,i < n->j < n->∀C:Bool->Shared->Prop,C (decide (r i < r j)) s->cmp i j C s
def Rk.ne (R:Rk r n s cmp){p:Array Nat}(h:Pm n p){i j:Nat}(hi:i < n)(hj:j < n)(ne:i≠j):key r p i≠key r p j:=fun e=>ne (h.inj hi hj (R.inj _ _ (h.lt hi) (h.lt hj) e))
theorem wU (R:Rk r n s cmp){p:Array Nat}(h:Pm n p){Q:Nat->Shared->Prop}:∀(f a:Nat),1<=a->a+f<=n->Up r p a->(∀m,a<=m->m<=a+f->Up r p m->(m=a+f\/key r p m < key r p (m - 1))->Q m s)->(kas_asc p f a).kasWp cmp Q s
 |0,a,_,_,hu,k=>k a (zao _) (zao _) hu (.inl rfl)|f+1,a,h1,h2,hu,k=>by
  refine R.ask _ _ (h.lt (by omega)) (h.lt (by omega)) _ ?_;by_cases hc:key r p a < key r p (a - 1)
  ·have hd:decide (r (p.getD a 0) < r (p.getD (a - 1) 0))=true:=zaL hc;rw [hd];exact k a (zao _) (by omega) hu (.inr hc)
  ·have hd:decide (r (p.getD a 0) < r (p.getD (a - 1) 0))=false:=zaG hc;rw [hd];have hne:=R.ne h (show a < n by omega) (show a - 1 < n by omega) (by omega);refine wU R h f (a+1) (by omega) (by omega) (fun i j hij hj=>?_) fun m m1 m2 m3 m4=>k m (by omega) (by omega) m3 (by rcases m4 with q|q;exact .inl (by omega);exact .inr q);by_cases hja:j=a
   ·subst hja;have:key r p i<=key r p (j - 1):=by
     by_cases hi:i=j - 1
     ·rw [hi];exact zcK _
     ·exact Int.le_of_lt (hu i (j - 1) (by omega) (by omega))
    omega
   ·exact hu i j hij (by omega)
theorem yn (R:Rk r n s cmp){p:Array Nat}(h:Pm n p){Q:Array Nat×Nat×Nat->Shared->Prop}:∀(f a:Nat),1<=a->a+f<=n->Dn r p a->(∀m,a<=m->m<=a+f->Dn r p m->Q (p,m,0) s)->(kas_desc f p a 0).kasWp cmp Q s
 |0,a,_,_,hu,k=>k a (zao _) (zao _) hu|f+1,a,h1,h2,hu,k=>by
  refine R.ask _ _ (h.lt (by omega)) (h.lt (by omega)) _ ?_;have hne:=R.ne h (show a < n by omega) (show a - 1 < n by omega) (by omega);by_cases hc:key r p a < key r p (a - 1)
  ·have hd:decide (r (p.getD a 0) < r (p.getD (a - 1) 0))=true:=zaL hc;rw [hd];refine yn R h f (a+1) (by omega) (by omega) (fun i j hij hj=>?_) fun m m1 m2 m3=>k m (by omega) (by omega) m3;by_cases hja:j=a
   ·subst hja;have:key r p (j - 1)<=key r p i:=by
     by_cases hi:i=j - 1
     ·rw [hi];exact zcK _
     ·exact Int.le_of_lt (hu i (j - 1) (by omega) (by omega))
    omega
   ·exact hu i j hij (by omega)
  ·have hd:decide (r (p.getD a 0) < r (p.getD (a - 1) 0))=false:=zaG hc;rw [hd];refine R.ask _ _ (h.lt (by omega)) (h.lt (by omega)) _ ?_;have hd2:decide (r (p.getD (a - 1) 0) < r (p.getD a 0))=true:=zaL (show key r p (a - 1) < key r p a by omega);rw [hd2];exact k a (zao _) (by omega) hu
def A3 {p:Array Nat}(h:Pm n p){m k:Nat}(hm:m<=n)(hk:k < m):(kas_rev p 0 m).getD k 0=p.getD (m - 1 - k) 0:=by
 have hs:=h.size;have:=getElem?_mirror_all (xs:=p) (i:=0) (j:=m) (by omega) k;rw [if_pos (by omega)] at this
 unfold kas_rev;rw [zaS,this,zaS];congr 2;omega
def Il {p:Array Nat}(h:Pm n p){m:Nat}:Pm n (kas_rev p 0 m):=⟨(Array.perm_iff_toList_perm.mp (mirror_perm p 0 m _)).trans h.pm⟩
def AE (R:Rk r n s cmp){p:Array Nat}(h:Pm n p){Q:Nat×Array Nat->Shared->Prop}{a:Nat}(h1:1<=a)(h2:a<=n)(hd:Dn r p a)(k:∀m p',Pm n p'->Up r p' m->1<=m->m<=n->Q (m,p') s):(kas_tail3 a n p).kasWp cmp Q s:=by unfold kas_tail3;rw [KasT.kasWp_bind];have hr:=Il h (m:=a);refine wU R hr (n - a) a h1 (by omega) (fun i j hij hj=>?_) fun m m1 m2 m3 _=>k m _ hr m3 (by omega) (by omega);unfold key;rw [A3 h h2 (by omega),A3 h h2 (by omega)];exact hd (a - 1 - j) (a - 1 - i) (by omega) (by omega)
def Da (R:Rk r n s cmp){p:Array Nat}(h:Pm n p)(hn:1<=n){Q:Nat×Array Nat->Shared->Prop}(k:∀m p',Pm n p'->Up r p' m->1<=m->m<=n->Q (m,p') s):(kas_count n p).kasWp cmp Q s:=by
 unfold kas_count;rw [KasT.kasWp_bind];refine wU R h (n - 1) 1 (zao _) (by omega) (fun i j hij hj=>by omega) fun m m1 m2 m3 m4=>?_;by_cases hm:m=n
 ·subst hm;rw [if_pos (by simp)];exact k m p h m3 hn (zao _)
 ·rw [if_neg (by simpa using hm)];by_cases hm1:m > 1
  ·rw [if_pos hm1];refine R.ask _ _ (h.lt (by omega)) (h.lt (by omega)) _ ?_;have hd:decide (r (p.getD 0 0) < r (p.getD (m - 1) 0))=true:=zaL (m3 0 (m - 1) (by omega) (by omega));rw [hd];exact k m p h m3 (by omega) (by omega)
  ·rw [if_neg hm1];have hm':m=1:=(by omega);subst hm';have hlt:key r p 1 < key r p 0:=by
    rcases m4 with q|q
    ·omega
    ·exact q
   unfold kas_descPart;rw [KasT.kasWp_bind];refine yn R h (n - (1+1)) (1+1) (by omega) (by omega) (fun i j hij hj=>?_) fun m' q1 q2 q3=>?_
   ·have hj1:j=1:=by omega
    have hi0:i=0:=(by omega);subst hj1 hi0;exact hlt
   ·show KasT.kasWp cmp (if (0:Nat) > 0 then _ else _) Q s
    rw [if_neg (by omega)];exact AE R h (show 1<=m' by omega) (show m'<=n by omega) q3 k
theorem oH (R:Rk r n s cmp){p:Array Nat}(h:Pm n p){Q:Nat->Shared->Prop}{k:Nat}(hk:k < n):∀(f l u:Nat),l<=u->u<=k->u - l<=f->(∀i < l,key r p i < key r p k)->(∀i,u<=i->i < k->key r p k < key r p i)->Up r p k ->
  (∀x,x<=k->(∀i < x,key r p i < key r p k)->(∀i,x<=i->i < k->key r p k < key r p i)->Q x s)->(kas_place p k f l u).kasWp cmp Q s
 |0,l,u,h1,h2,h3,hl,hu,_,kk=>kk l (by omega) hl (fun i h4 h5=>hu i (by omega) h5)|f+1,l,u,h1,h2,h3,hl,hu,up,kk=>by
  unfold kas_place
  by_cases hlu:l >= u
  ·rw [if_pos hlu]
   exact kk l (by omega) hl (fun i h4 h5=>hu i (by omega) h5)
  ·rw [if_neg hlu]
   refine R.ask _ _ (h.lt hk) (h.lt (by omega)) _ ?_;have hne:=R.ne h hk (show (l+u) / 2 < n by omega) (by omega)
   by_cases hc:key r p k < key r p ((l+u) / 2)
   ·have hd:decide (r (p.getD k 0) < r (p.getD ((l+u) / 2) 0))=true:=zaL hc
    rw [hd];refine oH R h hk f l ((l+u) / 2) (by omega) (by omega) (by omega) hl (fun i h4 h5=>?_) up kk
    by_cases hi:i=(l+u) / 2
    ·rw [hi];exact hc
    ·have:=up ((l+u) / 2) i (by omega) h5
     omega
   ·have hd:decide (r (p.getD k 0) < r (p.getD ((l+u) / 2) 0))=false:=zaG hc
    rw [hd];refine oH R h hk f ((l+u) / 2+1) u (by omega) h2 (by omega) (fun i hi=>?_) hu up kk
    by_cases hi':i=(l+u) / 2
    ·rw [hi'];omega
    ·have:=up i ((l+u) / 2) (by omega) (by omega)
     omega
theorem Kt {p:Array Nat}(h:Pm n p){k l i:Nat}(hk:k < n)(hl:l<=k):(bubble p k (k - l)).getD i 0=if i=l then p.getD k 0 else if l < i/\i<=k then p.getD (i - 1) 0 else p.getD i 0:=by
 have hs:=h.size;have:=getElem?_bubble (xs:=p) (src:=k) (by omega) (k - l) (by omega) i;rw [show k - (k - l)=l by omega] at this
 simp only [zaS];rw [this];split
 ·rfl
 ·split <;> rfl
theorem Dh (R:Rk r n s cmp){Q:Array Nat->Shared->Prop}:∀(f:Nat) (p:Array Nat) (k:Nat),Pm n p->Up r p k->k+f=n->(∀p',Pm n p'->Up r p' n->Q p' s)->(kas_bin f p k).kasWp cmp Q s
 |0,p,k,h,hu,hk,kk=>kk p h (by rw [←hk];exact hu)|f+1,p,k,h,hu,hk,kk=>by
  unfold kas_bin;rw [KasT.kasWp_bind];refine oH R h (by omega) k 0 k (by omega) (zao _) (by omega) (fun i hi=>by omega) (fun i h4 h5=>by omega) hu fun l l1 l2 l3=>?_;refine Dh R f (bubble p k (k - l)) (k+1) ⟨(Array.perm_iff_toList_perm.mp (bubble_perm p k _)).trans h.pm⟩ (fun i j hij hj=>?_) (by omega) kk;have b:=fun i=>Kt h (k:=k) (l:=l) (i:=i) (by omega) l1
  show r _ < r _
  rw [b i,b j];by_cases hi:i=l
  ·rw [if_pos hi,if_neg (by omega),if_pos (by omega)];exact l3 (j - 1) (by omega) (by omega)
  ·rw [if_neg hi];by_cases hj':j=l
   ·rw [if_pos hj',if_neg (by omega)];exact l2 i (by omega)
   ·rw [if_neg hj'];by_cases h6:l < i/\i<=k
    ·rw [if_pos h6,if_pos (by omega)];exact hu (i - 1) (j - 1) (by omega) (by omega)
    ·rw [if_neg h6];by_cases h7:l < j/\j<=k
     ·rw [if_pos h7];by_cases h8:i=j - 1
      ·omega
      ·exact hu i (j - 1) (by omega) (by omega)
     ·rw [if_neg h7];exact hu i j hij (by omega)
def DW (R:Rk r n s cmp)(hn:1<=n){Q:Array Nat->Shared->Prop}(k:∀p,Pm n p->Up r p n->Q p s):(kas_sort n).kasWp cmp Q s:=by
 unfold kas_sort;rw [KasT.kasWp_bind];refine Da R (p:=(List.range n).toArray) ⟨by simp⟩ hn fun m p h hu h1 h2=>?_
 show KasT.kasWp cmp (if m < n then kas_bin (n - max m 1) p (max m 1) else .ret p) Q s
 rw [Nat.max_eq_left h1];by_cases hm:m < n
 ·rw [if_pos hm];exact Dh R (n - m) p m h hu (by omega) k
 ·rw [if_neg hm];have:m=n:=by omega
  subst this;exact k p h hu
end
noncomputable def jj:List Int->List Int->Bool
 |[],[]=>false|[],_::_=>true|_::_,[]=>false|x::xs,y::ys=>if x=y then jj xs ys else decide (x < y)
theorem ic:∀a,jj a a=false
 |[]=>rfl|x::xs=>by simp [jj,ic xs]
theorem nU:∀a b,jj a b=true\/a=b\/jj b a=true
 |[],[]=>.inr (.inl rfl)|[],_::_=>.inl rfl|_::_,[]=>.inr (.inr rfl)|x::xs,y::ys=>by
  by_cases e:x=y
  ·subst e;rcases nU xs ys with h|h|h
   ·exact .inl (by simp [jj,h])
   ·exact .inr (.inl (by rw [h]))
   ·exact .inr (.inr (by simp [jj,h]))
  ·by_cases hl:x < y
   ·exact .inl (by simp [jj,e,hl])
   ·exact .inr (.inr (by simp [jj,Ne.symm e];omega))
theorem gE:∀a b c,jj a b=true->jj b c=true->jj a c=true
 |[],[],_,h,_=>by cases h|[],_::_,[],_,h=>by cases h|[],_::_,_::_,_,_=>rfl|_::_,[],_,h,_=>by cases h|_::_,_::_,[],_,h=>by cases h|x::xs,y::ys,z::zs,h,g=>by
  simp only [jj] at h g ⊢;by_cases e1:x=y
  ·subst e1;rw [if_pos rfl] at h;by_cases e2:x=z
   ·subst e2;rw [if_pos rfl] at g ⊢;exact gE xs ys zs h g
   ·rw [if_neg e2] at g ⊢;exact g
  ·rw [if_neg e1] at h;have h1:x < y:=of_decide_eq_true h;by_cases e2:y=z
   ·subst e2;rw [if_neg e1];exact h
   ·rw [if_neg e2] at g;have h2:y < z:=of_decide_eq_true g;rw [if_neg (by omega)];exact zaL (by omega)
def nv (L:Ta)(i:Nat):Int:=((L.filter fun k=>jj k (L.getD i [])).length:Nat)
theorem qA {L:Ta}{a b:Th}(h:jj a b=true)(hm:a∈L):(L.filter fun k=>jj k a).length < (L.filter fun k=>jj k b).length:=by
 have sub:∀M:Ta,(M.filter fun k=>jj k a).length<=(M.filter fun k=>jj k b).length:=fun M=>by
  induction M with|nil=>simp|cons x xs ih =>
   simp only [zby]
   cases hx:jj x a with|true=>rw [gE x a b hx h];simp;exact ih|false=>cases jj x b <;> simp <;> omega
 induction L with|nil=>simp at hm|cons x xs ih =>
  simp only [zby];rcases zal.mp hm with rfl|hm
  ·rw [ic,h];have:=sub xs;simp;omega
  ·have:=ih hm
   cases hx:jj x a with|true=>rw [gE x a b hx h];simp;exact this|false=>cases jj x b <;> simp <;> omega
def uo {L:Ta}{i:Nat}(h:i < L.length):L.getD i []∈L:=by rw [zbf,zas h,zbM];exact zcO h
def nO {L:Ta}{i j:Nat}(hi:i < L.length)(hj:j < L.length):decide (nv L i < nv L j)=jj (L.getD i []) (L.getD j []):=by
 rcases nU (L.getD i []) (L.getD j []) with h|h|h
 ·rw [h];refine zaL ?_;have:=qA h (uo hi);unfold nv;omega
 ·have hr:nv L i=nv L j:=by unfold nv;rw [h]
  rw [hr,h,ic];exact zaG (by omega)
 ·have:=qA h (uo hj);have hn:jj (L.getD i []) (L.getD j [])=false:=by
   cases q:jj (L.getD i []) (L.getD j []) with|false=>rfl|true=>have:=gE _ _ _ q h;rw [ic] at this;cases this
  rw [hn];refine zaG ?_;unfold nv;omega
def Be {L:Ta}(nd:L.Nodup){i j:Nat}(hi:i < L.length)(hj:j < L.length)(e:nv L i=nv L j):i=j:=by
 have h1:=nO hi hj;have h2:=nO hj hi;rw [zaG (by omega)] at h1 h2;rcases nU (L.getD i []) (L.getD j []) with h|h|h
 ·rw [h] at h1;cases h1
 ·simp only [zbf,zas hi,zas hj,zbM] at h;exact (zbJ nd).mp h
 ·rw [h] at h2;cases h2
section
variable {prog:Program}{w:World}{A:Around}{E:Tb}{s:Shared}
def B3 {b:Bool}{Q:Bool->Shared->Prop}:∀{xs ys:Te} {ns ms:Th} (i:Nat),IntsAre xs ns->IntsAre ys ms->Q (jj ns ms) s->KatLex prog w A b (decide (xs.length < ys.length)) Q (xs.zip ys) i s:=by
  intro xs ys ns ms i r;induction r generalizing ys ms i with|nil=>intro q h;cases q <;> exact h|cons n t r ih =>
   rename_i xs ns;intro q h
   cases q with|nil=>exact h|cons m u q =>
    rename_i ys ms
    show KatLex prog w A b _ Q ((.int n t,.int m u)::xs.zip ys) i s
    refine kat_cons (wpAny_eqBool_int ?_);by_cases e:n=m
    · subst e
      rw [zca];refine kat_yes ?_;have hd:decide ((Value.int n t::xs).length < (Value.int n u::ys).length)=decide (xs.length < ys.length):=(by simp);rw [hd];exact ih (i+1) q (by simpa [jj] using h)
    · rw [show (n == m)=false by simpa using e]
      refine kat_no ?_;have h':Q (decide (n < m)) s:=by simpa [jj,e] using h
      cases (b && i == 0) with|true=>exact oneLt_int h'|false=>first|exact kat_one _ _ (lt_int h')|exact kat_one _ _ (lt_int (boolBack_bool h'))
def bh (h:Heap):List Value->List (Th)->Prop
 |[],[]=>True|v::vs,L::Ls=>(∃a o its n,v=.ref a/\h.get? a=some o/\o.cls=.type "tuple"/\o.data=.seq its n/\IntsAre its.toList L)/\bh h vs Ls|_,_=>False
theorem bh.len {h:Heap}:∀{vs:Te} {L:Ta},bh h vs L->vs.length=L.length
 |[],[],_=>rfl|[],_::_,h=>h.elim|_::_,[],h=>h.elim|_::vs,_::L,h=>by simp [bh.len h.2]
theorem bh.at {h:Heap}:∀{vs:Te} {L:Ta},bh h vs L->∀i,i < L.length->∃a o its n,vs.getD i .none=.ref a/\h.get? a=some o/\o.cls=.type "tuple"/\o.data=.seq its n/\IntsAre its.toList (L.getD i [])
 |[],[],_,i,hi=>by simp at hi|[],_::_,h,_,_=>h.elim|_::_,[],h,_,_=>h.elim|v::vs,x::L,h,0,_=>h.1|v::vs,x::L,h,i+1,hi=>bh.at h.2 i (by simpa using hi)
theorem bh.keep {h h':Heap}(k:∀b o,h.get? b=some o->h'.get? b=some o):∀{vs:Te} {L:Ta},bh h vs L->bh h' vs L
 |[],[],_=>trivial|[],_::_,h=>h.elim|_::_,[],h=>h.elim|_::vs,_::L,h=>by obtain ⟨⟨a,o,its,n,e,g,r⟩,t⟩:=h;exact ⟨⟨a,o,its,n,e,k _ _ g,r⟩,bh.keep k t⟩
theorem bh.keepNe {h h':Heap}{a:Addr}(k:∀b o,h.get? b=some o->b≠a->h'.get? b=some o):∀{vs:Te} {L:Ta},bh h vs L->(∀v∈vs,v≠.ref a)->bh h' vs L
 |[],[],_,_=>trivial|[],_::_,h,_=>h.elim|_::_,[],h,_=>h.elim|v::vs,_::L,h,hn=>by obtain ⟨⟨b,o,its,n,e,g,r⟩,t⟩:=h;exact ⟨⟨b,o,its,n,e,k _ _ g fun z=>hn v (by simp) (by rw [e,z]),r⟩,bh.keepNe k t fun u hu=>hn u (by simp [hu])⟩
theorem bh.firsts {h:Heap}:∀{vs:Te} {L:Ta},bh h vs L->(∀x∈L,x≠[])->∃fs,KatTups h vs fs/\fs.length=L.length/\∀f∈fs,∃n t,f=.int n t
 |[],[],_,_=>⟨[],trivial,rfl,by simp⟩|[],_::_,h,_=>h.elim|_::_,[],h,_=>h.elim|v::vs,x::L,h,hn=>by
  obtain ⟨⟨a,o,its,n,e,g,c,d,r⟩,t⟩:=h;obtain ⟨fs,q1,q2,q3⟩:=bh.firsts t fun y hy=>hn y (by simp [hy]);have hx:=hn x (by simp);generalize hits:its.toList=il at r
  cases r with|nil=>exact absurd rfl hx|cons m tk r' =>
   have h0:its[0]?=some (.int m tk):=(by rw [←za4,hits];rfl);exact ⟨.int m tk::fs,by subst e;exact KatTups.cons g c d h0 q1,by simp [q2],fun f hf=>by
    rcases zal.mp hf with rfl|hf
    ·exact ⟨m,tk,rfl⟩
    ·exact q3 f hf⟩
theorem oC {Z:Type}:∀(l:List Z) (d:Z),l=(List.range l.length).map fun i=>l.getD i d:=fun l d=>by refine zcT (by simp) fun k h1 h2=>?_;simp only [zbz,zcB];rw [zbf,zas h1];rfl
def p9 {a:Addr}{vs:Te}{L:Ta}{n:Nat}{P:PySem.Fin->Shared->Prop}(ho:s.heap.get? a=some (seqObj "list" vs.toArray n))(hT:bh s.heap vs L)(nd:L.Nodup)(h64:L.length < 64)(hne:2<=L.length->∀x∈L,x≠[])
  (hna:∀v∈vs,v≠.ref a)
  (h:∀(out:Ti) (L':Ta),(∃is:List Nat,out.toList=is.map (fun i=>vs.getD i .none)/\L'=is.map (fun i=>L.getD i [])/\∀i∈is,i < L.length)->L'.Perm L->L'.Pairwise (fun x y=>jj x y=true)->P (.done (.ret .none)) {s with heap:=sortedHeap s.heap a vs out}):wpAny (model prog w) A (Builtin.«list.sort» ⟨[.ref a],[]⟩) P E s:=by
 have hl:=hT.len;rw [list_sort_plain];have ha:a < s.heap.objs.size:=zam ho
 have hz:vs.length<=sizeLine:=by rw [zba];omega
 refine zab (listItems_at ho rfl (zab (listUpdate_at ho rfl ?_ (by simpa using hz) (by simp))));obtain ⟨c1,o1⟩:∃c1,(s.heap.update a (Obj.mapSeq fun _=>#[])).get? a=some (seqObj "list" #[] c1):=⟨_,get?_update_seq ho (fun _=>#[])⟩;refine zab (seqEpoch_at o1 rfl (zab (wpAny_newTuple (zab (zdh (zaH ?_) (zbb _))) (by simpa using hz))))
 have o6:(((s.heap.update a (Obj.mapSeq fun _=>#[])).push (seqObj "tuple" vs.toArray 0)).push (seqObj "list" #[] 0)).get? a=some (seqObj "list" #[] c1):=by
  rw [Heap.get?_push_ne _ _ _ (by rw [size_push',Heap.size_update];exact zat (zaU ha)),Heap.get?_push_ne _ _ _ (by rw [Heap.size_update];exact zat ha)];exact o1
 show wpAny (model prog w) A _ P E {s with heap:=((s.heap.update a (Obj.mapSeq fun _=>#[])).push (seqObj "tuple" vs.toArray 0)).push (seqObj "list" #[] 0)}
 dsimp only
 by_cases h2:vs.toArray.size < 2
 ·rw [if_pos h2,if_pos h2]
  refine zab (zad (zab (zad ?_)));dsimp only
  have hm:Array.map (fun x=>x.snd) (arrOf (SortSt.mk' general' (vs.toArray.zip vs.toArray) #[] 7 none))=vs.toArray:=by
   show Array.map (fun x=>x.snd) (vs.toArray.zip vs.toArray)=vs.toArray
   apply Array.ext
   ·simp
   ·intro i h1 h3;simp
  rw [hm];refine zab (seqEpoch_at o6 rfl (zab (listUpdate_at o6 rfl ?_ (by simp) (by rw [zax];omega))))
  show wpAny (model prog w) A (if (c1 != c1)=true then _ else _) P E _
  simp only [bne_self_eq_false,zap,if_false];refine zad (h vs.toArray L ⟨List.range L.length,by rw [←hl];simpa using oC vs .none,oC L [],fun i hi=>by simpa using hi⟩ (List.Perm.refl _) ?_)
  have:L.length < 2:=by simp at h2;omega
  match L,this with
  |[],_=>exact .nil|[x],_=>simp
 ·rw [if_neg h2,if_neg h2]
  have hb2:2<=L.length:=by simp at h2;omega
  have keep:∀b o,s.heap.get? b=some o->b≠a->(((s.heap.update a (Obj.mapSeq fun _=>#[])).push (seqObj "tuple" vs.toArray 0)).push (seqObj "list" #[] 0)).get? b=some o:=fun b o e ne =>
   zae _ (zae _ (by rw [zaz _ _ (Ne.symm ne)];exact e))
  have hT1:bh (((s.heap.update a (Obj.mapSeq fun _=>#[])).push (seqObj "tuple" vs.toArray 0)).push (seqObj "list" #[] 0)) vs L:=hT.keepNe keep hna;obtain ⟨fs,q1,q2,q3⟩:=hT1.firsts (hne hb2);refine zab (kat_kind (T:=.type "int") q1 (by omega) (fun v hv=>?_) (by decide) ?_)
  ·obtain ⟨m,tk,rfl⟩:=q3 v hv
   exact .now
  refine zab (zbB (kat_run (ks:=vs) (vs:=vs) (Q:=fun st' s'=>∃p:Array Nat,p.size=vs.length/\arrOf st'=p.map (kas_item (vs.toArray.zip vs.toArray))/\failedOf st'=none/\s'={s with heap:=((s.heap.update a (Obj.mapSeq fun _=>#[])).push (seqObj "tuple" vs.toArray 0)).push (seqObj "list" #[] 0)}/\Pm L.length p/\Up (nv L) p L.length)
   (G:=fun p s'=>s'={s with heap:=((s.heap.update a (Obj.mapSeq fun _=>#[])).push (seqObj "tuple" vs.toArray 0)).push (seqObj "list" #[] 0)}/\Pm L.length p/\Up (nv L) p L.length)
   rfl (by omega) (by omega) (fun p' st' s' a1 a2 a3 a4=>⟨p',a1,a2,a3,a4⟩) ?_) ?_ fun _ _ e=>e)
  ·rw [hl]
   refine DW (r:=nv L) (n:=L.length) ⟨fun i j hi hj e=>Be nd hi hj e,fun i j hi hj C hC=>?_⟩ (by omega) fun p hp hu=>⟨rfl,hp,hu⟩;obtain ⟨x,ox,ix,nx,e1,e2,e3,e4,e5⟩:=hT1.at i hi;obtain ⟨y,oy,iy,ny,f1,f2,f3,f4,f5⟩:=hT1.at j hj;unfold kas_ask;rw [e1,f1];refine kat_lt e2 e4 f2 f4 ?_;rw [nO hi hj] at hC;have:=B3 (prog:=prog) (w:=w) (A:=A) (b:=(Value.type "int" != Value.type "tuple")) 0 e5 f5 hC;simpa using this
  ·rintro ⟨⟨⟩,st'⟩ s' ⟨p,hp,har,hf,rfl,hpm,hup⟩
   dsimp only;have hout:=kat_snds (ks:=vs) (vs:=vs) rfl har;rw [hout]
   have hsz:(List.toArray (p.toList.map fun i=>vs.getD i Value.none)).size<=sizeLine+1:=by rw [zax,zah,zaM,hp];omega
   refine zab (seqEpoch_at o6 rfl (zab (listUpdate_at o6 rfl ?_ (by simp) hsz)));rw [hf];simp only [bne_self_eq_false,zap,if_false]
   have hlt:∀i∈p.toList,i < L.length:=fun i hi=>by have:=hpm.pm.mem_iff.mp hi;simpa using this
   refine zad (h _ (p.toList.map fun i=>L.getD i []) ⟨p.toList,by simp,rfl,hlt⟩ ?_ ?_)
   ·have:=hpm.pm.map fun i=>L.getD i []
    refine this.trans (List.Perm.of_eq ?_);refine zcT (by simp) fun k h1 h2=>?_;simp only [zbz,zcB];rw [zbf,zas (by simpa using h1)];rfl
   ·rw [zbk,zbg]
    intro i j hi hj hij;have hsz2:=hpm.size
    have hi':i < p.size:=by simpa using hi
    have hj':j < p.size:=by simpa using hj
    have hk:=hup i j hij (by omega);unfold key at hk
    have gi:p.getD i 0=p[i]:=by rw [zaS,zar hi'];rfl
    have gj:p.getD j 0=p[j]:=by rw [zaS,zar hj'];rfl
    rw [gi,gj] at hk;have:=nO (L:=L) (i:=p[i]) (j:=p[j]) (hlt _ (by simp)) (hlt _ (by simp))
    rw [zaL hk] at this
    simpa using this.symm
end
end HT2
namespace HK
open PyProof.Rows L2
def DE (h:Heap)(d:Addr)(es:Array DictEntry)(ep:Nat):Prop:=∃ob,h.get? d=some ob/\ob.ExactDict/\ob.data=.dict es ep
section
variable {prog:Program}{w:World}{A:Around}{E:Tb}{s:Shared}{d it:Addr}{es:Array DictEntry}{ep i:Nat}
def DE.ty (m:DE s.heap d es ep):s.TypeIs (.ref d) "dict":=let ⟨ob,g,x,_⟩:=m;⟨ob,g,x.1⟩
def DE.at {h h':Heap}(m:DE h d es ep)(k:∀ob,h.get? d=some ob->h'.get? d=some ob):DE h' d es ep:=let ⟨ob,g,r⟩:=m;⟨ob,k _ g,r⟩
theorem Mv {Q:Tb}(nd:(d == sysModules)=false)(m:DE s.heap d es ep)
  (fin:Q (.ref s.heap.objs.size) {s with heap:=s.heap.push {cls:=.type "dict_keyiterator",data:=.fields #[.ref d,.int 0 0,.int es.size 0,.int ep 0]}}):wpAny (model prog w) A (pyIter (.ref d)) Q E s:=by
 obtain ⟨ob,g,x,dt⟩:=id m;refine zcH m.ty F.slot_dict_iter (zaV F.slot_dict_iter m.ty F.entry_dict_iter ?_ (F.args_dict_iter_1 _));unfold Builtin.«dict.__iter__» Builtin.Dict.dictSlotNone;refine zab (zab (wpAny_notOrdered_dict m.ty ?_));refine (show wpAny _ _ (pure (Value.ref d)) _ _ s from zad (show wpAny _ _ (Builtin.Dict.showsAll d >>= _) _ _ s from ?_));unfold Builtin.Dict.showsAll;rw [if_neg (show ¬ (d == sysModules)=true by rw [nd];decide)];refine zab (zad (zab (zcI g dt (zab (zdv g dt (zab (zaT (zad ⟨_,rfl,"dict_keyiterator",_,⟨_,zaq _ rfl,rfl⟩,F.slot_dict_keyiterator_next.lookup,?_⟩))))))));simpa [rawInt] using fin
theorem Mq {e:DictEntry}{Q:Option Value->Shared->Prop}(k:s.heap.IsKeyIter it d i es.size ep)(m:DE s.heap d es ep)(ge:es[i]?=some e)
  (fin:∀h',h'.IsKeyIter it d (i+1) es.size ep->Heap.SameBut it s.heap h'->Q (some e.key) {s with heap:=h'}):wpAny (model prog w) A (pyNext (.ref it)) Q E s:=by
 obtain ⟨oi,gi,ci,di⟩:=id k;obtain ⟨ob,g,x,dt⟩:=id m;have ty:=k.typeIs;unfold pyNext;refine zab (zbI (za5 (name:=Str.ofString "__next__") ty F.slot_dict_keyiterator_next (zaV F.slot_dict_keyiterator_next ty F.entry_dict_keyiterator_next ?_ (F.args_dict_keyiterator_next_1 _))));refine zab (zad (zab (zab ?_)))
 first|refine zab (zbS ty (zad (zab (zbV gi di ?_))))|refine zab (zcb ty (zad (zab (zbV gi di ?_))))
 simp only [show Builtin.Dict_items.ownsTuple "dict_keyiterator" = false by decide,zap,if_false];refine (show wpAny _ _ (if (Value.ref d == Value.none)=true then _ else _) _ _ s from ?_);rw [if_neg (show ¬ ((Value.ref d == Value.none)=true) by exact zbh)];refine zab (zad (zab (zcI g dt ?_)));rw [if_neg (show ¬ _ by simp)];refine zab (zad (zab (zdv g dt ?_)));rw [if_neg (show ¬ _ by simp)];refine zad ?_;simp only [show ¬ ((i:Int) < 0) by omega,if_false,zbR,ge];refine zab ?_
 first|refine zab (zbS ty (zad (zab (zcU ty ?_))))|refine zab (zcb ty (zad (zab (zcU ty ?_))))
 refine (show wpAny _ _ (setField (.ref it) 1 (rawInt ((i:Int)+1)) >>= _) _ _ s from zab (zbW gi di (by simp) ?_))
 have k':(s.heap.update it (Obj.mapFields (·.setIfInBounds 1 (rawInt ((i:Int)+1))))).IsKeyIter it d (i+1) es.size ep :=
  ⟨_,zaJ _ gi (Obj.isFreed_of_fields (Obj.data_mapFields di _)),(Obj.cls_mapFields ..).trans ci,by rw [Obj.data_mapFields di];simp [rawInt]⟩
 refine zab (zaH (zab (zcU (s:={s with heap:=s.heap.update it (Obj.mapFields (·.setIfInBounds 1 (rawInt ((i:Int)+1))))}) k'.typeIs ?_)));exact (show wpAny _ _ (pure e.key) _ _ _ from zad (zad ⟨_,rfl,zad (fin _ k' (Heap.SameBut.update ..))⟩))
theorem Mt {Q:Option Value->Shared->Prop}(hh:A.handled=none)(k:s.heap.IsKeyIter it d es.size es.size ep)(m:DE s.heap d es ep)
  (fin:∀h',Heap.ExtBut it s.heap h'->Q none {s with heap:=h'}):wpAny (model prog w) A (pyNext (.ref it)) Q E s:=by
 obtain ⟨oi,gi,ci,di⟩:=id k;obtain ⟨ob,g,x,dt⟩:=id m;have ty:=k.typeIs;unfold pyNext;refine zab (zbI (za5 (name:=Str.ofString "__next__") ty F.slot_dict_keyiterator_next (zaV F.slot_dict_keyiterator_next ty F.entry_dict_keyiterator_next ?_ (F.args_dict_keyiterator_next_1 _))));refine zab (zad (zab (zab ?_)))
 first|refine zab (zbS ty (zad (zab (zbV gi di ?_))))|refine zab (zcb ty (zad (zab (zbV gi di ?_))))
 simp only [show Builtin.Dict_items.ownsTuple "dict_keyiterator" = false by decide,zap,if_false];refine (show wpAny _ _ (if (Value.ref d == Value.none)=true then _ else _) _ _ s from ?_);rw [if_neg (show ¬ ((Value.ref d == Value.none)=true) by exact zbh)];refine zab (zad (zab (zcI g dt ?_)));rw [if_neg (show ¬ _ by simp)];refine zab (zad (zab (zdv g dt ?_)));rw [if_neg (show ¬ _ by simp)];refine zad ?_;simp only [show ¬ ((es.size:Int) < 0) by omega,if_false,zbR,zcJ (zao es.size)];refine zab ?_
 first|refine zab (zbS ty (zad ?_))|refine zab (zcb ty (zad ?_))
 refine (show wpAny _ _ (setField (.ref it) 0 .none >>= _) _ _ s from zab (zbW gi di (by simp) ?_));refine (show wpAny _ _ (newExc (.type "StopIteration") [] >>= _) _ _ _ from zab ?_);simp only [newExc,newTuple];refine zab (zaT (zab (m:=firstArgMember _ _) (zdb (a:=Value.none) (by first|rfl|(simp only [firstArgMember];rfl)) (zaT ?_ (by size_fits)))) (by size_fits));simp only [raiseNew];refine zab (wpAny_handled ?_);rw [show A.in1.handled=none by exact hh];refine zab (zad (wpAny_throw (zab ?_)));exact zbX (T:="StopIteration") (b:=true) ⟨_,zaq _ rfl,rfl⟩ isSubtype_stop (zad (fin _ (((Heap.SameBut.update ..).extBut.push _).push _)))
def HF (hh:A.handled=none)(I d:Addr)(ne:d≠I)(es:Array DictEntry)(ep:Nat):Walks prog w A I [I,d] [I] es.size (fun i v=>∃e,es[i]?=some e/\v=e.key) (fun i h=>h.IsKeyIter I d i es.size ep/\DE h d es ep) where
 sub:=fun b z=>by simp at z;simp [z]
 frame:=fun _ _ _ q z=>⟨q.1.at fun o e=>z I (by simp) o e,q.2.at fun o e=>z d (by simp) o e⟩
 item:=fun i s Q E hi q fin=>by refine Mq q.1 q.2 (zar hi) fun h' k' sb=>fin _ h' s.toks ⟨_,zar hi,rfl⟩ ⟨k',q.2.at fun o e=>sb.extBut d o ne e⟩ fun b o hb e=>sb.extBut b o (fun z=>hb (by simp [z])) e
 done:=fun s Q E q fin=>Mt hh q.1 q.2 fun h' eb=>fin h' s.toks fun b o hb e=>eb b o (fun z=>hb (by simp [z])) e
 self:=fun _ _ _ _ q fin=>wpAny_pyIter_keyiter q.1 fin
end
open HT2
section
variable {prog:Program}{w:World}{A:Around}{E:Tb}{s:Shared}
def E9 {es:Array DictEntry}{vs:Te}(hl:vs.length=es.size)(h:∀(i:Nat) v,vs[i]?=some v->∃e,es[i]?=some e/\v=e.key):vs=es.toList.map (·.key):=by
 refine zcT (by simpa using hl) fun i h1 h2=>?_;obtain ⟨e,g,q⟩:=h i vs[i] (zas h1);have hi:i < es.size:=by simpa using h2
 rw [zar hi] at g;cases g;rw [q];simp
theorem Db {a:Addr}{es:Array DictEntry}{ep:Nat}{Q:List Value->Shared->Prop}(hh:A.handled=none)(hd:(a == sysModules)=false)(hm:DE s.heap a es ep)(hz:es.size<=sizeLine)
  (h:∀(h':Heap) (tk:Nat),(∀b o,s.heap.get? b=some o->h'.get? b=some o)->s.toks<=tk->s.heap.objs.size<=h'.objs.size->Q (es.toList.map (·.key)) {s with heap:=h',toks:=tk}) :
  wpAny (model prog w) A (collect (.ref a)) Q E s:=by
 obtain ⟨o,ho,hx,hdat⟩:=id hm;have hlt:=zam ho;unfold collect;refine zab (zcE (zaW F.entry_proto_collect ?_));rw [zaO F.plain_proto_collect _];refine (show wpAny _ A.in1 (newList [] >>= fun l=>again (.builtin "list.__iadd__" ⟨[l,.ref a],[]⟩)) _ _ s from zab (zaT ?_));refine zad ⟨zbd F.plain_list_iadd _,zaW F.entry_list_iadd ?_⟩;rw [zaO F.plain_list_iadd _];refine (show wpAny _ A.in1 (listExtendWith (.ref s.heap.objs.size) (.ref a) (.ref s.heap.objs.size)) _ _ _ from ?_);unfold listExtendWith;have hm1:DE (s.heap.push {cls:=.type "list",data:=.seq ([]:Te).toArray}) a es ep:=hm.at fun _ e=>zae _ e;have hT:Shared.TypeIs {s with heap:=s.heap.push {cls:=.type "list",data:=.seq ([]:Te).toArray}} (.ref a) "dict":=DE.ty (s:={s with heap:=s.heap.push {cls:=.type "list",data:=.seq ([]:Te).toArray}}) hm1;refine zab (zbt hT ?_)
 have h1:listSameRef (.ref s.heap.objs.size) (.ref a)=false:=by simp [listSameRef,zbF hlt]
 simp only [h1,show (Value.type "dict" == Value.type "list")=false by decide,show (Value.type "dict" == Value.type "tuple")=false by decide,zcM,zap,if_false];refine zab (Mv hd hm1 ?_);have hsz:(s.heap.push {cls:=.type "list",data:=.seq ([]:Te).toArray}).objs.size=s.heap.objs.size+1:=za9 ..;generalize hI:(s.heap.push {cls:=.type "list",data:=.seq ([]:Te).toArray}).objs.size=I at *;have kp:∀b o,(s.heap.push {cls:=.type "list",data:=.seq ([]:Te).toArray}).get? b=some o->((s.heap.push {cls:=.type "list",data:=.seq ([]:Te).toArray}).push {cls:=.type "dict_keyiterator",data:=.fields #[.ref a,.int 0 0,.int es.size 0,.int ep 0]}).get? b=some o:=fun b o e=>zae _ e;generalize hh1:(s.heap.push {cls:=.type "list",data:=.seq ([]:Te).toArray}).push {cls:=.type "dict_keyiterator",data:=.fields #[.ref a,.int 0 0,.int es.size 0,.int ep 0]}=h1 at *;have hIt:h1.IsKeyIter I a 0 es.size ep:=⟨_,by rw [←hh1,←hI];exact zaq _ rfl,rfl,rfl⟩;have hma:DE h1 a es ep:=hm1.at fun o e=>kp _ o e;have hTa:Shared.TypeIs {s with heap:=h1} (.ref a) "dict":=DE.ty (s:={s with heap:=h1}) hma;refine zab (zaH (HS.qu hTa ?_))
 refine (show wpAny _ A.in1 (rule "list.extend.makes-room" >>= fun _=>listTouch (.ref s.heap.objs.size) >>= fun _ =>
  again (.builtin "list.extend.loop" ⟨[.ref s.heap.objs.size,.ref I,.ref s.heap.objs.size],[]⟩)) _ _ _ from zab (zcg (zab ?_)))
 have hL:h1.get? s.heap.objs.size=some {cls:=.type "list",data:=.seq ([]:Te).toArray}:=kp _ _ (zaq _ rfl)
 have hSf:s.heap.objs.size∉[I,a]:=fun hm=>by
  simp only [zal,zaE,or_false] at hm;rcases hm with e|e
  ·rw [hsz] at e;omega
  ·exact zaF _ (e ▸ hlt)
 refine (show wpAny _ A.in1 (updateSeq s.heap.objs.size (·.push .none) >>= fun _=>updateSeq s.heap.objs.size (·.pop)) _ _ _ from zab (zbv hL rfl ?_));have hL2:=zaJ (Obj.mapSeq (·.push Value.none)) hL rfl;refine zbv (s:={s with heap:=_}) hL2 rfl ?_;have hL3:=zaJ (Obj.mapSeq (·.pop)) hL2 rfl
 have oth:∀b o,b≠s.heap.objs.size->h1.get? b=some o->((h1.update s.heap.objs.size (Obj.mapSeq (·.push Value.none))).update s.heap.objs.size (Obj.mapSeq (·.pop))).get? b=some o :=
  fun b o hb e=>(zaz _ _ (Ne.symm hb)).trans ((zaz _ _ (Ne.symm hb)).trans e)
 have W1:=HF (prog:=prog) (w:=w) (A:=A.in1) (show A.in1.handled=none from hh) I a (by rw [hsz];exact zat (zaU hlt)) es ep
 refine zad ⟨zbd F.plain_extend_loop _,codeAny_extend_loopS W1.toS hz _ hSf _ es.size 0 _ _ _ rfl (zbb _)
  (W1.frame 0 h1 _ ⟨hIt,hma⟩ fun b hb o e=>oth b o (fun q=>hSf (q ▸ hb)) e) hL3 (ItemsOf.nil _) fun s' acc c hm' hS' hacc=>?_⟩
 refine (show wpAny _ A (load s.heap.objs.size >>= _) _ _ s' from zab (zdo hS' ?_));dsimp only;obtain ⟨h',g',d',tk',os'⟩:=s';have eg:g'=s.gens:=hm'.gens;have ed:d'=s.drawn:=hm'.drawn;have eo:os'=s.os:=hm'.os;subst eg;subst ed;subst eo;refine zad ?_;have hk:acc.toList=es.toList.map (·.key):=E9 (by rw [←hacc.1];simp) fun i v hv=>hacc.2 i v (by simpa using hv);rw [hk];refine h h' tk' (fun b o e=>hm'.heap b o (fun hb=>?_) (oth b o (fun q=>?_) (kp _ _ (zae _ e)))) hm'.toks (zbP (zam hS'))
 ·have hb1:=zam e
  simp only [zal,zaE,or_false] at hb;rcases hb with q|q
  ·exact zaF _ (q ▸ hb1)
  ·rw [q,hsz] at hb1;exact absurd hb1 (Nat.not_lt.mpr (zcl _))
 ·exact zaF _ (q ▸ zam e)
def DV {a:Addr}{es:Array DictEntry}{ep:Nat}{L:Ta}{Q:Tb}(hh:A.handled=none)(hd:(a == sysModules)=false)(hm:DE s.heap a es ep)(hT:bh s.heap (es.toList.map (·.key)) L)(nd:L.Nodup)(h64:L.length < 64)(hne:2<=L.length->∀x∈L,x≠[])
  (h:∀(is:List Nat) (h':Heap) (tk:Nat) (l:Addr) (c:Nat),(∀i∈is,i < L.length)->(is.map fun i=>L.getD i []).Perm L->(is.map fun i=>L.getD i []).Pairwise (fun x y=>jj x y=true)->(∀b o,s.heap.get? b=some o->h'.get? b=some o)->s.toks<=tk ->
   s.heap.objs.size<=l->h'.get? l=some (seqObj "list" (is.map fun i=>(es.toList.map (·.key)).getD i .none).toArray c)->Q (.ref l) {s with heap:=h',toks:=tk}) :
  wpAny (model prog w) A (call (.builtin "sorted") [.ref a]) Q E s:=by
 have hvl:(es.toList.map (·.key)).length=L.length:=hT.len
 have hes:es.size=L.length:=by simpa using hvl
 refine Calls.call_function_entry kind_sorted plain_sorted entry_sorted (args_sorted1 _) ?_;unfold Builtin.«sorted»;refine zab (m:=checkCount "sorted" 1 1 _) (zad (zab (Db (show A.in1.handled=none from hh) hd hm (by rw [hes,zba];omega) fun h' tk kp ht hge=>?_)));generalize es.toList.map (·.key)=vs at *;refine zab (zdh ?_ (by rw [hvl,zba];omega));have hoL:(h'.push (seqObj "list" vs.toArray 0)).get? h'.objs.size=some (seqObj "list" vs.toArray 0):=zaq _ rfl;have hT2:bh (h'.push (seqObj "list" vs.toArray 0)) vs L:=hT.keep fun b o e=>zae _ (kp b o e)
 have hna:∀v∈vs,v≠.ref h'.objs.size:=fun v hv e=>by
  obtain ⟨i,hi,rfl⟩:=za6 hv;obtain ⟨b,o,its,n,q1,q2,_⟩:=hT.at i (by omega);rw [zbf,zas hi] at q1;simp only [zbM] at q1;rw [e] at q1;cases q1;exact absurd (zam (kp _ _ q2)) (zaF _)
 refine zab (zaH (zaV (s:={s with heap:=h'.push (seqObj "list" vs.toArray 0),toks:=tk}) slot_list_sort ⟨_,hoL,rfl⟩ entry_list_sort (p9 (s:={s with heap:=h'.push (seqObj "list" vs.toArray 0),toks:=tk}) hoL hT2 nd h64 hne hna fun out L' ⟨is,a1,a2,a3⟩ a4 a5=>⟨_,rfl,?_⟩) (args_list_sort _)))
 obtain ⟨c,hc⟩:∃c,(sortedHeap (h'.push (seqObj "list" vs.toArray 0)) h'.objs.size vs out).get? h'.objs.size=some (seqObj "list" out c):=by
  unfold sortedHeap;obtain ⟨e1,q1⟩:∃e1,((h'.push (seqObj "list" vs.toArray 0)).update h'.objs.size (Obj.mapSeq fun _=>#[])).get? h'.objs.size=some (seqObj "list" #[] e1):=⟨_,get?_update_seq hoL (fun _=>#[])⟩;exact ⟨_,get?_update_seq (zae _ (zae _ q1)) (fun _=>out)⟩
 have ho:out=(is.map fun i=>vs.getD i .none).toArray:=by rw [←a1]
 subst a2;rw [ho] at hc;refine zad ⟨_,rfl,h is _ tk h'.objs.size c a3 a4 a5 (fun b o e=>?_) ht hge (by rw [ho];exact hc)⟩;have hb:=kp b o e;have ne:h'.objs.size≠b:=zbF (zam hb);unfold sortedHeap;rw [zaz _ _ ne];refine zae _ (zae _ ?_);rw [zaz _ _ ne];exact zae _ hb
end
end HK
namespace HW
variable {K:zac}
open PyProof.Rows L2 HS HT2 HK
def v4 (k:Th):List (Th)->Ta
 |[]=>[k]|x::l=>if jj k x=true then k::x::l else x::v4 k l
def bn:List (Th)->Ta
 |[]=>[]|k::l=>v4 k (bn l)
theorem mx (k:Th):∀l,(v4 k l).Perm (k::l)
 |[]=>.refl _|x::l=>by
  unfold v4;split
  ·exact .refl _
  ·exact ((mx k l).cons x).trans (.swap k x l)
theorem bD:∀l,(bn l).Perm l
 |[]=>.refl _|k::l=>(mx k _).trans ((bD l).cons k)
abbrev Dx (l:Ta):Prop:=l.Pairwise fun x y=>jj x y=true
theorem xO {k:Th}:∀{l:Ta},Dx l->k∉l->Dx (v4 k l)
 |[],_,_=>by simp [v4]|x::l,h,hk=>by
  obtain ⟨h1,h2⟩:=zaw.mp h;unfold v4;split
  ·rename_i c;refine zaw.mpr ⟨fun y hy=>?_,h⟩;rcases zal.mp hy with rfl|hy
   ·exact c
   ·exact gE _ _ _ c (h1 y hy)
  ·rename_i c;refine zaw.mpr ⟨fun y hy=>?_,xO h2 fun z=>hk (zai _ z)⟩;rcases zal.mp ((mx k l).mem_iff.mp hy) with rfl|hy
   ·rcases nU x y with q|q|q
    ·exact q
    ·exact absurd zag (q ▸ hk)
    ·exact absurd q c
   ·exact h1 y hy
theorem gU:∀{l:Ta},l.Nodup->Dx (bn l)
 |[],_=>.nil|k::l,h=>by obtain ⟨h1,h2⟩:=zaK.mp h;exact xO (gU h2) fun z=>h1 ((bD l).mem_iff.mp z)
theorem j9:∀{a b:Ta},Dx a->Dx b->a.Perm b->a=b
 |[],b,_,_,p=>by rw [List.nil_perm.mp p]|x::a,[],_,_,p=>by simpa using p.length_eq|x::a,y::b,ha,hb,p=>by
  obtain ⟨a1,a2⟩:=zaw.mp ha;obtain ⟨b1,b2⟩:=zaw.mp hb;have e:x=y:=by
   rcases zal.mp (p.mem_iff.mp zag) with h|h
   ·exact h
   ·rcases zal.mp (p.mem_iff.mpr zag) with h'|h'
    ·exact h'.symm
    ·have q:=gE _ _ _ (b1 x h) (a1 y h');rw [ic] at q;cases q
  subst e;rw [j9 a2 b2 ((List.perm_cons x).mp p)]
def v9:List R->ac->Option (R×ac)
 |[x],U=>(f6 x U).bind fun xs=>(gd xs).bind fun ns=>some (.v (.key ns),U)|_,_=>none
theorem Co {K:zac}{H:Hp}:∀{xs:List D} {ns:Th} {vs:List V},gd xs=some ns->RelDs K H xs vs->vs=ns.map V.int
 |[],ns,vs,e,r=>by cases e;exact r|.int n::xs,ns,vs,e,r=>by simp only [gd] at e;obtain ⟨ms,e1,rfl⟩:=zaQ.mp e;obtain ⟨v,r',rfl,h1,h2⟩:=r;simp only [ao] at h1;subst h1;rw [Co e1 h2];rfl
 |.non::_,_,_,e,_=>by cases e|.bl _::_,_,_,e,_=>by cases e|.str _::_,_,_,e,_=>by cases e|.tup _::_,_,_,e,_=>by cases e|.fl _::_,_,_,e,_=>by cases e|.fd _ _::_,_,_,e,_=>by cases e|.key _::_,_,_,e,_=>by cases e
def MM :zQ K v9 (LL K):=by
 intro m H U xs d U' vs Q s r e k;unfold v9 at e;split at e
 ·rename_i x;obtain ⟨ys,e1,e⟩:=zaa.mp e;obtain ⟨ns,e2,e⟩:=zaa.mp e;cases e;obtain ⟨v,rfl,r1⟩:=oB r;obtain ⟨a,ws,rfl,q,r⟩:=gT s r1 e1;refine ⟨a,ws,rfl,.inl ⟨q,fun p hp=>?_⟩⟩;obtain ⟨x1,x2,x3⟩:=j8 s r hp;refine k _ _ _ x1 x2 ?_;simp only [au,ao];exact ⟨p,rfl,by rw [bf,Co e2 r]⟩
 ·cases e
noncomputable def uC (f:FE):FE:=fun O U=>(f O U).bind fun a=>match a.1 with|.v (.key ks)=>some (.v (.tup (ks.map D.int)),a.2)|_=>none
theorem qe {K:zac}{H:Hp}:∀(ns:Th),RelDs K H (ns.map D.int) (ns.map V.int)
 |[]=>rfl|n::ns=>⟨_,_,rfl,by simp only [ao],qe ns⟩
def Iq {H:Hp}{Q:VK}{f}(h:az K (uC f) Y H Q):az K f Y H Q:=by
 obtain ⟨O,U,m,d,U',hl,hs,e,k⟩:=h;obtain ⟨⟨x,U1⟩,e1,e⟩:=zaa.mp e;dsimp only at e;split at e
 ·rename_i ks
  cases e;refine ⟨O,U,m,_,_,hl,hs,e1,fun v H' m' x1 s1 r1=>k v H' m' x1 s1 ?_⟩;simp only [au,ao] at r1 ⊢;obtain ⟨a,rfl,q⟩:=r1;exact ⟨a,_,rfl,.inl (.inl q),qe ks⟩
 ·cases e
abbrev kk (k:Th):List aH:=k.map Sum.inl
theorem rM {a b:Th}(h:kk a=kk b):a=b:=by
 induction a generalizing b with
 |nil=>cases b with|nil=>rfl|cons y b=>cases h
 |cons x a ih=>cases b with|nil=>cases h|cons y b =>
   simp only [kk,zaf,List.cons.injEq,Sum.inl.injEq] at h;rw [h.1,ih h.2]
theorem Ca (k:Th):(kk k).map kV=k.map V.int:=by rw [zaR];rfl
def pM (K:zac)(H:Hp)(kvs:List (Th×D))(es:List (List aH×V)):Prop:=es.map (·.1)=kvs.map (fun p=>kk p.1)/\RelDs K H (kvs.map (·.2)) (es.map (·.2))
def Fm:FE:=fun _ U=>some (.p U.length,U++[.dt []])
def IP {H:Hp}{Q:VK}(h:az K Fm Y H Q):vF Y H Q:=by obtain ⟨O,U,m,d,U',hl,hs,e,k⟩:=h;cases e;intro p hp;refine k _ _ (m++[p]) (.newH hp) (hs.newH hp ⟨[],bf,rfl,rfl⟩) ⟨p,rfl,?_⟩;rw [←hs.len];simp
def n6 (kvs:List (Th×D))(k:Th):Option D:=(kvs.find? fun p=>decide (p.1=k)).map (·.2)
def nA (kvs:List (Th×D))(k:Th)(d:D):List (Th×D) :=
 if (kvs.any fun p=>decide (p.1=k))=true then kvs.map (fun p=>if p.1=k then (p.1,d) else p) else kvs++[(k,d)]
theorem pM.val {K:zac}{H:Hp}(k:Th):∀{kvs:List (Th×D)} {es:List (List aH×V)},pM K H kvs es->(n6 kvs k=none/\b9 es (kk k)=none)\/∃d v,n6 kvs k=some d/\b9 es (kk k)=some v/\ao K H d v
 |[],[],_=>.inl ⟨rfl,rfl⟩|[],_::_,h=>by have:=h.1;simp at this|_::_,[],h=>by have:=h.1;simp at this|p::kvs,e::es,⟨h1,h2⟩=>by
  simp only [zaf,List.cons.injEq] at h1;obtain ⟨v,r,q,r1,r2⟩:=h2;simp only [zaf,List.cons.injEq] at q;obtain ⟨q1,q2⟩:=q;by_cases c:p.1=k
  ·refine .inr ⟨p.2,e.2,?_,?_,by rw [q1];exact r1⟩
   ·unfold n6;rw [zbG (by simpa using c)];rfl
   ·exact lz (by rw [h1.1,c])
  ·have ih:=pM.val k (kvs:=kvs) (es:=es) ⟨h1.2,by rw [q2];exact r2⟩;have n1:n6 (p::kvs) k=n6 kvs k:=(by unfold n6;rw [zbH (by simpa using c)]);have n2:b9 (e::es) (kk k)=b9 es (kk k):=gF fun z=>c (rM (h1.1.symm.trans z));rw [n1,n2];exact ih
def pM.any {H:Hp}{kvs:List (Th×D)}{es:List (List aH×V)}(r:pM K H kvs es)(k:Th):(es.any fun e=>decide (e.1=kk k))=(kvs.any fun p=>decide (p.1=k)):=by
 have h1:(es.any fun e=>decide (e.1=kk k))=((es.map (·.1)).any fun x=>decide (x=kk k)):=by rw [zc3];rfl
 rw [h1,r.1,zc3];congr 1;funext p;simp only [Function.comp];by_cases c:p.1=k
 ·rw [zaL c,zaL (by rw [c])]
 ·rw [zaG c,zaG fun z=>c (rM z)]
def pM.cons {K:zac}{H:Hp}{k:Th}{k':List aH}{d:D}{v:V}{kvs:List (Th×D)}{es:List (List aH×V)}:pM K H ((k,d)::kvs) ((k',v)::es) ↔ k'=kk k/\ao K H d v/\pM K H kvs es:=by
 constructor
 ·rintro ⟨h1,h2⟩;simp only [zaf,List.cons.injEq] at h1;obtain ⟨w,r,e,h3,h4⟩:=h2;simp only [zaf,List.cons.injEq] at e;obtain ⟨rfl,rfl⟩:=e;exact ⟨h1.1,h3,h1.2,h4⟩
 ·rintro ⟨rfl,h1,h2,h3⟩;exact ⟨by rw [zaf,zaf,h2],⟨_,_,rfl,h1,h3⟩⟩
theorem pM.repl {K:zac}{H:Hp}{k:Th}{d:D}{v:V}(rd:ao K H d v):∀{kvs:List (Th×D)} {es:List (List aH×V)},pM K H kvs es->pM K H (kvs.map fun p=>if p.1=k then (p.1,d) else p) (es.map fun e=>if e.1=kk k then (e.1,v) else e)
 |[],[],_=>⟨rfl,rfl⟩|[],_::_,h=>by have:=h.1;simp at this|_::_,[],h=>by have:=h.1;simp at this|(p,x)::kvs,(e,y)::es,h=>by
  obtain ⟨rfl,h2,h3⟩:=pM.cons.mp h;have ih:=pM.repl (k:=k) rd h3;rw [zaf,zaf];by_cases c:p=k
  ·have c':kk p=kk k:=by rw [c]
   rw [if_pos c,if_pos c'];exact pM.cons.mpr ⟨rfl,rd,ih⟩
  ·have c':¬ kk p=kk k:=fun z=>c (rM z);rw [if_neg c,if_neg c'];exact pM.cons.mpr ⟨rfl,h2,ih⟩
def pM.snoc {H:Hp}{k:Th}{d:D}{v:V}(rd:ao K H d v){kvs:List (Th×D)}{es:List (List aH×V)}(h:pM K H kvs es):pM K H (kvs++[(k,d)]) (es++[(kk k,v)]):=by refine ⟨by simp [h.1],?_⟩;rw [zaX,zaX];exact RelDs.append h.2 ⟨_,_,rfl,rd,rfl⟩
def pM.put {H:Hp}{k:Th}{d:D}{v:V}{kvs:List (Th×D)}{es:List (List aH×V)}(r:pM K H kvs es)(rd:ao K H d v):pM K H (nA kvs k d) (eB es (kk k) v):=by
 unfold nA eB;rw [r.any k];split
 ·exact r.repl rd
 ·exact r.snoc rd
def GU:V->V->V->Hp->(Hp->Prop)->Prop:=fun o i v H Q=>∃p kvs k b,o=.ref p/\i=.ref b/\H p=some (.dT kvs)/\H b=some (.tup (k.map kV))/\kvs.length < sizeLine/\Q (upd H p (.dT (eB kvs k v)))
def yM {X:Cx}(hu:X.A.units+1 < cLine):sx X GU:=by intro pins s Y H o i v ov iv u Q I ro ri rv h;obtain ⟨p,kvs,k,b,rfl,rfl,hp,hb,hl,q⟩:=h;cases ro;exact qE hu I (w4.t hp hb hl) ri rv fun s' I'=>⟨_,I',q⟩
noncomputable def uL (U:ac)(n:Nat):Option (List (Th×D)):=match U[n]? with|some (.dt kvs)=>some kvs|_=>none
def C0 {m:Tf}{H:Hp}{U:ac}{n:Nat}{a:Addr}{kvs:List (Th×D)}(s:aO K m H U)(ha:m[n]?=some a)(e:uL U n=some kvs):∃es,H a=some (.dT es)/\pM K H kvs es:=by
 unfold uL at e;split at e
 ·rename_i q
  cases e;obtain ⟨es,ea,e1,e2⟩:=s.cell _ _ a q ha;exact ⟨es,ea,e1,e2⟩
 ·cases e
def uq (fo fi:FE):FG:=fun d O U=>match d with
 |.v dv=>(fo O U).bind fun o=>(fi O o.2).bind fun i=>match o.1,i.1 with
  |.p n,.v (.key ks)=>(uL i.2 n).bind fun kvs=>if kvs.length < 1000 then some (O,i.2.set n (.dt (nA kvs ks dv))) else none|_,_=>none
 |_=>none
def A9 {fo fi:FE}{v:V}{H:Hp}{Q:L2.St->Hp->Prop}(h:nN K (uq fo fi) v Y H Q):L2.pW (az K fo) (az K fi) GU v Y H Q:=by
 obtain ⟨O,U,m,d,O',U',hl,hs,r,e,k⟩:=h;unfold uq at e;split at e
 ·rename_i dv;obtain ⟨⟨o,U1⟩,e1,e⟩:=zaa.mp e;obtain ⟨⟨i,U2⟩,e2,e⟩:=zaa.mp e;dsimp only at e;split at e
  ·rename_i n ks e0;obtain ⟨kvs,e3,e⟩:=zaa.mp e;split at e
   ·rename_i h1000
    cases e;refine ⟨O,U,m,_,U1,hl,hs,e1,fun vo H1 m1 x1 s1 r1=>?_⟩;refine ⟨O,U1,m1,_,U2,hl.ext x1,s1,e2,fun vi H2 m2 x2 s2 r2=>?_⟩;obtain ⟨a,rfl,ha⟩:=r1.ext x2;simp only [au,ao] at r2;obtain ⟨b,rfl,hb⟩:=r2;obtain ⟨es,ea,kd⟩:=C0 s2 ha e3;have rv:ao K H2 dv v:=ao.tf (x1.tf.trans x2.tf) _ _ r;have kd':=kd.put (k:=ks) rv;have x:c6 m2 H2 m2 (upd H2 a (.dT (eB es (kk ks) v))):=.put (zaI ha) ea (by simp) (by simp);have s3:=s2.put (c:=.dt (nA kvs ks dv)) ha ea (by simp) (by simp) ⟨_,bf,kd'.1,RelDs.tf x.tf _ _ kd'.2⟩;refine ⟨a,es,kk ks,b,rfl,rfl,ea,by rw [Ca];exact hb,?_,k Y _ m2 ((x1.trans x2).trans x) s3 (hl.ext ((x1.trans x2).trans x))⟩;have:=congrArg List.length kd.1;simp only [zah] at this
    rw [this,zba];omega
   ·cases e
  ·cases e
 ·cases e
def CD (fo fk:FE):FE:=fun O U=>(fo O U).bind fun o=>(fk O o.2).bind fun k=>match o.1,k.1 with
 |.p n,.v (.key ks)=>(uL k.2 n).bind fun kvs=>(n6 kvs ks).bind fun d=>some (.v d,k.2)|_,_=>none
def Iw {H:Hp}{Q:VK}{fo fk}(h:az K (CD fo fk) Y H Q):xl (az K fo) (az K fk) Y H Q:=by
 obtain ⟨O,U,m,d,U',hl,hs,e,kk'⟩:=h;obtain ⟨⟨o,U1⟩,e1,e⟩:=zaa.mp e;obtain ⟨⟨k,U2⟩,e2,e⟩:=zaa.mp e;dsimp only at e;split at e
 ·rename_i n ks e0;obtain ⟨kvs,e3,e⟩:=zaa.mp e;obtain ⟨dd,e4,e⟩:=zaa.mp e;cases e;refine ⟨O,U,m,_,U1,hl,hs,e1,fun vo H1 m1 x1 s1 r1=>?_⟩;refine ⟨O,U1,m1,_,_,hl.ext x1,s1,e2,fun vk H2 m2 x2 s2 r2=>?_⟩;obtain ⟨a,rfl,ha⟩:=r1.ext x2;simp only [au,ao] at r2;obtain ⟨b,rfl,hb⟩:=r2;obtain ⟨es,ea,kd⟩:=C0 s2 ha e3;rcases kd.val ks with ⟨n1,n2⟩|⟨d',v',n1,n2,n3⟩
  ·rw [n1] at e4;cases e4
  ·rw [n1] at e4;cases e4;exact ⟨a,v',rfl,.inr ⟨es,kk ks,b,.inl ea,rfl,by rw [Ca];exact hb,n2.symm⟩,kk' _ H2 m2 (x1.trans x2) s2 (by simpa only [au] using n3)⟩
 ·cases e
def iI (H:Hp):List Addr->List (Th)->Prop
 |[],[]=>True|a::as,k::ks=>H a=some (.tup (k.map V.int))/\iI H as ks|_,_=>False
theorem iI.at {H:Hp}:∀{as:Tf} {ks:Ta},iI H as ks->∀i,i < ks.length->H (as.getD i 0)=some (.tup ((ks.getD i []).map V.int))
 |[],[],_,i,hi=>by simp at hi|[],_::_,h,_,_=>h.elim|_::_,[],h,_,_=>h.elim|_::_,_::_,h,0,_=>h.1|_::_,_::_,h,i+1,hi=>iI.at h.2 i (by simpa using hi)
theorem iI.pick {H:Hp}{as:Tf}{ks:Ta}(h:iI H as ks):∀(is:List Nat),(∀i∈is,i < ks.length)->iI H (is.map fun i=>as.getD i 0) (is.map fun i=>ks.getD i [])
 |[],_=>trivial|i::is,hi=>⟨h.at i (hi i zag),iI.pick h is fun j hj=>hi j (zai _ hj)⟩
theorem iI.rels {K:zac}{H:Hp}:∀{as:Tf} {ks:Ta},iI H as ks->RelDs K H (ks.map D.key) (as.map V.ref)
 |[],[],_=>rfl|[],_::_,h=>h.elim|_::_,[],h=>h.elim|_::_,_::_,h=>⟨_,_,rfl,by simp only [ao];exact ⟨_,rfl,h.1⟩,iI.rels h.2⟩
def oD:List V->Hp->VK->Prop:=fun vs H Q=>∃p kvs L,vs=[.ref p]/\H p=some (.dT kvs)/\kvs.map (·.1)=L.map kk/\L.length < 64/\(2<=L.length->∀x∈L,x≠[]) /\
 ∀as,iI H as (bn L)->∀l,H l=none->Q (.ref l) (upd H l (.lst (as.map V.ref)))
theorem l9 {X:Cx}(hc:X.calm=true):ip X (.builtin "sorted") oD:=by
 intro pins s Y H vs us Q I r h;obtain ⟨p,kvs,L,rfl,hp,hk,h64,hne,q⟩:=h;obtain ⟨u,rfl,rx⟩:=mU r;cases rx;obtain ⟨hz,hs,xs,kt,o,es,ep,g,hx,hd,he,hn⟩:=(show bI X.prog X.w H s.heap p (.dT kvs) from I.hok p _ hp);have key:∀{ks:List (List aH×V)} {ys:List (List aH×Addr×Value)} {L:Ta},Paired (fun (p:List aH×V) (q:List aH×Addr×Value)=>p.1=q.1/\H q.2.1=some (.tup (p.1.map kV))/\aW p.2 q.2.2) ks ys->ks.map (·.1)=L.map kk ->
   iI H (ys.map (·.2.1)) L/\bh s.heap (ys.map fun y=>.ref y.2.1) L/\ys.map (·.1)=L.map kk:=by
  intro ks ys L kt
  induction kt generalizing L with
  |nil=>intro e;cases L with|nil=>exact ⟨trivial,trivial,rfl⟩|cons _ _=>cases e
  | @cons a b ps qs h1 h2 ih =>
   intro e
   cases L with|nil=>cases e|cons k L =>
    simp only [zaf,List.cons.injEq] at e;obtain ⟨i1,i2,i3⟩:=ih e.2
    have hb:H b.2.1=some (.tup (k.map V.int)):=by rw [h1.2.1,e.1,Ca]
    obtain ⟨_,its,rv,⟨ob,g1,g2,n,g3⟩,_⟩:=(show bI X.prog X.w H s.heap b.2.1 (.tup (k.map V.int)) from I.hok _ _ hb);exact ⟨⟨hb,i1⟩,⟨⟨b.2.1,ob,its.toArray,n,rfl,g1,g2,g3,by simpa using gB rv⟩,i2⟩,by simp only [zaf,i3,←h1.1,e.1]⟩
 obtain ⟨pa,ta,ka⟩:=key kt hk;have hkeys:es.toList.map (·.key)=xs.map fun y=>.ref y.2.1:=by rw [he,zaR];rfl
 have nd:L.Nodup:=by rw [ka] at hn;exact (zbk.mp hn).imp fun h e=>h (by rw [e])
 refine DV (I.ok.hd hc) hs ⟨o,g,hx,hd⟩ (by rw [hkeys];exact ta) nd h64 hne fun is h' tk l c i1 i2 i3 kp ht hl hL=>?_;have hpk:=pa.pick is i1;have heq:(is.map fun i=>L.getD i [])=bn L:=j9 i3 (gU nd) (i2.trans (bD L).symm);rw [heq] at hpk;have hlen:is.length=L.length:=by simpa using i2.length_eq
 refine ⟨.ref l,_,I.laid (t':=tk) kp hl (show bI X.prog X.w _ h' _ (.lst ((is.map fun i=>(xs.map (·.2.1)).getD i 0).map V.ref)) from ⟨by rw [zah,zah,hlen,zba];omega,(is.map fun i=>(es.toList.map (·.key)).getD i .none),c,?_,by simpa [seqObj] using hL⟩),rfl,q _ hpk _ (I.hok.fresh hl)⟩;rw [hkeys];have hxl:xs.length=L.length:=by simpa using congrArg List.length ka
 clear hpk heq i2 i3 hL hlen;induction is with|nil=>exact .nil|cons i is ih =>
  have hi:i < xs.length:=by rw [hxl];exact i1 i zag
  refine .cons ?_ (ih fun j hj=>i1 j (zai _ hj))
  show _=Value.ref _
  simp [zbf,zas hi]
def yL:List R->ac->Option (R×ac)
 |[.p n],U=>(uL U n).bind fun kvs=>if kvs.length < 64/\(kvs.length < 2\/∀p∈kvs,p.1≠[]) then some (.p U.length,U++[.lst ((bn (kvs.map (·.1))).map D.key)]) else none|_,_=>none
def J3 {K:zac}:zQ K yL oD:=by
 intro m H U xs d U' vs Q s r e k;unfold yL at e;split at e
 ·rename_i n;obtain ⟨kvs,e1,e⟩:=zaa.mp e;split at e
  ·rename_i hc
   cases e;obtain ⟨v,rfl,r1⟩:=oB r;obtain ⟨a,rfl,ha⟩:=r1;obtain ⟨es,ea,kd⟩:=C0 s ha e1;refine ⟨a,es,kvs.map (·.1),rfl,ea,by rw [kd.1,zaR];rfl,by simpa using hc.1,fun h2 x hx=>?_,fun as pa l hl=>?_⟩
   ·rw [zah] at h2;obtain ⟨p,hp,rfl⟩:=zan.mp hx;rcases hc.2 with h|h
    ·omega
    ·exact h p hp
   ·obtain ⟨x1,x2,x3⟩:=fJ s (pa.rels (K:=K)) hl;exact k _ _ _ x1 x2 x3
  ·cases e
 ·cases e
noncomputable def D0:R->ac->Option (List D)
 |.p a,U=>(match U[a]? with|some (.lst xs)=>some xs|some (.fz xs)=>some xs|_=>none)
 |.v (.fl xs),_=>some xs|_,_=>none
theorem DZ {m:Tf}{H:Hp}{U:ac}(s:aO K m H U){x:R}{v:V}{xs:List D}(e:D0 x U=some xs)(r:au K m H x v):∃a vs,v=.ref a/\jg K H a vs/\RelDs K H xs vs:=by
 refine gT s r ?_;rw [←e]
 cases x with|v d=>cases d <;> rfl|_=>rfl
end HW
namespace PySem
section
variable {prog:Program}{w:World}{K:Type}[DecidableEq K]{knd:HeapKind prog w K}{A:Around}{E:Tb}{s:Shared}
theorem pU {d a:Addr}{xs:List (K×Addr×Value)}{k:K}{dflt:Value}{Q:Tb}(hu:knd.room A)(hkey:knd.is s.heap k a)(hm:s.heap.DictOfH knd d xs)
  (h1:∀v,(atKey xs k).map (·.2)=some v->Q v {s with toks:=s.toks+knd.draws k})
  (h2:atKey xs k=none->∀h',h'.DictOfH knd d (storedH xs k a dflt)->Heap.SameBut d s.heap h'->Q dflt {s with heap:=h',toks:=s.toks+knd.draws k})
  (hsz:xs.length<=sizeLine) :
  wpAny (model prog w) A (dictSetDefault d (.ref a) dflt) Q E s:=by
 obtain ⟨o,es,ep,ho,hc,hd,he,his,hn⟩:=hm;unfold dictSetDefault
 try with_reducible refine zaH ?_
 refine zab (knd.pyHash hu hkey ?_);refine zab (wpAny_dictFind_heap (s:={s with toks:=s.toks+knd.draws k}) hu hkey ho hd he his hn ?_ ?_)
 ·intro hno
  have hnot:k∉xs.map (·.1):=not_mem_keys_of_get hno
  refine zab (zcg (zab (wpAny_updateDictKeys (hz:=by have e:=size_of_entries he;omega) (s:={s with toks:=s.toks+knd.draws k}) ho hd (zad (h2 (atKey_none_of_get hno) _ ⟨_,_,ep+1,zaJ _ ho (Obj.isFreed_of_dict (Obj.data_mapDictKeys hd _)),
   hc.mapDictKeys _,Obj.data_mapDictKeys hd _,?_,?_,?_⟩ (Heap.SameBut.update ..))))))
  ·rw [storedH_new (atKey_none_of_get hno)]
   simp [he,entryOfKey]
  ·rw [storedH_new (atKey_none_of_get hno)]
   intro x hx;rcases za2.mp hx with hx|hx
   ·exact knd.keeps (his x hx) ho hd (Heap.SameBut.update ..)
   ·simp only [zaB] at hx
    subst hx;exact knd.keeps hkey ho hd (Heap.SameBut.update ..)
  ·rw [storedH_new (atKey_none_of_get hno)]
   rw [zaX,zbu];refine ⟨hn,by simp,?_⟩;intro x hx y hy;simp only [zaf,zbc,zaB] at hy;subst hy;exact fun e=>hnot (e ▸ hx)
 ·intro j p hj
  refine zab (zcI (s:={s with toks:=s.toks+knd.draws k}) ho hd ?_);rw [entry_at he j,hj];exact zab (zcg (zad (h1 _ (by rw [atKey_of_get hn hj];rfl))))
def kC (knd:HeapKind prog w K){k:K}{a:Addr}(d:Addr)(hd:(d == sysModules)=false)(dflt:Value) :
  MeetsIn prog w (Builtin.«dict.setdefault» ⟨[.ref d,.ref a,dflt],[]⟩) (fun A R s=>knd.room A.in1/\knd.is s.heap k a/\∃xs,s.heap.DictOfH knd d xs/\xs.length<=sizeLine /\
   (∀v,(atKey xs k).map (·.2)=some v->R (.ok (.ret v)) {s with toks:=s.toks+knd.draws k}) /\
   (atKey xs k=none->∀h',h'.DictOfH knd d (storedH xs k a dflt)->Heap.SameBut d s.heap h'->R (.ok (.ret dflt)) {s with heap:=h',toks:=s.toks+knd.draws k})) :=
 .of_wp fun A R s hh=>by
  obtain ⟨hu,hkey,xs,hm,hz,h1,h2⟩:=hh;unfold Builtin.«dict.setdefault»;refine zab ?_;unfold Builtin.Dict.keyAndDefault;refine zab (wpAny_notOrdered_dict hm.typeIs ?_)
  show wpAny _ _ (pure (d,Value.ref a,some dflt)) _ _ s
  refine zad ?_
  show wpAny _ _ (if (d == sysModules)=true then _ else (dictSetDefault d (.ref a) dflt >>= _)) _ _ s
  rw [if_neg (by rw [hd];exact zbh)];exact zab (pU (hsz:=hz) hu hkey hm (fun v hv=>zad ⟨v,rfl,h1 v hv⟩) fun hn h' hm' hs'=>zad ⟨dflt,rfl,h2 hn h' hm' hs'⟩)
end
end PySem
namespace HW
variable {K:zac}
open PyProof.Rows L2
def GG (td ty tx:TE):TE:=fun Y H Q=>td Y H fun x H1=>∃a,x=.ref a/\OI H1 a/\ty Y H1 fun y H2=>tx Y H2 fun z H3=>∃kvs k b,H3 a=some (.dT kvs)/\y=.ref b/\H3 b=some (.tup (k.map kV))/\kvs.length < sizeLine /\
 (∀v,b9 kvs k=some v->Q v H3)/\(b9 kvs k=none->Q z (upd H3 a (.dT (kvs++[(k,z)]))))
def EL {X:Cx}(hu:X.A.units+1 < cLine){o e f:Expr}{apos cpos:Pos}{td ty tx:TE}(ho:PE X o td)(he:PE X e ty)(hf:PE X f tx)(m:M2 X o "setdefault" apos e f cpos):PE X (.Call (.Attribute o "setdefault" apos) [e,f] [] cpos) (GG td ty tx):=by
 intro pins s Y H Q I h;refine zdj m.base m.few m.line PySem.F.plainAttrs_dict PySem.F.slot_dict_setdefault PySem.F.type_dict_setdefault (cL (ho pins s Y H _ I h) fun u s1 hh=>?_);obtain ⟨x,H1,I1,rx,a,ex,d,q1⟩:=hh;subst ex;obtain rfl:u=Value.ref a:=rx;obtain ⟨t1,t2,_⟩:=wm I1 d;refine ⟨t1,t2,?_⟩;rw [m.trees];refine Calls.callWith_builtin rfl (Calls.evalArgs_plain (Calls.spliced_cons (cL (he pins s1 Y H1 _ I1 q1) fun iv s2 hh=>?_)));obtain ⟨y,H2,I2,ry,q2⟩:=hh;refine Calls.spliced_cons (cL (hf pins s2 Y H2 _ I2 q2) fun fv s3 hh=>Calls.spliced_nil ?_);obtain ⟨z,H3,I3,rz,kvs,k,b,ea,ey,eb,hz,qa,qb⟩:=hh;subst ey;cases (show iv=Value.ref b from ry);obtain ⟨zz,hd,xs,rel,dd⟩:=Ho I3.hok ea;have hxz:xs.length<=sizeLine:=by rw [←Paired.length rel];exact zz
 refine call_meetsIn PySem.F.slot_dict_setdefault dd.typeIs PySem.F.entry_dict_setdefault (PySem.F.args_dict_setdefault_3 _ _ _) (kC (tupleKind (aY X.prog X.w)) (k:=k) a hd fv) ⟨tupleKind_room_in1 hu,mz I3.hok eb,xs,dd,hxz,fun v hv=>?_,fun hn h' dd' hs=>?_⟩
 ·have r:=rel.val k;rw [hv] at r
  cases q:b9 kvs k with|none=>rw [q] at r;exact r.elim|some v'=>rw [q] at r;exact ⟨v',H3,I3.tok _,r,qa v' q⟩
 ·have r:=rel.val k;rw [hn] at r
  cases q:b9 kvs k with|some v'=>rw [q] at r;exact r.elim|none =>
   have rp:=rel.put k eb rz;rw [oF _ q] at rp;obtain ⟨q',es,ep,hq,h2,h3,h4,_,h5⟩:=dd';refine ⟨z,_,l8 (ob:=.dT (kvs++[(k,z)])) I3 (by rw [ea];exact True.intro) hs ⟨q',hq⟩ ⟨by rw [za1];exact hz,hd,_,rp.keeps fun c ys ec=>?_,q',es,ep,hq,h2,h3,h4,h5⟩,rz,qb q⟩;rw [aD (G6 ec ea (fun z=>nomatch z))];exact ec
def nq (K:zac)(m:Tf)(H:Hp)(kvs:List (Th×R))(es:List (List aH×V)):Prop:=es.map (·.1)=kvs.map (fun p=>kk p.1)/\bi K m H (kvs.map (·.2)) (es.map (·.2))
def jd (kvs:List (Th×R))(k:Th):Option R:=(kvs.find? fun p=>decide (p.1=k)).map (·.2)
section
variable {K:zac}{m m':Tf}{H H':Hp}
def nq.nil:nq K m H [] []:=⟨rfl,rfl⟩
def nq.cons {k:Th}{k':List aH}{d:R}{v:V}{kvs:List (Th×R)}{es:List (List aH×V)}:nq K m H ((k,d)::kvs) ((k',v)::es) ↔ k'=kk k/\au K m H d v/\nq K m H kvs es:=by
 constructor
 ·rintro ⟨h1,h2⟩;simp only [zaf,List.cons.injEq] at h1;obtain ⟨w,r,e,h3,h4⟩:=h2;simp only [zaf,List.cons.injEq] at e;obtain ⟨rfl,rfl⟩:=e;exact ⟨h1.1,h3,h1.2,h4⟩
 ·rintro ⟨rfl,h1,h2,h3⟩;exact ⟨by simp [h2],⟨_,_,rfl,h1,h3⟩⟩
theorem nq.snoc {k:Th}{d:R}{v:V}(rd:au K m H d v):∀{kvs:List (Th×R)} {es:List (List aH×V)},nq K m H kvs es->nq K m H (kvs++[(k,d)]) (es++[(kk k,v)])
 |[],[],_=>nq.cons.mpr ⟨rfl,rd,.nil⟩|[],e::es,h=>by have:=h.1;simp at this|q::kvs,[],h=>by have:=h.1;simp at this|(a,x)::kvs,(b,y)::es,h=>by obtain ⟨rfl,h1,h2⟩:=nq.cons.mp h;exact nq.cons.mpr ⟨rfl,h1,nq.snoc rd h2⟩
theorem nq.val:∀{kvs:List (Th×R)} {es:List (List aH×V)} (k:Th),nq K m H kvs es->(jd kvs k=none/\b9 es (kk k)=none)\/∃d v,jd kvs k=some d/\b9 es (kk k)=some v/\au K m H d v
 |[],es,k,h=>by
  have:es=[]:=by simpa using h.1
  subst this;exact .inl ⟨rfl,rfl⟩
 |(a,d)::kvs,[],k,h=>by have:=h.1;simp at this|(a,d)::kvs,(b,v)::es,k,h=>by
  obtain ⟨rfl,h1,h2⟩:=nq.cons.mp h;by_cases e:a=k
  ·refine .inr ⟨d,v,?_,?_,h1⟩
   ·simp [jd,e]
   ·simp [b9,e]
  ·have ih:=nq.val k h2;have e1:jd ((a,d)::kvs) k=jd kvs k:=(by simp [jd,e]);have e2:b9 ((kk a,v)::es) (kk k)=b9 es (kk k):=gF fun z=>e (rM z);rw [e1,e2];exact ih
def nq.ext (x:c6 m H m' H'){kvs:List (Th×R)}{es:List (List aH×V)}(h:nq K m H kvs es):nq K m' H' kvs es:=⟨h.1,bi.ext x h.2⟩
def nq.len {kvs:List (Th×R)}{es:List (List aH×V)}(h:nq K m H kvs es):es.length=kvs.length:=by simpa using congrArg List.length h.1
end
noncomputable def ij (U:ac)(n:Nat):Option (List (Th×R)):=match U[n]? with|some (.dtr kvs)=>some kvs|_=>none
def r9 {m:Tf}{H:Hp}{U:ac}{n:Nat}{a:Addr}{kvs:List (Th×R)}(s:aO K m H U)(ha:m[n]?=some a)(e:ij U n=some kvs):U[n]?=some (.dtr kvs)/\∃es,H a=some (.dT es)/\nq K m H kvs es:=by
 unfold ij at e;split at e
 ·rename_i q
  cases e;obtain ⟨es,ea,e1,e2⟩:=s.cell _ _ a q ha;exact ⟨q,es,ea,e1,e2⟩
 ·cases e
def Fn:FE:=fun _ U=>some (.p U.length,U++[.dtr []])
def IQ {H:Hp}{Q:VK}(h:az K Fn Y H Q):vF Y H Q:=by obtain ⟨O,U,m,d,U',hl,hs,e,k⟩:=h;cases e;intro p hp;have x:c6 m H (m++[p]) (upd H p (.dT [])):=.newH hp;exact k _ _ (m++[p]) x (hs.newH hp ⟨[],bf,rfl,rfl⟩) ⟨p,rfl,by rw [←hs.len];simp⟩
def o7 (fo fk fx:FE):FE:=fun O U=>(fo O U).bind fun o=>match o.1 with
 |.p n=>if (ij o.2 n).isSome=true then (fk O o.2).bind fun k=>match k.1 with
  |.v (.key ks)=>(fx O k.2).bind fun x=>(ij x.2 n).bind fun kvs=>if kvs.length < 1000 then some (match jd kvs ks with|some r=>(r,x.2)|none=>(x.1,x.2.set n (.dtr (kvs++[(ks,x.1)])))) else none
  |_=>none
  else none
 |_=>none
def D8 {H:Hp}{Q:VK}{fo fk fx}(h:az K (o7 fo fk fx) Y H Q):GG (az K fo) (az K fk) (az K fx) Y H Q:=by
 obtain ⟨O,U,m,d,U',hl,hs,e,kc⟩:=h;obtain ⟨⟨o,U1⟩,e1,e⟩:=zaa.mp e;split at e
 ·rename_i n hn;simp only at hn;subst hn;split at e
  ·rename_i h0;obtain ⟨⟨k,U2⟩,e2,e⟩:=zaa.mp e;split at e
   ·rename_i ks hks;simp only at hks;subst hks;obtain ⟨⟨x,U3⟩,e3,e⟩:=zaa.mp e;obtain ⟨kvs,e4,e⟩:=zaa.mp e;split at e
    ·rename_i hlt;refine ⟨O,U,m,_,U1,hl,hs,e1,fun vo H1 m1 x1 s1 r1=>?_⟩;obtain ⟨kvs0,e0⟩:=zb4.mp h0;obtain ⟨a,rfl,ha⟩:=r1;obtain ⟨_,es,hR,hK⟩:=r9 s1 ha e0;refine ⟨a,rfl,.inr ⟨es,.inl hR⟩,?_⟩;refine ⟨O,U1,m1,_,U2,hl.ext x1,s1,e2,fun vk H2 m2 x2 s2 r2=>?_⟩;refine ⟨O,U2,m2,x,U3,hl.ext (x1.trans x2),s2,e3,fun vx H3 m3 x3 s3 r3=>?_⟩;have x13:=(x1.trans x2).trans x3;have ha3:m3[n]?=some a:=by obtain ⟨a',ea',q⟩:=au.ext (x2.trans x3) (show au K m1 H1 (.p n) (.ref a) from ⟨a,rfl,ha⟩);cases ea';exact q
     obtain ⟨q3,es',hR',hK'⟩:=r9 s3 ha3 e4;have r2':=r2.ext x3;simp only [au,ao] at r2';obtain ⟨b,rfl,hb⟩:=r2';refine ⟨es',kk ks,b,hR',rfl,by rw [Ca];exact hb,?_,fun v hv=>?_,fun hv=>?_⟩
     ·rw [hK'.len];exact zaA hlt (by rw [zba];omega)
     ·rcases nq.val ks hK' with ⟨n1,n2⟩|⟨dd,vv,n1,n2,n3⟩
      ·rw [n2] at hv;cases hv
      ·rw [n2] at hv;cases hv;simp only [n1] at e;cases e;exact kc _ H3 m3 x13 s3 n3
     ·rcases nq.val ks hK' with ⟨n1,n2⟩|⟨dd,vv,n1,n2,n3⟩
      ·simp only [n1] at e
       cases e;have y:c6 m3 H3 m3 (upd H3 a (.dT (es'++[(kk ks,vx)]))):=.put (zaI ha3) hR' (by simp) (by simp);have kr:=nq.snoc (k:=ks) (r3.ext y) (hK'.ext y);exact kc _ _ m3 (x13.trans y) (s3.put ha3 hR' (by simp) (by simp) ⟨_,bf,kr.1,kr.2⟩) (r3.ext y)
      ·rw [n2] at hv;cases hv
    ·cases e
   ·cases e
  ·cases e
 ·cases e
def CC (fo fk:FE):FE:=fun O U=>(fo O U).bind fun o=>(fk O o.2).bind fun k=>match o.1,k.1 with
 |.p n,.v (.key ks)=>(ij k.2 n).bind fun kvs=>(jd kvs ks).bind fun d=>some (d,k.2)|_,_=>none
def Is {H:Hp}{Q:VK}{fo fk}(h:az K (CC fo fk) Y H Q):xl (az K fo) (az K fk) Y H Q:=by
 obtain ⟨O,U,m,d,U',hl,hs,e,kk'⟩:=h;obtain ⟨⟨o,U1⟩,e1,e⟩:=zaa.mp e;obtain ⟨⟨k,U2⟩,e2,e⟩:=zaa.mp e;dsimp only at e;split at e
 ·rename_i n ks e0;obtain ⟨kvs,e3,e⟩:=zaa.mp e;obtain ⟨dd,e4,e⟩:=zaa.mp e;cases e;refine ⟨O,U,m,_,U1,hl,hs,e1,fun vo H1 m1 x1 s1 r1=>?_⟩;refine ⟨O,U1,m1,_,_,hl.ext x1,s1,e2,fun vk H2 m2 x2 s2 r2=>?_⟩;obtain ⟨a,rfl,ha⟩:=r1.ext x2;simp only [au,ao] at r2;obtain ⟨b,rfl,hb⟩:=r2;obtain ⟨_,es,ea,kd⟩:=r9 s2 ha e3;rcases nq.val ks kd with ⟨n1,n2⟩|⟨d',v',n1,n2,n3⟩
  ·rw [n1] at e4;cases e4
  ·rw [n1] at e4;cases e4;exact ⟨a,v',rfl,.inr ⟨es,kk ks,b,.inl ea,rfl,by rw [Ca];exact hb,n2.symm⟩,kk' _ H2 m2 (x1.trans x2) s2 n3⟩
 ·cases e
def p8:List R->ac->Option (R×ac)
 |[.p n],U=>(ij U n).bind fun kvs=>if kvs.length < 64/\(kvs.length < 2\/∀p∈kvs,p.1≠[]) then some (.p U.length,U++[.lst ((bn (kvs.map (·.1))).map D.key)]) else none|_,_=>none
def Fd {K:zac}:zQ K p8 oD:=by
 intro m H U xs d U' vs Q s r e k;unfold p8 at e;split at e
 ·rename_i n;obtain ⟨kvs,e1,e⟩:=zaa.mp e;split at e
  ·rename_i hc
   cases e;obtain ⟨v,rfl,r1⟩:=oB r;obtain ⟨a,rfl,ha⟩:=r1;obtain ⟨_,es,ea,kd⟩:=r9 s ha e1;refine ⟨a,es,kvs.map (·.1),rfl,ea,by rw [kd.1,zaR];rfl,by simpa using hc.1,fun h2 x hx=>?_,fun as pa l hl=>?_⟩
   ·rw [zah] at h2;obtain ⟨p,hp,rfl⟩:=zan.mp hx;rcases hc.2 with h|h
    ·omega
    ·exact h p hp
   ·obtain ⟨x1,x2,x3⟩:=fJ s (pa.rels (K:=K)) hl;exact k _ _ _ x1 x2 x3
  ·cases e
 ·cases e
def Fk:FE:=fun _ U=>some (.p U.length,U++[.dr []])
def IO {H:Hp}{Q:VK}(h:az K Fk Y H Q):vG Y H Q:=by obtain ⟨O,U,m,d,U',hl,hs,e,k⟩:=h;cases e;intro p hp;have x:c6 m H (m++[p]) (upd H p (.dK [])):=.newH hp;exact k _ _ (m++[p]) x (hs.newH hp ⟨[],bf,rfl,rfl⟩) ⟨p,rfl,by rw [←hs.len];simp⟩
def o9 (fk fv:FE):FE:=fun O U=>(fk O (U++[.dr []])).bind fun a=>(fv O a.2).bind fun b=>(ee a.1).bind fun k =>
 match b.2[U.length]? with|some (.dr [])=>some (.p U.length,b.2.set U.length (.dr [(k,b.1)]))|_=>none
def Ba {K:zac}{fk fv:FE}{H:Hp}{Q:VK}(h:az K (o9 fk fv) Y H Q):GM [(az K fk,az K fv)] Y H Q:=by
 obtain ⟨O,U,m,d,U',hl,hs,e,k⟩:=h;obtain ⟨⟨a,U1⟩,e1,e⟩:=zaa.mp e;obtain ⟨⟨b,U2⟩,e2,e⟩:=zaa.mp e;obtain ⟨key,e3,e⟩:=zaa.mp e;split at e
 ·rename_i q
  cases e;intro p hp;have x0:c6 m H (m++[p]) (upd H p (.dK [])):=.newH hp;have s0:aO K (m++[p]) (upd H p (.dK [])) (U++[.dr []]):=hs.newH hp ⟨[],bf,rfl,rfl⟩;refine tG (K:=K) [(fk,fv)] (rs:=[(a,b)]) (U':=U2) (hl.ext x0) s0 (by simp only [wx,e1,e2,zav]) fun ps H2 m2 x2 s2 rp=>?_;have hm2:m2[U.length]?=some p:=by obtain ⟨ex,rfl,_⟩:=x2.ext;rw [←hs.len,za3];simp
  obtain ⟨es,ea,q1,q2⟩:=s2.cell _ _ p q hm2;have hes:es=[]:=by simpa using q1
  subst hes;obtain ⟨vx,vy,r,rfl,r1,r2,r3⟩:=rp;have r3:r=[]:=r3;subst r3;refine ⟨ea,[(key,vy)],by rw [lT r1 e3];rfl,by simp,?_⟩;have x3:c6 m2 H2 m2 (upd H2 p (.dK [(key,vy)])):=.put (zaI hm2) ea (by simp) (by simp);exact k _ _ m2 (x0.trans (x2.trans x3)) (s2.put hm2 ea (by simp) (by simp) ⟨_,bf,rfl,⟨_,_,rfl,r2.ext x3,rfl⟩⟩) ⟨p,rfl,hm2⟩
 ·cases e
def Mw (neg:Bool):R->R->ac->Option (R×ac)
 |.v (.int i),.v (.fd ks ds),U=>some (.v (.bl (if neg then !(ks.any fun k=>decide (k=.inl i)) else ks.any fun k=>decide (k=.inl i))),U)|x,y,U=>Ph neg x y U
def MO {neg:Bool}:sy K (Mw neg) (fun x y H Q=>ND K neg x y H Q\/rj neg x y H Q):=by
 intro m H U x y d U' v u Q s rx ry e k;unfold Mw at e;split at e
 ·rename_i i ks ds
  cases e;simp only [au,ao] at rx ry;subst rx;obtain ⟨a,o,es,rfl,ea,e1,e2⟩:=ry;refine .inr ⟨a,es,.inl i,rfl,rfl,.inr ⟨o,ea⟩,k _ H m .refl s ?_⟩;have hv:(b9 es (.inl i)).isSome=ks.any fun k=>decide (k=.inl i):=by rw [jY,←e1,zc3];rfl
  rw [hv];simp only [au,ao]
 ·exact MN m H U _ _ d U' v u Q s rx ry e k
end HW
namespace L2
open PyProof.Rows
def OH (a:Addr)(o:Obj)(es:List (aH×V)):It :=
 ⟨fun i H=>H a=some (.frz o (.dK es))/\i < es.length,fun i H x H'=>H'=H/\∃kv,es[i]?=some kv/\x=kV kv.1,fun i H=>H a=some (.frz o (.dK es))/\es.length<=i⟩
def Kk (o:Obj):Nat:=match o.data with|.dict _ ep=>ep|_=>0
def rS {H:Hp}{h:Heap}{a:Addr}{o:Obj}{es:List (aH×V)}(ok:iJ P w H h)(e:H a=some (.frz o (.dK es))):(a == sysModules)=false/\∃vs,KV es vs/\h.DictAt (aY P w) a vs (Kk o):=by obtain ⟨q1,_,q3,vs,q4,o',es',ep,r1,r2,r3,r4⟩:=(show bI P w H h a (.frz o (.dK es)) from ok a _ e);have z:=q1.symm.trans r1;cases z;refine ⟨q3,vs,q4,o,es',r1,r2,?_,r4⟩;rw [r3];unfold Kk;rw [r3]
theorem A4 {k:aH}{u:Value}(h:(aY P w).is k u=true):aW (kV k) u:=by
 rcases br (show jD k u=true from h) with ⟨i,t,rfl,rfl⟩|⟨x,t,rfl,rfl⟩|⟨rfl,rfl⟩
 ·exact ⟨t,rfl⟩
 ·exact ⟨t,rfl⟩
 ·rfl
theorem KV.at {es:List (aH×V)}{vs:List (aH×Value)}(h:KV es vs){i:Nat}{k:aH}{v:V}(e:es[i]?=some (k,v)):∃u,vs[i]?=some (k,u):=by
 induction h generalizing i with|nil=>simp at e|cons r t ih =>
  cases i with
  |zero =>
   simp only [zcf,Option.some.injEq] at e ⊢;subst e;rename_i q _ _;exact ⟨q.2,Prod.ext r.1.symm rfl⟩
  |succ i=>simpa using ih (by simpa using e)
theorem yH {K:zac}{tg:Expr}(a it:Addr)(o:Obj)(es:List (aH×V)):wX P w K tg (OH a o es) [it] it (fun i h=>h.IsKeyIter it a i es.length (Kk o)) where
 mem:=by simp
 obj:=fun i h st b hb=>by
  have e:b=it:=by simpa using hb
  subst e;obtain ⟨o,e,c,d⟩:=st;exact ⟨o,e,fun v z=>by rw [d] at z;cases z⟩
 keep:=fun i h h' st k=>st.at fun o e=>k it (by simp) o e
 item:=by intro X hP hw hK hc i pins s Y H E I hf st hg;subst hP hw hK;obtain ⟨hq,hi⟩:=hg;obtain ⟨hd,vs,kv,da⟩:=rS I.hok hq;have hx:es[i]?=some es[i]:=zas hi;obtain ⟨u,hu⟩:=kv.at (k:=es[i].1) (v:=es[i].2) hx;obtain ⟨f0,f1,f2,f3,f4,f5⟩:=hf it (by simp);have hlen:vs.length=es.length:=kv.length.symm;rw [←hlen] at st;refine wpAny_pyNext_dict_item st da hu fun key h' hkey st' sb=>?_;rw [hlen] at st';have I1:aF X pins Y H {s with heap:=h'}:=I.turned (t':=s.toks) (fun b o hb e=>(sb.2 b hb).trans e) f0 f1 f3 f4 f5;obtain ⟨oi,e,c,d⟩:=id st';exact ⟨key,rfl,xY (s:={s with heap:=h'}) e c d (by decide) ⟨kV es[i].1,H,I1,A4 hkey,⟨rfl,_,hx,rfl⟩,st',fun b hb=>(hf b hb).1⟩⟩
 done:=by intro X hP hw hK hc i pins s Y H E I hf st hg;subst hP hw hK;obtain ⟨hq,hi⟩:=hg;obtain ⟨hd,vs,kv,da⟩:=rS I.hok hq;obtain ⟨f0,f1,f2,f3,f4,f5⟩:=hf it (by simp);have hlen:vs.length=es.length:=kv.length.symm;rw [←hlen] at st;exact wpAny_pyNext_dict_end (I.ok.hd hc) st da (by simp;omega) fun h' eb=>⟨rfl,I.turned (t':=s.toks) (fun b o hb e=>eb b o hb e) f0 f1 f3 f4 f5⟩
 self:=fun _ _ _ _ _ st h=>wpAny_pyIter_keyiter st h
def Hb (tl:TE):TI:=fun Y H R=>tl Y H fun x H1=>∃a o es,x=.ref a/\H1 a=some (.frz o (.dK es))/\R (OH a o es) H1
def EH {tg l:Expr}{tl:TE}(hl:PE X l tl):PI X tg l (Hb tl):=by
 intro pins s Y H R I h;refine cL (hl pins s Y H _ I h) fun v s1 hh=>?_;obtain ⟨x,H1,I1,r1,q1⟩:=hh;obtain ⟨a,o,es,e,hq,q⟩:=q1;subst e;cases r1;obtain ⟨hd,vs,kv,da⟩:=rS I1.hok hq;refine wpAny_pyIter_dict hd da ?_;refine ⟨s1.heap.objs.size,[s1.heap.objs.size],_,_,H1,rfl,I1.kept (t':=s1.toks) fun b o e=>zae _ e,yH a _ o es,⟨_,zaq _ rfl,rfl,by rw [kv.length];rfl⟩,fun b hb=>?_,q⟩;have e:b=s1.heap.objs.size:=by simpa using hb
 subst e;exact I1.fpOk (zao _) (I1.hok.fresh (zao _))
end L2
namespace HW
open PyProof.Rows L2
noncomputable def kD:aH->D
 |.inl i=>.int i|.inr (some x)=>.str x|.inr none=>.non
def JQ {K:zac}{H:Hp}(k:aH):ao K H (kD k) (kV k):=by rcases k with i|(_|x) <;> simp only [kD,kV,ao]
def JY {K:zac}{a:Addr}{o:Obj}{es:List (aH×V)}:Dy K (OH a o es) (es.map fun p=>kD p.1) (fun H=>H a=some (.frz o (.dK es))) where
 st:=fun H H' t p=>t.frz _ _ _ p
 stop:=fun i H p hi=>⟨p,by simpa using hi⟩
 go:=fun i d H e p=>⟨p,by
  have:=(zau.mp e).1;simpa using this⟩
 yld:=fun i d H x H' e p ⟨e1,kv,e2,e3⟩=>by rw [za0,e2] at e;cases e;subst e3;exact ⟨e1,JQ _⟩
noncomputable def Ka:R->ac->Option (List aH×ac)
 |.v (.fd ks _),U=>some (ks,U)|.p n,U=>match U[n]? with
  |some (.dct kvs)=>some (kvs.map (·.1),U.set n (.fzd kvs))|some (.fzd kvs)=>some (kvs.map (·.1),U)|some (.dr kvs)=>some (kvs.map (·.1),U.set n (.fzr kvs))|some (.fzr kvs)=>some (kvs.map (·.1),U)|_=>none
 |_,_=>none
def k8 (f:FE):FI:=fun O U=>(f O U).bind fun a=>(Ka a.1 a.2).bind fun b=>some (b.1.map kD,b.2)
theorem IH {K:zac}{H:Hp}{R:It->Hp->Prop}{f}(h:vc K (k8 f) Y H R):Hb (NC (az K f)) Y H R:=by
 obtain ⟨O,U,m,xs,U',hl,hs,e,k⟩:=h;obtain ⟨⟨x,U1⟩,e1,e⟩:=zaa.mp e;obtain ⟨⟨ks,U2⟩,e2,e⟩:=zaa.mp e;cases e;refine ⟨O,U,m,x,U1,hl,hs,e1,fun v H1 m1 x1 s1 r1=>?_⟩;dsimp only at e2;have fin:∀(a:Addr) (o:Obj) (es:List (aH×V)) (H2:Hp),H2 a=some (.frz o (.dK es))->es.map (·.1)=ks->c6 m1 H1 m1 H2->aO K m1 H2 U2->∃a' o' es',(V.ref a:V)=.ref a'/\H2 a'=some (.frz o' (.dK es'))/\R (OH a' o' es') H2:=fun a o es H2 q1 q2 q3 q4 =>
  ⟨a,o,es,rfl,q1,k _ _ H2 m1 (x1.trans q3) q4 (by have:=JY (K:=K) (a:=a) (o:=o) (es:=es);rw [←q2,zaR];exact this) q1⟩
 cases x with
 |s _ _=>cases e2|x _=>cases e2|f _ _=>cases e2|v d =>
  cases d with
  |fd ks' ds =>
   cases e2;simp only [au,ao] at r1;obtain ⟨a,o,es,rfl,q1,q2,q3⟩:=r1;exact .inl (fin a o es H1 q1 q2 .refl s1)
  |_=>cases e2
 |p n =>
  obtain ⟨a,rfl,ha⟩:=r1;simp only [Ka] at e2;split at e2
  ·rename_i kvs q
   cases e2;obtain ⟨es,q1,q2,q3⟩:=s1.cell _ _ a q ha;refine .inr ⟨a,_,q1,trivial,fun o=>?_⟩;have x:c6 m1 H1 m1 (upd H1 a (.frz o (.dK es))):=.put (zaI ha) q1 (by simp) (by simp);exact fin a o es _ bf q2 x (s1.put ha q1 (by simp) (by simp) ⟨o,es,bf,q2,RelDs.tf x.tf _ _ q3⟩)
  ·rename_i kvs q
   cases e2;obtain ⟨o,es,q1,q2,q3⟩:=s1.cell _ _ a q ha;exact .inl (fin a o es H1 q1 q2 .refl s1)
  ·rename_i kvs q
   cases e2;obtain ⟨es,q1,q2,q3⟩:=s1.cell _ _ a q ha;refine .inr ⟨a,_,q1,trivial,fun o=>?_⟩;have x:c6 m1 H1 m1 (upd H1 a (.frz o (.dK es))):=.put (zaI ha) q1 (by simp) (by simp);exact fin a o es _ bf q2 x (s1.put ha q1 (by simp) (by simp) ⟨o,es,bf,q2,bi.ext x q3⟩)
  ·rename_i kvs q
   cases e2;obtain ⟨o,es,q1,q2,q3⟩:=s1.cell _ _ a q ha;exact .inl (fin a o es H1 q1 q2 .refl s1)
  ·cases e2
end HW
namespace HW
abbrev g8 (h:Heap)(z TI TO T:Addr)(fl:Bool):Prop :=
 h.get? z=some {cls:=.type "zip",dict:=none,data:=.fields #[rawInt T,.bool fl,.bool false,.ref TI,.ref TO],slots:=#[]}
section
variable {prog:Program}{w:World}{A:Around}{E:Tb}{s:Shared}
def mP {M:Model}{a:Addr}{Q:Option Obj->Shared->Prop}(h:Q (s.heap.get? a) s):wpAny M A (loadIfAlive a) Q E s :=
 fun Γ p _=>by
  show Sem.wp M Γ (.loadIfAlive a .pure) _ _ p s
  rw [Sem.wp_loadIfAlive];exact (zad (M:=M) (A:=A) (E:=E) h) Γ p ‹_›
theorem pN {z TI TO T i1 i2 l1 l2:Addr}{k1 k2:Nat}{xs ys:Ti}{x y:Value}{fl:Bool}{oT:Obj}{Q:Tb}(D:ZipApart z TI TO i1 i2 l1 l2)
  (hz:g8 s.heap z TI TO T fl) (hT:s.heap.get? T=some oT) (hTI:IsPair s.heap TI (.ref i1) (.ref i2))
  (h1:s.heap.IsListIter i1 l1 k1) (h2:s.heap.IsListIter i2 l2 k2) (hl1:s.heap.IsList l1 xs) (hl2:s.heap.IsList l2 ys) (hx:xs[k1]?=some x) (hy:ys[k2]?=some y)
  (hQ:∀h',g8 h' z TI TO T true->h'.IsListIter i1 l1 (k1+1)->h'.IsListIter i2 l2 (k2+1)->IsPair h' s.heap.objs.size x y->h'.objs.size=s.heap.objs.size+1 ->
   (∀c o,c≠z->c≠i1->c≠i2->s.heap.get? c=some o->h'.get? c=some o)->Q (.ref s.heap.objs.size) {s with heap:=h'}) :
  wpAny (model prog w) A (Builtin.«zip.__next__» ⟨[.ref z],[]⟩) (fun fin s'=>∃v,fin=.done (.ret v)/\Q v s') E s:=by
 show wpAny _ _ (field (.ref z) 2 >>= _) _ _ _
 refine zab (zbO hz rfl (x:=.bool false) rfl ?_)
 show wpAny _ _ (field (.ref z) 3 >>= _) _ _ _
 refine zab (zbO hz rfl (x:=.ref TI) rfl ?_);refine zab (zbY hTI rfl ?_)
 show wpAny _ _ (ownedTupleIsFree (.ref z) >>= _) _ _ _
 refine zab ?_;unfold ownedTupleIsFree;refine zab (zbO hz rfl (x:=rawInt T) rfl ?_)
 show wpAny _ _ (loadIfAlive (Int.toNat (T:Int)) >>= _) _ _ _
 refine zab (mP ?_);rw [zbR,hT];simp only [Option.isNone_some,zap,if_false];refine zab (zbO hz rfl (x:=.bool fl) rfl ?_)
 cases fl with
 |false =>
  show wpAny _ _ (setField (.ref z) 1 (.bool true) >>= fun _=>pure false) _ _ _
  refine zab (wpAny_setField_rec hz (by simp) fun h₁ hz1 hs₁=>zad ?_)
  replace hz1:g8 h₁ z TI TO T true:=hz1
  simp only [zap,if_false];rw [←zb1];simp only [zcj,zc9];refine zab (zab (zab (zaH ?_)))
  show wpAny _ _ (nextOf (.ref i1) >>= _) _ _ _
  refine zab (zcm (h1.extBut hs₁.extBut D.i1z) (hl1.extBut hs₁.extBut D.l1z) hx fun h₂ h12 hs₂=>zad ?_);refine zad ?_;refine zab (zab (zaH ?_))
  show wpAny _ _ (nextOf (.ref i2) >>= _) _ _ _
  refine zab (zcm ((h2.extBut hs₁.extBut D.i2z).extBut hs₂.extBut D.i12.symm) ((hl2.extBut hs₁.extBut D.l2z).extBut hs₂.extBut D.l2i1) hy fun h₃ h23 hs3=>zad ?_);refine zad (zad ?_);refine zab (wpAny_newTuple ?_ (show 2<=sizeLine by decide))
  have hsz:h₃.objs.size=s.heap.objs.size:=by rw [hs3.1,hs₂.1,hs₁.1]
  have hz3:g8 h₃ z TI TO T true:=hs3.extBut _ _ D.i2z.symm (hs₂.extBut _ _ D.i1z.symm hz1);have h13:h₃.IsListIter i1 l1 (k1+1):=h12.extBut hs3.extBut D.i12;have pz:IsPair (h₃.push {cls:=.type "tuple",data:=.seq #[x,y]}) h₃.objs.size x y:=zaq _ rfl;refine zad ⟨_,rfl,?_⟩
  show Q (.ref h₃.objs.size) _
  rw [hsz] at pz ⊢;exact hQ _ (zae _ hz3) (h13.at fun o e=>zae _ e) (h23.at fun o e=>zae _ e) pz (by rw [za9,hsz]) fun c o c1 c2 c3 e=>zae _ (hs3.extBut _ _ c3 (hs₂.extBut _ _ c2 (hs₁.extBut _ _ c1 e)))
 |true =>
  have hz1:g8 s.heap z TI TO T true:=hz;have hs₁:Heap.SameBut z s.heap s.heap:=⟨rfl,fun _ _=>rfl⟩
  show wpAny _ _ (pure false) _ _ _
  refine zad ?_;simp only [zap,if_false];rw [←zb1];simp only [zcj,zc9];refine zab (zab (zab (zaH ?_)))
  show wpAny _ _ (nextOf (.ref i1) >>= _) _ _ _
  refine zab (zcm (h1.extBut hs₁.extBut D.i1z) (hl1.extBut hs₁.extBut D.l1z) hx fun h₂ h12 hs₂=>zad ?_);refine zad ?_;refine zab (zab (zaH ?_))
  show wpAny _ _ (nextOf (.ref i2) >>= _) _ _ _
  refine zab (zcm ((h2.extBut hs₁.extBut D.i2z).extBut hs₂.extBut D.i12.symm) ((hl2.extBut hs₁.extBut D.l2z).extBut hs₂.extBut D.l2i1) hy fun h₃ h23 hs3=>zad ?_);refine zad (zad ?_);refine zab (wpAny_newTuple ?_ (show 2<=sizeLine by decide))
  have hsz:h₃.objs.size=s.heap.objs.size:=by rw [hs3.1,hs₂.1,hs₁.1]
  have hz3:g8 h₃ z TI TO T true:=hs3.extBut _ _ D.i2z.symm (hs₂.extBut _ _ D.i1z.symm hz1);have h13:h₃.IsListIter i1 l1 (k1+1):=h12.extBut hs3.extBut D.i12;have pz:IsPair (h₃.push {cls:=.type "tuple",data:=.seq #[x,y]}) h₃.objs.size x y:=zaq _ rfl;refine zad ⟨_,rfl,?_⟩
  show Q (.ref h₃.objs.size) _
  rw [hsz] at pz ⊢;exact hQ _ (zae _ hz3) (h13.at fun o e=>zae _ e) (h23.at fun o e=>zae _ e) pz (by rw [za9,hsz]) fun c o c1 c2 c3 e=>zae _ (hs3.extBut _ _ c3 (hs₂.extBut _ _ c2 (hs₁.extBut _ _ c1 e)))
theorem qP {z TI TO T i1 i2 l1 l2:Addr}{k1:Nat}{xs:Ti}{fl:Bool}{oT:Obj}{Q:Fin->Shared->Prop}(hh:A.handled=none)(D:ZipApart z TI TO i1 i2 l1 l2)
  (hz:g8 s.heap z TI TO T fl) (hT:s.heap.get? T=some oT) (hTI:IsPair s.heap TI (.ref i1) (.ref i2))
  (h1:s.heap.IsListIter i1 l1 k1) (hl1:s.heap.IsList l1 xs) (hx:xs[k1]?=none)
  (hE:∀h' e,(∀c o,c≠z->c≠i1->s.heap.get? c=some o->h'.get? c=some o)->(∃o,h'.get? e=some o/\o.cls=.type "StopIteration")->E (.ref e) {s with heap:=h'}) :
  wpAny (model prog w) A (Builtin.«zip.__next__» ⟨[.ref z],[]⟩) Q E s:=by
 show wpAny _ _ (field (.ref z) 2 >>= _) _ _ _
 refine zab (zbO hz rfl (x:=.bool false) rfl ?_)
 show wpAny _ _ (field (.ref z) 3 >>= _) _ _ _
 refine zab (zbO hz rfl (x:=.ref TI) rfl ?_);refine zab (zbY hTI rfl ?_)
 show wpAny _ _ (ownedTupleIsFree (.ref z) >>= _) _ _ _
 refine zab ?_;unfold ownedTupleIsFree;refine zab (zbO hz rfl (x:=rawInt T) rfl ?_)
 show wpAny _ _ (loadIfAlive (Int.toNat (T:Int)) >>= _) _ _ _
 refine zab (mP ?_);rw [zbR,hT];simp only [Option.isNone_some,zap,if_false];refine zab (zbO hz rfl (x:=.bool fl) rfl ?_)
 cases fl with
 |false =>
  show wpAny _ _ (setField (.ref z) 1 (.bool true) >>= fun _=>pure false) _ _ _
  refine zab (wpAny_setField_rec hz (by simp) fun h₁ hz1 hs₁=>zad ?_);simp only [zap,if_false];rw [←zb1];simp only [zcj,zc9];refine zab (zab (zab (zaH ?_)))
  show wpAny _ _ (nextOf (.ref i1) >>= _) _ _ _
  exact zab (wpAny_nextOf_list_end hh (h1.extBut hs₁.extBut D.i1z) (hl1.extBut hs₁.extBut D.l1z) hx fun h₂ e hs₂ he=>hE h₂ e (fun c o c1 c3 q=>hs₂ _ _ c3 (hs₁.extBut _ _ c1 q)) he)
 |true =>
  have hs₁:Heap.SameBut z s.heap s.heap:=⟨rfl,fun _ _=>rfl⟩
  show wpAny _ _ (pure false) _ _ _
  refine zad ?_;simp only [zap,if_false];rw [←zb1];simp only [zcj,zc9];refine zab (zab (zab (zaH ?_)))
  show wpAny _ _ (nextOf (.ref i1) >>= _) _ _ _
  exact zab (wpAny_nextOf_list_end hh (h1.extBut hs₁.extBut D.i1z) (hl1.extBut hs₁.extBut D.l1z) hx fun h₂ e hs₂ he=>hE h₂ e (fun c o c1 c3 q=>hs₂ _ _ c3 (hs₁.extBut _ _ c1 q)) he)
end
open L2 PyProof.Rows
def vh:typeLookup (.type "zip") "__len__" = pure none:=by rw [zb3,zbx];kernel_rfl
def sB:typeLookup (.type "zip") "__length_hint__" = pure none:=by rw [zb3,zbx];kernel_rfl
structure FP (h:Heap)(S z TI TO i1 i2 l1 l2:Addr)(xs ys:Ti)(k:Nat):Prop where
 st:(k=0/\IsZip h z TI TO .none/\IsPair h TO .none .none)\/∃T fl oT,g8 h z TI TO T fl/\h.get? T=some oT/\T∉[S,z,TO,i1,i2]
 ti:IsPair h TI (.ref i1) (.ref i2)
 h1:h.IsListIter i1 l1 k
 h2:h.IsListIter i2 l2 k
 l1:h.IsList l1 xs
 l2:h.IsList l2 ys
 to:∃o,h.get? TO=some o
section
variable {prog:Program}{w:World}{A:Around}{E:Tb}{s:Shared}{S z TI TO i1 i2 l1 l2:Addr}{xs ys:Ti}{k:Nat}
def FP.ty {h:Heap}(Zz:FP h S z TI TO i1 i2 l1 l2 xs ys k):∃o,h.get? z=some o/\o.cls=.type "zip":=by
 rcases Zz.st with ⟨_,h,_⟩|⟨T,fl,oT,h,_⟩
 ·exact ⟨_,h,rfl⟩
 ·exact ⟨_,h,rfl⟩
def tK {T:Addr}{x y:Value}{fl:Bool}{oT:Obj}{k1 k2:Nat}{Q:Option Value->Shared->Prop}(D:ZipApart z TI TO i1 i2 l1 l2)
  (hz:g8 s.heap z TI TO T fl) (hT:s.heap.get? T=some oT) (hTI:IsPair s.heap TI (.ref i1) (.ref i2))
  (h1:s.heap.IsListIter i1 l1 k1) (h2:s.heap.IsListIter i2 l2 k2) (hl1:s.heap.IsList l1 xs) (hl2:s.heap.IsList l2 ys) (hx:xs[k1]?=some x) (hy:ys[k2]?=some y)
  (hQ:∀h',g8 h' z TI TO T true->h'.IsListIter i1 l1 (k1+1)->h'.IsListIter i2 l2 (k2+1)->IsPair h' s.heap.objs.size x y->h'.objs.size=s.heap.objs.size+1 ->
   (∀c o,c≠z->c≠i1->c≠i2->s.heap.get? c=some o->h'.get? c=some o)->Q (some (.ref s.heap.objs.size)) {s with heap:=h'}) :
  wpAny (model prog w) A (pyNext (.ref z)) Q E s:=by
 have hTy:s.TypeIs (.ref z) "zip":=⟨_,hz,rfl⟩;unfold pyNext
 exact zab (zbI (za5 (name:=Str.ofString "__next__") hTy F.slot_zip_next
  (zaV F.slot_zip_next hTy F.entry_zip_next
   (pN D hz hT hTI h1 h2 hl1 hl2 hx hy fun h' a1 a2 a3 a4 a5 a6=>zad (hQ h' a1 a2 a3 a4 a5 a6)) (F.args_zip_next_1 _))))
def tL {T:Addr}{fl:Bool}{oT:Obj}{k1:Nat}{Q:Option Value->Shared->Prop}(hh:A.handled=none)(D:ZipApart z TI TO i1 i2 l1 l2)
  (hz:g8 s.heap z TI TO T fl) (hT:s.heap.get? T=some oT) (hTI:IsPair s.heap TI (.ref i1) (.ref i2))
  (h1:s.heap.IsListIter i1 l1 k1) (hl1:s.heap.IsList l1 xs) (hx:xs[k1]?=none)
  (hQ:∀h',(∀c o,c≠z->c≠i1->s.heap.get? c=some o->h'.get? c=some o)->Q none {s with heap:=h'}):wpAny (model prog w) A (pyNext (.ref z)) Q E s:=by
 have hTy:s.TypeIs (.ref z) "zip":=⟨_,hz,rfl⟩;unfold pyNext
 refine zab (zbI (za5 (name:=Str.ofString "__next__") hTy F.slot_zip_next
  (zaV F.slot_zip_next hTy F.entry_zip_next (qP hh D hz hT hTI h1 hl1 hx fun h' e hk he=>?_) (F.args_zip_next_1 _))))
 obtain ⟨o,ho,hc⟩:=he;refine zab (zbX (T:="StopIteration") (b:=true) ⟨o,ho,hc⟩ isSubtype_stop ?_);exact zad (hQ _ hk)
def zR {x y:Value}{Q:Option Value->Shared->Prop}(D:ZipApart z TI TO i1 i2 l1 l2)(hS:∃o,s.heap.get? S=some o)(Zz:FP s.heap S z TI TO i1 i2 l1 l2 xs ys k)(hx:xs[k]?=some x)(hy:ys[k]?=some y)
  (hQ:∀h',FP h' S z TI TO i1 i2 l1 l2 xs ys (k+1)->IsPair h' s.heap.objs.size x y->h'.objs.size=s.heap.objs.size+1->(∀c o,c∉[z,TO,i1,i2]->s.heap.get? c=some o->h'.get? c=some o)->Q (some (.ref s.heap.objs.size)) {s with heap:=h'}) :
  wpAny (model prog w) A (pyNext (.ref z)) Q E s:=by
 have lt:∀{b:Addr} {o:Obj},s.heap.get? b=some o->b≠s.heap.objs.size:=fun e=>zat (zam e);obtain ⟨oS,hS⟩:=hS
 have fresh:∀{oz oto:Obj},s.heap.get? z=some oz->s.heap.get? TO=some oto->s.heap.objs.size∉[S,z,TO,i1,i2]:=fun hz hto z=>by
  obtain ⟨o1,e1,_⟩:=Zz.h1;obtain ⟨o2,e2,_⟩:=Zz.h2;simp only [zal,zaE,or_false] at z;rcases z with z|z|z|z|z
  ·exact lt hS z.symm
  ·exact lt hz z.symm
  ·exact lt hto z.symm
  ·exact lt e1 z.symm
  ·exact lt e2 z.symm
 rcases Zz.st with ⟨rfl,hz,hto⟩|⟨T,fl,oT,hz,hT,hTn⟩
 ·refine wpAny_pyNext_zip_item D hz Zz.ti hto Zz.h1 Zz.h2 Zz.l1 Zz.l2 hx hy fun h' a1 a2 a3 a4 a5 a6 a7=>?_
  have kp:∀c o,c∉[z,TO,i1,i2]->s.heap.get? c=some o->h'.get? c=some o:=fun c o hc e=>by
   simp only [zal,zaE,or_false,not_or] at hc;exact a7 c o hc.1 hc.2.1 hc.2.2.1 hc.2.2.2 e
  refine hQ h' ⟨.inr ⟨_,false,_,a1,a5,fresh hz hto⟩,a7 _ _ D.TIz D.TITO D.TIi1 D.TIi2 Zz.ti,a3,a4,?_,?_,⟨_,a2⟩⟩ a5 a6 kp
  ·exact Zz.l1.at fun o e=>a7 _ _ D.l1z D.l1TO D.l1i1 D.l1i2 e
  ·exact Zz.l2.at fun o e=>a7 _ _ D.l2z D.l2TO D.l2i1 D.l2i2 e
 ·refine tK D hz hT Zz.ti Zz.h1 Zz.h2 Zz.l1 Zz.l2 hx hy fun h' a1 a3 a4 a5 a6 a7=>?_
  simp only [zal,zaE,or_false,not_or] at hTn
  have kp:∀c o,c∉[z,TO,i1,i2]->s.heap.get? c=some o->h'.get? c=some o:=fun c o hc e=>by
   simp only [zal,zaE,or_false,not_or] at hc;exact a7 c o hc.1 hc.2.2.1 hc.2.2.2 e
  refine hQ h' ⟨.inr ⟨T,true,oT,a1,a7 _ _ hTn.2.1 hTn.2.2.2.1 hTn.2.2.2.2 hT,by simp only [zal,zaE,or_false,not_or];exact hTn⟩,a7 _ _ D.TIz D.TIi1 D.TIi2 Zz.ti,a3,a4,?_,?_,Zz.to.imp fun o e=>a7 _ _ D.TOz D.TOi1 D.TOi2 e⟩ a5 a6 kp
  ·exact Zz.l1.at fun o e=>a7 _ _ D.l1z D.l1i1 D.l1i2 e
  ·exact Zz.l2.at fun o e=>a7 _ _ D.l2z D.l2i1 D.l2i2 e
def zS {Q:Option Value->Shared->Prop}(hh:A.handled=none)(D:ZipApart z TI TO i1 i2 l1 l2)(Zz:FP s.heap S z TI TO i1 i2 l1 l2 xs ys k)(hx:xs[k]?=none)
  (hQ:∀h',(∀c o,c∉[z,TO,i1,i2]->s.heap.get? c=some o->h'.get? c=some o)->Q none {s with heap:=h'}):wpAny (model prog w) A (pyNext (.ref z)) Q E s:=by
 rcases Zz.st with ⟨rfl,hz,hto⟩|⟨T,fl,oT,hz,hT,hTn⟩
 ·refine wpAny_pyNext_zip_end hh D hz Zz.ti hto Zz.h1 Zz.h2 Zz.l1 Zz.l2 (.inl hx) fun h' a7=>hQ h' fun c o hc e=>?_
  simp only [zal,zaE,or_false,not_or] at hc;exact a7 c o hc.1 hc.2.1 hc.2.2.1 hc.2.2.2 e
 ·refine tL hh D hz hT Zz.ti Zz.h1 Zz.l1 hx fun h' a7=>hQ h' fun c o hc e=>?_
  simp only [zal,zaE,or_false,not_or] at hc;exact a7 c o hc.1 hc.2.2.1 e
def wW (h:Heap)(n0:Nat)(no:Tf)(xs ys:Ti)(acc:Ti)(k:Nat):Prop:=acc.size=k/\∃ts:Tf,ts.length=k/\acc=(ts.map Value.ref).toArray/\ts.Nodup/\∀(i:Nat) t,ts[i]?=some t->n0<=t/\t∉no/\∃x y,xs[i]?=some x/\ys[i]?=some y/\IsPair h t x y
def wW.keep {h h':Heap}{n0:Nat}{no:Tf}{xs ys acc:Ti}{k:Nat}(Zz:wW h n0 no xs ys acc k)(kp:∀c o,c∉no->h.get? c=some o->h'.get? c=some o):wW h' n0 no xs ys acc k:=by obtain ⟨h1,ts,h2,h3,h4,h5⟩:=Zz;exact ⟨h1,ts,h2,h3,h4,fun i t e=>let ⟨a,b,x,y,p,q,r⟩:=h5 i t e;⟨a,b,x,y,p,q,kp _ _ b r⟩⟩
theorem zV (hh:A.handled=none){R:Result->Shared->Prop}(D:ZipApart z TI TO i1 i2 l1 l2)(hsz:xs.size=ys.size)(hn:xs.size<=sizeLine)(hSn:S∉[z,TI,TO,i1,i2,l1,l2])(n0:Nat)(res:Value) :
  ∀(m i:Nat) (s:Shared) (acc:Ti) (c:Nat),xs.size - i=m->i<=xs.size->n0<=s.heap.objs.size->FP s.heap S z TI TO i1 i2 l1 l2 xs ys i->s.heap.get? S=some {cls:=.type "list",dict:=none,data:=.seq acc c,slots:=#[]}->wW s.heap n0 [S,z,TO,i1,i2] xs ys acc i ->
  (∀h' acc' c',(∀b o,b∉[S,z,TO,i1,i2]->s.heap.get? b=some o->h'.get? b=some o)->h'.get? S=some {cls:=.type "list",dict:=none,data:=.seq acc' c',slots:=#[]}->wW h' n0 [S,z,TO,i1,i2] xs ys acc' xs.size->R (.ok (.ret res)) {s with heap:=h'}) ->
  codeAny (model prog w) A (.builtin "list.extend.loop" ⟨[.ref S,.ref z,res],[]⟩) R s:=by
 have hS4:S∉[z,TO,i1,i2]:=fun q=>hSn (by simp only [zal,zaE,or_false] at q ⊢;rcases q with q|q|q|q <;> simp [q]);have sub:∀c,c∉[S,z,TO,i1,i2]->c∉[z,TO,i1,i2]:=fun c h q=>h (zai _ q);intro m
 induction m with
 |zero =>
  intro i s acc c hk hi h0 Zz hS hacc hR
  have hin:i=xs.size:=by omega
  subst hin;refine zaW F.entry_extend_loop ?_;rw [zaO F.plain_extend_loop _]
  show wpAny _ A.in1 (pyNext (.ref z) >>= _) _ _ s
  refine zab (zS (show A.in1.handled=none from hh) D Zz (by simp) fun h' kp=>?_);exact zad (hR h' acc c (fun b o hb e=>kp b o (sub b hb) e) (kp S _ hS4 hS) (hacc.keep fun c o hc e=>kp c o (sub c hc) e))
 |succ m ih =>
  intro i s acc c hk hi h0 Zz hS hacc hR
  have hlt:i < xs.size:=by omega
  refine zaW F.entry_extend_loop ?_;rw [zaO F.plain_extend_loop _]
  show wpAny _ A.in1 (pyNext (.ref z) >>= _) _ _ s
  have hx:xs[i]?=some xs[i]:=zar hlt;have hy:ys[i]?=some (ys[i]'(by omega)):=zar (by omega);refine zab (zR D ⟨_,hS⟩ Zz hx hy fun h' Z' hp hs' kp=>?_);have hS':=kp S _ hS4 hS
  show wpAny _ A.in1 (updateSeq S (·.push (.ref s.heap.objs.size)) >>= _) _ _ _
  have hTS:s.heap.objs.size≠S:=fun q=>zaF _ (q ▸ zam hS:s.heap.objs.size < s.heap.objs.size);have up:∀b o,b≠S->h'.get? b=some o->(h'.update S (Obj.mapSeq (·.push (.ref s.heap.objs.size)))).get? b=some o:=fun b o hb e=>(zaz _ _ (Ne.symm hb)).trans e;have nS:∀{b:Addr},b∈[z,TI,TO,i1,i2,l1,l2]->b≠S:=fun hb q=>hSn (q ▸ hb)
  have Z2:FP (h'.update S (Obj.mapSeq (·.push (.ref s.heap.objs.size)))) S z TI TO i1 i2 l1 l2 xs ys (i+1):=by
   refine ⟨?_,up _ _ (nS (by simp)) Z'.ti,Z'.h1.at fun o e=>up _ _ (nS (by simp)) e,Z'.h2.at fun o e=>up _ _ (nS (by simp)) e,Z'.l1.at fun o e=>up _ _ (nS (by simp)) e,Z'.l2.at fun o e=>up _ _ (nS (by simp)) e,Z'.to.imp fun o e=>up _ _ (nS (by simp)) e⟩;rcases Z'.st with ⟨q,_⟩|⟨T,fl,oT,q1,q2,q3⟩
   ·omega
   ·exact .inr ⟨T,fl,oT,up _ _ (nS (by simp)) q1,up _ _ (fun q=>q3 (by simp [q])) q2,q3⟩
  have oz:=Zz.ty
  have fr:s.heap.objs.size∉[S,z,TO,i1,i2]:=by
   rcases Z'.st with ⟨q,_⟩|⟨T,fl,oT,q1,q2,q3⟩
   ·omega
   ·intro q
    obtain ⟨o1,e1,_⟩:=Zz.h1;obtain ⟨o2,e2,_⟩:=Zz.h2;obtain ⟨o3,e3,_⟩:=oz;simp only [zal,zaE,or_false] at q;rcases q with q|q|q|q|q
    ·exact hTS q
    ·exact zaF _ (q ▸ zam e3:s.heap.objs.size < s.heap.objs.size)
    ·obtain ⟨o4,e4⟩:=Zz.to
     exact zaF _ (q ▸ zam e4:s.heap.objs.size < s.heap.objs.size)
    ·exact zaF _ (q ▸ zam e1:s.heap.objs.size < s.heap.objs.size)
    ·exact zaF _ (q ▸ zam e2:s.heap.objs.size < s.heap.objs.size)
  have A2:wW (h'.update S (Obj.mapSeq (·.push (.ref s.heap.objs.size)))) n0 [S,z,TO,i1,i2] xs ys (acc.push (.ref s.heap.objs.size)) (i+1):=by
   obtain ⟨c1,ts,c2,c3,c4,c5⟩:=hacc;refine ⟨by rw [Array.size_push,c1],ts++[s.heap.objs.size],by simp [c2],by rw [c3];simp,?_,fun j t e=>?_⟩
   ·rw [zbu]
    refine ⟨c4,by simp,fun a ha b hb=>?_⟩;rw [zaB.mp hb];obtain ⟨j,hj,e⟩:=za6 ha;obtain ⟨_,_,x,y,_,_,p⟩:=c5 j a (by rw [←e];exact zas hj);exact zat (zam p)
   ·by_cases hj:j < ts.length
    ·rw [zaj hj] at e
     obtain ⟨a,b,x,y,p,q,r⟩:=c5 j t e;exact ⟨a,b,x,y,p,q,up _ _ (fun q=>b (by simp [q])) (kp _ _ (sub _ b) r)⟩
    ·rw [zaP (by omega)] at e
     have hj2:j - ts.length=0:=by
      cases q:j - ts.length with|zero=>rfl|succ n=>rw [q] at e;simp at e
     have hji:j=i:=by omega
     rw [hj2] at e;simp at e;subst e hji;exact ⟨h0,fr,_,_,hx,hy,up _ _ hTS hp⟩
  refine zab ?_
  refine zbv hS' rfl (zad ⟨zbd F.plain_extend_loop _,ih (i+1) _ (acc.push (.ref s.heap.objs.size)) _ (by omega) hlt ?_ Z2 (zaJ _ hS' rfl) A2 fun h'' acc' c' kp'' hS'' hacc'=>?_⟩)
   (by rw [hacc.1];omega) (by show (acc.push (.ref s.heap.objs.size)).size<=sizeLine+1;rw [Array.size_push,hacc.1];omega)
  ·show n0<=(h'.update S (Obj.mapSeq (·.push (.ref s.heap.objs.size)))).objs.size
   have h9:s.heap.objs.size < (h'.update S (Obj.mapSeq (·.push (.ref s.heap.objs.size)))).objs.size:=zam (up _ _ hTS hp);exact zbP (zcx h0 h9)
  ·exact hR h'' acc' c' (fun b o hb e=>kp'' b o hb (up _ _ (fun q=>hb (by simp [q])) (kp b o (sub b hb) e))) hS'' hacc'
def p0 {Q:Tb}(hh:A.handled=none)(D:ZipApart z TI TO i1 i2 l1 l2)(hsz:xs.size=ys.size)(hn:xs.size<=sizeLine)(hlt:∀b∈[z,TI,TO,i1,i2,l1,l2],b < s.heap.objs.size)(Zz:∀S,FP s.heap S z TI TO i1 i2 l1 l2 xs ys 0)
  (hQ:∀h' acc' c',(∀b o,b∉[s.heap.objs.size,z,TO,i1,i2]->s.heap.get? b=some o->h'.get? b=some o)->h'.get? s.heap.objs.size=some {cls:=.type "list",dict:=none,data:=.seq acc' c',slots:=#[]}->wW h' (s.heap.objs.size+1) [s.heap.objs.size,z,TO,i1,i2] xs ys acc' xs.size->Q (.ref s.heap.objs.size) {s with heap:=h'}) :
  wpAny (model prog w) A (call (.type "list") [.ref z]) Q E s:=by
 refine callType_codes (Q₁:=fun obj s₁=>obj=.ref s.heap.objs.size/\s₁={s with heap:=s.heap.push {cls:=.type "list",data:=.seq #[]}}) F.called_list (F.typeCall_list_1 _) F.entry_list_init
  (code_list_new _ ⟨rfl,rfl⟩) fun obj s₁ h₁=>?_
 obtain ⟨rfl,rfl⟩:=h₁;have hS:(s.heap.push {cls:=.type "list",data:=.seq #[]}).get? s.heap.objs.size=some {cls:=.type "list",data:=.seq #[]}:=zaq _ rfl;have hsp:(s.heap.push {cls:=.type "list",data:=.seq #[]}).objs.size=s.heap.objs.size+1:=za9 ..;have hSn:s.heap.objs.size∉[z,TI,TO,i1,i2,l1,l2]:=fun q=>zaF _ (hlt _ q);have nS:∀{b:Addr},b∈[z,TI,TO,i1,i2,l1,l2]->b≠s.heap.objs.size:=fun hb q=>hSn (q ▸ hb);refine ⟨⟨_,hS,rfl⟩,F.args_list_init_2 _ _,?_⟩;generalize hSa:s.heap.objs.size=S at *;have k0:∀b o,s.heap.get? b=some o->(s.heap.push {cls:=.type "list",data:=.seq #[]}).get? b=some o:=fun b o e=>zae _ e;generalize hh1:s.heap.push {cls:=.type "list",data:=.seq #[]}=h1 at *
 show wpAny _ A.in1.in1 (do let old ←listItems (.ref S);listUpdate (.ref S) (fun _=>#[]);letGo old.toList.reverse;listExtendWith (.ref S) (.ref z) .none) _ _ _
 refine zab ?_;unfold listItems;refine zab (zbY hS rfl (zad ?_))
 show wpAny _ A.in1.in1 (updateSeq S (fun _=>#[]) >>= fun _=>letGo (#[]:Ti).toList.reverse >>= fun _=>listExtendWith (.ref S) (.ref z) .none) _ _ _
 refine zab (zbv hS rfl ?_);have hS₂:=zaJ (Obj.mapSeq (fun _=>(#[]:Ti))) hS rfl
 have oth:∀b o,b≠S->h1.get? b=some o->(h1.update S (Obj.mapSeq (fun _=>(#[]:Ti)))).get? b=some o :=
  fun b o hb e=>(zaz _ _ (Ne.symm hb)).trans e
 have hsz2:(h1.update S (Obj.mapSeq (fun _=>(#[]:Ti)))).objs.size=h1.objs.size:=(Heap.SameBut.update ..).1;generalize hh2:h1.update S (Obj.mapSeq (fun _=>(#[]:Ti)))=h2 at *;refine zab (wpAny_letGo ?_);have Z0:=Zz S;have k2:∀b o,b≠S->s.heap.get? b=some o->h2.get? b=some o:=fun b o hb e=>oth b o hb (k0 b o e)
 have Zk:∀{h3:Heap},(∀b o,b≠S->s.heap.get? b=some o->h3.get? b=some o)->FP h3 S z TI TO i1 i2 l1 l2 xs ys 0:=fun {h3} kk=>by
  refine ⟨?_,kk _ _ (nS (by simp)) Z0.ti,Z0.h1.at fun o e=>kk _ _ (nS (by simp)) e,Z0.h2.at fun o e=>kk _ _ (nS (by simp)) e,Z0.l1.at fun o e=>kk _ _ (nS (by simp)) e,Z0.l2.at fun o e=>kk _ _ (nS (by simp)) e,Z0.to.imp fun o e=>kk _ _ (nS (by simp)) e⟩;rcases Z0.st with ⟨q,q1,q2⟩|⟨T,fl,oT,q1,q2,q3⟩
  ·exact .inl ⟨q,kk _ _ (nS (by simp)) q1,kk _ _ (nS (by simp)) q2⟩
  ·exact .inr ⟨T,fl,oT,kk _ _ (nS (by simp)) q1,kk _ _ (fun q=>q3 (by simp [q])) q2,q3⟩
 have hT2:Shared.TypeIs {s with heap:=h2} (.ref z) "zip":=(Zk k2).ty;unfold listExtendWith;refine zab (zbt hT2 ?_)
 have e1:listSameRef (.ref S) (.ref z)=false:=by simp [listSameRef,Ne.symm (nS (b:=z) (by simp))]
 have e2:(Value.type "zip" == Value.type "list")=false:=by decide
 have e3:(Value.type "zip" == Value.type "tuple")=false:=by decide
 simp only [e1,e2,e3,zcM,zap,if_false]
 have itz:∀{Q':Tb} {E':Tb},Q' (.ref z) {s with heap:=h2}->wpAny (model prog w) A.in1.in1 (pyIter (.ref z)) Q' E' {s with heap:=h2}:=fun {Q' E'} hq=>by
  refine zcH hT2 F.slot_zip_iter (zaV F.slot_zip_iter hT2 F.entry_zip_iter ?_ (F.args_zip_iter_1 _))
  show wpAny _ _ (ret (.ref z)) _ _ _
  exact zad ⟨_,rfl,"zip",_,hT2,F.slot_zip_next.lookup,hq⟩
 refine zab (itz ?_);refine zab (zaH ?_);unfold listLengthHint;refine zab (zb2 hT2 vh ?_)
 show wpAny _ A.in1.in1 (specialOf (Value.ref z) (Str.ofString "__length_hint__") >>= _) _ _ _
 refine zab (zb2 hT2 sB ?_);refine zad ?_
 show wpAny _ A.in1.in1 (rule "list.extend.makes-room" >>= fun _=>listTouch (.ref S) >>= fun _ =>
  again (.builtin "list.extend.loop" ⟨[.ref S,.ref z,.none],[]⟩)) _ _ _
 refine zab (zcg ?_);refine zab ?_
 show wpAny _ A.in1.in1 (updateSeq S (·.push .none) >>= fun _=>updateSeq S (·.pop)) _ _ _
 refine zab (zbv hS₂ rfl ?_);have hS3:=zaJ (Obj.mapSeq (·.push Value.none)) hS₂ rfl;refine zbv (s:={s with heap:=_}) (hz:=by seq_fits) hS3 rfl ?_;have hS₄:=zaJ (Obj.mapSeq (·.pop)) hS3 rfl
 have oth2:∀b o,b≠S->h2.get? b=some o->((h2.update S (Obj.mapSeq (·.push Value.none))).update S (Obj.mapSeq (·.pop))).get? b=some o :=
  fun b o hb e=>(zaz _ _ (Ne.symm hb)).trans ((zaz _ _ (Ne.symm hb)).trans e)
 have hsz3:((h2.update S (Obj.mapSeq (·.push Value.none))).update S (Obj.mapSeq (·.pop))).objs.size=S+1:=by
  rw [(Heap.SameBut.update ..).1,(Heap.SameBut.update ..).1,hsz2,hsp]
 generalize hh4:(h2.update S (Obj.mapSeq (·.push Value.none))).update S (Obj.mapSeq (·.pop))=h4 at *;have k4:∀b o,b≠S->s.heap.get? b=some o->h4.get? b=some o:=fun b o hb e=>oth2 b o hb (k2 b o hb e);refine zad ⟨zbd F.plain_extend_loop _,zV (s:={s with heap:=h4}) (show A.in1.handled=none from hh) D hsz hn hSn (S+1) .none xs.size 0 _ _ rfl (zbb _) (by show S+1<=h4.objs.size;rw [hsz3];exact zao _) (Zk k4) hS₄ ⟨rfl,[],rfl,rfl,zc8,fun i t e=>by simp at e⟩ fun h' acc' c' kp hS' hacc=>?_⟩;refine ⟨rfl,hQ h' acc' c' (fun b o hb e=>kp b o hb (k4 b o (fun q=>hb (by simp [q])) e)) hS' hacc⟩
end
inductive nj:List (V×V)->List Addr->Hp->Hp->Prop
 |nil {H}:nj [] [] H H
 |cons {x y ps t ts H H'}:H t=none->nj ps ts (upd H t (.tup [x,y])) H'->nj ((x,y)::ps) (t::ts) H H'
def Lp (K:zac)(t:TA):TE:=fun Y H Q=>t Y H fun vs H1=>∃a b xs ys,vs=[.ref a,.ref b]/\jg K H1 a xs/\jg K H1 b ys/\xs.length=ys.length/\xs.length<=sizeLine /\
 ∀ts H2 l,nj (xs.zip ys) ts H1 H2->H2 l=none->Q (.ref l) (upd H2 l (.lst (ts.map .ref)))
theorem pI {s0 s:Shared}{H0:Hp}(I0:aF X pins Y H0 s0):∀(ps:List (V×V)) (us:List (Value×Value)) (ts:Tf) (H:Hp),aF X pins Y H s->ts.Nodup->(∀t∈ts,s0.heap.objs.size<=t/\H t=none)->ps.length=ts.length->us.length=ts.length ->
  (∀(i:Nat) t p u,ts[i]?=some t->ps[i]?=some p->us[i]?=some u->aW p.1 u.1/\aW p.2 u.2/\IsPair s.heap t u.1 u.2)->∃H',nj ps ts H H'/\aF X pins Y H' s/\∀b,b∉ts->H' b=H b
 |[],[],[],H,I,_,_,_,_,_=>⟨H,.nil,I,fun _ _=>rfl⟩|[],_::_,[],_,_,_,_,_,h,_=>by simp at h|_::_,_,[],_,_,_,_,h,_,_=>by simp at h|[],_,_::_,_,_,_,_,h,_,_=>by simp at h|_::_,[],_::_,_,_,_,_,_,h,_=>by simp at h|(x,y)::ps,(u,v)::us,t::ts,H,I,nd,hn,h1,h2,h3=>by
  rw [zaK] at nd;obtain ⟨hge,ht⟩:=hn t zag;obtain ⟨r1,r2,hp⟩:=h3 0 t (x,y) (u,v) rfl rfl rfl;have ok:bI X.prog X.w (upd H t (.tup [x,y])) s.heap t (.tup [x,y]):=⟨(by show 2<=sizeLine;decide),[u,v],.cons r1 (.cons r2 .nil),⟨⟨_,hp,rfl,_,rfl⟩,fun o e=>by rw [hp] at e;cases e;rfl⟩⟩;have I1:=aF.adopt I (I0.fpOk hge ht) (zbo I0.sz hge) ok
  obtain ⟨H',l,I',k⟩:=pI I0 ps us ts (upd H t (.tup [x,y])) I1 nd.2 (fun b hb=>⟨(hn b (zai _ hb)).1,by rw [aD (fun (z:b=t)=>nd.1 (by rw [←z];exact hb))];exact (hn b (zai _ hb)).2⟩) (by simpa using h1) (by simpa using h2)
   fun i t' p' u' e1 e2 e3=>h3 (i+1) t' p' u' (by simpa using e1) (by simpa using e2) (by simpa using e3)
  refine ⟨H',.cons ht l,I',fun b hb=>?_⟩;rw [k b fun z=>hb (zai _ z),aD (fun (z:b=t)=>hb (by rw [z];exact zag))]
theorem Jr {X:Cx}{a b:Expr}{t:TA}{p p2 pos pos2:Pos}(hc:X.calm=true)(hg:Gl X "list")(hm:X.mg "list" = none)(hg2:Gl X "zip")(hm2:X.mg "zip" = none)(ha:PA X [a,b] t)
  (hs:starEach [.Call (.Name "zip" p2) [a,b] [] pos2] X.env=[(false,eval (.Call (.Name "zip" p2) [a,b] [] pos2) X.env)]:=by rfl)
  (he:starEach [a,b] X.env=(false,eval a X.env)::starEach [b] X.env:=by rfl) (hpl:(backTo pos2 (starEach [b] X.env)).any (·.1)=false:=by rfl) :
  PE X (.Call (.Name "list" p) [.Call (.Name "zip" p2) [a,b] [] pos2] [] pos) (Lp X.K t):=by
 intro pins s Y H Q I h;refine zbN (iV I hg hm (by decide:bootBuiltins "list" = some (.type "list")) ?_ (by decide) (by decide));refine PyProof.Rows.callWith_type1 ?_ hs rfl;rw [hs]
 show wpAny _ _ (spliced [(false,eval (.Call (.Name "zip" p2) [a,b] [] pos2) X.env)]) _ _ s
 refine Calls.spliced_cons ?_;refine zbN (iV I hg2 hm2 (by decide:bootBuiltins "zip" = some (.type "zip")) ?_ (by decide) (by decide));refine PyProof.Rows.callWith_type1 (cL (ha pos2 pins s Y H _ I h) fun us s1 hh=>?_) he hpl;obtain ⟨vs,H1,I1,r1,q1⟩:=hh;obtain ⟨l1,l2,xs,ys,rfl,hx,hy,hlen,hz,q⟩:=q1
 cases r1 with|cons ra rr =>
  cases rr with|cons rb rr =>
   cases rr;cases ra;cases rb;obtain ⟨i1,rv1,p1,_⟩:=I1.list hx;obtain ⟨i2,rv2,p2',_⟩:=I1.list hy;have hl1:=rv1.length;have hl2:=rv2.length
   have lt1:l1 < s1.heap.objs.size:=by obtain ⟨o,_,e,_⟩:=p1;exact zam e
   have Mr:l2 < s1.heap.objs.size:=by obtain ⟨o,_,e,_⟩:=p2';exact zam e
   refine call_zip_2 p1.isList p2'.isList fun h' z1 z2 z3 z4 z5 z6 z7=>Calls.spliced_nil ?_;have D:ZipApart (s1.heap.objs.size+4) (s1.heap.objs.size+2) (s1.heap.objs.size+3) s1.heap.objs.size (s1.heap.objs.size+1) l1 l2:=PyProof.Rows.zipApart_new lt1 Mr;refine p0 (s:={s1 with heap:=h'}) (I1.ok.hd hc) D (by simp;omega) (by simp;omega) (fun b hb=>?_) (fun S=>⟨.inl ⟨rfl,z1,z3⟩,z2,z4,z5,p1.isList.at fun o e=>z7 _ _ e,p2'.isList.at fun o e=>z7 _ _ e,⟨_,z3⟩⟩) fun h2 acc c kp hS hacc=>?_
   ·show b < h'.objs.size
    rw [z6];simp only [zal,zaE,or_false] at hb;have lt1:(l1:Nat) < s1.heap.objs.size:=lt1;have Mr:(l2:Nat) < s1.heap.objs.size:=Mr
    have:(b:Nat) < s1.heap.objs.size+5:=by
     rcases hb with h|h|h|h|h|h|h <;> (rw [h];first|exact zaU (zaU (zaU (zaU (zaU lt1))))|exact zaU (zaU (zaU (zaU (zaU Mr))))|exact Nat.add_lt_add_left (by decide) _|exact Nat.lt_add_of_pos_right (by decide))
    exact this
   ·obtain ⟨c1,ts,c2,c3,c4,c5⟩:=hacc
    have big:∀b o,s1.heap.get? b=some o->h2.get? b=some o:=fun b o e=>by
     have hlt:=zam e;refine kp b o (fun hb=>?_) (z7 b o e);have hb:b∈[h'.objs.size,s1.heap.objs.size+4,s1.heap.objs.size+3,s1.heap.objs.size,s1.heap.objs.size+1]:=hb;rw [z6] at hb;simp only [zal,zaE,or_false] at hb
     have hge:s1.heap.objs.size<=(b:Nat):=by
      rcases hb with h|h|h|h|h <;> (rw [h];first|exact zcc _ _|exact zao _)
     exact absurd hlt (Nat.not_lt.mpr hge)
    have I2:aF X pins Y H1 {s1 with heap:=h2}:=I1.kept (t':=s1.toks) big
    have n1:i1.toArray.size=xs.length:=by simp;omega
    rw [n1] at c1 c2;have hL:H1 h'.objs.size=none:=I1.hok.fresh (by rw [z6];omega)
    obtain ⟨H2,lay,I3,k⟩:=pI I1 (xs.zip ys) (i1.zip i2) ts H1 I2 c4 (fun t ht=>by
     obtain ⟨j,hj,e⟩:=za6 ht;obtain ⟨b1,_⟩:=c5 j t (by rw [←e];exact zas hj);have b1:h'.objs.size+1<=t:=b1
     have b2:s1.heap.objs.size<=t:=by rw [z6] at b1;exact zbo (zcc _ 6) b1
     exact ⟨b2,I1.hok.fresh b2⟩) (by rw [List.length_zip,c2];omega) (by rw [List.length_zip,c2];omega) fun j t p u e1 e2 e3=>by
      obtain ⟨_,_,x,y,w1,w2,w3⟩:=c5 j t e1;obtain ⟨px,py⟩:=p;obtain ⟨ux,uy⟩:=u;rw [List.getElem?_zip_eq_some] at e2 e3
      have w1:i1[j]?=some x:=by simpa using w1
      have w2:i2[j]?=some y:=by simpa using w2
      obtain ⟨a1,a2,a3⟩:=rv1.get e2.1;obtain ⟨b1,b2,b3⟩:=rv2.get e2.2;have q1:=e3.1.symm.trans w1;have q2:=e3.2.symm.trans w2;cases q1;cases q2;have q3:=a2.symm.trans w1;have q4:=b2.symm.trans w2;cases q3;cases q4;exact ⟨a3,b3,w3⟩
    have hL2:H2 h'.objs.size=none:=by
     rw [k _ fun hin=>?_]
     ·exact hL
     ·obtain ⟨j,hj,e⟩:=za6 hin
      have e':ts[j]?=some h'.objs.size:=(zas hj).trans (congrArg some e);obtain ⟨b1,_⟩:=c5 j _ e';exact absurd (show h'.objs.size+1<=h'.objs.size from b1) (Nat.not_succ_le_self _)
    have vals:∀ts:Tf,aZ (ts.map V.ref) (ts.map Value.ref):=fun ts=>by
     induction ts with|nil=>exact .nil|cons t ts ih=>exact .cons rfl ih
    have I4:=aF.adopt (o:=.lst (ts.map .ref)) I3 (I1.fpOk (by rw [z6];omega) hL2) (zbo I1.sz (by rw [z6];omega)) ⟨by rw [zah,c2];exact hz,ts.map Value.ref,c,vals ts,by rw [←c3];exact hS⟩;exact ⟨.ref h'.objs.size,_,I4,rfl,q ts H2 _ lay hL2⟩
def kH (xs ys:List D):List D:=(xs.zip ys).map fun p=>.tup [p.1,p.2]
def o5 (fa fb:FE):FE:=fun O U=>(fa O U).bind fun a=>(fb O a.2).bind fun b=>(f6 a.1 b.2).bind fun xs=>(f6 b.1 b.2).bind fun ys=>if xs.length=ys.length/\xs.length<=sizeLine then some (.p b.2.length,b.2++[.lst (kH xs ys)]) else none
theorem B4 {ps:List (V×V)}{ts:Tf}{H H':Hp}(h:nj ps ts H H'):∀a o,H a=some o->H' a=some o:=by
 induction h with|nil=>exact fun _ _ e=>e|cons hn _ ih=>exact fun a o e=>ih a o (bW hn a o e)
theorem xQ {ps:List (V×V)}{ts:Tf}{H H':Hp}{m:Tf}(h:nj ps ts H H'):c6 m H m H':=by
 induction h with|nil=>exact .refl|cons hn _ ih=>exact (c6.new hn).trans ih
theorem E6 {K:zac}{ps:List (V×V)}{ts:Tf}{H H':Hp}(h:nj ps ts H H'):∀{xs ys:List D},xs.length=ys.length->RelDs K H xs (ps.map (·.1))->RelDs K H ys (ps.map (·.2))->RelDs K H' (kH xs ys) (ts.map .ref):=by
 induction h with
 |nil =>
  intro xs ys hl r1 r2;have:xs=[]:=zbT (by rw [r1.length];rfl);subst this;simp only [kH,List.zip_nil_left,zbc,RelDs]
 | @cons x y ps t ts H H' hn l ih =>
  intro xs ys hl r1 r2
  cases xs with|nil=>simp [RelDs] at r1|cons dx xs =>
   cases ys with|nil=>simp at hl|cons dy ys =>
    simp only [zaf,RelDs] at r1 r2;obtain ⟨v1,w1,e1,a1,b1⟩:=r1;obtain ⟨v2,w2,e2,a2,b2⟩:=r2;simp only [List.cons.injEq] at e1 e2;obtain ⟨rfl,rfl⟩:=e1;obtain ⟨rfl,rfl⟩:=e2;have tf:TF H (upd H t (.tup [x,y])):=(c6.new (m:=[]) hn).tf;have tf2:TF (upd H t (.tup [x,y])) H':=(xQ (m:=[]) l).tf;have:=ih (by simpa using hl) (RelDs.tf tf _ _ b1) (RelDs.tf tf _ _ b2)
    show RelDs K H' (.tup [dx,dy]::kH xs ys) (.ref t::ts.map .ref)
    simp only [RelDs,ao];refine ⟨_,_,rfl,⟨t,[x,y],rfl,.inl (.inl (tf2.tup _ _ bf)),?_⟩,this⟩;exact ⟨x,[y],rfl,ao.tf (tf.trans tf2) _ _ a1,y,[],rfl,ao.tf (tf.trans tf2) _ _ a2,rfl⟩
def Im {K:zac}{H:Hp}{Q:VK}{fa fb}(h:az K (o5 fa fb) Y H Q):Lp K (je K (af fa (af fb ai))) Y H Q:=by
 obtain ⟨O,U,m,d,U',hl,hs,e,k⟩:=h;obtain ⟨⟨x,U1⟩,e1,e⟩:=zaa.mp e;obtain ⟨⟨y,U2⟩,e2,e⟩:=zaa.mp e;obtain ⟨xs,e3,e⟩:=zaa.mp e;obtain ⟨ys,e4,e⟩:=zaa.mp e;split at e
 ·rename_i hz
  cases e;refine ⟨O,U,m,[x,y],U2,hl,hs,by simp [af,e1,e2,ai],fun vs H1 m1 x1 s1 r1=>?_⟩;obtain ⟨v,r,rfl,ra,rr⟩:=r1;obtain ⟨u,r',rfl,rb,rn⟩:=rr;have rn:r'=[]:=rn;subst rn;obtain ⟨a,vs,rfl,qa,ma⟩:=gT s1 ra e3;obtain ⟨b,us,rfl,qb,mb⟩:=gT s1 rb e4;have h1:=ma.length;have h2:=mb.length;refine ⟨a,b,vs,us,rfl,qa,qb,by omega,by omega,fun ts H2 l lay hn=>?_⟩;have x2:c6 m1 H1 m1 H2:=xQ lay;have z1:(vs.zip us).map (·.1)=vs:=zcR (by omega);have z2:(vs.zip us).map (·.2)=us:=zcS (by omega);have rel:=E6 (K:=K) lay hz.1 (by rw [z1];exact ma) (by rw [z2];exact mb);obtain ⟨y1,y2,y3⟩:=fJ (s1.same (B4 lay)) rel hn;exact k _ _ _ ((x1.trans x2).trans y1) y2 y3
 ·cases e
section
variable {prog:Program}{w:World}{A:Around}{E:Tb}{s:Shared}
def pZ {Q:List Value->Shared->Prop}{r:Addr}{a b c:Int}{t u v:Tok}{n:Nat}(hh:A.handled=none)(hr:IsRange s.heap r a b c t u v)(hsmall:Builtin.Range.small a b c=true)
  (hn:Builtin.Range.rangeSize a b c=n) (hlen:n<=2 ^ 24)
  (hQ:∀(h':Heap) (tk:Nat) (acc:Ti),(∀b o,s.heap.get? b=some o->h'.get? b=some o)->ItemsOf (fun i v=>∃t,v=.int (a+i * c) t) acc n->Q acc.toList {s with heap:=h',toks:=tk}):wpAny (model prog w) A (collect (.ref r)) Q E s:=by
 unfold collect;refine zab (zcE ?_)
 suffices hx:∀R:Result->Shared->Prop,(∀h' tk acc c',(∀b o,s.heap.get? b=some o->h'.get? b=some o)->h'.get? s.heap.objs.size=some {cls:=.type "list",dict:=none,data:=.seq acc c',slots:=#[]}->ItemsOf (fun i v=>∃t,v=.int (a+i * c) t) acc n->R (.ok (.ret (.ref s.heap.objs.size))) {s with heap:=h',toks:=tk})->codeAny (model prog w) A (.builtin "proto.collect" ⟨[.ref r],[]⟩) R s by
  refine hx _ fun h' tk acc' c' hk hS' hacc=>?_
  show wpAny _ A (load s.heap.objs.size >>= _) _ _ _
  refine zab (zdo hS' ?_);exact zad (hQ h' tk acc' hk hacc)
 intro R hR;refine zaW F.entry_proto_collect ?_;rw [zaO F.plain_proto_collect _]
 show wpAny _ A.in1 (newList [] >>= fun l=>again (.builtin "list.__iadd__" ⟨[l,.ref r],[]⟩)) _ _ s
 refine zab (zaT ?_);refine zad ⟨zbd F.plain_list_iadd _,zaW F.entry_list_iadd ?_⟩;rw [zaO F.plain_list_iadd _];have hS₁:(s.heap.push {cls:=.type "list",data:=.seq ([]:Te).toArray}).get? s.heap.objs.size=some {cls:=.type "list",data:=.seq ([]:Te).toArray}:=zaq _ rfl
 show wpAny _ A.in1 (listExtendWith (.ref s.heap.objs.size) (.ref r) (.ref s.heap.objs.size)) _ _ _
 exact wpAny_extend_range (R:=R) (s:={s with heap:=s.heap.push {cls:=.type "list",data:=.seq ([]:Te).toArray}}) hh (zae _ hr) hsmall hn hlen _ _ _ hS₁ fun h' tk acc' c' hk hS' hacc=>hR h' tk acc' c' (fun b o e=>hk b o (zat (zam e)) (zae _ e)) hS' hacc
def mJ {Q:Tb}{r:Addr}{a b c:Int}{t u v:Tok}{n:Nat}(hh:A.handled=none)(hr:IsRange s.heap r a b c t u v)(hsmall:Builtin.Range.small a b c=true)
  (hn:Builtin.Range.rangeSize a b c=n) (hlen:n<=2 ^ 24)
  (hQ:∀(h':Heap) (tk:Nat) (acc:Ti),(∀b o,s.heap.get? b=some o->h'.get? b=some o)->ItemsOf (fun i v=>∃t,v=.int (a+i * c) t) acc n->Q (.ref h'.objs.size) {s with heap:=h'.push {cls:=.type "tuple",data:=.seq acc},toks:=tk}):wpAny (model prog w) A (call (.type "tuple") [.ref r]) Q E s:=by
 refine callType_codes (Q₁:=fun obj s₁=>s₁.TypeIs obj "tuple"/\Q obj s₁) F.called_tuple (F.typeCall_tuple_1 _) F.entry_object_init ?_ fun obj s₁ h₁=>?_
 ·refine zcu ?_
  show wpAny _ A.in1.in1 (do checkBuiltinCall "tuple.__new__" ⟨[.type "tuple",.ref r],[]⟩;again (.builtin "tuple.__new__" ⟨[.type "tuple",.ref r],[]⟩)) _ _ s
  refine zab (zdb (F.newCall_tuple_1 _) (zad ⟨zbd F.plain_tuple_new _,zaW F.entry_tuple_new ?_⟩));rw [zaO F.plain_tuple_new _];have hsub:=sub_tuple_self;have hinit:=init_tuple_lookup;have hmh:=madeHere_tuple;have hTI:s.TypeIs (.ref r) "range":=⟨_,hr,rfl⟩
  wp_walk using zbt hTI,pZ (A:=A.in1.in1) hh hr hsmall hn hlen
  intro h' tk acc hm hacc
  show wpAny _ _ (Builtin.Tuple.tupleExact acc.toList.toArray >>= fun v=>ret v) _ _ _
  unfold Builtin.Tuple.tupleExact;refine zab (zaT ?_ (by show acc.toList.toArray.size<=sizeLine;simp only [Array.toArray_toList];rw [hacc.1,zba];omega));refine zad ?_
  have e:acc.toList.toArray=acc:=by simp
  rw [e];exact ⟨⟨_,zaq _ rfl,rfl⟩,hQ h' tk acc hm hacc⟩
 ·exact ⟨h₁.1,F.args_object_init_2 obj _,object_init_meets F.called_tuple.init.lookup F.called_tuple.made (by decide) prog w A.in1 _ s₁ ⟨h₁.1,rfl,h₁.2⟩⟩
end
theorem sC:∀(n k:Nat) (l:Te),l.length=n->(∀(j:Nat) (v:Value),l[j]?=some v->∃t,v=.int ((j+k:Nat):Int) t)->aZ ((List.range' k n).map fun i=>V.int (i:Nat)) l
 |0,k,l,hl,_=>by cases l with|nil=>exact .nil|cons _ _=>cases hl
 |n+1,k,l,hl,h=>by
  cases l with|nil=>cases hl|cons v l =>
   rw [List.range'_succ,zaf];obtain ⟨t,e⟩:=h 0 v rfl;refine .cons ⟨t,by rw [e];congr 2;omega⟩ (sC n (k+1) l (by simpa using hl) fun j v e=>?_);obtain ⟨t,e⟩:=h (j+1) v (by simpa using e);exact ⟨t,by rw [e];congr 1;omega⟩
def GE (K:zac)(t:TA):TE:=fun Y H Q=>t Y H fun vs H1=>∃j:Int,vs=[.int j]/\-(2 ^ 62)<=j/\j<=2 ^ 20/\∀l,H1 l=none->Q (.ref l) (upd H1 l (.tup ((List.range j.toNat).map fun i=>.int (i:Nat))))
theorem EK {X:Cx}{a:Expr}{t:TA}{p p2 pos pos2:Pos}(hc:X.calm=true)(hg:Gl X "tuple")(hm:X.mg "tuple" = none)(hg2:Gl X "range")(hm2:X.mg "range" = none)(ha:PA X [a] t)
  (hs:starEach [.Call (.Name "range" p2) [a] [] pos2] X.env=[(false,eval (.Call (.Name "range" p2) [a] [] pos2) X.env)]:=by rfl)
  (he:starEach [a] X.env=[(false,eval a X.env)]:=by rfl) :
  PE X (.Call (.Name "tuple" p) [.Call (.Name "range" p2) [a] [] pos2] [] pos) (GE X.K t):=by
 intro pins s Y H Q I h;refine zbN (iV I hg hm (by decide:bootBuiltins "tuple" = some (.type "tuple")) ?_ (by decide) (by decide));refine PyProof.Rows.callWith_type1 ?_ hs rfl;rw [hs]
 show wpAny _ _ (spliced [(false,eval (.Call (.Name "range" p2) [a] [] pos2) X.env)]) _ _ s
 refine Calls.spliced_cons ?_;refine zbN (iV I hg2 hm2 (by decide:bootBuiltins "range" = some (.type "range")) ?_ (by decide) (by decide));refine PyProof.Rows.callWith_type1 (cL (ha pos2 pins s Y H _ I h) fun us s1 hh=>?_) he rfl;obtain ⟨vs,H1,I1,r1,q1⟩:=hh;obtain ⟨j,rfl,h1,h2,q⟩:=q1
 cases r1 with|cons ra rr =>
  cases rr;obtain ⟨tj,rfl⟩:=ra;refine call_range_1 (Calls.spliced_nil ?_)
  have hn:Builtin.Range.rangeSize 0 j 1=(j.toNat:Int):=by rw [rangeSize_one];split <;> omega
  refine mJ (I1.ok.hd hc) (IsRange.new ..) (small_one (by omega) (by omega) h1 (by omega)) hn (by omega) fun h' tk acc kp hacc=>?_;have I2:aF X pins Y H1 {s1 with heap:=h'}:=I1.kept (t':=s1.toks) fun b o e=>kp b o (zae _ e)
  have vals:aZ ((List.range j.toNat).map fun i=>V.int (i:Nat)) acc.toList:=by
   rw [List.range_eq_range'];refine sC _ _ _ (by rw [zaM,hacc.1]) fun i v e=>?_;obtain ⟨t,e⟩:=hacc.2 i v (by simpa using e);exact ⟨t,by rw [e];congr 1;omega⟩
  have I3:aF X pins Y (upd H1 h'.objs.size (.tup ((List.range j.toNat).map fun i=>.int (i:Nat)))) {s1 with heap:=h'.push {cls:=.type "tuple",data:=.seq acc},toks:=tk}:=by
   refine I2.laid (t':=tk) (fun b o e=>zae _ e) (zao _) (show bI X.prog X.w _ _ _ (.tup _) from ⟨?_,acc.toList,vals,?_⟩)
   ·rw [zah,zdl,zba];omega
   ·rw [Array.toArray_toList];exact jc.new _ _
  exact ⟨.ref h'.objs.size,_,I3,rfl,q _ (I2.hok.fresh (zao _))⟩
noncomputable def uE (f:FE):FE:=fun O U=>(f O U).bind fun a=>match a.1 with|.v (.int j)=>if -(2 ^ 62)<=j/\j<=2 ^ 20 then some (.v (.tup ((List.range j.toNat).map fun i=>.int (i:Nat))),a.2) else none|_=>none
theorem tz {K:zac}{H:Hp}:∀l:List Nat,RelDs K H (l.map fun i=>D.int (i:Nat)) (l.map fun i=>V.int (i:Nat))
 |[]=>by simp [RelDs]|i::l=>by have:=tz (K:=K) (H:=H) l;simp only [zaf,RelDs,ao];exact ⟨_,_,rfl,rfl,this⟩
def D5 {K:zac}{H:Hp}{Q:VK}{f}(h:az K (uE f) Y H Q):GE K (je K (af f ai)) Y H Q:=by
 obtain ⟨O,U,m,d,U',hl,hs,e,k⟩:=h;obtain ⟨⟨x,U1⟩,e1,e⟩:=zaa.mp e;refine ⟨O,U,m,[x],U1,hl,hs,by simp [af,ai,e1],fun vs H1 m1 x1 s1 r1=>?_⟩;split at e
 ·rename_i j q;split at e
  ·rename_i z
   cases e;simp only at q;subst q;obtain ⟨v,r,rfl,r1,r2⟩:=r1;have r2:r=[]:=r2;simp only [au,ao] at r1;subst r1 r2;refine ⟨j,rfl,z.1,z.2,fun l hl=>?_⟩;obtain ⟨y1,y2,y3⟩:=j8 s1 (tz (K:=K) (H:=H1) (List.range j.toNat)) hl;exact k _ _ _ (x1.trans y1) y2 y3
  ·cases e
 ·cases e
end HW
namespace HS
open PyProof.Rows
def AW {m:Nat}(hm:m∈eW)(h:Int){j:Nat}(hj:j < m+1):∃t,t < turns m/\(iq m t (bits h % (m+1)) (bits h)).1=j:=by
 have hb:bits h < 2 ^ 64:=by unfold bits;have:=zcz h (show (0:Int) < 2 ^ 64 by decide);have:=zc0 h (show (2 ^ 64:Int)≠0 by decide);omega
 have hp:(iq m 13 (bits h % (m+1)) (bits h)).2=0:=by rw [vJ];exact Nat.div_eq_of_lt (zb6 hb (by decide))
 have hi:(iq m 13 (bits h % (m+1)) (bits h)).1 < m+1:=qZ m _ _ _ (zcD _ (by omega));obtain ⟨t,ht,e⟩:=xF hm hi hj;refine ⟨13+t,by unfold turns;omega,?_⟩;rw [ou,hp,mt,e]
def bq (t:SetTable):Nat->Probe->Probe
 |0,p=>p|n+1,p=>bq t n (t.advance p)
theorem jU (t:SetTable):∀(a b:Nat) (p:Probe),bq t (a+b) p=bq t b (bq t a p)
 |0,b,p=>by rw [zdp];rfl|a+1,b,p=>by rw [Nat.succ_add];exact jU t a b _
def kq (t:SetTable)(n:Nat)(p:Probe):bq t (n+1) p=t.advance (bq t n p):=jU t n 1 p
def fr (m i p:Nat):Probe:={j:=i,more:=runEnd m i - i,i:=i,perturb:=p,dummy:=none}
theorem nX (t:SetTable)(i pb:Nat):∀(k j:Nat),bq t (k+1) {j:=j,more:=k,i:=i,perturb:=pb,dummy:=none}=fr t.mask (leap t.mask i pb).1 (leap t.mask i pb).2
 |0,j=>by
  show bq t 1 _=_
  unfold bq bq advance;rw [if_neg (by simp)];rfl
 |k+1,j=>by
  have e:t.advance {j:=j,more:=k+1,i:=i,perturb:=pb,dummy:=none}={j:=j+1,more:=k,i:=i,perturb:=pb,dummy:=none}:=by unfold advance;rw [if_pos (by simp)];rfl
  show bq t (k+1) (t.advance _)=_
  rw [e];exact nX t i pb k (j+1)
def Ii (m i:Nat):runEnd m i - i<=9:=by unfold runEnd;split <;> omega
theorem u7 (t:SetTable):∀(k i p:Nat),∃n,n<=10 * k/\bq t n (fr t.mask i p)=fr t.mask (iq t.mask k i p).1 (iq t.mask k i p).2
 |0,i,p=>⟨0,by omega,rfl⟩|k+1,i,p=>by obtain ⟨n,h1,h2⟩:=u7 t k (leap t.mask i p).1 (leap t.mask i p).2;have:=Ii t.mask i;refine ⟨(runEnd t.mask i - i+1)+n,by omega,?_⟩;rw [jU];unfold fr at h2 ⊢;rw [nX t i p (runEnd t.mask i - i) i];exact h2
theorem lG (t:SetTable)(h:Int):t.probeStart h=fr t.mask (bits h % (t.mask+1)) (bits h):=rfl
theorem xW (j:Nat):SetTable.has #[] j=false:=rfl
def cP (t:SetTable)(hd:t.dummies = #[])(j:Nat):(t.slot j=.empty/\t.place[SetTable.below t.place j]?≠some j)\/(t.slot j=.live (SetTable.below t.place j)/\t.place[SetTable.below t.place j]?=some j):=by
 unfold SetTable.slot;by_cases c:t.place[SetTable.below t.place j]?=some j
 ·right;exact ⟨by simp [c],c⟩
 ·left;refine ⟨?_,c⟩;have:(t.place[SetTable.below t.place j]? == some j)=false:=by simpa using c
  simp only [this,hd,xW,zap,if_false]
def D2 (t:SetTable)(hf:t.place.size<=t.mask):∃j,j < t.mask+1/\j∉t.place.toList:=by
 apply Classical.byContradiction;intro hn;have hall:∀j∈List.range (t.mask+1),j∈t.place.toList:=fun j hj=>Classical.byContradiction fun c=>hn ⟨j,zbl.mp hj,c⟩;have key:∀(l m:List Nat),l.Nodup->(∀x∈l,x∈m)->l.length<=m.length:=by
  intro l;induction l with|nil=>intro m _ _;exact zbb _|cons x l ih =>
   intro m hn h;obtain ⟨h1,h2⟩:=zaK.mp hn;have hx:=h x zag;have:=ih (m.erase x) h2 fun y hy=>(List.mem_erase_of_ne (fun e=>by subst e;exact h1 hy)).mpr (h y (zai _ hy));rw [List.length_erase_of_mem hx] at this
   have:0 < m.length:=zcL hx;simp only [zaD];omega
 have:=key _ _ zdq hall;rw [zdl,zaM] at this
 omega
def wF {t:SetTable}(hm:t.mask∈eW)(hd:t.dummies = #[])(hf:t.place.size<=t.mask)(h:Int):∃N,N < 10 * turns t.mask/\t.slot (bq t N (t.probeStart h)).j=.empty:=by
 obtain ⟨j,h1,h2⟩:=D2 t hf;obtain ⟨k,k1,k2⟩:=AW hm h h1;obtain ⟨n,n1,n2⟩:=u7 t k (bits h % (t.mask+1)) (bits h);refine ⟨n,by omega,?_⟩;rw [lG,n2,k2];rcases cP t hd (fr t.mask j (iq t.mask k (bits h % (t.mask+1)) (bits h)).2).j with c|c
 ·exact c.1
 ·exfalso;exact h2 (by have:=zcV c.2;rw [zbC];exact this)
theorem zN (t:SetTable)(p:Probe):(t.advance p).dummy=p.dummy:=by unfold advance;split <;> rfl
theorem lm (t:SetTable):∀(n:Nat) (p:Probe),(bq t n p).dummy=p.dummy
 |0,_=>rfl|n+1,p=>(lm t n _).trans (zN t p)
theorem He {t:SetTable}(hashAt:Nat->Int)(h:Int)(hd:t.dummies = #[]){N:Nat}{p:Probe}(hp:p.dummy=none)(hE:t.slot (bq t N p).j=.empty):∀(f m:Nat),m<=N->N - m < f ->
  (∃j,probe.go t hashAt h f (bq t m p)=some (.empty j none)/\t.slot j=.empty) \/
  (∃n i,m<=n/\n < N/\probe.go t hashAt h f (bq t m p)=some (.candidate (bq t n p).j i (bq t (n+1) p))/\t.slot (bq t n p).j=.live i/\hashAt i=h)
 |0,m,_,h2=>by omega|f+1,m,h1,h2=>by
  unfold probe.go;rcases cP t hd (bq t m p).j with ⟨c,_⟩|⟨c,c'⟩
  ·rw [c]
   exact .inl ⟨_,by rw [lm,hp],c⟩
  ·rw [c]
   have hmN:m < N:=by
    rcases zb7 m N with z|z
    ·exact z
    ·have:m=N:=by omega
     subst this;rw [hE] at c;cases c
   by_cases q:hashAt (SetTable.below t.place (bq t m p).j)=h
   ·right
    refine ⟨m,_,zao _,hmN,?_,c,q⟩;simp only [q,zca,if_true];rw [kq]
   ·have q':(hashAt (SetTable.below t.place (bq t m p).j) == h)=false:=by simpa using q
    simp only [q',zap,if_false];rw [←kq];rcases He hashAt h hd hp hE f (m+1) hmN (by omega) with z|⟨n,i,z1,z2,z3⟩
    ·exact .inl z
    ·exact .inr ⟨n,i,by omega,z2,z3⟩
section
variable {prog:Program}{w:World}{A:Around}{E:Tb}{s:Shared}
abbrev kO (prog:Program)(w:World)(h:Heap)(ks:Th)(a:Addr):Prop:=IsTupleKey (intKind prog w) h ks a
theorem items_int {prog:Program}{ks:Th}{vs:Te}(h:ItemsAre (intKind prog w) ks vs):∀v∈vs,∃n t,v=.int n t:=by
 induction h with|nil=>intro v hv;simp at hv| @cons k v' ks vs h1 _ ih =>
  intro v hv;rcases zal.mp hv with rfl|hv
  ·cases v with|int n t=>exact ⟨n,t,rfl⟩|_=>simp [intKind,Value.isInt] at h1
  ·exact ih v hv
def uT {ks:Th}{a:Addr}{Q:Bool->Shared->Prop}(hk:kO prog w s.heap ks a)(h:Q false s):wpAny (model prog w) A (ofAClassStatement 8 (.ref a)) Q E s:=by
 have hT:=hk.typeIs;obtain ⟨o,items,n,ho,_,hd,hi⟩:=hk;have hall:=items_int hi;unfold ofAClassStatement;refine zab (zbt hT ?_);dsimp only;rw [if_pos (by decide)];refine zab (zad ?_);simp only [zbn,zap,if_false];refine zab (zbY ho hd ?_);dsimp only;refine zab ?_;rw [←zb1];refine zds _ (fun rest r s'=>r.1=none/\s'=s/\∀v∈rest,∃n t,v=Value.int n t) _ ?_ ?_ _ _ ⟨rfl,rfl,hall⟩
 ·rintro v rest r s' ⟨hr,rfl,hv⟩;obtain ⟨m,t,rfl⟩:=hv v zag;refine zab (show wpAny _ _ (pure false) _ _ _ from zad ?_);simp only [zap,if_false];exact zad ⟨rfl,rfl,fun u hu=>hv u (zai _ hu)⟩
 ·rintro ⟨r1,r2⟩ s' ⟨hr,rfl,_⟩;simp only at hr;subst hr;exact zad h
def yA {ks:Th}{a:Addr}{Q:Bool->Shared->Prop}(hk:kO prog w s.heap ks a)(h:Q true s):wpAny (model prog w) A (hashByValue 8 (.ref a)) Q E s:=by
 have hT:=hk.typeIs;obtain ⟨o,items,n,ho,_,hd,hi⟩:=hk;have hall:=items_int hi;unfold hashByValue;refine zab (zb2 hT F.slot_tuple_hash.lookup ?_);dsimp only;refine zab (zbY ho hd ?_);refine zab ?_
 show wpAny _ _ (forIn items _ _) _ _ s
 rw [←zb1];refine zds _ (fun rest r s'=>r.1=none/\s'=s/\∀v∈rest,∃n t,v=Value.int n t) _ ?_ ?_ _ _ ⟨rfl,rfl,hall⟩
 ·rintro v rest r s' ⟨hr,rfl,hv⟩;obtain ⟨m,t,rfl⟩:=hv v zag;refine zab (show wpAny _ _ (pure true) _ _ _ from zad ?_);simp only [zbn,zap,if_false];exact zad ⟨rfl,rfl,fun u hu=>hv u (zai _ hu)⟩
 ·rintro ⟨r1,r2⟩ s' ⟨hr,rfl,_⟩;simp only at hr;subst hr;exact zad h
def sF {ks:Th}{a:Addr}{ys:Te}{Q:Bool->Shared->Prop}(hk:kO prog w s.heap ks a)(hy:∀y∈ys,∃b ls,y=.ref b/\kO prog w s.heap ls b)(h:Q false s):wpAny (model prog w) A (searchCouldBeSeen (.ref a) ys) Q E s:=by
 unfold searchCouldBeSeen;refine zab ?_;refine zds _ (fun rest r s'=>r.1=none/\s'=s/\∀y∈rest,∃b ls,y=Value.ref b/\kO prog w s.heap ls b) _ ?_ ?_ _ _ ⟨rfl,rfl,hy⟩
 ·rintro y rest r s' ⟨hr,rfl,hv⟩;obtain ⟨b,ls,rfl,hb⟩:=hv y zag;have nx:∀r':Option Bool×Unit,r'.1=none->r'.1=none/\s'=s'/\∀y∈rest,∃b ls,y=Value.ref b/\kO prog w s'.heap ls b:=fun r' e=>⟨e,rfl,fun u hu=>hv u (zai _ hu)⟩;dsimp only;split
  ·exact zad (nx _ rfl)
  ·refine zab (wpAny_eqIsQuiet_tuple hk ?_);simp only [zbn,zap,if_false];refine zab (wpAny_eqIsQuiet_tuple hb ?_);simp only [zbn,zap,if_false];refine zab (uT hk ?_);simp only [zap,if_false];refine zab (uT hb ?_);simp only [zap,if_false];exact zad (nx _ rfl)
 ·rintro ⟨r1,r2⟩ s' ⟨hr,rfl,_⟩;simp only at hr;subst hr;exact zad h
structure u9 (prog:Program)(w:World)(led:Bool)(h:Heap)(es:Array (Int×Value))(t:SetTable)(vs:Te):Prop where
 W:mh led es t
 ms:t.mask∈eW
 dm:t.dummies = #[]
 pl:t.plain=true
 lo:t.place.size * 5 < t.mask * 3
 pm:(es.toList.map (·.2)).Perm vs
 el:∀e∈es.toList,∃b ls,e.2=.ref b/\kO prog w h ls b
def xX {t:SetTable}{HA:Nat->Int}{h:Int}(hd:t.dummies = #[]){N:Nat}{p:Probe}(hp:p.dummy=none)(hE:t.slot (bq t N p).j=.empty){f m:Nat}(h1:m<=N)(h2:N - m < f):∃met,probe.go t HA h f (bq t m p)=some met:=by
 rcases He HA h hd hp hE f m h1 h2 with ⟨j,e',hj⟩|⟨n,i,n1,n2,e',hl,hq⟩
 ·exact ⟨_,e'⟩
 ·exact ⟨_,e'⟩
def t0:∀m∈eW,(m % 2 == 0)=false:=by decide
def kO.same {h h':Heap}{ks:Th}{a S:Addr}{o:Obj}{es:Array (Int×Value)}{ep:Nat}{t:SetTable}(x:kO prog w h ks a)(ho:h.get? S=some o)(hd:o.data=.set es ep t)(hs:Heap.SameBut S h h'):kO prog w h' ks a:=by
 obtain ⟨o',items,n,ho',hc,hd',hi⟩:=x;have hne:a≠S:=by rintro rfl;obtain rfl:o'=o:=Option.some.inj (ho'.symm.trans ho);rw [hd] at hd';exact nomatch hd'
 exact ⟨o',items,n,(hs.2 a hne).trans ho',hc,hd',hi⟩
end
def FW (prog:Program)(w:World)(led:Bool)(h:Heap)(o:Obj)(vs:Te):Prop:=∃es ep t,o.ExactSet/\o.data=.set es ep t/\u9 prog w led h es t vs
def ut {prog:Program}(led:Bool)(h:Heap):FW prog w led h (cK led) [] :=
 ⟨#[],0,_,⟨rfl,rfl,rfl⟩,rfl,⟨⟨by decide,by rfl,fun _=>List.Pairwise.nil,rfl⟩,(show 7∈eW by decide),rfl,rfl,(show 0 * 5 < 7 * 3 by decide),List.Perm.refl _,fun _ h=>by simp at h⟩⟩
section
variable {prog:Program}{w:World}{n:Nat}
def kO.keep {h h':Heap}{ks:Th}{a:Addr}(x:kO prog w h ks a)(k:∀o,h.get? a=some o->h'.get? a=some o):kO prog w h' ks a:=by obtain ⟨o,items,n,ho,r⟩:=x;exact ⟨o,items,n,k _ ho,r⟩
def u9.keep {led:Bool}{h h':Heap}{es:Array (Int×Value)}{t:SetTable}{vs:Te}(T:u9 prog w led h es t vs)(k:∀b,Value.ref b∈vs->∀o,h.get? b=some o->h'.get? b=some o):u9 prog w led h' es t vs :=
 ⟨T.W,T.ms,T.dm,T.pl,T.lo,T.pm,fun e he=>by obtain ⟨b,ls,e1,e2⟩:=T.el e he;exact ⟨b,ls,e1,e2.keep (k b (T.pm.mem_iff.mp (zan.mpr ⟨e,he,e1⟩)))⟩⟩
end
section
variable {prog:Program}{w:World}{A:Around}{E:Tb}{s:Shared}
theorem zd {Z β:Type}{f:Z->β}{l1 l2:List β}(p:l1.Perm l2):∀zs:List Z,zs.map f=l2->∃zs':List Z,zs'.Perm zs/\zs'.map f=l1:=by
 induction p with
 |nil=>intro zs e;exact ⟨[],by rw [List.map_eq_nil_iff.mp e],rfl⟩|cons x _ ih =>
  intro zs e;obtain ⟨z,zs',rfl,rfl,e2⟩:=zc4.mp e;obtain ⟨ws,h1,h2⟩:=ih zs' e2;exact ⟨z::ws,h1.cons z,by rw [zaf,h2]⟩
 |swap x y l =>
  intro zs e;obtain ⟨z,zs',rfl,rfl,e2⟩:=zc4.mp e;obtain ⟨z2,zs2,rfl,rfl,e3⟩:=zc4.mp e2;exact ⟨z2::z::zs2,List.Perm.swap z z2 zs2,by rw [zaf,zaf,e3]⟩
 |trans _ _ ih1 ih2 =>
  intro zs e;obtain ⟨ws,h1,h2⟩:=ih2 zs e;obtain ⟨us,h3,h4⟩:=ih1 ws h2;exact ⟨us,h3.trans h1,h4⟩
def FX (led:Bool)(o:Obj)(ps:List (Addr×Th)):Prop:=∃es ep t,o.ExactSet/\o.data=.set es ep t/\mh led es t/\(es.toList.map (·.2)).Perm (ps.map fun p=>Value.ref p.1)
def FW.o {led:Bool}{h:Heap}{o:Obj}{ps:List (Addr×Th)}(x:FW prog w led h o (ps.map fun p=>Value.ref p.1)):FX led o ps:=by obtain ⟨es,ep,t,h1,h2,T⟩:=x;exact ⟨es,ep,t,h1,h2,T.W,T.pm⟩
abbrev Kz (h:Heap)(p:Addr×Th):Prop:=∃o its n,h.get? p.1=some o/\o.cls=.type "tuple"/\o.data=.seq its n/\IntsAre its.toList p.2
theorem w6 {h:Heap}:∀{ps:List (Addr×Th)},(∀p∈ps,Kz h p)->HT2.bh h (ps.map fun p=>Value.ref p.1) (ps.map (·.2))
 |[],_=>trivial|p::ps,hp=>by obtain ⟨o,its,n,r⟩:=hp p zag;exact ⟨⟨p.1,o,its,n,rfl,r⟩,w6 fun q hq=>hp q (zai _ hq)⟩
def sV {a:Addr}{o:Obj}{ps:List (Addr×Th)}{Q:Tb}(hh:A.handled=none)(ho:s.heap.get? a=some o)(hS:FX (!bt w) o ps)(hps:∀p∈ps,Kz s.heap p)(nd:(ps.map (·.2)).Nodup)(h64:ps.length < 64)(hne:2<=ps.length->∀p∈ps,p.2≠[])
  (h:∀(qs:List (Addr×Th)) (h':Heap) (d:Drawn) (tk:Nat) (l:Addr) (c:Nat),(∀q∈qs,q∈ps)->(qs.map (·.2)).Perm (ps.map (·.2))->(qs.map (·.2)).Pairwise (fun x y=>HT2.jj x y=true)->(∀b o,s.heap.get? b=some o->h'.get? b=some o)->s.toks<=tk ->
   s.heap.objs.size<=l->h'.get? l=some (seqObj "list" (qs.map fun q=>Value.ref q.1).toArray c)->Q (.ref l) {s with heap:=h',drawn:=d,toks:=tk}) :
  wpAny (model prog w) A (call (.builtin "sorted") [.ref a]) Q E s:=by
 obtain ⟨es,ep,t,hx,hd,G,pm⟩:=hS;refine Calls.call_function_entry kind_sorted plain_sorted entry_sorted (args_sorted1 _) ?_;unfold Builtin.«sorted»;refine zab (m:=checkCount "sorted" 1 1 _) (zad (zab (zF (show A.in1.handled=none from hh) ho hx hd G fun ord h' d tk hord kp ht hge=>?_)));obtain ⟨rs,r1,r2⟩:=zd ((hord.map (·.2)).trans pm) ps rfl;have r2':ord.map (·.2)=rs.map fun p=>Value.ref p.1:=r2.symm;rw [r2'];have hrl:rs.length=ps.length:=r1.length_eq;have hmem:∀q∈rs,q∈ps:=fun q hq=>r1.mem_iff.mp hq;have hT0:HT2.bh s.heap (rs.map fun p=>Value.ref p.1) (rs.map (·.2)):=w6 fun q hq=>hps q (hmem q hq);have nd':(rs.map (·.2)).Nodup:=(r1.map (·.2)).nodup_iff.mpr nd;refine zab (zdh ?_ (by rw [zah,zba];omega));generalize hvs:(rs.map fun p=>Value.ref p.1)=vs at *
 have hvl:vs.length=rs.length:=by rw [←hvs,zah]
 have hoL:(h'.push (seqObj "list" vs.toArray 0)).get? h'.objs.size=some (seqObj "list" vs.toArray 0):=zaq _ rfl;have hT2:HT2.bh (h'.push (seqObj "list" vs.toArray 0)) vs (rs.map (·.2)):=hT0.keep fun b o e=>zae _ (kp b o e)
 have hna:∀v∈vs,v≠.ref h'.objs.size:=fun v hv e=>by
  rw [←hvs] at hv;obtain ⟨p,hp,rfl⟩:=zan.mp hv;obtain ⟨op,itp,np,q1,_⟩:=hps p (hmem p hp)
  injection e with e
  have:=zam (kp _ _ q1)
  rw [e] at this
  exact absurd this (zaF _)
 refine zab (zaH (zaV (s:={s with heap:=h'.push (seqObj "list" vs.toArray 0),drawn:=d,toks:=tk}) slot_list_sort ⟨_,hoL,rfl⟩ entry_list_sort (HT2.p9 (s:={s with heap:=h'.push (seqObj "list" vs.toArray 0),drawn:=d,toks:=tk}) hoL hT2 nd' (by rw [zah];omega) (fun h2 x hx'=>by
  obtain ⟨p,hp,rfl⟩:=zan.mp hx';rw [zah] at h2
  exact hne (by omega) p (hmem p hp)) hna fun out L' ⟨is,a1,a2,a3⟩ a4 a5=>⟨_,rfl,?_⟩) (args_list_sort _)))
 obtain ⟨c,hc⟩:∃c,(sortedHeap (h'.push (seqObj "list" vs.toArray 0)) h'.objs.size vs out).get? h'.objs.size=some (seqObj "list" out c):=by
  unfold sortedHeap;obtain ⟨e1,q1⟩:∃e1,((h'.push (seqObj "list" vs.toArray 0)).update h'.objs.size (Obj.mapSeq fun _=>#[])).get? h'.objs.size=some (seqObj "list" #[] e1):=⟨_,get?_update_seq hoL (fun _=>#[])⟩;exact ⟨_,get?_update_seq (zae _ (zae _ q1)) (fun _=>out)⟩
 have b1:out.toList=(is.map fun i=>rs.getD i (0,[])).map fun q=>Value.ref q.1:=by
  rw [a1,zaR];refine zbE fun i hi=>?_
  have hi':i < rs.length:=by have:=a3 i hi;rwa [zah] at this
  rw [←hvs];simp [List.getD,hi']
 have b2:L'=(is.map fun i=>rs.getD i (0,[])).map (·.2):=by
  rw [a2,zaR];refine zbE fun i hi=>?_
  have hi':i < rs.length:=by have:=a3 i hi;rwa [zah] at this
  simp [List.getD,hi']
 have ho':out=((is.map fun i=>rs.getD i (0,[])).map fun q=>Value.ref q.1).toArray:=by rw [←b1]
 rw [b2] at a4 a5;refine zad ⟨_,rfl,h (is.map fun i=>rs.getD i (0,[])) _ d tk h'.objs.size c (fun q hq=>?_) (a4.trans (r1.map (·.2))) a5 (fun b o e=>?_) ht hge (by rw [←ho'];exact hc)⟩
 ·obtain ⟨i,hi,rfl⟩:=zan.mp hq
  have hi':i < rs.length:=by have:=a3 i hi;rwa [zah] at this
  refine hmem _ ?_;simp [List.getD,hi']
 ·have hb:=kp b o e
  have ne:h'.objs.size≠b:=zbF (zam hb);unfold sortedHeap;rw [zaz _ _ ne];refine zae _ (zae _ ?_);rw [zaz _ _ ne];exact zae _ hb
end
end HS
namespace HW
open PyProof.Rows L2 HS HT2
theorem ui {prog:Program}:∀{its:Te} {ks:Th},IntsAre its ks->ItemsAre (intKind prog w) ks its
 |_,_,.nil=>.nil|_,_,.cons n t h=>.cons (intKind_is _ _ _ _) (ui h)
abbrev Dq (K:zac)(H:Hp)(ps:List (Addr×Th)):Prop:=∀q∈ps,hX K H q.1 (q.2.map V.int)
def aF.tupA {X:Cx}{H:Hp}{s:Shared}(I:aF X pins Y H s){p:Addr×Th}(h:hX X.K H p.1 (p.2.map V.int)):Kz s.heap p:=by obtain ⟨its,r',⟨o',ho',hc',n',hd'⟩,hz⟩:=I.tuple h;exact ⟨o',its.toArray,n',ho',hc',hd',by simpa using gB r'⟩
theorem qf:∀{ps:List (Addr×Th)} {its:Te},aZ (ps.map fun q=>V.ref q.1) its->its=ps.map fun q=>Value.ref q.1
 |[],its,h=>by cases h;rfl|p::ps,its,h=>by
  cases h with|cons h1 h2=>rw [qf h2];rw [show _=Value.ref p.1 from h1];rfl
theorem n4:∀(ps:List (Addr×Th)),aZ (ps.map fun q=>V.ref q.1) (ps.map fun q=>Value.ref q.1)
 |[]=>.nil|p::ps=>.cons rfl (n4 ps)
def xv (K:zac)(b:Bool):List V->Hp->VK->Prop:=fun vs H Q=>∃(p:Addr) (o:Obj) (ps:List (Addr×Th)),vs=[.ref p]/\H p=some (kf o)/\FX b o ps/\Dq K H ps/\(ps.map (·.2)).Nodup/\ps.length < 64/\(2<=ps.length->∀p∈ps,p.2≠[]) /\
 ∀(l:Addr) (qs:List (Addr×Th)),H l=none->(∀q∈qs,q∈ps)->qs.map (·.2)=bn (ps.map (·.2))->Q (.ref l) (upd H l (.lst (qs.map fun q=>V.ref q.1)))
def uZ {X:Cx}(hc:X.calm=true):ip X (.builtin "sorted") (xv X.K (!HS.bt X.w)):=by
 intro pins s Y H vs us Q I r h;obtain ⟨p,o,ps,rfl,hp,hS,hT,nd,h64,hne,q⟩:=h;obtain ⟨u,rfl,rx⟩:=mU r;cases rx;have ho:s.heap.get? p=some o:=(I.hok p _ hp).1;refine sV (I.ok.hd hc) ho hS (fun q hq=>aF.tupA I (hT q hq)) nd h64 hne fun qs h' d tk l c a1 a2 a3 kp ht hl hL=>?_;have e:qs.map (·.2)=bn (ps.map (·.2)):=j9 a3 (gU nd) (a2.trans (bD _).symm);have hlen:qs.length=ps.length:=by have:=a2.length_eq;simpa using this
 have I1:aF X pins Y (upd H l (.lst (qs.map fun q=>V.ref q.1))) {s with heap:=h',toks:=tk} :=
  I.laid (t':=tk) kp hl (show bI X.prog X.w _ h' _ (.lst _) from ⟨by rw [zah,hlen,zba];omega,_,c,n4 qs,by simpa [seqObj] using hL⟩)
 exact ⟨.ref l,_,aF.drw I1 d,rfl,q _ qs (I.hok.fresh hl) a1 e⟩
def Af:D->Option (Th)
 |.tup xs=>gd xs|.key ks=>some ks|_=>none
def sN:List D->Option (Ta)
 |[]=>some []|d::r=>(Af d).bind fun k=>(sN r).bind fun ks=>some (k::ks)
abbrev kT (ks:Th):D:=.tup (ks.map .int)
def DM {K:zac}{H:Hp}{d:D}{ks:Th}{v:V}(e:Af d=some ks)(r:ao K H d v):∃a,v=.ref a/\hX K H a (ks.map V.int):=by
 unfold Af at e;split at e
 ·simp only [ao] at r;obtain ⟨a,vs,rfl,h1,h2⟩:=r;rw [Co e h2] at h1;exact ⟨a,rfl,h1⟩
 ·cases e;simp only [ao] at r;obtain ⟨a,rfl,h⟩:=r;exact ⟨a,rfl,.inl (.inl h)⟩
 ·cases e
theorem sM {K:zac}{H:Hp}:∀{ds:List D} {L:Ta} {vs:List V},sN ds=some L->RelDs K H ds vs->∃ps:List (Addr×Th),vs=ps.map (fun q=>V.ref q.1)/\ps.map (·.2)=L/\Dq K H ps
 |[],L,vs,e,r=>by cases e;simp only [RelDs] at r;subst r;exact ⟨[],rfl,rfl,fun _ h=>nomatch h⟩
 |d::ds,L,vs,e,r=>by
  obtain ⟨k,e1,e⟩:=zaa.mp e;obtain ⟨ks,e2,e⟩:=zaa.mp e;cases e;simp only [RelDs] at r;obtain ⟨v,vr,rfl,r1,r2⟩:=r;obtain ⟨a,rfl,h1⟩:=DM e1 r1;obtain ⟨ps,rfl,rfl,h2⟩:=sM e2 r2;exact ⟨(a,k)::ps,rfl,rfl,fun q hq=>by
   rcases zal.mp hq with rfl|hq
   ·exact h1
   ·exact h2 q hq⟩
theorem xU {K:zac}{H:Hp}:∀{qs:List (Addr×Th)},Dq K H qs->RelDs K H ((qs.map (·.2)).map kT) (qs.map fun q=>V.ref q.1)
 |[],_=>by simp only [zbc,RelDs]|q::qs,h=>by simp only [zaf,RelDs,ao];exact ⟨_,_,rfl,⟨q.1,_,rfl,h q zag,oA⟩,xU fun p hp=>h p (zai _ hp)⟩
end HW
namespace HS
open PyProof.Rows
theorem sw (t:SetTable)(i pb:Nat):∀(k j mo:Nat),k<=mo->bq t k {j:=j,more:=mo,i:=i,perturb:=pb,dummy:=none}={j:=j+k,more:=mo - k,i:=i,perturb:=pb,dummy:=none}
 |0,j,mo,_=>rfl|k+1,j,mo,h=>by
  have e:t.advance {j:=j,more:=mo,i:=i,perturb:=pb,dummy:=none}={j:=j+1,more:=mo - 1,i:=i,perturb:=pb,dummy:=none}:=by unfold advance;rw [if_pos (by show mo > 0;omega)]
  show bq t k (t.advance _)=_
  rw [e,sw t i pb k (j+1) (mo - 1) (by omega)];simp only [Probe.mk.injEq,and_true,true_and];omega
def wu {n k:Nat}{p:Nat->Bool}(h:(List.range n).find? p=some k):k < n/\p k=true/\∀x < k,p x=false:=by have h1:=zcZ h;have h2:=zcv h;refine ⟨by simpa using h2,h1,fun x hx=>?_⟩;rw [List.find?_range_eq_some] at h;have:=h.2.2 x hx;simpa using this
theorem oY (t:SetTable)(owner:Array (Option Nat)):∀(fuel i p r:Nat),layClean.free t.mask owner fuel i p=some r->∃n,(bq t n (fr t.mask i p)).j=r/\∀k < n,(owner.getD (bq t k (fr t.mask i p)).j (some 0)).isNone=false
 |0,i,p,r,e=>by simp [layClean.free] at e|fuel+1,i,p,r,e=>by
  have hi:i<=runEnd t.mask i:=by unfold runEnd;split <;> omega
  unfold layClean.free at e;split at e
  ·rename_i k hk
   cases e;obtain ⟨k1,k2,k3⟩:=wu hk;refine ⟨k,?_,fun x hx=>?_⟩
   ·unfold fr;rw [sw _ _ _ _ _ _ (by omega)]
   ·unfold fr;rw [sw _ _ _ _ _ _ (by omega)];exact k3 x hx
  ·rename_i hk;obtain ⟨n,n1,n2⟩:=oY t owner fuel _ _ r e;have hall:=zdd.mp hk;refine ⟨(runEnd t.mask i - i+1)+n,?_,fun x hx=>?_⟩
   ·rw [jU];unfold fr at n1 ⊢;rw [nX];exact n1
   ·by_cases c:x < runEnd t.mask i - i+1
    ·unfold fr;rw [sw _ _ _ _ _ _ (by omega)];exact Bool.eq_false_iff.mpr (hall x (by rw [zbl];omega))
    ·have hx':x=(runEnd t.mask i - i+1)+(x - (runEnd t.mask i - i+1)):=by omega
     rw [hx',jU];have:=n2 (x - (runEnd t.mask i - i+1)) (by omega);unfold fr at this ⊢;rw [nX];exact this
structure KO (m:Nat)(p:Probe):Prop where
 j:p.j+p.more<=m
 i:p.i<=m
def BD {m i p:Nat}(h:i<=m):KO m (fr m i p):=⟨by
 show i+(runEnd m i - i)<=m
 unfold runEnd;split <;> omega,h⟩
def EE {t:SetTable}{p:Probe}(h:KO t.mask p):KO t.mask (t.advance p):=by
 unfold advance;split
 ·have:=h.j;exact ⟨by show p.j+1+(p.more - 1)<=t.mask;omega,h.i⟩
 ·have hl:(leap t.mask p.i p.perturb).1<=t.mask:=by
   unfold leap;have:=zcD (p.i * 5+1+p.perturb / 32) (show 0 < t.mask+1 by omega)
   show _ % _<=_
   omega
  exact ⟨(BD (p:=0) hl).j,hl⟩
theorem tT {t:SetTable}:∀(n:Nat) {p:Probe},KO t.mask p->KO t.mask (bq t n p)
 |0,_,h=>h|n+1,_,h=>tT n (EE h)
def za (t:SetTable)(h:Int):KO t.mask (t.probeStart h):=by rw [lG];exact BD (by have:=zcD (bits h) (show 0 < t.mask+1 by omega);omega)
theorem pH {t u:SetTable}(h:t.mask=u.mask):∀(n:Nat) (p:Probe),bq t n p=bq u n p
 |0,_=>rfl|n+1,p=>by
  have e:t.advance p=u.advance p:=by unfold advance;rw [h]
  show bq t n (t.advance p)=bq u n (u.advance p)
  rw [e];exact pH h n _
def oj {t u:SetTable}(h:t.mask=u.mask)(x:Int):t.probeStart x=u.probeStart x:=by unfold probeStart;rw [h]
def qO (t:SetTable)(h:Int)(j:Nat):Prop:=∃n,(bq t n (t.probeStart h)).j=j/\∀k < n,t.slot (bq t k (t.probeStart h)).j≠.empty
def OJ (t:SetTable)(owner:Array (Option Nat))(h:Int)(j:Nat):Prop:=∃n,(bq t n (t.probeStart h)).j=j/\∀k < n,(owner.getD (bq t k (t.probeStart h)).j (some 0)).isNone=false
def yq {t:SetTable}{owner:Array (Option Nat)}{h:Int}{j r k:Nat}(c:OJ t owner h j):OJ t (owner.setIfInBounds r (some k)) h j:=by
 obtain ⟨n,n1,n2⟩:=c;refine ⟨n,n1,fun x hx=>?_⟩;have:=n2 x hx;generalize (bq t x (t.probeStart h)).j=y at *;simp only [zaS,zda] at this ⊢;by_cases e:r=y
 ·subst e;split
  ·split <;> simp
  ·rename_i hne;exact absurd rfl hne
 ·rw [if_neg e];exact this
theorem oZ {t:SetTable}:∀(hs:Th) (all:Th) (owner owner':Array (Option Nat)) (k k':Nat),owner.size=t.mask+1->all.drop k=hs->(∀j k',owner[j]?=some (some k')->k' < k/\∃h,all[k']?=some h/\OJ t owner h j) ->
  (hs.foldl (init:=some (owner,k)) fun acc h=>do
   let (owner,k) ←acc
   let j ←layClean.free t.mask owner (turns t.mask) (bits h % (t.mask+1)) (bits h)
   pure (owner.setIfInBounds j (some k),k+1))=some (owner',k') ->
  ∀j k',owner'[j]?=some (some k')->∃h,all[k']?=some h/\OJ t owner' h j
 |[],all,owner,owner',k,k',hz,hd,inv,e=>by
  cases e;exact fun j k' q=>(inv j k' q).2
 |h::hs,all,owner,owner',k,k',hz,hd,inv,e=>by
  rw [zbj] at e
  have hk:all[k]?=some h:=by
   have:=congrArg (fun l=>l[0]?) hd;simpa using this
  cases ef:layClean.free t.mask owner (turns t.mask) (bits h % (t.mask+1)) (bits h) with
  |none =>
   exfalso
   have stuck:∀l:Th,(l.foldl (init:=(none:Option (Array (Option Nat)×Nat))) fun acc h=>do
    let (owner,k) ←acc
    let j ←layClean.free t.mask owner (turns t.mask) (bits h % (t.mask+1)) (bits h)
    pure (owner.setIfInBounds j (some k),k+1))=none:=by
    intro l
    induction l with|nil=>rfl|cons x l ih=>exact ih
   simp only [bind,Option.bind,ef] at e;have:=stuck hs
   simp only [bind,Option.bind] at this
   rw [this] at e;cases e
  |some r =>
   simp only [bind,Option.bind,ef,pure] at e;refine oZ hs all (owner.setIfInBounds r (some k)) owner' (k+1) k' (by simpa using hz) ?_ ?_ (by simpa only [bind,Option.bind,pure] using e)
   ·rw [←List.drop_drop,hd];rfl
   ·intro j k'' q
    obtain ⟨n,n1,n2⟩:=oY t owner _ _ _ _ ef;rw [zda] at q
    by_cases c:r=j
    ·subst c
     rw [if_pos rfl] at q;split at q
     ·cases q
      exact ⟨by omega,h,hk,yq ⟨n,by rw [lG];exact n1,fun x hx=>by rw [lG];exact n2 x hx⟩⟩
     ·cases q
    ·rw [if_neg c] at q
     obtain ⟨q1,h',q2,q3⟩:=inv j k'' q;exact ⟨by omega,h',q2,yq q3⟩
def lQ {t:SetTable}(hd:t.dummies = #[])(hs:t.place.toList.Pairwise (· < ·))(j:Nat):t.slot j≠.empty ↔ j∈t.place.toList:=by
 obtain ⟨b1,b2,b3⟩:=me j hs;constructor
 ·intro h;rcases cP t hd j with ⟨c,_⟩|⟨_,c⟩
  ·exact absurd c h
  ·exact zbC.mpr (zcV c)
 ·intro h e;rcases cP t hd j with ⟨_,c⟩|⟨c,_⟩
  ·obtain ⟨i,hi,q⟩:=zcq.mp h;rw [zaM] at hi;rw [zbs] at q;have h1:¬ i < SetTable.below t.place j:=fun z=>(by have:=b2 i hi z;omega);by_cases h2:i=SetTable.below t.place j
   ·subst h2;exact c (by rw [zar hi,q])
   ·have hb:SetTable.below t.place j < t.place.size:=by omega
    have h3:=b3 _ hb (zao _);have h4:=zbg.mp hs (SetTable.below t.place j) i (by rw [zaM];exact hb) (by rw [zaM];exact hi) (by omega);simp only [zbs] at h4;omega
  ·rw [c] at e;cases e
theorem v7 {m finger moves:Nat}{led plain:Bool}{hs:Array Int}{t:SetTable}{o:Array Nat}(hm:m∈eW)(hl:hs.size<=m)(e:laid m finger moves led plain hs=some (t,o))(i j k:Nat)(hj:t.place[i]?=some j)(hk:o[i]?=some k):∃h,hs[k]?=some h/\qO t h j:=by
 have hr:=(oN e).1;obtain ⟨owner,e1,e2,e3⟩:=uS hm hs (by omega);have hlaid:laid m finger moves led plain hs=some (({mask:=m,place:=((db (m+1) owner).map (·.1)).toArray,dummies:=#[],finger,led,moves,plain}:SetTable),((db (m+1) owner).map (·.2)).toArray):=by unfold laid;rw [e1];rfl
 rw [hlaid] at e;cases e;have live:∀y z,(y,z)∈db (m+1) owner ↔ owner[y]?=some (some z):=fun y z=>by
  unfold db;rw [zdc];constructor
  ·rintro ⟨x,hx,q⟩;obtain ⟨z',q1,q2⟩:=zaQ.mp q;cases q2;rw [zaS] at q1
   cases q0:owner[y]? with|none=>rw [q0] at q1;cases q1|some u=>rw [q0] at q1;simp only [zbM] at q1;rw [q1]
  ·intro q;have hy:y < owner.size:=(zbe.mp q).1;exact ⟨y,by rw [zbl];omega,by rw [zaS,q];rfl⟩
 have hjk:(j,k)∈db (m+1) owner:=by simp only [List.getElem?_toArray,za0] at hj hk;obtain ⟨p,p1,p2⟩:=zaQ.mp hj;obtain ⟨q,q1,q2⟩:=zaQ.mp hk;rw [p1] at q1;cases q1;cases p2;cases q2;exact zaI p1
 have hown:=(live j k).mp hjk;generalize ht:(({mask:=m,place:=((db (m+1) owner).map (·.1)).toArray,dummies:=#[],finger,led,moves,plain}:SetTable))=t at *;have htm:t.mask=m:=by rw [←ht]
 have htd:t.dummies = #[]:=by rw [←ht]
 have htp:∀y,y∈t.place.toList ↔ ∃z,owner[y]?=some (some z):=fun y=>by
  rw [←ht];simp only [List.toList_toArray,zan];constructor
  ·rintro ⟨⟨y',z⟩,q1,q2⟩;cases q2;exact ⟨z,(live _ _).mp q1⟩
  ·rintro ⟨z,q⟩;exact ⟨(y,z),(live _ _).mpr q,rfl⟩
 obtain ⟨k',ef⟩:∃k',(hs.toList.foldl (init:=some (Array.replicate (t.mask+1) none,0)) fun acc h=>do
   let (owner,k) ←acc
   let j ←layClean.free t.mask owner (turns t.mask) (bits h % (t.mask+1)) (bits h)
   pure (owner.setIfInBounds j (some k),k+1))=some (owner,k'):=by
  rw [htm];unfold layClean at e1;rw [←Array.foldl_toList] at e1;obtain ⟨p,p1,p2⟩:=zaQ.mp e1;exact ⟨p.2,by rw [p1,←p2]⟩
 obtain ⟨h,h1,n,n1,n2⟩:=oZ hs.toList hs.toList (Array.replicate (t.mask+1) none) owner 0 k' (by simp) rfl (fun j' k'' q=>by simp [Array.getElem?_replicate] at q) ef j k hown
 refine ⟨h,by simpa using h1,n,n1,fun x hx=>(lQ htd hr _).mpr ((htp _).mpr ?_)⟩;have hb:=(tT x (za t h)).j;have hq:=n2 x hx;have hy:(bq t x (t.probeStart h)).j < owner.size:=by omega
 rw [zaS,zar hy,zbM] at hq
 cases q:owner[(bq t x (t.probeStart h)).j] with|none=>rw [q] at hq;cases hq|some z=>exact ⟨z,by rw [zar hy,q]⟩
def DA (es:Array (Int×Value))(t:SetTable):Prop:=∀(i:Nat) (e:Int×Value) (j:Nat),es[i]?=some e->t.place[i]?=some j->qO t e.1 j
def wK {t u:SetTable}(hm:t.mask=u.mask)(h:∀x,t.slot x≠.empty->u.slot x≠.empty){hv:Int}{j:Nat}(c:qO t hv j):qO u hv j:=by obtain ⟨n,n1,n2⟩:=c;refine ⟨n,by rw [←oj hm,←pH hm];exact n1,fun k hk=>?_⟩;rw [←oj hm,←pH hm];exact h _ (n2 k hk)
def Cp {Z:Type}(xs:Array Z)(p:Nat)(x:Z)(hp:p<=xs.size)(i:Nat):(insertAt xs p x)[i]?=if i < p then xs[i]? else if i=p then some x else xs[i - 1]?:=by
 rw [←za4,toList_insertAt];have hl:(xs.toList.take p).length=p:=by rw [zbK,zaM];omega
 by_cases h:i < p
 ·rw [if_pos h,zaj (by omega),List.getElem?_take,if_pos h,za4]
 ·rw [if_neg h,zaP (by omega),hl];by_cases h2:i=p
  ·subst h2;simp
  ·rw [if_neg h2,List.getElem?_cons];rw [if_neg (by omega),List.getElem?_drop,za4];congr 1;omega
def yY {es:Array (Int×Value)}{t:SetTable}{hv:Int}{v:Value}{j:Nat}(hd:t.dummies = #[])(hs:t.place.toList.Pairwise (· < ·))(hsz:t.place.size=es.size)(hfree:t.place[SetTable.below t.place j]?≠some j)(c:DA es t)(hn:qO t hv j) :
  DA (insertAt es (SetTable.below t.place j) (hv,v)) {t with place:=insertAt t.place (SetTable.below t.place j) j,plain:=true}:=by
 obtain ⟨b1,_,_⟩:=me j hs
 have more:∀x,t.slot x≠.empty->({t with place:=insertAt t.place (SetTable.below t.place j) j,plain:=true}:SetTable).slot x≠.empty:=fun x hx=>by
  refine (lQ (t:={t with place:=insertAt t.place (SetTable.below t.place j) j,plain:=true}) hd (lW hs hfree) x).mpr ?_;have:=(lQ hd hs x).mp hx;refine (insertAt_perm t.place (SetTable.below t.place j) j).mem_iff.mpr ?_;rw [zdk];exact zbr _ this
 intro i e j' h1 h2;rw [Cp _ _ _ (by omega)] at h1;have h2:(insertAt t.place (SetTable.below t.place j) j)[i]?=some j':=h2;rw [Cp _ _ _ b1] at h2;refine wK (t:=t) (u:={t with place:=insertAt t.place (SetTable.below t.place j) j,plain:=true}) rfl more ?_
 by_cases q:i < SetTable.below t.place j
 ·rw [if_pos q] at h1 h2;exact c i e j' h1 h2
 ·rw [if_neg q] at h1 h2
  by_cases q2:i=SetTable.below t.place j
  ·rw [if_pos q2] at h1 h2
   cases h1;cases h2;exact hn
  ·rw [if_neg q2] at h1 h2;exact c _ e j' h1 h2
theorem wt {t:SetTable}(HA:Nat->Int)(h:Int)(hd:t.dummies = #[]){p:Probe}(hp:p.dummy=none):∀(f m:Nat) {met:Met},probe.go t HA h f (bq t m p)=some met ->
  ∃n,m<=n/\(∀k,m<=k->k < n->∃i,t.slot (bq t k p).j=.live i/\HA i≠h) /\
   ((met=.empty (bq t n p).j none/\t.slot (bq t n p).j=.empty)\/∃i,met=.candidate (bq t n p).j i (bq t (n+1) p)/\t.slot (bq t n p).j=.live i/\HA i=h)
 |0,m,met,e=>by simp [probe.go] at e|f+1,m,met,e=>by
  unfold probe.go at e;rcases cP t hd (bq t m p).j with ⟨c,_⟩|⟨c,c'⟩
  ·rw [c] at e
   cases e;exact ⟨m,zao _,fun k h1 h2=>by omega,.inl ⟨by rw [lm,hp],c⟩⟩
  ·rw [c] at e
   dsimp only at e;split at e
   ·rename_i q
    cases e;exact ⟨m,zao _,fun k h1 h2=>by omega,.inr ⟨_,by rw [kq],c,by simpa using q⟩⟩
   ·rename_i q
    rw [←kq] at e;obtain ⟨n,n1,n2,n3⟩:=wt HA h hd hp f (m+1) e;refine ⟨n,by omega,fun k h1 h2=>?_,n3⟩
    by_cases z:k=m
    ·subst z;exact ⟨_,c,by simpa using q⟩
    ·exact n2 k (by omega) h2
section
variable {prog:Program}{w:World}{A:Around}{E:Tb}{s:Shared}
def xN {t:SetTable}(hd:t.dummies = #[])(hs:t.place.toList.Pairwise (· < ·)){i j:Nat}(h:t.place[i]?=some j):t.slot j=.live i:=by
 have hm:j∈t.place.toList:=zbC.mpr (zcV h);rcases cP t hd j with ⟨c,_⟩|⟨c,c'⟩
 ·exact absurd c ((lQ hd hs j).mpr hm)
 ·rw [c];congr 1;obtain ⟨a1,a2⟩:=zbe.mp h;obtain ⟨b1,b2⟩:=zbe.mp c';rcases zcG (SetTable.below t.place j) i with z|z|z
  ·have:=zbg.mp hs _ _ (by rw [zaM];exact b1) (by rw [zaM];exact a1) z;simp only [zbs] at this;omega
  ·exact z
  ·have:=zbg.mp hs _ _ (by rw [zaM];exact a1) (by rw [zaM];exact b1) z;simp only [zbs] at this;omega
theorem s9 {S a b0:Addr}{led:Bool}{o:Obj}{es:Array (Int×Value)}{ep:Nat}{t:SetTable}{vs:Te}{ks:Th}{hv:Int}{i0 j0 n0:Nat}{Q:SetFound->Shared->Prop}(hu:A.units < cLine)(ho:s.heap.get? S=some o)(hd:o.data=.set es ep t)(T:u9 prog w led s.heap es t vs)(ha:kO prog w s.heap ks a)
  (he0:es[i0]?=some (hv,.ref b0)) (hb0:kO prog w s.heap ks b0) (hj0:t.place[i0]?=some j0) (c1:(bq t n0 (t.probeStart hv)).j=j0) (c2:∀k < n0,t.slot (bq t k (t.probeStart hv)).j≠.empty) (hN:n0 < 10 * turns t.mask) (h:Q (.there none) s) :
  ∀(fuel m:Nat) (stand:Option Probe),m<=n0->n0 - m < fuel->stand.getD (t.probeStart hv)=bq t m (t.probeStart hv)->wpAny (model prog w) A (setSearchFrom S (.ref a) hv true fuel stand) Q E s
 |0,m,_,_,h2,_=>by omega|fuel+1,m,stand,h1,h2,h3=>by
  have hsz:t.place.size=es.size:=by have:=T.W.ft;simp [fits] at this;exact this.1
  have hrs:=T.W.rs T.pl
  have hl0:t.slot (bq t n0 (t.probeStart hv)).j=.live i0:=by rw [c1];exact xN T.dm hrs hj0
  have hh0:(es[i0]?.map (·.1)).getD 0=hv:=by rw [he0];rfl
  unfold setSearchFrom;refine zab (zaN ho hd T.W.ft ?_);dsimp only;rw [if_neg (by unfold gaveWay;rw [t0 _ T.ms];exact zbh),h3];split
  ·rename_i met hm
   unfold probe at hm;obtain ⟨n,n1,n2,n3⟩:=wt _ hv T.dm (p:=t.probeStart hv) rfl _ m hm
   have hn:n<=n0:=by
    rcases zb7 n0 n with z|z
    ·obtain ⟨i,q1,q2⟩:=n2 n0 h1 z
     rw [hl0] at q1;cases q1;exact absurd hh0 q2
    ·exact z
   rcases n3 with ⟨rfl,hj⟩|⟨i,rfl,hl,hq⟩
   ·exfalso
    rcases zcy hn with z|z
    ·exact c2 n z hj
    ·rw [z,hl0] at hj;cases hj
   ·dsimp only
    have hi:i < es.size:=by
     rcases cP t T.dm (bq t n (t.probeStart hv)).j with ⟨c,_⟩|⟨c,c'⟩
     ·rw [c] at hl;cases hl
     ·rw [c] at hl
      cases hl;rw [←hsz];exact (zbe.mp c').1
    have hel:=T.el es[i] (by simp);obtain ⟨b,ls,hb,hB⟩:=hel
    have hes:es[i]?=some (es[i].1,.ref b):=by rw [zar hi,←hb]
    have rest:wpAny (model prog w) A (match es[i]? with
     |some (fst,y)=>do
      let equal ←holding [y] (eqBool y (Value.ref a))
      let __x ←setState S
      match __x with
       |(es',fst,t') =>
        if (true && equal)=true then pure (SetFound.there none)
        else match t'.sameMemory t.moves t.mask with
         |some same=>do
          let still ←match if same=true then t'.slot (bq t n (t.probeStart hv)).j else SetTable.Slot.empty with
           |SetTable.Slot.live i'=>match es'[i']? with
            |some (fst,y')=>do
             let __do_lift ←isSame y' y
             pure (if __do_lift=true then some i' else none)
            |none=>pure none
           |_=>pure none
          match still with
           |none=>do
            rule "set.search.anew"
            setSearchFrom S (Value.ref a) hv true fuel none
           |some i'=>if equal=true then pure (SetFound.there (some i')) else setSearchFrom S (Value.ref a) hv true fuel (some (bq t (n+1) (t.probeStart hv)))
         |_=>unsupported "set.changed-during-lookup:is-the-new-block-at-the-old-address"
     |_=>unsupported "internal:set-entry") Q E s:=by
     rw [hes];dsimp only;refine zab (zaH (wpAny_eqBool_tuple hu hB ha ?_))
     by_cases hk:ls=ks
     ·rw [zaL hk]
      refine zab (zaN ho hd T.W.ft ?_);dsimp only;rw [if_pos (by decide)];exact zad h
     rw [zaG hk]
     have hnn:n < n0:=by
      rcases zcy hn with z|z
      ·exact z
      ·exfalso
       rw [z,hl0] at hl;cases hl;rw [hes] at he0;cases he0;exact hk (IsTupleKey.inj hB hb0)
     refine zab (zaN ho hd T.W.ft ?_);dsimp only;rw [if_neg (by decide)]
     have hsm:t.sameMemory t.moves t.mask=some true:=by unfold sameMemory;rw [if_pos (by simp)]
     rw [hsm];dsimp only;rw [if_pos rfl,hl];dsimp only;rw [hes];dsimp only;refine zab (wpAny_isSame_ref_self (zab (zad ?_)));rw [if_pos (by simp)];dsimp only;rw [if_neg (by decide)];exact s9 hu ho hd T ha he0 hb0 hj0 c1 c2 hN h fuel (n+1) _ hnn (by omega) rfl
    split
    ·refine zab (sF ha (fun y hy=>?_) ?_)
     ·obtain ⟨e,he,rfl⟩:=zan.mp hy
      have:e∈es.toList:=by have:=zbC.mp he;rw [Array.mem_filter] at this;exact zbC.mpr this.1
      obtain ⟨b',ls',e1,e2⟩:=T.el e this;exact ⟨b',ls',e1,e2⟩
     ·simp only [zap,if_false]
      exact rest
    ·exact rest
  ·rename_i hm
   exfalso
   unfold probe at hm;obtain ⟨N,hN',hE⟩:=wF T.ms T.dm (by have:=T.lo;omega) hv
   have hmN:m<=N:=by
    rcases zb7 N n0 with z|z
    ·exact absurd hE (c2 N z)
    ·omega
   exact (xX (f:=10 * turns t.mask) T.dm (p:=t.probeStart hv) rfl hE hmN (by omega)).elim fun met e=>hm met e
theorem tq {S a:Addr}{led:Bool}{o:Obj}{es:Array (Int×Value)}{ep:Nat}{t:SetTable}{vs:Te}{ks:Th}{hv:Int}{Q:SetFound->Shared->Prop}(hu:A.units < cLine)(ho:s.heap.get? S=some o)(hd:o.data=.set es ep t)(T:u9 prog w led s.heap es t vs)(ha:kO prog w s.heap ks a)
  (hne:∀b ls,Value.ref b∈vs->kO prog w s.heap ls b->ls≠ks) {N:Nat} (hE:t.slot (bq t N (t.probeStart hv)).j=.empty) (hN:N < 10 * turns t.mask) (h:∀j,t.slot j=.empty->qO t hv j->Q (.free j false) s) :
  ∀(fuel m:Nat) (stand:Option Probe),m<=N->(∀k < m,t.slot (bq t k (t.probeStart hv)).j≠.empty)->N - m < fuel->stand.getD (t.probeStart hv)=bq t m (t.probeStart hv)->wpAny (model prog w) A (setSearchFrom S (.ref a) hv true fuel stand) Q E s
 |0,m,_,_,_,h2,_=>by omega|fuel+1,m,stand,h1,hac,h2,h3=>by
  have hsz:t.place.size=es.size:=by have:=T.W.ft;simp [fits] at this;exact this.1
  unfold setSearchFrom;refine zab (zaN ho hd T.W.ft ?_);dsimp only;rw [if_neg (by unfold gaveWay;rw [t0 _ T.ms];exact zbh),h3];split
  ·rename_i met hm
   unfold probe at hm;obtain ⟨n,n1,n2,n3⟩:=wt _ hv T.dm (p:=t.probeStart hv) rfl _ m hm
   have hacc:∀k < n,t.slot (bq t k (t.probeStart hv)).j≠.empty:=fun k hk=>by
    rcases zb7 k m with z|z
    ·exact hac k z
    ·obtain ⟨i,q1,_⟩:=n2 k z hk
     rw [q1];exact fun z=>by cases z
   rcases n3 with ⟨rfl,hj⟩|⟨i,rfl,hl,hq⟩
   ·exact zad (h _ hj ⟨n,rfl,hacc⟩)
   ·dsimp only
    have hi:i < es.size:=by
     rcases cP t T.dm (bq t n (t.probeStart hv)).j with ⟨c,_⟩|⟨c,c'⟩
     ·rw [c] at hl;cases hl
     ·rw [c] at hl
      cases hl;rw [←hsz];exact (zbe.mp c').1
    have hel:=T.el es[i] (by simp);obtain ⟨b,ls,hb,hB⟩:=hel
    have hes:es[i]?=some (es[i].1,.ref b):=by rw [zar hi,←hb]
    have hvs:Value.ref b∈vs:=T.pm.mem_iff.mp (zan.mpr ⟨es[i],by simp,hb⟩)
    have rest:wpAny (model prog w) A (match es[i]? with
     |some (fst,y)=>do
      let equal ←holding [y] (eqBool y (Value.ref a))
      let __x ←setState S
      match __x with
       |(es',fst,t') =>
        if (true && equal)=true then pure (SetFound.there none)
        else match t'.sameMemory t.moves t.mask with
         |some same=>do
          let still ←match if same=true then t'.slot (bq t n (t.probeStart hv)).j else SetTable.Slot.empty with
           |SetTable.Slot.live i'=>match es'[i']? with
            |some (fst,y')=>do
             let __do_lift ←isSame y' y
             pure (if __do_lift=true then some i' else none)
            |none=>pure none
           |_=>pure none
          match still with
           |none=>do
            rule "set.search.anew"
            setSearchFrom S (Value.ref a) hv true fuel none
           |some i'=>if equal=true then pure (SetFound.there (some i')) else setSearchFrom S (Value.ref a) hv true fuel (some (bq t (n+1) (t.probeStart hv)))
         |_=>unsupported "set.changed-during-lookup:is-the-new-block-at-the-old-address"
     |_=>unsupported "internal:set-entry") Q E s:=by
     rw [hes];dsimp only;refine zab (zaH (wpAny_eqBool_tuple hu hB ha ?_));rw [zaG (hne b ls hvs hB)];refine zab (zaN ho hd T.W.ft ?_);dsimp only;rw [if_neg (by decide)]
     have hsm:t.sameMemory t.moves t.mask=some true:=by unfold sameMemory;rw [if_pos (by simp)]
     rw [hsm];dsimp only;rw [if_pos rfl,hl];dsimp only;rw [hes];dsimp only;refine zab (wpAny_isSame_ref_self (zab (zad ?_)));rw [if_pos (by simp)];dsimp only;rw [if_neg (by decide)]
     have hnN:n < N:=by
      rcases zcG n N with z|z|z
      ·exact z
      ·rw [z,hE] at hl;cases hl
      ·exact absurd hE (hacc N z)
     exact tq hu ho hd T ha hne hE hN h fuel (n+1) _ hnN (fun k hk=>by
      rcases zcy (Nat.le_of_lt_succ hk) with z|z
      ·exact hacc k z
      ·rw [z,hl];exact fun z=>by cases z) (by omega) rfl
    split
    ·refine zab (sF ha (fun y hy=>?_) ?_)
     ·obtain ⟨e,he,rfl⟩:=zan.mp hy
      have:e∈es.toList:=by have:=zbC.mp he;rw [Array.mem_filter] at this;exact zbC.mpr this.1
      obtain ⟨b',ls',e1,e2⟩:=T.el e this;exact ⟨b',ls',e1,e2⟩
     ·simp only [zap,if_false]
      exact rest
    ·exact rest
  ·rename_i hm
   exfalso
   unfold probe at hm;exact (xX (f:=10 * turns t.mask) T.dm (p:=t.probeStart hv) rfl hE h1 (by omega)).elim fun met e=>hm met e
def D3 {led:Bool}{S:Addr}{o:Obj}{es:Array (Int×Value)}{ep:Nat}{t:SetTable}{vs:Te}{wanted:Nat}{Q:Unit->Shared->Prop}(ho:s.heap.get? S=some o)(hx:o.ExactSet)(hd:o.data=.set es ep t)(G:mh led es t)(hpl:t.plain=true)(hpm:(es.toList.map (·.2)).Perm vs)(hel:∀e∈es.toList,∃b ls,e.2=.ref b/\kO prog w s.heap ls b)(hw:wanted < 256)(hl:vs.length * 4<=wanted)
  (h:∀h' es' t',Heap.SameBut S s.heap h'->h'.get? S=some {o with data:=.set es' (ep+1) t'}->u9 prog w led h' es' t' vs->DA es' t'->es'.toList.Perm es.toList->Q () {s with heap:=h'}) :
  wpAny (model prog w) A (setRelay S wanted) Q E s:=by
 obtain ⟨m1,m2,m3⟩:=Dm wanted hw;have m7:7<=sizeAbove wanted - 1:=(by decide:∀m∈eW,7<=m) _ m1
 have hlen:es.size=vs.length:=by have:=hpm.length_eq;simpa using this
 unfold setRelay;refine zab (zaN ho hd G.ft ?_);dsimp only;rw [if_neg (by rw [zba];omega)];obtain ⟨t',ord,e,q1,q2,q3,q4,q5,q6,q7,q8⟩:=E7 (finger:=t.finger) (moves:=t.movedTo (sizeAbove wanted - 1)) (led:=t.led) (plain:=t.plain) m1 (es.map (·.1)) (by rw [Array.size_map];omega);rw [Array.size_map] at q1 q2 q8
 have hp:(ord.filterMap (es[·]?)).toList.Perm es.toList:=by rw [Array.toList_filterMap];exact jN q1
 have hall:∀k∈ord.toList,k < es.size:=fun k hk=>by simpa using q1.mem_iff.mp hk
 have hfm:∀(l:List Nat),(∀k∈l,k < es.size)->∀(i:Nat) (e:Int×Value),(l.filterMap (es[·]?))[i]?=some e->∃k:Nat,l[i]?=some k/\es[k]?=some e:=by
  intro l
  induction l with|nil=>intro _ i e q;simp at q|cons x l ih =>
   intro hl i e q;obtain ⟨ex,hx⟩:∃ex,es[x]?=some ex:=⟨_,zar (hl x zag)⟩;rw [zcd,hx] at q
   cases i with|zero=>simp only [zcf,Option.some.injEq] at q;subst q;exact ⟨x,rfl,hx⟩|succ i=>simp only [List.getElem?_cons_succ] at q ⊢;exact ih (fun k hk=>hl k (zai _ hk)) i e q
 have hch:DA (ord.filterMap (es[·]?)) t':=fun i x j h1 h2=>by
  rw [←za4,Array.toList_filterMap] at h1;obtain ⟨k,k1,k2⟩:=hfm ord.toList hall i x h1;obtain ⟨hx',z1,z2⟩:=v7 m1 (by rw [Array.size_map];omega) e i j k h2 (by rw [←za4];exact k1);rw [Array.getElem?_map,k2] at z1;cases z1;exact z2
 have hsz:(ord.filterMap (es[·]?)).size=es.size:=by have:=hp.length_eq;rwa [zaM,zaM] at this
 have e':t.relaid (es.map (·.1)) wanted=some (t',ord):=e;rw [e'];refine zab (show wpAny _ _ (if ((ord.filterMap (es[·]?)).size != es.size)=true then (do unsupported "internal:set-table-lost-an-element";pure (ord.filterMap (es[·]?),t')) else pure (ord.filterMap (es[·]?),t')) _ _ _ from ?_);rw [if_neg (by simp [hsz])];refine zad (iC ho hx hd (by rw [hsz];exact G.bd) fun h' b1 g1=>?_);refine h h' _ t' b1 g1 ⟨⟨by rw [hsz];exact G.bd,by rw [hsz];exact q2,fun _=>q3,q4.trans G.ld⟩,by rw [q6];exact m1,q7,q5.trans hpl,by rw [q8,q6];omega,(hp.map _).trans hpm,fun x hx'=>?_⟩ hch hp;obtain ⟨b,ls,e1,e2⟩:=hel x (hp.mem_iff.mp hx');exact ⟨b,ls,e1,e2.same ho hd b1⟩
structure va (prog:Program)(w:World)(TH:List Int->Int)(led:Bool)(h:Heap)(es:Array (Int×Value))(t:SetTable)(vs:Te):Prop where
 T:u9 prog w led h es t vs
 ch:DA es t
 hh:∀e∈es.toList,∃b ls,e.2=.ref b/\kO prog w h ls b/\e.1=TH ls
def Np {S a:Addr}{led:Bool}{o:Obj}{es:Array (Int×Value)}{ep:Nat}{t:SetTable}{vs:Te}{ks:Th}{TH:List Int->Int}{Q:Bool->Shared->Prop}(hu:A.units < cLine)(ho:s.heap.get? S=some o)(hx:o.ExactSet)(hd:o.data=.set es ep t)(TC:va prog w TH led s.heap es t vs)(ha:kO prog w s.heap ks a)
  (hne:∀b ls,Value.ref b∈vs->kO prog w s.heap ls b->ls≠ks) (hl:vs.length < 63)
  (h:∀h' es' ep' t',Heap.SameBut S s.heap h'->h'.get? S=some {o with data:=.set es' ep' t'}->va prog w TH led h' es' t' (vs++[.ref a])->Q true {s with heap:=h'}) :
  wpAny (model prog w) A (setAddHashed S (.ref a) (TH ks)) Q E s:=by
 obtain ⟨T,Tch,Thh⟩:=TC;generalize hhv:TH ks=hv
 have hlen:es.size=vs.length:=by have:=T.pm.length_eq;simpa using this
 have hsz:t.place.size=es.size:=by have:=T.W.ft;simp [fits] at this;exact this.1
 have hlo:=T.lo;obtain ⟨N,hN,hE⟩:=wF T.ms T.dm (by omega) hv
 have hsb:10 * turns t.mask<=2700:=by
  have:∀m∈eW,10 * turns m<=2700:=by decide
  exact this _ T.ms
 unfold setAddHashed setAddHashedIn;refine zaH (zab (zaN ho hd T.W.ft ?_));dsimp only;rw [if_neg (by unfold byScan Value.scannable;simp)];unfold setSearch;refine zab (tq hu ho hd T ha hne hE hN (fun j hj hc=>?_) 100000 0 none (zbb _) (fun k hk=>by omega) (by omega) rfl);dsimp only;refine zab (zaN ho hd T.W.ft ?_)
 have hfree:t.place[SetTable.below t.place j]?≠some j:=by
  rcases cP t T.dm j with ⟨_,c⟩|⟨c,_⟩
  ·exact c
  ·rw [c] at hj;cases hj
 have hput:t.put j=({t with place:=insertAt t.place (SetTable.below t.place j) j},SetTable.below t.place j):=by
  unfold put;rw [T.dm,xW];simp only [zap,if_false]
 dsimp only;rw [hput];dsimp only;rw [T.pl,if_pos rfl];refine zab (yA ha ?_);rw [if_pos rfl];have pe:=insertAt_perm es (SetTable.below t.place j) (hv,Value.ref a);rw [zdk] at pe;have pp:=insertAt_perm t.place (SetTable.below t.place j) j
 have s1:(insertAt es (SetTable.below t.place j) (hv,Value.ref a)).size=es.size+1:=by have:=pe.length_eq;simpa using this
 have s2:(insertAt t.place (SetTable.below t.place j) j).size=t.place.size+1:=by have:=pp.length_eq;simpa using this
 have ch1:=yY (v:=.ref a) T.dm (T.W.rs T.pl) hsz hfree Tch hc;generalize hes1:insertAt es (SetTable.below t.place j) (hv,Value.ref a)=es1 at *
 have G1:mh led es1 {t with place:=insertAt t.place (SetTable.below t.place j) j,plain:=true}:=by
  refine ⟨by rw [s1];unfold scanBound;omega,?_,fun _=>lW (T.W.rs T.pl) hfree,T.W.ld⟩;simp only [fits,SetTable.fill,s1,s2,T.dm];simp;omega
 have pm1:(es1.toList.map (·.2)).Perm (vs++[.ref a]):=by
  refine (pe.map (·.2)).trans ?_;rw [zaX];exact T.pm.append (List.Perm.refl _)
 have el1:∀e∈es1.toList,∃b ls,e.2=.ref b/\kO prog w s.heap ls b:=fun e he=>by
  rcases za2.mp (pe.mem_iff.mp he) with he|he
  ·exact T.el e he
  ·rw [zaB] at he;subst he;exact ⟨a,ks,rfl,ha⟩
 refine zab (iC ho hx hd G1.bd fun h1 b1 g1=>?_)
 have el2:∀e∈es1.toList,∃b ls,e.2=.ref b/\kO prog w h1 ls b:=fun e he=>by
  obtain ⟨b,ls,e1,e2⟩:=el1 e he;exact ⟨b,ls,e1,e2.same ho hd b1⟩
 have hh1:∀e∈es1.toList,∃b ls,e.2=.ref b/\kO prog w h1 ls b/\e.1=TH ls:=fun e he=>by
  rcases za2.mp (pe.mem_iff.mp he) with he|he
  ·obtain ⟨b,ls,e1,e2,e3⟩:=Thh e he
   exact ⟨b,ls,e1,e2.same ho hd b1,e3⟩
  ·rw [zaB] at he;subst he;exact ⟨a,ks,rfl,ha.same ho hd b1,hhv.symm⟩
 split
 ·have hgr:grown (es.size+1)=(es.size+1) * 4:=by unfold grown;rw [if_neg (by omega)]
  rw [hgr];refine zab (D3 (s:={s with heap:=h1}) g1 hx rfl G1 rfl pm1 el2 (by omega) (by simp;omega) fun h2 es2 t2 b2 g2 T2 C2 P2=>zad ?_)
  exact h h2 es2 _ t2 (b1.trans b2) g2 ⟨T2,C2,fun e he=>by
   obtain ⟨b,ls,e1,e2,e3⟩:=hh1 e (P2.mem_iff.mp he)
   exact ⟨b,ls,e1,e2.same g1 rfl b2,e3⟩⟩
 ·rename_i hfull
  refine zad (h h1 es1 _ _ b1 g1 ⟨⟨G1,T.ms,T.dm,rfl,?_,pm1,el2⟩,ch1,hh1⟩);simp only [zbZ,Bool.true_and,tooFull,SetTable.fill,T.dm,decide_eq_true_eq] at hfull;simp only [Array.size_empty,Nat.add_zero] at hfull
  show (insertAt t.place (SetTable.below t.place j) j).size * 5 < t.mask * 3
  omega
def No {S a b0:Addr}{led:Bool}{o:Obj}{es:Array (Int×Value)}{ep:Nat}{t:SetTable}{vs:Te}{ks:Th}{TH:List Int->Int}{Q:Bool->Shared->Prop}(hu:A.units < cLine)(ho:s.heap.get? S=some o)(hx:o.ExactSet)(hd:o.data=.set es ep t)(TC:va prog w TH led s.heap es t vs)(ha:kO prog w s.heap ks a)
  (hb:Value.ref b0∈vs) (hB:kO prog w s.heap ks b0) (h:Q false s):wpAny (model prog w) A (setAddHashed S (.ref a) (TH ks)) Q E s:=by
 obtain ⟨T,Tch,Thh⟩:=TC
 have hsz:t.place.size=es.size:=by have:=T.W.ft;simp [fits] at this;exact this.1
 have hlo:=T.lo;obtain ⟨e,he,hb'⟩:=zan.mp (T.pm.mem_iff.mpr hb);obtain ⟨b1,ls,e1,e2,e3⟩:=Thh e he;rw [hb'] at e1;cases e1;have hls:ls=ks:=IsTupleKey.inj e2 hB;subst hls;obtain ⟨i0,hi0⟩:=List.getElem?_of_mem he;rw [za4] at hi0;have hee:e=(TH ls,.ref b0):=Prod.ext e3 hb';subst hee
 have hip:i0 < t.place.size:=by rw [hsz];exact (zbe.mp hi0).1
 obtain ⟨n0,c1,c2⟩:=Tch i0 _ _ hi0 (zar hip);obtain ⟨N,hN,hE⟩:=wF T.ms T.dm (by omega) (TH ls)
 have hnN:n0 < N:=by
  rcases zcG n0 N with z|z|z
  ·exact z
  ·have:=xN T.dm (T.W.rs T.pl) (zar hip)
   rw [←c1,z] at this
   rw [hE] at this;cases this
  ·exact absurd hE (c2 N z)
 have hsb:10 * turns t.mask<=2700:=by
  have:∀m∈eW,10 * turns m<=2700:=by decide
  exact this _ T.ms
 unfold setAddHashed setAddHashedIn;refine zaH (zab (zaN ho hd T.W.ft ?_));dsimp only;rw [if_neg (by unfold byScan Value.scannable;simp)];unfold setSearch;refine zab (s9 hu ho hd T ha hi0 hB (zar hip) c1 c2 (by omega) ?_ 100000 0 none (zbb _) (by omega) rfl);exact zad h
end
def nH (acc:List (Addr×Th))(p:Addr×Th):List (Addr×Th):=if p.2∈acc.map (·.2) then acc else acc++[p]
def nI (ps:List (Addr×Th)):List (Addr×Th):=ps.foldl nH []
theorem jM:∀(ps acc:List (Addr×Th)),(∀p∈ps.foldl nH acc,p∈acc\/p∈ps)/\(ps.foldl nH acc).length<=acc.length+ps.length/\((acc.map (·.2)).Nodup->((ps.foldl nH acc).map (·.2)).Nodup)/\(∀k,k∈(ps.foldl nH acc).map (·.2) ↔ k∈acc.map (·.2)\/k∈ps.map (·.2))
 |[],acc=>⟨fun p h=>.inl h,by simp,fun h=>h,fun k=>by simp⟩|q::ps,acc=>by
  obtain ⟨h1,h2,h3,h4⟩:=jM ps (nH acc q);rw [zbj];unfold nH at h1 h2 h3 h4 ⊢;by_cases c:q.2∈acc.map (·.2)
  ·rw [if_pos c] at h1 h2 h3 h4 ⊢;refine ⟨fun p hp=>(h1 p hp).imp id (zai _),by simp only [zaD];omega,h3,fun k=>?_⟩;rw [h4,zaf,zal];constructor
   ·rintro (z|z)
    ·exact .inl z
    ·exact .inr (.inr z)
   ·rintro (z|z|z)
    ·exact .inl z
    ·exact .inl (z ▸ c)
    ·exact .inr z
  ·rw [if_neg c] at h1 h2 h3 h4 ⊢;refine ⟨fun p hp=>?_,by simp only [za1,zaD,zci] at h2 ⊢;omega,fun nd=>h3 ?_,fun k=>?_⟩
   ·rcases h1 p hp with z|z
    ·rcases za2.mp z with z|z
     ·exact .inl z
     ·rw [zaB] at z;subst z;exact .inr zag
    ·exact .inr (zai _ z)
   ·rw [zaX,zbu];refine ⟨nd,by simp,fun x hx y hy e=>?_⟩;simp only [zaf,zbc,zaB] at hy;subst hy;subst e;exact c hx
   ·rw [h4];simp only [zaX,za2,zaf,zal,zbc,zaE,or_false,or_assoc]
def kh (ps:List (Addr×Th)):∀p∈nI ps,p∈ps:=fun p h=>by
 rcases (jM ps []).1 p h with z|z
 ·simp at z
 ·exact z
def ya (ps:List (Addr×Th)):(nI ps).length<=ps.length:=by have:=(jM ps []).2.1;simpa [nI] using this
def qw (ps:List (Addr×Th)):((nI ps).map (·.2)).Nodup:=(jM ps []).2.2.1 (by simp)
def Ff (ps:List (Addr×Th))(k:Th):k∈(nI ps).map (·.2) ↔ k∈ps.map (·.2):=by have:=(jM ps []).2.2.2 k;simpa [nI] using this
def wY (prog:Program)(w:World)(led:Bool)(h:Heap)(o:Obj)(vs:Te):Prop:=∃es ep t,o.ExactSet/\o.data=.set es ep t/\va prog w (tupleKeyHash (intKind prog w)) led h es t vs
def uu {prog:Program}{w:World}(led:Bool)(h:Heap):wY prog w led h (cK led) []:=by
 obtain ⟨es,ep,t,x1,x2,T⟩:=ut (prog:=prog) (w:=w) led h;have he:es = #[]:=by
  have:=T.pm.length_eq;simp at this
  exact this
 exact ⟨es,ep,t,x1,x2,T,fun i e j h1 h2=>by subst he;simp at h1,fun e he'=>by subst he;simp at he'⟩
section
variable {prog:Program}{w:World}{A:Around}{R:Result->Shared->Prop}{I:Addr}{fp wr:Tf}{G:Array GenState->Array GenState->Prop}{n:Nat}{P:Nat->Value->Prop}{St:Nat->Shared->Prop}
def va.keep {TH:List Int->Int}{led:Bool}{h h':Heap}{es:Array (Int×Value)}{t:SetTable}{vs:Te}(T:va prog w TH led h es t vs)(k:∀b,Value.ref b∈vs->∀o,h.get? b=some o->h'.get? b=some o):va prog w TH led h' es t vs :=
 ⟨T.T.keep k,T.ch,fun e he=>by obtain ⟨b,ls,e1,e2,e3⟩:=T.hh e he;exact ⟨b,ls,e1,e2.keep (k b (T.T.pm.mem_iff.mp (zan.mpr ⟨e,he,e1⟩))),e3⟩⟩
theorem qR (W:WalksS prog w A.in1 I fp wr G n P St)(hu:A.in1.units < cLine)(S:Addr)(hSf:S∉fp){led:Bool}(ps:List (Addr×Th))(hms:ps.length=n)(hval:∀i v,P i v->∃p,ps[i]?=some p/\v=.ref p.1)(hb:ps.length < 64) :
  ∀(k i:Nat) (s:Shared) (o:Obj),n - i=k->i<=n->St i s->s.heap.get? S=some o->wY prog w led s.heap o ((nI (ps.take i)).map fun p=>Value.ref p.1)->(∀p∈ps,kO prog w s.heap p.2 p.1/\p.1∉S::wr) ->
   (∀s' o',Moved (S::wr) G s s'->s'.heap.get? S=some o'->wY prog w led s'.heap o' ((nI ps).map fun p=>Value.ref p.1)->R (.ok (.ret .none)) s') ->
   codeAny (model prog w) A (.builtin "set.update.loop" ⟨[.ref S,.ref I],[]⟩) R s:=by
 have nw:S∉wr:=fun h=>hSf (W.sub _ h);have up:∀b∈wr,b∈S::wr:=fun b hb=>zai _ hb
 have av:∀{i:Nat} {b:Addr},Value.ref b∈(nI (ps.take i)).map (fun p=>Value.ref p.1)->∃p∈ps,p.1=b:=fun h=>by
  obtain ⟨p,hp,e⟩:=zan.mp h;exact ⟨p,zc5 (kh _ p hp),by cases e;rfl⟩
 intro k
 induction k with
 |zero =>
  intro i s o hk hi hst ho hS hps hR
  have hin:i=n:=by omega
  subst hin;refine zaW F.entry_set_update_loop ?_;rw [zaO F.plain_set_update_loop _];refine (show wpAny _ A.in1 (pyNext (.ref I) >>= _) _ _ s from zab (W.done s _ _ hst fun s' hm=>?_));refine (show wpAny _ A.in1 (ret Value.none) _ _ s' from zad (hR s' o (hm.mono up) (hm.heap S _ nw ho) ?_));rw [List.take_of_length_le (by omega)] at hS;obtain ⟨es,ep,t,x1,x2,T⟩:=hS;refine ⟨es,ep,t,x1,x2,T.keep fun b hb o e=>hm.heap b o (fun z=>?_) e⟩;obtain ⟨p,hp,e'⟩:=zan.mp hb;cases e';exact (hps p (kh _ p hp)).2 (up _ z)
 |succ k ih =>
  intro i s o hk hi hst ho hS hps hR
  have hlt:i < n:=by omega
  refine zaW F.entry_set_update_loop ?_;rw [zaO F.plain_set_update_loop _];refine (show wpAny _ A.in1 (pyNext (.ref I) >>= _) _ _ s from zab (W.item i s _ _ hlt hst fun v s' hP hst' hm=>?_));obtain ⟨p,hpi,rfl⟩:=hval i v hP;have hpm:p∈ps:=zaI hpi;have ho':=hm.heap S _ nw ho;have hps':∀p∈ps,kO prog w s'.heap p.2 p.1/\p.1∉S::wr:=fun p hp=>⟨(hps p hp).1.keep fun o e=>hm.heap _ _ (fun z=>(hps p hp).2 (up _ z)) e,(hps p hp).2⟩;obtain ⟨es,ep,t,x1,x2,T0⟩:=hS
  have T:va prog w (tupleKeyHash (intKind prog w)) led s'.heap es t ((nI (ps.take i)).map fun p=>Value.ref p.1):=T0.keep fun b hb o e=>by
   obtain ⟨q,hq,rfl⟩:=av hb;exact hm.heap _ _ (fun z=>(hps q hq).2 (up _ z)) e
  refine (show wpAny _ A.in1 (holding [Value.ref p.1] (setAdd S (.ref p.1)) >>= _) _ _ s' from zab (zaH ?_));unfold setAdd;refine zaH (zab (wpAny_pyHash_tuple hu (hps' p hpm).1 ?_))
  have hk2:nI (ps.take (i+1))=nH (nI (ps.take i)) p:=by
   rw [List.take_add_one,hpi];unfold nI;rw [Option.toList_some,List.foldl_append];rfl
  by_cases hin:p.2∈(nI (ps.take i)).map (·.2)
  ·obtain ⟨q,hq,eq⟩:=zan.mp hin
   have hqm:q∈ps:=zc5 (kh _ q hq)
   have hk3:nI (ps.take (i+1))=nI (ps.take i):=by rw [hk2];unfold nH;rw [if_pos hin]
   refine No (s:={s' with toks:=s'.toks+(p.2.length+1)}) (b0:=q.1) hu ho' x1 x2 T (hps' p hpm).1 (zan.mpr ⟨q,hq,rfl⟩) (by rw [←eq];exact (hps' q hqm).1) ?_;refine zad ⟨zbd F.plain_set_update_loop _,ih (i+1) _ _ (by omega) hlt (W.frame _ s' _ _ hst' (zcc _ _) fun b hb o e=>e) ho' ⟨es,ep,t,x1,x2,by rw [hk3];exact T⟩ hps' fun s2 o2 hm2 q2 g2=>?_⟩;exact hR s2 o2 (Moved.trans W.gtrans ((hm.mono up).then_heap (zcc _ _) fun b o hb e=>e) hm2) q2 g2
  have hne:∀b ls,Value.ref b∈(nI (ps.take i)).map (fun p=>Value.ref p.1)->kO prog w s'.heap ls b->ls≠p.2:=fun b ls hb' hB e=>by
   obtain ⟨q,hq,eq⟩:=zan.mp hb';cases eq;have h1:=(hps' q (zc5 (kh _ q hq))).1;have h2:ls=q.2:=IsTupleKey.inj hB h1;exact hin (zan.mpr ⟨q,hq,by rw [←h2,e]⟩)
  refine Np (s:={s' with toks:=s'.toks+(p.2.length+1)}) hu ho' x1 x2 T (hps' p hpm).1 hne (by have:=ya (ps.take i);rw [zah];rw [zbK] at this;omega) fun h' es' ep' t' hsb ho2 T2=>?_
  have hk3:(nI (ps.take (i+1))).map (fun p=>Value.ref p.1)=(nI (ps.take i)).map (fun p=>Value.ref p.1)++[.ref p.1]:=by
   rw [hk2];unfold nH;rw [if_neg hin];simp
  have hps2:∀p∈ps,kO prog w h' p.2 p.1/\p.1∉S::wr:=fun q hq=>⟨(hps' q hq).1.keep fun o e=>by rw [hsb.2 q.1 (fun z:q.1=S=>(hps q hq).2 (by rw [z];exact zag))];exact e,(hps q hq).2⟩;refine zad ⟨zbd F.plain_set_update_loop _,ih (i+1) _ _ (by omega) hlt (W.frame _ s' _ _ hst' (zcc _ _) fun b hb o e=>?_) ho2 ⟨es',ep',t',x1,rfl,by rw [hk3];exact T2⟩ hps2 fun s2 o2 hm2 q2 g2=>?_⟩
  ·rw [hsb.2 b (fun h:b=S=>hSf (h ▸ hb))];exact e
  ·refine hR s2 o2 (Moved.trans W.gtrans ((hm.mono up).then_heap (zcc _ _) fun b o hb e=>?_) hm2) q2 g2
   rw [hsb.2 b (fun h:b=S=>hb (by rw [h];exact zag))];exact e
end
section
variable {prog:Program}{w:World}{A:Around}{E:Tb}{s:Shared}
set_option maxHeartbeats 3200000 in
theorem AR {l:Addr}{its:Ti}{ps:List (Addr×Th)}{Q:Tb}
  (hh:A.handled=none) (hu:A.in1.in1.in1.units < cLine) (hl:s.heap.IsList l its) (hi:its.toList=ps.map fun p=>Value.ref p.1) (hp:∀p∈ps,kO prog w s.heap p.2 p.1) (hb:ps.length < 64)
  (h:∀(h':Heap) (tk:Nat) (o:Obj),h'.get? s.heap.objs.size=some o->wY prog w (!w.params.followText "set-order") h' o ((nI ps).map fun p=>Value.ref p.1) ->
   (∀b o,s.heap.get? b=some o->h'.get? b=some o)->s.toks<=tk->Q (.ref s.heap.objs.size) {s with heap:=h',toks:=tk}) :
  wpAny (model prog w) A (call (.type "set") [.ref l]) Q E s:=by
 obtain ⟨c,tl,hmro⟩:=F.called_set.mro;have hmade:=F.called_set.made;have hsub:=F.called_set.sub;refine wpAny_call (zcu (show wpAny _ _ (callAny (.type "set") _) _ _ _ from ?_));refine zad ⟨Code.quiet_builtin _ (by decide),zaW F.entry_type_call ?_⟩;rw [Around.under_plain (weight_type_call_type "set" [.ref l] []) rfl];have h1:=F.called_set.notType;have h2:=F.called_set.canCreate;have hct:=F.typeCall_set_1 (.ref l)
 repeat (any_goals (first|assumption|wp_step))
 refine zb0 (JI (.ref l) (E:=E) (Q₁:=fun obj s₁=>obj=.ref s.heap.objs.size/\s₁={s with heap:=s.heap.push (cK (!w.params.followText "set-order"))}) ⟨rfl,rfl⟩) fun r s₁ hr=>?_;generalize hled:(!w.params.followText "set-order")=led at *
 cases r with|error e=>exact hr|ok fl =>
  cases fl with
  |ret obj =>
   obtain ⟨rfl,rfl⟩:=hr;have hS:(s.heap.push (cK led)).get? s.heap.objs.size=some (cK led):=zaq _ rfl;have hT:Shared.TypeIs {s with heap:=s.heap.push (cK led)} (.ref s.heap.objs.size) "set":=⟨_,hS,rfl⟩;have hli:=F.called_set.init.lookup;have hbi:=F.called_set.init.bind (.ref s.heap.objs.size)
   repeat (any_goals (first|assumption|wp_step))
   refine zb0 (zc1 (R:=wants (fun r s₂=>r=.none/\∃h' tk o,s₂={s with heap:=h',toks:=tk}/\h'.get? s.heap.objs.size=some o/\wY prog w led h' o ((nI ps).map fun p=>Value.ref p.1) /\
     (∀b o,s.heap.get? b=some o->h'.get? b=some o)/\s.toks<=tk) E) F.called_set.init.plain F.entry_set_init (check_set_init_1 hT ?_)) fun r₂ s₂ hr₂=>?_
   ·obtain ⟨ol,hol,hcl,nl,hdl⟩:=hl
    obtain ⟨ocls,odict,odata,oslots⟩:=ol;simp only at hcl hdl;subst hcl;subst hdl;have hol':(s.heap.push (cK led)).get? l=some {cls:=.type "list",dict:=odict,data:=.seq its nl,slots:=oslots}:=zae _ hol;have hs1:=F.sub_list_set;have hs2:=F.sub_list_frozenset
    have hne:(Value.type "list" == Value.type "dict")=false:=by decide
    have hl1:(s.heap.push (cK led)).IsList l its:=⟨_,hol',rfl,nl,rfl⟩;unfold Builtin.«set.__init__» noKeywords Builtin.Frozenset.updateFrom;generalize hPI:pyIter=PI
    wp_walk;subst hPI
    refine zco hl1 (zab (zcE ?_));have hlS:l < s.heap.objs.size:=zam hol
    have hh3:A.in1.in1.in1.handled=none:=by simp [hh]
    have hneI:l≠(s.heap.push (cK led)).objs.size:=by rw [za9];exact zat (zaU hlS)
    have hSf:s.heap.objs.size∉[(s.heap.push (cK led)).objs.size,l]:=by
     rw [za9];simp only [zal,zaE,or_false,not_or];exact ⟨zat (zcr _),zbF hlS⟩
    have hsz:its.size=ps.length:=by have:=congrArg List.length hi;simpa using this
    have hp1:∀p∈ps,kO prog w ((s.heap.push (cK led)).push {cls:=.type "list_iterator",data:=.fields #[.ref l,.int 0 0]}) p.2 p.1/\p.1 < s.heap.objs.size:=fun p hp'=>by
     obtain ⟨op,itp,np,q1,q2,q3,q4⟩:=hp p hp';exact ⟨⟨op,itp,np,zae _ (zae _ q1),q2,q3,q4⟩,zam q1⟩
    refine qR ((Walks.list hh3 _ l hneI its).toS) hu s.heap.objs.size hSf (led:=led) ps hsz.symm
     (fun i v hv=>by
      have:its.toList[i]?=some v:=by rw [za4];exact hv
      rw [hi,za0] at this
      obtain ⟨p,e1,e2⟩:=zaQ.mp this
      exact ⟨p,e1,e2.symm⟩) hb (its.size - 0) 0 _ (cK led) (by omega) (zbb _)
     ⟨⟨_,zaq _ rfl,rfl,rfl⟩,(hl1.push _)⟩ (zae _ hS) (uu led _) (fun p hp'=>⟨(hp1 p hp').1,fun z=>?_⟩) fun s' o' hm ho' hS'=>?_
    ·have:=(hp1 p hp').2
     simp only [zal,zaE,or_false] at z;rcases z with z|z
     ·rw [z] at this;exact zaF _ this
     ·rw [z,za9] at this;exact absurd this (Nat.not_lt.mpr (zcl _))
    obtain ⟨h',g',d',tk',os'⟩:=s';have eg:g'=s.gens:=hm.gens;have ed:d'=s.drawn:=hm.drawn;have eo:os'=s.os:=hm.os;subst eg;subst ed;subst eo;refine (show wpAny _ _ _ _ _ _ from zad (show wpAny _ _ (ret Value.none) _ _ _ from zad ⟨rfl,h',tk',o',rfl,ho',hS',fun b o e=>?_,hm.toks⟩));have hbs:=zam e;refine hm.heap b o ?_ (zae _ (zae _ e));rw [za9];simp only [zal,zaE,or_false,not_or];exact ⟨zat hbs,zat (zaU hbs)⟩
   ·cases r₂ with|error e=>exact hr₂|ok fl2 =>
     cases fl2 with
     |ret r =>
      obtain ⟨rfl,h',tk,o,rfl,ho,hS',hk',ht⟩:=hr₂
      repeat (any_goals (first|assumption|wp_step))
      exact h _ _ o ho hS' hk' ht
     |_=>exact hr₂.elim
  |_=>exact hr.elim
def wY.v {led:Bool}{h:Heap}{o:Obj}{vs:Te}(x:wY prog w led h o vs):FW prog w led h o vs :=
 let ⟨es,ep,t,x1,x2,T⟩:=x
 ⟨es,ep,t,x1,x2,T.T⟩
end
end HS
namespace HW
open PyProof.Rows L2 HS HT2
def Nh (acc:Ta)(k:Th):Ta:=if k∈acc then acc else acc++[k]
def dd (L:Ta):Ta:=L.foldl Nh []
theorem yo:∀(ps acc:List (Addr×Th)),(ps.foldl nH acc).map (·.2)=(ps.map (·.2)).foldl Nh (acc.map (·.2))
 |[],_=>rfl|q::ps,acc=>by rw [zbj,yo ps,zaf,zbj];congr 1;unfold nH Nh;split <;> simp
def sd (ps:List (Addr×Th)):(nI ps).map (·.2)=dd (ps.map (·.2)):=yo ps []
def Hq (L:Ta):∃ps:List (Addr×Th),ps.map (·.2)=L:=⟨L.map fun k=>(0,k),by rw [zaR];exact List.map_id'' (fun _=>rfl) L⟩
def pj (L:Ta):(dd L).Nodup:=by obtain ⟨ps,rfl⟩:=Hq L;rw [←sd];exact qw ps
def C6 (L:Ta)(k:Th):k∈dd L ↔ k∈L:=by obtain ⟨ps,rfl⟩:=Hq L;rw [←sd];exact Ff ps k
def Bk (K:zac)(b:Bool):List V->Hp->VK->Prop:=fun vs H Q=>∃(p:Addr) (ps:List (Addr×Th)),vs=[.ref p]/\jg K H p (ps.map fun q=>V.ref q.1)/\Dq K H ps/\ps.length < 64/\∀l o,H l=none->FX b o (nI ps)->Q (.ref l) (upd H l (kf o))
def wL {X:Cx}(hc:X.calm=true)(hu:X.A.units+64 < cLine):ip X (.type "set") (Bk X.K (!HS.bt X.w)):=by
 intro pins s Y H vs us Q I r h;obtain ⟨p,ps,rfl,hq,hT,h64,q⟩:=h;obtain ⟨u,rfl,rx⟩:=mU r;cases rx;obtain ⟨its,r',pl,hz⟩:=I.list hq;have hi:=qf r';refine AR (its:=its.toArray) (ps:=ps) (I.ok.hd hc) (by simp only [Around.in1_units];omega) pl.isList (by simpa using hi) (fun q hq'=>?_) h64 fun h' tk o ho hS kp ht=>?_
 ·obtain ⟨o,itq,n,q1,q2,q3,q4⟩:=aF.tupA I (hT q hq');exact ⟨o,itq,n,q1,q2,q3,ui q4⟩
 ·exact ⟨.ref s.heap.objs.size,_,I.laid (t':=tk) kp (zao _) (show bI X.prog X.w _ h' _ (kf o) from ⟨ho,trivial,⟨o,ho⟩,fun _ _ _ _=>trivial⟩),rfl,q _ _ (I.hok.fresh (zao _)) hS.v.o⟩
def LB (x:R)(U:ac):Option (R×ac):=(D0 x U).bind fun ds=>(sN ds).bind fun L=>if L.length < 64/\((dd L).length < 2\/∀k∈L,k≠[]) then some (.p U.length,U++[.lst ((bn (dd L)).map kT)]) else none
def ww (fa:FE):FE:=fun O U=>(fa O U).bind fun a=>LB a.1 a.2
def IV {K:zac}{H:Hp}{Q:VK}{fa:FE}{b:Bool}(h:az K (ww fa) Y H Q):H9 (xv K b) (lF (H9 (Bk K b) (lF (az K fa) sS)) sS) Y H Q:=by
 obtain ⟨O,U,m,d,U',hl,hs,e,kk'⟩:=h;obtain ⟨⟨x,U1⟩,e1,e⟩:=zaa.mp e;obtain ⟨ds,e2,e⟩:=zaa.mp e;obtain ⟨L,e3,e⟩:=zaa.mp e;split at e
 ·rename_i hc;obtain ⟨h64,hne⟩:=hc;cases e;refine ⟨O,U,m,x,U1,hl,hs,e1,fun v H1 m1 x1 s1 r1=>?_⟩;obtain ⟨a,vs,rfl,q1,q2⟩:=DZ s1 e2 r1;obtain ⟨ps,rfl,rfl,hT⟩:=sM e3 q2;have h64':ps.length < 64:=by simpa using h64
  have hl':=ya ps;refine ⟨a,ps,rfl,q1,hT,h64',fun l o hl' hO=>?_⟩;have x2:c6 m1 H1 m1 (upd H1 l (kf o)):=c6.new hl';have s2:aO K m1 (upd H1 l (kf o)) U1:=s1.same (bW hl');have hT2:Dq K (upd H1 l (kf o)) (nI ps):=fun q hq=>hX.tf (.of (bW hl')) (hT q (kh _ q hq));refine ⟨l,o,nI ps,rfl,bf,hO,hT2,qw ps,by omega,fun h2 p hp=>?_,fun l2 qs hl2 hm hq=>?_⟩
  ·rcases hne with z|z
   ·rw [←sd,zah] at z;omega
   ·exact z _ (zan.mpr ⟨p,kh _ p hp,rfl⟩)
  ·obtain ⟨x3,s3,r3⟩:=fJ s2 (xU fun q hq'=>hT2 q (hm q hq')) hl2;rw [hq,sd] at s3;exact kk' _ _ _ (x1.trans (x2.trans x3)) s3 r3
 ·cases e
def lH (b:Bool):List R->ac->Option (R×ac)
 |[.v (.fd ks _)],U=>(fM ks).bind fun ns=>if ns.length < 64 then some (.p U.length,U++[.lst ((gX ns).map D.int)]) else none|_,_=>none
def J4 {K:zac}{b:Bool}:zQ K (lH b) tI:=by
 intro m H U xs d U' vs Q s r e k;unfold lH at e;split at e
 ·rename_i ks ds;obtain ⟨v,rfl,r1⟩:=oB r;simp only [au,ao] at r1;obtain ⟨a,o,es,rfl,ea,e1,e2⟩:=r1;obtain ⟨ns,q1,e⟩:=zaa.mp e;split at e
  ·rename_i h64
   cases e;refine ⟨a,es,ns,rfl,.inr ⟨o,ea⟩,by rw [e1];exact oW q1,h64,fun l hl=>?_⟩;obtain ⟨x1,x2,x3⟩:=fJ s (oA (K:=K) (H:=H) (ns:=gX ns)) hl;exact k _ _ _ x1 x2 x3
  ·cases e
 ·cases e
end HW
namespace HW
variable {K:zac}
open PyProof.Rows L2
structure QJ (P:Addr)(q:Str)(H H':Hp):Prop where
 keep:∀b o,b≠P->H b=some o->H' b=some o
 tab:∃ps,H' P=some (.tbl ps)/\ku H' q ps
def Ln (P:Nat)(q:Str)(U:ac):Bool:=match U[0]? with|some (ap.tb P' q')=>decide (P'=P) && decide (q'=q)|_=>false
def Po (P:Nat)(q:Str):ni->Option D
 |.rt r U=>(DG r U).bind fun a=>if Ln P q a.2=true then some a.1 else none|.nx _ U=>if Ln P q U=true then some .non else none|_=>none
def SJ (P:Nat)(q:Str)(k:Nat)(b:FS):MF:=fun ds=>(b (ds.map (fun d=>some (.v d))++List.replicate (k - ds.length) none) [.tb P q]).bind (Po P q)
def SI (K:zac)(P:Nat)(q:Str)(n:Nat)(f:MF):Sp:=fun vs H Q _=>∃ds d,ds.length=n/\RelDs K H ds vs/\f ds=some d/\(∃ps,H P=some (.tbl ps)/\ku H q ps)/\∀v H',QJ P q H H'->ao K H' d v->Q v H'
def So (Pg:Program)(w:World)(K:zac)(mg:Td)(base:Heap)(k:Nat)(x:Str)(ps:Tl)(P:Nat)(q:Str)(mf:MF):Prop :=
 ∃f fd,dE Pg w K mg base nr k f fd ps (SI K P q ps.length mf)/\PySem.W.keepIn K (.ref f)=true/\ji K fd ps []/\mg x=some (.ref f)
structure QR (K:zac)(x:Str)(st:Stmt)(f:Addr)(fd:FuncData)(c:Addr):Prop where
 ex:∃(oc:Value) (od:Option Addr) (kV doc pm:Value) (an:Option Addr) (ct:Value) (osl:Array (Tg)),
  fd=PySem.W.fnOf x x (i5 st) (cZ st) (ah st) .none kV doc pm an (.ref c) ct/\K.lookup f=some ⟨oc,od,.func fd,osl⟩/\PySem.W.codeIn K (.ref c) x=true
 kp:PySem.W.keepIn K (.ref f)=true
abbrev qc (e:Expr)(es:Tj)(X:Cx):Prop:=starEach (e::es) X.env=(false,eval e X.env)::starEach es X.env
def gY:Expr->Bool
 |.Starred ..=>true|_=>false
def aB {es:Tj}{env:Env}(h:gY e=false):starEach (e::es) env=(false,eval e env)::starEach es env:=by cases e <;> first|rfl|(simp [gY] at h)
theorem bj {env:Env}{pos:Pos}:∀{es:Tj},es.any gY=false->(backTo pos (starEach es env)).any (·.1)=false
 |[],_=>rfl|e::es,h=>by rw [zbA,Bool.or_eq_false_iff] at h;rw [aB h.1];have ih:=bj (env:=env) (pos:=pos) h.2;unfold backTo at ih ⊢;rw [zaf,zbA,ih];rfl
def u5 {es:Tj}{env:Env}(h:gY e=false):(assignEach (e::es) env).map (·.2)=assign e env::(assignEach es env).map (·.2):=by cases e <;> first|rfl|(simp [gY] at h)
theorem kF {prog:Program}{w:World}{A:Around}{E:Tb}{s:Shared}{t sl:Addr}{items:Ti}{vl vu:Value}{lo hi:Option Int}{Q:Tb}(ht:IsTup s.heap t items)(hs:s.heap.IsSliceOf sl vl vu .none)(pl:IsPart vl lo)(pu:IsPart vu hi)
  (hw:HT.dl items.size 0 lo=0/\HT.dl items.size items.size hi=items.size)
  (h:Q (.ref t) s):wpAny (model prog w) A (getItem (.ref t) (.ref sl)) Q E s:=by
 obtain ⟨os,hos,hcs,hds⟩:=id hs;have hTs:s.TypeIs (.ref sl) "slice":=⟨os,hos,hcs⟩;unfold getItem
 try with_reducible refine zaH ?_
 first|refine zab (zad ?_)|skip
 refine zab (wpAny_sequenceKey ht.typeIs (by decide) ?_)
 refine zab (za5 (name:=Str.ofString "__getitem__") ht.typeIs PyProof.Rows.slot_tuple_getitem
  (zaV PyProof.Rows.slot_tuple_getitem ht.typeIs entry_tuple_getitem ?_ (args_tuple_getitem _ _)))
 show wpAny _ _ (Builtin.Tuple.tupleItemsOf (.ref t) >>= _) _ _ s
 refine zab (tupleItemsOf_ ht ?_);refine zab (zbt hTs ?_);rw [if_pos (by decide)];refine zab (HT.iD hs pl pu ?_)
 have hyes:((((HT.dl items.size 0 lo:Nat):Int) == 0 && (1:Int) == 1 && (HT.dl items.size items.size hi - HT.dl items.size 0 lo) == items.size)=true):=by
  rw [hw.1,hw.2];simp
 show wpAny _ _ (if (((HT.dl items.size 0 lo:Nat):Int) == 0 && (1:Int) == 1 && (HT.dl items.size items.size hi - HT.dl items.size 0 lo) == items.size)=true then _ else _) _ _ s
 rw [if_pos hyes];refine zab (m:=Builtin.Tuple.tupleIsExact (.ref t)) (zab (zbt ht.typeIs (zad ?_)));rw [if_pos (by decide)];refine zab (zcg ?_)
 first
  |exact zad ⟨_,rfl,zad h⟩
  |exact zab (zad (zad ⟨_,rfl,zad h⟩))
  |exact zab (zad ⟨_,rfl,zad h⟩)
def pq (xs:List D)(lo hi:Option Int):List D:=(xs.drop (HT.dl xs.length 0 lo)).take (HT.dl xs.length xs.length hi - HT.dl xs.length 0 lo)
def LP (K:zac):V->Option Int->Option Int->Hp->VK->Prop:=fun x lo hi H Q=>LO K x lo hi H Q\/LN K x lo hi H Q \/
 ∃a xs,x=.ref a/\hX K H a xs/\(HT.dl xs.length 0 lo=0/\HT.dl xs.length xs.length hi=xs.length)/\Q (.ref a) H
def AQ {X:Cx}:Ds X (fun x lo hi H Q=>∃a xs,x=.ref a/\hX X.K H a xs/\(HT.dl xs.length 0 lo=0/\HT.dl xs.length xs.length hi=xs.length)/\Q (.ref a) H):=by
 intro pins s Y H x v vl vu lo hi sl Q I rx hs pl pu h;obtain ⟨a,xs,rfl,hx,hw,q⟩:=h;cases rx;obtain ⟨its,r,ht,hz⟩:=I.tuple hx;have hlen:its.toArray.size=xs.length:=by rw [zax];exact r.length.symm
 refine ⟨"tuple",_,PyProof.Rows.slot_tuple_getitem.lookup,ht.typeIs,?_⟩;exact kF ht hs pl pu (by rw [hlen];exact hw) ⟨.ref a,H,I,rfl,q⟩
def Ib {X:Cx}:Ds X (LP X.K):=Ds.or DX (Ds.or Ia AQ)
abbrev FO:=Lo->ac->Option (Option Int×ac)
def Ei (K:zac)(f:FO):TO:=fun Y H Q=>∃O U m o U',dN K m H O Y/\aO K m H U/\f O U=some (o,U')/\∀H' m',c6 m H m' H'->aO K m' H' U'->Q o H'
def t4:FO:=fun _ U=>some (none,U)
def kK (f:FE):FO:=fun O U=>(f O U).bind fun a=>match a.1 with|.v (.int i)=>some (some i,a.2)|_=>none
def Ic (x:R)(lo hi:Option Int)(U:ac):Option (R×ac):=match x with
 |.v (.tup xs)=>some (.v (.tup (pq xs lo hi)),U)|x=>(f6 x U).bind fun xs=>some (.p U.length,U++[.lst (pq xs lo hi)])
def Kd (fa:FE)(fl fh:FO):FE:=fun O U=>(fa O U).bind fun a=>(fl O a.2).bind fun l=>(fh O l.2).bind fun h=>Ic a.1 l.1 h.1 h.2
theorem RelDs.drop {K:zac}{H:Hp}:∀{xs:List D} {vs:List V} (n:Nat),RelDs K H xs vs->RelDs K H (xs.drop n) (vs.drop n)
 |_,_,0,h=>h|[],_,n+1,h=>by simp only [RelDs] at h;subst h;simp only [List.drop_nil,RelDs]|x::xs,_,n+1,h=>by simp only [RelDs] at h;obtain ⟨v,r,rfl,_,h2⟩:=h;exact RelDs.drop n h2
theorem RelDs.take {K:zac}{H:Hp}:∀{xs:List D} {vs:List V} (n:Nat),RelDs K H xs vs->RelDs K H (xs.take n) (vs.take n)
 |_,_,0,h=>by simp only [List.take_zero,RelDs]|[],_,n+1,h=>by simp only [RelDs] at h;subst h;simp only [List.take_nil,RelDs]|x::xs,_,n+1,h=>by simp only [RelDs] at h;obtain ⟨v,r,rfl,h1,h2⟩:=h;simp only [List.take_succ_cons,RelDs];exact ⟨v,_,rfl,h1,RelDs.take n h2⟩
def RelDs.cut {H:Hp}{xs:List D}{vs:List V}{lo hi:Option Int}(h:RelDs K H xs vs):RelDs K H (pq xs lo hi) (se vs lo hi):=by unfold pq se;rw [h.length];exact (h.drop _).take _
section
variable {K:zac}{Y:L2.St}{H:Hp}{Q:VK}
def A7 {Q:Option Int->Hp->Prop}(h:Ei K t4 Y H Q):xk Y H Q:=by obtain ⟨O,U,m,o,U',hl,hs,e,k⟩:=h;cases e;exact k H m .refl hs
def A6 {f}{Q:Option Int->Hp->Prop}(h:Ei K (kK f) Y H Q):GI (az K f) Y H Q:=by
 obtain ⟨O,U,m,o,U',hl,hs,e,k⟩:=h;obtain ⟨⟨x,U1⟩,e1,e⟩:=zaa.mp e;split at e
 ·rename_i i q
  cases e;simp only at q;subst q;exact ⟨O,U,m,_,U1,hl,hs,e1,fun v H1 m1 x1 s1 r1=>⟨i,by simpa only [au,ao] using r1,k H1 m1 x1 s1⟩⟩
 ·cases e
theorem LD {m:Tf}{U U':ac}{x d:R}{v:V}{lo hi:Option Int}(s:aO K m H U)(r:au K m H x v)(e:Ic x lo hi U=some (d,U'))(k:∀w H' m',c6 m H m' H'->aO K m' H' U'->au K m' H' d w->Q w H'):LP K v lo hi H Q:=by
 have lst:∀xs,f6 x U=some xs->(some (R.p U.length,U++[ap.lst (pq xs lo hi)]):Option (R×ac))=some (d,U')->LP K v lo hi H Q:=fun xs e1 e2=>by cases e2;obtain ⟨a,vs,rfl,q,rr⟩:=gT s r e1;refine .inl ⟨a,vs,rfl,q,fun p hp=>?_⟩;obtain ⟨x1,x2,x3⟩:=fJ s (rr.cut (lo:=lo) (hi:=hi)) hp;exact k _ _ _ x1 x2 x3
 have gen:(f6 x U).bind (fun xs=>some (R.p U.length,U++[ap.lst (pq xs lo hi)]))=some (d,U')->LP K v lo hi H Q:=fun e=>by obtain ⟨xs,e1,e⟩:=zaa.mp e;exact lst xs e1 e
 cases x with|p n=>exact gen e|s _ n=>exact gen e|x n=>exact gen e|f L ds=>exact gen e|v d0 =>
  cases d0 with
  |tup xs =>
   cases e;simp only [au,ao] at r;obtain ⟨a,vs,rfl,q,rr⟩:=r;by_cases hw:HT.dl vs.length 0 lo=0/\HT.dl vs.length vs.length hi=vs.length
   ·refine .inr (.inr ⟨a,vs,rfl,q,hw,k _ H m .refl s ?_⟩);simp only [au,ao];refine ⟨a,vs,rfl,q,?_⟩;have:=rr.cut (lo:=lo) (hi:=hi);unfold se at this
    rw [hw.1,hw.2] at this
    simpa using this
   ·refine .inr (.inl ⟨a,vs,rfl,q,hw,fun p hp=>?_⟩);obtain ⟨x1,x2,x3⟩:=j8 s (rr.cut (lo:=lo) (hi:=hi)) hp;exact k _ _ _ x1 x2 x3
  |non=>exact gen e|bl _=>exact gen e|int _=>exact gen e|str _=>exact gen e|fl _=>exact gen e|fd _ _=>exact gen e|key _=>exact gen e
def LG {fa fl fh}(h:az K (Kd fa fl fh) Y H Q):RG (LP K) (az K fa) (Ei K fl) (Ei K fh) Y H Q:=by obtain ⟨O,U,m,d,U',hl,hs,e,k⟩:=h;obtain ⟨⟨x,U1⟩,e1,e⟩:=zaa.mp e;obtain ⟨⟨l,U2⟩,e2,e⟩:=zaa.mp e;obtain ⟨⟨u,U3⟩,e3,e⟩:=zaa.mp e;refine ⟨O,U,m,x,U1,hl,hs,e1,fun v H1 m1 x1 s1 r1=>?_⟩;refine ⟨O,U1,m1,l,U2,hl.ext x1,s1,e2,fun H2 m2 x2 s2=>?_⟩;refine ⟨O,U2,m2,u,U3,hl.ext (x1.trans x2),s2,e3,fun H3 m3 x3 s3=>?_⟩;exact LD s3 (r1.ext (x2.trans x3)) e fun w H4 m4 x4 s4 r4=>k w H4 m4 (((x1.trans x2).trans x3).trans x4) s4 r4
end
def PO.imp {e:Option Expr}{t t':TO}(h:PO X e t)(k:∀{Y H Q},t' Y H Q->t Y H Q):PO X e t':=fun pins s Y H Q I q=>h pins s Y H Q I (k q)
def yf:FE:=fun _ U=>some (.p U.length,U++[.dct []])
def Ef {H:Hp}{Q:VK}(h:az K yf Y H Q):vG Y H Q:=by obtain ⟨O,U,m,d,U',hl,hs,e,k⟩:=h;cases e;intro p hp;refine k _ _ (m++[p]) (.newH hp) (hs.newH hp ⟨[],bf,rfl,by simp only [zbc,RelDs]⟩) ⟨p,rfl,?_⟩;rw [←hs.len];simp
namespace R
section
variable {X:Cx}{a b e:Expr}{es:Tj}{fa fb:FE}{ga:FA}{pos p:Pos}{x:Str}
def ak {i j}:PE X (.Constant (.int i) j pos) (az X.K (fK (.int i))):=PE.imp Jv (lK fun _ _=>by simp only [au,ao])
def tJ (ha:PE X a (az X.K fa)):PE X (.UnaryOp .USub a pos) (az X.K (nJ t6 fa)):=PE.imp (Mi HH ha) (LF MG)
def Br (ha:PE X a (az X.K fa)):PO X (some a) (Ei X.K (kK fa)):=PO.imp (EA ha) A6
def Jf {k:Nat}{f:Addr}{fd:FuncData}{ps:Tl}{n:Nat}{mf:MF}(F:dE X.prog X.w X.K X.mg X.base nr k f fd ps (DD X.K n mf))(hr:dU k X.A)(hg:Gl X x)(hm:X.mg x=some (.ref f))(hk:PySem.W.keepIn X.K (.ref f)=true)(hb:ji X.K fd ps [])
  (ha:PA X (e::es) (je X.K ga)) (hdb:(x == ("__debug__" : Str))=false:=by decide) (he:qc e es X:=by exact aB rfl) (hpl:(backTo pos (starEach es X.env)).any (·.1)=false:=by exact bj rfl) :
  PE X (.Call (.Name x p) (e::es) [] pos) (az X.K (aR mf n ga)):=PE.imp (rF F hr hg hm hk hb .nil BQ ha hdb he hpl) Eh
theorem j5 {d:D}(h:jX X.K X.mg x d)(hg:Gl X x:=by rfl)(hd:(x == ("__debug__" : Str))=false:=by decide):PE X (.Name x pos) (az X.K (fK d)):=by obtain ⟨u,v,hm,r,rd⟩:=h;exact PE.imp (EN hg hm r hd) (lK fun _ H=>rd H)
def p5 {op:CmpOp}{r:R2}{g:R->R->ac->Option (R×ac)}(ho:lu X (compareOp op) r)(hg:sy X.K g r)(ha:PE X a (az X.K fa))(hb:PE X b (az X.K fb))(hm:behindInMarks op b=false):PT X (.Compare a [op] [b] pos) (fZ X.K (fB (aA g fa fb))) :=
 PT.imp (xA ho ha hb hm) fun h=>by obtain ⟨O,U,m,d,U',hl,hs,e,k⟩:=xt h;exact kJ hg ⟨O,U,m,d,U',hl,hs,e,k⟩
def O0 {op:CmpOp}{neg:Bool}{c:D}{cv:V}(hc:(c=.non/\cv=.non)\/∃b,c=.bl b/\cv=.bl b)(ho:lu X (compareOp op) (IW neg cv))(ha:PE X a (az X.K fa))(hb:PE X b (tC cv))(hm:behindInMarks op b=false):PT X (.Compare a [op] [b] pos) (fZ X.K (fB (nJ (G8 neg c) fa))) :=
 PT.imp (xA ho ha hb hm) fun h=>by obtain ⟨O,U,m,d,U',hl,hs,e,k⟩:=xt h;exact LI hc ⟨O,U,m,d,U',hl,hs,e,k⟩
variable {ta:FT}
variable {c tg iter:Expr}
variable {g:FG}{fi:FI}
def mO.imp {ifs:Tj}{t t':TT}(h:mO X ifs t)(k:∀{Y H Q},t' Y H Q->t Y H Q):mO X ifs t':=fun pins s Y H Q I q=>h pins s Y H Q I (k q)
theorem dJ {ifs:Tj}{scope:Scope}(ix:List Nat)(own caps:Tl)(hc:X.calm=true)(n:ay X.env.scope scope own caps)(hi:PI X tg iter (vc X.K fi))
  (hb:∀cl C s₂ H₂ fp,PG (aL X scope cl C s₂ H₂ fp (own++caps)) tg (nN X.K g)/\mO (aL X scope cl C s₂ H₂ fp (own++caps)) ifs (fZ X.K ta)/\PE (aL X scope cl C s₂ H₂ fp (own++caps)) e (az X.K fa))
  (hix:ix.map (fun i=>X.N[i]?)=caps.map some:=by rfl)
  (hs:∀x,foldedSetIterable iter X.env x=pure x:=by intro _;rfl):PE X (.ListComp e [⟨tg,iter,ifs,0⟩] scope pos) (az X.K (bH ix own.length fi g ta fa)):=by
 refine PE.imp (tW (ix:=ix) hc n (by simpa using congrArg List.length hix) (fun j i y h1 h2=>?_) hi hb hs) (xr rfl);have:=congrArg (fun l=>l[j]?) hix
 simp only [za0,h1,h2,za7] at this
 exact Option.some.inj this
theorem kS (i:Nat){py spos:Pos}{ifs:Tj}{scope:Scope}(ix:List Nat)(own caps:Tl)(hc:X.calm=true)(n:ay X.env.scope scope own caps)(hN:X.N.Nodup)(hi:PI X tg iter (vc X.K fi))
  (hb:∀cl C s₂ H₂ fp,PG (aL X scope cl C s₂ H₂ fp (own++caps)) tg (nN X.K g)/\mO (aL X scope cl C s₂ H₂ fp (own++caps)) ifs (fZ X.K ta)/\PE (aL X scope cl C s₂ H₂ fp (own++caps)) e (az X.K fa))
  (hsw:swapsWith (.ListComp e [⟨tg,iter,ifs,0⟩] scope pos) (some (.Name x py)) spos.line X.env=pure true:=by rfl)
  (hy:X.N[i]?=some x:=by rfl) (hyl:Dv X.env.scope x:=by first|exact Or.inl rfl|exact Or.inr rfl)
  (hix:ix.map (fun i=>X.N[i]?)=caps.map some:=by rfl)
  (hs:∀x,foldedSetIterable iter X.env x=pure x:=by intro _;rfl) (hf:X.fn x=true\/X.env.scope.names.lookup x=some .local:=by first|exact .inl rfl|exact .inr rfl) :
  PS X (.Assign [.Name x py] (.ListComp e [⟨tg,iter,ifs,0⟩] scope pos) spos) (g9 X.K (aI i (bH ix own.length fi g ta fa))):=by
 refine PS.imp (BA (i:=i) (ix:=ix) hc n hN hy hyl (by simpa using congrArg List.length hix) (fun j i y h1 h2=>?_) hi hb hsw hs hf) fun h=>?_
 ·have:=congrArg (fun l=>l[j]?) hix
  simp only [za0,h1,h2,za7] at this
  exact Option.some.inj this
 ·have h':=A5 h
  obtain ⟨O,U,m,d,U',hl,hs,e,k⟩:=h';exact xr rfl ⟨O,U,m,d,U',hl,hs,e,k⟩
end
end R
noncomputable def kM (x:R)(U:ac):Bool:=match x with|.v (.fl _)=>true|.p n=>(match U[n]? with|some (.lst _)=>true|some (.fz _)=>true|_=>false)|_=>false
def uF (g:R->List R->ac->Option (R×ac))(fa:FE)(ga:FA):FE:=fun O U=>(fa O U).bind fun a=>if kM a.1 a.2=true then (ga O a.2).bind fun b=>g a.1 b.1 b.2 else none
def Cm {m:Tf}{H:Hp}{U:ac}{x:R}{v:V}(s:aO K m H U)(r:au K m H x v)(e:kM x U=true):OX K "list" v H:=by
 have:∃xs,f6 x U=some xs:=by
  cases x with|v d=>cases d <;> simp_all [kM,f6]|s _ _=>simp [kM] at e|x _=>simp [kM] at e|f _ _=>simp [kM] at e|p n =>
   simp only [kM] at e;simp only [f6];split at e
   ·rename_i xs q;exact ⟨xs,by first|rfl|rw [q]⟩
   ·rename_i xs q;exact ⟨xs,by first|rfl|rw [q]⟩
   ·cases e
 obtain ⟨xs,e⟩:=this;obtain ⟨a,vs,rfl,q,_⟩:=gT s r e;exact .inl ⟨rfl,vs,q⟩
def LH {H:Hp}{Q:VK}{g r fa ga}(hg:Sr K g r)(h:az K (uF g fa ga) Y H Q):RK K "list" r (az K fa) (je K ga) Y H Q:=by
 obtain ⟨O,U,m,d,U',hl,hs,e,k⟩:=h;obtain ⟨⟨x,U1⟩,e1,e⟩:=zaa.mp e;split at e
 ·rename_i hx;obtain ⟨⟨ys,U2⟩,e2,e⟩:=zaa.mp e;refine ⟨O,U,m,x,U1,hl,hs,e1,fun v H1 m1 x1 s1 r1=>⟨Cm s1 r1 hx,?_⟩⟩;refine ⟨O,U1,m1,ys,U2,hl.ext x1,s1,e2,fun vs H2 m2 x2 s2 r2=>?_⟩;exact hg m2 H2 U2 x ys d U' v vs Q s2 (r1.ext x2) r2 e fun w H3 m3 x3 s3 r3=>k w H3 m3 ((x1.trans x2).trans x3) s3 r3
 ·cases e
structure b8 (K:zac)(mg:Td)(x:Str)(st:Stmt)(ps:Tl):Prop where
 ex:∃f fd,sA K x x st f fd/\ji K fd ps []/\mg x=some (.ref f)
structure QS (K:zac)(mg:Td)(x:Str)(st:Stmt)(ps:Tl)(c:Addr):Prop where
 ex:∃f fd,QR K x st f fd c/\ji K fd ps []/\mg x=some (.ref f)
def bO (P:Program)(w:World)(K:zac)(mg:Td)(base:Heap)(k:Nat)(x:Str)(ps:Tl)(mf:MF):Prop :=
 ∃f fd,dE P w K mg base nr k f fd ps (DD K ps.length mf)/\PySem.W.keepIn K (.ref f)=true/\ji K fd ps []/\mg x=some (.ref f)
def io (P:Program)(w:World)(K:zac)(mg:Td)(base:Heap)(k:Nat)(x:Str)(ps:Tl)(mf:MC):Prop :=
 ∃f fd,dE P w K mg base nr k f fd ps (AO K ps.length (cX K mf))/\PySem.W.keepIn K (.ref f)=true/\ji K fd ps []/\mg x=some (.ref f)
structure QL (K:zac)(C:Addr)(nm qual:Str)(st:Stmt)(ps:Tl):Prop where
 ex:∃f fd,sA K nm qual st f fd/\ji K fd ps []/\QM K C nm f
namespace R
def okP {P:Program}{w:World}{K:zac}{mg:Td}{base:Heap}{x:Str}{st:Stmt}{N ps:Tl}{k:Nat}{b:FS}(d:b8 K mg x st ps)(S:aM N ps (ah st))
  (hbody:∀(f:Addr) (cdv:Value) (A:Around) (outer:List Env) (s:Shared) (H:Hp) (E:XK),dU k (A.deeper (envOfC x (ah st) s.heap.objs.size f cdv))->pL (mE nr P w K mg base N x (ah st) f cdv A outer s H E).nox (cZ st) (g9 K b)) :
  bO P w K mg base (k+1) x ps (e7 N.length b):=by
 obtain ⟨f,fd,F,B,M⟩:=d.ex;exact ⟨f,fd,sA.okP F S (hbody f),F.kp,B,M⟩
theorem aN {X:Cx}{k:Nat}{x:Str}{ps:Tl}{mf:MF}{e:Expr}{es:Tj}{ga:FA}{p pos:Pos}{n:Nat}(F:bO X.prog X.w X.K X.mg X.base k x ps mf)(hr:dU k X.A)(ha:PA X (e::es) (je X.K ga))(hg:Gl X x:=by rfl)(hn:ps.length=n:=by rfl)
  (hdb:(x == ("__debug__" : Str))=false:=by decide) (he:qc e es X:=by exact aB rfl) (hpl:(backTo pos (starEach es X.env)).any (·.1)=false:=by exact bj rfl) :
  PE X (.Call (.Name x p) (e::es) [] pos) (az X.K (aR mf n ga)):=by
 subst hn;obtain ⟨f,fd,F,kp,B,M⟩:=F;exact Jf F hr hg M kp B ha hdb he hpl
theorem nP {X:Cx}{k:Nat}{x:Str}{ps:Tl}{mf:MF}{e:Expr}{es:Tj}{ga:FA}{p pos:Pos}{n:Nat}(F:bO X.prog X.w X.K X.mg X.base k x ps mf)(hr:dU k X.A)(ha:PA X (e::es) (je X.K ga))(hg:Gl X x:=by rfl)(hn:ps.length=n:=by rfl)
  (hdb:(x == ("__debug__" : Str))=false:=by decide) (he:qc e es X:=by exact aB rfl) (hpl:(backTo pos (starEach es X.env)).any (·.1)=false:=by exact bj rfl) :
  PE X (.Call (.Name x p) (e::es) [] pos) (az X.K (jO mf n ga)):=by
 subst hn;obtain ⟨f,fd,F,kp,B,M⟩:=F;exact PE.imp (rF (dE.borN (F.imp fun _ _ _ _ h=>LC h) ps.length) hr hg M kp B .nil BQ ha hdb he hpl) Bb
def okN {P:Program}{w:World}{K:zac}{mg:Td}{base:Heap}{x:Str}{st:Stmt}{N ps:Tl}{k:Nat}{b:FS}(d:b8 K mg x st ps)(S:aM N ps (ah st))
  (hbody:∀(f:Addr) (cdv:Value) (A:Around) (outer:List Env) (s:Shared) (H:Hp) (E:XK),dU k (A.deeper (envOfC x (ah st) s.heap.objs.size f cdv))->pL (mE nr P w K mg base N x (ah st) f cdv A outer s H E).nox (cZ st) (g9 K b)) :
  io P w K mg base (k+1) x ps (tw N.length b):=by
 obtain ⟨f,fd,F,B,M⟩:=d.ex;exact ⟨f,fd,sA.okN F S (hbody f),F.kp,B,M⟩
theorem df {X:Cx}{k:Nat}{x:Str}{ps:Tl}{mf:MC}{e:Expr}{es:Tj}{ga:FA}{p pos:Pos}{n:Nat}(F:io X.prog X.w X.K X.mg X.base k x ps mf)(hr:dU k X.A)(ha:PA X (e::es) (je X.K ga))(hg:Gl X x:=by rfl)(hn:ps.length=n:=by rfl)
  (hdb:(x == ("__debug__" : Str))=false:=by decide) (he:qc e es X:=by exact aB rfl) (hpl:(backTo pos (starEach es X.env)).any (·.1)=false:=by exact bj rfl) :
  PE X (.Call (.Name x p) (e::es) [] pos) (az X.K (cj mf n ga)):=by
 subst hn;obtain ⟨f,fd,F,kp,B,M⟩:=F;exact PE.imp (rF (dE.borN F ps.length) hr hg M kp B .nil BQ ha hdb he hpl) Bc
theorem Jg {X:Cx}{kx tg iter:Expr}{fa:FE}{fi:FI}{g:FG}{ta:FT}{p pos cp tp lp:Pos}{x1:Nat}{ifs:Tj}{scope:Scope}(ix:List Nat)(own caps:Tl)(hc:X.calm=true)(hg:Gl X "dict")(hm:X.mg "dict" = none)(n:ay X.env.scope scope own caps)(hi:PI X tg iter (vc X.K fi))
  (hb:∀cl C s₂ H₂ fp,PG (aL X scope cl C s₂ H₂ fp (own++caps)) tg (nN X.K g)/\mO (aL X scope cl C s₂ H₂ fp (own++caps)) ifs (fZ X.K ta)/\PE (aL X scope cl C s₂ H₂ fp (own++caps)) kx (az X.K fa))
  (hix:ix.map (fun i=>X.N[i]?)=caps.map some:=by rfl)
  (hs:∀x,foldedSetIterable iter X.env x=pure x:=by intro _;rfl) (hst:gY kx=false:=by rfl):PE X (.Call (.Name "dict" p) [.ListComp (.Tuple [kx,.List [] lp] x1 tp) [⟨tg,iter,ifs,0⟩] scope cp] [] pos) (az X.K (Hi ix own.length fi g ta fa)):=by
 refine PE.imp (gC (qG hc) hg hm (by decide) (hZ (tW (ix:=ix) hc n (by simpa using congrArg List.length hix) (fun j i y h1 h2=>?_) hi (fun cl C s₂ H₂ fp=>⟨(hb cl C s₂ H₂ fp).1,(hb cl C s₂ H₂ fp).2.1,BJ (hZ (hb cl C s₂ H₂ fp).2.2 (hZ (BM kW) kW) (aB hst))⟩) hs) kW)) (LK rfl);have:=congrArg (fun l=>l[j]?) hix
 simp only [za0,h1,h2,za7] at this
 exact Option.some.inj this
end R
def lS {K:zac}{T:String}(h1:PySem.W.kitOne K (.type "NoneType") (.type T)=some ("NoneType" == T || ("NoneType" == "bool" && T == "int")))
  (h2:PySem.W.kitOne K (.type "bool") (.type T)=some ("bool" == T || ("bool" == "bool" && T == "int"))) (h3:PySem.W.kitOne K (.type "int") (.type T)=some ("int" == T || ("int" == "bool" && T == "int")))
  (h4:PySem.W.kitOne K (.type "str") (.type T)=some ("str" == T || ("str" == "bool" && T == "int"))) (h5:PySem.W.kitOne K (.type "tuple") (.type T)=some ("tuple" == T || ("tuple" == "bool" && T == "int")))
  (h6:PySem.W.kitOne K (.type "list") (.type T)=some ("list" == T || ("list" == "bool" && T == "int"))) (h7:PySem.W.kitOne K (.type "dict") (.type T)=some ("dict" == T || ("dict" == "bool" && T == "int"))):pJ K T:=fun t ht=>by
 simp only [zal,zaE,or_false] at ht;rcases ht with rfl|rfl|rfl|rfl|rfl|rfl|rfl <;> assumption
theorem zk :pJ K "int":=lS rfl rfl rfl rfl rfl rfl rfl
theorem oO :pJ K "bool":=lS rfl rfl rfl rfl rfl rfl rfl
theorem dz :pJ K "tuple":=lS rfl rfl rfl rfl rfl rfl rfl
theorem v8 :pJ K "list":=lS rfl rfl rfl rfl rfl rfl rfl
def zL:bootBuiltins "int" = some (.type "int"):=by decide
def pC:bootBuiltins "bool" = some (.type "bool"):=by decide
def dD:bootBuiltins "tuple" = some (.type "tuple"):=by decide
def wR:bootBuiltins "list" = some (.type "list"):=by decide
def JK {H:Hp}{a:Addr}{ns:Th}{mf:MF}(hO:Dt H)(hS:jg K H a (ns.map V.int))(h:mf [.fl (ns.map .int)]=some (.bl true)):DD K 1 mf [.ref a] H (fun v _=>v=.bl true) fun _ _ _=>False:=by
 refine ⟨_,_,rfl,?_,h,fun v H' _ r=>by simpa only [ao] using r⟩;have rInts:∀{ns:Th},RelDs K H (ns.map .int) (ns.map V.int):=fun {ns}=>by
  induction ns with|nil=>simp only [zbc,RelDs]|cons n ns ih=>simp only [zaf,RelDs];exact ⟨_,_,rfl,by simp only [ao],ih⟩
 simp only [RelDs];refine ⟨_,_,rfl,?_,rfl⟩;simp only [ao];refine ⟨a,_,rfl,?_,rInts⟩;rcases hS with (hS|⟨o,hS⟩)|hS
 ·rcases hO a with z|⟨o,xs,z⟩ <;> rw [hS] at z <;> cases z
 ·exact .inl ⟨o,hS⟩
 ·exact .inr (.inr hS)
namespace R
end R
@[irreducible] def ZE (X:Cx)(e:Expr)(t:TE):Prop:=L2.PE X e t
@[irreducible] def ZT (X:Cx)(e:Expr)(t:TT):Prop:=L2.PT X e t
@[irreducible] def ZW (X:Cx)(e:Expr)(t:TT):Prop:=L2.PW X e t
@[irreducible] def ZA (X:Cx)(e:Tj)(t:TA):Prop:=L2.PA X e t
@[irreducible] def ZS (X:Cx)(e:Stmt)(t:TS):Prop:=L2.PS X e t
@[irreducible] def Do (X:Cx)(e:Tk)(t:TS):Prop:=L2.pL X e t
@[irreducible] def ZG (X:Cx)(e:Expr)(t:TG):Prop:=L2.PG X e t
@[irreducible] def OB (X:Cx)(e:Tj)(t:DI):Prop:=L2.DJ X e t
@[irreducible] def ZO (X:Cx)(e:Option Expr)(t:TO):Prop:=L2.PO X e t
@[irreducible] def Dp (X:Cx)(e:Tj)(t:TT):Prop:=HW.mO X e t
@[irreducible] def ZI (X:Cx)(tg iter:Expr)(t:TI):Prop:=L2.PI X tg iter t
section
variable {X:Cx}{a b e o:Expr}{es:Tj}{fa fb:FE}{ga:FA}{pos p p2 apos:Pos}{x:Str}
theorem ad (i:Nat)(hN:X.N[i]?=some x:=by rfl)(hv:Nq X.env.scope x:=by first|exact Or.inl rfl|exact Or.inr (Or.inl rfl)|exact Or.inr (Or.inr rfl))(hd:(x == ("__debug__" : Str))=false:=by decide)
  (hcd:(x == ("__classdict__" : Str))=false:=by decide):ZE X (.Name x pos) (az X.K (ae i)):=by
 exists PE.imp (Js hN hv hd hcd) Ip
def ak {i j}:ZE X (.Constant (.int i) j pos) (az X.K (fK (.int i))):=by exists R.ak
def jx {i j}:ZE X (.Constant (.bool i) j pos) (az X.K (fK (.bl i))):=by exists PE.imp Ml (lK fun _ _=>by simp only [au,ao])
def G2 {j}:ZE X (.Constant .none j pos) (az X.K (fK .non)):=by exists PE.imp BL (lK fun _ _=>by simp only [au,ao])
def dq (ha:ZE X a (az X.K fa))(hb:ZE X b (az X.K fb)):ZE X (.BinOp a .Add b pos) (az X.K (aA gA fa fb)):=by exists PE.imp (qk ((JE.or (vU.or (EX.or JD))).or EY) ha hb) (kJ J8)
def mV (ha:ZE X a (az X.K fa))(hb:ZE X b (az X.K fb)):ZE X (.BinOp a .Sub b pos) (az X.K (aA mq fa fb)):=by exists PE.imp (qk Jy ha hb) (kJ MA)
def mW (ha:ZE X a (az X.K fa))(hb:ZE X b (az X.K fb)):ZE X (.BinOp a .Mult b pos) (az X.K (aA mw fa fb)):=by exists PE.imp (qk JB ha hb) (kJ MH)
def dO (ha:ZE X a (az X.K fa))(hb:ZE X b (az X.K fb)):ZE X (.BinOp a .FloorDiv b pos) (az X.K (aA dh fa fb)):=by exists PE.imp (qk EW ha hb) (kJ MQ)
def cr (ha:ZE X a (az X.K fa))(hb:ZE X b (az X.K fb)):ZE X (.BinOp a .Mod b pos) (az X.K (aA cC fa fb)):=by exists PE.imp (qk JC ha hb) (kJ MI)
def Bp (ha:ZE X a (az X.K fa))(hb:ZE X b (az X.K fb)):ZE X (.BinOp a .Pow b pos) (az X.K (aA nB fa fb)):=by exists PE.imp (qk Jz ha hb) (kJ ME)
def tJ (ha:ZE X a (az X.K fa)):ZE X (.UnaryOp .USub a pos) (az X.K (nJ t6 fa)):=by exists R.tJ ha
def G0 (ha:ZE X a (az X.K fa)):ZE X (.UnaryOp .Not a pos) (az X.K (CF fa)):=by exists PE.imp (Ju ha) IA
def O7 (ha:ZE X a (az X.K fa))(hb:ZE X b (az X.K fb)):ZE X (.Compare a [.Lt] [b] pos) (az X.K (aA KK fa fb)):=by exists PE.imp (xE G4 ha hb (jz _)) (kJ MK)
def Bu (hu:X.A.units+64 < cLine)(ha:ZE X a (az X.K fa))(hb:ZE X b (az X.K fb)):ZE X (.Compare a [.Eq] [b] pos) (az X.K (aA (gg false) fa fb)):=by exists PE.imp (xE (BT hu) ha hb (jz _)) (kJ J6)
def xx {rest:Tj}(ha:ZE X a (az X.K fa))(hb:ZE X (.BoolOp .And (b::rest) pos) (az X.K fb)):ZE X (.BoolOp .And (a::b::rest) pos) (az X.K (rV fa fb)):=by exists PE.imp (Jx ha hb) IU
def Bq {op}(ha:ZE X a (az X.K fa)):ZE X (.BoolOp op [a] pos) (az X.K fa):=by exists Jt ha
def aj:ZA X [] (je X.K ai):=by exists PA.imp kW IB
def ag (ha:ZE X e (az X.K fa))(hr:ZA X es (je X.K ga))(hs:qc e es X:=by exact aB rfl):ZA X (e::es) (je X.K (af fa ga)):=by exists PA.imp (hZ ha hr hs) Eg
def bM {x1}(h:ZA X es (je X.K ga)):ZE X (.Tuple es x1 pos) (az X.K (bT ga)):=by exists PE.imp (BJ h) Ir
def gc (h:ZA X es (je X.K ga)):ZE X (.List es pos) (az X.K (fq ga)):=by exists PE.imp (BM h) IC
def Je:ZE X (.Dict [] [] pos) (az X.K yf):=by exists PE.imp tV Ef
def bN (ha:ZE X a (az X.K fa)):ZE X a (az X.K (cD fa)):=by exists PE.imp (vT ha) GT
def bS (ha:ZE X a (az X.K fa))(hb:ZE X b (az X.K fb))(hs:yv b:=by intro _ _;rfl):ZE X (.Subscript a b pos) (az X.K (aA c7 fa fb)):=by exists PE.imp (Mj JT ha hb hs) (kJ Pk)
def O6:ZO X none (Ei X.K t4):=by exists PO.imp EB A7
def Br (ha:ZE X a (az X.K fa)):ZO X (some a) (Ei X.K (kK fa)):=by exists R.Br ha
def L5 {lo hi:Option Expr}{fl fh:FO}(ha:ZE X a (az X.K fa))(hl:ZO X lo (Ei X.K fl))(hh:ZO X hi (Ei X.K fh)):ZE X (.Subscript a (.Slice lo hi none p2) pos) (az X.K (Kd fa fl fh)):=by exists PE.imp (BK Ib ha hl hh) LG
def gL (hg:Gl X "len")(hm:X.mg "len" = none)(ha:ZA X (e::es) (je X.K ga))(he:qc e es X:=by exact aB rfl)(hpl:(backTo pos (starEach es X.env)).any (·.1)=false:=by exact bj rfl) :
  ZE X (.Call (.Name "len" p) (e::es) [] pos) (az X.K (dI eU ga)):=by
 exists PE.imp (eC sm hg hm PySem.boot_len ha (he:=he) (hpl:=hpl)) (jv ML)
def Bv (hc:X.calm=true)(hg:Gl X "dict")(hm:X.mg "dict" = none)(ha:ZA X (e::es) (je X.K ga))(he:qc e es X:=by exact aB rfl)(hpl:(backTo pos (starEach es X.env)).any (·.1)=false:=by exact bj rfl) :
  ZE X (.Call (.Name "dict" p) (e::es) [] pos) (az X.K (dI nc ga)):=by
 exists PE.imp (gC (qG hc) hg hm (by decide) ha (he:=he) (hpl:=hpl)) (jv J7)
def L6 (hc:X.calm=true)(hg:Gl X "min")(hm:X.mg "min" = none)(ha:ZA X (e::es) (je X.K ga))(he:qc e es X:=by exact aB rfl)(hpl:(backTo pos (starEach es X.env)).any (·.1)=false:=by exact bj rfl) :
  ZE X (.Call (.Name "min" p) (e::es) [] pos) (az X.K (dI t9 ga)):=by
 exists PE.imp (eC (zI hc) hg hm (by decide) ha (he:=he) (hpl:=hpl)) (jv MJ)
theorem j5 {d:D}(h:jX X.K X.mg x d)(hg:Gl X x:=by rfl)(hd:(x == ("__debug__" : Str))=false:=by decide):ZE X (.Name x pos) (az X.K (fK d)):=by exists R.j5 h hg hd
def vN {f:Expr}{fb fc:FE}{cpos:Pos}(hu:X.A.units+64 < cLine)(ho:ZE X o (az X.K fa))(he:ZE X e (az X.K fb))(hf:ZE X f (az X.K fc))(m:M2 X o "get" apos e f cpos:=by exact ⟨rfl,rfl,rfl,rfl⟩) :
  ZE X (.Call (.Attribute o "get" apos) [e,f] [] cpos) (az X.K (uG fa fb fc)):=by
 exists PE.imp (BO (by omega) ho he hf m) II
def j4 (hg:Gl X "tuple")(hm:X.mg "tuple" = none)(ha:ZA X (e::es) (je X.K ga))(he:qc e es X:=by exact aB rfl)(hpl:(backTo pos (starEach es X.env)).any (·.1)=false:=by exact bj rfl) :
  ZE X (.Call (.Name "tuple" p) (e::es) [] pos) (az X.K (dI lD ga)):=by
 exists PE.imp (gC kN hg hm (by decide) ha (he:=he) (hpl:=hpl)) (jv My)
def Bs (hg:Gl X "list")(hm:X.mg "list" = none)(ha:ZA X (e::es) (je X.K ga))(he:qc e es X:=by exact aB rfl)(hpl:(backTo pos (starEach es X.env)).any (·.1)=false:=by exact bj rfl) :
  ZE X (.Call (.Name "list" p) (e::es) [] pos) (az X.K (dI mZ ga)):=by
 exists PE.imp (gC sk hg hm (by decide) ha (he:=he) (hpl:=hpl)) (jv J5)
def Mb (hc:X.calm=true)(hg:Gl X "all")(hm:X.mg "all" = none)(ha:ZA X (e::es) (je X.K ga))(he:qc e es X:=by exact aB rfl)(hpl:(backTo pos (starEach es X.env)).any (·.1)=false:=by exact bj rfl) :
  ZE X (.Call (.Name "all" p) (e::es) [] pos) (az X.K (dI (Dl false) ga)):=by
 exists PE.imp (eC (zJ hc) hg hm PyProof.Rows.boot_all ha (he:=he) (hpl:=hpl)) (jv MS)
def L4 (hc:X.calm=true)(hg:Gl X "sum")(hm:X.mg "sum" = none)(ha:ZA X (e::es) (je X.K ga))(he:qc e es X:=by exact aB rfl)(hpl:(backTo pos (starEach es X.env)).any (·.1)=false:=by exact bj rfl) :
  ZE X (.Call (.Name "sum" p) (e::es) [] pos) (az X.K (dI yK ga)):=by
 exists PE.imp (eC (zH hc) hg hm (by decide) ha (he:=he) (hpl:=hpl)) (jv Mz)
theorem jw {T:String}{y:Str}(hT:pJ X.K T)(hg:Gl X "isinstance")(hm:X.mg "isinstance" = none)(hgT:Gl X y)(hmT:X.mg y=none)(hvT:bootBuiltins y=some (.type T))(ha:ZE X e (az X.K fa))(hn:y≠"__name__":=by decide)(hdb:(y == ("__debug__" : Str))=false:=by decide)
  (he:starEach (e::[.Name y p2]) X.env=(false,eval e X.env)::starEach [.Name y p2] X.env:=by exact aB rfl) (hpl:(backTo pos (starEach [.Name y p2] X.env)).any (·.1)=false:=by rfl) :
  ZE X (.Call (.Name "isinstance" p) [e,.Name y p2] [] pos) (az X.K (nJ (jG T) fa)):=by
 exists PE.imp (eC (Dd hT) hg hm (by decide) (hZ ha (hZ (EQ (v:=.ty T) hgT hmT hvT rfl hn hdb) kW rfl) he) (he:=he) (hpl:=hpl)) ID
def eV (ha:ZE X a (az X.K fa))(he:∀whole,isTrue a X.env whole=(do let v ←whole;standAt a.pos;holding [v] (truthy v)):=by intro _;rfl):ZT X a (fZ X.K (fm fa)):=by exists PT.imp (Bx ha he) Iu
def OZ (ha:ZE X a (az X.K fa))(hb:ZE X b (az X.K fb)):ZT X (.Compare a [.Lt] [b] pos) (fZ X.K (fB (aA KK fa fb))):=by exists R.p5 G4 MK ha hb (jz _)
def HU (ha:ZE X a (az X.K fa))(hb:ZE X b (az X.K fb)):ZT X (.Compare a [.LtE] [b] pos) (fZ X.K (fB (aA KM fa fb))):=by exists R.p5 Mm Pj ha hb (jz _)
def DQ (ha:ZE X a (az X.K fa))(hb:ZE X b (az X.K fb)):ZT X (.Compare a [.Gt] [b] pos) (fZ X.K (fB (aA Hd fa fb))):=by exists R.p5 Mn Pn ha hb (jz _)
def AH (hu:X.A.units+64 < cLine)(ha:ZE X a (az X.K fa))(hb:ZE X b (az X.K fb)):ZT X (.Compare a [.Eq] [b] pos) (fZ X.K (fB (aA (gg false) fa fb))):=by exists R.p5 (BT hu) J6 ha hb (jz _)
def iL (hu:X.A.units+64 < cLine)(ha:ZE X a (az X.K fa))(hb:ZE X b (az X.K fb)):ZT X (.Compare a [.NotEq] [b] pos) (fZ X.K (fB (aA (gg true) fa fb))):=by exists R.p5 (JA hu) J6 ha hb (jz _)
def HR {j}(ha:ZE X a (az X.K fa)):ZT X (.Compare a [.IsNot] [.Constant .none j p] pos) (fZ X.K (fB (nJ (G8 true .non) fa))):=by exists R.O0 (.inl ⟨rfl,rfl⟩) tY ha BL (jz _)
variable {ta tb:FT}{rest:Tj}
def gG (ha:ZT X a (fZ X.K ta)):ZT X (.UnaryOp .Not a pos) (fZ X.K (d6 ta)):=by exists PT.imp (Jk ha) D6
def F7 (ha:ZT X a (fZ X.K ta))(hb:ZW X (.BoolOp .And (b::rest) pos) (fZ X.K tb)):ZW X (.BoolOp .And (a::b::rest) pos) (fZ X.K (sT ta tb)):=by exists PW.imp (Ji ha hb) D7
def kw (ha:ZT X a (fZ X.K ta))(hb:ZW X (.BoolOp .Or (b::rest) pos) (fZ X.K tb)):ZW X (.BoolOp .Or (a::b::rest) pos) (fZ X.K (hJ ta tb)):=by exists PW.imp (Mc ha hb) Iv
def Aa (ha:ZT X a (fZ X.K ta)):ZW X (.BoolOp .And [a] pos) (fZ X.K ta):=by exists Er ha
def jl (ha:ZT X a (fZ X.K ta)):ZW X (.BoolOp .Or [a] pos) (fZ X.K ta):=by exists Jh ha
def yJ (h:ZW X a (fZ X.K ta)):ZT X a (fZ X.K ta):=by exists h.pt
def Jd {c:Expr}(hc:ZT X c (fZ X.K ta))(ha:ZE X a (az X.K fa))(hb:ZE X b (az X.K fb)):ZE X (.IfExp c a b pos) (az X.K (Ke ta fa fb)):=by exists PE.imp (BN hc ha hb) LJ
variable {st:Stmt}{sts aa bb:Tk}{sa sb:FS}{c tg iter:Expr}
def cI:Do X [] (g9 X.K bG):=by exists pL.imp Eu Ea
def am (h1:ZS X st (g9 X.K sa))(h2:Do X sts (g9 X.K sb)):Do X (st::sts) (g9 X.K (ar sa sb)):=by exists pL.imp (By h1 h2) Ix
def aE (h1:ZS X st (g9 X.K sa)):Do X [st] (g9 X.K sa):=by exists Et h1
theorem fY (he:ZE X e (az X.K fa))(hs:swapsWith e none pos.line X.env=pure false:=by rfl):ZS X (.Expr e pos) (g9 X.K (fS fa)):=by exists PS.imp (Ev he hs) Ee
def bm (he:ZE X e (az X.K fa)):ZS X (.Return (some e) pos) (g9 X.K (bP fa)):=by exists PS.imp (Jm he) Iy
def eZ (hc:ZT X c (fZ X.K ta))(ha:Do X aa (g9 X.K sa))(hb:Do X bb (g9 X.K sb)):ZS X (.If c aa bb pos) (g9 X.K (ju ta sa sb)):=by exists PS.imp (Me hc ha hb) IE
theorem AZ (i:Nat){pos':Pos}(hN:X.N.Nodup)(he:ZE X e (az X.K fa))(hi:X.N[i]?=some x:=by rfl)(hx:Dv X.env.scope x:=by first|exact Or.inl rfl|exact Or.inr rfl)(hf:X.fn x=true\/X.env.scope.names.lookup x=some .local:=by first|exact .inl rfl|exact .inr rfl) :
  ZS X (.AugAssign (.Name x pos') .Add e pos) (g9 X.K (yQ i (fun a b=>a+b) fa)):=by
 exists PS.imp (Jn hN hi hx he J1 hf) IS
theorem aK (i:Nat){pos':Pos}(hN:X.N.Nodup)(he:ZE X e (az X.K fa))(hi:X.N[i]?=some x:=by rfl)(hx:Dv X.env.scope x:=by first|exact Or.inl rfl|exact Or.inr rfl)(hs:swapsWith e (some (.Name x pos')) pos.line X.env=pure false:=by rfl)(hf:X.fn x=true\/X.env.scope.names.lookup x=some .local:=by first|exact .inl rfl|exact .inr rfl) :
  ZS X (.Assign [.Name x pos'] e pos) (g9 X.K (aI i fa)):=by
 exists PS.imp (Jl hN hi hx he hs hf) A5
variable {g:FG}{gs:Hz}{fi:FI}
theorem bu (i:Nat)(hN:X.N.Nodup)(hi:X.N[i]?=some x:=by rfl)(hx:Dv X.env.scope x:=by first|exact Or.inl rfl|exact Or.inr rfl)(hf:X.fn x=true\/X.env.scope.names.lookup x=some .local:=by first|exact .inl rfl|exact .inr rfl):ZG X (.Name x pos) (nN X.K (aT i)):=by exists PG.imp (EJ hN hi hx hf) IL
def dA:OB X [] (tH X.K bz):=by exists DJ.imp EI A8
def aP (h1:ZG X e (nN X.K g))(h2:OB X es (tH X.K gs))(hs:(assignEach (e::es) X.env).map (·.2)=assign e X.env::(assignEach es X.env).map (·.2):=by exact u5 rfl):OB X (e::es) (tH X.K (aq g gs)):=by exists DJ.imp (BH h1 h2 hs) yT
theorem jL {k n:Nat}(hc:X.calm=true)(h:OB X es (tH X.K gs))(hn:(assignEach es X.env).length=n:=by rfl)(hst:(assignEach es X.env).findIdx? (·.1)=none:=by rfl):ZG X (.Tuple es k pos) (nN X.K (iF n gs)):=by exists PG.imp (Jq hc h hn hst) IJ
def MD (hu : X.A.units + 64 < cLine) (ha : ZE X a (az X.K fa)) (hb : ZE X b (az X.K fb)) (hq : ∀ v, assign (.Subscript a b pos) X.env v = (do
      let ov ← holding [v] (eval a X.env)
      let iv ← holding [v, ov] (eval b X.env)
      standAt pos
      holding [v, ov, iv] (setItem ov iv v)
      release [v, ov, iv] []) := by intro _; rfl) : ZG X (.Subscript a b pos) (nN X.K (pW fa fb)) := by
  exists PG.imp (BI ha hb (sx.or AS (AT (by omega))) hq) Ec
def ca (ha:ZE X a (az X.K fa)):ZI X tg a (vc X.K (ba fa)):=by exists PI.imp (EF (vT ha)) Eb
def Pi {k:Nat}{pt:Pos}(hg:Gl X "enumerate")(hm:X.mg "enumerate" = none)(ha:ZE X a (az X.K fa))(hs:starEach [a] X.env=[(false,eval a X.env)]:=by exact aB rfl):ZI X (.Tuple es k pt) (.Call (.Name "enumerate" p) [a] [] pos) (Ej X.K (Fi fa)):=by exists PI.imp (EG hg hm (ag ha aj hs) hs) IG
def Cq (hg:Gl X "range")(hm:X.mg "range" = none)(ha:ZE X a (az X.K fa))(hs:starEach [a] X.env=[(false,eval a X.env)]:=by exact aB rfl):ZI X tg (.Call (.Name "range" p) [a] [] pos) (vc X.K (uB fa)):=by exists PI.imp (zb hg hm (ag ha aj hs) hs) IF
def Ie (hc:X.calm=true)(hi:ZI X tg iter (Ej X.K fi))(hg:ZG X tg (nN X.K g))(hb:Do X aa (g9 X.K sa))(hp:PassesOwn (model X.prog X.w) X.A X.env X.xe)(hs:∀x,foldedSetIterable iter X.env x=pure x:=by intro _;rfl):ZS X (.For tg iter aa [] pos) (g9 X.K (dF fi g sa)):=by exists PS.imp (Bz hp hc hi hg hb hs) Ed
def d7 (hc:X.calm=true)(hi:ZI X tg iter (vc X.K fi))(hg:ZG X tg (nN X.K g))(hb:Do X aa (g9 X.K sa))(hp:PassesOwn (model X.prog X.w) X.A X.env X.xe)(hs:∀x,foldedSetIterable iter X.env x=pure x:=by intro _;rfl):ZS X (.For tg iter aa [] pos) (g9 X.K (dF fi g sa)):=by exists PS.imp (Bz hp hc hi hg hb hs) IN
theorem ow (he:ZE X e (az X.K fa))(hg:ZG X tg (nN X.K g))(hs:swapsWithSole [tg] e pos.line X.env=pure false:=by rfl)(hw:swappedStores [tg] e X.env=pure none:=by rfl)(h1:(assignEach [tg] X.env).map (·.2)=[assign tg X.env]:=by rfl):ZS X (.Assign [tg] e pos) (g9 X.K (pT fa g)):=by exists PS.imp (Jo he hg hs hw h1) IT
def gf:Dp X [] (fZ X.K bY):=by exists R.mO.imp BF Io
def ye (h:ZT X c (fZ X.K ta)):Dp X [c] (fZ X.K ta):=by exists BE h
theorem dJ {ifs:Tj}{scope:Scope}(ix:List Nat)(own caps:Tl)(hc:X.calm=true)(n:ay X.env.scope scope own caps)(hi:ZI X tg iter (vc X.K fi))
  (hb:∀cl C s₂ H₂ fp,ZG (aL X scope cl C s₂ H₂ fp (own++caps)) tg (nN X.K g)/\Dp (aL X scope cl C s₂ H₂ fp (own++caps)) ifs (fZ X.K ta)/\ZE (aL X scope cl C s₂ H₂ fp (own++caps)) e (az X.K fa))
  (hix:ix.map (fun i=>X.N[i]?)=caps.map some:=by rfl)
  (hs:∀x,foldedSetIterable iter X.env x=pure x:=by intro _;rfl):ZE X (.ListComp e [⟨tg,iter,ifs,0⟩] scope pos) (az X.K (bH ix own.length fi g ta fa)):=by
 exists R.dJ ix own caps hc n hi hb hix hs
theorem kS (i:Nat){py spos:Pos}{ifs:Tj}{scope:Scope}(ix:List Nat)(own caps:Tl)(hc:X.calm=true)(n:ay X.env.scope scope own caps)(hN:X.N.Nodup)(hi:ZI X tg iter (vc X.K fi))
  (hb:∀cl C s₂ H₂ fp,ZG (aL X scope cl C s₂ H₂ fp (own++caps)) tg (nN X.K g)/\Dp (aL X scope cl C s₂ H₂ fp (own++caps)) ifs (fZ X.K ta)/\ZE (aL X scope cl C s₂ H₂ fp (own++caps)) e (az X.K fa))
  (hsw:swapsWith (.ListComp e [⟨tg,iter,ifs,0⟩] scope pos) (some (.Name x py)) spos.line X.env=pure true:=by rfl)
  (hy:X.N[i]?=some x:=by rfl) (hyl:Dv X.env.scope x:=by first|exact Or.inl rfl|exact Or.inr rfl)
  (hix:ix.map (fun i=>X.N[i]?)=caps.map some:=by rfl)
  (hs:∀x,foldedSetIterable iter X.env x=pure x:=by intro _;rfl) (hf:X.fn x=true\/X.env.scope.names.lookup x=some .local:=by first|exact .inl rfl|exact .inr rfl) :
  ZS X (.Assign [.Name x py] (.ListComp e [⟨tg,iter,ifs,0⟩] scope pos) spos) (g9 X.K (aI i (bH ix own.length fi g ta fa))):=by
 exists R.kS i ix own caps hc n hN hi hb hsw hy hyl hix hs hf
end
def okP {P:Program}{w:World}{K:zac}{mg:Td}{base:Heap}{x:Str}{st:Stmt}{N ps:Tl}{k:Nat}{b:FS}(d:b8 K mg x st ps)(S:aM N ps (ah st))
  (hbody:∀(f:Addr) (cdv:Value) (A:Around) (outer:List Env) (s:Shared) (H:Hp) (E:XK),dU k (A.deeper (envOfC x (ah st) s.heap.objs.size f cdv))->Do (mE nr P w K mg base N x (ah st) f cdv A outer s H E).nox (cZ st) (g9 K b)) :
  bO P w K mg base (k+1) x ps (e7 N.length b):=by
 exists R.okP d S hbody
theorem aN {X:Cx}{k:Nat}{x:Str}{ps:Tl}{mf:MF}{e:Expr}{es:Tj}{ga:FA}{p pos:Pos}{n:Nat}(F:bO X.prog X.w X.K X.mg X.base k x ps mf)(hr:dU k X.A)(ha:ZA X (e::es) (je X.K ga))(hg:Gl X x:=by rfl)(hn:ps.length=n:=by rfl)
  (hdb:(x == ("__debug__" : Str))=false:=by decide) (he:qc e es X:=by exact aB rfl) (hpl:(backTo pos (starEach es X.env)).any (·.1)=false:=by exact bj rfl) :
  ZE X (.Call (.Name x p) (e::es) [] pos) (az X.K (aR mf n ga)):=by
 exists R.aN F hr ha hg hn hdb he hpl
theorem nP {X:Cx}{k:Nat}{x:Str}{ps:Tl}{mf:MF}{e:Expr}{es:Tj}{ga:FA}{p pos:Pos}{n:Nat}(F:bO X.prog X.w X.K X.mg X.base k x ps mf)(hr:dU k X.A)(ha:ZA X (e::es) (je X.K ga))(hg:Gl X x:=by rfl)(hn:ps.length=n:=by rfl)
  (hdb:(x == ("__debug__" : Str))=false:=by decide) (he:qc e es X:=by exact aB rfl) (hpl:(backTo pos (starEach es X.env)).any (·.1)=false:=by exact bj rfl) :
  ZE X (.Call (.Name x p) (e::es) [] pos) (az X.K (jO mf n ga)):=by
 exists R.nP F hr ha hg hn hdb he hpl
def okN {P:Program}{w:World}{K:zac}{mg:Td}{base:Heap}{x:Str}{st:Stmt}{N ps:Tl}{k:Nat}{b:FS}(d:b8 K mg x st ps)(S:aM N ps (ah st))
  (hbody:∀(f:Addr) (cdv:Value) (A:Around) (outer:List Env) (s:Shared) (H:Hp) (E:XK),dU k (A.deeper (envOfC x (ah st) s.heap.objs.size f cdv))->Do (mE nr P w K mg base N x (ah st) f cdv A outer s H E).nox (cZ st) (g9 K b)) :
  io P w K mg base (k+1) x ps (tw N.length b):=by
 exists R.okN d S hbody
theorem df {X:Cx}{k:Nat}{x:Str}{ps:Tl}{mf:MC}{e:Expr}{es:Tj}{ga:FA}{p pos:Pos}{n:Nat}(F:io X.prog X.w X.K X.mg X.base k x ps mf)(hr:dU k X.A)(ha:ZA X (e::es) (je X.K ga))(hg:Gl X x:=by rfl)(hn:ps.length=n:=by rfl)
  (hdb:(x == ("__debug__" : Str))=false:=by decide) (he:qc e es X:=by exact aB rfl) (hpl:(backTo pos (starEach es X.env)).any (·.1)=false:=by exact bj rfl) :
  ZE X (.Call (.Name x p) (e::es) [] pos) (az X.K (cj mf n ga)):=by
 exists R.df F hr ha hg hn hdb he hpl
def vM {X:Cx}{o e f:Expr}{fa fb fc:FE}{apos cpos:Pos}(ho:ZE X o (az X.K fa))(he:ZE X e (az X.K fb))(hf:ZE X f (az X.K fc))(m:M2 X o "setdefault" apos e f cpos:=by exact ⟨rfl,rfl,rfl,rfl⟩) :
  ZE X (.Call (.Attribute o "setdefault" apos) [e,f] [] cpos) (az X.K (o8 fa fb fc)):=by
 exists PE.imp (EM ho he hf m) D9
def L7 {X:Cx}{a:Expr}{fa:FE}(ha:ZE X a (az X.K fa)):ZE X a (az X.K (Fj fa)):=by exists PE.imp (Jw ha) IM
def mX {X:Cx}{a b:Expr}{fa fb:FE}(hu:X.A.units+64 < cLine)(ha:ZE X a (az X.K fa))(hb:ZE X b (az X.K fb))(hs:Du b:=by intro _ _;rfl):ZE X (.Subscript a b pos) (az X.K (l0 fa fb)):=by exists PE.imp (rC (by omega) ha hb hs) IR
def qg {X:Cx}{es:Tj}{ga:FA}{p pos:Pos}(hc:X.calm=true)(hg:Gl X "sorted")(hm:X.mg "sorted" = none)(ha:ZA X (e::es) (je X.K ga))(he:qc e es X:=by exact aB rfl)(hpl:(backTo pos (starEach es X.env)).any (·.1)=false:=by exact bj rfl) :
  ZE X (.Call (.Name "sorted" p) (e::es) [] pos) (az X.K (dI (lH (!HS.bt X.w)) ga)):=by
 exists PE.imp (eC (sj hc) hg hm (by decide) ha (he:=he) (hpl:=hpl)) (jv J4)
theorem Jg {X:Cx}{kx tg iter:Expr}{fa:FE}{fi:FI}{g:FG}{ta:FT}{p pos cp tp lp:Pos}{x1:Nat}{ifs:Tj}{scope:Scope}(ix:List Nat)(own caps:Tl)(hc:X.calm=true)(hg:Gl X "dict")(hm:X.mg "dict" = none)(n:ay X.env.scope scope own caps)(hi:ZI X tg iter (vc X.K fi))
  (hb:∀cl C s₂ H₂ fp,ZG (aL X scope cl C s₂ H₂ fp (own++caps)) tg (nN X.K g)/\Dp (aL X scope cl C s₂ H₂ fp (own++caps)) ifs (fZ X.K ta)/\ZE (aL X scope cl C s₂ H₂ fp (own++caps)) kx (az X.K fa))
  (hix:ix.map (fun i=>X.N[i]?)=caps.map some:=by rfl)
  (hs:∀x,foldedSetIterable iter X.env x=pure x:=by intro _;rfl) (hst:gY kx=false:=by rfl):ZE X (.Call (.Name "dict" p) [.ListComp (.Tuple [kx,.List [] lp] x1 tp) [⟨tg,iter,ifs,0⟩] scope cp] [] pos) (az X.K (Hi ix own.length fi g ta fa)):=by
 exists R.Jg ix own caps hc hg hm n hi hb hix hs hst
def Bt {X:Cx}{es:Tj}{ga:FA}{p pos:Pos}(hg:Gl X "tuple")(hm:X.mg "tuple" = none)(ha:ZA X (e::es) (je X.K ga))(he:qc e es X:=by exact aB rfl)(hpl:(backTo pos (starEach es X.env)).any (·.1)=false:=by exact bj rfl):ZE X (.Call (.Name "tuple" p) (e::es) [] pos) (az X.K (dI v9 ga)):=by exists PE.imp (gC kN hg hm (by decide) ha (he:=he) (hpl:=hpl)) (jv MM)
def GZ {X:Cx}{a:Expr}{fa:FE}(ha:ZE X a (az X.K fa)):ZE X a (az X.K (uC fa)):=by exists PE.imp ha Iq
def L9 {X:Cx}:ZE X (.Dict [] [] pos) (az X.K Fm):=by exists PE.imp tU IP
def MB {X : Cx} {a b : Expr} {fa fb : FE} {pos : Pos} (hu : X.A.units + 64 < cLine) (ha : ZE X a (az X.K fa)) (hb : ZE X b (az X.K fb)) (hq : ∀ v, assign (.Subscript a b pos) X.env v = (do
      let ov ← holding [v] (eval a X.env)
      let iv ← holding [v, ov] (eval b X.env)
      standAt pos
      holding [v, ov, iv] (setItem ov iv v)
      release [v, ov, iv] []) := by intro _; rfl) : ZG X (.Subscript a b pos) (nN X.K (uq fa fb)) := by
  exists PG.imp (BI ha hb (yM (by omega)) hq) A9
def L3 {X:Cx}{a b:Expr}{fa fb:FE}(hu:X.A.units+64 < cLine)(ha:ZE X a (az X.K fa))(hb:ZE X b (az X.K fb))(hs:Du b:=by intro _ _;rfl):ZE X (.Subscript a b pos) (az X.K (CD fa fb)):=by exists PE.imp (rC (by omega) ha hb hs) Iw
def yW {X:Cx}{es:Tj}{ga:FA}{p pos:Pos}(hc:X.calm=true)(hg:Gl X "sorted")(hm:X.mg "sorted" = none)(ha:ZA X (e::es) (je X.K ga))(he:qc e es X:=by exact aB rfl)(hpl:(backTo pos (starEach es X.env)).any (·.1)=false:=by exact bj rfl) :
  ZE X (.Call (.Name "sorted" p) (e::es) [] pos) (az X.K (dI yL ga)):=by
 exists PE.imp (eC (l9 hc) hg hm (by decide) ha (he:=he) (hpl:=hpl)) (jv J3)
theorem G3 {X:Cx}{fa:FE}{p pos p2 pos2:Pos}(hc:X.calm=true)(hu:X.A.units+64 < cLine)(hg:Gl X "sorted")(hm:X.mg "sorted" = none)(hg2:Gl X "set")(hm2:X.mg "set" = none)(ha:ZE X e (az X.K fa))(hs:gY e=false:=by rfl) :
  ZE X (.Call (.Name "sorted" p) [.Call (.Name "set" p2) [e] [] pos2] [] pos) (az X.K (ww fa)):=by
 exists PE.imp (eC (uZ hc) hg hm (by decide) (hZ (gC (wL hc hu) hg2 hm2 (by decide) (hZ ha kW (aB hs)) (he:=aB hs)) kW)) IV
def Jc {X:Cx}{o e f:Expr}{fa fb fc:FE}{apos cpos:Pos}(hu:X.A.units+64 < cLine)(ho:ZE X o (az X.K fa))(he:ZE X e (az X.K fb))(hf:ZE X f (az X.K fc))(m:M2 X o "setdefault" apos e f cpos:=by exact ⟨rfl,rfl,rfl,rfl⟩) :
  ZE X (.Call (.Attribute o "setdefault" apos) [e,f] [] cpos) (az X.K (o7 fa fb fc)):=by
 exists PE.imp (EL (by omega) ho he hf m) D8
def Ma {X:Cx}:ZE X (.Dict [] [] pos) (az X.K Fn):=by exists PE.imp tU IQ
def L8 {X:Cx}:ZE X (.Dict [] [] pos) (az X.K Fk):=by exists PE.imp tV IO
theorem AG {X:Cx}{a b:Expr}{fa fb:FE}(hu:X.A.units+64 < cLine)(ha:ZE X a (az X.K fa))(hb:ZE X b (az X.K fb))(hm:behindInMarks .NotIn b=false:=by rfl):ZT X (.Compare a [.NotIn] [b] pos) (fZ X.K (fB (aA (Mw true) fa fb))):=by exists R.p5 (rG.or (rH hu)) MO ha hb hm
def L0 {X:Cx}{a b:Expr}{fa fb:FE}(hu:X.A.units+64 < cLine)(ha:ZE X a (az X.K fa))(hb:ZE X b (az X.K fb))(hs:Du b:=by intro _ _;rfl):ZE X (.Subscript a b pos) (az X.K (CC fa fb)):=by exists PE.imp (rC (by omega) ha hb hs) Is
def yX {X:Cx}{es:Tj}{ga:FA}{p pos:Pos}(hc:X.calm=true)(hg:Gl X "sorted")(hm:X.mg "sorted" = none)(ha:ZA X (e::es) (je X.K ga))(he:qc e es X:=by exact aB rfl)(hpl:(backTo pos (starEach es X.env)).any (·.1)=false:=by exact bj rfl) :
  ZE X (.Call (.Name "sorted" p) (e::es) [] pos) (az X.K (dI p8 ga)):=by
 exists PE.imp (eC (l9 hc) hg hm (by decide) ha (he:=he) (hpl:=hpl)) (jv Fd)
def Eo {X:Cx}{k1 v1:Expr}{f1 g1:FE}(hk1:ZE X k1 (az X.K f1))(hv1:ZE X v1 (az X.K g1)):ZE X (.Dict [some k1] [v1] pos) (az X.K (o9 f1 g1)):=by exists PE.imp (EO (BB hk1 hv1 Ez) rfl rfl (by simp) (by simp)) Ba
def Cr {X:Cx}{tg a:Expr}{fa:FE}(ha:ZE X a (az X.K fa)):ZI X tg a (vc X.K (k8 fa)):=by exists PI.imp (EH (vT ha)) IH
theorem Jb {X:Cx}{a:Expr}{fa:FE}{p p2 pos pos2:Pos}(hc:X.calm=true)(hg:Gl X "tuple")(hm:X.mg "tuple" = none)(hg2:Gl X "range")(hm2:X.mg "range" = none)(ha:ZE X a (az X.K fa))(sa:gY a=false:=by rfl) :
  ZE X (.Call (.Name "tuple" p) [.Call (.Name "range" p2) [a] [] pos2] [] pos) (az X.K (uE fa)):=by
 exists PE.imp (EK hc hg hm hg2 hm2 (ag ha aj (aB sa)) (aB rfl) (aB sa)) D5
theorem GY {X:Cx}{a b:Expr}{fa fb:FE}{p p2 pos pos2:Pos}(hc:X.calm=true)(hg:Gl X "list")(hm:X.mg "list" = none)(hg2:Gl X "zip")(hm2:X.mg "zip" = none)(ha:ZE X a (az X.K fa))(hb:ZE X b (az X.K fb))(sa:gY a=false:=by rfl)(sb:gY b=false:=by rfl) :
  ZE X (.Call (.Name "list" p) [.Call (.Name "zip" p2) [a,b] [] pos2] [] pos) (az X.K (o5 fa fb)):=by
 exists PE.imp (Jr hc hg hm hg2 hm2 (ag ha (ag hb aj (aB sb)) (aB sa)) (aB rfl) (aB sa) (bj (by simp [sb]))) Im
section
variable {X:Cx}{e o:Expr}{es:Tj}{fa:FE}{ga:FA}{apos cpos:Pos}
theorem jf (ho:ZE X o (az X.K fa))(ha:ZA X (e::es) (je X.K ga))(hbase:attributeBase o "append" X.env (eval o X.env)=eval o X.env:=by rfl)
  (hfew:((backTo cpos (starEach (e::es) X.env)).all (fun x=>!x.1) && (backToKw cpos (keywordEach [] X.env)).all (fun x=>x.1.isSome)
   && decide ((e::es).length+([]:List Keyword).length+(if ([]:List Keyword).isEmpty then 0 else 1) < 30))=true:=by rfl)
  (hline:(apos.endLine == cpos.line)=true:=by rfl) (hs:qc e es X:=by exact aB rfl) (hplain:(backTo cpos (starEach es X.env)).any (·.1)=false:=by exact bj rfl) :
  ZE X (.Call (.Attribute o "append" apos) (e::es) [] cpos) (az X.K (uF jk fa ga)):=by
 exists PE.imp (Mk PySem.F.plainAttrs_list PySem.F.slot_list_append PySem.F.type_list_append zg ho ha hbase hfew hline hs hplain) (LH MR)
end
def Kb {P:Program}{w:World}{K:zac}{mg:Td}{base:Heap}{x qual:Str}{st:Stmt}{f:Addr}{fd:FuncData}{N ps:Tl}{k:Nat}{b:FS}(F:sA K x qual st f fd)(S:aM N ps (ah st))
  (hbody:∀(cdv:Value) (A:Around) (outer:List Env) (s:Shared) (H:Hp) (E:XK),dU k (A.deeper (envOfC qual (ah st) s.heap.objs.size f cdv))->Do (mE nr P w K mg base N qual (ah st) f cdv A outer s H E).nox (cZ st) (g9 K b)) :
  dE P w K mg base nr (k+1) f fd ps (DD K ps.length (e7 N.length b)):=by
 exists sA.okP F S hbody
def SF {P:List Value->Prop}(h:P []):∀us:Te,us.length=0->P us:=fun us e=>by rw [zbD.mp e];exact h
theorem Nz {P:List Value->Prop}{n:Nat}(h:∀a us,us.length=n->P (a::us)):∀us:Te,us.length=n+1->P us:=fun us e=>by
 cases us with|nil=>cases e|cons a us=>exact h a us (Nat.succ.inj e)
def yB {P:List Value->Prop}(h:∀a,P [a]):∀us:Te,us.length=1->P us:=Nz fun a=>SF (P:=fun us=>P (a::us)) (h a)
def DB {P:List Value->Prop}(h:∀a b,P [a,b]):∀us:Te,us.length=2->P us:=Nz fun a=>yB (P:=fun us=>P (a::us)) (h a)
def KF {P:List Value->Prop}(h:∀a b c,P [a,b,c]):∀us:Te,us.length=3->P us:=Nz fun a=>DB (P:=fun us=>P (a::us)) (h a)
def SE {P:List Value->Prop}(h:∀a b c d,P [a,b,c,d]):∀us:Te,us.length=4->P us:=Nz fun a=>KF (P:=fun us=>P (a::us)) (h a)
section
variable {K:zac}{h:Heap}{mg:Td}{x:Str}{st:Stmt}{ps:Tl}
def FK (K:zac)(x:Str)(st:Stmt):Prop:=∃f:Addr,PySem.W.nsIn K mainGlobals x=some (some (.ref f))/\∃(oc:Value) (od:Option Addr) (kV dc pm:Value) (an:Option Addr) (cd ct:Value) (sl:Array (Tg)),
 K.lookup f=some ⟨oc,od,.func (PySem.W.fnOf x x (i5 st) (cZ st) (ah st) .none kV dc pm an cd ct),sl⟩/\PySem.W.codeIn K cd x=true/\PySem.W.keepIn K (.ref f)=true
abbrev HC (x:Str)(st:Stmt)(ps:Tl):Prop:=∀(kV doc pm:Value) (an:Option Addr) (cdv ct:Value) (us:Te),us.length=ps.length->bindArgs (PySem.W.fnOf x x (i5 st) (cZ st) (ah st) .none kV doc pm an cdv ct) ⟨us,[]⟩=pure (ps.zip us)
def FK.at_ (a:FK K x st)(X:K.In h)(G:h.Ns mainGlobals mg)(hb:HC x st ps):b8 K mg x st ps:=by obtain ⟨f,a,oc,od,kV,dc,pm,an,cd,ct,sl,l,c,k⟩:=a;have F:=Cw l c k;exact ⟨_,_,F,F.binds hb,zdi X G a⟩
def FK.law {fa:Addr}(a:FK K x st)(X:K.In h)(G:h.Ns mainGlobals mg)(e:mg x=some (.ref fa))(hb:HC x st ps):∃fd,sA K x x st fa fd/\∀(s:Shared) (us:Te),us.length=ps.length->BindsTo s fd ⟨us,[]⟩ (ps.zip us):=by obtain ⟨f,a,oc,od,kV,dc,pm,an,cd,ct,sl,l,c,k⟩:=a;have:=e.symm.trans (zdi X G a);cases this;exact ⟨_,Cw l c k,fun s us hl=>.of_eq (hb _ _ _ _ _ _ us hl)⟩
end
end HW
namespace HW
open L2
section
variable {O:Lo}{U:ac}{x y:R}{d:D}
theorem CG {O:Lo}:ae 0 (some x::O) U=some (x,U):=rfl
def Hj {i:Nat}{o:Option R}{O:Lo}:ae (i+1) (o::O) U=ae i O U:=by simp [ae]
theorem SL:fK d O U=some (.v d,U):=rfl
def K8 (o:Option (R×ac))(g:R->R->ac->Option (R×ac))(fb:FE)(O:Lo):Option (R×ac):=o.bind fun a=>(fb O a.2).bind fun b=>g a.1 b.1 b.2
def Gp (x:R)(o:Option (R×ac))(g:R->R->ac->Option (R×ac)):Option (R×ac):=o.bind fun b=>g x b.1 b.2
theorem Hk {g fa fb}:aA g fa fb O U=K8 (fa O U) g fb O:=rfl
theorem CL {g fb}:K8 (some (x,U)) g fb O=Gp x (fb O U) g:=rfl
theorem CK {g}:Gp x (some (y,U)) g=g x y U:=rfl
def K1 (o:Option (R×ac))(g:R->ac->Option (R×ac)):Option (R×ac):=o.bind fun a=>g a.1 a.2
theorem RP {g fa}:nJ g fa O U=K1 (fa O U) g:=rfl
theorem Pz {g}:K1 (some (x,U)) g=g x U:=rfl
theorem Kg:ai O U=some ([],U):=rfl
def Ay (o:Option (R×ac))(fr:FA)(O:Lo):Option (List R×ac):=o.bind fun a=>(fr O a.2).bind fun r=>some (a.1::r.1,r.2)
def xg (x:R)(o:Option (List R×ac)):Option (List R×ac):=o.bind fun r=>some (x::r.1,r.2)
theorem rW {fa fr}:af fa fr O U=Ay (fa O U) fr O:=rfl
theorem CT {fr}:Ay (some (x,U)) fr O=xg x (fr O U):=rfl
theorem CS {xs}:xg x (some (xs,U))=some (x::xs,U):=rfl
def Lm (o:Option (List R×ac))(g:List R->ac->Option (R×ac)):Option (R×ac):=o.bind fun a=>g a.1 a.2
theorem Nc {g fa}:dI g fa O U=Lm (fa O U) g:=rfl
theorem Ki {g xs}:Lm (some (xs,U)) g=g xs U:=rfl
def RE (o:Option (R×ac)):Option (Bool×ac):=o.bind fun a=>match a.1 with|.v (.bl b)=>some (b,a.2)|_=>none
theorem SM {fa}:fB fa O U=RE (fa O U):=rfl
theorem Sh {b}:RE (some (.v (.bl b),U))=some (b,U):=rfl
def Gg (o:Option (R×ac)):Option (Bool×ac):=o.bind fun a=>(Ag a.1 a.2).bind fun b=>some (b,a.2)
theorem CI {fa}:fm fa O U=Gg (fa O U):=rfl
theorem NR {b}:Gg (some (.v (.bl b),U))=some (b,U):=rfl
def GB (o:Option (Bool×ac))(u:FT)(O:Lo):Option (Bool×ac):=o.bind fun c=>if c.1=true then u O c.2 else some (false,c.2)
def K7 (o:Option (Bool×ac))(u:FT)(O:Lo):Option (Bool×ac):=o.bind fun c=>if c.1=true then some (true,c.2) else u O c.2
def Gq (o:Option (Bool×ac)):Option (Bool×ac):=o.bind fun c=>some (!c.1,c.2)
theorem NT {t u}:sT t u O U=GB (t O U) u O:=rfl
theorem MZ {b u}:GB (some (b,U)) u O=if b=true then u O U else some (false,U):=rfl
theorem CJ {t u}:hJ t u O U=K7 (t O U) u O:=rfl
theorem NS {b u}:K7 (some (b,U)) u O=if b=true then some (true,U) else u O U:=rfl
theorem yg {t}:d6 t O U=Gq (t O U):=rfl
theorem MY {b}:Gq (some (b,U))=some (!b,U):=rfl
def AC (o:Option (R×ac))(fb:FE)(O:Lo):Option (R×ac):=o.bind fun a=>match a.1 with|.v (.bl c)=>if c=true then fb O a.2 else some (.v (.bl false),a.2)|_=>none
def Aq (o:Option (R×ac)):Option (R×ac):=o.bind fun a=>match a.1 with|.v (.bl c)=>some (.v (.bl (!c)),a.2)|_=>none
theorem Qw {fa fb}:rV fa fb O U=AC (fa O U) fb O:=rfl
theorem Op {c fb}:AC (some (.v (.bl c),U)) fb O=if c=true then fb O U else some (.v (.bl false),U):=rfl
theorem PP {fa}:CF fa O U=Aq (fa O U):=rfl
theorem N3 {c}:Aq (some (.v (.bl c),U))=some (.v (.bl (!c)),U):=rfl
def Ld (o:Option (Bool×ac))(fa fb:FE)(O:Lo):Option (R×ac):=o.bind fun c=>if c.1=true then fa O c.2 else fb O c.2
theorem Sb {t fa fb}:Ke t fa fb O U=Ld (t O U) fa fb O:=rfl
theorem Qc {c fa fb}:Ld (some (c,U)) fa fb O=if c=true then fa O U else fb O U:=rfl
def Gf (o:Option (List R×ac)):Option (R×ac):=o.bind fun a=>(vals a.1).bind fun ds=>if ds.length<=sizeLine then some (.v (.tup ds),a.2) else none
def Gr (o:Option (List R×ac)):Option (R×ac):=o.bind fun a=>(vals a.1).bind fun ds=>if ds.length<=sizeLine then some (.p a.2.length,a.2++[.lst ds]) else none
theorem PC {fa}:bT fa O U=Gf (fa O U):=rfl
theorem PY {fa}:fq fa O U=Gr (fa O U):=rfl
theorem Of:yf O U=some (.p U.length,U++[.dct []]):=rfl
def sR (o:Option (R×ac)):Option (R×ac):=o.bind fun a=>(DG a.1 a.2).bind fun b=>some (.v b.1,b.2)
theorem Hm {fa}:cD fa O U=sR (fa O U):=rfl
theorem Qi:sR (some (.v d,U))=some (.v d,U):=rfl
def AA (o:Option (List R×ac))(f:MF)(n:Nat):Option (R×ac):=o.bind fun a=>(vals a.1).bind fun ds=>if ds.length=n then (f ds).bind fun d=>some (.v d,a.2) else none
theorem yj {f n fa}:aR f n fa O U=AA (fa O U) f n:=rfl
theorem N4:bG O U=some (.nx O U):=rfl
def OY (o:Option ni)(b:FS):Option ni:=o.bind fun o=>match o with|.nx O' U'=>b O' U'|o=>some o
theorem wy {a b}:ar a b O U=OY (a O U) b:=rfl
theorem yh {b}:OY (some (.nx O U)) b=b O U:=rfl
theorem NZ {b}:OY (some (.rt x U)) b=some (.rt x U):=rfl
def Ax (o:Option (R×ac))(O:Lo):Option ni:=o.bind fun a=>some (.nx O a.2)
theorem Oe {f}:fS f O U=Ax (f O U) O:=rfl
theorem M8:Ax (some (x,U)) O=some (.nx O U):=rfl
def Gn (o:Option (R×ac)):Option ni:=o.bind fun a=>some (.rt a.1 a.2)
theorem Kf {f}:bP f O U=Gn (f O U):=rfl
theorem Fo:Gn (some (x,U))=some (.rt x U):=rfl
def xb (o:Option (Bool×ac))(a b:FS)(O:Lo):Option ni:=o.bind fun c=>if c.1=true then a O c.2 else b O c.2
theorem CN {t a b}:ju t a b O U=xb (t O U) a b O:=rfl
theorem Qa {a b}:xb (some (true,U)) a b O=a O U:=rfl
theorem Qb {a b}:xb (some (false,U)) a b O=b O U:=rfl
def Gm (o:Option (R×ac))(i:Nat)(O:Lo):Option ni:=o.bind fun a=>some (.nx (O.set i (some a.1)) a.2)
theorem PM {i f}:aI i f O U=Gm (f O U) i O:=rfl
theorem NY {i}:Gm (some (x,U)) i O=some (.nx (O.set i (some x)) U):=rfl
def Gw (o:Option (List D×ac))(g:FG)(b:FS)(O:Lo):Option ni:=o.bind fun a=>cg g b a.1 O a.2
theorem CP {i g b}:dF i g b O U=Gw (i O U) g b O:=Eq.trans rfl rfl
theorem yi {xs g b}:Gw (some (xs,U)) g b O=cg g b xs O U:=Eq.trans rfl rfl
def Ao (o:Option (R×ac)):Option (List D×ac):=o.bind fun a=>match a.1 with|.v (.fl xs)=>some (xs,a.2)|.v (.tup xs)=>some (xs,a.2)|_=>none
theorem Fs {f}:ba f O U=Ao (sR (f O U)):=rfl
theorem CM {xs}:Ao (some (.v (.fl xs),U))=some (xs,U):=rfl
theorem M5 {xs}:Ao (some (.v (.tup xs),U))=some (xs,U):=rfl
def K6 (o:Option (R×ac)):Option (List D×ac):=o.bind fun a=>match a.1 with|.v (.int j)=>if -(2 ^ 62)<=j/\j < 2 ^ 62 then some ((List.range j.toNat).map fun i=>.int (i:Nat),a.2) else none|_=>none
theorem M0 {f}:uB f O U=K6 (f O U):=Eq.trans rfl rfl
def pd {j:Int}(h : -(2 ^ 62)<=j/\j < 2 ^ 62):K6 (some (.v (.int j),U))=some ((List.range j.toNat).map fun i=>.int (i:Nat),U):=by
 show (if -(2 ^ 62)<=j/\j < 2 ^ 62 then _ else _)=_
 rw [if_pos h]
def Az (o:Option (List D×ac))(ix:List Nat)(k:Nat)(g:FG)(c:FT)(f:FE)(O:Lo):Option (R×ac):=o.bind fun a=>if a.1.length<=sizeLine then
 (bv g c f a.1 (dg k ix O) a.2).bind fun r=>some (.p r.2.length,r.2++[.lst r.1]) else none
theorem Og {ix k i g c f}:bH ix k i g c f O U=Az (i O U) ix k g c f O:=Eq.trans rfl rfl
theorem Pp:bY O U=some (true,U):=rfl
def K5 (o:Option (R×ac))(fl fh:FO)(O:Lo):Option (R×ac):=o.bind fun a=>(fl O a.2).bind fun l=>(fh O l.2).bind fun h=>Ic a.1 l.1 h.1 h.2
def Gk (x:R)(o:Option (Option Int×ac))(fh:FO)(O:Lo):Option (R×ac):=o.bind fun l=>(fh O l.2).bind fun h=>Ic x l.1 h.1 h.2
def Gj (x:R)(l:Option Int)(o:Option (Option Int×ac)):Option (R×ac):=o.bind fun h=>Ic x l h.1 h.2
theorem RT {fa fl fh}:Kd fa fl fh O U=K5 (fa O U) fl fh O:=rfl
theorem PL {fl fh}:K5 (some (x,U)) fl fh O=Gk x (fl O U) fh O:=rfl
theorem PK {l fh}:Gk x (some (l,U)) fh O=Gj x l (fh O U):=rfl
theorem PJ {l h}:Gj x l (some (h,U))=Ic x l h U:=rfl
def RD (o:Option (R×ac)):Option (Option Int×ac):=o.bind fun a=>match a.1 with|.v (.int i)=>some (some i,a.2)|_=>none
theorem RZ:t4 O U=some (none,U):=rfl
theorem RY {f}:kK f O U=RD (f O U):=rfl
theorem PN {i}:RD (some (.v (.int i),U))=some (some i,U):=rfl
def DN (o:Option (R×ac))(g:R->List R->ac->Option (R×ac))(ga:FA)(O:Lo):Option (R×ac):=o.bind fun a=>if kM a.1 a.2=true then (ga O a.2).bind fun b=>g a.1 b.1 b.2 else none
def sQ (x:R)(o:Option (List R×ac))(g:R->List R->ac->Option (R×ac)):Option (R×ac):=o.bind fun b=>g x b.1 b.2
theorem R4 {g fa ga}:uF g fa ga O U=DN (fa O U) g ga O:=rfl
theorem PV {g xs}:sQ x (some (xs,U)) g=g x xs U:=rfl
variable {i j:Int}{b c:Bool}{xs:List D}
theorem PF:mq (.v (.int i)) (.v (.int j)) U=some (.v (.int (i - j)),U):=rfl
theorem R6:KK (.v (.int i)) (.v (.int j)) U=some (.v (.bl (decide (i < j))),U):=rfl
theorem R8:KM (.v (.int i)) (.v (.int j)) U=some (.v (.bl (decide (i<=j))),U):=rfl
theorem Sc:Hd (.v (.int i)) (.v (.int j)) U=some (.v (.bl (decide (j < i))),U):=rfl
def b7 (h:0 < j):cC (.v (.int i)) (.v (.int j)) U=some (.v (.int (i % j)),U):=by simp [cC,wo,h]
def d5 (h:0 < j)(h2:j < 1073741824):dh (.v (.int i)) (.v (.int j)) U=some (.v (.int (i / j)),U):=by simp [dh,wo,h,h2]
def Fp (h : -(2 ^ 64) < j/\j < 2 ^ 64):mw (.v (.int i)) (.v (.int j)) U=some (.v (.int (i * j)),U):=by
 show (if (decide (-(2 ^ 64) < i/\i < 2 ^ 64) || decide (-(2 ^ 64) < j/\j < 2 ^ 64))=true then _ else _)=_
 rw [if_pos (by rw [Bool.or_eq_true];exact .inr (zaL h))]
def i4 (h : -(2 ^ 64) < i/\i < 2 ^ 64):mw (.v (.int i)) (.v (.int j)) U=some (.v (.int (i * j)),U):=by
 show (if (decide (-(2 ^ 64) < i/\i < 2 ^ 64) || decide (-(2 ^ 64) < j/\j < 2 ^ 64))=true then _ else _)=_
 rw [if_pos (by rw [Bool.or_eq_true];exact .inl (zaL h))]
def wz (h:0<=j/\j<=1000000/\i.natAbs < 2 ^ 64):nB (.v (.int i)) (.v (.int j)) U=some (.v (.int (i ^ j.toNat)),U):=by simp [nB,wo,h]
theorem PQ:t6 (.v (.int i)) U=some (.v (.int (-i)),U):=rfl
theorem Fq:eU [.v (.tup xs)] U=some (.v (.int xs.length),U):=rfl
theorem Fr:eU [.v (.fl xs)] U=some (.v (.int xs.length),U):=rfl
theorem ph {k:Nat}:aT k x O U=some (O.set k (some x),U):=rfl
def wT {Z:Type}{xs:List Z}{i:Int}{a:Z}(h0:0<=i)(h:xs[i.toNat]?=some a):nW xs i=some a:=by unfold nW Cg;have hl:=(zau.mp h).1;rw [if_pos h0,if_pos (by omega)];simpa using h
def dZ (o:Option ni):Option D:=o.bind fin
theorem Qk:dZ (some (.rt (.v d) U))=some d:=rfl
end
theorem j7 {n:Nat}(xs:Th):okDs n (xs.map D.int)=true:=by
 induction xs with|nil=>cases n <;> rfl|cons x xs ih=>cases n <;> simpa [okDs,e8] using ih
theorem ki (xs ys:Th):eqDs (xs.map D.int) (ys.map D.int)=decide (xs=ys):=by
 induction xs generalizing ys with|nil=>cases ys <;> simp [c9,eP,gw,gx]|cons x xs ih =>
  cases ys with|nil=>simp [c9,eP,gw,gx]|cons y ys=>simp [c9,eP,gw,gx,rX,wC,wE,rY,ih ys];rfl
def Lg (o:Option (Lo×ac))(b:FS):Option ni:=o.bind fun a=>b a.1 a.2
theorem zB {O:Lo}{U:ac}{b:FS}:Lg (some (O,U)) b=b O U:=rfl
def E5 {g:FG}{b:FS}(I:Nat->Lo->ac->Prop){xs:List D}{O:Lo}{U:ac}(h0:I 0 O U)
  (hs:∀(i:Nat) x O U,xs[i]?=some x->I i O U->∃O' U',Lg (g (.v x) O U) b=some (.nx O' U')/\I (i+1) O' U') :
  ∃O' U',cg g b xs O U=some (.nx O' U')/\I xs.length O' U':=by
 have key:∀(n:Nat) (ys:List D) (i:Nat) O U,ys.length=n->xs.drop i=ys->i<=xs.length->I i O U->∃O' U',cg g b ys O U=some (.nx O' U')/\I xs.length O' U':=by
  intro n
  induction n with
  |zero =>
   intro ys i O U hn hd hi h;have:ys=[]:=zbT hn;subst this
   have:i=xs.length:=by
    have:=congrArg List.length hd;simp at this;omega
   subst this;exact ⟨O,U,rfl,h⟩
  |succ n ih =>
   intro ys i O U hn hd hi h
   cases ys with|nil=>simp at hn|cons y ys =>
    have hlt:i < xs.length:=by
     have:=congrArg List.length hd;simp at this;omega
    have hc:=zbw hlt;rw [hd] at hc
    injection hc with h1 h2
    obtain ⟨O',U',e0,h'⟩:=hs i y O U (by rw [h1];exact zas hlt) h;obtain ⟨⟨O1,U1⟩,e1,e2⟩:=zaa.mp e0;obtain ⟨O2,U2,e3,h3⟩:=ih ys (i+1) O' U' (by simpa using hn) h2.symm hlt h';exact ⟨O2,U2,by simp only [cg,e1,e2,zav];exact e3,h3⟩
 exact key xs.length xs 0 O U rfl (by simp) (zbb _) h0
section
variable {O:Lo}{U:ac}{d:D}
def xh (o:Option (List R×ac))(f:MF)(n:Nat):Option (R×ac):=o.bind fun a=>(iB a.1 a.2).bind fun ds=>if ds.length=n then (f ds).bind fun d=>if dR d=true then some (.v d,a.2) else none else none
theorem Na {f n fa}:jO f n fa O U=xh (fa O U) f n:=rfl
end
section
variable {O:Lo}{U:ac}{x y:R}{d e:D}{n m:Nat}{xs ys:List D}{i j:Int}{b c:Bool}
def Ow (o:Option ap)(n:Nat)(g:R->List R->ac->Option (R×ac))(ga:FA)(O:Lo)(U:ac):Option (R×ac):=match o with|some (.lst _)=>sQ (.p n) (ga O U) g|some (.fz _)=>sQ (.p n) (ga O U) g|_=>none
theorem PR {g ga}:DN (some (.p n,U)) g ga O=Ow U[n]? n g ga O U:=by
 cases h:U[n]? with|none=>simp [DN,kM,Ow,h]|some c=>cases c <;> simp [DN,kM,Ow,sQ,h]
theorem PU {g ga}:Ow (some (.lst xs)) n g ga O U=sQ (.p n) (ga O U) g:=rfl
def Nm (o:Option ap)(n:Nat)(d:D)(U:ac):Option (R×ac):=match o with|some (.lst xs)=>if xs.length < sizeLine then some (.v .non,U.set n (.lst (xs++[d]))) else none|_=>none
theorem On:jk (.p n) [.v d] U=Nm U[n]? n d U:=rfl
theorem Oo:Nm (some (.lst xs)) n d U=if xs.length < sizeLine then some (.v .non,U.set n (.lst (xs++[d]))) else none:=rfl
def QB (o:Option ap):Option (List D):=match o with|some (.lst xs)=>some xs|some (.fz xs)=>some xs|_=>none
theorem P6:fj (.v (.tup xs)) U=some xs:=rfl
theorem P8:fj (.v (.fl xs)) U=some xs:=rfl
theorem P7:fj (.p n) U=QB U[n]?:=rfl
theorem P9:QB (some (.lst xs))=some xs:=rfl
def Lc (o:Option (List D))(i:Int)(U:ac):Option (R×ac):=o.bind fun xs=>(nW xs i).bind fun d=>some (.v d,U)
def Gu (o:Option D)(U:ac):Option (R×ac):=o.bind fun d=>some (.v d,U)
theorem Sa:c7 x (.v (.int i)) U=Lc (fj x U) i U:=rfl
theorem P5:Lc (some xs) i U=Gu (nW xs i) U:=rfl
theorem P3:Gu (some d) U=some (.v d,U):=rfl
theorem Qq {a:D}{l:List D}:nW (a::l) 0=some a:=wT (by decide) rfl
theorem Qp {a b:D}{l:List D}:nW (a::b::l) 1=some b:=wT (by decide) rfl
def Gs (o:Option (List D))(U:ac):Option (R×ac):=o.bind fun xs=>some (.v (.int xs.length),U)
theorem P0:eU [x] U=Gs (fj x U) U:=rfl
theorem N6:Gs (some xs) U=some (.v (.int xs.length),U):=rfl
def K4 (o:Option (List D))(U:ac):Option (R×ac):=o.bind fun xs=>some (.v (.tup xs),U)
theorem RS:lD [x] U=K4 (fj x U) U:=rfl
theorem PD:K4 (some xs) U=some (.v (.tup xs),U):=rfl
def Lb (o:Option (List D))(U:ac):Option (R×ac):=o.bind fun xs=>some (.p U.length,U++[.lst xs])
theorem R7:mZ [x] U=Lb (fj x U) U:=rfl
theorem PZ:Lb (some xs) U=some (.p U.length,U++[.lst xs]):=rfl
def Qz (o:Option ap):Option D:=match o with|some (.lst xs)=>some (.fl xs)|some (.fz xs)=>some (.fl xs)|_=>none
theorem Pq:mS (.v d) U=some d:=rfl
theorem Pr:mS (.p n) U=Qz U[n]?:=rfl
theorem Ps:Qz (some (.lst xs))=some (.fl xs):=rfl
def HN (o p:Option D)(neg:Bool)(U:ac):Option (R×ac):=o.bind fun a=>p.bind fun b=>if (e8 60 a && e8 60 b)=true then some (.v (.bl (if neg then !hV a b else hV a b)),U) else none
theorem Qm:gg b x y U=HN (mS x U) (mS y U) b U:=rfl
theorem Qn:HN (some d) (some e) false U=if (e8 60 d && e8 60 e)=true then some (.v (.bl (hV d e)),U) else none:=rfl
theorem Ql:HN (some d) (some e) true U=if (e8 60 d && e8 60 e)=true then some (.v (.bl (!hV d e)),U) else none:=rfl
theorem JH:e8 n (.int i)=true:=by cases n <;> rfl
theorem Mp:e8 n (.bl b)=true:=by cases n <;> rfl
theorem O8:e8 n .non=true:=by cases n <;> rfl
theorem Qy:hV (.int i) (.int j)=(i == j):=rfl
def zK (o:Option ap):Option D:=match o with|some (.lst xs)=>some (.fl xs)|some (.fz xs)=>some (.fl xs)|some (.dct kvs)=>some (.fd (kvs.map (·.1)) (kvs.map (·.2)))|some (.fzd kvs)=>some (.fd (kvs.map (·.1)) (kvs.map (·.2)))|_=>none
theorem CQ:dZ (some (.rt (.p n) U))=zK U[n]?:=by
 cases h:U[n]? with|none=>simp [dZ,fin,DG,zK,h]|some c=>cases c <;> simp [dZ,fin,DG,zK,h]
noncomputable def Nl (o:Option ap)(n:Nat)(U:ac):Option (R×ac):=match o with|some (.lst xs)=>some (.v (.fl xs),U.set n (.fz xs))|some (.fz xs)=>some (.v (.fl xs),U)|some (.dct kvs)=>some (.v (.fd (kvs.map (·.1)) (kvs.map (·.2))),U.set n (.fzd kvs))|some (.fzd kvs)=>some (.v (.fd (kvs.map (·.1)) (kvs.map (·.2))),U)|_=>none
theorem CO:sR (some (.p n,U))=Nl U[n]? n U:=by
 cases h:U[n]? with|none=>simp [sR,DG,Nl,h]|some c=>cases c <;> simp [sR,DG,Nl,h]
theorem Qh:Nl (some (.lst xs)) n U=some (.v (.fl xs),U.set n (.fz xs)):=rfl
theorem Kh:Nl (some (.fz xs)) n U=some (.v (.fl xs),U):=rfl
def Ll (o:Option D)(xs:List R)(U:ac):Option (List D):=o.bind fun d=>(iB xs U).bind fun ds=>some (d::ds)
def GA (d:D)(o:Option (List D)):Option (List D):=o.bind fun ds=>some (d::ds)
theorem Py:iB [] U=some []:=rfl
theorem RO {rs}:iB (x::rs) U=Ll (Oz x U) rs U:=rfl
theorem Px {rs}:Ll (some d) rs U=GA d (iB rs U):=rfl
theorem Pw {ds}:GA d (some ds)=some (d::ds):=rfl
def QC (o:Option ap):Option D:=match o with|some (.lst xs)=>some (.fl xs)|some (.fz xs)=>some (.fl xs)|some (.dct kvs)=>some (.fd (kvs.map (·.1)) (kvs.map (·.2)))|some (.fzd kvs)=>some (.fd (kvs.map (·.1)) (kvs.map (·.2)))|_=>none
theorem Qt:Oz (.v d) U=some d:=rfl
theorem Qu:Oz (.p n) U=QC U[n]?:=rfl
theorem Qv:QC (some (.lst xs))=some (.fl xs):=rfl
theorem Qs:QC (some (.fz xs))=some (.fl xs):=rfl
def KZ (o:Option (List D))(f:MF)(n:Nat)(U:ac):Option (R×ac):=o.bind fun ds=>if ds.length=n then (f ds).bind fun d=>some (.v d,U) else none
def K0 (o:Option D)(U:ac):Option (R×ac):=o.bind fun d=>some (.v d,U)
theorem Sg {rs f n}:AA (some (rs,U)) f n=KZ (vals rs) f n U:=rfl
theorem Sf {f:MF}{ds:List D}:KZ (some ds) f n U=if ds.length=n then K0 (f ds) U else none:=rfl
theorem Se:K0 (some d) U=some (.v d,U):=rfl
def HL (d:D)(o:Option (List D)):Option (List D):=o.bind fun ds=>some (d::ds)
theorem Pv:vals []=some []:=rfl
def Pu {rs}:vals (.v d::rs)=HL d (vals rs):=by unfold HL;cases h:vals rs <;> simp [vals,h]
theorem Pt {ds}:HL d (some ds)=some (d::ds):=rfl
def Gb (o:Option (List D))(f:MF)(n:Nat)(U:ac):Option (R×ac):=o.bind fun ds=>if ds.length=n then (f ds).bind fun d=>if dR d=true then some (.v d,U) else none else none
def Gd (o:Option D)(U:ac):Option (R×ac):=o.bind fun d=>if dR d=true then some (.v d,U) else none
theorem RX {rs f n}:xh (some (rs,U)) f n=Gb (iB rs U) f n U:=rfl
theorem RV {f:MF}{ds:List D}:Gb (some ds) f n U=if ds.length=n then Gd (f ds) U else none:=rfl
theorem RU:Gd (some d) U=if dR d=true then some (.v d,U) else none:=rfl
def K3 (o:Option (List D))(U:ac):Option (R×ac):=o.bind fun ds=>if ds.length<=sizeLine then some (.v (.tup ds),U) else none
theorem RQ {rs}:Gf (some (rs,U))=K3 (vals rs) U:=rfl
theorem PB {ds}:K3 (some ds) U=if ds.length<=sizeLine then some (.v (.tup ds),U) else none:=rfl
def K9 (o:Option (List D))(U:ac):Option (R×ac):=o.bind fun ds=>if ds.length<=sizeLine then some (.p U.length,U++[.lst ds]) else none
theorem R5 {rs}:Gr (some (rs,U))=K9 (vals rs) U:=rfl
theorem PX {ds}:K9 (some ds) U=if ds.length<=sizeLine then some (.p U.length,U++[.lst ds]) else none:=rfl
def Gz (o:Option (R×ac))(g:FG)(O:Lo):Option ni:=o.bind fun a=>(g a.1 O a.2).bind fun b=>some (.nx b.1 b.2)
def AB (o:Option (Lo×ac)):Option ni:=o.bind fun b=>some (.nx b.1 b.2)
theorem Qr {f g}:pT f g O U=Gz (f O U) g O:=rfl
theorem Om {g}:Gz (some (x,U)) g O=AB (g x O U):=rfl
theorem Ol:AB (some (O,U))=some (.nx O U):=rfl
theorem Qd {g}:iF n g (.v (.tup xs)) O U=if xs.length=n then g (xs.map .v) O U else none:=rfl
theorem Qf:bz [] O U=some (O,U):=rfl
def Lf (o:Option (Lo×ac))(r:Hz)(ds:List R):Option (Lo×ac):=o.bind fun a=>r ds a.1 a.2
theorem Sd {g r ds}:aq g r (x::ds) O U=Lf (g x O U) r ds:=rfl
theorem Qe {r ds}:Lf (some (O,U)) r ds=r ds O U:=rfl
theorem PH {l h}:Ic (.v (.fl xs)) l h U=some (.p U.length,U++[.lst (pq xs l h)]):=rfl
theorem Nf:gA (.v (.int i)) (.v (.int j)) U=some (.v (.int (i+j)),U):=rfl
noncomputable def Nn (o p:Option ap)(U:ac):Option (R×ac):=match o,p with|some (.lst xs),some (.lst ys)=>if xs.length+ys.length<=sizeLine then some (.p U.length,U++[.lst (xs++ys)]) else none|_,_=>none
theorem Nd:gA (.p n) (.p m) U=Nn U[n]? U[m]? U:=rfl
theorem Ot:Nn (some (.lst xs)) (some (.lst ys)) U=if xs.length+ys.length<=sizeLine then some (.p U.length,U++[.lst (xs++ys)]) else none:=rfl
def Gi (o:Option (R×ac))(fi:FE)(dv:D)(O:Lo):Option (Lo×ac):=o.bind fun o=>(fi O o.2).bind fun i=>(vO o.1 i.1 dv i.2).bind fun U'=>some (O,U')
def Am (x:R)(o:Option (R×ac))(dv:D)(O:Lo):Option (Lo×ac):=o.bind fun i=>(vO x i.1 dv i.2).bind fun U'=>some (O,U')
def Al (o:Option ac)(O:Lo):Option (Lo×ac):=o.bind fun U'=>some (O,U')
theorem NX {fo fi}:pW fo fi (.v d) O U=Gi (fo O U) fi d O:=rfl
theorem NW {fi}:Gi (some (x,U)) fi d O=Am x (fi O U) d O:=rfl
theorem NV:Am x (some (y,U)) d O=Al (vO x y d U) O:=rfl
theorem NU:Al (some U) O=some (O,U):=rfl
def Ks (o:Option ap)(n:Nat)(i:R)(dv:D)(U:ac):Option ac:=match o with
  |some (.lst xs)=>(match i with|.v (.int k)=>(Cg xs.length k).bind fun j=>some (U.set n (.lst (xs.set j dv)))|_=>none)
  |some (.dct kvs)=>if kvs.length < sizeLine then (ee i).bind fun k=>some (U.set n (.dct (lL kvs k dv))) else none|_=>none
theorem N0:vO (.p n) x d U=Ks U[n]? n x d U:=rfl
def Go (o:Option Nat)(n:Nat)(xs:List D)(d:D)(U:ac):Option ac:=o.bind fun j=>some (U.set n (.lst (xs.set j d)))
theorem N1:Ks (some (.lst xs)) n (.v (.int i)) d U=Go (Cg xs.length i) n xs d U:=rfl
theorem M3 {j:Nat}:Go (some j) n xs d U=some (U.set n (.lst (xs.set j d))):=rfl
def Lk (o:Option (List D×ac)):Option (R×ac):=o.bind fun r=>some (.p r.2.length,r.2++[.lst r.1])
theorem M9 {ix k g c f}:Az (some (xs,U)) ix k g c f O=if xs.length<=sizeLine then Lk (bv g c f xs (dg k ix O) U) else none:=Eq.trans rfl rfl
theorem Qo {r:List D}:Lk (some (r,U))=some (.p U.length,U++[.lst r]):=rfl
theorem Oj:dg 1 [] O=[none]:=rfl
theorem Oi {i:Nat}:dg 1 [i] O=[none,(O[i]?).join]:=rfl
theorem Oh {i j:Nat}:dg 1 [i,j] O=[none,(O[i]?).join,(O[j]?).join]:=rfl
theorem R9 {x:Option R}:(some x).join=x:=rfl
def GC (o:Option (List D))(any:Bool)(U:ac):Option (R×ac):=o.bind fun xs=>(lf xs).bind fun bs=>some (.v (.bl (if any then bs.any id else bs.all id)),U)
def AD (o:Option (List Bool))(any:Bool)(U:ac):Option (R×ac):=o.bind fun bs=>some (.v (.bl (if any then bs.any id else bs.all id)),U)
theorem Qx:Dl b [x] U=GC (f6 x U) b U:=rfl
theorem Os:GC (some xs) b U=AD (lf xs) b U:=rfl
theorem Oq {bs:List Bool}:AD (some bs) false U=some (.v (.bl (bs.all id)),U):=rfl
theorem N5:f6 (.p n) U=QB U[n]?:=rfl
def xi (o:Option (List R×ac))(f:MC)(n:Nat):Option (R×ac):=o.bind fun a=>(iB a.1 a.2).bind fun ds=>if ds.length=n then (f ds).bind fun c=>if qz c=true then some (.p a.2.length,a.2++[c]) else none else none
def Gc (o:Option (List D))(f:MC)(n:Nat)(U:ac):Option (R×ac):=o.bind fun ds=>if ds.length=n then (f ds).bind fun c=>if qz c=true then some (.p U.length,U++[c]) else none else none
def Ge (o:Option ap)(U:ac):Option (R×ac):=o.bind fun c=>if qz c=true then some (.p U.length,U++[c]) else none
theorem Nb {f:MC}{fa}:cj f n fa O U=xi (fa O U) f n:=rfl
theorem R3 {f:MC}{rs}:xi (some (rs,U)) f n=Gc (iB rs U) f n U:=rfl
theorem R1 {f:MC}{ds:List D}:Gc (some ds) f n U=if ds.length=n then Ge (f ds) U else none:=rfl
theorem R0 {k:ap}:Ge (some k) U=if qz k=true then some (.p U.length,U++[k]) else none:=rfl
theorem Qj:qz (.lst xs)=flatDs xs:=rfl
def m8 (o:Option ni):Option ap:=o.bind CA
def yr (o:Option ap):Option ap:=match o with|some (.lst xs)=>some (.lst xs)|some (.dct kvs)=>some (.dct kvs)|_=>none
theorem M6:m8 (some (.rt (.p n) U))=yr U[n]?:=by
 cases h:U[n]? with|none=>simp [m8,CA,yr,h]|some c=>cases c <;> simp [m8,CA,yr,h]
theorem M7:yr (some (.lst xs))=some (.lst xs):=rfl
theorem Ft {ns:Th}:gd (ns.map D.int)=some ns:=by
 induction ns with|nil=>rfl|cons n ns ih=>simp [gd,ih]
def Ap (o:Option aH)(kvs:List (aH×D))(n:Nat)(d:D)(U:ac):Option ac:=o.bind fun k=>some (U.set n (.dct (lL kvs k d)))
theorem N2 {kvs}:Ks (some (.dct kvs)) n x d U=if kvs.length < sizeLine then Ap (ee x) kvs n d U else none:=rfl
theorem M4 {kvs k}:Ap (some k) kvs n d U=some (U.set n (.dct (lL kvs k d))):=rfl
theorem P1:ee (.v (.int i))=some (.inl i):=rfl
def Gv (o:Option (R×ac))(fk fx:FE)(O:Lo):Option (R×ac):=o.bind fun o=>if (nE o.1 o.2).isSome=true then (fk O o.2).bind fun k=>(fx O k.2).bind fun x=>(nE o.1 x.2).bind fun kvs=>(ee k.1).bind fun key=>some ((match ky kvs key with|some d=>.v d|none=>x.1),x.2) else none
def Nk (o:Option ap):Option (List (aH×D)):=match o with|some (.dct kvs)=>some kvs|some (.fzd kvs)=>some kvs|_=>none
def Av (o:Option (List (aH×D)))(x:R)(fk fx:FE)(O:Lo)(U:ac):Option (R×ac):=if o.isSome=true then (fk O U).bind fun k=>(fx O k.2).bind fun y=>(nE x y.2).bind fun kvs=>(ee k.1).bind fun key=>some ((match ky kvs key with|some d=>.v d|none=>y.1),y.2) else none
def Au (o:Option (R×ac))(x:R)(fx:FE)(O:Lo):Option (R×ac):=o.bind fun k=>(fx O k.2).bind fun y=>(nE x y.2).bind fun kvs=>(ee k.1).bind fun key=>some ((match ky kvs key with|some d=>.v d|none=>y.1),y.2)
def At (o:Option (R×ac))(x k:R):Option (R×ac):=o.bind fun y=>(nE x y.2).bind fun kvs=>(ee k).bind fun key=>some ((match ky kvs key with|some d=>.v d|none=>y.1),y.2)
def As (o:Option (List (aH×D)))(k y:R)(U:ac):Option (R×ac):=o.bind fun kvs=>(ee k).bind fun key=>some ((match ky kvs key with|some d=>.v d|none=>y),U)
def Ar (o:Option D)(y:R):R:=match o with|some d=>.v d|none=>y
theorem Qg {fo fk fx}:uG fo fk fx O U=Gv (fo O U) fk fx O:=rfl
theorem N7:nE (.p n) U=Nk U[n]?:=rfl
theorem N8 {kvs}:Nk (some (.dct kvs))=some kvs:=rfl
theorem Od {fk fx}:Gv (some (x,U)) fk fx O=Av (nE x U) x fk fx O U:=rfl
theorem Oc {kvs fk fx}:Av (some kvs) x fk fx O U=Au (fk O U) x fx O:=rfl
theorem Ob {fx}:Au (some (y,U)) x fx O=At (fx O U) x y:=rfl
theorem Oa {z}:At (some (z,U)) x y=As (nE x U) y z U:=rfl
theorem N9 {kvs}:As (some kvs) (.v (.int i)) y U=some (Ar (ky kvs (.inl i)) y,U):=rfl
def sU:2<=sizeLine:=by decide
def SU:0<=sizeLine:=by decide
def SS:3<=sizeLine:=by decide
def dk {n:Nat}(h:n < 4000):n < sizeLine:=zaA h (by decide)
def bA {n:Nat}(h:n < 4000):n<=sizeLine:=zbP (dk h)
end
theorem xM {Z:Type}{x y:Z}{l:List Z}:(x::l).set 0 y=y::l:=rfl
theorem xL {Z:Type}{x y:Z}{l:List Z}{n:Nat}:(x::l).set (n+1) y=x::l.set n y:=rfl
theorem NK {Z:Type}{x:Z}{l:List Z}:(x::l)[0]?=some x:=rfl
theorem NJ {Z:Type}{x:Z}{l:List Z}{n:Nat}:(x::l)[n+1]?=l[n]?:=rfl
theorem Pa {Z:Type}{x:Z}{l:List Z}:(x::l).length=l.length+1:=rfl
theorem NI {Z:Type}:([]:List Z).length=0:=rfl
theorem Pd {Z:Type}{x:Z}{l r:List Z}:(x::l)++r=x::(l++r):=rfl
theorem NL {Z:Type}{r:List Z} : []++r=r:=rfl
theorem O9 {Z β:Type}{f:Z->β}{x:Z}{l:List Z}:(x::l).map f=f x::l.map f:=rfl
theorem NH {Z β:Type}{f:Z->β}:([]:List Z).map f=[]:=rfl
def RM {n:Nat}:0+n=n:=zdp n
theorem NF:(!true)=false:=rfl
theorem NG:(!false)=true:=rfl
theorem Pb {Z:Type}{a b:Z}:(if true=true then a else b)=a:=rfl
theorem Pc {Z:Type}{a b:Z}:(if false=true then a else b)=b:=rfl
section
variable {g:FG}{b:FS}{O:Lo}{U:ac}
def DO (o:Option ni)(g:FG)(b:FS)(xs:List D):Option ni:=o.bind fun o=>match o with
  |.nx O' U'=>cg g b xs O' U'|.ct O' U'=>cg g b xs O' U'|.bk O' U'=>some (.nx O' U')|.rt d U'=>some (.rt d U')
theorem bR {x:D}{xs:List D}:cg g b (x::xs) O U=DO (Lg (g (.v x) O U) b) g b xs:=by
 show (g (.v x) O U).bind _=_
 cases e:g (.v x) O U <;> rfl
theorem Ms:cg g b [] O U=some (.nx O U):=rfl
theorem qo {xs}:DO (some (.nx O U)) g b xs=cg g b xs O U:=rfl
theorem gW {Z Y:Type}(e:Z->D)(S:Y->Lo×ac)(P:Y->List Z->Prop):∀(as:List Z) (s:Y),P s as ->
  (∀s a r,P s (a::r)->∃s',Lg (g (.v (e a)) (S s).1 (S s).2) b=some (.nx (S s').1 (S s').2)/\P s' r) ->
  ∃s',cg g b (as.map e) (S s).1 (S s).2=some (.nx (S s').1 (S s').2)/\P s' []
 |[],s,h,_=>⟨s,rfl,h⟩|a::as,s,h,k=>by
  obtain ⟨s1,h1,h2⟩:=k s a as h;obtain ⟨s2,h3,h4⟩:=gW e S P as s1 h2 k;exact ⟨s2,by rw [zaf,bR,h1,qo,h3],h4⟩
def iT (n:Nat)(I:Nat->Lo->ac->Prop)(h0:I 0 O U)
  (hs:∀i < n,∀O U,I i O U->∃O' U',Lg (g (.v (.int (i:Int))) O U) b=some (.nx O' U')/\I (i+1) O' U') :
  ∃O' U',cg g b ((List.range n).map fun i=>.int ((i:Nat):Int)) O U=some (.nx O' U')/\I n O' U':=by
 obtain ⟨O',U',e,h⟩:=E5 (g:=g) (b:=b) I (xs:=(List.range n).map fun i=>D.int ((i:Nat):Int)) h0 fun i x O U hx hI=>by
  rw [za0] at hx;obtain ⟨k,hk,rfl⟩:=zaQ.mp hx;obtain ⟨hl,hk⟩:=zau.mp hk;rw [zcB] at hk;subst hk;exact hs i (by simpa using hl) O U hI
 exact ⟨O',U',e,by simpa using h⟩
end
theorem dB {Z:Type}{f:FE}{U:ac}{rest:Lo}(e out:Z->D):∀(xs:List Z) (x0:Option R),(∀a∈xs,f (some (.v (e a))::rest) U=some (.v (out a),U))->bv (aT 0) bY f (xs.map e) (x0::rest) U=some (xs.map out,U)
 |[],_,_=>rfl|a::xs,x0,h=>by have h1:=h a zag;have ih:=dB e out xs (some (.v (e a))) fun b hb=>h b (zai _ hb);simp only [zaf,bv,aT,zcC,zav,bY,if_true,h1,ih]
def A2 {a b:Prop}(x:a)(y:b):a/\b:=⟨x,y⟩
section
variable {O:Lo}{U:ac}{x y z:R}{d:D}{n:Nat}{i:Int}
noncomputable def vE (a:Int)(o:Option (R×ac))(i:Nat)(g:Int->Int->Int)(O:Lo):Option ni:=o.bind fun r=>match r with|(.v (.int b),U1)=>some (.nx (O.set i (some (.v (.int (g a b))))) U1)|_=>none
def Gy (o:Option (Option R))(i:Nat)(g:Int->Int->Int)(f:FE)(O:Lo)(U:ac):Option ni:=match o with|some (some (.v (.int a)))=>vE a (f O U) i g O|_=>none
theorem RB {i g f}:yQ i g f O U=Gy O[i]? i g f O U:=rfl
theorem OP {a i g f}:Gy (some (some (.v (.int a)))) i g f O U=vE a (f O U) i g O:=rfl
theorem OO {a b i g}:vE a (some (.v (.int b),U)) i g O=some (.nx (O.set i (some (.v (.int (g a b))))) U):=rfl
def Gh (o:Option (List D))(U:ac):Option (R×ac):=o.bind fun xs=>(gd xs).bind fun is=>some (.v (.int is.sum),U)
def Ak (o:Option (Th))(U:ac):Option (R×ac):=o.bind fun is=>some (.v (.int is.sum),U)
theorem QZ:yK [x] U=Gh (f6 x U) U:=rfl
theorem OM {xs}:Gh (some xs) U=Ak (gd xs) U:=rfl
theorem OL {is}:Ak (some is) U=some (.v (.int is.sum),U):=rfl
def QA (o:Option ap):Option (List (aH×R)):=match o with|some (.dct kvs)=>some (kvs.map fun p=>(p.1,R.v p.2))|some (.fzd kvs)=>some (kvs.map fun p=>(p.1,R.v p.2))|some (.dr kvs)=>some kvs|some (.fzr kvs)=>some kvs|_=>none
def Li (o:Option (R×ac))(fk:FE)(O:Lo):Option (R×ac):=o.bind fun o=>(fk O o.2).bind fun k=>(kB o.1 k.2).bind fun kvs=>(ee k.1).bind fun key=>(cO kvs key).bind fun r=>some (r,k.2)
def Gx (x:R)(o:Option (R×ac)):Option (R×ac):=o.bind fun k=>(kB x k.2).bind fun kvs=>(ee k.1).bind fun key=>(cO kvs key).bind fun r=>some (r,k.2)
def Aw (o:Option (List (aH×R)))(y:R)(U:ac):Option (R×ac):=o.bind fun kvs=>(ee y).bind fun key=>(cO kvs key).bind fun r=>some (r,U)
def xc (o:Option R)(U:ac):Option (R×ac):=o.bind fun r=>some (r,U)
theorem Sy {fo fk}:l0 fo fk O U=Li (fo O U) fk O:=rfl
theorem Ro {fk}:Li (some (x,U)) fk O=Gx x (fk O U):=rfl
theorem Rn:Gx x (some (y,U))=Aw (kB x U) y U:=rfl
theorem Rm {kvs}:Aw (some kvs) (.v (.int i)) U=xc (cO kvs (.inl i)) U:=rfl
theorem Rj {kvs}:Aw (some kvs) (.v .non) U=xc (cO kvs (.inr none)) U:=rfl
theorem Rl:xc (some x) U=some (x,U):=rfl
theorem Sw:kB (.p n) U=QA U[n]?:=rfl
theorem Ra {kvs}:QA (some (.dr kvs))=some kvs:=rfl
theorem Q9 {kvs}:QA (some (.fzr kvs))=some kvs:=rfl
def Ox (o:Option ap):Option (List (aH×R)):=match o with|some (.dr kvs)=>some kvs|_=>none
def p4 (o:Option R)(n:Nat)(kvs:List (aH×R))(key:aH)(z:R)(U:ac):R×ac:=match o with|some r=>(r,U)|none=>(z,U.set n (.dr (kvs++[(key,z)])))
def sO (o:Option (List (aH×R)))(n:Nat)(y z:R)(U:ac):Option (R×ac):=o.bind fun kvs=>(ee y).bind fun key=>if kvs.length < 1000 then some (p4 (cO kvs key) n kvs key z U) else none
def xa (n:Nat)(y:R)(o:Option (R×ac)):Option (R×ac):=o.bind fun x=>sO (Ox x.2[n]?) n y x.1 x.2
def sP (n:Nat)(o:Option (R×ac))(fx:FE)(O:Lo):Option (R×ac):=o.bind fun k=>xa n k.1 (fx O k.2)
def Ov (o:Option ap)(n:Nat)(fk fx:FE)(O:Lo)(U:ac):Option (R×ac):=match o with|some (.dr _)=>sP n (fk O U) fx O|_=>none
def HM (o:Option (R×ac))(fk fx:FE)(O:Lo):Option (R×ac):=o.bind fun o=>match o.1 with|.p n=>Ov o.2[n]? n fk fx O o.2|_=>none
theorem Sv {fo fk fx}:o8 fo fk fx O U=HM (fo O U) fk fx O:=by
 unfold o8 HM;refine congrArg _ (funext fun o=>?_)
 cases o.1 with
 |p n =>
  dsimp only;unfold Ov uM
  cases e:o.2[n]? with|none=>rfl|some c =>
   cases c with
   |dr kvs =>
    show (fk O o.2).bind _=sP n _ fx O
    unfold sP;refine congrArg _ (funext fun k=>?_);unfold xa;refine congrArg _ (funext fun x=>?_);unfold sO Ox p4
    cases x.2[n]? with|none=>rfl|some c=>cases c <;> rfl
   |_=>rfl
 |_=>rfl
theorem Q8 {fk fx}:HM (some (.p n,U)) fk fx O=Ov U[n]? n fk fx O U:=rfl
theorem Q7 {kvs fk fx}:Ov (some (.dr kvs)) n fk fx O U=sP n (fk O U) fx O:=rfl
theorem Q6 {fx}:sP n (some (y,U)) fx O=xa n y (fx O U):=rfl
theorem Q5:xa n y (some (z,U))=sO (Ox U[n]?) n y z U:=rfl
theorem Q4 {kvs}:Ox (some (.dr kvs))=some kvs:=rfl
theorem Q3 {kvs}:sO (some kvs) n (.v (.int i)) z U=if kvs.length < 1000 then some (p4 (cO kvs (.inl i)) n kvs (.inl i) z U) else none:=rfl
theorem Q2 {kvs}:sO (some kvs) n (.v .non) z U=if kvs.length < 1000 then some (p4 (cO kvs (.inr none)) n kvs (.inr none) z U) else none:=rfl
theorem Q1 {kvs key}:p4 (some x) n kvs key z U=(x,U):=rfl
theorem Q0 {kvs key}:p4 none n kvs key z U=(z,U.set n (.dr (kvs++[(key,z)]))):=rfl
def KY (o:Option (R×ac))(fb:FE)(O:Lo):Option (R×ac):=o.bind fun a=>(fb O a.2).bind fun b=>(f6 a.1 b.2).bind fun xs=>(f6 b.1 b.2).bind fun ys=>if xs.length=ys.length/\xs.length<=sizeLine then some (.p b.2.length,b.2++[.lst (kH xs ys)]) else none
def Ga (x:R)(o:Option (R×ac)):Option (R×ac):=o.bind fun b=>(f6 x b.2).bind fun xs=>(f6 b.1 b.2).bind fun ys=>if xs.length=ys.length/\xs.length<=sizeLine then some (.p b.2.length,b.2++[.lst (kH xs ys)]) else none
def F9 (o p:Option (List D))(U:ac):Option (R×ac):=o.bind fun xs=>p.bind fun ys=>if xs.length=ys.length/\xs.length<=sizeLine then some (.p U.length,U++[.lst (kH xs ys)]) else none
theorem Ss {fa fb}:o5 fa fb O U=KY (fa O U) fb O:=rfl
theorem QV {fb}:KY (some (x,U)) fb O=Ga x (fb O U):=rfl
theorem QU:Ga x (some (y,U))=F9 (f6 x U) (f6 y U) U:=rfl
theorem QT {xs ys}:F9 (some xs) (some ys) U=if xs.length=ys.length/\xs.length<=sizeLine then some (.p U.length,U++[.lst (kH xs ys)]) else none:=rfl
def Sk (o:Option ap)(n:Nat)(U:ac):Option (List D×ac):=((match o with
  |some (.dct kvs)=>some (kvs.map (·.1),U.set n (.fzd kvs))|some (.fzd kvs)=>some (kvs.map (·.1),U)|some (.dr kvs)=>some (kvs.map (·.1),U.set n (.fzr kvs))|some (.fzr kvs)=>some (kvs.map (·.1),U)|_=>none):Option (List aH×ac)).bind fun b=>some (b.1.map HW.kD,b.2)
def HQ (o:Option (R×ac)):Option (List D×ac):=o.bind fun a=>(Ka a.1 a.2).bind fun b=>some (b.1.map HW.kD,b.2)
theorem SD {f}:k8 f O U=HQ (f O U):=rfl
theorem RA {ks ds}:HQ (some (.v (.fd ks ds),U))=some (ks.map HW.kD,U):=rfl
theorem Rz:HQ (some (.p n,U))=Sk U[n]? n U:=rfl
theorem Ry {kvs}:Sk (some (.dr kvs)) n U=some ((kvs.map (·.1)).map HW.kD,U.set n (.fzr kvs)):=rfl
theorem Re:HW.kD (.inl i)=.int i:=rfl
theorem Rb:HW.kD (.inr none)=.non:=rfl
def Oy (o:Option ap)(n:Nat)(k:aH)(z:R)(U:ac):Option (R×ac):=match o with|some (.dr [])=>some (.p n,U.set n (.dr [(k,z)]))|_=>none
def xf (n:Nat)(y:R)(o:Option (R×ac)):Option (R×ac):=o.bind fun b=>(ee y).bind fun k=>Oy b.2[n]? n k b.1 b.2
def Lj (n:Nat)(o:Option (R×ac))(fv:FE)(O:Lo):Option (R×ac):=o.bind fun a=>xf n a.1 (fv O a.2)
theorem Sz {fk fv}:o9 fk fv O U=Lj U.length (fk O (U++[.dr []])) fv O:=rfl
theorem Rs {fv}:Lj n (some (y,U)) fv O=xf n y (fv O U):=rfl
theorem Rr:xf n (.v (.int i)) (some (z,U))=Oy U[n]? n (.inl i) z U:=rfl
theorem Rq:xf n (.v .non) (some (z,U))=Oy U[n]? n (.inr none) z U:=rfl
theorem Rp {k}:Oy (some (.dr [])) n k z U=some (.p n,U.set n (.dr [(k,z)])):=rfl
theorem Rt:Fk O U=some (.p U.length,U++[.dr []]):=rfl
theorem Ru:Fn O U=some (.p U.length,U++[.dtr []]):=rfl
def HP (o:Option (List D×ac))(ix:List Nat)(k:Nat)(g:FG)(c:FT)(f:FE)(O:Lo):Option (R×ac):=o.bind fun a=>if a.1.length<=1000 then (mI g c f a.1 (dg k ix O) a.2).bind fun r =>
 if (r.1.map (·.1)).Nodup then some (.p r.2.length,r.2++[.dr (zj r.1)]) else none else none
theorem SA {ix k fi g c f}:Hi ix k fi g c f O U=HP (fi O U) ix k g c f O:=rfl
theorem Rw:HP (some ([],U)) [] 1 (aT 0) bY (ae 0) O=some (.p U.length,U++[.dr []]):=rfl
theorem Rv:HP (some ([.int 0],U)) [] 1 (aT 0) bY (ae 0) O=some (.p (U++[ap.lst []]).length,(U++[ap.lst []])++[.dr [(.inl 0,.p U.length)]]):=rfl
def Lh (o:Option (R×ac)):Option (List D×ac):=o.bind fun a=>match a.1 with|.v (.fl xs)=>some (l6 xs,a.2)|_=>none
theorem Sx {f}:Fi f O U=Lh (f O U):=rfl
theorem Ri {xs}:Lh (some (.v (.fl xs),U))=some (l6 xs,U):=rfl
theorem Rh {ks ds}:Mw true (.v (.int i)) (.v (.fd ks ds)) U=some (.v (.bl (!(ks.any fun k=>decide (k=.inl i)))),U):=rfl
theorem Rf:G8 true .non (.v .non) U=some (.v (.bl false),U):=rfl
theorem Rg:G8 true .non (.v (.int i)) U=some (.v (.bl true),U):=rfl
def Ou (o:Option ap):Option (List (Th×R)):=match o with|some (.dtr kvs)=>some kvs|_=>none
def Ai (o:Option (List (Th×R)))(k:Th)(U:ac):Option (R×ac):=o.bind fun kvs=>(jd kvs k).bind fun d=>some (d,U)
def Aj (x:R)(o:Option (R×ac)):Option (R×ac):=o.bind fun k=>match x,k.1 with
 |.p n,.v (.key ks)=>Ai (Ou k.2[n]?) ks k.2|_,_=>none
def K2 (o:Option (R×ac))(fk:FE)(O:Lo):Option (R×ac):=o.bind fun o=>Aj o.1 (fk O o.2)
theorem Su {fo fk}:CC fo fk O U=K2 (fo O U) fk O:=rfl
theorem QY {fk}:K2 (some (x,U)) fk O=Aj x (fk O U):=rfl
theorem QX {k}:Aj (.p n) (some (.v (.key k),U))=Ai (Ou U[n]?) k U:=rfl
theorem OK {kvs}:Ou (some (.dtr kvs))=some kvs:=rfl
theorem QW {kvs k}:Ai (some kvs) k U=xc (jd kvs k) U:=rfl
theorem KP:p8 [.p n] U=(Ou U[n]?).bind fun kvs=>if kvs.length < 64/\(kvs.length < 2\/∀p∈kvs,p.1≠[]) then some (.p U.length,U++[.lst ((bn (kvs.map (·.1))).map D.key)]) else none:=rfl
theorem F6 {ks ds}:kB (.v (.fd ks ds)) U=if ks.length=ds.length then some (ks.zip (ds.map R.v)) else none:=rfl
def Sj (o:Option ap)(U:ac):Option (R×ac):=match o with|some (.lst ds)=>(gN ds).bind fun kvs=>some (.p U.length,U++[.dct (nQ [] kvs)])|_=>none
theorem SC:nc [.p n] U=Sj U[n]? U:=rfl
theorem Rx {ds}:Sj (some (.lst ds)) U=(gN ds).bind fun kvs=>some (.p U.length,U++[.dct (nQ [] kvs)]):=rfl
theorem ON {kvs}:zK (some (.dct kvs))=some (.fd (kvs.map (·.1)) (kvs.map (·.2))):=rfl
end
end HW
namespace LW
open HW
abbrev aU (i:Int):Option R:=some (.v (.int i))
abbrev aX (n:Nat):Option R:=some (.p n)
end LW
local macro_rules
 | `(tactic| push_cast [$xs,*] $[$loc]?) => do
  let ids : Array (Lean.TSyntax `term) := ("sU SU SS xM xL NK NJ Pa NI Pd NL O9 NH RM NF NG Pb Pc Ms qo CG Hj SL Hk CL CK RP Pz Kg Nc Ki SM Sh CI NR NT MZ CJ NS yg MY Qw Op PP N3 Sb Qc PC PY Of Hm Qi yj N4 wy yh NZ Oe M8 Kf Fo CN Qa Qb CP yi Fs CM M5 M0 Pp R4 PV PF R6 R8 Sc PQ ph Qk zB PR PU On Oo P6 P8 P7 P9 Sa P5 P3 Qq Qp P0 N6 RS PD R7 PZ Pq Pr Ps Qm Qn Ql JH Mp O8 Qy CQ CO Qh Kh Py RO Px Pw Qt Qu Qv Qs Sg Sf Se Pv Pu Pt RQ PB R5 PX Qr Om Ol Qd Qf Sd Qe Nf Nd Ot N5 rW CT CS PM NY Og RT PL PK PJ RZ RY PN Na RX RV RU PH NX NW NV NU N0 N1 M3 M9 Qo Oj Oi Oh R9 Qx Os Oq Nb R3 R1 R0 Qj M6 M7 Ft N2 M4 P1 Qg N7 N8 Od Oc Ob Oa N9 RB OP OO QZ OM OL Sy Ro Rn Rm Rj Rl Sw Ra Q9 Sv Q8 Q7 Q6 Q5 Q4 Q3 Q2 Q1 Q0 Ss QV QU QT SD RA Rz Ry Re Rb Sz Rs Rr Rq Rp Rt Ru SA Rw Rv Sx Ri Rh Rf Rg Su QY QX OK QW ON SC Rx".splitOn " ").toArray.map fun n => ⟨(Lean.mkIdent (String.toName ("HW." ++ n))).raw⟩
  `(tactic| simp -implicitDefEqProofs only [$xs,*, $[$ids:term],*, Nat.reduceAdd, if_true, zdg] $[$loc]?)
namespace LW
open PyProof.Rows L2 HW
noncomputable def mn (i:Nat):Stmt:=PySem.Challenge.pw_heldwhen_k22_columns.main.body.getD i (.Pass ⟨0,0,0,0⟩)
abbrev kQ:Stmt:=mn 3
def eY:aM ["ground","pairs","last","steps","turn","reach"] ["ground","pairs"] (ah kQ):=by ac_rfl
abbrev dX:Stmt:=mn 5
def be:aM ["weighted","changes","reach","weight","sign","edge","change"] ["weighted"] (ah dX):=by ac_rfl
abbrev bJ:Stmt:=mn 6
def ax:aM ["weighted","below","many","total","lowest","last","edges","changes","edge","here"] ["weighted"] (ah bJ):=by ac_rfl
abbrev eX:Stmt:=mn 7
def bX:aM ["plots","steps","place","plot","turn","reach"] ["plots"] (ah eX):=by ac_rfl
abbrev bc:Stmt:=mn 8
def aC:aM ["weighted","weights","reaches","steps","grounds","pairs","last","turn","place","reach","here","weight"] ["weighted"] (ah bc):=by ac_rfl
abbrev gk:Stmt:=mn 10
def rf:aM ["plots"] ["plots"] (ah gk):=by ac_rfl
abbrev fP:Stmt:=mn 11
def fQ:aM ["pairs","plots","row","plot","entries"] ["pairs"] (ah fP):=by ac_rfl
abbrev fG:Stmt:=mn 13
def pR:aM ["row","columns"] ["row","columns"] (ah fG):=by ac_rfl
abbrev fI:Stmt:=mn 14
def pS:aM ["table","wanted"] ["table","wanted"] (ah fI):=by ac_rfl
abbrev jr:Stmt:=mn 16
def tt:aM ["script","k"] ["script","k"] (ah jr):=by ac_rfl
abbrev jm:Stmt:=mn 17
def jt:aM ["cell","k","number"] ["cell","k"] (ah jm):=by ac_rfl
abbrev iR:Stmt:=mn 18
def cQ:aM ["number","scale","edges","at","rest","turn"] ["number","scale"] (ah iR):=by ac_rfl
abbrev jp:Stmt:=mn 19
def bK:aM ["cell","k","scale","number","ground","last","turn","steps","step","reach"] ["cell","k","scale"] (ah jp):=by ac_rfl
abbrev kR:Stmt:=mn 20
def gJ:aM ["cell","k","width","number","row","column"] ["cell","k","width"] (ah kR):=by ac_rfl
abbrev jq:Stmt:=mn 21
def cq:aM ["plot","day","turn","truth","edges","at","reach","edge"] ["plot","day","turn"] (ah jq):=by ac_rfl
abbrev iO:Stmt:=mn 22
def q9:aM ["thing"] ["thing"] (ah iO):=by ac_rfl
abbrev iQ:Stmt:=mn 23
def lJ:aM ["some","k"] ["some"] (ah iQ):=by ac_rfl
abbrev fW:Stmt:=mn 24
def nu:aM ["thing"] ["thing"] (ah fW):=by ac_rfl
abbrev eu:Stmt:=mn 25
def ez:aM ["thing","last","step"] ["thing"] (ah eu):=by ac_rfl
abbrev c8:Stmt:=mn 26
def fX:aM ["thing","width","entry","rows"] ["thing","width"] (ah c8):=by ac_rfl
abbrev gh:Stmt:=mn 27
def gm:aM ["cells","width","scale","plots","cell","plot"] ["cells","width","scale"] (ah gh):=by ac_rfl
abbrev iP:Stmt:=mn 28
def rc:aM ["cell"] ["cell"] (ah iP):=by ac_rfl
abbrev jo:Stmt:=mn 29
def bV:aM ["cell","k","table","scale","number","turn","day","plot","reach"] ["cell","k","table","scale"] (ah jo):=by ac_rfl
abbrev jZ:Stmt:=mn 30
def yP:aM ["table","day","turn"] ["table","day","turn"] (ah jZ):=by ac_rfl
abbrev fH:Stmt:=mn 31
def kI:aM ["cell","width","number"] ["cell","width"] (ah fH):=by ac_rfl
abbrev gH:Stmt:=mn 32
def vK:aM ["rows","wanted"] ["rows","wanted"] (ah gH):=by ac_rfl
abbrev vH:Stmt:=mn 33
def eA:aM ["script","width","scale","table","wanted","handed","answer","none","cell","day","turn","rows","kept","whole"] ["script"] (ah vH):=by ac_rfl
abbrev ig:FS:=(ju (fB (aA (gg true) (ae 5) (ae 2)))
  (ar (fS (uF jk (ae 3) (af (bT (af (ae 4) (af (ae 5) ai))) ai)))
  (aI 2 (ae 5)))
  bG)
abbrev mK:FS:=(ar (aI 2 (ae 0))
  (ar (aI 3 (fq ai))
  (ar (dF (ba (ae 1)) (iF 2 (aq (aT 4) (aq (aT 5) bz)))
  ig)
  (bP (bT (af (ae 0) (af (dI lD (af (ae 3) ai)) ai)))))))
def gD:MF:=e7 6 (mK)
abbrev dL:FS:=(ar (aI 6 (uG (ae 1) (ae 5) (bT (af (fK (.int 0)) (af (fK (.int 0)) ai)))))
  (ar (pT (bT (af (aA gA (aA c7 (ae 6) (fK (.int 0))) (ae 4)) (af (aA gA (aA c7 (ae 6) (fK (.int 1))) (aA mw (ae 4) (ae 3))) ai))) (pW (ae 1) (ae 5)))
  (aI 4 (nJ t6 (ae 4)))))
abbrev cF:FS:=(ar (aI 4 (Ke (fm (aA c7 (ae 2) (fK (.int 0)))) (nJ t6 (fK (.int 1))) (fK (.int 1))))
  (dF (ba (aA c7 (ae 2) (fK (.int 1)))) (aT 5)
  dL))
abbrev eR:FS:=(ar (aI 1 yf)
  (ar (dF (ba (ae 0)) (iF 2 (aq (aT 2) (aq (aT 3) bz)))
  cF)
  (bP (ae 1))))
def bQ:MF:=e7 7 (eR)
abbrev cz:FS:=(fS (uF jk (o8 (ae 1) (ae 4) (fq ai)) (af (bT (af (ae 2) (af (ae 5) ai))) ai)))
abbrev eG:FS:=(dF (ba (aA c7 (ae 3) (fK (.int 1)))) (iF 2 (aq (aT 4) (aq (aT 5) bz)))
  cz)
abbrev f8:FS:=(ar (aI 1 Fk)
  (ar (dF (Fi (cD (ae 0))) (iF 2 (aq (aT 2) (aq (aT 3) bz)))
  eG)
  (bP (Fj (ae 1)))))
def ck:MF:=e7 6 (f8)
abbrev i8:FS:=(bP (dI v9 (af (bH [0] 1 (ba (ae 1)) (aT 0) bY (aA c7 (ae 1) (ae 0))) ai)))
def cT:MF:=e7 2 (i8)
abbrev i9:FS:=(ar (ju (fB (aA KK (ae 1) (dI eU (af (ae 0) ai))))
  (bP (aA c7 (ae 0) (ae 1)))
  bG)
  (bP (fK (.int 0))))
def bZ:MF:=e7 2 (i9)
abbrev lh:FS:=(ar (aI 2 (aA cC (aA mw (aA gA (aA cC (ae 0) (fK (.int 2147483629))) (fK (.int 1))) (fK (.int 1103515245))) (fK (.int 2147483629))))
  (ar (aI 2 (aA cC (aA gA (aA gA (aA mw (ae 2) (ae 2)) (aA mw (ae 1) (fK (.int 69621)))) (fK (.int 12345))) (fK (.int 2147483587))))
  (bP (aA cC (aA mw (ae 2) (ae 2)) (fK (.int 2147483629))))))
def aV:MF:=e7 3 (lh)
abbrev iu:FS:=(ar (aI 3 (aA gA (aA gA (ae 3) (fK (.int 1))) (aA cC (aA dh (ae 4) (fK (.int 2))) (fK (.int 4)))))
  (ar (fS (uF jk (ae 2) (af (aA mw (ae 3) (ae 1)) ai)))
  (aI 4 (aA dh (ae 4) (fK (.int 8))))))
abbrev jT:FS:=(ar (aI 2 (fq ai))
  (ar (aI 3 (aA mq (aA cC (ae 0) (fK (.int 5))) (fK (.int 2))))
  (ar (aI 4 (aA dh (ae 0) (fK (.int 15))))
  (ar (dF (uB (aA gA (aA cC (aA dh (ae 0) (fK (.int 5))) (fK (.int 3))) (aA cC (ae 4) (fK (.int 2))))) (aT 5)
  iu)
  (bP (bT (af (aA KK (aA cC (ae 4) (fK (.int 5))) (fK (.int 2))) (af (dI lD (af (ae 2) ai)) ai))))))))
def dw:MF:=e7 6 (jT)
abbrev eJ:FS:=(ju (fB (aA KM (ae 5) (ae 2)))
  (pT (ae 6) (iF 2 (aq (aT 3) (aq (aT 4) bz))))
  bG)
abbrev eI:FS:=(ju (fB (aA KM (ae 7) (ae 1)))
  (aI 3 (CF (ae 3)))
  bG)
abbrev ll:FS:=(ar (pT (aA c7 (ae 0) (fK (.int 0))) (iF 2 (aq (aT 3) (aq (aT 4) bz))))
  (ar (dF (ba (aA c7 (ae 0) (fK (.int 1)))) (iF 2 (aq (aT 5) (aq (aT 6) bz)))
  eJ)
  (ar (dF (ba (ae 4)) (aT 7)
  eI)
  (bP (ae 3)))))
def dY:MF:=e7 8 (ll)
abbrev u4:FS:=(bP (rV (nJ (jG "int") (ae 0)) (CF (nJ (jG "bool") (ae 0)))))
def du:MF:=e7 1 (u4)
abbrev jR:FS:=(bP (aA c7 (fq (af (fK (.int 1)) (af (fK (.int 1)) (af (aA nB (fK (.int 10)) (fK (.int 40))) ai)))) (aA cC (ae 0) (fK (.int 3)))))
def d9:MF:=e7 1 (jR)
abbrev mM (bt:Bool):FS:=(bP (ww (bH [1] 1 (ba (ae 0)) (aT 0) bY (dI lD (af (bH [0] 1 (ba (ae 1)) (aT 0) bY (aA c7 (ae 1) (ae 0))) ai)))))
def fe (bt:Bool):MC:=tw 2 (mM bt)
abbrev aw (bt:Bool):FS:=(ar (yQ 2 (fun a b=>a+b) (aA c7 (l0 (ae 7) (ae 8)) (fK (.int 0))))
  (ar (yQ 3 (fun a b=>a+b) (aA c7 (l0 (ae 7) (ae 8)) (fK (.int 1))))
  (ar (aI 9 (Ke (fB (aA Hd (ae 2) (fK (.int 0)))) (ae 3) (fK .non)))
  (ar (ju (fB (aA (gg true) (ae 9) (ae 5)))
  (ar (fS (uF jk (l0 (ae 6) (ae 5)) (af (ae 8) ai)))
  (fS (uF jk (o8 (ae 6) (ae 9) (fq ai)) (af (ae 8) ai))))
  bG)
  (aI 5 (ae 9))))))
abbrev dM (bt:Bool):FS:=(ar (aI 1 (bH [] 2 (ba (ae 0)) (iF 2 (aq (aT 0) (aq (aT 1) bz))) (fm (aA c7 (ae 0) (fK (.int 0)))) (ae 1)))
  (ar (aI 2 (dI eU (af (ae 1) ai)))
  (ar (aI 3 (dI yK (af (ae 1) ai)))
  (ar (aI 4 (Ke (fB (aA Hd (ae 2) (fK (.int 0)))) (ae 3) (fK .non)))
  (ar (aI 5 (ae 4))
  (ar (aI 6 (o9 (ae 4) (fq ai)))
  (ar (aI 7 (aR bQ 1 (af (cD (ae 0)) ai)))
  (ar (dF (ba (dI (lH bt) (af (ae 7) ai))) (aT 8)
  (aw bt))
  (bP (dI nc (af (bH [4,6] 1 (k8 (ae 6)) (aT 0) (fB (nJ (G8 true .non) (ae 0))) (bT (af (ae 0) (af (bT (af (aA (gg false) (ae 0) (ae 1)) (af (dI lD (af (l0 (ae 2) (ae 0)) ai)) ai))) ai)))) ai)))))))))))
def aS (bt:Bool):MF:=e7 10 (dM bt)
abbrev gq:FS:=(ar (aI 9 (aR dw 2 (af (cD (aR aV 2 (af (cD (ae 0)) (af (cD (aA gA (aA gA (ae 1) (fK (.int 5))) (ae 8))) ai)))) (af (cD (ae 2)) ai))))
  (ar (ju (fB (aA (gg true) (ae 9) (ae 5)))
  (ar (fS (uF jk (ae 7) (af (bT (af (aA mw (ae 6) (aA c7 (fq (af (fK (.int 1)) (af (aA nB (fK (.int 10)) (fK (.int 30))) ai))) (aA cC (aA dh (ae 3) (fK (.int 80))) (fK (.int 2))))) (af (ae 9) ai))) ai)))
  (aI 5 (ae 9)))
  bG)
  (aI 6 (aA gA (aA gA (ae 6) (fK (.int 1))) (aA cC (aA dh (aR aV 2 (af (cD (ae 0)) (af (cD (aA gA (ae 1) (fK (.int 9)))) ai))) (fK (.int 3))) (fK (.int 3)))))))
abbrev lj:FS:=(ar (aI 3 (aR aV 2 (af (cD (ae 0)) (af (cD (ae 1)) ai))))
  (ar (aI 4 (bT (af (fK (.bl false)) (af (bT ai) ai))))
  (ar (ju (fB (aA (gg false) (aA cC (ae 3) (fK (.int 4))) (fK (.int 0))))
  (aI 4 (aR dw 2 (af (cD (aA dh (ae 3) (fK (.int 4)))) (af (cD (ae 2)) ai))))
  bG)
  (ar (aI 5 (ae 4))
  (ar (aI 6 (aA mq (aA cC (aA dh (ae 3) (fK (.int 16))) (fK (.int 5))) (fK (.int 1))))
  (ar (aI 7 (fq ai))
  (ar (dF (uB (aA cC (aA dh (ae 3) (fK (.int 4))) (fK (.int 4)))) (aT 8)
  gq)
  (bP (bT (af (ae 4) (af (dI lD (af (ae 7) ai)) ai)))))))))))
def gS:MF:=e7 10 (lj)
abbrev jC:FS:=(ar (fS (uF jk (ae 4) (af (aA c7 (fq (af (fK (.int 0)) (af (fK (.int 1)) (af (fK (.int 1)) (af (nJ t6 (fK (.int 1))) (af (fK (.int 2)) (af (aA cC (ae 0) (aA nB (fK (.int 10)) (fK (.int 50)))) ai))))))) (aA cC (ae 3) (fK (.int 6)))) ai)))
  (aI 3 (aA dh (ae 3) (fK (.int 6)))))
abbrev mL:FS:=(ar (aI 3 (aR aV 2 (af (cD (ae 0)) (af (cD (aA gA (ae 1) (fK (.int 17)))) ai))))
  (ar (aI 4 (fq ai))
  (ar (dF (uB (ae 2)) (aT 5)
  jC)
  (bP (dI v9 (af (ae 4) ai))))))
def iE:MF:=e7 6 (mL)
abbrev fL:FS:=(ju (hJ (d6 (fm (aR du 1 (af (cD (aA c7 (ae 0) (ae 1))) ai)))) (sT (fB (aA Hd (ae 1) (fK (.int 0)))) (fB (aA KM (aA c7 (ae 0) (ae 1)) (aA c7 (ae 0) (aA mq (ae 1) (fK (.int 1))))))))
  (bP (fK (.bl false)))
  bG)
abbrev jS:FS:=(ar (dF (uB (dI eU (af (ae 0) ai))) (aT 1)
  fL)
  (bP (fK (.bl true))))
def cx:MF:=e7 2 (jS)
abbrev fu:FS:=(ar (aI 4 (aR aV 2 (af (cD (ae 0)) (af (cD (aA gA (ae 1) (fK (.int 31)))) ai))))
  (ar (aI 5 (aA mq (aA cC (ae 4) (fK (.int 9))) (fK (.int 2))))
  (ar (aI 6 (aA mq (aA mw (aA mq (aA cC (aA dh (ae 4) (fK (.int 9))) (fK (.int 15))) (fK (.int 4))) (ae 3)) (aA cC (aA dh (ae 4) (fK (.int 135))) (fK (.int 2)))))
  (ar (ju (sT (fB (aA (gg true) (ae 2) (fq ai))) (fB (aA Hd (aA cC (aA dh (ae 4) (fK (.int 270))) (fK (.int 3))) (fK (.int 0)))))
  (ar (aI 7 (aA c7 (aA c7 (ae 2) (aA cC (aA dh (ae 4) (fK (.int 810))) (dI eU (af (ae 2) ai)))) (fK (.int 1))))
  (ar (aI 8 (aA c7 (ae 7) (fK (.int 0))))
  (ar (ju (fB (aA (gg true) (aA c7 (ae 7) (fK (.int 1))) (bT ai)))
  (ar (pT (aA c7 (aA c7 (ae 7) (fK (.int 1))) (aA cC (aA dh (ae 4) (fK (.int 9000))) (dI eU (af (aA c7 (ae 7) (fK (.int 1))) ai)))) (iF 2 (aq (aT 5) (aq (aT 8) bz))))
  (aI 5 (aA mq (ae 5) (aA cC (aA dh (ae 4) (fK (.int 90000))) (fK (.int 2))))))
  bG)
  (ju (fB (aA (gg true) (aA c7 (ae 8) (fK (.int 1))) (bT ai)))
  (aI 6 (aA mq (aA c7 (aA c7 (ae 8) (fK (.int 1))) (aA cC (aA dh (ae 4) (fK (.int 180000))) (dI eU (af (aA c7 (ae 8) (fK (.int 1))) ai)))) (aA cC (aA dh (ae 4) (fK (.int 1800000))) (fK (.int 2)))))
  bG))))
  bG)
  (bP (bT (af (ae 6) (af (ae 5) ai))))))))
def gR:MF:=e7 9 (fu)
abbrev pF:FS:=(bP (bH [1,2] 2 (ba (ae 0)) (iF 2 (aq (aT 0) (aq (aT 1) bz))) (fm (aR dY 3 (af (cD (ae 1)) (af (cD (ae 2)) (af (cD (ae 3)) ai))))) (ae 0)))
def gQ:MC:=tw 3 (pF)
abbrev gy:FS:=(ar (ju (fB (aA (gg false) (ae 1) (fK (.int 0))))
  (bP (bT ai))
  bG)
  (ar (aI 2 (aR aV 2 (af (cD (ae 0)) (af (fK (.int 6)) ai))))
  (bP (dI lD (af (bH [0,1] 1 (uB (aA cC (ae 2) (fK (.int 5)))) (aT 0) bY (aA cC (aA dh (aR aV 2 (af (cD (ae 1)) (af (cD (aA gA (fK (.int 60)) (ae 0))) ai))) (fK (.int 7))) (ae 2))) ai)))))
def dG:MF:=e7 3 (gy)
abbrev cE (bt:Bool):FS:=(pT (cD (ae 9)) (pW (ae 2) (ae 8)))
abbrev bU (bt:Bool):FS:=(fS (uF jk (o8 (ae 5) (ae 11) (fq ai)) (af (bT (af (ae 7) (af (l0 (ae 10) (ae 11)) ai))) ai)))
abbrev bE (bt:Bool):FS:=(ju (fB (aA (Mw true) (ae 11) (ae 10)))
  (fS (uF jk (l0 (ae 5) (ae 11)) (af (bT (af (ae 7) (af (fK (.tup [(.bl false),(.tup [])])) ai))) ai)))
  bG)
abbrev bg (bt:Bool):FS:=(ar (dF (ba (l0 (ae 3) (ae 7))) (iF 2 (aq (aT 8) (aq (aT 9) bz)))
  (cE bt))
  (ar (aI 10 (aR (aS bt) 1 (af (cD (o5 (ae 2) (ae 1))) ai)))
  (ar (dF (k8 (ae 10)) (aT 11)
  (bU bt))
  (ar (dF (k8 (ae 6)) (aT 11)
  (bE bt))
  (aI 6 (ae 10))))))
abbrev eQ (bt:Bool):FS:=(ar (aI 1 (bH [] 2 (ba (ae 0)) (iF 2 (aq (aT 0) (aq (aT 1) bz))) bY (ae 1)))
  (ar (aI 2 (bH [] 2 (ba (ae 0)) (iF 2 (aq (aT 0) (aq (aT 1) bz))) bY (aA c7 (ae 0) (fK (.int 0)))))
  (ar (aI 3 (aR ck 1 (af (cD (bH [] 2 (ba (ae 0)) (iF 2 (aq (aT 0) (aq (aT 1) bz))) bY (ae 0))) ai)))
  (ar (aI 4 (aR (aS bt) 1 (af (cD (o5 (ae 2) (ae 1))) ai)))
  (ar (aI 5 (Hi [] 1 (k8 (ae 4)) (aT 0) bY (ae 0)))
  (ar (aI 6 (ae 4))
  (ar (dF (ba (dI (lH bt) (af (ae 3) ai))) (aT 7)
  (bg bt))
  (bP (dI nc (af (bH [4,5] 1 (k8 (ae 5)) (aT 0) bY (bT (af (ae 0) (af (aR gD 2 (af (cD (uG (ae 1) (ae 0) (fK (.tup [(.bl false),(.tup [])])))) (af (cD (l0 (ae 2) (ae 0))) ai))) ai)))) ai))))))))))
def cu (bt:Bool):MF:=e7 12 (eQ bt)
abbrev g7:FS:=(ar (ju (hJ (d6 (fm (nJ (jG "tuple") (ae 0)))) (hJ (fB (aA (gg true) (dI eU (af (ae 0) ai)) (fK (.int 2)))) (d6 (fm (nJ (jG "bool") (aA c7 (ae 0) (fK (.int 0))))))))
  (bP (fK (.bl false)))
  bG)
  (bP (rV (nJ (jG "tuple") (aA c7 (ae 0) (fK (.int 1)))) (aR cx 1 (af (cD (aA c7 (ae 0) (fK (.int 1)))) ai)))))
def cJ:MF:=e7 1 (g7)
abbrev dQ (bt:Bool):FS:=(ar (aI 5 (aR gS 3 (af (cD (ae 4)) (af (fK (.int 1)) (af (cD (ae 2)) ai)))))
  (ju (fB (aA (gg true) (ae 5) (bT (af (bT (af (fK (.bl false)) (af (bT ai) ai))) (af (bT ai) ai)))))
  (pT (cD (ae 5)) (uq (ae 3) (aR iE 3 (af (cD (ae 4)) (af (fK (.int 1)) (af (cD (ae 1)) ai))))))
  bG))
abbrev jQ (bt:Bool):FS:=(ar (aI 3 Fm)
  (ar (dF (ba (ae 0)) (aT 4)
  (dQ bt))
  (bP (bH [3] 1 (ba (dI yL (af (ae 3) ai))) (aT 0) bY (bT (af (uC (ae 0)) (af (CD (ae 1) (ae 0)) ai)))))))
def d8 (bt:Bool):MC:=tw 6 (jQ bt)
abbrev fV (bt:Bool):FS:=(ar (ju (fB (aA (gg false) (dI eU (af (ae 0) ai)) (fK (.int 1))))
  (bP (aA c7 (ae 0) (fK (.int 0))))
  bG)
  (bP (uG (aR (cu bt) 1 (af (cD (bH [] 1 (ba (ae 0)) (aT 0) bY (bT (af (ae 0) (af (fK (.int 0)) ai))))) ai)) (fK (.int 0)) (fK (.tup [(.tup [(.bl false),(.tup [])]),(.tup [])])))))
def cy (bt:Bool):MF:=e7 1 (fV bt)
abbrev dW:FS:=(ar (ju (hJ (d6 (fm (nJ (jG "tuple") (ae 2)))) (hJ (fB (aA (gg true) (dI eU (af (ae 2) ai)) (fK (.int 2)))) (hJ (d6 (fm (aR cJ 1 (af (cD (aA c7 (ae 2) (fK (.int 1)))) ai)))) (fB (aA (gg false) (aA c7 (ae 2) (fK (.int 1))) (ae 1))))))
  (bP (fK (.bl false)))
  bG)
  (aI 1 (aA c7 (ae 2) (fK (.int 1)))))
abbrev iz:FS:=(ar (ju (hJ (d6 (fm (nJ (jG "tuple") (ae 0)))) (hJ (fB (aA (gg true) (dI eU (af (ae 0) ai)) (fK (.int 2)))) (d6 (fm (aR cJ 1 (af (cD (aA c7 (ae 0) (fK (.int 0)))) ai))))))
  (bP (fK (.bl false)))
  bG)
  (ar (ju (d6 (fm (nJ (jG "tuple") (aA c7 (ae 0) (fK (.int 1))))))
  (bP (fK (.bl false)))
  bG)
  (ar (aI 1 (aA c7 (ae 0) (fK (.int 0))))
  (ar (dF (ba (aA c7 (ae 0) (fK (.int 1)))) (aT 2)
  dW)
  (bP (aR cx 1 (af (cD (bH [] 1 (ba (aA c7 (ae 0) (fK (.int 1)))) (aT 0) bY (aA c7 (ae 0) (fK (.int 0))))) ai)))))))
def dP:MF:=e7 3 (iz)
abbrev eF (bt:Bool):FS:=(fS (uF jk (o7 (ae 1) (ae 2) (fq ai)) (af (ae 3) ai)))
abbrev lg (bt:Bool):FS:=(ar (aI 1 Fn)
  (ar (dF (ba (ae 0)) (iF 2 (aq (aT 2) (aq (aT 3) bz)))
  (eF bt))
  (ar (aI 4 (bH [1] 1 (ba (dI p8 (af (ae 1) ai))) (aT 0) bY (bT (af (uC (ae 0)) (af (aR (cy bt) 1 (af (cD (CC (ae 1) (ae 0))) ai)) ai)))))
  (bP (bH [] 1 (ba (ae 4)) (aT 0) (fB (aA (gg true) (aA c7 (ae 0) (fK (.int 1))) (fK (.tup [(.tup [(.bl false),(.tup [])]),(.tup [])])))) (ae 0))))))
def gP (bt:Bool):MC:=tw 5 (lg bt)
abbrev dH (bt:Bool):FS:=(ar (ju (hJ (d6 (fm (nJ (jG "tuple") (ae 2)))) (hJ (fB (aA (gg true) (dI eU (af (ae 2) ai)) (fK (.int 2)))) (d6 (fm (nJ (jG "tuple") (aA c7 (ae 2) (fK (.int 0))))))))
  (bP (fK (.bl false)))
  bG)
  (ar (ju (hJ (fB (aA (gg true) (dI eU (af (aA c7 (ae 2) (fK (.int 0))) ai)) (ae 1))) (d6 (fm (dI (Dl false) (af (bH [] 1 (ba (aA c7 (ae 2) (fK (.int 0)))) (aT 0) bY (aR du 1 (af (cD (ae 0)) ai))) ai)))))
  (bP (fK (.bl false)))
  bG)
  (ju (hJ (d6 (fm (aR dP 1 (af (cD (aA c7 (ae 2) (fK (.int 1)))) ai)))) (fB (aA (gg false) (aA c7 (ae 2) (fK (.int 1))) (bT (af (bT (af (fK (.bl false)) (af (bT ai) ai))) (af (bT ai) ai))))))
  (bP (fK (.bl false)))
  bG)))
abbrev g6 (bt:Bool):FS:=(ar (ju (d6 (fm (nJ (jG "list") (ae 0))))
  (bP (fK (.bl false)))
  bG)
  (ar (dF (ba (ae 0)) (aT 2)
  (dH bt))
  (ar (aI 3 (bH [] 1 (ba (ae 0)) (aT 0) bY (aA c7 (ae 0) (fK (.int 0)))))
  (bP (aA (gg false) (ae 3) (ww (ae 3)))))))
def bC (bt:Bool):MF:=e7 4 (g6 bt)
abbrev ja (bt:Bool):FS:=(bP (cj (gP bt) 1 (af (bH [1] 2 (ba (ae 0)) (iF 2 (aq (aT 0) (aq (aT 1) bz))) bY (bT (af (aR cT 2 (af (cD (ae 0)) (af (cD (ae 2)) ai))) (af (ae 1) ai)))) ai)))
def aJ (bt:Bool):MC:=tw 2 (ja bt)
abbrev lR (bt:Bool):FS:=(ar (pT (aR gR 4 (af (cD (ae 8)) (af (fK (.int 2)) (af (cD (ae 3)) (af (cD (ae 2)) ai))))) (iF 2 (aq (aT 9) (aq (aT 10) bz))))
  (ar (aI 11 (cj gQ 3 (af (ae 3) (af (ae 9) (af (ae 10) ai)))))
  (ju (hJ (fB (aA (gg true) (cj gQ 3 (af (ae 6) (af (ae 9) (af (ae 10) ai)))) (cj (fe bt) 2 (af (ae 11) (af (ae 4) ai))))) (fB (aA (gg true) (cj gQ 3 (af (ae 7) (af (ae 9) (af (ae 10) ai)))) (cj (fe bt) 2 (af (ae 11) (af (bT ai) ai))))))
  (bP (fK (.bl false)))
  bG)))
abbrev Dk (bt:Bool):FS:=(ar (aI 1 (aA cC (aR bZ 2 (af (cD (ae 0)) (af (fK (.int 0)) ai))) (fK (.int 4))))
  (ar (aI 2 (aR d9 1 (af (cD (aA dh (aR bZ 2 (af (cD (ae 0)) (af (fK (.int 0)) ai))) (fK (.int 4)))) ai)))
  (ar (aI 3 (cj (d8 bt) 3 (af (Kd (ae 0) (kK (fK (.int 1))) (kK (fK (.int 31)))) (af (ae 1) (af (ae 2) ai)))))
  (ar (aI 4 (aR dG 2 (af (cD (aA dh (aR bZ 2 (af (cD (ae 0)) (af (fK (.int 0)) ai))) (fK (.int 12)))) (af (cD (ae 1)) ai))))
  (ar (aI 5 (dI mZ (af (ae 3) ai)))
  (ar (aI 6 (cj (aJ bt) 2 (af (ae 5) (af (ae 4) ai))))
  (ar (ju (hJ (fB (aA (gg true) (ae 5) (ae 3))) (d6 (fm (jO (bC bt) 2 (af (ae 6) (af (dI eU (af (ae 4) ai)) ai))))))
  (bP (fK (.bl false)))
  bG)
  (ar (aI 7 (cj (aJ bt) 2 (af (ae 5) (af (bT ai) ai))))
  (ar (ju (hJ (d6 (fm (jO (bC bt) 2 (af (ae 7) (af (fK (.int 0)) ai))))) (fB (aA (gg true) (dI eU (af (ae 7) ai)) (dI t9 (af (fK (.int 1)) (af (dI eU (af (ae 3) ai)) ai))))))
  (bP (fK (.bl false)))
  bG)
  (ar (dF (ba (aA gA (fq (af (fK (.int 0)) ai)) (Kd (ae 0) t4 (kK (fK (.int 63)))))) (aT 8)
  (lR bt))
  (ar (aI 12 (dI mZ (af (ae 6) ai)))
  (ar (fS (uF jk (ae 6) (af (bT ai) ai)))
  (ar (aI 13 (cj (aJ bt) 2 (af (ae 5) (af (uE (ae 1)) ai))))
  (ar (ju (hJ (fB (aA (gg true) (ae 5) (ae 3))) (fB (aA (gg true) (ae 13) (ae 3))))
  (bP (fK (.bl false)))
  bG)
  (ar (fS (uF jk (ae 13) (af (bT ai) ai)))
  (bP (rV (aA (gg false) (ae 5) (ae 3)) (rV (aA (gg false) (cj (aJ bt) 2 (af (ae 5) (af (ae 4) ai))) (ae 12)) (aA (gg false) (cj (aJ bt) 2 (af (fq ai) (af (ae 4) ai))) (fq ai))))))))))))))))))))
def ua (bt:Bool):MF:=e7 14 (Dk bt)
noncomputable def zs:Tl:=["tuple","len","sum","sorted","dict","enumerate","list","zip","range","isinstance","bool","int","all","set","min"]
def OA (mg:Td)(l:Tl):Prop:=∀(i:Nat) (x:Str),l[i]?=some x->mg x=none
def HE {mg:Td}:OA mg []:=fun i x e=>by simp at e
theorem cM {mg:Td}{x:Str}{l:Tl}(h:mg x=none)(t:OA mg l):OA mg (x::l):=fun i y e=>by
 cases i with|zero=>cases e;exact h|succ i=>exact t i y e
def Zs (mg:Td):Prop:=OA mg zs
section
variable {P:Program}{w:World}{K:zac}{mg:Td}{base:Heap}
set_option maxHeartbeats 4000000
def zp (z:Zs mg)(d:b8 K mg "plot_of" kQ ["ground","pairs"])  : bO P w K mg base 1 "plot_of" ["ground","pairs"] gD :=
 okP (k:=0) d eY fun f cdv A outer s H E hr =>
  (am (aK 2 eY.nd (ad 0))
  (am (aK 3 eY.nd (gc aj))
  (am (d7 rfl (ca (ad 1)) (jL rfl (aP (bu 4 eY.nd) (aP (bu 5 eY.nd) dA)))
  (aE (eZ (iL hr.units (ad 5) (ad 2))
  (am (fY (jf (ad 3) (ag (bM (ag (ad 4) (ag (ad 5) aj))) aj)))
  (aE (aK 2 eY.nd (ad 5))))
  cI)) PassesOwn.never)
  (aE (bm (bM (ag (ad 0) (ag (j4 rfl (z 0 _ rfl) (ag (ad 3) aj)) aj))))))))
def lV (z:Zs mg)(d:b8 K mg "changes_by_edge" dX ["weighted"])  : bO P w K mg base 1 "changes_by_edge" ["weighted"] bQ :=
 okP (k:=0) d be fun f cdv A outer s H E hr =>
  (am (aK 1 be.nd Je)
  (am (d7 rfl (ca (ad 0)) (jL rfl (aP (bu 2 be.nd) (aP (bu 3 be.nd) dA)))
  (am (aK 4 be.nd (Jd (eV (bS (ad 2) ak)) (tJ ak) ak))
  (aE (d7 rfl (ca (bS (ad 2) ak)) (bu 5 be.nd)
  (am (aK 6 be.nd (vN hr.units (ad 1) (ad 5) (bM (ag ak (ag ak aj)))))
  (am (ow (bM (ag (dq (bS (ad 6) ak) (ad 4)) (ag (dq (bS (ad 6) ak) (mW (ad 4) (ad 3))) aj))) (MD hr.units (ad 1) (ad 5)))
  (aE (aK 4 be.nd (tJ (ad 4)))))) PassesOwn.never))) PassesOwn.never)
  (aE (bm (ad 1)))))
def kE (z:Zs mg)(d:b8 K mg "reaches_by_weight" bJ ["weighted"])(eN:bO P w K mg base 1 "changes_by_edge" ["weighted"] bQ):bO P w K mg base 2 "reaches_by_weight" ["weighted"] (aS (!HS.bt w)) :=
 okP (k:=1) d ax fun f cdv A outer s H E hr =>
  (am (kS 1 [] ["reach","weight"] [] rfl (show ay (ah bJ) _ ["reach","weight"] [] by ac_rfl) ax.nd (ca (ad 0)) (fun cl C s₂ H₂ fp=>⟨(jL rfl (aP (bu 0 (show (["reach","weight"]:Tl).Nodup by decide)) (aP (bu 1 (show (["reach","weight"]:Tl).Nodup by decide)) dA))),(ye (eV (bS (ad 0) ak))),(ad 1)⟩))
  (am (aK 2 ax.nd (gL rfl (z 1 _ rfl) (ag (ad 1) aj)))
  (am (aK 3 ax.nd (L4 rfl rfl (z 2 _ rfl) (ag (ad 1) aj)))
  (am (aK 4 ax.nd (Jd (DQ (ad 2) ak) (ad 3) G2))
  (am (aK 5 ax.nd (ad 4))
  (am (aK 6 ax.nd (Eo (ad 4) (gc aj)))
  (am (aK 7 ax.nd (aN eN (hr.mono (by decide)) (ag (bN (ad 0)) aj)))
  (am (d7 rfl (ca (qg rfl rfl (z 3 _ rfl) (ag (ad 7) aj))) (bu 8 ax.nd)
  (am (AZ 2 ax.nd (bS (mX hr.units (ad 7) (ad 8)) ak))
  (am (AZ 3 ax.nd (bS (mX hr.units (ad 7) (ad 8)) ak))
  (am (aK 9 ax.nd (Jd (DQ (ad 2) ak) (ad 3) G2))
  (am (eZ (iL hr.units (ad 9) (ad 5))
  (am (fY (jf (mX hr.units (ad 6) (ad 5)) (ag (ad 8) aj)))
  (aE (fY (jf (vM (ad 6) (ad 9) (gc aj)) (ag (ad 8) aj)))))
  cI)
  (aE (aK 5 ax.nd (ad 9))))))) PassesOwn.never)
  (aE (bm (Bv rfl rfl (z 4 _ rfl) (ag (dJ [4,6] ["told"] ["lowest","edges"] rfl (show ay (ah bJ) _ ["told"] ["lowest","edges"] by ac_rfl) (Cr (ad 6)) (fun cl C s₂ H₂ fp=>⟨(bu 0 (show (["told","lowest","edges"]:Tl).Nodup by decide)),(ye (HR (ad 0))),(bM (ag (ad 0) (ag (bM (ag (Bu hr.units (ad 0) (ad 1)) (ag (j4 rfl (z 0 _ rfl) (ag (mX hr.units (ad 2) (ad 0)) aj)) aj))) aj)))⟩)) aj))))))))))))
def nF (z:Zs mg)(d:b8 K mg "steps_by_turn" eX ["plots"])  : bO P w K mg base 1 "steps_by_turn" ["plots"] ck :=
 okP (k:=0) d bX fun f cdv A outer s H E hr =>
  (am (aK 1 bX.nd L8)
  (am (Ie rfl (Pi rfl (z 5 _ rfl) (bN (ad 0))) (jL rfl (aP (bu 2 bX.nd) (aP (bu 3 bX.nd) dA)))
  (aE (d7 rfl (ca (bS (ad 3) ak)) (jL rfl (aP (bu 4 bX.nd) (aP (bu 5 bX.nd) dA)))
  (aE (fY (jf (vM (ad 1) (ad 4) (gc aj)) (ag (bM (ag (ad 2) (ag (ad 5) aj))) aj)))) PassesOwn.never)) PassesOwn.never)
  (aE (bm (L7 (ad 1))))))
def lU (z:Zs mg)(d:b8 K mg "plots_by_weight" bc ["weighted"])(f7:bO P w K mg base 1 "steps_by_turn" ["plots"] ck)(cG:bO P w K mg base 2 "reaches_by_weight" ["weighted"] (aS (!HS.bt w)))(mC:bO P w K mg base 1 "plot_of" ["ground","pairs"] gD)(Jab:jX K mg "NO_NUMBERS" (.tup [(.bl false),(.tup [])])):bO P w K mg base 3 "plots_by_weight" ["weighted"] (cu (!HS.bt w)) :=
 okP (k:=2) d aC fun f cdv A outer s H E hr =>
  (am (kS 1 [] ["plot","weight"] [] rfl (show ay (ah bc) _ ["plot","weight"] [] by ac_rfl) aC.nd (ca (ad 0)) (fun cl C s₂ H₂ fp=>⟨(jL rfl (aP (bu 0 (show (["plot","weight"]:Tl).Nodup by decide)) (aP (bu 1 (show (["plot","weight"]:Tl).Nodup by decide)) dA))),gf,(ad 1)⟩))
  (am (kS 2 [] ["plot","weight"] [] rfl (show ay (ah bc) _ ["plot","weight"] [] by ac_rfl) aC.nd (ca (ad 0)) (fun cl C s₂ H₂ fp=>⟨(jL rfl (aP (bu 0 (show (["plot","weight"]:Tl).Nodup by decide)) (aP (bu 1 (show (["plot","weight"]:Tl).Nodup by decide)) dA))),gf,(bS (ad 0) ak)⟩))
  (am (aK 3 aC.nd (aN f7 (hr.mono (by decide)) (ag (bN (dJ [] ["plot","weight"] [] rfl (show ay (ah bc) _ ["plot","weight"] [] by ac_rfl) (ca (ad 0)) (fun cl C s₂ H₂ fp=>⟨(jL rfl (aP (bu 0 (show (["plot","weight"]:Tl).Nodup by decide)) (aP (bu 1 (show (["plot","weight"]:Tl).Nodup by decide)) dA))),gf,(ad 0)⟩))) aj)))
  (am (aK 4 aC.nd (aN cG (hr.mono (by decide)) (ag (bN (GY rfl rfl (z 6 _ rfl) rfl (z 7 _ rfl) (ad 2) (ad 1))) aj)))
  (am (aK 5 aC.nd (Jg [] ["weight"] [] rfl rfl (z 4 _ rfl) (show ay (ah bc) _ ["weight"] [] by ac_rfl) (Cr (ad 4)) (fun cl C s₂ H₂ fp=>⟨(bu 0 (show (["weight"]:Tl).Nodup by decide)),gf,(ad 0)⟩)))
  (am (aK 6 aC.nd (ad 4))
  (am (d7 rfl (ca (qg rfl rfl (z 3 _ rfl) (ag (ad 3) aj))) (bu 7 aC.nd)
  (am (d7 rfl (ca (mX hr.units (ad 3) (ad 7))) (jL rfl (aP (bu 8 aC.nd) (aP (bu 9 aC.nd) dA)))
  (aE (ow (bN (ad 9)) (MD hr.units (ad 2) (ad 8)))) PassesOwn.never)
  (am (aK 10 aC.nd (aN cG (hr.mono (by decide)) (ag (bN (GY rfl rfl (z 6 _ rfl) rfl (z 7 _ rfl) (ad 2) (ad 1))) aj)))
  (am (d7 rfl (Cr (ad 10)) (bu 11 aC.nd)
  (aE (fY (jf (vM (ad 5) (ad 11) (gc aj)) (ag (bM (ag (ad 7) (ag (mX hr.units (ad 10) (ad 11)) aj))) aj)))) PassesOwn.never)
  (am (d7 rfl (Cr (ad 6)) (bu 11 aC.nd)
  (aE (eZ (AG hr.units (ad 11) (ad 10))
  (aE (fY (jf (mX hr.units (ad 5) (ad 11)) (ag (bM (ag (ad 7) (ag (j5 Jab) aj))) aj))))
  cI)) PassesOwn.never)
  (aE (aK 6 aC.nd (ad 10))))))) PassesOwn.never)
  (aE (bm (Bv rfl rfl (z 4 _ rfl) (ag (dJ [4,5] ["weight"] ["grounds","pairs"] rfl (show ay (ah bc) _ ["weight"] ["grounds","pairs"] by ac_rfl) (Cr (ad 5)) (fun cl C s₂ H₂ fp=>⟨(bu 0 (show (["weight","grounds","pairs"]:Tl).Nodup by decide)),gf,(bM (ag (ad 0) (ag (aN mC (hr.mono (by decide)) (ag (bN (vN hr.units (ad 1) (ad 0) (j5 Jab))) (ag (bN (mX hr.units (ad 2) (ad 0))) aj))) aj)))⟩)) aj)))))))))))
def uh (z:Zs mg)(d:b8 K mg "all_spots" gk ["plots"])(eK:bO P w K mg base 3 "plots_by_weight" ["weighted"] (cu (!HS.bt w)))(Jaa:jX K mg "NO_SPOTS" (.tup [(.tup [(.bl false),(.tup [])]),(.tup [])])):bO P w K mg base 4 "all_spots" ["plots"] (cy (!HS.bt w)) :=
 okP (k:=3) d rf fun f cdv A outer s H E hr =>
  (am (eZ (AH hr.units (gL rfl (z 1 _ rfl) (ag (ad 0) aj)) ak)
  (aE (bm (bS (ad 0) ak)))
  cI)
  (aE (bm (vN hr.units (aN eK (hr.mono (by decide)) (ag (bN (dJ [] ["plot"] [] rfl (show ay (ah gk) _ ["plot"] [] by ac_rfl) (ca (ad 0)) (fun cl C s₂ H₂ fp=>⟨(bu 0 (show (["plot"]:Tl).Nodup by decide)),gf,(bM (ag (ad 0) (ag ak aj)))⟩))) aj)) ak (j5 Jaa)))))
def wa (z:Zs mg)(d:b8 K mg "table_of" fP ["pairs"])(jK:bO P w K mg base 4 "all_spots" ["plots"] (cy (!HS.bt w)))(Jaa:jX K mg "NO_SPOTS" (.tup [(.tup [(.bl false),(.tup [])]),(.tup [])])):io P w K mg base 5 "table_of" ["pairs"] (gP (!HS.bt w)) :=
 okN (k:=4) d fQ fun f cdv A outer s H E hr =>
  (am (aK 1 fQ.nd Ma)
  (am (d7 rfl (ca (ad 0)) (jL rfl (aP (bu 2 fQ.nd) (aP (bu 3 fQ.nd) dA)))
  (aE (fY (jf (Jc hr.units (ad 1) (ad 2) (gc aj)) (ag (ad 3) aj)))) PassesOwn.never)
  (am (kS 4 [1] ["row"] ["plots"] rfl (show ay (ah fP) _ ["row"] ["plots"] by ac_rfl) fQ.nd (ca (yX rfl rfl (z 3 _ rfl) (ag (ad 1) aj))) (fun cl C s₂ H₂ fp=>⟨(bu 0 (show (["row","plots"]:Tl).Nodup by decide)),gf,(bM (ag (GZ (ad 0)) (ag (aN jK (hr.mono (by decide)) (ag (bN (L0 hr.units (ad 1) (ad 0))) aj)) aj)))⟩))
  (aE (bm (dJ [] ["entry"] [] rfl (show ay (ah fP) _ ["entry"] [] by ac_rfl) (ca (ad 4)) (fun cl C s₂ H₂ fp=>⟨(bu 0 (show (["entry"]:Tl).Nodup by decide)),(ye (iL hr.units (bS (ad 0) ak) (j5 Jaa))),(ad 0)⟩)))))))
def rO (z:Zs mg)(d:b8 K mg "numbers_in" fG ["row","columns"])  : bO P w K mg base 1 "numbers_in" ["row","columns"] cT :=
 okP (k:=0) d pR fun f cdv A outer s H E hr =>
  (aE (bm (Bt rfl (z 0 _ rfl) (ag (dJ [0] ["column"] ["row"] rfl (show ay (ah fG) _ ["column"] ["row"] by ac_rfl) (ca (ad 1)) (fun cl C s₂ H₂ fp=>⟨(bu 0 (show (["column","row"]:Tl).Nodup by decide)),gf,(bS (ad 1) (ad 0))⟩)) aj))))
def rQ (z:Zs mg)(d:b8 K mg "columns_of" fI ["table","wanted"])(kX:io P w K mg base 5 "table_of" ["pairs"] (gP (!HS.bt w)))(iX:bO P w K mg base 1 "numbers_in" ["row","columns"] cT):io P w K mg base 6 "columns_of" ["table","wanted"] (aJ (!HS.bt w)) :=
 okN (k:=5) d pS fun f cdv A outer s H E hr =>
  (aE (bm (df kX (hr.mono (by decide)) (ag (dJ [1] ["row","plot"] ["wanted"] rfl (show ay (ah fI) _ ["row","plot"] ["wanted"] by ac_rfl) (ca (ad 0)) (fun cl C s₂ H₂ fp=>⟨(jL rfl (aP (bu 0 (show (["row","plot","wanted"]:Tl).Nodup by decide)) (aP (bu 1 (show (["row","plot","wanted"]:Tl).Nodup by decide)) dA))),gf,(bM (ag (aN iX (hr.mono (by decide)) (ag (bN (ad 0)) (ag (bN (ad 2)) aj))) (ag (ad 1) aj)))⟩)) aj))))
def wg (z:Zs mg)(d:b8 K mg "_law_cell" jr ["script","k"])  : bO P w K mg base 1 "_law_cell" ["script","k"] bZ :=
 okP (k:=0) d tt fun f cdv A outer s H E hr =>
  (am (eZ (OZ (ad 1) (gL rfl (z 1 _ rfl) (ag (ad 0) aj)))
  (aE (bm (bS (ad 0) (ad 1))))
  cI)
  (aE (bm ak)))
def wc (z:Zs mg)(d:b8 K mg "_law_stir" jm ["cell","k"])  : bO P w K mg base 1 "_law_stir" ["cell","k"] aV :=
 okP (k:=0) d jt fun f cdv A outer s H E hr =>
  (am (aK 2 jt.nd (cr (mW (dq (cr (ad 0) ak) ak) ak) ak))
  (am (aK 2 jt.nd (cr (dq (dq (mW (ad 2) (ad 2)) (mW (ad 1) ak)) ak) ak))
  (aE (bm (cr (mW (ad 2) (ad 2)) ak)))))
def ug (z:Zs mg)(d:b8 K mg "_law_reach" iR ["number","scale"])  : bO P w K mg base 1 "_law_reach" ["number","scale"] dw :=
 okP (k:=0) d cQ fun f cdv A outer s H E hr =>
  (am (aK 2 cQ.nd (gc aj))
  (am (aK 3 cQ.nd (mV (cr (ad 0) ak) ak))
  (am (aK 4 cQ.nd (dO (ad 0) ak))
  (am (d7 rfl (Cq rfl (z 8 _ rfl) (dq (cr (dO (ad 0) ak) ak) (cr (ad 4) ak))) (bu 5 cQ.nd)
  (am (aK 3 cQ.nd (dq (dq (ad 3) ak) (cr (dO (ad 4) ak) ak)))
  (am (fY (jf (ad 2) (ag (mW (ad 3) (ad 1)) aj)))
  (aE (aK 4 cQ.nd (dO (ad 4) ak))))) PassesOwn.never)
  (aE (bm (bM (ag (O7 (cr (ad 4) ak) ak) (ag (j4 rfl (z 0 _ rfl) (ag (ad 2) aj)) aj)))))))))
def we (z:Zs mg)(d:b8 K mg "_law_plot" jp ["cell","k","scale"])(bo:bO P w K mg base 1 "_law_stir" ["cell","k"] aV)(ii:bO P w K mg base 1 "_law_reach" ["number","scale"] dw):bO P w K mg base 2 "_law_plot" ["cell","k","scale"] gS :=
 okP (k:=1) d bK fun f cdv A outer s H E hr =>
  (am (aK 3 bK.nd (aN bo (hr.mono (by decide)) (ag (bN (ad 0)) (ag (bN (ad 1)) aj))))
  (am (aK 4 bK.nd (bM (ag jx (ag (bM aj) aj))))
  (am (eZ (AH hr.units (cr (ad 3) ak) ak)
  (aE (aK 4 bK.nd (aN ii (hr.mono (by decide)) (ag (bN (dO (ad 3) ak)) (ag (bN (ad 2)) aj)))))
  cI)
  (am (aK 5 bK.nd (ad 4))
  (am (aK 6 bK.nd (mV (cr (dO (ad 3) ak) ak) ak))
  (am (aK 7 bK.nd (gc aj))
  (am (d7 rfl (Cq rfl (z 8 _ rfl) (cr (dO (ad 3) ak) ak)) (bu 8 bK.nd)
  (am (aK 9 bK.nd (aN ii (hr.mono (by decide)) (ag (bN (aN bo (hr.mono (by decide)) (ag (bN (ad 0)) (ag (bN (dq (dq (ad 1) ak) (ad 8))) aj)))) (ag (bN (ad 2)) aj))))
  (am (eZ (iL hr.units (ad 9) (ad 5))
  (am (fY (jf (ad 7) (ag (bM (ag (mW (ad 6) (bS (gc (ag ak (ag (Bp ak ak) aj))) (cr (dO (ad 3) ak) ak))) (ag (ad 9) aj))) aj)))
  (aE (aK 5 bK.nd (ad 9))))
  cI)
  (aE (aK 6 bK.nd (dq (dq (ad 6) ak) (cr (dO (aN bo (hr.mono (by decide)) (ag (bN (ad 0)) (ag (bN (dq (ad 1) ak)) aj))) ak) ak)))))) PassesOwn.never)
  (aE (bm (bM (ag (ad 4) (ag (j4 rfl (z 0 _ rfl) (ag (ad 7) aj)) aj))))))))))))
def zq (z:Zs mg)(d:b8 K mg "_law_row" kR ["cell","k","width"])(bo:bO P w K mg base 1 "_law_stir" ["cell","k"] aV):bO P w K mg base 2 "_law_row" ["cell","k","width"] iE :=
 okP (k:=1) d gJ fun f cdv A outer s H E hr =>
  (am (aK 3 gJ.nd (aN bo (hr.mono (by decide)) (ag (bN (ad 0)) (ag (bN (dq (ad 1) ak)) aj))))
  (am (aK 4 gJ.nd (gc aj))
  (am (d7 rfl (Cq rfl (z 8 _ rfl) (ad 2)) (bu 5 gJ.nd)
  (am (fY (jf (ad 4) (ag (bS (gc (ag ak (ag ak (ag ak (ag (tJ ak) (ag ak (ag (cr (ad 0) (Bp ak ak)) aj))))))) (cr (ad 3) ak)) aj)))
  (aE (aK 3 gJ.nd (dO (ad 3) ak)))) PassesOwn.never)
  (aE (bm (Bt rfl (z 0 _ rfl) (ag (ad 4) aj)))))))
def wf (z:Zs mg)(d:b8 K mg "_law_lies" jq ["plot","day","turn"])  : bO P w K mg base 1 "_law_lies" ["plot","day","turn"] dY :=
 okP (k:=0) d cq fun f cdv A outer s H E hr =>
  (am (ow (bS (ad 0) ak) (jL rfl (aP (bu 3 cq.nd) (aP (bu 4 cq.nd) dA))))
  (am (d7 rfl (ca (bS (ad 0) ak)) (jL rfl (aP (bu 5 cq.nd) (aP (bu 6 cq.nd) dA)))
  (aE (eZ (HU (ad 5) (ad 2))
  (aE (ow (ad 6) (jL rfl (aP (bu 3 cq.nd) (aP (bu 4 cq.nd) dA)))))
  cI)) PassesOwn.never)
  (am (d7 rfl (ca (ad 4)) (bu 7 cq.nd)
  (aE (eZ (HU (ad 7) (ad 1))
  (aE (aK 3 cq.nd (G0 (ad 3))))
  cI)) PassesOwn.never)
  (aE (bm (ad 3))))))
def uc (z:Zs mg)(d:b8 K mg "_law_whole" iO ["thing"])  : bO P w K mg base 1 "_law_whole" ["thing"] du :=
 okP (k:=0) d q9 fun f cdv A outer s H E hr =>
  (aE (bm (xx (jw zk rfl (z 9 _ rfl) rfl (z 11 _ rfl) zL (ad 0)) (Bq (G0 (jw oO rfl (z 9 _ rfl) rfl (z 10 _ rfl) pC (ad 0)))))))
def uf (z:Zs mg)(d:b8 K mg "_law_rises" iQ ["some"])(eh:bO P w K mg base 1 "_law_whole" ["thing"] du):bO P w K mg base 2 "_law_rises" ["some"] cx :=
 okP (k:=1) d lJ fun f cdv A outer s H E hr =>
  (am (d7 rfl (Cq rfl (z 8 _ rfl) (gL rfl (z 1 _ rfl) (ag (ad 0) aj))) (bu 1 lJ.nd)
  (aE (eZ (yJ (kw (gG (eV (aN eh (hr.mono (by decide)) (ag (bN (bS (ad 0) (ad 1))) aj)))) (jl (yJ (F7 (DQ (ad 1) ak) (Aa (HU (bS (ad 0) (ad 1)) (bS (ad 0) (mV (ad 1) ak)))))))))
  (aE (bm jx))
  cI)) PassesOwn.never)
  (aE (bm jx)))
def oQ (z:Zs mg)(d:b8 K mg "_law_is_reach" fW ["thing"])(ek:bO P w K mg base 2 "_law_rises" ["some"] cx):bO P w K mg base 3 "_law_is_reach" ["thing"] cJ :=
 okP (k:=2) d nu fun f cdv A outer s H E hr =>
  (am (eZ (yJ (kw (gG (eV (jw dz rfl (z 9 _ rfl) rfl (z 0 _ rfl) dD (ad 0)))) (kw (iL hr.units (gL rfl (z 1 _ rfl) (ag (ad 0) aj)) ak) (jl (gG (eV (jw oO rfl (z 9 _ rfl) rfl (z 10 _ rfl) pC (bS (ad 0) ak))))))))
  (aE (bm jx))
  cI)
  (aE (bm (xx (jw dz rfl (z 9 _ rfl) rfl (z 0 _ rfl) dD (bS (ad 0) ak)) (Bq (aN ek (hr.mono (by decide)) (ag (bN (bS (ad 0) ak)) aj)))))))
def pV (z:Zs mg)(d:b8 K mg "_law_is_plot" eu ["thing"])(ek:bO P w K mg base 2 "_law_rises" ["some"] cx)(eM:bO P w K mg base 3 "_law_is_reach" ["thing"] cJ):bO P w K mg base 4 "_law_is_plot" ["thing"] dP :=
 okP (k:=3) d ez fun f cdv A outer s H E hr =>
  (am (eZ (yJ (kw (gG (eV (jw dz rfl (z 9 _ rfl) rfl (z 0 _ rfl) dD (ad 0)))) (kw (iL hr.units (gL rfl (z 1 _ rfl) (ag (ad 0) aj)) ak) (jl (gG (eV (aN eM (hr.mono (by decide)) (ag (bN (bS (ad 0) ak)) aj))))))))
  (aE (bm jx))
  cI)
  (am (eZ (gG (eV (jw dz rfl (z 9 _ rfl) rfl (z 0 _ rfl) dD (bS (ad 0) ak))))
  (aE (bm jx))
  cI)
  (am (aK 1 ez.nd (bS (ad 0) ak))
  (am (d7 rfl (ca (bS (ad 0) ak)) (bu 2 ez.nd)
  (am (eZ (yJ (kw (gG (eV (jw dz rfl (z 9 _ rfl) rfl (z 0 _ rfl) dD (ad 2)))) (kw (iL hr.units (gL rfl (z 1 _ rfl) (ag (ad 2) aj)) ak) (kw (gG (eV (aN eM (hr.mono (by decide)) (ag (bN (bS (ad 2) ak)) aj)))) (jl (AH hr.units (bS (ad 2) ak) (ad 1)))))))
  (aE (bm jx))
  cI)
  (aE (aK 1 ez.nd (bS (ad 2) ak)))) PassesOwn.never)
  (aE (bm (aN ek (hr.mono (by decide)) (ag (bN (dJ [] ["step"] [] rfl (show ay (ah eu) _ ["step"] [] by ac_rfl) (ca (bS (ad 0) ak)) (fun cl C s₂ H₂ fp=>⟨(bu 0 (show (["step"]:Tl).Nodup by decide)),gf,(bS (ad 0) ak)⟩))) aj))))))))
def oP (z:Zs mg)(d:b8 K mg "_law_is_table" c8 ["thing","width"])(iw:bO P w K mg base 4 "_law_is_plot" ["thing"] dP)(eh:bO P w K mg base 1 "_law_whole" ["thing"] du):bO P w K mg base 5 "_law_is_table" ["thing","width"] (bC (!HS.bt w)) :=
 okP (k:=4) d fX fun f cdv A outer s H E hr =>
  (am (eZ (gG (eV (jw v8 rfl (z 9 _ rfl) rfl (z 6 _ rfl) wR (ad 0))))
  (aE (bm jx))
  cI)
  (am (d7 rfl (ca (ad 0)) (bu 2 fX.nd)
  (am (eZ (yJ (kw (gG (eV (jw dz rfl (z 9 _ rfl) rfl (z 0 _ rfl) dD (ad 2)))) (kw (iL hr.units (gL rfl (z 1 _ rfl) (ag (ad 2) aj)) ak) (jl (gG (eV (jw dz rfl (z 9 _ rfl) rfl (z 0 _ rfl) dD (bS (ad 2) ak))))))))
  (aE (bm jx))
  cI)
  (am (eZ (yJ (kw (iL hr.units (gL rfl (z 1 _ rfl) (ag (bS (ad 2) ak) aj)) (ad 1)) (jl (gG (eV (Mb rfl rfl (z 12 _ rfl) (ag (dJ [] ["one"] [] rfl (show ay (ah c8) _ ["one"] [] by ac_rfl) (ca (bS (ad 2) ak)) (fun cl C s₂ H₂ fp=>⟨(bu 0 (show (["one"]:Tl).Nodup by decide)),gf,(aN eh (hr.mono (by decide)) (ag (bN (ad 0)) aj))⟩)) aj)))))))
  (aE (bm jx))
  cI)
  (aE (eZ (yJ (kw (gG (eV (aN iw (hr.mono (by decide)) (ag (bN (bS (ad 2) ak)) aj)))) (jl (AH hr.units (bS (ad 2) ak) (bM (ag (bM (ag jx (ag (bM aj) aj))) (ag (bM aj) aj)))))))
  (aE (bm jx))
  cI)))) PassesOwn.never)
  (am (kS 3 [] ["entry"] [] rfl (show ay (ah c8) _ ["entry"] [] by ac_rfl) fX.nd (ca (ad 0)) (fun cl C s₂ H₂ fp=>⟨(bu 0 (show (["entry"]:Tl).Nodup by decide)),gf,(bS (ad 0) ak)⟩))
  (aE (bm (Bu hr.units (ad 3) (G3 rfl hr.units rfl (z 3 _ rfl) rfl (z 13 _ rfl) (ad 3))))))))
def ud (z:Zs mg)(d:b8 K mg "_law_table" gh ["cells","width","scale"])(kZ:bO P w K mg base 2 "_law_plot" ["cell","k","scale"] gS)(mD:bO P w K mg base 2 "_law_row" ["cell","k","width"] iE):io P w K mg base 3 "_law_table" ["cells","width","scale"] (d8 (!HS.bt w)) :=
 okN (k:=2) d gm fun f cdv A outer s H E hr =>
  (am (aK 3 gm.nd L9)
  (am (d7 rfl (ca (ad 0)) (bu 4 gm.nd)
  (am (aK 5 gm.nd (aN kZ (hr.mono (by decide)) (ag (bN (ad 4)) (ag ak (ag (bN (ad 2)) aj)))))
  (aE (eZ (iL hr.units (ad 5) (bM (ag (bM (ag jx (ag (bM aj) aj))) (ag (bM aj) aj))))
  (aE (ow (bN (ad 5)) (MB hr.units (ad 3) (aN mD (hr.mono (by decide)) (ag (bN (ad 4)) (ag ak (ag (bN (ad 1)) aj)))))))
  cI))) PassesOwn.never)
  (aE (bm (dJ [3] ["row"] ["plots"] rfl (show ay (ah gh) _ ["row"] ["plots"] by ac_rfl) (ca (yW rfl rfl (z 3 _ rfl) (ag (ad 3) aj))) (fun cl C s₂ H₂ fp=>⟨(bu 0 (show (["row","plots"]:Tl).Nodup by decide)),gf,(bM (ag (GZ (ad 0)) (ag (L3 hr.units (ad 1) (ad 0)) aj)))⟩))))))
def ue (z:Zs mg)(d:b8 K mg "_law_scale" iP ["cell"])  : bO P w K mg base 1 "_law_scale" ["cell"] d9 :=
 okP (k:=0) d rc fun f cdv A outer s H E hr =>
  (aE (bm (bS (gc (ag ak (ag ak (ag (Bp ak ak) aj)))) (cr (ad 0) ak))))
def wd (z:Zs mg)(d:b8 K mg "_law_spot" jo ["cell","k","table","scale"])(bo:bO P w K mg base 1 "_law_stir" ["cell","k"] aV):bO P w K mg base 2 "_law_spot" ["cell","k","table","scale"] gR :=
 okP (k:=1) d bV fun f cdv A outer s H E hr =>
  (am (aK 4 bV.nd (aN bo (hr.mono (by decide)) (ag (bN (ad 0)) (ag (bN (dq (ad 1) ak)) aj))))
  (am (aK 5 bV.nd (mV (cr (ad 4) ak) ak))
  (am (aK 6 bV.nd (mV (mW (mV (cr (dO (ad 4) ak) ak) ak) (ad 3)) (cr (dO (ad 4) ak) ak)))
  (am (eZ (yJ (F7 (iL hr.units (ad 2) (gc aj)) (Aa (DQ (cr (dO (ad 4) ak) ak) ak))))
  (am (aK 7 bV.nd (bS (bS (ad 2) (cr (dO (ad 4) ak) (gL rfl (z 1 _ rfl) (ag (ad 2) aj)))) ak))
  (am (aK 8 bV.nd (bS (ad 7) ak))
  (am (eZ (iL hr.units (bS (ad 7) ak) (bM aj))
  (am (ow (bS (bS (ad 7) ak) (cr (dO (ad 4) ak) (gL rfl (z 1 _ rfl) (ag (bS (ad 7) ak) aj)))) (jL rfl (aP (bu 5 bV.nd) (aP (bu 8 bV.nd) dA))))
  (aE (aK 5 bV.nd (mV (ad 5) (cr (dO (ad 4) ak) ak)))))
  cI)
  (aE (eZ (iL hr.units (bS (ad 8) ak) (bM aj))
  (aE (aK 6 bV.nd (mV (bS (bS (ad 8) ak) (cr (dO (ad 4) ak) (gL rfl (z 1 _ rfl) (ag (bS (ad 8) ak) aj)))) (cr (dO (ad 4) ak) ak))))
  cI)))))
  cI)
  (aE (bm (bM (ag (ad 6) (ag (ad 5) aj)))))))))
def Cf (z:Zs mg)(d:b8 K mg "_law_at" jZ ["table","day","turn"])(k7:bO P w K mg base 1 "_law_lies" ["plot","day","turn"] dY):io P w K mg base 2 "_law_at" ["table","day","turn"] gQ :=
 okN (k:=1) d yP fun f cdv A outer s H E hr =>
  (aE (bm (dJ [1,2] ["row","plot"] ["day","turn"] rfl (show ay (ah jZ) _ ["row","plot"] ["day","turn"] by ac_rfl) (ca (ad 0)) (fun cl C s₂ H₂ fp=>⟨(jL rfl (aP (bu 0 (show (["row","plot","day","turn"]:Tl).Nodup by decide)) (aP (bu 1 (show (["row","plot","day","turn"]:Tl).Nodup by decide)) dA))),(ye (eV (aN k7 (hr.mono (by decide)) (ag (bN (ad 1)) (ag (bN (ad 2)) (ag (bN (ad 3)) aj)))))),(ad 0)⟩))))
def rP (z:Zs mg)(d:b8 K mg "_law_wanted" fH ["cell","width"])(bo:bO P w K mg base 1 "_law_stir" ["cell","k"] aV):bO P w K mg base 2 "_law_wanted" ["cell","width"] dG :=
 okP (k:=1) d kI fun f cdv A outer s H E hr =>
  (am (eZ (AH hr.units (ad 1) ak)
  (aE (bm (bM aj)))
  cI)
  (am (aK 2 kI.nd (aN bo (hr.mono (by decide)) (ag (bN (ad 0)) (ag ak aj))))
  (aE (bm (j4 rfl (z 0 _ rfl) (ag (dJ [0,1] ["k"] ["cell","width"] rfl (show ay (ah fH) _ ["k"] ["cell","width"] by ac_rfl) (Cq rfl (z 8 _ rfl) (cr (ad 2) ak)) (fun cl C s₂ H₂ fp=>⟨(bu 0 (show (["k","cell","width"]:Tl).Nodup by decide)),gf,(cr (dO (aN bo (hr.mono (by decide)) (ag (bN (ad 1)) (ag (bN (dq ak (ad 0))) aj))) ak) (ad 2))⟩)) aj))))))
def zr (z:Zs mg)(d:b8 K mg "_law_due" gH ["rows","wanted"])  : io P w K mg base 1 "_law_due" ["rows","wanted"] (fe (!HS.bt w)) :=
 okN (k:=0) d vK fun f cdv A outer s H E hr =>
  (aE (bm (G3 rfl hr.units rfl (z 3 _ rfl) rfl (z 13 _ rfl) (dJ [1] ["row"] ["wanted"] rfl (show ay (ah gH) _ ["row"] ["wanted"] by ac_rfl) (ca (ad 0)) (fun cl C s₂ H₂ fp=>⟨(bu 0 (show (["row","wanted"]:Tl).Nodup by decide)),gf,(j4 rfl (z 0 _ rfl) (ag (dJ [0] ["column"] ["row"] rfl (FC (show ay (tD _ (ah gH)) _ ["column"] ["row"] by ac_rfl)) (ca (ad 1)) (fun cl C s₂ H₂ fp=>⟨(bu 0 (show (["column","row"]:Tl).Nodup by decide)),gf,(bS (ad 1) (ad 0))⟩)) aj))⟩)))))
def Mu {f:Addr}(z:Zs mg)(F:sA K "law" "law" vH f fd)(jI:bO P w K mg base 1 "_law_scale" ["cell"] d9)(jH:io P w K mg base 3 "_law_table" ["cells","width","scale"] (d8 (!HS.bt w)))(iY:bO P w K mg base 2 "_law_wanted" ["cell","width"] dG)(cY:io P w K mg base 6 "columns_of" ["table","wanted"] (aJ (!HS.bt w)))(gZ:bO P w K mg base 1 "_law_cell" ["script","k"] bZ)(kY:bO P w K mg base 2 "_law_spot" ["cell","k","table","scale"] gR)(jJ:io P w K mg base 2 "_law_at" ["table","day","turn"] gQ)(eL:bO P w K mg base 5 "_law_is_table" ["thing","width"] (bC (!HS.bt w)))(kg:io P w K mg base 1 "_law_due" ["rows","wanted"] (fe (!HS.bt w))):dE P w K mg base nr 7 f fd ["script"] (DD K 1 (ua (!HS.bt w))) :=
 Kb (k:=6) F eA fun cdv A outer s H E hr =>
  (am (aK 1 eA.nd (cr (aN gZ (hr.mono (by decide)) (ag (bN (ad 0)) (ag ak aj))) ak))
  (am (aK 2 eA.nd (aN jI (hr.mono (by decide)) (ag (bN (dO (aN gZ (hr.mono (by decide)) (ag (bN (ad 0)) (ag ak aj))) ak)) aj)))
  (am (aK 3 eA.nd (df jH (hr.mono (by decide)) (ag (L5 (ad 0) (Br ak) (Br ak)) (ag (ad 1) (ag (ad 2) aj)))))
  (am (aK 4 eA.nd (aN iY (hr.mono (by decide)) (ag (bN (dO (aN gZ (hr.mono (by decide)) (ag (bN (ad 0)) (ag ak aj))) ak)) (ag (bN (ad 1)) aj))))
  (am (aK 5 eA.nd (Bs rfl (z 6 _ rfl) (ag (ad 3) aj)))
  (am (aK 6 eA.nd (df cY (hr.mono (by decide)) (ag (ad 5) (ag (ad 4) aj))))
  (am (eZ (yJ (kw (iL hr.units (ad 5) (ad 3)) (jl (gG (eV (nP eL (hr.mono (by decide)) (ag (ad 6) (ag (gL rfl (z 1 _ rfl) (ag (ad 4) aj)) aj))))))))
  (aE (bm jx))
  cI)
  (am (aK 7 eA.nd (df cY (hr.mono (by decide)) (ag (ad 5) (ag (bM aj) aj))))
  (am (eZ (yJ (kw (gG (eV (nP eL (hr.mono (by decide)) (ag (ad 7) (ag ak aj))))) (jl (iL hr.units (gL rfl (z 1 _ rfl) (ag (ad 7) aj)) (L6 rfl rfl (z 14 _ rfl) (ag ak (ag (gL rfl (z 1 _ rfl) (ag (ad 3) aj)) aj)))))))
  (aE (bm jx))
  cI)
  (am (d7 rfl (ca (dq (gc (ag ak aj)) (L5 (ad 0) O6 (Br ak)))) (bu 8 eA.nd)
  (am (ow (aN kY (hr.mono (by decide)) (ag (bN (ad 8)) (ag ak (ag (bN (ad 3)) (ag (bN (ad 2)) aj))))) (jL rfl (aP (bu 9 eA.nd) (aP (bu 10 eA.nd) dA))))
  (am (aK 11 eA.nd (df jJ (hr.mono (by decide)) (ag (ad 3) (ag (ad 9) (ag (ad 10) aj)))))
  (aE (eZ (yJ (kw (iL hr.units (df jJ (hr.mono (by decide)) (ag (ad 6) (ag (ad 9) (ag (ad 10) aj)))) (df kg (hr.mono (by decide)) (ag (ad 11) (ag (ad 4) aj)))) (jl (iL hr.units (df jJ (hr.mono (by decide)) (ag (ad 7) (ag (ad 9) (ag (ad 10) aj)))) (df kg (hr.mono (by decide)) (ag (ad 11) (ag (bM aj) aj)))))))
  (aE (bm jx))
  cI)))) PassesOwn.never)
  (am (aK 12 eA.nd (Bs rfl (z 6 _ rfl) (ag (ad 6) aj)))
  (am (fY (jf (ad 6) (ag (bM aj) aj)))
  (am (aK 13 eA.nd (df cY (hr.mono (by decide)) (ag (ad 5) (ag (Jb rfl rfl (z 0 _ rfl) rfl (z 8 _ rfl) (ad 1)) aj))))
  (am (eZ (yJ (kw (iL hr.units (ad 5) (ad 3)) (jl (iL hr.units (ad 13) (ad 3)))))
  (aE (bm jx))
  cI)
  (am (fY (jf (ad 13) (ag (bM aj) aj)))
  (aE (bm (xx (Bu hr.units (ad 5) (ad 3)) (xx (Bu hr.units (df cY (hr.mono (by decide)) (ag (ad 5) (ag (ad 4) aj))) (ad 12)) (Bq (Bu hr.units (df cY (hr.mono (by decide)) (ag (gc aj) (ag (ad 4) aj))) (gc aj))))))))))))))))))))))
end
set_option maxHeartbeats 4000000 in
def Kv {l:PySem.W.OpenLaw}{w:World}{K:zac}{h:Heap}{mg:Td}{fa:Addr}(X:K.In h)(G:h.Ns mainGlobals mg)(hfa:mg "law" = some (.ref fa))
  (a0:FK K "plot_of" kQ)
  (a1:FK K "changes_by_edge" dX)
  (a2:FK K "reaches_by_weight" bJ)
  (a3:FK K "steps_by_turn" eX)
  (a4:FK K "plots_by_weight" bc)
  (a5:FK K "all_spots" gk)
  (a6:FK K "table_of" fP)
  (a7:FK K "numbers_in" fG)
  (a8:FK K "columns_of" fI)
  (a9:FK K "_law_cell" jr)
  (a10:FK K "_law_stir" jm)
  (a11:FK K "_law_reach" iR)
  (a12:FK K "_law_plot" jp)
  (a13:FK K "_law_row" kR)
  (a14:FK K "_law_lies" jq)
  (a15:FK K "_law_whole" iO)
  (a16:FK K "_law_rises" iQ)
  (a17:FK K "_law_is_reach" fW)
  (a18:FK K "_law_is_plot" eu)
  (a19:FK K "_law_is_table" c8)
  (a20:FK K "_law_table" gh)
  (a21:FK K "_law_scale" iP)
  (a22:FK K "_law_spot" jo)
  (a23:FK K "_law_at" jZ)
  (a24:FK K "_law_wanted" fH)
  (a25:FK K "_law_due" gH)
  (a26:FK K "law" vH)
  {Jap:Addr} {Ja1:Nat} {Ja2:Array (Tg)} {Jai:Addr} {Jat:Nat} {Jau:Array (Tg)} {Jaz:Addr} {Jbg:Nat} {Jbh:Array (Tg)} {Jaq:Addr} {Ja3:Nat} {Ja4:Array (Tg)} {Jar:Addr} {Ja5:Nat} {Ja6:Array (Tg)} {Jaj:Addr} {Jav:Nat} {Jaw:Array (Tg)} (Jae:PySem.W.nsIn K mainGlobals "NO_NUMBERS" = some (some (.ref Jap))) (Jaf:K.lookup Jap=some ⟨.type "tuple",none,.seq ([(.bool false),(.ref Jai)]:Te).toArray Ja1,Ja2⟩) (Jac:K.lookup Jai=some ⟨.type "tuple",none,.seq ([]:Te).toArray Jat,Jau⟩) (Jal:PySem.W.nsIn K mainGlobals "NO_SPOTS" = some (some (.ref Jaz))) (Jam:K.lookup Jaz=some ⟨.type "tuple",none,.seq ([(.ref Jar),(.ref Jaq)]:Te).toArray Jbg,Jbh⟩) (Jag:K.lookup Jaq=some ⟨.type "tuple",none,.seq ([]:Te).toArray Ja3,Ja4⟩) (Jah:K.lookup Jar=some ⟨.type "tuple",none,.seq ([(.bool false),(.ref Jaj)]:Te).toArray Ja5,Ja6⟩) (Jad:K.lookup Jaj=some ⟨.type "tuple",none,.seq ([]:Te).toArray Jav,Jaw⟩) (z0:PySem.W.nsIn K mainGlobals "tuple" = some none) (z1:PySem.W.nsIn K mainGlobals "len" = some none) (z2:PySem.W.nsIn K mainGlobals "sum" = some none) (z3:PySem.W.nsIn K mainGlobals "sorted" = some none) (z4:PySem.W.nsIn K mainGlobals "dict" = some none) (z5:PySem.W.nsIn K mainGlobals "enumerate" = some none) (z6:PySem.W.nsIn K mainGlobals "list" = some none) (z7:PySem.W.nsIn K mainGlobals "zip" = some none) (z8:PySem.W.nsIn K mainGlobals "range" = some none) (z9:PySem.W.nsIn K mainGlobals "isinstance" = some none) (z10:PySem.W.nsIn K mainGlobals "bool" = some none) (z11:PySem.W.nsIn K mainGlobals "int" = some none) (z12:PySem.W.nsIn K mainGlobals "all" = some none) (z13:PySem.W.nsIn K mainGlobals "set" = some none) (z14:PySem.W.nsIn K mainGlobals "min" = some none) :
  ∃fd:FuncData,(∀(s:Shared) (v:Value),BindsTo s fd ⟨[v],[]⟩ [("script",v)])/\∀base:Heap,K.In base->base.Ns mainGlobals mg->dE l.prog w K mg base nr 7 fa fd ["script"] (fun vs H Q E=>∀b,DD K 1 (ua b) vs H Q E):=by
 have z:Zs mg:=(cM (zaY X G z0) (cM (zaY X G z1) (cM (zaY X G z2) (cM (zaY X G z3) (cM (zaY X G z4) (cM (zaY X G z5) (cM (zaY X G z6) (cM (zaY X G z7) (cM (zaY X G z8) (cM (zaY X G z9) (cM (zaY X G z10) (cM (zaY X G z11) (cM (zaY X G z12) (cM (zaY X G z13) (cM (zaY X G z14) HE)))))))))))))));have Jab:jX K mg "NO_NUMBERS" (.tup [(.bl false),(.tup [])]):=uQ (zdi X G Jae) (mF Jaf (show 2<=sizeLine by decide) (iG Hr (iG (mF Jac (show 0<=sizeLine by decide) kj) kj)));have Jaa:jX K mg "NO_SPOTS" (.tup [(.tup [(.bl false),(.tup [])]),(.tup [])]):=uQ (zdi X G Jal) (mF Jam (show 2<=sizeLine by decide) (iG (mF Jah (show 2<=sizeLine by decide) (iG Hr (iG (mF Jad (show 0<=sizeLine by decide) kj) kj))) (iG (mF Jag (show 0<=sizeLine by decide) kj) kj)));have Jbo:=a0.at_ (ps:=["ground","pairs"]) X G (fun _ _ _ _ _ _=>DB fun _ _=>rfl);have Jan:=a1.at_ (ps:=["weighted"]) X G (fun _ _ _ _ _ _=>yB fun _=>rfl);have Jak:=a2.at_ (ps:=["weighted"]) X G (fun _ _ _ _ _ _=>yB fun _=>rfl);have Jas:=a3.at_ (ps:=["plots"]) X G (fun _ _ _ _ _ _=>yB fun _=>rfl);have Jao:=a4.at_ (ps:=["weighted"]) X G (fun _ _ _ _ _ _=>yB fun _=>rfl);have Jba:=a5.at_ (ps:=["plots"]) X G (fun _ _ _ _ _ _=>yB fun _=>rfl);have Jbi:=a6.at_ (ps:=["pairs"]) X G (fun _ _ _ _ _ _=>yB fun _=>rfl);have Ja7:=a7.at_ (ps:=["row","columns"]) X G (fun _ _ _ _ _ _=>DB fun _ _=>rfl);have Ja8:=a8.at_ (ps:=["table","wanted"]) X G (fun _ _ _ _ _ _=>DB fun _ _=>rfl);have Jbj:=a9.at_ (ps:=["script","k"]) X G (fun _ _ _ _ _ _=>DB fun _ _=>rfl);have Jbk:=a10.at_ (ps:=["cell","k"]) X G (fun _ _ _ _ _ _=>DB fun _ _=>rfl);have Jbb:=a11.at_ (ps:=["number","scale"]) X G (fun _ _ _ _ _ _=>DB fun _ _=>rfl);have Jbl:=a12.at_ (ps:=["cell","k","scale"]) X G (fun _ _ _ _ _ _=>KF fun _ _ _=>rfl);have Jbp:=a13.at_ (ps:=["cell","k","width"]) X G (fun _ _ _ _ _ _=>KF fun _ _ _=>rfl);have Jbm:=a14.at_ (ps:=["plot","day","turn"]) X G (fun _ _ _ _ _ _=>KF fun _ _ _=>rfl);have Jbc:=a15.at_ (ps:=["thing"]) X G (fun _ _ _ _ _ _=>yB fun _=>rfl);have Jbd:=a16.at_ (ps:=["some"]) X G (fun _ _ _ _ _ _=>yB fun _=>rfl);have Jax:=a17.at_ (ps:=["thing"]) X G (fun _ _ _ _ _ _=>yB fun _=>rfl);have Ja0:=a18.at_ (ps:=["thing"]) X G (fun _ _ _ _ _ _=>yB fun _=>rfl);have Jay:=a19.at_ (ps:=["thing","width"]) X G (fun _ _ _ _ _ _=>DB fun _ _=>rfl);have Jbe:=a20.at_ (ps:=["cells","width","scale"]) X G (fun _ _ _ _ _ _=>KF fun _ _ _=>rfl);have Jbf:=a21.at_ (ps:=["cell"]) X G (fun _ _ _ _ _ _=>yB fun _=>rfl);have Jbn:=a22.at_ (ps:=["cell","k","table","scale"]) X G (fun _ _ _ _ _ _=>SE fun _ _ _ _=>rfl);have Jbr:=a23.at_ (ps:=["table","day","turn"]) X G (fun _ _ _ _ _ _=>KF fun _ _ _=>rfl);have Ja9:=a24.at_ (ps:=["cell","width"]) X G (fun _ _ _ _ _ _=>DB fun _ _=>rfl);have Jbq:=a25.at_ (ps:=["rows","wanted"]) X G (fun _ _ _ _ _ _=>DB fun _ _=>rfl);obtain ⟨fdL,FL,bL⟩:=a26.law (ps:=["script"]) X G hfa (fun _ _ _ _ _ _=>yB fun _=>rfl);refine ⟨fdL,fun s v=>bL s [v] rfl,fun base _ _=>?_⟩;have mC:=zp (P:=l.prog) (w:=w) (base:=base) z Jbo;have eN:=lV (P:=l.prog) (w:=w) (base:=base) z Jan;have f7:=nF (P:=l.prog) (w:=w) (base:=base) z Jas;have iX:=rO (P:=l.prog) (w:=w) (base:=base) z Ja7;have gZ:=wg (P:=l.prog) (w:=w) (base:=base) z Jbj;have bo:=wc (P:=l.prog) (w:=w) (base:=base) z Jbk;have ii:=ug (P:=l.prog) (w:=w) (base:=base) z Jbb;have k7:=wf (P:=l.prog) (w:=w) (base:=base) z Jbm;have eh:=uc (P:=l.prog) (w:=w) (base:=base) z Jbc;have jI:=ue (P:=l.prog) (w:=w) (base:=base) z Jbf;have kg:=zr (P:=l.prog) (w:=w) (base:=base) z Jbq;have cG:=kE (P:=l.prog) (w:=w) (base:=base) z Jak eN;have kZ:=we (P:=l.prog) (w:=w) (base:=base) z Jbl bo ii;have mD:=zq (P:=l.prog) (w:=w) (base:=base) z Jbp bo;have ek:=uf (P:=l.prog) (w:=w) (base:=base) z Jbd eh;have kY:=wd (P:=l.prog) (w:=w) (base:=base) z Jbn bo;have jJ:=Cf (P:=l.prog) (w:=w) (base:=base) z Jbr k7;have iY:=rP (P:=l.prog) (w:=w) (base:=base) z Ja9 bo;have eK:=lU (P:=l.prog) (w:=w) (base:=base) z Jao f7 cG mC Jab;have eM:=oQ (P:=l.prog) (w:=w) (base:=base) z Jax ek;have jH:=ud (P:=l.prog) (w:=w) (base:=base) z Jbe kZ mD;have jK:=uh (P:=l.prog) (w:=w) (base:=base) z Jba eK Jaa;have iw:=pV (P:=l.prog) (w:=w) (base:=base) z Ja0 ek eM;have kX:=wa (P:=l.prog) (w:=w) (base:=base) z Jbi jK Jaa;have eL:=oP (P:=l.prog) (w:=w) (base:=base) z Jay iw eh;have cY:=rQ (P:=l.prog) (w:=w) (base:=base) z Ja8 kX iX;exact (Mu (P:=l.prog) (w:=w) (base:=base) z FL jI jH iY cY gZ kY jJ eL kg).imp fun _ _ _ _ h=>h _
end LW
namespace LW
open HW
theorem yC (a0 a1:D):gD [a0,a1]=dZ (mK [some (.v a0),some (.v a1),none,none,none,none] []):=rfl
theorem lC (a0:D):bQ [a0]=dZ (eR [some (.v a0),none,none,none,none,none,none] []):=rfl
theorem kA (bt:Bool)(a0:D):aS bt [a0]=dZ (dM bt [some (.v a0),none,none,none,none,none,none,none,none,none] []):=rfl
theorem nt (a0:D):ck [a0]=dZ (f8 [some (.v a0),none,none,none,none,none] []):=rfl
theorem lB (bt:Bool)(a0:D):cu bt [a0]=dZ (eQ bt [some (.v a0),none,none,none,none,none,none,none,none,none,none,none] []):=rfl
theorem sK (bt:Bool)(a0:D):cy bt [a0]=dZ (fV bt [some (.v a0)] []):=rfl
theorem vm (bt:Bool)(a0:D):gP bt [a0]=m8 (lg bt [some (.v a0),none,none,none,none] []):=rfl
theorem qS (a0 a1:D):cT [a0,a1]=dZ (i8 [some (.v a0),some (.v a1)] []):=rfl
theorem qU (bt:Bool)(a0 a1:D):aJ bt [a0,a1]=m8 (ja bt [some (.v a0),some (.v a1)] []):=rfl
theorem vz (a0 a1:D):bZ [a0,a1]=dZ (i9 [some (.v a0),some (.v a1)] []):=rfl
theorem vp (a0 a1:D):aV [a0,a1]=dZ (lh [some (.v a0),some (.v a1),none] []):=rfl
theorem sJ (a0 a1:D):dw [a0,a1]=dZ (jT [some (.v a0),some (.v a1),none,none,none,none] []):=rfl
theorem vt (a0 a1 a2:D):gS [a0,a1,a2]=dZ (lj [some (.v a0),some (.v a1),some (.v a2),none,none,none,none,none,none,none] []):=rfl
theorem yD (a0 a1 a2:D):iE [a0,a1,a2]=dZ (mL [some (.v a0),some (.v a1),some (.v a2),none,none,none] []):=rfl
theorem vw (a0 a1 a2:D):dY [a0,a1,a2]=dZ (ll [some (.v a0),some (.v a1),some (.v a2),none,none,none,none,none] []):=rfl
theorem sI (a0:D):cx [a0]=dZ (jS [some (.v a0),none] []):=rfl
theorem oe (a0:D):cJ [a0]=dZ (g7 [some (.v a0)] []):=rfl
theorem pP (a0:D):dP [a0]=dZ (iz [some (.v a0),none,none] []):=rfl
theorem oa (bt:Bool)(a0 a1:D):bC bt [a0,a1]=dZ (g6 bt [some (.v a0),some (.v a1),none,none] []):=rfl
theorem sG (bt:Bool)(a0 a1 a2:D):d8 bt [a0,a1,a2]=m8 (jQ bt [some (.v a0),some (.v a1),some (.v a2),none,none,none] []):=rfl
theorem sH (a0:D):d9 [a0]=dZ (jR [some (.v a0)] []):=rfl
theorem vq (a0 a1 a2 a3:D):gR [a0,a1,a2,a3]=dZ (fu [some (.v a0),some (.v a1),some (.v a2),some (.v a3),none,none,none,none,none] []):=rfl
theorem Ae (a0 a1 a2:D):gQ [a0,a1,a2]=m8 (pF [some (.v a0),some (.v a1),some (.v a2)] []):=rfl
theorem qT (a0 a1:D):dG [a0,a1]=dZ (gy [some (.v a0),some (.v a1),none] []):=rfl
theorem yE (bt:Bool)(a0 a1:D):fe bt [a0,a1]=m8 (mM bt [some (.v a0),some (.v a1)] []):=rfl
theorem KW (bt:Bool)(a0:D):ua bt [a0]=dZ (Dk bt [some (.v a0),none,none,none,none,none,none,none,none,none,none,none,none,none] []):=rfl
abbrev Rc:=Bool×Th
noncomputable abbrev rD (r:Rc):D:=.tup [.bl r.1,.tup (r.2.map .int)]
abbrev sD (p:Int×Rc):D:=.tup [.int p.1,rD p.2]
def ir {n:Nat}{xs:List D}(h:okDs n xs=true):e8 (n+1) (.tup xs)=true:=by simpa [e8] using h
def G5 {n:Nat}{xs:List D}(h:okDs n xs=true):e8 (n+1) (.fl xs)=true:=by simpa [e8] using h
def eD {n:Nat}{x:D}{xs:List D}(h:e8 n x=true)(h':okDs n xs=true):okDs n (x::xs)=true:=by simp [okDs,h,h']
theorem lO {n:Nat}:okDs n []=true:=by cases n <;> rfl
def vV {n:Nat}(r:Rc):e8 (n+2) (rD r)=true:=ir (eD Mp (eD (ir (j7 _)) lO))
def BU {n:Nat}(p:Int×Rc):e8 (n+3) (sD p)=true:=ir (eD JH (eD (vV _) lO))
theorem lP {Z:Type}{n:Nat}{f:Z->D}(h:∀a,e8 n (f a)=true):∀xs:List Z,okDs n (xs.map f)=true
 |[]=>lO|x::xs=>eD (h x) (lP h xs)
abbrev pD (g:Rc)(qs:List (Int×Rc)):D:=.tup [rD g,.tup (qs.map sD)]
def BV {n:Nat}(g:Rc)(qs:List (Int×Rc)):e8 (n+5) (pD g qs)=true:=ir (eD (vV _) (eD (ir (lP (fun p=>BU p) qs)) lO))
def tZ (r:Rc):e8 60 (rD r)=true:=vV r
def xI (g:Rc)(qs:List (Int×Rc)):e8 60 (pD g qs)=true:=BV g qs
def pi (r s:Rc):hV (rD r) (rD s)=decide (r=s):=by obtain ⟨a,xs⟩:=r;obtain ⟨b,ys⟩:=s;simp only [rD,rX,wC,wE,rY,c9,eP,gw,gx,ki,zcN,Prod.mk.injEq];cases a <;> cases b <;> simp
def Ng (p q:Int×Rc):hV (sD p) (sD q)=decide (p=q):=by obtain ⟨a,r⟩:=p;obtain ⟨b,s⟩:=q;have:=pi r s;simp only [sD,rX,wC,wE,rY,c9,eP,gw,gx,zcN,Prod.mk.injEq,zdw] at this ⊢;rw [this];congr 1
theorem yk {Z:Type}[DecidableEq Z]{f:Z->D}(h:∀a b,hV (f a) (f b)=decide (a=b)):∀xs ys:List Z,eqDs (xs.map f) (ys.map f)=decide (xs=ys)
 |[],[]=>by simp [c9,eP,gw,gx]|[],_::_=>by simp [c9,eP,gw,gx]|_::_,[]=>by simp [c9,eP,gw,gx]|x::xs,y::ys=>by simp only [zaf,c9,eP,gw,gx,h,yk h xs ys,List.cons.injEq,zdw]
def Hn (g h:Rc)(ps qs:List (Int×Rc)):hV (pD g ps) (pD h qs)=decide (g=h/\ps=qs):=by
 show (hV (rD g) (rD h) && (eqDs (ps.map sD) (qs.map sD) && true))=_
 rw [pi,yk Ng,zcN,zdw]
theorem iZ:∀xs:Th,flatDs (xs.map .int)=true
 |[]=>rfl|x::xs=>by simp [flatDs,dR,iZ xs]
def yd (r:Rc):dR (rD r)=true:=by simp [rD,dR,flatDs,iZ]
theorem uz:∀ps:List (Int×Rc),flatDs (ps.map sD)=true
 |[]=>rfl|p::ps=>by
  show ((true && (dR (rD p.2) && true)) && flatDs (ps.map sD))=true
  rw [yd,uz ps];rfl
def Fh (g:Rc)(ps:List (Int×Rc)):dR (pD g ps)=true:=by have:=yd g;simp only [pD,dR,flatDs,uz,zcN] at *;exact this
def jy:Rc->List (Int×Rc)->List (Int×Rc)
 |_,[]=>[]|g,p::ps=>if p.2=g then jy g ps else p::jy p.2 ps
theorem j6:∀(g:Rc) (ps:List (Int×Rc)) (q),q∈jy g ps->q∈ps
 |_,[],_,h=>h|g,p::ps,q,h=>by
  unfold jy at h;split at h
  ·exact zai _ (j6 g ps q h)
  ·rcases zal.mp h with h|h
   ·exact h ▸ zag
   ·exact zai _ (j6 p.2 ps q h)
abbrev Up (ps:List (Int×Rc)):Prop:=ps.Pairwise fun a b=>a.1 < b.1
theorem vP:∀(g:Rc) (ps:List (Int×Rc)),Up ps->Up (jy g ps)
 |_,[],_=>List.Pairwise.nil|g,p::ps,h=>by
  obtain ⟨h1,h2⟩:=zaw.mp h;unfold jy;split
  ·exact vP g ps h2
  ·exact zaw.mpr ⟨fun q hq=>h1 q (j6 _ _ q hq),vP p.2 ps h2⟩
def F4:Rc->List (Int×Rc)->Prop
 |_,[]=>True|g,p::ps=>p.2≠g/\F4 p.2 ps
theorem rB:∀(g:Rc) (ps:List (Int×Rc)),F4 g (jy g ps)
 |_,[]=>trivial|g,p::ps=>by
  unfold jy;split
  ·exact rB g ps
  ·rename_i h;exact ⟨h,rB p.2 ps⟩
def ra:Rc->List (Int×Rc)->Int->Rc
 |g,[],_=>g|g,p::ps,t=>if t < p.1 then g else ra p.2 ps t
theorem cS:∀(g:Rc) (ps:List (Int×Rc)) (t:Int),(∀p∈ps,t < p.1)->ra g ps t=g
 |_,[],_,_=>rfl|g,p::ps,t,h=>by unfold ra;rw [if_pos (h p zag)]
def vQ (g:Rc)(ps:List (Int×Rc))(hl:ps.length < 2000):gD [rD g,.fl (ps.map sD)]=some (pD g (jy g ps)):=by
 rw [yC];push_cast [mK];have key:∀(ps out:List (Int×Rc)) (last:Rc) (x4 x5:Option R),out.length+ps.length < 2000->∃last' x4' x5',
   cg (iF 2 (aq (aT 4) (aq (aT 5) bz))) ig (ps.map sD) [some (.v (rD g)),some (.v (.fl (ps.map sD))),some (.v (rD last)),aX 0,x4,x5] [.lst (out.map sD)]=some (.nx [some (.v (rD g)),some (.v (.fl (ps.map sD))),some (.v (rD last')),aX 0,x4',x5'] [.lst ((out++jy last ps).map sD)]):=by
  intro ps;generalize hA:R.v (D.fl (List.map sD ps))=A;clear hA
  induction ps with|nil=>intro out last x4 x5 _;exact ⟨last,x4,x5,by simp [cg,jy]⟩|cons p ps ih =>
   intro out last x4 x5 h;simp only [zaD] at h;have hs:(out.map sD).length < sizeLine:=dk (by simp;omega);rw [zaf,bR]
   by_cases e:p.2=last
   ·obtain ⟨l',a',b',hh⟩:=ih out last (some (.v (.int p.1))) (some (.v (rD p.2))) (by omega)
    refine ⟨l',a',b',?_⟩
    have he:hV (rD p.2) (rD last)=true:=by rw [pi];exact zaL e
    push_cast [ig,sD,tZ,he] at hh ⊢;rw [hh,jy,if_pos e]
   ·obtain ⟨l',a',b',hh⟩:=ih (out++[p]) p.2 (some (.v (.int p.1))) (some (.v (rD p.2))) (by simp;omega)
    refine ⟨l',a',b',?_⟩
    have he:hV (rD p.2) (rD last)=false:=by rw [pi];exact zaG e
    push_cast [ig,tZ,he,hs] at hh ⊢;rw [jy,if_neg e];simp only [zaX,za3,zaf,zbc,zb9,za8] at hh ⊢;exact hh
 obtain ⟨a,b,c,h⟩:=key ps [] g none none (by simpa using hl);simp only [zbc,za8] at h;rw [h];push_cast [HW.sU]
def pG {Z:Type}{f:Z->D}{xs:List Z}{k:Nat}{a:Z}(h:xs[k]?=some a):L2.nW (xs.map f) (k:Int)=some (f a):=wT (by omega) (by simp [h])
def lst:Rc->List (Int×Rc)->Rc
 |g,[]=>g|_,p::ps=>lst p.2 ps
theorem jA:∀(g:Rc) (l:List (Int×Rc)) (p),lst g (l++[p])=p.2
 |_,[],_=>rfl|_,q::l,p=>jA q.2 l p
theorem lM:∀(g:Rc) (l:List (Int×Rc)) (p:Int×Rc),jy g (l++[p])=jy g l++(if p.2=lst g l then [] else [p])
 |g,[],p=>by by_cases e:p.2=g <;> simp [jy,lst,e]|g,q::l,p=>by
  by_cases e:q.2=g
  ·simp only [zb9,jy,if_pos e,lM g l p,show lst g (q::l)=lst g l from by rw [lst,e]]
  ·simp only [zb9,jy,if_neg e,lM q.2 l p,show lst g (q::l)=lst q.2 l from rfl]
noncomputable def lv:Bool->List Int->Int->Bool
 |b,[],_=>b|b,x::xs,d=>if d < x then b else lv (!b) xs d
theorem cU {d:Int}:∀{xs:Th} {b:Bool},(∀x∈xs,d < x)->lv b xs d=b
 |[],_,_=>rfl|x::xs,b,h=>by rw [lv,if_pos (h x zag)]
theorem BZ {e d:Int}(hed:e<=d):∀{xs:Th} {b:Bool},(∀x∈xs,e < x->d < x)->lv b xs d=lv b xs e
 |[],_,_=>rfl|x::xs,b,h=>by
  rw [lv,lv];have h1:=h x zag;have ih:=BZ (b:=!b) hed (xs:=xs) fun y hy=>h y (zai _ hy);by_cases q:e < x
  ·rw [if_pos q,if_pos (h1 q)]
  ·rw [if_neg q,if_neg (by omega),ih]
def E4 {b c:Bool}{x:Int}{xs ys:Th}(hx:∀y∈xs,x < y)(hy:∀y∈ys,x < y)(h:∀d,lv b (x::xs) d=lv c (x::ys) d)(hb:b=c):∀d,lv (!b) xs d=lv (!c) ys d:=fun d=>by
 have:=h d;rw [lv,lv] at this
 by_cases q:d < x
 ·rw [cU fun y z=>by have:=hx y z;omega,cU fun y z=>by have:=hy y z;omega,hb]
 ·rwa [if_neg q,if_neg q] at this
theorem oK:∀xs:Th,∃d:Int,∀x∈xs,d < x
 |[]=>⟨0,fun _ h=>nomatch h⟩
 |x::xs=>by
  obtain ⟨d,h⟩:=oK xs;refine ⟨min d (x - 1),fun y hy=>?_⟩;rcases zal.mp hy with rfl|hy
  ·omega
  ·have:=h y hy;omega
def rJ {b c:Bool}{xs ys:Th}(h:∀d,lv b xs d=lv c ys d):b=c:=by
 obtain ⟨d,hd⟩:=oK (xs++ys);have:=h d
 rwa [cU fun x hx=>hd x (zbr _ hx),cU fun x hx=>hd x (zaC _ hx)] at this
theorem v3:∀{xs ys:Th} {b c:Bool},xs.Pairwise (· < ·)->ys.Pairwise (· < ·)->(∀d,lv b xs d=lv c ys d)->b=c/\xs=ys
 |[],[],b,c,_,_,h=>⟨rJ h,rfl⟩|[],y::ys,b,c,_,h2,h=>by
  have hb:=rJ h;have:=h y;rw [lv,lv,if_neg (by omega),cU (zaw.mp h2).1,hb] at this
  cases c <;> cases this
 |x::xs,[],b,c,h1,_,h=>by
  have hb:=rJ h;have:=h x;rw [lv,lv,if_neg (by omega),cU (zaw.mp h1).1,hb] at this
  cases c <;> cases this
 |x::xs,y::ys,b,c,h1,h2,h=>by
  have hb:=rJ h;obtain ⟨p1,p2⟩:=zaw.mp h1;obtain ⟨q1,q2⟩:=zaw.mp h2;have hxy:x=y:=by
   rcases zdn x y with z|z|z
   ·have:=h x;rw [lv,lv,if_neg (by omega),if_pos z,cU p1,hb] at this
    cases c <;> cases this
   ·exact z
   ·have:=h y;rw [lv,lv,if_pos z,if_neg (by omega),cU q1,hb] at this
    cases c <;> cases this
  subst hxy;exact ⟨hb,by rw [(v3 p2 q2 (E4 p1 q1 h hb)).2]⟩
abbrev nD (r:Rc)(d:Int):Bool:=lv r.1 r.2 d
def D4 {r s:Rc}(hr:r.2.Pairwise (· < ·))(hs:s.2.Pairwise (· < ·))(h:∀d,nD r d=nD s d):r=s:=Prod.ext (v3 hr hs h).1 (v3 hr hs h).2
def rh {g h:Rc}{ps qs:List (Int×Rc)}(e:∀t,ra g ps t=ra h qs t):g=h:=by
 obtain ⟨d,hd⟩:=oK (ps.map (·.1)++qs.map (·.1));have:=e d
 rwa [cS _ _ _ fun p hp=>hd _ (zbr _ (zaZ hp)),cS _ _ _ fun p hp=>hd _ (zaC _ (zaZ hp))] at this
theorem Bh:∀{ps qs:List (Int×Rc)} {g h:Rc},Up ps->Up qs->F4 g ps->F4 h qs->(∀t,ra g ps t=ra h qs t)->g=h/\ps=qs
 |[],[],g,h,_,_,_,_,e=>⟨rh e,rfl⟩|[],q::qs,g,h,_,u2,_,d2,e=>by
  have hg:=rh e;have:=e q.1;rw [ra,ra,if_neg (by omega),cS _ _ _ (zaw.mp u2).1] at this
  exact absurd (this.symm.trans hg) d2.1
 |p::ps,[],g,h,u1,_,d1,_,e=>by
  have hg:=rh e;have:=e p.1;rw [ra,ra,if_neg (by omega),cS _ _ _ (zaw.mp u1).1] at this
  exact absurd (this.trans hg.symm) d1.1
 |p::ps,q::qs,g,h,u1,u2,d1,d2,e=>by
  have hg:=rh e;obtain ⟨p1,p2⟩:=zaw.mp u1;obtain ⟨q1,q2⟩:=zaw.mp u2;have hx:p.1=q.1:=by
   rcases zdn p.1 q.1 with z|z|z
   ·have:=e p.1;rw [ra,ra,if_neg (by omega),if_pos z,cS _ _ _ p1] at this
    exact absurd (this.trans hg.symm) d1.1
   ·exact z
   ·have:=e q.1;rw [ra,ra,if_pos z,if_neg (by omega),cS _ _ _ q1] at this
    exact absurd (this.symm.trans hg) d2.1
  have e2:p.2=q.2:=by
   have:=e p.1
   rwa [ra,ra,if_neg (by omega),if_neg (by omega),cS _ _ _ p1,cS _ _ _ fun y hy=>by have:=q1 y hy;omega] at this
  have:=Bh (g:=p.2) (h:=q.2) p2 q2 d1.2 d2.2 fun t=>by
   have:=e t;rw [ra,ra] at this
   by_cases z:t < p.1
   ·rw [cS _ _ _ fun y hy=>by have:=p1 y hy;omega,cS _ _ _ fun y hy=>by have:=q1 y hy;omega,e2]
   ·rwa [if_neg z,if_neg (by omega)] at this
  exact ⟨hg,by rw [this.2,show p=q from Prod.ext hx e2]⟩
structure Pf (g:Rc)(qs:List (Int×Rc)):Prop where
 gu:g.2.Pairwise (· < ·)
 up:Up qs
 dif:F4 g qs
 ru:∀q∈qs,q.2.2.Pairwise (· < ·)
theorem Bg:∀{qs:List (Int×Rc)} {g:Rc} {t:Int},ra g qs t=g\/∃q∈qs,ra g qs t=q.2
 |[],_,_=>.inl rfl|q::qs,g,t=>by
  rw [ra];by_cases z:t < q.1
  ·rw [if_pos z];exact .inl rfl
  ·rw [if_neg z];rcases Bg (qs:=qs) (g:=q.2) (t:=t) with h|⟨p,hp,h⟩
   ·exact .inr ⟨q,zag,h⟩
   ·exact .inr ⟨p,zai _ hp,h⟩
def Pf.at {g qs}(p:Pf g qs)(t:Int):(ra g qs t).2.Pairwise (· < ·):=by
 rcases Bg (qs:=qs) (g:=g) (t:=t) with h|⟨q,hq,h⟩
 ·rw [h];exact p.gu
 ·rw [h];exact p.ru q hq
def BC {g h:Rc}{ps qs:List (Int×Rc)}(a:Pf g ps)(b:Pf h qs)(e:∀t d,nD (ra g ps t) d=nD (ra h qs t) d):g=h/\ps=qs :=
 Bh a.up b.up a.dif b.dif fun t=>D4 (a.at t) (b.at t) (e t)
def li (b:Bool):Int:=if b=true then 1 else 0
def sg (b:Bool):Int:=if b=true then -1 else 1
theorem Id (b:Bool) : -sg b=sg (!b):=by cases b <;> rfl
theorem LE (b:Bool):sg b=li (!b) - li b:=by cases b <;> rfl
def al:Int->List Int->Int->Int
 |_,[],_=>0|s,x::xs,e=>(if x=e then s else 0)+al (-s) xs e
theorem Ht (e:Int):∀{xs:Th} {b:Bool},xs.Pairwise (· < ·)->al (sg b) xs e=li (lv b xs e) - li (lv b xs (e - 1))
 |[],b,_=>by simp [al,lv]|x::xs,b,h=>by
  obtain ⟨p1,p2⟩:=zaw.mp h;rw [al,Id,Ht e p2,lv,lv];rcases zdn x e with z|z|z
  ·rw [if_neg (by omega),if_neg (by omega),if_neg (by omega),zdr]
  ·subst z;rw [if_pos rfl,if_neg (by omega),if_pos (by omega),cU (d:=x) p1,cU fun y hy=>by have:=p1 y hy;omega,LE];omega
  ·rw [if_neg (by omega),if_pos (by omega),if_pos (by omega),cU (d:=e) fun y hy=>by have:=p1 y hy;omega,cU fun y hy=>by have:=p1 y hy;omega];omega
def cn:List Rc->Int->Int
 |[],_=>0|r::rs,d=>li (nD r d)+cn rs d
def c0:List Rc->Int
 |[]=>0|r::rs=>li r.1+c0 rs
abbrev An (rs:List Rc)(d:Int):Bool:=rs.any fun r=>nD r d
abbrev A0 (rs:List Rc):Bool:=rs.any (·.1)
theorem pv (d:Int):∀rs:List Rc,0<=cn rs d/\(An rs d=decide (0 < cn rs d))
 |[]=>⟨zcK 0,rfl⟩|r::rs=>by
  obtain ⟨h1,h2⟩:=pv d rs;unfold An at h2 ⊢;rw [cn,zbA,h2];cases q:nD r d
  ·exact ⟨by simp [li];omega,by simp [li]⟩
  ·exact ⟨by simp [li];omega,by simp [li];omega⟩
theorem wM:∀rs:List Rc,0<=c0 rs/\(A0 rs=decide (0 < c0 rs))
 |[]=>⟨zcK 0,rfl⟩|r::rs=>by
  obtain ⟨h1,h2⟩:=wM rs;unfold A0 at h2 ⊢;rw [c0,zbA,h2];cases q:r.1
  ·exact ⟨by simp [li];omega,by simp [li]⟩
  ·exact ⟨by simp [li];omega,by simp [li];omega⟩
theorem sh {d:Int}:∀{rs:List Rc},(∀r∈rs,∀x∈r.2,d < x)->cn rs d=c0 rs
 |[],_=>rfl|r::rs,h=>by rw [cn,c0,sh fun q hq=>h q (zai _ hq),show nD r d=r.1 from cU (h r zag)]
theorem wI {e d:Int}(hed:e<=d):∀{rs:List Rc},(∀r∈rs,∀x∈r.2,e < x->d < x)->cn rs d=cn rs e
 |[],_=>rfl|r::rs,h=>by rw [cn,cn,wI hed fun q hq=>h q (zai _ hq),show nD r d=nD r e from BZ hed (h r zag)]
def wk (h:Int->Bool):Bool->List Int->Th
 |_,[]=>[]|s,e::es=>if h e=s then wk h s es else e::wk h (h e) es
theorem nZ (h:Int->Bool):∀(es:Th) (s:Bool),(wk h s es).Sublist es
 |[],_=>.slnil|e::es,s=>by
  rw [wk];by_cases q:h e=s
  ·rw [if_pos q];exact (nZ h es s).cons _
  ·rw [if_neg q];exact (nZ h es (h e)).cons₂ _
theorem G7 (h:Int->Bool):∀(es:Th) (s:Bool) (L:Int),es.Pairwise (· < ·)->(∀d,L<=d->(∀x∈es,d < x)->h d=s)->(∀e∈es,∀d,e<=d->(∀x∈es,e < x->d < x)->h d=h e)->∀d,L<=d->lv s (wk h s es) d=h d
 |[],s,L,_,h1,_,d,hd=>by rw [wk,lv];exact (h1 d hd fun _ z=>nomatch z).symm
 |e::es,s,L,hs,h1,h2,d,hd=>by
  obtain ⟨p1,p2⟩:=zaw.mp hs;have h1':∀d,e<=d->(∀x∈es,d < x)->h d=h e:=fun d q1 q2=>h2 e zag d q1 fun x hx q=>by
   rcases zal.mp hx with rfl|hx
   ·omega
   ·exact q2 x hx
  have h2':∀e'∈es,∀d,e'<=d->(∀x∈es,e' < x->d < x)->h d=h e':=fun e' he' d q1 q2=>h2 e' (zai _ he') d q1 fun x hx q=>by
   rcases zal.mp hx with rfl|hx
   ·have:=p1 e' he';omega
   ·exact q2 x hx q
  have ih:=G7 h es (h e) e p2 h1' h2' d;have late:∀t:Bool,d < e->lv t (wk h t es) d=t:=fun t q=>cU fun x hx=>by have:=p1 x ((nZ h es t).subset hx);omega
  have hq:d < e->h d=s:=fun q=>h1 d hd fun x hx=>by
   rcases zal.mp hx with rfl|hx
   ·exact q
   ·have:=p1 x hx;omega
  rw [wk];by_cases q:h e=s
  ·rw [if_pos q];by_cases z:d < e
   ·rw [late s z,hq z]
   ·rw [←q];exact ih (by omega)
  ·rw [if_neg q,lv];by_cases z:d < e
   ·rw [if_pos z,hq z]
   ·rw [if_neg z,show (!s)=h e by revert q;cases s <;> cases h e <;> simp];exact ih (by omega)
structure KB (rs:List Rc)(es:Th):Prop where
 up:es.Pairwise (· < ·)
 all:∀x,x∈es ↔ ∃r∈rs,x∈r.2
abbrev Un (rs:List Rc)(es:Th):Rc:=(A0 rs,wk (An rs) (A0 rs) es)
def KB.un {rs es}(h:KB rs es)(d:Int):nD (Un rs es) d=An rs d:=by
 have a:∀d,(∀x∈es,d < x)->An rs d=A0 rs:=fun d hd=>by rw [(pv d rs).2,(wM rs).2,sh fun r hr x hx=>hd x ((h.all x).mpr ⟨r,hr,hx⟩)]
 exact G7 (An rs) es (A0 rs) d h.up (fun d' _ q=>a d' q) (fun e he d' h1 h2=>by rw [(pv d' rs).2,(pv e rs).2,wI h1 fun r hr x hx=>h2 x ((h.all x).mpr ⟨r,hr,hx⟩)]) d (zcK _)
def KB.unUp {rs es}(h:KB rs es):(Un rs es).2.Pairwise (· < ·):=h.up.sublist (nZ _ _ _)
def KB.sub {rs es}(h:KB rs es):∀x∈(Un rs es).2,∃r∈rs,x∈r.2:=fun x hx=>(h.all x).mp ((nZ _ _ _).subset hx)
open L2
abbrev kc (p:Int×Int):aH×D:=(.inl p.1,.tup [.int p.2,.int 0])
def gv:List (Int×Int)->Int->Int
 |[],_=>0|p::l,e=>if p.1=e then p.2 else gv l e
def bp:List (Int×Int)->Int->Int->List (Int×Int)
 |[],e,s=>[(e,s)]|p::l,e,s=>if p.1=e then (p.1,p.2+s)::l else p::bp l e s
theorem Hc (e s x:Int):∀l:List (Int×Int),gv (bp l e s) x=gv l x+(if e=x then s else 0)
 |[]=>by simp [bp,gv]|p::l=>by
  have ih:=Hc e s x l;rw [bp];by_cases q:p.1=e
  ·rw [if_pos q,gv,gv];by_cases z:p.1=x
   ·rw [if_pos z,if_pos z,if_pos (by omega)]
   ·rw [if_neg z,if_neg z,if_neg (by omega)];omega
  ·rw [if_neg q,gv,gv];by_cases z:p.1=x
   ·rw [if_pos z,if_pos z,if_neg (by omega)];omega
   ·rw [if_neg z,if_neg z,ih]
theorem sn (e s x:Int):∀l:List (Int×Int),x∈(bp l e s).map (·.1) ↔ x∈l.map (·.1)\/x=e
 |[]=>by simp [bp]|p::l=>by
  have ih:=sn e s x l;rw [bp];by_cases q:p.1=e
  ·rw [if_pos q];simp only [zaf,zal];constructor
   ·exact .inl
   ·rintro (h|h)
    ·exact h
    ·exact .inl (h.trans q.symm)
  ·rw [if_neg q];simp only [zaf,zal,ih,or_assoc]
theorem De (e s:Int):∀l:List (Int×Int),(l.map (·.1)).Nodup->((bp l e s).map (·.1)).Nodup
 |[],_=>by simp [bp]|p::l,h=>by
  rw [zaf,zaK] at h;have ih:=De e s l h.2;rw [bp];by_cases q:p.1=e
  ·rw [if_pos q,zaf,zaK];exact h
  ·rw [if_neg q,zaf,zaK];refine ⟨fun z=>?_,ih⟩;rcases (sn e s p.1 l).mp z with z|z
   ·exact h.1 z
   ·exact q z
theorem wQ (e s:Int):∀l:List (Int×Int),(bp l e s).length<=l.length+1
 |[]=>by simp [bp]|p::l=>by
  have ih:=wQ e s l;rw [bp];split
  ·simp
  ·simp only [zaD];omega
theorem wq {e:Int}:∀{l:List (Int×Int)},e∉l.map (·.1)->gv l e=0
 |[],_=>rfl|p::l,h=>by rw [zaf,zal,not_or] at h;rw [gv,if_neg (fun z=>h.1 z.symm),wq h.2]
theorem Cb (e:Int):∀l:List (Int×Int),ky (l.map kc) (.inl e)=if e∈l.map (·.1) then some (.tup [.int (gv l e),.int 0]) else none
 |[]=>rfl|p::l=>by
  have ih:=Cb e l;unfold ky at ih ⊢;rw [zaf,zaf,gv];by_cases q:p.1=e
  ·rw [zbG (by simp [q]),if_pos (by rw [q];exact zag),if_pos q];rfl
  ·have q':¬ ((Sum.inl p.1:aH)=.inl e):=fun z=>q (Sum.inl.inj z);rw [zbH (by simp [q']),ih,if_neg q];by_cases z:e∈l.map (·.1)
   ·rw [if_pos z,if_pos (zai _ z)]
   ·rw [if_neg z,if_neg (fun w=>by rcases zal.mp w with w|w;exact q w.symm;exact z w)]
theorem JP (e:Int)(l:List (Int×Int)):Ar (ky (l.map kc) (.inl e)) (.v (.tup [.int 0,.int 0]))=.v (.tup [.int (gv l e),.int 0]):=by
 rw [Cb];by_cases z:e∈l.map (·.1)
 ·rw [if_pos z];rfl
 ·rw [if_neg z,wq z];rfl
theorem xT {e:Int}{d:D}:∀{l:List (Int×Int)},e∉l.map (·.1)->(l.map kc).map (fun kv=>if kv.1=(.inl e:aH) then (kv.1,d) else kv)=l.map kc
 |[],_=>rfl|p::l,h=>by rw [zaf,zal,not_or] at h;rw [zaf,zaf,xT h.2,if_neg (fun z=>h.1 (Sum.inl.inj z).symm)]
theorem Ce (e:Int):∀l:List (Int×Int),((l.map kc).any fun kv=>decide (kv.1=(.inl e:aH)))=decide (e∈l.map (·.1))
 |[]=>rfl|p::l=>by
  rw [zaf,zbA,Ce e l,zaf];by_cases q:p.1=e
  ·simp [q]
  ·have q':¬ ((Sum.inl p.1:aH)=.inl e):=fun z=>q (Sum.inl.inj z);have q2:¬ e=p.1:=fun z=>q z.symm;simp [q',q2]
theorem Cd {e s:Int}:∀{l:List (Int×Int)},(l.map (·.1)).Nodup->e∈l.map (·.1)->(l.map kc).map (fun kv=>if kv.1=(.inl e:aH) then (kv.1,D.tup [.int (gv l e+s),.int 0]) else kv)=(bp l e s).map kc
 |[],_,h=>by cases h|p::l,nd,h=>by
  rw [zaf,zaK] at nd;rw [zaf,zaf,bp,gv];by_cases q:p.1=e
  ·rw [if_pos (congrArg Sum.inl q),if_pos q,if_pos q,xT (q ▸ nd.1)];rfl
  ·have q':¬ ((Sum.inl p.1:aH)=.inl e):=fun z=>q (Sum.inl.inj z);rw [if_neg q',if_neg q,if_neg q,Cd nd.2 (by
    rw [zaf] at h;rcases zal.mp h with w|w
    ·exact absurd w.symm q
    ·exact w)]
   rfl
theorem Cc {e s:Int}:∀{l:List (Int×Int)},e∉l.map (·.1)->l++[(e,s)]=bp l e s
 |[],_=>rfl|p::l,h=>by rw [zaf,zal,not_or] at h;rw [bp,if_neg (fun z=>h.1 z.symm),←Cc h.2];rfl
theorem JO {e s:Int}{l:List (Int×Int)}(nd:(l.map (·.1)).Nodup):lL (l.map kc) (.inl e) (.tup [.int (gv l e+s),.int 0])=(bp l e s).map kc:=by
 unfold lL;rw [Ce];by_cases z:e∈l.map (·.1)
 ·rw [if_pos (zaL z),Cd nd z]
 ·rw [if_neg (by simpa using z),wq z,zdr,←Cc z,zaX];rfl
def wP:List (Int×Int)->Int->List Int->List (Int×Int)
 |l,_,[]=>l|l,s,x::xs=>wP (bp l x s) (-s) xs
theorem Cv (e:Int):∀(xs:Th) (l:List (Int×Int)) (s:Int),gv (wP l s xs) e=gv l e+al s xs e
 |[],l,s=>by simp [wP,al]|x::xs,l,s=>by rw [wP,Cv e xs,Hc,al];omega
theorem u0 (e:Int):∀(xs:Th) (l:List (Int×Int)) (s:Int),e∈(wP l s xs).map (·.1) ↔ e∈l.map (·.1)\/e∈xs
 |[],l,s=>by simp [wP]|x::xs,l,s=>by rw [wP,u0 e xs,sn,zal,or_assoc]
theorem wO:∀(xs:Th) (l:List (Int×Int)) (s:Int),(l.map (·.1)).Nodup->((wP l s xs).map (·.1)).Nodup
 |[],l,s,h=>h|x::xs,l,s,h=>wO xs _ _ (De x s l h)
theorem yt:∀(xs:Th) (l:List (Int×Int)) (s:Int),(wP l s xs).length<=l.length+xs.length
 |[],l,s=>by simp [wP]|x::xs,l,s=>by have:=yt xs (bp l x s) (-s);have:=wQ x s l;rw [wP,zaD];omega
theorem uX (x0 x2:Option R):∀(xs:Th) (l:List (Int×Int)) (s:Int) (x5 x6:Option R),(l.map (·.1)).Nodup->l.length+xs.length<=3000 ->
  ∃s' y5 y6,cg (aT 5) dL (xs.map .int) [x0,aX 0,x2,aU 0,aU s,x5,x6] [.dct (l.map kc)]=some (.nx [x0,aX 0,x2,aU 0,aU s',y5,y6] [.dct ((wP l s xs).map kc)])
 |[],l,s,x5,x6,_,_=>⟨s,x5,x6,rfl⟩|x::xs,l,s,x5,x6,nd,hl=>by
  rw [zaD] at hl;obtain ⟨s',y5,y6,e⟩:=uX x0 x2 xs (bp l x s) (-s) (some (.v (.int x))) (some (.v (.tup [.int (gv l x),.int 0]))) (De x s l nd) (by have:=wQ x s l;omega);refine ⟨s',y5,y6,?_⟩;have hz:(l.map kc).length < sizeLine:=dk (by rw [zah];omega);have hp:=JO (e:=x) (s:=s) nd
  have hm:(0:Int)+s * 0=0:=by omega
  rw [wP,zaf,bR];push_cast [dL,JP,hz,hp,hm,Fp (j:=0) (by decide)];exact e
abbrev wD (r:Rc):D:=.tup [rD r,.int 0]
noncomputable def uV:List (Int×Int)->List Rc->List (Int×Int)
 |l,[]=>l|l,r::rs=>uV (wP l (sg r.1) r.2) rs
def F8:List Rc->Nat
 |[]=>0|r::rs=>r.2.length+F8 rs
theorem Cu (e:Int):∀(rs:List Rc) (l:List (Int×Int)),(∀r∈rs,r.2.Pairwise (· < ·))->gv (uV l rs) e=gv l e+(cn rs e - cn rs (e - 1))
 |[],l,_=>by simp [uV,cn]|r::rs,l,h=>by rw [uV,Cu e rs _ fun q hq=>h q (zai _ hq),Cv,Ht e (h r zag),cn,cn,show nD r e=lv r.1 r.2 e from rfl,show nD r (e - 1)=lv r.1 r.2 (e - 1) from rfl];omega
theorem uU (e:Int):∀(rs:List Rc) (l:List (Int×Int)),e∈(uV l rs).map (·.1) ↔ e∈l.map (·.1)\/∃r∈rs,e∈r.2
 |[],l=>by simp [uV]|r::rs,l=>by rw [uV,uU e rs,u0,or_assoc];simp
theorem Dc:∀(rs:List Rc) (l:List (Int×Int)),(l.map (·.1)).Nodup->((uV l rs).map (·.1)).Nodup
 |[],l,h=>h|r::rs,l,h=>Dc rs _ (wO _ _ _ h)
theorem uW (x0:Option R):∀(rs:List Rc) (l:List (Int×Int)) (x2 x3 x4 x5 x6:Option R),(l.map (·.1)).Nodup->l.length+F8 rs<=3000 ->
  ∃y2 y3 y4 y5 y6,cg (iF 2 (aq (aT 2) (aq (aT 3) bz))) cF (rs.map wD) [x0,aX 0,x2,x3,x4,x5,x6] [.dct (l.map kc)]=some (.nx [x0,aX 0,y2,y3,y4,y5,y6] [.dct ((uV l rs).map kc)])
 |[],l,x2,x3,x4,x5,x6,_,_=>⟨x2,x3,x4,x5,x6,rfl⟩|r::rs,l,x2,x3,x4,x5,x6,nd,hl=>by
  rw [F8] at hl;obtain ⟨s',z5,z6,e1⟩:=uX x0 (some (.v (rD r))) r.2 l (sg r.1) x5 x6 nd (by omega);obtain ⟨y2,y3,y4,y5,y6,e⟩:=uW x0 rs (wP l (sg r.1) r.2) (some (.v (rD r))) (some (.v (.int 0))) (some (.v (.int s'))) z5 z6 (wO _ _ _ nd) (by have:=yt r.2 l (sg r.1);omega);refine ⟨y2,y3,y4,y5,y6,?_⟩;rw [uV,zaf,bR];obtain ⟨b,xs⟩:=r;cases b
  ·simp only [sg,zap,if_false] at e1
   push_cast [cF,wD,e1];exact e
  ·simp only [sg,if_true] at e1
   push_cast [cF,wD,e1];exact e
abbrev Hs (rs:List Rc):List aH:=(uV [] rs).map fun p=>.inl p.1
abbrev Kr (rs:List Rc):List D:=(uV [] rs).map fun p=>.tup [.int p.2,.int 0]
theorem wJ (rs:List Rc)(ht:F8 rs<=3000):bQ [.fl (rs.map wD)]=some (.fd (Hs rs) (Kr rs)):=by rw [lC];obtain ⟨y2,y3,y4,y5,y6,e⟩:=uW (some (.v (.fl (rs.map wD)))) rs [] none none none none none (by simp) (by simpa using ht);push_cast [eR];rw [show ([]:List (Int×Int)).map kc=[] from rfl] at e;push_cast [e,zaR];rfl
def Kq {rs:List Rc}{k:Int}(h:k∈(uV [] rs).map (·.1)):cO ((Hs rs).zip ((Kr rs).map R.v)) (.inl k)=some (.v (.tup [.int (gv (uV [] rs) k),.int 0])):=by
 have key:∀l:List (Int×Int),k∈l.map (·.1)->cO ((l.map fun p=>(Sum.inl p.1:aH)).zip ((l.map fun p=>D.tup [.int p.2,.int 0]).map R.v)) (.inl k)=some (.v (.tup [.int (gv l k),.int 0])):=by
  intro l;induction l with|nil=>intro h;cases h|cons p l ih =>
   intro h;unfold cO at ih ⊢;simp only [zaf,zde,gv];by_cases q:p.1=k
   ·rw [zbG (by simp [q]),if_pos q];rfl
   ·have q':¬ ((Sum.inl p.1:aH)=.inl k):=fun z=>q (Sum.inl.inj z);rw [zbH (by simp [q']),if_neg q];refine ih ?_;rw [zaf] at h;rcases zal.mp h with w|w
    ·exact absurd w.symm q
    ·exact w
 exact key _ h
def FD (rs:List Rc):fM (Hs rs)=some ((uV [] rs).map (·.1)):=by
 have key:∀l:List (Int×Int),fM (l.map fun p=>(Sum.inl p.1:aH))=some (l.map (·.1)):=by
  intro l;induction l with|nil=>rfl|cons p l ih=>simp only [zaf,fM,ih,za7]
 exact key _
def Ad {l:Th}(nd:l.Nodup):(gX l).Pairwise (· < ·):=by have h1:=iW l;have h2:=(cV l).nodup_iff.mpr nd;exact (List.pairwise_and_iff.mpr ⟨h1,h2⟩).imp fun h=>by have:=h.1;have:=h.2;omega
abbrev vd (rs:List Rc):Th:=gX ((uV [] rs).map (·.1))
def lc (rs:List Rc):KB rs (vd rs):=⟨Ad (Dc rs [] (by simp)),fun x=>by rw [(cV _).mem_iff,uU];simp⟩
abbrev hv (b:Bool):D:=if b=true then .int 0 else .non
abbrev hk (b:Bool):aH:=if b=true then .inl 0 else .inr none
def RI (lo:Bool)(E:Th)(U:ac):Prop:=U[2]?=some (.lst (E.map .int))/\((E=[]/\U[1]?=some (.dr [(hk lo,.p 2)]))\/∃n,2 < n/\E≠[]/\U[1]?=some (.dr [(hk lo,.p 2),(hk (!lo),.p n)])/\U[n]?=some (.lst (E.map .int)))
theorem Fx:hV .non .non=true:=rfl
theorem Ko:hV .non (.int 0)=false:=rfl
theorem Fy:hV (.int 0) .non=false:=rfl
def b6 {Z:Type}{l:List Z}{i:Nat}{a:Z}(h:l[i]?=some a):i < l.length:=(zau.mp h).1
section
variable {bt:Bool}{ks:List aH}{ds:List D}{kz:List (aH×R)}{x0 x1 x9:Option R}{lo last:Bool}{many e g:Int}{E:Th}{U:ac}
def Ek (hkv:∀U,kB (.v (.fd ks ds)) U=some kz)(hdx:cO kz (.inl e)=some (.v (.tup [.int g,.int 0])))(hq:decide (0 < many+g)=last) :
  aw bt [x0,x1,aU many,aU 0,some (.v (hv lo)),some (.v (hv last)),aX 1,some (.v (.fd ks ds)),aU e,x9] U =
   some (.nx [x0,x1,aU ((many+g)),aU 0,some (.v (hv lo)),some (.v (hv last)),aX 1,some (.v (.fd ks ds)),aU e,some (.v (hv last))] U):=by
 cases last
 ·push_cast [aw,hv,zap,if_false,hkv,hdx,hq,Fx,zc6]
 ·push_cast [aw,hv,if_true,hkv,hdx,hq,zc6,zca]
theorem OV {a:R}{l}:cO ((.inl 0,a)::l) (.inl 0)=some a:=rfl
theorem OU {a:R}{l}:cO ((.inr none,a)::l) (.inr none)=some a:=rfl
theorem OT {a b:R}:cO [(.inl 0,a),(.inr none,b)] (.inr none)=some b:=rfl
theorem OS {a b:R}:cO [(.inr none,a),(.inl 0,b)] (.inl 0)=some b:=rfl
theorem OR {a:R}:cO [(.inl 0,a)] (.inr none)=none:=rfl
theorem OQ {a:R}:cO [(.inr none,a)] (.inl 0)=none:=rfl
theorem Bd (hkv:∀U,kB (.v (.fd ks ds)) U=some kz)(hdx:cO kz (.inl e)=some (.v (.tup [.int g,.int 0])))(hq:decide (0 < many+g) = !lo)(h1:U[1]?=some (.dr [(hk lo,.p 2)]))(h2:U[2]?=some (.lst [])) :
  ∃U',aw bt [x0,x1,aU many,aU 0,some (.v (hv lo)),some (.v (hv lo)),aX 1,some (.v (.fd ks ds)),aU e,x9] U =
   some (.nx [x0,x1,aU ((many+g)),aU 0,some (.v (hv lo)),some (.v (hv (!lo))),aX 1,some (.v (.fd ks ds)),aU e,some (.v (hv (!lo)))] U')/\RI lo [e] U':=by
 have l2:=b6 h2
 have a1:(U.set 2 (.lst [.int e])++[ap.lst []])[1]?=some (.dr [(hk lo,.p 2)]):=by
  rw [zaj (by rw [zbm];omega),zak (by omega)];exact h1
 have a2:(((U.set 2 (.lst [.int e])++[ap.lst []]).set 1 (.dr [(hk lo,.p 2),(hk (!lo),.p U.length)])))[U.length]?=some (.lst []):=by
  rw [zak (by omega),zaP (by rw [zbm];exact zao _)];simp
 have a3:(U.set 2 (.lst [.int e]))[1]?=some (.dr [(hk lo,.p 2)]):=by rw [zak (by omega)];exact h1
 have z0:(0:Nat) < sizeLine:=dk (by omega)
 have z1:(1:Nat) < 1000:=by omega
 refine ⟨((U.set 2 (.lst [.int e])++[ap.lst []]).set 1 (.dr [(hk lo,.p 2),(hk (!lo),.p U.length)])).set U.length (.lst [.int e]),?_,?_,.inr ⟨U.length,l2,by simp,?_,?_⟩⟩
 ·cases lo
  ·simp only [hk,zap,if_false,if_true,zbZ,zbn] at h1 a1 a2 a3 hq ⊢
   push_cast [aw,hkv,hdx,hq,Fx,Ko,Fy,zc6,OV,OU,OT,OS,OR,OQ,h1,h2,a1,a2,a3,zbm,z0,z1,za8]
  ·simp only [hk,zap,if_false,if_true,zbZ,zbn] at h1 a1 a2 a3 hq ⊢
   push_cast [aw,hkv,hdx,hq,Fx,Ko,Fy,zc6,OV,OU,OT,OS,OR,OQ,h1,h2,a1,a2,a3,zbm,z0,z1,za8]
 ·rw [zak (by omega),zak (by omega),zaj (by rw [zbm];omega),zay (by omega)];rfl
 ·rw [zak (by omega),zay (by simp;omega)]
 ·rw [zay (by simp)];rfl
def El {a b n:Nat}(hkv:∀U,kB (.v (.fd ks ds)) U=some kz)(hdx:cO kz (.inl e)=some (.v (.tup [.int g,.int 0])))(hq:decide (0 < many+g) = !last)(hE:E.length < 3000)(hn:2 < n)(h1:U[1]?=some (.dr [(hk lo,.p 2),(hk (!lo),.p n)]))(h2:U[2]?=some (.lst (E.map .int)))(h3:U[n]?=some (.lst (E.map .int)))
  (ha:a=if last=lo then 2 else n) (hb:b=if last=lo then n else 2) :
  ∃U',aw bt [x0,x1,aU many,aU 0,some (.v (hv lo)),some (.v (hv last)),aX 1,some (.v (.fd ks ds)),aU e,x9] U =
   some (.nx [x0,x1,aU ((many+g)),aU 0,some (.v (hv lo)),some (.v (hv (!last))),aX 1,some (.v (.fd ks ds)),aU e,some (.v (hv (!last)))] U')/\RI lo (E++[e]) U':=by
 have l2:=b6 h2;have l3:=b6 h3
 have ab:a≠b/\a≠1/\b≠1/\a < U.length/\b < U.length/\((a=2/\b=n)\/(a=n/\b=2)):=by
  subst ha;subst hb;split <;> refine ⟨by omega,by omega,by omega,by omega,by omega,by simp⟩
 obtain ⟨ab1,ab2,ab3,la,lb,ab4⟩:=ab
 have ga:U[a]?=some (.lst (E.map .int)):=by rcases ab4 with h|h <;> rw [h.1] <;> assumption
 have gb:U[b]?=some (.lst (E.map .int)):=by rcases ab4 with h|h <;> rw [h.2] <;> assumption
 have a1:(U.set a (.lst (E.map .int++[.int e]))++[ap.lst []])[1]?=some (.dr [(hk lo,.p 2),(hk (!lo),.p n)]):=by
  rw [zaj (by rw [zbm];omega),zak (by omega)];exact h1
 have a2:(U.set a (.lst (E.map .int++[.int e]))++[ap.lst []])[b]?=some (.lst (E.map .int)):=by
  rw [zaj (by rw [zbm];omega),zak (by omega)];exact gb
 have a3:(U.set a (.lst (E.map .int++[.int e])))[1]?=some (.dr [(hk lo,.p 2),(hk (!lo),.p n)]):=by rw [zak (by omega)];exact h1
 have z0:(E.map D.int).length < sizeLine:=dk (by rw [zah];omega)
 have z1:(2:Nat) < 1000:=by omega
 have fin:∀c,c=a\/c=b->((U.set a (.lst (E.map .int++[.int e]))++[ap.lst []]).set b (.lst (E.map .int++[.int e])))[c]?=some (.lst ((E++[e]).map .int)):=fun c hc=>by
  rw [zaX,zaf,zbc];rcases hc with rfl|rfl
  ·rw [zak (by omega),zaj (by rw [zbm];omega),zay (by omega)]
  ·rw [zay (by simp;omega)]
 refine ⟨(U.set a (.lst (E.map .int++[.int e]))++[ap.lst []]).set b (.lst (E.map .int++[.int e])),?_,fin 2 (by omega),.inr ⟨n,hn,by simp,?_,fin n (by omega)⟩⟩
 ·cases lo <;> cases last <;> simp only [if_true,Bool.true_eq_false,zap,if_false] at ha hb <;> subst ha <;> subst hb <;>
  simp only [hk,zap,if_false,if_true,zbZ,zbn] at h1 a1 a2 a3 hq ⊢ <;>
  push_cast [aw,hkv,hdx,hq,Fx,Ko,Fy,zc6,OV,OU,OT,OS,OR,OQ,h1,h2,h3,a1,a2,a3,zbm,z0,z1]
 ·rw [zak (by omega)];exact a1
end
theorem xu (bt:Bool){ks:List aH}{ds:List D}{kz:List (aH×R)}(hkv:∀U,kB (.v (.fd ks ds)) U=some kz){rs:List Rc}(x0 x1:Option R)(lo:Bool):∀(es:Th) (L many:Int) (last:Bool) (E:Th) (U:ac) (x8 x9:Option R),
  (∀e∈es,cO kz (.inl e)=some (.v (.tup [.int (cn rs e - cn rs (e - 1)),.int 0])))->es.Pairwise (· < ·)->(∀x∈es,L < x)->(∀d,L<=d->(∀x∈es,d < x)->cn rs d=many)->(∀r∈rs,∀x∈r.2,L < x->x∈es) ->
  E.length+es.length<=2000->RI lo E U->(E=[]->last=lo) ->
  ∃many' last' U' y8 y9,cg (aT 8) (aw bt) (es.map .int) [x0,x1,aU many,aU 0,some (.v (hv lo)),some (.v (hv last)),aX 1,some (.v (.fd ks ds)),x8,x9] U =
   some (.nx [x0,x1,aU many',aU 0,some (.v (hv lo)),some (.v (hv last')),aX 1,some (.v (.fd ks ds)),y8,y9] U')/\RI lo (E++wk (An rs) last es) U'
 |[],L,many,last,E,U,x8,x9,_,_,_,_,_,_,hR,_=>⟨many,last,U,x8,x9,rfl,by rw [wk,zbi];exact hR⟩|e::es,L,many,last,E,U,x8,x9,hd,hs,hL,hm,hin,hE,hR,hl=>by
  obtain ⟨p1,p2⟩:=zaw.mp hs;rw [zaD] at hE
  have hm1:cn rs (e - 1)=many:=hm (e - 1) (by have:=hL e zag;omega) fun x hx=>by
   rcases zal.mp hx with rfl|hx
   ·omega
   ·have:=p1 x hx;omega
  have hmany:many+(cn rs e - cn rs (e - 1))=cn rs e:=by omega
  have hq:decide (0 < many+(cn rs e - cn rs (e - 1)))=An rs e:=by rw [hmany];exact (pv e rs).2.symm
  have hdx:=hd e zag
  have hin':∀r∈rs,∀x∈r.2,e < x->x∈es:=fun r hr x hx q=>by
   rcases zal.mp (hin r hr x hx (by have:=hL e zag;omega)) with rfl|z
   ·omega
   ·exact z
  have nxt:=fun last E U x9=>xu bt hkv (rs:=rs) x0 x1 lo es e (many+(cn rs e - cn rs (e - 1))) last E U (some (.v (.int e))) x9 (fun y hy=>hd y (zai _ hy)) p2 p1 (fun d q1 q2=>by
   rw [hmany];exact wI q1 fun r hr x hx q=>q2 x (hin' r hr x hx q)) hin'
  have go:∀(U1:ac) (last1:Bool) (E1:Th),aw bt [x0,x1,aU many,aU 0,some (.v (hv lo)),some (.v (hv last)),aX 1,some (.v (.fd ks ds)),aU e,x9] U =
    some (.nx [x0,x1,aU ((many+(cn rs e - cn rs (e - 1)))),aU 0,some (.v (hv lo)),some (.v (hv last1)),aX 1,some (.v (.fd ks ds)),aU e,some (.v (hv last1))] U1)->RI lo E1 U1->(E1=[]->last1=lo)->E1.length+es.length<=2000->E++wk (An rs) last (e::es)=E1++wk (An rs) last1 es ->
    ∃many' last' U' y8 y9,cg (aT 8) (aw bt) ((e::es).map .int) [x0,x1,aU many,aU 0,some (.v (hv lo)),some (.v (hv last)),aX 1,some (.v (.fd ks ds)),x8,x9] U =
     some (.nx [x0,x1,aU many',aU 0,some (.v (hv lo)),some (.v (hv last')),aX 1,some (.v (.fd ks ds)),y8,y9] U')/\RI lo (E++wk (An rs) last (e::es)) U':=by
   intro U1 last1 E1 hst hR1 hl1 hE1 hw;obtain ⟨many',last',U',y8,y9,h1,h2⟩:=nxt last1 E1 U1 (some (.v (hv last1))) hE1 hR1 hl1;refine ⟨many',last',U',y8,y9,?_,by rw [hw];exact h2⟩;rw [zaf,bR,ph,zB]
   show DO (aw bt [x0,x1,aU many,aU 0,some (.v (hv lo)),some (.v (hv last)),aX 1,some (.v (.fd ks ds)),aU e,x9] U) _ _ _=_
   rw [hst,qo];exact h1
  by_cases c:An rs e=last
  ·exact go U last E (Ek hkv hdx (hq.trans c)) hR hl (by omega) (by rw [wk,if_pos c])
  ·have c':An rs e = !last:=by revert c;cases An rs e <;> cases last <;> simp
   have hw:E++wk (An rs) last (e::es)=(E++[e])++wk (An rs) (!last) es:=by rw [wk,if_neg c,c',za3];rfl
   obtain ⟨r2,⟨rE,r1⟩|⟨n,hn,_,r1,r3⟩⟩:=hR
   ·subst rE
    have:=hl rfl;subst this;obtain ⟨U1,s1,s2⟩:=Bd (bt:=bt) (x0:=x0) (x1:=x1) (x9:=x9) hkv hdx (hq.trans c') r1 r2;exact go U1 _ [e] s1 s2 (by simp) (by simp;omega) hw
   ·obtain ⟨U1,s1,s2⟩:=El (bt:=bt) (x0:=x0) (x1:=x1) (x9:=x9) hkv hdx (hq.trans c') (by omega) hn r1 r2 r3 rfl rfl
    exact go U1 _ (E++[e]) s1 s2 (by simp) (by simp;omega) hw
theorem jP {Z:Type}{c:FT}{f:FE}{rest:Lo}{U:ac}(ea eb:Z->D)(p:Z->Bool)(out:Z->D):∀(T:List Z) (x0 x1:Option R),(∀a∈T,c (some (.v (ea a))::some (.v (eb a))::rest) U=some (p a,U))->(∀a∈T,p a=true->f (some (.v (ea a))::some (.v (eb a))::rest) U=some (.v (out a),U)) ->
  bv (iF 2 (aq (aT 0) (aq (aT 1) bz))) c f (T.map fun a=>.tup [ea a,eb a]) (x0::x1::rest) U=some ((T.filter p).map out,U)
 |[],_,_,_,_=>rfl|e::T,x0,x1,h,h'=>by
  have h1:=h e zag;have ih:=jP ea eb p out T (some (.v (ea e))) (some (.v (eb e))) (fun b hb=>h b (zai _ hb)) (fun b hb=>h' b (zai _ hb));have hg:iF 2 (aq (aT 0) (aq (aT 1) bz)) (.v (.tup [ea e,eb e])) (x0::x1::rest) U=some (some (.v (ea e))::some (.v (eb e))::rest,U):=rfl
  cases hp:p e with
  |true =>
   have h2:=h' e zag hp;simp only [zaf,bv,hg,zav,h1,hp,if_true,h2,ih,zby]
  |false=>simp only [zaf,bv,hg,zav,h1,hp,zap,if_false,ih,zby]
def DR:1<=sizeLine:=by decide
def fg {Z:Type}{cs:List Z}{c:Z}:(cs++[c])[cs.length]?=some c:=by simp
theorem wN:∀rs:List Rc,c0 rs=((rs.filter (·.1)).length:Int)
 |[]=>rfl|r::rs=>by rw [c0,wN rs,zby];cases r.1 <;> simp [li] <;> omega
theorem og:∀(l:List Rc),(l.map fun _=>(0:Int)).sum=0
 |[]=>rfl|r::l=>by simp [og l]
abbrev uD (u:Rc):D:=if u=(false,[]) then .fd [] [] else .fd [.inl 0] [rD u]
abbrev cR:FT:=fB (nJ (G8 true .non) (ae 0))
abbrev fR:FE:=bT (af (ae 0) (af (bT (af (aA (gg false) (ae 0) (ae 1)) (af (dI lD (af (l0 (ae 2) (ae 0)) ai)) ai))) ai))
def mG {lo:Bool}{x0:Option R}{xs:List D}{U:ac}:bv (aT 0) cR fR (.non::xs) [x0,some (.v (hv lo)),aX 1] U=bv (aT 0) cR fR xs [some (.v .non),some (.v (hv lo)),aX 1] U:=by rw [bv];push_cast [zav,zap,if_false]
def mH {lo:Bool}{x0:Option R}{xs:List D}{U:ac}{kvs:List (aH×R)}{n:Nat}{E:Th}(h1:U[1]?=some (.fzr kvs))(hv0:cO kvs (.inl 0)=some (.p n))(hn:U[n]?=some (.lst (E.map .int))) :
  bv (aT 0) cR fR (.int 0::xs) [x0,some (.v (hv lo)),aX 1] U=(bv (aT 0) cR fR xs [aU 0,some (.v (hv lo)),aX 1] U).bind fun r=>some (.tup [.int 0,rD (lo,E)]::r.1,r.2):=by
 rw [bv];cases lo
 ·push_cast [hv,zap,if_false,zav,h1,hv0,hn,Fy]
 ·push_cast [hv,if_true,zav,h1,hv0,hn,zca]
theorem vL (bt:Bool)(rs:List Rc)(hs:∀r∈rs,r.2.Pairwise (· < ·))(ht:F8 rs<=3000)(hl:rs.length<=2000)(he:(vd rs).length < 64):aS bt [.fl (rs.map wD)]=some (uD (Un rs (vd rs))):=by
 rw [kA];have z1:(rs.map wD).length<=sizeLine:=bA (by rw [zah];omega);have z1':rs.length<=sizeLine:=bA (by omega);have fl:=zcW (fun r:Rc=>r.1) rs;have cm:bv (iF 2 (aq (aT 0) (aq (aT 1) bz))) (fm (aA c7 (ae 0) (fK (.int 0)))) (ae 1) (rs.map wD) (dg 2 [] [some (.v (.fl (rs.map wD))),none,none,none,none,none,none,none,none,none]) []=some ((rs.filter (·.1)).map (fun _=>D.int 0),[]) :=
  jP (rest:=[]) rD (fun _=>.int 0) (·.1) (fun _=>.int 0) rs none none (fun r _=>by push_cast [HW.sU]) (fun r _ _=>by push_cast [HW.sU])
 have hi:gd ((rs.filter (·.1)).map (fun _=>D.int 0))=some ((rs.filter (·.1)).map fun _=>(0:Int)):=by
  have:=Ft (ns:=(rs.filter (·.1)).map fun _=>(0:Int))
  rwa [zaR] at this
 have hgt:decide ((0:Int) < (((rs.filter (·.1)).length:Nat):Int))=A0 rs:=by rw [←wN];exact (wM rs).2.symm
 have hce:=wJ rs ht;have he':((uV [] rs).map (·.1)).length < 64:=by rw [←(cV _).length_eq];exact he
 have hsF:∀U:ac,lH bt [.v (.fd (Hs rs) (Kr rs))] U=some (.p U.length,U++[.lst ((vd rs).map .int)]):=fun U=>by simp only [lH,FD,zav,he',if_true]
 obtain ⟨L,hL⟩:=oK (vd rs);have ok:=lc rs;obtain ⟨many',last',U',y8,y9,e,hR⟩:=xu bt (ks:=Hs rs) (ds:=Kr rs) (kz:=(Hs rs).zip ((Kr rs).map R.v)) (fun U=>by rw [F6,if_pos (by simp)]) (rs:=rs) (some (.v (.fl (rs.map wD)))) (some (.p 0)) (A0 rs) (vd rs) L (((rs.filter (·.1)).length:Nat):Int) (A0 rs) []
  [.lst ((rs.filter (·.1)).map (fun _=>D.int 0)),.dr [(hk (A0 rs),.p 2)],.lst [],.fz ((vd rs).map .int)] none none
  (fun x hx=>by
   have:=Kq (rs:=rs) (k:=x) ((cV _).mem_iff.mp hx)
   rwa [Cu x rs [] hs,show gv [] x=0 from rfl,zdr] at this)
  ok.up hL (fun d _ q=>by rw [←wN];exact sh fun r hr x hx=>q x ((ok.all x).mpr ⟨r,hr,hx⟩))
  (fun r hr x hx _=>(ok.all x).mpr ⟨r,hr,hx⟩) (by simp;omega) ⟨rfl,.inl ⟨rfl,rfl⟩⟩ (fun _=>rfl)
 rw [za8] at hR;have hUz:Un rs (vd rs)=(A0 rs,wk (An rs) (A0 rs) (vd rs)):=rfl;rw [hUz];generalize wk (An rs) (A0 rs) (vd rs)=E at hR ⊢;generalize A0 rs=lo at hR e hgt ⊢;have z2:((rs.filter (·.1)).map (fun _=>D.int 0)).length<=sizeLine:=bA (by rw [zah];omega);have z2':(rs.filter (·.1)).length<=sizeLine:=bA (by omega);have et:∀(X:FS),(ar (aI 1 (bH [] 2 (ba (ae 0)) (iF 2 (aq (aT 0) (aq (aT 1) bz))) (fm (aA c7 (ae 0) (fK (.int 0)))) (ae 1)))
  (ar (aI 2 (dI eU (af (ae 1) ai)))
  (ar (aI 3 (dI yK (af (ae 1) ai)))
  (ar (aI 4 (Ke (fB (aA Hd (ae 2) (fK (.int 0)))) (ae 3) (fK .non)))
  (ar (aI 5 (ae 4))
  (ar (aI 6 (o9 (ae 4) (fq ai)))
  (ar (aI 7 (aR bQ 1 (af (cD (ae 0)) ai)))
  (ar (dF (ba (dI (lH bt) (af (ae 7) ai))) (aT 8)
  (aw bt)) X)))))))) [some (.v (.fl (rs.map wD))),none,none,none,none,none,none,none,none,none] [] =
   X [some (.v (.fl (rs.map wD))),aX 0,aU many',aU 0,some (.v (hv lo)),some (.v (hv last')),aX 1,some (.v (.fd (Hs rs) (Kr rs))),y8,y9] U':=fun X=>by
  cases lo
  ·simp only [hv,hk,zap,if_false] at e;push_cast [z1,z1',cm,z2,z2',zah,hi,og,hgt,hce,hsF,e,hv,zap,if_false]
  ·simp only [hv,hk,if_true] at e;push_cast [z1,z1',cm,z2,z2',zah,hi,og,hgt,hce,hsF,e,hv]
 have fin:∃k n,dM bt [some (.v (.fl (rs.map wD))),none,none,none,none,none,none,none,none,none] []=some (.rt (.p n) k)/\zK k[n]?=some (uD (lo,E)):=by
  refine Exists.elim (?_:∃(k:ac) (n:Nat),bP (dI nc (af (bH [4,6] 1 (k8 (ae 6)) (aT 0) cR fR) ai)) [some (.v (.fl (rs.map wD))),aX 0,aU many',aU 0,some (.v (hv lo)),some (.v (hv last')),aX 1,some (.v (.fd (Hs rs) (Kr rs))),y8,y9] U'=some (.rt (.p n) k)/\zK k[n]?=some (uD (lo,E))) fun k h=>Exists.elim h fun n h=>⟨k,n,?_,h.2⟩
  ·obtain ⟨r2,⟨rE,r1⟩|⟨n,hn,hE,r1,r3⟩⟩:=hR
   ·subst rE;have l2:=b6 r2;cases lo
    ·simp only [hk,zap,if_false] at r1;refine ⟨U'.set 1 (.fzr [(.inr none,.p 2)])++[ap.lst []]++[ap.dct []],(U'.set 1 (.fzr [(.inr none,.p 2)])++[ap.lst []]).length,?_,by rw [fg];rfl⟩;have c1:bv (aT 0) cR fR [.non] [none,some (.v .non),aX 1] (U'.set 1 (.fzr [(.inr none,.p 2)]))=some ([],U'.set 1 (.fzr [(.inr none,.p 2)])):=mG (lo:=false);push_cast [r1,DR,c1,fg,gN,zav];rfl
    ·simp only [hk,if_true] at r1;have g2:(U'.set 1 (.fzr [(.inl 0,.p 2)]))[2]?=some (.lst (([]:Th).map .int)):=(by rw [zak (by omega)];exact r2);have g1:(U'.set 1 (.fzr [(.inl 0,.p 2)]))[1]?=some (.fzr [(.inl 0,.p 2)]):=zay (by omega);refine ⟨U'.set 1 (.fzr [(.inl 0,.p 2)])++[ap.lst [.tup [.int 0,rD (true,[])]]]++[ap.dct [(.inl 0,rD (true,[]))]],(U'.set 1 (.fzr [(.inl 0,.p 2)])++[ap.lst [.tup [.int 0,rD (true,[])]]]).length,?_,by rw [fg];rfl⟩;have c1:bv (aT 0) cR fR [.int 0] [none,aU 0,aX 1] (U'.set 1 (.fzr [(.inl 0,.p 2)]))=some ([.tup [.int 0,rD (true,[])]],U'.set 1 (.fzr [(.inl 0,.p 2)])):=mH (lo:=true) g1 rfl g2;push_cast [r1,DR,c1,fg,gN,zav,za7];rfl
   ·have l2:=b6 r2;have hu:uD (lo,E)=.fd [.inl 0] [rD (lo,E)]:=by unfold uD;rw [if_neg (fun z=>hE (congrArg Prod.snd z))]
    rw [hu];generalize hkv : [(hk lo,R.p 2),(hk (!lo),R.p n)]=kvs at r1;have g1:(U'.set 1 (.fzr kvs))[1]?=some (.fzr kvs):=zay (by omega);have g2:(U'.set 1 (.fzr kvs))[2]?=some (.lst (E.map .int)):=(by rw [zak (by omega)];exact r2);have g3:(U'.set 1 (.fzr kvs))[n]?=some (.lst (E.map .int)):=(by rw [zak (by omega)];exact r3);refine ⟨U'.set 1 (.fzr kvs)++[ap.lst [.tup [.int 0,rD (lo,E)]]]++[ap.dct [(.inl 0,rD (lo,E))]],(U'.set 1 (.fzr kvs)++[ap.lst [.tup [.int 0,rD (lo,E)]]]).length,?_,by rw [fg];rfl⟩;have c0:bv (aT 0) cR fR ((kvs.map (·.1)).map HW.kD) [none,some (.v (hv lo)),aX 1] (U'.set 1 (.fzr kvs))=some ([.tup [.int 0,rD (lo,E)]],U'.set 1 (.fzr kvs)):=by
     cases lo
     ·subst hkv;exact mG.trans (by rw [show [((hk (!false):aH),R.p n)].map (·.1)=[.inl 0] from rfl];exact (mH (lo:=false) g1 rfl g3).trans rfl)
     ·subst hkv;exact (mH (lo:=true) g1 rfl g2).trans (by erw [mG];rfl)
    have kl:((kvs.map (·.1)).map HW.kD).length=2:=(by subst hkv;rfl);push_cast [r1];rw [if_pos (by rw [kl];exact sU)];push_cast [c0,fg,gN,zav,za7];rfl
  ·exact (et _).trans h.1
 obtain ⟨k,n,f1,f2⟩:=fin;rw [f1,CQ,f2]
section
variable {κ:Type}[DecidableEq κ]
theorem eE:∀(l m:List κ),l.Nodup->(∀x∈l,x∈m)->l.length<=m.length
 |[],_,_,_=>zbb _|x::l,m,hn,h=>by
  obtain ⟨h1,h2⟩:=zaK.mp hn;have hx:=h x zag;have:=eE l (m.erase x) h2 fun y hy=>(List.mem_erase_of_ne (fun e=>by subst e;exact h1 hy)).mpr (h y (zai _ hy));rw [List.length_erase_of_mem hx] at this
  have:0 < m.length:=zcL hx;simp only [zaD];omega
abbrev Hl (κ:Type):=List (κ×Nat×List D)
abbrev kvs (l:Hl κ):List (κ×R):=l.map fun p=>(p.1,R.p p.2.1)
noncomputable def cB:Hl κ->κ->Nat->D->Hl κ
 |[],k,a,d=>[(k,a,[d])]|p::l,k,a,d=>if p.1=k then (p.1,p.2.1,p.2.2++[d])::l else p::cB l k a d
def cont:Hl κ->κ->List D
 |[],_=>[]|p::l,k=>if p.1=k then p.2.2 else cont l k
def adr:Hl κ->κ->Option Nat
 |[],_=>none|p::l,k=>if p.1=k then some p.2.1 else adr l k
theorem iH (k x:κ)(a:Nat)(d:D):∀l:Hl κ,cont (cB l k a d) x=cont l x++(if k=x then [d] else [])
 |[]=>by by_cases q:k=x <;> simp [cB,cont,q]|p::l=>by
  have ih:=iH k x a d l;rw [cB];by_cases q:p.1=k
  ·rw [if_pos q,cont,cont];by_cases z:p.1=x
   ·rw [if_pos z,if_pos z,if_pos (q.symm.trans z)]
   ·rw [if_neg z,if_neg z,if_neg (fun w=>z (q.trans w)),zbi]
  ·rw [if_neg q,cont,cont];by_cases z:p.1=x
   ·rw [if_pos z,if_pos z,if_neg (fun w=>q (z.trans w.symm)),zbi]
   ·rw [if_neg z,if_neg z,ih]
theorem gM (k x:κ)(a:Nat)(d:D):∀l:Hl κ,x∈(cB l k a d).map (·.1) ↔ x∈l.map (·.1)\/x=k
 |[]=>by simp [cB]|p::l=>by
  have ih:=gM k x a d l;rw [cB];by_cases q:p.1=k
  ·rw [if_pos q];simp only [zaf,zal];constructor
   ·exact .inl
   ·rintro (h|h)
    ·exact h
    ·exact .inl (h.trans q.symm)
  ·rw [if_neg q];simp only [zaf,zal,ih,or_assoc]
theorem oG (k:κ)(a:Nat)(d:D):∀l:Hl κ,(l.map (·.1)).Nodup->((cB l k a d).map (·.1)).Nodup
 |[],_=>by simp [cB]|p::l,h=>by
  rw [zaf,zaK] at h;rw [cB];by_cases q:p.1=k
  ·rw [if_pos q,zaf,zaK];exact h
  ·rw [if_neg q,zaf,zaK];refine ⟨fun z=>?_,oG k a d l h.2⟩;rcases (gM k p.1 a d l).mp z with z|z
   ·exact h.1 z
   ·exact q z
theorem tS (k:κ)(a:Nat)(d:D):∀l:Hl κ,(cB l k a d).length<=l.length+1
 |[]=>by simp [cB]|p::l=>by
  have ih:=tS k a d l;rw [cB];split
  ·simp
  ·simp only [zaD];omega
theorem jV {k:κ}:∀{l:Hl κ},adr l k=none ↔ k∉l.map (·.1)
 |[]=>by simp [adr]|p::l=>by
  have ih:=jV (k:=k) (l:=l);rw [adr];by_cases q:p.1=k
  ·rw [if_pos q];simp [q]
  ·rw [if_neg q,ih,zaf,zal,not_or];exact ⟨fun h=>⟨fun z=>q z.symm,h⟩,fun h=>h.2⟩
theorem jb {k:κ}{a:Nat}:∀{l:Hl κ},adr l k=some a->(k,a,cont l k)∈l
 |[],h=>by cases h|p::l,h=>by
  rw [adr] at h;rw [cont];by_cases q:p.1=k
  ·rw [if_pos q] at h ⊢
   cases h;rw [←q];exact zag
  ·rw [if_neg q] at h ⊢;exact zai _ (jb h)
structure HD (C:List (κ×R)->ap)(n:Nat)(U:ac)(l:Hl κ):Prop where
 dict:U[n]?=some (C (kvs l))
 nd:(n::l.map fun p=>p.2.1).Nodup
 cell:∀p∈l,U[p.2.1]?=some (.lst p.2.2)
theorem xR {k:κ}{a b:Nat}{d:D}:∀{l:Hl κ},k∈l.map (·.1)->kvs (cB l k b d)=kvs l/\(cB l k b d).map (fun p=>p.2.1)=l.map fun p=>p.2.1
 |[],h=>by cases h|p::l,h=>by
  rw [cB];by_cases q:p.1=k
  ·rw [if_pos q];exact ⟨rfl,rfl⟩
  ·rw [if_neg q];have:=xR (a:=a) (b:=b) (d:=d) (l:=l) (by
    rw [zaf] at h;rcases zal.mp h with w|w
    ·exact absurd w.symm q
    ·exact w)
   exact ⟨congrArg (_ :: ·) this.1,congrArg (_ :: ·) this.2⟩
theorem xz {k:κ}{b:Nat}{d:D}:∀{l:Hl κ} {p},(l.map (·.1)).Nodup->p∈cB l k b d->k∈l.map (·.1)->(p∈l/\p.1≠k)\/(p.1=k/\adr l k=some p.2.1/\p.2.2=cont l k++[d])
 |[],p,_,_,h=>by cases h|q::l,p,nd,hp,h=>by
  rw [zaf,zaK] at nd;rw [cB] at hp;rw [adr,cont];by_cases z:q.1=k
  ·rw [if_pos z] at hp ⊢;rw [if_pos z];rcases zal.mp hp with rfl|hp
   ·exact .inr ⟨z,rfl,rfl⟩
   ·exact .inl ⟨zai _ hp,fun w=>nd.1 (by rw [z,←w];exact zaZ hp)⟩
  ·rw [if_neg z] at hp ⊢;rw [if_neg z];rcases zal.mp hp with rfl|hp
   ·exact .inl ⟨zag,z⟩
   ·rcases xz nd.2 hp (by
     rw [zaf] at h;rcases zal.mp h with w|w
     ·exact absurd w.symm z
     ·exact w) with w|w
    ·exact .inl ⟨zai _ w.1,w.2⟩
    ·exact .inr w
theorem qh {k:κ}{b:Nat}{d:D}:∀{l:Hl κ},k∉l.map (·.1)->cB l k b d=l++[(k,b,[d])]
 |[],_=>rfl|p::l,h=>by rw [zaf,zal,not_or] at h;rw [cB,if_neg (fun z=>h.1 z.symm),qh h.2];rfl
variable {C:List (κ×R)->ap}{n:Nat}{U:ac}{l:Hl κ}
def HD.lt (h:HD C n U l):n < U.length:=b6 h.dict
def HD.adr (h:HD C n U l){k:κ}{a:Nat}(e:adr l k=some a):U[a]?=some (.lst (cont l k)):=h.cell _ (jb e)
def HD.adrN (h:HD C n U l){k:κ}{a:Nat}(e:LW.adr l k=some a):a≠n:=fun z=>by subst z;exact (zaK.mp h.nd).1 (zan.mpr ⟨_,jb e,rfl⟩)
def HD.old (h:HD C n U l)(nk:(l.map (·.1)).Nodup){k:κ}{a:Nat}(e:LW.adr l k=some a)(d:D)(b:Nat):HD C n ((U++[ap.lst []]).set a (.lst (cont l k++[d]))) (cB l k b d):=by
 have hk:k∈l.map (·.1):=by refine Classical.byContradiction fun z=>?_;rw [jV.mpr z] at e;cases e
 have la:=b6 (h.adr e);obtain ⟨k1,k2⟩:=xR (a:=a) (b:=b) (d:=d) hk;refine ⟨?_,by rw [k2];exact h.nd,fun p hp=>?_⟩
 ·rw [zak (h.adrN e),zaj h.lt,k1];exact h.dict
 ·rcases xz nk hp hk with ⟨w,w2⟩|⟨w1,w2,w3⟩
  ·have:a≠p.2.1:=fun z=>by
    have m1:=jb e;have:=(zaK.mp h.nd).2;obtain ⟨i,hi,e1⟩:=za6 m1;obtain ⟨j,hj,e2⟩:=za6 w;have hij:i=j:=(zbJ (xs:=l.map fun p=>p.2.1) (h₀:=by simpa using hi) (h₁:=by simpa using hj) this).mp (by rw [zbz,zbz,e1,e2];exact z);subst hij;rw [e1] at e2;exact w2 (by rw [←e2])
   have hc:=h.cell p w;rw [zak this,zaj (b6 hc)];exact hc
  ·rw [e] at w2
   cases w2;rw [w3,zay (by simp;omega)]
def HD.new (h:HD C n U l){k:κ}(hk:k∉l.map (·.1))(d:D):HD C n (((U++[ap.lst []]).set n (C (kvs l++[(k,.p U.length)]))).set U.length (.lst [d])) (cB l k U.length d):=by
 have hn:=h.lt;rw [qh hk];refine ⟨?_,?_,fun p hp=>?_⟩
 ·rw [zak (by omega),zay (by simp;omega)];simp [kvs]
 ·rw [zaX,←zb9,zbu];refine ⟨h.nd,by simp,fun x hx y hy=>?_⟩;simp only [zaf,zbc,zaB] at hy;subst hy;rcases zal.mp hx with rfl|hx
  ·omega
  ·obtain ⟨p,hp,rfl⟩:=zan.mp hx;have:=b6 (h.cell p hp);omega
 ·rcases za2.mp hp with hp|hp
  ·have hc:=h.cell p hp;have:=b6 hc;have pn:n≠p.2.1:=fun z=>(zaK.mp h.nd).1 (by rw [z];exact zaZ (f:=fun p:κ×Nat×List D=>p.2.1) hp);rw [zak (by omega),zak pn,zaj this];exact hc
  ·rw [zaB] at hp;subst hp;rw [zay (by simp)]
end
abbrev dC (l:List (Int×R)):ap:=.dr (l.map fun q=>(.inl q.1,q.2))
theorem KS (k:Int):∀l:Hl Int,cO ((kvs l).map fun q=>((.inl q.1:aH),q.2)) (.inl k)=(adr l k).map R.p
 |[]=>rfl|p::l=>by
  have ih:=KS k l;unfold cO at ih ⊢;rw [adr];simp only [kvs,zaf];by_cases q:p.1=k
  ·rw [zbG (by simp [q]),if_pos q];rfl
  ·have q':¬ ((Sum.inl p.1:aH)=.inl k):=fun z=>q (Sum.inl.inj z);rw [zbH (by simp [q']),if_neg q];exact ih
abbrev DH (i:Int)(r:Rc):D:=.tup [.int i,rD r]
structure SB (M:Th)(U:ac)(l:Hl Int)(N:Nat):Prop where
 hd:HD dC 0 U l
 nk:(l.map (·.1)).Nodup
 km:∀k∈l.map (·.1),k∈M
 cl:∀k,(cont l k).length<=N
theorem D1 {x0 x3:Option R}{i t:Int}{r:Rc}{U:ac}{l:Hl Int}{N:Nat}{M:Th}(hM:M.length < 1000)(h:SB M U l N)(ht:t∈M)(hN:N < 3000) :
  ∃U' b,cz [x0,aX 0,aU i,x3,aU t,some (.v (rD r))] U=some (.nx [x0,aX 0,aU i,x3,aU t,some (.v (rD r))] U')/\SB M U' (cB l t b (DH i r)) (N+1):=by
 have hdd:=h.hd.dict;have lt:=h.hd.lt
 have h2:(U++[ap.lst []])[0]?=some (dC (kvs l)):=by rw [zaj lt];exact hdd
 have zl:((kvs l).map fun q=>((.inl q.1:aH),q.2)).length < 1000:=by have:=eE _ M h.nk h.km;rw [zah] at this;simp;omega
 have zc:(cont l t).length < sizeLine:=dk (by have:=h.cl t;omega);have z0:(0:Nat) < sizeLine:=dk (by omega)
 have sb:∀(U':ac) (b:Nat),HD dC 0 U' (cB l t b (DH i r))->SB M U' (cB l t b (DH i r)) (N+1):=fun U' b hh=>⟨hh,oG _ _ _ _ h.nk,fun k hk=>by
   rcases (gM t k b (DH i r) l).mp hk with z|z
   ·exact h.km k z
   ·exact z ▸ ht,fun k=>by
  rw [iH,za1];have:=h.cl k;split
  ·simp;omega
  ·simp;omega⟩
 have vi:=KS t l
 cases e:adr l t with
 |some a =>
  have ga:=h.hd.adr e
  have g2:(U++[ap.lst []])[a]?=some (.lst (cont l t)):=by rw [zaj (b6 ga)];exact ga
  rw [e,za7] at vi;refine ⟨_,0,?_,sb _ 0 (h.hd.old h.nk e (DH i r) 0)⟩;push_cast [cz,dC,hdd,h2,zl,vi,g2,zc]
 |none =>
  rw [e,Option.map_none] at vi
  have g2:((U++[ap.lst []]).set 0 (.dr (((kvs l).map fun q=>((.inl q.1:aH),q.2))++[(.inl t,.p U.length)])))[U.length]?=some (.lst []):=by
   rw [zak (by omega)];exact fg
  have hn:=h.hd.new (jV.mp e) (DH i r);refine ⟨_,U.length,?_,sb _ _ hn⟩;push_cast [cz,hdd,h2,zl,vi,g2,z0,za8,dC,zaX]
theorem GO {x0 x3:Option R}{i:Int}{M:Th}(hM:M.length < 1000):∀(qs:List (Int×Rc)) {U:ac} {l:Hl Int} {N:Nat} (x4 x5:Option R),SB M U l N->(∀q∈qs,q.1∈M)->N+qs.length < 3000 ->
  ∃U' l' y4 y5,cg (iF 2 (aq (aT 4) (aq (aT 5) bz))) cz (qs.map sD) [x0,aX 0,aU i,x3,x4,x5] U=some (.nx [x0,aX 0,aU i,x3,y4,y5] U')/\SB M U' l' (N+qs.length) /\
   (∀x,cont l' x=cont l x++(qs.filter fun q=>decide (q.1=x)).map fun q=>DH i q.2)/\(∀x,x∈l'.map (·.1) ↔ x∈l.map (·.1)\/x∈qs.map (·.1))
 |[],U,l,N,x4,x5,h,_,_=>⟨U,l,x4,x5,rfl,h,fun x=>by simp,fun x=>by simp⟩|q::qs,U,l,N,x4,x5,h,hq,hN=>by
  rw [zaD] at hN;obtain ⟨U1,b,e1,h1⟩:=D1 (x0:=x0) (x3:=x3) (i:=i) (t:=q.1) (r:=q.2) hM h (hq q zag) (by omega);obtain ⟨U2,l2,y4,y5,e2,h2,c2,k2⟩:=GO (x0:=x0) (x3:=x3) (i:=i) hM qs (some (.v (.int q.1))) (some (.v (rD q.2))) h1 (fun x hx=>hq x (zai _ hx)) (by omega);refine ⟨U2,l2,y4,y5,?_,by rw [zaD,show N+(qs.length+1)=N+1+qs.length by omega];exact h2,fun x=>?_,fun x=>?_⟩
  ·rw [zaf,bR]
   push_cast [sD] at e1 ⊢;rw [e1,qo];exact e2
  ·rw [c2,iH,za3,zby]
   by_cases z:q.1=x <;> simp [z]
  ·rw [k2,gM,zaf,zal,or_assoc]
abbrev Pl:=Rc×List (Int×Rc)
abbrev en (p:Pl):D:=pD p.1 p.2
def DT (x:Int):Int->List Pl->List D
 |_,[]=>[]|i,p::ps=>((p.2.filter fun q=>decide (q.1=x)).map fun q=>DH i q.2)++DT x (i+1) ps
def qV:List Pl->Nat
 |[]=>0|p::ps=>p.2.length+qV ps
noncomputable def KN:Int->List Pl->List D
 |_,[]=>[]|i,p::ps=>.tup [.int i,en p]::KN (i+1) ps
def Kl (ps:List Pl):l6 (ps.map en)=KN 0 ps:=by
 have key:∀(ps:List Pl) (i:Nat),((ps.map en).zipIdx i).map (fun p=>D.tup [.int ((p.2:Nat):Int),p.1])=KN (i:Int) ps:=by
  intro ps;induction ps with|nil=>intro i;rfl|cons p ps ih =>
   intro i;have:=ih (i+1);simp only [zaf,List.zipIdx_cons,KN,this];rw [show ((i+1:Nat):Int)=(i:Int)+1 by omega]
 exact key ps 0
theorem AY {x0:Option R}{M:Th}(hM:M.length < 1000):∀(ps:List Pl) {i:Int} {U:ac} {l:Hl Int} {N:Nat} (x2 x3 x4 x5:Option R),SB M U l N->(∀p∈ps,∀q∈p.2,q.1∈M)->N+qV ps < 3000 ->
  ∃U' l' y2 y3 y4 y5,cg (iF 2 (aq (aT 2) (aq (aT 3) bz))) eG (KN i ps) [x0,aX 0,x2,x3,x4,x5] U=some (.nx [x0,aX 0,y2,y3,y4,y5] U')/\SB M U' l' (N+qV ps) /\
   (∀x,cont l' x=cont l x++DT x i ps)/\(∀x,x∈l'.map (·.1) ↔ x∈l.map (·.1)\/∃p∈ps,x∈p.2.map (·.1))
 |[],i,U,l,N,x2,x3,x4,x5,h,_,_=>⟨U,l,x2,x3,x4,x5,rfl,h,fun x=>by simp [DT],fun x=>by simp⟩|p::ps,i,U,l,N,x2,x3,x4,x5,h,hq,hN=>by
  rw [qV] at hN;obtain ⟨U1,l1,z4,z5,e1,h1,c1,k1⟩:=GO (x0:=x0) (x3:=some (.v (en p))) (i:=i) hM p.2 x4 x5 h (hq p zag) (by omega);obtain ⟨U2,l2,y2,y3,y4,y5,e2,h2,c2,k2⟩:=AY (x0:=x0) hM ps (i:=i+1) (some (.v (.int i))) (some (.v (en p))) z4 z5 h1 (fun x hx=>hq x (zai _ hx)) (by omega);refine ⟨U2,l2,y2,y3,y4,y5,?_,by rw [qV,←Nat.add_assoc];exact h2,fun x=>?_,fun x=>?_⟩
  ·rw [KN,bR]
   push_cast [eG,en,pD] at e1 ⊢;rw [e1,qo];exact e2
  ·rw [c2,c1,DT,za3]
  ·rw [k2,k1,or_assoc];simp
theorem Hh:∀(l:Hl Int) (U:ac),(l.map fun p=>p.2.1).Nodup->(∀p∈l,U[p.2.1]?=some (.lst p.2.2))->∃U',zx (((kvs l).map fun q=>((.inl q.1:aH),q.2)).map (·.2)) U=some (l.map (fun p=>.fl p.2.2),U')
 |[],U,_,_=>⟨U,rfl⟩|p::l,U,nd,hc=>by
  rw [zaf,zaK] at nd;have c0:=hc p zag;obtain ⟨U',e⟩:=Hh l (U.set p.2.1 (.fz p.2.2)) nd.2 fun q hq=>by have hne:p.2.1≠q.2.1:=fun z=>nd.1 (by rw [z];exact zaZ (f:=fun p:Int×Nat×List D=>p.2.1) hq);rw [zak hne];exact hc q (zai _ hq)
  refine ⟨U',?_⟩;simp only [zaf,zx,NQ,c0,zav] at e ⊢;rw [e];rfl
structure ST (ps:List Pl)(ks:List aH)(ds:List D):Prop where
 ex:∃ts:Th,fM ks=some ts/\ts.Nodup/\(∀x,x∈ts ↔ ∃p∈ps,x∈p.2.map (·.1))/\∃kz,(∀U,kB (.v (.fd ks ds)) U=some kz)/\∀t∈ts,cO kz (.inl t)=some (.v (.fl (DT t 0 ps)))
theorem ul:∀l:Hl Int,fM (((kvs l).map fun q=>((.inl q.1:aH),q.2)).map (·.1))=some (l.map (·.1))
 |[]=>rfl|p::l=>by have:=ul l;simp only [kvs,zaf,fM] at this ⊢;rw [this];rfl
theorem KU {k:Int}:∀l:Hl Int,k∈l.map (·.1)->cO ((((kvs l).map fun q=>((.inl q.1:aH),q.2)).map (·.1)).zip ((l.map fun p=>D.fl p.2.2).map R.v)) (.inl k)=some (.v (.fl (cont l k)))
 |[],h=>by cases h|p::l,h=>by
  have ih:=KU (k:=k) l;unfold cO at ih ⊢;rw [cont];simp only [kvs,zaf,zde] at ih ⊢;by_cases q:p.1=k
  ·rw [zbG (by simp [q]),if_pos q];rfl
  ·have q':¬ ((Sum.inl p.1:aH)=.inl k):=fun z=>q (Sum.inl.inj z);rw [zbH (by simp [q']),if_neg q];refine ih ?_;rw [zaf] at h;rcases zal.mp h with w|w
   ·exact absurd w.symm q
   ·exact w
theorem AK (ps:List Pl){M:Th}(hM:M.length < 1000)(hq:∀p∈ps,∀q∈p.2,q.1∈M)(hN:qV ps < 3000):∃ks ds,ck [.fl (ps.map en)]=some (.fd ks ds)/\ST ps ks ds:=by
 rw [nt];obtain ⟨U,l,y2,y3,y4,y5,e,h,c,k⟩:=AY (x0:=some (.v (.fl (ps.map en)))) hM ps (i:=0) (U:=[.dr []]) (l:=[]) (N:=0) none none none none ⟨⟨rfl,by simp,fun _ h=>nomatch h⟩,by simp,by simp,fun k=>by simp [cont]⟩ hq (by omega);obtain ⟨U',ef⟩:=Hh l U (zaK.mp h.hd.nd).2 h.hd.cell;have hdr:uM U 0=some ((kvs l).map fun q=>((.inl q.1:aH),q.2)):=by simp only [uM,h.hd.dict,dC]
 refine ⟨((kvs l).map fun q=>((.inl q.1:aH),q.2)).map (·.1),l.map fun p=>.fl p.2.2,?_,⟨l.map (·.1),ul l,h.nk,fun x=>by rw [k];simp,_,fun U=>by rw [F6,if_pos (by simp)],fun t ht=>?_⟩⟩
 ·push_cast [f8,Kl,e];push_cast [Fj,zav,hdr,ef]
 ·rw [KU l ht,c t];rfl
def upd (t:Int)(qs:List (Int×Rc))(r:Rc):Rc:=(qs.filter fun q=>decide (q.1=t)).foldl (fun _ q=>q.2) r
def qB {t:Int}{qs:List (Int×Rc)}(h:∀q∈qs,t < q.1):(qs.filter fun q=>decide (q.1=t))=[]:=by rw [List.filter_eq_nil_iff];intro q hq;have:=h q hq;simp;omega
theorem Ac {t t':Int}(ht:t' < t):∀{qs:List (Int×Rc)} {g:Rc},Up qs->(∀q∈qs,t' < q.1->t<=q.1)->upd t qs (ra g qs t')=ra g qs t
 |[],_,_,_=>rfl|q::qs,g,hu,h=>by
  obtain ⟨p1,p2⟩:=zaw.mp hu;have h0:=h q zag;have ih:=Ac ht (qs:=qs) (g:=q.2) p2 fun x hx=>h x (zai _ hx);rw [ra,ra];unfold upd at ih ⊢;by_cases z:t' < q.1
  ·have z2:=h0 z;rw [if_pos z];by_cases w:t < q.1
   ·rw [if_pos w,List.filter_cons_of_neg (by simp;omega),qB fun x hx=>by have:=p1 x hx;omega];rfl
   ·have:q.1=t:=by omega
    rw [if_neg w,List.filter_cons_of_pos (by simpa using this),qB fun x hx=>by have:=p1 x hx;omega,cS _ _ _ fun x hx=>by have:=p1 x hx;omega];rfl
  ·rw [if_neg z,if_neg (by omega),List.filter_cons_of_neg (by simp;omega),ih]
def DC (x:Int):Nat->List Pl->List (Nat×Rc)
 |_,[]=>[]|i,p::ps=>((p.2.filter fun q=>decide (q.1=x)).map fun q=>(i,q.2))++DC x (i+1) ps
theorem xo (x:Int):∀(ps:List Pl) (i:Nat),DT x (i:Int) ps=(DC x i ps).map fun e=>DH (e.1:Int) e.2
 |[],_=>rfl|p::ps,i=>by have:=xo x ps (i+1);rw [DT,DC,zaX,←this,zaR,show ((i+1:Nat):Int)=(i:Int)+1 by omega];rfl
def yN (R:List Rc)(e:Nat×Rc):List Rc:=R.set e.1 e.2
def zX (t:Int):List Pl->List Rc->List Rc
 |p::ps,b::B=>upd t p.2 b::zX t ps B|_,_=>[]
def DY {Z:Type}(A:List Z)(b x:Z)(B:List Z):(A++b::B).set A.length x=A++x::B:=by simp
theorem uv (A B:List Rc):∀(fs:List (Int×Rc)) (b:Rc),(fs.map fun q=>(A.length,q.2)).foldl yN (A++b::B)=A++(fs.foldl (fun _ q=>q.2) b)::B
 |[],b=>rfl|f::fs,b=>by rw [zaf,zbj,zbj,yN,DY];exact uv A B fs f.2
theorem uw (t:Int):∀(ps:List Pl) (A B:List Rc),B.length=ps.length->(DC t A.length ps).foldl yN (A++B)=A++zX t ps B
 |[],A,B,h=>by have:B=[]:=zbD.mp h;subst this;rfl|p::ps,A,[],h=>by cases h|p::ps,A,b::B,h=>by
  have ih:=uw t ps (A++[upd t p.2 b]) B (by simpa using h);rw [za1,List.length_singleton] at ih;rw [DC,List.foldl_append,uv,zX]
  show (DC t (A.length+1) ps).foldl yN (A++upd t p.2 b::B)=_
  rw [show A++upd t p.2 b::B=A++[upd t p.2 b]++B by simp,ih];simp
abbrev cb (ps:List Pl)(t:Int):List Rc:=ps.map fun p=>ra p.1 p.2 t
theorem zW {t t':Int}(ht:t' < t):∀{ps:List Pl},(∀p∈ps,Up p.2)->(∀p∈ps,∀q∈p.2,t' < q.1->t<=q.1)->zX t ps (cb ps t')=cb ps t
 |[],_,_=>rfl|p::ps,h1,h2=>by have:=zW ht (ps:=ps) (fun x hx=>h1 x (zai _ hx)) fun x hx=>h2 x (zai _ hx);simp only [cb,zaf,zX] at this ⊢;rw [this,Ac ht (h1 p zag) (h2 p zag)]
theorem AN (t:Int):∀(ps:List Pl) (i:Nat),∀e∈DC t i ps,e.1 < i+ps.length
 |[],_,e,h=>by cases h|p::ps,i,e,h=>by
  rw [DC] at h;rw [zaD];rcases za2.mp h with h|h
  ·obtain ⟨q,_,rfl⟩:=zan.mp h
   show i < _;omega
  ·have:=AN t ps (i+1) e h;omega
theorem sZ (bt:Bool){x0 x1 x3 x4 x5 x6 x7 x10 x11:Option R}:∀(es:List (Nat×Rc)) (S:List Rc) (U:ac) (x8 x9:Option R),U[1]?=some (.lst (S.map rD))->(∀e∈es,e.1 < S.length) ->
  ∃y8 y9,cg (iF 2 (aq (aT 8) (aq (aT 9) bz))) (cE bt) (es.map fun e=>DH (e.1:Int) e.2) [x0,x1,aX 1,x3,x4,x5,x6,x7,x8,x9,x10,x11] U =
   some (.nx [x0,x1,aX 1,x3,x4,x5,x6,x7,y8,y9,x10,x11] (U.set 1 (.lst ((es.foldl yN S).map rD))))
 |[],S,U,x8,x9,h,_=>⟨x8,x9,by
   have:U.set 1 (.lst (S.map rD))=U:=by
    obtain ⟨h1,h2⟩:=zau.mp h;rw [←h2];exact List.set_getElem_self h1
   rw [List.foldl_nil,this];rfl⟩
 |e::es,S,U,x8,x9,h,hl=>by
  have h1:=b6 h;have he:=hl e zag;obtain ⟨y8,y9,ih⟩:=sZ bt (x0:=x0) (x1:=x1) (x3:=x3) (x4:=x4) (x5:=x5) (x6:=x6) (x7:=x7) (x10:=x10) (x11:=x11) es (S.set e.1 e.2) (U.set 1 (.lst ((S.set e.1 e.2).map rD))) (some (.v (.int (e.1:Int)))) (some (.v (rD e.2))) (zay h1) (fun x hx=>by rw [zbm];exact hl x (zai _ hx));refine ⟨y8,y9,?_⟩
  have hi:Cg (S.map rD).length (e.1:Int)=some e.1:=by
   unfold Cg;rw [if_pos (by omega),if_pos (by rw [zah];omega)];simp
  have hm:(S.map rD).set e.1 (rD e.2)=(S.set e.1 e.2).map rD:=by rw [List.map_set]
  rw [zaf,bR];push_cast [cE,h,hi,hm];rw [List.set_set] at ih;exact ih
abbrev NO:Rc:=(false,[])
def PI (n:Nat)(pr:Bool)(L:List (Int×Rc))(U:ac):Prop:=1 < n/\((pr=false/\L=[]/\U[n]?=some (.dr []))\/(pr=true/\∃m,1 < m/\m≠n/\U[n]?=some (.dr [(.inl 0,.p m)])/\U[m]?=some (.lst (L.map sD))))
def PI.more {n pr L U}(h:PI n pr L U)(ν:ac):PI n pr L (U++ν):=by
 obtain ⟨h0,⟨h1,h2,h3⟩|⟨h1,m,h2,h3,h4,h5⟩⟩:=h
 ·exact ⟨h0,.inl ⟨h1,h2,by rw [zaj (b6 h3)];exact h3⟩⟩
 ·exact ⟨h0,.inr ⟨h1,m,h2,h3,by rw [zaj (b6 h4)];exact h4,by rw [zaj (b6 h5)];exact h5⟩⟩
def PI.set1 {n pr L U}(h:PI n pr L U)(c:ap):PI n pr L (U.set 1 c):=by
 obtain ⟨h0,⟨h1,h2,h3⟩|⟨h1,m,h2,h3,h4,h5⟩⟩:=h
 ·exact ⟨h0,.inl ⟨h1,h2,by rw [zak (by omega)];exact h3⟩⟩
 ·exact ⟨h0,.inr ⟨h1,m,h2,h3,by rw [zak (by omega)];exact h4,by rw [zak (by omega)];exact h5⟩⟩
def QG (U ν:ac):Prop:=ν[0]?=U[0]?/\ν[1]?=U[1]?
section
variable {bt:Bool}{x0 x1 x2 x3 x4 x6 x8 x9 x11:Option R}{n:Nat}{t:Int}{Uz:Rc}{pr:Bool}{L:List (Int×Rc)}{U:ac}
theorem Ny {a:R}:cO [(.inl 0,a)] (.inl 0)=some a:=rfl
theorem Ex (h:PI n pr L U)(hL:L.length < 1000) :
  ∃U',cg (aT 11) (bU bt) [.int 0] [x0,x1,x2,x3,x4,aX n,x6,aU t,x8,x9,some (.v (.fd [.inl 0] [rD Uz])),x11] U =
   some (.nx [x0,x1,x2,x3,x4,aX n,x6,aU t,x8,x9,some (.v (.fd [.inl 0] [rD Uz])),aU 0] U')/\PI n true (L++[(t,Uz)]) U'/\QG U U':=by
 have z0:(0:Nat) < sizeLine:=dk (by omega)
 have z1:(0:Nat) < 1000:=by omega
 have z2:(1:Nat) < 1000:=by omega
 have kr:∀U:ac,kB (.v (.fd [.inl 0] [rD Uz])) U=some [(.inl 0,.v (rD Uz))]:=fun _=>rfl;have vn:cO [] (.inl 0)=none:=rfl;obtain ⟨h0,⟨h1,h2,h3⟩|⟨h1,m,h2,h3,h4,h5⟩⟩:=h
 ·subst h2
  have l3:=b6 h3
  have a1:(U++[ap.lst []])[n]?=some (.dr []):=by rw [zaj l3];exact h3
  have a2:((U++[ap.lst []]).set n (.dr [(.inl 0,.p U.length)]))[U.length]?=some (.lst []):=by
   rw [zak (by omega)];exact fg
  refine ⟨((U++[ap.lst []]).set n (.dr [(.inl 0,.p U.length)])).set U.length (.lst [sD (t,Uz)]),?_,⟨h0,.inr ⟨rfl,U.length,by omega,by omega,?_,?_⟩⟩,?_,?_⟩
  ·rw [bR]
   push_cast [bU,h3,a1,vn,kr,Ny,z0,z1,a2,za8]
  ·rw [zak (by omega),zay (by simp;omega)]
  ·rw [zay (by simp)];rfl
  ·rw [zak (by omega),zak (by omega),zaj (by omega)]
  ·rw [zak (by omega),zak (by omega),zaj (by omega)]
 ·have l4:=b6 h4
  have l5:=b6 h5
  have a1:(U++[ap.lst []])[n]?=some (.dr [(.inl 0,.p m)]):=by rw [zaj l4];exact h4
  have a2:(U++[ap.lst []])[m]?=some (.lst (L.map sD)):=by rw [zaj l5];exact h5
  have zl:(L.map sD).length < sizeLine:=dk (by rw [zah];omega);refine ⟨(U++[ap.lst []]).set m (.lst (L.map sD++[sD (t,Uz)])),?_,⟨h0,.inr ⟨rfl,m,h2,h3,?_,?_⟩⟩,?_,?_⟩
  ·rw [bR]
   push_cast [bU,h4,a1,kr,Ny,z2,a2,zl]
  ·rw [zak (by omega)];exact a1
  ·rw [zay (by simp;omega),zaX];rfl
  ·rw [zak (by omega),zaj (by omega)]
  ·rw [zak (by omega),zaj (by omega)]
theorem Ew:cg (aT 11) (bE bt) [.int 0] [x0,x1,x2,x3,x4,aX n,x6,aU t,x8,x9,some (.v (.fd [.inl 0] [rD Uz])),x11] U =
      some (.nx [x0,x1,x2,x3,x4,aX n,x6,aU t,x8,x9,some (.v (.fd [.inl 0] [rD Uz])),aU 0] U):=by
  have k:(([(Sum.inl 0:aH)].any fun k=>decide (k=.inl 0)))=true:=rfl;rw [bR];push_cast [bE,k]
theorem Ey (h:PI n true L U)(hL:L.length < 1000) :
  ∃U',cg (aT 11) (bE bt) [.int 0] [x0,x1,x2,x3,x4,aX n,x6,aU t,x8,x9,some (.v (.fd [] [])),x11] U =
   some (.nx [x0,x1,x2,x3,x4,aX n,x6,aU t,x8,x9,some (.v (.fd [] [])),aU 0] U')/\PI n true (L++[(t,NO)]) U'/\QG U U':=by
 obtain ⟨h0,⟨h1,h2,h3⟩|⟨h1,m,h2,h3,h4,h5⟩⟩:=h
 ·cases h1
 ·have l5:=b6 h5
  have k:((([]:List aH).any fun k=>decide (k=.inl 0)))=false:=rfl;have zl:(L.map sD).length < sizeLine:=dk (by rw [zah];omega);refine ⟨U.set m (.lst (L.map sD++[sD (t,NO)])),?_,⟨h0,.inr ⟨rfl,m,h2,h3,?_,?_⟩⟩,?_,?_⟩
  ·rw [bR]
   push_cast [bE,k,h4,Ny,h5,zl];rfl
  ·rw [zak (by omega)];exact h4
  ·rw [zay (by omega),zaX];rfl
  ·rw [zak (by omega)]
  ·rw [zak (by omega)]
end
structure BP (ES TS:Th)(p:Pl):Prop where
 pf:Pf p.1 p.2
 ge:∀e∈p.1.2,e∈ES
 re:∀q∈p.2,∀e∈q.2.2,e∈ES
 te:∀q∈p.2,q.1∈TS
def sE {l:Th}(h:l.Pairwise (· < ·)):l.Nodup:=h.imp fun h=>by omega
def BP.at {ES TS p}(b:BP ES TS p)(t:Int):(ra p.1 p.2 t).2.Pairwise (· < ·)/\(∀e∈(ra p.1 p.2 t).2,e∈ES)/\(ra p.1 p.2 t).2.length<=ES.length:=by
 have h1:=b.pf.at t;have h2:∀e∈(ra p.1 p.2 t).2,e∈ES:=by
  rcases Bg (qs:=p.2) (g:=p.1) (t:=t) with h|⟨q,hq,h⟩
  ·rw [h];exact b.ge
  ·rw [h];exact b.re q hq
 exact ⟨h1,h2,eE _ _ (sE h1) h2⟩
abbrev UU (ps:List Pl)(t:Int):Rc:=Un (cb ps t) (vd (cb ps t))
section
variable {ES TS:Th}
theorem Ah {t:Int}:∀{ps:List Pl},(∀p∈ps,BP ES TS p)->F8 (cb ps t)<=ES.length * ps.length
 |[],_=>by simp [F8]|p::ps,h=>by have ih:=Ah (t:=t) (ps:=ps) fun x hx=>h x (zai _ hx);have:=((h p zag).at t).2.2;simp only [cb,zaf,F8,zaD,Nat.mul_add,Nat.mul_one] at ih ⊢;omega
def Kn {t:Int}{ps:List Pl}(h:∀p∈ps,BP ES TS p):(vd (cb ps t)).length<=ES.length/\∀e∈vd (cb ps t),e∈ES:=by
 have ok:=lc (cb ps t);have h2:∀e∈vd (cb ps t),e∈ES:=fun e he=>by obtain ⟨r,hr,h1⟩:=(ok.all e).mp he;obtain ⟨p,hp,rfl⟩:=zan.mp hr;exact ((h p hp).at t).2.1 e h1
 exact ⟨eE _ _ (sE ok.up) h2,h2⟩
def GR (bt:Bool){t:Int}{ps:List Pl}(hE:ES.length<=16)(h:∀p∈ps,BP ES TS p)(hn:ps.length<=80):aS bt [.fl ((cb ps t).map wD)]=some (uD (UU ps t)) :=
 vL bt (cb ps t) (fun r hr=>by obtain ⟨p,hp,rfl⟩:=zan.mp hr;exact ((h p hp).at t).1)
  (by have:=Ah (t:=t) h;have:=Nat.mul_le_mul hE hn;omega) (by rw [zah];omega) (by have:=(Kn (t:=t) h).1;omega)
theorem zU:∀(ps:List Pl) (f:Pl->Rc),kH ((ps.map f).map rD) (ps.map fun _=>D.int 0)=(ps.map f).map wD
 |[],_=>rfl|p::ps,f=>by have:=zU ps f;unfold kH at this ⊢;simp only [zaf,zde,this]
theorem w5:uD NO=.fd [] []:=rfl
def sL {Uz:Rc}(h:Uz≠NO):uD Uz=.fd [.inl 0] [rD Uz]:=if_neg h
def oq {U:ac}{c c':ap}:(U++[c]).set U.length c'=U++[c']:=by simp
def Ep (bt:Bool){ks:List aH}{ds:List D}{kz:List (aH×R)}(hkv:∀U,kB (.v (.fd ks ds)) U=some kz){ps:List Pl}(hE:ES.length<=16)(hb:∀p∈ps,BP ES TS p)(hn:ps.length<=80){x0 x4 x8 x9 x10 x11:Option R}{n:Nat}{t T:Int}{last:Rc}{pr:Bool}{L:List (Int×Rc)}{U:ac}
  (hv:cO kz (.inl t)=some (.v (.fl (DT t 0 ps)))) (hT:T < t) (hin:∀p∈ps,∀q∈p.2,T < q.1->t<=q.1) (h0:U[0]?=some (.lst (ps.map fun _=>.int 0))) (h1:U[1]?=some (.lst ((cb ps T).map rD))) (hp:PI n pr L U) (hl:last≠NO->pr=true) (hL:L.length < 1000) :
  ∃U' pr' L' y8 y9 y11,bg bt [x0,aX 0,aX 1,some (.v (.fd ks ds)),x4,aX n,some (.v (uD last)),aU t,x8,x9,x10,x11] U =
    some (.nx [x0,aX 0,aX 1,some (.v (.fd ks ds)),x4,aX n,some (.v (uD (UU ps t))),aU t,y8,y9,some (.v (uD (UU ps t))),y11] U') /\
   U'[0]?=some (.lst (ps.map fun _=>.int 0))/\U'[1]?=some (.lst ((cb ps t).map rD))/\PI n pr' L' U'/\(UU ps t≠NO->pr'=true)/\(pr=true->pr'=true) /\
   L'=(if UU ps t=NO/\last=NO then L else L++[(t,UU ps t)]):=by
 have hfold:(DC t 0 ps).foldl yN (cb ps T)=cb ps t:=by
  have:=uw t ps [] (cb ps T) (by simp)
  rw [za8,za8,zci] at this
  rw [this,zW hT (fun p hp=>(hb p hp).pf.up) hin]
 obtain ⟨y8,y9,e1⟩:=sZ bt (x0:=x0) (x1:=some (.p 0)) (x3:=some (.v (.fd ks ds))) (x4:=x4) (x5:=some (.p n)) (x6:=some (.v (uD last))) (x7:=some (.v (.int t))) (x10:=x10) (x11:=x11) (DC t 0 ps) (cb ps T) U x8 x9 h1 (fun e he=>by have:=AN t ps 0 e he;rw [zah];omega);have hst:=xo t ps 0;rw [show ((0:Nat):Int)=0 from rfl] at hst;rw [←hst,hfold] at e1;have l1:=b6 h1;have a1:(U.set 1 (.lst ((cb ps t).map rD)))[1]?=some (.lst ((cb ps t).map rD)):=zay l1
 have a0:(U.set 1 (.lst ((cb ps t).map rD)))[0]?=some (.lst (ps.map fun _=>.int 0)):=by rw [zak (by omega)];exact h0
 have hz:=zU ps (fun p=>ra p.1 p.2 t);have hre:=GR bt (t:=t) hE hb hn;have z1:((cb ps t).map rD).length=(ps.map fun _=>D.int 0).length/\((cb ps t).map rD).length<=sizeLine:=⟨by simp,bA (by simp;omega)⟩;have hp2:PI n pr L (U.set 1 (.lst ((cb ps t).map rD))++[ap.fz ((cb ps t).map wD)]):=(hp.set1 _).more _;generalize hU:U.set 1 (.lst ((cb ps t).map rD))=U1 at e1 a1 a0 hp2
 have b0:(U1++[ap.fz ((cb ps t).map wD)])[0]?=some (.lst (ps.map fun _=>.int 0)):=by rw [zaj (b6 a0)];exact a0
 have b1:(U1++[ap.fz ((cb ps t).map wD)])[1]?=some (.lst ((cb ps t).map rD)):=by rw [zaj (b6 a1)];exact a1
 have lk:(U1++[ap.lst ((cb ps t).map wD)])[U1.length]?=some (.lst ((cb ps t).map wD)):=fg
 have et:∀X:FS,(ar (dF (ba (l0 (ae 3) (ae 7))) (iF 2 (aq (aT 8) (aq (aT 9) bz))) (cE bt))
   (ar (aI 10 (aR (aS bt) 1 (af (cD (o5 (ae 2) (ae 1))) ai))) X)) [x0,aX 0,aX 1,some (.v (.fd ks ds)),x4,aX n,some (.v (uD last)),aU t,x8,x9,x10,x11] U =
   X [x0,aX 0,aX 1,some (.v (.fd ks ds)),x4,aX n,some (.v (uD last)),aU t,y8,y9,some (.v (uD (UU ps t))),x11] (U1++[ap.fz ((cb ps t).map wD)]):=fun X=>by
  have z2:(ps.map fun _=>D.int 0).length<=sizeLine:=bA (by simp;omega);push_cast [hkv,hv,e1,a1,a0,z1,z2,hz,lk,oq,hre,and_self]
 refine Exists.imp (fun U' h=>Exists.imp (fun pr' h=>Exists.imp (fun L' h=>?_) h) h) (?_:∃U' pr' L' y11,(ar (dF (k8 (ae 10)) (aT 11) (bU bt)) (ar (dF (k8 (ae 6)) (aT 11) (bE bt)) (aI 6 (ae 10)))) [x0,aX 0,aX 1,some (.v (.fd ks ds)),x4,aX n,some (.v (uD last)),aU t,y8,y9,some (.v (uD (UU ps t))),x11] (U1++[ap.fz ((cb ps t).map wD)]) =
   some (.nx [x0,aX 0,aX 1,some (.v (.fd ks ds)),x4,aX n,some (.v (uD (UU ps t))),aU t,y8,y9,some (.v (uD (UU ps t))),y11] U') /\
   QG (U1++[ap.fz ((cb ps t).map wD)]) U'/\PI n pr' L' U'/\(UU ps t≠NO->pr'=true)/\(pr=true->pr'=true)/\L'=(if UU ps t=NO/\last=NO then L else L++[(t,UU ps t)]))
 ·obtain ⟨y11,g1,g2,g3⟩:=h
  exact ⟨y8,y9,y11,(et _).trans g1,by rw [g2.1];exact b0,by rw [g2.2];exact b1,g3⟩
 ·generalize (U1++[ap.fz ((cb ps t).map wD)])=U2 at hp2
  by_cases c1:UU ps t=NO
  ·by_cases c2:last=NO
   ·refine ⟨U2,pr,L,x11,?_,⟨rfl,rfl⟩,hp2,fun h=>absurd c1 h,id,by rw [if_pos ⟨c1,c2⟩]⟩
    rw [c1,c2,w5];push_cast [HW.sU]
   ·have hpr:=hl c2
    subst hpr;obtain ⟨U3,f1,f2,f3⟩:=Ey (bt:=bt) (x0:=x0) (x1:=some (.p 0)) (x2:=some (.p 1)) (x3:=some (.v (.fd ks ds))) (x4:=x4) (x6:=some (.v (.fd [.inl 0] [rD last]))) (x8:=y8) (x9:=y9) (x11:=x11) (t:=t) hp2 hL;refine ⟨U3,true,L++[(t,NO)],aU 0,?_,f3,f2,fun h=>absurd c1 h,id,by rw [if_neg (fun h=>c2 h.2),c1]⟩;rw [c1,sL c2,w5];push_cast [f1]
  ·obtain ⟨U3,f1,f2,f3⟩:=Ex (bt:=bt) (x0:=x0) (x1:=some (.p 0)) (x2:=some (.p 1)) (x3:=some (.v (.fd ks ds))) (x4:=x4) (x6:=some (.v (uD last))) (x8:=y8) (x9:=y9) (x11:=x11) (t:=t) (Uz:=UU ps t) hp2 hL
   refine ⟨U3,true,L++[(t,UU ps t)],aU 0,?_,f3,f2,fun _=>rfl,fun _=>rfl,by rw [if_neg (fun h=>c1 h.1)]⟩;rw [sL c1]
   by_cases c2:last=NO
   ·rw [c2,w5] at f1 ⊢
    push_cast [f1]
   ·rw [sL c2] at f1 ⊢
    have k2:=Ew (bt:=bt) (x0:=x0) (x1:=some (.p 0)) (x2:=some (.p 1)) (x3:=some (.v (.fd ks ds))) (x4:=x4) (x6:=some (.v (.fd [.inl 0] [rD last]))) (x8:=y8) (x9:=y9) (x11:=some (.v (.int 0))) (n:=n) (t:=t) (Uz:=UU ps t) (U:=U3);push_cast [f1,k2]
end
section
variable {ES TS:Th}
theorem xy (bt:Bool){ks:List aH}{ds:List D}{kz:List (aH×R)}(hkv:∀U,kB (.v (.fd ks ds)) U=some kz){ps:List Pl}(hE:ES.length<=16)(hb:∀p∈ps,BP ES TS p)(hn:ps.length<=80){x0 x4:Option R}{n:Nat}{G:Rc}:∀(ts:Th) (T:Int) (last:Rc) (pr:Bool) (L La:List (Int×Rc)) (U:ac) (x7 x8 x9 x10 x11:Option R),
  (∀t∈ts,cO kz (.inl t)=some (.v (.fl (DT t 0 ps))))->ts.Pairwise (· < ·)->(∀t∈ts,T < t)->(∀p∈ps,∀q∈p.2,T < q.1->q.1∈ts)->U[0]?=some (.lst (ps.map fun _=>.int 0))->U[1]?=some (.lst ((cb ps T).map rD))->PI n pr L U->(last≠NO->pr=true)->L.length+ts.length<=900 ->
  jy G L=jy G La->lst G L=last->lst G La=last ->
  ∃U' pr' L' y6 y7 y8 y9 y10 y11,cg (aT 7) (bg bt) (ts.map .int) [x0,aX 0,aX 1,some (.v (.fd ks ds)),x4,aX n,some (.v (uD last)),x7,x8,x9,x10,x11] U =
    some (.nx [x0,aX 0,aX 1,some (.v (.fd ks ds)),x4,aX n,y6,y7,y8,y9,y10,y11] U')/\PI n pr' L' U'/\(pr=true->pr'=true)/\L'.length<=L.length+ts.length/\jy G L'=jy G (La++ts.map fun t=>(t,UU ps t))
 |[],T,last,pr,L,La,U,x7,x8,x9,x10,x11,_,_,_,_,_,_,hp,_,_,h1,_,_=>⟨U,pr,L,_,x7,x8,x9,x10,x11,rfl,hp,id,by simp,by simpa using h1⟩|t::ts,T,last,pr,L,La,U,x7,x8,x9,x10,x11,hv,hs,hT,hin,g0,g1,hp,hl,hL,h1,h2,h3=>by
  obtain ⟨p1,p2⟩:=zaw.mp hs;rw [zaD] at hL;have ht:=hT t zag
  obtain ⟨U1,pr1,L1,y8,y9,y11,e1,c0,c1,c2,c3,c4,c5⟩:=Ep bt hkv hE hb hn (x0:=x0) (x4:=x4) (x8:=x8) (x9:=x9) (x10:=x10) (x11:=x11) (hv t zag) ht (fun p hp q hq z=>by
   rcases zal.mp (hin p hp q hq z) with w|w
   ·omega
   ·have:=p1 _ w;omega) g0 g1 hp hl (by omega)
  have hs1:jy G L1=jy G (La++[(t,UU ps t)])/\lst G L1=UU ps t/\L1.length<=L.length+1:=by
   rw [c5,lM,h3]
   by_cases z:UU ps t=NO/\last=NO
   ·rw [if_pos z,if_pos (show (t,UU ps t).2=last from z.1.trans z.2.symm),zbi]
    exact ⟨h1,by rw [h2,z.2,z.1],by omega⟩
   ·rw [if_neg z,lM,jA,h1,h2]
    exact ⟨rfl,rfl,by simp⟩
  obtain ⟨s1,s2,s3⟩:=hs1
  obtain ⟨U2,pr2,L2,z6,z7,z8,z9,z10,z11,e2,d1,d2,d3,d4⟩:=xy bt hkv hE hb hn (x0:=x0) (x4:=x4) (n:=n) (G:=G) ts t (UU ps t) pr1 L1 (La++[(t,UU ps t)]) U1 (some (.v (.int t))) y8 y9 (some (.v (uD (UU ps t)))) y11
   (fun x hx=>hv x (zai _ hx)) p2 p1 (fun p hp q hq z=>by
    rcases zal.mp (hin p hp q hq (by omega)) with w|w
    ·omega
    ·exact w) c0 c1 c2 c3 (by omega) s1 s2 (by rw [jA])
  refine ⟨U2,pr2,L2,z6,z7,z8,z9,z10,z11,?_,d1,fun h=>d2 (c4 h),by rw [zaD];omega,by rw [d4,zaf,za3];rfl⟩;rw [zaf,bR,ph,zB]
  show DO (bg bt [x0,aX 0,aX 1,some (.v (.fd ks ds)),x4,aX n,some (.v (uD last)),aU t,x8,x9,x10,x11] U) _ _ _=_
  rw [e1,qo];exact e2
abbrev fF:FE:=bT (af (ae 0) (af (aR gD 2 (af (cD (uG (ae 1) (ae 0) (fK (.tup [(.bl false),(.tup [])])))) (af (cD (l0 (ae 2) (ae 0))) ai))) ai))
abbrev zC:FS:=bP (dI nc (af (bH [4,5] 1 (k8 (ae 5)) (aT 0) bY fF) ai))
theorem Km {x0 x1 x2 x3 x6 x7 x8 x9 x10 x11:Option R}{G:Rc}{n:Nat}{U:ac}(h:U[n]?=some (.dr [])):dZ (zC [x0,x1,x2,x3,some (.v (uD G)),aX n,x6,x7,x8,x9,x10,x11] U)=some (.fd [] []):=by have c:bv (aT 0) bY fF [] [none,some (.v (uD G)),aX n] (U.set n (.fzr []))=some ([],U.set n (.fzr [])):=rfl;push_cast [h,c,fg,gN,zav];rfl
theorem J2 {G:Rc}{O:Lo}{x2:Option R}{U:ac}:uG (ae 1) (ae 0) (fK (.tup [(.bl false),(.tup [])])) [aU 0,some (.v (uD G)),x2] U=some (.v (rD G),U):=by
 by_cases c:G=NO
 ·rw [c];rfl
 ·rw [sL c];rfl
theorem Fw {x0 x1 x2 x3 x6 x7 x8 x9 x10 x11:Option R}{G:Rc}{n m:Nat}{U:ac}{L:List (Int×Rc)}(hm:m≠n)(h:U[n]?=some (.dr [(.inl 0,.p m)]))(h2:U[m]?=some (.lst (L.map sD)))(hL:L.length < 2000):dZ (zC [x0,x1,x2,x3,some (.v (uD G)),aX n,x6,x7,x8,x9,x10,x11] U)=some (.fd [.inl 0] [pD G (jy G L)]):=by
 have ln:=b6 h;have a1:(U.set n (.fzr [(.inl 0,.p m)]))[n]?=some (.fzr [(.inl 0,.p m)]):=zay ln;have a2:(U.set n (.fzr [(.inl 0,.p m)]))[m]?=some (.lst (L.map sD)):=by rw [zak (fun z=>hm z.symm)];exact h2
 have hp:=vQ G L hL;have c:bv (aT 0) bY fF [.int 0] [none,some (.v (uD G)),aX n] (U.set n (.fzr [(.inl 0,.p m)]))=some ([.tup [.int 0,pD G (jy G L)]],(U.set n (.fzr [(.inl 0,.p m)])).set m (.fz (L.map sD))):=by
  rw [bv];have:=J2 (G:=G) (O:=[]) (x2:=some (.p n)) (U:=U.set n (.fzr [(.inl 0,.p m)]));push_cast [HW.sU] at this
  push_cast [this,a1,Ny,a2,hp,zav];rfl
 push_cast [h,DR,c,fg,gN,zav,za7];rfl
abbrev pO (p:Pl):D:=.tup [en p,.int 0]
theorem w9:∀{ps:List Pl},(∀p∈ps,BP ES TS p)->qV ps<=TS.length * ps.length
 |[],_=>by simp [qV]|p::ps,h=>by
  have ih:=w9 (ps:=ps) fun x hx=>h x (zai _ hx);have b:=h p zag;have nd:(p.2.map (·.1)).Nodup:=sE (zbk.mpr b.pf.up);have:=eE _ TS nd fun x hx=>by obtain ⟨q,hq,rfl⟩:=zan.mp hx;exact b.te q hq
  rw [zah] at this
  simp only [qV,zaD,Nat.mul_add,Nat.mul_one];omega
abbrev aG (ps:List Pl):Rc:=Un (ps.map (·.1)) (vd (ps.map (·.1)))
def Hu {ps:List Pl}:∃T:Int,(∀p∈ps,∀q∈p.2,T < q.1)/\cb ps T=ps.map (·.1):=by obtain ⟨T,h⟩:=oK (ps.flatMap fun p=>p.2.map (·.1));have h':∀p∈ps,∀q∈p.2,T < q.1:=fun p hp q hq=>h _ (List.mem_flatMap.mpr ⟨p,hp,zaZ hq⟩);exact ⟨T,h',zbE fun p hp=>cS _ _ _ (h' p hp)⟩
theorem Md (bt:Bool){ps:List Pl}(hE:ES.length<=16)(hTS:TS.length<=22)(hb:∀p∈ps,BP ES TS p)(hn:ps.length<=80) :
    ∃ts:Th,ts.Pairwise (· < ·)/\(∀x,x∈ts ↔ ∃p∈ps,x∈p.2.map (·.1))/\∃v,cu bt [.fl (ps.map pO)]=some v/\((v=.fd [] []/\aG ps=NO/\jy (aG ps) (ts.map fun t=>(t,UU ps t))=[])\/v=.fd [.inl 0] [pD (aG ps) (jy (aG ps) (ts.map fun t=>(t,UU ps t)))]):=by
  have htt:=w9 hb;have htm:=Nat.mul_le_mul hTS hn;obtain ⟨ks,ds,hst,⟨ts0,hik,hnd,hts,kz,hkv,hval⟩⟩:=AK ps (M:=TS) (by omega) (fun p hp q hq=>(hb p hp).te q hq) (by omega);obtain ⟨T,hT,hrT⟩:=Hu (ps:=ps);have hre:=GR bt (t:=T) hE hb hn
  have hUT:UU ps T=aG ps:=by show Un (cb ps T) (vd (cb ps T))=_;rw [hrT]
  rw [hUT,hrT] at hre
  have tl:ts0.length < 64:=by
    have:=eE ts0 TS hnd fun x hx=>by
      obtain ⟨p,hp,h⟩:=(hts x).mp hx;obtain ⟨q,hq,rfl⟩:=zan.mp h;exact (hb p hp).te q hq
    omega
  have tl2:(gX ts0).length < 64:=by rw [(cV ts0).length_eq];exact tl
  have tm:∀x,x∈gX ts0 ↔ ∃p∈ps,x∈p.2.map (·.1):=fun x=>by rw [(cV ts0).mem_iff];exact hts x
  have tup:=Ad hnd
  have hsF:∀U:ac,lH bt [.v (.fd ks ds)] U=some (.p U.length,U++[.lst ((gX ts0).map .int)]):=fun U=>by
    simp only [lH,hik,zav,tl,if_true]
  refine ⟨gX ts0,tup,tm,?_⟩;rw [lB];generalize gX ts0=ts at tl2 tm tup hsF;have z1:(ps.map pO).length<=sizeLine:=bA (by rw [zah];omega);have z1':ps.length<=sizeLine:=bA (by omega);have hz:=zU ps (·.1);have ft:∀l:List Pl,l.filter (fun _=>true)=l:=fun l=>List.filter_eq_self.mpr fun _ _=>rfl
  have cmp:∀(f:FE) (out:Pl->D) (U:ac) (O:Lo),(∀p,f [some (.v (en p)),aU 0] U=some (.v (out p),U))->bv (iF 2 (aq (aT 0) (aq (aT 1) bz))) bY f (ps.map pO) (dg 2 [] O) U=some (ps.map out,U):=fun f out U O hf=>by
    have:=jP (c:=bY) (f:=f) (rest:=[]) (U:=U) en (fun _=>.int 0) (fun _=>true) out ps none none (fun _ _=>rfl) (fun p _ _=>hf p)
    rw [ft] at this
    exact this
  have cm1:=cmp (ae 1) (fun _=>.int 0) [] [some (.v (.fl (ps.map pO))),none,none,none,none,none,none,none,none,none,none,none] (fun p=>by push_cast [HW.sU]);have cm2:=cmp (aA c7 (ae 0) (fK (.int 0))) (fun p=>rD p.1) [.lst (ps.map fun _=>.int 0)] [some (.v (.fl (ps.map pO))),aX 0,none,none,none,none,none,none,none,none,none,none] (fun p=>by push_cast [HW.sU]);have cm3:=cmp (ae 0) en [.lst (ps.map fun _=>.int 0),.lst (ps.map fun p=>rD p.1)] [some (.v (.fl (ps.map pO))),aX 0,aX 1,none,none,none,none,none,none,none,none,none] (fun p=>by push_cast [HW.sU]);rw [zaR,show (rD ∘ fun x:Pl=>x.1)=fun p=>rD p.1 from rfl] at hz
  have et:∀X:FS,(ar (aI 1 (bH [] 2 (ba (ae 0)) (iF 2 (aq (aT 0) (aq (aT 1) bz))) bY (ae 1)))
    (ar (aI 2 (bH [] 2 (ba (ae 0)) (iF 2 (aq (aT 0) (aq (aT 1) bz))) bY (aA c7 (ae 0) (fK (.int 0)))))
    (ar (aI 3 (aR ck 1 (af (cD (bH [] 2 (ba (ae 0)) (iF 2 (aq (aT 0) (aq (aT 1) bz))) bY (ae 0))) ai)))
    (ar (aI 4 (aR (aS bt) 1 (af (cD (o5 (ae 2) (ae 1))) ai))) X)))) [some (.v (.fl (ps.map pO))),none,none,none,none,none,none,none,none,none,none,none] [] =
      X [some (.v (.fl (ps.map pO))),aX 0,aX 1,some (.v (.fd ks ds)),some (.v (uD (aG ps))),none,none,none,none,none,none,none] [.lst (ps.map fun _=>.int 0),.lst (ps.map fun p=>rD p.1),.fz (ps.map en),.fz ((ps.map (·.1)).map wD)]:=fun X=>by
    push_cast [zah,z1',cm1,cm2,cm3,hst,hz,hre,and_self]
  have main:∀(n:Nat) (pr:Bool) (U0:ac),PI n pr [] U0->U0[0]?=some (.lst (ps.map fun _=>.int 0))->U0[1]?=some (.lst (ps.map fun p=>rD p.1))->(aG ps≠NO->pr=true)->∃v,dZ (ar (dF (ba (dI (lH bt) (af (ae 3) ai))) (aT 7) (bg bt)) zC [some (.v (.fl (ps.map pO))),aX 0,aX 1,some (.v (.fd ks ds)),some (.v (uD (aG ps))),aX n,some (.v (uD (aG ps))),none,none,none,none,none] U0)=some v/\((v=.fd [] []/\aG ps=NO/\jy (aG ps) (ts.map fun t=>(t,UU ps t))=[])\/v=.fd [.inl 0] [pD (aG ps) (jy (aG ps) (ts.map fun t=>(t,UU ps t)))]):=by
    intro n pr U0 hPI g0 g1 hG
    obtain ⟨U',pr',L',y6,y7,y8,y9,y10,y11,e,d1,d2,d3,d4⟩:=xy bt hkv hE hb hn (x0:=some (.v (.fl (ps.map pO)))) (x4:=some (.v (uD (aG ps)))) (n:=n) (G:=aG ps) ts T (aG ps) pr [] [] (U0++[.fz (ts.map .int)]) none none none none none
      (fun t ht=>hval t ((hts t).mpr ((tm t).mp ht))) tup (fun t ht=>by
        obtain ⟨p,hp,h⟩:=(tm t).mp ht;obtain ⟨q,hq,rfl⟩:=zan.mp h
        exact hT p hp q hq) (fun p hp q hq _=>(tm _).mpr ⟨p,hp,zaZ hq⟩)
      (by rw [zaj (b6 g0)];exact g0) (by rw [zaj (b6 g1),hrT,zaR];exact g1) (hPI.more _) hG (by simp;omega) rfl rfl rfl
    rw [za8] at d4
    have st:ar (dF (ba (dI (lH bt) (af (ae 3) ai))) (aT 7) (bg bt)) zC [some (.v (.fl (ps.map pO))),aX 0,aX 1,some (.v (.fd ks ds)),some (.v (uD (aG ps))),aX n,some (.v (uD (aG ps))),none,none,none,none,none] U0=zC [some (.v (.fl (ps.map pO))),aX 0,aX 1,some (.v (.fd ks ds)),some (.v (uD (aG ps))),aX n,y6,y7,y8,y9,y10,y11] U':=by
      rw [wy,CP,Fs]
      have:sR (dI (lH bt) (af (ae 3) ai) [some (.v (.fl (ps.map pO))),aX 0,aX 1,some (.v (.fd ks ds)),some (.v (uD (aG ps))),aX n,some (.v (uD (aG ps))),none,none,none,none,none] U0)=some (.v (.fl (ts.map .int)),U0++[.fz (ts.map .int)]):=by
        have lk:(U0++[ap.lst (ts.map .int)])[U0.length]?=some (.lst (ts.map .int)):=fg;push_cast [hsF,lk,oq]
      rw [this,CM,yi,e,yh]
    rw [st];obtain ⟨_,⟨q1,q2,q3⟩|⟨q1,m,_,q3,q4,q5⟩⟩:=d1
    · refine ⟨_,Km q3,.inl ⟨rfl,?_,?_⟩⟩
      · refine Classical.byContradiction fun z=>?_
        rw [d2 (hG z)] at q1;cases q1
      · rw [←d4,q2];rfl
    · refine ⟨_,Fw q3 q4 q5 (by simp at d3;omega),.inr ?_⟩
      rw [d4]
  have hb':eQ bt [some (.v (.fl (ps.map pO))),none,none,none,none,none,none,none,none,none,none,none] []=(ar (aI 5 (Hi [] 1 (k8 (ae 4)) (aT 0) bY (ae 0))) (ar (aI 6 (ae 4)) (ar (dF (ba (dI (lH bt) (af (ae 3) ai))) (aT 7) (bg bt)) zC))) [some (.v (.fl (ps.map pO))),aX 0,aX 1,some (.v (.fd ks ds)),some (.v (uD (aG ps))),none,none,none,none,none,none,none] [.lst (ps.map fun _=>.int 0),.lst (ps.map fun p=>rD p.1),.fz (ps.map en),.fz ((ps.map (·.1)).map wD)]:=et _;rw [hb']
  by_cases c:aG ps=NO
  · have hh:∀Yz:FS,(ar (aI 5 (Hi [] 1 (k8 (ae 4)) (aT 0) bY (ae 0))) (ar (aI 6 (ae 4)) Yz)) [some (.v (.fl (ps.map pO))),aX 0,aX 1,some (.v (.fd ks ds)),some (.v (uD (aG ps))),none,none,none,none,none,none,none] [.lst (ps.map fun _=>.int 0),.lst (ps.map fun p=>rD p.1),.fz (ps.map en),.fz ((ps.map (·.1)).map wD)] =
        Yz [some (.v (.fl (ps.map pO))),aX 0,aX 1,some (.v (.fd ks ds)),some (.v (uD (aG ps))),aX 4,some (.v (uD (aG ps))),none,none,none,none,none] [.lst (ps.map fun _=>.int 0),.lst (ps.map fun p=>rD p.1),.fz (ps.map en),.fz ((ps.map (·.1)).map wD),.dr []]:=fun Yz=>by
      rw [c,w5];push_cast [HW.sU]
    rw [hh];exact main 4 false _ ⟨by omega,.inl ⟨rfl,rfl,rfl⟩⟩ rfl rfl (fun h=>absurd c h)
  · have hh:∀Yz:FS,(ar (aI 5 (Hi [] 1 (k8 (ae 4)) (aT 0) bY (ae 0))) (ar (aI 6 (ae 4)) Yz)) [some (.v (.fl (ps.map pO))),aX 0,aX 1,some (.v (.fd ks ds)),some (.v (uD (aG ps))),none,none,none,none,none,none,none] [.lst (ps.map fun _=>.int 0),.lst (ps.map fun p=>rD p.1),.fz (ps.map en),.fz ((ps.map (·.1)).map wD)] =
        Yz [some (.v (.fl (ps.map pO))),aX 0,aX 1,some (.v (.fd ks ds)),some (.v (uD (aG ps))),aX 5,some (.v (uD (aG ps))),none,none,none,none,none] [.lst (ps.map fun _=>.int 0),.lst (ps.map fun p=>rD p.1),.fz (ps.map en),.fz ((ps.map (·.1)).map wD),.lst [],.dr [(.inl 0,.p 4)]]:=fun Yz=>by
      rw [sL c];push_cast [HW.sU]
    rw [hh];exact main 5 true _ ⟨by omega,.inr ⟨rfl,4,by omega,by omega,rfl,rfl⟩⟩ rfl rfl (fun _=>rfl)
end
theorem Em {g:Rc}{L:List (Int×Rc)}(hu:Up L)(t:Int):ra g (jy g L) t=ra g L t:=by
 induction L generalizing g with|nil=>rfl|cons p L ih =>
  obtain ⟨h1,h2⟩:=zaw.mp hu;unfold jy;split
  ·rename_i e;rw [ih h2]
   show _=if t < p.1 then g else ra p.2 L t
   split
   ·exact cS _ _ _ fun x hx=>by have:=h1 x hx;omega
   ·rw [e]
  ·show (if t < p.1 then g else ra p.2 (jy p.2 L) t)=if t < p.1 then g else ra p.2 L t
   rw [ih h2]
theorem Bi {T t:Int}(h:T<=t):∀{qs:List (Int×Rc)} {g:Rc},(∀q∈qs,T < q.1->t < q.1)->ra g qs t=ra g qs T
 |[],_,_=>rfl|q::qs,g,hq=>by
  have h0:=hq q zag;have ih:=Bi (g:=q.2) h (qs:=qs) fun x hx=>hq x (zai _ hx);rw [ra,ra];by_cases z:T < q.1
  ·rw [if_pos z,if_pos (h0 z)]
  ·rw [if_neg z,if_neg (by omega),ih]
section
variable {ES TS:Th}{ps:List Pl}
abbrev mN (ps:List Pl)(t d:Int):Bool:=ps.any fun p=>nD (ra p.1 p.2 t) d
theorem yy (t d:Int):An (cb ps t) d=mN ps t d:=by unfold An cb mN;rw [zc3];rfl
def Ky (t d:Int):nD (UU ps t) d=mN ps t d:=by rw [←yy];exact (lc (cb ps t)).un d
def yu {T t:Int}(h:T<=t)(hq:∀p∈ps,∀q∈p.2,T < q.1->t < q.1)(d:Int):mN ps t d=mN ps T d:=by rw [←yy,←yy];congr 1;exact zbE fun p hp=>Bi h (hq p hp)
theorem Bj (d:Int):∀(ts:Th) (G:Rc) (T:Int),ts.Pairwise (· < ·)->(∀t∈ts,T < t)->(∀p∈ps,∀q∈p.2,T < q.1->q.1∈ts)->nD G d=mN ps T d->∀t',T<=t'->nD (ra G (ts.map fun t=>(t,UU ps t)) t') d=mN ps t' d
 |[],G,T,_,_,hin,hG,t',ht=>by rw [yu ht (fun p hp q hq z=>by cases hin p hp q hq z)];exact hG|t::ts,G,T,hs,hT,hin,hG,t',ht=>by
  obtain ⟨p1,p2⟩:=zaw.mp hs;rw [zaf,ra];by_cases z:t' < t
  ·rw [if_pos z,yu ht (fun p hp q hq w=>by
    rcases zal.mp (hin p hp q hq w) with e|e
    ·omega
    ·have:=p1 _ e;omega)]
   exact hG
  ·rw [if_neg z];exact Bj d ts (UU ps t) t p2 p1 (fun p hp q hq w=>by
    rcases zal.mp (hin p hp q hq (by have:=hT t zag;omega)) with e|e
    ·omega
    ·exact e) (Ky t d) t' (by omega)
def Hv (hb:∀p∈ps,BP ES TS p)(t:Int):(UU ps t).2.Pairwise (· < ·)/\∀e∈(UU ps t).2,e∈ES:=by have ok:=lc (cb ps t);refine ⟨ok.unUp,fun e he=>?_⟩;obtain ⟨r,hr,h⟩:=ok.sub e he;obtain ⟨p,hp,rfl⟩:=zan.mp hr;exact ((hb p hp).at t).2.1 e h
def Kw (bt:Bool)(hE:ES.length<=16)(hTS:TS.length<=22)(hb:∀p∈ps,BP ES TS p)(hn:ps.length<=80):∃P:Pl,cy bt [.fl (ps.map en)]=some (en P)/\BP ES TS P/\∀t d,nD (ra P.1 P.2 t) d=mN ps t d:=by
 rw [sK];have two2:∀k:Nat,((k:Int) == 1)=decide (k=1):=fun k=>by rw [zc2];simp;omega
 by_cases c:ps.length=1
 ·obtain ⟨p,rfl⟩:=List.length_eq_one_iff.mp c;refine ⟨p,?_,hb p zag,fun t d=>by simp [mN]⟩;push_cast [fV,zaf,zbc,two2,decide_true]
 ·have c':decide (ps.length=1)=false:=zaG c;obtain ⟨ts,tup,tm,v,e,hv⟩:=Md bt hE hTS hb hn;refine ⟨(aG ps,jy (aG ps) (ts.map fun t=>(t,UU ps t))),?_,⟨⟨(lc _).unUp,?_,rB _ _,fun q hq=>?_⟩,fun x hx=>?_,fun q hq=>?_,fun q hq=>?_⟩,fun t d=>?_⟩
  ·have cm:bv (aT 0) bY (bT (af (ae 0) (af (fK (.int 0)) ai))) (ps.map en) [none] []=some (ps.map pO,[]) :=
    dB en pO ps none fun p _=>by push_cast [HW.sU]
   have z1:ps.length<=sizeLine:=bA (by omega);rcases hv with ⟨rfl,h1,h2⟩|rfl
   ·rw [h2,h1]
    push_cast [fV,zah,two2,c',z1,cm,e];rfl
   ·push_cast [fV,zah,two2,c',z1,cm,e]
    rfl
  ·exact vP _ _ (zbk.mpr tup)
  ·obtain ⟨t,_,rfl⟩:=zan.mp (j6 _ _ q hq);exact (Hv hb t).1
  ·obtain ⟨r,hr,h⟩:=(lc _).sub x hx;obtain ⟨p,hp,rfl⟩:=zan.mp hr;exact (hb p hp).ge x h
  ·obtain ⟨t,_,rfl⟩:=zan.mp (j6 _ _ q hq);exact (Hv hb t).2
  ·obtain ⟨t,ht,rfl⟩:=zan.mp (j6 _ _ q hq);obtain ⟨p,hp,h⟩:=(tm t).mp ht;obtain ⟨q',hq',rfl⟩:=zan.mp h;exact (hb p hp).te q' hq'
  ·show nD (ra (aG ps) (jy (aG ps) (ts.map fun t=>(t,UU ps t))) t) d=_
   rw [Em (zbk.mpr tup)];obtain ⟨T,hT,hrT⟩:=Hu (ps:=ps);have hT':∀p∈ps,∀q∈p.2,min T t < q.1:=fun p hp q hq=>(by have:=hT p hp q hq;omega);refine Bj d ts (aG ps) (min T t) tup (fun x hx=>?_) (fun p hp q hq _=>(tm _).mpr ⟨p,hp,zaZ hq⟩) ?_ t (by omega)
   ·obtain ⟨p,hp,h⟩:=(tm x).mp hx;obtain ⟨q,hq,rfl⟩:=zan.mp h;exact hT' p hp q hq
   ·have:cb ps (min T t)=ps.map (·.1):=zbE fun p hp=>cS _ _ _ (hT' p hp);rw [←yy,this];exact (lc _).un d
end
abbrev tC (l:List (Th×R)):ap:=.dtr l
abbrev En:=Th×Pl
abbrev JL (e:En):D:=.tup [.key e.1,en e.2]
abbrev aQ (r:Th):D:=.tup (r.map .int)
abbrev bF (e:En):D:=.tup [aQ e.1,en e.2]
theorem qQ (k:Th):∀l:Hl (Th),jd (kvs l) k=(adr l k).map R.p
 |[]=>rfl|p::l=>by
  have ih:=qQ k l;unfold jd at ih ⊢;rw [adr];simp only [kvs,zaf];by_cases q:p.1=k
  ·rw [zbG (by simp [q]),if_pos q];rfl
  ·rw [zbH (by simp [q]),if_neg q];exact ih
theorem AU {fo fk:FE}{O:Lo}{U:ac}{n a:Nat}{k:Th}{l:Hl (Th)}(ho:fo O U=some (.p n,U))(hk:fk O U=some (.v (.key k),U))(h:HD tC n U l)(e:adr l k=some a)(hl:l.length < 1000):o7 fo fk (fq ai) O U=some (.p a,U++[.lst []]):=by
 have h1:ij U n=some (kvs l):=by simp only [ij,h.dict]
 have h2:ij (U++[ap.lst []]) n=some (kvs l):=by simp only [ij,zaj h.lt,h.dict]
 have hL:fq ai O U=some (.p U.length,U++[ap.lst []]):=rfl;have hl':(kvs l).length < 1000:=by simpa using hl
 have hv:=qQ k l;rw [e,za7] at hv;simp only [o7,ho,zav,h1,zcw,if_true,hk,hL,h2,hl',hv]
theorem AV {fo fk:FE}{O:Lo}{U:ac}{n:Nat}{k:Th}{l:Hl (Th)}(ho:fo O U=some (.p n,U))(hk:fk O U=some (.v (.key k),U))(h:HD tC n U l)(e:adr l k=none)(hl:l.length < 1000):o7 fo fk (fq ai) O U=some (.p U.length,(U++[ap.lst []]).set n (tC (kvs l++[(k,.p U.length)]))):=by
 have h1:ij U n=some (kvs l):=by simp only [ij,h.dict]
 have h2:ij (U++[ap.lst []]) n=some (kvs l):=by simp only [ij,zaj h.lt,h.dict]
 have hL:fq ai O U=some (.p U.length,U++[ap.lst []]):=rfl;have hl':(kvs l).length < 1000:=by simpa using hl
 have hv:=qQ k l;rw [e,Option.map_none] at hv;simp only [o7,ho,zav,h1,zcw,if_true,hk,hL,h2,hl',hv]
structure TB (U:ac)(l:Hl (Th))(N:Nat):Prop where
 hd:HD tC 0 U l
 nk:(l.map (·.1)).Nodup
 ln:l.length<=N
 cl:∀k,(cont l k).length<=N
theorem DP (bt:Bool){x0 x4:Option R}{e:En}{U:ac}{l:Hl (Th)}{N:Nat}(h:TB U l N)(hN:N < 900) :
  ∃U' b,eF bt [x0,aX 0,some (.v (.key e.1)),some (.v (en e.2)),x4] U=some (.nx [x0,aX 0,some (.v (.key e.1)),some (.v (en e.2)),x4] U')/\TB U' (cB l e.1 b (en e.2)) (N+1):=by
 have zc:(cont l e.1).length < sizeLine:=dk (by have:=h.cl e.1;omega);have z0:(0:Nat) < sizeLine:=dk (by omega)
 have hl:l.length < 1000:=by have:=h.ln;omega
 have lt:=h.hd.lt
 have sb:∀(U':ac) (b:Nat),HD tC 0 U' (cB l e.1 b (en e.2))->TB U' (cB l e.1 b (en e.2)) (N+1):=fun U' b hh=>⟨hh,oG _ _ _ _ h.nk,by have:=tS e.1 b (en e.2) l;have:=h.ln;omega,fun k=>by
  rw [iH,za1];have:=h.cl k;split
  ·simp;omega
  ·simp;omega⟩
 cases q:adr l e.1 with
 |some a =>
  have ga:=h.hd.adr q
  have g2:(U++[ap.lst []])[a]?=some (.lst (cont l e.1)):=by rw [zaj (b6 ga)];exact ga
  have hs:=AU (fo:=ae 1) (fk:=ae 2) (O:=[x0,aX 0,some (.v (.key e.1)),some (.v (en e.2)),x4]) rfl rfl h.hd q hl;refine ⟨_,0,?_,sb _ 0 (h.hd.old h.nk q (en e.2) 0)⟩;push_cast [eF,hs,g2,zc]
 |none =>
  have hs:=AV (fo:=ae 1) (fk:=ae 2) (O:=[x0,aX 0,some (.v (.key e.1)),some (.v (en e.2)),x4]) rfl rfl h.hd q hl
  have g2:((U++[ap.lst []]).set 0 (tC (kvs l++[(e.1,.p U.length)])))[U.length]?=some (.lst []):=by
   rw [zak (by omega)];exact fg
  refine ⟨_,U.length,?_,sb _ _ (h.hd.new (jV.mp q) (en e.2))⟩;push_cast [eF,hs,g2,z0,za8]
theorem xj (bt:Bool){x0 x4:Option R}:∀(es:List En) {U:ac} {l:Hl (Th)} {N:Nat} (x2 x3:Option R),TB U l N->N+es.length < 900 ->
  ∃U' l' y2 y3,cg (iF 2 (aq (aT 2) (aq (aT 3) bz))) (eF bt) (es.map JL) [x0,aX 0,x2,x3,x4] U=some (.nx [x0,aX 0,y2,y3,x4] U')/\TB U' l' (N+es.length) /\
   (∀x,cont l' x=cont l x++(es.filter fun e=>decide (e.1=x)).map fun e=>en e.2)/\(∀x,x∈l'.map (·.1) ↔ x∈l.map (·.1)\/x∈es.map (·.1))
 |[],U,l,N,x2,x3,h,_=>⟨U,l,x2,x3,rfl,h,fun x=>by simp,fun x=>by simp⟩|e::es,U,l,N,x2,x3,h,hN=>by
  rw [zaD] at hN;obtain ⟨U1,b,e1,h1⟩:=DP bt (x0:=x0) (x4:=x4) (e:=e) h (by omega);obtain ⟨U2,l2,y2,y3,e2,h2,c2,k2⟩:=xj bt (x0:=x0) (x4:=x4) es (some (.v (.key e.1))) (some (.v (en e.2))) h1 (by omega);refine ⟨U2,l2,y2,y3,?_,by rw [zaD,show N+(es.length+1)=N+1+es.length by omega];exact h2,fun x=>?_,fun x=>?_⟩
  ·rw [zaf,bR]
   have hg:iF 2 (aq (aT 2) (aq (aT 3) bz)) (.v (JL e)) [x0,aX 0,x2,x3,x4] U=some ([x0,aX 0,some (.v (.key e.1)),some (.v (en e.2)),x4],U):=rfl;rw [hg,zB,e1,qo];exact e2
  ·rw [c2,iH,za3,zby]
   by_cases z:e.1=x <;> simp [z]
  ·rw [k2,gM,zaf,zal,or_assoc]
abbrev fE (bt:Bool):FE:=bT (af (uC (ae 0)) (af (aR (cy bt) 1 (af (cD (CC (ae 1) (ae 0))) ai)) ai))
theorem OW (r:Th)(O:Lo)(U:ac):uC (ae 0) (some (.v (.key r))::O) U=some (.v (aQ r),U):=rfl
theorem uK (bt:Bool){l:Hl (Th)}(F:List Int->Pl)(hnd:(0::l.map fun p=>p.2.1).Nodup)(nk:(l.map (·.1)).Nodup):∀(rows:Ta) (U:ac) (x0:Option R),rows.Nodup->(∀r∈rows,cy bt [.fl (cont l r)]=some (en (F r)))->U[0]?=some (tC (kvs l))->(∀r∈rows,∃a,adr l r=some a/\U[a]?=some (.lst (cont l r))) ->
  ∃U',bv (aT 0) bY (fE bt) (rows.map D.key) [x0,aX 0] U=some (rows.map fun r=>bF (r,F r),U')
 |[],U,x0,_,_,_,_=>⟨U,rfl⟩|r::rows,U,x0,hr,hF,h0,hc=>by
  obtain ⟨n1,n2⟩:=zaK.mp hr;obtain ⟨a,ea,ga⟩:=hc r zag
  have a0:a≠0:=fun z=>by
   subst z;exact (zaK.mp hnd).1 (zan.mpr ⟨_,jb ea,rfl⟩)
  have hF0:=hF r zag
  obtain ⟨U',e⟩:=uK bt F hnd nk rows (U.set a (.fz (cont l r))) (some (.v (.key r))) n2 (fun x hx=>hF x (zai _ hx)) (by rw [zak a0];exact h0) (fun x hx=>by
   obtain ⟨b,eb,gb⟩:=hc x (zai _ hx);refine ⟨b,eb,?_⟩
   have:a≠b:=fun z=>by
    subst z;have m1:=jb ea;have m2:=jb eb;obtain ⟨i,hi,e1⟩:=za6 m1;obtain ⟨j,hj,e2⟩:=za6 m2;have hij:i=j:=(zbJ (xs:=l.map fun p=>p.2.1) (h₀:=by simpa using hi) (h₁:=by simpa using hj) (zaK.mp hnd).2).mp (by rw [zbz,zbz,e1,e2]);subst hij;rw [e1] at e2;exact n1 (by have:=congrArg Prod.fst e2;simp only at this;rw [this];exact hx)
   rw [zak this];exact gb)
  refine ⟨U',?_⟩;have hv:=qQ r l;rw [ea,za7] at hv;rw [zaf,bv];push_cast [OW,zav,h0,tC,hv,ga,hF0,e]
theorem nh {Z:Type}{c:FT}{f:FE}{U:ac}{rest:Lo}(e out:Z->D)(p:Z->Bool):∀(xs:List Z) (x0:Option R),(∀a∈xs,c (some (.v (e a))::rest) U=some (p a,U))->(∀a∈xs,p a=true->f (some (.v (e a))::rest) U=some (.v (out a),U))->bv (aT 0) c f (xs.map e) (x0::rest) U=some ((xs.filter p).map out,U)
 |[],_,_,_=>rfl|a::xs,x0,h,h'=>by
  have h1:=h a zag;have ih:=nh e out p xs (some (.v (e a))) (fun b hb=>h b (zai _ hb)) (fun b hb=>h' b (zai _ hb))
  cases hp:p a with
  |true =>
   have h2:=h' a zag hp;simp only [zaf,bv,aT,zcC,zav,h1,hp,if_true,h2,ih,zby]
  |false=>simp only [zaf,bv,aT,zcC,zav,h1,hp,zap,if_false,ih,zby]
abbrev SV (T:List En):ap:=.lst (T.map JL)
abbrev OF:D:=.tup [.tup [.bl false,.tup []],.tup []]
theorem vW:e8 60 OF=true:=rfl
abbrev vg:Pl:=(NO,[])
def KJ (e:En):Bool:=!decide (e.2=vg)
def wA (p:Pl):hV (en p) OF=decide (p=vg) :=
 (Hn p.1 NO p.2 []).trans (decide_eq_decide.mpr ⟨fun h=>Prod.ext h.1 h.2,fun h=>by rw [h];exact ⟨rfl,rfl⟩⟩)
abbrev jB (p:Pl)(t d:Int):Bool:=nD (ra p.1 p.2 t) d
theorem B2 (t d:Int):jB vg t d=false:=rfl
section
variable {ES TS:Th}{RW:Ta}{w:Nat}
structure Nw (ES TS:Th)(RW:Ta)(w:Nat)(es:List En):Prop where
 bp:∀e∈es,BP ES TS e.2
 rw:∀e∈es,e.1∈RW/\e.1.length=w
 ln:es.length<=80
structure jW (ES TS:Th)(es T:List En):Prop where
 up:Dx (T.map (·.1))
 ok:∀e∈T,BP ES TS e.2/\e.2≠vg
 row:∀e∈T,e.1∈es.map (·.1)
 pt:∀r t d,(∃e∈T,e.1=r/\jB e.2 t d=true) ↔ (∃e∈es,e.1=r/\jB e.2 t d=true)
def AF (bt:Bool)(hE:ES.length<=16)(hTS:TS.length<=22)(hR:RW.length<=40){es:List En}(h:Nw ES TS RW w es):∃T,gP bt [.fl (es.map JL)]=some (.lst (T.map bF))/\jW ES TS es T:=by
 rw [vm];have hln:=h.ln;obtain ⟨U,l,y2,y3,e,tb,c,k⟩:=xj bt (x0:=some (.v (.fl (es.map JL)))) (x4:=none) es (U:=[.dtr []]) (l:=[]) (N:=0) none none ⟨⟨rfl,by simp,fun _ h=>nomatch h⟩,by simp,by simp,fun k=>by simp [cont]⟩ (by omega);have k':∀x,x∈l.map (·.1) ↔ x∈es.map (·.1):=fun x=>by rw [k];simp
 have kl:l.length<=40:=by
  have:=eE (l.map (·.1)) RW tb.nk fun x hx=>by obtain ⟨e,he,rfl⟩:=zan.mp ((k' x).mp hx);exact (h.rw e he).1
  rw [zah] at this;omega
 have hps:∀r,cont l r=((es.filter fun e=>decide (e.1=r)).map (·.2)).map en:=fun r=>by rw [c,zaR];rfl
 have hF:∀r,∃P:Pl,cy bt [.fl (cont l r)]=some (en P)/\BP ES TS P/\∀t d,jB P t d=mN ((es.filter fun e=>decide (e.1=r)).map (·.2)) t d:=fun r=>by
  rw [hps r];refine Kw bt hE hTS (fun p hp=>?_) ?_
  ·obtain ⟨e,he,rfl⟩:=zan.mp hp;exact h.bp e (zbp.mp he).1
  ·have:=zcW (fun e:En=>decide (e.1=r)) es;rw [zah];omega
 have hany:∀r t d,mN ((es.filter fun e=>decide (e.1=r)).map (·.2)) t d=true ↔ ∃e∈es,e.1=r/\jB e.2 t d=true:=fun r t d=>by
  unfold mN;rw [zcP];constructor
  ·rintro ⟨p,hp,hl⟩;obtain ⟨e,he,rfl⟩:=zan.mp hp;obtain ⟨h1,h2⟩:=zbp.mp he;exact ⟨e,h1,by simpa using h2,hl⟩
  ·rintro ⟨e,he,h1,hl⟩;exact ⟨e.2,zan.mpr ⟨e,zbp.mpr ⟨he,by simpa using h1⟩,rfl⟩,hl⟩
 have F:=fun r=>Classical.choose (hF r);have hF':∃F:List Int->Pl,∀r,cy bt [.fl (cont l r)]=some (en (F r))/\BP ES TS (F r)/\∀t d,jB (F r) t d=mN ((es.filter fun e=>decide (e.1=r)).map (·.2)) t d:=⟨fun r=>Classical.choose (hF r),fun r=>zcX (hF r)⟩;clear F;obtain ⟨F,hF⟩:=hF';have rnd:(bn (l.map (·.1))).Nodup:=(bD _).nodup_iff.mpr tb.nk;have rm:∀r,r∈bn (l.map (·.1)) ↔ r∈es.map (·.1):=fun r=>by rw [(bD _).mem_iff];exact k' r
 have few:(kvs l).length < 64/\((kvs l).length < 2\/∀p∈kvs l,p.1≠[]):=by
  refine ⟨by rw [zah];omega,?_⟩;have hw:∀x∈l.map (·.1),x.length=w:=fun x hx=>by obtain ⟨e,he,rfl⟩:=zan.mp ((k' x).mp hx);exact (h.rw e he).2
  by_cases z:w=0
  ·refine .inl ?_;have:=eE (l.map (·.1)) [[]] tb.nk fun x hx=>by
    have:=hw x hx;rw [z] at this
    rw [zbD.mp this];exact zag
   rw [zah] at this ⊢;simp at this;omega
  ·refine .inr fun p hp e=>?_;obtain ⟨q,hq,rfl⟩:=zan.mp hp;have:=hw q.1 (zaZ hq);simp only at e;rw [e] at this
   simp at this;omega
 have g0:(U++[ap.fz ((bn (l.map (·.1))).map D.key)])[0]?=some (tC (kvs l)):=by rw [zaj tb.hd.lt];exact tb.hd.dict
 obtain ⟨U2,ce⟩:=uK bt F tb.hd.nd tb.nk (bn (l.map (·.1))) (U++[ap.fz ((bn (l.map (·.1))).map D.key)]) none rnd (fun r _=>(hF r).1) g0 (fun r hr=>by
  cases q:adr l r with|none=>exact absurd ((bD _).mem_iff.mp hr) (jV.mp q)|some a=>exact ⟨a,rfl,by have:=tb.hd.adr q;rw [zaj (b6 this)];exact this⟩)
 have rl:(bn (l.map (·.1))).length<=40:=by rw [(bD _).length_eq,zah];exact kl
 refine ⟨((bn (l.map (·.1))).map fun r=>(r,F r)).filter KJ,?_,?_⟩
 ·have z1:(bn (l.map (·.1))).length<=sizeLine:=bA (by omega);have cf:∀U:ac,bv (aT 0) (fB (aA (gg true) (aA c7 (ae 0) (fK (.int 1))) (fK (.tup [(.tup [(.bl false),(.tup [])]),(.tup [])])))) (ae 0) ((bn (l.map (·.1))).map fun r=>bF (r,F r)) [none] U=some ((((bn (l.map (·.1))).map fun r=>(r,F r)).filter KJ).map bF,U):=fun U=>by
   have:=nh (c:=fB (aA (gg true) (aA c7 (ae 0) (fK (.int 1))) (fK OF))) (f:=ae 0) (U:=U) (rest:=[]) bF bF KJ ((bn (l.map (·.1))).map fun r=>(r,F r)) none (fun e _=>by push_cast [xI,vW,wA,KJ]) (fun e _ _=>by push_cast [HW.sU])
   rw [zaR] at this
   exact this
  have km:(kvs l).map (·.1)=l.map (·.1):=by unfold kvs;rw [zaR];rfl
  have lk:(U++[ap.lst ((bn (l.map (·.1))).map D.key)])[U.length]?=some (.lst ((bn (l.map (·.1))).map D.key)):=fg;have hd0:U[0]?=some (.dtr (kvs l)):=tb.hd.dict;have sr:p8 [.p 0] U=some (.p U.length,U++[.lst ((bn (l.map (·.1))).map D.key)]):=by rw [KP,hd0,OK,zav,if_pos few,km]
  have lk2:(U2++[ap.lst ((bn (l.map (·.1))).map fun r=>bF (r,F r))])[U2.length]?=some (.lst ((bn (l.map (·.1))).map fun r=>bF (r,F r))):=fg;push_cast [lg,e,sr,lk,oq,zah,z1,ce,lk2,cf,fg]
 ·refine ⟨?_,fun e he=>?_,fun e he=>?_,fun r t d=>?_⟩
  ·have h1:=gU tb.nk;have h2:((bn (l.map (·.1))).map fun r=>(r,F r)).Pairwise fun x y=>HT2.jj x.1 y.1=true:=zbk.mpr h1;exact zbk.mpr (h2.sublist zc7)
  ·obtain ⟨h1,h2⟩:=zbp.mp he;obtain ⟨r,_,rfl⟩:=zan.mp h1;exact ⟨(hF r).2.1,by simpa [KJ] using h2⟩
  ·obtain ⟨h1,h2⟩:=zbp.mp he;obtain ⟨r,hr,rfl⟩:=zan.mp h1;exact (rm r).mp hr
  ·rw [←hany,←(hF r).2.2];constructor
   ·rintro ⟨e,he,h1,h2⟩;obtain ⟨r',hr',rfl⟩:=zan.mp (zbp.mp he).1;simp only at h1 h2;subst h1;exact h2
   ·intro hl;refine ⟨(r,F r),zbp.mpr ⟨zan.mpr ⟨r,?_,rfl⟩,?_⟩,rfl,hl⟩
    ·rw [rm];rw [(hF r).2.2,hany] at hl;obtain ⟨e,he,h1,_⟩:=hl;exact zan.mpr ⟨e,he,h1⟩
    ·unfold KJ;rw [Bool.not_eq_true',decide_eq_false_iff_not];intro z;simp only at z;rw [z,B2] at hl;cases hl
end
end LW
namespace LW
open HW
def de (i:Int){j:Int}(h:0 < j):0<=i % j/\i % j < j:=⟨zc0 _ (by omega),zcz _ h⟩
def KL {cs:List ap}{c:ap}:(cs++[c])[cs.length]?=some c:=by simp
def iM (c k:Int)(hk:0<=k/\k < 1000):∃n:Int,aV [.int c,.int k]=some (.int n)/\0<=n/\n < 2147483629:=by have b1:=de c (j:=2147483629) (by decide);have b2:=de ((c % 2147483629+1) * 1103515245) (j:=2147483629) (by decide);obtain ⟨x,hx⟩:∃x,x=(c % 2147483629+1) * 1103515245 % 2147483629:=⟨_,rfl⟩;have b3:=de (x * x+k * 69621+12345) (j:=2147483587) (by decide);refine ⟨_,?_,de (((x * x+k * 69621+12345) % 2147483587) * ((x * x+k * 69621+12345) % 2147483587)) (j:=2147483629) (by decide)⟩;rw [vp];push_cast [lh,b7 (i:=c) (j:=2147483629) (by decide),i4 (i:=c % 2147483629+1) (j:=1103515245) (by omega),b7 (i:=(c % 2147483629+1) * 1103515245) (j:=2147483629) (by decide),←hx,i4 (i:=x) (j:=x) (by omega),i4 (i:=k) (j:=69621) (by omega),b7 (i:=x * x+k * 69621+12345) (j:=2147483587) (by decide),i4 (i:=(x * x+k * 69621+12345) % 2147483587) (j:=(x * x+k * 69621+12345) % 2147483587) (by omega),b7 (j:=2147483629) (by decide)]
def zO (s:Int):Th:=(List.range 16).map fun i=>((i:Nat) - 1:Int) * s
def Dr (P:Int):Th:=((List.range 11).map fun i=>((i:Nat) - 1:Int))++(List.range 11).map fun i=>((i:Nat) - 1:Int) * P
def F3 (s:Int):(zO s).length=16:=by simp [zO]
def FU (P:Int):(Dr P).length=22:=by simp [Dr]
def F2 {s k:Int}(h1 : -1<=k)(h2:k<=14):k * s∈zO s:=zan.mpr ⟨(k+1).toNat,zbl.mpr (by omega),by rw [zcs (by omega)];congr 1;omega⟩
def FR {P k f:Int}(h1 : -1<=k)(h2:k<=9)(hf:f=1\/f=P):k * f∈Dr P:=by
 rcases hf with rfl|rfl
 ·exact zbr _ (zan.mpr ⟨(k+1).toNat,zbl.mpr (by omega),by rw [zcs (by omega)];omega⟩)
 ·exact zaC _ (zan.mpr ⟨(k+1).toNat,zbl.mpr (by omega),by rw [zcs (by omega)];congr 1;omega⟩)
def tF (n s:Int)(hs:0 < s):∃r:Rc,dw [.int n,.int s]=some (rD r)/\r.2.Pairwise (· < ·)/\∀e∈r.2,e∈zO s:=by
 rw [sJ];have b1:=de (n / 5) (j:=3) (by decide);have b2:=de (n / 15) (j:=2) (by decide);have b3:=de n (j:=5) (by decide);obtain ⟨m,hm⟩:∃m:Nat,(n / 5 % 3+n / 15 % 2).toNat=m:=⟨_,rfl⟩;have hm3:m<=3:=by omega
 push_cast [jT,b7 (i:=n) (j:=5) (by decide),d5 (i:=n) (j:=15) (by decide) (by decide),d5 (i:=n) (j:=5) (by decide) (by decide),b7 (i:=n / 5) (j:=3) (by decide),b7 (i:=n / 15) (j:=2) (by decide),pd (j:=n / 5 % 3+n / 15 % 2) (by omega),hm];obtain ⟨O',U',e,at',es,rest,x5,rfl,rfl,h1,h2,⟨h3,h5⟩,h4⟩:=iT (g:=aT 5) (b:=iu) (O:=[aU n,aU s,aX 0,aU ((n % 5 - 2)),aU ((n / 15)),none]) (U:=[.lst []]) m
  (fun i O U=>∃(at':Int) (es:Th) (rest:Int) (x5:Option R),O=[aU n,aU s,aX 0,aU at',aU rest,x5]/\U=[.lst (es.map .int)]/\es.Pairwise (· < ·)/\(∀e∈es,e<=at' * s)/\(es.length<=i/\∀e∈es,∃k:Int,-1<=k/\k<=14/\e=k * s)/\(-(2:Int)<=at'/\at'<=2+4 * (i:Int)))
  ⟨n % 5 - 2,[],n / 15,none,rfl,rfl,.nil,(fun e he=>by cases he),⟨by simp,fun e he=>by cases he⟩,by omega⟩ (by
   rintro i hi O U ⟨at',es,rest,x5,rfl,rfl,h1,h2,⟨h3,h5⟩,h4⟩;have b4:=de (rest / 2) (j:=4) (by decide);have hlen:(es.map D.int).length < sizeLine:=dk (by simp;omega);have hgt:at' * s < (at'+1+rest / 2 % 4) * s:=zdf (by omega) hs;refine ⟨[aU n,aU s,aX 0,aU ((at'+1+rest / 2 % 4)),aU ((rest / 8)),aU ((i:Int))],[.lst ((es++[(at'+1+rest / 2 % 4) * s]).map .int)],?_,at'+1+rest / 2 % 4,es++[(at'+1+rest / 2 % 4) * s],rest / 8,_,rfl,rfl,zcY.mpr ⟨h1,zce _ _,fun a ha b hb=>?_⟩,fun e he=>?_,⟨by simp;omega,fun e he=>?_⟩,by omega⟩
   ·push_cast [iu,d5 (i:=rest) (j:=2) (by decide) (by decide),b7 (i:=rest / 2) (j:=4) (by decide),i4 (i:=at'+1+rest / 2 % 4) (j:=s) (by omega),hlen,d5 (i:=rest) (j:=8) (by decide) (by decide),zaX]
   ·rw [zaB.mp hb];have:=h2 a ha;omega
   ·rcases za2.mp he with he|he
    ·have:=h2 e he;omega
    ·rw [zaB.mp he];exact zcK _
   ·rcases za2.mp he with he|he
    ·exact h5 e he
    ·exact ⟨at'+1+rest / 2 % 4,by omega,by omega,zaB.mp he⟩)
 rw [e];push_cast [b7 (i:=rest) (j:=5) (by decide)];exact ⟨(_,es),rfl,h1,fun e he=>by obtain ⟨k,k1,k2,rfl⟩:=h5 e he;exact F2 k1 k2⟩
theorem uO:∀(g:Rc) (l:List (Int×Rc)) (p:Int×Rc),F4 g l->p.2≠lst g l->F4 g (l++[p])
 |_,[],_,_,h=>⟨h,trivial⟩|_,q::l,p,hd,h=>⟨hd.1,uO q.2 l p hd.2 h⟩
def EC (c s:Int)(hs:0 < s){P:Int}(hpow:∀U:ac,nB (.v (.int 10)) (.v (.int 30)) U=some (.v (.int P),U))(hP0:0 < P):∃p:Pl,gS [.int c,.int 1,.int s]=some (en p)/\BP (zO s) (Dr P) p:=by
 rw [vt];obtain ⟨n,hn,hn0,hn1⟩:=iM c 1 (by decide);obtain ⟨n9,hn9,hn90,hn91⟩:=iM c 10 (by decide);have b2:=de (n / 80) (j:=2) (by decide);obtain ⟨f,hf,hf0,hf1⟩:∃f:Int,L2.nW [D.int 1,D.int P] (n / 80 % 2)=some (.int f)/\0 < f/\(f=1\/f=P):=by
  have:n / 80 % 2=0\/n / 80 % 2=1:=by omega
  rcases this with h|h <;> rw [h]
  ·exact ⟨1,rfl,by decide,.inl rfl⟩
  ·exact ⟨P,rfl,hP0,.inr rfl⟩
 obtain ⟨g,hg,hgr⟩:∃g:Rc,xb (some (n % 4 == 0,[])) (aI 4 (aR dw 2 (af (cD (aA dh (ae 3) (fK (.int 4)))) (af (cD (ae 2)) ai)))) bG
   [aU c,aU 1,aU s,aU n,some (.v (.tup [.bl false,.tup []])),none,none,none,none,none] =
   some (.nx [aU c,aU 1,aU s,aU n,some (.v (rD g)),none,none,none,none,none] [])/\g.2.Pairwise (· < ·)/\∀e∈g.2,e∈zO s:=by
  obtain ⟨r,hr,hr1,hr2⟩:=tF (n / 4) s hs
  cases n % 4 == 0 with|true=>exact ⟨r,by push_cast [d5 (i:=n) (j:=4) (by decide) (by decide),hr],hr1,hr2⟩|false=>exact ⟨(false,[]),by push_cast [HW.sU];rfl,.nil,fun _ h=>nomatch h⟩
 have b3:=de (n / 16) (j:=5) (by decide);have b4:=de (n / 4) (j:=4) (by decide);obtain ⟨m,hm⟩:∃m:Nat,(n / 4 % 4).toNat=m:=⟨_,rfl⟩;have hm3:m<=3:=by omega
 push_cast [lj,hn,b7 (i:=n) (j:=4) (by decide)];rw [hg];push_cast [d5 (i:=n) (j:=16) (by decide) (by decide),b7 (i:=n / 16) (j:=5) (by decide),d5 (i:=n) (j:=4) (by decide) (by decide),b7 (i:=n / 4) (j:=4) (by decide),pd (j:=n / 4 % 4) (by omega),hm];obtain ⟨O',U',e,last,turn,qs,x8,x9,rfl,⟨cs,rfl⟩,h1,h2,h3,h4,h5,h6,h7⟩:=iT (g:=aT 8) (b:=gq) (O:=[aU c,aU 1,aU s,aU n,some (.v (rD g)),some (.v (rD g)),aU ((n / 16 % 5 - 1)),aX 0,none,none]) (U:=[.lst []]) m
  (fun i O U=>∃(last:Rc) (turn:Int) (qs:List (Int×Rc)) (x8 x9:Option R),O=[aU c,aU 1,aU s,aU n,some (.v (rD g)),some (.v (rD last)),aU turn,aX 0,x8,x9]/\(∃cs:List ap,U=.lst (qs.map sD)::cs)/\Up qs/\F4 g qs/\last=lst g qs/\(∀p∈qs,p.1 < turn * f)/\qs.length<=i/\(∀p∈qs,(p.2.2.Pairwise (· < ·)/\∀e∈p.2.2,e∈zO s)/\p.1∈Dr P)/\(-(1:Int)<=turn/\turn<=3+3 * (i:Int)))
  ⟨g,n / 16 % 5 - 1,[],none,none,rfl,⟨[],rfl⟩,.nil,trivial,rfl,(fun _ h=>by cases h),by simp,(fun _ h=>by cases h),by omega⟩ (by
   rintro i hi O U ⟨last,turn,qs,x8,x9,rfl,⟨cs,rfl⟩,h1,h2,h3,h4,h5,h6,h7⟩;have hi3:(i:Int)<=2:=(by omega);obtain ⟨k,hk,hk0,hk1⟩:=iM c (1+5+(i:Int)) (by omega);obtain ⟨r,hr,hr1,hr2⟩:=tF k s hs;have b5:=de (n9 / 3) (j:=3) (by decide);have hlen:(qs.map sD).length < sizeLine:=dk (by simp;omega);have hgt:turn * f < (turn+1+n9 / 3 % 3) * f:=zdf (by omega) hf0;have hn9':aV [.int c,.int (1+9)]=some (.int n9):=hn9;by_cases hz:r=last
   ·have hz':decide (r=last)=true:=zaL hz;refine ⟨_,_,?_,last,turn+1+n9 / 3 % 3,qs,aU ((i:Int)),some (.v (rD r)),rfl,⟨cs,rfl⟩,h1,h2,h3,fun p hp=>by have:=h4 p hp;omega,by omega,h6,by omega⟩;push_cast [gq,hk,hr,tZ,pi,hz',hn9',d5 (i:=n9) (j:=3) (by decide) (by decide),b7 (i:=n9 / 3) (j:=3) (by decide)]
   ·have hz':decide (r=last)=false:=zaG hz;refine ⟨_,_,?_,r,turn+1+n9 / 3 % 3,qs++[(turn * f,r)],aU ((i:Int)),some (.v (rD r)),rfl,⟨cs++[.lst [.int 1,.int P]],rfl⟩,zcY.mpr ⟨h1,zce _ _,fun a ha b hb=>?_⟩,uO g qs _ h2 (by rw [←h3];exact hz),by rw [jA],fun p hp=>?_,by simp;omega,fun p hp=>?_,by omega⟩
    ·push_cast [gq,hk,hr,tZ,pi,hz',hn9',d5 (i:=n9) (j:=3) (by decide) (by decide),b7 (i:=n9 / 3) (j:=3) (by decide),hpow,sU,d5 (i:=n) (j:=80) (by decide) (by decide),b7 (i:=n / 80) (j:=2) (by decide),hf,i4 (i:=turn) (j:=f) (by omega),hlen,zaX,KL]
    ·rw [zaB.mp hb];exact h4 a ha
    ·rcases za2.mp hp with hp|hp
     ·have:=h4 p hp;omega
     ·rw [zaB.mp hp];exact hgt
    ·rcases za2.mp hp with hp|hp
     ·exact h6 p hp
     ·rw [zaB.mp hp];exact ⟨⟨hr1,hr2⟩,FR (by omega) (by omega) hf1⟩)
 rw [e];push_cast [HW.sU];exact ⟨(g,qs),rfl,⟨hgr.1,h1,h2,fun q hq=>(h6 q hq).1.1⟩,hgr.2,fun q hq=>(h6 q hq).1.2,fun q hq=>(h6 q hq).2⟩
def Mf (a b c d e f:Int)(i:Int)(h:0<=i/\i < 6):∃x:Int,L2.nW [D.int a,.int b,.int c,.int d,.int e,.int f] i=some (.int x):=by
 have:i=0\/i=1\/i=2\/i=3\/i=4\/i=5:=by omega
 rcases this with h|h|h|h|h|h <;> rw [h] <;> exact ⟨_,rfl⟩
def SH:6<=sizeLine:=by decide
def Ik (c:Int)(w:Nat)(hw:w<=3):∃r:Th,iE [.int c,.int 1,.int (w:Int)]=some (.key r)/\r.length=w:=by
 rw [yD];obtain ⟨n,hn,hn0,hn1⟩:=iM c 18 (by decide);obtain ⟨P,hP⟩:∃P:Int,P=10 ^ (50:Int).toNat:=⟨_,rfl⟩;have hpow:∀U:ac,nB (.v (.int 10)) (.v (.int 50)) U=some (.v (.int P),U):=fun U=>by rw [wz (by decide),hP]
 have hP0:0 < P:=by rw [hP];exact Int.pow_pos (by decide)
 clear hP;have hn':aV [.int c,.int (1+17)]=some (.int n):=hn;push_cast [mL,hn',pd (j:=(w:Int)) (by omega),zbR];obtain ⟨O',U',e,k,r,x5,rfl,⟨cs,rfl⟩,h1⟩:=iT (g:=aT 5) (b:=jC) (O:=[aU c,aU 1,aU ((w:Int)),aU n,aX 0,none]) (U:=[.lst []]) w
  (fun i O U=>∃(k:Int) (r:Th) (x5:Option R),O=[aU c,aU 1,aU ((w:Int)),aU k,aX 0,x5]/\(∃cs:List ap,U=.lst (r.map .int)::cs)/\r.length=i)
  ⟨n,[],none,rfl,⟨[],rfl⟩,rfl⟩ (by rintro i hi O U ⟨k,r,x5,rfl,⟨cs,rfl⟩,h1⟩;have b:=de k (j:=6) (by decide);obtain ⟨x,hx⟩:=Mf 0 1 1 (-1) 2 (c % P) (k % 6) b;have hlen:(r.map D.int).length < sizeLine:=dk (by simp;omega);refine ⟨_,_,?_,k / 6,r++[x],aU ((i:Int)),rfl,⟨cs++[.lst [.int 0,.int 1,.int 1,.int (-1),.int 2,.int (c % P)]],rfl⟩,by simp;omega⟩;push_cast [jC,hpow,b7 (i:=c) (j:=P) hP0,SH,b7 (i:=k) (j:=6) (by decide),KL,hx,hlen,d5 (i:=k) (j:=6) (by decide) (by decide),zaX])
 rw [e];refine ⟨r,?_,h1⟩;push_cast [v9,zav]
def la (t:Int)(h:Rc)(q:Int×Rc):Rc:=if q.1<=t then q.2 else h
theorem B8:∀(qs:List (Int×Rc)) (g:Rc) (t:Int),Up qs->qs.foldl (la t) g=ra g qs t
 |[],_,_,_=>rfl|q::qs,g,t,hu=>by
  obtain ⟨h1,h2⟩:=zaw.mp hu;rw [zbj,ra];by_cases h:t < q.1
  ·rw [if_pos h,la,if_neg (by omega),B8 qs g t h2];exact cS _ _ _ fun p hp=>by have:=h1 p hp;omega
  ·rw [if_neg h,la,if_pos (by omega),B8 qs q.2 t h2]
def tg (d:Int)(b:Bool)(e:Int):Bool:=if e<=d then !b else b
theorem GD (d:Int):∀(es:Th) (b:Bool),es.Pairwise (· < ·)->es.foldl (tg d) b=lv b es d
 |[],_,_=>rfl|e::es,b,h=>by
  obtain ⟨p1,p2⟩:=zaw.mp h;rw [zbj,GD d es _ p2,lv,tg];by_cases z:e<=d
  ·rw [if_pos z,if_neg (by omega)]
  ·rw [if_neg z,if_pos (by omega),cU fun x hx=>by have:=p1 x hx;omega]
def v5 (g:Rc)(qs:List (Int×Rc))(d t:Int)(hp:Pf g qs):dY [pD g qs,.int d,.int t]=some (.bl (nD (ra g qs t) d)):=by
 rw [vw];obtain ⟨⟨r,x5,x6⟩,e,h1⟩:=gW (g:=iF 2 (aq (aT 5) (aq (aT 6) bz))) (b:=eJ) sD
  (fun st:Rc×Option R×Option R=>([some (.v (pD g qs)),aU d,aU t,some (.v (.bl st.1.1)),some (.v (.tup (st.1.2.map .int))),st.2.1,st.2.2,none],([]:ac)))
  (fun st rem=>rem.foldl (la t) st.1=ra g qs t) qs (g,none,none) (B8 qs g t hp.up) (by
   rintro ⟨h,x,y⟩ q rem hh;refine ⟨(la t h q,aU q.1,some (.v (rD q.2))),?_,hh⟩;by_cases hz:q.1<=t
   ·have hz':decide (q.1<=t)=true:=zaL hz;push_cast [eJ,sD,rD,hz',la,if_pos hz]
   ·have hz':decide (q.1<=t)=false:=zaG hz;push_cast [eJ,sD,rD,hz',la,if_neg hz])
 have h1:r=ra g qs t:=h1;obtain ⟨⟨b,x7⟩,e2,h2⟩:=gW (g:=aT 7) (b:=eI) D.int
  (fun st:Bool×Option R=>([some (.v (pD g qs)),aU d,aU t,some (.v (.bl st.1)),some (.v (.tup (r.2.map .int))),x5,x6,st.2],([]:ac)))
  (fun st rem=>rem.foldl (tg d) st.1=nD r d) r.2 (r.1,none) (GD d r.2 r.1 (by rw [h1];exact hp.at t)) (by
   rintro ⟨b,x⟩ q rem hh;refine ⟨(tg d b q,some (.v (.int q))),?_,hh⟩;by_cases hz:q<=d
   ·have hz':decide (q<=d)=true:=zaL hz;push_cast [eI,hz',tg,if_pos hz]
   ·have hz':decide (q<=d)=false:=zaG hz;push_cast [eI,hz',tg,if_neg hz])
 have h2:b=nD r d:=h2;have e':cg (iF 2 (aq (aT 5) (aq (aT 6) bz))) eJ (qs.map sD) [some (.v (.tup [.tup [.bl g.1,.tup (g.2.map .int)],.tup (qs.map sD)])),aU d,aU t,some (.v (.bl g.1)),some (.v (.tup (g.2.map .int))),none,none,none] []=_:=e;have e2':cg (aT 7) eI (r.2.map .int) [some (.v (.tup [.tup [.bl g.1,.tup (g.2.map .int)],.tup (qs.map sD)])),aU d,aU t,some (.v (.bl r.1)),some (.v (.tup (r.2.map .int))),x5,x6,none] []=_:=e2;push_cast [ll,pD,rD];rw [e'];push_cast [pD,rD];rw [e2'];push_cast [h2,h1]
theorem mj (i:Int):du [.int i]=some (.bl true):=rfl
theorem qd (x:D)(ns:Th)(hlen:∀U:ac,eU [.v x] U=some (.v (.int (ns.length:Int)),U))(hix:∀(i:Int) (p:Int) (U:ac),L2.nW (ns.map D.int) i=some (.int p)->c7 (.v x) (.v (.int i)) U=some (.v (.int p),U))(hu:ns.Pairwise (· < ·))(hl:ns.length < 2000):cx [x]=some (.bl true):=by
 rw [sI];have h62 : -(2 ^ 62:Int)<=(ns.length:Int)/\(ns.length:Int) < 2 ^ 62:=by omega
 obtain ⟨O',U',e,x1,rfl,rfl⟩:=iT (g:=aT 1) (b:=fL) (O:=[some (.v x),none]) (U:=[]) ns.length
  (fun i O U=>∃x1,O=[some (.v x),x1]/\U=[]) ⟨none,rfl,rfl⟩ (by
   rintro i hi O U ⟨x1,rfl,rfl⟩;obtain ⟨p,hp⟩:∃p,ns[i]?=some p:=⟨_,zas hi⟩;have c0:=fun U=>hix (i:Int) p U (pG hp)
   cases i with
   |zero =>
    have c1:decide ((0:Int) < ((0:Nat):Int))=false:=rfl;have c0':∀U:ac,c7 (.v x) (.v (.int ((0:Nat):Int))) U=some (.v (.int p),U):=c0;refine ⟨[some (.v x),aU (((0:Nat):Int))],[],?_,_,rfl,rfl⟩;push_cast [fL,ph,zB,CN,CJ,yg,CI,yj,rW,Hm,Hk,CG,Hj,xM,xL,CL,CK,c0',mj,c1]
   |succ j =>
    obtain ⟨q,hq⟩:∃q,ns[j]?=some q:=⟨_,zas (by omega)⟩;have c1:decide ((0:Int) < ((j+1:Nat):Int))=true:=zaL (by omega);have c2:((j+1:Nat):Int) - 1=(j:Int):=(by omega);have c3:=fun U=>hix (j:Int) q U (pG hq);have hlt:q < p:=by obtain ⟨h1,h1'⟩:=zau.mp hq;obtain ⟨h2,h2'⟩:=zau.mp hp;rw [←h1',←h2'];exact zbg.mp hu j (j+1) h1 h2 (by omega)
    have c4:decide (p<=q)=false:=zaG (by omega);refine ⟨[some (.v x),aU (((j+1:Nat):Int))],[],?_,_,rfl,rfl⟩;push_cast [fL,ph,zB,CN,CJ,yg,CI,yj,rW,Hm,Hk,CG,Hj,xM,xL,CL,CK,c0,c2,c3,mj,c1,c4])
 push_cast [jS,wy,CP,M0,Nc,rW,CG,Kg,CT,CS,Ki,hlen,pd h62,yi,zbR,e]
def yR (ns:Th)(hu:ns.Pairwise (· < ·))(hl:ns.length < 2000):cx [.tup (ns.map .int)]=some (.bl true) :=
 qd _ ns (fun U=>by rw [Fq,zah]) (fun i p U h=>by push_cast [h]) hu hl
def A1 (ns:Th)(hu:ns.Pairwise (· < ·))(hl:ns.length < 2000):cx [.fl (ns.map .int)]=some (.bl true) :=
 qd _ ns (fun U=>by rw [Fr,zah]) (fun i p U h=>by push_cast [h]) hu hl
theorem t1 (xs:List D)(U:ac):jG "tuple" (.v (.tup xs)) U=some (.v (.bl true),U):=rfl
theorem t2 (b:Bool)(U:ac):jG "bool" (.v (.bl b)) U=some (.v (.bl true),U):=rfl
theorem t3 (xs:List D)(U:ac):jG "list" (.v (.fl xs)) U=some (.v (.bl true),U):=rfl
theorem NA:(((2:Nat):Int) == 2)=true:=rfl
def uk (r:Rc)(hu:r.2.Pairwise (· < ·))(hl:r.2.length < 2000):cJ [rD r]=some (.bl true):=by rw [oe];have h:=yR r.2 hu hl;push_cast [g7,t1,t2,NA,h]
def Ck {ES TS:Th}(hE:ES.length<=16)(hT:TS.length<=22){g:Rc}{qs:List (Int×Rc)}(h:BP ES TS (g,qs)):dP [pD g qs]=some (.bl true):=by
 rw [pP];have rl:∀l:Th,l.Pairwise (· < ·)->(∀e∈l,e∈ES)->l.length < 2000:=fun l h1 h2=>by have:=eE l ES (sE h1) h2;omega
 have rg:=uk g h.pf.gu (rl _ h.pf.gu h.ge);obtain ⟨⟨dn,x2⟩,e,hd,-⟩:=gW (g:=aT 2) (b:=dW) sD
  (fun st:List (Int×Rc)×Option R=>([some (.v (pD g qs)),some (.v (rD (lst g st.1))),st.2],([]:ac)))
  (fun st rem=>st.1++rem=qs/\True) qs ([],none) ⟨rfl,trivial⟩ (by
   rintro ⟨dn,x2⟩ q rem ⟨hd,-⟩;simp only at hd;have hq:q∈qs:=(by rw [←hd];simp);have rq:=uk q.2 (h.pf.ru q hq) (rl _ (h.pf.ru q hq) (h.re q hq));have hne:q.2≠lst g dn:=by
    have key:∀(a:List (Int×Rc)) (g:Rc) (r:List (Int×Rc)),F4 g (a++q::r)->q.2≠lst g a:=by
     intro a;induction a with|nil=>intro g r hz;exact hz.1|cons p a ih=>intro g r hz;exact ih p.2 r hz.2
    exact key dn g rem (by rw [hd];exact h.pf.dif)
   have hne':decide (q.2=lst g dn)=false:=zaG hne;refine ⟨(dn++[q],some (.v (sD q))),?_,by simp only [za3,List.singleton_append];exact ⟨hd,trivial⟩⟩;push_cast [dW,sD,t1,NA,rq,tZ,pi,hne',jA])
 rw [zbi] at hd;have hn:qs.length<=22:=by
  have:=eE (qs.map (·.1)) TS (sE (zbk.mpr h.pf.up)) fun x hx=>by obtain ⟨q,hq,rfl⟩:=zan.mp hx;exact h.te q hq
  rw [zah] at this;omega
 have hz:(qs.map sD).length<=sizeLine:=bA (by simp;omega);have hc:=dB (f:=aA c7 (ae 0) (fK (.int 0))) (U:=[]) (rest:=[]) sD (fun q=>D.int q.1) qs none (fun q _=>by push_cast [sD]);have hcm:qs.map (fun q=>D.int q.1)=(qs.map (·.1)).map D.int:=by rw [zaR];rfl
 rw [hcm] at hc;have hz2:((qs.map (·.1)).map D.int).length<=sizeLine:=bA (by simp;omega);have hr:=A1 (qs.map (·.1)) (zbk.mpr h.pf.up) (by simp;omega);have e':cg (aT 2) dW (qs.map sD) [some (.v (.tup [rD g,.tup (qs.map sD)])),some (.v (rD g)),none] []=_:=e;push_cast [iz,pD,t1,NA,rg];rw [e'];push_cast [hz,hc,hz2,hr]
def wH (ks:Th)(U:ac):bv (aT 0) bY (aR du 1 (af (cD (ae 0)) ai)) (ks.map .int) [none] U=some (ks.map (fun _=>D.bl true),U) :=
 dB (rest:=[]) D.int (fun _=>D.bl true) ks none (fun k _=>by push_cast [mj])
theorem u6:∀ks:Th,lf (ks.map fun _=>D.bl true)=some (ks.map fun _=>true)
 |[]=>rfl|k::ks=>by simp only [zaf,lf,u6 ks,zav]
theorem ic:∀a:Th,HT2.jj a a=false
 |[]=>rfl|x::a=>by simp [HT2.jj,ic a]
def iS {l:Ta}(h:Dx l):l.Nodup:=h.imp fun {a b} h e=>by subst e;rw [ic] at h;cases h
def B0 {l:Ta}(h:Dx l):bn l=l:=j9 (gU (iS h)) h (bD l)
theorem qt:∀ns:Th,gd (ns.map D.int)=some ns
 |[]=>rfl|n::ns=>by simp only [zaf,gd,qt ns,za7]
theorem kP:∀rows:Ta,sN (rows.map aQ)=some rows
 |[]=>rfl|r::rows=>by
  have:Af (aQ r)=some r:=by unfold Af;exact qt r
  simp only [zaf,sN,this,kP rows,zav]
def xH {n:Nat}(rows:Ta):e8 (n+3) (.fl (rows.map aQ))=true:=G5 (lP (fun r=>ir (j7 r)) rows)
def yl (a:Ta):hV (.fl (a.map aQ)) (.fl (a.map aQ))=true:=by
 have:∀l:Ta,eqDs (l.map aQ) (l.map aQ)=true:=by
  intro l;induction l with|nil=>rfl|cons x l ih=>simp only [zaf,eqDs,ih,zcN,aQ,hV,ki,zaL]
 simp only [hV,this]
theorem C7:∀(l acc:Ta),(acc++l).Nodup->l.foldl Nh acc=acc++l
 |[],acc,_=>by simp|k::l,acc,h=>by
  have hk:k∉acc:=fun z=>by have:=(zbu.mp h).2.2 k z k zag;exact this rfl
  rw [zbj,Nh,if_neg hk,C7 l (acc++[k]) (by simpa using h)];simp
def Ni {l:Ta}(h:l.Nodup):dd l=l:=by have:=C7 l [] (by simpa using h);simpa [dd] using this
def CB {w:Nat}{T:List En}(hn:T.length < 64)(hr:∀e∈T,e.1.length=w)(nd:(T.map (·.1)).Nodup):(T.map (·.1)).length < 64/\((T.map (·.1)).length < 2\/∀k∈T.map (·.1),k≠[]):=by
 refine ⟨by simpa using hn,?_⟩;have hw:∀k∈T.map (·.1),k.length=w:=fun k hk=>by obtain ⟨e,he,rfl⟩:=zan.mp hk;exact hr e he
 by_cases z:w=0
 ·refine .inl ?_;have:=eE (T.map (·.1)) [[]] nd fun x hx=>by
   have:=hw x hx;rw [z] at this
   rw [zbD.mp this];exact zag
  simp at this ⊢;omega
 ·refine .inr fun k hk e=>?_;have:=hw k hk;rw [e] at this
  simp at this;omega
def uj (bt:Bool){ES TS:Th}(hE:ES.length<=16)(hT:TS.length<=22){w:Nat}{T:List En}(h3:w<=4)(hn:T.length<=40)(hb:∀e∈T,BP ES TS e.2/\e.2≠vg)(hr:∀e∈T,e.1.length=w)(up:Dx (T.map (·.1))):bC bt [.fl (T.map bF),.int (w:Int)]=some (.bl true):=by
 rw [oa];obtain ⟨⟨U,x2⟩,e,-⟩:=gW (g:=aT 2) (b:=dH bt) bF
  (fun st:ac×Option R=>([some (.v (.fl (T.map bF))),aU ((w:Int)),st.2,none],st.1))
  (fun st rem=>∀e∈rem,e∈T) T ([],none) (fun _ h=>h) (by rintro ⟨U,x2⟩ e rem hm;have he:=hm e zag;obtain ⟨pg,hz⟩:=hb e he;have hw:=hr e he;have hz':hV (en e.2) OF=false:=(by rw [wA];exact zaG hz);have hp:=Ck hE hT (g:=e.2.1) (qs:=e.2.2) pg;have hww:((e.1.length:Int) == (w:Int))=true:=(by rw [hw];exact zca _);have hwl:e.1.length<=sizeLine:=bA (by omega);have cw:=wH e.1;have at':=u6 e.1;have hall:(e.1.map fun _=>true).all id=true:=(by simp);have okn:=vW;obtain ⟨r,g,qs⟩:=e;simp only at hw hww hwl cw at' hall hp hz';refine ⟨(U++[ap.lst (r.map fun _=>D.bl true)],some (.v (bF (r,g,qs)))),?_,fun e he=>hm e (zai _ he)⟩;push_cast [dH,bF,aQ,en,t1,NA,hww,zah,hwl,cw,at',hall,hp,xI,okn,hz',KL,zbn])
 have z1:(T.map bF).length<=sizeLine:=bA (by simp;omega);have hc:=dB (f:=aA c7 (ae 0) (fK (.int 0))) (U:=U) (rest:=[]) bF (fun e=>aQ e.1) T none (fun e _=>by push_cast [bF]);have hcm:T.map (fun e=>aQ e.1)=(T.map (·.1)).map aQ:=by rw [zaR];rfl
 rw [hcm] at hc;have z2:((T.map (·.1)).map aQ).length<=sizeLine:=bA (by simp;omega);have few:=CB (w:=w) (T:=T) (by omega) hr (iS up);have ss:LB (.p U.length) (U++[.lst ((T.map (·.1)).map aQ)])=some (.p (U++[ap.lst ((T.map (·.1)).map aQ)]).length,U++[.lst ((T.map (·.1)).map aQ)]++[.lst ((T.map (·.1)).map aQ)]):=by unfold LB D0;simp only [KL,zav,kP];rw [Ni (iS up),if_pos few,B0 up]
 have e':cg (aT 2) (dH bt) (T.map bF) [some (.v (.fl (T.map bF))),aU ((w:Int)),none,none] []=_:=e;push_cast [g6,t3];rw [e'];generalize hrows:(T.map (·.1)).map aQ=rows at *;have okr:e8 60 (.fl rows)=true:=by rw [←hrows];exact xH _
 have eqr:hV (.fl rows) (.fl rows)=true:=by rw [←hrows];exact yl _
 have g1:(U++[ap.lst rows]++[ap.lst rows])[U.length]?=some (.lst rows):=by rw [zaj (by simp)];exact KL
 have fs:ww (ae 3) [some (.v (.fl (T.map bF))),aU ((w:Int)),x2,aX U.length] (U++[.lst rows])=some (.p (U++[ap.lst rows]).length,U++[.lst rows]++[.lst rows]):=ss;push_cast [z1,hc,z2,fs,g1,KL,okr,eqr]
abbrev kG (d t:Int)(es:List En):Ta:=(es.filter fun e=>jB e.2 t d).map (·.1)
def v6 {es:List En}(hb:∀e∈es,Pf e.2.1 e.2.2)(hn:es.length < 64)(d t:Int):gQ [.fl (es.map bF),.int d,.int t]=some (.lst ((kG d t es).map aQ)):=by
 rw [Ae];have z1:(es.map bF).length<=sizeLine:=bA (by rw [zah];omega);have cm0:=jP (c:=fm (aR dY 3 (af (cD (ae 1)) (af (cD (ae 2)) (af (cD (ae 3)) ai))))) (f:=ae 0) (rest:=[aU d,aU t]) (U:=[]) (fun e:En=>aQ e.1) (fun e=>en e.2) (fun e=>jB e.2 t d) (fun e=>aQ e.1) es none none (fun e he=>by have h1:=v5 e.2.1 e.2.2 d t (hb e he);push_cast [h1]) (fun e _ _=>by push_cast [HW.sU])
 have cm:bv (iF 2 (aq (aT 0) (aq (aT 1) bz))) (fm (aR dY 3 (af (cD (ae 1)) (af (cD (ae 2)) (af (cD (ae 3)) ai))))) (ae 0) (es.map bF) (dg 2 [1,2] [some (.v (.fl (es.map bF))),aU d,aU t]) []=some ((kG d t es).map aQ,[]):=by rw [kG,zaR];exact cm0
 push_cast [pF,z1,cm]
def JG {n:Nat}(e:En):e8 (n+6) (bF e)=true:=ir (eD (ir (j7 _)) (eD (BV _ _) lO))
def xG (es:List En):e8 60 (.fl (es.map bF))=true:=G5 (lP (fun e=>JG e) es)
theorem DU (cell k s:Int)(hk:0<=k/\k < 100){Ts:List En}:∃d t:Int,gR [.int cell,.int k,.fl (Ts.map bF),.int s]=some (.tup [.int d,.int t]):=by
 rw [vq];obtain ⟨n,hn,hn0,hn1⟩:=iM cell (k+31) (by omega);have dv:∀(j:Int),0 < j->j < 2 ^ 30->∀(U:ac),dh (.v (.int n)) (.v (.int j)) U=some (.v (.int (n / j)),U):=fun j j0 j1 U=>d5 (by omega) (by omega);have m9:∀U:ac,cC (.v (.int n)) (.v (.int 9)) U=some (.v (.int (n % 9)),U):=fun U=>b7 (by decide);have md:∀(i j:Int),0 < j->∀U:ac,cC (.v (.int i)) (.v (.int j)) U=some (.v (.int (i % j)),U):=fun i j j0 U=>b7 (by omega);have b15:=de (n / 9) (j:=15) (by decide);have ml:∀U:ac,mw (.v (.int (n / 9 % 15 - 4))) (.v (.int s)) U=some (.v (.int ((n / 9 % 15 - 4) * s)),U):=fun U=>i4 (by omega);have okT:e8 60 (.fl (Ts.map bF))=true:=xG Ts;have ok0:e8 60 (.fl [])=true:=rfl;have okn:e8 60 (.tup [])=true:=by decide
 by_cases hT:Ts=[]
 ·subst hT;have e0:hV (.fl (([]:List En).map bF)) (.fl [])=true:=rfl;push_cast [fu,hn,m9,dv 9 (by decide) (by decide),dv 135 (by decide) (by decide),md _ 15 (by decide),md _ 2 (by decide),ml,okT,ok0,e0,zbn];exact ⟨_,_,rfl⟩
 ·have e0:hV (.fl (Ts.map bF)) (.fl [])=false:=by
   cases Ts with|nil=>exact absurd rfl hT|cons e T=>rfl
  cases q3:decide (0 < n / 270 % 3) with
  |false =>
   push_cast [fu,hn,m9,dv 9 (by decide) (by decide),dv 135 (by decide) (by decide),dv 270 (by decide) (by decide),md _ 15 (by decide),md _ 2 (by decide),md _ 3 (by decide),ml,okT,ok0,e0,q3,zbZ];exact ⟨_,_,rfl⟩
  |true =>
   have pick:∀{Z:Type} (f:Z->D) (xs:List Z) (i:Int),xs≠[]->∃x∈xs,L2.nW (xs.map f) (i % (xs.length:Int))=some (f x)/\(0:Int) < (xs.length:Int):=fun {Z} f xs i hx=>by
    have hpos:(0:Int) < (xs.length:Int):=by have:=List.length_pos_iff.mpr hx;omega
    obtain ⟨j,hj⟩:∃j:Nat,(j:Int)=i % (xs.length:Int):=⟨(i % (xs.length:Int)).toNat,by rw [zcs (zc0 _ (by omega))]⟩
    have hlt:j < xs.length:=by have:=zcz i hpos;omega
    exact ⟨xs[j],zcO hlt,by rw [←hj];exact pG (zas hlt),hpos⟩
   obtain ⟨e,he,a1,p1⟩:=pick bF Ts (n / 810) hT;have mT:=fun U=>md (n / 810) (Ts.length:Int) p1 U;obtain ⟨row,g,qs⟩:=e;have okq:e8 60 (.tup (qs.map sD))=true:=ir (lP (fun p=>BU p) qs);have oke:∀r:Rc,e8 60 (.tup (r.2.map .int))=true:=fun r=>ir (j7 _)
   have eqe:∀r:Rc,hV (.tup (r.2.map .int)) (.tup [])=decide (r.2=[]):=fun r=>by
    have:=ki r.2 [];simp only [hV];exact this
   have fin:∀(r:Rc) (x7:R) (t d:Int) (U:ac),∃(d':Int),(ju (fB (aA (gg true) (aA c7 (ae 8) (fK (.int 1))) (bT ai))) (aI 6 (aA mq (aA c7 (aA c7 (ae 8) (fK (.int 1))) (aA cC (aA dh (ae 4) (fK (.int 180000))) (dI eU (af (aA c7 (ae 8) (fK (.int 1))) ai)))) (aA cC (aA dh (ae 4) (fK (.int 1800000))) (fK (.int 2))))) bG)
     [aU cell,aU k,some (.v (.fl (Ts.map bF))),aU s,aU n,aU t,aU d,some x7,some (.v (rD r))] U=some (.nx [aU cell,aU k,some (.v (.fl (Ts.map bF))),aU s,aU n,aU t,aU d',some x7,some (.v (rD r))] U):=fun r x7 t d U=>by
    by_cases hr:r.2=[]
    ·have hr':decide (r.2=[])=true:=zaL hr
     refine ⟨d,?_⟩;push_cast [oke,okn,eqe,hr',zbn]
    ·have hr':decide (r.2=[])=false:=zaG hr
     obtain ⟨x,hx,a2,p2⟩:=pick D.int r.2 (n / 180000) hr;have mR:=fun U=>md (n / 180000) (r.2.length:Int) p2 U;refine ⟨x - n / 1800000 % 2,?_⟩;push_cast [oke,okn,eqe,hr',zbZ,dv 180000 (by decide) (by decide),dv 1800000 (by decide) (by decide),zah,mR,a2,md _ 2 (by decide)]
   generalize hL:(ju (fB (aA (gg true) (aA c7 (ae 8) (fK (.int 1))) (bT ai))) (aI 6 (aA mq (aA c7 (aA c7 (ae 8) (fK (.int 1))) (aA cC (aA dh (ae 4) (fK (.int 180000))) (dI eU (af (aA c7 (ae 8) (fK (.int 1))) ai)))) (aA cC (aA dh (ae 4) (fK (.int 1800000))) (fK (.int 2))))) bG)=L at fin
   by_cases hq:qs=[]
   ·subst hq
    have eq0:hV (.tup []) (.tup [])=true:=by decide
    obtain ⟨d',hf⟩:=fin g (.v (.tup [rD g,.tup []])) (n % 9 - 2) ((n / 9 % 15 - 4) * s - n / 135 % 2) [ap.lst []];refine ⟨d',n % 9 - 2,?_⟩;rw [fu,hL];push_cast [hn,m9,dv 9 (by decide) (by decide),dv 135 (by decide) (by decide),dv 270 (by decide) (by decide),dv 810 (by decide) (by decide),md _ 15 (by decide),md _ 2 (by decide),md _ 3 (by decide),ml,okT,ok0,e0,q3,zbZ,zah,mT,a1,bF,en,pD,zbc,okn,eq0,zbn,hf]
   ·have eq0:hV (.tup (qs.map sD)) (.tup [])=false:=by
     cases qs with|nil=>exact absurd rfl hq|cons q rs=>simp [hV,eqDs]
    obtain ⟨q,hqm,a2,p2⟩:=pick sD qs (n / 9000) hq;have mQ:=fun U=>md (n / 9000) (qs.length:Int) p2 U;have a2':L2.nW (qs.map sD) (n / 9000 % (qs.length:Int))=some (.tup [.int q.1,rD q.2]):=a2;obtain ⟨d',hf⟩:=fin q.2 (.v (.tup [rD g,.tup (qs.map sD)])) (q.1 - n / 90000 % 2) ((n / 9 % 15 - 4) * s - n / 135 % 2) [ap.lst []];refine ⟨d',q.1 - n / 90000 % 2,?_⟩;rw [fu,hL];push_cast [hn,m9,dv 9 (by decide) (by decide),dv 135 (by decide) (by decide),dv 270 (by decide) (by decide),dv 810 (by decide) (by decide),dv 9000 (by decide) (by decide),dv 90000 (by decide) (by decide),md _ 15 (by decide),md _ 2 (by decide),md _ 3 (by decide),ml,okT,ok0,e0,q3,zbZ,zah,mT,a1,bF,en,pD,okq,okn,eq0,mQ,a2',hf]
section
variable {ES TS:Th}
def sX {p:Pl}(h:BP ES TS p)(hn:p≠vg):∃t d,jB p t d=true:=by
 refine Classical.byContradiction fun z=>hn ?_;have h0:Pf vg.1 vg.2:=⟨.nil,.nil,trivial,fun _ h=>nomatch h⟩;have:=BC h.pf h0 fun t d=>by
  rw [show nD (ra vg.1 vg.2 t) d=false from B2 t d]
  cases q:nD (ra p.1 p.2 t) d with|false=>rfl|true=>exact absurd ⟨t,d,q⟩ z
 exact Prod.ext this.1 this.2
def xq {es T:List En}(h:jW ES TS es T)(r:Th):r∈T.map (·.1) ↔ ∃t d,∃e∈es,e.1=r/\jB e.2 t d=true:=by
 constructor
 ·intro hr;obtain ⟨e,he,rfl⟩:=zan.mp hr;obtain ⟨t,d,hl⟩:=sX (h.ok e he).1 (h.ok e he).2;exact ⟨t,d,(h.pt e.1 t d).mp ⟨e,he,rfl,hl⟩⟩
 ·rintro ⟨t,d,x⟩;obtain ⟨e,he,h1,_⟩:=(h.pt r t d).mpr x;exact zan.mpr ⟨e,he,h1⟩
theorem xK {Z β:Type}{f:Z->β}:∀{T T':List Z},T.map f=T'.map f->(∀e∈T,∀e'∈T',f e=f e'->e=e')->T=T'
 |[],[],_,_=>rfl|[],_::_,h,_=>by cases h|_::_,[],h,_=>by cases h|a::T,b::T',h,k=>by rw [zaf,zaf] at h;obtain ⟨h1,h2⟩:=List.cons_eq_cons.mp h;rw [k a zag b zag h1,xK h2 fun e he e' he'=>k e (zai _ he) e' (zai _ he')]
def xJ {T:List En}(up:Dx (T.map (·.1))){e e':En}(h1:e∈T)(h2:e'∈T)(h:e.1=e'.1):e=e':=by obtain ⟨i,hi,e1⟩:=za6 h1;obtain ⟨j,hj,e2⟩:=za6 h2;have hij:i=j:=(zbJ (xs:=T.map (·.1)) (h₀:=by simpa using hi) (h₁:=by simpa using hj) (iS up)).mp (by rw [zbz,zbz,e1,e2];exact h);subst hij;exact e1.symm.trans e2
def yI {es es' T T':List En}(h:jW ES TS es T)(h':jW ES TS es' T')(hp:∀r t d,(∃e∈es,e.1=r/\jB e.2 t d=true) ↔ (∃e∈es',e.1=r/\jB e.2 t d=true)):T=T':=by
 have hm:∀r,r∈T.map (·.1) ↔ r∈T'.map (·.1):=fun r=>by rw [xq h,xq h'];exact exists_congr fun t=>exists_congr fun d=>hp r t d
 have hrows:T.map (·.1)=T'.map (·.1):=j9 h.up h'.up ((List.perm_ext_iff_of_nodup (iS h.up) (iS h'.up)).mpr hm);refine xK hrows fun e he e' he' hr=>Prod.ext hr ?_;have:=BC (h.ok e he).1.pf (h'.ok e' he').1.pf fun t d=>by have a:jB e.2 t d=true ↔ ∃x∈T,x.1=e.1/\jB x.2 t d=true:=⟨fun q=>⟨e,he,rfl,q⟩,fun ⟨x,hx,h1,h2⟩=>by rw [xJ h.up he hx h1.symm];exact h2⟩;have b:jB e'.2 t d=true ↔ ∃x∈T',x.1=e'.1/\jB x.2 t d=true:=⟨fun q=>⟨e',he',rfl,q⟩,fun ⟨x,hx,h1,h2⟩=>by rw [xJ h'.up he' hx h1.symm];exact h2⟩;rw [h.pt] at a;rw [h'.pt,←hp,←hr] at b;exact zc2.mpr (a.trans b.symm)
 exact Prod.ext this.1 this.2
end
theorem g5:∀es:List En,flatDs (es.map bF)=true
 |[]=>rfl|e::es=>by
  have h1:dR (bF e)=true:=by
   have:=Fh e.2.1 e.2.2
   show flatDs [aQ e.1,en e.2]=true
   simp only [flatDs,dR,iZ] at this ⊢;simpa using this
  rw [zaf,flatDs,h1,g5 es];rfl
abbrev GP (ES TS:Th)(v:D):Prop:=∃p:Pl,v=en p/\BP ES TS p/\p≠vg
structure KG (ES TS:Th)(w:Nat)(kvs:List (Th×D)):Prop where
 nd:(kvs.map (·.1)).Nodup
 len:∀p∈kvs,p.1.length=w
 val:∀p∈kvs,GP ES TS p.2
theorem yZ {kvs:List (Th×D)}{k:Th}{d:D}:(nA kvs k d).map (·.1)=if k∈kvs.map (·.1) then kvs.map (·.1) else kvs.map (·.1)++[k]:=by
 unfold nA;by_cases h:k∈kvs.map (·.1)
 ·have h':(kvs.any fun p=>decide (p.1=k))=true:=by
   obtain ⟨p,hp,e⟩:=zan.mp h;exact zcP.mpr ⟨p,hp,by simpa using e⟩
  rw [if_pos h',if_pos h,zaR];refine zbE fun p _=>?_;simp only [Function.comp];split <;> rfl
 ·have h':¬ (kvs.any fun p=>decide (p.1=k))=true:=fun z=>by
   obtain ⟨p,hp,e⟩:=zcP.mp z;exact h (zan.mpr ⟨p,hp,by simpa using e⟩)
  rw [if_neg h',if_neg h,zaX];rfl
def tR {kvs:List (Th×D)}{k:Th}{d:D}{p:Th×D}(h:p∈nA kvs k d):p∈kvs\/(p.1=k/\p.2=d):=by
 unfold nA at h;split at h
 ·obtain ⟨q,hq,e⟩:=zan.mp h;split at e
  ·rename_i c;subst e;exact .inr ⟨c,rfl⟩
  ·subst e;exact .inl hq
 ·rcases za2.mp h with h|h
  ·exact .inl h
  ·rw [zaB.mp h];exact .inr ⟨rfl,rfl⟩
def Bw {kvs:List (Th×D)}{k:Th}{d:D}:(nA kvs k d).length<=kvs.length+1:=by unfold nA;split <;> simp
def KG.put {ES TS:Th}{w:Nat}{kvs:List (Th×D)}(h:KG ES TS w kvs){k:Th}{d:D}(hk:k.length=w)(hd:GP ES TS d):KG ES TS w (nA kvs k d):=by
 refine ⟨?_,fun p hp=>?_,fun p hp=>?_⟩
 ·rw [yZ];split
  ·exact h.nd
  ·rename_i c;rw [zbu];exact ⟨h.nd,by simp,fun a ha b hb=>by rw [zaB.mp hb];rintro rfl;exact c ha⟩
 ·rcases tR hp with q|q
  ·exact h.len p q
  ·rw [q.1];exact hk
 ·rcases tR hp with q|q
  ·exact h.val p q
  ·rw [q.2];exact hd
theorem Ab {kvs:List (Th×D)}{k:Th}(h:k∈kvs.map (·.1)):∃v,n6 kvs k=some v/\(k,v)∈kvs:=by
 unfold n6
 cases e:kvs.find? fun p=>decide (p.1=k) with
 |none =>
  obtain ⟨p,hp,rfl⟩:=zan.mp h;have:=zdd.mp e p hp;simp at this
 |some p =>
  have h1:=zcZ e;have h2:=zcv e;have h1:p.1=k:=by simpa using h1
  exact ⟨p.2,rfl,by rw [←h1];exact h2⟩
structure KA (ES TS:Th)(w:Nat)(T:List En):Prop where
 row:∀e∈T,e.1.length=w
 ok:∀e∈T,BP ES TS e.2/\e.2≠vg
 up:Dx (T.map (·.1))
 n:T.length<=30
def zh (bt:Bool)(ns:Th)(w:Nat)(hw:w<=3)(s:Int)(hs:0 < s){P:Int}(hpow:∀U:ac,nB (.v (.int 10)) (.v (.int 30)) U=some (.v (.int P),U))(hP0:0 < P)(hn:ns.length<=30):∃T:List En,d8 bt [.fl (ns.map .int),.int (w:Int),.int s]=some (.lst (T.map bF))/\KA (zO s) (Dr P) w T:=by
 rw [sG];push_cast [jQ,Fm];obtain ⟨st,e,h1,h2⟩:=gW (g:=aT 4) (b:=dQ bt) D.int
  (fun st:List (Th×D)×Option R×Option R=>([some (.v (.fl (ns.map .int))),aU ((w:Int)),aU s,aX 0,st.2.1,st.2.2],[ap.dt st.1]))
  (fun st rem=>KG (zO s) (Dr P) w st.1/\st.1.length+rem.length<=30) ns ([],none,none) ⟨⟨zc8,(fun _ h=>by cases h),(fun _ h=>by cases h)⟩,by simpa using hn⟩ (by
   rintro ⟨kvs,x4,x5⟩ c rem ⟨h1,h2⟩;simp only [zaD] at h2;obtain ⟨p,hp,pg⟩:=EC c s hs hpow hP0;obtain ⟨r,hr,hrl⟩:=Ik c w hw;have okn:=vW;have hq:=wA p;by_cases hz:p=vg
   ·rw [zaL hz] at hq;refine ⟨(kvs,aU c,some (.v (en p))),?_,h1,by simp only;omega⟩;push_cast [dQ,hp,xI,okn,hq]
   ·rw [zaG hz] at hq;have hk:kvs.length < 1000:=(by omega);refine ⟨(nA kvs r (en p),aU c,some (.v (en p))),?_,h1.put hrl ⟨p,rfl,pg,hz⟩,by have:=Bw (kvs:=kvs) (k:=r) (d:=en p);simp only;omega⟩;push_cast [dQ,hp,xI,okn,hq,uq,hr,zav,uL,hk])
 have e':cg (aT 4) (dQ bt) (ns.map .int) [some (.v (.fl (ns.map .int))),aU ((w:Int)),aU s,aX 0,none,none] [ap.dt []]=_:=e;rw [e'];obtain ⟨kvs,x4,x5⟩:=st;simp only [zci,Nat.add_zero] at h1 h2;have c1:kvs.length < 64/\(kvs.length < 2\/∀p∈kvs,p.1≠[]):=by
  refine ⟨by omega,?_⟩
  cases w with|succ w=>exact .inr fun p hp z=>by have:=h1.len p hp;rw [z] at this;simp at this|zero =>
   left;have nd:=h1.nd
   match kvs,h1,nd with
   |[],_,_=>simp|[_],_,_=>simp|p::q::r,h1,nd =>
    have a:=zbT (h1.len p (by simp));have b:=zbT (h1.len q (by simp));simp [a,b] at nd
 have hso:∀U:ac,yL [.p 0] (ap.dt kvs::U)=some (.p (U.length+1),ap.dt kvs::(U++[.lst ((bn (kvs.map (·.1))).map D.key)])):=fun U=>by simp only [yL,uL,zcf,zav,if_pos c1,zaD,zb9]
 obtain ⟨vf,hvf⟩:∃vf:List Int->Pl,∀k∈kvs.map (·.1),n6 kvs k=some (en (vf k))/\BP (zO s) (Dr P) (vf k)/\vf k≠vg:=by
  have h:∀k,∃p:Pl,k∈kvs.map (·.1)->n6 kvs k=some (en p)/\BP (zO s) (Dr P) p/\p≠vg:=fun k=>by
   by_cases hk:k∈kvs.map (·.1)
   ·obtain ⟨v,e1,e2⟩:=Ab hk;obtain ⟨p,rfl,hp⟩:=h1.val _ e2;exact ⟨p,fun _=>⟨e1,hp⟩⟩
   ·exact ⟨vg,fun z=>absurd z hk⟩
  exact ⟨fun k=>Classical.choose (h k),fun k=>zcX (h k)⟩
 have hmem:∀k∈bn (kvs.map (·.1)),k∈kvs.map (·.1):=fun k hk=>(bD _).mem_iff.mp hk;have hcm:∀U:ac,bv (aT 0) bY (bT (af (uC (ae 0)) (af (CD (ae 1) (ae 0)) ai))) ((bn (kvs.map (·.1))).map D.key) [none,aX 0] (ap.dt kvs::U)=some ((bn (kvs.map (·.1))).map (fun k=>bF (k,vf k)),ap.dt kvs::U):=fun U =>
  dB (rest:=[aX 0]) D.key (fun k=>bF (k,vf k)) (bn (kvs.map (·.1))) none (fun k hk=>by have:=(hvf k (hmem k hk)).1;push_cast [uC,CD,uL,zav,this])
 have hz:((bn (kvs.map (·.1))).map D.key).length<=sizeLine:=bA (by rw [zah,(bD _).length_eq];simp;omega);push_cast [hso,hz,hcm,fg];refine ⟨(bn (kvs.map (·.1))).map fun k=>(k,vf k),by rw [zaR];rfl,fun e he=>?_,fun e he=>?_,?_,?_⟩
 ·obtain ⟨k,hk,rfl⟩:=zan.mp he;obtain ⟨q,hq,e⟩:=zan.mp (hmem k hk);rw [←e];exact h1.len q hq
 ·obtain ⟨k,hk,rfl⟩:=zan.mp he;exact (hvf k (hmem k hk)).2
 ·rw [zaR,show ((fun x:En=>x.1) ∘ fun k=>(k,vf k))=id from rfl,List.map_id];exact gU h1.nd
 ·rw [zah,(bD _).length_eq,zah];exact h2
abbrev nY (wn:List Nat):D:=.tup (wn.map fun c=>.int (c:Nat))
def pk (wn:List Nat)(r:Th):Th:=wn.map fun c=>r.getD c 0
def vS (wn:List Nat)(r:Th):(pk wn r).length=wn.length:=by unfold pk;rw [zah]
abbrev xC (wn:List Nat)(e:En):En:=(pk wn e.1,e.2)
def qj {wn:List Nat}{r:Th}(h:∀c∈wn,c < r.length)(x:Option R)(U:ac):bv (aT 0) bY (aA c7 (ae 1) (ae 0)) (wn.map fun c=>.int (c:Nat)) [x,some (.v (aQ r))] U=some ((pk wn r).map .int,U):=by
 have:=dB (f:=aA c7 (ae 1) (ae 0)) (U:=U) (rest:=[some (.v (aQ r))]) (fun c:Nat=>D.int (c:Nat)) (fun c=>.int (r.getD c 0)) wn x (fun c hc=>by have c1:L2.nW (r.map D.int) (c:Int)=some (.int (r.getD c 0)):=pG (by rw [zbf,zas (h c hc)];rfl);push_cast [c1])
 unfold pk;rw [zaR];exact this
def vX {wn:List Nat}{r:Th}(h:∀c∈wn,c < r.length)(hn:wn.length<=4):cT [aQ r,nY wn]=some (.key (pk wn r)):=by rw [qS];have z1:(wn.map fun c:Nat=>D.int (c:Nat)).length<=sizeLine:=bA (by rw [zah];omega);have pc:=qj h none [];push_cast [i8,z1,pc,v9,zav]
section
variable {ES TS:Th}{w:Nat}{T:List En}
def i6 (bt:Bool)(hE:ES.length<=16)(hTS:TS.length<=22)(h:KA ES TS w T){wn:List Nat}(hn:wn.length<=4)(hw:∀c∈wn,c < w):∃T',aJ bt [.fl (T.map bF),nY wn]=some (.lst (T'.map bF))/\jW ES TS (T.map (xC wn)) T':=by
 have ho:Nw ES TS ((T.map (xC wn)).map (·.1)) wn.length (T.map (xC wn)):=⟨fun e he=>by
   obtain ⟨x,hx,rfl⟩:=zan.mp he;exact (h.ok x hx).1,fun e he=>⟨zaZ he,by
   obtain ⟨x,hx,rfl⟩:=zan.mp he;exact vS _ _⟩,by rw [zah];have:=h.n;omega⟩
 obtain ⟨T',h1,h2⟩:=AF bt hE hTS (by rw [zah,zah];have:=h.n;omega) ho;refine ⟨T',?_,h2⟩;rw [qU];have hT:=h.n;have z1:(T.map bF).length<=sizeLine:=bA (by rw [zah];omega);have cm0:=jP (c:=bY) (f:=bT (af (aR cT 2 (af (cD (ae 0)) (af (cD (ae 2)) ai))) (af (ae 1) ai))) (rest:=[some (.v (nY wn))]) (U:=[]) (fun e:En=>aQ e.1) (fun e=>en e.2) (fun _=>true) (fun e=>JL (xC wn e)) T none none (fun e he=>rfl) (fun e he _=>by have h1:=vX (wn:=wn) (r:=e.1) (fun c hc=>by rw [h.row e he];exact hw c hc) hn;push_cast [h1])
 rw [List.filter_eq_self.mpr (fun _ _=>rfl)] at cm0;have cm:bv (iF 2 (aq (aT 0) (aq (aT 1) bz))) bY (bT (af (aR cT 2 (af (cD (ae 0)) (af (cD (ae 2)) ai))) (af (ae 1) ai))) (T.map bF) (dg 2 [1] [some (.v (.fl (T.map bF))),some (.v (nY wn))]) []=some ((T.map (xC wn)).map JL,[]):=by rw [zaR];exact cm0
 have fl:=g5 T';push_cast [ja,z1,cm,h1,fl]
def KA.self (h:KA ES TS w T):jW ES TS T T:=⟨h.up,h.ok,fun e he=>zaZ he,fun _ _ _=>Iff.rfl⟩
theorem Jp {r:Th}(h:r.length=w):pk (List.range w) r=r:=by subst h;unfold pk;refine zcT (by simp) fun i h1 h2=>?_;rw [zbz,zcB,zbf,zas h2];rfl
theorem ED (h:KA ES TS w T):T.map (xC (List.range w))=T:=by
 conv=>rhs;rw [←List.map_id T]
 exact zbE fun e he=>Prod.ext (Jp (h.row e he)) rfl
def nV (d t:Int)(l:List En)(r:Th):r∈kG d t l ↔ ∃e∈l,e.1=r/\jB e.2 t d=true:=by
 unfold kG;rw [zan];constructor
 ·rintro ⟨e,he,h1⟩;obtain ⟨h2,h3⟩:=zbp.mp he;exact ⟨e,h2,h1,h3⟩
 ·rintro ⟨e,he,h1,h2⟩;exact ⟨e,zbp.mpr ⟨he,h2⟩,h1⟩
def C9 {wn:List Nat}{T':List En}(h:jW ES TS (T.map (xC wn)) T')(d t:Int):kG d t T'=bn (dd ((kG d t T).map (pk wn))):=by
 refine j9 ?_ (gU (pj _)) ((List.perm_ext_iff_of_nodup ?_ ?_).mpr fun r=>?_)
 ·exact List.Pairwise.sublist (List.Sublist.map _ zc7) h.up
 ·exact (iS h.up).sublist (List.Sublist.map _ zc7)
 ·exact (bD _).nodup_iff.mpr (pj _)
 ·rw [(bD _).mem_iff,C6,nV,h.pt,zan];constructor
  ·rintro ⟨e,he,h1,h2⟩;obtain ⟨x,hx,rfl⟩:=zan.mp he;exact ⟨x.1,(nV d t T x.1).mpr ⟨x,hx,rfl,h2⟩,h1⟩
  ·rintro ⟨k,hk,h1⟩;obtain ⟨x,hx,rfl,h2⟩:=(nV d t T k).mp hk;exact ⟨xC wn x,zaZ hx,h1,h2⟩
theorem BX (h:KA ES TS w T){T':List En}(h':jW ES TS (T.map (xC [])) T'):T'.length=min 1 T.length:=by
 have nil:∀x∈T'.map (·.1),x∈[([]:Th)]:=fun x hx=>by obtain ⟨e,he,rfl⟩:=zan.mp hx;obtain ⟨y,hy,e1⟩:=zan.mp (h'.row e he);obtain ⟨z,_,rfl⟩:=zan.mp hy;rw [←e1];exact zag
 have h1:=eE (T'.map (·.1)) [[]] (iS h'.up) nil;rw [zah] at h1
 cases T with
 |nil =>
  cases T' with|nil=>rfl|cons e T'=>have:=h'.row e zag;simp at this
 |cons e T =>
  obtain ⟨t,d,hl⟩:=sX (h.ok e zag).1 (h.ok e zag).2;obtain ⟨x,hx,_⟩:=(h'.pt [] t d).mpr ⟨xC [] e,zaZ zag,rfl,hl⟩;have:=zcL hx;simp at h1 ⊢;omega
end
theorem qF {Z:Type}{f:FE}{rest:Lo}(e out:Z->D):∀(xs:List Z) (U:ac) (x0:Option R),(∀a∈xs,∀U:ac,∃ν,f (some (.v (e a))::rest) U=some (.v (out a),U++ν))->∃ν,bv (aT 0) bY f (xs.map e) (x0::rest) U=some (xs.map out,U++ν)
 |[],U,_,_=>⟨[],by rw [zbi];rfl⟩|a::xs,U,x0,h=>by obtain ⟨ν,h1⟩:=h a zag U;obtain ⟨ν',h2⟩:=qF e out xs (U++ν) (some (.v (e a))) fun b hb=>h b (zai _ hb);refine ⟨ν++ν',?_⟩;rw [za3] at h2;simp only [zaf,bv,aT,bY,zcC,zav,if_true,h1,h2]
def CZ (bt:Bool){rows:Ta}{wn:List Nat}(hl:rows.length < 64)(hr:∀r∈rows,∀c∈wn,c < r.length)(hn:wn.length<=4):fe bt [.fl (rows.map aQ),nY wn]=some (.lst ((bn (dd (rows.map (pk wn)))).map aQ)):=by
 rw [yE];have z1:(wn.map fun c:Nat=>D.int (c:Nat)).length<=sizeLine:=bA (by rw [zah];omega);have z2:(rows.map aQ).length<=sizeLine:=bA (by rw [zah];omega);obtain ⟨ν,cm⟩:=qF (f:=dI lD (af (bH [0] 1 (ba (ae 1)) (aT 0) bY (aA c7 (ae 1) (ae 0))) ai)) (rest:=[some (.v (nY wn))]) aQ (fun r=>aQ (pk wn r)) rows [] none (fun r hx U=>by have pc:=qj (hr r hx) none U;refine ⟨[.lst ((pk wn r).map .int)],?_⟩;push_cast [z1,pc,fg])
 rw [za8] at cm;have hcomp:bH [1] 1 (ba (ae 0)) (aT 0) bY (dI lD (af (bH [0] 1 (ba (ae 1)) (aT 0) bY (aA c7 (ae 1) (ae 0))) ai)) [some (.v (.fl (rows.map aQ))),some (.v (nY wn))] []=some (.p ν.length,ν++[.lst ((rows.map (pk wn)).map aQ)]):=by rw [zaR];push_cast [z2,cm];rfl
 have fw:(rows.map (pk wn)).length < 64/\((dd (rows.map (pk wn))).length < 2\/∀k∈rows.map (pk wn),k≠[]):=by
  refine ⟨by rw [zah];exact hl,?_⟩;have hw:∀k∈rows.map (pk wn),k.length=wn.length:=fun k hk=>by obtain ⟨r,_,rfl⟩:=zan.mp hk;exact vS _ _
  by_cases z:wn.length=0
  ·refine .inl ?_;have:=eE (dd (rows.map (pk wn))) [[]] (pj _) fun x hx=>by
    have:=hw x ((C6 _ x).mp hx);rw [z] at this
    rw [zbD.mp this];exact zag
   simp at this;omega
  ·refine .inr fun k hk e=>?_;have:=hw k hk;rw [e] at this
   simp at this;omega
 have ss:LB (.p ν.length) (ν++[.lst ((rows.map (pk wn)).map aQ)])=some (.p (ν.length+1),ν++[.lst ((rows.map (pk wn)).map aQ)]++[.lst ((bn (dd (rows.map (pk wn)))).map aQ)]):=by unfold LB D0;simp only [fg,zav,kP];rw [if_pos fw];simp
 have fs:ww (bH [1] 1 (ba (ae 0)) (aT 0) bY (dI lD (af (bH [0] 1 (ba (ae 1)) (aT 0) bY (aA c7 (ae 1) (ae 0))) ai))) [some (.v (.fl (rows.map aQ))),some (.v (nY wn))] []=some (.p (ν.length+1),ν++[.lst ((rows.map (pk wn)).map aQ)]++[.lst ((bn (dd (rows.map (pk wn)))).map aQ)]):=by simp only [ww,hcomp,zav,ss]
 have lk:(ν++[ap.lst ((rows.map (pk wn)).map aQ)]++[ap.lst ((bn (dd (rows.map (pk wn)))).map aQ)])[ν.length+1]?=some (.lst ((bn (dd (rows.map (pk wn)))).map aQ)):=by simp
 push_cast [mM,Kf,fs,Fo,lk]
theorem yz (c:Int)(w:Nat)(hw:w<=3):∃wn:List Nat,dG [.int c,.int (w:Int)]=some (nY wn)/\wn.length<=4/\∀x∈wn,x < w:=by
 rw [qT];by_cases z:w=0
 ·subst z;refine ⟨[],?_,by simp,fun _ h=>nomatch h⟩;have h0:(((0:Nat):Int) == 0)=true:=rfl;push_cast [gy,h0,zbc,nY]
 ·have h0:((w:Int) == 0)=false:=by simpa using z
  obtain ⟨n,hs,hn0,hn1⟩:=iM c 6 (by decide);have b5:=de n (j:=5) (by decide);obtain ⟨m,hm⟩:∃m:Nat,(n % 5).toNat=m:=⟨_,rfl⟩;have hm4:m<=4:=by omega
  have hf:∀k:Nat,∃v:Nat,k < 5->(∃x:Int,aV [.int c,.int (60+(k:Int))]=some (.int x)/\x / 7 % (w:Int)=(v:Int))/\v < w:=fun k=>by
   by_cases hk:k < 5
   ·obtain ⟨x,hx,_,_⟩:=iM c (60+(k:Int)) (by omega);have bx:=de (x / 7) (j:=(w:Int)) (by omega);exact ⟨(x / 7 % (w:Int)).toNat,fun _=>⟨⟨x,hx,by omega⟩,by omega⟩⟩
   ·exact ⟨0,fun h=>absurd h hk⟩
  obtain ⟨f,hf⟩:∃f:Nat->Nat,∀k:Nat,k < 5->(∃x:Int,aV [.int c,.int (60+(k:Int))]=some (.int x)/\x / 7 % (w:Int)=(f k:Int))/\f k < w:=⟨fun k=>Classical.choose (hf k),fun k=>zcX (hf k)⟩;have cm:=dB (f:=aA cC (aA dh (aR aV 2 (af (cD (ae 1)) (af (cD (aA gA (fK (.int 60)) (ae 0))) ai))) (fK (.int 7))) (ae 2)) (U:=[]) (rest:=[aU c,aU ((w:Int))]) (fun k:Nat=>D.int (k:Nat)) (fun k=>.int (f k:Nat)) (List.range m) none (fun k hk=>by obtain ⟨⟨x,h1,h2⟩,_⟩:=hf k (by have:=zbl.mp hk;omega);push_cast [h1,d5 (i:=x) (j:=7) (by decide) (by decide),b7 (i:=x / 7) (j:=(w:Int)) (by omega),h2])
  refine ⟨(List.range m).map f,?_,by simp;omega,fun x hx=>?_⟩
  ·have z1:((List.range m).map fun k:Nat=>D.int (k:Nat)).length<=sizeLine:=bA (by simp;omega);push_cast [gy,h0,hs,b7 (i:=n) (j:=5) (by decide),pd (j:=n % 5) (by omega),hm,z1,cm,nY,zaR];rfl
  ·obtain ⟨k,hk,rfl⟩:=zan.mp hx;exact (hf k (by have:=zbl.mp hk;omega)).2
def AX (q:Int):∃s:Int,d9 [.int q]=some (.int s)/\0 < s:=by
 rw [sH];obtain ⟨P4,hP4,hP40⟩:∃P:Int,(∀U:ac,nB (.v (.int 10)) (.v (.int 40)) U=some (.v (.int P),U))/\0 < P:=⟨10 ^ (40:Int).toNat,fun U=>wz (by decide),Int.pow_pos (by decide)⟩;have b3:=de q (j:=3) (by decide);obtain ⟨s,hs1,hs⟩:∃x:Int,L2.nW [D.int 1,D.int 1,D.int P4] (q % 3)=some (.int x)/\0 < x:=by
  have:q % 3=0\/q % 3=1\/q % 3=2:=by omega
  rcases this with h|h|h <;> rw [h]
  ·exact ⟨1,rfl,by decide⟩
  ·exact ⟨1,rfl,by decide⟩
  ·exact ⟨P4,rfl,hP40⟩
 exact ⟨s,by push_cast [jR,hP4,b7 (i:=q) (j:=3) (by decide),hs1],hs⟩
def FF (ns:Th)(k:Nat):∃c,bZ [.fl (ns.map .int),.int (k:Int)]=some (.int c):=by
 rw [vz];by_cases h:k < ns.length
 ·have c0:decide ((k:Int) < (ns.length:Int))=true:=zaL (by omega);have c1:L2.nW (ns.map D.int) (k:Int)=some (.int ns[k]):=pG (zas h);exact ⟨ns[k],by push_cast [i9,zah,c0,c1]⟩
 ·have c0:decide ((k:Int) < (ns.length:Int))=false:=zaG (by omega);exact ⟨0,by push_cast [i9,zah,c0]⟩
def ot {a c:FS}{O O':Lo}{U U':ac}(q:a O U=some (.nx O' U')):dZ (ar a c O U)=dZ (c O' U'):=by rw [wy,q,yh]
def LZ (c:ap)(xs:List D):Prop:=c=.lst xs\/c=.fz xs
theorem CU:∀es:List En,eqDs (es.map bF) (es.map bF)=true
 |[]=>rfl|e::es=>by
  have h1:hV (en e.2) (en e.2)=true:=by have:=Hn e.2.1 e.2.1 e.2.2 e.2.2;rw [this];simp
  have h2:hV (aQ e.1) (aQ e.1)=true:=by simp only [aQ,hV,ki,decide_true]
  have h3:hV (bF e) (bF e)=true:=by
   show eqDs [aQ e.1,en e.2] [aQ e.1,en e.2]=true
   simp only [eqDs,h1,h2,zdg]
  rw [zaf]
  show (hV (bF e) (bF e) && eqDs (es.map bF) (es.map bF))=true
  rw [h3,CU es];rfl
theorem lY:∀rows:Ta,flatDs (rows.map aQ)=true
 |[]=>rfl|r::rows=>by simp only [zaf,flatDs,aQ,dR,iZ,lY rows,zdg]
def MW {U:ac}{n:Nat}{c:ap}{xs:List D}(h:U[n]?=some c)(z:LZ c xs):sR (some (.p n,U))=some (.v (.fl xs),U.set n (.fz xs)):=by
 rw [CO,h];rcases z with rfl|rfl
 ·rfl
 ·rw [Kh];have:U.set n (.fz xs)=U:=by obtain ⟨h1,h2⟩:=zau.mp h;rw [←h2];exact List.set_getElem_self h1
  rw [this]
def dS {U ν:ac}{i:Nat}{c:ap}(h:U[i]?=some c):(U++ν)[i]?=some c:=by rw [zaj (b6 h)];exact h
section
variable {bt:Bool}{ES TS:Th}{w:Nat}{T A N:List En}{wn:List Nat}
def B5 (h:KA ES TS w T)(hn:wn.length<=4)(hw:∀c∈wn,c < w)(hA:jW ES TS (T.map (xC wn)) A)(hN:jW ES TS (T.map (xC [])) N)(lA:A.length<=30)(lN:N.length<=30)
  {x0 x1 x9 x10 x11 x12 x13:Option R} {s cell:Int} {U:ac} {c:ap} (h1:U[1]?=some c) (z1:LZ c (T.map bF)) (h3:U[3]?=some (.lst (A.map bF))) (h4:U[4]?=some (.lst (N.map bF))) :
  ∃U' y9 y10 y11,lR bt [x0,x1,aU s,aX 1,some (.v (nY wn)),aX 2,aX 3,aX 4,aU cell,x9,x10,x11,x12,x13] U=some (.nx [x0,x1,aU s,aX 1,some (.v (nY wn)),aX 2,aX 3,aX 4,aU cell,y9,y10,y11,x12,x13] U') /\
   U'[1]?=some (.fz (T.map bF))/\U'[2]?=U[2]?/\U'[3]?=U[3]?/\U'[4]?=U[4]?:=by
 obtain ⟨d,t,hs⟩:=DU cell 2 s (by decide) (Ts:=T);have hT:=h.n;have a1:=v6 (es:=T) (fun e he=>(h.ok e he).1.pf) (by omega) d t;have a2:=v6 (es:=A) (fun e he=>(hA.ok e he).1.pf) (by omega) d t;have a3:=v6 (es:=N) (fun e he=>(hN.ok e he).1.pf) (by omega) d t
 have hc:(kG d t T).length<=T.length:=by rw [zah];exact zcW _ _
 have rl:∀r∈kG d t T,r.length=w:=fun r hr=>by
  obtain ⟨e,he,rfl,_⟩:=(nV d t T r).mp hr;exact h.row e he
 have d2:=CZ bt (rows:=kG d t T) (wn:=wn) (by omega) (fun r hr c hc=>by rw [rl r hr];exact hw c hc) hn;have d3:=CZ bt (rows:=kG d t T) (wn:=[]) (by omega) (fun _ _ _ h=>nomatch h) (by simp);rw [←C9 hA] at d2;rw [←C9 hN] at d3;have d3:fe bt [.fl ((kG d t T).map aQ),.tup []]=some (.lst ((kG d t N).map aQ)):=d3;generalize kG d t T=rT at a1 d2 d3;generalize kG d t A=rA at a2 d2;generalize kG d t N=rN at a3 d3;have fz:=MW h1 z1;rw [CO] at fz;have l4:=b6 h4;generalize hU1:U.set 1 (.fz (T.map bF))=U1 at fz
 have k1:U1[1]?=some (.fz (T.map bF)):=by rw [←hU1,zay (by omega)]
 have k2:U1[2]?=U[2]?:=by rw [←hU1,zak (by omega)]
 have k3:U1[3]?=some (.lst (A.map bF)):=by rw [←hU1,zak (by omega)];exact h3
 have k4:U1[4]?=some (.lst (N.map bF)):=by rw [←hU1,zak (by omega)];exact h4
 have l41:=b6 k4;have fT:=lY rT;have fA:=lY rA;have fN:=lY rN;have g3:(U1++[ap.lst (rT.map aQ)])[3]?=some (.lst (A.map bF)):=dS k3;have gr:(U1++[ap.lst (rT.map aQ)]++[ap.lst (rA.map aQ)])[U1.length]?=some (.lst (rT.map aQ)):=dS fg;have e1:(U1++[ap.lst (rT.map aQ)]++[ap.lst (rA.map aQ)]++[ap.lst (rA.map aQ)])[(U1++[ap.lst (rT.map aQ)]).length]?=some (.lst (rA.map aQ)):=dS fg;have g4:(U1++[ap.lst (rT.map aQ)]++[ap.lst (rA.map aQ)]++[ap.lst (rA.map aQ)])[4]?=some (.lst (N.map bF)):=dS (dS (dS k4));have gr2:(U1++[ap.lst (rT.map aQ)]++[ap.lst (rA.map aQ)]++[ap.lst (rA.map aQ)]++[ap.lst (rN.map aQ)])[U1.length]?=some (.lst (rT.map aQ)):=dS (dS gr);have e2:(U1++[ap.lst (rT.map aQ)]++[ap.lst (rA.map aQ)]++[ap.lst (rA.map aQ)]++[ap.lst (rN.map aQ)]++[ap.lst (rN.map aQ)])[(U1++[ap.lst (rT.map aQ)]++[ap.lst (rA.map aQ)]++[ap.lst (rA.map aQ)]).length]?=some (.lst (rN.map aQ)):=dS fg;refine ⟨U1++[ap.lst (rT.map aQ)]++[ap.lst (rA.map aQ)]++[ap.lst (rA.map aQ)]++[ap.lst (rN.map aQ)]++[ap.lst (rN.map aQ)],aU d,aU t,aX U1.length,?_,?_,?_,?_,?_⟩
 ·push_cast [lR,fz,hs,k1,a1,fT,g3,a2,fA,gr,d2,e1,fg,xH,yl,g4,a3,fN,gr2,d3,e2]
 ·exact dS (dS (dS (dS (dS k1))))
 ·rw [←k2]
  simp only [za3];rw [zaj (by omega)]
 ·rw [h3];exact dS (dS (dS (dS (dS k3))))
 ·rw [h4];exact dS (dS (dS (dS (dS k4))))
end
theorem Nj {c:ap}{xs:List D}(z:LZ c xs):Qz (some c)=some (.fl xs):=by rcases z with rfl|rfl <;> rfl
theorem HJ {x0:Option R}{rest:Lo}{U:ac}{w:Nat}(hw:w<=3):uE (ae 1) (x0::some (.v (.int (w:Int)))::rest) U=some (.v (nY (List.range w)),U):=by
 show (if -(2 ^ 62)<=(w:Int)/\(w:Int)<=2 ^ 20 then _ else _)=_
 rw [if_pos (by omega)];rfl
def CV (es:List En):hV (.fl (es.map bF)) (.fl (es.map bF))=true:=by simp only [hV,CU]
abbrev GQ (bt:Bool):FS:=(ar (aI 12 (dI mZ (af (ae 6) ai)))
  (ar (fS (uF jk (ae 6) (af (bT ai) ai)))
  (ar (aI 13 (cj (aJ bt) 2 (af (ae 5) (af (uE (ae 1)) ai))))
  (ar (ju (hJ (fB (aA (gg true) (ae 5) (ae 3))) (fB (aA (gg true) (ae 13) (ae 3))))
  (bP (fK (.bl false)))
  bG)
  (ar (fS (uF jk (ae 13) (af (bT ai) ai)))
  (bP (rV (aA (gg false) (ae 5) (ae 3)) (rV (aA (gg false) (cj (aJ bt) 2 (af (ae 5) (af (ae 4) ai))) (ae 12)) (aA (gg false) (cj (aJ bt) 2 (af (fq ai) (af (ae 4) ai))) (fq ai))))))))))
theorem yS {bt:Bool}{T A:List En}{w:Nat}{wn:List Nat}(hw:w<=3)(hT:T.length<=30)(lA:A.length<=30)
  (c1:aJ bt [.fl (T.map bF),nY wn]=some (.lst (A.map bF))) (c2:aJ bt [.fl (T.map bF),nY (List.range w)]=some (.lst (T.map bF))) (c0:aJ bt [.fl [],nY wn]=some (.lst []))
  {x0 x2 x7 x8 x9 x10 x11:Option R} {U:ac} {c:ap} (h1:U[1]?=some c) (z1:LZ c (T.map bF)) (h2:U[2]?=some (.lst (T.map bF))) (h3:U[3]?=some (.lst (A.map bF))) :
  dZ (GQ bt [x0,aU ((w:Int)),x2,aX 1,some (.v (nY wn)),aX 2,aX 3,x7,x8,x9,x10,x11,none,none] U)=some (.bl true):=by
 have fT:=g5 T;have fA:=g5 A;have v1:=Nj z1;obtain ⟨n,hn⟩:∃n,U.length=n:=⟨_,rfl⟩;have l3:=b6 h3;rw [hn] at l3;refine (ot (by push_cast [h3];rfl)).trans ?_;rw [hn];have k1:(U++[ap.lst (A.map bF)])[1]?=some c:=dS h1;have k2:(U++[ap.lst (A.map bF)])[2]?=some (.lst (T.map bF)):=dS h2;have k3:(U++[ap.lst (A.map bF)])[3]?=some (.lst (A.map bF)):=dS h3
 have kn:(U++[ap.lst (A.map bF)])[n]?=some (.lst (A.map bF)):=by rw [←hn];exact fg
 have kl:(U++[ap.lst (A.map bF)]).length=n+1:=by simp [hn]
 generalize U++[ap.lst (A.map bF)]=U1 at k1 k2 k3 kn kl;have zA:(A.map bF).length < sizeLine:=dk (by rw [zah];omega);refine (ot (by push_cast [k3,zA];rfl)).trans ?_;generalize hU2:U1.set 3 (.lst (A.map bF++[.tup []]))=U2
 have g1:U2[1]?=some c:=by rw [←hU2,zak (by omega)];exact k1
 have g2:U2[2]?=some (.lst (T.map bF)):=by rw [←hU2,zak (by omega)];exact k2
 have gn:U2[n]?=some (.lst (A.map bF)):=by rw [←hU2,zak (by omega)];exact kn
 have gl:U2.length=n+1:=by rw [←hU2,zbm];exact kl
 clear hU2 k1 k2 k3 kn kl;have tr:=fun (O:Lo) (ν:ac)=>HJ (x0:=x0) (rest:=O) (U:=ν) hw;refine (ot (by push_cast [g2,tr,c2,fT];rfl)).trans ?_;rw [gl];have i1:(U2++[ap.lst (T.map bF)])[1]?=some c:=dS g1;have i2:(U2++[ap.lst (T.map bF)])[2]?=some (.lst (T.map bF)):=dS g2;have i_n:(U2++[ap.lst (T.map bF)])[n]?=some (.lst (A.map bF)):=dS gn
 have im:(U2++[ap.lst (T.map bF)])[n+1]?=some (.lst (T.map bF)):=by rw [←gl];exact fg
 generalize U2++[ap.lst (T.map bF)]=U3 at i1 i2 i_n im;clear g1 g2 gn gl;refine (ot (by push_cast [i1,i2,im,v1,xG,CV];rfl)).trans ?_;have zT:(T.map bF).length < sizeLine:=dk (by rw [zah];omega);refine (ot (by push_cast [im,zT];rfl)).trans ?_;generalize hU4:U3.set (n+1) (.lst (T.map bF++[.tup []]))=U4
 have j1:U4[1]?=some c:=by rw [←hU4,zak (by omega)];exact i1
 have j2:U4[2]?=some (.lst (T.map bF)):=by rw [←hU4,zak (by omega)];exact i2
 have jn:(U4++[ap.lst (A.map bF)])[n]?=some (.lst (A.map bF)):=dS (by rw [←hU4,zak (by omega)];exact i_n);have o0:e8 60 (.fl [])=true:=rfl;have q0:hV (.fl []) (.fl [])=true:=rfl;have f0:flatDs []=true:=rfl;have e0:(U4++[ap.lst (A.map bF)]++[ap.lst []]++[ap.lst []]++[ap.lst []])[(U4++[ap.lst (A.map bF)]++[ap.lst []]).length]?=some (.lst []):=dS fg;push_cast [j1,j2,v1,xG,CV,c1,fA,fg,jn,c0,f0,e0,o0,q0]
def B6 (bt:Bool)(ns:Th)(hl:ns.length<=63):ua bt [.fl (ns.map .int)]=some (.bl true):=by
 rw [KW];obtain ⟨c,hc⟩:=FF ns 0;have hc':bZ [.fl (ns.map .int),.int 0]=some (.int c):=hc;have bw:=de c (j:=4) (by decide);obtain ⟨w,hw⟩:∃w:Nat,c % 4=(w:Int):=⟨(c % 4).toNat,by omega⟩;have hw3:w<=3:=by omega
 obtain ⟨s,hs1,hs⟩:=AX (c / 4);obtain ⟨P,hP,hP0⟩:∃P:Int,(∀U:ac,nB (.v (.int 10)) (.v (.int 30)) U=some (.v (.int P),U))/\0 < P:=⟨10 ^ (30:Int).toNat,fun U=>wz (by decide),Int.pow_pos (by decide)⟩;obtain ⟨ms,hms,hml⟩:∃ms:Th,pq (ns.map D.int) (some 1) (some 31)=ms.map D.int/\ms.length<=30:=by unfold pq;rw [←List.map_drop,←List.map_take];refine ⟨_,rfl,?_⟩;have h1:∀d n:Nat,HT.dl n d (some 1)=min 1 n:=fun d n=>rfl;have h2:∀d n:Nat,HT.dl n d (some 31)=min 31 n:=fun d n=>rfl;simp only [h1,h2,zah,zbK,zb5];omega
 obtain ⟨ls,hls,hll⟩:∃ls:Th,pq (ns.map D.int) none (some 63)=ls.map D.int/\ls.length<=63:=by unfold pq;rw [←List.map_drop,←List.map_take];refine ⟨_,rfl,?_⟩;have h2:∀d n:Nat,HT.dl n d (some 63)=min 63 n:=fun d n=>rfl;simp only [h2,zah,zbK,zb5];omega
 obtain ⟨T,ht,tab⟩:=zh bt ms w hw3 s hs hP hP0 hml;obtain ⟨wn,hwn,wl,wb⟩:=yz (c / 12) w hw3;have hE:(zO s).length<=16:=by rw [F3];omega
 have hTS:(Dr P).length<=22:=by rw [FU];omega
 obtain ⟨A,cA,tA⟩:=i6 bt hE hTS tab wl wb;obtain ⟨N,cN,tN⟩:=i6 bt hE hTS tab (wn:=[]) (by simp) (fun _ h=>nomatch h);have cN':aJ bt [.fl (T.map bF),.tup []]=some (.lst (N.map bF)):=cN;have cW:aJ bt [.fl (T.map bF),nY (List.range w)]=some (.lst (T.map bF)):=by obtain ⟨T',h1,h2⟩:=i6 bt hE hTS tab (wn:=List.range w) (by simp;omega) (fun x hx=>zbl.mp hx);rw [ED tab] at h2;rw [h1,yI h2 tab.self fun _ _ _=>Iff.rfl]
 have c0:aJ bt [.fl [],nY wn]=some (.lst []):=by
  obtain ⟨T',h1,h2⟩:=i6 bt hE hTS (T:=[]) (w:=w) (wn:=wn) ⟨(fun _ h=>nomatch h),(fun _ h=>nomatch h),.nil,by simp⟩ wl wb;have:T'=[]:=by
   cases T' with|nil=>rfl|cons e T'=>have:=h2.row e zag;simp at this
  rw [this] at h1;exact h1
 have tn:=tab.n;have rl:∀{wn:List Nat} {X:List En},jW (zO s) (Dr P) (T.map (xC wn)) X->X.length<=30/\∀e∈X,e.1.length=wn.length:=fun {wn X} h=>by
  have h1:=eE (X.map (·.1)) ((T.map (xC wn)).map (·.1)) (iS h.up) fun x hx=>by obtain ⟨e,he,rfl⟩:=zan.mp hx;exact h.row e he
  rw [zah,zah,zah] at h1;refine ⟨by omega,fun e he=>?_⟩;obtain ⟨y,hy,e1⟩:=zan.mp (h.row e he);obtain ⟨z,_,rfl⟩:=zan.mp hy;rw [←e1];exact vS _ _
 have iA:=uj bt hE hTS (w:=wn.length) wl (by have:=(rl tA).1;omega) tA.ok (rl tA).2 tA.up;have iN:bC bt [.fl (N.map bF),.int 0]=some (.bl true):=uj bt hE hTS (w:=0) (by omega) (by have:=(rl tN).1;omega) tN.ok (rl tN).2 tN.up;have nl:=BX tab tN;have hmin:∀U:ac,t9 [.v (.int 1),.v (.int (T.length:Int))] U=some (.v (.int (N.length:Int)),U):=fun U=>by
  rw [nl];by_cases z:T.length < 1
  ·have:T.length=0:=by omega
   simp [t9,this]
  ·have:¬ (T.length:Int) < 1:=by omega
   simp only [t9,this,if_false];rw [show min 1 T.length=1 by omega];rfl
 have hd:∀U:ac,cC (.v (.int c)) (.v (.int 4)) U=some (.v (.int (w:Int)),U):=fun U=>by rw [b7 (by decide),hw]
 have hq:∀U:ac,dh (.v (.int c)) (.v (.int 4)) U=some (.v (.int (c / 4)),U):=fun U=>d5 (by decide) (by decide);have hq2:∀U:ac,dh (.v (.int c)) (.v (.int 12)) U=some (.v (.int (c / 12)),U):=fun U=>d5 (by decide) (by decide);obtain ⟨⟨U,x8,x9,x10,x11⟩,e,cH,hH,hcH,h2,h3,h4⟩:=gW (g:=aT 8) (b:=lR bt) D.int
  (fun st:ac×Option R×Option R×Option R×Option R=>([some (.v (.fl (ns.map .int))),aU ((w:Int)),aU s,aX 1,some (.v (nY wn)),aX 2,aX 3,aX 4,st.2.1,st.2.2.1,st.2.2.2.1,st.2.2.2.2,none,none],st.1))
  (fun st _=>∃cH,st.1[1]?=some cH/\LZ cH (T.map bF)/\st.1[2]?=some (.lst (T.map bF))/\st.1[3]?=some (.lst (A.map bF))/\st.1[4]?=some (.lst (N.map bF))) (0::ls) ([ap.lst (ms.map .int),.lst (T.map bF),.lst (T.map bF),.lst (A.map bF),.lst (N.map bF),.lst [.int 0],.lst (ls.map .int),.fz (.int 0::ls.map .int)],none,none,none,none) ⟨_,rfl,.inl rfl,rfl,rfl,rfl⟩ (by rintro ⟨U,x8,x9,x10,x11⟩ cell rem ⟨cH,hH,hcH,h2,h3,h4⟩;obtain ⟨U',y9,y10,y11,q,a1,a2,a3,a4⟩:=B5 (bt:=bt) tab wl wb tA tN (rl tA).1 (rl tN).1 (x0:=some (.v (.fl (ns.map .int)))) (x1:=some (.v (.int (w:Int)))) (x9:=x9) (x10:=x10) (x11:=x11) (x12:=none) (x13:=none) (s:=s) (cell:=cell) hH hcH h3 h4;refine ⟨(U',aU cell,y9,y10,y11),?_,_,a1,.inr rfl,a2.trans h2,a3.trans h3,a4.trans h4⟩;rw [ph,zB];exact q)
 have rt:=yS (bt:=bt) hw3 tn (rl tA).1 cA cW c0 (x0:=some (.v (.fl (ns.map .int)))) (x2:=some (.v (.int s))) (x7:=some (.p 4)) (x8:=x8) (x9:=x9) (x10:=x10) (x11:=x11) hH hcH h2 h3;have flT:=g5 T;have flA:=g5 A;have flN:=g5 N;have wll:((wn.map fun c:Nat=>D.int (c:Nat)).length:Int)=(wn.length:Int):=by rw [zah]
 have z1:1+ls.length<=sizeLine:=bA (by omega);have hstart:Dk bt [some (.v (.fl (ns.map .int))),none,none,none,none,none,none,none,none,none,none,none,none,none] []=GQ bt [some (.v (.fl (ns.map .int))),aU ((w:Int)),aU s,aX 1,some (.v (nY wn)),aX 2,aX 3,aX 4,x8,x9,x10,x11,none,none] U:=by
  have:∀X:FS,(ar (aI 1 (aA cC (aR bZ 2 (af (cD (ae 0)) (af (fK (.int 0)) ai))) (fK (.int 4))))
  (ar (aI 2 (aR d9 1 (af (cD (aA dh (aR bZ 2 (af (cD (ae 0)) (af (fK (.int 0)) ai))) (fK (.int 4)))) ai)))
  (ar (aI 3 (cj (d8 bt) 3 (af (Kd (ae 0) (kK (fK (.int 1))) (kK (fK (.int 31)))) (af (ae 1) (af (ae 2) ai)))))
  (ar (aI 4 (aR dG 2 (af (cD (aA dh (aR bZ 2 (af (cD (ae 0)) (af (fK (.int 0)) ai))) (fK (.int 12)))) (af (cD (ae 1)) ai))))
  (ar (aI 5 (dI mZ (af (ae 3) ai)))
  (ar (aI 6 (cj (aJ bt) 2 (af (ae 5) (af (ae 4) ai))))
  (ar (ju (hJ (fB (aA (gg true) (ae 5) (ae 3))) (d6 (fm (jO (bC bt) 2 (af (ae 6) (af (dI eU (af (ae 4) ai)) ai))))))
  (bP (fK (.bl false)))
  bG)
  (ar (aI 7 (cj (aJ bt) 2 (af (ae 5) (af (bT ai) ai))))
  (ar (ju (hJ (d6 (fm (jO (bC bt) 2 (af (ae 7) (af (fK (.int 0)) ai))))) (fB (aA (gg true) (dI eU (af (ae 7) ai)) (dI t9 (af (fK (.int 1)) (af (dI eU (af (ae 3) ai)) ai))))))
  (bP (fK (.bl false)))
  bG)
  (ar (dF (ba (aA gA (fq (af (fK (.int 0)) ai)) (Kd (ae 0) t4 (kK (fK (.int 63)))))) (aT 8)
  (lR bt)) X)))))))))) [some (.v (.fl (ns.map .int))),none,none,none,none,none,none,none,none,none,none,none,none,none] []=X [some (.v (.fl (ns.map .int))),aU ((w:Int)),aU s,aX 1,some (.v (nY wn)),aX 2,aX 3,aX 4,x8,x9,x10,x11,none,none] U:=fun X=>by simp only [zaf] at e;push_cast [hc',hd,hq,hs1,hms,ht,flT,hq2,hwn,cA,flA,xG,CV,wll,iA,dR,cN',flN,iN,hmin,zah,zca,DR,hls,z1,e]
  exact this _
 rw [hstart];exact rt
end LW
structure PySem.W.Fast:Prop where
 (tw9876143934636827240 tw17095698578322282389 tw14744303905595840312 tw1215721475241938669 tw5111600749318539793 tw15686965599237084087 tw1151304398496303953 tw11979541802825062802 tw11160691110920408372 tw9510914954081558962 tw8234736202047249465 tw11615282504355528930 tw6997562328329872325 tw857401055966078369 tw11884131511126546694 tw10945920746456238731 tw1614425426855683205 tw15664115026542465194 tw13188672472121469606 tw15352327156432925528 tw2955317933674667770 tw7248294826050891546 tw5912110296261143717 tw2709828011423099020 tw16734721980795482656 tw3527166120837642597 tw1006136466852598232 tw5064305139802624017 tw12067650367518191307 tw11700942590421877931 tw2856621580825122308 tw10900911897100514013 tw1770621775737812783 tw4036749975160194079 tw14923355524886702875 tw15567847923974477642 tw6608226313292820781 tw18111435984341209352 tw5212362395321581760 tw6560035123671384036 tw3804095224012321517 tw17081591758979561300 tw15886526787141038370 tw4025007775197814738 tw509824207396526270 tw7604578875990336592 tw14254595725252117416 tw7974351762868721278 tw16649843142886253444 tw17750645040354761343 tw8056348587979303366 tw15505219381799342923 tw3955117470302488638 tw4495987483277906836 tw17573281997291679450 tw15381980775226215938 tw8500806132154837890 tw354343573184521268 tw5946158035677300854 tw2496507782810065969 tw3937510423256176054 tw12009505282987478590 tw16359833897726690117 tw16753037179369695632 tw6995235325418460317 tw18176278893284567797 tw2688541851299274032 tw1461836578168499219 tw14175994949782929068 tw8456246933429581133 tw8182389958661238837 tw3516281872663891339 tw14688796890249076373 tw6733715341371342312 tw14174575801323067400 tw4615498469764834256 tw7311360520319948326 tw11058175769251043311 tw16402894801400921886 tw10309215395835477755 tw14738598103098090153 tw10776333143346969298 tw3951562762071986744 tw14469323036771841427 tw9298217190630758484 tw13072787811975467569 tw284105820274349779 tw4139290730484664673 tw12662521229842008925 tw6120976538187674364 tw1235460770892410950 tw11407775560195952638 tw5681967394464133975 tw7262716487501147229 tw13984943887325967438 tw18093737689776826110 tw10693812616255152828 tw5589194464279811110 tw8611190521071256761 tw18196998560191985785 tw18071348364917209684 tw899320621642232581 tw12080046598846777756 tw2652345503644037097 tw524964710553911081 tw8509524889572881994 tw10607900073155605574 tw13483576405423441236 tw6490705808382752548 tw5512762780701674718 tw7100753921004983410 tw3864749917145209960:True)
open PySem.W PyProof.Rows
set_option maxRecDepth 100000 in
set_option maxHeartbeats 0 in
theorem PySem.Challenge.cw_heldwhen_k22_columns_holds : PySem.Challenge.rw_heldwhen_k22_columns.Holds := by
 w_on; o_law; k_head; (case hw => w_witness2)
 k_fill
 refine L2.zZ (l := PySem.Challenge.rw_heldwhen_k22_columns) (n := 63) (k := 7) (x := "script") (CX := L2.nr) (sp := fun K => (fun vs H Q E => ∀ b, HW.DD K 1 (LW.ua b) vs H Q E)) rfl (by decide) rfl ⟨rfl, by decide, by decide⟩ (fun w h Yz => PySem.W.kIn_of Yz) ?F (fun K H a ns hl hO hS => fun b => HW.JK hO hS (LW.B6 b ns hl)) fun _ _ _ _ z => z
 case F =>
  intro w mg fa h KX G hmg
  refine' LW.Kv KX G hmg ?a0 ?a1 ?a2 ?a3 ?a4 ?a5 ?a6 ?a7 ?a8 ?a9 ?a10 ?a11 ?a12 ?a13 ?a14 ?a15 ?a16 ?a17 ?a18 ?a19 ?a20 ?a21 ?a22 ?a23 ?a24 ?a25 ?a26 ?Jae ?Jaf ?Jac ?Jal ?Jam ?Jag ?Jah ?Jad ?z0 ?z1 ?z2 ?z3 ?z4 ?z5 ?z6 ?z7 ?z8 ?z9 ?z10 ?z11 ?z12 ?z13 ?z14
  (case a0 | a1 | a2 | a3 | a4 | a5 | a6 | a7 | a8 | a9 | a10 | a11 | a12 | a13 | a14 | a15 | a16 | a17 | a18 | a19 | a20 | a21 | a22 | a23 | a24 | a25 | a26 => exact ⟨_, by k_is, _, _, _, _, _, _, _, _, _, by k_is, by k_is, by k_is⟩)
  (case Jae | Jaf | Jac | Jal | Jam | Jag | Jah | Jad | z0 | z1 | z2 | z3 | z4 | z5 | z6 | z7 | z8 | z9 | z10 | z11 | z12 | z13 | z14 => k_is)
