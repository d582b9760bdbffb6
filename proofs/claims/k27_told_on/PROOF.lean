import PyProof.Rows.All
import Wide.All
import OpenK.AllK
import Wide.FinOn
import Lean
import PyProof.EqAt
import PyProof.EqKinds
import PyProof.TupleCall
import PyProof.IsiH_tuple
import PyProof.NsDelKeeps
import PyProof.FString4
import PyProof.ExcBaseAll.ValueError
import PyProof.ForAny
import KE.KIsAll
import KE.KSortTup
import KE.KLam
import KE.KNestM
import PyProof.StrWalks
import PyProof.SliceStr2
import PyProof.StrBlockI
import KE.KIntText
import PyProof.StrCalls2
import PyProof.StrLawsTight
import PyProof.Rows.FStrParts
import PyProof.Rows.StrInSeq3
import PyProof.TupleKey
import PyProof.IsRules
import PyProof.SumWalkG
import PyProof.EnumFor
import PyProof.EnumStmt
import PyProof.EnumMake
import PyProof.StrBlock2
import PyProof.ZipIter
import PyProof.ListNew
import PyProof.DictIter
import PyProof.DictFindH
import PyProof.ListRange
import PyProof.TupleOfGen
import PySem.Challenge.RW_heldwhen_k27_told_on
local macro_rules | `(tactic| exists $t) => `(tactic| with_unfolding_all exact $t)
set_option Elab.async false
set_option linter.all false
set_option maxRecDepth 100000
noncomputable section
namespace Y0
open PySem PySem.Spec PyProof.Rows
def zaa:=@wpAny_bind
def zab:=@Option.bind_eq_some_iff
abbrev zac:=PySem.W.Frag
def zad:=@wpAny_pure
def zae:=@Heap.get?_push_of_some
def zaf:=@List.length_map
def zag:=@List.map_cons
def zah:=@Heap.lt_size
def zai:=@List.mem_cons_self
def zaj:=@List.mem_cons_of_mem
def zak:=@List.mem_cons
def zal:=@Heap.get?_push_size
def zam:=@Nat.le_refl
def zan:=@Nat.ne_of_lt
def zao:=@Array.getElem?_eq_getElem
def zap:=@Bool.false_eq_true
def zaq:=@List.getElem?_append_left
def zar:=@List.getElem?_eq_getElem
def zas:=@List.mem_map
def zat:=@List.mem_singleton
def zau:=@wpAny_setState_of
def zav:=@decide_eq_false
def zaw:=@List.getElem?_eq_some_iff
def zax:=@Option.bind_some
def zay:=@Heap.get?_update_other
def zaz:=@List.size_toArray
def zaA:=@decide_eq_true
def zaB:=@Nat.lt_of_lt_of_le
def zaC:=@List.mem_append_right
def zaD:=@Array.length_toList
def zaE:=@wpAny_holding
def zaF:=@Option.map_eq_some_iff
def zaG:=@List.getElem?_map
def zaH:=@wpAny_call_entry
def zaI:=@List.not_mem_nil
def zaJ:=@wpAny_newObj_type
def zaK:=@List.length_cons
def zaL:=@List.mem_append
def zaM:=@List.pairwise_cons
def zaN:=@Array.getD_eq_getD_getElem?
def zaO:=@List.getElem?_set_ne
def zaP:=@List.nodup_cons
def zaQ:=@List.map_append
def zaR:=@Nat.lt_irrefl
def zaS:=@Array.getElem?_toList
def zaT:=@List.getElem?_append_right
def zaU:=@codeAny_builtin
def zaV:=@Around.under_plainId
def zaW:=@List.length_append
def zaX:=@Heap.size_push
def zaY:=@Nat.ne_of_gt
def zaZ:=@List.mem_of_getElem?
def za0:=@List.foldl_cons
def za1:=@Bool.false_ne_true
def za2:=@List.getD_eq_getElem?_getD
def za3:=@sizeLine_eq
def za4:=@Heap.get?_update_self
def za5:=@wpAny_callSpecial?_slot
def za6:=@List.map_nil
def za7:=@List.map_map
def za8:=@PySem.W.mg_none_of
def za9:=@Nat.zero_le
def zba:=@Array.getElem?_eq_some_iff
def zbb:=@List.nodup_append
def zbc:=@List.pairwise_iff_getElem
def zbd:=@List.mem_filter
def zbe:=@Nat.lt_succ_of_lt
def zbf:=@Bool.not_true
def zbg:=@codeAny_mono
def zbh:=@List.getElem?_set_self
def zbi:=@List.drop_eq_getElem_cons
def zbj:=@List.mem_map_of_mem
def zbk:=@plainId_quiet
def zbl:=@wpAny_fieldsOf
def zbm:=@List.append_nil
def zbn:=@PySem.W.kia_one
def zbo:=@List.mem_append_left
def zbp:=@Bool.and_eq_true
def zbq:=@Array.getElem_toList
def zbr:=@wpAny_askSetting
def zbs:=@wpAny_typeOf
def zbt:=@List.getElem_of_mem
def zbu:=@Option.map_some
def zbv:=@List.length_take
def zbw:=@wpAny_isInstance
def zbx:=@Option.getD_some
def zby:=@List.mem_range
def zbz:=@wpAny_mono
def zbA:=@Array.mem_toList_iff
def zbB:=@Int.toNat_natCast
def zbC:=@List.pairwise_map
def zbD:=@List.append_assoc
def zbE:=@List.nil_append
def zbF:=@Nat.le_trans
def zbG:=@List.any_cons
def zbH:=@List.lookup_cons
def zbI:=@wpAny_setField
def zbJ:=@Bool.not_false
def zbK:=@Nat.le_of_lt
def zbL:=@List.length_nil
def zbM:=@codeAny_call_builtin
def zbN:=@List.filterMap_cons_some
def zbO:=@wpAny_typeNameOfWhole_itemiter
def zbP:=@wpAny_dictEntries
def zbQ:=@wpAny_attempt
def zbR:=@List.eq_nil_of_length_eq_zero
def zbS:=@wpAny_typeNameOfWhole_keyiter
def zbT:=@List.pairwise_singleton
def zbU:=@List.filter_cons_of_pos
def zbV:=@List.getElem_mem
def zbW:=@List.cons_append
def zbX:=@List.filter_cons
def zbY:=@wpAny_rule
def zbZ:=@Nat.le_succ
def zb0:=@codeAny_of_tree
def zb1:=@builtinLookup_eq_fast
def zb2:=@wpAny_truthy_bool
def zb3:=@wpAny_pyIter_list
def zb4:=@wpAny_typeNameOf_itemiter
def zb5:=@List.getElem_inj
def zb6:=@List.length_drop
def zb7:=@Nat.lt_trans
def zb8:=@Nat.lt_or_ge
def zb9:=@Nat.lt_succ_self
def zca:=@List.getElem_map
def zcb:=@wpAny_typeNameOf_keyiter
def zcc:=@List.filterMap_cons
def zcd:=@Int.toNat_of_nonneg
def zce:=@List.length_eq_zero_iff
def zcf:=@List.filter_cons_of_neg
def zcg:=@List.find?_cons
def zch:=@Around.under_plain
def zci:=@Int.emod_lt_of_pos
def zcj:=@wpAny_dictEpoch
def zck:=@wpAny_setField_rec
def zcl:=@PySem.W.cellsFrom_some
def zcm:=@Array.getElem?_eq_none
def zcn:=@wpAny_isOneOf_itemiter
def zco:=@List.filter_eq_nil_iff
def zcp:=@wpAny_pyIter_slot
def zcq:=@List.nodup_nil
def zcr:=@wpAny_seqItems
def zcs:=@List.getElem?_eq_none
def zct:=@Nat.zero_add
def zcu:=@List.pairwise_append
def zcv:=@List.mem_iff_getElem
def zcw:=@wpAny_field
def zcx:=@List.length_pos_iff
def zcy:=@List.map_congr_left
def zcz:=@wpAny_specialOf
def zcA:=@wpAny_passesOwn
def zcB:=@typeLookup_type
def zcC:=@Int.emod_nonneg
def zcD:=@Option.isSome_iff_exists
def zcE:=@Option.isSome_some
def zcF:=@Nat.lt_or_eq_of_le
def zcG:=@List.filterMap_cons_none
def zcH:=@wpAny_runValue
def zcI:=@Nat.mod_lt
def zcJ:=@Array.size_map
def zcK:=@List.getElem?_replicate
def zcL:=@List.getElem?_cons_zero
def zcM:=@Array.toList_push
def zcN:=@Nat.lt_trichotomy
def zcO:=@List.drop_of_length_le
def zcP:=@Array.toList_filterMap
def zcQ:=@List.find?_cons_of_pos
def zcR:=@List.find?_cons_of_neg
def zcS:=@wpAny_newList
def zcT:=@PySem.W.mg_of
def zcU:=@Bool.and_true
def zcV:=@List.any_eq_true
def zcW:=@wpAny_forIn_list
def zcX:=@Nat.le_add_right
def zcY:=@wpAny_notOrdered_dict
def zcZ:=@wpAny_isOneOf_keyiter
def zc0:=@Array.mem_of_getElem?
def zc1:=@wpAny_call
def zc2:=@wpAny_updateSeq
def zc3:=@List.any_map
def zc4:=@List.map_eq_cons_iff
def zc5:=@List.mem_of_mem_take
def zc6:=@List.filter_eq_self
def zc7:=@List.filter_sublist
def zc8:=@Bool.false_and
def zc9:=@Array.getElem?_setIfInBounds
def zda:=@wpAny_of_eq
def zdb:=@List.mem_filterMap
def zdc:=@wpAny_Call_Name_kw
def zdd:=@List.find?_eq_none
def zde:=@List.getElem_range
def zdf:=@List.set_cons_zero
def zdg:=@Int.mul_lt_mul_of_pos_right
def zdh:=@Bool.and_self
def zdi:=@List.map_take
def zdj:=@PySem.W.kitx_list
def zdk:=@List.foldl_append
def zdl:=@List.nodup_range
def zdm:=@List.drop_length
def zdn:=@Heap.size_update
def zdo:=@beq_self_eq_true
def zdp:=@List.ext_getElem
def zdq:=@wpAny_execs_nil
def zdr:=@List.of_mem_zip
def zds:=@List.find?_some
def zdt:=@Bool.decide_and
def zdu:=@Int.le_refl
def zdv:=@Int.pow_pos
end Y0
open Y0
namespace Y1
open PySem
abbrev Ta:=List (List Int)
abbrev Tb:=Value->Shared->Prop
abbrev Tc:=List (Addr×Obj)
abbrev Td:=Str->Option Value
abbrev Te:=List Value
abbrev Tf:=List Addr
abbrev Tg:=Option Value
abbrev Th:=List Int
abbrev Ti:=Array Value
abbrev Tj:=List Expr
abbrev Tk:=List Stmt
abbrev Tn:=List Str
end Y1
open Y1
namespace L2
open PySem PySem.Spec PyProof.Rows
section
variable  {prog:Program}{w:World}{A:Around}{E:Tb}{s:Shared}
theorem kR {Q:Int->Shared->Prop}(h:Q 0xFCA86420 {s with toks:=s.toks+1}):wpAny (model prog w) A (pyHash .none) Q E s:=by
 have hT:s.TypeIs .none "NoneType":=rfl
 show wpAny _ _ (pyHashByItsType .none) _ _ s
 unfold pyHashByItsType;refine zaa (wpAny_cRoomFor_byValue rfl ?_);refine zaa (zcz hT F.slot_NoneType_hash.lookup ?_);rw [if_neg (by decide)];refine zaa (zcz hT F.slot_NoneType_hash.lookup ?_);rw [if_neg (by decide)]
 show wpAny _ _ (callSpecialIfBoundUnlessNone? .none "__hash__" _ >>= _) Q E s
 refine zaa (wpAny_callSpecialIfBoundUnlessNone?_slot hT F.slot_NoneType_hash
  (zaH F.slot_NoneType_hash hT F.entry_NoneType_hash
   (show wpAny _ _ (do ret (←mkInt 0xFCA86420)) _ _ s from wpAny_ret_mkInt ?_) (F.args_NoneType_hash_1 _)))
 show wpAny _ _ (if (decide (-(2:Int) ^ 63<=0xFCA86420) && decide ((0xFCA86420:Int) < 2 ^ 63))=true then _ else _) Q E _
 rw [if_pos (by decide)];exact zad h
theorem kS {Q:Bool->Shared->Prop}(h:Q true s):wpAny (model prog w) A (eqBool .none .none) Q E s:=by
 unfold eqBool;refine zaE ?_;rw [if_pos (by decide)];exact zaa (zbY (zad h))
end
abbrev aV:=Sum Int (Option Str)
def mE:aV->Value->Bool
 |.inl k,v=>Value.isInt k v
 |.inr (some x),v=>Value.isStrOf x v
 |.inr none,v=>v == .none
def MA (w:World):aV->Int
 |.inl k=>hashInt k
 |.inr (some x)=>hashStr w x
 |.inr none=>0xFCA86420
theorem bx:∀{k:aV} {v:Value},mE k v=true->(∃i t,k=Sum.inl i/\v=Value.int i t)\/(∃x t,k=Sum.inr (some x)/\v=Value.str x t)\/(k=Sum.inr none/\v=Value.none)
 |.inl i,v,h=>by
  obtain ⟨t,e⟩:=Value.isInt_shape (k:=i) (v:=v) h;exact .inl ⟨i,t,rfl,e⟩
 |.inr (some x),v,h=>by
  obtain ⟨t,e⟩:=Value.isStrOf_shape (x:=x) (v:=v) h;exact .inr (.inl ⟨x,t,rfl,e⟩)
 |.inr none,v,h=>.inr (.inr ⟨rfl,eq_of_beq h⟩)
theorem ym (i:Int)(t:Tok):mE (.inl i) (.int i t)=true:=by simp [mE,Value.isInt]
theorem yk (x:Str)(t:Tok):mE (.inr (some x)) (.str x t)=true:=by simp [mE,Value.isStrOf]
theorem yl:mE (.inr none) .none=true:=by simp [mE]
theorem Hn (a b:Int):decide ((Sum.inl a:aV)=Sum.inl b)=(a == b):=by
 by_cases e:a=b
 ·subst e;simp
 ·have h:¬ (Sum.inl a:aV)=Sum.inl b:=fun q=>e (Sum.inl.inj q)
  rw [zav h];exact (beq_eq_false_iff_ne.mpr e).symm
theorem Hm (a b:Str):decide ((Sum.inr (some a):aV)=Sum.inr (some b))=decide (a=b):=by
 by_cases e:a=b
 ·subst e;simp
 ·have h:¬ (Sum.inr (some a):aV)=Sum.inr (some b):=fun q=>e (Option.some.inj (Sum.inr.inj q))
  rw [zav h,zav e]
def bz (prog:Program)(w:World):PySem.KeyKind prog w aV where
 is:=mE
 hash:=MA w
 inj:=fun v a b ha hb=>by
  rcases bx ha with ⟨i,t,rfl,rfl⟩|⟨x,t,rfl,rfl⟩|⟨rfl,rfl⟩
  ·rcases bx hb with ⟨j,u,rfl,e⟩|⟨y,u,rfl,e⟩|⟨rfl,e⟩
   ·injection e with e1 _;rw [e1]
   ·exact nomatch e
   ·exact nomatch e
  ·rcases bx hb with ⟨j,u,rfl,e⟩|⟨y,u,rfl,e⟩|⟨rfl,e⟩
   ·exact nomatch e
   ·injection e with e1 _;rw [e1]
   ·exact nomatch e
  ·rcases bx hb with ⟨j,u,rfl,e⟩|⟨y,u,rfl,e⟩|⟨rfl,e⟩
   ·exact nomatch e
   ·exact nomatch e
   ·rfl
 byValue:=fun k v h=>by
  rcases bx h with ⟨i,t,rfl,rfl⟩|⟨x,t,rfl,rfl⟩|⟨rfl,rfl⟩ <;> rfl
 pyHash:=fun hv h=>by
  rcases bx hv with ⟨i,t,rfl,rfl⟩|⟨x,t,rfl,rfl⟩|⟨rfl,rfl⟩
  ·exact wpAny_pyHash_int h
  ·exact wpAny_pyHash_str h
  ·exact kR h
 eqBool:=fun hu hv h=>by
  rcases bx hu with ⟨i,t,rfl,rfl⟩|⟨x,t,rfl,rfl⟩|⟨rfl,rfl⟩
  ·rcases bx hv with ⟨j,u,rfl,rfl⟩|⟨y,u,rfl,rfl⟩|⟨rfl,rfl⟩
   ·rw [Hn] at h;exact wpAny_eqBool_int h
   ·exact SeqAt.EqAt.int_str i t y u _ _ _ _ (by simpa using h)
   ·exact SeqAt.EqAt.int_none i t _ _ _ _ (by simpa using h)
  ·rcases bx hv with ⟨j,u,rfl,rfl⟩|⟨y,u,rfl,rfl⟩|⟨rfl,rfl⟩
   ·exact SeqAt.EqAt.str_int x t j u _ _ _ _ (by simpa using h)
   ·rw [Hm] at h;exact wpAny_eqBool_str h
   ·exact SeqAt.EqAt.str_none x t _ _ _ _ (by simpa using h)
  ·rcases bx hv with ⟨j,u,rfl,rfl⟩|⟨y,u,rfl,rfl⟩|⟨rfl,rfl⟩
   ·exact SeqAt.EqAt.none_int j u _ _ _ _ (by simpa using h)
   ·exact SeqAt.EqAt.none_str y u _ _ _ _ (by simpa using h)
   ·exact kS (by simpa using h)
 «strs»:=fun k x t v h=>by
  rcases bx h with ⟨i,u,rfl,e⟩|⟨y,u,rfl,e⟩|⟨rfl,e⟩
  ·exact nomatch e
  ·injection e with e1 _
   subst e1;cases v <;> rfl
  ·exact nomatch e
theorem sZ (prog:Program)(w:World)(i:Int)(t:Tok):(bz prog w).is (.inl i) (.int i t)=true:=ym i t
theorem sY (prog:Program)(w:World)(x:Str)(t:Tok):(bz prog w).is (.inr (some x)) (.str x t)=true:=yk x t
inductive V where
 |non|bl (b:Bool)|int (i:Int)|str (x:Str)|byt (b:Array UInt8)|flt (b:UInt64)|ref (a:Addr)|ty (n:String)
 deriving DecidableEq
def aY:V->Value->Prop
 |.non,u=>u=Value.none
 |.bl b,u=>u=Value.bool b
 |.int i,u=>∃t,u=Value.int i t
 |.str x,u=>∃t,u=Value.str x t
 |.byt b,u=>∃t,u=Value.bytes b t
 |.flt b,u=>∃t,u=Value.float b t
 |.ref a,u=>u=Value.ref a
 |.ty n,u=>u=Value.type n
abbrev aW:List V->List Value->Prop:=Paired aY
theorem aW.length {xs:List V}{us:Te}(r:aW xs us):xs.length=us.length:=Paired.length r
theorem aW.get:∀{xs:List V} {us:Te} {i:Nat} {x:V},aW xs us->xs[i]?=some x->∃u,us[i]?=some u/\aY x u
 |_,_,_,_,.nil,e=>by simp at e
 |_,_,0,_,.cons r _,e=>by simp at e;subst e;exact ⟨_,rfl,r⟩
 |_,_,i+1,x,.cons _ t,e=>by
  obtain ⟨u,h1,h2⟩:=aW.get (i:=i) (x:=x) t (by simpa using e);exact ⟨u,by simpa using h1,h2⟩
theorem aW.append:∀{xs ys:List V} {us ws:Te},aW xs us->aW ys ws->aW (xs++ys) (us++ws)
 |_,_,_,_,.nil,s=>s
 |_,_,_,_,.cons r t,s=>.cons r (aW.append t s)
theorem aW.take:∀{xs:List V} {us:Te} (n:Nat),aW xs us->aW (xs.take n) (us.take n)
 |_,_,0,_=>.nil
 |_,_,_+1,.nil=>.nil
 |_,_,n+1,.cons r t=>.cons r (aW.take n t)
theorem aW.drop:∀{xs:List V} {us:Te} (n:Nat),aW xs us->aW (xs.drop n) (us.drop n)
 |_,_,0,r=>r
 |_,_,_+1,.nil=>.nil
 |_,_,n+1,.cons _ t=>aW.drop n t
def pB:Option V->Option Value->Prop
 |some v,some u=>aY v u
 |none,none=>True
 |_,_=>False
def KV {κ:Type}:List (κ×V)->List (κ×Value)->Prop:=Paired fun (p:κ×V) (q:κ×Value)=>p.1=q.1/\aY p.2 q.2
def kV:aV->V
 |.inl i=>.int i
 |.inr (some x)=>.str x
 |.inr none=>.non
inductive HO where
 |lst (xs:List V)
 |tup (xs:List V)
 |dK (kvs:List (aV×V))|dT (kvs:List (List aV×V))
 |set (S:Int->Bool) (n:Nat)
 |ins (C dx:Addr) (fs:List (Str×V))
 |own (x:Addr)
 |xd (fs:List (Str×V))
 |met (f x:Addr)
 |rng (lo hi:Int)
 |frz (o:Obj) (u:HO)
 |tbl (ps:Ti)
 |ext (φ:Heap->Prop)
abbrev Hp:=Addr->Option HO
def upd (H:Hp)(a:Addr)(o:HO):Hp:=fun b=>if b=a then some o else H b
theorem bD {H:Hp}{a:Addr}{o:HO}:upd H a o a=some o:=by unfold upd;rw [if_pos rfl]
theorem au {H:Hp}{a b:Addr}{o:HO}(h:b≠a):upd H a o b=H b:=by unfold upd;rw [if_neg h]
theorem Fi {H:Hp}{a b:Addr}{o u:HO}(h:H a=some o)(h':H b=some u)(d:o≠u):a≠b:=by
 intro e;subst e;rw [h] at h';exact d (Option.some.inj h')
theorem fS {H:Hp}{a b:Addr}{o:HO}(h:H a=some o)(h':H b=none):a≠b:=by
 intro e;subst e;rw [h] at h';cases h'
def jB (h:Heap)(a:Addr)(items:Ti):Prop:=IsTup h a items/\∀o,h.get? a=some o->o.dict=none
theorem jB.new (h:Heap)(items:Ti):jB (h.push {cls:=.type "tuple",data:=.seq items}) h.objs.size items:=⟨IsTup.new _ _,fun o e=>by rw [zal _ rfl] at e;cases e;rfl⟩
section
variable  (P:Program)(w:World)
def bm (H:Hp)(h:Heap)(a:Addr):HO->Prop
 |.lst xs=>xs.length<=sizeLine/\∃(its:Te) (n:Nat),aW xs its/\h.get? a=some {cls:=.type "list",data:=.seq its.toArray n}
 |.tup xs=>xs.length<=sizeLine/\∃its:Te,aW xs its/\jB h a its.toArray
 |.dK kvs=>kvs.length<=sizeLine/\(a == sysModules)=false/\∃vs,KV kvs vs/\h.DictOf (bz P w) a vs
 |.dT kvs=>kvs.length<=sizeLine/\(a == sysModules)=false/\∃xs:List (List aV×Addr×Value),
   Paired (fun (p:List aV×V) (q:List aV×Addr×Value)=>p.1=q.1/\H q.2.1=some (.tup (p.1.map kV))/\aY p.2 q.2.2) kvs xs /\
   ∃o es ep,h.get? a=some o/\o.ExactDict/\o.data=.dict es ep/\es.toList=xs.map (entryOfKey (tupleKind (bz P w)))/\(xs.map (·.1)).Nodup
 |.set S n=>h.SetOf (intKind P w) a S n
 |.ins C dx fs=>H dx=some (.own a)/\fs.length<=1000/\dx≠a/\h.get? a=some (PySem.W.instObj C dx) /\
   ∃mA,h.Ns1 dx mA/\(∀f,pB (fs.lookup f) (mA f))/\PySem.Within mA (fs.map (·.1))
 |.own _=>∃o,h.get? a=some o
 |.xd fs=>∃mA,h.Ns1 a mA/\∀f,pB (fs.lookup f) (mA f)
 |.rng lo hi=>∃t u v,h.get? a=some {cls:=.type "range",data:=.fields #[.int lo t,.int hi u,.int 1 v]}
 |.frz o u=>h.get? a=some o/\bm H h a u
 |.tbl ps=>h.get? a=some {cls:=.none,data:=.fields ps}
 |.met f x=>h.get? a=some (PySem.W.methodObj (.ref f) (.ref x))
 |.ext φ=>φ h/\(∃o,h.get? a=some o)/\∀h1 h2:Heap,φ h1->(∀o,h1.get? a=some o->h2.get? a=some o)->φ h2
def g9 (H:Hp)(h:Heap):Prop:=∀a o,H a=some o->bm P w H h a o
end
section
variable  {P:Program}{w:World}{H H':Hp}{h h':Heap}{a:Addr}{o:HO}
theorem bm.lt (x:bm P w H h a o):a < h.objs.size:=by
 cases o with
 |lst xs=>obtain ⟨_,_,_,_,e⟩:=x;exact zah e
 |tup xs=>obtain ⟨_,_,_,p⟩:=x;exact p.1.lt
 |dK kvs=>obtain ⟨_,_,_,_,o,_,_,e,_⟩:=x;exact zah e
 |dT kvs=>obtain ⟨_,_,_,_,o,_,_,e,_⟩:=x;exact zah e
 |set S n=>obtain ⟨o,_,_,_,e,_⟩:=x;exact zah e
 |ins C dx fs=>obtain ⟨_,_,_,e,_⟩:=x;exact zah e
 |own y=>obtain ⟨_,e⟩:=x;exact zah e
 |xd fs=>obtain ⟨_,⟨_,_,_,e,_⟩,_⟩:=x;exact zah e
 |rng lo hi=>obtain ⟨_,_,_,e⟩:=x;exact zah e
 |frz ob u=>obtain ⟨e,_⟩:=x;exact zah e
 |tbl ps=>exact zah (show h.get? a=some _ from x)
 |met f y=>exact zah (show h.get? a=some _ from x)
 |ext φ=>obtain ⟨_,⟨_,e⟩,_⟩:=x;exact zah e
theorem Paired.mapP {α β:Type}{F G:α->β->Prop}{l₁:List α}{l₂:List β}(h:Paired F l₁ l₂)(f:∀a b,F a b->G a b):Paired G l₁ l₂:=by
 induction h with
 |nil=>exact .nil
 |cons r t ih=>exact .cons (f _ _ r) ih
theorem bm.stay (x:bm P w H h a o)(k:∀b u,(b=a\/H b=some (.own a))->h.get? b=some u->h'.get? b=some u)
  (ho:∀b,H b=some (.own a)->H' b=some (.own a)) (ht:∀b xs,H b=some (.tup xs)->H' b=some (.tup xs)):bm P w H' h' a o:=by
 induction o with
 |lst xs=>obtain ⟨z,its,n,r,e⟩:=x;exact ⟨z,its,n,r,k _ _ (.inl rfl) e⟩
 |tup xs=>obtain ⟨z,its,r,⟨ob,e,c⟩,dn⟩:=x;exact ⟨z,its,r,⟨ob,k _ _ (.inl rfl) e,c⟩,fun o q=>by rw [k _ _ (.inl rfl) e] at q;cases q;exact dn _ e⟩
 |dK kvs=>obtain ⟨z,y,vs,r,ob,es,ep,e,c⟩:=x;exact ⟨z,y,vs,r,ob,es,ep,k _ _ (.inl rfl) e,c⟩
 |dT kvs =>
  obtain ⟨z,y,xs,r,ob,es,ep,e,c⟩:=x;exact ⟨z,y,xs,Paired.mapP r fun p q z=>⟨z.1,ht _ _ z.2.1,z.2.2⟩,ob,es,ep,k _ _ (.inl rfl) e,c⟩
 |set S n=>obtain ⟨ob,es,ep,t,e,c⟩:=x;exact ⟨ob,es,ep,t,k _ _ (.inl rfl) e,c⟩
 |ins C dx fs =>
  obtain ⟨d,z,ne,e,mA,⟨od,es,ep,e2,c⟩,r⟩:=x;exact ⟨ho _ d,z,ne,k _ _ (.inl rfl) e,mA,⟨od,es,ep,k _ _ (.inr d) e2,c⟩,r⟩
 |own y=>obtain ⟨ob,e⟩:=x;exact ⟨ob,k _ _ (.inl rfl) e⟩
 |xd fs=>obtain ⟨mA,⟨od,es,ep,e,c⟩,r⟩:=x;exact ⟨mA,⟨od,es,ep,k _ _ (.inl rfl) e,c⟩,r⟩
 |rng lo hi=>obtain ⟨t,u,v,e⟩:=x;exact ⟨t,u,v,k _ _ (.inl rfl) e⟩
 |frz ob u ih=>obtain ⟨e,q⟩:=x;exact ⟨k _ _ (.inl rfl) e,ih q⟩
 |tbl ps =>
  have e:h.get? a=some {cls:=.none,data:=.fields ps}:=x
  show h'.get? a=some {cls:=.none,data:=.fields ps}
  exact k a _ (.inl rfl) e
 |met f y =>
  have e:h.get? a=some (PySem.W.methodObj (.ref f) (.ref y)):=x
  show h'.get? a=some (PySem.W.methodObj (.ref f) (.ref y))
  exact k a _ (.inl rfl) e
 |ext φ=>obtain ⟨p,⟨o,e⟩,st⟩:=x;exact ⟨st _ _ p fun o q=>k _ _ (.inl rfl) q,⟨o,k _ _ (.inl rfl) e⟩,st⟩
theorem g9.lt (x:g9 P w H h)(e:H a=some o):a < h.objs.size:=(x a o e).lt
theorem g9.fresh (x:g9 P w H h)(e:h.objs.size<=a):H a=none:=by
 cases q:H a with
 |none=>rfl
 |some u=>exact absurd (zaB (x.lt q) e) (zaR _)
theorem g9.kept (x:g9 P w H h)(k:∀b u,h.get? b=some u->h'.get? b=some u):g9 P w H h':=fun a o e =>
 (x a o e).stay (fun b u _ q=>k b u q) (fun _ q=>q) fun _ _ q=>q
theorem g9.laid (x:g9 P w H h)(k:∀b u,h.get? b=some u->h'.get? b=some u)(hp:h.objs.size<=a)(new:bm P w (upd H a o) h' a o):g9 P w (upd H a o) h':=fun b u e=>by
 have hn:=x.fresh hp
 by_cases hb:b=a
 ·subst hb;rw [bD] at e;cases e;exact new
 ·rw [au hb] at e
  exact (x b u e).stay (fun c v _ q=>k c v q) (fun c q=>by rw [au (fS q hn)];exact q) fun c xs q=>by rw [au (fS q hn)];exact q
end
def Rd (H:Hp)(a:Addr)(u:HO):Prop:=H a=some u\/∃o,H a=some (.frz o u)
theorem Rd.ok {P:Program}{w:World}{H:Hp}{h:Heap}{a:Addr}{u:HO}(r:Rd H a u)(x:g9 P w H h):bm P w H h a u:=by
 rcases r with r|⟨o,r⟩
 ·exact x a u r
 ·obtain ⟨_,q⟩:=x a _ r
  exact q
def Lk:Option HO->Prop
 |some (.lst _)=>True
 |some (.dK _)=>True
 |some (.dT _)=>True
 |some (.set _ _)=>True
 |some (.ins _ _ _)=>True
 |some (.ext _)=>True
 |_=>False
section
variable  {P:Program}{w:World}{H:Hp}{h h':Heap}{x e:Addr}{o':HO}
theorem g9.write (ok:g9 P w H h)(mu:Lk (H x))(he:e=x\/H e=some (.own x))(k:∀b u,b≠e->h.get? b=some u->h'.get? b=some u)(heo:∃u,h'.get? e=some u)
  (new:bm P w (upd H x o') h' x o'):g9 P w (upd H x o') h':=fun b u q=>by
 have nown:∀c y,H c=some (.own y)->c≠x:=fun c y r z=>by subst z;rw [r] at mu;exact mu
 have ntup:∀c xs,H c=some (.tup xs)->c≠x:=fun c xs r z=>by subst z;rw [r] at mu;exact mu
 by_cases hb:b=x
 ·subst hb;rw [bD] at q;cases q;exact new
 ·rw [au hb] at q
  by_cases hbe:b=e
  ·have q':H b=some (.own x):=by
    rcases he with z|z
    ·exact absurd (hbe.trans z) hb
    ·rw [hbe];exact z
   rw [q] at q';cases q';obtain ⟨v,hv⟩:=heo;exact ⟨v,by rw [hbe];exact hv⟩
  ·refine (ok b u q).stay (fun c v hc r=>k c v ?_ r) (fun c r=>by rw [au (nown c b r)];exact r) fun c xs r=>by rw [au (ntup c xs r)];exact r
   rcases hc with rfl|hc
   ·exact hbe
   ·rintro rfl
    rcases he with z|z
    ·exact nown c b hc z
    ·rw [hc] at z;cases z;exact hb rfl
end
structure Un (fs ex:Tf)(H H':Hp)(h h':Heap):Prop where
 keep:∀b o,h.get? b=some o->H b=none->b∉fs->b∉ex->h'.get? b=some o
 slot:∀b o,h.get? b=some o->H b=none->b∈fs->b∉ex->∃sl,h'.get? b=some {o with slots:=sl}
 free:∀b o,h.get? b=some o->H b=none->b∉ex->H' b=none
 there:∀b o,h.get? b=some o->b∉ex->∃o',h'.get? b=some o'
 tups:∀b xs,H b=some (.tup xs)->H' b=some (.tup xs)
 frzs:∀b o u,H b=some (.frz o u)->H' b=some (.frz o u)
 tbls:∀b ps,H b=some (.tbl ps)->∃more,H' b=some (.tbl (ps++more))
section
variable  {fs fs' ex ex':Tf}{H H1 H2:Hp}{h h1 h2 h':Heap}{a x e:Addr}{o:HO}
theorem Un.any (u:Un fs ex H H1 h h1){b:Addr}{ob:Obj}(q:h.get? b=some ob)(n:H b=none)(hx:b∉ex):∃sl,h1.get? b=some {ob with slots:=sl}:=by
 by_cases hb:b∈fs
 ·exact u.slot b ob q n hb hx
 ·exact ⟨ob.slots,u.keep b ob q n hb hx⟩
theorem Un.kept (k:∀b u,h.get? b=some u->h'.get? b=some u):Un fs ex H H h h' :=
 ⟨fun b ob q _ _ _=>k b ob q,fun b ob q _ _ _=>⟨ob.slots,k b ob q⟩,fun _ _ _ n _=>n,fun b ob q _=>⟨ob,k b ob q⟩,fun _ _ q=>q,fun _ _ _ q=>q,fun _ ps q=>⟨#[],by rw [q];simp⟩⟩
theorem Un.refl:Un fs ex H H h h:=Un.kept fun _ _ q=>q
theorem Un.laid (k:∀b u,h.get? b=some u->h'.get? b=some u)(hp:h.objs.size<=a)(hn:H a=none):Un fs ex H (upd H a o) h h' where
 keep:=fun b u q _ _ _=>k b u q
 slot:=fun b u q _ _ _=>⟨u.slots,k b u q⟩
 free:=fun b u q n _=>by rw [au (zan (zaB (zah q) hp))];exact n
 there:=fun b u q _=>⟨u,k b u q⟩
 tups:=fun b xs q=>by rw [au (fS q hn)];exact q
 frzs:=fun b u xs q=>by rw [au (fS q hn)];exact q
 tbls:=fun b ps q=>⟨#[],by rw [au (fS q hn),q];simp⟩
theorem Un.write (mu:Lk (H x))(he:e=x\/H e=some (.own x))(k:∀b u,b≠e->h.get? b=some u->h'.get? b=some u)(heo:∃u,h'.get? e=some u):Un fs ex H (upd H x o) h h':=by
 have hx:∀b,H b=none->b≠x:=fun b n z=>by subst z;rw [n] at mu;exact mu
 have hb:∀b,H b=none->b≠e:=fun b n z=>by
  subst z;rcases he with r|r
  ·exact hx b n r
  ·rw [n] at r;cases r
 have hm:∀b u,H b=some u->¬ Lk (some u)->b≠x:=fun b u q nm z=>by subst z;rw [q] at mu;exact nm mu
 refine ⟨fun b u q n _ _=>k b u (hb b n) q,fun b u q n _ _=>⟨u.slots,k b u (hb b n) q⟩,fun b u q n _=>by rw [au (hx b n)];exact n,fun b u q _=>?_,
  fun b xs q=>by rw [au (hm b _ q fun z=>z)];exact q,fun b u xs q=>by rw [au (hm b _ q fun z=>z)];exact q,fun b ps q=>⟨#[],by rw [au (hm b _ q fun z=>z),q];simp⟩⟩
 by_cases hbe:b=e
 ·subst hbe;exact heo
 ·exact ⟨u,k b u hbe q⟩
end
def Lq (h:Heap)(H:Hp):Tf:=(List.range h.objs.size).filter fun a=>(H a).isSome
def qU (h:Heap)(H:Hp):Heap:=PySem.W.hideAll h (Lq h H)
theorem yw (h:Heap)(H:Hp):(qU h H).objs.size=h.objs.size:=PySem.W.hideAll_size _ _
theorem Bn {h:Heap}{H:Hp}{b:Addr}{o:Obj}(e:h.get? b=some o)(n:H b=none):(qU h H).get? b=some o :=
 PySem.W.hideAll_get _ e fun hm=>by
  have q:(H b).isSome=true:=(zbd.mp hm).2;rw [n] at q;simp at q
theorem Dx {h:Heap}{H:Hp}{b:Addr}{o:Obj}(e:(qU h H).get? b=some o):h.get? b=some o/\H b=none:=by
 have e':h.get? b=some o:=PySem.W.of_hideAll (Lq h H) e;refine ⟨e',?_⟩
 cases q:H b with
 |none=>rfl
 |some x =>
  have hm:b∈Lq h H:=zbd.mpr ⟨zby.mpr (zah e'),by simp [q]⟩;have z:(qU h H).get? b=none:=PySem.W.hideAll_none (Lq h H) hm;rw [z] at e;cases e
def Ee (g h:Heap)(L:Addr):Tc:=(List.range h.objs.size).filterMap fun a=>if a=L\/(g.get? a).isSome=true then none else (h.get? a).map fun o=>(a,o)
def rest (g h:Heap)(L d:Addr):Tc:=(Ee g h L).filter fun p=>decide (p.1≠d)
structure Mod (K:zac)(mg:Td)(base:Heap):Prop where
 kin:K.In base
 glob:base.Ns mainGlobals mg
 blt:∃mb,base.Ns builtinsNs mb/\∀x:Str,x≠"__name__"->mb x=bootBuiltins x
 nolimit:base.NoLimit
structure Cx where
 prog:Program
 w:World
 K:zac
 mg:Td
 base:Heap
 A:Around
 N:Tn
 s₀:Shared
 H₀:Hp
 env:Env
 outer:List Env
 stack:List Env
 ex:Tf
 fn:Str->Bool
 calm:Bool
 pn:Tc
 xe:Tb
def yy (l:List Env):Tf:=l.filterMap (·.frame)
abbrev Cx.fs (X:Cx):Tf:=yy X.outer
def Mb (sc:Scope)(x:Str):Prop:=sc.names.lookup x=some .local\/sc.names.lookup x=some .cell\/sc.names.lookup x=some .free
def Ep (sc:Scope)(x:Str):Prop:=sc.names.lookup x=some .local\/sc.names.lookup x=some .cell
def NW (env:Env)(h:Heap)(m:Td)(x:Str)(u:Value):Prop :=
 (env.kindOf x=some .local/\m x=some u)\/((env.kindOf x=some .cell\/env.kindOf x=some .free)/\∃c,env.cells.lookup x=some c/\h.IsCell c (some u))
structure Cx.Ok (X:Cx):Prop where
 mod:Mod X.K X.mg X.base
 kind:X.env.scope.kind=.function
 glob:X.env.globals=mainGlobals
 blt:X.env.builtins=builtinsNs
 above:X.s₀.heap.objs.size<=X.env.locals
 inj:∀x y c,X.env.cells.lookup x=some c->X.env.cells.lookup y=some c->x=y
 has:∀x,(X.env.kindOf x=some .cell\/X.env.kindOf x=some .free)->∃c,X.env.cells.lookup x=some c
 cab:∀x c,X.fn x=true->X.env.cells.lookup x=some c->X.s₀.heap.objs.size<=c
 hd:X.calm=true->X.A.handled=none
 frames:X.A.frames=some X.stack
 stk:X.stack=X.outer\/(X.stack=X.env::X.outer/\X.env.frame=some X.env.locals)
 exf:∀b∈X.ex,b≠X.env.locals/\∀x c,X.env.cells.lookup x=some c->c≠b
 bs:∀b o,X.base.get? b=some o->X.s₀.heap.get? b=some o/\X.H₀ b=none
 bsz:X.base.objs.size<=X.s₀.heap.objs.size
 noex:∀b o,X.base.get? b=some o->b∉X.ex
 exfs:∀b∈X.ex,b∉X.fs
 funs:X.s₀.heap.FunFrames X.base X.outer
 frf:∀b∈X.fs,X.H₀ b=none
structure aA (X:Cx)(pins:Tc)(σ:List (Option V))(H:Hp)(s:Shared):Prop where
 ok:X.Ok
 os:s.os=X.s₀.os
 bare:AllBare s.gens
 base:Un X.fs X.ex X.H₀ H X.s₀.heap s.heap
 loc:∃m,s.heap.Ns X.env.locals m/\∀(i:Nat) (x:Str) (v:V),X.N[i]?=some x->σ[i]?=some (some v)->Mb X.env.scope x->∃u,aY v u/\NW X.env s.heap m x u
 cell:∀x c,X.env.cells.lookup x=some c->∃v,s.heap.IsCell c v
 free:H X.env.locals=none
 freeC:∀x c,X.env.cells.lookup x=some c->H c=none
 pin:∀p∈X.pn++pins,s.heap.get? p.1=some p.2/\H p.1=none/\p.1≠X.env.locals/\p.1∉X.fs/\∀v,p.2.data≠.cell v
 hok:g9 X.prog X.w H s.heap
 len:σ.length=X.N.length
section
variable  {X:Cx}{pins:Tc}{σ:List (Option V)}{H H':Hp}{s:Shared}{h':Heap}
theorem Cx.Ok.nofr (ok:X.Ok){b:Addr}{o:Obj}(e:X.base.get? b=some o):b∉X.fs:=fun hb=>by
 have:=(ok.funs.mem hb).1;rw [e] at this;cases this
theorem aA.bs (I:aA X pins σ H s):∀b o,X.base.get? b=some o->s.heap.get? b=some o/\H b=none:=fun b o e =>
 ⟨I.base.keep b o (I.ok.bs b o e).1 (I.ok.bs b o e).2 (I.ok.nofr e) (I.ok.noex b o e),I.base.free b o (I.ok.bs b o e).1 (I.ok.bs b o e).2 (I.ok.noex b o e)⟩
theorem aA.bk (I:aA X pins σ H s):∀b o,X.base.get? b=some o->s.heap.get? b=some o:=fun b o e=>(I.bs b o e).1
theorem aA.mod (I:aA X pins σ H s):Mod X.K X.mg X.base:=I.ok.mod
theorem aA.kIn (I:aA X pins σ H s):X.K.In s.heap:=I.ok.mod.kin.keeps I.bk
theorem aA.lt (I:aA X pins σ H s):X.env.locals < s.heap.objs.size:=let ⟨_,hn,_⟩:=I.loc;hn.lt
theorem aA.sz (I:aA X pins σ H s):X.s₀.heap.objs.size<=s.heap.objs.size:=zbF I.ok.above (zbK I.lt)
theorem aA.nofs (I:aA X pins σ H s){a:Addr}(h:s.heap.objs.size<=a):a∉X.fs:=fun hb=>by
 obtain ⟨_,o,ho,_⟩:=I.ok.funs.mem hb;exact absurd (zaB (zah ho) (zbF I.sz h)) (zaR _)
theorem aA.cne (I:aA X pins σ H s):∀x c,X.env.cells.lookup x=some c->c≠X.env.locals:=fun x c e z=>by
 obtain ⟨v,o,ho,hd⟩:=I.cell x c e;obtain ⟨m,⟨o',es,ep,ho',hd',_⟩,_⟩:=I.loc;rw [z,ho'] at ho;cases ho;rw [hd'] at hd;cases hd
theorem aA.funs (I:aA X pins σ H s):s.heap.FunFrames X.base X.outer:=by
 have all:∀(l:List Env),(∀b∈yy l,b∈X.fs)->X.s₀.heap.FunFrames X.base l->s.heap.FunFrames X.base l:=by
  intro l
  induction l with
  |nil=>intro _ _;trivial
  |cons env r ih =>
   intro hs hl;obtain ⟨hk,⟨L,o,hf,hn,ho,hd⟩,hr⟩:=hl;have hL:L∈X.fs:=hs L (by unfold yy;rw [zcc,hf];exact zai);obtain ⟨sl,e⟩:=I.base.slot L o ho (I.ok.frf L hL) hL fun z=>I.ok.exfs L z hL;exact ⟨hk,⟨L,_,hf,hn,e,hd⟩,ih (fun b hb=>hs b (by unfold yy;rw [zcc,hf];exact zaj _ hb)) hr⟩
 exact all X.outer (fun _ hb=>hb) I.ok.funs
theorem aA.stack (I:aA X pins σ H s):s.heap.FunFrames X.base X.stack:=by
 rcases I.ok.stk with e|⟨e,hf⟩
 ·rw [e];exact I.funs
 ·rw [e]
  obtain ⟨m,hn,_⟩:=I.loc;refine .cons (by rw [I.ok.kind];decide) hf hn ?_ I.funs;exact Heap.get?_none_of_le (zbF I.ok.bsz I.ok.above)
theorem aA.stkSub (I:aA X pins σ H s):∀b∈yy X.stack,b∈X.env.locals::X.fs:=fun b hb=>by
 rcases I.ok.stk with e|⟨e,hf⟩
 ·rw [e] at hb;exact zaj _ hb
 ·rw [e] at hb
  unfold yy at hb;rw [zcc,hf] at hb;exact hb
theorem aA.stkFree (I:aA X pins σ H s):∀b∈yy X.stack,H b=none:=fun b hb=>by
 rcases zak.mp (I.stkSub b hb) with e|hb
 ·rw [e];exact I.free
 ·obtain ⟨_,o,ho,_⟩:=I.ok.funs.mem hb
  exact I.base.free b o ho (I.ok.frf b hb) fun z=>I.ok.exfs b z hb
theorem aA.step {g':Array GenState}{t':Nat}{d':Drawn}{ch:Tf}(I:aA X pins σ H s)
  (hch:∀b∈ch,(b∈X.ex\/X.s₀.heap.objs.size<=b)/\b≠X.env.locals/\(∀x c,X.env.cells.lookup x=some c->c≠b)/\∀p∈X.pn++pins,p.1≠b)
  (keep:∀b o,b≠X.env.locals->b∉X.fs->b∉ch->s.heap.get? b=some o->H b=none->h'.get? b=some o)
  (slot:∀b o,b≠X.env.locals->b∈X.fs->b∉ch->s.heap.get? b=some o->H b=none->∃sl,h'.get? b=some {o with slots:=sl}) (free:∀b o,b∉ch->s.heap.get? b=some o->H b=none->H' b=none)
  (there:∀b o,b∉ch->s.heap.get? b=some o->∃o',h'.get? b=some o')
  (tups:∀b xs,H b=some (.tup xs)->H' b=some (.tup xs)) (frzs:∀b o u,H b=some (.frz o u)->H' b=some (.frz o u)) (tbls:∀b ps,H b=some (.tbl ps)->∃more,H' b=some (.tbl (ps++more)))
  (ns:∀m,s.heap.Ns X.env.locals m->h'.Ns X.env.locals m) (hok:g9 X.prog X.w H' h') (hg:AllBare g') :
  aA X pins σ H' {s with heap:=h',gens:=g',drawn:=d',toks:=t'}:=by
 have neL:∀b o,X.s₀.heap.get? b=some o->b≠X.env.locals:=fun b o e=>zan (zaB (zah e) I.ok.above)
 have neC:∀b o,X.s₀.heap.get? b=some o->b∉X.ex->b∉ch:=fun b o e hx hb=>by
  rcases (hch b hb).1 with z|z
  ·exact hx z
  ·exact absurd (zaB (zah e) z) (zaR _)
 have cellK:∀x c,X.env.cells.lookup x=some c->∀v,s.heap.IsCell c v->h'.IsCell c v:=fun x c e v ⟨o,ho,hd⟩=>by
  have nch:c∉ch:=fun z=>(hch c z).2.2.1 x c e rfl
  by_cases hc:c∈X.fs
  ·obtain ⟨sl,q⟩:=slot c o (I.cne x c e) hc nch ho (I.freeC x c e)
   exact ⟨_,q,hd⟩
  ·exact ⟨o,keep c o (I.cne x c e) hc nch ho (I.freeC x c e),hd⟩
 refine ⟨I.ok,I.os,hg,⟨fun b o e n hb hx=>?_,fun b o e n hb hx=>?_,fun b o e n hx=>?_,fun b o e hx=>?_,fun b xs e=>tups b xs (I.base.tups b xs e),fun b o xs e=>frzs b o xs (I.base.frzs b o xs e),fun b ps e=>?_⟩,?_,fun x c e=>?_,?_,fun x c e=>?_,fun p hp=>?_,hok,I.len⟩
 ·exact keep b o (neL b o e) hb (neC b o e hx) (I.base.keep b o e n hb hx) (I.base.free b o e n hx)
 ·obtain ⟨sl,e1⟩:=I.base.slot b o e n hb hx
  obtain ⟨sl',e2⟩:=slot b _ (neL b o e) hb (neC b o e hx) e1 (I.base.free b o e n hx);exact ⟨sl',e2⟩
 ·obtain ⟨o',e1⟩:=I.base.there b o e hx
  exact free b o' (neC b o e hx) e1 (I.base.free b o e n hx)
 ·obtain ⟨o',e1⟩:=I.base.there b o e hx
  exact there b o' (neC b o e hx) e1
 ·obtain ⟨m1,e1⟩:=I.base.tbls b ps e
  obtain ⟨m2,e2⟩:=tbls b _ e1;exact ⟨m1++m2,by rw [e2,Array.append_assoc]⟩
 ·obtain ⟨m,hn,hl⟩:=I.loc
  refine ⟨m,ns m hn,fun i x v e1 e2 e3=>?_⟩;obtain ⟨u,r,l⟩:=hl i x v e1 e2 e3;refine ⟨u,r,?_⟩;rcases l with l|⟨k,c,e,z⟩
  ·exact .inl l
  ·exact .inr ⟨k,c,e,cellK x c e _ z⟩
 ·obtain ⟨v,z⟩:=I.cell x c e
  exact ⟨v,cellK x c e v z⟩
 ·obtain ⟨m,⟨o,_,_,ho,_⟩,_⟩:=I.loc
  exact free _ o (fun z=>(hch _ z).2.1 rfl) ho I.free
 ·obtain ⟨v,o,ho,hd⟩:=I.cell x c e
  exact free c o (fun z=>(hch c z).2.2.1 x c e rfl) ho (I.freeC x c e)
 ·obtain ⟨e,n,ne,nf,d⟩:=I.pin p hp
  have nch:p.1∉ch:=fun z=>(hch p.1 z).2.2.2 p hp rfl;exact ⟨keep p.1 p.2 ne nf nch e n,free p.1 p.2 nch e n,ne,nf,d⟩
theorem aA.un {t':Nat}(I:aA X pins σ H s)(u:Un X.fs [] H H' s.heap h')(hok:g9 X.prog X.w H' h'):aA X pins σ H' {s with heap:=h',toks:=t'}:=by
 obtain ⟨m,⟨o,es,ep,ho,r⟩,_⟩:=id I.loc;obtain ⟨sl,hL⟩:=u.any ho I.free (by simp)
 exact I.step (g':=s.gens) (d':=s.drawn) (ch:=[]) (fun _ z=>nomatch z) (fun b o _ hb _ e n=>u.keep b o e n hb (by simp)) (fun b o _ hb _ e n=>u.slot b o e n hb (by simp)) (fun b o _ e n=>u.free b o e n (by simp)) (fun b o _ e=>u.there b o e (by simp)) u.tups u.frzs u.tbls (fun m' hm=>by
  obtain ⟨o',es',ep',ho',r'⟩:=hm;rw [ho] at ho';cases ho'
  exact ⟨_,es',ep',hL,r'⟩) hok I.bare
theorem aA.call {g':Array GenState}{t':Nat}{d':Drawn}{ch:Tf}(I:aA X pins σ H s)(u:Un (yy X.stack) ch H H' s.heap h')(hok:g9 X.prog X.w H' h')(hg:AllBare g')
  (hch:∀b∈ch,(b∈X.ex\/X.s₀.heap.objs.size<=b)/\b≠X.env.locals/\(∀x c,X.env.cells.lookup x=some c->c≠b)/\∀p∈X.pn++pins,p.1≠b) :
  aA X pins σ H' {s with heap:=h',gens:=g',drawn:=d',toks:=t'}:=by
 obtain ⟨m,⟨o,es,ep,ho,r⟩,_⟩:=id I.loc;obtain ⟨sl,hL⟩:=u.any ho I.free fun z=>(hch _ z).2.1 rfl
 exact I.step (ch:=ch) hch (fun b o hL hb hc e n=>u.keep b o e n (fun z=>(zak.mp (I.stkSub b z)).elim hL hb) hc) (fun b o _ _ hc e n=>u.any e n hc) (fun b o hc e n=>u.free b o e n hc) (fun b o hc e=>u.there b o e hc) u.tups u.frzs u.tbls (fun m' hm=>by
  obtain ⟨o',es',ep',ho',r'⟩:=hm;rw [ho] at ho';cases ho'
  exact ⟨_,es',ep',hL,r'⟩) hok hg
theorem aA.turned {t':Nat}{it:Addr}(I:aA X pins σ H s)(k:∀b o,b≠it->s.heap.get? b=some o->h'.get? b=some o)(hn:H it=none)(hL:it≠X.env.locals)
  (h1:it∈X.ex\/X.s₀.heap.objs.size<=it) (h2:∀x c,X.env.cells.lookup x=some c->c≠it) (h3:∀p∈X.pn++pins,p.1≠it):aA X pins σ H {s with heap:=h',toks:=t'}:=by
 have nit:∀b u,H b=some u->b≠it:=fun b u e z=>by rw [z,hn] at e;cases e
 refine I.step (g':=s.gens) (d':=s.drawn) (ch:=[it]) (fun b hb=>?_) (fun b o _ _ hc e _=>k b o (fun z=>hc (by simp [z])) e) (fun b o _ _ hc e _=>⟨o.slots,k b o (fun z=>hc (by simp [z])) e⟩) (fun _ _ _ _ n=>n)
  (fun b o hc e=>⟨o,k b o (fun z=>hc (by simp [z])) e⟩) (fun _ _ e=>e) (fun _ _ _ e=>e) (fun b ps e=>⟨#[],by rw [e];simp⟩) (fun m hm=>?_) (fun b u e=>?_) I.bare
 ·have e:b=it:=by simpa using hb
  subst e;exact ⟨h1,hL,h2,h3⟩
 ·obtain ⟨o,es,ep,ho,r⟩:=hm
  exact ⟨o,es,ep,k _ o (Ne.symm hL) ho,r⟩
 ·refine (I.hok b u e).stay (fun c v hc q=>k c v ?_ q) (fun _ q=>q) fun _ _ q=>q
  rcases hc with z|z
  ·rw [z];exact nit b u e
  ·exact nit c _ z
theorem aA.tok (I:aA X pins σ H s)(t:Nat):aA X pins σ H {s with toks:=t}:=I.un (h':=s.heap) (t':=t) Un.refl I.hok
theorem aA.kept {t':Nat}(I:aA X pins σ H s)(k:∀b u,s.heap.get? b=some u->h'.get? b=some u):aA X pins σ H {s with heap:=h',toks:=t'}:=I.un (Un.kept k) (I.hok.kept k)
theorem aA.laid {a:Addr}{o:HO}{t':Nat}(I:aA X pins σ H s)(k:∀b u,s.heap.get? b=some u->h'.get? b=some u)(hp:s.heap.objs.size<=a)(new:bm X.prog X.w (upd H a o) h' a o) :
  aA X pins σ (upd H a o) {s with heap:=h',toks:=t'}:=I.un (Un.laid k hp (I.hok.fresh hp)) (I.hok.laid k hp new)
theorem aA.write {x e:Addr}{o:HO}{t':Nat}(I:aA X pins σ H s)(mu:Lk (H x))(he:e=x\/H e=some (.own x))(k:∀b u,b≠e->s.heap.get? b=some u->h'.get? b=some u)(heo:∃u,h'.get? e=some u)
  (new:bm X.prog X.w (upd H x o) h' x o):aA X pins σ (upd H x o) {s with heap:=h',toks:=t'}:=I.un (Un.write mu he k heo) (I.hok.write mu he k heo new)
theorem aA.pins_of {pins':Tc}(I:aA X pins σ H s)(h:∀p∈pins',s.heap.get? p.1=some p.2/\H p.1=none/\p.1≠X.env.locals/\p.1∉X.fs/\∀v,p.2.data≠.cell v):aA X pins' σ H s :=
 ⟨I.ok,I.os,I.bare,I.base,I.loc,I.cell,I.free,I.freeC,fun p hp=>(zaL.mp hp).elim (fun z=>I.pin p (zbo _ z)) (h p),I.hok,I.len⟩
theorem sX {N:Tn}(hN:N.Nodup){i j:Nat}{x:Str}(a:N[i]?=some x)(b:N[j]?=some x):i=j:=by
 obtain ⟨h1,e1⟩:=zaw.mp a;obtain ⟨h2,e2⟩:=zaw.mp b;exact (zb5 hN).mp (e1.trans e2.symm)
theorem pH {M:Model}{A:Around}{E:Tb}{i:Nat}{x:Str}{v:V}{u:Value}{Q:Unit->Shared->Prop}(I:aA X pins σ H s)(hN:X.N.Nodup)(hi:X.N[i]?=some x)(hx:Ep X.env.scope x)(r:aY v u)
  (h:∀s',aA X pins (σ.set i (some v)) H s'->(∃a,Heap.SameBut a s.heap s'.heap/\(a=X.env.locals\/X.env.cells.lookup x=some a))->Q () s') (hf:X.fn x=true\/X.env.scope.names.lookup x=some .local:=by first|exact .inl rfl|exact .inr rfl|assumption):wpAny M A (storeName X.env x u) Q E s:=by
 obtain ⟨m,hn,hl⟩:=id I.loc
 have hcls:(X.env.scope.kind == .class || (X.env.scope.kind == .module && X.env.locals != X.env.globals))=false:=by rw [I.ok.kind];rfl
 have hiσ:i < σ.length:=by rw [I.len];exact (zaw.mp hi).1
 have cne:=I.cne
 have tracked:∀{a:Addr} {h':Heap},(∃o,s.heap.get? a=some o/\H a=none)->Heap.SameBut a s.heap h'->g9 X.prog X.w H h':=fun {a h'} ha hs b ob e=>by
  obtain ⟨_,_,hfree⟩:=ha;refine (I.hok b ob e).stay (fun c w' hc q=>(hs.2 c ?_).trans q) (fun _ q=>q) fun _ _ q=>q;rintro rfl;rcases hc with rfl|hc
  ·rw [hfree] at e;cases e
  ·rw [hfree] at hc;cases hc
 rcases hx with hk|hk
 ·refine wpAny_storeName_local hk hn (fun h' hn' hs=>?_) hcls
  obtain ⟨oL,_,_,hoL,_⟩:=id hn;refine h _ ⟨I.ok,I.os,I.bare,⟨fun b o e n hb hx=>?_,fun b o e n hb hx=>?_,I.base.free,fun b o e hx=>?_,I.base.tups,I.base.frzs,I.base.tbls⟩,⟨_,hn',fun j y v' e1 e2 e3=>?_⟩,fun y c e=>?_,I.free,I.freeC,fun p hp=>?_,tracked ⟨oL,hoL,I.free⟩ hs,by simpa using I.len⟩ ⟨_,hs,.inl rfl⟩
  ·exact (hs.2 b (zan (zaB (zah e) I.ok.above))).trans (I.base.keep b o e n hb hx)
  ·obtain ⟨sl,e1⟩:=I.base.slot b o e n hb hx
   exact ⟨sl,(hs.2 b (zan (zaB (zah e) I.ok.above))).trans e1⟩
  ·obtain ⟨o',e1⟩:=I.base.there b o e hx
   exact ⟨o',(hs.2 b (zan (zaB (zah e) I.ok.above))).trans e1⟩
  ·by_cases hj:j=i
   ·subst hj
    rw [hi] at e1;cases e1;rw [zbh hiσ] at e2;cases e2;exact ⟨u,r,.inl ⟨hk,by simp⟩⟩
   ·rw [zaO (Ne.symm hj)] at e2
    obtain ⟨u',r',q⟩:=hl j y v' e1 e2 e3;refine ⟨u',r',?_⟩;rcases q with ⟨k,e⟩|⟨k,c,e,z⟩
    ·refine .inl ⟨k,?_⟩
     have:y≠x:=fun e=>hj (sX hN e1 (e ▸ hi));simp [this,e]
    ·exact .inr ⟨k,c,e,z.sameBut hs (cne y c e)⟩
  ·obtain ⟨w',z⟩:=I.cell y c e
   exact ⟨w',z.sameBut hs (cne y c e)⟩
  ·obtain ⟨e,n,ne,nf,d⟩:=I.pin p hp
   exact ⟨(hs.2 p.1 ne).trans e,n,ne,nf,d⟩
 ·have hfn:X.fn x=true:=by
   rcases hf with z|z
   ·exact z
   ·rw [z] at hk;cases hk
  obtain ⟨c,hc⟩:=I.ok.has x (.inl hk);obtain ⟨w',z⟩:=I.cell x c hc;refine wpAny_storeName_cell I.ok.kind hk hc z (fun h' hc' hs=>?_);obtain ⟨oc,hoc,hocd⟩:=id z;refine h {s with heap:=h'} ⟨I.ok,I.os,I.bare,⟨fun b o e n hb hx=>?_,fun b o e n hb hx=>?_,I.base.free,fun b o e hx=>?_,I.base.tups,I.base.frzs,I.base.tbls⟩,⟨m,hn.sameBut hs (Ne.symm (cne x c hc)),fun j y v' e1 e2 e3=>?_⟩,fun y c' e=>?_,I.free,I.freeC,fun p hp=>?_,tracked ⟨oc,hoc,I.freeC x c hc⟩ hs,by simpa using I.len⟩ ⟨c,hs,.inr hc⟩
  ·exact (hs.2 b (zan (zaB (zah e) (I.ok.cab x c hfn hc)))).trans (I.base.keep b o e n hb hx)
  ·obtain ⟨sl,e1⟩:=I.base.slot b o e n hb hx
   exact ⟨sl,(hs.2 b (zan (zaB (zah e) (I.ok.cab x c hfn hc)))).trans e1⟩
  ·obtain ⟨o',e1⟩:=I.base.there b o e hx
   exact ⟨o',(hs.2 b (zan (zaB (zah e) (I.ok.cab x c hfn hc)))).trans e1⟩
  ·by_cases hj:j=i
   ·subst hj
    rw [hi] at e1;cases e1;rw [zbh hiσ] at e2;cases e2;exact ⟨u,r,.inr ⟨.inl hk,c,hc,hc'⟩⟩
   ·rw [zaO (Ne.symm hj)] at e2
    obtain ⟨u',r',q⟩:=hl j y v' e1 e2 e3;refine ⟨u',r',?_⟩;rcases q with q|⟨k,c',e,z'⟩
    ·exact .inl q
    ·refine .inr ⟨k,c',e,z'.sameBut hs ?_⟩
     rintro rfl;exact hj (sX hN e1 (I.ok.inj _ _ _ e hc ▸ hi))
  ·by_cases hcc:c'=c
   ·subst hcc;exact ⟨_,hc'⟩
   ·obtain ⟨w2,z2⟩:=I.cell y c' e
    exact ⟨w2,z2.sameBut hs hcc⟩
  ·obtain ⟨e,n,ne,nf,d⟩:=I.pin p hp
   refine ⟨(hs.2 p.1 ?_).trans e,n,ne,nf,d⟩;intro q;rw [q,hoc] at e;have q':oc=p.2:=Option.some.inj e;exact d w' (by rw [←q'];exact hocd)
theorem cD {M:Model}{A:Around}{E:Tb}{i:Nat}{x:Str}{v:V}{u:Value}{Q:Unit->Shared->Prop}(I:aA X pins σ H s)(hN:X.N.Nodup)(hi:X.N[i]?=some x)(hx:Ep X.env.scope x)(r:aY v u)
  (h:∀s',aA X pins (σ.set i (some v)) H s'->Q () s') (hf:X.fn x=true\/X.env.scope.names.lookup x=some .local:=by first|exact .inl rfl|exact .inr rfl|assumption):wpAny M A (storeName X.env x u) Q E s :=
 pH I hN hi hx r (fun s' I' _=>h s' I') hf
theorem aA.call' {s':Shared}{ch:Tf}(I:aA X pins σ H s)(ho:s'.os=s.os)(u:Un (yy X.stack) ch H H' s.heap s'.heap)(hok:g9 X.prog X.w H' s'.heap)(hg:AllBare s'.gens)
  (hch:∀b∈ch,(b∈X.ex\/X.s₀.heap.objs.size<=b)/\b≠X.env.locals/\(∀x c,X.env.cells.lookup x=some c->c≠b)/\∀p∈X.pn++pins,p.1≠b):aA X pins σ H' s':=by
 obtain ⟨h',g',d',t',o'⟩:=s';have e:o'=s.os:=ho;subst e;exact I.call (g':=g') (t':=t') (d':=d') u hok hg hch
end
abbrev XK:=Value->Option Addr->Hp->Prop
abbrev St:=List (Option V)
abbrev VK:=V->Hp->Prop
abbrev TE:=St->Hp->VK->Prop
abbrev TT:=St->Hp->(Bool->Hp->Prop)->Prop
abbrev TA:=St->Hp->(List V->Hp->Prop)->Prop
structure d7 where
 nx:St->Hp->Prop
 rt:VK
 bk:St->Hp->Prop:=fun _ _=>False
 ct:St->Hp->Prop:=fun _ _=>False
abbrev TS:=d7->St->Hp->Prop
def EP (X:Cx)(pins:Tc)(σ:St)(Q:VK)(u:Value)(s':Shared):Prop:=∃v H',aA X pins σ H' s'/\aY v u/\Q v H'
def TP (X:Cx)(pins:Tc)(σ:St)(Q:Bool->Hp->Prop)(b:Bool)(s':Shared):Prop:=∃H',aA X pins σ H' s'/\Q b H'
def AP (X:Cx)(pins:Tc)(σ:St)(Q:List V->Hp->Prop)(us:Te)(s':Shared):Prop:=∃vs H',aA X pins σ H' s'/\aW vs us/\Q vs H'
def SP (X:Cx)(pins:Tc)(D:d7)(f:Flow)(s':Shared):Prop :=
 match f with
 |.next=>∃σ' H',aA X pins σ' H' s'/\D.nx σ' H'
 |.brk=>∃σ' H',aA X pins σ' H' s'/\D.bk σ' H'
 |.cont=>∃σ' H',aA X pins σ' H' s'/\D.ct σ' H'
 |.ret u=>∃v σ' H',aA X pins σ' H' s'/\aY v u/\D.rt v H'
def PE (X:Cx)(e:Expr)(t:TE):Prop :=
 ∀(pins:Tc) (s:Shared) (σ:St) (H:Hp) (Q:VK),aA X pins σ H s->t σ H Q->wpAny (model X.prog X.w) X.A (eval e X.env) (EP X pins σ Q) X.xe s
def PT (X:Cx)(e:Expr)(t:TT):Prop :=
 ∀(pins:Tc) (s:Shared) (σ:St) (H:Hp) (Q:Bool->Hp->Prop),aA X pins σ H s->t σ H Q->wpAny (model X.prog X.w) X.A (isTrue e X.env (eval e X.env)) (TP X pins σ Q) X.xe s
def PW (X:Cx)(e:Expr)(t:TT):Prop :=
 ∀(whole:Sem Value) (pins:Tc) (s:Shared) (σ:St) (H:Hp) (Q:Bool->Hp->Prop),aA X pins σ H s->t σ H Q->wpAny (model X.prog X.w) X.A (isTrue e X.env whole) (TP X pins σ Q) X.xe s
theorem PW.pt {e:Expr}{t:TT}(h:PW X e t):PT X e t:=h _
def PA (X:Cx)(es:Tj)(t:TA):Prop :=
 ∀(pos:Pos) (pins:Tc) (s:Shared) (σ:St) (H:Hp) (Q:List V->Hp->Prop),aA X pins σ H s->t σ H Q->wpAny (model X.prog X.w) X.A (spliced (backTo pos (starEach es X.env))) (AP X pins σ Q) X.xe s
def PS (X:Cx)(st:Stmt)(t:TS):Prop :=
 ∀(pins:Tc) (s:Shared) (σ:St) (H:Hp) (D:d7),aA X pins σ H s->t D σ H->wpAny (model X.prog X.w) X.A (exec st X.env) (SP X pins D) X.xe s
def o9 (X:Cx)(st:Tk)(t:TS):Prop :=
 ∀(pins:Tc) (s:Shared) (σ:St) (H:Hp) (D:d7),aA X pins σ H s->t D σ H->wpAny (model X.prog X.w) X.A (execs st X.env) (SP X pins D) X.xe s
theorem cV {α:Type}{t:Sem α}{Q Q':α->Shared->Prop}{M:Model}{E:Tb}{s:Shared}(h:wpAny M A t Q E s)(hQ:∀a s,Q a s->Q' a s):wpAny M A t Q' E s:=zbz h hQ fun _ _ x=>x
section
variable  {X:Cx}
def Jp (i:Nat):TE:=fun σ H Q=>∃v,σ[i]?=some (some v)/\Q v H
def tC (v:V):TE:=fun _ H Q=>Q v H
theorem GU {i:Nat}{x:Str}{pos:Pos}(hN:X.N[i]?=some x)(hv:Mb X.env.scope x)(hd:(x == ("__debug__" : Str))=false:=by decide)(hcd:(x == ("__classdict__" : Str))=false:=by decide):PE X (.Name x pos) (Jp i):=by
 intro pins s σ H Q I h;obtain ⟨v,e,h⟩:=h;obtain ⟨m,hn,hl⟩:=I.loc;obtain ⟨u,r,l⟩:=hl i x v hN e hv;have fin:EP X pins σ Q u s:=⟨v,H,I,r,h⟩;rcases l with ⟨hk,hm⟩|⟨hk,c,hc,hcell⟩
 ·exact wpAny_Name (wpAny_loadName_local I.ok.kind hk hn hm fin) hd
 ·rcases hk with hk|hk
  ·exact wpAny_Name (wpAny_loadName_cell I.ok.kind hk hc hcell fin) hd
  ·exact wpAny_Name (wpAny_loadName_free I.ok.kind hk hc hcell fin hcd) hd
theorem GZ {i j pos}:PE X (.Constant (.int i) j pos) (tC (.int i)):=fun _ _ _ H _ I h=>wpAny_Constant_int ⟨.int i,H,I.tok _,⟨_,rfl⟩,h⟩
theorem Ke {b j pos}:PE X (.Constant (.bool b) j pos) (tC (.bl b)):=fun _ _ _ H _ I h=>Constant_bool ⟨.bl b,H,I,rfl,h⟩
theorem qH {j pos}:PE X (.Constant .none j pos) (tC .non):=fun _ _ _ H _ I h=>Constant_none ⟨.non,H,I,rfl,h⟩
theorem GV {x j pos}:PE X (.Constant (.str x) j pos) (tC (.str x)):=fun _ _ _ H _ I h=>Calls.Constant_str ⟨.str x,H,I.tok _,⟨_,rfl⟩,h⟩
def Gl (X:Cx)(x:Str):Prop:=X.env.kindOf x=some .globalImplicit
theorem wO {E:Tb}{s:Shared}{H:Hp}{x:Str}{u:Value}{pos:Pos}{Q:Tb}(I:aA X pins σ H s)(hg:Gl X x)(hm:X.mg x=some u)(h:Q u s)
  (hd:(x == ("__debug__" : Str))=false:=by decide):wpAny (model X.prog X.w) X.A (eval (.Name x pos) X.env) Q E s :=
 Calls.Name_function_global I.ok.kind hg (Calls.loadGlobal_global (by rw [I.ok.glob];exact I.mod.glob.keeps I.bk) hm h) hd
theorem qO {E:Tb}{s:Shared}{H:Hp}{x:Str}{u:Value}{pos:Pos}{Q:Tb}(I:aA X pins σ H s)(hg:Gl X x)(hm:X.mg x=none)(hv:bootBuiltins x=some u)(h:Q u s)
  (hn:x≠"__name__":=by decide) (hd:(x == ("__debug__" : Str))=false:=by decide):wpAny (model X.prog X.w) X.A (eval (.Name x pos) X.env) Q E s:=by
 obtain ⟨mb,h1,h2⟩:=I.mod.blt;exact Calls.Name_function_global I.ok.kind hg (Calls.loadGlobal_builtin (by rw [I.ok.glob];exact I.mod.glob.keeps I.bk) hm (by rw [I.ok.blt];exact h1.keeps I.bk) ((h2 x hn).trans hv) h) hd
theorem Dq {x:Str}{v:V}{u:Value}{pos:Pos}(hg:Gl X x)(hm:X.mg x=some u)(r:aY v u)(hd:(x == ("__debug__" : Str))=false:=by decide):PE X (.Name x pos) (tC v) :=
 fun _ _ _ H _ I h=>wO I hg hm ⟨v,H,I,r,h⟩ hd
theorem Dr {x:Str}{v:V}{u:Value}{pos:Pos}(hg:Gl X x)(hm:X.mg x=none)(hv:bootBuiltins x=some u)(r:aY v u)(hn:x≠"__name__":=by decide)(hd:(x == ("__debug__" : Str))=false:=by decide):PE X (.Name x pos) (tC v) :=
 fun _ _ _ H _ I h=>qO I hg hm hv ⟨v,H,I,r,h⟩ hn hd
variable  {a b:Expr}{ta tb:TE}{pos:Pos}
def tB (t:TE):TT:=fun σ H Q=>t σ H fun x H1=>∃c,x=.bl c/\Q c H1
variable  {tA tB':TT}{rest:Tj}
def Jw (t u:TT):TT:=fun σ H Q=>t σ H fun c H1=>if c=true then u σ H1 Q else Q false H1
def Od (t u:TT):TT:=fun σ H Q=>t σ H fun c H1=>if c=true then Q true H1 else u σ H1 Q
def Jt (t:TT):TT:=fun σ H Q=>t σ H fun c H1=>Q (!c) H1
theorem Da (ha:PT X a tA):PW X (.BoolOp .And [a] pos) tA:=by
 intro wh pins s σ H Q I h;refine isTrue_and (cV (ha pins s σ H Q I h) fun c s1 e=>?_)
 cases c with
 |true=>exact isTrue_and_nil e
 |false=>exact e
theorem GL (ha:PT X a tA):PW X (.BoolOp .Or [a] pos) tA:=by
 intro wh pins s σ H Q I h;refine isTrue_or (cV (ha pins s σ H Q I h) fun c s1 e=>?_)
 cases c with
 |false=>exact isTrue_or_nil e
 |true=>exact e
theorem GM (ha:PT X a tA)(hb:PW X (.BoolOp .And (b::rest) pos) tB'):PW X (.BoolOp .And (a::b::rest) pos) (Jw tA tB'):=by
 intro wh pins s σ H Q I h;refine isTrue_and (cV (ha pins s σ H _ I h) fun c s1 hh=>?_);obtain ⟨H1,I1,q1⟩:=hh
 cases c with
 |true=>exact hb wh pins s1 σ H1 Q I1 q1
 |false=>exact ⟨H1,I1,q1⟩
theorem J7 (ha:PT X a tA)(hb:PW X (.BoolOp .Or (b::rest) pos) tB'):PW X (.BoolOp .Or (a::b::rest) pos) (Od tA tB'):=by
 intro wh pins s σ H Q I h;refine isTrue_or (cV (ha pins s σ H _ I h) fun c s1 hh=>?_);obtain ⟨H1,I1,q1⟩:=hh
 cases c with
 |true=>exact ⟨H1,I1,q1⟩
 |false=>exact hb wh pins s1 σ H1 Q I1 q1
theorem GN (ha:PT X a tA):PT X (.UnaryOp .Not a pos) (Jt tA):=by
 intro pins s σ H Q I h;exact isTrue_not (ha pins s σ H (fun c H1=>Q (!c) H1) I h)
def E3 (ta tb:TE):TE:=fun σ H Q=>ta σ H fun x H1=>∃c,x=.bl c/\if c=true then tb σ H1 Q else Q (.bl false) H1
def Js (ta tb:TE):TE:=fun σ H Q=>ta σ H fun x H1=>∃c,x=.bl c/\if c=true then Q (.bl true) H1 else tb σ H1 Q
def EZ (ta:TE):TE:=fun σ H Q=>ta σ H fun x H1=>∃c,x=.bl c/\Q (.bl (!c)) H1
theorem GW {op}{t:TE}(h:PE X a t):PE X (.BoolOp op [a] pos) t:=fun pins s σ H Q I hw=>BoolOp_one (h pins s σ H Q I hw)
theorem G0 (ha:PE X a ta)(hb:PE X (.BoolOp .And (b::rest) pos) tb):PE X (.BoolOp .And (a::b::rest) pos) (E3 ta tb):=by
 intro pins s σ H Q I h;refine BoolOp_and (cV (ha pins s σ H _ I h) fun v s1 hh=>?_);obtain ⟨x,H1,I1,r1,q1⟩:=hh;obtain ⟨c,rfl,q1⟩:=q1;cases r1;refine zb2 ?_
 cases c with
 |true=>exact hb pins s1 σ H1 Q I1 q1
 |false=>exact ⟨.bl false,H1,I1,rfl,q1⟩
theorem Kb (ha:PE X a ta)(hb:PE X (.BoolOp .Or (b::rest) pos) tb):PE X (.BoolOp .Or (a::b::rest) pos) (Js ta tb):=by
 intro pins s σ H Q I h;refine BoolOp_or (cV (ha pins s σ H _ I h) fun v s1 hh=>?_);obtain ⟨x,H1,I1,r1,q1⟩:=hh;obtain ⟨c,rfl,q1⟩:=q1;cases r1;refine zb2 ?_
 cases c with
 |false=>exact hb pins s1 σ H1 Q I1 q1
 |true=>exact ⟨.bl true,H1,I1,rfl,q1⟩
theorem GX (ha:PE X a ta):PE X (.UnaryOp .Not a pos) (EZ ta):=by
 intro pins s σ H Q I h;refine UnaryOp_ (cV (ha pins s σ H _ I h) fun v s1 hh=>?_);obtain ⟨x,H1,I1,r1,q1⟩:=hh;obtain ⟨c,rfl,q1⟩:=q1;cases r1;exact not_of (zb2 ⟨.bl (!c),H1,I1,rfl,q1⟩)
def Oe (t:TT)(ta tb:TE):TE:=fun σ H Q=>t σ H fun c H1=>if c=true then ta σ H1 Q else tb σ H1 Q
theorem AD {c:Expr}(hc:PT X c tA)(ha:PE X a ta)(hb:PE X b tb):PE X (.IfExp c a b pos) (Oe tA ta tb):=by
 intro pins s σ H Q I h;refine wpAny_IfExp (cV (hc pins s σ H _ I h) fun d s1 hh=>?_);obtain ⟨H1,I1,q1⟩:=hh
 cases d with
 |true=>exact ha pins s1 σ H1 Q I1 q1
 |false=>exact hb pins s1 σ H1 Q I1 q1
end
def iV (K:zac)(H:Hp)(a:Addr)(xs:List V):Prop :=
 Rd H a (.lst xs) \/
  ∃(o:Obj) (its:Ti) (n:Nat),K.lookup a=some o/\o.cls=.type "list"/\(o.dict=none/\o.slots = #[])/\o.data=.seq its n/\its.size<=sizeLine/\aW xs its.toList
def eS (K:zac)(H:Hp)(a:Addr)(xs:List V):Prop :=
 Rd H a (.tup xs) \/
  ∃(o:Obj) (its:Ti) (n:Nat),K.lookup a=some o/\o.cls=.type "tuple"/\o.dict=none/\o.data=.seq its n/\its.size<=sizeLine/\aW xs its.toList
def NP:Value->Option V
 |.none=>some .non
 |.bool b=>some (.bl b)
 |.int i _=>some (.int i)
 |.str x _=>some (.str x)
 |.bytes b _=>some (.byt b)
 |.float b _=>some (.flt b)
 |.ref a=>some (.ref a)
 |.type n=>some (.ty n)
 |_=>none
theorem aY.abs {x:V}{u:Value}(r:aY x u):NP u=some x:=by
 cases x with
 |non=>cases r;rfl
 |bl _=>cases r;rfl
 |int _=>obtain ⟨t,rfl⟩:=r;rfl
 |str _=>obtain ⟨t,rfl⟩:=r;rfl
 |byt _=>obtain ⟨t,rfl⟩:=r;rfl
 |flt _=>obtain ⟨t,rfl⟩:=r;rfl
 |ref _=>cases r;rfl
 |ty _=>cases r;rfl
theorem aY.inj {x y:V}{u:Value}(r:aY x u)(q:aY y u):x=y:=Option.some.inj (r.abs.symm.trans q.abs)
theorem aW.inj {xs ys:List V}{us:Te}(h:aW xs us):aW ys us->xs=ys:=by
 induction h generalizing ys with
 |nil=>intro q;cases q;rfl
 |cons r t ih=>intro q;cases q with|cons r' t'=>rw [r.inj r',ih t']
section
variable  {X:Cx}{pins:Tc}{σ:St}{H:Hp}{s:Shared}{a:Addr}{xs ys:List V}
theorem eS.of {K:zac}(h:H a=some (.tup xs)):eS K H a xs:=.inl (.inl h)
theorem aA.list (I:aA X pins σ H s)(h:iV X.K H a xs):∃its:Te,aW xs its/\PlainL s.heap a its.toArray/\xs.length<=sizeLine:=by
 rcases h with h|⟨o,its,n,hk,hc,hd,hs,hz,r⟩
 ·obtain ⟨z,its,n,r,e⟩:=h.ok I.hok
  exact ⟨its,r,⟨_,n,e,rfl,rfl,rfl⟩,z⟩
 ·refine ⟨its.toList,r,⟨o,n,I.kIn a o hk,hc,hd.1,by simpa using hs⟩,?_⟩
  have e:=r.length;simp only [zaD] at e;omega
theorem aA.tuple (I:aA X pins σ H s)(h:eS X.K H a xs):∃its:Te,aW xs its/\IsTup s.heap a its.toArray/\xs.length<=sizeLine:=by
 rcases h with h|⟨o,its,n,hk,hc,hn,hs,hz,r⟩
 ·obtain ⟨z,its,r,p⟩:=h.ok I.hok
  exact ⟨its,r,p.1,z⟩
 ·refine ⟨its.toList,r,⟨o,I.kIn a o hk,hc,n,by simpa using hs⟩,?_⟩
  have e:=r.length;simp only [zaD] at e;omega
theorem aA.list_inj (I:aA X pins σ H s)(h:iV X.K H a xs)(h':iV X.K H a ys):xs=ys:=by
 obtain ⟨its,r,⟨o,n,e,_,_,d⟩,_⟩:=I.list h;obtain ⟨its',r',⟨o',n',e',_,_,d'⟩,_⟩:=I.list h';rw [e] at e';cases e';rw [d] at d'
 injection d' with d1 _
 have:its=its':=by simpa using congrArg Array.toList d1
 subst this;exact r.inj r'
theorem aA.tuple_inj (I:aA X pins σ H s)(h:eS X.K H a xs)(h':eS X.K H a ys):xs=ys:=by
 obtain ⟨its,r,⟨o,e,_,n,d⟩,_⟩:=I.tuple h;obtain ⟨its',r',⟨o',e',_,n',d'⟩,_⟩:=I.tuple h';rw [e] at e';cases e';rw [d] at d'
 injection d' with d1 _
 have:its=its':=by simpa using congrArg Array.toList d1
 subst this;exact r.inj r'
end
abbrev Cx.wish (X:Cx)(E:Tb):Cx:={X with xe:=E}
abbrev Cx.nox (X:Cx):Cx:=X.wish fun _ _=>False
theorem Cx.Ok.wish {X:Cx}(ok:X.Ok)(E:Tb):(X.wish E).Ok :=
 ⟨ok.mod,ok.kind,ok.glob,ok.blt,ok.above,ok.inj,ok.has,ok.cab,ok.hd,ok.frames,ok.stk,ok.exf,ok.bs,ok.bsz,ok.noex,ok.exfs,ok.funs,ok.frf⟩
theorem Cx.Ok.unwish {X:Cx}{E:Tb}(ok:(X.wish E).Ok):X.Ok :=
 ⟨ok.mod,ok.kind,ok.glob,ok.blt,ok.above,ok.inj,ok.has,ok.cab,ok.hd,ok.frames,ok.stk,ok.exf,ok.bs,ok.bsz,ok.noex,ok.exfs,ok.funs,ok.frf⟩
section
variable  {X:Cx}{pins:Tc}{σ:St}{H:Hp}{s:Shared}{E:Tb}
theorem aA.wish (I:aA X pins σ H s)(E:Tb):aA (X.wish E) pins σ H s:=⟨I.ok.wish E,I.os,I.bare,I.base,I.loc,I.cell,I.free,I.freeC,I.pin,I.hok,I.len⟩
theorem aA.unwish (I:aA (X.wish E) pins σ H s):aA X pins σ H s:=⟨I.ok.unwish,I.os,I.bare,I.base,I.loc,I.cell,I.free,I.freeC,I.pin,I.hok,I.len⟩
theorem SP.unwish {D:d7}{f:Flow}{s':Shared}(h:SP (X.wish E) pins D f s'):SP X pins D f s':=by
 cases f with
 |next=>obtain ⟨σ',H',I,q⟩:=h;exact ⟨σ',H',I.unwish,q⟩
 |brk=>obtain ⟨σ',H',I,q⟩:=h;exact ⟨σ',H',I.unwish,q⟩
 |cont=>obtain ⟨σ',H',I,q⟩:=h;exact ⟨σ',H',I.unwish,q⟩
 |ret u=>obtain ⟨v,σ',H',I,r,q⟩:=h;exact ⟨v,σ',H',I.unwish,r,q⟩
theorem o9.nox {st:Tk}{t:TS}(h:o9 X.nox st t):o9 X st t:=fun pins s σ H D I hw =>
 zbz (h pins s σ H D (I.wish _) hw) (fun _ _ q=>q.unwish) fun _ _ z=>False.elim z
end
section
variable  {X:Cx}{st:Stmt}{rest:Tk}{t u:TS}{e:Expr}{te:TE}{pos:Pos}
def E1:TS:=fun D σ H=>D.nx σ H
def Jq (t u:TS):TS:=fun D σ H=>t {D with nx:=u D} σ H
theorem Df:o9 X [] E1:=fun _ _ σ H _ I h=>zdq ⟨σ,H,I,h⟩
theorem Ar (h1:PS X st t)(h2:o9 X rest u):o9 X (st::rest) (Jq t u):=by
 intro pins s σ H D I h;refine wpAny_execs_cons (cV (h1 pins s σ H {D with nx:=u D} I h) fun f s1 q=>?_)
 cases f with
 |next =>
  obtain ⟨σ',H',I',q⟩:=q;exact h2 pins s1 σ' H' D I' q
 |ret v=>exact q
 |brk=>exact q
 |cont=>exact q
theorem De (h1:PS X st t):o9 X [st] t:=by
 intro pins s σ H D I h;refine wpAny_execs_cons (cV (h1 pins s σ H D I h) fun f s1 q=>?_)
 cases f with
 |next=>exact zdq q
 |ret v=>exact q
 |brk=>exact q
 |cont=>exact q
theorem aA.quiet {H:Hp}{s:Shared}(I:aA X pins σ H s):interactive X.env=false:=by simp [interactive,I.ok.kind]
def E2 (te:TE):TS:=fun D σ H=>te σ H fun _ H1=>D.nx σ H1
theorem Dg (he:PE X e te)(hs:swapsWith e none pos.line X.env=pure false:=by rfl):PS X (.Expr e pos) (E2 te):=by
 intro pins s σ H D I h;exact wpAny_Expr_any (cV (he pins s σ H _ I h) fun v s1 ⟨x,H1,I1,r1,q1⟩=>⟨σ,H1,I1,q1⟩) I.quiet hs
def Jr (te:TE):TS:=fun D σ H=>te σ H D.rt
theorem GQ (he:PE X e te):PS X (.Return (some e) pos) (Jr te):=by
 intro pins s σ H D I h;exact wpAny_Return_some (cV (he pins s σ H _ I h) fun v s1 ⟨x,H1,I1,r1,q1⟩=>⟨x,σ,H1,I1,r1,q1⟩)
def Jv (c:TT)(t u:TS):TS:=fun D σ H=>c σ H fun b H1=>if b=true then t D σ H1 else u D σ H1
theorem J8 {c:Expr}{a b:Tk}{tc:TT}(hc:PT X c tc)(ha:o9 X a t)(hb:o9 X b u):PS X (.If c a b pos) (Jv tc t u):=by
 intro pins s σ H D I h;refine wpAny_If (cV (hc pins s σ H _ I h) fun d s1 hh=>?_);obtain ⟨H1,I1,q1⟩:=hh
 cases d with
 |true=>exact ha pins s1 σ H1 D I1 q1
 |false=>exact hb pins s1 σ H1 D I1 q1
end
abbrev TG:=V->St->Hp->(St->Hp->Prop)->Prop
abbrev Co:=List V->St->Hp->(St->Hp->Prop)->Prop
def PG (X:Cx)(target:Expr)(t:TG):Prop :=
 ∀(pins:Tc) (s:Shared) (σ:St) (H:Hp) (v:V) (u:Value) (Q:St->Hp->Prop),aA X pins σ H s->aY v u->t v σ H Q ->
  wpAny (model X.prog X.w) X.A (assign target X.env u) (fun _ s'=>∃σ' H',aA X pins σ' H' s'/\Q σ' H') X.xe s
def Cp (X:Cx)(ts:Tj)(t:Co):Prop :=
 ∀(pins:Tc) (s:Shared) (σ:St) (H:Hp) (vs:List V) (us:Te) (Q:St->Hp->Prop),aA X pins σ H s->aW vs us->t vs σ H Q ->
  wpAny (model X.prog X.w) X.A (assignInOrder ((assignEach ts X.env).map (·.2)) us) (fun _ s'=>∃σ' H',aA X pins σ' H' s'/\Q σ' H') X.xe s
abbrev Io:=V->V->V->Hp->(Hp->Prop)->Prop
def Lj (X:Cx)(t:Io):Prop :=
 ∀(pins:Tc) (s:Shared) (σ:St) (H:Hp) (o i v:V) (ov iv u:Value) (Q:Hp->Prop),aA X pins σ H s->aY o ov->aY i iv->aY v u->t o i v H Q ->
  wpAny (model X.prog X.w) X.A (setItem ov iv u) (fun _ s'=>∃H',aA X pins σ H' s'/\Q H') X.xe s
section
variable  {X:Cx}{pos:Pos}
def pW (i:Nat):TG:=fun v σ H Q=>Q (σ.set i (some v)) H
theorem Do {i:Nat}{x:Str}(hN:X.N.Nodup)(hi:X.N[i]?=some x)(hx:Ep X.env.scope x)(hf:X.fn x=true\/X.env.scope.names.lookup x=some .local:=by first|exact .inl rfl|exact .inr rfl|assumption):PG X (.Name x pos) (pW i):=by
 intro pins s σ H v u Q I r h;exact wpAny_assign_Name (cD I hN hi hx r (fun s' I'=>⟨_,H,I',h⟩) hf)
def KO:Co:=fun vs σ H Q=>vs=[]/\Q σ H
def Fp (t:TG)(u:Co):Co:=fun vs σ H Q=>∃v r,vs=v::r/\t v σ H fun σ' H'=>u r σ' H' Q
theorem Dm:Cp X [] KO:=by
 intro pins s σ H vs us Q I r h;obtain ⟨e,h⟩:=h;subst e;cases r;exact assignInOrder_nil ⟨σ,H,I,h⟩
theorem AA {e:Expr}{es:Tj}{t:TG}{u:Co}(h1:PG X e t)(h2:Cp X es u)
  (hs:(assignEach (e::es) X.env).map (·.2)=assign e X.env::(assignEach es X.env).map (·.2):=by rfl):Cp X (e::es) (Fp t u):=by
 intro pins s σ H vs us Q I r h;obtain ⟨v,vr,e1,h⟩:=h;subst e1
 cases r with
 |cons r rr =>
  rw [hs];refine assignInOrder_cons (cV (h1 pins s σ H _ _ _ I r h) fun _ s1 hh=>?_);obtain ⟨σ1,H1,I1,q1⟩:=hh;exact h2 pins s1 σ1 H1 _ _ Q I1 rr q1
def KN (K:zac)(n:Nat)(t:Co):TG:=fun v σ H Q=>∃a xs,v=.ref a/\eS K H a xs/\xs.length=n/\t xs σ H Q
theorem GS {es:Tj}{k:Nat}{t:Co}{n:Nat}(hc:X.calm=true)(h:Cp X es t)
  (hn:(assignEach es X.env).length=n:=by rfl) (hst:(assignEach es X.env).findIdx? (·.1)=none:=by rfl):PG X (.Tuple es k pos) (KN X.K n t):=by
 intro pins s σ H v u Q I r hw;obtain ⟨a,xs,e1,hq,hl,hw⟩:=hw;subst e1;cases r;obtain ⟨its,rv,ht,hz⟩:=I.tuple hq;refine assign_Tuple_tuple (I.ok.hd hc) ht (by simp [hn,←hl,rv.length]) hst fun h' hx=>?_;have I1:aA X pins σ H {s with heap:=h'}:=I.kept (t':=s.toks) fun b o e=>hx b o (zan (zah e)) e;exact h pins _ σ H xs _ Q I1 (by simpa using rv) hw
def HH (to ti:TE)(t:Io):TG:=fun v σ H Q=>to σ H fun o H1=>ti σ H1 fun i H2=>t o i v H2 fun H3=>Q σ H3
theorem GT {o i:Expr}{to ti:TE}{t:Io}(ho:PE X o to)(hi:PE X i ti)(hs:Lj X t)
  (ha:∀v,assign (.Subscript o i pos) X.env v=(do
   let ov ←holding [v] (eval o X.env)
   let iv ←holding [v,ov] (eval i X.env)
   standAt pos
   holding [v,ov,iv] (setItem ov iv v)
   release [v,ov,iv] []):=by intro _;rfl):PG X (.Subscript o i pos) (HH to ti t):=by
 intro pins s σ H v u Q I r h;rw [ha];refine zaa (zaE (cV (ho pins s σ H _ I h) fun ov s1 hh=>?_));obtain ⟨x,H1,I1,r1,q1⟩:=hh;refine zaa (zaE (cV (hi pins s1 σ H1 _ I1 q1) fun iv s2 hh=>?_));obtain ⟨y,H2,I2,r2,q2⟩:=hh;refine zaa (wpAny_standAt (zaa (zaE (cV (hs pins s2 σ H2 x y v ov iv u _ I2 r1 r2 r q2) fun _ s3 hh=>?_))));obtain ⟨H3,I3,q3⟩:=hh;exact wpAny_release ⟨σ,H3,I3,q3⟩
def zw (te:TE)(g:TG):TS:=fun D σ H=>te σ H fun x H1=>g x σ H1 D.nx
theorem GR {tg e:Expr}{te:TE}{g:TG}(he:PE X e te)(hg:PG X tg g)(hs:swapsWithSole [tg] e pos.line X.env=pure false:=by rfl)(hw:swappedStores [tg] e X.env=pure none:=by rfl)
  (h1:(assignEach [tg] X.env).map (·.2)=[assign tg X.env]:=by rfl):PS X (.Assign [tg] e pos) (zw te g):=by
 intro pins s σ H D I h;refine wpAny_Assign_stores (cV (he pins s σ H _ I h) fun v s1 ⟨x,H1,I1,r1,q1⟩=>?_) hs hw;rw [h1];exact cV (hg pins s1 σ H1 x v _ I1 r1 q1) fun _ s2 q=>q
theorem GO {i:Nat}{x:Str}{e:Expr}{te:TE}{pos':Pos}(hN:X.N.Nodup)(hi:X.N[i]?=some x)(hx:Ep X.env.scope x)(he:PE X e te)(hs:swapsWith e (some (.Name x pos')) pos.line X.env=pure false:=by rfl)(hf:X.fn x=true\/X.env.scope.names.lookup x=some .local:=by first|exact .inl rfl|exact .inr rfl|assumption) :
  PS X (.Assign [.Name x pos'] e pos) (zw te (pW i)):=by
 intro pins s σ H D I h;refine wpAny_Assign_Name (cV (he pins s σ H _ I h) fun v s1 ⟨y,H1,I1,r1,q1⟩=>?_) hs;exact cD I1 hN hi hx r1 (fun s2 I2=>⟨_,H1,I2,q1⟩) hf
end
structure It where
 go:Nat->Hp->Prop
 yld:Nat->Hp->V->Hp->Prop
 stop:Nat->Hp->Prop
def lK (X:Cx)(pins:Tc)(H:Hp)(b:Addr):Prop :=
 H b=none/\b≠X.env.locals/\b∉X.fs/\(b∈X.ex\/X.s₀.heap.objs.size<=b)/\(∀x c,X.env.cells.lookup x=some c->c≠b)/\∀p∈X.pn++pins,p.1≠b
theorem aA.fpOk {H H':Hp}{s:Shared}{b:Addr}(I:aA X pins σ H s)(hb:s.heap.objs.size<=b)(hn:H' b=none):lK X pins H' b:=by
 refine ⟨hn,zaY (zaB I.lt hb),I.nofs hb,.inr (zbF I.sz hb),fun x c e z=>?_,fun p hp z=>?_⟩
 ·obtain ⟨v,q⟩:=I.cell x c e
  exact absurd (zaB q.lt (by rw [z];exact hb)) (zaR _)
 ·exact absurd (zaB (zah (I.pin p hp).1) (by rw [z];exact hb)) (zaR _)
structure yS (P:Program)(w:World)(K:zac)(tg:Expr)(J:It)(fp:Tf)(it:Addr)(tn:Nat->Heap->Prop):Prop where
 mem:it∈fp
 obj:∀i h,tn i h->∀b∈fp,∃o,h.get? b=some o/\∀v,o.data≠.cell v
 keep:∀i h h',tn i h->(∀b∈fp,∀o,h.get? b=some o->h'.get? b=some o)->tn i h'
 item:∀(X:Cx),X.prog=P->X.w=w->X.K=K->X.calm=true->∀(i:Nat) (pins:Tc) (s:Shared) (σ:St) (H:Hp) (E:Tb),aA X pins σ H s->(∀b∈fp,lK X pins H b)->tn i s.heap->J.go i H ->
  wpAny (model P w) X.A (pyNext (.ref it)) (fun r s1=>∃u,r=some u /\
   wpAny (model P w) X.A (letOwnedTupleGo tg (.ref it) u) (fun _ s2=>∃x H',aA X pins σ H' s2/\aY x u/\J.yld i H x H'/\tn (i+1) s2.heap/\∀b∈fp,H' b=none) E s1) E s
 done:∀(X:Cx),X.prog=P->X.w=w->X.K=K->X.calm=true->∀(i:Nat) (pins:Tc) (s:Shared) (σ:St) (H:Hp) (E:Tb),aA X pins σ H s->(∀b∈fp,lK X pins H b)->tn i s.heap->J.stop i H ->
  wpAny (model P w) X.A (pyNext (.ref it)) (fun r s1=>r=none/\aA X pins σ H s1) E s
 self:∀(A:Around) (i:Nat) (s:Shared) (Q:Tb) (E:Tb),tn i s.heap->Q (.ref it) s->wpAny (model P w) A (pyIter (.ref it)) Q E s
abbrev TI:=St->Hp->(It->Hp->Prop)->Prop
def ON (X:Cx)(pins:Tc)(σ:St)(tg:Expr)(R:It->Hp->Prop)(itv:Value)(s2:Shared):Prop :=
 ∃(it:Addr) (fp:Tf) (tn:Nat->Heap->Prop) (J:It) (H':Hp),itv=.ref it/\aA X pins σ H' s2/\yS X.prog X.w X.K tg J fp it tn/\tn 0 s2.heap/\(∀b∈fp,lK X pins H' b)/\R J H'
def PI (X:Cx)(tg iter:Expr)(wi:TI):Prop :=
 ∀(pins:Tc) (s:Shared) (σ:St) (H:Hp) (R:It->Hp->Prop),aA X pins σ H s->wi σ H R ->
  wpAny (model X.prog X.w) X.A (eval iter X.env) (fun v s1=>wpAny (model X.prog X.w) X.A (pyIter v) (ON X pins σ tg R) X.xe s1) X.xe s
theorem Bo {M : Model} {A : Around} {E : Tb} {s : Shared} {tg : Expr} {it : Addr} {u : Value} {o : Obj} {n : String} {vs : Ti} {Q : Unit -> Shared -> Prop} (ho : s.heap.get? it = some o) (hc : o.cls = .type n) (hd : o.data = .fields vs)
    (hn : ["enumerate", "zip", "dict_itemiterator", "dict_reverseitemiterator", "odict_iterator", "itertools.zip_longest", "itertools.pairwise"].contains n = false) (hQ : Q () s) : wpAny M A (letOwnedTupleGo tg (.ref it) u) Q E s := by
  unfold letOwnedTupleGo
  cases tg <;> first
    | exact zad hQ
    | (cases u <;> first
        | exact zad hQ
        | (refine zaa (wpAny_load ho ?_)
           rw [hc, hd]
           show wpAny M A (if (["enumerate", "zip", "dict_itemiterator", "dict_reverseitemiterator", "odict_iterator", "itertools.zip_longest", "itertools.pairwise"].contains n && vs[0]? == some (rawInt _)) = true then _ else _) Q E s
           rw [if_neg (by intro h; rw [hn, zc8] at h; cases h)]
           exact zad hQ))
def NY (K:zac)(a:Addr):It :=
 ⟨fun i H=>∃xs x,iV K H a xs/\xs[i]?=some x,fun i H x H'=>H'=H/\∀xs,iV K H a xs->xs[i]?=some x,fun i H=>∃xs,iV K H a xs/\xs.length<=i⟩
def NX (K:zac)(a:Addr):It :=
 ⟨fun i H=>∃xs x,eS K H a xs/\xs[i]?=some x,fun i H x H'=>H'=H/\∀xs,eS K H a xs->xs[i]?=some x,fun i H=>∃xs,eS K H a xs/\xs.length<=i⟩
def Md (lo:Int)(n:Nat):It:=⟨fun i _=>i < n,fun i H x H'=>H'=H/\x=.int (lo+i),fun i _=>n<=i⟩
theorem xD {P:Program}{w:World}{K:zac}{tg:Expr}(a it:Addr):yS P w K tg (NY K a) [it] it (fun i h=>h.IsListIter it a i) where
 mem:=by simp
 obj:=fun i h st b hb=>by
  have e:b=it:=by simpa using hb
  subst e;obtain ⟨o,e,c,d⟩:=st;exact ⟨o,e,fun v z=>by rw [d] at z;cases z⟩
 keep:=fun i h h' st k=>st.at fun o e=>k it (by simp) o e
 item:=by
  intro X hP hw hK hc i pins s σ H E I hf st hg;subst hP hw hK;obtain ⟨xs,x,hq,hx⟩:=hg;obtain ⟨its,rv,p,hz⟩:=I.list hq;obtain ⟨u,hu,ru⟩:=rv.get hx;obtain ⟨f0,f1,f2,f3,f4,f5⟩:=hf it (by simp);refine wpAny_pyNext_list_item st p.isList (x:=u) (by simpa using hu) fun h' st' sb=>?_;have I1:aA X pins σ H {s with heap:=h'}:=I.turned (t':=s.toks) (fun b o hb e=>(sb.2 b hb).trans e) f0 f1 f3 f4 f5;obtain ⟨o,e,c,d⟩:=id st';exact ⟨u,rfl,Bo (s:={s with heap:=h'}) e c d (by decide) ⟨x,H,I1,ru,⟨rfl,fun ys hy=>by rw [I.list_inj hy hq];exact hx⟩,st',fun b hb=>(hf b hb).1⟩⟩
 done:=by
  intro X hP hw hK hc i pins s σ H E I hf st hg;subst hP hw hK;obtain ⟨xs,hq,hx⟩:=hg;obtain ⟨its,rv,p,hz⟩:=I.list hq;obtain ⟨f0,f1,f2,f3,f4,f5⟩:=hf it (by simp);have hl:=rv.length;exact wpAny_pyNext_list_end (I.ok.hd hc) st p.isList (by simp;omega) fun h' eb=>⟨rfl,I.turned (t':=s.toks) (fun b o hb e=>eb b o hb e) f0 f1 f3 f4 f5⟩
 self:=fun _ _ _ _ _ st h=>wpAny_pyIter_listiter st h
theorem uN {P:Program}{w:World}{K:zac}{tg:Expr}(a it:Addr):yS P w K tg (NX K a) [it] it (fun i h=>h.IsTupleIter it a i) where
 mem:=by simp
 obj:=fun i h st b hb=>by
  have e:b=it:=by simpa using hb
  subst e;obtain ⟨o,e,c,d⟩:=st;exact ⟨o,e,fun v z=>by rw [d] at z;cases z⟩
 keep:=fun i h h' st k=>st.at fun o e=>k it (by simp) o e
 item:=by
  intro X hP hw hK hc i pins s σ H E I hf st hg;subst hP hw hK;obtain ⟨xs,x,hq,hx⟩:=hg;obtain ⟨its,rv,p,hz⟩:=I.tuple hq;obtain ⟨u,hu,ru⟩:=rv.get hx;obtain ⟨f0,f1,f2,f3,f4,f5⟩:=hf it (by simp);refine wpAny_pyNext_tuple_item st (show s.heap.IsTuple a its.toArray from p) (x:=u) (by simpa using hu) fun h' st' sb=>?_;have I1:aA X pins σ H {s with heap:=h'}:=I.turned (t':=s.toks) (fun b o hb e=>(sb.2 b hb).trans e) f0 f1 f3 f4 f5;obtain ⟨o,e,c,d⟩:=id st';exact ⟨u,rfl,Bo (s:={s with heap:=h'}) e c d (by decide) ⟨x,H,I1,ru,⟨rfl,fun ys hy=>by rw [I.tuple_inj hy hq];exact hx⟩,st',fun b hb=>(hf b hb).1⟩⟩
 done:=by
  intro X hP hw hK hc i pins s σ H E I hf st hg;subst hP hw hK;obtain ⟨xs,hq,hx⟩:=hg;obtain ⟨its,rv,p,hz⟩:=I.tuple hq;obtain ⟨f0,f1,f2,f3,f4,f5⟩:=hf it (by simp);have hl:=rv.length;exact wpAny_pyNext_tuple_end (I.ok.hd hc) st (show s.heap.IsTuple a its.toArray from p) (by simp;omega) fun h' eb=>⟨rfl,I.turned (t':=s.toks) (fun b o hb e=>eb b o hb e) f0 f1 f3 f4 f5⟩
 self:=fun _ _ _ _ _ st h=>wpAny_pyIter_tupleiter st h
theorem uO {P:Program}{w:World}{K:zac}{tg:Expr}(it:Addr)(lo:Int)(n:Nat):yS P w K tg (Md lo n) [it] it (fun i h=>IsRangeIter h it (lo+(i:Nat) * 1) ((n:Int) - (i:Nat)) 1) where
 mem:=by simp
 obj:=fun i h st b hb=>by
  have e:b=it:=by simpa using hb
  subst e
  exact ⟨_,st,fun v z=>by
   have z':Data.fields _=Data.cell v:=z
   cases z'⟩
 keep:=fun i h h' st k=>k it (by simp) _ st
 item:=by
  intro X hP hw hK hc i pins s σ H E I hf st hg;subst hP hw hK;obtain ⟨f0,f1,f2,f3,f4,f5⟩:=hf it (by simp);have W:=Walks.range (prog:=X.prog) (w:=X.w) (I.ok.hd hc) it lo 1 n;refine W.item i s _ _ hg st fun v h' tk hv st' kk=>?_;obtain ⟨t,rfl⟩:=hv;have I1:aA X pins σ H {s with heap:=h',toks:=tk}:=I.turned (fun b o hb e=>kk b o (by simpa using hb) e) f0 f1 f3 f4 f5;refine ⟨_,rfl,Bo (s:={s with heap:=h',toks:=tk}) (n:="range_iterator") st' rfl rfl (by decide) ⟨.int (lo+i),H,I1,⟨t,?_⟩,⟨rfl,rfl⟩,st',fun b hb=>(hf b hb).1⟩⟩;rw [Int.mul_one]
 done:=by
  intro X hP hw hK hc i pins s σ H E I hf st hg;subst hP hw hK;obtain ⟨f0,f1,f2,f3,f4,f5⟩:=hf it (by simp);exact wpAny_pyNext_range_end (I.ok.hd hc) st (by have:n<=i:=hg;omega) fun h' eb=>⟨rfl,I.turned (t':=s.toks) (fun b o hb e=>eb b o hb e) f0 f1 f3 f4 f5⟩
 self:=fun _ _ _ _ _ st h=>wpAny_pyIter_rangeiter st h
section
variable  {X:Cx}{tg:Expr}
theorem zZ {H:Hp}{s:Shared}{R:It->Hp->Prop}{E:Tb}{lo hi:Int}{t u v:Tok}{tk:Nat}(I:aA X pins σ H s)(h1 : -(2 ^ 62)<=lo)(h2:lo < 2 ^ 62)(h3 : -(2 ^ 62)<=hi)(h4:hi < 2 ^ 62)
  (q:R (Md lo (hi - lo).toNat) H):wpAny (model X.prog X.w) X.A (pyIter (.ref s.heap.objs.size)) (ON X pins σ tg R) E {s with heap:=s.heap.push {cls:=.type "range",data:=.fields #[.int lo t,.int hi u,.int 1 v]},toks:=tk}:=by
 refine wpAny_pyIter_range (IsRange.new ..) (small_one h1 h2 h3 h4) ?_;have I1:aA X pins σ H {s with heap:=s.heap.push {cls:=.type "range",data:=.fields #[.int lo t,.int hi u,.int 1 v]},toks:=tk}:=I.kept fun b o e=>zae _ e
 refine ⟨(s.heap.push {cls:=.type "range",data:=.fields #[.int lo t,.int hi u,.int 1 v]}).objs.size,[(s.heap.push {cls:=.type "range",data:=.fields #[.int lo t,.int hi u,.int 1 v]}).objs.size],_,_,H,rfl,
  I1.kept (t':=tk) fun b o e=>zae _ e,uO _ lo (hi - lo).toNat,?_,fun b hb=>?_,q⟩
 ·have e1:lo+((0:Nat):Int) * 1=lo:=by simp
  have e2:(((hi - lo).toNat:Nat):Int) - ((0:Nat):Int)=Builtin.Range.rangeSize lo hi 1:=by rw [rangeSize_one];split <;> omega
  show IsRangeIter _ _ (lo+((0:Nat):Int) * 1) ((((hi - lo).toNat:Nat):Int) - ((0:Nat):Int)) 1
  rw [e1,e2];exact zal _ rfl
 ·have e:b=(s.heap.push {cls:=.type "range",data:=.fields #[.int lo t,.int hi u,.int 1 v]}).objs.size:=by simpa using hb
  subst e;exact I1.fpOk (zam _) (I1.hok.fresh (zam _))
def Fm (ta:TA):TI:=fun σ H R=>ta σ H fun vs H1=>∃j:Int,vs=[.int j]/\-(2 ^ 62)<=j/\j < 2 ^ 62/\R (Md 0 j.toNat) H1
theorem xZ {a:Expr}{ta:TA}{p pos:Pos}(hg:Gl X "range")(hm:X.mg "range" = none)(ha:PA X [a] ta)(hs:starEach [a] X.env=[(false,eval a X.env)]:=by rfl):PI X tg (.Call (.Name "range" p) [a] [] pos) (Fm ta):=by
 intro pins s σ H R I h;refine Call_ (qO I hg hm boot_range (PyProof.Rows.callWith_type1 (cV (ha pos pins s σ H _ I h) fun us s1 ⟨vs,H1,I1,r1,q1⟩=>?_) hs rfl));obtain ⟨j,e,q1,q2,q⟩:=q1;subst e
 cases r1 with
 |cons r rr =>
  cases rr;obtain ⟨t,rfl⟩:=r;exact call_range_1 (zZ I1 (by omega) (by omega) q1 q2 (by simpa using q))
def FZ (wi:TI)(g:TG)(tb:TS):TS:=fun D σ H=>wi σ H fun J H1=>∃W:Nat->Nat->St->Hp->Prop,(∃m,W 0 m σ H1)/\∀i m σ H,W i m σ H ->
 (J.stop i H/\D.nx σ H)\/(J.go i H/\∃N:St->Hp->Prop,(∀σ' H',N σ' H'->∃m',m' < m/\W (i+1) m' σ' H')/\∀x H',J.yld i H x H'->g x σ H' fun σ2 H2=>tb {D with nx:=N,ct:=N,bk:=D.nx} σ2 H2)
def kq (fp:Tf)(h:Heap):Tc:=fp.filterMap fun b=>(h.get? b).map fun o=>(b,o)
theorem em {fp:Tf}{h:Heap}{b:Addr}{o:Obj}(hb:b∈fp)(e:h.get? b=some o):(b,o)∈kq fp h:=zdb.mpr ⟨b,hb,by rw [e];rfl⟩
theorem pQ {fp:Tf}{h:Heap}{p:Addr×Obj}(hp:p∈kq fp h):p.1∈fp/\h.get? p.1=some p.2:=by
 obtain ⟨b,hb,e⟩:=zdb.mp hp
 cases q:h.get? b with
 |none=>rw [q] at e;cases e
 |some o =>
  rw [q] at e;have e':(b,o)=p:=Option.some.inj e;subst e';exact ⟨hb,q⟩
theorem aA.pinned {H:Hp}{s:Shared}{fp:Tf}(I:aA X pins σ H s)(hf:∀b∈fp,lK X pins H b)(ho:∀b∈fp,∃o,s.heap.get? b=some o/\∀v,o.data≠.cell v):aA X (pins++kq fp s.heap) σ H s :=
 I.pins_of fun p hp=>(zaL.mp hp).elim (fun z=>I.pin p (zaC _ z)) fun z=>by
  obtain ⟨hb,e⟩:=pQ z;obtain ⟨f0,f1,f2,_⟩:=hf p.1 hb;obtain ⟨o,e',d⟩:=ho p.1 hb;rw [e] at e';cases e';exact ⟨e,f0,f1,f2,d⟩
theorem aA.unpinned {pins pl:Tc}{H:Hp}{s:Shared}(I:aA X (pins++pl) σ H s):aA X pins σ H s:=I.pins_of fun p hp=>I.pin p (zaC _ (zbo _ hp))
theorem As {iter:Expr}{body:Tk}{wi:TI}{g:TG}{tb:TS}{pos:Pos}(hp:PassesOwn (model X.prog X.w) X.A X.env X.xe)(hc:X.calm=true)(hi:PI X tg iter wi)(hg:PG X tg g)(hb:o9 X body tb)
  (hs:∀x,foldedSetIterable iter X.env x=pure x:=by intro _;rfl):PS X (.For tg iter body [] pos) (FZ wi g tb):=by
 intro pins s σ H D I h;refine wpAny_For (cV (hi pins s σ H _ I h) fun v s1 h1=>cV h1 fun itv s2 h2=>?_) hs;obtain ⟨it,fp,tn,J,H2,e,I2,T,st2,f2,W,⟨m0,w0⟩,turn⟩:=h2;subst e;have stat:∀{H':Hp},(∀b∈fp,H' b=none)->∀b∈fp,lK X pins H' b:=fun hn b hb=>⟨hn b hb,(f2 b hb).2⟩;refine codeAny_forLoop_any (fun n s'=>∃i σ' H',aA X pins σ' H' s'/\tn i s'.heap/\(∀b∈fp,H' b=none)/\W i n σ' H') ?_ m0 ⟨0,σ,H2,I2,st2,fun b hb=>(f2 b hb).1,w0⟩;rintro n s3 ⟨i,σ3,H3,I3,st3,fr3,w3⟩;rcases turn i n σ3 H3 w3 with ⟨stop,qn⟩|⟨go,N,hN,step⟩
 ·refine zcA hp (cV (T.done X rfl rfl rfl hc i pins s3 σ3 H3 X.xe I3 (stat fr3) st3 stop) fun r s4 hh=>?_)
  obtain ⟨hr,I4⟩:=hh;subst hr;exact zdq ⟨σ3,H3,I4,qn⟩
 ·refine zcA hp (cV (T.item X rfl rfl rfl hc i pins s3 σ3 H3 X.xe I3 (stat fr3) st3 go) fun r s4 hh=>?_)
  obtain ⟨u,hr,h4⟩:=hh;subst hr;refine zcA hp (cV h4 fun _ s5 hh=>?_);obtain ⟨x,H5,I5,r5,y5,st5,fr5⟩:=hh;have I5':=I5.pinned (stat fr5) (T.obj _ _ st5);refine zcA hp (cV (hg _ s5 σ3 H5 x u _ I5' r5 (step x H5 y5)) fun _ s6 hh=>?_);obtain ⟨σ6,H6,I6,q6⟩:=hh;refine zcA hp (cV (hb _ s6 σ6 H6 _ I6 q6) fun f s7 q7=>?_)
  have again:∀{σ7:St} {H7:Hp},aA X (pins++kq fp s5.heap) σ7 H7 s7->N σ7 H7->∃m,m < n/\∃i σ' H',aA X pins σ' H' s7/\tn i s7.heap/\(∀b∈fp,H' b=none)/\W i m σ' H':=fun {σ7 H7} I7 n7=>by
   obtain ⟨m',hm,w7⟩:=hN σ7 H7 n7;refine ⟨m',hm,i+1,σ7,H7,I7.unpinned,T.keep _ _ _ st5 fun b hb o e=>(I7.pin (b,o) (zaC _ (zaC _ (em hb e)))).1,fun b hb=>?_,w7⟩;obtain ⟨o,e,d⟩:=T.obj _ _ st5 b hb;exact (I7.pin (b,o) (zaC _ (zaC _ (em hb e)))).2.1
  cases f with
  |next=>obtain ⟨σ7,H7,I7,n7⟩:=q7;exact again I7 n7
  |cont=>obtain ⟨σ7,H7,I7,n7⟩:=q7;exact again I7 n7
  |brk=>obtain ⟨σ7,H7,I7,q7⟩:=q7;exact ⟨σ7,H7,I7.unpinned,q7⟩
  |ret v=>obtain ⟨x7,σ7,H7,I7,r7,q7⟩:=q7;exact ⟨x7,σ7,H7,I7.unpinned,r7,q7⟩
end
abbrev R2:=V->V->Hp->VK->Prop
def jS (X:Cx)(f:Value->Value->Sem Value)(r:R2):Prop :=
 ∀(pins:Tc) (s:Shared) (σ:St) (H:Hp) (x y:V) (v u:Value) (Q:VK),aA X pins σ H s->aY x v->aY y u->r x y H Q ->
  wpAny (model X.prog X.w) X.A (f v u) (EP X pins σ Q) X.xe s
def NQ (X:Cx)(f:Value->Sem Value)(r:V->Hp->VK->Prop):Prop :=
 ∀(pins:Tc) (s:Shared) (σ:St) (H:Hp) (x:V) (v:Value) (Q:VK),aA X pins σ H s->aY x v->r x H Q ->
  wpAny (model X.prog X.w) X.A (f v) (EP X pins σ Q) X.xe s
def d9 (X:Cx)(f:Value)(r:List V->Hp->VK->Prop):Prop :=
 ∀(pins:Tc) (s:Shared) (σ:St) (H:Hp) (xs:List V) (us:Te) (Q:VK),aA X pins σ H s->aW xs us->r xs H Q ->
  wpAny (model X.prog X.w) X.A (call f us) (EP X pins σ Q) X.xe s
def NR (X:Cx)(r:V->Hp->(Bool->Hp->Prop)->Prop):Prop :=
 ∀(pins:Tc) (s:Shared) (σ:St) (H:Hp) (x:V) (v:Value) (Q:Bool->Hp->Prop),aA X pins σ H s->aY x v->r x H Q ->
  wpAny (model X.prog X.w) X.A (truthy v) (TP X pins σ Q) X.xe s
def Iy (r:R2)(ta tb:TE):TE:=fun σ H Q=>ta σ H fun x H1=>tb σ H1 fun y H2=>r x y H2 Q
def Ob (r:V->Hp->VK->Prop)(ta:TE):TE:=fun σ H Q=>ta σ H fun x H1=>r x H1 Q
def rI (C:Int->Int->Prop)(g:Int->Int->V):R2:=fun x y H Q=>∃i j,x=.int i/\y=.int j/\C i j/\Q (g i j) H
def xP (g:Int->Int->V):R2:=fun x y H Q=>∃i j,x=.int i/\y=.int j/\Q (g i j) H
def rU (g:Int->V):V->Hp->VK->Prop:=fun x H Q=>∃i,x=.int i/\Q (g i) H
section
variable  {X:Cx}{a b c:Expr}{ta tb tc:TE}{pos:Pos}
theorem Ik (ha:PE X a ta)(hb:PE X b tb){s:Shared}{H:Hp}{R:V->V->Hp->Prop}(I:aA X pins σ H s)
  (h:ta σ H fun x H1=>tb σ H1 fun y H2=>R x y H2) {Q:Tb} {f:Value->Value->Sem Value}
  (hf:∀v u s2 x y H2,aA X pins σ H2 s2->aY x v->aY y u->R x y H2->wpAny (model X.prog X.w) X.A (f v u) Q X.xe s2) :
  wpAny (model X.prog X.w) X.A (eval a X.env) (fun v s₁=>wpAny (model X.prog X.w) X.A (eval b X.env) (fun u s₂=>wpAny (model X.prog X.w) X.A (f v u) Q X.xe s₂) X.xe s₁) X.xe s:=by
 refine cV (ha pins s σ H _ I h) fun v s1 hh=>?_;obtain ⟨x,H1,I1,r1,q1⟩:=hh;refine cV (hb pins s1 σ H1 _ I1 q1) fun u s2 hh=>?_;obtain ⟨y,H2,I2,r2,q2⟩:=hh;exact hf v u s2 x y H2 I2 r1 r2 q2
theorem mC {op:Operator}{r:R2}(ho:jS X (binaryOp op) r)(ha:PE X a ta)(hb:PE X b tb):PE X (.BinOp a op b pos) (Iy r ta tb):=by
 intro pins s σ H Q I h;exact wpAny_BinOp (Ik ha hb I h fun v u s2 x y H2 I2 rx ry q=>ho pins s2 σ H2 x y v u Q I2 rx ry q)
theorem Ka {op:UnaryOp}{r:V->Hp->VK->Prop}(ho:NQ X (unaryOp op) r)(ha:PE X a ta):PE X (.UnaryOp op a pos) (Ob r ta):=by
 intro pins s σ H Q I h;exact UnaryOp_ (cV (ha pins s σ H _ I h) fun v s1 ⟨x,H1,I1,r1,q1⟩=>ho pins s1 σ H1 x v Q I1 r1 q1)
theorem Lv {f:Value->Value->Sem Value}{C:Int->Int->Prop}{g:Int->Int->Int}
  (rule:∀(i j:Int) (t u:Tok) (s:Shared) (Q:Tb) (E:Tb),C i j->Q (.int (g i j) s.toks) {s with toks:=s.toks+1}->wpAny (model X.prog X.w) X.A (f (.int i t) (.int j u)) Q E s) :
  jS X f (rI C fun i j=>.int (g i j)):=by
 intro pins s σ H x y v u Q I rx ry h;obtain ⟨i,j,rfl,rfl,hc,q⟩:=h;obtain ⟨t,rfl⟩:=rx;obtain ⟨t',rfl⟩:=ry;exact rule i j t t' s _ _ hc ⟨.int (g i j),H,I.tok _,⟨_,rfl⟩,q⟩
theorem Kh {f:Value->Value->Sem Value}{g:Int->Int->Int}
  (rule:∀(i j:Int) (t u:Tok) (s:Shared) (Q:Tb) (E:Tb),Q (.int (g i j) s.toks) {s with toks:=s.toks+1}->wpAny (model X.prog X.w) X.A (f (.int i t) (.int j u)) Q E s) :
  jS X f (xP fun i j=>.int (g i j)):=by
 intro pins s σ H x y v u Q I rx ry h;obtain ⟨i,j,rfl,rfl,q⟩:=h;obtain ⟨t,rfl⟩:=rx;obtain ⟨t',rfl⟩:=ry;exact rule i j t t' s _ _ ⟨.int (g i j),H,I.tok _,⟨_,rfl⟩,q⟩
theorem Hb {f:Value->Value->Sem Value}{g:Int->Int->Bool}
  (rule:∀(i j:Int) (t u:Tok) (s:Shared) (Q:Tb) (E:Tb),Q (.bool (g i j)) s->wpAny (model X.prog X.w) X.A (f (.int i t) (.int j u)) Q E s) :
  jS X f (xP fun i j=>.bl (g i j)):=by
 intro pins s σ H x y v u Q I rx ry h;obtain ⟨i,j,rfl,rfl,q⟩:=h;obtain ⟨t,rfl⟩:=rx;obtain ⟨t',rfl⟩:=ry;exact rule i j t t' s _ _ ⟨.bl (g i j),H,I,rfl,q⟩
def Iv (i j:Int):Prop:=0 < j/\j < 1073741824
def Iu (i j:Int):Prop:=0<=j/\j<=1000000/\i.natAbs < 2 ^ 64
def Cj (i j:Int):Prop:=(-(2 ^ 64) < i/\i < 2 ^ 64)\/(-(2 ^ 64) < j/\j < 2 ^ 64)
theorem Cj.ok {i j:Int}(h:Cj i j):IntMulOk i j:=by
 rcases h with ⟨h1,h2⟩|⟨h1,h2⟩
 ·exact .of_left (intBits_le_64 h1 h2)
 ·exact .of_right (intBits_le_64 h1 h2)
theorem Ha:jS X (binaryOp .Add) (xP fun i j=>.int (i+j)):=Kh fun _ _ _ _ _ _ _ q=>add_int q
theorem G3:jS X (binaryOp .Sub) (xP fun i j=>.int (i - j)):=Kh fun _ _ _ _ _ _ _ q=>sub_int q
theorem G6:jS X (binaryOp .Mult) (rI Cj fun i j=>.int (i * j)):=Lv fun _ _ _ _ _ _ _ hc q=>mul_int q hc.ok
theorem Dw:jS X (binaryOp .FloorDiv) (rI Iv fun i j=>.int (i / j)):=Lv fun i j _ _ _ _ _ hc q=>by
 have h1:(0:Int) < j:=hc.1;have h2:j < 1073741824:=hc.2;exact floordiv_int (by omega) (by rw [Int.fdiv_eq_ediv_of_nonneg i (by omega)];exact q) (.inl (PyProof.noPylong_small (by omega)))
theorem G7:jS X (binaryOp .Mod) (rI (fun _ j=>0 < j) fun i j=>.int (i % j)):=Lv fun i j _ _ _ _ _ hc q=>by
 have h1:(0:Int) < j:=hc;exact mod_int' (by omega) (by rw [Int.fmod_eq_emod_of_nonneg i (by omega)];exact q)
theorem G5:jS X (binaryOp .Pow) (rI Iu fun i j=>.int (i ^ j.toNat)):=Lv fun _ _ _ _ _ _ _ hc q=>pow_int_small hc.1 hc.2.1 hc.2.2 q
theorem OV {f:Value->Sem Value}{g:Int->Int}
  (rule:∀(i:Int) (t:Tok) (s:Shared) (Q:Tb) (E:Tb),Q (.int (g i) s.toks) {s with toks:=s.toks+1}->wpAny (model X.prog X.w) X.A (f (.int i t)) Q E s) :
  NQ X f (rU fun i=>.int (g i)):=by
 intro pins s σ H x v Q I rx h;obtain ⟨i,rfl,q⟩:=h;obtain ⟨t,rfl⟩:=rx;exact rule i t s _ _ ⟨.int (g i),H,I.tok _,⟨_,rfl⟩,q⟩
theorem FP:NQ X (unaryOp .USub) (rU fun i=>.int (-i)):=OV fun _ _ _ _ _ q=>neg_int q
end
section
variable  {X:Cx}{a b c:Expr}{ta tb tc:TE}{pos:Pos}
theorem Bu {H:Hp}{s:Shared}{Q:VK}{k k':Bool}(I:aA X pins σ H s)(q:Q (.bl k) H)(e:k=k'):EP X pins σ Q (.bool k') s:=by
 subst e;exact ⟨.bl k,H,I,rfl,q⟩
theorem Fg:jS X (compareOp .Lt) (xP fun i j=>.bl (decide (i < j))):=Hb fun _ _ _ _ _ _ _ q=>lt_int q
theorem Kf:jS X (compareOp .LtE) (xP fun i j=>.bl (decide (i<=j))):=Hb fun _ _ _ _ _ _ _ q=>le_int q
theorem Kg:jS X (compareOp .Gt) (xP fun i j=>.bl (decide (j < i))):=Hb fun _ _ _ _ _ _ _ q=>gt_int q
theorem G8:jS X (compareOp .Is) (fun x y H Q=>y=.non/\Q (.bl (decide (x=.non))) H):=by
 intro pins s σ H x y v u Q I rx ry h;obtain ⟨rfl,q⟩:=h;cases ry;refine is_none_gen (Bu I q ?_)
 cases x <;> first
  |(cases rx;rfl)
  |(obtain ⟨t,rfl⟩:=rx;rfl)
theorem Dv:jS X (compareOp .IsNot) (fun x y H Q=>y=.non/\Q (.bl (!decide (x=.non))) H):=by
 intro pins s σ H x y v u Q I rx ry h;obtain ⟨rfl,q⟩:=h;cases ry;refine isnot_none_gen (Bu I q ?_)
 cases x <;> first
  |(cases rx;rfl)
  |(obtain ⟨t,rfl⟩:=rx;rfl)
theorem jS.or {f:Value->Value->Sem Value}{r r':R2}(h:jS X f r)(h':jS X f r'):jS X f (fun x y H Q=>r x y H Q\/r' x y H Q):=by
 intro pins s σ H x y v u Q I rx ry q;rcases q with q|q
 ·exact h pins s σ H x y v u Q I rx ry q
 ·exact h' pins s σ H x y v u Q I rx ry q
theorem dQ (b:Expr){op:CmpOp}(h:op≠.In:=by decide)(h2:op≠.NotIn:=by decide):behindInMarks op b=false:=by
 have e1:(op == CmpOp.In)=false:=by cases op <;> first|rfl|exact absurd rfl h
 have e2:(op == CmpOp.NotIn)=false:=by cases op <;> first|rfl|exact absurd rfl h2
 cases b <;> simp [behindInMarks,e1,e2]
theorem lm {op:CmpOp}{r:R2}(ho:jS X (compareOp op) r)(ha:PE X a ta)(hb:PE X b tb)(hm:behindInMarks op b=false):PE X (.Compare a [op] [b] pos) (Iy r ta tb):=by
 intro pins s σ H Q I h;exact wpAny_Compare1 (Ik ha hb I h fun v u s2 x y H2 I2 rx ry q=>ho pins s2 σ H2 x y v u Q I2 rx ry q) hm
def EX (t:TE):TT:=fun σ H Q=>t σ H fun x H'=>∃k,x=.bl k/\Q k H'
theorem wx {op:CmpOp}{r:R2}(ho:jS X (compareOp op) r)(ha:PE X a ta)(hb:PE X b tb)(hm:behindInMarks op b=false):PT X (.Compare a [op] [b] pos) (EX (Iy r ta tb)):=by
 intro pins s σ H Q I h
 refine wpAny_isTrue_Compare1 (cV (ha pins s σ H _ I h) fun v s1 ⟨x,H1,I1,r1,q1⟩=>cV (hb pins s1 σ H1 _ I1 q1) fun u s2 ⟨y,H2,I2,r2,q2⟩ =>
  cV (ho pins s2 σ H2 x y v u _ I2 r1 r2 q2) fun c s3 ⟨z,H3,I3,r3,k,e,q3⟩=>?_) hm
 subst e;cases r3;exact zb2 ⟨H3,I3,q3⟩
def Ei (K:zac)(x:V)(H:Hp)(k:Bool):Prop :=
 match x with
 |.non=>k=false
 |.bl b=>k=b
 |.int i=>k=(i != 0)
 |.str y=>y.length<=sizeLine/\k=((y.length:Int) != 0)
 |.byt y=>y.size<=sizeLine/\k=((y.size:Int) != 0)
 |.ref p=>(∃xs,iV K H p xs/\k = !xs.isEmpty)\/(∃xs,eS K H p xs/\k = !xs.isEmpty)\/∃kvs,H p=some (.dK kvs)/\k = !kvs.isEmpty
 |_=>False
theorem vB {κ:Type}{kvs:List (κ×V)}{vs:List (κ×Value)}(r:KV kvs vs):(!vs.isEmpty) = !kvs.isEmpty:=by
 cases r <;> rfl
theorem ou {xs:List V}{its:Te}(r:aW xs its):(!its.toArray.isEmpty) = !xs.isEmpty:=by
 cases r <;> simp
theorem oj:(sizeLine:Nat) < 2 ^ 63:=by rw [za3];decide
theorem uQ:NR X (fun x H Q=>∃k,Ei X.K x H k/\Q k H):=by
 intro pins s σ H x v Q I rx h;obtain ⟨k,e,q⟩:=h;have hl:=oj;have hs:sizeLine=16777216:=za3
 cases x with
 |non =>
  cases rx;have e':k=false:=e;subst e';exact truthy_none ⟨H,I,q⟩
 |bl b =>
  cases rx;have e':k=b:=e;subst e';exact zb2 ⟨H,I,q⟩
 |int i =>
  obtain ⟨t,rfl⟩:=rx;have e':k=(i != 0):=e;subst e';exact PySem.P.truthy_int ⟨H,I,q⟩
 |str y =>
  obtain ⟨t,rfl⟩:=rx;obtain ⟨hy,e'⟩:y.length<=sizeLine/\k=((y.length:Int) != 0):=e;subst e';exact PySem.P.truthy_str (by omega) ⟨H,I.tok _,q⟩
 |byt y =>
  obtain ⟨t,rfl⟩:=rx;obtain ⟨hy,e'⟩:y.size<=sizeLine/\k=((y.size:Int) != 0):=e;subst e';exact PySem.W.truthy_bytes (by omega) ⟨H,I.tok _,q⟩
 |ref p =>
  cases rx;have e':(∃xs,iV X.K H p xs/\k = !xs.isEmpty)\/(∃xs,eS X.K H p xs/\k = !xs.isEmpty)\/∃kvs,H p=some (.dK kvs)/\k = !kvs.isEmpty:=e;rcases e' with ⟨xs,hx,e'⟩|⟨xs,hx,e'⟩|⟨kvs,hx,e'⟩
  ·subst e'
   obtain ⟨its,r,pl,hz⟩:=I.list hx;have hlen:=r.length;exact wpAny_truthy_list pl.isList (by simp only [zaz];omega) ⟨H,I.tok _,by rw [ou r];exact q⟩
  ·subst e'
   obtain ⟨its,r,pl,hz⟩:=I.tuple hx;have hlen:=r.length;exact truthy_tuple pl (by simp only [zaz];omega) ⟨H,I.tok _,by rw [ou r];exact q⟩
  ·subst e'
   obtain ⟨hz,hS,vs,r,m⟩:kvs.length<=sizeLine/\(p == sysModules)=false/\∃vs,KV kvs vs/\s.heap.DictOf (bz X.prog X.w) p vs:=I.hok p _ hx;have hlen:kvs.length=vs.length:=Paired.length r;exact wpAny_truthy_dict hS m (by omega) ⟨H,I.tok _,by rw [vB r];exact q⟩
 |_=>exact (show False from e).elim
theorem Aq (ha:PE X a ta)(he:∀whole,isTrue a X.env whole=(do let v ←whole;standAt a.pos;holding [v] (truthy v))) :
  PT X a (fun σ H Q=>ta σ H fun x H'=>∃k,Ei X.K x H' k/\Q k H'):=by
 intro pins s σ H Q I h;exact isTrue_plain (cV (ha pins s σ H _ I h) fun v s1 ⟨x,H1,I1,r1,q1⟩=>uQ pins s1 σ H1 x v Q I1 r1 q1) (he _)
theorem u6:jS X (binaryOp .Add) (fun x y H Q=>∃i j,x=.str i/\y=.str j/\i.length+j.length<=sizeLine/\Q (.str (i++j)) H):=by
 intro pins s σ H x y v u Q I rx ry h;obtain ⟨i,j,rfl,rfl,hz,q⟩:=h;obtain ⟨t,rfl⟩:=rx;obtain ⟨t',rfl⟩:=ry;exact add_str (fun t' tk=>⟨.str (i++j),H,I.tok _,⟨_,rfl⟩,q⟩) hz
theorem gP {x:V}{us:Te}(r:aW [x] us):∃u,us=[u]/\aY x u:=by
 cases r with
 |cons r1 r2=>cases r2;exact ⟨_,rfl,r1⟩
theorem IL {x y:V}{us:Te}(r:aW [x,y] us):∃u w',us=[u,w']/\aY x u/\aY y w':=by
 cases r with
 |cons r1 r2 =>
  cases r2 with
  |cons r3 r4=>cases r4;exact ⟨_,_,rfl,r1,r3⟩
theorem yL (hc:X.calm=true):d9 X (.builtin "max") (fun xs H Q=>∃i j,xs=[.int i,.int j]/\Q (.int (if j > i then j else i)) H):=by
 intro pins s σ H xs us Q I r h;obtain ⟨i,j,rfl,q⟩:=h;obtain ⟨u,w',rfl,⟨t,rfl⟩,⟨t',rfl⟩⟩:=IL r;refine max_two_ints (I.ok.hd hc) fun h' tk k=>⟨_,H,I.kept k,?_,q⟩
 by_cases hj:j > i
 ·rw [if_pos hj,if_pos hj];exact ⟨_,rfl⟩
 ·rw [if_neg hj,if_neg hj];exact ⟨_,rfl⟩
end
theorem pB.some_of {v:V}{o:Tg}(r:pB (some v) o):∃u,o=some u/\aY v u:=by
 cases o with
 |none=>exact (show False from r).elim
 |some u=>exact ⟨u,rfl,r⟩
structure Pn (K:zac)(C:Addr):Prop where
 pg:PySem.W.plainGet K C Str.empty=true
 hd:PySem.W.hasDictIn K C=true
 po:PySem.W.plainOver K C=true
 sa:PySem.W.findIn K (.ref C) "__setattr__" = some (some (.builtin "object.__setattr__"))
structure NV (K:zac)(C:Addr)(m:Str)(f:Addr):Prop where
 at_:PySem.W.findIn K (.ref C) m=some (some (.ref f))
 fn:PySem.W.isFn K (.ref f)=true
 kp:PySem.W.keepIn K (.ref f)=true
structure da (k:Nat)(A:Around):Prop where
 hd:A.handled=none
 dp:A.depth+3 * k+5 < recursionLimit
 un:A.units+16 * k+200 < cLine
theorem da.mono {j k:Nat}(r:da k A)(h:j<=k):da j A:=⟨r.hd,by have:=r.dp;omega,by have:=r.un;omega⟩
theorem da.deeper {k:Nat}{A:Around}(r:da (k+1) A)(env:Env):da k (A.deeper env) :=
 ⟨r.hd,by have:=r.dp;show A.depth+1+3 * k+5 < _;omega,by have:=r.un;show A.units+3+16 * k+200 < _;omega⟩
theorem da.depth {k:Nat}{A:Around}(r:da k A):A.depth < recursionLimit:=by have:=r.dp;omega
theorem da.units {k:Nat}{A:Around}(r:da k A):A.units+64 < cLine:=by have:=r.un;omega
def zt:TA:=fun _ H Q=>Q [] H
def pG (ta:TE)(tr:TA):TA:=fun σ H Q=>ta σ H fun x H1=>tr σ H1 fun xs H2=>Q (x::xs) H2
section
variable  {X:Cx}{e:Expr}{es:Tj}{te:TE}{t:TA}{pos:Pos}
theorem qJ:PA X [] zt:=fun _ _ _ _ H Q I h=>Calls.spliced_nil ⟨[],H,I,.nil,h⟩
theorem lp (ha:PE X e te)(hr:PA X es t)(hs:starEach (e::es) X.env=(false,eval e X.env)::starEach es X.env:=by rfl):PA X (e::es) (pG te t):=by
 intro pos pins s σ H Q I h;rw [hs]
 show wpAny _ _ (spliced ((false,eval e X.env)::backTo pos (starEach es X.env))) _ _ s
 refine Calls.spliced_cons (cV (ha pins s σ H _ I h) fun u s1 hh=>?_);obtain ⟨x,H1,I1,r1,q1⟩:=hh;exact cV (hr pos pins s1 σ H1 _ I1 q1) fun us s2 ⟨xs,H2,I2,r2,q2⟩=>⟨x::xs,H2,I2,.cons r1 r2,q2⟩
def FY (t:TA):TE:=fun σ H Q=>t σ H fun xs H1=>xs.length<=sizeLine/\∀p,H1 p=none->Q (.ref p) (upd H1 p (.tup xs))
def Ju (t:TA):TE:=fun σ H Q=>t σ H fun xs H1=>xs.length<=sizeLine/\∀p,H1 p=none->Q (.ref p) (upd H1 p (.lst xs))
theorem AB {x1}(h:PA X es t):PE X (.Tuple es x1 pos) (FY t):=by
 intro pins s σ H Q I hq;refine wpAny_Tuple_spliced (cV (h pos pins s σ H _ I hq) fun us s1 ⟨xs,H1,I1,r,z,q⟩=>⟨by rw [←r.length];exact z,?_⟩);have hf:H1 s1.heap.objs.size=none:=I1.hok.fresh (zam _);refine ⟨.ref s1.heap.objs.size,upd H1 s1.heap.objs.size (.tup xs),I1.laid (t':=s1.toks) (fun b u e=>zae _ e) (zam _) ?_,rfl,q _ hf⟩;exact ⟨z,us,r,jB.new _ _⟩
theorem GY (h:PA X es t):PE X (.List es pos) (Ju t):=by
 intro pins s σ H Q I hq;refine wpAny_List_spliced (cV (h pos pins s σ H _ I hq) fun us s1 ⟨xs,H1,I1,r,z,q⟩=>⟨by rw [←r.length];exact z,?_⟩);have hf:H1 s1.heap.objs.size=none:=I1.hok.fresh (zam _);refine ⟨.ref s1.heap.objs.size,upd H1 s1.heap.objs.size (.lst xs),I1.laid (t':=s1.toks) (fun b u e=>zae _ e) (zam _) ?_,rfl,q _ hf⟩;exact ⟨z,us,0,r,zal _ rfl⟩
end
abbrev Sp:=List V->Hp->VK->XK->Prop
abbrev xu:=List Env->Hp->Shared->XK->Tb
structure Eu (P:Program)(w:World)(K:zac)(mg:Td)(base:Heap)(A:Around)(outer:List Env)(s:Shared)(H:Hp):Prop where
 frames:A.frames=some outer
 mod:Mod K mg base
 bs:∀b o,base.get? b=some o->s.heap.get? b=some o/\H b=none
 bsz:base.objs.size<=s.heap.objs.size
 funs:s.heap.FunFrames base outer
 frf:∀b∈yy outer,H b=none
 hok:g9 P w H s.heap
 bare:AllBare s.gens
def CE (outer:List Env)(P:Program)(w:World)(H:Hp)(s:Shared)(Q:VK)(u:Value)(s':Shared):Prop :=
 ∃v H',s'.os=s.os/\AllBare s'.gens/\Un (yy outer) [] H H' s.heap s'.heap/\g9 P w H' s'.heap/\aY v u/\Q v H'
def CR (CX:xu)(outer:List Env)(P:Program)(w:World)(H:Hp)(s:Shared)(Q:VK)(E:XK)(r:Result)(s':Shared):Prop :=
 match r with
 |.ok (.ret u)=>CE outer P w H s Q u s'
 |.ok _=>False
 |.error e=>CX outer H s E e s'
structure cP (P:Program)(w:World)(K:zac)(mg:Td)(base:Heap)(CX:xu)(k:Nat)(f:Addr)(fd:FuncData)(ps:Tn)(sp:Sp):Prop where
 len:∀vs H Q E,sp vs H Q E->vs.length=ps.length
 run:∀(A:Around) (outer:List Env) (s:Shared) (H:Hp) (args:Args) (us:Te) (vs:List V) (Q:VK) (E:XK),da k A->Eu P w K mg base A outer s H->BindsTo s fd args (ps.zip us)->aW vs us->sp vs H Q E ->
  codeAny (model P w) A (.call (.ref f) args) (CR CX outer P w H s Q E) s
theorem cP.imp {P:Program}{w:World}{K:zac}{mg:Td}{base:Heap}{CX:xu}{k:Nat}{f:Addr}{fd:FuncData}{ps:Tn}{sp sp':Sp}(F:cP P w K mg base CX k f fd ps sp)
  (h:∀vs H Q E,sp' vs H Q E->sp vs H Q E):cP P w K mg base CX k f fd ps sp' :=
 ⟨fun vs H Q E q=>F.len vs H Q E (h _ _ _ _ q),fun A outer s H args us vs Q E hr he hb hv hs=>F.run A outer s H args us vs Q E hr he hb hv (h _ _ _ _ hs)⟩
section
variable  {X:Cx}{pins:Tc}{σ:St}{H:Hp}{s s':Shared}
theorem aA.env0 (I:aA X pins σ H s):Eu X.prog X.w X.K X.mg X.base X.A X.stack s H :=
 ⟨I.ok.frames,I.ok.mod,I.bs,zbF I.ok.bsz I.sz,I.stack,I.stkFree,I.hok,I.bare⟩
theorem aA.after {Q:VK}{u:Value}(I:aA X pins σ H s)(h:CE X.stack X.prog X.w H s Q u s'):EP X pins σ Q u s':=by
 obtain ⟨v,H',os,bare,un,hok,r,q⟩:=h;obtain ⟨hh,g,d,t,os'⟩:=s';obtain rfl:os'=s.os:=os;exact ⟨v,H',I.call (h':=hh) (g':=g) (d':=d) (t':=t) (ch:=[]) un hok bare (fun b z=>absurd z (by simp)),r,q⟩
end
def wj (sp:Sp)(dvs:List V)(E:XK)(t:TA):TE:=fun σ H Q=>t σ H fun vs H1=>sp (vs++dvs) H1 Q E
def iU (K:zac)(fd:FuncData)(ps:Tn)(ds:Te):Prop :=
 ∀(s:Shared) (us:Te),K.In s.heap->(us++ds).length=ps.length->BindsTo s fd ⟨us,[]⟩ (ps.zip (us++ds))
theorem iU.all {K:zac}{fd:FuncData}{ps:Tn}(h:∀us:Te,us.length=ps.length->bindArgs fd ⟨us,[]⟩=pure (ps.zip us)):iU K fd ps []:=fun s us _ hl=>by
 rw [zbm] at hl ⊢;exact .of_eq (h us hl)
def vZ (CX:xu)(X:Cx)(E:XK):Prop:=∀(pins:Tc) (σ:St) (H:Hp) (s:Shared) (e:Value) (s':Shared),aA X pins σ H s->CX X.stack H s E e s'->X.xe e s'
section
variable  {X:Cx}{CX:xu}{k:Nat}{f C:Addr}{fd:FuncData}{ps:Tn}{sp:Sp}{dvs:List V}{ds:Te}{E:XK}{x m:Str}{p pos apos:Pos}{e o:Expr}{es:Tj}{ta:TE}{t:TA}
theorem F9 {pins:Tc}{σ:St}{H:Hp}{s:Shared}{Q:VK}{us:Te}{vs:List V}(F:cP X.prog X.w X.K X.mg X.base CX k f fd ps sp)(hr:da k X.A)(hb:iU X.K fd ps ds)(hd:aW dvs ds)(hx:vZ CX X E)
  (I:aA X pins σ H s) (r:aW vs us) (h:sp (vs++dvs) H Q E):wpAny (model X.prog X.w) X.A (call (.ref f) us) (EP X pins σ Q) X.xe s:=by
 have r2:aW (vs++dvs) (us++ds):=r.append hd
 have hl:(us++ds).length=ps.length:=by rw [←r2.length];exact F.len _ _ _ _ h
 refine zc1 (zbg (F.run X.A X.stack s H ⟨us,[]⟩ (us++ds) (vs++dvs) Q E hr I.env0 (hb s us I.kIn hl) r2 h) fun r s' hq=>?_)
 cases r with
 |error e=>exact hx pins σ H s e s' I hq
 |ok fl =>
  cases fl with
  |ret u=>exact I.after hq
  |next=>exact False.elim hq
  |brk=>exact False.elim hq
  |cont=>exact False.elim hq
theorem qI (F:cP X.prog X.w X.K X.mg X.base CX k f fd ps sp)(hr:da k X.A)(hg:Gl X x)(hm:X.mg x=some (.ref f))(hk:PySem.W.keepIn X.K (.ref f)=true)(hb:iU X.K fd ps ds)(hd:aW dvs ds)(hx:vZ CX X E)
  (ha:PA X (e::es) t) (hdb:(x == ("__debug__" : Str))=false:=by decide) (he:starEach (e::es) X.env=(false,eval e X.env)::starEach es X.env:=by rfl) (hpl:(backTo pos (starEach es X.env)).any (·.1)=false:=by rfl) :
  PE X (.Call (.Name x p) (e::es) [] pos) (wj sp dvs E t):=by
 intro pins s σ H Q I h;refine zdc (wO I hg hm ?_ hdb);refine PySem.W.callWith_K (h₀:=X.base) I.ok.mod.kin hk (cV (ha pos pins s σ H _ I h) fun us s1 ⟨vs,H1,I1,r,q⟩=>⟨I1.kIn,?_⟩) he hpl;exact F9 F hr hb hd hx I1 r q
end
structure aC (N P:Tn)(sc:Scope):Prop where
 kind:sc.kind=.function
 co:sc.isCoroutine=false
 gen:sc.isGenerator=false
 nd:N.Nodup
 pre:N.take P.length=P
 par:∀x∈P,sc.names.lookup x=some .local\/sc.names.lookup x=some .cell
 nofree:∀y∈sc.names,y.2≠.free
theorem qc {kindOf:Str->Option NameKind}{x:Str}:∀{binds:List (Str×Value)} {m:Td},(∀v,(x,v)∉binds)->bindL kindOf binds m x=m x
 |[],_,_=>rfl
 |(n,v)::r,m,h=>by
  unfold bindL;rw [qc fun w hw=>h w (zaj _ hw)];split
  ·have:x≠n:=by rintro rfl;exact h v zai
   simp [this]
  ·rfl
theorem qe {kindOf:Str->Option NameKind}{x:Str}:∀{binds:List (Str×Value)} {m:Td},(∀v,(x,v)∉binds)->bindC kindOf binds m x=m x
 |[],_,_=>rfl
 |(n,v)::r,m,h=>by
  unfold bindC;rw [qe fun w hw=>h w (zaj _ hw)];split
  ·rfl
  ·have:x≠n:=by rintro rfl;exact h v zai
   simp [this]
theorem qd {kindOf:Str->Option NameKind}{x:Str}{v:Value}:∀{P:Tn} {vs:Te} {i:Nat} {m:Td},P.Nodup->P[i]?=some x->vs[i]?=some v->kindOf x=some .local ->
  bindL kindOf (P.zip vs) m x=some v
 |[],_,_,_,_,h,_,_=>by simp at h
 |_::_,[],_,_,_,_,h,_=>by simp at h
 |p::P,w::vs,0,m,nd,h1,h2,hk=>by
  simp at h1 h2;subst h1;subst h2
  show bindL kindOf ((p,w)::P.zip vs) m p=_
  unfold bindL;rw [qc fun v hv=>(zaP.mp nd).1 (zdr hv).1,if_pos hk];simp
 |p::P,w::vs,i+1,m,nd,h1,h2,hk=>by
  show bindL kindOf ((p,w)::P.zip vs) m x=_
  unfold bindL;exact qd (i:=i) (zaP.mp nd).2 (by simpa using h1) (by simpa using h2) hk
theorem qf {kindOf:Str->Option NameKind}{x:Str}{v:Value}:∀{P:Tn} {vs:Te} {i:Nat} {m:Td},P.Nodup->P[i]?=some x->vs[i]?=some v->kindOf x≠some .local ->
  bindC kindOf (P.zip vs) m x=some v
 |[],_,_,_,_,h,_,_=>by simp at h
 |_::_,[],_,_,_,_,h,_=>by simp at h
 |p::P,w::vs,0,m,nd,h1,h2,hk=>by
  simp at h1 h2;subst h1;subst h2
  show bindC kindOf ((p,w)::P.zip vs) m p=_
  unfold bindC;rw [qe fun v hv=>(zaP.mp nd).1 (zdr hv).1,if_neg hk];simp
 |p::P,w::vs,i+1,m,nd,h1,h2,hk=>by
  show bindC kindOf ((p,w)::P.zip vs) m x=_
  unfold bindC;exact qf (i:=i) (zaP.mp nd).2 (by simpa using h1) (by simpa using h2) hk
def gS (N:Tn)(vs:List V):St:=vs.map some++List.replicate (N.length - vs.length) none
def mn (CX:xu)(P:Program)(w:World)(K:zac)(mg:Td)(base:Heap)(N:Tn)(qual:Str)(scope:Scope)(f:Addr)(cd:Value)(A:Around)(outer:List Env)(s:Shared)(H:Hp)(E:XK):Cx where
 prog:=P
 w:=w
 K:=K
 mg:=mg
 base:=base
 A:=A.deeper (envOfC qual scope s.heap.objs.size f cd)
 N:=N
 s₀:=s
 H₀:=H
 env:=envOfC qual scope s.heap.objs.size f cd
 outer:=outer
 stack:=envOfC qual scope s.heap.objs.size f cd::outer
 ex:=[]
 calm:=true
 fn:=fun _=>true
 pn:=[]
 xe:=fun e s'=>wpAny (model P w) (A.deeper (envOfC qual scope s.heap.objs.size f cd)) (leaving (envOfC qual scope s.heap.objs.size f cd) e) (fun _ s''=>CX outer H s E e s'') (fun e' s''=>CX outer H s E e' s'') s'
theorem ui {sc:Scope}{n:Nat}{x:Str}(h:sc.names.lookup x=some .cell):∃c,(cellsFrom n sc.names []).lookup x=some c:=by
 have q:=zcl sc.names n [] (.inl h);exact zcD.mp q
theorem yt {CX:xu}{P:Program}{w:World}{K:zac}{mg:Td}{base:Heap}{N ps:Tn}{qual:Str}{scope:Scope}{f:Addr}{cd:Value}{A:Around}{outer:List Env}{s s1:Shared}{H:Hp}{E:XK}{us:Te}{vs:List V}
  (S:aC N ps scope) (hd:A.handled=none) (e0:Eu P w K mg base A outer s H) (hl:vs.length=ps.length) (r:aW vs us)
  (x:InCallC s s.heap.objs.size (bindL (envOfC qual scope s.heap.objs.size f cd).kindOf (ps.zip us) fun _=>none) (cellsFrom (s.heap.objs.size+1) scope.names []) (bindC (envOfC qual scope s.heap.objs.size f cd).kindOf (ps.zip us) fun _=>none) s1) :
  aA (mn CX P w K mg base N qual scope f cd A outer s H E) [] (gS N vs) H s1:=by
 have hpl:ps.length<=N.length:=by have:=congrArg List.length S.pre;rw [zbv] at this;omega
 obtain ⟨h1,tk,rfl,hk⟩:=x.done;have noA:∀b:Addr,b∉(mn CX P w K mg base N qual scope f cd A outer s H E).ex:=fun b z=>absurd (show b∈([]:Tf) from z) (by simp)
 refine ⟨⟨e0.mod,S.kind,rfl,rfl,zam _,fun y z c h1 h2=>?_,fun y hy=>?_,fun y c _ h=>?_,fun _=>hd,Around.frames_deeper e0.frames,.inr ⟨rfl,rfl⟩,fun b z=>absurd z (noA b),e0.bs,e0.bsz,fun b _ _=>noA b,fun b z=>absurd z (noA b),e0.funs,e0.frf⟩,
  rfl,e0.bare,Un.kept hk,⟨_,x.toInCall.ns,fun i y v h1 h2 h3=>?_⟩,fun y c h=>⟨_,x.cell y c h⟩,e0.hok.fresh (zam _),fun y c h=>?_,fun p hp=>absurd (show p∈([]:Tc) from hp) (by simp),e0.hok.kept hk,?_⟩
 ·exact name_of_addr x.apart (PySem.mem_of_lookup h1) (PySem.mem_of_lookup h2)
 ·have hy:scope.names.lookup y=some .cell\/scope.names.lookup y=some .free:=hy
  rcases hy with hy|hy
  ·exact ui hy
  ·exact absurd rfl (S.nofree _ (PySem.mem_of_lookup hy))
 ·exact zbK (x.above y c (PySem.mem_of_lookup h))
 ·have hi:i < vs.length:=by
   unfold gS at h2
   by_cases hi:i < vs.length
   ·exact hi
   ·rw [zaT (by simpa using hi)] at h2
    rw [zcK] at h2;split at h2 <;> cases h2
  have ha:vs[i]?=some v:=by
   unfold gS at h2;rw [zaq (by simpa using hi),zaG] at h2
   cases e:vs[i]? with
   |none=>rw [e] at h2;cases h2
   |some a=>rw [e] at h2;cases h2;rfl
  obtain ⟨u,hu,rv⟩:=r.get ha
  have hp:ps[i]?=some y:=by
   rw [←S.pre,List.getElem?_take_of_lt (by omega)];exact h1
  have ndP:ps.Nodup:=by rw [←S.pre];exact S.nd.sublist (List.take_sublist _ _)
  refine ⟨u,rv,?_⟩;rcases S.par y (zaZ hp) with k|k
  ·exact .inl ⟨k,qd ndP hp hu k⟩
  ·obtain ⟨c,e⟩:=ui (n:=s.heap.objs.size+1) k
   refine .inr ⟨.inl k,c,e,?_⟩;have q:=x.cell y c e;rw [qf ndP hp hu (by show scope.names.lookup y≠_;rw [k];decide)] at q;exact q
 ·exact e0.hok.fresh (zbK (x.above y c (PySem.mem_of_lookup h)))
 ·unfold gS
  show _=N.length
  rw [zaW,zaf,List.length_replicate];omega
theorem KP {CX:xu}{P:Program}{w:World}{K:zac}{mg:Td}{base:Heap}{k:Nat}{f:Addr}{name qual:Str}{params:Arguments}{body:Tk}{scope:Scope}{dV kV doc pm cdv ct oc:Value}{an od:Option Addr}
  {osl:Array (Tg)} {N ps:Tn} {sp:Sp} (lk:K.lookup f=some ⟨oc,od,.func (PySem.W.fnOf name qual params body scope dV kV doc pm an cdv ct),osl⟩) (hcd:PySem.W.codeIn K cdv qual=true) (S:aC N ps scope)
  (len:∀vs H Q E,sp vs H Q E->vs.length=ps.length)
  (hbody:∀(A:Around) (outer:List Env) (s:Shared) (H:Hp) (vs:List V) (Q:VK) (E:XK),da k (A.deeper (envOfC qual scope s.heap.objs.size f cdv))->sp vs H Q E ->
   ∃t,o9 (mn CX P w K mg base N qual scope f cdv A outer s H E) body t/\t {nx:=fun _ H'=>Q .non H',rt:=Q} (gS N vs) H) :
  cP P w K mg base CX (k+1) f (PySem.W.fnOf name qual params body scope dV kV doc pm an cdv ct) ps sp:=by
 refine ⟨len,fun A outer s H args us vs Q E hr e0 hb r hsp=>?_⟩;have hl:=len _ _ _ _ hsp;have KX:K.In s.heap:=e0.mod.kin.keeps fun b o e=>(e0.bs b o e).1;have lim:s.heap.NoLimit:=e0.mod.nolimit.keeps fun b o e=>(e0.bs b o e).1
 have hkind:∀y∈ps.zip us,scope.names.lookup y.1=some .local\/(scope.names.lookup y.1=some .cell/\((cellsFrom (s.heap.objs.size+1) scope.names []).lookup y.1).isSome=true):=fun ⟨n,v⟩ hy=>by
  rcases S.par n (zdr hy).1 with q|q
  ·exact .inl q
  ·exact .inr ⟨q,zcl _ _ _ (.inl q)⟩
 refine codeAny_call_function hr.depth (KX _ _ lk) rfl S.co S.gen rfl (PySem.W.codeRec_of KX hcd) (hb _ _ _ _ ?_);refine wpAny_newFunctionEnv_cells S.kind hkind fun env he s1 x=>?_;subst he;refine ⟨lim.keeps x.toInCall.keep,codeAny_func ?_⟩;obtain ⟨t,ht,hq⟩:=hbody A outer s H vs Q E (hr.deeper _) hsp;have I:aA (mn CX P w K mg base N qual scope f cdv A outer s H E) [] (gS N vs) H s1:=yt S hr.hd e0 hl r x;refine zbz (ht [] s1 (gS N vs) H _ I hq) (fun fl s' hs=>?_) fun e s' hs=>hs
 have fin:∀{σ':St} {H':Hp} {v:V} {u:Value},aA (mn CX P w K mg base N qual scope f cdv A outer s H E) [] σ' H' s'->aY v u->Q v H'->CE outer P w H s Q u s' :=
  fun {σ' H' v u} J rv q=>⟨v,H',J.os,J.bare,J.base,J.hok,rv,q⟩
 cases fl with
 |ret u =>
  obtain ⟨v,σ',H',J,rv,q⟩:=hs;exact fin J rv q
 |next =>
  obtain ⟨σ',H',J,q⟩:=hs;exact fin (v:=V.non) (u:=Value.none) J rfl q
 |brk =>
  obtain ⟨_,_,_,q⟩:=hs;exact False.elim q
 |cont =>
  obtain ⟨_,_,_,q⟩:=hs;exact False.elim q
section
variable  {X:Cx}{x:Str}{p pos:Pos}{e:Expr}{es:Tj}{t:TA}{id T:String}{r:List V->Hp->VK->Prop}
def Iz (r:List V->Hp->VK->Prop)(t:TA):TE:=fun σ H Q=>t σ H fun vs H1=>r vs H1 Q
theorem dN (hc:d9 X (.builtin id) r)(hg:Gl X x)(hm:X.mg x=none)(hv:bootBuiltins x=some (.builtin id))(ha:PA X (e::es) t)(hn:x≠"__name__":=by decide)(hdb:(x == ("__debug__" : Str))=false:=by decide)
  (he:starEach (e::es) X.env=(false,eval e X.env)::starEach es X.env:=by rfl) (hpl:(backTo pos (starEach es X.env)).any (·.1)=false:=by rfl):PE X (.Call (.Name x p) (e::es) [] pos) (Iz r t):=by
 intro pins s σ H Q I h;refine zdc (qO I hg hm hv ?_ hn hdb);exact PyProof.Rows.callWith_builtin1 (cV (ha pos pins s σ H _ I h) fun us s1 ⟨vs,H1,I1,r1,q1⟩=>hc pins s1 σ H1 vs us Q I1 r1 q1) he hpl
theorem eh (hc:d9 X (.type T) r)(hg:Gl X x)(hm:X.mg x=none)(hv:bootBuiltins x=some (.type T))(ha:PA X (e::es) t)(hn:x≠"__name__":=by decide)(hdb:(x == ("__debug__" : Str))=false:=by decide)
  (he:starEach (e::es) X.env=(false,eval e X.env)::starEach es X.env:=by rfl) (hpl:(backTo pos (starEach es X.env)).any (·.1)=false:=by rfl):PE X (.Call (.Name x p) (e::es) [] pos) (Iz r t):=by
 intro pins s σ H Q I h;refine zdc (qO I hg hm hv ?_ hn hdb);exact PyProof.Rows.callWith_type1 (cV (ha pos pins s σ H _ I h) fun us s1 ⟨vs,H1,I1,r1,q1⟩=>hc pins s1 σ H1 vs us Q I1 r1 q1) he hpl
end
end L2
namespace HT
open PySem PyProof.Rows
section
variable  {prog:Program}{w:World}{A:Around}{E:Tb}{s:Shared}
theorem Eb {t b:Addr}{vs ws:Te}{Q:Tb}(ht:IsTup s.heap t vs.toArray)(hb:IsTup s.heap b ws.toArray)(hv:vs≠[])
  (h1:ws=[]->Q (.ref t) s) (h2:ws≠[]->Q (.ref s.heap.objs.size) {s with heap:=s.heap.push {cls:=.type "tuple",data:=.seq (vs++ws).toArray}})
  (hsz:vs.length+ws.length<=sizeLine):wpAny (model prog w) A (binaryOp .Add (.ref t) (.ref b)) Q E s:=by
 obtain ⟨⟨cls,dd,data,sl⟩,ho,hc,n,hd⟩:=id ht;obtain ⟨⟨cls2,dd2,data2,sl2⟩,ho2,hc2,n2,hd2⟩:=id hb;simp only at hc hd hc2 hd2;subst hc hd hc2 hd2
 have e:vs.toArray++ws.toArray=(vs++ws).toArray:=by simp
 by_cases hw:ws=[]
 ·exact concat_meets ⟨_,ho,rfl⟩ ⟨_,ho2,rfl⟩ noFill_tuple_add seq_tuple_add PySem.F.slot_tuple_add PySem.F.entry_tuple_add (PySem.F.args_tuple_add_2 _ _)
   (tuple_addW1 t b vs.toArray ws.toArray n n2 dd dd2 sl sl2 (by simpa using hv) (by simp [hw])) ⟨ho,ho2,h1 hw⟩
 ·refine concat_meets ⟨_,ho,rfl⟩ ⟨_,ho2,rfl⟩ noFill_tuple_add seq_tuple_add PySem.F.slot_tuple_add PySem.F.entry_tuple_add (PySem.F.args_tuple_add_2 _ _)
   (tuple_addW2 t b vs.toArray ws.toArray n n2 dd dd2 sl sl2 (by simpa using hv) (by simpa using hw) (by rw [zaz,zaz];exact hsz)) ⟨ho,ho2,?_⟩
  rw [e];exact h2 hw
def cx (n d:Nat):Option Int->Nat
 |none=>d
 |some v=>if v < 0 then (v+(n:Int)).toNat else min v.toNat n
theorem CN (n d k:Nat):cx n d (some (k:Int))=min k n:=by
 show (if (k:Int) < 0 then ((k:Int)+(n:Int)).toNat else min (k:Int).toNat n)=min k n
 rw [if_neg (by omega),zbB]
theorem F6 (n d:Nat)(hd:d<=n)(o:Option Int):cx n d o<=n:=by
 cases o with
 |none=>exact hd
 |some v =>
  show (if v < 0 then (v+(n:Int)).toNat else min v.toNat n)<=n
  by_cases hv:v < 0
  ·rw [if_pos hv];omega
  ·rw [if_neg hv];exact Nat.min_le_right _ _
theorem xl (v:Int)(n d:Nat):(if v < 0 then max (v+(n:Int)) 0 else min v (n:Int))=((cx n d (some v):Nat):Int):=by
 show (if v < 0 then max (v+(n:Int)) 0 else min v (n:Int))=(((if v < 0 then (v+(n:Int)).toNat else min v.toNat n):Nat):Int)
 by_cases hv:v < 0
 ·simp only [if_pos hv];omega
 ·simp only [if_neg hv];omega
theorem vW (lo hi:Option Int)(n:Nat):Builtin.Slice.sliceAdjust lo hi 1 (n:Int)=(((cx n 0 lo:Nat):Int),((cx n n hi:Nat):Int)):=by
 have h1:¬ ((1:Int) < 0):=by omega
 unfold Builtin.Slice.sliceAdjust;simp only [h1,if_false];refine Prod.ext ?_ ?_
 ·cases lo with
  |none=>rfl
  |some v=>exact xl v n 0
 ·cases hi with
  |none=>rfl
  |some v=>exact xl v n n
theorem u3 (i j:Nat):Builtin.Slice.slicePlaces (i:Int) (j:Int) 1=j - i:=by
 unfold Builtin.Slice.slicePlaces
 have h1:(1:Int) > 0:=by omega
 simp only [h1,if_true,Int.ediv_one];split <;> omega
theorem nN {v:Value}{o:Option Int}{Q:Option Int->Shared->Prop}(p:IsPart v o)(h:Q o s):wpAny (model prog w) A (Builtin.Slice.slicePartIndex v) Q E s:=by
 cases p with
 |none=>exact slicePart_none h
 |int i t=>exact slicePart_int h
theorem gT {sl:Addr}{vl vu:Value}{lo hi:Option Int}{n:Nat}{Q:Int×Int×Nat->Shared->Prop}(hs:s.heap.IsSliceOf sl vl vu .none)(pl:IsPart vl lo)(pu:IsPart vu hi)
  (h:Q (((cx n 0 lo:Nat):Int),1,cx n n hi - cx n 0 lo) s):wpAny (model prog w) A (Builtin.Slice.sliceApplied (.ref sl) (pure (n:Int))) Q E s:=by
 obtain ⟨os,hos,hcs,hds⟩:=id hs;unfold Builtin.Slice.sliceApplied Builtin.Slice.sliceFields;refine zaa (zaa (zcw hos hds (x:=vl) rfl (zaa (zcw hos hds (x:=vu) rfl (zaa (zcw hos hds (x:=.none) rfl (zad ?_)))))));refine zaa (slicePart_none ?_)
 show wpAny _ _ (if ((1:Int) == 0)=true then _ else _) _ _ s
 rw [if_neg (by decide)];refine zaa (nN pl (zaa (nN pu (zaa (zad ?_)))))
 show wpAny _ _ (match Builtin.Slice.sliceAdjust lo hi 1 (n:Int) with|(lo,hi)=>pure (lo,(1:Int),Builtin.Slice.slicePlaces lo hi 1)) _ _ s
 rw [vW lo hi n]
 show wpAny _ _ (pure (((cx n 0 lo:Nat):Int),(1:Int),Builtin.Slice.slicePlaces ((cx n 0 lo:Nat):Int) ((cx n n hi:Nat):Int) 1)) _ _ s
 rw [u3];exact zad h
theorem Ay (xs:Ti)(i k:Nat):((List.range k).filterMap fun (m:Nat)=>xs[((i:Int)+(m:Int) * 1).toNat]?).toArray=((xs.toList.drop i).take k).toArray:=by
 have e:(fun (m:Nat)=>xs[((i:Int)+(m:Int) * 1).toNat]?)=fun m=>xs[i+m]?:=by
  funext m
  have:((i:Int)+(m:Int) * 1).toNat=i+m:=by omega
  rw [this]
 rw [e];have:=pick_run xs i k
 rw [List.filterMap_map] at this
 have e2:((fun x=>xs[x]?) ∘ fun x=>i+x)=fun m=>xs[i+m]?:=rfl
 rw [e2] at this
 rw [this]
theorem lA {t sl:Addr}{items:Ti}{vl vu:Value}{lo hi:Option Int}{Q:Tb}(ht:IsTup s.heap t items)(hs:s.heap.IsSliceOf sl vl vu .none)(pl:IsPart vl lo)(pu:IsPart vu hi)
  (hw:¬ (cx items.size 0 lo=0/\cx items.size items.size hi=items.size))
  (h:Q (.ref s.heap.objs.size) {s with heap:=s.heap.push {cls:=.type "tuple",data:=.seq ((items.toList.drop (cx items.size 0 lo)).take (cx items.size items.size hi - cx items.size 0 lo)).toArray}})
  (hsz:items.size<=sizeLine):wpAny (model prog w) A (getItem (.ref t) (.ref sl)) Q E s:=by
 have htake:sizeOk (.seq ((items.toList.drop (cx items.size 0 lo)).take (cx items.size items.size hi - cx items.size 0 lo)).toArray):=by
  show ((items.toList.drop (cx items.size 0 lo)).take (cx items.size items.size hi - cx items.size 0 lo)).toArray.size<=sizeLine
  rw [zaz,zbv,zb6,zaD];omega
 have hj:cx items.size items.size hi<=items.size:=F6 _ _ (zam _) hi;obtain ⟨os,hos,hcs,hds⟩:=id hs;have hTs:s.TypeIs (.ref sl) "slice":=⟨os,hos,hcs⟩;unfold getItem
 try with_reducible refine zaE ?_
 first|refine zaa (zad ?_)|skip
 refine zaa (wpAny_sequenceKey ht.typeIs (by decide) ?_)
 refine zaa (za5 (name:=Str.ofString "__getitem__") ht.typeIs PyProof.Rows.slot_tuple_getitem
  (zaH PyProof.Rows.slot_tuple_getitem ht.typeIs entry_tuple_getitem ?_ (args_tuple_getitem _ _)))
 show wpAny _ _ (Builtin.Tuple.tupleItemsOf (.ref t) >>= _) _ _ s
 refine zaa (tupleItemsOf_ ht ?_);refine zaa (zbs hTs ?_);rw [if_pos (by decide)];refine zaa (gT hs pl pu ?_)
 have hno:¬ ((((cx items.size 0 lo:Nat):Int) == 0 && (1:Int) == 1 && (cx items.size items.size hi - cx items.size 0 lo) == items.size)=true):=by
  intro q;rw [zbp,zbp] at q;have q1:((cx items.size 0 lo:Nat):Int)=0:=eq_of_beq q.1.1;have q2:cx items.size items.size hi - cx items.size 0 lo=items.size:=eq_of_beq q.2;exact hw ⟨by omega,by omega⟩
 show wpAny _ _ (if (((cx items.size 0 lo:Nat):Int) == 0 && (1:Int) == 1 && (cx items.size items.size hi - cx items.size 0 lo) == items.size)=true then _ else _) _ _ s
 rw [if_neg hno,Ay]
 first
  |exact zaa (m:=Builtin.Tuple.tupleExact _) (zaJ (zad ⟨_,rfl,zad h⟩) htake)
  |exact zaa (m:=Builtin.Tuple.tupleExact _) (zaJ (zaa (zad (zad ⟨_,rfl,zad h⟩))) htake)
  |exact zaa (zaa (m:=Builtin.Tuple.tupleExact _) (zaJ (zad (zad ⟨_,rfl,zad h⟩)) htake))
  |exact zaa (zaa (m:=Builtin.Tuple.tupleExact _) (zaJ (zad ⟨_,rfl,zad h⟩) htake))
end
end HT
namespace L2
open PySem PySem.Spec PyProof.Rows
abbrev TO:=St->Hp->(Option Int->Hp->Prop)->Prop
def PO (X:Cx)(e:Option Expr)(t:TO):Prop :=
 ∀(pins:Tc) (s:Shared) (σ:St) (H:Hp) (Q:Option Int->Hp->Prop),aA X pins σ H s->t σ H Q ->
  wpAny (model X.prog X.w) X.A (evalPart e X.env) (fun u s'=>∃o H',aA X pins σ H' s'/\IsPart u o/\Q o H') X.xe s
def wg:TO:=fun _ H Q=>Q none H
def EY (t:TE):TO:=fun σ H Q=>t σ H fun x H1=>∃i,x=.int i/\Q (some i) H1
section
variable  {X:Cx}{e:Expr}{te:TE}{lo hi:Option Expr}{tl th:TO}{pos p2:Pos}
theorem Di:PO X none wg:=by
 intro pins s σ H Q I h;rw [evalPart_none];exact zad ⟨none,H,I,.none,h⟩
theorem Dh (h:PE X e te):PO X (some e) (EY te):=by
 intro pins s σ H Q I hw;rw [evalPart_some];refine cV (h pins s σ H _ I hw) fun u s1 hh=>?_;obtain ⟨x,H1,I1,r1,q1⟩:=hh;obtain ⟨i,rfl,q⟩:=q1;obtain ⟨t,rfl⟩:=r1;exact ⟨some i,H1,I1,.int i t,q⟩
def Cg (X:Cx)(r:V->Option Int->Option Int->Hp->VK->Prop):Prop :=
 ∀(pins:Tc) (s:Shared) (σ:St) (H:Hp) (x:V) (v vl vu:Value) (lo hi:Option Int) (sl:Addr) (Q:VK),aA X pins σ H s->aY x v->s.heap.IsSliceOf sl vl vu .none->IsPart vl lo->IsPart vu hi->r x lo hi H Q ->
  ∃T id,typeLookup (.type T) "__getitem__" = pure (some (.builtin id))/\s.TypeIs v T/\wpAny (model X.prog X.w) X.A (getItem v (.ref sl)) (EP X pins σ Q) X.xe s
theorem Cg.or {r r':V->Option Int->Option Int->Hp->VK->Prop}(h:Cg X r)(h':Cg X r'):Cg X (fun x lo hi H Q=>r x lo hi H Q\/r' x lo hi H Q):=by
 intro pins s σ H x v vl vu lo hi sl Q I rx hs pl pu q;rcases q with q|q
 ·exact h pins s σ H x v vl vu lo hi sl Q I rx hs pl pu q
 ·exact h' pins s σ H x v vl vu lo hi sl Q I rx hs pl pu q
def Oc (r:V->Option Int->Option Int->Hp->VK->Prop)(te:TE)(tl th:TO):TE:=fun σ H Q=>te σ H fun x H1=>tl σ H1 fun l H2=>th σ H2 fun u H3=>r x l u H3 Q
theorem AC {r:V->Option Int->Option Int->Hp->VK->Prop}(hr:Cg X r)(he:PE X e te)(hl:PO X lo tl)(hu:PO X hi th):PE X (.Subscript e (.Slice lo hi none p2) pos) (Oc r te tl th):=by
 intro pins s σ H Q I h;refine Subscript_ (cV (he pins s σ H _ I h) fun v s1 hh=>?_);obtain ⟨x,H1,I1,r1,q1⟩:=hh;refine wpAny_Slice (cV (hl pins s1 σ H1 _ I1 q1) fun vl s2 ⟨l,H2,I2,pl,q2⟩=>cV (hu pins s2 σ H2 _ I2 q2) fun vu s3 hh=>?_);obtain ⟨u,H3,I3,pu,q3⟩:=hh;rw [evalPart_none];refine zad ?_;have I4:aA X pins σ H3 {s3 with heap:=s3.heap.push {cls:=.type "slice",data:=.fields #[vl,vu,.none]}}:=I3.kept (t':=s3.toks) fun b ob q=>zae _ q;obtain ⟨T,id,hT,ht,hg⟩:=hr pins {s3 with heap:=s3.heap.push {cls:=.type "slice",data:=.fields #[vl,vu,.none]}} σ H3 x v vl vu l u s3.heap.objs.size Q I4 r1 (Heap.IsSliceOf.new ..) pl pu q3
 show wpAny (model X.prog X.w) X.A (subscriptTail e (.Slice lo hi none p2) v (.ref s3.heap.objs.size)) (EP X pins σ Q) X.xe {s3 with heap:=s3.heap.push {cls:=.type "slice",data:=.fields #[vl,vu,.none]}}
 exact tail_any (ops:=[.ref s3.heap.objs.size,v]) ht hT hg (by with_unfolding_all rfl)
def rk (xs:List V)(lo hi:Option Int):List V:=(xs.drop (HT.cx xs.length 0 lo)).take (HT.cx xs.length xs.length hi - HT.cx xs.length 0 lo)
theorem mH (xs:List V)(lo hi:Option Int):(rk xs lo hi).length<=xs.length:=by
 unfold rk;rw [zbv,zb6];omega
def JI (K:zac):V->Option Int->Option Int->Hp->VK->Prop:=fun x lo hi H Q=>∃a xs,x=.ref a/\eS K H a xs /\
 ¬ (HT.cx xs.length 0 lo=0/\HT.cx xs.length xs.length hi=xs.length)/\∀p,H p=none->Q (.ref p) (upd H p (.tup (rk xs lo hi)))
theorem F3:Cg X (JI X.K):=by
 intro pins s σ H x v vl vu lo hi sl Q I rx hs pl pu h;obtain ⟨a,xs,rfl,hx,hw,q⟩:=h;cases rx;obtain ⟨its,r,ht,hz⟩:=I.tuple hx
 have hlen:its.toArray.size=xs.length:=by rw [zaz];exact r.length.symm
 refine ⟨"tuple",_,PyProof.Rows.slot_tuple_getitem.lookup,ht.typeIs,?_⟩;refine HT.lA ht hs pl pu (by rw [hlen];exact hw) ?_ (by rw [hlen];exact hz);rw [hlen];refine ⟨.ref s.heap.objs.size,_,I.laid (t':=s.toks) (o:=.tup (rk xs lo hi)) (fun b ob q=>zae _ q) (zam _) ?_,rfl,q _ (I.hok.fresh (zam _))⟩;exact ⟨zbF (mH xs lo hi) hz,_,(r.drop (HT.cx xs.length 0 lo)).take (HT.cx xs.length xs.length hi - HT.cx xs.length 0 lo),jB.new _ _⟩
def Ae (K:zac):R2:=fun x y H Q=>∃a b xs ys,x=.ref a/\y=.ref b/\eS K H a xs/\eS K H b ys/\xs≠[]/\xs.length+ys.length<=sizeLine /\
 (ys=[]->Q (.ref a) H)/\(ys≠[]->∀p,H p=none->Q (.ref p) (upd H p (.tup (xs++ys))))
theorem aW.nil_iff {xs:List V}{us:Te}(r:aW xs us):us=[] ↔ xs=[]:=by
 cases r with
 |nil=>simp
 |cons _ _=>simp
theorem wC:jS X (binaryOp .Add) (Ae X.K):=by
 intro pins s σ H x y v u Q I rx ry h;obtain ⟨a,b,xs,ys,rfl,rfl,ha,hb,hx,hz,q1,q2⟩:=h;cases rx;cases ry;obtain ⟨its,r1,p1,_⟩:=I.tuple ha;obtain ⟨its2,r2,p2,_⟩:=I.tuple hb;refine HT.Eb p1 p2 (fun z=>hx (r1.nil_iff.mp z)) (fun z=>⟨.ref a,H,I,rfl,q1 (r2.nil_iff.mp z)⟩) (fun z=>?_) (by rw [←r1.length,←r2.length];exact hz);refine ⟨.ref s.heap.objs.size,_,I.laid (t':=s.toks) (o:=.tup (xs++ys)) (fun b ob q=>zae _ q) (zam _) ?_,rfl,q2 (fun w=>z (r2.nil_iff.mpr w)) _ (I.hok.fresh (zam _))⟩;exact ⟨by rw [zaW];exact hz,_,r1.append r2,jB.new _ _⟩
end
def Fk (n:Nat)(i:Int):Option Nat:=if 0<=i then (if i < n then some i.toNat else none) else if -(n:Int)<=i then some (i+n).toNat else none
def kO {α:Type}(xs:List α)(i:Int):Option α:=(Fk xs.length i).bind fun j=>xs[j]?
theorem DF {n:Nat}{i:Int}{j:Nat}(h:Fk n i=some j):seqIndex? i n=some j/\j < n/\-(n:Int)<=i/\i < n:=by
 unfold Fk at h
 by_cases h0:0<=i
 ·rw [if_pos h0] at h
  by_cases h1:i < n
  ·rw [if_pos h1] at h
   have e:i.toNat=j:=Option.some.inj h;exact ⟨by rw [seqIndex_of h0 h1,e],by omega,by omega,h1⟩
  ·rw [if_neg h1] at h;cases h
 ·rw [if_neg h0] at h
  by_cases h1 : -(n:Int)<=i
  ·rw [if_pos h1] at h
   have e:(i+n).toNat=j:=Option.some.inj h;exact ⟨by rw [seqIndex_neg (by omega) h1,e],by omega,h1,by omega⟩
  ·rw [if_neg h1] at h;cases h
theorem rH {α:Type}{xs:List α}{i:Int}{v:α}(h:kO xs i=some v):∃j,seqIndex? i xs.length=some j/\xs[j]?=some v/\j < xs.length/\-(xs.length:Int)<=i/\i < xs.length:=by
 unfold kO at h
 cases e:Fk xs.length i with
 |none=>rw [e] at h;cases h
 |some j =>
  rw [e] at h;obtain ⟨h1,h2,h3,h4⟩:=DF e;exact ⟨j,h1,h,h2,h3,h4⟩
def xt (b:Expr):Prop:=∀o i,subscripted b false o i=operate [o,i] (getItem o i)
def Es (X:Cx)(r:R2):Prop :=
 ∀(value slice:Expr) (pins:Tc) (s:Shared) (σ:St) (H:Hp) (x y:V) (v u:Value) (Q:VK),aA X pins σ H s->aY x v->aY y u->r x y H Q ->
  subscripted slice false v u=operate [v,u] (getItem v u)->wpAny (model X.prog X.w) X.A (subscriptTail value slice v u) (EP X pins σ Q) X.xe s
def Pa (X:Cx)(id:String)(r:V->List V->Hp->VK->Prop):Prop :=
 ∀(pins:Tc) (s:Shared) (σ:St) (H:Hp) (x:V) (xs:List V) (v:Value) (us:Te) (Q:VK),aA X pins σ H s->aY x v->aW xs us->r x xs H Q ->
  wpAny (model X.prog X.w) X.A (call (.builtin id) (v::us)) (EP X pins σ Q) X.xe s
section
variable  {X:Cx}{a b:Expr}{ta tb:TE}{pos:Pos}
theorem Es.or {r r':R2}(h:Es X r)(h':Es X r'):Es X (fun x y H Q=>r x y H Q\/r' x y H Q):=by
 intro value slice pins s σ H x y v u Q I rx ry q hs;rcases q with q|q
 ·exact h value slice pins s σ H x y v u Q I rx ry q hs
 ·exact h' value slice pins s σ H x y v u Q I rx ry q hs
theorem Kc {r:R2}(hr:Es X r)(ha:PE X a ta)(hb:PE X b tb)(hs:xt b):PE X (.Subscript a b pos) (Iy r ta tb):=by
 intro pins s σ H Q I h;exact Subscript_ (Ik ha hb I h fun v u s2 x y H2 I2 rx ry q=>hr a b pins s2 σ H2 x y v u Q I2 rx ry q (hs _ _))
def JO (K:zac):R2:=fun x y H Q=>∃p xs i v,x=.ref p/\y=.int i/\iV K H p xs/\kO xs i=some v/\Q v H
def JM (K:zac):R2:=fun x y H Q=>∃p xs i v,x=.ref p/\y=.int i/\eS K H p xs/\kO xs i=some v/\Q v H
def JN:R2:=fun x y H Q=>∃z i c,x=.str z/\y=.int i/\z.length<=sizeLine/\kO z.cps.toList i=some c/\Q (.str ⟨#[c]⟩) H
theorem DD:Es X (JO X.K):=by
 intro value slice pins s σ H x y v u Q I rx ry h hs;obtain ⟨p,xs,i,z,rfl,rfl,hq,he,q⟩:=h;cases rx;obtain ⟨t,rfl⟩:=ry;obtain ⟨its,r,pl,hz⟩:=I.list hq;obtain ⟨j,h1,h2,h3,h4,h5⟩:=rH he;obtain ⟨w,ew,rw'⟩:=r.get h2;have hl:=r.length;have hn:=oj;have fin:EP X pins σ Q w s:=⟨z,H,I,rw',q⟩
 by_cases h0:0<=i
 ·have hj:i.toNat=j:=by
   rw [seqIndex_of h0 h5] at h1;exact Option.some.inj h1
  exact item_listR pl.isList h0 (by omega) (by rw [hj];simpa using ew) fin hs
 ·have hj:(i+(its.toArray.size:Int)).toNat=j:=by
   rw [seqIndex_neg (by omega) h4] at h1;rw [zaz,←hl];exact Option.some.inj h1
  exact subscriptTail_builtinR (x:=w) pl.isList.typeIs slot_list_getitem.lookup
   (wpAny_getItem_list_neg (Q:=fun r s'=>r=w/\EP X pins σ Q r s') pl.isList (by omega) (by rw [zaz] <;> omega) (by omega) (by rw [hj];simpa using ew) ⟨rfl,fin⟩) hs
theorem Ho:Es X (JM X.K):=by
 intro value slice pins s σ H x y v u Q I rx ry h hs;obtain ⟨p,xs,i,z,rfl,rfl,hq,he,q⟩:=h;cases rx;obtain ⟨t,rfl⟩:=ry;obtain ⟨its,r,pl,hz⟩:=I.tuple hq;obtain ⟨j,h1,h2,h3,h4,h5⟩:=rH he;obtain ⟨w,ew,rw'⟩:=r.get h2;have hl:=r.length;have hn:=oj;have fin:EP X pins σ Q w s:=⟨z,H,I,rw',q⟩
 exact subscriptTail_builtinR (x:=w) pl.typeIs slot_tuple_getitem.lookup
  (getItem_tuple (j:=j) (Q:=fun r s'=>r=w/\EP X pins σ Q r s') pl (by omega) (by omega) (by rw [zaz,←hl];exact h1) (by simpa using ew) ⟨rfl,fin⟩) hs
theorem Hq:Es X JN:=by
 intro value slice pins s σ H x y v u Q I rx ry h hs;obtain ⟨z,i,c,rfl,rfl,hz,he,q⟩:=h;obtain ⟨t,rfl⟩:=rx;obtain ⟨t',rfl⟩:=ry;obtain ⟨j,h1,h2,h3,h4,h5⟩:=rH he
 have hl:z.cps.toList.length=z.length:=by simp [Str.length]
 rw [hl] at h1 h4 h5;have hn:=oj
 exact tail_any (typeIs_str s z t) slot_str_getitem.lookup (getItem_str (c:=c) (by
  have e1:decide (i < -(2 ^ 63:Int))=false:=zav (by omega);have e2:decide (i >= 2 ^ 63)=false:=zav (by omega)
  rw [e1,e2,Bool.or_false]) (by rw [h1];simpa using h2) ⟨.str ⟨#[c]⟩,H,I.tok _,⟨_,rfl⟩,q⟩) hs
def Og (K:zac):R2:=fun x y H Q=>JO K x y H Q\/JM K x y H Q\/JN x y H Q
theorem Hr:Es X (Og X.K):=DD.or (Ho.or Hq)
theorem qv (lo hi:Option Int)(n:Nat):(sliceBounds lo hi none n).1=((HT.cx n 0 lo:Nat):Int)/\(sliceBounds lo hi none n).2.1=((HT.cx n n hi:Nat):Int)/\(sliceBounds lo hi none n).2.2=1:=by
 refine ⟨?_,?_,rfl⟩
 ·cases lo with
  |none=>simp [sliceBounds,HT.cx]
  |some i =>
   simp only [sliceBounds,HT.cx,Option.getD_none,show (1:Int) > 0 by decide,if_true]
   by_cases h:i < 0
   ·simp only [h,if_true] <;> omega
   ·simp only [h,if_false] <;> omega
 ·cases hi with
  |none=>simp [sliceBounds,HT.cx]
  |some i =>
   simp only [sliceBounds,HT.cx,Option.getD_none,show (1:Int) > 0 by decide,if_true]
   by_cases h:i < 0
   ·simp only [h,if_true] <;> omega
   ·simp only [h,if_false] <;> omega
theorem pi (its:Te)(lo hi:Option Int):slicePick its.toArray lo hi none=((its.drop (HT.cx its.length 0 lo)).take (HT.cx its.length its.length hi - HT.cx its.length 0 lo)).toArray:=by
 obtain ⟨h1,h2,h3⟩:=qv lo hi its.toArray.size;unfold slicePick;rw [h1,h2,h3];simp only [sliceRange_one,pick_run,zaz] <;> rfl
def JJ (K:zac):V->Option Int->Option Int->Hp->VK->Prop:=fun x lo hi H Q=>∃a xs,x=.ref a/\iV K H a xs/\∀p,H p=none->Q (.ref p) (upd H p (.lst (rk xs lo hi)))
theorem CK:Cg X (JJ X.K):=by
 intro pins s σ H x v vl vu lo hi sl Q I rx hs pl pu h;obtain ⟨a,xs,rfl,hx,q⟩:=h;cases rx;obtain ⟨its,r,ht,hz⟩:=I.list hx;have hlen:=r.length;refine ⟨"list",_,slot_list_getitem.lookup,ht.isList.typeIs,?_⟩;refine wpAny_getItem_list_slice ht.isList hs pl pu .none (by simp) ?_ (by rw [zaz] <;> omega);rw [pi,←hlen];refine ⟨.ref s.heap.objs.size,_,I.laid (t':=s.toks) (o:=.lst (rk xs lo hi)) (fun b ob q=>zae _ q) (zam _) ?_,rfl,q _ (I.hok.fresh (zam _))⟩;exact ⟨zbF (mH xs lo hi) hz,_,0,(r.drop (HT.cx xs.length 0 lo)).take (HT.cx xs.length xs.length hi - HT.cx xs.length 0 lo),zal _ rfl⟩
def lD:V->Bool
 |.non=>true
 |.bl _=>true
 |.int _=>true
 |.str _=>true
 |_=>false
def D5:V->V->Bool
 |.non,.non=>true
 |.bl a,.bl b=>a == b
 |.bl a,.int b=>(if a then 1 else 0) == b
 |.int a,.bl b=>a == (if b then 1 else 0)
 |.int a,.int b=>a == b
 |.str a,.str b=>a == b
 |_,_=>false
theorem Id {s:Shared}{y x:V}{u v:Value}(ry:aY y u)(rx:aY x v)(fy:lD y=true)(fx:lD x=true):SeqAt.EqAt A s u v (D5 y x):=by
 cases y with
 |non =>
  cases ry
  cases x with
  |non=>cases rx;exact SeqAt.EqAt.same _
  |bl b=>cases rx;exact SeqAt.EqAt.none_bool b
  |int b=>obtain ⟨t,rfl⟩:=rx;exact SeqAt.EqAt.none_int b t
  |str b=>obtain ⟨t,rfl⟩:=rx;exact SeqAt.EqAt.none_str b t
  |_=>exact absurd (show false=true from fx) za1
 |bl a =>
  cases ry
  cases x with
  |non=>cases rx;exact SeqAt.EqAt.bool_none a
  |bl b=>cases rx;exact SeqAt.EqAt.bool_bool a b
  |int b=>obtain ⟨t,rfl⟩:=rx;exact SeqAt.EqAt.bool_int a b t
  |str b=>obtain ⟨t,rfl⟩:=rx;exact SeqAt.EqAt.bool_str a b t
  |_=>exact absurd (show false=true from fx) za1
 |int a =>
  obtain ⟨t',rfl⟩:=ry
  cases x with
  |non=>cases rx;exact SeqAt.EqAt.int_none a t'
  |bl b=>cases rx;exact SeqAt.EqAt.int_bool a t' b
  |int b=>obtain ⟨t,rfl⟩:=rx;exact SeqAt.EqAt.int_int a t' b t
  |str b=>obtain ⟨t,rfl⟩:=rx;exact SeqAt.EqAt.int_str a t' b t
  |_=>exact absurd (show false=true from fx) za1
 |str a =>
  obtain ⟨t',rfl⟩:=ry
  cases x with
  |non=>cases rx;exact SeqAt.EqAt.str_none a t'
  |bl b=>cases rx;exact SeqAt.EqAt.str_bool a t' b
  |int b=>obtain ⟨t,rfl⟩:=rx;exact SeqAt.EqAt.str_int a t' b t
  |str b=>obtain ⟨t,rfl⟩:=rx;exact SeqAt.EqAt.str_str a t' b t
  |_=>exact absurd (show false=true from fx) za1
 |_=>exact absurd (show false=true from fy) za1
def D6 (x:V)(u:Value):Bool:=match u with
 |.none=>D5 .non x
 |.bool b=>D5 (.bl b) x
 |.int i _=>D5 (.int i) x
 |.str z _=>D5 (.str z) x
 |_=>false
theorem BN {x y:V}{u:Value}(r:aY y u)(f:lD y=true):D6 x u=D5 y x:=by
 cases y with
 |non=>cases r;rfl
 |bl b=>cases r;rfl
 |int i=>obtain ⟨t,rfl⟩:=r;rfl
 |str z=>obtain ⟨t,rfl⟩:=r;rfl
 |_=>exact absurd (show false=true from f) za1
theorem rK {x:V}:∀{xs:List V} {us:Te},aW xs us->xs.all lD=true->us.any (D6 x)=xs.any fun y=>D5 y x
 |_,_,.nil,_=>rfl
 |y::xs,u::us,.cons r t,f=>by
  rw [List.all_cons,zbp] at f;rw [zbG,zbG,BN r f.1,rK t f.2]
theorem oe {s:Shared}{x:V}{v:Value}(rx:aY x v)(fx:lD x=true):∀{xs:List V} {us:Te},aW xs us->xs.all lD=true->∀u∈us,SeqAt.EqAt A s u v (D6 x u)
 |_,_,.nil,_=>fun u hu=>by cases hu
 |y::xs,u::us,.cons r t,f=>fun u' hu=>by
  rw [List.all_cons,zbp] at f;rcases zak.mp hu with rfl|hu
  ·rw [BN r f.1];exact Id r rx f.1 fx
  ·exact oe rx fx t f.2 u' hu
def LD (x:V)(xs:List V):Bool:=xs.any fun y=>D5 y x
def Ms (K:zac)(neg:Bool):R2:=fun x y H Q=>∃p xs,y=.ref p/\(iV K H p xs\/eS K H p xs)/\lD x=true/\xs.all lD=true/\Q (.bl (if neg then !LD x xs else LD x xs)) H
theorem yc:jS X (compareOp .In) (Ms X.K false):=by
 intro pins s σ H x y v u Q I rx ry h;obtain ⟨p,xs,rfl,hq,fx,fs,q⟩:=h;cases ry;rcases hq with hq|hq
 ·obtain ⟨its,r,pl,hz⟩:=I.list hq
  refine SeqAt.in_listAt (D6 x) pl.isList (fun w hw=>oe rx fx r fs w (by simpa using hw)) ⟨.bl _,H,I,rfl,?_⟩;rw [show its.toArray.any (D6 x)=its.any (D6 x) by simp,rK r fs];exact q
 ·obtain ⟨its,r,pl,hz⟩:=I.tuple hq
  refine SeqAt.in_tupleAt (D6 x) pl (fun w hw=>oe rx fx r fs w (by simpa using hw)) ⟨.bl _,H,I,rfl,?_⟩;rw [show its.toArray.any (D6 x)=its.any (D6 x) by simp,rK r fs];exact q
theorem rE:d9 X (.builtin "len") (fun xs H Q=>∃p ys,xs=[.ref p]/\(iV X.K H p ys\/eS X.K H p ys)/\Q (.int ys.length) H):=by
 intro pins s σ H xs us Q I r h;obtain ⟨p,ys,rfl,hq,q⟩:=h;obtain ⟨u,rfl,rx⟩:=gP r;cases rx;have hn:=oj;rcases hq with hq|hq
 ·obtain ⟨its,r',pl,hz⟩:=I.list hq
  have hlen:=r'.length;exact Calls.call_len_list pl.isList (by simp only [zaz] <;> omega) ⟨.int ys.length,H,I.tok _,⟨s.toks+1,by rw [zaz,hlen]⟩,q⟩
 ·obtain ⟨its,r',pl,hz⟩:=I.tuple hq
  have hlen:=r'.length;exact len_tuple pl (by simp only [zaz] <;> omega) ⟨.int ys.length,H,I.tok _,⟨s.toks+1,by rw [zaz,hlen]⟩,q⟩
theorem rC:d9 X (.type "list") (fun xs H Q=>∃p ys,xs=[.ref p]/\(iV X.K H p ys\/eS X.K H p ys)/\∀l,H l=none->Q (.ref l) (upd H l (.lst ys))):=by
 intro pins s σ H xs us Q I r h;obtain ⟨p,ys,rfl,hq,q⟩:=h;obtain ⟨u,rfl,rx⟩:=gP r;cases rx
 have fin:∀(its:Te),aW ys its->ys.length<=sizeLine->∀(h':Heap) (c':Nat),(∀b o',s.heap.get? b=some o'->h'.get? b=some o') ->
   h'.get? s.heap.objs.size=some {cls:=.type "list",dict:=none,data:=.seq its.toArray c',slots:=#[]}->EP X pins σ Q (.ref s.heap.objs.size) {s with heap:=h'}:=fun its r' hz h' c' kp e =>
  ⟨.ref s.heap.objs.size,_,I.laid (t':=s.toks) kp (zam _) (show bm X.prog X.w _ h' _ (.lst ys) from ⟨hz,its,c',r',e⟩),rfl,q _ (I.hok.fresh (zam _))⟩
 rcases hq with hq|hq
 ·obtain ⟨its,r',pl,hz⟩:=I.list hq
  have hlen:=r'.length;obtain ⟨o,ho,hc,n,hd⟩:=pl.isList;exact call_list_seq p (.inl rfl) ho hc hd (fun h' c' kp e=>fin its r' hz h' c' kp e) (by simp only [zaz] <;> omega)
 ·obtain ⟨its,r',pl,hz⟩:=I.tuple hq
  have hlen:=r'.length;obtain ⟨o,ho,hc,n,hd⟩:=pl;exact call_list_seq p (.inr rfl) ho hc hd (fun h' c' kp e=>fin its r' hz h' c' kp e) (by simp only [zaz] <;> omega)
theorem j5:d9 X (.type "tuple") (fun xs H Q=>∃p ys,xs=[.ref p]/\((iV X.K H p ys/\∀l,H l=none->Q (.ref l) (upd H l (.tup ys)))\/(eS X.K H p ys/\Q (.ref p) H))):=by
 intro pins s σ H xs us Q I r h;obtain ⟨p,ys,rfl,h⟩:=h;obtain ⟨u,rfl,rx⟩:=gP r;cases rx;rcases h with ⟨hq,q⟩|⟨hq,q⟩
 ·obtain ⟨its,r',pl,hz⟩:=I.list hq
  have hlen:=r'.length;refine call_tuple_list pl.isList (fun h' kp=>?_) (by simp only [zaz] <;> omega);have I1:aA X pins σ H {s with heap:=h'}:=I.kept (t':=s.toks) kp
  have I2:aA X pins σ (upd H h'.objs.size (.tup ys)) {s with heap:=h'.push {cls:=.type "tuple",data:=.seq its.toArray}} :=
   I1.laid (t':=s.toks) (fun b o e=>zae _ e) (zam _) (show bm X.prog X.w _ _ _ (.tup ys) from ⟨hz,its,r',jB.new _ _⟩)
  exact ⟨.ref h'.objs.size,_,I2,rfl,q _ (I1.hok.fresh (zam _))⟩
 ·obtain ⟨its,r',pl,hz⟩:=I.tuple hq
  exact call_tuple_same pl ⟨.ref p,H,I,rfl,q⟩
def Ml (K:zac)(T:String)(x:V)(H:Hp):Prop:=match x with
 |.str _=>T = "str"
 |.int _=>T = "int"
 |.ref p=>(T = "list"/\∃xs,iV K H p xs)\/(T = "tuple"/\∃o,K.lookup p=some o/\o.cls=.type "tuple"/\o.dict=none) \/
   (T = "dict"/\((∃kvs,H p=some (.dK kvs))\/∃kvs,H p=some (.dT kvs)))\/(T = "set"/\∃S n,H p=some (.set S n))
 |_=>False
theorem FR {H:Hp}{s:Shared}{T:String}{x:V}{v:Value}(I:aA X pins σ H s)(r:aY x v)(ty:Ml X.K T x H) :
  s.TypeIs v T/\∀a,v=.ref a->∃ob,s.heap.get? a=some ob/\ob.dict=none:=by
 cases x with
 |str z =>
  obtain ⟨t,rfl⟩:=r;cases (show T = "str" from ty);exact ⟨typeIs_str s z t,fun _ e=>nomatch e⟩
 |int i =>
  obtain ⟨t,rfl⟩:=r;cases (show T = "int" from ty);exact ⟨typeIs_int s i t,fun _ e=>nomatch e⟩
 |ref p =>
  cases r;rcases ty with ⟨rfl,xs,hq⟩|⟨rfl,o,hk,hc,hd⟩|⟨rfl,hk⟩|⟨rfl,S,n,hk⟩
  ·obtain ⟨its,_,pl,_⟩:=I.list hq
   refine ⟨pl.isList.typeIs,fun a e=>?_⟩;cases e;obtain ⟨o,n,e,c,hd,_⟩:=pl;exact ⟨o,e,hd⟩
  ·refine ⟨⟨o,I.kIn p o hk,hc⟩,fun a e=>?_⟩
   cases e;exact ⟨o,I.kIn _ o hk,hd⟩
  ·have z:∃o,s.heap.get? p=some o/\o.ExactDict:=by
    rcases hk with ⟨kvs,hk⟩|⟨kvs,hk⟩
    ·obtain ⟨_,_,_,_,o,_,_,e,ex,_⟩:=I.hok p _ hk
     exact ⟨o,e,ex⟩
    ·obtain ⟨_,_,_,_,o,_,_,e,ex,_⟩:=I.hok p _ hk
     exact ⟨o,e,ex⟩
   obtain ⟨o,e,ex⟩:=z;refine ⟨⟨o,e,ex.1⟩,fun a e2=>?_⟩;cases e2;exact ⟨o,e,ex.2.1⟩
  ·obtain ⟨o,_,_,_,e,ex,_⟩:=I.hok p _ hk
   refine ⟨⟨o,e,ex.1⟩,fun a e2=>?_⟩;cases e2;exact ⟨o,e,ex.2.1⟩
 |_=>exact False.elim ty
def Of (K:zac)(T:String)(r:V->List V->Hp->VK->Prop)(to:TE)(t:TA):TE:=fun σ H Q=>to σ H fun x H1=>Ml K T x H1/\t σ H1 fun xs H2=>r x xs H2 Q
variable  {o e:Expr}{es:Tj}{to:TE}{t:TA}{name:Str}{apos cpos:Pos}{T id:String}{r:V->List V->Hp->VK->Prop}
theorem Kd (pa:PlainAttrs T)(slot:Slot T name id)(hty:typeOf (.builtin id)=pure (.type "method_descriptor"))(hm:Pa X id r)(ho:PE X o to)(ha:PA X (e::es) t)
  (hbase:attributeBase o name X.env (eval o X.env)=eval o X.env:=by rfl)
  (hfew:((backTo cpos (starEach (e::es) X.env)).all (fun x=>!x.1) && (backToKw cpos (keywordEach [] X.env)).all (fun x=>x.1.isSome)
   && decide ((e::es).length+([]:List Keyword).length+(if ([]:List Keyword).isEmpty then 0 else 1) < 30))=true:=by rfl)
  (hline:(apos.endLine == cpos.line)=true:=by rfl) (hs:starEach (e::es) X.env=(false,eval e X.env)::starEach es X.env:=by rfl) (hplain:(backTo cpos (starEach es X.env)).any (·.1)=false:=by rfl) :
  PE X (.Call (.Attribute o name apos) (e::es) [] cpos) (Of X.K T r to t):=by
 intro pins s σ H Q I h;refine wpAny_Call_method_late hbase hfew hline rfl (cV (ho pins s σ H _ I h) fun v s1 hh=>?_);obtain ⟨x,H1,I1,r1,ty,q1⟩:=hh;obtain ⟨h1,h2⟩:=FR I1 r1 ty;refine ⟨T,id,pa,slot,hty,h1,h2,?_⟩;have hA:=ha cpos pins s1 σ H1 _ I1 q1;rw [hs] at hA ⊢;refine Calls.callWith_builtin (by show (false || (backTo cpos (starEach es X.env)).any (·.1))=false;rw [hplain] <;> rfl) (Calls.evalArgs_plain ?_);exact cV hA fun us s2 ⟨vs,H2,I2,r2,q2⟩=>hm pins s2 σ H2 x vs v us Q I2 r1 r2 q2
end
def Pb (X:Cx)(id:String)(r:V->List V->Hp->VK->Prop):Prop :=
 ∀(pins:Tc) (s:Shared) (σ:St) (H:Hp) (x:V) (xs:List V) (v:Value) (us:Te) (Q:VK),aA X pins σ H s->aY x v->aW xs us->r x xs H Q ->
  wpAny (model X.prog X.w) X.A (call (.builtin id) (v::us)) (EP X pins σ Q) X.xe s
theorem aW.one {x:V}{us:Te}(h:aW [x] us):∃u,us=[u]/\aY x u:=by
 cases h with|cons r t=>cases t;exact ⟨_,rfl,r⟩
section
variable  {X:Cx}{pins:Tc}{σ:St}{H:Hp}{s:Shared}{l b:Addr}{xs ys zs:List V}
theorem aA.lset {its its':Te}{n:Nat}{f:Array Value->Ti}{t':Nat}(I:aA X pins σ H s)(hH:H l=some (.lst xs))
  (e:s.heap.get? l=some {cls:=.type "list",data:=.seq its.toArray n}) (hf:f its.toArray=its'.toArray) (hv:aW ys its') (hz:ys.length<=sizeLine) :
  aA X pins σ (upd H l (.lst ys)) {s with heap:=s.heap.update l (Obj.mapSeq f),toks:=t'}:=by
 have q:=PySem.IsL.update e f;rw [hf] at q;refine I.write (x:=l) (e:=l) (by rw [hH];exact trivial) (.inl rfl) (fun b' u hb hu=>(zay s.heap (Obj.mapSeq f) (Ne.symm hb)).trans hu) ⟨_,q⟩ ?_;exact ⟨hz,its',_,hv,q⟩
theorem aA.lnew {its:Te}{t':Nat}(I:aA X pins σ H s)(hv:aW ys its)(hz:ys.length<=sizeLine) :
  aA X pins σ (upd H s.heap.objs.size (.lst ys)) {s with heap:=s.heap.push {cls:=.type "list",data:=.seq its.toArray},toks:=t'} :=
 I.laid (fun _ _ q=>zae _ q) (zam _) ⟨hz,its,0,hv,zal _ rfl⟩
theorem aA.fresh (I:aA X pins σ H s):H s.heap.objs.size=none:=I.hok.fresh (zam _)
theorem aA.lstM (I:aA X pins σ H s)(hH:H l=some (.lst xs)):xs.length<=sizeLine/\∃(its:Te) (n:Nat),aW xs its/\xs.length=its.length/\s.heap.get? l=some {cls:=.type "list",data:=.seq its.toArray n}:=by
 obtain ⟨z,its,n,r,e⟩:=I.hok l _ hH;exact ⟨z,its,n,r,r.length,e⟩
end
section
variable  {X:Cx}
def wu:V->List V->Hp->VK->Prop:=fun x vs H Q=>∃l xs y,x=.ref l/\vs=[y]/\H l=some (.lst xs)/\xs.length < sizeLine/\Q .non (upd H l (.lst (xs++[y])))
theorem yg:Pb X "list.append" wu:=by
 intro pins s σ H x vs v us Q I rx rv h;obtain ⟨l,xs,y,rfl,rfl,hH,hz,q⟩:=h;cases rx;obtain ⟨u,rfl,ru⟩:=rv.one;obtain ⟨z,its,n,r,hl,e⟩:=I.lstM hH;refine call_meets F.slot_list_append ⟨_,e,rfl⟩ F.entry_list_append (F.args_list_append_2 _ _) (PySem.list_append l its.toArray n u (by rw [zaz];omega)) ⟨e,?_⟩;refine ⟨.non,_,I.lset (its':=its++[u]) hH e (by simp) (r.append (.cons ru .nil)) ?_,rfl,q⟩;rw [zaW,List.length_singleton];omega
def JQ:R2:=fun x y H Q=>∃l b xs zs,x=.ref l/\y=.ref b/\H l=some (.lst xs)/\H b=some (.lst zs)/\xs.length+zs.length<=sizeLine/\∀p,H p=none->Q (.ref p) (upd H p (.lst (xs++zs)))
theorem G9:jS X (binaryOp .Add) JQ:=by
 intro pins s σ H x y v u Q I rx ry h;obtain ⟨l,b,xs,zs,rfl,rfl,hH,hB,hz,q⟩:=h;cases rx;cases ry;obtain ⟨z,its,n,r,hl,e⟩:=I.lstM hH;obtain ⟨z2,its2,n2,r2,hl2,e2⟩:=I.lstM hB;refine PySem.P.add_list e e2 ?_ (by rw [zaz,zaz];omega)
 have ea:its.toArray++its2.toArray=(its++its2).toArray:=by simp
 rw [ea];exact ⟨.ref _,_,I.lnew (t':=s.toks) (r.append r2) (by rw [zaW];omega),rfl,q _ I.fresh⟩
end
section
variable  {κ:Type}[DecidableEq κ]
def d3 (kvs:List (κ×V))(k:κ):Option V:=(kvs.find? fun kv=>decide (kv.1=k)).map (·.2)
def ee (kvs:List (κ×V))(k:κ)(v:V):List (κ×V) :=
 if (kvs.any fun kv=>decide (kv.1=k))=true then kvs.map (fun kv=>if kv.1=k then (kv.1,v) else kv) else kvs++[(k,v)]
theorem kY {p:κ×V}{r:List (κ×V)}{k:κ}(e:p.1=k):d3 (p::r) k=some p.2:=by simp [d3,zcg,e]
theorem iX {p:κ×V}{r:List (κ×V)}{k:κ}(e:¬ p.1=k):d3 (p::r) k=d3 r k:=by simp [d3,zcg,e]
theorem nv (k:κ):∀kvs:List (κ×V),(kvs.any fun kv=>decide (kv.1=k))=(d3 kvs k).isSome
 |[]=>rfl
 |p::r=>by
  rw [zbG]
  by_cases e:p.1=k
  ·simp only [kY e,zaA e,Bool.true_or,zcE]
  ·rw [iX e,zav e,Bool.false_or];exact nv k r
theorem jk (kvs:List (κ×V))(k:κ)(v:V):(ee kvs k v).length<=kvs.length+1:=by
 unfold ee;split
 ·rw [zaf];omega
 ·rw [zaW,zaK,zbL];omega
theorem Ao {kvs:List (κ×V)}{k:κ}(v:V)(h:d3 kvs k=none):ee kvs k v=kvs++[(k,v)]:=by
 unfold ee;rw [nv,h];exact if_neg (by decide)
theorem pB.isSome_eq {o:Option V}{u:Tg}(r:pB o u):o.isSome=u.isSome:=by
 cases o with
 |none=>cases u with
  |none=>rfl
  |some _=>exact (show False from r).elim
 |some _=>cases u with
  |none=>exact (show False from r).elim
  |some _=>rfl
theorem KV.val {kvs:List (κ×V)}{vs:List (κ×Value)}(r:KV kvs vs)(k:κ):pB (d3 kvs k) (valueAt vs k):=by
 unfold KV at r
 induction r with
 |nil=>exact True.intro
 | @cons p q ps qs h t ih =>
  obtain ⟨h1,h2⟩:=h
  by_cases e:p.1=k
  ·have e':q.1=k:=h1.symm.trans e
   have b:valueAt (q::qs) k=some q.2:=by simp [valueAt,zcg,e']
   rw [kY e,b];exact h2
  ·have e':¬ q.1=k:=fun z=>e (h1.trans z)
   have b:valueAt (q::qs) k=valueAt qs k:=by simp [valueAt,zcg,e']
   rw [iX e,b];exact ih
theorem KV.any {kvs:List (κ×V)}{vs:List (κ×Value)}(r:KV kvs vs)(k:κ):(kvs.any fun kv=>decide (kv.1=k))=vs.any fun kv=>decide (kv.1=k):=by
 unfold KV at r
 induction r with
 |nil=>rfl
 |cons h t ih=>rw [zbG,zbG,ih,h.1]
theorem KV.repl {kvs:List (κ×V)}{vs:List (κ×Value)}(r:KV kvs vs)(k:κ){y:V}{u:Value}(ry:aY y u) :
  KV (kvs.map fun kv=>if kv.1=k then (kv.1,y) else kv) (vs.map fun kv=>if kv.1=k then (kv.1,u) else kv):=by
 unfold KV at r ⊢
 induction r with
 |nil=>exact .nil
 | @cons p q ps qs h t ih =>
  rw [zag,zag];refine .cons ?_ ih;obtain ⟨h1,h2⟩:=h
  by_cases e:p.1=k
  ·rw [if_pos e,if_pos (h1.symm.trans e)];exact ⟨h1,ry⟩
  ·rw [if_neg e,if_neg (fun z=>e (h1.trans z))];exact ⟨h1,h2⟩
theorem KV.put {kvs:List (κ×V)}{vs:List (κ×Value)}(r:KV kvs vs)(k:κ){y:V}{u:Value}(ry:aY y u):KV (ee kvs k y) (stored vs k u):=by
 unfold ee stored;rw [r.any k]
 by_cases e:(vs.any fun kv=>decide (kv.1=k))=true
 ·rw [if_pos e,if_pos e];exact r.repl k ry
 ·rw [if_neg e,if_neg e];exact Paired.snoc r ⟨rfl,ry⟩
theorem KV.length {kvs:List (κ×V)}{vs:List (κ×Value)}(r:KV kvs vs):kvs.length=vs.length:=Paired.length r
end
theorem tH {P:Program}{w:World}{k:aV}{u:Value}(r:aY (kV k) u):(bz P w).is k u=true:=by
 cases k with
 |inl i=>obtain ⟨t,e⟩:=(show ∃t,u=Value.int i t from r);subst e;exact sZ P w i t
 |inr o=>cases o with
  |some x=>obtain ⟨t,e⟩:=(show ∃t,u=Value.str x t from r);subst e;exact sY P w x t
  |none=>have e:u=Value.none:=r;subst e;exact yl
theorem pU {P:Program}{w:World}:∀{ks:List aV} {us:Te},aW (ks.map kV) us->ItemsAre (bz P w) ks us
 |[],_,r=>by rw [za6] at r;cases r;exact .nil
 |k::ks,_,r=>by
  rw [zag] at r
  cases r with
  |cons h t=>exact .cons (tH h) (pU t)
abbrev KT (H:Hp):List (List aV×V)->List (List aV×Addr×Value)->Prop:=Paired fun p q=>p.1=q.1/\H q.2.1=some (.tup (p.1.map kV))/\aY p.2 q.2.2
theorem KT.val {H:Hp}{kvs:List (List aV×V)}{xs:List (List aV×Addr×Value)}(r:KT H kvs xs)(k:List aV):pB (d3 kvs k) ((atKey xs k).map (·.2)):=by
 induction r with
 |nil=>exact True.intro
 | @cons p q ps qs h t ih =>
  obtain ⟨h1,_,h2⟩:=h
  by_cases e:p.1=k
  ·have e':q.1=k:=h1.symm.trans e
   have b:atKey (q::qs) k=some q.2:=by simp [atKey,zcg,e']
   rw [kY e,b];exact h2
  ·have e':¬ q.1=k:=fun z=>e (h1.trans z)
   have b:atKey (q::qs) k=atKey qs k:=by simp [atKey,zcg,e']
   rw [iX e,b];exact ih
theorem KT.repl {H:Hp}{kvs:List (List aV×V)}{xs:List (List aV×Addr×Value)}(r:KT H kvs xs)(k:List aV){y:V}{u:Value}(ry:aY y u) :
  KT H (kvs.map fun kv=>if kv.1=k then (kv.1,y) else kv) (xs.map (putAt k u)):=by
 induction r with
 |nil=>exact .nil
 | @cons p q ps qs h t ih =>
  rw [zag,zag];refine .cons ?_ ih;obtain ⟨h1,h2,h3⟩:=h;unfold putAt
  by_cases e:p.1=k
  ·rw [if_pos e,if_pos (h1.symm.trans e)];exact ⟨h1,h2,ry⟩
  ·rw [if_neg e,if_neg (fun z=>e (h1.trans z))];exact ⟨h1,h2,h3⟩
theorem KT.put {H:Hp}{kvs:List (List aV×V)}{xs:List (List aV×Addr×Value)}(r:KT H kvs xs)(k:List aV){b:Addr}{y:V}{u:Value}(hb:H b=some (.tup (k.map kV)))(ry:aY y u) :
  KT H (ee kvs k y) (storedH xs k b u):=by
 have e:(kvs.any fun kv=>decide (kv.1=k))=(atKey xs k).isSome:=by
  rw [nv,(r.val k).isSome_eq,Option.isSome_map]
 unfold ee storedH;rw [e]
 by_cases q:(atKey xs k).isSome=true
 ·rw [if_pos q,if_pos q];exact r.repl k ry
 ·rw [if_neg q,if_neg q];exact Paired.snoc r ⟨rfl,hb,ry⟩
theorem KT.keeps {H H':Hp}{kvs:List (List aV×V)}{xs:List (List aV×Addr×Value)}(r:KT H kvs xs)(ht:∀b ys,H b=some (.tup ys)->H' b=some (.tup ys)):KT H' kvs xs :=
 Paired.mapP r fun _ _ z=>⟨z.1,ht _ _ z.2.1,z.2.2⟩
section
variable  {P:Program}{w:World}{H:Hp}{h:Heap}{a:Addr}
theorem E5 {u:HO}(ok:g9 P w H h)(e:Rd H a u):bm P w H h a u:=e.ok ok
theorem t9 {kvs:List (aV×V)}(ok:g9 P w H h)(e:Rd H a (.dK kvs)):kvs.length<=sizeLine/\(a == sysModules)=false/\∃vs,KV kvs vs/\h.DictOf (bz P w) a vs :=
 show bm P w H h a (.dK kvs) from E5 ok e
theorem K8 {kvs:List (aV×V)}(ok:g9 P w H h)(e:H a=some (.dK kvs)):kvs.length<=sizeLine/\(a == sysModules)=false/\∃vs,KV kvs vs/\h.DictOf (bz P w) a vs:=t9 ok (.inl e)
theorem l6 {ks:List aV}(ok:g9 P w H h)(e:H a=some (.tup (ks.map kV))):(tupleKind (bz P w)).is h ks a:=by
 obtain ⟨_,its,r,⟨o,h1,h2,n,h3⟩,_⟩:=(show bm P w H h a (.tup (ks.map kV)) from ok a _ e);exact ⟨o,its.toArray,n,h1,h2,h3,by simpa using pU r⟩
theorem t7 {kvs:List (List aV×V)}(ok:g9 P w H h)(e:Rd H a (.dT kvs)):kvs.length<=sizeLine/\(a == sysModules)=false /\
  ∃xs,KT H kvs xs/\h.DictOfH (tupleKind (bz P w)) a xs:=by
 obtain ⟨z,y,xs,r,o,es,ep,h1,h2,h3,h4,h5⟩:=(show bm P w H h a (.dT kvs) from E5 ok e);refine ⟨z,y,xs,r,o,es,ep,h1,h2,h3,h4,fun x hx=>?_,h5⟩
 have all:∀{l:List (List aV×V)} {m:List (List aV×Addr×Value)},KT H l m->∀x∈m,(tupleKind (bz P w)).is h x.1 x.2.1:=by
  intro l m q
  induction q with
  |nil=>intro x hx;exact nomatch hx
  | @cons p q ps qs hq t ih =>
   intro x hx;rcases zak.mp hx with e|hx
   ·subst e
    exact l6 ok (by rw [←hq.1];exact hq.2.1)
   ·exact ih x hx
 exact all r x hx
theorem Fu {kvs:List (List aV×V)}(ok:g9 P w H h)(e:H a=some (.dT kvs)):kvs.length<=sizeLine/\(a == sysModules)=false /\
  ∃xs,KT H kvs xs/\h.DictOfH (tupleKind (bz P w)) a xs:=t7 ok (.inl e)
end
def Ey (H:Hp)(a:Addr)(y:V)(r:Option V):Prop :=
 (∃kvs k,Rd H a (.dK kvs)/\y=kV k/\r=d3 kvs k)\/∃kvs k b,Rd H a (.dT kvs)/\y=.ref b/\H b=some (.tup (k.map kV))/\r=d3 kvs k
def Ex (H:Hp)(a:Addr)(y v:V)(H':Hp):Prop :=
 (∃kvs k,H a=some (.dK kvs)/\y=kV k/\kvs.length < sizeLine/\H'=upd H a (.dK (ee kvs k v))) \/
 ∃kvs k b,H a=some (.dT kvs)/\y=.ref b/\H b=some (.tup (k.map kV))/\kvs.length < sizeLine/\H'=upd H a (.dT (ee kvs k v))
theorem Ex.t {H:Hp}{a b:Addr}{kvs:List (List aV×V)}{k:List aV}{v:V}(e:H a=some (.dT kvs))(eb:H b=some (.tup (k.map kV)))(hl:kvs.length < sizeLine) :
  Ex H a (.ref b) v (upd H a (.dT (ee kvs k v))):=.inr ⟨kvs,k,b,e,rfl,eb,hl,rfl⟩
section
variable  {X:Cx}{pins:Tc}{σ:St}{H:Hp}{s:Shared}{a:Addr}{y v:V}{u r:Value}{o:Option V}{A:Around}{E:Tb}
theorem aA.big (I:aA X pins σ H s):sysModules < s.heap.objs.size:=by
 have h:mainGlobals < s.heap.objs.size:=(I.mod.glob.keeps I.bk).lt;exact zb7 (by decide) h
theorem yH {Q:Tb}(hu:A.units+1 < cLine)(I:aA X pins σ H s)(g:Ey H a y (some v))(ry:aY y u)(h:∀w' s',aA X pins σ H s'->aY v w'->Q w' s') :
  wpAny (model X.prog X.w) A (getItem (.ref a) u) Q E s:=by
 rcases g with ⟨kvs,k,e,ey,l⟩|⟨kvs,k,b,e,ey,eb,l⟩
 ·subst ey
  obtain ⟨z,hd,vs,rel,dd⟩:=t9 I.hok e;obtain ⟨w',hw,rw'⟩:=pB.some_of (v:=v) (o:=valueAt vs k) (by rw [l];exact rel.val k);exact wpAny_getItem_of (tH ry) dd.mapOf hw (h w' _ (I.tok _) rw')
 ·subst ey
  cases (show u=Value.ref b from ry);obtain ⟨z,hd,xs,rel,dd⟩:=t7 I.hok e;obtain ⟨w',hw,rw'⟩:=pB.some_of (v:=v) (o:=(atKey xs k).map (·.2)) (by rw [l];exact rel.val k);obtain ⟨p,hp,hp2⟩:=zaF.mp hw;refine wpAny_getItem_heap (tupleKind_room_in1 hu) (l6 I.hok eb) dd hp ?_;rw [hp2];exact h w' _ (I.tok _) rw'
theorem NL {Q:Tb}(hu:A.units+1 < cLine)(I:aA X pins σ H s)(g:Ey H a y o)(ry:aY y u)(h:∀s',aA X pins σ H s'->Q (.bool o.isSome) s') :
  wpAny (model X.prog X.w) A (compareOp .In u (.ref a)) Q E s:=by
 rcases g with ⟨kvs,k,e,ey,l⟩|⟨kvs,k,b,e,ey,eb,l⟩
 ·subst ey
  obtain ⟨z,hd,vs,rel,dd⟩:=t9 I.hok e;refine wpAny_in_of (tH ry) hd dd.mapOf ?_;rw [←(rel.val k).isSome_eq,←l];exact h _ (I.tok _)
 ·subst ey
  cases (show u=Value.ref b from ry);obtain ⟨z,hd,xs,rel,dd⟩:=t7 I.hok e;refine wpAny_in_heap (tupleKind_room_in1 hu) (l6 I.hok eb) hd dd ?_;have q:=(rel.val k).isSome_eq;rw [Option.isSome_map] at q;rw [←q,←l];exact h _ (I.tok _)
theorem rf {h':Heap}{t':Nat}{ob:HO}(I:aA X pins σ H s)(mu:Lk (H a))(hs:Heap.SameBut a s.heap h')(he:∃q,h'.get? a=some q)(new:bm X.prog X.w (upd H a ob) h' a ob) :
  aA X pins σ (upd H a ob) {s with heap:=h',toks:=t'} :=
 I.write (x:=a) (e:=a) mu (.inl rfl) (fun b q hb z=>(hs.2 b hb).trans z) he new
theorem Ih {P:Program}{w:World}{H':Hp}{h':Heap}{kvs:List (aV×V)}{vs:List (aV×Value)}(z:kvs.length<=sizeLine)(hd:(a == sysModules)=false)(rel:KV kvs vs)(dd:h'.DictOf (bz P w) a vs) :
  bm P w H' h' a (.dK kvs):=⟨z,hd,vs,rel,dd⟩
theorem yG {H':Hp}{Q:Unit->Shared->Prop}(hu:A.units+1 < cLine)(I:aA X pins σ H s)(g:Ex H a y v H')(ry:aY y u)(rv:aY v r)(h:∀s',aA X pins σ H' s'->Q () s') :
  wpAny (model X.prog X.w) A (setItem (.ref a) u r) Q E s:=by
 rcases g with ⟨kvs,k,e,ey,l,eH⟩|⟨kvs,k,b,e,ey,eb,l,eH⟩
 ·subst ey eH
  obtain ⟨z,hd,vs,rel,dd⟩:=K8 I.hok e
  have hz:vs.length<=sizeLine:=by rw [←rel.length];exact z
  have hl:(ee kvs k v).length<=sizeLine:=by have:=jk kvs k v;omega
  refine wpAny_setItem_pairs (hsz:=hz) (tH ry) dd fun h' dd' hs=>h _ ?_;have he:∃q,h'.get? a=some q:=let ⟨q,_,_,hq,_⟩:=dd';⟨q,hq⟩;exact rf I (by rw [e];exact True.intro) hs he (Ih hl hd (rel.put k rv) dd')
 ·subst ey eH
  cases (show u=Value.ref b from ry);obtain ⟨z,hd,xs,rel,dd⟩:=Fu I.hok e
  have hz:xs.length<=sizeLine:=by rw [←Paired.length rel];exact z
  have hl:(ee kvs k v).length<=sizeLine:=by have:=jk kvs k v;omega
  refine wpAny_setItem_heap (hsz:=hz) (tupleKind_room_in1 hu) (l6 I.hok eb) dd fun h' dd' hs=>h _ ?_;obtain ⟨q,es,ep,hq,h2,h3,h4,_,h5⟩:=dd';refine rf I (by rw [e];exact True.intro) hs ⟨q,hq⟩ ⟨hl,hd,_,(rel.put k eb rv).keeps fun c ys ec=>?_,q,es,ep,hq,h2,h3,h4,h5⟩;rw [au (Fi ec e (fun z=>nomatch z))];exact ec
end
def Eo (i:Expr):Prop:=∀ov iv,subscripted i false ov iv=operate [ov,iv] (getItem ov iv)
theorem CC {prog:Program}{w:World}{A:Around}{E:Tb}{s:Shared}{env:Env}{value slice:Expr}{pos:Pos}{T id:String}{Q:Tb}
  (hl:typeLookup (.type T) "__getitem__" = pure (some (.builtin id))) (hs:Eo slice)
  (h:wpAny (model prog w) A (eval value env) (fun o s₁=>wpAny (model prog w) A (eval slice env) (fun i s₂=>s₂.TypeIs o T/\wpAny (model prog w) A (getItem o i) Q E s₂) E s₁) E s) :
  wpAny (model prog w) A (eval (.Subscript value slice pos) env) Q E s:=by
 refine Subscript_ (zbz h (fun o s₁ h₁=>zbz h₁ (fun i s₂ h₂=>?_) fun _ _ x=>x) fun _ _ x=>x);obtain ⟨hT,h₂⟩:=h₂;unfold subscriptTail;refine zaa ?_;rw [getitemInPython_of_ne hT.not_modules];refine zaa (zcz hT hl ?_)
 have fin:wpAny (model prog w) A (subscripted slice false o i) (fun r s₃=>wpAny (model prog w) A (letTemporaryGo value o r >>= fun _=>pure r) Q E s₃) E s₂:=by
  rw [hs o i];exact wpAny_operating (zbz h₂ (fun r s₃ h₃=>zaa (wpAny_letTemporaryGo (zad h₃))) fun _ _ x=>x)
 first
  |exact zad (zaa fin)
  |exact zaa (zad (zaa fin))
  |exact zaa fin
theorem ua {H:Hp}{s:Shared}{a:Addr}{y:V}{o:Option V}(I:aA X pins σ H s)(g:Ey H a y o):s.TypeIs (.ref a) "dict":=by
 rcases g with ⟨kvs,k,e,_,_⟩|⟨kvs,k,b,e,_,_,_⟩
 ·obtain ⟨_,_,vs,_,dd⟩:=t9 I.hok e
  exact dd.typeIs
 ·obtain ⟨_,_,xs,_,dd⟩:=t7 I.hok e
  exact dd.typeIs
def zu (td ty:TE):TE:=fun σ H Q=>td σ H fun x H1=>ty σ H1 fun y H2=>∃a v,x=.ref a/\Ey H2 a y (some v)/\Q v H2
section
variable  {X:Cx}{o i e value:Expr}{pos pos' tpos:Pos}{td ty tv:TE}
theorem wA (hu:X.A.units+1 < cLine)(ho:PE X o td)(hi:PE X i ty)(hs:Eo i):PE X (.Subscript o i pos) (zu td ty):=by
 intro pins s σ H Q I h;refine CC PySem.F.slot_dict_getitem.lookup hs (cV (ho pins s σ H _ I h) fun u s1 ⟨x,H1,I1,rx,q1⟩=>cV (hi pins s1 σ H1 _ I1 q1) fun iv s2 hh=>?_);obtain ⟨y,H2,I2,ry,a,v,ex,g,q2⟩:=hh;subst ex;obtain rfl:u=Value.ref a:=rx;exact ⟨ua I2 g,yH hu I2 g ry fun w' s3 I3 rw'=>⟨v,H2,I3,rw',q2⟩⟩
end
theorem BU {P:Program}{w:World}{H:Hp}(h:Heap)(hb:sysModules < h.objs.size):bm P w H (h.push {cls:=.type "dict",data:=.dict #[]}) h.objs.size (.dT []) :=
 ⟨za9 _,beq_eq_false_iff_ne.mpr (Ne.symm (zan hb)),[],.nil,_,#[],0,zal _ rfl,⟨rfl,rfl,rfl⟩,rfl,rfl,zcq⟩
def uR:TE:=fun _ H Q=>∀p,H p=none->Q (.ref p) (upd H p (.dT []))
section
variable  {X:Cx}{pos:Pos}
theorem sQ:PE X (.Dict [] [] pos) uR:=fun pins s σ H Q I h =>
 wpAny_Dict_empty ⟨.ref s.heap.objs.size,_,I.laid (a:=s.heap.objs.size) (o:=.dT []) (t':=s.toks) (fun _ _ q=>zae _ q) (zam _) (BU s.heap I.big),rfl,h _ (I.hok.fresh (zam _))⟩
end
structure M1 (X:Cx)(o:Expr)(m:Str)(apos:Pos)(e:Expr)(cpos:Pos):Prop where
 base:attributeBase o m X.env (eval o X.env)=eval o X.env
 few:((backTo cpos (starEach [e] X.env)).all (fun x=>!x.1) && (backToKw cpos (keywordEach [] X.env)).all (fun x=>x.1.isSome)
  && decide (([e]:Tj).length+([]:List Keyword).length+(if ([]:List Keyword).isEmpty then 0 else 1) < 30))=true
 line:(apos.endLine == cpos.line)=true
 trees:backTo cpos (starEach [e] X.env)=[(false,eval e X.env)]
structure M2 (X:Cx)(o:Expr)(m:Str)(apos:Pos)(e f:Expr)(cpos:Pos):Prop where
 base:attributeBase o m X.env (eval o X.env)=eval o X.env
 few:((backTo cpos (starEach [e,f] X.env)).all (fun x=>!x.1) && (backToKw cpos (keywordEach [] X.env)).all (fun x=>x.1.isSome)
  && decide (([e,f]:Tj).length+([]:List Keyword).length+(if ([]:List Keyword).isEmpty then 0 else 1) < 30))=true
 line:(apos.endLine == cpos.line)=true
 trees:backTo cpos (starEach [e,f] X.env)=[(false,eval e X.env),(false,eval f X.env)]
def OP (H:Hp)(a:Addr):Prop:=(∃kvs,Rd H a (.dK kvs))\/∃kvs,Rd H a (.dT kvs)
theorem Bj {H:Hp}{s:Shared}{a:Addr}(I:aA X pins σ H s)(d:OP H a) :
  s.TypeIs (.ref a) "dict"/\(∀b,Value.ref a=.ref b->∃ob,s.heap.get? b=some ob/\ob.dict=none)/\(a == sysModules)=false:=by
 rcases d with ⟨kvs,e⟩|⟨kvs,e⟩
 ·obtain ⟨_,hd,vs,_,dd⟩:=t9 I.hok e
  refine ⟨dd.typeIs,fun b q=>?_,hd⟩;cases q;obtain ⟨ob,_,_,h1,h2,_⟩:=dd;exact ⟨ob,h1,h2.2.1⟩
 ·obtain ⟨_,hd,xs,_,dd⟩:=t7 I.hok e
  refine ⟨dd.typeIs,fun b q=>?_,hd⟩;cases q;obtain ⟨ob,_,_,h1,h2,_⟩:=dd;exact ⟨ob,h1,h2.2.1⟩
end L2
namespace Att
open PySem PySem.W PySem.Calls PyProof.Rows
theorem mN {P:Params}{h:Heap}:∀(ns:Th) (vs:Te),WellAll P h vs (ns.map WData.int)->IntsAre vs ns:=by
 intro ns
 induction ns with
 |nil =>
  intro vs w;rw [za6] at w;cases w;exact .nil
 |cons n ns ih =>
  intro vs w;rw [zag] at w
  cases w with
  |cons a b =>
   cases a;exact .cons _ _ (ih _ b)
theorem xJ {l:OpenLaw}{n:Nat}(hn:l.most=some n){P:Params}{h:Heap}{args:List WData}{vals:Te}
  (hpre:l.row.toRowW.claim.pre args=true) (hwl:WellAll P h vals args) :
  ∃a vs ns,vals=[Value.ref a]/\args=[WData.list (ns.map WData.int)]/\h.get? a=some {cls:=.type "list",data:=.seq vs.toArray}/\IntsAre vs ns/\ns.length<=n:=by
 have hsh:WShape.hasAll [] args [.list .int]=true:=(pre_splitW hpre).1;have hc:l.pre.holds [] {args:=args}=true:=(pre_splitW hpre).2;obtain ⟨d,r,rfl,h1,h2⟩:=hasAllW_cons hsh;obtain rfl:=hasAllW_nil h2;obtain ⟨xs,rfl,h3⟩:=hasW_list h1;obtain ⟨ns,rfl⟩:=items_int h3
 have hlen:ns.length<=n:=by
  unfold OpenLaw.pre at hc
  have h4:(WTm.not (.lt (.lit (.int (n:Int))) (.len (.arg 0)))).holds [] {args:=[.list (ns.map .int)]}=true:=by
   have h4:=(holds_andW hc).1;rw [hn] at h4;exact h4
  have h5:=condW_of h4 (w_not (w_lt w_lit (w_len_list (w_arg rfl))));rw [zaf] at h5;refine Nat.le_of_not_lt fun q=>?_
  have q':(n:Int) < ((ns.length:Nat):Int):=by omega
  first
   |(rw [zaA q'] at h5;exact absurd h5 (by decide))
   |(simp at h5;omega)
 cases hwl with
 |cons w1 w2 =>
  cases w2
  cases w1 with
  |list ho hall=>exact ⟨_,_,ns,rfl,rfl,ho,mN ns _ hall,hlen⟩
theorem xV (l:OpenLaw)(args:List WData):l.row.toRowW.claim.post args (.bool true) args=true :=
 postW_of (r:=l.row.toRowW) (X:=(true == true))
  (show WShape.has [] (.bool true) .bool=true by first|rfl|decide|simp [WShape.has,WShape.arms,WShape.armsAll])
  (show (WTm.eq .res (.lit (.bool true))).value [] {args:=args,res:=some (.bool true),after:=args}=some (.bool (true == true)) from w_eq_bool (w_res rfl) w_lit) rfl
theorem attach_call {l:OpenLaw}{n:Nat}{q:Program}{loose:Tn}{XP:(Td)->Heap->Prop}{YP:World->Heap->Prop}{d:DefRec}
  (hn:l.most=some n) (hdf:d.params.defaults=[])
  (call:∀(w:World) (s₀ s₁:Shared) (mg mb:Td) (fa:Addr) (o:Obj) (pm cd doc:Value) (a:Addr) (vs:Te) (ns:Th),
   Ground q loose [] XP w s₀ mg mb s₁.heap->YP w s₁.heap ->
   s₁.heap.get? fa=some o->o.data=.func (docDef d.name d.params d.body d.scope pm cd doc)->s₁.heap.CodeRec cd d.name->mg d.name=some (.ref fa) ->
   s₁.heap.get? a=some {cls:=.type "list",data:=.seq vs.toArray}->IntsAre vs ns->ns.length<=n->s₁.gens = #[] ->
   codeAny (model l.prog w) callerA (.call (.ref fa) ⟨[.ref a],[]⟩) (fun r s'=>r=.ok (.ret (.bool true))/\OldK s₁.heap s'.heap/\s'.os=s₁.os/\AllBare s'.gens) s₁) :
  WalkO q loose XP YP l.row.toRowW d [] (fun f vs=>PySem.call f vs):=by
 intro w s₀ s₁ mg mb G Y fa o pm cd doc dV kV ho hd hcd hD hmg hg args vals as hpre hlay hrd hwl hlo;obtain rfl:dV=.none:=Dflts.none hD hdf;obtain rfl:kV=.none:=Dflts.noKw hD;obtain ⟨a,vs,ns,rfl,rfl,hobj,hints,hlen⟩:=xJ hn hpre hwl;refine enter_call (zbg (call w s₀ s₁ mg mb fa o pm cd doc a vs ns G Y ho (fd_plain hd) hcd hmg hobj hints hlen hg) fun r s' hq=>?_);obtain ⟨rfl,h2,h3,h4⟩:=hq;exact ⟨.inl ⟨.bool true,.bool true,[],rfl,fun _=>rfl,.bool true,xV l _,fun _=>⟨List.Pairwise.nil,fun _ hm=>(nomatch hm)⟩⟩,h2,h3,h4⟩
end Att
namespace L2
open PySem PySem.Spec PyProof.Rows
theorem cr:∀{vs:Te} {ns:Th},IntsAre vs ns->aW (ns.map V.int) vs
 |_,_,.nil=>.nil
 |_,_,.cons n t h=>.cons ⟨t,rfl⟩ (cr h)
def Ch (H:Hp):Prop:=∀b,H b=none\/∃o xs,H b=some (.frz o (.lst xs))
theorem A4 {P:Program}{w:World}{K:zac}{mg mb:Td}{CX:xu}{k:Nat}{fa a:Addr}{fd:FuncData}{x:Str}{sp:Sp}{s₁:Shared}{vs:Te}{ns:Th}
  (KX:K.In s₁.heap) (hns:s₁.heap.Ns mainGlobals mg) (hb:s₁.heap.Ns builtinsNs mb) (hbb:∀x:Str,x≠"__name__"->mb x=bootBuiltins x) (hlim:s₁.heap.NoLimit) (hg:s₁.gens = #[])
  (ha:s₁.heap.get? a=some {cls:=.type "list",data:=.seq vs.toArray}) (hi:IntsAre vs ns) (hl:ns.length<=sizeLine) (hr:da k callerA)
  (F:∀base:Heap,K.In base->base.Ns mainGlobals mg->cP P w K mg base CX k fa fd [x] sp) (hbind:∀(s:Shared) (u:Value),BindsTo s fd ⟨[u],[]⟩ [(x,u)])
  (hsp:∀H:Hp,Ch H->iV K H a (ns.map V.int)->sp [.ref a] H (fun v _=>v=.bl true) fun _ _ _=>False)
  (hCX:∀H e s',CX [] H s₁ (fun _ _ _=>False) e s'->False) :
  codeAny (model P w) callerA (.call (.ref fa) ⟨[.ref a],[]⟩) (fun r s'=>r=.ok (.ret (.bool true))/\OldK s₁.heap s'.heap/\s'.os=s₁.os/\AllBare s'.gens) s₁:=by
 have rv:=cr hi;have lenV:=hi.length
 have core:∀H:Hp,Ch H->iV K H a (ns.map V.int)->g9 P w H s₁.heap->(∀b,H b≠none->b=a)->(H a≠none->K.lookup a=none) ->
   codeAny (model P w) callerA (.call (.ref fa) ⟨[.ref a],[]⟩) (fun r s'=>r=.ok (.ret (.bool true))/\OldK s₁.heap s'.heap/\s'.os=s₁.os/\AllBare s'.gens) s₁:=by
  intro H hO hS hok hA hK;have base_of:∀{b:Addr} {o:Obj},s₁.heap.get? b=some o->H b=none->(qU s₁.heap H).get? b=some o:=fun e n=>Bn e n
  have noA:∀{b:Addr} {o:Obj} {es:Array DictEntry} {ep:Nat},s₁.heap.get? b=some o->o.data=.dict es ep->H b=none:=fun {b o es ep} e d=>by
   cases q:H b with
   |none=>rfl
   |some u =>
    have e':b=a:=hA b (by rw [q];simp);subst e';rw [ha] at e;cases e;have d':Data.seq vs.toArray _=Data.dict es ep:=d;cases d'
  have nsK:∀{b:Addr} {m:Td},s₁.heap.Ns b m->(qU s₁.heap H).Ns b m:=fun {b m} ⟨o,es,ep,e,d,r⟩=>⟨o,es,ep,base_of e (noA e d),d,r⟩
  have hKb:K.In (qU s₁.heap H):=fun b o e=>base_of (KX b o e) (by
   cases q:H b with
   |none=>rfl
   |some u =>
    have e':b=a:=hA b (by rw [q];simp);subst e'
    rw [hK (by rw [q];simp)] at e;cases e)
  have hM:Mod K mg (qU s₁.heap H):=⟨hKb,nsK hns,⟨mb,nsK hb,hbb⟩,let ⟨mc,h1,h2⟩:=hlim;⟨mc,nsK h1,h2⟩⟩;have e0:Eu P w K mg (qU s₁.heap H) callerA [] s₁ H:=⟨rfl,hM,fun b o e=>Dx e,Nat.le_of_eq (yw _ _),trivial,fun b hb=>absurd (show b∈([]:Tf) from hb) (by simp),hok,.of_eq hg⟩;refine zbg ((F _ hKb (nsK hns)).run callerA [] s₁ H ⟨[.ref a],[]⟩ [.ref a] [.ref a] _ _ hr e0 (hbind s₁ (.ref a)) (.cons rfl .nil) (hsp H hO hS)) fun r s' h=>?_
  cases r with
  |error e=>exact (hCX H e s' h).elim
  |ok fl =>
   cases fl with
   |next=>exact False.elim h
   |brk=>exact False.elim h
   |cont=>exact False.elim h
   |ret u =>
    obtain ⟨v,H',os,bare,un,hok',r',q⟩:=h;have q':v=.bl true:=q;subst q';obtain rfl:u=Value.bool true:=r';refine ⟨rfl,OldK.of_keep fun b o e=>?_,os,bare⟩
    cases q:H b with
    |none=>exact un.keep b o e q (by intro z;exact absurd (show b∈([]:Tf) from z) (by simp)) (by simp)
    |some u =>
     rcases hO b with z|⟨ob,xs,z⟩
     ·rw [q] at z;cases z
     ·have z2:=un.frzs b ob _ z
      obtain ⟨e1,_⟩:=hok b _ z;obtain ⟨e2,_⟩:=hok' b _ z2;rw [e] at e1;cases e1;exact e2
 cases hk:K.lookup a with
 |some o =>
  have e:=KX a o hk;rw [ha] at e;cases e;refine core (fun _=>none) (fun _=>.inl rfl) (.inr ⟨_,vs.toArray,_,hk,rfl,⟨rfl,rfl⟩,rfl,by rw [zaz,lenV];exact hl,by simpa using rv⟩) (fun b u z=>by have z':(none:Option HO)=some u:=z;cases z') (fun b z=>absurd rfl z) fun z=>absurd rfl z
 |none =>
  refine core (fun b=>if b=a then some (.frz {cls:=.type "list",data:=.seq vs.toArray} (.lst (ns.map V.int))) else none) (fun b=>?_) (.inl (.inr ⟨{cls:=.type "list",data:=.seq vs.toArray},if_pos rfl⟩)) (fun b u z=>?_) (fun b z=>?_) fun _=>hk
  ·by_cases hb:b=a
   ·exact .inr ⟨_,_,if_pos hb⟩
   ·exact .inl (if_neg hb)
  ·by_cases hb:b=a
   ·have z':=(if_pos hb).symm.trans z
    cases z';subst hb;exact ⟨ha,by rw [zaf];exact hl,vs,_,rv,ha⟩
   ·have z':=(if_neg hb).symm.trans z
    cases z'
  ·by_cases hb:b=a
   ·exact hb
   ·exact absurd (if_neg hb) z
theorem Cq {l:PySem.W.OpenLaw}{n k:Nat}{q:Program}{loose:Tn}{XP:(Td)->Heap->Prop}{YP:World->Heap->Prop}{d:DefRec}{K:Params->zac}{CX:World->xu}{sp:World->Sp}{x:Str}
  (hn:l.most=some n) (hn2:n<=sizeLine) (hdf:d.params.defaults=[]) (hr:da k callerA)
  (hY:∀(w:World) (h:Heap),YP w h->(K w.params).In h)
  (F:∀(w:World) (mg:Td) (fa:Addr) (h:Heap),(K w.params).In h->h.Ns mainGlobals mg->mg d.name=some (.ref fa) ->
   ∃fd:FuncData,(∀(s:Shared) (u:Value),BindsTo s fd ⟨[u],[]⟩ [(x,u)]) /\
    ∀base:Heap,(K w.params).In base->base.Ns mainGlobals mg->cP l.prog w (K w.params) mg base (CX w) k fa fd [x] (sp w))
  (hsp:∀(w:World) (H:Hp) (a:Addr) (ns:Th),ns.length<=n->Ch H->iV (K w.params) H a (ns.map V.int)->sp w [.ref a] H (fun v _=>v=.bl true) fun _ _ _=>False)
  (hCX:∀(w:World) (H:Hp) (s:Shared) (e:Value) (s':Shared),CX w [] H s (fun _ _ _=>False) e s'->False) :
  PySem.W.WalkO q loose XP YP l.row.toRowW d [] (fun f vs=>PySem.call f vs):=by
 refine Att.attach_call hn hdf fun w s₀ s₁ mg mb fa o pm cd doc a vs ns G Y ho hd hcd hmg hobj hints hlen hg=>?_;have KX:=hY w _ Y;obtain ⟨fd,hb,hF⟩:=F w mg fa _ KX G.T.g hmg;exact A4 KX G.T.g G.T.b G.T.builtins G.T.nolimit hg hobj hints (zbF hlen hn2) hr hF hb (fun H hO hS=>hsp w H a ns hlen hO hS) fun H e s'=>hCX w H s₁ e s'
theorem yY {l:PySem.W.OpenLaw}{n k:Nat}{q:Program}{loose:Tn}{XP:(Td)->Heap->Prop}{YP:World->Heap->Prop}{d:DefRec}{K:Params->zac}{CX:xu}{sp:zac->Sp}{x:Str}
  (hn:l.most=some n) (hn2:n<=sizeLine) (hdf:d.params.defaults=[]) (hr:da k callerA)
  (hY:∀(w:World) (h:Heap),YP w h->(K w.params).In h)
  (F:∀(w:World) (mg:Td) (fa:Addr) (h:Heap),(K w.params).In h->h.Ns mainGlobals mg->mg d.name=some (.ref fa) ->
   ∃fd:FuncData,(∀(s:Shared) (u:Value),BindsTo s fd ⟨[u],[]⟩ [(x,u)]) /\
    ∀base:Heap,(K w.params).In base->base.Ns mainGlobals mg->cP l.prog w (K w.params) mg base CX k fa fd [x] (sp (K w.params)))
  (hsp:∀(K:zac) (H:Hp) (a:Addr) (ns:Th),ns.length<=n->Ch H->iV K H a (ns.map V.int)->sp K [.ref a] H (fun v _=>v=.bl true) fun _ _ _=>False)
  (hCX:∀(H:Hp) (s:Shared) (e:Value) (s':Shared),CX [] H s (fun _ _ _=>False) e s'->False) :
  PySem.W.WalkO q loose XP YP l.row.toRowW d [] (fun f vs=>PySem.call f vs) :=
 Cq (K:=K) (CX:=fun _=>CX) (sp:=fun w=>sp (K w.params)) hn hn2 hdf hr hY F (fun w H a ns h1 h2 h3=>hsp (K w.params) H a ns h1 h2 h3) fun _ H s e s'=>hCX H s e s'
def iI (s:Stmt):Arguments:=match s with
 |.FunctionDef _ a _ _ _ _ _ _ _ _=>a
 |_=>{posonlyargs:=[],args:=[],vararg:=none,kwonlyargs:=[],kw_defaults:=[],kwarg:=none,defaults:=[]}
def ck (s:Stmt):Tk:=match s with
 |.FunctionDef _ _ b _ _ _ _ _ _ _=>b
 |_=>[]
def ai (s:Stmt):Scope:=match s with
 |.FunctionDef _ _ _ _ _ _ sc _ _ _=>sc
 |_=>{kind:=.function,names:=[],isGenerator:=false,isCoroutine:=false}
abbrev mK:xu:=fun _ _ _ _ _ _=>False
abbrev E0:XK:=fun _ _ _=>False
theorem AF:vZ mK X E0:=fun _ _ _ _ _ _ _ h=>h.elim
structure rN (K:zac)(x qual:Str)(st:Stmt)(f:Addr)(fd:FuncData):Prop where
 ex:∃(oc:Value) (od:Option Addr) (kV doc pm:Value) (an:Option Addr) (cdv ct:Value) (osl:Array (Tg)),
  fd=PySem.W.fnOf x qual (iI st) (ck st) (ai st) .none kV doc pm an cdv ct/\K.lookup f=some ⟨oc,od,.func fd,osl⟩/\PySem.W.codeIn K cdv qual=true
 kp:PySem.W.keepIn K (.ref f)=true
section
variable  {P:Program}{w:World}{K:zac}{mg:Td}{base:Heap}
theorem rN.ok {x qual:Str}{st:Stmt}{f:Addr}{fd:FuncData}{N ps:Tn}{k:Nat}{sp:Sp}(F:rN K x qual st f fd)(S:aC N ps (ai st))(len:∀vs H Q E,sp vs H Q E->vs.length=ps.length)
  (hbody:∀(cdv:Value) (A:Around) (outer:List Env) (s:Shared) (H:Hp) (vs:List V) (Q:VK) (E:XK),da k (A.deeper (envOfC qual (ai st) s.heap.objs.size f cdv))->sp vs H Q E ->
   ∃t,o9 (mn mK P w K mg base N qual (ai st) f cdv A outer s H E).nox (ck st) t/\t {nx:=fun _ H'=>Q .non H',rt:=Q} (gS N vs) H):cP P w K mg base mK (k+1) f fd ps sp:=by
 obtain ⟨oc,od,kV,doc,pm,an,cdv,ct,osl,rfl,lk,hcd⟩:=F.ex;refine KP lk hcd S len fun A outer s H vs Q E hr hsp=>?_;obtain ⟨t,h,q⟩:=hbody cdv A outer s H vs Q E hr hsp;exact ⟨t,h.nox,q⟩
theorem rN.binds {x qual:Str}{st:Stmt}{f:Addr}{fd:FuncData}{ps:Tn}(F:rN K x qual st f fd)
  (h:∀(kV doc pm:Value) (an:Option Addr) (cdv ct:Value) (us:Te),us.length=ps.length->bindArgs (PySem.W.fnOf x qual (iI st) (ck st) (ai st) .none kV doc pm an cdv ct) ⟨us,[]⟩=pure (ps.zip us)):iU K fd ps []:=by
 obtain ⟨oc,od,kV,doc,pm,an,cdv,ct,osl,rfl,lk,hcd⟩:=F.ex;exact .all (h kV doc pm an cdv ct)
theorem Bs {x qual:Str}{st:Stmt}{f:Addr}{oc:Value}{od an:Option Addr}{osl:Array (Tg)}{kV doc pm cdv ct:Value}(l:K.lookup f=some ⟨oc,od,.func (PySem.W.fnOf x qual (iI st) (ck st) (ai st) .none kV doc pm an cdv ct),osl⟩)
  (c:PySem.W.codeIn K cdv qual=true) (k:PySem.W.keepIn K (.ref f)=true):rN K x qual st f (PySem.W.fnOf x qual (iI st) (ck st) (ai st) .none kV doc pm an cdv ct):=⟨⟨oc,od,kV,doc,pm,an,cdv,ct,osl,rfl,l,c⟩,k⟩
end
end L2
namespace HS
open PySem PySem.Spec
theorem B9 (xs:Array Nat)(j:Nat)(hs:xs.toList.Pairwise (· < ·)):∀(fuel lo hi:Nat),hi - lo<=fuel->lo<=hi->hi<=xs.size ->
  (∀i (h:i < xs.size),i < lo->xs[i] < j)->(∀i (h:i < xs.size),hi<=i->j<=xs[i]) ->
  SetTable.below.go xs j fuel lo hi<=xs.size/\(∀i (h:i < xs.size),i < SetTable.below.go xs j fuel lo hi->xs[i] < j)/\(∀i (h:i < xs.size),SetTable.below.go xs j fuel lo hi<=i->j<=xs[i]):=by
 intro fuel
 have mono:∀i k (hi:i < xs.size) (hk:k < xs.size),i<=k->xs[i]<=xs[k]:=fun i k hi hk h=>by
  rcases zb8 i k with h|h
  ·have:=zbc.mp hs i k (by simpa using hi) (by simpa using hk) h
   simp at this;omega
  ·have:i=k:=by omega
   subst this;omega
 induction fuel with
 |zero =>
  intro lo hi hf hle hsz h1 h2
  have:lo=hi:=by omega
  subst this;exact ⟨hsz,h1,h2⟩
 |succ fuel ih =>
  intro lo hi hf hle hsz h1 h2;unfold SetTable.below.go
  by_cases hlt:lo < hi
  ·rw [if_pos hlt]
   dsimp only
   have hm:(lo+hi) / 2 < xs.size:=by omega
   have hg:xs.getD ((lo+hi) / 2) j=xs[(lo+hi) / 2]:=by simp [Array.getD,hm]
   rw [hg];split
   ·rename_i hc
    exact ih _ _ (by omega) (by omega) hsz (fun i h hi'=>Nat.lt_of_le_of_lt (mono i _ h hm (by omega)) hc) h2
   ·rename_i hc
    exact ih _ _ (by omega) (by omega) (by omega) h1 (fun i h hi'=>zbF (by omega) (mono _ i hm h hi'))
  ·rw [if_neg hlt]
   have:lo=hi:=by omega
   subst this;exact ⟨hsz,h1,h2⟩
theorem lI {xs:Array Nat}(j:Nat)(hs:xs.toList.Pairwise (· < ·)) :
  SetTable.below xs j<=xs.size/\(∀i (h:i < xs.size),i < SetTable.below xs j->xs[i] < j)/\(∀i (h:i < xs.size),SetTable.below xs j<=i->j<=xs[i]) :=
 B9 xs j hs xs.size 0 xs.size (by omega) (by omega) (by omega) (fun _ _ h=>by omega) (fun _ h h'=>by omega)
def qg (t:SetTable):Prop:=t.plain=true->t.place.toList.Pairwise (· < ·)
theorem iz {xs:Array Nat}{j:Nat}(hs:xs.toList.Pairwise (· < ·))(hn:xs[SetTable.below xs j]?≠some j):(SetTable.insertAt xs (SetTable.below xs j) j).toList.Pairwise (· < ·):=by
 obtain ⟨b1,b2,b3⟩:=lI j hs;rw [SetTable.toList_insertAt];generalize SetTable.below xs j=p at *;rw [zcu];refine ⟨hs.sublist (List.take_sublist _ _),zaM.mpr ⟨fun y hy=>?_,hs.sublist (List.drop_sublist _ _)⟩,fun x hx y hy=>?_⟩
 ·obtain ⟨i,hi,rfl⟩:=zcv.mp hy
  simp only [zb6,zaD] at hi;rw [List.getElem_drop,zbq];have h1:=b3 (p+i) (by omega) (by omega);rcases zcF h1 with h|h
  ·exact h
  ·exfalso
   rcases Nat.eq_zero_or_pos i with rfl|hi0
   ·exact hn (by rw [zao (by omega)];simp only [Nat.add_zero] at h;rw [←h])
   ·have h2:=b3 p (by omega) (by omega)
    have h3:=zbc.mp hs p (p+i) (by simp;omega) (by simp;omega) (by omega);simp only [zbq] at h3;omega
 ·obtain ⟨i,hi,rfl⟩:=zcv.mp hx
  simp only [zbv,zaD] at hi;rw [List.getElem_take,zbq];have h1:=b2 i (by omega) (by omega);rcases zak.mp hy with rfl|hy
  ·exact h1
  ·obtain ⟨k,hk,rfl⟩:=zcv.mp hy
   simp only [zb6,zaD] at hk;rw [List.getElem_drop,zbq];have:=b3 (p+k) (by omega) (by omega);omega
theorem n4 (t:SetTable)(hashAt:Nat->Int)(h:Int):∀(fuel:Nat) (p:SetTable.Probe),(∀d,p.dummy=some d->t.place[SetTable.below t.place d]?≠some d) ->
  ∀j dm,SetTable.probe.go t hashAt h fuel p=some (.empty j dm)->t.place[SetTable.below t.place j]?≠some j/\∀d,dm=some d->t.place[SetTable.below t.place d]?≠some d
 |0,_,_,_,_,e=>by simp [SetTable.probe.go] at e
 |fuel+1,p,hp,j,dm,e=>by
  unfold SetTable.probe.go at e
  have adv:∀q:SetTable.Probe,(t.advance q).dummy=q.dummy:=fun q=>by
   unfold SetTable.advance;split <;> rfl
  split at e
  ·rename_i hs
   cases e;refine ⟨?_,hp⟩;intro hq;unfold SetTable.slot at hs;simp [hq] at hs
  ·rename_i hs
   refine n4 t hashAt h fuel _ (fun d hd=>?_) j dm e;rw [adv] at hd;cases hd;intro hq;unfold SetTable.slot at hs;simp [hq] at hs
  ·split at e
   ·cases e
   ·exact n4 t hashAt h fuel _ (fun d hd=>hp d (by rwa [adv] at hd)) j dm e
theorem px {t:SetTable}{h:Int}{j:Nat}{b:Bool}(e:t.freeSlot h=some (j,b)):t.place[SetTable.below t.place j]?≠some j:=by
 unfold SetTable.freeSlot at e;split at e
 ·rename_i j' dm hp
  cases e;obtain ⟨h1,h2⟩:=n4 t _ h _ _ (by intro d hd;simp [SetTable.probeStart] at hd) _ _ hp
  cases dm with
  |none=>exact h1
  |some d=>exact h2 d rfl
 ·cases e
theorem eB (t:SetTable)(n:Nat):qg (t.standIn n):=fun h=>by simp [SetTable.standIn] at h
theorem qP {t:SetTable}(es:Array (Int×Value))(h:Int)(x:Value)(r:qg t):qg (layNew t es h x).2.1/\(layNew t es h x).2.1.led=t.led:=by
 unfold layNew;split
 ·rename_i slot wd hf
  dsimp only;unfold SetTable.orStandIn;split
  ·refine ⟨fun hp=>?_,rfl⟩
   exact iz (r hp) (px hf)
  ·exact ⟨eB _ _,rfl⟩
 ·exact ⟨eB _ _,rfl⟩
theorem iu {mask finger moves:Nat}{led plain:Bool}{hs:Array Int}{t':SetTable}{o:Array Nat}(e:SetTable.laid mask finger moves led plain hs=some (t',o)):t'.place.toList.Pairwise (· < ·)/\t'.led=led:=by
 unfold SetTable.laid at e;simp only [bind,Option.bind,pure] at e;split at e
 ·cases e
 ·cases e
  refine ⟨?_,rfl⟩;rw [zbC,List.pairwise_filterMap];refine List.Pairwise.imp ?_ (List.pairwise_lt_range);intro a b hab x hx y hy;simp only [zaF] at hx hy;obtain ⟨_,_,rfl⟩:=hx;obtain ⟨_,_,rfl⟩:=hy;exact hab
theorem nR (t:SetTable)(es:Array (Int×Value))(wanted:Nat):qg (relayAll t es wanted).2.1/\(relayAll t es wanted).2.1.led=t.led:=by
 unfold relayAll;split
 ·rename_i t' order h
  dsimp only;split
  ·exact ⟨fun _=>(iu h).1,(iu h).2⟩
  ·exact ⟨eB _ _,rfl⟩
 ·exact ⟨eB _ _,rfl⟩
end HS
namespace HS
open PySem PySem.Spec PyProof.Rows
def val (e:Int×Value):Int:=match e.2 with|.int n _=>n|_=>0
def Iq (e:Int×Value):Prop:=∃n t,e=(hashInt n,.int n t)
structure cq (led:Bool)(es:Array (Int×Value))(t:SetTable)(xs:Th):Prop where
 el:∀e∈es.toList,Iq e
 pm:(es.toList.map val).Perm xs
 nd:xs.Nodup
 bd:es.size < scanBound
 ft:t.fits es.size=true
 rs:qg t
 ld:t.led=led
structure kQ (led:Bool)(es:Array (Int×Value))(t:SetTable):Prop where
 bd:es.size < scanBound
 ft:t.fits es.size=true
 rs:qg t
 ld:t.led=led
theorem cq.w {led:Bool}{es:Array (Int×Value)}{t:SetTable}{xs:Th}(g:cq led es t xs):kQ led es t:=⟨g.bd,g.ft,g.rs,g.ld⟩
def cC (led:Bool)(o:Obj)(xs:Th):Prop:=∃es ep t,o.ExactSet/\o.data=.set es ep t/\cq led es t xs
theorem cC.len {led:Bool}{es:Array (Int×Value)}{t:SetTable}{xs:Th}(g:cq led es t xs):es.size=xs.length:=by
 have:=g.pm.length_eq;simpa using this
theorem Ft {prog:Program}{w:World}{l:List (Int×Value)}(h:∀e∈l,Iq e):ElemsOf (intKind prog w) l:=fun e he=>by
 obtain ⟨n,t,rfl⟩:=h e he;exact ⟨⟨n,intKind_is _ _ _ _,rfl⟩,rfl⟩
theorem Bg {prog:Program}{w:World}{e:Int×Value}(h:Iq e)(k:Int):(intKind prog w).is k e.2=true ↔ val e=k:=by
 obtain ⟨n,t,rfl⟩:=h;simp [intKind,Value.isInt,val]
section
variable  {prog:Program}{w:World}{A:Around}{E:Tb}{s:Shared}
def cb (xs:Th)(k:Int):Th:=if k∈xs then xs else xs++[k]
theorem n5 {xs:Th}{k:Int}(h:xs.Nodup):(cb xs k).Nodup:=by
 unfold cb;split
 ·exact h
 ·rename_i hk
  rw [zbb];exact ⟨h,by simp,fun a ha b hb=>by simp at hb;subst hb;exact fun e=>hk (e ▸ ha)⟩
theorem cD {a:Addr}{o:Obj}{es es':Array (Int×Value)}{ep:Nat}{t t':SetTable}{Q:Unit->Shared->Prop}(ho:s.heap.get? a=some o)(hx:o.ExactSet)(hd:o.data=.set es ep t)
  (hb:es'.size < scanBound)
  (h:∀h',Heap.SameBut a s.heap h'->h'.get? a=some {o with data:=.set es' (ep+1) t'}->Q () {s with heap:=h'}):wpAny (model prog w) A (storeSet a es' t') Q E s:=by
 refine wpAny_storeSet_of ho hd (h _ (Heap.SameBut.update s.heap a _) ?_) (fits_of_scanBound hb);have q:=za4 (Obj.putSet es' t') ho (by rw [putSet_of es' t' hd];rfl)
 rwa [putSet_of es' t' hd] at q
theorem wV {g:Bool->Sem Unit}(hg:g=fun b=>match b with|true=>rule "set.scan.the-table-gave-way" | false=>pure ()){b:Bool}{Q:Unit->Shared->Prop}(h:Q () s):wpAny (model prog w) A (g b) Q E s:=by
 subst hg;cases b
 ·exact zad h
 ·exact zbY h
theorem Cd {a:Addr}{led:Bool}{o:Obj}{xs:Th}{k:Int}{tk:Tok}{Q:Bool->Shared->Prop}(ho:s.heap.get? a=some o)(hS:cC led o xs)(hroom:xs.length+1 < scanBound)
  (h:∀h' o' b,Heap.SameBut a s.heap h'->h'.get? a=some o'->cC led o' (cb xs k)->Q b {s with heap:=h'}) :
  wpAny (model prog w) A (setAddHashed a (.int k tk) (hashInt k)) Q E s:=by
 obtain ⟨es,ep,t,hx,hd,G⟩:=hS;have hlen:=cC.len G;unfold setAddHashed setAddHashedIn;refine zaE (zaa (zau ho hd G.ft ?_));dsimp only;rw [byScan_of (knd:=intKind prog w) (x:=.int k tk) rfl G.bd (Ft G.el),if_pos rfl];unfold setAddByScan;refine zaa (zaa (zbY (zaa ?_)));refine wpAny_setScan_of (knd:=intKind prog w) (k:=k) (intKind_is _ _ _ _) ho hd G.ft (Ft G.el) ?_
 cases hr:List.findIdx? (fun e=>(intKind prog w).is k e.2) es.toList with
 |some j =>
  obtain ⟨hj,hpj,_⟩:=List.findIdx?_eq_some_iff_getElem.mp hr
  have hin:k∈xs:=by
   refine G.pm.mem_iff.mp (zas.mpr ⟨_,zbV hj,?_⟩);exact (Bg (G.el _ (zbV hj)) k).mp hpj
  dsimp only;refine zad (zad ?_);have:=h s.heap o false (Heap.SameBut.refl a s.heap) ho
  unfold cb at this
  rw [if_pos hin] at this
  have e:s={s with heap:=s.heap}:=by cases s;rfl
  rw [e];exact this ⟨es,ep,t,hx,hd,G⟩
 |none =>
  have hout:k∉xs:=fun hk=>by
   obtain ⟨e,he,hv⟩:=zas.mp (G.pm.mem_iff.mpr hk);have:=List.findIdx?_eq_none_iff.mp hr e he;rw [(Bg (G.el e he) k).mpr hv] at this;cases this
  dsimp only;have p1:=layNew_perm t es (hashInt k) (.int k tk);have f1:=layNew_fits t es (hashInt k) (.int k tk);have r1:=qP es (hashInt k) (.int k tk) G.rs;generalize hL:layNew t es (hashInt k) (.int k tk)=L at p1 f1 r1;obtain ⟨es1,t1,wd,gv⟩:=L;have hL':layNew t es ((intKind prog w).hash k) (.int k tk)=(es1,t1,wd,gv):=hL
  try rw [hL']
  dsimp only at p1 f1 r1 ⊢;rw [zcM] at p1
  have G1:cq led es1 t1 (cb xs k):=by
   have hm:(es1.toList.map val).Perm (xs++[k]):=by
    refine (p1.map val).trans ?_;rw [zaQ];exact G.pm.append (List.Perm.refl _)
   have hsz:es1.size=xs.length+1:=by have:=hm.length_eq;simpa using this
   refine ⟨fun e he=>?_,?_,n5 G.nd,by omega,f1,r1.1,r1.2.trans G.ld⟩
   ·rcases zaL.mp (p1.mem_iff.mp he) with he|he
    ·exact G.el e he
    ·rw [zat] at he;exact ⟨k,tk,he⟩
   ·unfold cb;rw [if_neg hout];exact hm
  refine zaa (wV rfl ?_)
  have tail:∀t2,t2=t1->wpAny (model prog w) A (do
    storeSet a es1 t2
    if (!wd && t2.tooFull)=true then do
      (match (relayAll t2 es1 (SetTable.grown es1.size)).2.2 with|true=>rule "set.scan.the-table-gave-way" | false=>pure ())
      storeSet a (relayAll t2 es1 (SetTable.grown es1.size)).1 (relayAll t2 es1 (SetTable.grown es1.size)).2.1
      pure (some true)
     else pure (some true)) (fun r s'=>wpAny (model prog w) A (match r with|some added=>pure added|none=>setAddHashedIn a (.int k tk) ((intKind prog w).hash k) 99999) Q E s') E s:=by
   intro t2 ht2;subst ht2;refine zaa (cD ho hx hd G1.bd fun h1 b1 g1=>?_);split
   ·have p2:=relayAll_perm t2 es1 (SetTable.grown es1.size)
    have f2:=relayAll_fits t2 es1 (SetTable.grown es1.size);have r2:=nR t2 es1 (SetTable.grown es1.size);generalize relayAll t2 es1 (SetTable.grown es1.size)=Rl at p2 f2 r2 ⊢;obtain ⟨es2,t3,gv2⟩:=Rl;dsimp only at p2 f2 r2 ⊢
    have hsz:es2.size=es1.size:=by have:=p2.length_eq;simpa using this
    refine zaa (wV (g:=fun b=>match b with|true=>rule "set.scan.the-table-gave-way" | false=>pure ()) rfl ?_);refine zaa (cD (s:={s with heap:=h1}) g1 hx rfl (by rw [hsz];exact G1.bd) fun h2 b2 g2=>zad (zad ?_));refine h h2 _ true (b1.trans b2) g2 ⟨es2,_,t3,hx,rfl,fun e he=>G1.el e (p2.mem_iff.mp he),(p2.map val).trans G1.pm,G1.nd,by rw [hsz];exact G1.bd,f2,r2.1,r2.2.trans G1.ld⟩
   ·exact zad (zad (h h1 _ true b1 g1 ⟨es1,_,t2,hx,rfl,G1⟩))
  split
  ·refine zaa ?_
   rw [hashByValue_scannable 8 (x:=.int k tk) rfl];exact zad (tail _ rfl)
  ·exact zaa (zad (tail _ rfl))
end
theorem r6:isSubtype (.type "tuple") (.type "set")=pure false:=by rw [isSubtype_type];kernel_rfl
theorem r9:isSubtype (.type "tuple") (.type "frozenset")=pure false:=by rw [isSubtype_type];kernel_rfl
theorem n6 (xs:Th)(k:Int):(cb xs k).length<=xs.length+1:=by
 unfold cb;split <;> simp
def aJ (xs:Th)(ns:Th):Th:=ns.foldl cb xs
abbrev ax (led:Bool):Obj:={cls:=.type "set",dict:=none,data:=.set #[] 0 (.fresh 0 0 led)}
theorem iD (led:Bool):cC led (ax led) [] :=
 ⟨#[],0,_,⟨rfl,rfl,rfl⟩,rfl,⟨fun _ h=>by simp at h,List.Perm.refl _,zcq,by decide,by rfl,fun _=>List.Pairwise.nil,rfl⟩⟩
section
variable  {prog:Program}{w:World}{A:Around}{R:Result->Shared->Prop}{I:Addr}{fp wr:Tf}{G:Array GenState->Array GenState->Prop}{n:Nat}{P:Nat->Value->Prop}{St:Nat->Shared->Prop}
theorem mx (W:WalksS prog w A.in1 I fp wr G n P St)(S:Addr)(hSf:S∉fp){led:Bool}(ms:Th)(hms:ms.length=n)(hval:∀i v,P i v->∃t,v=.int (ms.getD i 0) t) :
  ∀(k i:Nat) (s:Shared) (o:Obj) (xs:Th),n - i=k->i<=n->St i s->s.heap.get? S=some o->cC led o xs->xs.length+k+1 < scanBound ->
   (∀s' o',Moved (S::wr) G s s'->s'.heap.get? S=some o'->cC led o' (aJ xs (ms.drop i))->R (.ok (.ret .none)) s') ->
   codeAny (model prog w) A (.builtin "set.update.loop" ⟨[.ref S,.ref I],[]⟩) R s:=by
 have nw:S∉wr:=fun h=>hSf (W.sub _ h);have up:∀b∈wr,b∈S::wr:=fun b hb=>zaj _ hb;intro k
 induction k with
 |zero =>
  intro i s o xs hk hi hst ho hS hb hR
  have hin:i=n:=by omega
  subst hin;refine zaU F.entry_set_update_loop ?_;rw [zaV F.plain_set_update_loop _];refine (show wpAny _ A.in1 (pyNext (.ref I) >>= _) _ _ s from zaa (W.done s _ _ hst fun s' hm=>?_));refine (show wpAny _ A.in1 (ret Value.none) _ _ s' from zad (hR s' o (hm.mono up) (hm.heap S _ nw ho) ?_));rw [zcO (by omega)];exact hS
 |succ k ih =>
  intro i s o xs hk hi hst ho hS hb hR
  have hlt:i < n:=by omega
  refine zaU F.entry_set_update_loop ?_;rw [zaV F.plain_set_update_loop _];refine (show wpAny _ A.in1 (pyNext (.ref I) >>= _) _ _ s from zaa (W.item i s _ _ hlt hst fun v s' hP hst' hm=>?_));obtain ⟨t,rfl⟩:=hval i v hP;have ho':=hm.heap S _ nw ho;refine (show wpAny _ A.in1 (holding [Value.int (ms.getD i 0) t] (setAdd S (.int (ms.getD i 0) t)) >>= _) _ _ s' from zaa (zaE ?_));unfold setAdd;refine zaE (zaa ((intKind prog w).pyHash (k:=ms.getD i 0) (intKind_is _ _ _ _) ?_));refine Cd (s:={s' with toks:=s'.toks+1}) ho' hS (by omega) fun h' o' _ hsb ho2 hS2=>?_
  have hdrop:ms.drop i=ms.getD i 0::ms.drop (i+1):=by
   have hl:i < ms.length:=by omega
   rw [zbi hl];simp [List.getD,hl]
  refine zad ⟨zbk F.plain_set_update_loop _,ih (i+1) _ o' _ (by omega) hlt (W.frame _ s' _ _ hst' (zbZ _) fun b hb o e=>?_) ho2 hS2 (by have:=n6 xs (ms.getD i 0);omega) fun s2 o2 hm2 q2 g2=>?_⟩
  ·rw [hsb.2 b (fun h:b=S=>hSf (h ▸ hb))];exact e
  ·refine hR s2 o2 (Moved.trans W.gtrans ((hm.mono up).then_heap (zbZ _) fun b o hb e=>?_) hm2) q2 (by rw [hdrop];exact g2)
   rw [hsb.2 b (fun h:b=S=>hb (by rw [h];exact zai))];exact e
end
section
variable  {prog:Program}{w:World}{A:Around}{E:Tb}{s:Shared}
theorem vb (a:Value){Q₁:Tb}(h:Q₁ (.ref s.heap.objs.size) {s with heap:=s.heap.push (ax (!w.params.followText "set-order"))}) :
  codeAny (model prog w) A (.call (.builtin "set.__new__") ⟨[.type "set",a],[]⟩) (wants Q₁ E) s:=by
 refine zb0 (show wpAny _ A.in1 (do checkBuiltinCall "set.__new__" ⟨[.type "set",a],[]⟩;again (.builtin "set.__new__" ⟨[.type "set",a],[]⟩)) _ _ s from ?_);refine zaa (zda (F.newCall_set_1 a) (zad ⟨zbk F.plain_set_new _,zaU F.entry_set_new ?_⟩));rw [zaV F.plain_set_new _];have hsub:=sub_set_self;unfold Builtin.«set.__new__» Builtin.Frozenset.newClass;obtain ⟨hp,g,d,tk,os⟩:=s;dsimp only;wp_walk;refine zbr (zad ?_);dsimp only;simp only [newObj];exact zaa (wpAny_alloc (zad (zad h)))
set_option maxHeartbeats 3200000 in
theorem CL {l:Addr}{its:Ti}{ns:Th}{Q:Tb}
  (hh:A.handled=none) (hl:s.heap.IsTuple l its) (hi:IntsAre its.toList ns) (hb:its.size+1 < scanBound)
  (h:∀(h':Heap) (tk:Nat) (o:Obj),h'.get? s.heap.objs.size=some o->cC (!w.params.followText "set-order") o (aJ [] ns) ->
   (∀b o,s.heap.get? b=some o->h'.get? b=some o)->s.toks<=tk->Q (.ref s.heap.objs.size) {s with heap:=h',toks:=tk}) :
  wpAny (model prog w) A (call (.type "set") [.ref l]) Q E s:=by
 obtain ⟨c,tl,hmro⟩:=F.called_set.mro;have hmade:=F.called_set.made;have hsub:=F.called_set.sub;refine zc1 (zb0 (show wpAny _ _ (callAny (.type "set") _) _ _ _ from ?_));refine zad ⟨Code.quiet_builtin _ (by decide +kernel),zaU F.entry_type_call ?_⟩;rw [zch (weight_type_call_type "set" [.ref l] []) rfl];have h1:=F.called_set.notType;have h2:=F.called_set.canCreate;have hct:=F.typeCall_set_1 (.ref l)
 repeat (any_goals (first|assumption|wp_step))
 refine zbg (vb (.ref l) (E:=E) (Q₁:=fun obj s₁=>obj=.ref s.heap.objs.size/\s₁={s with heap:=s.heap.push (ax (!w.params.followText "set-order"))}) ⟨rfl,rfl⟩) fun r s₁ hr=>?_;generalize hled:(!w.params.followText "set-order")=led at *
 cases r with
 |error e=>exact hr
 |ok fl =>
  cases fl with
  |ret obj =>
   obtain ⟨rfl,rfl⟩:=hr;have hS:(s.heap.push (ax led)).get? s.heap.objs.size=some (ax led):=zal _ rfl;have hT:Shared.TypeIs {s with heap:=s.heap.push (ax led)} (.ref s.heap.objs.size) "set":=⟨_,hS,rfl⟩;have hli:=F.called_set.init.lookup;have hbi:=F.called_set.init.bind (.ref s.heap.objs.size)
   repeat (any_goals (first|assumption|wp_step))
   refine zbg (zbM (R:=wants (fun r s₂=>r=.none/\∃h' tk o,s₂={s with heap:=h',toks:=tk}/\h'.get? s.heap.objs.size=some o/\cC led o (aJ [] ns) /\
     (∀b o,s.heap.get? b=some o->h'.get? b=some o)/\s.toks<=tk) E) F.called_set.init.plain F.entry_set_init (check_set_init_1 hT ?_)) fun r₂ s₂ hr₂=>?_
   ·obtain ⟨ol,hol,hcl,nl,hdl⟩:=hl
    obtain ⟨ocls,odict,odata,oslots⟩:=ol;simp only at hcl hdl;subst hcl;subst hdl;have hol':(s.heap.push (ax led)).get? l=some {cls:=.type "tuple",dict:=odict,data:=.seq its nl,slots:=oslots}:=zae _ hol;have hs1:=r6;have hs2:=r9
    have hne:(Value.type "tuple" == Value.type "dict")=false:=by decide
    have hl1:(s.heap.push (ax led)).IsTuple l its:=⟨_,hol',rfl,nl,rfl⟩;unfold Builtin.«set.__init__» noKeywords Builtin.Frozenset.updateFrom;generalize hPI:pyIter=PI
    wp_walk;subst hPI
    refine wpAny_pyIter_tuple hl1 (zaa (zcH ?_));have hlS:l < s.heap.objs.size:=zah hol
    have hh3:A.in1.in1.in1.handled=none:=by simp [hh]
    have hneI:l≠(s.heap.push (ax led)).objs.size:=by rw [zaX];exact zan (zbe hlS)
    have hSf:s.heap.objs.size∉[(s.heap.push (ax led)).objs.size,l]:=by
     rw [zaX];simp only [zak,zaI,or_false,not_or];exact ⟨zan (zb9 _),zaY hlS⟩
    refine mx ((Walks.tuple hh3 _ l hneI its).toS) s.heap.objs.size hSf (led:=led) ns (by have:=IntsAre.length hi;simpa using this.symm)
     (fun i v hv=>IntsAre.int_at hi i v (by rw [zaS];exact hv)) (its.size - 0) 0 _ (ax led) [] (by omega) (za9 _)
     ⟨⟨_,zal _ rfl,rfl,rfl⟩,(hl1.at fun o e=>zae _ e)⟩ (zae _ hS) (iD led) (by simpa using hb) fun s' o' hm ho' hS'=>?_
    obtain ⟨h',g',d',tk',os'⟩:=s';have eg:g'=s.gens:=hm.gens;have ed:d'=s.drawn:=hm.drawn;have eo:os'=s.os:=hm.os;subst eg;subst ed;subst eo;refine (show wpAny _ _ _ _ _ _ from zad (show wpAny _ _ (ret Value.none) _ _ _ from zad ⟨rfl,h',tk',o',rfl,ho',hS',fun b o e=>?_,hm.toks⟩));have hbs:=zah e;refine hm.heap b o ?_ (zae _ (zae _ e));rw [zaX];simp only [zak,zaI,or_false,not_or];exact ⟨zan hbs,zan (zbe hbs)⟩
   ·cases r₂ with
    |error e=>exact hr₂
    |ok fl2 =>
     cases fl2 with
     |ret r =>
      obtain ⟨rfl,h',tk,o,rfl,ho,hS',hk',ht⟩:=hr₂
      repeat (any_goals (first|assumption|wp_step))
      exact h _ _ o ho hS' hk' ht
     |_=>exact hr₂.elim
  |_=>exact hr.elim
end
theorem bh:Slot "set_iterator" "__next__" "set_iterator.__next__":=by
 refine .of (owner:="set_iterator") (n:="__next__") ?_ (by decide +kernel) (by decide +kernel) (by decide +kernel) ?_ ?_
 ·rw [zcB,zb1];kernel_rfl
 ·first|exact .inl (by decide +kernel)|exact .inr (by decide +kernel)
 ·rw [isSubtype_type];kernel_rfl
theorem eD:entryFor table "set_iterator.__next__" = some Builtin.«set_iterator.__next__»:=entryFor_of_tree (by kernel_rfl)
theorem fw (a:Value):argsOk "set_iterator.__next__" ⟨[a],[]⟩:=by unfold argsOk;kernel_rfl
theorem q9:entryFor table "set.__iter__" = some Builtin.«frozenset.__iter__» :=
 entryFor_alias (id':="frozenset.__iter__") (by kernel_rfl) (by first|rfl|decide +kernel) (by decide +kernel) (by kernel_rfl)
theorem kH {α:Type}:∀{l:List α} {i:Nat} (h:i < l.length),(l[i]::l.eraseIdx i).Perm l
 |x::xs,0,_=>by simp
 |x::xs,i+1,h=>by
  simp only [List.getElem_cons_succ,List.eraseIdx_cons_succ];exact (List.Perm.swap _ _ _).trans ((kH (by simpa using h)).cons x)
section
variable  {α:Type}{M:Model}{A:Around}{E:Tb}{s:Shared}
theorem yI {src:Source}{n:Nat}{Q:Nat->Shared->Prop}(hn:0 < n)(h:∀i d,i < n->Q i {s with drawn:=d}):wpAny M A (choose src n) Q E s :=
 fun _ _ _=>⟨Nat.pos_iff_ne_zero.mp hn,h _ _ (zcI _ hn)⟩
theorem D8 (n:Nat):∀(xs:List α) (s:Shared) (Q:List α->Shared->Prop),xs.length=n->(∀ys d,ys.Perm xs->Q ys {s with drawn:=d})->wpAny M A (drawOrder n xs) Q E s:=by
 induction n with
 |zero =>
  intro xs s Q hl h;have e:xs=[]:=zce.mp hl;subst e;exact zad (h [] s.drawn (List.Perm.refl _))
 |succ n ih =>
  intro xs s Q hl h
  cases xs with
  |nil=>cases hl
  |cons x xs =>
   unfold drawOrder;refine zaa (yI (by simp) fun i d hi=>?_);rw [zar hi];dsimp only;refine zaa (ih _ _ _ (by rw [List.length_eraseIdx_of_lt hi];simp at hl;simp;omega) fun ys d' hp=>zad ?_);exact h _ d' ((hp.cons _).trans (kH hi))
end
abbrev bt (w:World):Bool:=w.params.followText "set-order"
def jm (f:Value)(i:Nat)(a:Addr)(n ep:Nat):Obj:={cls:=.type "set_iterator",data:=.fields #[f,.int i 0,.ref a,.int n 0,.int ep 0]}
theorem Bd {s:Shared}{I:Addr}{f:Value}{i:Nat}{a:Addr}{n ep:Nat}(h:s.heap.get? I=some (jm f i a n ep)):s.TypeIs (.ref I) "set_iterator":=⟨_,h,rfl⟩
theorem Ca {t:SetTable}(r:t.place.toList.Pairwise (· < ·))(i:Nat)(hi:i<=t.place.size):SetTable.below t.place (if h:0 < i then t.place[i - 1]'(by omega)+1 else 0)=i:=by
 obtain ⟨b1,b2,b3⟩:=lI (if h:0 < i then t.place[i - 1]'(by omega)+1 else 0) r;generalize hB:SetTable.below t.place (if h:0 < i then t.place[i - 1]'(by omega)+1 else 0)=B at *
 have lt:∀(x y:Nat) (hx:x < t.place.size) (hy:y < t.place.size),x < y->t.place[x] < t.place[y]:=fun x y hx hy hxy=>by
  have:=zbc.mp r x y (by simpa using hx) (by simpa using hy) hxy;simpa using this
 rcases zcN B i with h|h|h
 ·exfalso
  have hp:0 < i:=by omega
  simp only [hp,dite_true] at b3;have h1:=b3 B (by omega) (zam _);rcases zb8 B (i - 1) with h2|h2
  ·have:=lt B (i - 1) (by omega) (by omega) h2;omega
  ·have:B=i - 1:=by omega
   subst this;omega
 ·exact h
 ·exfalso
  have h1:=b2 i (by omega) h
  by_cases hp:0 < i
  ·simp only [hp,dite_true] at h1
   have:=lt (i - 1) i (by omega) (by omega) (by omega);omega
  ·simp only [hp,dite_false] at h1
   omega
section
variable  {prog:Program}{w:World}{A:Around}{E:Tb}{s:Shared}
theorem va {led:Bool}{a:Addr}{o:Obj}{es:Array (Int×Value)}{ep:Nat}{t:SetTable}{i:Nat}{Q:Option (Value×Nat)->Shared->Prop}(hb:bt w=false)(hl:led=true)
  (ho:s.heap.get? a=some o) (hd:o.data=.set es ep t) (G:kQ led es t) (hdr:(!t.plain && decide (es.size > 1))=false) (hi:i<=es.size) (hp:t.place.size=es.size)
  (h:Q (if hlt:i < es.size then some (es[i].2,t.place[i]+1) else none) s) :
  wpAny (model prog w) A (setNext a (if h:0 < i then t.place[i - 1]'(by omega)+1 else 0) i ep) Q E s:=by
 have r:t.place.toList.Pairwise (· < ·):=by
  cases hpl:t.plain with
  |true=>exact G.rs hpl
  |false =>
   have h1:¬ es.size > 1:=by simpa [hpl] using hdr
   have:t.place.toList.length<=1:=by simp;omega
   match hq:t.place.toList,this with
   |[],_=>exact List.Pairwise.nil
   |[x],_=>exact zbT _ _
 unfold setNext;refine zaa (zau ho hd G.ft ?_);dsimp only;unfold setsByText;refine zaa (zaa (zbr (zad ?_)));dsimp only;rw [show ((model prog w).w.params.followText "set-order")=false from hb];simp only [zap,↓reduceIte];split
 ·rename_i hc
  have:(!t.plain && decide (es.size > 1))=true:=hc;rw [hdr] at this;cases this
 ·refine zaa (show wpAny _ _ (if (!t.led && !es.isEmpty)=true then unsupported "set:maker-not-led" else pure ()) _ _ _ from ?_)
  rw [if_neg (by rw [G.ld,hl];simp)];refine zad ?_;rw [Ca r i (by omega)];refine zad ?_
  by_cases hlt:i < es.size
  ·have h2:i < t.place.size:=by omega
   rw [dif_pos hlt] at h;rw [zao hlt,zao h2];exact h
  ·rw [dif_neg hlt] at h
   rw [zcm (by omega)];exact h
theorem wy {α:Type}(nx:Nat->Nat):∀(fuel k:Nat) (left:List α) (out:Array α),left.length=fuel->(pickOrder.go nx fuel k left out).toList.Perm (out.toList++left)
 |0,k,[],out,_=>by unfold pickOrder.go;simp
 |fuel+1,k,x::xs,out,hl=>by
  unfold pickOrder.go;have hlt:nx k % (x::xs).length < (x::xs).length:=zcI _ (by simp);generalize nx k % (x::xs).length=j at hlt;rw [zar hlt];dsimp only;refine (wy nx fuel (k+1) _ _ (by rw [List.length_eraseIdx_of_lt hlt];simp at hl;simp;omega)).trans ?_;rw [zcM,zbD];exact (List.Perm.refl _).append (kH hlt)
theorem lW {α:Type}(nx:Nat->Nat)(xs:Array α):(pickOrder nx xs).toList.Perm xs.toList:=by
 have:=wy nx xs.size 0 xs.toList #[] (by simp);simpa [pickOrder] using this
theorem ye {led:Bool}{a:Addr}{o:Obj}{es:Array (Int×Value)}{ep:Nat}{t:SetTable}{sl i:Nat}{Q:Option (Value×Nat)->Shared->Prop}(hb:bt w=true)
  (ho:s.heap.get? a=some o) (hd:o.data=.set es ep t) (G:kQ led es t)
  (h:Q (((pickOrder (w.params.setOrder a ep) es)[i]?).map fun e=>(e.2,sl)) s) :
  wpAny (model prog w) A (setNext a sl i ep) Q E s:=by
 unfold setNext;refine zaa (zau ho hd G.ft ?_);dsimp only;unfold setsByText;refine zaa (zaa (zbr (zad ?_)));dsimp only;rw [show ((model prog w).w.params.followText "set-order")=true from hb];simp only [bne_self_eq_false,zap,↓reduceIte];unfold setWalk setsByText;refine zaa (zaa (zau ho hd G.ft (zaa (zaa (zbr (zad ?_))))));dsimp only;rw [show ((model prog w).w.params.followText "set-order")=true from hb];simp only [↓reduceIte];refine zaa (zbr (zad (zad ?_)));exact h
end
section
variable  {prog:Program}{w:World}{A:Around}{E:Tb}{s:Shared}
theorem xi {M:Model}{E:Tb}{s:Shared}{A:Around}{Q:Fin->Shared->Prop}(hh:A.handled=none)
  (h:∀h' a,(∀b o,s.heap.get? b=some o->h'.get? b=some o)->Shared.TypeIs {s with heap:=h'} (.ref a) "StopIteration"->E (.ref a) {s with heap:=h'}) :
  wpAny M A (newExc (.type "StopIteration") [] >>= fun e=>raiseNew e) Q E s:=by
 refine zaa ?_;simp only [newExc,newTuple];refine zaa (zaJ ?_ (by size_fits));refine zaa (m:=firstArgMember _ _) (zda (a:=Value.none) (by first|rfl|(simp only [firstArgMember];rfl)) ?_);refine zaJ ?_ (by size_fits);simp only [raiseNew];refine zaa (wpAny_handled ?_);rw [hh];refine zaa (zad (wpAny_throw (h _ _ (fun b o e=>zae _ (zae _ e)) ?_)));exact ⟨_,zal _ rfl,rfl⟩
theorem DG {led:Bool}{I a:Addr}{o:Obj}{es:Array (Int×Value)}{ep:Nat}{t:SetTable}{i sl sl':Nat}{x:Value}{Q:Option Value->Shared->Prop}
  (hI:s.heap.get? I=some (jm (.int sl 0) i a es.size ep)) (ho:s.heap.get? a=some o) (hd:o.data=.set es ep t) (G:kQ led es t)
  (hnx:∀A' E' (Q':Option (Value×Nat)->Shared->Prop),Q' (some (x,sl')) s->wpAny (model prog w) A' (setNext a sl i ep) Q' E' s)
  (h:∀h',h'.get? I=some (jm (.int sl' 0) (i+1) a es.size ep)->Heap.SameBut I s.heap h'->Q (some x) {s with heap:=h'}):wpAny (model prog w) A (pyNext (.ref I)) Q E s:=by
 unfold pyNext;refine zaa (zbQ (za5 (name:=Str.ofString "__next__") (Bd hI) bh (zaH bh (Bd hI) eD ?_ (fw _))));unfold Builtin.«set_iterator.__next__»;refine zaa (show wpAny _ _ (pure (Value.ref I,([]:Te))) _ _ _ from zad ?_);refine zaa (zbl hI rfl ?_);dsimp only;unfold setEntries;refine zaa (zaa (zau ho hd G.ft (zad ?_)));dsimp only;rw [if_neg (by simp)];refine zaa (show wpAny _ _ (setNext a sl i ep) _ _ _ from hnx _ _ _ ?_);dsimp only;refine zaa (zbI hI rfl (by simp) ?_);have h1:=za4 (Obj.mapFields (·.setIfInBounds 0 (rawInt (sl':Int)))) hI rfl;refine zaa (zbI (s:={s with heap:=_}) h1 rfl (by simp) ?_);have h2:=za4 (Obj.mapFields (·.setIfInBounds 1 (rawInt ((i:Int)+1)))) h1 rfl;refine zad ⟨x,rfl,zad (h _ (h2.trans ?_) ((Heap.SameBut.update ..).trans (Heap.SameBut.update ..)))⟩;rfl
theorem Hw {led:Bool}{I a:Addr}{o:Obj}{es:Array (Int×Value)}{ep:Nat}{t:SetTable}{i sl:Nat}{Q:Option Value->Shared->Prop}(hh:A.handled=none)
  (hI:s.heap.get? I=some (jm (.int sl 0) i a es.size ep)) (ho:s.heap.get? a=some o) (hd:o.data=.set es ep t) (G:kQ led es t)
  (hnx:∀A' E' (Q':Option (Value×Nat)->Shared->Prop),Q' none s->wpAny (model prog w) A' (setNext a sl i ep) Q' E' s)
  (h:∀h',(∀b o,b∉[I]->s.heap.get? b=some o->h'.get? b=some o)->Q none {s with heap:=h'}):wpAny (model prog w) A (pyNext (.ref I)) Q E s:=by
 unfold pyNext;refine zaa (zbQ (za5 (name:=Str.ofString "__next__") (Bd hI) bh (zaH bh (Bd hI) eD ?_ (fw _))));unfold Builtin.«set_iterator.__next__»;refine zaa (show wpAny _ _ (pure (Value.ref I,([]:Te))) _ _ _ from zad ?_);refine zaa (zbl hI rfl ?_);dsimp only;unfold setEntries;refine zaa (zaa (zau ho hd G.ft (zad ?_)));dsimp only;rw [if_neg (by simp)];refine zaa (show wpAny _ _ (setNext a sl i ep) _ _ _ from hnx _ _ _ ?_);dsimp only;refine zaa (zbI hI rfl (by simp) ?_);refine xi (show A.in1.handled=none from hh) fun h' b kp hT=>?_;refine zaa (zbw (T:="StopIteration") (b:=true) hT isSubtype_stop ?_);exact zad (h _ fun b o hb e=>kp b o (by rw [zay _ _ (fun q:I=b=>hb (by simp [q]))];exact e))
theorem Bc {led:Bool}{I a tp:Addr}{o:Obj}{es:Array (Int×Value)}{ep:Nat}{t:SetTable}{i:Nat}{pl:List Nat}{x:Int×Value}{p:Nat}{Q:Option Value->Shared->Prop}
  (hI:s.heap.get? I=some (jm (.ref tp) i a es.size ep)) (htp:s.heap.get? tp=some {cls:=.type "tuple",data:=.seq (pl.map fun i:Nat=>rawInt i).toArray})
  (ho:s.heap.get? a=some o) (hd:o.data=.set es ep t) (G:kQ led es t) (hp:pl[i]?=some p) (hx:es[p]?=some x)
  (h:∀h',h'.get? I=some (jm (.ref tp) (i+1) a es.size ep)->Heap.SameBut I s.heap h'->Q (some x.2) {s with heap:=h'}):wpAny (model prog w) A (pyNext (.ref I)) Q E s:=by
 unfold pyNext;refine zaa (zbQ (za5 (name:=Str.ofString "__next__") (Bd hI) bh (zaH bh (Bd hI) eD ?_ (fw _))));unfold Builtin.«set_iterator.__next__»;refine zaa (show wpAny _ _ (pure (Value.ref I,([]:Te))) _ _ _ from zad ?_);refine zaa (zbl hI rfl ?_);dsimp only;unfold setEntries;refine zaa (zaa (zau ho hd G.ft (zad ?_)));dsimp only;rw [if_neg (by simp)];refine zaa (zcr htp rfl ?_);dsimp only
 have hq:(pl.map fun i:Nat=>rawInt i).toArray[((i:Nat):Int).toNat]?=some (.int p 0):=by simp [hp,rawInt]
 rw [hq];dsimp only;unfold setNextDrawn;refine zaa (zaa (zau ho hd G.ft ?_));dsimp only;rw [if_neg (by simp)];simp only [zbB,hx];refine zad (zaa (zbI hI rfl (by simp) ?_));have h1:=za4 (Obj.mapFields (·.setIfInBounds 1 (rawInt ((i:Int)+1)))) hI rfl;exact zad ⟨x.2,rfl,zad (h _ (h1.trans rfl) (Heap.SameBut.update ..))⟩
theorem DH {led:Bool}{I a tp:Addr}{o:Obj}{es:Array (Int×Value)}{ep:Nat}{t:SetTable}{i:Nat}{pl:List Nat}{Q:Option Value->Shared->Prop}(hh:A.handled=none)
  (hI:s.heap.get? I=some (jm (.ref tp) i a es.size ep)) (htp:s.heap.get? tp=some {cls:=.type "tuple",data:=.seq (pl.map fun i:Nat=>rawInt i).toArray})
  (ho:s.heap.get? a=some o) (hd:o.data=.set es ep t) (G:kQ led es t) (hp:pl.length<=i)
  (h:∀h',(∀b o,b∉[I]->s.heap.get? b=some o->h'.get? b=some o)->Q none {s with heap:=h'}):wpAny (model prog w) A (pyNext (.ref I)) Q E s:=by
 unfold pyNext;refine zaa (zbQ (za5 (name:=Str.ofString "__next__") (Bd hI) bh (zaH bh (Bd hI) eD ?_ (fw _))));unfold Builtin.«set_iterator.__next__»;refine zaa (show wpAny _ _ (pure (Value.ref I,([]:Te))) _ _ _ from zad ?_);refine zaa (zbl hI rfl ?_);dsimp only;unfold setEntries;refine zaa (zaa (zau ho hd G.ft (zad ?_)));dsimp only;rw [if_neg (by simp)];refine zaa (zcr htp rfl ?_);dsimp only
 have hq:(pl.map fun i:Nat=>rawInt i).toArray[((i:Nat):Int).toNat]?=none:=by simp;omega
 rw [hq];dsimp only;refine zaa (zbI hI rfl (by simp) ?_);have h1:=za4 (Obj.mapFields (·.setIfInBounds 0 (rawInt 0))) hI rfl;refine zaa (zbI (s:={s with heap:=_}) h1 rfl (by simp) ?_);refine xi (show A.in1.handled=none from hh) fun h' b kp hT=>?_;refine zaa (zbw (T:="StopIteration") (b:=true) hT isSubtype_stop ?_);refine zad (h _ fun b o hb e=>kp b o ?_);have ne:I≠b:=fun q=>hb (by simp [q]);rw [zay _ _ ne,zay _ _ ne];exact e
end
theorem k9:Slot "set_iterator" "__iter__" "set_iterator.__iter__":=by
 refine .of (owner:="set_iterator") (n:="__iter__") ?_ (by decide +kernel) (by decide +kernel) (by decide +kernel) ?_ ?_
 ·rw [zcB,zb1];kernel_rfl
 ·first|exact .inl (by decide +kernel)|exact .inr (by decide +kernel)
 ·rw [isSubtype_type];kernel_rfl
theorem rJ (a:Value):argsOk "set_iterator.__iter__" ⟨[a],[]⟩:=by unfold argsOk;kernel_rfl
theorem pz:entryFor table "set_iterator.__iter__" = some Builtin.«dict_keyiterator.__iter__» :=
 entryFor_alias (id':="dict_keyiterator.__iter__") (by kernel_rfl) (by first|rfl|decide +kernel) (by decide +kernel) (by kernel_rfl)
section
variable  {prog:Program}{w:World}{A:Around}{E:Tb}{s:Shared}
theorem wm {I:Addr}{f:Value}{i:Nat}{a:Addr}{n ep:Nat}{Q:Tb}(hI:s.heap.get? I=some (jm f i a n ep))(h:Q (.ref I) s):wpAny (model prog w) A (pyIter (.ref I)) Q E s:=by
 refine zcp (Bd hI) k9 (zaH k9 (Bd hI) pz ?_ (rJ _));exact (show wpAny _ _ (ret (.ref I)) _ _ s from zad ⟨_,rfl,"set_iterator",_,Bd hI,bh.lookup,h⟩)
end
variable  {prog:Program}{w:World}
abbrev IC (ord:List (Int×Value))(i:Nat)(x:Value):Prop:=(ord[i]?).map (·.2)=some x
theorem yX {A:Around}(hh:A.handled=none){led:Bool}{I a:Addr}(hne:a≠I){o:Obj}{es:Array (Int×Value)}{ep:Nat}{t:SetTable}(hd:o.data=.set es ep t)(G:kQ led es t)
  (ord:List (Int×Value)) (hl:ord.length=es.size) (sl:Nat->Nat)
  (hnx:∀i (s:Shared) A' E' (Q':Option (Value×Nat)->Shared->Prop),i<=es.size->s.heap.get? a=some o->Q' ((ord[i]?).map fun e=>(e.2,sl (i+1))) s->wpAny (model prog w) A' (setNext a (sl i) i ep) Q' E' s) :
  Walks prog w A I [I,a] [I] ord.length (IC ord) (fun i h=>h.get? I=some (jm (.int (sl i) 0) i a es.size ep)/\h.get? a=some o) where
 sub:=fun b hb=>by simp at hb;simp [hb]
 frame:=fun _ _ _ st hk=>⟨hk I (by simp) _ st.1,hk a (by simp) _ st.2⟩
 item:=fun i s Q E hi st hQ=>by
  have hx:ord[i]?=some ord[i]:=zar hi;refine DG (x:=ord[i].2) (sl':=sl (i+1)) st.1 st.2 hd G (fun A' E' Q' q=>hnx i s A' E' Q' (by omega) st.2 (by rw [hx];exact q)) fun h' hI' hs=>?_;refine hQ _ h' s.toks (by simp [IC,hx]) ⟨hI',hs.extBut a o hne st.2⟩ fun b o hb e=>hs.extBut b o (fun h=>hb (by simp [h])) e
 done:=fun s Q E st hQ=>by
  refine Hw hh st.1 st.2 hd G (fun A' E' Q' q=>hnx _ s A' E' Q' (by omega) st.2 (by rw [zcs (by omega)];exact q)) fun h' hk=>hQ h' s.toks hk
 self:=fun _ _ _ _ st hQ=>wm st.1 hQ
theorem FC {A:Around}(hh:A.handled=none){led:Bool}{I a tp:Addr}(hne:a≠I)(hnt:tp≠I){o:Obj}{es:Array (Int×Value)}{ep:Nat}{t:SetTable}(hd:o.data=.set es ep t)(G:kQ led es t)
  (pl:List Nat) (hpl:∀p∈pl,p < es.size) :
  Walks prog w A I [I,a,tp] [I] pl.length (IC (pl.filterMap (es[·]?))) (fun i h=>h.get? I=some (jm (.ref tp) i a es.size ep)/\h.get? a=some o/\h.get? tp=some {cls:=.type "tuple",data:=.seq (pl.map fun i:Nat=>rawInt i).toArray}) where
 sub:=fun b hb=>by simp at hb;simp [hb]
 frame:=fun _ _ _ st hk=>⟨hk I (by simp) _ st.1,hk a (by simp) _ st.2.1,hk tp (by simp) _ st.2.2⟩
 item:=fun i s Q E hi st hQ=>by
  have hp:pl[i]?=some pl[i]:=zar hi;have hx:es[pl[i]]?=some (es[pl[i]]'(hpl _ (zbV hi))):=zao _
  have hmap:pl.filterMap (es[·]?)=pl.pmap (fun p h=>es[p]'h) hpl:=by
   clear hQ st hp hx hi
   induction pl with
   |nil=>rfl
   |cons p ps ih=>rw [zbN (b:=es[p]'(hpl p (by simp))) (zao _),ih (fun q hq=>hpl q (by simp [hq]))];rfl
  refine Bc st.1 st.2.2 st.2.1 hd G hp hx fun h' hI' hs=>?_;refine hQ _ h' s.toks ?_ ⟨hI',hs.extBut a o hne st.2.1,hs.extBut tp _ hnt st.2.2⟩ fun b o hb e=>hs.extBut b o (fun h=>hb (by simp [h])) e;rw [hmap];simp [IC,hp]
 done:=fun s Q E st hQ=>DH hh st.1 st.2.2 st.2.1 hd G (zam _) fun h' hk=>hQ h' s.toks hk
 self:=fun _ _ _ _ st hQ=>wm st.1 hQ
theorem gw {es:Array (Int×Value)}{pl:List Nat}(h:pl.Perm (List.range es.size)):(pl.filterMap (es[·]?)).Perm es.toList :=
 (h.filterMap _).trans (by rw [filterMap_getElem?_range])
theorem vF {es:Array (Int×Value)}{pl:List Nat}(h:pl.Perm (List.range es.size)):(pl.filterMap (es[·]?)).length=pl.length:=by
 rw [(gw h).length_eq,h.length_eq];simp
def nM (t:SetTable)(i:Nat):Nat:=if h:0 < i/\i<=t.place.size then t.place[i - 1]'(by omega)+1 else 0
section
variable  {prog:Program}{w:World}{A:Around}{E:Tb}{s:Shared}
theorem Bb {a:Addr}{o:Obj}{es:Array (Int×Value)}{ep:Nat}{t:SetTable}{Q:Tb}(ho:s.heap.get? a=some o)(hx:o.ExactSet)(hd:o.data=.set es ep t)(G:kQ (!bt w) es t)
  (h:∀(h':Heap) (d:Drawn) (I:Addr) (fp:Tf) (St:Nat->Heap->Prop) (ord:List (Int×Value)),(∀A',A'.handled=none->Walks prog w A' I fp [I] ord.length (IC ord) St)->St 0 h'->(∀b∈fp,b=a\/s.heap.objs.size<=b) ->
   (∀b o,s.heap.get? b=some o->h'.get? b=some o)->s.heap.objs.size<=I->ord.Perm es.toList->Q (.ref I) {s with heap:=h',drawn:=d}) :
  wpAny (model prog w) A (pyIter (.ref a)) Q E s:=by
 have hlt:=zah ho;have hT:s.TypeIs (.ref a) "set":=⟨o,ho,hx.1⟩
 have hpz:t.place.size=es.size:=by have:=G.ft;simp [SetTable.fits] at this;exact this.1
 refine zcp hT F.slot_set_iter (zaH F.slot_set_iter hT q9 ?_ (F.args_set_iter_1 _));unfold Builtin.«frozenset.__iter__» Builtin.Frozenset.slot0 Builtin.Frozenset.sizeOf;refine zaa (zaa (show wpAny _ _ (pure (Value.ref a,([]:Te))) _ _ _ from zad (show wpAny _ _ (pure a) _ _ _ from zad ?_)));unfold setEntries;refine zaa (zaa (zaa (zau ho hd G.ft (zad (zad ?_)))));dsimp only;unfold setDrawn setsByText;refine zaa (zaa (zau ho hd G.ft (zaa (zaa (zbr (zad (zad ?_)))))));dsimp only;split
 ·rename_i hc
  have hdr:(!bt w && (!t.plain && decide (es.size > 1)))=true:=hc;simp only [zbp] at hdr;refine zaa (D8 es.size (List.range es.size) _ _ (by simp) fun pl d hp=>?_);unfold newTuple;refine zaa (zaJ ?_ (show (pl.map fun i:Nat=>rawInt i).toArray.size<=sizeLine by have:=fits_of_scanBound G.bd;rw [zaz,zaf,hp.length_eq,List.length_range];exact this));unfold setEpoch;refine zaa (zaa (zau (zae _ ho) hd G.ft (zad ?_)));unfold newFields;refine zaa (zaJ (zad ⟨_,rfl,"set_iterator",_,⟨_,zal _ rfl,rfl⟩,bh.lookup,?_⟩));have hz:(s.heap.push {cls:=.type "tuple",data:=.seq (pl.map fun i:Nat=>rawInt i).toArray}).objs.size=s.heap.objs.size+1:=zaX ..;refine h _ d _ [_,a,s.heap.objs.size] _ (pl.filterMap (es[·]?)) (fun A' hA=>by rw [vF hp];exact FC hA (I:=(s.heap.push {cls:=.type "tuple",data:=.seq (pl.map fun i:Nat=>rawInt i).toArray}).objs.size) (tp:=s.heap.objs.size) (by rw [hz];exact zan (zbe hlt)) (by rw [hz];exact zan (zb9 _)) hd G pl (fun p hp'=>by simpa using hp.mem_iff.mp hp')) ?_ ?_ ?_ ?_ (gw hp)
  ·exact ⟨zal _ rfl,zae _ (zae _ ho),zae _ (zal _ rfl)⟩
  ·intro b hb
   simp only [zak,zaI,or_false] at hb;rcases hb with rfl|rfl|rfl
   ·right;rw [hz];exact zbZ _
   ·left;rfl
   ·right;exact zam _
  ·exact fun b o e=>zae _ (zae _ e)
  ·rw [hz];exact zbZ _
 ·rename_i hc
  have hdr:¬ (!bt w && (!t.plain && decide (es.size > 1)))=true:=hc;refine zaa (zad ?_);unfold setEpoch;refine zaa (zaa (zau ho hd G.ft (zad ?_)));unfold newFields;refine zaa (zaJ (zad ⟨_,rfl,"set_iterator",_,⟨_,zal _ rfl,rfl⟩,bh.lookup,?_⟩));have kp:∀b o,s.heap.get? b=some o->(s.heap.push (jm (.int ((0:Nat):Int) 0) 0 a es.size ep)).get? b=some o:=fun b o e=>zae _ e
  have fpo:∀b∈[s.heap.objs.size,a],b=a\/s.heap.objs.size<=b:=fun b hb=>by
   simp only [zak,zaI,or_false] at hb;rcases hb with rfl|rfl
   ·right;exact zam _
   ·left;rfl
  cases hb:bt w with
  |true =>
   refine h _ s.drawn _ [s.heap.objs.size,a] _ (pickOrder (w.params.setOrder a ep) es).toList (fun A' hA=>yX hA (zan hlt) hd G _ (by have:=(lW (w.params.setOrder a ep) es).length_eq;simpa using this) (fun _=>0) ?_) ⟨zal _ rfl,kp _ _ ho⟩ fpo kp (zam _) (lW _ _);intro i s' A' E' Q' hi ho' q;exact ye hb ho' hd G (by rw [zaS] at q;exact q)
  |false =>
   rw [hb] at hdr G
   have hdr':(!t.plain && decide (es.size > 1))=false:=by simpa using hdr
   refine h _ s.drawn _ [s.heap.objs.size,a] _ es.toList (fun A' hA=>yX hA (zan hlt) hd G es.toList (by simp) (nM t) ?_) ⟨zal _ rfl,kp _ _ ho⟩ fpo kp (zam _) (List.Perm.refl _);intro i s' A' E' Q' hi ho' q
   have e1:nM t i=(if h:0 < i then t.place[i - 1]'(by omega)+1 else 0):=by
    by_cases h0:0 < i
    ·unfold nM;rw [dif_pos ⟨h0,by omega⟩,dif_pos h0]
    ·unfold nM;rw [dif_neg (fun h=>h0 h.1),dif_neg h0]
   rw [e1];refine va hb rfl ho' hd G hdr' hi hpz ?_
   by_cases hlt:i < es.size
   ·rw [dif_pos hlt]
    rw [zaS,zao hlt] at q;simp only [zbu] at q;unfold nM at q;rw [dif_pos ⟨by omega,by omega⟩] at q;exact q
   ·rw [dif_neg hlt]
    rw [zcs (by simp;omega)] at q;exact q
theorem Eg {ord:List (Int×Value)}{acc:Ti}(h:ItemsOf (IC ord) acc ord.length):acc.toList=ord.map (·.2):=by
 refine List.ext_getElem? fun i=>?_;rw [zaG,zaS];rcases zb8 i ord.length with hi|hi
 ·have hs:i < acc.size:=by rw [h.1];exact hi
  have:=h.2 i acc[i] (zao hs);rw [zao hs];exact this.symm
 ·rw [zcs hi,zcm (by rw [h.1];exact hi)];rfl
theorem AH {ord:List (Int×Value)}(h:∀e∈ord,Iq e):IntsAre (ord.map (·.2)) (ord.map val):=by
 induction ord with
 |nil=>exact .nil
 |cons e r ih =>
  obtain ⟨n,t,rfl⟩:=h _ (zai ..);exact .cons n t (ih fun e he=>h e (zaj _ he))
theorem Bm {a : Addr} {Q : Bool -> Shared -> Prop} (hT : s.TypeIs (.ref a) "set") (h : Q false s) : wpAny (model prog w) A (Builtin.List.listLengthHint (.ref a)) Q E s := by
  unfold Builtin.List.listLengthHint
  refine zaa (zcz hT F.slot_set_len.lookup ?_)
  have hsp : splitId "set.__len__" = some ("set", "__len__") := by decide +kernel
  simp only [hsp]
  refine zaa (zbw hT sub_set_self ?_)
  simp only [zbf, zap, ↓reduceIte]
  refine (show wpAny _ _ (do let .ref _ ← typeOf (Value.ref a) | return false
                             let some k ← asInt? (← call (.builtin "len") [.ref a]) | unsupported "internal:len-gave-no-int"
                             return k != 0) _ _ _ from zaa (zbs hT (zad h)))
theorem p7 {a:Addr}{o:Obj}{es:Array (Int×Value)}{ep:Nat}{t:SetTable}{Q:List Value->Shared->Prop}(hh:A.handled=none)(ho:s.heap.get? a=some o)(hx:o.ExactSet)(hd:o.data=.set es ep t)(G:kQ (!bt w) es t)
  (h:∀(ord:List (Int×Value)) (h':Heap) (d:Drawn) (tk:Nat),ord.Perm es.toList->(∀b o,s.heap.get? b=some o->h'.get? b=some o)->s.toks<=tk->s.heap.objs.size<=h'.objs.size->Q (ord.map (·.2)) {s with heap:=h',drawn:=d,toks:=tk}) :
  wpAny (model prog w) A (collect (.ref a)) Q E s:=by
 have hlt:=zah ho;unfold collect;refine zaa (zcH (zaU F.entry_proto_collect ?_));rw [zaV F.plain_proto_collect _];refine (show wpAny _ A.in1 (newList [] >>= fun l=>again (.builtin "list.__iadd__" ⟨[l,.ref a],[]⟩)) _ _ s from zaa (zaJ ?_));refine zad ⟨zbk F.plain_list_iadd _,zaU F.entry_list_iadd ?_⟩;rw [zaV F.plain_list_iadd _];refine (show wpAny _ A.in1 (Builtin.List.listExtendWith (.ref s.heap.objs.size) (.ref a) (.ref s.heap.objs.size)) _ _ _ from ?_);unfold Builtin.List.listExtendWith;have ho1:(s.heap.push {cls:=.type "list",data:=.seq ([]:Te).toArray}).get? a=some o:=zae _ ho;have hT:Shared.TypeIs {s with heap:=s.heap.push {cls:=.type "list",data:=.seq ([]:Te).toArray}} (.ref a) "set":=⟨o,ho1,hx.1⟩;refine zaa (zbs hT ?_)
 have h1:Builtin.List.listSameRef (.ref s.heap.objs.size) (.ref a)=false:=by simp [Builtin.List.listSameRef,zaY hlt]
 simp only [h1,show (Value.type "set" == Value.type "list")=false by decide,show (Value.type "set" == Value.type "tuple")=false by decide,Bool.or_false,zap,if_false];refine zaa (Bb ho1 hx hd G fun h1 d I fp St ord W st hfp kp hI hord=>?_);have hTa:Shared.TypeIs {s with heap:=h1,drawn:=d} (.ref a) "set":=⟨o,kp _ _ ho1,hx.1⟩;refine zaa (zaE (Bm hTa ?_))
 refine (show wpAny _ A.in1 (rule "list.extend.makes-room" >>= fun _=>Builtin.List.listTouch (.ref s.heap.objs.size) >>= fun _ =>
  again (.builtin "list.extend.loop" ⟨[.ref s.heap.objs.size,.ref I,.ref s.heap.objs.size],[]⟩)) _ _ _ from zaa (zbY (zaa ?_)))
 have hL:h1.get? s.heap.objs.size=some {cls:=.type "list",data:=.seq ([]:Te).toArray}:=kp _ _ (zal _ rfl);have hsz:(s.heap.push {cls:=.type "list",data:=.seq ([]:Te).toArray}).objs.size=s.heap.objs.size+1:=zaX ..
 have hSf:s.heap.objs.size∉fp:=fun hm=>by
  rcases hfp _ hm with e|e
  ·exact zaR _ (e ▸ hlt)
  ·rw [hsz] at e;exact zaR _ e
 refine (show wpAny _ A.in1 (updateSeq s.heap.objs.size (·.push .none) >>= fun _=>updateSeq s.heap.objs.size (·.pop)) _ _ _ from zaa (zc2 hL rfl ?_));have hL2:=za4 (Obj.mapSeq (·.push Value.none)) hL rfl;refine zc2 (s:={s with heap:=_,drawn:=d}) hL2 rfl ?_;have hL3:=za4 (Obj.mapSeq (·.pop)) hL2 rfl
 have oth:∀b o,b≠s.heap.objs.size->h1.get? b=some o->((h1.update s.heap.objs.size (Obj.mapSeq (·.push Value.none))).update s.heap.objs.size (Obj.mapSeq (·.pop))).get? b=some o :=
  fun b o hb e=>(zay _ _ (Ne.symm hb)).trans ((zay _ _ (Ne.symm hb)).trans e)
 have W1:=W A.in1 (show A.in1.handled=none from hh)
 have hol:ord.length=es.size:=by have:=hord.length_eq;simpa using this
 refine zad ⟨zbk F.plain_extend_loop _,codeAny_extend_loopS W1.toS (by rw [hol];exact fits_of_scanBound G.bd) _ hSf _ ord.length 0 _ _ _ rfl (za9 _)
  (W1.frame 0 h1 _ st fun b hb o e=>oth b o (fun q=>hSf (q ▸ hb)) e) hL3 (ItemsOf.nil _) fun s' acc c hm hS' hacc=>?_⟩
 refine (show wpAny _ A (load s.heap.objs.size >>= _) _ _ s' from zaa (wpAny_load hS' ?_));dsimp only;obtain ⟨h',g',d',tk',os'⟩:=s';have eg:g'=s.gens:=hm.gens;have ed:d'=d:=hm.drawn;have eo:os'=s.os:=hm.os;subst eg;subst ed;subst eo;refine zad ?_;rw [Eg hacc];refine h ord h' d' tk' hord (fun b o e=>hm.heap b o (fun hb=>?_) (oth b o (fun q=>?_) (kp _ _ (zae _ e)))) hm.toks (zbK (zah hS'))
 ·have hb1:=zah e
  simp only [zak,zaI,or_false] at hb;rcases hb with q|q
  ·exact zaR _ (q ▸ hb1)
  ·rw [hsz,←q] at hI;exact zaR _ (zaB hb1 (Nat.le_of_succ_le hI))
 ·exact zaR _ (q ▸ zah e)
theorem uf {a:Addr}{o:Obj}{xs:Th}{Q:List Value->Shared->Prop}(hh:A.handled=none)(ho:s.heap.get? a=some o)(hS:cC (!bt w) o xs)
  (h:∀(vs:Te) (ns:Th) (h':Heap) (d:Drawn) (tk:Nat),IntsAre vs ns->ns.Perm xs->(∀b o,s.heap.get? b=some o->h'.get? b=some o)->s.toks<=tk->s.heap.objs.size<=h'.objs.size->Q vs {s with heap:=h',drawn:=d,toks:=tk}) :
  wpAny (model prog w) A (collect (.ref a)) Q E s:=by
 obtain ⟨es,ep,t,hx,hd,G⟩:=hS;exact p7 hh ho hx hd G.w fun ord h' d tk hord k1 k2 k3=>h _ _ h' d tk (AH fun e he=>G.el e (hord.mem_iff.mp he)) ((hord.map val).trans G.pm) k1 k2 k3
theorem uV {a:Addr}{o:Obj}{xs:Th}{Q:Tb}(hh:A.handled=none)(ho:s.heap.get? a=some o)(hS:cC (!bt w) o xs)(h64:xs.length < 64)
  (h:∀(out:Ti) (ns:Th) (h':Heap) (d:Drawn) (tk:Nat) (l:Addr) (c:Nat),IntsAre out.toList ns->ns.Perm xs->ns.Pairwise (·<=·)->(∀b o,s.heap.get? b=some o->h'.get? b=some o)->s.toks<=tk ->
   s.heap.objs.size<=l->h'.get? l=some (seqObj "list" out c)->Q (.ref l) {s with heap:=h',drawn:=d,toks:=tk}) :
  wpAny (model prog w) A (call (.builtin "sorted") [.ref a]) Q E s:=by
 refine Calls.call_function_entry kind_sorted plain_sorted entry_sorted (args_sorted1 _) ?_;unfold Builtin.«sorted»;refine zaa (m:=checkCount "sorted" 1 1 _) (zad (zaa (uf (show A.in1.handled=none from hh) ho hS fun vs ns h' d tk hI hp kp ht hge=>?_)))
 have hvl:vs.length=xs.length:=by rw [IntsAre.length hI,hp.length_eq]
 refine zaa (zcS ?_ (by rw [hvl,za3];omega));have hoL:(h'.push (seqObj "list" vs.toArray 0)).get? h'.objs.size=some (seqObj "list" vs.toArray 0):=zal _ rfl;refine zaa (zaE (zaH (s:={s with heap:=h'.push (seqObj "list" vs.toArray 0),drawn:=d,toks:=tk}) slot_list_sort ⟨_,hoL,rfl⟩ entry_list_sort (list_sort_tree hoL hI (by omega) fun out ns' a1 a2 a3=>⟨_,rfl,?_⟩) (args_list_sort _)))
 obtain ⟨c,hc⟩:∃c,(sortedHeap (h'.push (seqObj "list" vs.toArray 0)) h'.objs.size vs out).get? h'.objs.size=some (seqObj "list" out c):=by
  unfold sortedHeap;obtain ⟨e1,q1⟩:∃e1,((h'.push (seqObj "list" vs.toArray 0)).update h'.objs.size (Obj.mapSeq fun _=>#[])).get? h'.objs.size=some (seqObj "list" #[] e1):=⟨_,get?_update_seq hoL (fun _=>#[])⟩;exact ⟨_,get?_update_seq (zae _ (zae _ q1)) (fun _=>out)⟩
 refine zad ⟨_,rfl,h out ns' _ d tk h'.objs.size c a1 (a2.trans hp) a3 (fun b o e=>?_) ht hge hc⟩;have hb:=kp b o e;have ne:h'.objs.size≠b:=zaY (zah hb);unfold sortedHeap;rw [zay _ _ ne];refine zae _ (zae _ ?_);rw [zay _ _ ne];exact zae _ hb
end
def zy (M i:Nat):Nat:=(i * 5+1) % M
def Cm (M:Nat):Nat->Nat->Nat
 |0,i=>i
 |t+1,i=>Cm M t (zy M i)
theorem mY (M:Nat):∀s t i,Cm M (s+t) i=Cm M t (Cm M s i)
 |0,t,i=>by rw [zct];rfl
 |s+1,t,i=>by rw [Nat.succ_add];exact mY M s t _
def bW:List Nat:=[7,15,31,63,127,255]
theorem AI:∀m∈bW,Cm (m+1) (m+1) 0=0:=by decide +kernel
theorem sR:∀m∈bW,∀j < m+1,∃t < m+1,Cm (m+1) t 0=j:=by
 have:∀m∈bW,∀j < m+1,((List.range (m+1)).any fun t=>Cm (m+1) t 0 == j)=true:=by decide +kernel
 intro m hm j hj;obtain ⟨t,ht,e⟩:=zcV.mp (this m hm j hj);exact ⟨t,by simpa using ht,by simpa using e⟩
theorem wB {m:Nat}(hm:m∈bW){i j:Nat}(hi:i < m+1)(hj:j < m+1):∃t < m+1,Cm (m+1) t i=j:=by
 obtain ⟨s,hs,rfl⟩:=sR m hm i hi;obtain ⟨t,ht,rfl⟩:=sR m hm j hj;rcases zb8 t s with h|h
 ·refine ⟨m+1 - s+t,by omega,?_⟩
  rw [←mY,show s+(m+1 - s+t)=(m+1)+t by omega,mY,AI m hm]
 ·refine ⟨t - s,by omega,?_⟩
  rw [←mY,show s+(t - s)=t by omega]
theorem oA (m:Nat)(owner:Array (Option Nat)):∀fuel i p r,SetTable.layClean.free m owner fuel i p=some r->owner[r]?=some none
 |0,i,p,r,e=>by simp [SetTable.layClean.free] at e
 |fuel+1,i,p,r,e=>by
  unfold SetTable.layClean.free at e;split at e
  ·rename_i k hk
   cases e;have:=zds hk
   simp only [Array.getD] at this
   split at this
   ·rename_i hlt
    rw [zao hlt];simpa using this
   ·simp at this
  ·exact oA m owner fuel _ _ r e
def gD (m:Nat):Nat->Nat->Nat->Nat×Nat
 |0,i,p=>(i,p)
 |t+1,i,p=>gD m t (SetTable.leap m i p).1 (SetTable.leap m i p).2
theorem pY (m:Nat)(owner:Array (Option Nat)):∀fuel i p,SetTable.layClean.free m owner fuel i p=none->∀t < fuel,owner[(gD m t i p).1]?≠some none
 |0,i,p,_,t,ht=>by omega
 |fuel+1,i,p,e,t,ht=>by
  unfold SetTable.layClean.free at e;split at e
  ·cases e
  ·rename_i hk
   cases t with
   |zero =>
    intro hq
    have h0:=zdd.mp hk 0 (by
     have:i<=SetTable.runEnd m i:=by unfold SetTable.runEnd;split <;> omega
     simp;omega)
    simp only [gD] at hq;obtain ⟨hlt,hq⟩:=zba.mp hq;simp [Array.getD,hlt,hq] at h0
   |succ t=>exact pY m owner fuel _ _ e t (by omega)
theorem uY (m:Nat):∀t i p,(gD m t i p).2=p / 32 ^ t
 |0,i,p=>by simp [gD]
 |t+1,i,p=>by
  unfold gD;rw [uY m t];simp only [SetTable.leap];rw [Nat.div_div_eq_div_mul,Nat.pow_succ,Nat.mul_comm]
theorem nO (m:Nat):∀s t i p,gD m (s+t) i p=gD m t (gD m s i p).1 (gD m s i p).2
 |0,t,i,p=>by rw [zct];rfl
 |s+1,t,i,p=>by rw [Nat.succ_add];exact nO m s t _ _
theorem lV (m:Nat):∀t i,(gD m t i 0).1=Cm (m+1) t i
 |0,i=>rfl
 |t+1,i=>by
  have e:SetTable.leap m i 0=(zy (m+1) i,0):=by simp [SetTable.leap,zy]
  unfold gD Cm;rw [e];exact lV m t _
theorem qx (m:Nat):∀t i p,i < m+1->(gD m t i p).1 < m+1
 |0,i,p,h=>h
 |t+1,i,p,h=>qx m t _ _ (zcI _ (by omega))
theorem DQ {m:Nat}(hm:m∈bW){owner:Array (Option Nat)}(h:Int){j:Nat}(hj:j < m+1)(hf:owner[j]?=some none) :
  ∃r,SetTable.layClean.free m owner (SetTable.turns m) (SetTable.bits h % (m+1)) (SetTable.bits h)=some r/\owner[r]?=some none:=by
 cases e:SetTable.layClean.free m owner (SetTable.turns m) (SetTable.bits h % (m+1)) (SetTable.bits h) with
 |some r=>exact ⟨r,rfl,oA m owner _ _ _ r e⟩
 |none =>
  exfalso
  have hn:=pY m owner _ _ _ e
  have hb:SetTable.bits h < 2 ^ 64:=by
   unfold SetTable.bits;have:=zci h (show (0:Int) < 2 ^ 64 by decide);have:=zcC h (show (2 ^ 64:Int)≠0 by decide);omega
  have hp:(gD m 13 (SetTable.bits h % (m+1)) (SetTable.bits h)).2=0:=by
   rw [uY];exact Nat.div_eq_of_lt (zb7 hb (by decide))
  have hi:(gD m 13 (SetTable.bits h % (m+1)) (SetTable.bits h)).1 < m+1:=qx m _ _ _ (zcI _ (by omega));obtain ⟨t,ht,e⟩:=wB hm hi hj;refine hn (13+t) (by unfold SetTable.turns;omega) ?_;rw [nO,hp,lV,e];exact hf
def cB (M:Nat)(owner:Array (Option Nat)):List (Nat×Nat):=(List.range M).filterMap fun j=>(owner.getD j none).map (j,·)
theorem wY {α β:Type}{f g:α->Option β}:∀{l:List α},(∀y∈l,g y=f y)->l.filterMap g=l.filterMap f
 |[],_=>rfl
 |x::l,h=>by
  have ih:=wY (l:=l) fun y hy=>h y (by simp [hy]);simp only [zcc,h x (by simp),ih]
theorem Bt {f g:Nat->Option (Nat×Nat)}{j:Nat}{v:Nat×Nat}(hf:f j=none)(hg:g j=some v)(hx:∀x,x≠j->g x=f x):∀{l:List Nat},l.Nodup->j∈l->(l.filterMap g).Perm (v::l.filterMap f)
 |[],_,h=>by simp at h
 |x::l,hn,h=>by
  obtain ⟨h1,h2⟩:=zaP.mp hn
  by_cases e:x=j
  ·subst e
   have:l.filterMap g=l.filterMap f:=wY fun y hy=>hx y fun z=>h1 (z ▸ hy);rw [zbN hg,zcG hf,this]
  ·have hj:j∈l:=by
    rcases zak.mp h with q|q
    ·exact absurd q.symm e
    ·exact q
   have ih:=Bt hf hg hx h2 hj
   cases q:f x with
   |none=>rw [zcG (by rw [hx x e];exact q),zcG q];exact ih
   |some u =>
    rw [zbN (by rw [hx x e];exact q),zbN q];exact (ih.cons u).trans (.swap _ _ _)
theorem AY {M k r:Nat}{owner:Array (Option Nat)}(hs:owner.size=M)(hr:owner[r]?=some none):(cB M (owner.setIfInBounds r (some k))).Perm ((r,k)::cB M owner):=by
 obtain ⟨hlt,hq⟩:=zba.mp hr;refine Bt (j:=r) (v:=(r,k)) ?_ ?_ ?_ zdl (zby.mpr (by omega))
 ·simp [Array.getD,hlt,hq]
 ·simp [Array.getD,hlt]
 ·intro x hx
  simp only [Array.getD,Array.size_setIfInBounds];split
  ·rename_i h
   have e:(owner.setIfInBounds r (some k))[x]'(by simpa using h)=owner[x]:=Array.getElem_setIfInBounds_ne _ (Ne.symm hx);exact congrArg _ e
  ·rfl
theorem yi {M:Nat}{owner:Array (Option Nat)}(hs:owner.size=M)(h:∀j < M,owner[j]?≠some none):(cB M owner).length=M:=by
 have:∀l:List Nat,(∀j∈l,j < M)->(l.filterMap fun j=>(owner.getD j none).map (j,·)).length=l.length:=by
  intro l
  induction l with
  |nil=>intro _;rfl
  |cons x l ih =>
   intro hl;have hx:=hl x (by simp)
   have hlt:x < owner.size:=by omega
   cases q:owner[x] with
   |none=>exact absurd (by rw [zao hlt,q]) (h x hx)
   |some v =>
    rw [zbN (b:=(x,v)) (by simp [Array.getD,hlt,q])];rw [zaK,ih fun j hj=>hl j (by simp [hj]),zaK]
 have:=this (List.range M) (by simp);simpa [cB] using this
theorem wX {m:Nat}(hm:m∈bW):∀(hs:Th) (owner:Array (Option Nat)) (k:Nat),owner.size=m+1->((cB (m+1) owner).map (·.2)).Perm (List.range k)->k+hs.length<=m+1 ->
  ∃owner',(hs.foldl (init:=some (owner,k)) fun acc h=>do
   let (owner,k) ←acc
   let j ←SetTable.layClean.free m owner (SetTable.turns m) (SetTable.bits h % (m+1)) (SetTable.bits h)
   pure (owner.setIfInBounds j (some k),k+1))=some (owner',k+hs.length)/\owner'.size=m+1/\((cB (m+1) owner').map (·.2)).Perm (List.range (k+hs.length))
 |[],owner,k,h1,h2,h3=>⟨owner,by simp,h1,by simpa using h2⟩
 |h::hs,owner,k,h1,h2,h3=>by
  have hex:∃j,j < m+1/\owner[j]?=some none:=by
   refine Classical.byContradiction fun hc=>?_;have:=yi h1 fun j hj q=>hc ⟨j,hj,q⟩;have h4:=h2.length_eq;simp at h4 h3;omega
  obtain ⟨j,hj,hf⟩:=hex;obtain ⟨r,e,hr⟩:=DQ hm h hj hf
  have ih:=wX hm hs (owner.setIfInBounds r (some k)) (k+1) (by simpa using h1) (by
   refine ((AY h1 hr).map (·.2)).trans ?_;rw [zag,List.range_succ]
   exact (h2.cons k).trans (List.perm_append_singleton k _).symm) (by simp at h3;omega)
  obtain ⟨o',e1,e2,e3⟩:=ih;refine ⟨o',?_,e2,?_⟩
  ·rw [za0]
   simp only [bind,Option.bind,e,pure];rw [show k+(h::hs).length=k+1+hs.length by simp;omega];exact e1
  ·rw [show k+(h::hs).length=k+1+hs.length by simp;omega];exact e3
theorem ug {m:Nat}(hm:m∈bW)(hs:Array Int)(hl:hs.size<=m+1):∃owner,SetTable.layClean m hs=some owner/\owner.size=m+1/\((cB (m+1) owner).map (·.2)).Perm (List.range hs.size):=by
 obtain ⟨o,e1,e2,e3⟩:=wX hm hs.toList (Array.replicate (m+1) none) 0 (by simp) (by
  have:cB (m+1) (Array.replicate (m+1) none)=[]:=by
   unfold cB;rw [List.filterMap_eq_nil_iff];intro j hj;simp at hj;simp [Array.getD,hj]
  rw [this];exact .refl _) (by simpa using hl)
 refine ⟨o,?_,e2,by simpa using e3⟩;unfold SetTable.layClean;rw [←Array.foldl_toList,e1];rfl
theorem wQ {m finger moves:Nat}{led plain:Bool}(hm:m∈bW)(hs:Array Int)(hl:hs.size<=m) :
  ∃t o,SetTable.laid m finger moves led plain hs=some (t,o)/\o.toList.Perm (List.range hs.size)/\t.fits hs.size=true/\t.place.toList.Pairwise (· < ·)/\t.led=led/\t.plain=plain/\t.mask=m/\t.dummies = #[]/\t.place.size=hs.size:=by
 obtain ⟨owner,e,e2,e3⟩:=ug hm hs (by omega)
 have hlen:(cB (m+1) owner).length=hs.size:=by have:=e3.length_eq;simpa using this
 have hlaid:SetTable.laid m finger moves led plain hs=some (({mask:=m,place:=((cB (m+1) owner).map (·.1)).toArray,dummies:=#[],finger,led,moves,plain}:SetTable),((cB (m+1) owner).map (·.2)).toArray):=by
  unfold SetTable.laid;rw [e];rfl
 refine ⟨_,_,hlaid,by simpa using e3,?_,(iu hlaid).1,rfl,rfl,rfl,rfl,by simpa using hlen⟩;simp [SetTable.fits,SetTable.fill,hlen];omega
theorem uy:∀n < 256,SetTable.sizeAbove n - 1∈bW/\n < SetTable.sizeAbove n/\SetTable.sizeAbove n<=256:=by decide +kernel
theorem cq.perm {led:Bool}{es:Array (Int×Value)}{t:SetTable}{xs ys:Th}(g:cq led es t xs)(p:xs.Perm ys):cq led es t ys :=
 ⟨g.el,g.pm.trans p,p.nodup_iff.mp g.nd,g.bd,g.ft,g.rs,g.ld⟩
theorem cq.place {led:Bool}{es:Array (Int×Value)}{t:SetTable}{xs:Th}(g:cq led es t xs):t.place.size=es.size/\t.fill<=t.mask:=by
 have:=g.ft;simp [SetTable.fits] at this;exact this
section
variable  {prog:Program}{w:World}{A:Around}{E:Tb}{s:Shared}
theorem tq {led l' plain:Bool}{es:Array (Int×Value)}{t:SetTable}{xs:Th}(G:cq led es t xs){m finger moves:Nat}(hm:m∈bW)(hl:xs.length<=m)(hl':l'=led) :
  ∃t' o,SetTable.laid m finger moves l' plain (es.map (·.1))=some (t',o)/\cq led (o.filterMap (es[·]?)) t' xs/\(o.filterMap (es[·]?)).size=es.size/\t'.mask=m/\t'.dummies = #[]:=by
 have hz:=cC.len G;obtain ⟨t',o,e,h1,h2,h3,h4,h5,h6,h7,h8⟩:=wQ (finger:=finger) (moves:=moves) (led:=l') (plain:=plain) hm (es.map (·.1)) (by rw [zcJ];omega);rw [zcJ] at h1 h2 h8
 have hp:(o.filterMap (es[·]?)).toList.Perm es.toList:=by rw [zcP];exact gw h1
 have hsz:(o.filterMap (es[·]?)).size=es.size:=by have:=hp.length_eq;rwa [zaD,zaD] at this
 exact ⟨t',o,e,⟨fun x hx=>G.el x (hp.mem_iff.mp hx),(hp.map val).trans G.pm,G.nd,by rw [hsz];exact G.bd,by rw [hsz];exact h2,fun _=>h3,h4.trans hl'⟩,hsz,h6,h7⟩
theorem zP {led:Bool}{a:Addr}{o:Obj}{es:Array (Int×Value)}{ep:Nat}{t:SetTable}{xs:Th}{wanted:Nat}{Q:Unit->Shared->Prop}(ho:s.heap.get? a=some o)(hx:o.ExactSet)(hd:o.data=.set es ep t)(G:cq led es t xs)(hw:wanted < 256)(hl:xs.length<=wanted)
  (h:∀h' es' t',Heap.SameBut a s.heap h'->h'.get? a=some {o with data:=.set es' (ep+1) t'}->cq led es' t' xs->t'.mask∈bW->wanted<=t'.mask->t'.dummies = #[]->Q () {s with heap:=h'}) :
  wpAny (model prog w) A (setRelay a wanted) Q E s:=by
 obtain ⟨m1,m2,m3⟩:=uy wanted hw;unfold setRelay;refine zaa (zau ho hd G.ft ?_);dsimp only;rw [if_neg (by rw [za3];omega)];obtain ⟨t',ord,e,G',hsz,hm,hdm⟩:=tq (l':=t.led) (plain:=t.plain) (finger:=t.finger) (moves:=t.movedTo (SetTable.sizeAbove wanted - 1)) G m1 (by omega) G.ld;have e':t.relaid (es.map (·.1)) wanted=some (t',ord):=e;rw [e'];refine zaa (show wpAny _ _ (if ((ord.filterMap (es[·]?)).size != es.size)=true then (do unsupported "internal:set-table-lost-an-element";pure (ord.filterMap (es[·]?),t')) else pure (ord.filterMap (es[·]?),t')) _ _ _ from ?_);rw [if_neg (by simp [hsz])];refine zad (cD ho hx hd G'.bd fun h' b1 g1=>?_);exact h h' _ t' b1 g1 G' (by rw [hm];exact m1) (by rw [hm];omega) hdm
theorem CO {led:Bool}{a:Addr}{o:Obj}{es:Array (Int×Value)}{ep:Nat}{t:SetTable}{xs:Th}{more:Nat}{Q:Unit->Shared->Prop}(ho:s.heap.get? a=some o)(hx:o.ExactSet)(hd:o.data=.set es ep t)(G:cq led es t xs)(hw:xs.length+more < 128)
  (h:∀h' es' ep' t',Heap.SameBut a s.heap h'->h'.get? a=some {o with data:=.set es' ep' t'}->cq led es' t' xs->((t'=t/\(t.fill+more) * 5 < t.mask * 3)\/(t'.mask∈bW/\xs.length+more<=t'.mask/\t'.dummies = #[]))->Q () {s with heap:=h'}) :
  wpAny (model prog w) A (setRoomFor a more) Q E s:=by
 have hz:=cC.len G;have hpl:=G.place;unfold setRoomFor;refine zaa (zau ho hd G.ft ?_);dsimp only;unfold SetTable.roomFor
 by_cases hc:(t.fill+more) * 5 >= t.mask * 3
 ·rw [if_pos hc]
  dsimp only;refine zP ho hx hd G (by omega) (by omega) fun h' es' t' b g G' m1 m2 m3=>h h' es' _ t' b g G' (.inr ⟨m1,by omega,m3⟩)
 ·rw [if_neg hc]
  dsimp only;refine zad ?_
  have e:s={s with heap:=s.heap}:=by cases s;rfl
  have hoo:s.heap.get? a=some {o with data:=.set es ep t}:=by rw [ho];obtain ⟨c1,c2,c3,c4⟩:=o;simp only at hd;subst hd;rfl
  rw [e];exact h s.heap es ep t (Heap.SameBut.refl a s.heap) hoo G (.inl ⟨rfl,by omega⟩)
end
theorem xX {xs ys:Th}(p:xs.Perm ys)(k:Int):(cb xs k).Perm (cb ys k):=by
 unfold cb
 by_cases h:k∈xs
 ·rw [if_pos h,if_pos (p.mem_iff.mp h)];exact p
 ·rw [if_neg h,if_neg (fun q=>h (p.mem_iff.mpr q))];exact p.append (.refl _)
theorem xW (xs:Th)(a b:Int):(cb (cb xs a) b).Perm (cb (cb xs b) a):=by
 have h1:∀x k,k∈cb xs x ↔ k∈xs\/k=x:=fun x k=>by
  unfold cb;split
  ·rename_i h;exact ⟨.inl,fun q=>q.elim id fun e=>e ▸ h⟩
  ·simp
 by_cases ha:a∈xs
 ·by_cases hb:b∈xs
  ·simp [cb,ha,hb]
  ·simp [cb,ha,hb]
 ·by_cases hb:b∈xs
  ·simp [cb,ha,hb]
  ·by_cases e:a=b
   ·subst e;exact .refl _
   ·have e1:cb (cb xs a) b=xs++([a]++[b]):=by
     have:b∉xs++[a]:=by simp [hb,Ne.symm e]
     rw [show cb xs a=xs++[a] by simp [cb,ha]];unfold cb;rw [if_neg this,zbD]
    have e2:cb (cb xs b) a=xs++([b]++[a]):=by
     have:a∉xs++[b]:=by simp [ha,e]
     rw [show cb xs b=xs++[b] by simp [cb,hb]];unfold cb;rw [if_neg this,zbD]
    rw [e1,e2];exact (List.Perm.refl xs).append (.swap _ _ _)
theorem pR:∀{ns:Th} {xs ys:Th},xs.Perm ys->(aJ xs ns).Perm (aJ ys ns)
 |[],_,_,p=>p
 |n::ns,_,_,p=>pR (ns:=ns) (xX p n)
theorem AT {ns ms:Th}(p:ns.Perm ms):∀(xs:Th),(aJ xs ns).Perm (aJ xs ms):=by
 induction p with
 |nil=>exact fun _=>.refl _
 |cons x _ ih=>exact fun xs=>ih _
 |swap x y l=>exact fun xs=>pR (xW xs y x)
 |trans _ _ h1 h2=>exact fun xs=>(h1 xs).trans (h2 xs)
theorem wI {ns:Th}(h:ns.Nodup):(aJ [] ns).Perm ns:=by
 have:∀{es acc:Th},(acc++es).Nodup->aJ acc es=acc++es:=by
  intro es
  induction es with
  |nil=>intro acc _;simp [aJ]
  |cons e es ih =>
   intro acc h
   have hn:e∉acc:=fun he=>by
    rw [zbb] at h;exact h.2.2 e he e (by simp) rfl
   have:=ih (acc:=acc++[e]) (by simpa using h);simp only [aJ,za0,cb,if_neg hn] at this ⊢;rw [this];simp
 rw [this (by simpa using h)];simp
theorem jI:∀(ns xs:Th),(aJ xs ns).length<=xs.length+ns.length
 |[],xs=>by simp [aJ]
 |n::ns,xs=>by
  have h1:=jI ns (cb xs n);have h2:=n6 xs n;simp only [aJ,za0,zaK] at h1 ⊢;omega
section
variable  {prog:Program}{w:World}{A:Around}{E:Tb}{s:Shared}
theorem DS {led:Bool}{r:Addr}{or oo:Obj}{es eo:Array (Int×Value)}{ep eq:Nat}{ts to:SetTable}{ys:Th}{Q:Unit->Shared->Prop}(hr:s.heap.get? r=some or)(hxr:or.ExactSet)(hdr:or.data=.set es ep ts)(Gr:cq led es ts [])
  (hm:ts.mask∈bW) (hdm:ts.dummies = #[]) (hl:ys.length<=ts.mask) (hdo:oo.data=.set eo eq to) (Go:cq led eo to ys)
  (h:∀h' o',Heap.SameBut r s.heap h'->h'.get? r=some o'->cC led o' ys->Q () {s with heap:=h'}) {k:Sem Unit} :
  wpAny (model prog w) A (match ts.road to with
   |.slotForSlot=>storeSet r eo {to with finger:=ts.finger,led:=ts.led && to.led,moves:=ts.moves,plain:=ts.plain && to.plain}
   |.clean=>do
    let (es,t) ←(do
     let some (t,order):=SetTable.laid ts.mask ts.finger ts.moves (led:=ts.led && to.led) (plain:=ts.plain && to.plain) (eo.map (·.1))|unsupported "internal:set-table-without-room"
     let es':=order.filterMap (eo[·]?)
     if es'.size != eo.size then unsupported "internal:set-table-lost-an-element"
     pure (es',t):Sem (Array (Int×Value)×SetTable))
    storeSet r es t
   |.oneByOne=>k) Q E s:=by
 have hes:es.size=0:=cC.len Gr
 have hpz:ts.place.size=0:=by rw [Gr.place.1,hes]
 have hfill:ts.fill=0:=by unfold SetTable.fill;rw [hpz,hdm];rfl
 have hled:(ts.led && to.led)=led:=by rw [Gr.ld,Go.ld];simp
 unfold SetTable.road;rw [hfill];simp only [bne_self_eq_false,zap,if_false]
 by_cases hc:(ts.mask == to.mask && to.dummies.isEmpty)=true
 ·rw [if_pos hc]
  refine cD hr hxr hdr Go.bd fun h' b g=>h h' _ b g ⟨eo,_,_,hxr,rfl,⟨Go.el,Go.pm,Go.nd,Go.bd,Go.ft,fun hp=>?_,hled⟩⟩;simp only [zbp] at hp;exact Go.rs hp.2
 ·rw [if_neg hc]
  dsimp only;obtain ⟨t',ord,e,G',hsz,hm',hdm'⟩:=tq (l':=ts.led && to.led) (plain:=ts.plain && to.plain) (finger:=ts.finger) (moves:=ts.moves) Go hm hl hled;rw [e];dsimp only;rw [if_neg (by simp [hsz])];refine zaa (zad (cD hr hxr hdr G'.bd fun h' b g=>h h' _ b g ⟨_,_,t',hxr,rfl,G'⟩))
theorem Ag {sets:Tf}{Q:Bool->Shared->Prop}(h:∀a∈sets,∃o es ep t,s.heap.get? a=some o/\o.data=.set es ep t/\t.fits es.size=true/\∀e∈es.toList,Iq e)(hQ:Q true s):wpAny (model prog w) A (setsQuiet sets) Q E s:=by
 unfold setsQuiet;refine zaa (zcW _ (fun rest b s'=>b=(none,())/\s'=s/\∀a∈rest,a∈sets) _ ?_ ?_ _ _ ⟨rfl,rfl,fun a ha=>ha⟩)
 ·rintro a rest b s' ⟨rfl,rfl,hs⟩
  obtain ⟨o,es,ep,t,ho,hd,hf,he⟩:=h a (hs a (by simp));unfold setEntries;refine zaa (zaa (zau ho hd hf (zad (zaa ?_))));dsimp only;refine forIn_array_ _ (fun rest b s''=>b=(none,())/\s''=s'/\∀e∈rest,Iq e) _ ?_ ?_ _ _ ⟨rfl,rfl,he⟩
  ·rintro e rest' b s'' ⟨rfl,rfl,hE⟩
   obtain ⟨n,tk,rfl⟩:=hE e (by simp);exact zad ⟨rfl,rfl,fun e he=>hE e (by simp [he])⟩
  ·rintro b s'' ⟨rfl,rfl,_⟩
   exact zad ⟨rfl,rfl,fun a ha=>hs a (by simp [ha])⟩
 ·rintro b s' ⟨rfl,rfl,_⟩
  exact zad hQ
theorem xx {led:Bool}(hled:led = !bt w){r o:Addr}(hne:r≠o){or oo:Obj}{es eo:Array (Int×Value)}{ep eq:Nat}{ts to:SetTable}{xs ys:Th}{Q:Array (Int×Value)->Shared->Prop}(hr:s.heap.get? r=some or)(hxr:or.ExactSet)(hdr:or.data=.set es ep ts)(Gr:cq led es ts xs)
  (ho:s.heap.get? o=some oo) (hdo:oo.data=.set eo eq to) (Go:cq led eo to ys)
  (h:∀ord h' o' d,ord.toList.Perm eo.toList->Heap.SameBut r s.heap h'->h'.get? r=some o'->cC led o' xs->Q ord {s with heap:=h',drawn:=d}) :
  wpAny (model prog w) A (setWalkUnseen o [r] (some r)) Q E s:=by
 have hS:cC led or xs:=⟨es,ep,ts,hxr,hdr,Gr⟩;have same:∀(ord:Array (Int×Value)) d,ord.toList.Perm eo.toList->Q ord {s with drawn:=d}:=fun ord d p=>h ord s.heap or d p (Heap.SameBut.refl r s.heap) hr hS;unfold setWalkUnseen;refine zaa (zau ho hdo Go.ft ?_);dsimp only;unfold setsByText;refine zaa (zaa (zbr (zad ?_)));dsimp only;have hbt:(model prog w).w.params.followText "set-order" = bt w:=rfl;rw [hbt]
 by_cases hc:(bt w || (to.led && to.plain) || decide (eo.size<=1))=true
 ·rw [if_pos hc]
  unfold setWalk setsByText;refine zaa (zau ho hdo Go.ft ?_);dsimp only;refine zaa (zaa (zbr (zad ?_)));dsimp only;rw [hbt]
  cases hb:bt w with
  |true =>
   simp only [↓reduceIte];exact zaa (zbr (zad (same _ s.drawn (lW _ _))))
  |false =>
   simp only [zap,↓reduceIte];rw [hb] at hc hled;split
   ·rename_i hdr'
    have hdr':(!to.plain && decide (eo.size > 1))=true:=hdr';simp only [zbp,Bool.not_eq_true',decide_eq_true_eq] at hdr'
    exfalso
    simp [hdr'.1] at hc;omega
   ·refine zaa (show wpAny _ _ (if (!to.led && decide (eo.size > 1))=true then unsupported "set:maker-not-led" else pure ()) _ _ _ from ?_)
    rw [if_neg (by rw [Go.ld,hled];simp)];exact zad (zad (same eo s.drawn (.refl _)))
 ·rw [if_neg hc]
  refine zaa (Ag (fun b hb=>?_) ?_)
  ·simp only [zak,zaI,or_false] at hb
   rcases hb with rfl|rfl
   ·exact ⟨oo,eo,eq,to,ho,hdo,Go.ft,Go.el⟩
   ·exact ⟨or,es,ep,ts,hr,hdr,Gr.ft,Gr.el⟩
  ·simp only [zbf,zap,↓reduceIte]
   refine zaa (zbY (zaa (zau hr hdr Gr.ft ?_)));dsimp only;split
   ·refine zaa (cD hr hxr hdr Gr.bd fun h' b g=>zad ?_)
    refine h eo h' _ s.drawn (.refl _) b g ⟨es,_,_,hxr,rfl,⟨Gr.el,Gr.pm,Gr.nd,Gr.bd,Gr.ft,fun hp=>?_,by rw [Gr.ld,Go.ld];simp⟩⟩;simp only [zbp] at hp;exact Gr.rs hp.1
   ·exact zad (same eo s.drawn (.refl _))
theorem s9 {led:Bool}(hled:led = !bt w){r o:Addr}(hne:r≠o){or oo:Obj}{es eo:Array (Int×Value)}{ep eq:Nat}{ts to:SetTable}{xs ys:Th}{each:Sem Unit}{Q:Unit->Shared->Prop}(hr:s.heap.get? r=some or)(hxr:or.ExactSet)(hdr:or.data=.set es ep ts)(Gr:cq led es ts xs)
  (hempty:xs=[]->ts.mask∈bW/\ts.dummies = #[])
  (ho:s.heap.get? o=some oo) (hdo:oo.data=.set eo eq to) (Go:cq led eo to ys) (hz:xs.length+ys.length < 128)
  (heach:∀(s':Shared) (Q':Unit->Shared->Prop),s'.heap.get? o=some oo->Q' () s'->wpAny (model prog w) A each Q' E s')
  (h:∀h' o' d,Heap.SameBut r s.heap h'->h'.get? r=some o'->cC led o' (aJ xs ys)->Q () {s with heap:=h',drawn:=d}) :
  wpAny (model prog w) A (setMerge r o each) Q E s:=by
 have hyl:=cC.len Go;unfold setMerge;rw [if_neg (by simpa using hne)];refine zaa (zau ho hdo Go.ft ?_);dsimp only
 by_cases hem:eo.isEmpty=true
 ·rw [if_pos hem]
  have hy:ys=[]:=by
   have:eo.size=0:=by simpa [Array.isEmpty] using hem
   exact zbR (by omega)
  subst hy;exact zad (h s.heap or s.drawn (Heap.SameBut.refl r s.heap) hr ⟨es,ep,ts,hxr,hdr,Gr⟩)
 ·rw [if_neg hem]
  refine zaa (CO hr hxr hdr Gr (by omega) fun h1 es1 ep1 t1 b1 g1 G1 c1=>?_)
  have ho1:h1.get? o=some oo:=by rw [b1.2 o (Ne.symm hne)];exact ho
  refine zaa (zau g1 rfl G1.ft ?_);dsimp only
  by_cases hx:xs=[]
  ·subst hx
   have hm:t1.mask∈bW/\t1.dummies = #[]/\ys.length<=t1.mask:=by
    rcases c1 with ⟨rfl,q⟩|⟨m1,m2,m3⟩
    ·obtain ⟨m1,m2⟩:=hempty rfl
     exact ⟨m1,m2,by simp only [hyl] at q;omega⟩
    ·exact ⟨m1,m3,by simpa [hyl] using m2⟩
   refine DS (s:={s with heap:=h1}) g1 hxr rfl G1 hm.1 hm.2.1 hm.2.2 hdo Go fun h2 o2 b2 g2 S2=>?_;obtain ⟨e2,q2,t2,x2,d2,G2⟩:=S2;exact h h2 o2 s.drawn (b1.trans b2) g2 ⟨e2,q2,t2,x2,d2,cq.perm G2 (wI Go.nd).symm⟩
  ·have hfill:(t1.fill != 0)=true:=by
    have h0:0 < xs.length:=zcx.mpr hx;have:=G1.place.1;have:=cC.len G1;refine bne_iff_ne.mpr ?_;unfold SetTable.fill;omega
   unfold SetTable.road;rw [if_pos hfill];dsimp only;refine zaa (xx (s:={s with heap:=h1}) hled hne g1 hxr rfl G1 ho1 hdo Go fun ord h2 o2 d hp b2 g2 S2=>?_)
   have ho2:h2.get? o=some oo:=by rw [b2.2 o (Ne.symm hne)];exact ho1
   refine zaa (forIn_array_ _ (fun rest _ s'=>∃h3 o3 zs,s'={s with heap:=h3,drawn:=d}/\Heap.SameBut r s.heap h3/\h3.get? r=some o3/\cC led o3 zs/\aJ zs (rest.map val)=aJ xs (ord.toList.map val)/\(∀e∈rest,Iq e)/\zs.length+rest.length<=127) _ ?_ ?_ _ _
    ⟨h2,o2,xs,rfl,b1.trans b2,g2,S2,rfl,fun e he=>Go.el e (hp.mem_iff.mp he),by have:=hp.length_eq;simp only [zaD] at this ⊢;omega⟩)
   ·rintro e rest b s' ⟨h3,o3,zs,rfl,b3,g3,S3,m3,e3,l3⟩
    obtain ⟨n,tk,rfl⟩:=e3 e (by simp)
    have ho3:h3.get? o=some oo:=by rw [b3.2 o (Ne.symm hne)];exact ho
    dsimp only;refine zaa (zaE (Cd (s:={s with heap:=h3,drawn:=d}) g3 S3 (by simp at l3;unfold scanBound;omega) fun h4 o4 bb b4 g4 S4=>?_))
    have ho4:h4.get? o=some oo:=by rw [b4.2 o (Ne.symm hne)];exact ho3
    refine zaa (heach _ _ ho4 (zaa (zau (s:={s with heap:=h4,drawn:=d}) ho4 hdo Go.ft ?_)));dsimp only;rw [if_neg (by simp)];refine zad ⟨h4,o4,cb zs n,rfl,b3.trans b4,g4,S4,m3,fun e he=>e3 e (by simp [he]),?_⟩;have:=n6 zs n;simp at l3;omega
   ·rintro b s' ⟨h3,o3,zs,rfl,b3,g3,S3,m3,_,_⟩
    have m3:zs=aJ xs (ord.toList.map val):=m3;obtain ⟨e4,q4,t4,x4,d4,G4⟩:=S3;refine zad (h h3 o3 d b3 g3 ⟨e4,q4,t4,x4,d4,cq.perm G4 ?_⟩);rw [m3];exact AT ((hp.map val).trans Go.pm) xs
end
theorem vM:entryFor table "set.__or__" = some Builtin.«frozenset.__or__» :=
 entryFor_alias (id':="frozenset.__or__") (by kernel_rfl) (by first|rfl|decide +kernel) (by decide +kernel) (by kernel_rfl)
theorem AS {xs ys:Th}(h:∀y∈ys,y∈xs):aJ xs ys=xs:=by
 induction ys with
 |nil=>rfl
 |cons y ys ih =>
  have:cb xs y=xs:=by unfold cb;rw [if_pos (h y (by simp))]
  simp only [aJ,za0,this];exact ih fun z hz=>h z (by simp [hz])
section
variable  {prog:Program}{w:World}{A:Around}{E:Tb}{s:Shared}
theorem mw {a:Addr}{Q:Bool->Shared->Prop}(hT:s.TypeIs (.ref a) "set")(h:Q true s):wpAny (model prog w) A (Builtin.Frozenset.isAnySet (.ref a)) Q E s:=by
 unfold Builtin.Frozenset.isAnySet;unfold orM;exact zaa (zbw hT sub_set_self (zad h))
theorem Ea {l:Addr}{ol:Obj}{xs:Th}{Q:Tb}(hl:s.heap.get? l=some ol)(Sl:cC (!bt w) ol xs)(hz:xs.length < 128)
  (h:∀h' d o',(∀b o,s.heap.get? b=some o->h'.get? b=some o)->h'.get? s.heap.objs.size=some o'->cC (!bt w) o' xs->(xs=[]->o'=ax (!bt w))->Q (.ref s.heap.objs.size) {s with heap:=h',drawn:=d}) :
  wpAny (model prog w) A (Builtin.Frozenset.copyOf l) Q E s:=by
 obtain ⟨eo,eq,to,hx,hd,Go⟩:=Sl;have hlt:=zah hl;have hT:s.TypeIs (.ref l) "set":=⟨ol,hl,hx.1⟩;unfold Builtin.Frozenset.copyOf Builtin.Frozenset.baseOf;refine zaa (zaa (zbw hT sub_set_self (zad ?_)));simp only [↓reduceIte];unfold newSet setsByText;refine zaa (zaa (zaa (zbr (zad ?_))));dsimp only;refine zaJ ?_;refine zaa (show wpAny _ _ (pure s.heap.objs.size) _ _ _ from zad ?_);have hS:(s.heap.push (ax (!bt w))).get? s.heap.objs.size=some (ax (!bt w)):=zal _ rfl
 by_cases hxs:xs=[]
 ·subst hxs
  have hem:eo.isEmpty=true:=by have:=cC.len Go;simpa [Array.isEmpty] using this
  unfold setMerge;rw [if_neg (by simpa using zaY hlt)];refine zaa (zaa (zau (zae _ hl) hd Go.ft ?_));dsimp only;rw [if_pos hem];exact zad (zad (h _ s.drawn (ax (!bt w)) (fun c u e=>zae _ e) hS (iD _) fun _=>rfl))
 ·obtain ⟨fe,fp,ft,fx,fd,Gf⟩:=iD (!bt w)
  cases fd;refine zaa (s9 (s:={s with heap:=s.heap.push (ax (!bt w))}) rfl (zaY hlt) hS fx rfl Gf (fun _=>⟨show (7:Nat)∈bW by decide,rfl⟩) (zae _ hl) hd Go (by simpa using hz) (fun s' Q' _ q=>zad q) fun h' o' d b g S=>zad ?_)
  have hk:∀c u,s.heap.get? c=some u->h'.get? c=some u:=fun c u e=>by
   rw [b.2 c (zan (zah e))];exact zae _ e
  obtain ⟨e4,q4,t4,x4,d4,G4⟩:=S;exact h h' d o' hk g ⟨e4,q4,t4,x4,d4,cq.perm G4 (wI Go.nd)⟩ fun z=>absurd z hxs
theorem gQ {l r:Addr}{ol or:Obj}{xs ys:Th}{Q:Tb}(hl:s.heap.get? l=some ol)(Sl:cC (!bt w) ol xs)(hr:s.heap.get? r=some or)(Sr:cC (!bt w) or ys)(hz:xs.length+ys.length < 128)
  (h:∀h' d o',(∀b o,s.heap.get? b=some o->h'.get? b=some o)->h'.get? s.heap.objs.size=some o'->cC (!bt w) o' (aJ xs ys)->Q (.ref s.heap.objs.size) {s with heap:=h',drawn:=d}) :
  wpAny (model prog w) A (binaryOp .BitOr (.ref l) (.ref r)) Q E s:=by
 have hTl:s.TypeIs (.ref l) "set":=by obtain ⟨_,_,_,hx,_⟩:=Sl;exact ⟨ol,hl,hx.1⟩
 have hTr:s.TypeIs (.ref r) "set":=by obtain ⟨_,_,_,hx,_⟩:=Sr;exact ⟨or,hr,hx.1⟩
 refine wpAny_binaryOp_same hTl hTr F.fills_set_or F.slot_set_or (zaH F.slot_set_or hTl vM ?_ (F.args_set_or_2 _ _))
 refine (show wpAny _ _ (do
  let (self,other) ←Builtin.Frozenset.slot1 "__or__" ⟨[.ref l,.ref r],[]⟩
  if !(←Builtin.Frozenset.isAnySet self <&&> Builtin.Frozenset.isAnySet other) then rule s!"frozenset.{"__or__"}.declined";return ←ret .notImplemented
  ret (←(do
   let result ←Builtin.Frozenset.copyOf (←Builtin.Frozenset.addrOf self)
   if other != .ref l then holding [result] (Builtin.Frozenset.updateFrom s!"frozenset.{"__or__"}" (←Builtin.Frozenset.addrOf result) other)
   return result:Sem Value))) _ _ _ from ?_)
 refine zaa (show wpAny _ _ (pure (Value.ref l,Value.ref r)) _ _ _ from zad ?_);dsimp only;unfold andM;refine zaa (zaa (mw hTl ?_));refine (show wpAny _ _ (Builtin.Frozenset.isAnySet (.ref r)) _ _ _ from mw hTr ?_);simp only [zbf,zap,↓reduceIte];refine zaa ?_;refine zaa (show wpAny _ _ (pure l) _ _ _ from zad ?_);refine zaa (Ea hl Sl (by omega) fun h1 d1 o1 k1 g1 S1 f1=>?_)
 have fin:∀h' d o',(∀b o,s.heap.get? b=some o->h'.get? b=some o)->h'.get? s.heap.objs.size=some o'->cC (!bt w) o' (aJ xs ys) ->
   wpAny (model prog w) A.in1 (pure (Value.ref s.heap.objs.size)) (fun a s'=>wpAny (model prog w) A.in1 (ret a) (fun fin s'=>∃v,fin=Fin.done (Flow.ret v)/\v≠Value.notImplemented/\Q v s') E s') E {s with heap:=h',drawn:=d} :=
  fun h' d o' k g S=>zad (zad ⟨_,rfl,by simp,h h' d o' k g S⟩)
 by_cases hlr:r=l
 ·subst hlr
  rw [if_neg (by simp)];refine fin h1 d1 o1 k1 g1 ?_;rw [hl] at hr;cases hr;obtain ⟨e1,q1,t1,x1,d1',G1⟩:=Sl;obtain ⟨e2,q2,t2,x2,d2,G2⟩:=Sr;rw [d1'] at d2;cases d2;rw [AS fun y hy=>(G1.pm.symm.trans G2.pm).mem_iff.mpr hy];exact S1
 ·rw [if_pos (by simpa using hlr)]
  have hr1:=k1 _ _ hr;have hrl:=zah hr
  have hT1:Shared.TypeIs {s with heap:=h1,drawn:=d1} (.ref r) "set":=by obtain ⟨_,_,_,hx,_⟩:=Sr;exact ⟨or,hr1,hx.1⟩
  refine zaa (show wpAny _ _ (pure s.heap.objs.size) _ _ _ from zad ?_);refine zaa (zaE ?_);unfold Builtin.Frozenset.updateFrom;refine zaa (mw hT1 ?_);simp only [↓reduceIte];refine zaa (show wpAny _ _ (pure r) _ _ _ from zad ?_);unfold Builtin.Frozenset.merge;obtain ⟨eo,eq,to,hxo,hdo,Go⟩:=Sr;refine zaa (wpAny_setEpoch_of hr1 hdo Go.ft ?_)
  have hem:xs=[]->∀e q t,o1.data=.set e q t->t.mask∈bW/\t.dummies = #[]:=fun z e q t ed=>by
   rw [f1 z] at ed;cases ed;exact ⟨show (7:Nat)∈bW by decide,rfl⟩
  obtain ⟨e1,q1,t1,x1,dd1,G1⟩:=S1;refine s9 (s:={s with heap:=h1,drawn:=d1}) rfl (zaY hrl) g1 x1 dd1 G1 (fun z=>hem z _ _ _ dd1) hr1 hdo Go hz (fun s' Q' q' z=>?_) fun h' o' d b g S=>?_
  ·unfold Builtin.Frozenset.unchanged
   refine zaa (wpAny_setEpoch_of q' hdo Go.ft ?_);rw [if_neg (by simp)];exact zad z
  ·refine fin h' d o' (fun c u e=>?_) g S
   rw [b.2 c (zan (zah e))];exact k1 c u e
end
section
variable  {prog:Program}{w:World}{A:Around}{E:Tb}{s:Shared}
set_option maxHeartbeats 3200000 in
theorem CM {l:Addr}{its:Ti}{ns:Th}{Q:Tb}
  (hh:A.handled=none) (hl:s.heap.IsList l its) (hi:IntsAre its.toList ns) (hb:its.size+1 < scanBound)
  (h:∀(h':Heap) (tk:Nat) (o:Obj),h'.get? s.heap.objs.size=some o->cC (!w.params.followText "set-order") o (aJ [] ns) ->
   (∀b o,s.heap.get? b=some o->h'.get? b=some o)->s.toks<=tk->Q (.ref s.heap.objs.size) {s with heap:=h',toks:=tk}) :
  wpAny (model prog w) A (call (.type "set") [.ref l]) Q E s:=by
 obtain ⟨c,tl,hmro⟩:=F.called_set.mro;have hmade:=F.called_set.made;have hsub:=F.called_set.sub;refine zc1 (zb0 (show wpAny _ _ (callAny (.type "set") _) _ _ _ from ?_));refine zad ⟨Code.quiet_builtin _ (by decide +kernel),zaU F.entry_type_call ?_⟩;rw [zch (weight_type_call_type "set" [.ref l] []) rfl];have h1:=F.called_set.notType;have h2:=F.called_set.canCreate;have hct:=F.typeCall_set_1 (.ref l)
 repeat (any_goals (first|assumption|wp_step))
 refine zbg (vb (.ref l) (E:=E) (Q₁:=fun obj s₁=>obj=.ref s.heap.objs.size/\s₁={s with heap:=s.heap.push (ax (!w.params.followText "set-order"))}) ⟨rfl,rfl⟩) fun r s₁ hr=>?_;generalize hled:(!w.params.followText "set-order")=led at *
 cases r with
 |error e=>exact hr
 |ok fl =>
  cases fl with
  |ret obj =>
   obtain ⟨rfl,rfl⟩:=hr;have hS:(s.heap.push (ax led)).get? s.heap.objs.size=some (ax led):=zal _ rfl;have hT:Shared.TypeIs {s with heap:=s.heap.push (ax led)} (.ref s.heap.objs.size) "set":=⟨_,hS,rfl⟩;have hli:=F.called_set.init.lookup;have hbi:=F.called_set.init.bind (.ref s.heap.objs.size)
   repeat (any_goals (first|assumption|wp_step))
   refine zbg (zbM (R:=wants (fun r s₂=>r=.none/\∃h' tk o,s₂={s with heap:=h',toks:=tk}/\h'.get? s.heap.objs.size=some o/\cC led o (aJ [] ns) /\
     (∀b o,s.heap.get? b=some o->h'.get? b=some o)/\s.toks<=tk) E) F.called_set.init.plain F.entry_set_init (check_set_init_1 hT ?_)) fun r₂ s₂ hr₂=>?_
   ·obtain ⟨ol,hol,hcl,nl,hdl⟩:=hl
    obtain ⟨ocls,odict,odata,oslots⟩:=ol;simp only at hcl hdl;subst hcl;subst hdl;have hol':(s.heap.push (ax led)).get? l=some {cls:=.type "list",dict:=odict,data:=.seq its nl,slots:=oslots}:=zae _ hol;have hs1:=F.sub_list_set;have hs2:=F.sub_list_frozenset
    have hne:(Value.type "list" == Value.type "dict")=false:=by decide
    have hl1:(s.heap.push (ax led)).IsList l its:=⟨_,hol',rfl,nl,rfl⟩;unfold Builtin.«set.__init__» noKeywords Builtin.Frozenset.updateFrom;generalize hPI:pyIter=PI
    wp_walk;subst hPI
    refine zb3 hl1 (zaa (zcH ?_));have hlS:l < s.heap.objs.size:=zah hol
    have hh3:A.in1.in1.in1.handled=none:=by simp [hh]
    have hneI:l≠(s.heap.push (ax led)).objs.size:=by rw [zaX];exact zan (zbe hlS)
    have hSf:s.heap.objs.size∉[(s.heap.push (ax led)).objs.size,l]:=by
     rw [zaX];simp only [zak,zaI,or_false,not_or];exact ⟨zan (zb9 _),zaY hlS⟩
    refine mx ((Walks.list hh3 _ l hneI its).toS) s.heap.objs.size hSf (led:=led) ns (by have:=IntsAre.length hi;simpa using this.symm)
     (fun i v hv=>IntsAre.int_at hi i v (by rw [zaS];exact hv)) (its.size - 0) 0 _ (ax led) [] (by omega) (za9 _)
     ⟨⟨_,zal _ rfl,rfl,rfl⟩,(hl1.push _)⟩ (zae _ hS) (iD led) (by simpa using hb) fun s' o' hm ho' hS'=>?_
    obtain ⟨h',g',d',tk',os'⟩:=s';have eg:g'=s.gens:=hm.gens;have ed:d'=s.drawn:=hm.drawn;have eo:os'=s.os:=hm.os;subst eg;subst ed;subst eo;refine (show wpAny _ _ _ _ _ _ from zad (show wpAny _ _ (ret Value.none) _ _ _ from zad ⟨rfl,h',tk',o',rfl,ho',hS',fun b o e=>?_,hm.toks⟩));have hbs:=zah e;refine hm.heap b o ?_ (zae _ (zae _ e));rw [zaX];simp only [zak,zaI,or_false,not_or];exact ⟨zan hbs,zan (zbe hbs)⟩
   ·cases r₂ with
    |error e=>exact hr₂
    |ok fl2 =>
     cases fl2 with
     |ret r =>
      obtain ⟨rfl,h',tk,o,rfl,ho,hS',hk',ht⟩:=hr₂
      repeat (any_goals (first|assumption|wp_step))
      exact h _ _ o ho hS' hk' ht
     |_=>exact hr₂.elim
  |_=>exact hr.elim
end
theorem qN:typeLookup (.type "list") "keys" = pure none:=by rw [zcB,zb1];kernel_rfl
section
variable  {prog:Program}{w:World}{A:Around}{E:Tb}{h:Heap}{g:Array GenState}{d:Drawn}{t:Nat}{os:OsState}{a:Addr}{its:Ti}{n:Nat}
set_option maxHeartbeats 2000000 in
theorem vc {tk:Tok}{Q:Fin->Shared->Prop}(hh:A.handled=none)(hx:h.get? a=some {cls:=.type "list",data:=.seq its n})
  (hq:∀h' tk' e,Heap.NewAttrErr h h' e (.ref a) "keys"->E (.ref e) ⟨h',g,d,tk',os⟩) :
  wpAny (model prog w) A (Builtin.«object.__getattribute__» ⟨[.ref a,.str "keys" tk],[]⟩) Q E ⟨h,g,d,t,os⟩:=by
 have hT:(⟨h,g,d,t,os⟩:Shared).TypeIs (.ref a) "list":=⟨_,hx,rfl⟩;have f4:=qN
 repeat (any_goals (first|assumption|wp_step))
 exact wpAny_raiseAttrError hh hq (attrMsg_fits (by decide +kernel) (by size_fits))
theorem Dy {tk:Tok}{Q:Tb}(hh:A.handled=none)(hx:h.get? a=some {cls:=.type "list",data:=.seq its n})
  (hq:∀h' tk' e,Heap.NewAttrErr h h' e (.ref a) "keys"->E (.ref e) ⟨h',g,d,tk',os⟩) :
  wpAny (model prog w) A (getAttrBy (.ref a) (.str "keys" tk) false) Q E ⟨h,g,d,t,os⟩:=by
 have hT:(⟨h,g,d,t,os⟩:Shared).TypeIs (.ref a) "list":=⟨_,hx,rfl⟩;have f2:=F.slot_list_getattribute.lookup;have f3:=F.slot_list_getattribute.bind (.ref a)
 repeat (any_goals (first|assumption|wp_step))
 refine zbM F.slot_list_getattribute.plain F.entry_list_ga (F.slot_list_getattribute.check _ _ _ _ _ _ _ _ hT (F.args_list_getattribute_2 _ _) ?_);refine vc (show A.in1.handled=none from hh) hx fun h' tk' e hx'=>?_;obtain ⟨t',u',he⟩:=hx'.there;have f1:=sub_AttributeError;have f5:typeLookup (.type "list") "__getattr__" = pure none:=am_miss_of_fast (by kernel_rfl);refine (show wpAny _ _ (getattributeRaised _ _ _ _ _ _ _) _ _ _ from ?_);unfold getattributeRaised
 repeat (any_goals (first|assumption|wp_step))
 exact hq _ _ _ hx'
theorem wG {Q:Option Value->Shared->Prop}(hh:A.handled=none)(hx:h.get? a=some {cls:=.type "list",data:=.seq its n})
  (hq:∀h' tk',(∀c u,h.get? c=some u->h'.get? c=some u)->Q none ⟨h',g,d,tk',os⟩) :
  wpAny (model prog w) A (getAttr? (.ref a) "keys") Q E ⟨h,g,d,t,os⟩:=by
 unfold getAttr? getAttrBy?;refine zaa (wpAny_mkText (zaa (zbQ (Dy hh hx fun h' tk' e hx'=>?_))));obtain ⟨t',u',he⟩:=hx'.there;exact zaa (zbw (T:="AttributeError") ⟨_,he,rfl⟩ sub_AttributeError (zad (hq _ _ hx'.keeps)))
end
theorem fu:entryFor table "dict.update.loop" = some Builtin.«dict.update.loop»:=entryFor_of_tree (by kernel_rfl)
theorem bQ:plainId "dict.update.loop" = true:=by decide +kernel
section
variable  {prog:Program}{w:World}{A:Around}{R:Result->Shared->Prop}{I:Addr}{fp wr:Tf}{n:Nat}{P:Nat->Value->Prop}{St:Nat->Heap->Prop}
structure gd (h:Heap)(v key val:Value):Prop where
 ex:∃a o c,v=.ref a/\h.get? a=some o/\o.cls=.type "tuple"/\o.data=.seq #[key,val] c
theorem gd.keep {h h':Heap}{v key val:Value}(p:gd h v key val)(k:∀a o,v=.ref a->h.get? a=some o->h'.get? a=some o):gd h' v key val:=by
 obtain ⟨a,o,c,rfl,h1,h2,h3⟩:=p.ex;exact ⟨a,o,c,rfl,k a o rfl h1,h2,h3⟩
def putAll {K:Type}[DecidableEq K](kvs:List (K×Value))(ps:List (K×Value)):List (K×Value):=ps.foldl (fun a p=>stored a p.1 p.2) kvs
theorem yF {K:Type}[DecidableEq K]{knd:KeyKind prog w K}(W:Walks prog w A.in1 I fp wr n P St)(S:Addr)(hSf:S∉fp)(ps:List (K×Value))(hps:ps.length=n)(h₀:Heap)
  (hP:∀i v,P i v->∃k x key,ps[i]?=some (k,x)/\knd.is k key=true/\gd h₀ v key x/\∀a,v=.ref a->a≠S/\a∉wr) :
  ∀(k i:Nat) (s:Shared) (c:Int) (kvs:List (K×Value)),n - i=k->i<=n->St i s.heap->(∀b o,b≠S->b∉wr->h₀.get? b=some o->s.heap.get? b=some o)->s.heap.DictOf knd S kvs->kvs.length+k<=sizeLine ->
   (∀h' tk,(∀b o,b≠S->b∉wr->s.heap.get? b=some o->h'.get? b=some o)->s.toks<=tk\/True->h'.DictOf knd S (putAll kvs (ps.drop i))->R (.ok (.ret .none)) {s with heap:=h',toks:=tk}) ->
   codeAny (model prog w) A (.builtin "dict.update.loop" ⟨[.ref S,.ref I,.int c 0,.none],[]⟩) R s:=by
 have nw:S∉wr:=fun h=>hSf (W.sub _ h);intro k
 induction k with
 |zero =>
  intro i s c kvs hk hi hst h0 hS hb hR
  have hin:i=n:=by omega
  subst hin;refine zaU fu ?_;rw [zaV bQ _];refine (show wpAny _ A.in1 (pyNext (.ref I) >>= _) _ _ s from zaa (W.done s _ _ hst fun h' tk hk'=>?_));refine (show wpAny _ A.in1 (do Builtin.Dict.addKeywords S [];ret Value.none) _ _ _ from zaa (show wpAny _ _ (pure ()) _ _ _ from zad (zad ?_)));refine hR h' tk (fun b o _ hb e=>hk' b o hb e) (.inr trivial) ?_;rw [zcO (by omega)];obtain ⟨o,es,ep,ho,r⟩:=hS;exact ⟨o,es,ep,hk' S o nw ho,r⟩
 |succ k ih =>
  intro i s c kvs hk hi hst h0 hS hb hR
  have hlt:i < n:=by omega
  refine zaU fu ?_;rw [zaV bQ _];refine (show wpAny _ A.in1 (pyNext (.ref I) >>= _) _ _ s from zaa (W.item i s _ _ hlt hst fun v h1 tk1 hPv hst1 hk1=>?_));obtain ⟨kk,x,key,hpi,hkey,hpair,hap⟩:=hP i v hPv;have hpair1:gd h1 v key x:=hpair.keep fun a o e q=>hk1 a o (hap a e).2 (h0 a o (hap a e).1 (hap a e).2 q);obtain ⟨a,o,cc,rfl,ho,hc,hd⟩:=hpair1.ex
  have hS1:h1.DictOf knd S kvs:=by
   obtain ⟨o,es,ep,ho,r⟩:=hS;exact ⟨o,es,ep,hk1 S o nw ho,r⟩
  refine zaa (zaE (zaa (wpAny_tryCatch ?_)));unfold Builtin.Dict.pairItems;refine zaa (zbs (T:="tuple") ⟨o,ho,hc⟩ ?_);rw [if_pos (by decide)];refine zaa (zcr ho hd (zad ?_));refine (show wpAny _ _ (holding [key,x] (dictSet S key x)) _ _ _ from zaE (wpAny_dictSet_pairs (s:={s with heap:=h1,toks:=tk1}) hkey hS1 (fun h2 hS2 hsb=>?_) (by omega)))
  have hdrop:ps.drop i=(kk,x)::ps.drop (i+1):=by
   obtain ⟨hl,e⟩:=zaw.mp hpi;rw [zbi hl,e]
  have hlen:(stored kvs kk x).length<=kvs.length+1:=stored_length_le kvs kk x;refine zad ⟨zbk bQ _,ih (i+1) {s with heap:=h2,toks:=tk1+1} (c+1) _ (by omega) hlt (W.frame _ h1 _ hst1 fun b hb o e=>?_) (fun b o n1 n2 e=>?_) hS2 (by omega) fun h' tk' hk' ht hD=>?_⟩
  ·rw [hsb.2 b (fun h:b=S=>hSf (h ▸ hb))];exact e
  ·rw [hsb.2 b n1];exact hk1 b o n2 (h0 b o n1 n2 e)
  ·refine hR h' tk' (fun b o n1 n2 e=>hk' b o n1 n2 ?_) (.inr trivial) (by rw [hdrop];exact hD)
   show h2.get? b=some o
   rw [hsb.2 b n1];exact hk1 b o n2 e
end
theorem AR:mroOf (.type "dict")=pure [.type "dict",.type "object"]:=by rw [mroOf_type];kernel_rfl
theorem qL:typeLookup (.type "dict") "__new__" = pure (some (.builtin "dict.__new__")):=by rw [zcB,zb1];kernel_rfl
theorem sj:Slot "dict" "__init__" "dict.__init__":=by
 refine .of (owner:="dict") (n:="__init__") ?_ (by decide +kernel) (by decide +kernel) (by decide +kernel) ?_ ?_
 ·rw [zcB,zb1];kernel_rfl
 ·first|exact .inl (by decide +kernel)|exact .inr (by decide +kernel)
 ·rw [isSubtype_type];kernel_rfl
theorem bE:TypeCalled "dict" "dict.__new__" "dict.__init__" :=
 ⟨by decide +kernel,by decide +kernel,⟨_,_,AR⟩,madeBy_type AR qL (by decide +kernel),by decide +kernel,by rw [isSubtype_type];kernel_rfl,sj⟩
theorem nF (a:Value):checkTypeCall "dict" ⟨[a],[]⟩=pure ():=by kernel_rfl
theorem yf (a:Value):checkBuiltinCall "dict.__new__" ⟨[.type "dict",a],[]⟩=pure ():=by kernel_rfl
theorem t0:entryFor table "dict.__new__" = some Builtin.«dict.__new__»:=entryFor_of_tree (by kernel_rfl)
theorem mB:plainId "dict.__new__" = true:=by decide +kernel
theorem lF:entryFor table "dict.__init__" = some Builtin.«dict.__init__»:=entryFor_of_tree (by kernel_rfl)
theorem nJ:isSubtype (.type "dict") (.type "dict")=pure true:=by rw [isSubtype_type];kernel_rfl
theorem tu:builtinKind "dict.__init__" = some .slot:=by kernel_rfl
theorem qu:splitId "dict.__init__" = some ("dict","__init__"):=by kernel_rfl
theorem uW:Manifest.signature? "dict.__init__" = some ⟨.positional,"dict","dict",.self,[⟨"other",.posOnly,false⟩,⟨"kwargs",.varKw,false⟩]⟩:=by kernel_rfl
section
variable  {prog:Program}{w:World}{A:Around}{E:Tb}{s:Shared}
abbrev bp:Obj:={cls:=.type "dict",dict:=none,data:=.dict #[]}
theorem ub (a:Value){Q₁:Tb}(h:Q₁ (.ref s.heap.objs.size) {s with heap:=s.heap.push bp}) :
  codeAny (model prog w) A (.call (.builtin "dict.__new__") ⟨[.type "dict",a],[]⟩) (wants Q₁ E) s:=by
 refine zb0 (show wpAny _ A.in1 (do checkBuiltinCall "dict.__new__" ⟨[.type "dict",a],[]⟩;again (.builtin "dict.__new__" ⟨[.type "dict",a],[]⟩)) _ _ s from ?_);refine zaa (zda (yf a) (zad ⟨zbk mB _,zaU t0 ?_⟩));rw [zaV mB _];have hsub:=nJ;have hmro:=AR;unfold Builtin.«dict.__new__»;obtain ⟨hp,g,d,tk,os⟩:=s;dsimp only
 repeat (any_goals (first|assumption|wp_step))
theorem lG {M:Model}{self a:Value}{Q:Unit->Shared->Prop}(hT:s.TypeIs self "dict")(hQ:Q () s) :
  wpAny M A (checkBuiltinCall "dict.__init__" ⟨[self,a],[]⟩) Q E s:=by
 simp only [checkBuiltinCall,tu,qu,uW];refine zaa (zbw hT nJ ?_);simp only [zbf,zap,if_false];unfold Bind.checkArgs;dsimp only;refine zaa (m:=Bind.printed "dict" true _ _) (PyProof.Rows.printed_name (by decide) ?_);refine zaa (m:=Bind.printed "dict" false _ _) (PyProof.Rows.printed_name (by decide) ?_)
 have hrn:(Manifest.Receiver.self == Manifest.Receiver.none)=false:=by decide
 have hn:(if (Manifest.Receiver.self == Manifest.Receiver.none)=true then [self,a].length else [self,a].length - 1)=1:=by simp [hrn]
 rw [hn];simp only [za6]
 have hc:Bind.check ⟨.positional,"dict","dict",.self,[⟨"other",.posOnly,false⟩,⟨"kwargs",.varKw,false⟩]⟩ "dict" "dict" 1 []=pure ():=by kernel_rfl
 rw [hc];exact wpAny_onRaise (zad hQ)
set_option maxHeartbeats 3200000 in
theorem BV {K:Type}[DecidableEq K]{knd:KeyKind prog w K}{l:Addr}{its:Ti}{c:Nat}{ps:List (K×Value)}{Q:Tb}
  (hh:A.handled=none) (hl:s.heap.get? l=some {cls:=.type "list",data:=.seq its c}) (hps:ps.length=its.size) (hz:its.size<=sizeLine)
  (hP:∀(i:Nat) v,its[i]?=some v->∃k x key,ps[i]?=some (k,x)/\knd.is k key=true/\gd s.heap v key x)
  (h:∀(h':Heap) (tk:Nat),h'.DictOf knd s.heap.objs.size (putAll [] ps)->(∀b o,s.heap.get? b=some o->h'.get? b=some o)->Q (.ref s.heap.objs.size) {s with heap:=h',toks:=tk}) :
  wpAny (model prog w) A (call (.type "dict") [.ref l]) Q E s:=by
 obtain ⟨cc,tl,hmro⟩:=bE.mro;have hmade:=bE.made;have hsub:=bE.sub;refine zc1 (zb0 (show wpAny _ _ (callAny (.type "dict") _) _ _ _ from ?_));refine zad ⟨Code.quiet_builtin _ (by decide +kernel),zaU F.entry_type_call ?_⟩;rw [zch (weight_type_call_type "dict" [.ref l] []) rfl];have h1:=bE.notType;have h2:=bE.canCreate;have hct:=nF (.ref l)
 repeat (any_goals (first|assumption|wp_step))
 refine zbg (ub (.ref l) (E:=E) (Q₁:=fun obj s₁=>obj=.ref s.heap.objs.size/\s₁={s with heap:=s.heap.push bp}) ⟨rfl,rfl⟩) fun r s₁ hr=>?_
 cases r with
 |error e=>exact hr
 |ok fl =>
  cases fl with
  |ret obj =>
   obtain ⟨rfl,rfl⟩:=hr;have hS:(s.heap.push bp).get? s.heap.objs.size=some bp:=zal _ rfl;have hT:Shared.TypeIs {s with heap:=s.heap.push bp} (.ref s.heap.objs.size) "dict":=⟨_,hS,rfl⟩;have hli:=bE.init.lookup;have hbi:=bE.init.bind (.ref s.heap.objs.size)
   repeat (any_goals (first|assumption|wp_step))
   refine zbg (zbM (R:=wants (fun r s₂=>r=.none/\∃h' tk,s₂={s with heap:=h',toks:=tk}/\h'.DictOf knd s.heap.objs.size (putAll [] ps) /\
     (∀b o,s.heap.get? b=some o->h'.get? b=some o)) E) bE.init.plain lF (lG hT ?_)) fun r₂ s₂ hr₂=>?_
   ·have hlS:l < s.heap.objs.size:=zah hl
    have hl1:(s.heap.push bp).get? l=some {cls:=.type "list",data:=.seq its c}:=zae _ hl;have hTl:Shared.TypeIs {s with heap:=s.heap.push bp} (.ref l) "list":=⟨_,hl1,rfl⟩;unfold Builtin.«dict.__init__» Builtin.Dict.selfAndRest Builtin.Dict.notOrdered;refine zaa (zaa ?_);rw [if_pos (by decide)];refine zaa (zbs hT ?_);rw [if_neg (by decide)];refine zad (zaa (show wpAny _ _ (pure s.heap.objs.size) _ _ _ from zad (zad ?_)));refine (show wpAny _ _ (Builtin.Dict.updateFrom "dict.__init__" s.heap.objs.size (.ref l) [] .none) _ _ _ from ?_);unfold Builtin.Dict.updateFrom;refine zaa (zbs hTl ?_);rw [if_pos (by decide)];refine zaa (wG (show A.in1.in1.handled=none from hh) hl1 fun h2 tk2 kp2=>?_);rw [if_pos (show (none:Tg).isNone=true from rfl)];have hl2:=kp2 _ _ hl1;have hS2:=kp2 _ _ hS;have hl3:h2.IsList l its:=⟨_,hl2,rfl,c,rfl⟩;refine zaa (zbY (zaa (zb3 hl3 ?_)));have hlI:l≠h2.objs.size:=zan (zah hl2);have hSI:s.heap.objs.size≠h2.objs.size:=zan (zah hS2)
    have hSf:s.heap.objs.size∉[h2.objs.size,l]:=by
     simp only [zak,zaI,or_false,not_or];exact ⟨hSI,zaY hlS⟩
    have hD0:(h2.push {cls:=.type "list_iterator",data:=.fields #[.ref l,.int 0 0]}).DictOf knd s.heap.objs.size [] :=
     ⟨bp,#[],0,zae _ hS2,⟨rfl,rfl,rfl⟩,rfl,fun e he=>by simp at he,.nil,zcq⟩
    refine zad ⟨zbk bQ _,yF (Walks.list (by simp [hh]) h2.objs.size l hlI its) s.heap.objs.size hSf ps hps s.heap (fun i v hv=>?_) (its.size - 0) 0 _ 0 [] (by omega) (za9 _)
     ⟨⟨_,zal _ rfl,rfl,rfl⟩,hl3.push _⟩ (fun b o _ _ e=>zae _ (kp2 _ _ (zae _ e))) hD0 (by simpa using hz) fun h' tk' hk' _ hD=>?_⟩
    ·obtain ⟨k,x,key,e1,e2,e3⟩:=hP i v hv
     refine ⟨k,x,key,e1,e2,e3,fun a e=>?_⟩;obtain ⟨a',o',c',q1,q2,_,_⟩:=e3.ex;rw [q1] at e;cases e;refine ⟨zan (zah q2),?_⟩;simp only [zak,zaI,or_false];exact zan (zah (kp2 _ _ (zae _ q2)))
    ·refine ⟨rfl,h',tk',rfl,by simpa using hD,fun b o e=>hk' b o (zan (zah e)) ?_ (zae _ (kp2 _ _ (zae _ e)))⟩
     simp only [zak,zaI,or_false];exact zan (zah (kp2 _ _ (zae _ e)))
   ·cases r₂ with
    |error e=>exact hr₂
    |ok fl2 =>
     cases fl2 with
     |ret r =>
      obtain ⟨rfl,h',tk,rfl,hS',hk'⟩:=hr₂
      repeat (any_goals (first|assumption|wp_step))
      exact h _ _ hS' hk'
     |_=>exact hr₂.elim
  |_=>exact hr.elim
end
end HS
namespace L2
open PySem PySem.Spec PyProof.Rows
def jT (H:Hp)(q:Str)(ps:Ti):Prop:=TriplesOk ps.toList/\∀pos cv,codeAmong pos ps.toList=some cv->∃c' oc vs t,cv=.ref c'/\H c'=some (.frz oc (.ext fun _=>True))/\oc.data=.fields vs/\vs[1]?=some (.str q t)
theorem jT.mono {H H':Hp}{q:Str}{ps:Ti}(g:jT H q ps)(k:∀b o u,H b=some (.frz o u)->H' b=some (.frz o u)):jT H' q ps :=
 ⟨g.1,fun pos cv e=>let ⟨c',oc,vs,t,e1,e2,r⟩:=g.2 pos cv e;⟨c',oc,vs,t,e1,k _ _ _ e2,r⟩⟩
structure Ci (x:Str)(caps:Tn)(sc:Scope)(cl:List (Str×Addr)):Prop where
 kind:sc.kind=.function
 co:sc.isCoroutine=false
 gen:sc.isGenerator=false
 nd:(x::caps).Nodup
 par:sc.names.lookup x=some .local
 nocell:∀y∈sc.names,y.2≠.cell
 free:∀y,sc.names.lookup y=some .free->∃c,cl.lookup y=some c
 inj:∀y z c,cl.lookup y=some c->cl.lookup z=some c->y=z
end L2
namespace HW
open PySem L2
inductive D where
 |non|bl (b:Bool)|int (i:Int)|str (x:Str)
 |tup (xs:List D)|fl (xs:List D)|fd (ks:List aV) (ds:List D)|key (ks:Th)
structure Ll where
 qual:Str
 params:Arguments
 body:Expr
 scope:Scope
 x:Str
 caps:Tn
inductive R where
 |v (d:D)|p (n:Nat)|s (b:Bool) (xs:Th)|x (c:Str)|f (L:Ll) (ds:List D)
inductive aG where
 |lst (xs:List D)|fz (xs:List D)|dct (kvs:List (aV×D))|fzd (kvs:List (aV×D))|dr (kvs:List (aV×R))|lr (xs:List R)|dt (kvs:List (Th×D))|tb (P:Nat) (q:Str)|ob (c:Str) (fs:List (Str×R))|tr (xs:List R)|fzr (kvs:List (aV×R))|dtr (kvs:List (Th×R))|fzt (kvs:List (Th×D))
abbrev ab:=List aG
abbrev Lo:=List (Option R)
abbrev FE:=Lo->ab->Option (R×ab)
abbrev FT:=Lo->ab->Option (Bool×ab)
abbrev FA:=Lo->ab->Option (List R×ab)
inductive nq where
 |nx (ρ:Lo) (μ:ab)|rt (d:R) (μ:ab)|bk (ρ:Lo) (μ:ab)|ct (ρ:Lo) (μ:ab)
abbrev FS:=Lo->ab->Option nq
def Ir (K:zac)(H:Hp)(a:Addr)(vs:List V):Prop:=(∃o,H a=some (.frz o (.lst vs)))\/iV K (fun _=>none) a vs
mutual
def ak (K:zac)(H:Hp):D->V->Prop
 |.non,v=>v=.non
 |.bl b,v=>v=.bl b
 |.int i,v=>v=.int i
 |.str x,v=>v=.str x
 |.tup xs,v=>∃a vs,v=.ref a/\eS K H a vs/\RelDs K H xs vs
 |.fl xs,v=>∃a vs,v=.ref a/\Ir K H a vs/\RelDs K H xs vs
 |.fd ks ds,v=>∃a o es,v=.ref a/\H a=some (.frz o (.dK es))/\es.map (·.1)=ks/\RelDs K H ds (es.map (·.2))
 |.key ks,v=>∃a,v=.ref a/\H a=some (.tup (ks.map V.int))
def RelDs (K:zac)(H:Hp):List D->List V->Prop
 |[],vs=>vs=[]
 |x::xs,vs=>∃v r,vs=v::r/\ak K H x v/\RelDs K H xs r
end
structure Er (K:zac)(H:Hp)(L:Ll)(ds:List D)(a:Addr)(cl:List (Str×Addr))(pm ctv:Value)(c':Addr):Prop where
 fn:H a=some (.frz (PySem.W.kla_obj "<lambda>" L.qual L.params L.body L.scope cl pm c' ctv) (.ext fun _=>True))
 code:∃oc vs t,H c'=some (.frz oc (.ext fun _=>True))/\oc.data=.fields vs/\vs[1]?=some (.str L.qual t)
 len:ds.length=L.caps.length
 cell:∀y c,cl.lookup y=some c->∃z o,H c=some (.frz o (.ext fun _=>True))/\o.data=.cell z
 cap:∀(i:Nat) y d,L.caps[i]?=some y->ds[i]?=some d->∃c o u vy,L.scope.names.lookup y=some .free/\cl.lookup y=some c/\H c=some (.frz o (.ext fun _=>True))/\o.data=.cell (some u)/\aY vy u/\ak K H d vy
 sc:Ci L.x L.caps L.scope cl
def ap (K:zac)(m:Tf)(H:Hp):R->V->Prop
 |.v d,v=>ak K H d v
 |.p n,v=>∃a,v=.ref a/\m[n]?=some a
 |.s b xs,v=>∃a o,v=.ref a/\H a=some (.frz o (.ext fun _=>True))/\HS.cC b o xs
 |.x c,v=>∃a vs C,v=.ref a/\H a=some (.frz {cls:=.ref C,dict:=none,data:=.fields vs,slots:=#[]} (.ext fun _=>True))/\PySem.W.nsIn K mainGlobals c=some (some (.ref C))
 |.f L ds,v=>∃a cl pm ctv c',v=.ref a/\Er K H L ds a cl pm ctv c'
def bn (K:zac)(m:Tf)(H:Hp):List R->List V->Prop
 |[],vs=>vs=[]
 |x::xs,vs=>∃v r,vs=v::r/\ap K m H x v/\bn K m H xs r
def gf (K:zac)(m:Tf)(H:Hp):aG->Addr->Prop
 |.lst xs,a=>∃vs,H a=some (.lst vs)/\RelDs K H xs vs
 |.fz xs,a=>∃o vs,H a=some (.frz o (.lst vs))/\RelDs K H xs vs
 |.dct kvs,a=>∃es,H a=some (.dK es)/\es.map (·.1)=kvs.map (·.1)/\RelDs K H (kvs.map (·.2)) (es.map (·.2))
 |.fzd kvs,a=>∃o es,H a=some (.frz o (.dK es))/\es.map (·.1)=kvs.map (·.1)/\RelDs K H (kvs.map (·.2)) (es.map (·.2))
 |.dr kvs,a=>∃es,H a=some (.dK es)/\es.map (·.1)=kvs.map (·.1)/\bn K m H (kvs.map (·.2)) (es.map (·.2))
 |.lr xs,a=>∃vs,H a=some (.lst vs)/\bn K m H xs vs
 |.tb P q,a=>a=P/\∃ps,H P=some (.tbl ps)/\jT H q ps
 |.ob c fs,a=>∃C dx es,PySem.W.nsIn K mainGlobals c=some (some (.ref C))/\H a=some (.ins C dx es)/\es.map (·.1)=fs.map (·.1)/\bn K m H (fs.map (·.2)) (es.map (·.2))
 |.tr xs,a=>∃vs,H a=some (.tup vs)/\bn K m H xs vs
 |.fzr kvs,a=>∃o es,H a=some (.frz o (.dK es))/\es.map (·.1)=kvs.map (·.1)/\bn K m H (kvs.map (·.2)) (es.map (·.2))
 |.dtr kvs,a=>∃es,H a=some (.dT es)/\es.map (·.1)=kvs.map (fun p=>p.1.map Sum.inl)/\bn K m H (kvs.map (·.2)) (es.map (·.2))
 |.dt kvs,a=>∃es,H a=some (.dT es)/\es.map (·.1)=kvs.map (fun p=>p.1.map Sum.inl)/\RelDs K H (kvs.map (·.2)) (es.map (·.2))
 |.fzt kvs,a=>∃o es,H a=some (.frz o (.dT es))/\es.map (·.1)=kvs.map (fun p=>p.1.map Sum.inl)/\RelDs K H (kvs.map (·.2)) (es.map (·.2))
structure aP (K:zac)(m:Tf)(H:Hp)(μ:ab):Prop where
 nd:m.Nodup
 len:m.length=μ.length
 cell:∀(i:Nat) c a,μ[i]?=some c->m[i]?=some a->gf K m H c a
structure TF (H H':Hp):Prop where
 tup:∀a xs,H a=some (.tup xs)->H' a=some (.tup xs)
 frz:∀a o u,H a=some (.frz o u)->H' a=some (.frz o u)
structure d6 (m:Tf)(H:Hp)(m':Tf)(H':Hp):Prop where
 ext:∃e,m'=m++e/\∀a∈e,H a=none
 tf:TF H H'
 keep:∀a o,H a=some o->a∉m->H' a=some o
 live:∀a,H' a=none->H a=none
def dH (K:zac)(m:Tf)(H:Hp)(ρ:Lo)(σ:St):Prop :=
 ρ.length=σ.length/\∀(i:Nat) d,ρ[i]?=some (some d)->∃v,σ[i]?=some (some v)/\ap K m H d v
section
variable  {K:zac}{m m' m1 m2:Tf}{H H' H1 H2:Hp}{μ μ':ab}{ρ:Lo}{σ:St}
theorem TF.refl:TF H H:=⟨fun _ _ h=>h,fun _ _ _ h=>h⟩
theorem TF.trans (a:TF H H1)(b:TF H1 H2):TF H H2:=⟨fun _ _ h=>b.tup _ _ (a.tup _ _ h),fun _ _ _ h=>b.frz _ _ _ (a.frz _ _ _ h)⟩
theorem TF.of (h:∀a o,H a=some o->H' a=some o):TF H H':=⟨fun _ _ e=>h _ _ e,fun _ _ _ e=>h _ _ e⟩
theorem eS.tf {a vs}(t:TF H H')(h:eS K H a vs):eS K H' a vs:=by
 rcases h with (h|⟨o,h⟩)|h
 ·exact .inl (.inl (t.tup _ _ h))
 ·exact .inl (.inr ⟨o,t.frz _ _ _ h⟩)
 ·exact .inr h
theorem Ir.tf {a vs}(t:TF H H')(h:Ir K H a vs):Ir K H' a vs:=by
 rcases h with ⟨o,h⟩|h
 ·exact .inl ⟨o,t.frz _ _ _ h⟩
 ·exact .inr h
theorem Ir.sq {a vs}(h:Ir K H a vs):iV K H a vs:=by
 rcases h with ⟨o,h⟩|(h|⟨_,h⟩)|h
 ·exact .inl (.inr ⟨o,h⟩)
 ·cases h
 ·cases h
 ·exact .inr h
mutual
theorem ak.tf (t:TF H H'):∀(d:D) (v:V),ak K H d v->ak K H' d v
 |.non,_,h=>by simpa only [ak] using h
 |.bl _,_,h=>by simpa only [ak] using h
 |.int _,_,h=>by simpa only [ak] using h
 |.str _,_,h=>by simpa only [ak] using h
 |.tup xs,v,h=>by
  simp only [ak] at h ⊢;obtain ⟨a,vs,e,s,r⟩:=h;exact ⟨a,vs,e,eS.tf t s,RelDs.tf t xs vs r⟩
 |.fl xs,v,h=>by
  simp only [ak] at h ⊢;obtain ⟨a,vs,e,s,r⟩:=h;exact ⟨a,vs,e,s.tf t,RelDs.tf t xs vs r⟩
 |.fd ks ds,v,h=>by
  simp only [ak] at h ⊢;obtain ⟨a,o,es,e,s,k,r⟩:=h;exact ⟨a,o,es,e,t.frz _ _ _ s,k,RelDs.tf t ds _ r⟩
 |.key ks,v,h=>by
  simp only [ak] at h ⊢;obtain ⟨a,e,q⟩:=h;exact ⟨a,e,t.tup _ _ q⟩
theorem RelDs.tf (t:TF H H'):∀(ds:List D) (vs:List V),RelDs K H ds vs->RelDs K H' ds vs
 |[],_,h=>by simpa only [RelDs] using h
 |d::ds,vs,h=>by
  simp only [RelDs] at h ⊢;obtain ⟨v,r,e,h1,h2⟩:=h;exact ⟨v,r,e,ak.tf t d v h1,RelDs.tf t ds r h2⟩
end
theorem Er.tf {L ds a cl pm ctv c'}(t:TF H H')(h:Er K H L ds a cl pm ctv c'):Er K H' L ds a cl pm ctv c':=by
 refine ⟨t.frz _ _ _ h.fn,?_,h.len,fun y c e=>?_,fun i y d e1 e2=>?_,h.sc⟩
 ·obtain ⟨oc,vs,u,e,r⟩:=h.code;exact ⟨oc,vs,u,t.frz _ _ _ e,r⟩
 ·obtain ⟨z,o,q,r⟩:=h.cell y c e;exact ⟨z,o,t.frz _ _ _ q,r⟩
 ·obtain ⟨c,o,u,vy,k1,k2,k3,k4,k5,k6⟩:=h.cap i y d e1 e2;exact ⟨c,o,u,vy,k1,k2,t.frz _ _ _ k3,k4,k5,ak.tf t _ _ k6⟩
theorem d6.refl:d6 m H m H:=⟨⟨[],by simp⟩,.refl,fun _ _ h _=>h,fun _ h=>h⟩
theorem d6.trans (x:d6 m H m1 H1)(y:d6 m1 H1 m2 H2):d6 m H m2 H2:=by
 obtain ⟨e1,rfl,f1⟩:=x.ext;obtain ⟨e2,rfl,f2⟩:=y.ext;refine ⟨⟨e1++e2,by simp,fun a ha=>?_⟩,x.tf.trans y.tf,fun a o h n=>?_,fun a h=>x.live a (y.live a h)⟩
 ·rcases zaL.mp ha with h|h
  ·exact f1 a h
  ·exact x.live a (f2 a h)
 ·refine y.keep a o (x.keep a o h n) fun z=>?_
  rcases zaL.mp z with z|z
  ·exact n z
  ·rw [f1 a z] at h;cases h
theorem ap.ext (x:d6 m H m' H'){d:R}{v:V}(h:ap K m H d v):ap K m' H' d v:=by
 cases d with
 |v d=>exact ak.tf x.tf d v h
 |p n =>
  obtain ⟨a,e,q⟩:=h;obtain ⟨e1,rfl,_⟩:=x.ext;refine ⟨a,e,?_⟩;obtain ⟨hl,hq⟩:=zaw.mp q;rw [zaq hl];exact q
 |s b xs =>
  obtain ⟨a,o,e,q,r⟩:=h;exact ⟨a,o,e,x.tf.frz _ _ _ q,r⟩
 |x c =>
  obtain ⟨a,vs,C,e,q,r⟩:=h;exact ⟨a,vs,C,e,x.tf.frz _ _ _ q,r⟩
 |f L ds =>
  obtain ⟨a,cl,pm,ctv,c',e,q⟩:=h;exact ⟨a,cl,pm,ctv,c',e,q.tf x.tf⟩
theorem bn.ext (x:d6 m H m' H'):∀{ds:List R} {vs:List V},bn K m H ds vs->bn K m' H' ds vs
 |[],_,h=>h
 |_::_,_,⟨v,r,e,h1,h2⟩=>⟨v,r,e,h1.ext x,bn.ext x h2⟩
theorem dH.ext (x:d6 m H m' H')(h:dH K m H ρ σ):dH K m' H' ρ σ :=
 ⟨h.1,fun i d e=>let ⟨v,q,r⟩:=h.2 i d e;⟨v,q,r.ext x⟩⟩
theorem ap.tfm (t:TF H H')(y:∃e,m'=m++e){d:R}{v:V}(h:ap K m H d v):ap K m' H' d v:=by
 cases d with
 |v d=>exact ak.tf t d v h
 |p n =>
  obtain ⟨a,e,q⟩:=h;obtain ⟨e1,rfl⟩:=y;refine ⟨a,e,?_⟩;obtain ⟨hl,hq⟩:=zaw.mp q;rw [zaq hl];exact q
 |s b xs =>
  obtain ⟨a,o,e,q,r⟩:=h;exact ⟨a,o,e,t.frz _ _ _ q,r⟩
 |x c =>
  obtain ⟨a,vs,C,e,q,r⟩:=h;exact ⟨a,vs,C,e,t.frz _ _ _ q,r⟩
 |f L ds =>
  obtain ⟨a,cl,pm,ctv,c',e,q⟩:=h;exact ⟨a,cl,pm,ctv,c',e,q.tf t⟩
theorem bn.tfm (t:TF H H')(y:∃e,m'=m++e):∀{ds:List R} {vs:List V},bn K m H ds vs->bn K m' H' ds vs
 |[],_,h=>h
 |_::_,_,⟨v,r,e,h1,h2⟩=>⟨v,r,e,h1.tfm t y,bn.tfm t y h2⟩
theorem gf.same (s:∀a o,H a=some o->H' a=some o)(y:∃e,m'=m++e){c:aG}{a:Addr}(h:gf K m H c a):gf K m' H' c a:=by
 cases c with
 |lst xs=>obtain ⟨vs,e,r⟩:=h;exact ⟨vs,s _ _ e,RelDs.tf (.of s) _ _ r⟩
 |fz xs=>obtain ⟨o,vs,e,r⟩:=h;exact ⟨o,vs,s _ _ e,RelDs.tf (.of s) _ _ r⟩
 |dct kvs=>obtain ⟨es,e,k,r⟩:=h;exact ⟨es,s _ _ e,k,RelDs.tf (.of s) _ _ r⟩
 |fzd kvs=>obtain ⟨o,es,e,k,r⟩:=h;exact ⟨o,es,s _ _ e,k,RelDs.tf (.of s) _ _ r⟩
 |fzt kvs=>obtain ⟨o,es,e,k,r⟩:=h;exact ⟨o,es,s _ _ e,k,RelDs.tf (.of s) _ _ r⟩
 |dr kvs=>obtain ⟨es,e,k,r⟩:=h;exact ⟨es,s _ _ e,k,bn.tfm (.of s) y r⟩
 |lr xs=>obtain ⟨vs,e,r⟩:=h;exact ⟨vs,s _ _ e,bn.tfm (.of s) y r⟩
 |dt kvs=>obtain ⟨es,e,k,r⟩:=h;exact ⟨es,s _ _ e,k,RelDs.tf (.of s) _ _ r⟩
 |tb P q=>obtain ⟨e,ps,k,r⟩:=h;exact ⟨e,ps,s _ _ k,r.mono fun b o u g=>s _ _ g⟩
 |ob c fs=>obtain ⟨C,dx,es,n,e,k,r⟩:=h;exact ⟨C,dx,es,n,s _ _ e,k,bn.tfm (.of s) y r⟩
 |tr xs=>obtain ⟨vs,e,r⟩:=h;exact ⟨vs,s _ _ e,bn.tfm (.of s) y r⟩
 |fzr kvs=>obtain ⟨o,es,e,k,r⟩:=h;exact ⟨o,es,s _ _ e,k,bn.tfm (.of s) y r⟩
 |dtr kvs=>obtain ⟨es,e,k,r⟩:=h;exact ⟨es,s _ _ e,k,bn.tfm (.of s) y r⟩
theorem gf.some {c:aG}{a:Addr}(h:gf K m H c a):∃o,H a=some o:=by
 cases c with
 |lst xs=>obtain ⟨vs,e,r⟩:=h;exact ⟨_,e⟩
 |fz xs=>obtain ⟨o,vs,e,r⟩:=h;exact ⟨_,e⟩
 |dct kvs=>obtain ⟨es,e,k,r⟩:=h;exact ⟨_,e⟩
 |fzd kvs=>obtain ⟨o,es,e,k,r⟩:=h;exact ⟨_,e⟩
 |fzt kvs=>obtain ⟨o,es,e,k,r⟩:=h;exact ⟨_,e⟩
 |dr kvs=>obtain ⟨es,e,k,r⟩:=h;exact ⟨_,e⟩
 |lr xs=>obtain ⟨vs,e,r⟩:=h;exact ⟨_,e⟩
 |dt kvs=>obtain ⟨es,e,k,r⟩:=h;exact ⟨_,e⟩
 |tb P q=>obtain ⟨e,ps,k,r⟩:=h;exact ⟨_,e ▸ k⟩
 |ob c fs=>obtain ⟨C,dx,es,n,e,k,r⟩:=h;exact ⟨_,e⟩
 |tr xs=>obtain ⟨vs,e,r⟩:=h;exact ⟨_,e⟩
 |fzr kvs=>obtain ⟨o,es,e,k,r⟩:=h;exact ⟨_,e⟩
 |dtr kvs=>obtain ⟨es,e,k,r⟩:=h;exact ⟨_,e⟩
theorem aP.same (h:aP K m H μ)(s:∀a o,H a=some o->H' a=some o):aP K m H' μ :=
 ⟨h.nd,h.len,fun i c a e1 e2=>(h.cell i c a e1 e2).same s ⟨[],by simp⟩⟩
theorem aP.mem (h:aP K m H μ){a:Addr}(ha:a∈m):∃o,H a=some o:=by
 obtain ⟨i,hi,e⟩:=zbt ha
 have hi':i < μ.length:=by rw [←h.len];exact hi
 exact (h.cell i μ[i] a (zar hi') (by rw [←e];exact zar hi)).some
theorem aP.fresh (h:aP K m H μ){p:Addr}(hp:H p=none):p∉m:=fun z=>by
 obtain ⟨o,e⟩:=h.mem z;rw [hp] at e;cases e
theorem aP.nil:aP K [] H []:=⟨.nil,rfl,fun i c a e=>by simp at e⟩
theorem cu {p:Addr}{o:HO}(hp:H p=none):∀a u,H a=some u->upd H p o a=some u:=fun a u e=>by
 unfold upd;rw [if_neg (fun z=>by rw [z,hp] at e;cases e)];exact e
theorem nA {p:Addr}{o:HO}{a:Addr}(h:upd H p o a=none):H a=none:=by
 unfold upd at h;split at h
 ·cases h
 ·exact h
theorem b8 {p:Addr}{o:HO}:upd H p o p=some o:=by unfold upd;rw [if_pos rfl]
theorem d6.new {p:Addr}{o:HO}(hp:H p=none):d6 m H m (upd H p o) :=
 ⟨⟨[],by simp⟩,.of (cu hp),fun a u e _=>cu hp a u e,fun _ h=>nA h⟩
theorem d6.newH {p:Addr}{o:HO}(hp:H p=none):d6 m H (m++[p]) (upd H p o) :=
 ⟨⟨[p],rfl,fun a h=>by rw [zat.mp h];exact hp⟩,.of (cu hp),fun a u e _=>cu hp a u e,fun _ h=>nA h⟩
theorem aP.newH {p:Addr}{o:HO}{c:aG}(h:aP K m H μ)(hp:H p=none)(hc:gf K (m++[p]) (upd H p o) c p):aP K (m++[p]) (upd H p o) (μ++[c]):=by
 refine ⟨?_,by simp [h.len],fun i c' a e1 e2=>?_⟩
 ·refine zbb.mpr ⟨h.nd,by simp,fun a ha b hb=>?_⟩
  rw [zat.mp hb];rintro rfl;exact h.fresh hp ha
 ·by_cases hi:i < m.length
  ·rw [zaq hi] at e2
   rw [zaq (by rw [←h.len];exact hi)] at e1;exact (h.cell i c' a e1 e2).same (cu hp) ⟨[p],rfl⟩
  ·rw [zaT (by omega)] at e2
   rw [zaT (by have:=h.len;omega)] at e1;have hl:=h.len
   have:i - m.length=0:=by
    cases q:i - m.length with
    |zero=>rfl
    |succ k=>rw [q] at e2;simp at e2
   have e3:i - μ.length=0:=by omega
   rw [this] at e2;rw [e3] at e1;simp at e1 e2;subst e1 e2;exact hc
theorem d6.put {a:Addr}{o o':HO}(ha:a∈m)(e:H a=some o)(ho:∀xs,o≠.tup xs)(hf:∀x u,o≠.frz x u):d6 m H m (upd H a o'):=by
 have ne:∀b u,H b=some u->u≠o->b≠a:=fun b u q n z=>by rw [z,e] at q;exact n (Option.some.inj q).symm
 refine ⟨⟨[],by simp⟩,⟨fun b xs q=>?_,fun b x u q=>?_⟩,fun b u q n=>?_,fun b h=>nA h⟩
 ·unfold upd;rw [if_neg (ne b _ q fun z=>ho xs z.symm)];exact q
 ·unfold upd;rw [if_neg (ne b _ q fun z=>hf x u z.symm)];exact q
 ·unfold upd;rw [if_neg (fun z:b=a=>n (by rw [z];exact ha))];exact q
theorem aP.put {n:Nat}{a:Addr}{o o':HO}{c:aG}(h:aP K m H μ)(hn:m[n]?=some a)(e:H a=some o)(ho:∀xs,o≠.tup xs)(hf:∀x u,o≠.frz x u)(hc:gf K m (upd H a o') c a):aP K m (upd H a o') (μ.set n c):=by
 have ha:a∈m:=zaZ hn;have x:d6 m H m (upd H a o'):=.put ha e ho hf;refine ⟨h.nd,by simp [h.len],fun i c' b e1 e2=>?_⟩
 by_cases hi:i=n
 ·subst hi
  rw [hn] at e2;cases e2;rw [zbh (by have:=(zaw.mp hn).1;have:=h.len;omega)] at e1;cases e1;exact hc
 ·rw [zaO (Ne.symm hi)] at e1
  have nb:b≠a:=by
   rintro rfl;obtain ⟨h1,q1⟩:=zaw.mp e2;obtain ⟨h2,q2⟩:=zaw.mp hn;exact hi ((zb5 h.nd).mp (q1.trans q2.symm))
  have at':∀u,H b=some u->upd H a o' b=some u:=fun u q=>by unfold upd;rw [if_neg nb];exact q
  have z:=h.cell i c' b e1 e2
  cases c' with
  |lst xs=>obtain ⟨vs,e,r⟩:=z;exact ⟨vs,at' _ e,RelDs.tf x.tf _ _ r⟩
  |fz xs=>obtain ⟨o,vs,e,r⟩:=z;exact ⟨o,vs,at' _ e,RelDs.tf x.tf _ _ r⟩
  |dct kvs=>obtain ⟨es,e,k,r⟩:=z;exact ⟨es,at' _ e,k,RelDs.tf x.tf _ _ r⟩
  |fzd kvs=>obtain ⟨o,es,e,k,r⟩:=z;exact ⟨o,es,at' _ e,k,RelDs.tf x.tf _ _ r⟩
  |fzt kvs=>obtain ⟨o,es,e,k,r⟩:=z;exact ⟨o,es,at' _ e,k,RelDs.tf x.tf _ _ r⟩
  |dr kvs=>obtain ⟨es,e,k,r⟩:=z;exact ⟨es,at' _ e,k,bn.tfm x.tf ⟨[],by simp⟩ r⟩
  |lr xs=>obtain ⟨vs,e,r⟩:=z;exact ⟨vs,at' _ e,bn.tfm x.tf ⟨[],by simp⟩ r⟩
  |dt kvs=>obtain ⟨es,e,k,r⟩:=z;exact ⟨es,at' _ e,k,RelDs.tf x.tf _ _ r⟩
  |tb P q=>obtain ⟨e,ps,k,r⟩:=z;subst e;exact ⟨rfl,ps,at' _ k,r.mono x.tf.frz⟩
  |ob c fs=>obtain ⟨C,dx,es,n,e,k,r⟩:=z;exact ⟨C,dx,es,n,at' _ e,k,bn.tfm x.tf ⟨[],by simp⟩ r⟩
  |tr xs=>obtain ⟨vs,e,r⟩:=z;exact ⟨vs,at' _ e,bn.tfm x.tf ⟨[],by simp⟩ r⟩
  |fzr kvs=>obtain ⟨o,es,e,k,r⟩:=z;exact ⟨o,es,at' _ e,k,bn.tfm x.tf ⟨[],by simp⟩ r⟩
  |dtr kvs=>obtain ⟨es,e,k,r⟩:=z;exact ⟨es,at' _ e,k,bn.tfm x.tf ⟨[],by simp⟩ r⟩
end
def aw (K:zac)(f:FE):TE:=fun σ H Q=>∃ρ μ m d μ',dH K m H ρ σ/\aP K m H μ/\f ρ μ=some (d,μ') /\
 ∀v H' m',d6 m H m' H'->aP K m' H' μ'->ap K m' H' d v->Q v H'
def eQ (K:zac)(f:FT):TT:=fun σ H Q=>∃ρ μ m b μ',dH K m H ρ σ/\aP K m H μ/\f ρ μ=some (b,μ') /\
 ∀H' m',d6 m H m' H'->aP K m' H' μ'->Q b H'
def ij (K:zac)(f:FA):TA:=fun σ H Q=>∃ρ μ m ds μ',dH K m H ρ σ/\aP K m H μ/\f ρ μ=some (ds,μ') /\
 ∀vs H' m',d6 m H m' H'->aP K m' H' μ'->bn K m' H' ds vs->Q vs H'
def d7.of (K:zac)(m:Tf)(H:Hp)(D:d7):nq->Prop
 |.nx ρ μ=>∀σ H' m',d6 m H m' H'->aP K m' H' μ->dH K m' H' ρ σ->D.nx σ H'
 |.bk ρ μ=>∀σ H' m',d6 m H m' H'->aP K m' H' μ->dH K m' H' ρ σ->D.bk σ H'
 |.ct ρ μ=>∀σ H' m',d6 m H m' H'->aP K m' H' μ->dH K m' H' ρ σ->D.ct σ H'
 |.rt d μ=>∀v H' m',d6 m H m' H'->aP K m' H' μ->ap K m' H' d v->D.rt v H'
def gg (K:zac)(f:FS):TS:=fun D σ H=>∃ρ μ m out,dH K m H ρ σ/\aP K m H μ/\f ρ μ=some out/\d7.of K m H D out
def ad (i:Nat):FE:=fun ρ μ=>match ρ[i]? with|some (some d)=>some (d,μ)|_=>none
def fK (d:D):FE:=fun _ μ=>some (.v d,μ)
def al (g:R->R->ab->Option (R×ab))(fa fb:FE):FE:=fun ρ μ=>(fa ρ μ).bind fun a=>(fb ρ a.2).bind fun b=>g a.1 b.1 b.2
def iE (g:R->ab->Option (R×ab))(fa:FE):FE:=fun ρ μ=>(fa ρ μ).bind fun a=>g a.1 a.2
def pC (K:zac)(g:R->R->ab->Option (R×ab))(r:R2):Prop :=
 ∀m H μ x y d μ' v u Q,aP K m H μ->ap K m H x v->ap K m H y u->g x y μ=some (d,μ')->(∀w H' m',d6 m H m' H'->aP K m' H' μ'->ap K m' H' d w->Q w H')->r v u H Q
def OQ (K:zac)(g:R->ab->Option (R×ab))(r:V->Hp->VK->Prop):Prop :=
 ∀m H μ x d μ' v Q,aP K m H μ->ap K m H x v->g x μ=some (d,μ')->(∀w H' m',d6 m H m' H'->aP K m' H' μ'->ap K m' H' d w->Q w H')->r v H Q
def v4 (K:zac)(g:List R->ab->Option (R×ab))(r:List V->Hp->VK->Prop):Prop :=
 ∀m H μ xs d μ' vs Q,aP K m H μ->bn K m H xs vs->g xs μ=some (d,μ')->(∀w H' m',d6 m H m' H'->aP K m' H' μ'->ap K m' H' d w->Q w H')->r vs H Q
def am:FA:=fun _ μ=>some ([],μ)
def af (fa:FE)(fr:FA):FA:=fun ρ μ=>(fa ρ μ).bind fun a=>(fr ρ a.2).bind fun r=>some (a.1::r.1,r.2)
def fJ (g:List R->ab->Option (R×ab))(fa:FA):FE:=fun ρ μ=>(fa ρ μ).bind fun a=>g a.1 a.2
section
variable  {K:zac}{σ:St}{H:Hp}{Q:VK}
theorem Gc {i:Nat}(h:aw K (ad i) σ H Q):Jp i σ H Q:=by
 obtain ⟨ρ,μ,m,d,μ',hl,hs,e,k⟩:=h;unfold ad at e;split at e
 ·rename_i d' q
  cases e;obtain ⟨v,q1,q2⟩:=hl.2 i _ q;exact ⟨v,q1,k v H m .refl hs q2⟩
 ·cases e
theorem jd {d:D}{v:V}(hv:∀m H,ap K m H (.v d) v)(h:aw K (fK d) σ H Q):tC v σ H Q:=by
 obtain ⟨ρ,μ,m,d',μ',hl,hs,e,k⟩:=h;cases e;exact k v H m .refl hs (hv _ _)
theorem gp {g r fa fb}(hg:pC K g r)(h:aw K (al g fa fb) σ H Q):Iy r (aw K fa) (aw K fb) σ H Q:=by
 obtain ⟨ρ,μ,m,d,μ',hl,hs,e,k⟩:=h;obtain ⟨⟨x,μ1⟩,e1,e⟩:=zab.mp e;obtain ⟨⟨y,μ2⟩,e2,e⟩:=zab.mp e;refine ⟨ρ,μ,m,x,μ1,hl,hs,e1,fun v H1 m1 x1 s1 r1=>?_⟩;refine ⟨ρ,μ1,m1,y,μ2,hl.ext x1,s1,e2,fun u H2 m2 x2 s2 r2=>?_⟩;exact hg m2 H2 μ2 x y d μ' v u Q s2 (r1.ext x2) r2 e fun w H3 m3 x3 s3 r3=>k w H3 m3 ((x1.trans x2).trans x3) s3 r3
theorem JB {g r fa}(hg:OQ K g r)(h:aw K (iE g fa) σ H Q):Ob r (aw K fa) σ H Q:=by
 obtain ⟨ρ,μ,m,d,μ',hl,hs,e,k⟩:=h;obtain ⟨⟨x,μ1⟩,e1,e⟩:=zab.mp e;refine ⟨ρ,μ,m,x,μ1,hl,hs,e1,fun v H1 m1 x1 s1 r1=>?_⟩;exact hg m1 H1 μ1 x d μ' v Q s1 r1 e fun w H3 m3 x3 s3 r3=>k w H3 m3 (x1.trans x3) s3 r3
theorem Gq {Q:List V->Hp->Prop}(h:ij K am σ H Q):zt σ H Q:=by
 obtain ⟨ρ,μ,m,ds,μ',hl,hs,e,k⟩:=h;cases e;exact k [] H m .refl hs rfl
theorem C1 {fa fr}{Q:List V->Hp->Prop}(h:ij K (af fa fr) σ H Q):pG (aw K fa) (ij K fr) σ H Q:=by
 obtain ⟨ρ,μ,m,ds,μ',hl,hs,e,k⟩:=h;obtain ⟨⟨x,μ1⟩,e1,e⟩:=zab.mp e;obtain ⟨⟨xs,μ2⟩,e2,e⟩:=zab.mp e;cases e;refine ⟨ρ,μ,m,x,μ1,hl,hs,e1,fun v H1 m1 x1 s1 r1=>?_⟩;refine ⟨ρ,μ1,m1,xs,μ2,hl.ext x1,s1,e2,fun vs H2 m2 x2 s2 r2=>?_⟩;exact k (v::vs) H2 m2 (x1.trans x2) s2 ⟨v,vs,rfl,r1.ext x2,r2⟩
theorem gW {g r fa}(hg:v4 K g r)(h:aw K (fJ g fa) σ H Q):Iz r (ij K fa) σ H Q:=by
 obtain ⟨ρ,μ,m,d,μ',hl,hs,e,k⟩:=h;obtain ⟨⟨xs,μ1⟩,e1,e⟩:=zab.mp e;refine ⟨ρ,μ,m,xs,μ1,hl,hs,e1,fun vs H1 m1 x1 s1 r1=>?_⟩;exact hg m1 H1 μ1 xs d μ' vs Q s1 r1 e fun w H3 m3 x3 s3 r3=>k w H3 m3 (x1.trans x3) s3 r3
end
def fB (fa:FE):FT:=fun ρ μ=>(fa ρ μ).bind fun a=>match a.1 with|.v (.bl b)=>some (b,a.2)|_=>none
def y9:R->ab->Option Bool
 |.v .non,_=>some false
 |.v (.bl b),_=>some b
 |.v (.int i),_=>some (i != 0)
 |.v (.str x),_=>if x.length<=sizeLine then some ((x.length:Int) != 0) else none
 |.v (.tup xs),_=>some (!xs.isEmpty)
 |.v (.fl xs),_=>some (!xs.isEmpty)
 |.v (.fd _ _),_=>none
 |.v (.key _),_=>none
 |.s _ _,_=>none
 |.x _,_=>none
 |.f _ _,_=>none
 |.p n,μ=>match μ[n]? with|some (.lst xs)=>some (!xs.isEmpty)|some (.fz xs)=>some (!xs.isEmpty)|some (.dct kvs)=>some (!kvs.isEmpty)|_=>none
def d5 (fa:FE):FT:=fun ρ μ=>(fa ρ μ).bind fun a=>(y9 a.1 a.2).bind fun b=>some (b,a.2)
def eT (t u:FT):FT:=fun ρ μ=>(t ρ μ).bind fun c=>if c.1=true then u ρ c.2 else some (false,c.2)
def iZ (t u:FT):FT:=fun ρ μ=>(t ρ μ).bind fun c=>if c.1=true then some (true,c.2) else u ρ c.2
def d8 (t:FT):FT:=fun ρ μ=>(t ρ μ).bind fun c=>some (!c.1,c.2)
def tW (fa fb:FE):FE:=fun ρ μ=>(fa ρ μ).bind fun a=>match a.1 with|.v (.bl c)=>if c=true then fb ρ a.2 else some (.v (.bl false),a.2)|_=>none
def KQ (fa fb:FE):FE:=fun ρ μ=>(fa ρ μ).bind fun a=>match a.1 with|.v (.bl c)=>if c=true then some (.v (.bl true),a.2) else fb ρ a.2|_=>none
def mP (fa:FE):FE:=fun ρ μ=>(fa ρ μ).bind fun a=>match a.1 with|.v (.bl c)=>some (.v (.bl (!c)),a.2)|_=>none
def HJ (t:FT)(fa fb:FE):FE:=fun ρ μ=>(t ρ μ).bind fun c=>if c.1=true then fa ρ c.2 else fb ρ c.2
theorem RelDs.length {K:zac}{H:Hp}:∀{ds:List D} {vs:List V},RelDs K H ds vs->ds.length=vs.length
 |[],_,h=>by simp only [RelDs] at h;subst h;rfl
 |_::_,_,h=>by
  simp only [RelDs] at h;obtain ⟨v,r,rfl,_,h2⟩:=h;simp [RelDs.length h2]
theorem RelDs.empty {K:zac}{H:Hp}{ds:List D}{vs:List V}(h:RelDs K H ds vs):ds.isEmpty=vs.isEmpty:=by
 have:=h.length;cases ds <;> cases vs <;> simp_all
section
variable  {K:zac}{σ:St}{H:Hp}{Q:VK}{B:Bool->Hp->Prop}
theorem Mo {fa}(h:eQ K (fB fa) σ H B):tB (aw K fa) σ H B:=by
 obtain ⟨ρ,μ,m,d,μ',hl,hs,e,k⟩:=h;obtain ⟨⟨x,μ1⟩,e1,e⟩:=zab.mp e;split at e
 ·rename_i b q
  cases e;subst q;exact ⟨ρ,μ,m,_,μ1,hl,hs,e1,fun v H1 m1 x1 s1 r1=>⟨_,by simpa only [ap,ak] using r1,k H1 m1 x1 s1⟩⟩
 ·cases e
theorem wo {fa}(h:eQ K (fB fa) σ H B):EX (aw K fa) σ H B:=Mo h
theorem uQ {m:Tf}{μ:ab}{x:R}{b:Bool}{v:V}(s:aP K m H μ)(r:ap K m H x v)(e:y9 x μ=some b):Ei K v H b:=by
 cases x with
 |v d =>
  cases d with
  |non=>cases e;cases r;rfl
  |bl c=>cases e;simp only [ap,ak] at r;subst r;rfl
  |int i=>cases e;simp only [ap,ak] at r;subst r;rfl
  |str x =>
   simp only [ap,ak] at r;subst r;simp only [y9] at e;split at e
   ·rename_i z;cases e;exact ⟨z,rfl⟩
   ·cases e
  |tup xs =>
   cases e;simp only [ap,ak] at r;obtain ⟨a,vs,rfl,q,r⟩:=r;exact .inr (.inl ⟨vs,q,by rw [r.empty]⟩)
  |fl xs =>
   cases e;simp only [ap,ak] at r;obtain ⟨a,vs,rfl,q,r⟩:=r;exact .inl ⟨vs,q.sq,by rw [r.empty]⟩
  |fd ks ds=>cases e
  |key ks=>cases e
 |s b xs=>cases e
 |x _=>cases e
 |f _ _=>cases e
 |p n =>
  obtain ⟨a,rfl,ha⟩:=r;simp only [y9] at e;split at e
  ·rename_i xs q
   cases e;obtain ⟨vs,e,r⟩:=s.cell n _ a q ha;exact .inl ⟨vs,.inl (.inl e),by rw [r.empty]⟩
  ·rename_i xs q
   cases e;obtain ⟨o,vs,e,r⟩:=s.cell n _ a q ha;exact .inl ⟨vs,.inl (.inr ⟨o,e⟩),by rw [r.empty]⟩
  ·rename_i kvs q
   cases e;obtain ⟨es,e,k,r⟩:=s.cell n _ a q ha;refine .inr (.inr ⟨es,e,?_⟩);have:=congrArg List.length k;cases es <;> cases kvs <;> simp_all
  ·cases e
theorem Gg {fa}(h:eQ K (d5 fa) σ H B):(fun σ H (Q:Bool->Hp->Prop)=>aw K fa σ H fun x H1=>∃k,Ei K x H1 k/\Q k H1) σ H B:=by
 obtain ⟨ρ,μ,m,d,μ',hl,hs,e,k⟩:=h;obtain ⟨⟨x,μ1⟩,e1,e⟩:=zab.mp e;obtain ⟨b,e2,e⟩:=zab.mp e;cases e;exact ⟨ρ,μ,m,x,_,hl,hs,e1,fun v H1 m1 x1 s1 r1=>⟨_,uQ s1 r1 e2,k H1 m1 x1 s1⟩⟩
theorem CU {t u}(h:eQ K (eT t u) σ H B):Jw (eQ K t) (eQ K u) σ H B:=by
 obtain ⟨ρ,μ,m,d,μ',hl,hs,e,k⟩:=h;obtain ⟨⟨c,μ1⟩,e1,e⟩:=zab.mp e;refine ⟨ρ,μ,m,c,μ1,hl,hs,e1,fun H1 m1 x1 s1=>?_⟩
 cases c with
 |true=>exact ⟨ρ,μ1,m1,d,μ',hl.ext x1,s1,e,fun H2 m2 x2 s2=>k H2 m2 (x1.trans x2) s2⟩
 |false=>cases e;exact k H1 m1 x1 s1
theorem Gh {t u}(h:eQ K (iZ t u) σ H B):Od (eQ K t) (eQ K u) σ H B:=by
 obtain ⟨ρ,μ,m,d,μ',hl,hs,e,k⟩:=h;obtain ⟨⟨c,μ1⟩,e1,e⟩:=zab.mp e;refine ⟨ρ,μ,m,c,μ1,hl,hs,e1,fun H1 m1 x1 s1=>?_⟩
 cases c with
 |false=>exact ⟨ρ,μ1,m1,d,μ',hl.ext x1,s1,e,fun H2 m2 x2 s2=>k H2 m2 (x1.trans x2) s2⟩
 |true=>cases e;exact k H1 m1 x1 s1
theorem CT {t}(h:eQ K (d8 t) σ H B):Jt (eQ K t) σ H B:=by
 obtain ⟨ρ,μ,m,d,μ',hl,hs,e,k⟩:=h;obtain ⟨⟨c,μ1⟩,e1,e⟩:=zab.mp e;cases e;exact ⟨ρ,μ,m,c,μ1,hl,hs,e1,fun H1 m1 x1 s1=>k H1 m1 x1 s1⟩
theorem GE {fa fb}(h:aw K (tW fa fb) σ H Q):E3 (aw K fa) (aw K fb) σ H Q:=by
 obtain ⟨ρ,μ,m,d,μ',hl,hs,e,k⟩:=h;obtain ⟨⟨x,μ1⟩,e1,e⟩:=zab.mp e;split at e
 ·rename_i c q
  subst q;refine ⟨ρ,μ,m,_,μ1,hl,hs,e1,fun v H1 m1 x1 s1 r1=>⟨c,by simpa only [ap,ak] using r1,?_⟩⟩
  cases c with
  |true=>exact ⟨ρ,μ1,m1,d,μ',hl.ext x1,s1,e,fun w H2 m2 x2 s2 r2=>k w H2 m2 (x1.trans x2) s2 r2⟩
  |false=>cases e;exact k _ H1 m1 x1 s1 (by simp only [ap,ak])
 ·cases e
theorem JD {fa fb}(h:aw K (KQ fa fb) σ H Q):Js (aw K fa) (aw K fb) σ H Q:=by
 obtain ⟨ρ,μ,m,d,μ',hl,hs,e,k⟩:=h;obtain ⟨⟨x,μ1⟩,e1,e⟩:=zab.mp e;split at e
 ·rename_i c q
  subst q;refine ⟨ρ,μ,m,_,μ1,hl,hs,e1,fun v H1 m1 x1 s1 r1=>⟨c,by simpa only [ap,ak] using r1,?_⟩⟩
  cases c with
  |false=>exact ⟨ρ,μ1,m1,d,μ',hl.ext x1,s1,e,fun w H2 m2 x2 s2 r2=>k w H2 m2 (x1.trans x2) s2 r2⟩
  |true=>cases e;exact k _ H1 m1 x1 s1 (by simp only [ap,ak])
 ·cases e
theorem Gp {fa}(h:aw K (mP fa) σ H Q):EZ (aw K fa) σ H Q:=by
 obtain ⟨ρ,μ,m,d,μ',hl,hs,e,k⟩:=h;obtain ⟨⟨x,μ1⟩,e1,e⟩:=zab.mp e;split at e
 ·rename_i c q
  cases e;subst q;exact ⟨ρ,μ,m,_,μ1,hl,hs,e1,fun v H1 m1 x1 s1 r1=>⟨c,by simpa only [ap,ak] using r1,k _ H1 m1 x1 s1 (by simp only [ap,ak])⟩⟩
 ·cases e
theorem JF {t fa fb}(h:aw K (HJ t fa fb) σ H Q):Oe (eQ K t) (aw K fa) (aw K fb) σ H Q:=by
 obtain ⟨ρ,μ,m,d,μ',hl,hs,e,k⟩:=h;obtain ⟨⟨c,μ1⟩,e1,e⟩:=zab.mp e;refine ⟨ρ,μ,m,c,μ1,hl,hs,e1,fun H1 m1 x1 s1=>?_⟩
 cases c with
 |true=>exact ⟨ρ,μ1,m1,d,μ',hl.ext x1,s1,e,fun w H2 m2 x2 s2 r2=>k w H2 m2 (x1.trans x2) s2 r2⟩
 |false=>exact ⟨ρ,μ1,m1,d,μ',hl.ext x1,s1,e,fun w H2 m2 x2 s2 r2=>k w H2 m2 (x1.trans x2) s2 r2⟩
end
def vals:List R->Option (List D)
 |[]=>some []
 |.v d::r=>(vals r).bind fun ds=>some (d::ds)
 |.p _::_=>none
 |.s _ _::_=>none
 |.x _::_=>none
 |.f _ _::_=>none
theorem iW {K:zac}{m:Tf}{H:Hp}:∀{rs:List R} {ds:List D} {vs:List V},vals rs=some ds->bn K m H rs vs->RelDs K H ds vs
 |[],_,_,e,h=>by cases e;simp only [RelDs];exact h
 |.v d::r,_,_,e,⟨v,vs,rfl,h1,h2⟩=>by
  obtain ⟨ds,e1,e⟩:=zab.mp e;cases e;simp only [RelDs];exact ⟨v,vs,rfl,h1,iW e1 h2⟩
 |.p _::_,_,_,e,_=>by cases e
 |.s _ _::_,_,_,e,_=>by cases e
 |.x _::_,_,_,e,_=>by cases e
 |.f _ _::_,_,_,e,_=>by cases e
def bS (fa:FA):FE:=fun ρ μ=>(fa ρ μ).bind fun a=>(vals a.1).bind fun ds=>if ds.length<=sizeLine then some (.v (.tup ds),a.2) else none
def gk (fa:FA):FE:=fun ρ μ=>(fa ρ μ).bind fun a=>(vals a.1).bind fun ds=>if ds.length<=sizeLine then some (.p a.2.length,a.2++[.lst ds]) else none
section
variable  {K:zac}{m:Tf}{σ:St}{H:Hp}{Q:VK}{μ:ab}
theorem im {ds:List D}{vs:List V}{p:Addr}(s:aP K m H μ)(r:RelDs K H ds vs)(hp:H p=none):d6 m H m (upd H p (.tup vs))/\aP K m (upd H p (.tup vs)) μ/\ap K m (upd H p (.tup vs)) (.v (.tup ds)) (.ref p):=by
 refine ⟨.new hp,s.same (cu hp),?_⟩;simp only [ap,ak];exact ⟨p,vs,rfl,.inl (.inl b8),RelDs.tf (.of (cu hp)) _ _ r⟩
theorem e7 {ds:List D}{vs:List V}{p:Addr}(s:aP K m H μ)(r:RelDs K H ds vs)(hp:H p=none):d6 m H (m++[p]) (upd H p (.lst vs))/\aP K (m++[p]) (upd H p (.lst vs)) (μ++[.lst ds])/\ap K (m++[p]) (upd H p (.lst vs)) (.p μ.length) (.ref p):=by
 refine ⟨.newH hp,s.newH hp ⟨vs,b8,RelDs.tf (.of (cu hp)) _ _ r⟩,p,rfl,?_⟩;rw [←s.len];simp
theorem Gd {fa}(h:aw K (bS fa) σ H Q):FY (ij K fa) σ H Q:=by
 obtain ⟨ρ,μ,m,d,μ',hl,hs,e,k⟩:=h;obtain ⟨⟨xs,μ1⟩,e1,e⟩:=zab.mp e;obtain ⟨ds,e2,e⟩:=zab.mp e;split at e
 ·rename_i z
  cases e;refine ⟨ρ,μ,m,xs,_,hl,hs,e1,fun vs H1 m1 x1 s1 r1=>?_⟩;have r2:=iW e2 r1;refine ⟨by rw [←r2.length];exact z,fun p hp=>?_⟩;obtain ⟨a,b,c⟩:=im s1 r2 hp;exact k _ _ _ (x1.trans a) b c
 ·cases e
theorem Gs {fa}(h:aw K (gk fa) σ H Q):Ju (ij K fa) σ H Q:=by
 obtain ⟨ρ,μ,m,d,μ',hl,hs,e,k⟩:=h;obtain ⟨⟨xs,μ1⟩,e1,e⟩:=zab.mp e;obtain ⟨ds,e2,e⟩:=zab.mp e;split at e
 ·rename_i z
  cases e;refine ⟨ρ,μ,m,xs,_,hl,hs,e1,fun vs H1 m1 x1 s1 r1=>?_⟩;have r2:=iW e2 r1;refine ⟨by rw [←r2.length];exact z,fun p hp=>?_⟩;obtain ⟨a,b,c⟩:=e7 s1 r2 hp;exact k _ _ _ (x1.trans a) b c
 ·cases e
end
def aD:FS:=fun ρ μ=>some (.nx ρ μ)
def ar (a b:FS):FS:=fun ρ μ=>(a ρ μ).bind fun o=>match o with|.nx ρ' μ'=>b ρ' μ'|o=>some o
def eU (f:FE):FS:=fun ρ μ=>(f ρ μ).bind fun a=>some (.nx ρ a.2)
def bo (f:FE):FS:=fun ρ μ=>(f ρ μ).bind fun a=>some (.rt a.1 a.2)
def dj (t:FT)(a b:FS):FS:=fun ρ μ=>(t ρ μ).bind fun c=>if c.1=true then a ρ c.2 else b ρ c.2
def aF (i:Nat)(f:FE):FS:=fun ρ μ=>(f ρ μ).bind fun a=>some (.nx (ρ.set i (some a.1)) a.2)
section
variable  {K:zac}{m m' m1:Tf}{σ:St}{H H' H1:Hp}{D:d7}{μ:ab}{ρ:Lo}
theorem d7.of_ext {o:nq}(x:d6 m H m1 H1)(h:d7.of K m H D o):d7.of K m1 H1 D o:=by
 cases o with
 |nx ρ μ=>exact fun σ H' m' y=>h σ H' m' (x.trans y)
 |bk ρ μ=>exact fun σ H' m' y=>h σ H' m' (x.trans y)
 |ct ρ μ=>exact fun σ H' m' y=>h σ H' m' (x.trans y)
 |rt d μ=>exact fun σ H' m' y=>h σ H' m' (x.trans y)
theorem dH.set {d:R}{v:V}(h:dH K m H ρ σ)(r:ap K m H d v)(i:Nat):dH K m H (ρ.set i (some d)) (σ.set i (some v)):=by
 refine ⟨by simp [h.1],fun j d' e=>?_⟩
 by_cases hj:j=i
 ·subst hj
  by_cases hi:j < ρ.length
  ·rw [zbh hi] at e
   cases e;exact ⟨v,zbh (by rw [←h.1];exact hi),r⟩
  ·rw [zcs (by simp;omega)] at e
   cases e
 ·rw [zaO (Ne.symm hj)] at e
  obtain ⟨u,q1,q2⟩:=h.2 j d' e;exact ⟨u,by rw [zaO (Ne.symm hj)];exact q1,q2⟩
theorem CW (h:gg K aD D σ H):E1 D σ H:=by
 obtain ⟨ρ,μ,m,o,hl,hs,e,k⟩:=h;cases e;exact k σ H m .refl hs hl
theorem Gj {a b}(h:gg K (ar a b) D σ H):Jq (gg K a) (gg K b) D σ H:=by
 obtain ⟨ρ,μ,m,o,hl,hs,e,k⟩:=h;obtain ⟨o1,e1,e⟩:=zab.mp e;refine ⟨ρ,μ,m,o1,hl,hs,e1,?_⟩
 cases o1 with
 |nx ρ1 μ1=>exact fun σ1 H1 m1 x1 s1 l1=>⟨ρ1,μ1,m1,o,l1,s1,e,d7.of_ext x1 k⟩
 |bk ρ1 μ1=>cases e;exact k
 |ct ρ1 μ1=>cases e;exact k
 |rt d μ1=>cases e;exact k
theorem C0 {f}(h:gg K (eU f) D σ H):E2 (aw K f) D σ H:=by
 obtain ⟨ρ,μ,m,o,hl,hs,e,k⟩:=h;obtain ⟨⟨x,μ1⟩,e1,e⟩:=zab.mp e;cases e;exact ⟨ρ,μ,m,x,μ1,hl,hs,e1,fun v H1 m1 x1 s1 r1=>k σ H1 m1 x1 s1 (hl.ext x1)⟩
theorem Gm {f}(h:gg K (bo f) D σ H):Jr (aw K f) D σ H:=by
 obtain ⟨ρ,μ,m,o,hl,hs,e,k⟩:=h;obtain ⟨⟨x,μ1⟩,e1,e⟩:=zab.mp e;cases e;exact ⟨ρ,μ,m,x,μ1,hl,hs,e1,k⟩
theorem Gv {t a b}(h:gg K (dj t a b) D σ H):Jv (eQ K t) (gg K a) (gg K b) D σ H:=by
 obtain ⟨ρ,μ,m,o,hl,hs,e,k⟩:=h;obtain ⟨⟨c,μ1⟩,e1,e⟩:=zab.mp e;refine ⟨ρ,μ,m,c,μ1,hl,hs,e1,fun H1 m1 x1 s1=>?_⟩
 cases c with
 |true=>exact ⟨ρ,μ1,m1,o,hl.ext x1,s1,e,d7.of_ext x1 k⟩
 |false=>exact ⟨ρ,μ1,m1,o,hl.ext x1,s1,e,d7.of_ext x1 k⟩
theorem zQ {i f}(h:gg K (aF i f) D σ H):zw (aw K f) (pW i) D σ H:=by
 obtain ⟨ρ,μ,m,o,hl,hs,e,k⟩:=h;obtain ⟨⟨x,μ1⟩,e1,e⟩:=zab.mp e;cases e;exact ⟨ρ,μ,m,x,μ1,hl,hs,e1,fun v H1 m1 x1 s1 r1=>k _ H1 m1 x1 s1 ((hl.ext x1).set r1 i)⟩
end
abbrev FG:=R->Lo->ab->Option (Lo×ab)
def qC (K:zac)(g:FG):TG:=fun v σ H Q=>∃ρ μ m d ρ' μ',dH K m H ρ σ/\aP K m H μ/\ap K m H d v/\g d ρ μ=some (ρ',μ') /\
 ∀σ' H' m',d6 m H m' H'->aP K m' H' μ'->dH K m' H' ρ' σ'->Q σ' H'
abbrev Fx:=List R->Lo->ab->Option (Lo×ab)
def sB (K:zac)(g:Fx):Co:=fun vs σ H Q=>∃ρ μ m ds ρ' μ',dH K m H ρ σ/\aP K m H μ/\bn K m H ds vs/\g ds ρ μ=some (ρ',μ') /\
 ∀σ' H' m',d6 m H m' H'->aP K m' H' μ'->dH K m' H' ρ' σ'->Q σ' H'
def bI (i:Nat):FG:=fun d ρ μ=>some (ρ.set i (some d),μ)
def bZ:Fx:=fun ds ρ μ=>match ds with|[]=>some (ρ,μ)|_=>none
def aB (g:FG)(r:Fx):Fx:=fun ds ρ μ=>match ds with|[]=>none|d::ds=>(g d ρ μ).bind fun a=>r ds a.1 a.2
def lL (n:Nat)(g:Fx):FG:=fun d ρ μ=>match d with|.v (.tup xs)=>if xs.length=n then g (xs.map .v) ρ μ else none|_=>none
def sw (f:FE)(g:FG):FS:=fun ρ μ=>(f ρ μ).bind fun a=>(g a.1 ρ a.2).bind fun b=>some (.nx b.1 b.2)
section
variable  {K:zac}{m m' m1:Tf}{σ:St}{H H' H1:Hp}{D:d7}{μ:ab}{ρ:Lo}{v:V}{Q:St->Hp->Prop}
theorem Gz {i}(h:qC K (bI i) v σ H Q):pW i v σ H Q:=by
 obtain ⟨ρ,μ,m,d,ρ',μ',hl,hs,r,e,k⟩:=h;cases e;exact k _ H m .refl hs (hl.set r i)
theorem zT {vs}(h:sB K bZ vs σ H Q):KO vs σ H Q:=by
 obtain ⟨ρ,μ,m,ds,ρ',μ',hl,hs,r,e,k⟩:=h
 cases ds with
 |nil=>cases e;exact ⟨r,k σ H m .refl hs hl⟩
 |cons d ds=>cases e
theorem xN {g r vs}(h:sB K (aB g r) vs σ H Q):Fp (qC K g) (sB K r) vs σ H Q:=by
 obtain ⟨ρ,μ,m,ds,ρ',μ',hl,hs,rr,e,k⟩:=h
 cases ds with
 |nil=>cases e
 |cons d ds =>
  obtain ⟨v,vr,rfl,r1,r2⟩:=rr;obtain ⟨⟨ρ1,μ1⟩,e1,e⟩:=zab.mp e;refine ⟨v,vr,rfl,ρ,μ,m,d,ρ1,μ1,hl,hs,r1,e1,fun σ1 H1 m1 x1 s1 l1=>?_⟩;exact ⟨ρ1,μ1,m1,ds,ρ',μ',l1,s1,r2.ext x1,e,fun σ2 H2 m2 x2 s2 l2=>k σ2 H2 m2 (x1.trans x2) s2 l2⟩
theorem RelDs.rs:∀{ds:List HW.D} {vs:List V},RelDs K H ds vs->bn K m H (ds.map .v) vs
 |[],_,h=>by simp only [RelDs] at h;exact h
 |d::ds,_,h=>by
  simp only [RelDs] at h;obtain ⟨v,r,rfl,h1,h2⟩:=h;exact ⟨v,r,rfl,h1,RelDs.rs h2⟩
theorem Gy {n g}(h:qC K (lL n g) v σ H Q):KN K n (sB K g) v σ H Q:=by
 obtain ⟨ρ,μ,m,d,ρ',μ',hl,hs,r,e,k⟩:=h;unfold lL at e;split at e
 ·rename_i xs
  split at e
  ·rename_i hn
   simp only [ap,ak] at r;obtain ⟨a,vs,rfl,q,rr⟩:=r;exact ⟨a,vs,rfl,q,by rw [←rr.length];exact hn,ρ,μ,m,_,ρ',μ',hl,hs,rr.rs,e,k⟩
  ·cases e
 ·cases e
theorem GD {f g}(h:gg K (sw f g) D σ H):zw (aw K f) (qC K g) D σ H:=by
 obtain ⟨ρ,μ,m,o,hl,hs,e,k⟩:=h;obtain ⟨⟨x,μ1⟩,e1,e⟩:=zab.mp e;obtain ⟨⟨ρ2,μ2⟩,e2,e⟩:=zab.mp e;cases e;exact ⟨ρ,μ,m,x,μ1,hl,hs,e1,fun v H1 m1 x1 s1 r1=>⟨ρ,μ1,m1,x,ρ2,μ2,hl.ext x1,s1,r1,e2,fun σ2 H2 m2 x2 s2 l2=>k σ2 H2 m2 (x1.trans x2) s2 l2⟩⟩
end
def fA:HO->Prop
 |.lst _=>True
 |.set _ _=>True
 |.dK _=>True
 |.dT _=>True
 |_=>False
def Lu (t:TE):TE:=fun σ H Q=>t σ H fun v H1=>Q v H1\/∃a u,H1 a=some u/\fA u/\∀o,Q v (upd H1 a (.frz o u))
def DP:R->ab->Option (D×ab)
 |.v d,μ=>some (d,μ)
 |.s _ _,_=>none
 |.x _,_=>none
 |.f _ _,_=>none
 |.p n,μ=>match μ[n]? with|some (.lst xs)=>some (.fl xs,μ.set n (.fz xs))|some (.fz xs)=>some (.fl xs,μ)|some (.dct kvs)=>some (.fd (kvs.map (·.1)) (kvs.map (·.2)),μ.set n (.fzd kvs))|some (.fzd kvs)=>some (.fd (kvs.map (·.1)) (kvs.map (·.2)),μ)|_=>none
def bH (f:FE):FE:=fun ρ μ=>(f ρ μ).bind fun a=>(DP a.1 a.2).bind fun b=>some (.v b.1,b.2)
section
variable  {K:zac}{m:Tf}{σ:St}{H:Hp}{μ:ab}{Q:VK}
theorem Fq {x:R}{d:D}{μ':ab}{v:V}{B:Hp->Prop}(hs:aP K m H μ)(r:ap K m H x v)(e:DP x μ=some (d,μ'))
  (k:∀H',d6 m H m H'->aP K m H' μ'->ak K H' d v->B H'):B H\/∃a u,H a=some u/\fA u/\∀o,B (upd H a (.frz o u)):=by
 cases x with
 |v d'=>cases e;exact .inl (k H .refl hs r)
 |s b xs=>cases e
 |x _=>cases e
 |f _ _=>cases e
 |p n =>
  obtain ⟨a,rfl,ha⟩:=r;simp only [DP] at e;split at e
  ·rename_i xs q
   cases e;obtain ⟨vs,ea,rr⟩:=hs.cell n _ a q ha;refine .inr ⟨a,_,ea,trivial,fun o=>?_⟩;have x:d6 m H m (upd H a (.frz o (.lst vs))):=.put (zaZ ha) ea (by simp) (by simp);refine k _ x (hs.put ha ea (by simp) (by simp) ⟨o,vs,b8,RelDs.tf x.tf _ _ rr⟩) ?_;simp only [ak];exact ⟨a,vs,rfl,.inl ⟨o,b8⟩,RelDs.tf x.tf _ _ rr⟩
  ·rename_i xs q
   cases e;obtain ⟨o,vs,ea,rr⟩:=hs.cell n _ a q ha;refine .inl (k H .refl hs ?_);simp only [ak];exact ⟨a,vs,rfl,.inl ⟨o,ea⟩,rr⟩
  ·rename_i kvs q
   cases e;obtain ⟨es,ea,ke,rr⟩:=hs.cell n _ a q ha;refine .inr ⟨a,_,ea,trivial,fun o=>?_⟩;have x:d6 m H m (upd H a (.frz o (.dK es))):=.put (zaZ ha) ea (by simp) (by simp);refine k _ x (hs.put ha ea (by simp) (by simp) ⟨o,es,b8,ke,RelDs.tf x.tf _ _ rr⟩) ?_;simp only [ak];exact ⟨a,o,es,rfl,b8,ke,RelDs.tf x.tf _ _ rr⟩
  ·rename_i kvs q
   cases e;obtain ⟨o,es,ea,ke,rr⟩:=hs.cell n _ a q ha;refine .inl (k H .refl hs ?_);simp only [ak];exact ⟨a,o,es,rfl,ea,ke,rr⟩
  ·cases e
theorem E7 {f}(h:aw K (bH f) σ H Q):Lu (aw K f) σ H Q:=by
 obtain ⟨ρ,μ,m,d,μ',hl,hs,e,k⟩:=h;obtain ⟨⟨x,μ1⟩,e1,e⟩:=zab.mp e;obtain ⟨⟨d1,μ2⟩,e2,e⟩:=zab.mp e;cases e;refine ⟨ρ,μ,m,x,μ1,hl,hs,e1,fun v H1 m1 x1 s1 r1=>?_⟩;exact Fq (B:=fun H'=>Q v H') s1 r1 e2 fun H' y s2 r2=>k v H' m1 (x1.trans y) s2 r2
end
abbrev FI:=Lo->ab->Option (List D×ab)
structure Et (K:zac)(J:It)(xs:List D)(P:Hp->Prop):Prop where
 st:∀H H',TF H H'->P H->P H'
 stop:∀i H,P H->xs.length<=i->J.stop i H
 go:∀(i:Nat) d H,xs[i]?=some d->P H->J.go i H
 yld:∀(i:Nat) d H x H',xs[i]?=some d->P H->J.yld i H x H'->H'=H/\ak K H d x
def zX (K:zac)(f:FI):TI:=fun σ H R=>∃ρ μ m xs μ',dH K m H ρ σ/\aP K m H μ/\f ρ μ=some (xs,μ') /\
 ∀J P H' m',d6 m H m' H'->aP K m' H' μ'->Et K J xs P->P H'->R J H'
def cR (g:FG)(b:FS):List D->Lo->ab->Option nq
 |[],ρ,μ=>some (.nx ρ μ)
 |x::xs,ρ,μ=>(g (.v x) ρ μ).bind fun a=>(b a.1 a.2).bind fun o=>match o with
  |.nx ρ' μ'=>cR g b xs ρ' μ'
  |.ct ρ' μ'=>cR g b xs ρ' μ'
  |.bk ρ' μ'=>some (.nx ρ' μ')
  |.rt d μ'=>some (.rt d μ')
def gU (i:FI)(g:FG)(b:FS):FS:=fun ρ μ=>(i ρ μ).bind fun a=>cR g b a.1 ρ a.2
section
variable  {K:zac}{m:Tf}{σ:St}{H:Hp}{μ:ab}{D:d7}
theorem GA {fi g b}(h:gg K (gU fi g b) D σ H):FZ (zX K fi) (qC K g) (gg K b) D σ H:=by
 obtain ⟨ρ,μ,m,o,hl,hs,e,k⟩:=h;obtain ⟨⟨xs,μ1⟩,e1,e⟩:=zab.mp e;refine ⟨ρ,μ,m,xs,μ1,hl,hs,e1,fun J P H1 m1 x1 s1 ok p1=>?_⟩
 refine ⟨fun i n σ H=>n=xs.length - i/\i<=xs.length/\P H/\∃ρ μ m,dH K m H ρ σ/\aP K m H μ/\cR g b (xs.drop i) ρ μ=some o/\d7.of K m H D o,
  ⟨_,rfl,za9 _,p1,ρ,μ1,m1,hl.ext x1,s1,by simpa using e,d7.of_ext x1 k⟩,?_⟩
 rintro i n σ H ⟨rfl,hi,p,ρ,μ,m,hl,hs,e,k⟩
 by_cases hlt:i < xs.length
 ·have hx:xs[i]?=some xs[i]:=zar hlt
  rw [zbi hlt,cR] at e;obtain ⟨⟨ρ1,μ1⟩,e1,e⟩:=zab.mp e;obtain ⟨o1,e2,e⟩:=zab.mp e
  refine .inr ⟨ok.go i _ H hx p,fun σ H=>i+1<=xs.length/\P H/\∃ρ μ m,dH K m H ρ σ/\aP K m H μ/\cR g b (xs.drop (i+1)) ρ μ=some o/\d7.of K m H D o,
   fun σ' H' z=>⟨xs.length - (i+1),by omega,rfl,z⟩,fun x H' y=>?_⟩
  obtain ⟨rfl,rx⟩:=ok.yld i _ H x H' hx p y;refine ⟨ρ,μ,m,.v xs[i],ρ1,μ1,hl,hs,rx,e1,fun σ1 H1 m1 x1 s1 l1=>?_⟩;refine ⟨ρ1,μ1,m1,o1,l1,s1,e2,?_⟩
  cases o1 with
  |nx ρ2 μ2=>exact fun σ2 H2 m2 x2 s2 l2=>⟨hlt,ok.st _ _ (x1.trans x2).tf p,ρ2,μ2,m2,l2,s2,e,d7.of_ext (x1.trans x2) k⟩
  |ct ρ2 μ2=>exact fun σ2 H2 m2 x2 s2 l2=>⟨hlt,ok.st _ _ (x1.trans x2).tf p,ρ2,μ2,m2,l2,s2,e,d7.of_ext (x1.trans x2) k⟩
  |bk ρ2 μ2=>cases e;exact fun σ2 H2 m2 x2 s2 l2=>k σ2 H2 m2 (x1.trans x2) s2 l2
  |rt d μ2=>cases e;exact fun v H2 m2 x2 s2 l2=>k v H2 m2 (x1.trans x2) s2 l2
 ·have:i=xs.length:=by omega
  subst this;rw [zdm,cR] at e;cases e;exact .inl ⟨ok.stop _ H p (zam _),k σ H m .refl hs hl⟩
end
def cN (f:FE):FI:=fun ρ μ=>(bH f ρ μ).bind fun a=>match a.1 with|.v (.fl xs)=>some (xs,a.2)|.v (.tup xs)=>some (xs,a.2)|_=>none
def Kt (K:zac)(tl:TE):TI:=fun σ H R=>tl σ H fun x H1=>∃a,x=.ref a/\(((∃xs,iV K H1 a xs)/\R (NY K a) H1)\/((∃xs,eS K H1 a xs)/\R (NX K a) H1))
def vG (f:FE):FI:=fun ρ μ=>(f ρ μ).bind fun a=>match a.1 with|.v (.int j)=>if -(2 ^ 62)<=j/\j < 2 ^ 62 then some ((List.range j.toNat).map fun i=>.int (i:Nat),a.2) else none|_=>none
section
variable  {K:zac}{m:Tf}{σ:St}{H:Hp}{μ:ab}{R:It->Hp->Prop}
theorem RelDs.get:∀{ds:List D} {vs:List V} {i:Nat} {d:D},RelDs K H ds vs->ds[i]?=some d->∃v,vs[i]?=some v/\ak K H d v
 |[],_,_,_,_,e=>by simp at e
 |x::xs,vs,0,d,h,e=>by
  simp only [RelDs] at h;obtain ⟨v,r,rfl,h1,h2⟩:=h;simp at e;subst e;exact ⟨v,rfl,h1⟩
 |x::xs,vs,i+1,d,h,e=>by
  simp only [RelDs] at h;obtain ⟨v,r,rfl,h1,h2⟩:=h;obtain ⟨u,q1,q2⟩:=RelDs.get (i:=i) h2 (by simpa using e);exact ⟨u,by simpa using q1,q2⟩
theorem Hu {a vs xs}(r0:RelDs K H xs vs):Et K (NY K a) xs (fun H=>Ir K H a vs/\RelDs K H xs vs) where
 st:=fun H H' t ⟨f,r⟩=>⟨f.tf t,RelDs.tf t _ _ r⟩
 stop:=fun i H ⟨f,r⟩ hi=>⟨vs,f.sq,by rw [←r.length];exact hi⟩
 go:=fun i d H e ⟨f,r⟩=>let ⟨v,q,_⟩:=r.get e;⟨vs,v,f.sq,q⟩
 yld:=fun i d H x H' e ⟨f,r⟩ ⟨e1,e2⟩=>by
  obtain ⟨v,q,rv⟩:=r.get e;have:=e2 vs f.sq;rw [q] at this;cases this;exact ⟨e1,rv⟩
theorem Hs {a vs xs}(r0:RelDs K H xs vs):Et K (NX K a) xs (fun H=>eS K H a vs/\RelDs K H xs vs) where
 st:=fun H H' t ⟨f,r⟩=>⟨eS.tf t f,RelDs.tf t _ _ r⟩
 stop:=fun i H ⟨f,r⟩ hi=>⟨vs,f,by rw [←r.length];exact hi⟩
 go:=fun i d H e ⟨f,r⟩=>let ⟨v,q,_⟩:=r.get e;⟨vs,v,f,q⟩
 yld:=fun i d H x H' e ⟨f,r⟩ ⟨e1,e2⟩=>by
  obtain ⟨v,q,rv⟩:=r.get e;have:=e2 vs f;rw [q] at this;cases this;exact ⟨e1,rv⟩
theorem Ht (lo:Int)(n:Nat):Et K (Md lo n) ((List.range n).map fun k=>.int (lo+(k:Nat))) (fun _=>True) where
 st:=fun _ _ _ _=>trivial
 stop:=fun i H _ hi=>by show n<=i;simpa using hi
 go:=fun i d H e _=>by
  have:=(zaw.mp e).1
  show i < n;simpa using this
 yld:=fun i d H x H' e _ ⟨e1,e2⟩=>by
  have hi:=(zaw.mp e).1
  have hi':i < n:=by simpa using hi
  refine ⟨e1,?_⟩;simp [hi'] at e;subst e e2;simp only [ak]
theorem CY {f}(h:zX K (cN f) σ H R):Kt K (Lu (aw K f)) σ H R:=by
 obtain ⟨ρ,μ,m,xs,μ',hl,hs,e,k⟩:=h;obtain ⟨⟨x,μ1⟩,e1,e⟩:=zab.mp e;refine E7 ⟨ρ,μ,m,x,μ1,hl,hs,e1,fun v H1 m1 x1 s1 r1=>?_⟩;split at e
 ·rename_i ys q
  cases e;simp only at q;subst q;simp only [ap,ak] at r1;obtain ⟨a,vs,rfl,f,r⟩:=r1;exact ⟨a,rfl,.inl ⟨⟨vs,f.sq⟩,k _ _ H1 m1 x1 s1 (Hu r) ⟨f,r⟩⟩⟩
 ·rename_i ys q
  cases e;simp only at q;subst q;simp only [ap,ak] at r1;obtain ⟨a,vs,rfl,f,r⟩:=r1;exact ⟨a,rfl,.inr ⟨⟨vs,f⟩,k _ _ H1 m1 x1 s1 (Hs r) ⟨f,r⟩⟩⟩
 ·cases e
theorem Gw {f}(h:zX K (vG f) σ H R):Fm (ij K (af f am)) σ H R:=by
 obtain ⟨ρ,μ,m,xs,μ',hl,hs,e,k⟩:=h;obtain ⟨⟨x,μ1⟩,e1,e⟩:=zab.mp e;refine ⟨ρ,μ,m,[x],μ1,hl,hs,by simp [af,am,e1],fun vs H1 m1 x1 s1 r1=>?_⟩;split at e
 ·rename_i j q
  split at e
  ·rename_i z
   cases e;simp only at q;subst q;obtain ⟨v,r,rfl,r1,r2⟩:=r1;have r2:r=[]:=r2;simp only [ap,ak] at r1;subst r1 r2;have:=Ht (K:=K) 0 j.toNat
   simp only [Int.zero_add] at this
   exact ⟨j,rfl,z.1,z.2,k _ _ H1 m1 x1 s1 this trivial⟩
  ·cases e
 ·cases e
end
end HW
namespace HW
open PySem L2
abbrev MF:=List D->Option D
def uD (H H':Hp):Prop:=∀a o,H a=some o->H' a=some o
def yV (K:zac)(n:Nat)(f:MF):Sp:=fun vs H Q _=>∃ds d,ds.length=n/\RelDs K H ds vs/\f ds=some d/\∀v H',uD H H'->ak K H' d v->Q v H'
def fin:nq->Option D
 |.rt r μ=>(DP r μ).bind fun a=>some a.1
 |.nx _ _=>some .non
 |_=>none
def dM (k:Nat)(b:FS):MF:=fun ds=>(b (ds.map (fun d=>some (.v d))++List.replicate (k - ds.length) none) []).bind fin
def aH (f:MF)(n:Nat)(fa:FA):FE:=fun ρ μ=>(fa ρ μ).bind fun a=>(vals a.1).bind fun ds=>if ds.length=n then (f ds).bind fun d=>some (.v d,a.2) else none
section
variable  {K:zac}{m:Tf}{σ:St}{H H':Hp}{μ:ab}{Q:VK}
theorem uD.ext (s:uD H H'):d6 m H m H':=⟨⟨[],by simp⟩,.of s,fun a o e _=>s a o e,fun a h=>by
 cases q:H a with
 |none=>rfl
 |some o=>rw [s a o q] at h;cases h⟩
theorem C3 {f n fa}{E:XK}(h:aw K (aH f n fa) σ H Q):wj (yV K n f) [] E (ij K fa) σ H Q:=by
 obtain ⟨ρ,μ,m,d,μ',hl,hs,e,k⟩:=h;obtain ⟨⟨xs,μ1⟩,e1,e⟩:=zab.mp e;obtain ⟨ds,e2,e⟩:=zab.mp e;split at e
 ·rename_i hn
  obtain ⟨d1,e3,e⟩:=zab.mp e;cases e;refine ⟨ρ,μ,m,xs,_,hl,hs,e1,fun vs H1 m1 x1 s1 r1=>?_⟩;refine ⟨ds,d1,hn,by simpa using iW e2 r1,e3,fun v H2 z r2=>?_⟩;exact k v H2 m1 (x1.trans z.ext) (s1.same z) r2
 ·cases e
theorem pI {N:Tn}{ds:List D}{vs:List V}(r:RelDs K H ds vs):dH K [] H (ds.map (fun d=>some (.v d))++List.replicate (N.length - ds.length) none) (L2.gS N vs):=by
 have hl:=r.length;unfold L2.gS;refine ⟨by simp [hl],fun i d e=>?_⟩
 by_cases hi:i < ds.length
 ·rw [zaq (by simpa using hi),zaG] at e
  cases q:ds[i]? with
  |none=>rw [q] at e;cases e
  |some d' =>
   rw [q] at e;cases e;obtain ⟨v,q1,q2⟩:=r.get q;exact ⟨v,by rw [zaq (by simp;omega),zaG,q1];rfl,q2⟩
 ·rw [zaT (by simpa using hi),zcK] at e
  split at e <;> cases e
def Du (Q:VK):VK:=fun v H=>Q v H\/∃a u,H a=some u/\fA u/\∀o,Q v (upd H a (.frz o u))
theorem d6.sam (x:d6 [] H m H'):uD H H':=fun a o e=>x.keep a o e (by simp)
theorem F7 {N:Tn}{b:FS}{ds:List D}{vs:List V}{d:D}{E:XK}(r:RelDs K H ds vs)(e:dM N.length b ds=some d)(k:∀v H',uD H H'->ak K H' d v->Q v H') :
  gg K b {nx:=fun _ H'=>Du Q .non H',rt:=Du Q} (L2.gS N vs) H:=by
 obtain ⟨o,e1,e⟩:=zab.mp e;refine ⟨_,[],[],o,pI r,.nil,e1,?_⟩
 cases o with
 |nx ρ μ =>
  cases e;exact fun σ H' m' x _ _=>.inl (k _ _ x.sam (by simp only [ak]))
 |bk ρ μ=>cases e
 |ct ρ μ=>cases e
 |rt q μ =>
  obtain ⟨⟨d1,μ1⟩,e2,e⟩:=zab.mp e;cases e;intro v H' m' x s r';exact Fq (B:=fun H'=>Q v H') s r' e2 fun H2 y s2 r2=>k v H2 (x.trans y).sam r2
end
def vC (C:Int->Int->Bool)(f:Int->Int->D):R->R->ab->Option (R×ab)
 |.v (.int i),.v (.int j),μ=>if C i j=true then some (.v (f i j),μ) else none
 |_,_,_=>none
theorem gI {K:zac}{C:Int->Int->Bool}{C':Int->Int->Prop}{f:Int->Int->D}{g:Int->Int->V}(hC:∀i j,C i j=true->C' i j)(hg:∀H i j,ak K H (f i j) (g i j)):pC K (vC C f) (rI C' g):=by
 intro m H μ x y d μ' v u Q s rx ry e k;unfold vC at e;split at e
 ·rename_i i j
  split at e
  ·rename_i z
   cases e;simp only [ap,ak] at rx ry;subst rx ry;exact ⟨i,j,rfl,rfl,hC i j z,k _ H m .refl s (hg H i j)⟩
  ·cases e
 ·cases e
theorem LF {K:zac}{f:Int->Int->D}{g:Int->Int->V}(hg:∀H i j,ak K H (f i j) (g i j)):pC K (vC (fun _ _=>true) f) (xP g):=by
 intro m H μ x y d μ' v u Q s rx ry e k;unfold vC at e;split at e
 ·rename_i i j
  split at e
  ·cases e
   simp only [ap,ak] at rx ry;subst rx ry;exact ⟨i,j,rfl,rfl,k _ H m .refl s (hg H i j)⟩
  ·cases e
 ·cases e
abbrev gR:=vC (fun _ _=>true) fun i j=>.int (i - j)
abbrev ku:=vC (fun i j=>decide (-(2 ^ 64) < i/\i < 2 ^ 64) || decide (-(2 ^ 64) < j/\j < 2 ^ 64)) fun i j=>.int (i * j)
abbrev br:=vC (fun _ j=>decide (0 < j/\j < 1073741824)) fun i j=>.int (i / j)
abbrev aT:=vC (fun _ j=>decide (0 < j)) fun i j=>.int (i % j)
abbrev ll:=vC (fun i j=>decide (0<=j/\j<=1000000/\i.natAbs < 2 ^ 64)) fun i j=>.int (i ^ j.toNat)
abbrev DA:=vC (fun _ _=>true) fun i j=>.bl (decide (i < j))
abbrev Hi:=vC (fun _ _=>true) fun i j=>.bl (decide (i<=j))
abbrev Fn:=vC (fun _ _=>true) fun i j=>.bl (decide (j < i))
def lY:R->ab->Option (R×ab)
 |.v (.int i),μ=>some (.v (.int (-i)),μ)
 |_,_=>none
section
variable  {K:zac}
theorem Ac {H:Hp}{i:Int}:ak K H (.int i) (.int i):=by simp only [ak]
theorem Mt {H:Hp}{i:Bool}:ak K H (.bl i) (.bl i):=by simp only [ak]
theorem Kv:pC K gR (xP fun i j=>.int (i - j)):=LF fun _ _ _=>Ac
theorem Kz:pC K ku (rI Cj fun i j=>.int (i * j)):=gI (fun i j h=>by simpa [Cj] using h) fun _ _ _=>Ac
theorem KJ:pC K br (rI Iv fun i j=>.int (i / j)):=gI (fun i j h=>by simpa [Iv] using h) fun _ _ _=>Ac
theorem KA:pC K aT (rI (fun _ j=>0 < j) fun i j=>.int (i % j)):=gI (fun i j h=>by simpa using h) fun _ _ _=>Ac
theorem Kx:pC K ll (rI Iu fun i j=>.int (i ^ j.toNat)):=gI (fun i j h=>by simpa [Iu] using h) fun _ _ _=>Ac
theorem KC:pC K DA (xP fun i j=>.bl (decide (i < j))):=LF fun _ _ _=>Mt
theorem MI:pC K Hi (xP fun i j=>.bl (decide (i<=j))):=LF fun _ _ _=>Mt
theorem MK:pC K Fn (xP fun i j=>.bl (decide (j < i))):=LF fun _ _ _=>Mt
theorem Ky:OQ K lY (rU fun i=>.int (-i)):=by
 intro m H μ x d μ' v Q s rx e k;unfold lY at e;split at e
 ·rename_i i
  cases e;simp only [ap,ak] at rx;subst rx;exact ⟨i,rfl,k _ H m .refl s (by simp only [ap,ak])⟩
 ·cases e
end
def Ef:R->R->ab->Option (R×ab)
 |.v (.int i),.v (.int j),μ=>some (.v (.int (i+j)),μ)
 |.v (.str x),.v (.str y),μ=>if x.length+y.length<=sizeLine then some (.v (.str (x++y)),μ) else none
 |.v (.tup xs),.v (.tup ys),μ=>if xs≠[]/\xs.length+ys.length<=sizeLine then some (.v (.tup (xs++ys)),μ) else none
 |.p a,.p b,μ=>match μ[a]?,μ[b]? with|some (.lst xs),some (.lst ys)=>if xs.length+ys.length<=sizeLine then some (.p μ.length,μ++[.lst (xs++ys)]) else none|_,_=>none
 |_,_,_=>none
def JS:R2:=fun x y H Q=>∃i j,x=.str i/\y=.str j/\i.length+j.length<=sizeLine/\Q (.str (i++j)) H
def Mq (r r':R2):R2:=fun x y H Q=>r x y H Q\/r' x y H Q
def Fc (K:zac):R2:=Mq (xP fun i j=>.int (i+j)) (Mq JS (Mq (Ae K) JQ))
theorem RelDs.append {K:zac}{H:Hp}:∀{xs ys:List D} {vs ws:List V},RelDs K H xs vs->RelDs K H ys ws->RelDs K H (xs++ys) (vs++ws)
 |[],_,_,_,h,h'=>by simp only [RelDs] at h;subst h;exact h'
 |x::xs,_,_,_,h,h'=>by
  simp only [RelDs] at h;obtain ⟨v,r,rfl,h1,h2⟩:=h
  show RelDs K H (x::(xs++_)) _
  simp only [RelDs];exact ⟨v,r++_,rfl,h1,RelDs.append h2 h'⟩
theorem RelDs.nil_iff {K:zac}{H:Hp}{xs:List D}{vs:List V}(h:RelDs K H xs vs):xs=[] ↔ vs=[]:=by
 have:=h.length;cases xs <;> cases vs <;> simp_all
theorem KM {K:zac}:pC K Ef (Fc K):=by
 intro m H μ x y d μ' v u Q s rx ry e k;unfold Ef at e;split at e
 ·cases e
  simp only [ap,ak] at rx ry;subst rx ry;exact .inl ⟨_,_,rfl,rfl,k _ H m .refl s (by simp only [ap,ak])⟩
 ·split at e
  ·rename_i z
   cases e;simp only [ap,ak] at rx ry;subst rx ry;exact .inr (.inl ⟨_,_,rfl,rfl,z,k _ H m .refl s (by simp only [ap,ak])⟩)
  ·cases e
 ·split at e
  ·rename_i z
   cases e;simp only [ap,ak] at rx ry;obtain ⟨a,vs,rfl,qa,ra⟩:=rx;obtain ⟨b,ws,rfl,qb,rb⟩:=ry;refine .inr (.inr (.inl ⟨a,b,vs,ws,rfl,rfl,qa,qb,fun h=>z.1 (ra.nil_iff.mpr h),by rw [←ra.length,←rb.length];exact z.2,fun h=>?_,fun h p hp=>?_⟩))
   ·refine k _ H m .refl s ?_
    have:=rb.nil_iff.mpr h;subst this;simp only [ap,ak,zbm];exact ⟨a,vs,rfl,qa,ra⟩
   ·obtain ⟨x1,x2,x3⟩:=im s (ra.append rb) hp
    exact k _ _ _ x1 x2 x3
  ·cases e
 ·split at e
  ·rename_i xs ys qa qb
   split at e
   ·rename_i z
    cases e;obtain ⟨a',rfl,ha⟩:=rx;obtain ⟨b',rfl,hb⟩:=ry;obtain ⟨vs,ea,ra⟩:=s.cell _ _ a' qa ha;obtain ⟨ws,eb,rb⟩:=s.cell _ _ b' qb hb;refine .inr (.inr (.inr ⟨a',b',vs,ws,rfl,rfl,ea,eb,by rw [←ra.length,←rb.length];exact z,fun p hp=>?_⟩));obtain ⟨x1,x2,x3⟩:=e7 s (ra.append rb) hp;exact k _ _ _ x1 x2 x3
   ·cases e
  ·cases e
 ·cases e
def cM:R->ab->Option (List D)
 |.v (.tup xs),_=>some xs
 |.v (.fl xs),_=>some xs
 |.p n,μ=>match μ[n]? with|some (.lst xs)=>some xs|some (.fz xs)=>some xs|_=>none
 |_,_=>none
def jU:R->ab->Option (List D)
 |.v (.fl xs),_=>some xs
 |.p n,μ=>match μ[n]? with|some (.lst xs)=>some xs|some (.fz xs)=>some xs|_=>none
 |_,_=>none
section
variable  {K:zac}{m:Tf}{H:Hp}{μ:ab}
theorem ip {x:R}{xs:List D}{v:V}(s:aP K m H μ)(r:ap K m H x v)(e:jU x μ=some xs):∃a vs,v=.ref a/\iV K H a vs/\RelDs K H xs vs:=by
 unfold jU at e;split at e
 ·cases e
  simp only [ap,ak] at r;obtain ⟨a,vs,rfl,q,r⟩:=r;exact ⟨a,vs,rfl,q.sq,r⟩
 ·obtain ⟨a,rfl,ha⟩:=r
  split at e
  ·rename_i q
   cases e;obtain ⟨vs,e,r⟩:=s.cell _ _ a q ha;exact ⟨a,vs,rfl,.inl (.inl e),r⟩
  ·rename_i q
   cases e;obtain ⟨o,vs,e,r⟩:=s.cell _ _ a q ha;exact ⟨a,vs,rfl,.inl (.inr ⟨o,e⟩),r⟩
  ·cases e
 ·cases e
theorem gZ {x:R}{xs:List D}{v:V}(s:aP K m H μ)(r:ap K m H x v)(e:cM x μ=some xs):∃a vs,v=.ref a/\(iV K H a vs\/eS K H a vs)/\RelDs K H xs vs:=by
 cases x with
 |v d =>
  cases d with
  |tup ys =>
   cases e;simp only [ap,ak] at r;obtain ⟨a,vs,rfl,q,r⟩:=r;exact ⟨a,vs,rfl,.inr q,r⟩
  |fl ys=>obtain ⟨a,vs,q1,q2,q3⟩:=ip s r (xs:=xs) e;exact ⟨a,vs,q1,.inl q2,q3⟩
  |non=>cases e
  |bl _=>cases e
  |int _=>cases e
  |str _=>cases e
  |fd _ _=>cases e
  |key _=>cases e
 |p n=>obtain ⟨a,vs,q1,q2,q3⟩:=ip s r (xs:=xs) e;exact ⟨a,vs,q1,.inl q2,q3⟩
 |s _ _=>cases e
 |x _=>cases e
 |f _ _=>cases e
end
def bq:R->R->ab->Option (R×ab)
 |x,.v (.int i),μ=>(cM x μ).bind fun xs=>(kO xs i).bind fun d=>some (.v d,μ)
 |_,_,_=>none
def fV:List R->ab->Option (R×ab)
 |[x],μ=>(cM x μ).bind fun xs=>some (.v (.int xs.length),μ)
 |_,_=>none
theorem Ed {K:zac}{H:Hp}{xs:List D}{vs:List V}{i:Int}{d:D}(r:RelDs K H xs vs)(e:kO xs i=some d):∃v,kO vs i=some v/\ak K H d v:=by
 obtain ⟨j,e1,e2⟩:=zab.mp e;obtain ⟨v,q1,q2⟩:=r.get e2;exact ⟨v,by unfold kO;rw [←r.length,e1];exact q1,q2⟩
theorem MJ {K:zac}:pC K bq (Og K):=by
 intro m H μ x y d μ' v u Q s rx ry e k;unfold bq at e;split at e
 ·rename_i i
  obtain ⟨xs,e1,e⟩:=zab.mp e;obtain ⟨d1,e2,e⟩:=zab.mp e;cases e;simp only [ap,ak] at ry;subst ry;obtain ⟨a,vs,rfl,q,r⟩:=gZ s rx e1;obtain ⟨w,q1,q2⟩:=Ed r e2;rcases q with q|q
  ·exact .inl ⟨a,vs,i,w,rfl,rfl,q,q1,k _ H m .refl s q2⟩
  ·exact .inr (.inl ⟨a,vs,i,w,rfl,rfl,q,q1,k _ H m .refl s q2⟩)
 ·cases e
def Mr (K:zac):List V->Hp->VK->Prop:=fun xs H Q=>∃p ys,xs=[.ref p]/\(iV K H p ys\/eS K H p ys)/\Q (.int ys.length) H
theorem lg {K:zac}{m:Tf}{H:Hp}{x:R}{vs:List V}(r:bn K m H [x] vs):∃v,vs=[v]/\ap K m H x v:=by
 obtain ⟨v,r,rfl,h1,h2⟩:=r;have h2:r=[]:=h2;subst h2;exact ⟨v,rfl,h1⟩
theorem KE {K:zac}:v4 K fV (Mr K):=by
 intro m H μ xs d μ' vs Q s r e k;unfold fV at e;split at e
 ·rename_i x
  obtain ⟨ys,e1,e⟩:=zab.mp e;cases e;obtain ⟨v,rfl,r1⟩:=lg r;obtain ⟨a,ws,rfl,q,r⟩:=gZ s r1 e1;exact ⟨a,ws,rfl,q,k _ H m .refl s (by simp only [ap,ak];rw [r.length])⟩
 ·cases e
def pT:List R->ab->Option (R×ab)
 |[x],μ=>(cM x μ).bind fun xs=>some (.p μ.length,μ++[.lst xs])
 |_,_=>none
def JL (K:zac):List V->Hp->VK->Prop:=fun xs H Q=>∃p ys,xs=[.ref p]/\(iV K H p ys\/eS K H p ys)/\∀l,H l=none->Q (.ref l) (upd H l (.lst ys))
theorem HC {K:zac}:v4 K pT (JL K):=by
 intro m H μ xs d μ' vs Q s r e k;unfold pT at e;split at e
 ·rename_i x
  obtain ⟨ys,e1,e⟩:=zab.mp e;cases e;obtain ⟨v,rfl,r1⟩:=lg r;obtain ⟨a,ws,rfl,q,r⟩:=gZ s r1 e1;refine ⟨a,ws,rfl,q,fun p hp=>?_⟩;obtain ⟨x1,x2,x3⟩:=e7 s r hp;exact k _ _ _ x1 x2 x3
 ·cases e
def qr:List R->ab->Option (R×ab)
 |[x],μ=>(cM x μ).bind fun xs=>some (.v (.tup xs),μ)
 |_,_=>none
def JH (K:zac):List V->Hp->VK->Prop:=fun xs H Q=>∃p ys,xs=[.ref p]/\((iV K H p ys/\∀l,H l=none->Q (.ref l) (upd H l (.tup ys)))\/(eS K H p ys/\Q (.ref p) H))
theorem Ku {K:zac}:v4 K qr (JH K):=by
 intro m H μ xs d μ' vs Q s r e k;unfold qr at e;split at e
 ·rename_i x
  obtain ⟨ys,e1,e⟩:=zab.mp e;cases e;obtain ⟨v,rfl,r1⟩:=lg r;obtain ⟨a,ws,rfl,q,r⟩:=gZ s r1 e1;rcases q with q|q
  ·refine ⟨a,ws,rfl,.inl ⟨q,fun p hp=>?_⟩⟩
   obtain ⟨x1,x2,x3⟩:=im s r hp;exact k _ _ _ x1 x2 x3
  ·refine ⟨a,ws,rfl,.inr ⟨q,k _ H m .refl s ?_⟩⟩
   simp only [ap,ak];exact ⟨a,ws,rfl,q,r⟩
 ·cases e
def jY:R->List R->ab->Option (R×ab)
 |.p n,[.v d],μ=>match μ[n]? with|some (.lst xs)=>if xs.length < sizeLine then some (.v .non,μ.set n (.lst (xs++[d]))) else none|_=>none
 |_,_,_=>none
def OR (K:zac)(g:R->List R->ab->Option (R×ab))(r:V->List V->Hp->VK->Prop):Prop :=
 ∀m H μ x xs d μ' v vs Q,aP K m H μ->ap K m H x v->bn K m H xs vs->g x xs μ=some (d,μ')->(∀w H' m',d6 m H m' H'->aP K m' H' μ'->ap K m' H' d w->Q w H')->r v vs H Q
theorem KK {K:zac}:OR K jY wu:=by
 intro m H μ x xs d μ' v vs Q s rx rs e k;unfold jY at e;split at e
 ·split at e
  ·rename_i ys q
   split at e
   ·rename_i z
    cases e;obtain ⟨a,rfl,ha⟩:=rx;obtain ⟨w,rfl,rw'⟩:=lg rs;obtain ⟨ws,ea,ra⟩:=s.cell _ _ a q ha;have x:d6 m H m (upd H a (.lst (ws++[w]))):=.put (zaZ ha) ea (by simp) (by simp);refine ⟨a,ws,w,rfl,rfl,ea,by rw [←ra.length];exact z,k _ _ m x (s.put ha ea (by simp) (by simp) ⟨_,b8,?_⟩) (by simp only [ap,ak])⟩;refine RelDs.tf x.tf _ _ (ra.append ?_);simp only [RelDs];exact ⟨w,[],rfl,rw',rfl⟩
   ·cases e
  ·cases e
 ·cases e
def b7 (g:FG)(c:FT)(f:FE):List D->Lo->ab->Option (List D×ab)
 |[],_,μ=>some ([],μ)
 |x::xs,ρ,μ=>(g (.v x) ρ μ).bind fun a=>(c a.1 a.2).bind fun b=>if b.1=true then (f a.1 b.2).bind fun y=>match y.1 with
   |.v d=>(b7 g c f xs a.1 y.2).bind fun r=>some (d::r.1,r.2)
   |_=>none
  else b7 g c f xs a.1 b.2
def dh (k:Nat)(ix:List Nat)(ρ:Lo):Lo:=List.replicate k none++ix.map fun i=>(ρ[i]?).join
def eW (ix:List Nat)(k:Nat)(i:FI)(g:FG)(c:FT)(f:FE):FE:=fun ρ μ=>(i ρ μ).bind fun a=>if a.1.length<=sizeLine then
 (b7 g c f a.1 (dh k ix ρ) a.2).bind fun r=>some (.p r.2.length,r.2++[.lst r.1]) else none
def jv:FT:=fun _ μ=>some (true,μ)
end HW
namespace HW
open PySem PySem.Spec PyProof.Rows L2
section
variable  {X:Cx}
theorem PE.imp {e:Expr}{t t':TE}(h:PE X e t)(k:∀{σ H Q},t' σ H Q->t σ H Q):PE X e t':=fun pins s σ H Q I q=>h pins s σ H Q I (k q)
theorem PT.imp {e:Expr}{t t':TT}(h:PT X e t)(k:∀{σ H Q},t' σ H Q->t σ H Q):PT X e t':=fun pins s σ H Q I q=>h pins s σ H Q I (k q)
theorem PW.imp {e:Expr}{t t':TT}(h:PW X e t)(k:∀{σ H Q},t' σ H Q->t σ H Q):PW X e t':=fun wh pins s σ H Q I q=>h wh pins s σ H Q I (k q)
theorem PA.imp {e:Tj}{t t':TA}(h:PA X e t)(k:∀{σ H Q},t' σ H Q->t σ H Q):PA X e t':=fun pos pins s σ H Q I q=>h pos pins s σ H Q I (k q)
theorem PS.imp {e:Stmt}{t t':TS}(h:PS X e t)(k:∀{D σ H},t' D σ H->t D σ H):PS X e t':=fun pins s σ H Q I q=>h pins s σ H Q I (k q)
theorem o9.imp {e:Tk}{t t':TS}(h:o9 X e t)(k:∀{D σ H},t' D σ H->t D σ H):o9 X e t':=fun pins s σ H Q I q=>h pins s σ H Q I (k q)
theorem PI.imp {tg e:Expr}{t t':TI}(h:PI X tg e t)(k:∀{σ H R},t' σ H R->t σ H R):PI X tg e t':=fun pins s σ H R I q=>h pins s σ H R I (k q)
theorem PG.imp {e:Expr}{t t':TG}(h:PG X e t)(k:∀{v σ H Q},t' v σ H Q->t v σ H Q):PG X e t':=fun pins s σ H v u Q I r q=>h pins s σ H v u Q I r (k q)
theorem Cp.imp {e:Tj}{t t':Co}(h:Cp X e t)(k:∀{v σ H Q},t' v σ H Q->t v σ H Q):Cp X e t':=fun pins s σ H v u Q I r q=>h pins s σ H v u Q I r (k q)
end
section
variable  {P:Program}{w:World}{H H0:Hp}{h h0:Heap}{a:Addr}{u:HO}{fs ex:Tf}
theorem fA.ne {b:Addr}{v:HO}(e:H a=some u)(hu:fA u)(q:H b=some v)(n:¬ fA v):b≠a:=fun z=>by
 rw [z,e] at q;cases q;exact n hu
theorem g9.frz (ok:g9 P w H h)(e:H a=some u)(hu:fA u):∃o,g9 P w (upd H a (.frz o u)) h:=by
 have ho:∃o,h.get? a=some o:=by
  have z:=ok a u e
  cases u with
  |lst xs=>obtain ⟨_,_,_,_,q⟩:=z;exact ⟨_,q⟩
  |set S n=>obtain ⟨o,_,_,_,q,_⟩:=z;exact ⟨_,q⟩
  |dK kvs=>obtain ⟨_,_,_,_,o,_,_,q,_⟩:=z;exact ⟨_,q⟩
  |dT kvs=>obtain ⟨_,_,_,_,o,_,_,q,_⟩:=z;exact ⟨_,q⟩
  |_=>exact hu.elim
 obtain ⟨o,ho⟩:=ho;refine ⟨o,fun b v q=>?_⟩
 have own:∀c y,H c=some (.own y)->upd H a (.frz o u) c=some (.own y):=fun c y r=>by rw [L2.au (fA.ne e hu r fun z=>z)];exact r
 have tup:∀c xs,H c=some (.tup xs)->upd H a (.frz o u) c=some (.tup xs):=fun c xs r=>by rw [L2.au (fA.ne e hu r fun z=>z)];exact r
 by_cases hb:b=a
 ·subst hb
  rw [L2.bD] at q;cases q;exact ⟨ho,(ok b u e).stay (fun c v _ q=>q) (fun c r=>own c _ r) tup⟩
 ·rw [L2.au hb] at q
  exact (ok b v q).stay (fun c v _ q=>q) (fun c r=>own c _ r) tup
theorem Un.frz {o:Obj}(un:Un fs ex H0 H h0 h)(e:H a=some u)(hu:fA u):Un fs ex H0 (upd H a (.frz o u)) h0 h where
 keep:=un.keep
 slot:=un.slot
 free:=fun b ob q n hx=>by
  have z:=un.free b ob q n hx;rw [L2.au (fun y=>by rw [y,e] at z;cases z)];exact z
 there:=un.there
 tups:=fun b xs q=>by rw [L2.au (fA.ne e hu (un.tups b xs q) fun z=>z)];exact un.tups b xs q
 frzs:=fun b ob v q=>by rw [L2.au (fA.ne e hu (un.frzs b ob v q) fun z=>z)];exact un.frzs b ob v q
 tbls:=fun b ps q=>by
  obtain ⟨more,r⟩:=un.tbls b ps q;exact ⟨more,by rw [L2.au (fA.ne e hu r fun z=>z)];exact r⟩
theorem aA.frz {s:Shared}(I:aA X pins σ H s)(e:H a=some u)(hu:fA u):∃o,aA X pins σ (upd H a (.frz o u)) s:=by
 obtain ⟨o,ok⟩:=g9.frz I.hok e hu
 have nn:∀b,H b=none->upd H a (.frz o u) b=none:=fun b z=>by rw [L2.au (fun y=>by rw [y,e] at z;cases z)];exact z
 refine ⟨o,I.ok,I.os,I.bare,Un.frz I.base e hu,I.loc,I.cell,nn _ I.free,fun x c q=>nn _ (I.freeC x c q),fun p hp=>?_,ok,I.len⟩;obtain ⟨q1,q2,q3⟩:=I.pin p hp;exact ⟨q1,nn _ q2,q3⟩
end
theorem u4 {e:Expr}{t:TE}(h:PE X e t):PE X e (Lu t):=fun pins s σ H Q I q=>by
 refine cV (h pins s σ H _ I q) fun v s1 hh=>?_;obtain ⟨x,H1,I1,r1,q1⟩:=hh;rcases q1 with q1|⟨a,u,e,hu,q1⟩
 ·exact ⟨x,H1,I1,r1,q1⟩
 ·obtain ⟨o,I2⟩:=aA.frz I1 e hu
  exact ⟨x,_,I2,r1,q1 o⟩
theorem cP.fz {P:Program}{w:World}{K:zac}{mg:Td}{base:Heap}{CX:xu}{k:Nat}{f:Addr}{fd:FuncData}{ps:Tn}{sp:Sp}(F:cP P w K mg base CX k f fd ps sp) :
  cP P w K mg base CX k f fd ps (fun vs H Q E=>sp vs H (Du Q) E):=by
 refine ⟨fun vs H Q E h=>F.len vs H _ E h,fun A outer s H args us vs Q E hr he hb hv hs=>?_⟩;refine zbg (F.run A outer s H args us vs (Du Q) E hr he hb hv hs) fun r s' hq=>?_
 cases r with
 |error e=>exact hq
 |ok fl =>
  cases fl with
  |next=>exact hq
  |brk=>exact hq
  |cont=>exact hq
  |ret u =>
   obtain ⟨v,H',os,bare,un,hok,rv,q⟩:=hq;rcases q with q|⟨a,u',e,hu,q⟩
   ·exact ⟨v,H',os,bare,un,hok,rv,q⟩
   ·obtain ⟨o,ok⟩:=g9.frz hok e hu
    exact ⟨v,_,os,bare,Un.frz un e hu,ok,rv,q o⟩
theorem rN.okP {P:Program}{w:World}{K:zac}{mg:Td}{base:Heap}{x qual:Str}{st:Stmt}{f:Addr}{fd:FuncData}{N ps:Tn}{k:Nat}{b:FS}(F:rN K x qual st f fd)(S:aC N ps (ai st))
  (hbody:∀(cdv:Value) (A:Around) (outer:List Env) (s:Shared) (H:Hp) (E:XK),da k (A.deeper (envOfC qual (ai st) s.heap.objs.size f cdv))->o9 (mn mK P w K mg base N qual (ai st) f cdv A outer s H E).nox (ck st) (gg K b)) :
  cP P w K mg base mK (k+1) f fd ps (yV K ps.length (dM N.length b)):=by
 have G:cP P w K mg base mK (k+1) f fd ps (fun vs H Q _=>vs.length=ps.length/\gg K b {nx:=fun _ H'=>Q .non H',rt:=Q} (L2.gS N vs) H) :=
  L2.rN.ok F S (fun vs H Q E h=>h.1) fun cdv A outer s H vs Q E hr h=>⟨_,hbody cdv A outer s H E hr,h.2⟩
 refine (cP.fz G).imp fun vs H Q E ⟨ds,d,hn,r,e,k⟩=>⟨by rw [←r.length];exact hn,F7 (E:=E) r e k⟩
theorem Dl {X:Cx}{tg l:Expr}{tl:TE}(hl:PE X l tl):PI X tg l (Kt X.K tl):=by
 intro pins s σ H R I h;refine cV (hl pins s σ H _ I h) fun v s1 hh=>?_;obtain ⟨x,H1,I1,r1,q1⟩:=hh;obtain ⟨a,e,q1⟩:=q1;subst e;cases r1;rcases q1 with ⟨⟨xs,hq⟩,q⟩|⟨⟨xs,hq⟩,q⟩
 ·obtain ⟨its,rv,p,hz⟩:=I1.list hq
  refine zb3 p.isList ?_;refine ⟨s1.heap.objs.size,[s1.heap.objs.size],_,_,H1,rfl,I1.kept (t':=s1.toks) fun b o e=>zae _ e,xD a _,⟨_,zal _ rfl,rfl,rfl⟩,fun b hb=>?_,q⟩
  have e:b=s1.heap.objs.size:=by simpa using hb
  subst e;exact I1.fpOk (zam _) (I1.hok.fresh (zam _))
 ·obtain ⟨its,rv,p,hz⟩:=I1.tuple hq
  refine wpAny_pyIter_tuple (show s1.heap.IsTuple a its.toArray from p) ?_;refine ⟨s1.heap.objs.size,[s1.heap.objs.size],_,_,H1,rfl,I1.kept (t':=s1.toks) fun b o e=>zae _ e,uN a _,⟨_,zal _ rfl,rfl,rfl⟩,fun b hb=>?_,q⟩
  have e:b=s1.heap.objs.size:=by simpa using hb
  subst e;exact I1.fpOk (zam _) (I1.hok.fresh (zam _))
theorem fR {env:Env}:∀{names:List (Str×NameKind)} {x:Str},
  (names.map fun (n,k)=>if (k == NameKind.free && env.scope.kind == .function && env.kindOf n == some .cell) then (n,NameKind.cell) else (n,k)).lookup x =
   (names.lookup x).map fun k=>if (k == NameKind.free && env.scope.kind == .function && env.kindOf x == some .cell) then NameKind.cell else k
 |[],_=>rfl
 |(n,k)::r,x=>by
  have ih:=@fR env r x
  show List.lookup x ((if (k == NameKind.free && env.scope.kind == .function && env.kindOf n == some .cell)=true then (n,NameKind.cell) else (n,k))::_)=_
  cases hx:x == n with
  |true =>
   have:x=n:=eq_of_beq hx;subst this;simp only [zbH,hx,zbu]
   by_cases hc:(k == NameKind.free && env.scope.kind == .function && env.kindOf x == some .cell)=true
   ·simp [hc]
   ·simp [hc]
  |false =>
   by_cases hc:(k == NameKind.free && env.scope.kind == .function && env.kindOf n == some .cell)=true
   ·rw [if_pos hc];simp only [zbH,hx];exact ih
   ·rw [if_neg hc];simp only [zbH,hx];exact ih
theorem iJ {env:Env}:∀(names:List (Str×NameKind)) (acc:List (Str×Addr)),(∀x c,acc.lookup x=some c->env.cells.lookup x=some c) ->
  (∀y∈names,y.2=.free->∃c,env.cells.lookup y.1=some c) ->
  ∃cl:List (Str×Addr),(forIn names acc fun (x:Str×NameKind) (r:List (Str×Addr))=>(if (x.2 == NameKind.free)=true then do let a ←cellOf env x.1;pure (ForInStep.yield ((x.1,a)::r)) else pure (ForInStep.yield r):Sem (ForInStep (List (Str×Addr)))))=pure cl /\
   (∀x c,cl.lookup x=some c->env.cells.lookup x=some c)/\(∀x c,acc.lookup x=some c->∃c',cl.lookup x=some c')/\∀y∈names,y.2=.free->∃c,cl.lookup y.1=some c
 |[],acc,h1,_=>⟨acc,rfl,h1,fun x c e=>⟨c,e⟩,fun y hy=>by simp at hy⟩
 |(n,k)::r,acc,h1,h2=>by
  by_cases hk:k=.free
  ·subst hk
   obtain ⟨c,hc⟩:=h2 (n,.free) zai rfl
   have step:∀x c',List.lookup x ((n,c)::acc)=some c'->env.cells.lookup x=some c':=fun x c' e=>by
    rw [zbH] at e
    cases hx:x == n with
    |true=>rw [hx] at e;have:x=n:=eq_of_beq hx;subst this;rw [hc];exact e
    |false=>rw [hx] at e;exact h1 x c' e
   obtain ⟨cl,e,p1,p2,p3⟩:=iJ r ((n,c)::acc) step fun y hy=>h2 y (zaj _ hy);have hn:∃c',List.lookup n ((n,c)::acc)=some c':=⟨c,by rw [zbH];simp⟩;refine ⟨cl,?_,p1,fun x c' e'=>?_,fun y hy hf=>?_⟩
   ·rw [List.forIn_cons]
    show ((cellOf env n >>= fun a=>pure (ForInStep.yield ((n,a)::acc))) >>= _)=_
    unfold cellOf;rw [hc];exact e
   ·cases hx:x == n with
    |true=>have:x=n:=eq_of_beq hx;subst this;obtain ⟨c'',q⟩:=hn;exact p2 _ _ q
    |false=>exact p2 x c' (by rw [zbH,hx];exact e')
   ·rcases zak.mp hy with rfl|hy
    ·obtain ⟨c'',q⟩:=hn;exact p2 _ _ q
    ·exact p3 y hy hf
  ·obtain ⟨cl,e,p1,p2,p3⟩:=iJ r acc h1 fun y hy=>h2 y (zaj _ hy)
   have hb:(k == NameKind.free)=false:=by simpa using hk
   refine ⟨cl,?_,p1,p2,fun y hy hf=>?_⟩
   ·rw [List.forIn_cons]
    simp only [hb,zap,if_false];exact e
   ·rcases zak.mp hy with rfl|hy
    ·exact absurd hf hk
    ·exact p3 y hy hf
theorem oS {env:Env}{scope:Scope}(h:∀y∈scope.names,y.2=.free->∃c,env.cells.lookup y.1=some c) :
  ∃cl,closureFor scope env=pure cl/\(∀x c,cl.lookup x=some c->env.cells.lookup x=some c)/\∀y∈scope.names,y.2=.free->∃c,cl.lookup y.1=some c:=by
 obtain ⟨cl,e,p1,_,p3⟩:=iJ (env:=env) scope.names [] (fun x c e=>by simp at e) h;refine ⟨cl,?_,p1,p3⟩;unfold closureFor
 first
  |(show (forIn scope.names [] _ >>= fun r=>pure r)=_;rw [e];rfl)
  |(simp only [bind_pure];exact e)
structure aN (osc scope:Scope)(own:Tn)(caps:Tn):Prop where
 kind:scope.kind=.function
 cell:∀y∈scope.names,y.2=.cell->scope.names.lookup y.1=some .cell
 loc:∀y∈scope.names,y.2=.local->scope.names.lookup y.1=some .local
 free:∀y∈scope.names,y.2=.free->osc.names.lookup y.1=some .cell\/osc.names.lookup y.1=some .free
 cap:∀y∈caps,(y,NameKind.free)∈scope.names/\scope.names.lookup y=some .free
 nd:(own++caps).Nodup
def aL (X:Cx)(scope:Scope)(cl:List (Str×Addr))(C:Addr)(s₂:Shared)(H₂:Hp)(fp:Tf)(N:Tn):Cx :=
 {X with N:=N,s₀:=s₂,H₀:=H₂,env:=compEnvC scope cl C X.env,outer:=X.stack,stack:=X.stack,ex:=fp,fn:=fun x=>scope.names.lookup x == some .cell,pn:=[],xe:=fun _ _=>False}
theorem oh {names:List (Str×NameKind)}{x:Str}{k:NameKind}(h:names.lookup x=some k):(x,k)∈names:=PySem.mem_of_lookup h
structure Ln (X:Cx)(scope:Scope)(lo:Nat)(cl:List (Str×Addr)):Prop where
 src:∀x c,cl.lookup x=some c->(X.env.cells.lookup x=some c/\scope.names.lookup x≠some .cell)\/lo < c
 inj:∀x y c,cl.lookup x=some c->cl.lookup y=some c->x=y
 has:∀y∈scope.names,y.2=.free\/y.2=.cell->∃c,cl.lookup y.1=some c
 fr:∀y,scope.names.lookup y=some .free->∃c,cl.lookup y=some c/\X.env.cells.lookup y=some c
theorem oW {X:Cx}{scope:Scope}{own caps:Tn}(n:aN X.env.scope scope own caps){cl:List (Str×Addr)}{C:Addr}{x:Str}{k:NameKind}(h:(compEnvC scope cl C X.env).kindOf x=some k)(hk:k=.cell\/k=.free) :
  ∃k,(x,k)∈scope.names/\(k=.free\/k=.cell):=by
 have h':(relabel scope X.env).names.lookup x=some k:=h;unfold relabel at h';rw [fR] at h'
 cases q:scope.names.lookup x with
 |none=>rw [q] at h';cases h'
 |some k0 =>
  rw [q,zbu] at h';have m:=oh q;have h2:=Option.some.inj h'
  by_cases hf:k0=.free
  ·subst hf;exact ⟨_,m,.inl rfl⟩
  ·have hb:(k0 == NameKind.free)=false:=by simpa using hf
   simp only [hb,zc8,zap,if_false] at h2;rcases hk with hk|hk
   ·exact ⟨_,m,.inr (h2.trans hk)⟩
   ·exact absurd (h2.trans hk) hf
theorem vU {X:Cx}{scope:Scope}{cl:List (Str×Addr)}{C:Addr}{x:Str}(h:scope.names.lookup x=some .free) :
  (compEnvC scope cl C X.env).kindOf x=some .cell\/(compEnvC scope cl C X.env).kindOf x=some .free:=by
 show (relabel scope X.env).names.lookup x=some .cell\/(relabel scope X.env).names.lookup x=some .free
 unfold relabel;rw [fR,h];simp only [zbu];split
 ·exact .inl rfl
 ·exact .inr rfl
theorem Ln.ne {H:Hp}{scope:Scope}{lo b:Nat}{cl:List (Str×Addr)}(B:Ln X scope lo cl)(f:lK X pins H b)(hb:b < lo){x:Str}{c:Addr}(e:cl.lookup x=some c):c≠b:=by
 rcases B.src x c e with ⟨z,_⟩|z
 ·exact f.2.2.2.2.1 x c z
 ·exact Ne.symm (zan (zb7 hb z))
theorem B6 {X:Cx}{H₂:Hp}{s₂:Shared}{scope:Scope}{own caps:Tn}{cl:List (Str×Addr)}{C:Addr}{fp:Tf}(I:aA X pins σ H₂ s₂)(n:aN X.env.scope scope own caps)
  (B:Ln X scope s₂.heap.objs.size cl) (hC:s₂.heap.objs.size<=C) (hfs:∀b∈fp,b < s₂.heap.objs.size) (hf:∀b∈fp,lK X pins H₂ b) :
  (aL X scope cl C s₂ H₂ fp (own++caps)).Ok:=by
 refine ⟨I.ok.mod,n.kind,I.ok.glob,I.ok.blt,hC,B.inj,fun x hx=>?_,fun x c h _=>?_,I.ok.hd,I.ok.frames,.inl rfl,fun b hb=>⟨zan (zaB (hfs b hb) hC),fun x c e=>B.ne (hf b hb) (hfs b hb) e⟩,
  I.bs,zbF I.ok.bsz I.sz,fun b o e hb=>?_,fun b hb z=>?_,I.stack,I.stkFree⟩
 ·rcases hx with hx|hx
  ·obtain ⟨k,m,hk⟩:=oW n hx (.inl rfl);exact B.has _ m hk
  ·obtain ⟨k,m,hk⟩:=oW n hx (.inr rfl);exact B.has _ m hk
 ·rcases B.src x c ‹_› with ⟨_,z⟩|z
  ·exact absurd (eq_of_beq h) z
  ·exact zbK z
 ·rcases (hf b hb).2.2.2.1 with z|z
  ·exact I.ok.noex b o e z
  ·exact absurd (zaB (zaB (zah e) I.ok.bsz) z) (zaR _)
 ·rcases zak.mp (I.stkSub b z) with e|e
  ·exact (hf b hb).2.1 e
  ·exact (hf b hb).2.2.1 e
def gA (own:L2.St)(ix:List Nat)(σ:L2.St):L2.St:=own++ix.map fun i=>(σ[i]?).join
theorem uo {X:Cx}{H₂:Hp}{s₂:Shared}{scope:Scope}{own caps:Tn}{ix:List Nat}{cl:List (Str×Addr)}{C:Addr}{fp:Tf}{h₁:Heap}{tk:Nat}(I:aA X pins σ H₂ s₂)(n:aN X.env.scope scope own caps)
  (B:Ln X scope s₂.heap.objs.size cl) (hC:s₂.heap.objs.size<=C) (hfs:∀b∈fp,b < s₂.heap.objs.size) (hf:∀b∈fp,lK X pins H₂ b)
  (hown:∀x c,cl.lookup x=some c->s₂.heap.objs.size < c->h₁.IsCell c none) (hix:ix.length=caps.length) (hix2:∀(j i:Nat) y,ix[j]?=some i->caps[j]?=some y->X.N[i]?=some y)
  (old:∀b o,s₂.heap.get? b=some o->h₁.get? b=some o) {m:Td} (hns:h₁.Ns C m) :
  aA (aL X scope cl C s₂ H₂ fp (own++caps)) [] (gA (own.map fun _=>none) ix σ) H₂ {s₂ with heap:=h₁,toks:=tk}:=by
 refine ⟨B6 I n B hC hfs hf,rfl,I.bare,Un.kept old,⟨m,hns,fun i x v e1 e2 hv=>?_⟩,fun x c e=>?_,I.hok.fresh hC,fun x c e=>(B.src x c e).elim (fun z=>I.freeC x c z.1) fun z=>I.hok.fresh (zbK z),fun p hp=>?_,I.hok.kept old,?_⟩
 ·have e1:(own++caps)[i]?=some x:=e1
  unfold gA at e2
  by_cases hi:i < own.length
  ·rw [zaq (by simpa using hi),zaG] at e2
   cases q:own[i]? with
   |none=>rw [q] at e2;cases e2
   |some y=>rw [q] at e2;cases e2
  ·rw [zaT (by simpa using hi)] at e2
   rw [zaT (by omega)] at e1;simp only [zaf] at e2;generalize i - own.length=j at e1 e2;rw [zaG] at e2
   cases q:ix[j]? with
   |none=>rw [q] at e2;cases e2
   |some i' =>
    rw [q] at e2;have e3:(σ[i']?).join=some v:=Option.some.inj e2
    have e4:σ[i']?=some (some v):=by
     cases z:σ[i']? with
     |none=>rw [z] at e3;cases e3
     |some w'=>rw [z] at e3;cases w' with
      |none=>cases e3
      |some _=>cases e3;rfl
    have hN:=hix2 j i' x q e1;obtain ⟨mm,hl⟩:=n.cap x (zaZ e1);have hk:X.env.kindOf x=some .cell\/X.env.kindOf x=some .free:=n.free _ mm rfl;obtain ⟨m0,hn0,hl0⟩:=I.loc
    have vis:Mb X.env.scope x:=by
     rcases hk with hk|hk
     ·exact .inr (.inl hk)
     ·exact .inr (.inr hk)
    obtain ⟨u,r,l⟩:=hl0 i' x v hN e4 vis;refine ⟨u,r,.inr ⟨vU hl,?_⟩⟩;obtain ⟨c,hc,hcx⟩:=B.fr x hl;rcases l with ⟨l,_⟩|⟨_,c',hc',z⟩
    ·exfalso
     rcases hk with hk|hk <;> rw [hk] at l <;> cases l
    ·rw [hc'] at hcx;cases hcx
     obtain ⟨o,ho,hd⟩:=z;exact ⟨_,hc,o,old _ _ ho,hd⟩
 ·rcases B.src x c e with ⟨z,_⟩|z
  ·obtain ⟨v,o,ho,hd⟩:=I.cell x c z
   exact ⟨v,o,old _ _ ho,hd⟩
  ·exact ⟨none,hown x c e z⟩
 ·exact absurd (show p∈([]:Tc) from hp) (by simp)
 ·show (gA _ ix σ).length=(own++caps).length
  unfold gA;simp [hix]
def mU (X:Cx)(ifs:Tj)(t:TT):Prop :=
 ∀(pins:Tc) (s:Shared) (σ:L2.St) (H:Hp) (Q:Bool->Hp->Prop),aA X pins σ H s->t σ H Q ->
  wpAny (model X.prog X.w) X.A (forIn ifs true fun c r=>if r=true then do let ok ←isTrue c X.env (eval c X.env);pure (ForInStep.yield ok) else pure (ForInStep.yield r)) (TP X pins σ Q) X.xe s
def Jo:TT:=fun _ H Q=>Q true H
theorem Ax:mU X [] Jo:=fun pins s σ H Q I h=>wpAny_tests_nil ⟨H,I,h⟩
theorem Aw {c:Expr}{t:TT}(h:PT X c t):mU X [c] t:=fun pins s σ H Q I q=>wpAny_tests_one (h pins s σ H Q I q)
theorem ue {prog:Program}{w:World}{A:Around}{R:Result->Shared->Prop}{s:Shared}{elt target iter:Expr}{ifs:Tj}{scope:Scope}{pos:Pos}{it acc:Value}{env:Env}(I:Nat->Shared->Prop)
  (turn:∀n s,I n s->wpAny (model prog w) A (pyNext it) (fun r s₁=>match r with
   |none=>R (.ok .next) s₁
   |some v=>wpAny (model prog w) A (letOwnedTupleGo target it v) (fun _ s₁'=>wpAny (model prog w) A (assign target env v) (fun _ s₂ =>
     wpAny (model prog w) A (forIn ifs true fun c r=>if r=true then do let ok ←isTrue c env (eval c env);pure (ForInStep.yield ok) else pure (ForInStep.yield r)) (fun ok s₃ =>
      if ok=true then wpAny (model prog w) A (eval elt env) (fun x s₄ =>
       wpAny (model prog w) A (call (.builtin "list.append") [acc,x]) (fun _ s₅=>∃m,m < n/\I m s₅) (fun _ _=>False) s₄) (fun _ _=>False) s₃
      else ∃m,m < n/\I m s₃) (fun _ _=>False) s₂) (fun _ _=>False) s₁') (fun _ _=>False) s₁) (fun _ _=>False) s)
  (n:Nat) (h:I n s):codeAny (model prog w) A (.compLoop (.ListComp elt [⟨target,iter,ifs,0⟩] scope pos) 0 it acc env) R s:=by
 refine codeAny_loop rfl I (fun n s hI=>?_) n h
 show wpAny _ A ((compTurn (.ListComp elt [⟨target,iter,ifs,0⟩] scope pos) 0 it acc env).onRaise (fun x=>do noteFrame x env;theTreesLotGoes x)) _ _ s
 refine wpAny_noted ?_;rw [compTurn_list];refine zaa (wpAny_standAt (zaa (zbz (turn n s hI) (fun r s₁ h₁=>?_) fun _ _ h'=>h'.elim)))
 cases r with
 |none=>exact zad h₁
 |some v =>
  refine zaa (zbz h₁ (fun _ s₁' h₁'=>?_) fun _ _ h'=>h'.elim);refine zaa (zbz h₁' (fun _ s₂ h₂=>zaa (zbz h₂ (fun ok s₃ h₃=>?_) fun _ _ h'=>h'.elim)) fun _ _ h'=>h'.elim)
  cases ok with
  |false=>exact zad ⟨rfl,h₃⟩
  |true =>
   exact zaa (zaa (zbz h₃ (fun x s₄ h₄=>zaa (zbz h₄ (fun _ s₅ h₅=>zad (zad ⟨rfl,h₅⟩)) fun _ _ h'=>h'.elim)) fun _ _ h'=>h'.elim))
theorem aA.adopt {X:Cx}{H:Hp}{s:Shared}{a:Addr}{o:HO}(I:aA X pins σ H s)(f:lK X pins H a)(hs:X.s₀.heap.objs.size<=a)(new:bm X.prog X.w (upd H a o) s.heap a o):aA X pins σ (upd H a o) s:=by
 obtain ⟨f0,f1,f2,f3,f4,f5⟩:=f
 have ne:∀b u,H b=some u->b≠a:=fun b u e z=>by rw [z,f0] at e;cases e
 refine ⟨I.ok,I.os,I.bare,⟨I.base.keep,I.base.slot,fun b ob q n hx'=>?_,I.base.there,fun b xs q=>?_,fun b ob u q=>?_,fun b ps q=>?_⟩,I.loc,I.cell,?_,fun x c q=>?_,fun p hp=>?_,fun b u q=>?_,I.len⟩
 ·rw [L2.au (zan (zaB (zah q) hs))];exact I.base.free b ob q n hx'
 ·rw [L2.au (ne _ _ (I.base.tups b xs q))];exact I.base.tups b xs q
 ·rw [L2.au (ne _ _ (I.base.frzs b ob u q))];exact I.base.frzs b ob u q
 ·obtain ⟨more,r⟩:=I.base.tbls b ps q
  exact ⟨more,by rw [L2.au (ne _ _ r)];exact r⟩
 ·rw [L2.au (Ne.symm f1)];exact I.free
 ·rw [L2.au (f4 x c q)];exact I.freeC x c q
 ·obtain ⟨q1,q2,q3⟩:=I.pin p hp
  exact ⟨q1,by rw [L2.au (f5 p hp)];exact q2,q3⟩
 ·by_cases hb:b=a
  ·subst hb;rw [L2.bD] at q;cases q;exact new
  ·rw [L2.au hb] at q
   exact (I.hok b u q).stay (fun c v _ q=>q) (fun c r=>by rw [L2.au (ne _ _ r)];exact r) fun c xs r=>by rw [L2.au (ne _ _ r)];exact r
def zv (ix:List Nat)(own:Tn)(wi:TI)(g:TG)(tc:TT)(te:TE):TE:=fun σ H Q=>wi σ H fun J H1 =>
 ∃W:Nat->Nat->List V->L2.St->Hp->Prop,(∃n,W 0 n [] (gA (own.map fun _=>none) ix σ) H1)/\∀i n ys τ H,W i n ys τ H ->
  (J.stop i H/\∀p,H p=none->Q (.ref p) (upd H p (.lst ys))) \/
  (J.go i H/\ys.length < sizeLine/\∀x H',J.yld i H x H'->g x τ H' fun τ2 H2=>tc τ2 H2 fun b H3=>if b=true then te τ2 H3 fun y H4=>∃n',n' < n/\W (i+1) n' (ys++[y]) τ2 H4 else ∃n',n' < n/\W (i+1) n' ys τ2 H3)
theorem jO:∀(names:List (Str×NameKind)) (k:Nat) (acc:List (Str×Addr)),cellsFrom k names acc=cellsFrom k names []++acc
 |[],_,_=>rfl
 |(x,d)::r,k,acc=>by
  unfold cellsFrom;split
  ·rw [jO r (k+1) ((x,k)::acc),jO r (k+1) [(x,k)],zbD];rfl
  ·exact jO r k acc
theorem oU {x:Str}{c:Addr}:∀(names:List (Str×NameKind)) (k:Nat) (acc:List (Str×Addr)),(x,c)∈cellsFrom k names acc->(x,c)∈acc\/(x,NameKind.cell)∈names
 |[],_,_,h=>.inl h
 |(y,d)::r,k,acc,h=>by
  unfold cellsFrom at h;split at h
  ·rename_i hk
   rcases oU r (k+1) _ h with h|h
   ·rcases zak.mp h with e|e
    ·cases e;rw [←eq_of_beq hk];exact .inr zai
    ·exact .inl e
   ·exact .inr (zaj _ h)
  ·exact (oU r k acc h).imp id (zaj _)
theorem ir {x:Str}:∀(a b:List (Str×Addr)),(a++b).lookup x=(a.lookup x).or (b.lookup x)
 |[],_=>rfl
 |(y,c)::a,b=>by
  rw [zbW,zbH,zbH];split
  ·rfl
  ·exact ir a b
theorem yQ {X:Cx}{s₂ s₃:Shared}{H₂:Hp}{E:Tb}{scope:Scope}{own caps:Tn}{cl:List (Str×Addr)}{Q:Env->Shared->Prop}(I:aA X pins σ H₂ s₂)(n:aN X.env.scope scope own caps)(hs:s₂.heap.objs.size < s₃.heap.objs.size)
  (hcl:∀x c,cl.lookup x=some c->X.env.cells.lookup x=some c) (hcl2:∀y∈scope.names,y.2=.free->∃c,cl.lookup y.1=some c)
  (hQ:∀(h₁:Heap) (cl':List (Str×Addr)) (m:Td),(∀b o,s₃.heap.get? b=some o->h₁.get? b=some o)->h₁.Ns s₃.heap.objs.size m->Ln X scope s₂.heap.objs.size cl'->(∀x c,cl'.lookup x=some c->s₂.heap.objs.size < c->h₁.IsCell c none) ->
   Q {compEnvC scope cl' s₃.heap.objs.size X.env with scope:=scope} {s₃ with heap:=h₁}) :
  wpAny (model X.prog X.w) X.A (newFunctionEnv scope X.env.globals cl [] X.env.qual none .none (some X.env)) Q E s₃:=by
 simp only [newFunctionEnv,zcE,if_true];refine zaa (wpAny_alloc ?_);refine zaa (wpAny_layCells _ (fun name kind cells=>by cases hkc:kind == NameKind.cell <;> simp [hkc]) _ _ _ _ ?_);have ok:=cellsFrom_ok scope.names (s₃.heap.push {cls:=.type "dict",data:=.dict #[]}) (s₃.heap.objs.size+1) [] ⟨fun _ _ hm=>(nomatch hm),List.Pairwise.nil⟩ (by rw [zaX];exact zam _);have e1:=jO scope.names (s₃.heap.push {cls:=.type "dict",data:=.dict #[]}).objs.size cl;refine zad (hQ _ _ _ (fun b o e=>pushCells_keeps _ _ b o (zae _ e)) ((Heap.Ns.new s₃.heap (.type "dict")).keeps (pushCells_keeps _ _)) ?_ ?_)
 all_goals
  rw [e1];generalize hO:cellsFrom (s₃.heap.push {cls:=.type "dict",data:=.dict #[]}).objs.size scope.names []=O at ok e1;have own:∀{x c},O.lookup x=some c->(pushCells (s₃.heap.push {cls:=.type "dict",data:=.dict #[]}) scope.names).IsCell c none/\s₂.heap.objs.size < c:=fun {x c} h=>⟨(ok.empty x c (PySem.mem_of_lookup h)).1,zb7 hs (ok.empty x c (PySem.mem_of_lookup h)).2⟩
  have ol:∀{x c},cl.lookup x=some c->c < s₂.heap.objs.size:=fun {x c} h=>by
   obtain ⟨v,o,q,_⟩:=I.cell x c (hcl x c h);exact zah q
  have spl:∀{x c},(O++cl).lookup x=some c->O.lookup x=some c\/(O.lookup x=none/\cl.lookup x=some c):=fun {x c} h=>by
   rw [ir] at h
   cases q:O.lookup x with
   |none=>rw [q] at h;exact .inr ⟨rfl,h⟩
   |some d=>rw [q] at h;exact .inl h
 ·refine ⟨fun x c h=>?_,fun x y c h1 h2=>?_,fun y hy hk=>?_,fun y hy=>?_⟩
  ·rcases spl h with h|⟨h1,h2⟩
   ·exact .inr (own h).2
   ·refine .inl ⟨hcl x c h2,fun z=>?_⟩
    have:=zcl scope.names (s₃.heap.push {cls:=.type "dict",data:=.dict #[]}).objs.size [] (.inl z);rw [hO,h1] at this;cases this
  ·rcases spl h1 with h1|⟨_,h1⟩ <;> rcases spl h2 with h2|⟨_,h2⟩
   ·exact PySem.name_of_addr ok.apart (PySem.mem_of_lookup h1) (PySem.mem_of_lookup h2)
   ·exact absurd (zb7 (own h1).2 (ol h2)) (zaR _)
   ·exact absurd (zb7 (own h2).2 (ol h1)) (zaR _)
   ·exact I.ok.inj x y c (hcl x c h1) (hcl y c h2)
  ·rw [ir]
   cases q:O.lookup y.1 with
   |some d=>exact ⟨d,rfl⟩
   |none =>
    rcases hk with hk|hk
    ·exact hcl2 y hy hk
    ·have:=zcl scope.names (s₃.heap.push {cls:=.type "dict",data:=.dict #[]}).objs.size [] (.inl (n.cell y hy hk))
     rw [hO,q] at this;cases this
  ·obtain ⟨c,hc⟩:=hcl2 _ (oh hy) rfl
   refine ⟨c,?_,hcl y c hc⟩;rw [ir]
   cases q:O.lookup y with
   |none=>exact hc
   |some d =>
    rw [←hO] at q;rcases oU _ _ _ (PySem.mem_of_lookup q) with z|z
    ·cases z
    ·have:=n.cell _ z rfl
     rw [hy] at this;cases this
 ·intro x c h hc
  rcases spl h with h|⟨_,h⟩
  ·exact (own h).1
  ·exact absurd (zb7 hc (ol h)) (zaR _)
theorem p9 {X:Cx}{pins:Tc}{σ:L2.St}{s₂:Shared}{H₂:Hp}{E:Tb}{elt tg iter:Expr}{ifs:Tj}{scope:Scope}{pos:Pos}{own caps:Tn}{ix:List Nat}{g:TG}{tc:TT}{te:TE}{Q:VK}{cl:List (Str×Addr)}
  {it:Addr} {fp:Tf} {tn:Nat->Heap->Prop} {J:It} {RR:Value->Addr->Result->Shared->Prop}
  (hc:X.calm=true) (I:aA X pins σ H₂ s₂) (T:yS X.prog X.w X.K tg J fp it tn) (st:tn 0 s₂.heap) (hf:∀b∈fp,lK X pins H₂ b) (n:aN X.env.scope scope own caps)
  (hcl:∀x c,cl.lookup x=some c->X.env.cells.lookup x=some c) (hcl2:∀y∈scope.names,y.2=.free->∃c,cl.lookup y.1=some c)
  (hix:ix.length=caps.length) (hix2:∀(j i:Nat) y,ix[j]?=some i->caps[j]?=some y->X.N[i]?=some y)
  (hg:∀cl C,PG (aL X scope cl C s₂ H₂ fp (own++caps)) tg g) (ht:∀cl C,mU (aL X scope cl C s₂ H₂ fp (own++caps)) ifs tc) (he:∀cl C,PE (aL X scope cl C s₂ H₂ fp (own++caps)) elt te)
  (W:Nat->Nat->List V->L2.St->Hp->Prop) (hW0:∃n,W 0 n [] (gA (own.map fun _=>none) ix σ) H₂)
  (hW:∀i n ys τ H,W i n ys τ H->(J.stop i H/\∀p,H p=none->Q (.ref p) (upd H p (.lst ys))) \/
   (J.go i H/\ys.length < sizeLine/\∀x H',J.yld i H x H'->g x τ H' fun τ2 H2=>tc τ2 H2 fun b H3=>if b=true then te τ2 H3 fun y H4=>∃n',n' < n/\W (i+1) n' (ys++[y]) τ2 H4 else ∃n',n' < n/\W (i+1) n' ys τ2 H3))
  (hRR:∀(D C:Addr) (s':Shared) m H' ys,s'.heap.Ns C m->aA X pins σ (upd H' D (.lst ys)) s'->lK X pins (upd H' D (.lst ys)) C->Q (.ref D) (upd H' D (.lst ys))->RR (.ref D) C (.ok .next) s') :
  wpAny (model X.prog X.w) X.A (newList []) (fun acc s₃=>wpAny (model X.prog X.w) X.A (newFunctionEnv scope X.env.globals cl [] X.env.qual none .none (some X.env)) (fun cenv s₄ =>
   codeAny (model X.prog X.w) X.A (.compStart (.ListComp elt [⟨tg,iter,ifs,0⟩] scope pos) 0 (.ref it) acc {cenv with scope:=relabel scope X.env}) (RR acc cenv.locals) s₄) E s₃) E s₂:=by
 refine zaJ (yQ (s₂:=s₂) I n (by show s₂.heap.objs.size < (s₂.heap.push _).objs.size;rw [zaX];exact zb9 _) hcl hcl2 fun h₁ cl m₁ kp1 hns1 B hown=>?_);dsimp only at hns1 kp1 ⊢;generalize hH2:s₂.heap.push {cls:=.type "list",dict:=none,data:=.seq ([]:Te).toArray}=H2 at hns1 kp1 ⊢
 have hC:H2.objs.size=s₂.heap.objs.size+1:=by rw [←hH2,zaX]
 have below:∀b,b < s₂.heap.objs.size->b≠H2.objs.size/\b≠s₂.heap.objs.size:=fun b hb=>⟨by rw [hC];exact zan (zbe hb),zan hb⟩
 have hDC:s₂.heap.objs.size≠H2.objs.size:=by rw [hC];exact zan (zb9 _)
 have old:∀b o,s₂.heap.get? b=some o->h₁.get? b=some o:=fun b o e=>kp1 b o (hH2 ▸ zae _ e);have hacc:h₁.get? s₂.heap.objs.size=some {cls:=.type "list",data:=.seq ([]:Te).toArray}:=kp1 _ _ (hH2 ▸ zal _ rfl)
 have fplt:∀b∈fp,b < s₂.heap.objs.size:=fun b hb=>by obtain ⟨o,e,_⟩:=T.obj _ _ st b hb;exact zah e
 have hCle:s₂.heap.objs.size<=H2.objs.size:=by rw [hC];exact zbZ _
 have hfC:∀b∈fp,b < H2.objs.size:=fun b hb=>zaB (fplt b hb) hCle;have st1:tn 0 h₁:=T.keep 0 _ _ st fun b _ o e=>old b o e;have I₀:=uo (tk:=s₂.toks) I n B hCle fplt hf hown hix hix2 old hns1;clear hns1 kp1
 have cellD:∀x c,cl.lookup x=some c->c≠s₂.heap.objs.size:=fun x c e=>by
  rcases B.src x c e with ⟨z,_⟩|z
  ·obtain ⟨v,o,q,_⟩:=I.cell x c z;exact zan (zah q)
  ·exact Ne.symm (zan z)
 have stkD:∀b∈yy X.stack,b < s₂.heap.objs.size:=fun b hb=>by
  rcases zak.mp (I.stkSub b hb) with e|e
  ·rw [e];exact I.lt
  ·obtain ⟨_,o,q,_⟩:=I.funs.mem e;exact zah q
 have fpok:∀{ps:Tc} {H:Hp},(∀b∈fp,H b=none)->(∀p∈ps,p.1∉fp)->∀b∈fp,lK (aL X scope cl H2.objs.size s₂ H₂ fp (own++caps)) ps H b:=fun {ps H} hn hp b hb =>
  ⟨hn b hb,zan (hfC b hb),fun z=>by
   rcases zak.mp (I.stkSub b z) with e|e
   ·exact (hf b hb).2.1 e
   ·exact (hf b hb).2.2.1 e,.inl hb,fun x c e=>B.ne (hf b hb) (fplt b hb) e,fun p hp' z=>hp p (by simpa [aL] using hp') (z ▸ hb)⟩
 have Dfp:s₂.heap.objs.size∉fp:=fun z=>zaR _ (fplt _ z)
 have pinD:∀{H:Hp} {h:Heap} {its:Te} {k:Nat},H s₂.heap.objs.size=none->h.get? s₂.heap.objs.size=some {cls:=.type "list",data:=.seq its.toArray k} ->
   ∀p∈[((s₂.heap.objs.size,{cls:=.type "list",data:=.seq its.toArray k}):Addr×Obj)],h.get? p.1=some p.2/\H p.1=none/\p.1≠H2.objs.size/\p.1∉yy X.stack/\∀v,p.2.data≠.cell v:=fun {H h its k} hn e p hp=>by
  rw [zat.mp hp];exact ⟨e,hn,hDC,fun z=>zaR _ (stkD _ z),fun v z=>by cases z⟩
 have cR:∀s₃:Shared,s₃={s₂ with heap:=h₁} ->
   codeAny (model X.prog X.w) X.A (.compLoop (.ListComp elt [⟨tg,iter,ifs,0⟩] scope pos) 0 (.ref it) (.ref s₂.heap.objs.size) (compEnvC scope cl H2.objs.size X.env)) (RR (.ref s₂.heap.objs.size) H2.objs.size) s₃:=by
  rintro s₃ rfl;obtain ⟨n0,hW0⟩:=hW0
  refine ue (fun n s'=>∃i ys its k τ H,aA (aL X scope cl H2.objs.size s₂ H₂ fp (own++caps)) [(s₂.heap.objs.size,{cls:=.type "list",data:=.seq its.toArray k})] τ H s'/\tn i s'.heap/\(∀b∈fp,H b=none)/\aW ys its/\ys.length<=sizeLine/\W i n ys τ H) ?_ n0
   ⟨0,[],[],0,_,H₂,I₀.pins_of (pinD (I.hok.fresh (zam _)) hacc),st1,fun b hb=>(hf b hb).1,.nil,za9 _,hW0⟩
  rintro n s3 ⟨i,ys,its,k,τ,H,I3,st3,fr3,rv,hz,w3⟩;have hD3:=I3.pin _ (zaC _ zai)
  have pfp:∀p∈[((s₂.heap.objs.size,{cls:=.type "list",data:=.seq its.toArray k}):Addr×Obj)],p.1∉fp:=fun p hp=>by rw [zat.mp hp];exact Dfp
  rcases hW i n ys τ H w3 with ⟨stop,q⟩|⟨go,hlt,step⟩
  ·refine cV (T.done (aL X scope cl H2.objs.size s₂ H₂ fp (own++caps)) rfl rfl rfl hc i _ s3 τ H (fun _ _=>False) I3 (fpok fr3 pfp) st3 stop) fun r s4 hh=>?_
   obtain ⟨hr,I4⟩:=hh;subst hr;have hD4:=I4.pin _ (zaC _ zai);obtain ⟨m,hm,_⟩:=id I4.loc;have IX:aA X pins σ H s4:=I.call' (ch:=fp) I4.os I4.base I4.hok I4.bare fun b hb=>⟨(hf b hb).2.2.2.1,(hf b hb).2.1,(hf b hb).2.2.2.2⟩;have fD:lK X pins H s₂.heap.objs.size:=I.fpOk (zam _) hD4.2.1;have IY:=aA.adopt (o:=.lst ys) IX fD I.sz ⟨hz,its,k,rv,hD4.1⟩;exact hRR _ _ s4 m H ys hm IY (I.fpOk hCle (by rw [L2.au (Ne.symm hDC)];exact I4.free)) (q _ hD4.2.1)
  ·refine cV (T.item (aL X scope cl H2.objs.size s₂ H₂ fp (own++caps)) rfl rfl rfl hc i _ s3 τ H (fun _ _=>False) I3 (fpok fr3 pfp) st3 go) fun r s4 hh=>?_
   obtain ⟨u,hr,h4⟩:=hh;subst hr;refine cV h4 fun _ s5 hh=>?_;obtain ⟨x,H5,I5,r5,y5,st5,fr5⟩:=hh;have I5':=I5.pinned (fpok fr5 pfp) (T.obj _ _ st5);refine cV (hg _ _ _ s5 τ H5 x u _ I5' r5 (step x H5 y5)) fun _ s6 hh=>?_;obtain ⟨σ6,H6,I6,q6⟩:=hh;refine cV (ht _ _ _ s6 σ6 H6 _ I6 q6) fun ok s7 hh=>?_;obtain ⟨H7,I7,q7⟩:=hh;have memD:∀p∈kq fp s5.heap,p.1≠s₂.heap.objs.size:=fun p hp z=>Dfp (z ▸ (pQ hp).1)
   cases ok with
   |true =>
    refine cV (he _ _ _ s7 σ6 H7 _ I7 q7) fun u8 s8 hh=>?_;obtain ⟨y,H8,I8,r8,n',hn',w8⟩:=hh;have hD8:=I8.pin (s₂.heap.objs.size,_) (zaC _ (zbo _ zai));refine append_at (hsz:=by rw [zaz,←rv.length];exact hz) hD8.1 fun h9 sb hD9=>?_;have I8':aA (aL X scope cl H2.objs.size s₂ H₂ fp (own++caps)) (kq fp s5.heap) σ6 H8 s8:=I8.pins_of fun p hp=>I8.pin p (zaC _ (zaC _ hp))
    have I9:aA (aL X scope cl H2.objs.size s₂ H₂ fp (own++caps)) (kq fp s5.heap) σ6 H8 {s8 with heap:=h9}:=I8'.turned (t':=s8.toks) (it:=s₂.heap.objs.size) (fun b o hb e=>sb.extBut b o hb e) hD8.2.1 hDC (.inr (zam _))
     cellD fun p hp=>memD p (by simpa [aL] using hp)
    have e9:(its.toArray.push u8)=(its++[u8]).toArray:=by simp
    rw [e9] at hD9;refine ⟨n',hn',i+1,ys++[y],its++[u8],k+1,σ6,H8,I9.pins_of (pinD hD8.2.1 hD9),T.keep _ _ _ st5 fun b hb o e=>(I9.pin (b,o) (zaC _ (em hb e))).1,fun b hb=>?_,rv.append (.cons r8 .nil),by rw [zaW];exact hlt,w8⟩;obtain ⟨o,e,d⟩:=T.obj _ _ st5 b hb;exact (I9.pin (b,o) (zaC _ (em hb e))).2.1
   |false =>
    obtain ⟨n',hn',w8⟩:=q7;have hD7:=I7.pin (s₂.heap.objs.size,_) (zaC _ (zbo _ zai));refine ⟨n',hn',i+1,ys,its,k,σ6,H7,I7.pins_of (pinD hD7.2.1 hD7.1),T.keep _ _ _ st5 fun b hb o e=>(I7.pin (b,o) (zaC _ (zaC _ (em hb e)))).1,fun b hb=>?_,rv,hz,w8⟩;obtain ⟨o,e,d⟩:=T.obj _ _ st5 b hb;exact (I7.pin (b,o) (zaC _ (zaC _ (em hb e)))).2.1
 exact codeAny_compStart_list (cR _ rfl) (T.self _ 0 _ _ _ st1 (cR _ rfl))
theorem AE {X:Cx}{elt tg iter:Expr}{ifs:Tj}{scope:Scope}{pos:Pos}{own caps:Tn}{ix:List Nat}{wi:TI}{g:TG}{tc:TT}{te:TE}(hc:X.calm=true)(n:aN X.env.scope scope own caps)
  (hix:ix.length=caps.length) (hix2:∀(j i:Nat) y,ix[j]?=some i->caps[j]?=some y->X.N[i]?=some y) (hi:PI X tg iter wi)
  (hb:∀cl C s₂ H₂ fp,PG (aL X scope cl C s₂ H₂ fp (own++caps)) tg g/\mU (aL X scope cl C s₂ H₂ fp (own++caps)) ifs tc/\PE (aL X scope cl C s₂ H₂ fp (own++caps)) elt te)
  (hs:∀x,foldedSetIterable iter X.env x=pure x:=by intro _;rfl):PE X (.ListComp elt [⟨tg,iter,ifs,0⟩] scope pos) (zv ix own wi g tc te):=by
 intro pins s σ H Q I h;obtain ⟨cl,hclos,hcl,hcl2⟩:=oS (env:=X.env) (scope:=scope) fun y hy hf=>I.ok.has y.1 (n.free y hy hf);rw [eval_ListComp];refine wpAny_comprehension_free (use:=none) rfl hs hclos n.kind n.loc (cV (hi pins s σ H _ I h) fun v s1 h1=>cV h1 fun itv s2 h2=>?_);obtain ⟨it,fp,tn,J,H2,e,I2,T,st2,f2,W,w0,turn⟩:=h2;subst e;refine p9 (RR:=fun acc C=>compPost (model X.prog X.w) X.A X.xe none (EP X pins σ Q) acc C) hc I2 T st2 f2 n hcl hcl2 hix hix2 (fun cl C=>(hb cl C s2 H2 fp).1) (fun cl C=>(hb cl C s2 H2 fp).2.1) (fun cl C=>(hb cl C s2 H2 fp).2.2) W w0 turn ?_;intro D C s' m H' ys hm IY fC q;refine ⟨m,hm,fun h' sb=>⟨.ref D,_,IY.turned (t':=s'.toks) (it:=C) (fun b o hb e=>sb.extBut b o hb e) fC.1 fC.2.1 fC.2.2.2.1 fC.2.2.2.2.1 fC.2.2.2.2.2,rfl,q⟩⟩
theorem At {X:Cx}{elt tg iter:Expr}{ifs:Tj}{scope:Scope}{pos spos py:Pos}{own caps:Tn}{ix:List Nat}{wi:TI}{g:TG}{tc:TT}{te:TE}{i:Nat}{y:Str}(hc:X.calm=true)(n:aN X.env.scope scope own caps)
  (hN:X.N.Nodup) (hy:X.N[i]?=some y) (hyl:Ep X.env.scope y)
  (hix:ix.length=caps.length) (hix2:∀(j i:Nat) y,ix[j]?=some i->caps[j]?=some y->X.N[i]?=some y) (hi:PI X tg iter wi)
  (hb:∀cl C s₂ H₂ fp,PG (aL X scope cl C s₂ H₂ fp (own++caps)) tg g/\mU (aL X scope cl C s₂ H₂ fp (own++caps)) ifs tc/\PE (aL X scope cl C s₂ H₂ fp (own++caps)) elt te)
  (hsw:swapsWith (.ListComp elt [⟨tg,iter,ifs,0⟩] scope pos) (some (.Name y py)) spos.line X.env=pure true)
  (hs:∀x,foldedSetIterable iter X.env x=pure x:=by intro _;rfl) (hf:X.fn y=true\/X.env.scope.names.lookup y=some .local:=by first|exact .inl rfl|exact .inr rfl|assumption) :
  PS X (.Assign [.Name y py] (.ListComp elt [⟨tg,iter,ifs,0⟩] scope pos) spos) (zw (zv ix own wi g tc te) (pW i)):=by
 intro pins s σ H Z I h;obtain ⟨cl,hclos,hcl,hcl2⟩:=oS (env:=X.env) (scope:=scope) fun y hy hf=>I.ok.has y.1 (n.free y hy hf);rw [exec_Assign_Name_used _ _ _ _ hsw];refine zaa (wpAny_standAt (zaa ?_))
 show wpAny _ X.A (do let _ ←comprehension (.ListComp elt [⟨tg,iter,ifs,0⟩] scope pos) scope X.env _ (newList []) false (eval iter X.env) (some (assign (.Name y py) X.env))) _ _ s
 refine zaa (zbz (wpAny_comprehension_free (use:=some (assign (.Name y py) X.env)) (Q:=fun _ s'=>SP X pins Z .next s') rfl hs hclos n.kind n.loc (cV (hi pins s σ H _ I h) fun v s1 h1=>cV h1 fun itv s2 h2=>?_)) (fun _ s' hq=>zad (zad hq)) fun _ _ e=>e);obtain ⟨it,fp,tn,J,H2,e,I2,T,st2,f2,W,w0,turn⟩:=h2;subst e;refine p9 (Q:=fun x H1=>pW i x σ H1 Z.nx) (RR:=fun acc C=>compPost (model X.prog X.w) X.A X.xe (some (assign (.Name y py) X.env)) (fun _ s'=>SP X pins Z .next s') acc C) hc I2 T st2 f2 n hcl hcl2 hix hix2 (fun cl C=>(hb cl C s2 H2 fp).1) (fun cl C=>(hb cl C s2 H2 fp).2.1) (fun cl C=>(hb cl C s2 H2 fp).2.2) W w0 turn ?_;intro D C s' m H' ys hm IY fC q
 show wpAny _ X.A (assign (.Name y py) X.env (.ref D)) _ _ _
 refine wpAny_assign_Name (pH (v:=.ref D) IY hN hy hyl rfl (fun s'' IZ ⟨a,sa,ha⟩=>?_) hf)
 have nC:C≠a:=by
  rcases ha with ha|ha
  ·rw [ha];exact fC.2.1
  ·exact Ne.symm (fC.2.2.2.2.1 _ _ ha)
 refine ⟨m,hm.sameBut sa nC,fun h' sb=>⟨_,_,IZ.turned (t':=s''.toks) (it:=C) (fun b o hb e=>sb.extBut b o hb e) fC.1 fC.2.1 fC.2.2.2.1 fC.2.2.2.2.1 fC.2.2.2.2.2,q⟩⟩
section
variable  {K:zac}{m:Tf}{σ:L2.St}{H:Hp}{Q:VK}{μ:ab}
theorem Gb {B:Bool->Hp->Prop}(h:eQ K jv σ H B):Jo σ H B:=by
 obtain ⟨ρ,μ,m,d,μ',hl,hs,e,k⟩:=h;cases e;exact k H m .refl hs
theorem yP {ρ:Lo}{k:Nat}{ix:List Nat}{own:Tn}(hk:own.length=k)(h:dH K m H ρ σ):dH K m H (dh k ix ρ) (gA (own.map fun _=>none) ix σ):=by
 subst hk;unfold dh gA;refine ⟨by simp,fun i d e=>?_⟩
 by_cases hi:i < own.length
 ·rw [zaq (by simpa using hi),zcK] at e
  split at e <;> cases e
 ·rw [zaT (by simpa using hi)] at e
  rw [zaT (by simpa using hi)];simp only [List.length_replicate,zaf] at e ⊢;generalize i - own.length=j at e ⊢;rw [zaG] at e ⊢
  cases q:ix[j]? with
  |none=>rw [q] at e;cases e
  |some i' =>
   rw [q] at e;have e3:(ρ[i']?).join=some d:=Option.some.inj e
   have e4:ρ[i']?=some (some d):=by
    cases z:ρ[i']? with
    |none=>rw [z] at e3;cases e3
    |some w'=>rw [z] at e3;cases w' with
     |none=>cases e3
     |some _=>cases e3;rfl
   obtain ⟨v,q1,q2⟩:=h.2 i' d e4;exact ⟨v,by simp [q1],q2⟩
theorem wn {ix:List Nat}{k:Nat}{own:Tn}{fi:FI}{g:FG}{c:FT}{f:FE}(hk:own.length=k)(h:aw K (eW ix k fi g c f) σ H Q):zv ix own (zX K fi) (qC K g) (eQ K c) (aw K f) σ H Q:=by
 obtain ⟨ρ,μ,m,d,μ',hl,hs,e,kk⟩:=h;obtain ⟨⟨xs,μ1⟩,e1,e⟩:=zab.mp e;split at e
 ·rename_i hz
  obtain ⟨⟨r,μr⟩,e2,e⟩:=zab.mp e;cases e;refine ⟨ρ,μ,m,xs,μ1,hl,hs,e1,fun J P H1 m1 x1 s1 ok p1=>?_⟩
  refine ⟨fun i n ys τ H=>n=xs.length - i/\i<=xs.length/\ys.length<=i/\P H/\∃ρ μ m ds r',dH K m H ρ τ/\aP K m H μ/\RelDs K H ds ys/\b7 g c f (xs.drop i) ρ μ=some (r',μr)/\r=ds++r' /\
   ∀v H' m',d6 m H m' H'->aP K m' H' (μr++[.lst r])->ap K m' H' (.p μr.length) v->Q v H',
   ⟨_,rfl,za9 _,zam _,p1,_,μ1,m1,[],r,yP hk (hl.ext x1),s1,by simp only [RelDs],by simpa using e2,rfl,fun v H' m' x2 s2 r2=>kk v H' m' (x1.trans x2) s2 r2⟩,?_⟩
  rintro i n ys τ H ⟨rfl,hi,hy,p,ρ,μ,m,ds,r',hl,hs,rs,e,er,kk⟩
  by_cases hlt:i < xs.length
  ·have hx:xs[i]?=some xs[i]:=zar hlt
   rw [zbi hlt,b7] at e;obtain ⟨⟨ρ1,μ2⟩,q1,e⟩:=zab.mp e;obtain ⟨⟨b,μ3⟩,q2,e⟩:=zab.mp e;refine .inr ⟨ok.go i _ H hx p,Nat.lt_of_le_of_lt hy (zaB hlt hz),fun x H' y=>?_⟩;obtain ⟨rfl,rx⟩:=ok.yld i _ H x H' hx p y;refine ⟨ρ,μ,m,.v xs[i],ρ1,μ2,hl,hs,rx,q1,fun σ1 H1 m1 x1 s1 l1=>?_⟩;refine ⟨ρ1,μ2,m1,b,μ3,l1,s1,q2,fun H2 m2 x2 s2=>?_⟩
   cases b with
   |true =>
    simp only [if_true] at e ⊢;obtain ⟨⟨y',μ4⟩,q3,e⟩:=zab.mp e;refine ⟨ρ1,μ3,m2,y',μ4,l1.ext x2,s2,q3,fun w H3 m3 x3 s3 r3=>?_⟩
    cases y' with
    |p _=>cases e
    |s _ _=>cases e
    |x _=>cases e
    |f _ _=>cases e
    |v d1 =>
     obtain ⟨⟨r1,μ5⟩,q4,e⟩:=zab.mp e;cases e;have x4:=(x1.trans x2).trans x3
     refine ⟨_,(by omega:xs.length - (i+1) < xs.length - i),rfl,hlt,by rw [zaW];exact Nat.succ_le_succ hy,ok.st _ _ x4.tf p,ρ1,μ4,m3,ds++[d1],r1,l1.ext (x2.trans x3),s3,
      (RelDs.tf x4.tf _ _ rs).append (by simp only [RelDs];exact ⟨w,[],rfl,r3,rfl⟩),q4,by rw [er,zbD];rfl,fun v H' m' x5 s5 r5=>kk v H' m' (x4.trans x5) s5 r5⟩
   |false =>
    simp only [zap,if_false] at e ⊢;have x4:=x1.trans x2;exact ⟨_,(by omega:xs.length - (i+1) < xs.length - i),rfl,hlt,Nat.le_succ_of_le hy,ok.st _ _ x4.tf p,ρ1,μ3,m2,ds,r',l1.ext x2,s2,RelDs.tf x4.tf _ _ rs,e,er,fun v H' m' x5 s5 r5=>kk v H' m' (x4.trans x5) s5 r5⟩
  ·have:i=xs.length:=by omega
   subst this;rw [zdm,b7] at e;cases e;refine .inl ⟨ok.stop _ H p (zam _),fun p hp=>?_⟩;obtain ⟨a1,a2,a3⟩:=e7 hs rs hp;rw [zbm] at er;subst er;exact kk _ _ _ a1 a2 a3
 ·cases e
end
mutual
def eX:D->PyData
 |.non=>.none
 |.bl b=>.bool b
 |.int i=>.int i
 |.str x=>.str x
 |.tup xs=>.tuple (toPys xs)
 |.fl xs=>.list (toPys xs)
 |.fd _ _=>.none
 |.key _=>.none
def toPys:List D->List PyData
 |[]=>[]
 |x::xs=>eX x::toPys xs
end
mutual
def cW:Nat->D->Bool
 |_,.non=>true
 |_,.bl _=>true
 |_,.int _=>true
 |_,.str x=>PyData.strOk x
 |_,.fd _ _=>false
 |_,.key _=>false
 |0,.tup _=>false
 |0,.fl _=>false
 |n+1,.tup xs=>okDs n xs
 |n+1,.fl xs=>okDs n xs
def okDs:Nat->List D->Bool
 |_,[]=>true
 |n,x::xs=>cW n x && okDs n xs
end
mutual
def dG:D->D->Bool
 |.bl a,y=>match y with|.bl b=>a == b|.int j=>(if a then 1 else 0) == j|_=>false
 |.int i,y=>match y with|.bl b=>i == (if b then 1 else 0)|.int j=>i == j|_=>false
 |.str x,y=>match y with|.str z=>x == z|_=>false
 |.tup xs,y=>match y with|.tup ys=>eqDs xs ys|_=>false
 |.fl xs,y=>match y with|.fl ys=>eqDs xs ys|_=>false
 |_,y=>match y with|.non=>true|.fd _ _=>true|.key _=>true|_=>false
def eqDs:List D->List D->Bool
 |[],[]=>true
 |x::xs,y::ys=>dG x y && eqDs xs ys
 |_,_=>false
end
mutual
theorem vL:∀a b:D,PyData.eqv (eX a) (eX b)=dG a b
 |.non,b=>by cases b <;> simp [eX,PyData.eqv,dG]
 |.bl _,b=>by cases b <;> simp [eX,PyData.eqv,dG]
 |.int _,b=>by cases b <;> simp [eX,PyData.eqv,dG]
 |.str _,b=>by cases b <;> simp [eX,PyData.eqv,dG]
 |.tup xs,b=>by
  cases b with
  |tup ys=>simp only [eX,PyData.eqv,dG];exact eqDs_py xs ys
  |_=>simp [eX,PyData.eqv,dG]
 |.fl xs,b=>by
  cases b with
  |fl ys=>simp only [eX,PyData.eqv,dG];exact eqDs_py xs ys
  |_=>simp [eX,PyData.eqv,dG]
 |.fd _ _,b=>by cases b <;> simp [eX,PyData.eqv,dG]
 |.key _,b=>by cases b <;> simp [eX,PyData.eqv,dG]
theorem eqDs_py:∀a b:List D,PyData.eqvAll (toPys a) (toPys b)=eqDs a b
 |[],b=>by cases b <;> simp [toPys,PyData.eqvAll,eqDs]
 |x::xs,b=>by
  cases b with
  |nil=>simp [toPys,PyData.eqvAll,eqDs]
  |cons y ys=>simp only [toPys,PyData.eqvAll,eqDs,vL x y,eqDs_py xs ys]
end
mutual
theorem AO:∀(n:Nat) (d:D),cW n d=true->(eX d).canLay0=true/\(eX d).depth<=n
 |_,.non,_=>by simp [eX,PyData.canLay0,PyData.depth]
 |_,.bl _,_=>by simp [eX,PyData.canLay0,PyData.depth]
 |_,.int _,_=>by simp [eX,PyData.canLay0,PyData.depth]
 |n,.str x,h=>by
  have h:PyData.strOk x=true:=by cases n <;> simpa [cW] using h
  simp [eX,PyData.canLay0,PyData.depth,h]
 |n,.fd _ _,h=>by cases n <;> simp [cW] at h
 |n,.key _,h=>by cases n <;> simp [cW] at h
 |0,.tup _,h=>by simp [cW] at h
 |0,.fl _,h=>by simp [cW] at h
 |n+1,.tup xs,h=>by
  obtain ⟨a,b⟩:=okDs_py n xs (by simpa [cW] using h);simp only [eX,PyData.canLay0,PyData.depth];exact ⟨a,by omega⟩
 |n+1,.fl xs,h=>by
  obtain ⟨a,b⟩:=okDs_py n xs (by simpa [cW] using h);simp only [eX,PyData.canLay0,PyData.depth];exact ⟨a,by omega⟩
theorem okDs_py:∀(n:Nat) (ds:List D),okDs n ds=true->PyData.canLayAll0 (toPys ds)=true/\PyData.depthAll (toPys ds)<=n
 |_,[],_=>by simp [toPys,PyData.canLayAll0,PyData.depthAll]
 |n,x::xs,h=>by
  have h':cW n x=true/\okDs n xs=true:=by cases n <;> simpa [okDs] using h
  obtain ⟨a1,b1⟩:=AO n x h'.1;obtain ⟨a2,b2⟩:=okDs_py n xs h'.2;simp only [toPys,PyData.canLayAll0,PyData.depthAll,a1,a2,zdh,true_and];omega
end
theorem jE {d:D}(h:cW 60 d=true):SeqAt.shaped (eX d)=true:=by
 obtain ⟨a,b⟩:=AO 60 d h;unfold SeqAt.shaped;rw [a,Bool.true_and];exact zaA (by omega)
section
variable  {X:Cx}{pins:Tc}{σ:L2.St}{H:Hp}{s:Shared}
mutual
theorem sy (I:aA X pins σ H s):∀(k:Nat) (d:D) (v:V) (u:Value),cW k d=true->ak X.K H d v->aY v u->∃as,Reads s.heap u (eX d) as
 |_,.non,v,u,_,h,r=>by simp only [ak] at h;subst h;cases r;exact ⟨_,.none⟩
 |_,.bl b,v,u,_,h,r=>by simp only [ak] at h;subst h;cases r;exact ⟨_,.bool b⟩
 |_,.int i,v,u,_,h,r=>by simp only [ak] at h;subst h;obtain ⟨t,rfl⟩:=r;exact ⟨_,.int i t⟩
 |_,.str x,v,u,_,h,r=>by simp only [ak] at h;subst h;obtain ⟨t,rfl⟩:=r;exact ⟨_,.str x t⟩
 |_,.fd _ _,v,u,hk,h,r=>by simp [cW] at hk
 |_,.key _,v,u,hk,h,r=>by simp [cW] at hk
 |0,.tup xs,v,u,hk,h,r=>by simp [cW] at hk
 |0,.fl xs,v,u,hk,h,r=>by simp [cW] at hk
 |k+1,.tup xs,v,u,hk,h,r=>by
  simp only [ak] at h;obtain ⟨a,vs,rfl,q,h⟩:=h;cases r;obtain ⟨its,rv,⟨o,e,c,n,hd⟩,_⟩:=I.tuple q;obtain ⟨as,ra⟩:=readss_of I k xs vs its (by simpa [cW] using hk) h rv;exact ⟨_,.tuple e c hd (by simpa using ra)⟩
 |k+1,.fl xs,v,u,hk,h,r=>by
  simp only [ak] at h;obtain ⟨a,vs,rfl,q,h⟩:=h;cases r;obtain ⟨its,rv,⟨o,n,e,c,_,hd⟩,_⟩:=I.list q.sq;obtain ⟨as,ra⟩:=readss_of I k xs vs its (by simpa [cW] using hk) h rv;exact ⟨_,.list e c hd (by simpa using ra)⟩
theorem readss_of (I:aA X pins σ H s):∀(k:Nat) (ds:List D) (vs:List V) (us:Te),okDs k ds=true->RelDs X.K H ds vs->aW vs us->∃as,ReadsAll s.heap us (toPys ds) as
 |_,[],vs,us,_,h,r=>by simp only [RelDs] at h;subst h;cases r;exact ⟨_,.nil⟩
 |k,d::ds,vs,us,hk,h,r=>by
  have hk:cW k d=true/\okDs k ds=true:=by cases k <;> simpa [okDs] using hk
  simp only [RelDs] at h;obtain ⟨v,vr,rfl,h1,h2⟩:=h
  cases r with
  |cons r1 r2 =>
   obtain ⟨as,q1⟩:=sy I k d v _ hk.1 h1 r1;obtain ⟨bs,q2⟩:=readss_of I k ds vr _ hk.2 h2 r2;exact ⟨_,.cons q1 q2⟩
end
end
def kX:R->ab->Option D
 |.v d,_=>some d
 |.p n,μ=>match μ[n]? with|some (.lst xs)=>some (.fl xs)|some (.fz xs)=>some (.fl xs)|_=>none
 |_,_=>none
def fL (neg:Bool):R->R->ab->Option (R×ab):=fun x y μ=>(kX x μ).bind fun a=>(kX y μ).bind fun b=>if (cW 60 a && cW 60 b)=true then some (.v (.bl (if neg then !dG a b else dG a b)),μ) else none
def C8 (K:zac)(neg:Bool):R2:=fun v u H Q=>∃m μ x y d,aP K m H μ/\ap K m H x v/\ap K m H y u/\fL neg x y μ=some (.v (.bl d),μ)/\Q (.bl d) H
theorem DN {K:zac}{neg:Bool}:pC K (fL neg) (C8 K neg):=by
 intro m H μ x y d μ' v u Q s rx ry e k;have e0:=e;unfold fL at e;obtain ⟨a,e1,e⟩:=zab.mp e;obtain ⟨b,e2,e⟩:=zab.mp e;split at e
 ·cases e
  exact ⟨m,μ,x,y,_,s,rx,ry,e0,k _ H m .refl s (by simp only [ap,ak])⟩
 ·cases e
theorem hG {X:Cx}{H:Hp}{s:Shared}{m:Tf}{μ:ab}{x:R}{d:D}{v:V}{u:Value}(I:aA X pins σ H s)(S:aP X.K m H μ)(r:ap X.K m H x v)(ru:aY v u)(e:kX x μ=some d)(hk:cW 60 d=true):∃as,Reads s.heap u (eX d) as:=by
 cases x with
 |v d'=>cases e;exact sy I 60 _ _ _ hk r ru
 |s _ _=>cases e
 |x _=>cases e
 |f _ _=>cases e
 |p n =>
  have hl:∃xs,d=.fl xs/\jU (.p n) μ=some xs:=by
   simp only [kX] at e;split at e
   ·rename_i xs q;cases e;exact ⟨xs,rfl,by simp [jU,q]⟩
   ·rename_i xs q;cases e;exact ⟨xs,rfl,by simp [jU,q]⟩
   ·cases e
  obtain ⟨xs,rfl,e2⟩:=hl;obtain ⟨a,vs,rfl,q,rr⟩:=ip S r e2;cases ru;obtain ⟨its,rv,⟨o,n',e,c,_,hd⟩,_⟩:=I.list q;obtain ⟨as,ra⟩:=readss_of I 59 xs vs its (by simpa [cW] using hk) rr rv;exact ⟨_,.list e c hd (by simpa using ra)⟩
theorem qK {X:Cx}(hu:X.A.units+64 < cLine):jS X (compareOp .Eq) (C8 X.K false):=by
 intro pins s σ H v u v' u' Q I rv ru q;obtain ⟨m,μ,x,y,d,S,rx,ry,e,q⟩:=q;unfold fL at e;obtain ⟨a,e1,e⟩:=zab.mp e;obtain ⟨b,e2,e⟩:=zab.mp e;split at e
 ·rename_i z
  rw [zbp] at z;cases e;obtain ⟨as,r1⟩:=hG I S rx rv e1 z.1;obtain ⟨bs,r2⟩:=hG I S ry ru e2 z.2;exact eq_dataH r1 r2 (jE z.1) (jE z.2) hu ⟨_,H,I,by rw [vL];rfl,q⟩
 ·cases e
theorem u5 {X:Cx}(hu:X.A.units+64 < cLine):jS X (compareOp .NotEq) (C8 X.K true):=by
 intro pins s σ H v u v' u' Q I rv ru q;obtain ⟨m,μ,x,y,d,S,rx,ry,e,q⟩:=q;unfold fL at e;obtain ⟨a,e1,e⟩:=zab.mp e;obtain ⟨b,e2,e⟩:=zab.mp e;split at e
 ·rename_i z
  rw [zbp] at z;cases e;obtain ⟨as,r1⟩:=hG I S rx rv e1 z.1;obtain ⟨bs,r2⟩:=hG I S ry ru e2 z.2;exact ne_dataH r1 r2 (jE z.1) (jE z.2) hu ⟨_,H,I,by rw [vL];rfl,q⟩
 ·cases e
def ng (neg:Bool)(c:D):R->ab->Option (R×ab):=fun x μ=>match c,x with
 |.non,.v .non=>some (.v (.bl (!neg)),μ)
 |.bl b,.v (.bl a)=>some (.v (.bl (if neg then !(a == b) else a == b)),μ)
 |_,_=>some (.v (.bl neg),μ)
def C7 (neg:Bool)(c:V):R2:=fun x y H Q=>y=c/\Q (.bl (if neg then !decide (x=c) else decide (x=c))) H
section
variable  {X:Cx}
theorem sU:jS X (compareOp .Is) (C7 false .non):=G8
theorem sS:jS X (compareOp .IsNot) (C7 true .non):=Dv
end
theorem Hx {K:zac}{m:Tf}{H:Hp}{neg:Bool}{c:D}{cv v:V}{x d:R}{μ μ':ab}(hc:(c=.non/\cv=.non)\/∃b,c=.bl b/\cv=.bl b)(r:ap K m H x v)(e:ng neg c x μ=some (d,μ')) :
  μ'=μ/\d=.v (.bl (if neg then !decide (v=cv) else decide (v=cv))):=by
 have nn:∀d0,d0≠.non->ak K H d0 v->v≠.non:=fun d0 h1 h2 z=>by
  subst z;cases d0 <;> simp only [ak] at h2 <;> first|exact h1 rfl|(obtain ⟨_,_,_,h,_⟩:=h2;cases h;done)|(obtain ⟨_,_,h,_⟩:=h2;cases h;done)|(obtain ⟨_,h,_⟩:=h2;cases h;done)|cases h2
 have nb:∀d0 b,(∀a,d0≠.bl a)->ak K H d0 v->v≠.bl b:=fun d0 b h1 h2 z=>by
  subst z;cases d0 <;> simp only [ak] at h2 <;> first|exact h1 _ rfl|(obtain ⟨_,_,_,h,_⟩:=h2;cases h;done)|(obtain ⟨_,_,h,_⟩:=h2;cases h;done)|(obtain ⟨_,h,_⟩:=h2;cases h;done)|cases h2
 have np:∀n,ap K m H (.p n) v->v≠.non/\∀b,v≠.bl b:=fun n ⟨a,e,_⟩=>⟨fun z=>(by rw [e] at z;cases z),fun b z=>(by rw [e] at z;cases z)⟩;have ns:∀b' n,ap K m H (.s b' n) v->v≠.non/\∀b,v≠.bl b:=fun b' n ⟨a,_,e,_⟩=>⟨fun z=>(by rw [e] at z;cases z),fun b z=>(by rw [e] at z;cases z)⟩;have nx:∀c,ap K m H (.x c) v->v≠.non/\∀b,v≠.bl b:=fun c ⟨a,_,_,e,_⟩=>⟨fun z=>(by rw [e] at z;cases z),fun b z=>(by rw [e] at z;cases z)⟩;have nf:∀L ds,ap K m H (.f L ds) v->v≠.non/\∀b,v≠.bl b:=fun L ds ⟨a,_,_,_,_,e,_⟩=>⟨fun z=>(by rw [e] at z;cases z),fun b z=>(by rw [e] at z;cases z)⟩;rcases hc with ⟨rfl,rfl⟩|⟨b,rfl,rfl⟩
 ·cases x with
  |v d0 =>
   by_cases h0:d0=.non
   ·subst h0
    have r:v=.non:=by simpa only [ap,ak] using r
    subst r;cases e;cases neg <;> simp
   ·have:=nn d0 h0 r
    cases d0 <;> first|exact absurd rfl h0|(cases e;cases neg <;> simp [this])
  |p n=>have:=(np n r).1;cases e;cases neg <;> simp [this]
  |s b' n=>have:=(ns b' n r).1;cases e;cases neg <;> simp [this]
  |x c=>have:=(nx c r).1;cases e;cases neg <;> simp [this]
  |f L ds=>have:=(nf L ds r).1;cases e;cases neg <;> simp [this]
 ·cases x with
  |v d0 =>
   by_cases h0:∃a,d0=.bl a
   ·obtain ⟨a,rfl⟩:=h0
    have r:v=.bl a:=by simpa only [ap,ak] using r
    subst r;cases e;cases neg <;> cases a <;> cases b <;> simp
   ·have:=nb d0 b (fun a z=>h0 ⟨a,z⟩) r
    cases d0 <;> first|exact absurd ⟨_,rfl⟩ h0|(cases e;cases neg <;> simp [this])
  |p n=>have:=(np n r).2 b;cases e;cases neg <;> simp [this]
  |s b' n=>have:=(ns b' n r).2 b;cases e;cases neg <;> simp [this]
  |x c=>have:=(nx c r).2 b;cases e;cases neg <;> simp [this]
  |f L ds=>have:=(nf L ds r).2 b;cases e;cases neg <;> simp [this]
theorem E6 {K:zac}{H:Hp}{Q:VK}{fa:FE}{neg:Bool}{c:D}{cv:V}(hc:(c=.non/\cv=.non)\/∃b,c=.bl b/\cv=.bl b)(h:aw K (iE (ng neg c) fa) σ H Q):Iy (C7 neg cv) (aw K fa) (tC cv) σ H Q:=by
 obtain ⟨ρ,μ,m,d,μ',hl,hs,e,k⟩:=h;obtain ⟨⟨x,μ1⟩,e1,e⟩:=zab.mp e;refine ⟨ρ,μ,m,x,μ1,hl,hs,e1,fun v H1 m1 x1 s1 r1=>⟨rfl,?_⟩⟩;obtain ⟨rfl,rfl⟩:=Hx hc r1 e;exact k _ H1 m1 x1 s1 (by simp only [ap,ak])
def N8:R->ab->Option String
 |.v .non,_=>some "NoneType"
 |.v (.bl _),_=>some "bool"
 |.v (.int _),_=>some "int"
 |.v (.str _),_=>some "str"
 |.v (.tup _),_=>some "tuple"
 |.v (.fl _),_=>some "list"
 |.v (.fd _ _),_=>some "dict"
 |.v (.key _),_=>some "tuple"
 |.p n,μ=>match μ[n]? with|some (.lst _)=>some "list" | some (.fz _)=>some "list" | some (.dct _)=>some "dict" | _=>none
 |.s _ _,_=>none
 |.x _,_=>none
 |.f _ _,_=>none
def jn (T:String):R->ab->Option (R×ab):=fun x μ=>(N8 x μ).bind fun t=>some (.v (.bl (t == T || (t == "bool" && T == "int"))),μ)
def o0 (K:zac)(T:String):Prop:=∀t∈["NoneType","bool","int","str","tuple","list","dict"],PySem.W.kitOne K (.type t) (.type T)=some (t == T || (t == "bool" && T == "int"))
def JP (K:zac)(T:String):List V->Hp->VK->Prop:=fun vs H Q=>∃m μ x v d,vs=[v,.ty T]/\aP K m H μ/\ap K m H x v/\jn T x μ=some (.v (.bl d),μ)/\Q (.bl d) H
theorem B3 {X : Cx} {T : String} (hT : o0 X.K T) : d9 X (.builtin "isinstance") (JP X.K T) := by
  intro pins s σ H vs us Q I rv q
  obtain ⟨m, μ, x, v, d, rfl, S, rx, e, q⟩ := q
  obtain ⟨t, e1, e⟩ := zab.mp e
  cases e
  cases rv with
  | cons r1 rr =>
    cases rr with
    | cons r2 rr =>
      cases rr
      cases r2
      have fin : ∀ tk, EP X pins σ Q (.bool (t == T || (t == "bool" && T == "int"))) { s with toks := tk } := fun tk => ⟨.bl _, H, I.tok tk, rfl, q⟩
      cases x with
      | v d0 =>
        cases d0 with
        | non => cases e1; have r : v = .non := by simpa only [ap, ak] using rx
                 subst r; cases r1; exact zbn PySem.W.kitx_none I.kIn True.intro (hT _ (by simp)) (fun z => nomatch z) fin
        | bl b => cases e1; have r : v = .bl b := by simpa only [ap, ak] using rx
                  subst r; cases r1; exact zbn PySem.W.kitx_bool I.kIn True.intro (hT _ (by simp)) (fun z => nomatch z) fin
        | int i => cases e1; have r : v = .int i := by simpa only [ap, ak] using rx
                   subst r; obtain ⟨t, rfl⟩ := r1; exact zbn PySem.W.kitx_int I.kIn True.intro (hT _ (by simp)) (fun z => nomatch z) fin
        | str i => cases e1; have r : v = .str i := by simpa only [ap, ak] using rx
                   subst r; obtain ⟨t, rfl⟩ := r1; exact zbn PySem.W.kitx_str I.kIn True.intro (hT _ (by simp)) (fun z => nomatch z) fin
        | tup xs =>
          cases e1
          simp only [ap, ak] at rx
          obtain ⟨a, ws, rfl, q', _⟩ := rx
          cases r1
          obtain ⟨its, _, ⟨o, h1, h2, _⟩, _⟩ := I.tuple q'
          exact zbn PySem.W.kitx_tuple I.kIn ⟨o, h1, h2⟩ (hT _ (by simp)) (fun z => nomatch z) fin
        | fl xs =>
          cases e1
          simp only [ap, ak] at rx
          obtain ⟨a, ws, rfl, q', _⟩ := rx
          cases r1
          obtain ⟨its, _, ⟨o, n, h1, h2, _⟩, _⟩ := I.list q'.sq
          exact zbn zdj I.kIn ⟨o, h1, h2⟩ (hT _ (by simp)) (fun z => nomatch z) fin
        | fd ks ds =>
          cases e1
          simp only [ap, ak] at rx
          obtain ⟨a, o', es, rfl, q', _⟩ := rx
          cases r1
          obtain ⟨_, _, _, vs, _, p⟩ := (show bm X.prog X.w H s.heap a (.frz o' (.dK es)) from I.hok a _ q')
          obtain ⟨o, es', ep, h1, h2, _⟩ := p
          exact zbn PySem.W.kitx_dict I.kIn ⟨o, h1, h2.1⟩ (hT _ (by simp)) (fun z => nomatch z) fin
        | key ks =>
          cases e1
          simp only [ap, ak] at rx
          obtain ⟨a, rfl, q'⟩ := rx
          cases r1
          obtain ⟨its, _, ⟨o, h1, h2, _⟩, _⟩ := I.tuple (.inl (.inl q'))
          exact zbn PySem.W.kitx_tuple I.kIn ⟨o, h1, h2⟩ (hT _ (by simp)) (fun z => nomatch z) fin
      | s _ _ => cases e1
      | x _ => cases e1
      | f _ _ => cases e1
      | p n =>
        obtain ⟨a, rfl, ha⟩ := rx
        cases r1
        simp only [N8] at e1
        split at e1
        · rename_i xs z
          cases e1
          obtain ⟨ws, q', _⟩ := S.cell n _ a z ha
          obtain ⟨its, _, ⟨o, n, h1, h2, _⟩, _⟩ := I.list (.inl (.inl q'))
          exact zbn zdj I.kIn ⟨o, h1, h2⟩ (hT _ (by simp)) (fun z => nomatch z) fin
        · rename_i xs z
          cases e1
          obtain ⟨o', ws, q', _⟩ := S.cell n _ a z ha
          obtain ⟨its, _, ⟨o, n, h1, h2, _⟩, _⟩ := I.list (.inl (.inr ⟨o', q'⟩))
          exact zbn zdj I.kIn ⟨o, h1, h2⟩ (hT _ (by simp)) (fun z => nomatch z) fin
        · rename_i kvs z
          cases e1
          obtain ⟨es, q', _⟩ := S.cell n _ a z ha
          obtain ⟨_, _, vs, _, p⟩ := (show bm X.prog X.w H s.heap a (.dK es) from I.hok a _ q')
          obtain ⟨o, es', ep, h1, h2, _⟩ := p
          exact zbn PySem.W.kitx_dict I.kIn ⟨o, h1, h2.1⟩ (hT _ (by simp)) (fun z => nomatch z) fin
        · cases e1
theorem Gu {K:zac}{H:Hp}{Q:VK}{fa:FE}{T:String}(h:aw K (iE (jn T) fa) σ H Q):Iz (JP K T) (pG (aw K fa) (pG (tC (.ty T)) zt)) σ H Q:=by
 obtain ⟨ρ,μ,m,d,μ',hl,hs,e,k⟩:=h;obtain ⟨⟨x,μ1⟩,e1,e⟩:=zab.mp e;have e0:=e;obtain ⟨t,e2,e⟩:=zab.mp e;cases e;exact ⟨ρ,μ,m,x,_,hl,hs,e1,fun v H1 m1 x1 s1 r1=>⟨m1,_,x,v,_,rfl,s1,r1,e0,k _ H1 m1 x1 s1 (by simp only [ap,ak])⟩⟩
def kI:List D->Option (List Bool)
 |[]=>some []
 |.bl b::r=>(kI r).bind fun bs=>some (b::bs)
 |_::_=>none
def Cc (any:Bool):List R->ab->Option (R×ab)
 |[x],μ=>(jU x μ).bind fun xs=>(kI xs).bind fun bs=>some (.v (.bl (if any then bs.any id else bs.all id)),μ)
 |_,_=>none
def JR (K:zac)(any:Bool):List V->Hp->VK->Prop:=fun vs H Q=>∃(a:Addr) (bs:List Bool),vs=[.ref a]/\iV K H a (bs.map V.bl)/\Q (.bl (if any then bs.any id else bs.all id)) H
theorem p8 {K:zac}{H:Hp}:∀{ds:List D} {bs:List Bool} {vs:List V},kI ds=some bs->RelDs K H ds vs->vs=bs.map V.bl
 |[],_,_,e,h=>by cases e;simp only [RelDs] at h;exact h
 |.bl b::r,_,_,e,h=>by
  obtain ⟨bs,e1,e⟩:=zab.mp e;cases e;simp only [RelDs] at h;obtain ⟨v,vr,rfl,h1,h2⟩:=h;simp only [ak] at h1;subst h1;rw [p8 e1 h2];rfl
 |.non::_,_,_,e,_=>by cases e
 |.int _::_,_,_,e,_=>by cases e
 |.str _::_,_,_,e,_=>by cases e
 |.tup _::_,_,_,e,_=>by cases e
 |.fl _::_,_,_,e,_=>by cases e
 |.fd _ _::_,_,_,e,_=>by cases e
 |.key _::_,_,_,e,_=>by cases e
theorem KL {K:zac}{any:Bool}:v4 K (Cc any) (JR K any):=by
 intro m H μ xs d μ' vs Q s r e k;unfold Cc at e;split at e
 ·rename_i x
  obtain ⟨ys,e1,e⟩:=zab.mp e;obtain ⟨bs,e2,e⟩:=zab.mp e;cases e;obtain ⟨v,rfl,r1⟩:=lg r;obtain ⟨a,ws,rfl,q,r2⟩:=ip s r1 e1;rw [p8 e2 r2] at q;exact ⟨a,bs,rfl,q,k _ H m .refl s (by simp only [ap,ak])⟩
 ·cases e
theorem B4 {bs:List Bool}{its:Te}(r:aW (bs.map V.bl) its):∀(i:Nat) v,its.toArray[i]?=some v->v=.bool (bs.getD i false)/\i < bs.length:=fun i v e=>by
 have e:its[i]?=some v:=by simpa using e
 have hi:i < its.length:=(zaw.mp e).1;have hl:=r.length;rw [zaf] at hl
 have hb:i < bs.length:=by omega
 obtain ⟨u,q1,q2⟩:=aW.get (i:=i) (x:=.bl bs[i]) r (by simp [hb]);rw [e] at q1;cases q1;cases q2;simp [hb]
theorem xO {bs:List Bool}:((List.range bs.length).all fun i=>bs.getD i false)=bs.all id:=by
 rw [Bool.eq_iff_iff,List.all_eq_true,List.all_eq_true];constructor
 ·intro h x hx
  obtain ⟨i,hi,rfl⟩:=zbt hx;have:=h i (zby.mpr hi);simpa [hi] using this
 ·intro h i hi
  have hi:=zby.mp hi;have:=h bs[i] (zbV hi);simpa [hi] using this
theorem yN {X:Cx}(hc:X.calm=true):d9 X (.builtin "all") (JR X.K false):=by
 intro pins s σ H vs us Q I rv q;obtain ⟨a,bs,rfl,q',q⟩:=q
 cases rv with
 |cons r1 rr =>
  cases rr;cases r1;obtain ⟨its,rv,p,hz⟩:=I.list q'
  have hlt:a < s.heap.objs.size:=by obtain ⟨o,n,e,_⟩:=p;exact zah e
  refine call_all_walk (zb3 p.isList ?_);refine ⟨_,_,_,_,_,_,fun i=>bs.getD i false,rfl,Walks.list (A:=X.A.in1) (show X.A.in1.handled=none from I.ok.hd hc) s.heap.objs.size a (zan hlt) its.toArray,⟨⟨_,zal _ rfl,rfl,rfl⟩,p.isList.push _⟩,fun i v s' Q' E' hv hq=>?_,fun h' tk hk=>?_⟩
  ·rw [(B4 rv i v hv).1]
   exact zb2 hq
  ·have hl:its.toArray.size=bs.length:=by have:=rv.length;rw [zaf] at this;simp [this]
   rw [hl,xO];refine ⟨.bl _,H,I.kept (t':=tk) fun b o e=>hk b o ?_ (zae _ e),rfl,q⟩;intro z;rw [zat.mp z] at e;exact absurd (zah e) (zaR _)
end HW
namespace HW
open PySem PySem.Spec PyProof.Rows L2 HS
def yu (x:Int):List Int->Th
 |[]=>[x]
 |y::ys=>if x<=y then x::y::ys else y::yu x ys
def fW:List Int->Th
 |[]=>[]
 |x::xs=>yu x (fW xs)
theorem me (x:Int):∀xs,(yu x xs).Perm (x::xs)
 |[]=>.refl _
 |y::ys=>by
  unfold yu;split
  ·exact .refl _
  ·exact ((me x ys).cons y).trans (.swap _ _ _)
theorem dl:∀xs,(fW xs).Perm xs
 |[]=>.refl _
 |x::xs=>(me x _).trans ((dl xs).cons x)
theorem mF (x:Int):∀{xs:Th},xs.Pairwise (·<=·)->(yu x xs).Pairwise (·<=·)
 |[],_=>zbT _ _
 |y::ys,h=>by
  unfold yu;obtain ⟨h1,h2⟩:=zaM.mp h;split
  ·rename_i hxy
   refine zaM.mpr ⟨fun z hz=>?_,h⟩;rcases zak.mp hz with rfl|hz
   ·exact hxy
   ·exact Int.le_trans hxy (h1 z hz)
  ·rename_i hxy
   refine zaM.mpr ⟨fun z hz=>?_,mF x h2⟩;rcases zak.mp ((me x ys).mem_iff.mp hz) with rfl|hz
   ·omega
   ·exact h1 z hz
theorem iw:∀xs,(fW xs).Pairwise (·<=·)
 |[]=>.nil
 |x::xs=>mF x (iw xs)
theorem nL:∀{xs ys:Th},xs.Pairwise (·<=·)->ys.Pairwise (·<=·)->xs.Perm ys->xs=ys
 |[],ys,_,_,p=>(List.Perm.nil_eq p)
 |x::xs,[],_,_,p=>absurd p.length_eq (by simp)
 |x::xs,y::ys,hx,hy,p=>by
  obtain ⟨hx1,hx2⟩:=zaM.mp hx;obtain ⟨hy1,hy2⟩:=zaM.mp hy
  have e:x=y:=by
   have h1:x∈y::ys:=p.mem_iff.mp (by simp);have h2:y∈x::xs:=p.mem_iff.mpr (by simp);rcases zak.mp h1 with h|h
   ·exact h
   ·rcases zak.mp h2 with h'|h'
    ·exact h'.symm
    ·exact Int.le_antisymm (hx1 y h') (hy1 x h)
  subst e;rw [nL hx2 hy2 ((List.perm_cons _).mp p)]
theorem tK {xs ns:Th}(h:ns.Pairwise (·<=·))(p:ns.Perm xs):ns=fW xs:=nL h (iw xs) (p.trans (dl xs).symm)
theorem cr:∀{ns:Th} {its:Te},aW (ns.map V.int) its->IntsAre its ns
 |[],its,h=>by cases h;exact .nil
 |n::ns,its,h=>by
  cases h with
  |cons r t=>obtain ⟨tk,rfl⟩:=r;exact .cons n tk (cr t)
theorem l8:∀{ns:Th} {its:Te},IntsAre its ns->aW (ns.map V.int) its
 |_,_,.nil=>.nil
 |_,_,.cons n t h=>.cons ⟨t,rfl⟩ (l8 h)
abbrev bU (o:Obj):HO:=.frz o (.ext fun _=>True)
def Mp (K:zac)(b:Bool):List V->Hp->VK->Prop:=fun vs H Q=>∃p ns,vs=[.ref p]/\eS K H p (ns.map V.int)/\ns.length < 4000/\∀l o,H l=none->cC b o (aJ [] ns)->Q (.ref l) (upd H l (bU o))
theorem yJ {X:Cx}(hc:X.calm=true):d9 X (.type "set") (Mp X.K (!HS.bt X.w)):=by
 intro pins s σ H vs us Q I r h;obtain ⟨p,ns,rfl,hq,hn,q⟩:=h;obtain ⟨u,rfl,rx⟩:=gP r;cases rx;obtain ⟨its,r',pl,hz⟩:=I.tuple hq;have hI:=cr r';have hl:its.length=ns.length:=IntsAre.length hI;obtain ⟨o',ho',hc',n',hd'⟩:=pl;refine CL (its:=its.toArray) (ns:=ns) (I.ok.hd hc) ⟨o',ho',hc',n',hd'⟩ (by simpa using hI) (by simp [scanBound,hl];omega) fun h' tk o ho hS kp ht=>?_;exact ⟨.ref s.heap.objs.size,_,I.laid (t':=tk) kp (zam _) (show bm X.prog X.w _ h' _ (bU o) from ⟨ho,trivial,⟨o,ho⟩,fun _ _ _ _=>trivial⟩),rfl,q _ _ (I.hok.fresh (zam _)) hS⟩
def qD (b:Bool):List V->Hp->VK->Prop:=fun vs H Q=>∃p o xs,vs=[.ref p]/\H p=some (bU o)/\cC b o xs/\xs.length < 64/\∀l,H l=none->Q (.ref l) (upd H l (.lst ((fW xs).map V.int)))
theorem aA.drw {H:Hp}{s:Shared}(I:aA X pins σ H s)(d:Drawn):aA X pins σ H {s with drawn:=d} :=
 ⟨I.ok,I.os,I.bare,I.base,I.loc,I.cell,I.free,I.freeC,I.pin,I.hok,I.len⟩
theorem rn {X:Cx}(hc:X.calm=true):d9 X (.builtin "sorted") (qD (!HS.bt X.w)):=by
 intro pins s σ H vs us Q I r h;obtain ⟨p,o,xs,rfl,hp,hS,h64,q⟩:=h;obtain ⟨u,rfl,rx⟩:=gP r;cases rx;have ho:s.heap.get? p=some o:=(I.hok p _ hp).1;refine uV (I.ok.hd hc) ho hS h64 fun out ns h' d tk l c a1 a2 a3 kp ht hl hL=>?_;have e:=tK a3 a2;subst e;have hlen:(fW xs).length=xs.length:=(dl xs).length_eq
 have I1:aA X pins σ (upd H l (.lst ((fW xs).map V.int))) {s with heap:=h',toks:=tk} :=
  I.laid (t':=tk) kp hl (show bm X.prog X.w _ h' _ (.lst _) from ⟨by rw [zaf,hlen,za3];omega,out.toList,c,l8 a1,by simpa [seqObj] using hL⟩)
 exact ⟨.ref l,_,aA.drw I1 d,rfl,q _ (I.hok.fresh hl)⟩
def dC:List D->Option (Th)
 |[]=>some []
 |.int n::r=>(dC r).map (n :: ·)
 |_=>none
theorem lz:∀{ds:List D} {ns:Th},dC ds=some ns->ds=ns.map D.int
 |[],ns,e=>by cases e;rfl
 |d::r,ns,e=>by
  cases d <;> simp only [dC] at e <;> first|cases e|skip;obtain ⟨ms,e1,rfl⟩:=zaF.mp e;rw [lz e1];rfl
theorem ly {K:zac}{H:Hp}:∀{ns:Th} {vs:List V},RelDs K H (ns.map D.int) vs->vs=ns.map V.int
 |[],vs,h=>h
 |n::ns,vs,h=>by
  obtain ⟨v,r,rfl,h1,h2⟩:=h
  have h1:v=.int n:=by simpa only [ak] using h1
  rw [h1,ly h2];rfl
theorem lf {K:zac}{H:Hp}:∀{ns:Th},RelDs K H (ns.map D.int) (ns.map V.int)
 |[]=>rfl
 |n::ns=>⟨_,_,rfl,by simp only [ak],lf⟩
def wl (b:Bool):List R->ab->Option (R×ab)
 |[.s c xs],μ=>if c=b/\xs.length < 64 then some (.p μ.length,μ++[.lst ((fW xs).map D.int)]) else none
 |_,_=>none
theorem Bp {K:zac}{b:Bool}:v4 K (wl b) (qD b):=by
 intro m H μ xs d μ' vs Q s r e k;unfold wl at e;split at e
 ·rename_i c ys
  split at e
  ·rename_i hn
   obtain ⟨rfl,hn⟩:=hn;cases e;obtain ⟨v,rfl,r1⟩:=lg r;obtain ⟨a,o,rfl,q,hS⟩:=r1;refine ⟨a,o,ys,rfl,q,hS,hn,fun l hl=>k _ _ (m++[l]) (.newH hl) (s.newH hl ⟨_,bD,lf⟩) ⟨l,rfl,?_⟩⟩;rw [←s.len];simp
  ·cases e
 ·cases e
def vd:List R->ab->Option (R×ab)
 |[.v (.int i),.v (.int j)],μ=>some (.v (.int (if j > i then j else i)),μ)
 |_,_=>none
theorem Mn {K:zac}{m:Tf}{H:Hp}{x y:R}{vs:List V}(r:bn K m H [x,y] vs):∃v w,vs=[v,w]/\ap K m H x v/\ap K m H y w:=by
 obtain ⟨v,r,rfl,h1,h2⟩:=r;obtain ⟨w,r,rfl,h2,h3⟩:=h2;have h3:r=[]:=h3;subst h3;exact ⟨v,w,rfl,h1,h2⟩
theorem KB {K:zac}:v4 K vd (fun xs H Q=>∃i j,xs=[.int i,.int j]/\Q (.int (if j > i then j else i)) H):=by
 intro m H μ xs d μ' vs Q s r e k;unfold vd at e;split at e
 ·cases e
  obtain ⟨v,w,rfl,r1,r2⟩:=Mn r;simp only [ap,ak] at r1 r2;subst r1;subst r2;exact ⟨_,_,rfl,k _ H m .refl s (by simp only [ap,ak])⟩
 ·cases e
def Aa (b:Bool):R2:=fun x y H Q=>∃p q o o' xs ys,x=.ref p/\y=.ref q/\H p=some (bU o)/\H q=some (bU o')/\cC b o xs/\cC b o' ys/\xs.length+ys.length < 64/\∀l u,H l=none->cC b u (aJ xs ys)->Q (.ref l) (upd H l (bU u))
theorem AJ {X:Cx}:jS X (binaryOp .BitOr) (Aa (!HS.bt X.w)):=by
 intro pins s σ H x y v u Q I rx ry h;obtain ⟨p,q,o,o',xs,ys,rfl,rfl,hp,hq,S1,S2,hz,k⟩:=h;cases rx;cases ry;refine gQ (I.hok p _ hp).1 S1 (I.hok q _ hq).1 S2 (by omega) fun h' d u kp g S=>?_;have I1:aA X pins σ (upd H s.heap.objs.size (bU u)) {s with heap:=h',toks:=s.toks}:=I.laid (t':=s.toks) kp (zam _) (show bm X.prog X.w _ h' _ (bU u) from ⟨g,trivial,⟨u,g⟩,fun _ _ _ _=>trivial⟩);exact ⟨.ref s.heap.objs.size,_,aA.drw I1 d,rfl,k _ _ (I.hok.fresh (zam _)) S⟩
def IB (b:Bool):R->R->ab->Option (R×ab)
 |.s c xs,.s c' ys,μ=>if c=b/\c'=b/\xs.length+ys.length < 64 then some (.s b (aJ xs ys),μ) else none
 |_,_,_=>none
theorem su {H:Hp}{l:Addr}{o:HO}(hl:H l=none):∀a o',H a=some o'->upd H l o a=some o':=fun a o' e=>by
 rw [au (fun z=>by rw [z,hl] at e;cases e)];exact e
theorem MH {K:zac}{b:Bool}:pC K (IB b) (Aa b):=by
 intro m H μ x y d μ' v u Q s rx ry e k;unfold IB at e;split at e
 ·split at e
  ·rename_i hc
   obtain ⟨rfl,rfl,hz⟩:=hc;cases e;obtain ⟨p,o,rfl,hp,S1⟩:=rx;obtain ⟨q,o',rfl,hq,S2⟩:=ry;exact ⟨p,q,o,o',_,_,rfl,rfl,hp,hq,S1,S2,hz,fun l w hl S=>k _ _ m (.new hl) (s.same (su hl)) ⟨l,w,rfl,bD,S⟩⟩
  ·cases e
 ·cases e
def Fa (K:zac)(b:Bool):List V->Hp->VK->Prop:=fun vs H Q=>∃p ns,vs=[.ref p]/\(iV K H p (ns.map V.int)\/eS K H p (ns.map V.int))/\ns.length < 4000/\∀l o,H l=none->cC b o (aJ [] ns)->Q (.ref l) (upd H l (bU o))
theorem yK {X:Cx}(hc:X.calm=true):d9 X (.type "set") (Fa X.K (!HS.bt X.w)):=by
 intro pins s σ H vs us Q I r h;obtain ⟨p,ns,rfl,hq,hn,q⟩:=h;rcases hq with hq|hq
 ·obtain ⟨u,rfl,rx⟩:=gP r
  cases rx;obtain ⟨its,r',pl,hz⟩:=I.list hq;have hI:=cr r';have hl:its.length=ns.length:=IntsAre.length hI;refine CM (its:=its.toArray) (ns:=ns) (I.ok.hd hc) pl.isList (by simpa using hI) (by simp [scanBound,hl];omega) fun h' tk o ho hS kp ht=>?_;exact ⟨.ref s.heap.objs.size,_,I.laid (t':=tk) kp (zam _) (show bm X.prog X.w _ h' _ (bU o) from ⟨ho,trivial,⟨o,ho⟩,fun _ _ _ _=>trivial⟩),rfl,q _ _ (I.hok.fresh (zam _)) hS⟩
 ·exact yJ hc pins s σ H _ us Q I r ⟨p,ns,rfl,hq,hn,q⟩
def uX (b:Bool):List R->ab->Option (R×ab)
 |[x],μ=>(cM x μ).bind fun ds=>(dC ds).bind fun ns=>if ns.length < 4000 then some (.s b (aJ [] ns),μ) else none
 |_,_=>none
theorem HB {K:zac}{b:Bool}:v4 K (uX b) (Fa K b):=by
 intro m H μ xs d μ' vs Q s r e k;unfold uX at e;split at e
 ·obtain ⟨ds,e0,e⟩:=zab.mp e
  obtain ⟨ns,e1,e⟩:=zab.mp e;split at e
  ·rename_i hn
   cases e;obtain ⟨v,rfl,r1⟩:=lg r;obtain ⟨a,ws,rfl,q,rr⟩:=gZ s r1 e0;rw [lz e1] at rr;rw [ly rr] at q;exact ⟨a,ns,rfl,q,hn,fun l o hl hS=>k _ _ m (.new hl) (s.same (su hl)) ⟨l,o,rfl,bD,hS⟩⟩
  ·cases e
 ·cases e
def sC (K:zac)(b:Bool):List V->Hp->VK->Prop:=fun vs H Q=>qD b vs H Q\/∃p ns,vs=[.ref p]/\iV K H p (ns.map V.int)/\ns.length < 64/\∀l,H l=none->Q (.ref l) (upd H l (.lst ((fW ns).map V.int)))
theorem rA {X:Cx}(hc:X.calm=true):d9 X (.builtin "sorted") (sC X.K (!HS.bt X.w)):=by
 intro pins s σ H vs us Q I r h;rcases h with h|⟨p,ns,rfl,hq,h64,q⟩
 ·exact rn hc pins s σ H vs us Q I r h
 ·obtain ⟨u,rfl,rx⟩:=gP r
  cases rx;obtain ⟨its,r',pl,hz⟩:=I.list hq;have hI:=cr r';have hl:its.length=ns.length:=IntsAre.length hI;refine sorted_ints (vs:=its) (ns:=ns) pl.isList hI (by omega) fun out ns' a1 a2 a3=>?_;have e:=tK a3 a2;subst e;have hlen:(fW ns).length=ns.length:=(dl ns).length_eq
  have hsz:((s.heap.push (seqObj "list" #[] 0)).update s.heap.objs.size (Obj.mapSeq (·++its.toArray))).objs.size=s.heap.objs.size+1:=by rw [zdn,size_push']
  have hoL:(((s.heap.push (seqObj "list" #[] 0)).update s.heap.objs.size (Obj.mapSeq (·++its.toArray))).push (seqObj "list" its.toArray 0)).get? (s.heap.objs.size+1)=some (seqObj "list" its.toArray 0):=by
   rw [←hsz];exact zal _ rfl
  obtain ⟨c,hcx⟩:∃c,(sortedAll s.heap its out).get? (s.heap.objs.size+1)=some (seqObj "list" out c):=by
   unfold sortedAll sortedHeap;obtain ⟨e1,q1⟩:∃e1,((((s.heap.push (seqObj "list" #[] 0)).update s.heap.objs.size (Obj.mapSeq (·++its.toArray))).push (seqObj "list" its.toArray 0)).update (s.heap.objs.size+1) (Obj.mapSeq fun _=>#[])).get? (s.heap.objs.size+1)=some (seqObj "list" #[] e1):=⟨_,get?_update_seq hoL (fun _=>#[])⟩;exact ⟨_,get?_update_seq (zae _ (zae _ q1)) (fun _=>out)⟩
  have kp:∀b o,s.heap.get? b=some o->(sortedAll s.heap its out).get? b=some o:=fun b o e=>by
   have hb:=zah e;have n1:s.heap.objs.size+1≠b:=zaY (zbe hb);have n0:s.heap.objs.size≠b:=zaY hb;unfold sortedAll sortedHeap;rw [zay _ _ n1];refine zae _ (zae _ ?_);rw [zay _ _ n1];refine zae _ ?_;rw [zay _ _ n0];exact zae _ e
  exact ⟨.ref (s.heap.objs.size+1),_,I.laid (t':=s.toks) kp (zbZ _) (show bm X.prog X.w _ _ _ (.lst _) from ⟨by rw [zaf,hlen,za3];omega,out.toList,c,l8 a1,by simpa [seqObj] using hcx⟩),rfl,q _ (I.hok.fresh (zbZ _))⟩
def jD (b:Bool):List R->ab->Option (R×ab)
 |[.s c xs],μ=>if c=b/\xs.length < 64 then some (.p μ.length,μ++[.lst ((fW xs).map D.int)]) else none
 |[x],μ=>(jU x μ).bind fun ds=>(dC ds).bind fun ns=>if ns.length < 64 then some (.p μ.length,μ++[.lst ((fW ns).map D.int)]) else none
 |_,_=>none
theorem yx {K:zac}{b:Bool}:v4 K (jD b) (sC K b):=by
 intro m H μ xs d μ' vs Q s r e k;unfold jD at e;split at e
 ·exact .inl (Bp m H μ _ d μ' vs Q s r e k)
 ·rename_i x _
  obtain ⟨ds,e0,e⟩:=zab.mp e;obtain ⟨ns,e1,e⟩:=zab.mp e;split at e
  ·rename_i hn
   cases e;obtain ⟨v,rfl,r1⟩:=lg r;obtain ⟨a,ws,rfl,q,rr⟩:=ip s r1 e0;rw [lz e1] at rr;rw [ly rr] at q;refine .inr ⟨a,ns,rfl,q,hn,fun l hl=>k _ _ (m++[l]) (.newH hl) (s.newH hl ⟨_,bD,lf⟩) ⟨l,rfl,?_⟩⟩;rw [←s.len];simp
  ·cases e
 ·cases e
def LE (neg:Bool):R->R->ab->Option (R×ab)
 |.v (.int i),y,μ=>(cM y μ).bind fun ds=>(dC ds).bind fun ns=>some (.v (.bl (if neg then !ns.contains i else ns.contains i)),μ)
 |_,_,_=>none
theorem tM {i:Int}:∀{ns:Th},LD (.int i) (ns.map V.int)=ns.contains i
 |[]=>rfl
 |n::ns=>by
  have ih:=tM (i:=i) (ns:=ns);unfold LD at ih ⊢;rw [zag,zbG,ih,List.contains_cons];simp only [D5];rw [show (n == i)=(i == n) from Bool.eq_iff_iff.mpr ⟨fun h=>beq_iff_eq.mpr (beq_iff_eq.mp h).symm,fun h=>beq_iff_eq.mpr (beq_iff_eq.mp h).symm⟩]
theorem pZ:∀{ns:Th},(ns.map V.int).all lD=true
 |[]=>rfl
 |n::ns=>by rw [zag,List.all_cons,pZ];rfl
theorem KI {K:zac}{neg:Bool}:pC K (LE neg) (Ms K neg):=by
 intro m H μ x y d μ' v u Q s rx ry e k;unfold LE at e;split at e
 ·obtain ⟨ds,e0,e⟩:=zab.mp e
  obtain ⟨ns,e1,e⟩:=zab.mp e;cases e;simp only [ap,ak] at rx;subst rx;obtain ⟨a,ws,rfl,q,rr⟩:=gZ s ry e0;rw [lz e1] at rr;rw [ly rr] at q;refine ⟨a,ns.map V.int,rfl,q,rfl,pZ,k _ H m .refl s ?_⟩;simp only [ap,ak,tM]
 ·cases e
def v0 (K:zac)(H:Hp):List V->List (aV×V)->Prop:=Paired fun v kv=>∃t,v=.ref t/\eS K H t [kV kv.1,kv.2]
def qG (kvs ps:List (aV×V)):List (aV×V):=ps.foldl (fun a p=>ee a p.1 p.2) kvs
theorem sL:∀(ps kvs:List (aV×V)),(qG kvs ps).length<=kvs.length+ps.length
 |[],kvs=>by simp [qG]
 |p::ps,kvs=>by
  have h1:=sL ps (ee kvs p.1 p.2);have h2:=jk kvs p.1 p.2;simp only [qG,za0,zaK] at h1 ⊢;omega
theorem sK:∀{ps:List (aV×V)} {qs:List (aV×Value)} {kvs:List (aV×V)} {vs:List (aV×Value)},KV kvs vs->KV ps qs->KV (qG kvs ps) (HS.putAll vs qs)
 |_,_,_,_,r,.nil=>r
 |p::ps,q::qs,_,_,r,.cons e t=>by
  obtain ⟨e1,e2⟩:=e;simp only [qG,HS.putAll,za0];rw [←e1];exact sK (ps:=ps) (qs:=qs) (KV.put r p.1 e2) t
theorem AG {X : Cx} {H : Hp} {s : Shared} (I : aA X pins σ H s) : ∀ {ws : List V} {kvs : List (aV × V)} {its : Te}, v0 X.K H ws kvs -> aW ws its ->
    ∃ ps : List (aV × Value), KV kvs ps /\ ps.length = its.length /\ ∀ (i : Nat) v, its[i]? = some v -> ∃ k x key, ps[i]? = some (k, x) /\ (bz X.prog X.w).is k key = true /\ gd s.heap v key x := by
  intro ws kvs its p v
  induction p generalizing its with
  | nil => cases v; exact ⟨[], .nil, rfl, fun i v e => by simp at e⟩
  | @cons _ kv _ _ hp tp ih =>
   obtain ⟨k, y⟩ := kv
   cases v with
   | cons hv tv =>
    obtain ⟨ps, a1, a2, a3⟩ := ih tv
    obtain ⟨t, rfl, hs⟩ := hp
    cases hv
    obtain ⟨js, r, ⟨o, ho, hc, n, hd⟩, _⟩ := I.tuple hs
    cases r with
    | cons r1 rr =>
      cases rr with
      | cons r2 rr =>
        cases rr
        rename_i key x
        refine ⟨(k, x) :: ps, .cons ⟨rfl, r2⟩ a1, by simp [a2], fun i v e => ?_⟩
        cases i with
        | zero => simp at e; subst e; exact ⟨k, x, key, rfl, tH r1, ⟨t, o, n, rfl, ho, hc, hd⟩⟩
        | succ i => simpa using a3 i v (by simpa using e)
def Fb (K:zac):List V->Hp->VK->Prop:=fun vs H Q=>∃p ws kvs,vs=[.ref p]/\H p=some (.lst ws)/\v0 K H ws kvs/\∀l,H l=none->Q (.ref l) (upd H l (.dK (qG [] kvs)))
theorem yM {X:Cx}(hc:X.calm=true):d9 X (.type "dict") (Fb X.K):=by
 intro pins s σ H vs us Q I r h;obtain ⟨p,ws,kvs,rfl,hH,hp,q⟩:=h;obtain ⟨u,rfl,rx⟩:=gP r;cases rx;obtain ⟨z,its,n,rv,hl,e⟩:=I.lstM hH;obtain ⟨ps,a1,a2,a3⟩:=AG I hp rv
 have hk:kvs.length=its.length:=by have:=Paired.length a1;omega
 refine BV (knd:=bz X.prog X.w) (ps:=ps) (I.ok.hd hc) e (by simpa using a2) (by simp;omega) (fun i v hv=>a3 i v (by simpa using hv)) fun h' tk hD kp=>?_
 have hz:(qG [] kvs).length<=sizeLine:=by have:=sL kvs [];simp at this;omega
 exact ⟨.ref s.heap.objs.size,_,I.laid (t':=tk) kp (zam _) (show bm X.prog X.w _ h' _ (.dK _) from ⟨hz,beq_eq_false_iff_ne.mpr (zaY I.big),_,sK .nil a1,hD⟩),rfl,q _ (I.hok.fresh (zam _))⟩
def lX:List D->Option (List (aV×D))
 |[]=>some []
 |.tup [.int i,d]::r=>(lX r).map ((.inl i,d) :: ·)
 |_=>none
def nX (kvs:List (aV×D))(k:aV)(v:D):List (aV×D):=if (kvs.any fun kv=>decide (kv.1=k))=true then kvs.map (fun kv=>if kv.1=k then (kv.1,v) else kv) else kvs++[(k,v)]
def bc (kvs ps:List (aV×D)):List (aV×D):=ps.foldl (fun a p=>nX a p.1 p.2) kvs
def KD (K:zac)(H:Hp)(kvs:List (aV×D))(es:List (aV×V)):Prop:=es.map (·.1)=kvs.map (·.1)/\RelDs K H (kvs.map (·.2)) (es.map (·.2))
theorem KD.nil {K:zac}{H:Hp}:KD K H [] []:=⟨rfl,rfl⟩
theorem KD.any {K:zac}{H:Hp}{kvs:List (aV×D)}{es:List (aV×V)}(r:KD K H kvs es)(k:aV):(es.any fun kv=>decide (kv.1=k))=(kvs.any fun kv=>decide (kv.1=k)):=by
 have h1:∀{β:Type} (l:List (aV×β)),(l.any fun kv=>decide (kv.1=k))=((l.map (·.1)).any fun x=>decide (x=k)):=fun l=>by rw [zc3];rfl
 rw [h1,h1,r.1]
theorem KD.cons {K:zac}{H:Hp}{k k':aV}{d:D}{v:V}{kvs:List (aV×D)}{es:List (aV×V)}:KD K H ((k,d)::kvs) ((k',v)::es) ↔ k'=k/\ak K H d v/\KD K H kvs es:=by
 constructor
 ·rintro ⟨h1,h2⟩
  simp only [zag,List.cons.injEq] at h1;obtain ⟨w,r,e,h3,h4⟩:=h2;simp only [zag,List.cons.injEq] at e;obtain ⟨rfl,rfl⟩:=e;exact ⟨h1.1,h3,h1.2,h4⟩
 ·rintro ⟨rfl,h1,h2,h3⟩
  exact ⟨by simp [h2],⟨_,_,rfl,h1,h3⟩⟩
theorem KD.repl {K:zac}{H:Hp}{k:aV}{d:D}{v:V}(rd:ak K H d v):∀{kvs:List (aV×D)} {es:List (aV×V)},KD K H kvs es->KD K H (kvs.map fun kv=>if kv.1=k then (kv.1,d) else kv) (es.map fun kv=>if kv.1=k then (kv.1,v) else kv)
 |[],[],_=>.nil
 |[],e::es,h=>by have:=h.1;simp at this
 |q::kvs,[],h=>by have:=h.1;simp at this
 |(a,x)::kvs,(b,y)::es,h=>by
  obtain ⟨rfl,h1,h2⟩:=KD.cons.mp h;have ih:=KD.repl (k:=k) rd h2;rw [zag,zag]
  by_cases e:b=k
  ·rw [if_pos e,if_pos e];exact KD.cons.mpr ⟨rfl,rd,ih⟩
  ·rw [if_neg e,if_neg e];exact KD.cons.mpr ⟨rfl,h1,ih⟩
theorem KD.snoc {K:zac}{H:Hp}{k:aV}{d:D}{v:V}(rd:ak K H d v):∀{kvs:List (aV×D)} {es:List (aV×V)},KD K H kvs es->KD K H (kvs++[(k,d)]) (es++[(k,v)])
 |[],[],_=>KD.cons.mpr ⟨rfl,rd,.nil⟩
 |[],e::es,h=>by have:=h.1;simp at this
 |q::kvs,[],h=>by have:=h.1;simp at this
 |(a,x)::kvs,(b,y)::es,h=>by
  obtain ⟨rfl,h1,h2⟩:=KD.cons.mp h;exact KD.cons.mpr ⟨rfl,h1,KD.snoc rd h2⟩
theorem KD.put {K:zac}{H:Hp}{k:aV}{d:D}{v:V}{kvs:List (aV×D)}{es:List (aV×V)}(r:KD K H kvs es)(rd:ak K H d v):KD K H (nX kvs k d) (ee es k v):=by
 unfold nX ee;rw [r.any k];split
 ·exact r.repl rd
 ·exact r.snoc rd
theorem KD.putAll {K:zac}{H:Hp}:∀{ps:List (aV×D)} {qs:List (aV×V)} {kvs:List (aV×D)} {es:List (aV×V)},KD K H kvs es->KD K H ps qs->KD K H (bc kvs ps) (qG es qs)
 |[],[],_,_,r,_=>r
 |[],e::es,_,_,_,h=>by have:=h.1;simp at this
 |q::kvs,[],_,_,_,h=>by have:=h.1;simp at this
 |(a,x)::ps,(b,y)::qs,_,_,r,h=>by
  obtain ⟨rfl,h1,h2⟩:=KD.cons.mp h;exact KD.putAll (ps:=ps) (qs:=qs) (r.put h1) h2
theorem pO {K:zac}{H:Hp}:∀{ds:List D} {ws:List V} {kvs:List (aV×D)},lX ds=some kvs->RelDs K H ds ws->∃qs,v0 K H ws qs/\KD K H kvs qs
 |[],ws,kvs,e,r=>by
  cases e;have r:ws=[]:=r;subst r;exact ⟨[],.nil,.nil⟩
 |d::ds,ws,kvs,e,r=>by
  obtain ⟨v,ws',rfl,r1,r2⟩:=r;unfold lX at e;split at e
  ·cases e
   rename_i h;cases h
  ·rename_i i x r' h
   cases h;obtain ⟨ks,e1,rfl⟩:=zaF.mp e;obtain ⟨qs,p1,p2⟩:=pO e1 r2;simp only [ak] at r1;obtain ⟨a,vs,rfl,hq,hr⟩:=r1;obtain ⟨v1,t1,rfl,h1,hr⟩:=hr;obtain ⟨v2,t2,rfl,h2,hr⟩:=hr;have hr:t2=[]:=hr;subst hr
   have h1:v1=.int i:=by simpa only [ak] using h1
   subst h1;exact ⟨(.inl i,v2)::qs,.cons ⟨a,rfl,hq⟩ p1,KD.cons.mpr ⟨rfl,h2,p2⟩⟩
  ·cases e
def oO:List R->ab->Option (R×ab)
 |[.p n],μ=>match μ[n]? with
  |some (.lst ds)=>(lX ds).bind fun kvs=>some (.p μ.length,μ++[.dct (bc [] kvs)])
  |_=>none
 |_,_=>none
theorem HE {K:zac}:v4 K oO (Fb K):=by
 intro m H μ xs d μ' vs Q s r e k;unfold oO at e;split at e
 ·rename_i n
  split at e
  ·rename_i ds hn
   obtain ⟨kvs,e1,e⟩:=zab.mp e;cases e;obtain ⟨v,rfl,r1⟩:=lg r;obtain ⟨a,rfl,ha⟩:=r1;obtain ⟨ws,ea,ra⟩:=s.cell _ _ a hn ha;obtain ⟨qs,p1,p2⟩:=pO e1 ra;refine ⟨a,ws,qs,rfl,ea,p1,fun l hl=>?_⟩;have x:d6 m H (m++[l]) (upd H l (.dK (qG [] qs))):=.newH hl;have hk:=KD.putAll (K:=K) (H:=H) .nil p2;refine k _ _ (m++[l]) x (s.newH hl ⟨_,bD,hk.1,RelDs.tf x.tf _ _ hk.2⟩) ⟨l,rfl,?_⟩;rw [←s.len];simp
  ·cases e
 ·cases e
def wt (neg:Bool):R2:=fun x y H Q=>∃p kvs k,y=.ref p/\x=kV k/\Rd H p (.dK kvs)/\Q (.bl (if neg then !(d3 kvs k).isSome else (d3 kvs k).isSome)) H
theorem yd {X:Cx}(hu:X.A.units+64 < cLine):jS X (compareOp .In) (wt false):=by
 intro pins s σ H x y v u Q I rx ry h;obtain ⟨p,kvs,k,rfl,rfl,hR,q⟩:=h;cases ry;exact NL (by omega) I (.inl ⟨kvs,k,hR,rfl,rfl⟩) rx fun s' I'=>⟨.bl _,H,I',rfl,q⟩
theorem lN (k:aV):∀(es:List (aV×V)),(d3 es k).isSome=es.any fun kv=>decide (kv.1=k)
 |[]=>rfl
 |(a,v)::es=>by
  have ih:=lN k es;unfold d3 at ih ⊢
  by_cases e:a=k
  ·simp [e]
  ·simpa [e] using ih
def DJ (neg:Bool):R->R->ab->Option (R×ab)
 |.v (.int i),.p n,μ=>match μ[n]? with
  |some (.dct kvs)=>some (.v (.bl (if neg then !(kvs.any fun kv=>decide (kv.1=.inl i)) else kvs.any fun kv=>decide (kv.1=.inl i))),μ)
  |some (.fzd kvs)=>some (.v (.bl (if neg then !(kvs.any fun kv=>decide (kv.1=.inl i)) else kvs.any fun kv=>decide (kv.1=.inl i))),μ)
  |_=>LE neg (.v (.int i)) (.p n) μ
 |x,y,μ=>LE neg x y μ
theorem KH {K:zac}{neg:Bool}:pC K (DJ neg) (fun x y H Q=>Ms K neg x y H Q\/wt neg x y H Q):=by
 intro m H μ x y d μ' v u Q s rx ry e k;unfold DJ at e;split at e
 ·rename_i i n
  split at e
  ·rename_i kvs hn
   cases e;simp only [ap,ak] at rx;subst rx;obtain ⟨a,rfl,ha⟩:=ry;obtain ⟨es,ea,e1,e2⟩:=s.cell _ _ a hn ha;refine .inr ⟨a,es,.inl i,rfl,rfl,.inl ea,k _ H m .refl s ?_⟩;have hv:=(lN (.inl i) es).trans (KD.any (K:=K) (H:=H) ⟨e1,e2⟩ (.inl i));rw [hv];simp only [ap,ak]
  ·rename_i kvs hn
   cases e;simp only [ap,ak] at rx;subst rx;obtain ⟨a,rfl,ha⟩:=ry;obtain ⟨o,es,ea,e1,e2⟩:=s.cell _ _ a hn ha;refine .inr ⟨a,es,.inl i,rfl,rfl,.inr ⟨o,ea⟩,k _ H m .refl s ?_⟩;have hv:=(lN (.inl i) es).trans (KD.any (K:=K) (H:=H) ⟨e1,e2⟩ (.inl i));rw [hv];simp only [ap,ak]
  ·exact .inl (KI m H μ _ _ d μ' v u Q s rx ry e k)
 ·exact .inl (KI m H μ _ _ d μ' v u Q s rx ry e k)
end HW
namespace HW
open PySem PySem.Spec PyProof.Rows L2
mutual
def c9:D->Bool
 |.tup xs=>flatDs xs
 |.fl _=>false
 |.fd _ _=>false
 |_=>true
def flatDs:List D->Bool
 |[]=>true
 |x::xs=>c9 x && flatDs xs
end
def L8:R->ab->Option D
 |.v d,_=>some d
 |.p n,μ=>match μ[n]? with
  |some (.lst xs)=>some (.fl xs)|some (.fz xs)=>some (.fl xs)
  |some (.dct kvs)=>some (.fd (kvs.map (·.1)) (kvs.map (·.2)))|some (.fzd kvs)=>some (.fd (kvs.map (·.1)) (kvs.map (·.2)))
  |_=>none
 |.s _ _,_=>none
 |.x _,_=>none
 |.f _ _,_=>none
def gO:List R->ab->Option (List D)
 |[],_=>some []
 |x::xs,μ=>(L8 x μ).bind fun d=>(gO xs μ).bind fun ds=>some (d::ds)
def oH (f:MF)(n:Nat)(fa:FA):FE:=fun ρ μ=>(fa ρ μ).bind fun a=>(gO a.1 a.2).bind fun ds=>if ds.length=n then (f ds).bind fun d=>if c9 d=true then some (.v d,a.2) else none else none
abbrev MC:=List D->Option aG
def p0:aG->Bool
 |.lst xs=>flatDs xs
 |.dct kvs=>flatDs (kvs.map (·.2))
 |_=>false
def Bv:nq->Option aG
 |.rt (.p n) μ=>match μ[n]? with|some (.lst xs)=>some (.lst xs)|some (.dct kvs)=>some (.dct kvs)|_=>none
 |_=>none
def sx (k:Nat)(b:FS):MC:=fun ds=>(b (ds.map (fun d=>some (.v d))++List.replicate (k - ds.length) none) []).bind Bv
def fY (f:MC)(n:Nat)(fa:FA):FE:=fun ρ μ=>(fa ρ μ).bind fun a=>(gO a.1 a.2).bind fun ds=>if ds.length=n then (f ds).bind fun c=>if p0 c=true then some (.p a.2.length,a.2++[c]) else none else none
section
variable  {P:Program}{w:World}{H H0:Hp}{h h0:Heap}{a:Addr}{u:HO}{o:Obj}{fs ex:Tf}
theorem g9.thaw (ok:g9 P w H h)(e:H a=some (.frz o u))(hu:fA u):g9 P w (upd H a u) h:=by
 have ne:∀c v,H c=some v->v≠.frz o u->c≠a:=fun c v q n z=>by rw [z,e] at q;exact n (Option.some.inj q).symm
 have own:∀c y,H c=some (.own y)->upd H a u c=some (.own y):=fun c y r=>by rw [L2.au (ne c _ r (by simp))];exact r
 have tup:∀c xs,H c=some (.tup xs)->upd H a u c=some (.tup xs):=fun c xs r=>by rw [L2.au (ne c _ r (by simp))];exact r
 intro b v q
 by_cases hb:b=a
 ·subst hb
  rw [L2.bD] at q;cases q;exact (ok b _ e).2.stay (fun c v _ q=>q) (fun c r=>own c _ r) tup
 ·rw [L2.au hb] at q
  exact (ok b v q).stay (fun c v _ q=>q) (fun c r=>own c _ r) tup
theorem Un.thaw (un:Un fs ex (upd H0 a (.frz o u)) H h0 h)(e:H0 a=some u)(hu:fA u):Un fs ex H0 (upd H a u) h0 h:=by
 have nn:∀b,H0 b=none->b≠a:=fun b z y=>by rw [y,e] at z;cases z
 have nf:∀b v,H0 b=some v->¬ fA v->b≠a:=fun b v q n=>fA.ne e hu q n;refine ⟨fun b ob q n hb hx=>un.keep b ob q (by rw [L2.au (nn b n)];exact n) hb hx,fun b ob q n hb hx=>un.slot b ob q (by rw [L2.au (nn b n)];exact n) hb hx,fun b ob q n hx=>?_,un.there,fun b xs q=>?_,fun b ob v q=>?_,fun b ps q=>?_⟩
 ·rw [L2.au (nn b n)];exact un.free b ob q (by rw [L2.au (nn b n)];exact n) hx
 ·have hb:=nf b _ q fun z=>z
  rw [L2.au hb];exact un.tups b xs (by rw [L2.au hb];exact q)
 ·have hb:=nf b _ q fun z=>z
  rw [L2.au hb];exact un.frzs b ob v (by rw [L2.au hb];exact q)
 ·have hb:=nf b _ q fun z=>z
  obtain ⟨more,r⟩:=un.tbls b ps (by rw [L2.au hb];exact q);exact ⟨more,by rw [L2.au hb];exact r⟩
end
def bor (sp:Sp):Sp:=fun vs H Q E=>sp vs H Q E\/∃a u,H a=some u/\fA u/\∀o,sp vs (upd H a (.frz o u)) (fun v H2=>Q v (upd H2 a u)) E
def borN:Nat->Sp->Sp
 |0,sp=>sp
 |n+1,sp=>bor (borN n sp)
theorem cP.bor {P:Program}{w:World}{K:zac}{mg:Td}{base:Heap}{k:Nat}{f:Addr}{fd:FuncData}{ps:Tn}{sp:Sp}(F:cP P w K mg base mK k f fd ps sp) :
  cP P w K mg base mK k f fd ps (HW.bor sp):=by
 refine ⟨fun vs H Q E h=>?_,fun A outer s H args us vs Q E hr he hb hv hs=>?_⟩
 ·rcases h with h|⟨a,u,e,hu,h⟩
  ·exact F.len vs H Q E h
  ·exact F.len _ _ _ _ (h {cls:=.none,data:=.fields #[]})
 ·rcases hs with hs|⟨a,u,e,hu,hs⟩
  ·exact F.run A outer s H args us vs Q E hr he hb hv hs
  ·obtain ⟨o,ok⟩:=g9.frz he.hok e hu
   have nn:∀b,H b=none->upd H a (.frz o u) b=none:=fun b z=>by rw [L2.au (fun y=>by rw [y,e] at z;cases z)];exact z
   refine zbg (F.run A outer s (upd H a (.frz o u)) args us vs _ E hr ⟨he.frames,he.mod,fun b ob q=>⟨(he.bs b ob q).1,nn b (he.bs b ob q).2⟩,he.bsz,he.funs,fun b hb=>nn b (he.frf b hb),ok,he.bare⟩ hb hv (hs o)) fun r s' hq=>?_
   cases r with
   |error e=>exact hq
   |ok fl =>
    cases fl with
    |next=>exact hq
    |brk=>exact hq
    |cont=>exact hq
    |ret x =>
     obtain ⟨v,H',os,bare,un,hok,rv,q⟩:=hq;exact ⟨v,_,os,bare,Un.thaw un e hu,g9.thaw hok (un.frzs a o u L2.bD) hu,rv,q⟩
theorem cP.borN {P:Program}{w:World}{K:zac}{mg:Td}{base:Heap}{k:Nat}{f:Addr}{fd:FuncData}{ps:Tn}{sp:Sp}(F:cP P w K mg base mK k f fd ps sp) :
  ∀n,cP P w K mg base mK k f fd ps (HW.borN n sp)
 |0=>F
 |n+1=>cP.bor (cP.borN F n)
def o7 (H H2:Hp):Hp:=fun b=>match H b with|some u=>some u|none=>H2 b
def Cz (H H1:Hp):Prop:=∀b,H1 b=H b\/∃u o,H b=some u/\fA u/\H1 b=some (.frz o u)
section
variable  {K:zac}{H H1 H2 H':Hp}
theorem Cz.refl:Cz H H:=fun _=>.inl rfl
theorem Cz.upd {a:Addr}{u:HO}{o:Obj}(c:Cz H H1)(e:H1 a=some u)(hu:fA u):Cz H (upd H1 a (.frz o u)):=fun b=>by
 by_cases hb:b=a
 ·subst hb
  rw [L2.bD];rcases c b with z|⟨u',o',_,_,z⟩
  ·exact .inr ⟨u,o,by rw [←z,e],hu,rfl⟩
  ·rw [e] at z;cases z;exact hu.elim
 ·rw [L2.au hb];exact c b
theorem Cz.trans (c:Cz H H1)(c':Cz H1 H2):Cz H H2:=fun b=>by
 rcases c' b with z|⟨u,o,z1,z2,z3⟩
 ·rw [z];exact c b
 ·rcases c b with y|⟨u',o',_,_,y⟩
  ·exact .inr ⟨u,o,by rw [←y,z1],z2,z3⟩
  ·rw [z1] at y;cases y;exact z2.elim
theorem Cz.tf (c:Cz H H1):TF H H1:=by
 refine ⟨fun a xs e=>?_,fun a o u e=>?_⟩
 ·rcases c a with z|⟨u,o,z1,z2,z3⟩
  ·rw [z,e]
  ·rw [e] at z1;cases z1;exact z2.elim
 ·rcases c a with z|⟨u',o',z1,z2,z3⟩
  ·rw [z,e]
  ·rw [e] at z1;cases z1;exact z2.elim
theorem Dt (s:uD H H2):o7 H H2=H2:=by
 funext b
 unfold o7
 cases e:H b with
 |none=>rfl
 |some u=>exact (s b u e).symm
theorem mV:uD H (o7 H H2):=fun a o e=>by unfold o7;rw [e]
theorem Ds {a:Addr}{u v:HO}(e:H a=some u):upd (o7 (upd H a v) H2) a u=o7 H H2:=by
 funext b
 by_cases hb:b=a
 ·subst hb;rw [L2.bD];unfold o7;rw [e]
 ·rw [L2.au hb];unfold o7;rw [L2.au hb]
theorem Gn {a:Addr}{xs:List V}(c:Cz H H1)(s:uD H1 H2)(h:eS K H2 a xs):eS K (o7 H H2) a xs:=by
 have back:∀v,¬ fA v->(∀o u,v=.frz o u->¬ fA u)->H2 a=some v->o7 H H2 a=some v:=fun v nf nz e=>by
  unfold o7
  cases q:H a with
  |none=>exact e
  |some u =>
   rcases c a with z|⟨u',o',z1,z2,z3⟩
   ·rw [q] at z
    rw [s a u z] at e;exact e
   ·rw [s a _ z3] at e
    cases e;exact absurd z2 (nz o' u' rfl)
 rcases h with (h|⟨o,h⟩)|h
 ·exact .inl (.inl (back _ (fun z=>z) (fun _ _ z=>by cases z) h))
 ·exact .inl (.inr ⟨o,back _ (fun z=>z) (fun o u z=>by cases z;exact fun z=>z) h⟩)
 ·exact .inr h
theorem Ct {a:Addr}{xs:List V}(c:Cz H H1)(s:uD H1 H2)(e:H2 a=some (.tup xs)):o7 H H2 a=some (.tup xs):=by
 unfold o7
 cases q:H a with
 |none=>exact e
 |some u =>
  rcases c a with z|⟨u',o',z1,z2,z3⟩
  ·rw [q] at z
   rw [s a u z] at e;exact e
  ·rw [s a _ z3] at e
   cases e
mutual
theorem tU (c:Cz H H1)(s:uD H1 H2):∀(d:D) (v:V),c9 d=true->ak K H2 d v->ak K (o7 H H2) d v
 |.non,_,_,h=>by simpa only [ak] using h
 |.bl _,_,_,h=>by simpa only [ak] using h
 |.int _,_,_,h=>by simpa only [ak] using h
 |.str _,_,_,h=>by simpa only [ak] using h
 |.tup xs,v,f,h=>by
  simp only [ak] at h ⊢;obtain ⟨a,vs,e,q,r⟩:=h;exact ⟨a,vs,e,Gn c s q,flats_ovr c s xs vs (by simpa only [c9] using f) r⟩
 |.fl _,_,f,_=>by simp [c9] at f
 |.fd _ _,_,f,_=>by simp [c9] at f
 |.key _,_,_,h=>by
  simp only [ak] at h ⊢;obtain ⟨a,e,q⟩:=h;exact ⟨a,e,Ct c s q⟩
theorem flats_ovr (c:Cz H H1)(s:uD H1 H2):∀(ds:List D) (vs:List V),flatDs ds=true->RelDs K H2 ds vs->RelDs K (o7 H H2) ds vs
 |[],_,_,h=>by simpa only [RelDs] using h
 |d::ds,vs,f,h=>by
  simp only [RelDs] at h ⊢;obtain ⟨v,r,e,h1,h2⟩:=h
  have f':c9 d=true/\flatDs ds=true:=by simpa [flatDs] using f
  exact ⟨v,r,e,tU c s d v f'.1 h1,flats_ovr c s ds r f'.2 h2⟩
end
end
def xG (K:zac)(n:Nat)(f:List D->Option (Hp->V->Hp->Prop)):Sp:=fun vs H Q _=>∃ds P,ds.length=n/\RelDs K H ds vs/\f ds=some P/\∀v H',uD H H'->P H v H'->Q v H'
section
variable  {K:zac}{m:Tf}{σ:L2.St}{H H0:Hp}{μ:ab}{Q:VK}
theorem Hh {n:Nat}{f:List D->Option (Hp->V->Hp->Prop)}{P:Hp->V->Hp->Prop}{E:XK}(hs:aP K m H0 μ):∀(rs:List R) (vs vsP:List V) (ds dsP:List D) (H1:Hp) (Q:VK),Cz H0 H1->RelDs K H1 dsP vsP->bn K m H0 rs vs->gO rs μ=some ds ->
  f (dsP++ds)=some P->(dsP++ds).length=n->(∀v H2 H1',Cz H1 H1'->uD H1' H2->P H1' v H2->Q v (o7 H1 H2))->borN rs.length (xG K n f) (vsP++vs) H1 Q E
 |[],vs,vsP,ds,dsP,H1,Q,c,rp,rr,ev,ef,el,k=>by
  cases ev;have rr:vs=[]:=rr;subst rr;rw [zbm] at ef el ⊢;exact ⟨dsP,P,el,rp,ef,fun v H' s p=>by have:=k v H' H1 .refl s p;rwa [Dt s] at this⟩
 |r::rs,vs,vsP,ds,dsP,H1,Q,c,rp,rr,ev,ef,el,k=>by
  obtain ⟨v,ws,rfl,r1,r2⟩:=rr;obtain ⟨d,e1,ev⟩:=zab.mp ev;obtain ⟨es,e2,ev⟩:=zab.mp ev;cases ev
  have app:∀{α:Type} (a:List α) (x:α) (b:List α),a++x::b=a++[x]++b:=fun a x b=>by simp
  rw [app] at ef el ⊢
  have go:∀(H1':Hp) (Q':VK),Cz H1 H1'->ak K H1' d v->(∀v H2 H1'',Cz H1' H1''->uD H1'' H2->P H1'' v H2->Q' v (o7 H1' H2))->borN rs.length (xG K n f) (vsP++[v]++ws) H1' Q' E:=fun H1' Q' c' rd k' =>
   Hh hs rs ws (vsP++[v]) es (dsP++[d]) H1' Q' (c.trans c') (RelDs.append (RelDs.tf c'.tf _ _ rp) (by simp only [RelDs];exact ⟨_,_,rfl,rd,rfl⟩)) r2 e2 ef el k'
  cases r with
  |v d' =>
   cases e1;exact .inl (go H1 Q .refl (ak.tf c.tf _ _ r1) k)
  |s _ _=>cases e1
  |x _=>cases e1
  |f _ _=>cases e1
  |p i =>
   obtain ⟨a,rfl,ha⟩:=r1;have e1:(match μ[i]? with|some (.lst xs)=>some (D.fl xs)|some (.fz xs)=>some (D.fl xs)|some (.dct kvs)=>some (D.fd (kvs.map (·.1)) (kvs.map (·.2)))|some (.fzd kvs)=>some (D.fd (kvs.map (·.1)) (kvs.map (·.2)))|_=>none)=some d:=e1
   have lent:∀u,fA u->H0 a=some u->(∀H3 o,H3 a=some (.frz o u)->TF H0 H3->ak K H3 d (.ref a))->borN (rs.length+1) (xG K n f) (vsP++[V.ref a]++ws) H1 Q E:=fun u hu e0 rd=>by
    rcases c a with z|⟨u',o',z1,z2,z3⟩
    ·rw [e0] at z
     refine .inr ⟨a,u,z,hu,fun o=>?_⟩;have c1:Cz H1 (upd H1 a (.frz o u)):=Cz.refl.upd z hu
     exact go _ _ c1 (rd _ o L2.bD (c.tf.trans c1.tf)) fun v H2 H1'' c2 s2 p=>by
      rw [Ds z];exact k v H2 H1'' (c1.trans c2) s2 p
    ·rw [e0] at z1;cases z1
     exact .inl (go H1 Q .refl (rd _ o' z3 c.tf) k)
   have known:∀o u,H0 a=some (.frz o u)->ak K H1 d (.ref a)->borN (rs.length+1) (xG K n f) (vsP++[V.ref a]++ws) H1 Q E:=fun o u e0 rd=>.inl (go H1 Q .refl rd k);split at e1
   ·rename_i xs q
    cases e1;obtain ⟨ws',ea,ra⟩:=hs.cell _ _ a q ha
    exact lent (.lst ws') trivial ea fun H3 o e3 t=>by simp only [ak];exact ⟨a,ws',rfl,.inl ⟨o,e3⟩,RelDs.tf t _ _ ra⟩
   ·rename_i xs q
    cases e1;obtain ⟨o,ws',ea,ra⟩:=hs.cell _ _ a q ha;exact known o _ ea (by simp only [ak];exact ⟨a,ws',rfl,.inl ⟨o,c.tf.frz _ _ _ ea⟩,RelDs.tf c.tf _ _ ra⟩)
   ·rename_i kvs q
    cases e1;obtain ⟨es',ea,e1,e2⟩:=hs.cell _ _ a q ha
    exact lent (.dK es') trivial ea fun H3 o e3 t=>by simp only [ak];exact ⟨a,o,es',rfl,e3,e1,RelDs.tf t _ _ e2⟩
   ·rename_i kvs q
    cases e1;obtain ⟨o,es',ea,e1,e2⟩:=hs.cell _ _ a q ha;exact known o _ ea (by simp only [ak];exact ⟨a,o,es',rfl,c.tf.frz _ _ _ ea,e1,RelDs.tf c.tf _ _ e2⟩)
   ·cases e1
def pX (K:zac)(f:MF):List D->Option (Hp->V->Hp->Prop):=fun ds=>(f ds).map fun d _ v H'=>ak K H' d v
def cX (K:zac)(f:MC):List D->Option (Hp->V->Hp->Prop):=fun ds=>(f ds).map fun c H v H'=>∃a,v=.ref a/\H a=none/\gf K [] H' c a
theorem Jz {n:Nat}{f:MF}{vs:List V}{E:XK}(h:xG K n (pX K f) vs H Q E):yV K n f vs H Q E:=by
 obtain ⟨ds,P,el,r,ef,k⟩:=h;obtain ⟨d,e,rfl⟩:=zaF.mp ef;exact ⟨ds,d,el,r,e,k⟩
theorem uF:∀{rs:List R} {ds:List D},gO rs μ=some ds->rs.length=ds.length
 |[],_,h=>by cases h;rfl
 |r::rs,ds,h=>by
  obtain ⟨d,_,h⟩:=zab.mp h;obtain ⟨es,e2,h⟩:=zab.mp h;cases h;simp [uF e2]
theorem zV {f n fa}{E:XK}(h:aw K (oH f n fa) σ H Q):wj (borN n (xG K n (pX K f))) [] E (ij K fa) σ H Q:=by
 obtain ⟨ρ,μ,m,d,μ',hl,hs,e,k⟩:=h;obtain ⟨⟨xs,μ1⟩,e1,e⟩:=zab.mp e;obtain ⟨ds,e2,e⟩:=zab.mp e;split at e
 ·rename_i hn
  obtain ⟨d1,e3,e⟩:=zab.mp e;split at e
  ·rename_i hf
   cases e;refine ⟨ρ,μ,m,xs,_,hl,hs,e1,fun vs H1 m1 x1 s1 r1=>?_⟩;have hx:xs.length=n:=(uF e2).trans hn
   show borN n (xG K n (pX K f)) (vs++[]) H1 Q E
   rw [zbm,←hx];refine Hh (dsP:=[]) (vsP:=[]) (P:=fun _ v H'=>ak K H' d1 v) s1 xs vs ds H1 Q .refl rfl r1 e2 ?_ (by simp [hn,hx]) fun v H2 H1' c s p=>?_
   ·rw [zbE];unfold pX;rw [e3];rfl
   ·exact k v _ m1 (x1.trans (uD.ext mV)) (s1.same mV) (tU c s _ _ hf p)
  ·cases e
 ·cases e
theorem zW {f n fa}{E:XK}(h:aw K (fY f n fa) σ H Q):wj (borN n (xG K n (cX K f))) [] E (ij K fa) σ H Q:=by
 obtain ⟨ρ,μ,m,d,μ',hl,hs,e,k⟩:=h;obtain ⟨⟨xs,μ1⟩,e1,e⟩:=zab.mp e;obtain ⟨ds,e2,e⟩:=zab.mp e;split at e
 ·rename_i hn
  obtain ⟨c1,e3,e⟩:=zab.mp e;split at e
  ·rename_i hf
   cases e;refine ⟨ρ,μ,m,xs,_,hl,hs,e1,fun vs H1 m1 x1 s1 r1=>?_⟩;have hx:xs.length=n:=(uF e2).trans hn
   show borN n (xG K n (cX K f)) (vs++[]) H1 Q E
   rw [zbm,←hx];refine Hh (dsP:=[]) (vsP:=[]) (P:=fun H v H'=>∃a,v=.ref a/\H a=none/\gf K [] H' c1 a) s1 xs vs ds H1 Q .refl rfl r1 e2 ?_ (by simp [hn,hx]) fun v H2 H1' c s p=>?_
   ·rw [zbE];unfold cX;rw [e3];rfl
   ·obtain ⟨a,rfl,ha,hc⟩:=p
    have h1a:H1 a=none:=by
     rcases c a with z|⟨u,o,_,_,z⟩
     ·rw [←z,ha]
     ·rw [ha] at z;cases z
    have at':∀u,H2 a=some u->o7 H1 H2 a=some u:=fun u q=>by unfold o7;rw [h1a];exact q
    have hc':gf K (m1++[a]) (o7 H1 H2) c1 a:=by
     cases c1 with
     |lst xs=>obtain ⟨vs,q,r⟩:=hc;exact ⟨vs,at' _ q,flats_ovr c s _ _ hf r⟩
     |dct kvs=>obtain ⟨es,q,q2,r⟩:=hc;exact ⟨es,at' _ q,q2,flats_ovr c s _ _ hf r⟩
     |fz xs=>cases hf
     |fzt kvs=>cases hf
     |fzd kvs=>cases hf
     |dr kvs=>cases hf
     |lr xs=>cases hf
     |dt kvs=>cases hf
     |tb _ _=>cases hf
     |ob _ _=>cases hf
     |tr _=>cases hf
     |fzr _=>cases hf
     |dtr _=>cases hf
    have hn':a∉m1:=s1.fresh h1a
    have ext:d6 m1 H1 (m1++[a]) (o7 H1 H2):=by
     have z:=uD.ext (m:=m1) (mV (H:=H1) (H2:=H2));exact ⟨⟨[a],rfl,fun b hb=>by rw [zat.mp hb];exact h1a⟩,z.tf,z.keep,z.live⟩
    have srel:aP K (m1++[a]) (o7 H1 H2) (μ1++[c1]):=by
     have s1':=s1.same (mV (H:=H1) (H2:=H2));refine ⟨zbb.mpr ⟨s1.nd,by simp,fun b hb b' hb'=>?_⟩,by simp [s1.len],fun i c' b q1 q2=>?_⟩
     ·rw [zat.mp hb'];rintro rfl;exact hn' hb
     ·by_cases hi:i < m1.length
      ·rw [zaq hi] at q2
       rw [zaq (by rw [←s1.len];exact hi)] at q1;exact (s1'.cell i c' b q1 q2).same (fun _ _ z=>z) ⟨[a],rfl⟩
      ·have hl:=s1.len
       rw [zaT (by omega)] at q2;rw [zaT (by omega)] at q1
       have z:i - m1.length=0:=by
        cases q:i - m1.length with
        |zero=>rfl
        |succ k=>rw [q] at q2;simp at q2
       have z':i - μ1.length=0:=by omega
       rw [z] at q2;rw [z'] at q1;simp at q1 q2;subst q1 q2;exact hc'
    exact k _ _ (m1++[a]) (x1.trans ext) srel ⟨a,rfl,by rw [←s1.len];simp⟩
  ·cases e
 ·cases e
end
theorem rN.okN {P:Program}{w:World}{K:zac}{mg:Td}{base:Heap}{x qual:Str}{st:Stmt}{f:Addr}{fd:FuncData}{N ps:Tn}{k:Nat}{b:FS}(F:rN K x qual st f fd)(S:aC N ps (ai st))
  (hbody:∀(cdv:Value) (A:Around) (outer:List Env) (s:Shared) (H:Hp) (E:XK),da k (A.deeper (envOfC qual (ai st) s.heap.objs.size f cdv))->o9 (mn mK P w K mg base N qual (ai st) f cdv A outer s H E).nox (ck st) (gg K b)) :
  cP P w K mg base mK (k+1) f fd ps (xG K ps.length (cX K (sx N.length b))):=by
 have G:cP P w K mg base mK (k+1) f fd ps (fun vs H Q _=>vs.length=ps.length/\gg K b {nx:=fun _ H'=>Q .non H',rt:=Q} (L2.gS N vs) H) :=
  L2.rN.ok F S (fun vs H Q E h=>h.1) fun cdv A outer s H vs Q E hr h=>⟨_,hbody cdv A outer s H E hr,h.2⟩
 refine G.imp fun vs H Q E ⟨ds,P',hn,r,e,k⟩=>⟨by rw [←r.length];exact hn,?_⟩;obtain ⟨c,ec,rfl⟩:=zaF.mp e;obtain ⟨o,e1,e2⟩:=zab.mp ec;refine ⟨_,[],[],o,pI r,.nil,e1,?_⟩
 cases o with
 |nx ρ μ=>cases e2
 |bk ρ μ=>cases e2
 |ct ρ μ=>cases e2
 |rt d μ =>
  cases d with
  |v d=>cases e2
  |s b xs=>cases e2
  |x _=>cases e2
  |f _ _=>cases e2
  |p n =>
   intro v H' m' x s' r';obtain ⟨a,rfl,ha⟩:=r';unfold Bv at e2;have cell:∀c',μ[n]?=some c'->gf K m' H' c' a:=fun c' q=>s'.cell n c' a q ha
   have free:H a=none:=by
    obtain ⟨e,rfl,f⟩:=x.ext;exact f a (by simpa using zaZ ha)
   simp only at e2;split at e2
   ·rename_i xs q;cases e2;exact k _ _ x.sam ⟨a,rfl,free,cell _ q⟩
   ·rename_i kvs q;cases e2;exact k _ _ x.sam ⟨a,rfl,free,cell _ q⟩
   ·cases e2
end HW
namespace HW
open PySem PySem.Spec PyProof.Rows L2
def Af (K:zac):R2:=fun x y H Q=>∃a b ys,x=.ref a/\y=.ref b/\eS K H a []/\eS K H b ys/\ys.length<=sizeLine/\Q (.ref b) H
theorem wD {X:Cx}:jS X (binaryOp .Add) (Af X.K):=by
 intro pins s σ H x y v u Q I rx ry h;obtain ⟨a,b,ys,rfl,rfl,ha,hb,hz,q⟩:=h;cases rx;cases ry;obtain ⟨its,r1,p1,_⟩:=I.tuple ha;obtain ⟨its2,r2,p2,_⟩:=I.tuple hb;cases r1;obtain ⟨⟨cls,dd,data,sl⟩,ho,hc,n,hd⟩:=id p1;obtain ⟨⟨cls2,dd2,data2,sl2⟩,ho2,hc2,n2,hd2⟩:=id p2;simp only at hc hd hc2 hd2;subst hc hd hc2 hd2
 exact concat_meets ⟨_,ho,rfl⟩ ⟨_,ho2,rfl⟩ noFill_tuple_add seq_tuple_add PySem.F.slot_tuple_add PySem.F.entry_tuple_add (PySem.F.args_tuple_add_2 _ _)
  (tuple_addW0 a b #[] its2.toArray n n2 dd dd2 sl sl2 (by simp)) ⟨ho,ho2,⟨.ref b,H,I,rfl,q⟩⟩
def du:R->R->ab->Option (R×ab)
 |.v (.tup []),.v (.tup ys),μ=>if ys.length<=sizeLine then some (.v (.tup ys),μ) else none
 |x,y,μ=>Ef x y μ
theorem HF {K:zac}:pC K du (fun x y H Q=>Fc K x y H Q\/Af K x y H Q):=by
 intro m H μ x y d μ' v u Q s rx ry e k;unfold du at e;split at e
 ·split at e
  ·rename_i z
   cases e;have ry':=ry;simp only [ap,ak] at rx ry;obtain ⟨a,vs,rfl,qa,ra⟩:=rx;obtain ⟨b,ws,rfl,qb,rb⟩:=ry
   have ra:vs=[]:=by simpa only [RelDs] using ra
   subst ra;exact .inr ⟨a,b,ws,rfl,rfl,qa,qb,by rw [←rb.length];exact z,k _ H m .refl s ry'⟩
  ·cases e
 ·exact .inl (KM m H μ _ _ d μ' v u Q s rx ry e k)
def Ko:R->Option aV
 |.v (.int i)=>some (.inl i)
 |.v (.str x)=>some (.inr (some x))
 |.v .non=>some (.inr none)
 |_=>none
def Mv (o i:R)(dv:D)(μ:ab):Option ab:=match o with
 |.p n=>match μ[n]? with
  |some (.lst xs)=>(match i with|.v (.int k)=>(Fk xs.length k).bind fun j=>some (μ.set n (.lst (xs.set j dv)))|_=>none)
  |some (.dct kvs)=>if kvs.length < sizeLine then (Ko i).bind fun k=>some (μ.set n (.dct (nX kvs k dv))) else none
  |_=>none
 |_=>none
def HH (fo fi:FE):FG:=fun d ρ μ=>match d with|.v dv=>(fo ρ μ).bind fun o=>(fi ρ o.2).bind fun i=>(Mv o.1 i.1 dv i.2).bind fun μ'=>some (ρ,μ')|_=>none
def NN (lt:Int->Int->Bool)(ns:Th):Int:=ns.getD (argBest (fun i j=>lt (ns.getD i 0) (ns.getD j 0)) (ns.length - 1)) 0
end HW
namespace HS
open PySem PySem.Spec PyProof.Rows L2
section
variable  {prog:Program}{w:World}{A:Around}{E:Tb}{s:Shared}
theorem yv {a:Addr}{Q:Bool->Shared->Prop}(hT:s.TypeIs (.ref a) "dict")(h:Q false s):wpAny (model prog w) A (Builtin.List.listLengthHint (.ref a)) Q E s:=PySem.W.kdl_hint_dict hT h
end
end HS
namespace HW
open PySem PySem.Spec PyProof.Rows L2 HS
def DI:List aV->Option (Th)
 |[]=>some []
 |.inl n::r=>(DI r).map (n :: ·)
 |_=>none
end HW
namespace HW
open PySem PySem.Spec PyProof.Rows L2
def gN (K:zac)(mg:Td)(x:Str)(d:D):Prop:=∃u v,mg x=some u/\aY v u/\∀H,ak K H d v
def Ez (K:zac)(d:D)(v:V)(u:Value):Prop:=aY v u/\∀H,ak K H d v
def xv (K:zac)(ds:List D)(vs:List V)(us:Te):Prop:=aW vs us/\∀H,RelDs K H ds vs
theorem gz {K:zac}:xv K [] [] []:=⟨.nil,fun _=>rfl⟩
theorem eK {K:zac}{d:D}{v:V}{u:Value}{ds:List D}{vs:List V}{us:Te}(h:Ez K d v u)(h':xv K ds vs us):xv K (d::ds) (v::vs) (u::us) :=
 ⟨.cons h.1 h'.1,fun H=>by simp only [RelDs];exact ⟨_,_,rfl,h.2 H,h'.2 H⟩⟩
theorem BZ {K:zac}{b:Bool}:Ez K (.bl b) (.bl b) (.bool b):=⟨rfl,fun H=>by simp only [ak]⟩
theorem jt {K:zac}{a:Addr}{us:Te}{n:Nat}{sl:Array (Tg)}{ds:List D}{vs:List V}(h:K.lookup a=some ⟨.type "tuple",none,.seq us.toArray n,sl⟩)(hz:us.length<=sizeLine)(r:xv K ds vs us):Ez K (.tup ds) (.ref a) (.ref a) :=
 ⟨rfl,fun H=>by simp only [ak];exact ⟨a,vs,rfl,.inr ⟨_,us.toArray,n,h,rfl,rfl,rfl,by simpa using hz,by simpa using r.1⟩,r.2 H⟩⟩
theorem oQ {K:zac}{mg:Td}{x:Str}{u:Value}{d:D}{v:V}(hm:mg x=some u)(r:Ez K d v u):gN K mg x d:=⟨u,v,hm,r.1,r.2⟩
def zx (i j c:Int):Prop:=-(2 ^ 61)<=i/\i < 2 ^ 61/\-(2 ^ 61)<=j/\j < 2 ^ 61/\c≠0/\-(2 ^ 30) < c/\c < 2 ^ 30
instance {i j c:Int}:Decidable (zx i j c):=by unfold zx;infer_instance
end HW
namespace L2
open PySem PySem.Spec PyProof.Rows
section
variable  {X:Cx}{pins:Tc}{σ:St}{H:Hp}{s:Shared}{h':Heap}
theorem aA.turnedL {t':Nat}{its:Tf}(I:aA X pins σ H s)(k:∀b o,b∉its->s.heap.get? b=some o->h'.get? b=some o)
  (hf:∀it∈its,H it=none/\it≠X.env.locals/\(it∈X.ex\/X.s₀.heap.objs.size<=it)/\(∀x c,X.env.cells.lookup x=some c->c≠it)/\∀p∈X.pn++pins,p.1≠it):aA X pins σ H {s with heap:=h',toks:=t'}:=by
 have nit:∀b u,H b=some u->b∉its:=fun b u e z=>by rw [(hf b z).1] at e;cases e
 refine I.step (g':=s.gens) (d':=s.drawn) (ch:=its) (fun b hb=>?_) (fun b o _ _ hc e _=>k b o hc e) (fun b o _ _ hc e _=>⟨o.slots,k b o hc e⟩) (fun _ _ _ _ n=>n)
  (fun b o hc e=>⟨o,k b o hc e⟩) (fun _ _ e=>e) (fun _ _ _ e=>e) (fun b ps e=>⟨#[],by rw [e];simp⟩) (fun m hm=>?_) (fun b u e=>?_) I.bare
 ·obtain ⟨_,hL,h1,h2,h3⟩:=hf b hb
  exact ⟨h1,hL,h2,h3⟩
 ·obtain ⟨o,es,ep,ho,r⟩:=hm
  exact ⟨o,es,ep,k _ o (fun z=>(hf _ z).2.1 rfl) ho,r⟩
 ·refine (I.hok b u e).stay (fun c v hc q=>k c v ?_ q) (fun _ q=>q) fun _ _ q=>q
  rcases hc with z|z
  ·rw [z];exact nit b u e
  ·exact nit c _ z
end
theorem Dd {h:Heap}{o:Obj}{b:Addr}(hb:b < h.objs.size):(h.push o).get? b=h.get? b:=by
 unfold Heap.get? Heap.push;simp [Array.getElem?_push,zan hb]
end L2
namespace HW
open PySem PySem.Spec PyProof.Rows L2
structure Fw (K:zac)(J:It)(xs:List D)(P:Hp->Prop):Prop where
 st:∀H H',TF H H'->P H->P H'
 stop:∀i H,P H->xs.length<=i->J.stop i H
 go:∀(i:Nat) d H,xs[i]?=some d->P H->J.go i H
 yld:∀(i:Nat) d H x H',xs[i]?=some d->P H->J.yld i H x H'->(∀a o,H a=some o->H' a=some o)/\ak K H' d x
def C5 (K:zac)(f:FI):TI:=fun σ H R=>∃ρ μ m xs μ',dH K m H ρ σ/\aP K m H μ/\f ρ μ=some (xs,μ') /\
 ∀J P H' m',d6 m H m' H'->aP K m' H' μ'->Fw K J xs P->P H'->R J H'
theorem tX {m:Tf}{H H':Hp}(s:∀a o,H a=some o->H' a=some o):d6 m H m H' :=
 ⟨⟨[],by simp,fun _ z=>nomatch z⟩,⟨fun a xs e=>s _ _ e,fun a o x e=>s _ _ e⟩,fun a o e _=>s _ _ e,fun a e=>by
  cases q:H a with
  |none=>rfl
  |some o=>rw [s _ _ q] at e;cases e⟩
section
variable  {K:zac}{m:Tf}{σ:L2.St}{H:Hp}{μ:ab}{D:d7}
theorem CZ {fi g b}(h:gg K (gU fi g b) D σ H):FZ (C5 K fi) (qC K g) (gg K b) D σ H:=by
 obtain ⟨ρ,μ,m,o,hl,hs,e,k⟩:=h;obtain ⟨⟨xs,μ1⟩,e1,e⟩:=zab.mp e;refine ⟨ρ,μ,m,xs,μ1,hl,hs,e1,fun J P H1 m1 x1 s1 ok p1=>?_⟩
 refine ⟨fun i n σ H=>n=xs.length - i/\i<=xs.length/\P H/\∃ρ μ m,dH K m H ρ σ/\aP K m H μ/\cR g b (xs.drop i) ρ μ=some o/\d7.of K m H D o,
  ⟨_,rfl,za9 _,p1,ρ,μ1,m1,dH.ext x1 hl,s1,by simpa using e,d7.of_ext x1 k⟩,?_⟩
 rintro i n σ H ⟨rfl,hi,p,ρ,μ,m,hl,hs,e,k⟩
 by_cases hlt:i < xs.length
 ·have hx:xs[i]?=some xs[i]:=zar hlt
  rw [zbi hlt,cR] at e;obtain ⟨⟨ρ1,μ1⟩,e1,e⟩:=zab.mp e;obtain ⟨o1,e2,e⟩:=zab.mp e
  refine .inr ⟨ok.go i _ H hx p,fun σ H=>i+1<=xs.length/\P H/\∃ρ μ m,dH K m H ρ σ/\aP K m H μ/\cR g b (xs.drop (i+1)) ρ μ=some o/\d7.of K m H D o,
   fun σ' H' z=>⟨xs.length - (i+1),by omega,rfl,z⟩,fun x H' y=>?_⟩
  obtain ⟨xe,rx⟩:=ok.yld i _ H x H' hx p y;have x0:d6 m H m H':=tX xe;refine ⟨ρ,μ,m,.v xs[i],ρ1,μ1,dH.ext x0 hl,hs.same xe,rx,e1,fun σ1 H1 m1 x1 s1 l1=>?_⟩;have x1:=x0.trans x1;refine ⟨ρ1,μ1,m1,o1,l1,s1,e2,?_⟩
  cases o1 with
  |nx ρ2 μ2=>exact fun σ2 H2 m2 x2 s2 l2=>⟨hlt,ok.st _ _ (x1.trans x2).tf p,ρ2,μ2,m2,l2,s2,e,d7.of_ext (x1.trans x2) k⟩
  |ct ρ2 μ2=>exact fun σ2 H2 m2 x2 s2 l2=>⟨hlt,ok.st _ _ (x1.trans x2).tf p,ρ2,μ2,m2,l2,s2,e,d7.of_ext (x1.trans x2) k⟩
  |bk ρ2 μ2=>cases e;exact fun σ2 H2 m2 x2 s2 l2=>k σ2 H2 m2 (x1.trans x2) s2 l2
  |rt d μ2=>cases e;exact fun v H2 m2 x2 s2 l2=>k v H2 m2 (x1.trans x2) s2 l2
 ·have:i=xs.length:=by omega
  subst this;rw [zdm,cR] at e;cases e;exact .inl ⟨ok.stop _ H p (zam _),k σ H m .refl hs hl⟩
end
theorem nP {H:Hp}{T:Addr}{o':HO}(h:H T=none)(a:Addr)(o:HO)(e:H a=some o):upd H T o' a=some o:=by
 have ne:a≠T:=fun z=>by rw [z,h] at e;cases e
 rw [au ne];exact e
end HW
namespace HS
open PySem PySem.Spec PyProof.Rows
end HS
namespace HW
open PySem PySem.Spec PyProof.Rows L2 HS
end HW
namespace HS
open PySem PySem.Spec PyProof.Rows
end HS
namespace HW
open PySem PySem.Spec PyProof.Rows L2 HS
end HW
namespace HX
open PySem
abbrev eO (C:Value)(vs:Ti):Obj:={cls:=C,dict:=none,data:=.fields vs,slots:=#[]}
structure Fl (G:Addr->Prop)(h:Heap)(e:Addr)(C fl:Value):Prop where
 is:∃vs T ts c,¬ G e/\¬ G T/\T≠e/\h.get? e=some (eO C vs)/\vs[1]?=some (.ref T)/\h.get? T=some (eO c ts)/\ts[3]?=some fl
 all:∀b,G b->∃o,h.get? b=some o
end HX
namespace HW
open PySem PySem.Spec PyProof.Rows L2
abbrev OK (K:zac)(c:Str)(C:Addr):Prop:=PySem.W.nsIn K mainGlobals c=some (some (.ref C))
structure Pc (K:zac)(D:Addr):Prop where
 dc:PySem.W.hasDictIn K D=true
 ga:PySem.W.findIn K (.ref D) "__getattribute__" = some (some (.builtin "BaseException.__getattribute__"))
 gn:PySem.W.findIn K (.ref D) "__getattr__" = some none
 fi:PySem.W.findIn K (.ref D) "__class__" = some (some (.builtin "object.__class__"))
 mr:PySem.W.mroIn K D (.type "object")=some true
 mb:PySem.W.mroIn K D (.type "BaseException")=some true
 gt:PySem.W.specialIn K (.builtin "object.__class__") "__get__" = some (some (.builtin "getset_descriptor.__get__"))
 tk:PySem.W.takesIn K (.builtin "object.__class__")=some true
end HW
namespace HW
open PySem L2
end HW
namespace HX
open PySem
end HX
namespace HW
open PySem PySem.Spec PyProof.Rows L2
end HW
namespace HS
open PySem PyProof.Rows
def Mc (xs:Array Keyed)(lo hi:Nat):Prop:=∀i j,lo<=i->i<=j->j < hi->K xs i<=K xs j
def nq (lo hi:Nat)(xs ys:Array Keyed):Prop:=∀k,¬ (lo<=k/\k < hi)->ys[k]?=xs[k]?
structure SB (a₀:Array Keyed)(st:SortSt):Prop where
 perm:(arrOf st).Perm a₀
 kind:kindOf st=oneType'
 ok:failedOf st=none
structure Pi (a₀:Array Keyed)(lo hi:Nat)(st st':SortSt):Prop where
 b:SB a₀ st'
 pend:pendingOf st'=pendingOf st
 out:nq lo hi (arrOf st) (arrOf st')
section
variable  {prog:Program}{w:World}{A:Around}{E:Tb}{s:Shared}{a₀:Array Keyed}
def IK (xs:Array Keyed):Prop:=∀i,i < xs.size->∃t q,xs[i]?=some (.int (K xs i) t,q)
end
def kk (p:Keyed):Int:=numOf p.1
def Le (x y:Keyed):Prop:=kk x<=kk y
structure Mg (A B O:List Keyed)(ia ib:Nat):Prop where
 perm:(O++A.drop ia++B.drop ib).Perm (A++B)
 srt:O.Pairwise Le
 toA:∀x∈O,∀y∈A.drop ia,Le x y
 toB:∀x∈O,∀y∈B.drop ib,Le x y
 len:O.length=ia+ib
structure OM (st st':SortSt):Prop where
 kind:kindOf st'=kindOf st
 arr:arrOf st'=arrOf st
 pend:pendingOf st'=pendingOf st
 ok:failedOf st'=failedOf st
section
variable  {prog:Program}{w:World}{A:Around}{E:Tb}{s:Shared}{a₀:Array Keyed}
structure Pj (a b:Array Keyed):Prop where
 ka:IK a
 kb:IK b
 sa:Mc a 0 a.size
 sb:Mc b 0 b.size
 na:0 < a.size
 nb:0 < b.size
end
structure Mh (A B O:List Keyed)(na nb:Nat):Prop where
 perm:(A.take na++B.take nb++O).Perm (A++B)
 srt:O.Pairwise Le
 toA:∀x∈A.take na,∀y∈O,Le x y
 toB:∀x∈B.take nb,∀y∈O,Le x y
structure Wb (xs ys:Array Keyed)(lo hi:Nat):Prop where
 perm:ys.Perm xs
 out:nq lo hi xs ys
 src:∀q,lo<=q->q < hi->∃r,lo<=r/\r < hi/\K ys q=K xs r
 srt:Mc ys lo hi
def Li (xs:Array Keyed):List (Nat×Nat×Nat)->Nat->Nat->Prop
 |[],b,e=>b=e
 |(a,n,_)::r,b,e=>a=b/\0 < n/\Mc xs a (a+n)/\Li xs r (b+n) e
structure NT (a₀:Array Keyed)(st:SortSt)(lo:Nat):Prop where
 b:SB a₀ st
 r:Li (arrOf st) (pendingOf st).toList 0 lo
end HS
namespace HS
open PySem PySem.Spec PyProof.Rows L2
end HS
namespace HW
open PySem PySem.Spec PyProof.Rows L2 HS
end HW
namespace HS
open PySem PySem.Spec PyProof.Rows
end HS
namespace HW
open PySem PySem.Spec PyProof.Rows L2 HS
end HW
namespace HW
open PySem PySem.Spec PyProof.Rows L2
end HW
namespace HT2
open PySem PySem.W PyProof.Rows
section
variable  {r:Nat->Int}{n:Nat}{s:Shared}{cmp:Nat->Nat->(Bool->Shared->Prop)->Shared->Prop}
abbrev key (r:Nat->Int)(p:Array Nat)(k:Nat):Int:=r (p.getD k 0)
def Up (r:Nat->Int)(p:Array Nat)(a:Nat):Prop:=∀i j,i < j->j < a->key r p i < key r p j
def Dn (r:Nat->Int)(p:Array Nat)(a:Nat):Prop:=∀i j,i < j->j < a->key r p j < key r p i
structure Pm (n:Nat)(p:Array Nat):Prop where
 pm:p.toList.Perm (List.range n)
theorem Pm.size {p:Array Nat}(h:Pm n p):p.size=n:=by have:=h.pm.length_eq;simpa using this
theorem Pm.lt {p:Array Nat}(h:Pm n p){k:Nat}(hk:k < n):p.getD k 0 < n:=by
 have hs:=h.size
 have hm:p.getD k 0∈p.toList:=by
  have:p[k]?=some p[k]:=zao (by omega);rw [zaN,this,zbx];simp
 have:=h.pm.mem_iff.mp hm;simpa using this
theorem Pm.inj {p:Array Nat}(h:Pm n p){i j:Nat}(hi:i < n)(hj:j < n)(e:p.getD i 0=p.getD j 0):i=j:=by
 have hs:=h.size;have nd:p.toList.Nodup:=h.pm.nodup_iff.mpr zdl;have ei:p[i]?=some p[i]:=zao (by omega);have ej:p[j]?=some p[j]:=zao (by omega);rw [zaN,zaN,ei,ej,zbx,zbx] at e
 have e':p.toList[i]'(by simpa using (by omega:i < p.size))=p.toList[j]'(by simpa using (by omega:j < p.size)):=by simpa using e
 exact (zb5 nd).mp e'
structure Rk (r:Nat->Int)(n:Nat)(s:Shared)(cmp:Nat->Nat->(Bool->Shared->Prop)->Shared->Prop):Prop where
 inj:∀i j,i < n->j < n->r i=r j->i=j
 ask:∀i j,i < n->j < n->∀C:Bool->Shared->Prop,C (decide (r i < r j)) s->cmp i j C s
theorem Rk.ne (R:Rk r n s cmp){p:Array Nat}(h:Pm n p){i j:Nat}(hi:i < n)(hj:j < n)(ne:i≠j):key r p i≠key r p j:=fun e=>ne (h.inj hi hj (R.inj _ _ (h.lt hi) (h.lt hj) e))
theorem vV (R:Rk r n s cmp){p:Array Nat}(h:Pm n p){Q:Nat->Shared->Prop}:∀(f a:Nat),1<=a->a+f<=n->Up r p a->(∀m,a<=m->m<=a+f->Up r p m->(m=a+f\/key r p m < key r p (m - 1))->Q m s)->(kas_asc p f a).kasWp cmp Q s
 |0,a,_,_,hu,k=>k a (zam _) (zam _) hu (.inl rfl)
 |f+1,a,h1,h2,hu,k=>by
  refine R.ask _ _ (h.lt (by omega)) (h.lt (by omega)) _ ?_
  by_cases hc:key r p a < key r p (a - 1)
  ·have hd:decide (r (p.getD a 0) < r (p.getD (a - 1) 0))=true:=zaA hc
   rw [hd];exact k a (zam _) (by omega) hu (.inr hc)
  ·have hd:decide (r (p.getD a 0) < r (p.getD (a - 1) 0))=false:=zav hc
   rw [hd];have hne:=R.ne h (show a < n by omega) (show a - 1 < n by omega) (by omega);refine vV R h f (a+1) (by omega) (by omega) (fun i j hij hj=>?_) fun m m1 m2 m3 m4=>k m (by omega) (by omega) m3 (by rcases m4 with q|q;exact .inl (by omega);exact .inr q)
   by_cases hja:j=a
   ·subst hja
    have:key r p i<=key r p (j - 1):=by
     by_cases hi:i=j - 1
     ·rw [hi];exact zdu _
     ·exact Int.le_of_lt (hu i (j - 1) (by omega) (by omega))
    omega
   ·exact hu i j hij (by omega)
theorem xj (R:Rk r n s cmp){p:Array Nat}(h:Pm n p){Q:Array Nat×Nat×Nat->Shared->Prop}:∀(f a:Nat),1<=a->a+f<=n->Dn r p a->(∀m,a<=m->m<=a+f->Dn r p m->Q (p,m,0) s)->(kas_desc f p a 0).kasWp cmp Q s
 |0,a,_,_,hu,k=>k a (zam _) (zam _) hu
 |f+1,a,h1,h2,hu,k=>by
  refine R.ask _ _ (h.lt (by omega)) (h.lt (by omega)) _ ?_;have hne:=R.ne h (show a < n by omega) (show a - 1 < n by omega) (by omega)
  by_cases hc:key r p a < key r p (a - 1)
  ·have hd:decide (r (p.getD a 0) < r (p.getD (a - 1) 0))=true:=zaA hc
   rw [hd];refine xj R h f (a+1) (by omega) (by omega) (fun i j hij hj=>?_) fun m m1 m2 m3=>k m (by omega) (by omega) m3
   by_cases hja:j=a
   ·subst hja
    have:key r p (j - 1)<=key r p i:=by
     by_cases hi:i=j - 1
     ·rw [hi];exact zdu _
     ·exact Int.le_of_lt (hu i (j - 1) (by omega) (by omega))
    omega
   ·exact hu i j hij (by omega)
  ·have hd:decide (r (p.getD a 0) < r (p.getD (a - 1) 0))=false:=zav hc
   rw [hd];refine R.ask _ _ (h.lt (by omega)) (h.lt (by omega)) _ ?_;have hd2:decide (r (p.getD (a - 1) 0) < r (p.getD a 0))=true:=zaA (show key r p (a - 1) < key r p a by omega);rw [hd2];exact k a (zam _) (by omega) hu
theorem zO {p:Array Nat}(h:Pm n p){m k:Nat}(hm:m<=n)(hk:k < m):(kas_rev p 0 m).getD k 0=p.getD (m - 1 - k) 0:=by
 have hs:=h.size;have:=getElem?_mirror_all (xs:=p) (i:=0) (j:=m) (by omega) k
 rw [if_pos (by omega)] at this
 unfold kas_rev;rw [zaN,this,zaN]
 congr 2
 omega
theorem Ga {p:Array Nat}(h:Pm n p){m:Nat}:Pm n (kas_rev p 0 m):=⟨(Array.perm_iff_toList_perm.mp (mirror_perm p 0 m _)).trans h.pm⟩
theorem zn (R:Rk r n s cmp){p:Array Nat}(h:Pm n p){Q:Nat×Array Nat->Shared->Prop}{a:Nat}(h1:1<=a)(h2:a<=n)(hd:Dn r p a)(k:∀m p',Pm n p'->Up r p' m->1<=m->m<=n->Q (m,p') s):(kas_tail3 a n p).kasWp cmp Q s:=by
 unfold kas_tail3;rw [KasT.kasWp_bind];have hr:=Ga h (m:=a);refine vV R hr (n - a) a h1 (by omega) (fun i j hij hj=>?_) fun m m1 m2 m3 _=>k m _ hr m3 (by omega) (by omega);unfold key;rw [zO h h2 (by omega),zO h h2 (by omega)];exact hd (a - 1 - j) (a - 1 - i) (by omega) (by omega)
theorem B0 (R:Rk r n s cmp){p:Array Nat}(h:Pm n p)(hn:1<=n){Q:Nat×Array Nat->Shared->Prop}(k:∀m p',Pm n p'->Up r p' m->1<=m->m<=n->Q (m,p') s):(kas_count n p).kasWp cmp Q s:=by
 unfold kas_count;rw [KasT.kasWp_bind];refine vV R h (n - 1) 1 (zam _) (by omega) (fun i j hij hj=>by omega) fun m m1 m2 m3 m4=>?_
 by_cases hm:m=n
 ·subst hm
  rw [if_pos (by simp)];exact k m p h m3 hn (zam _)
 ·rw [if_neg (by simpa using hm)]
  by_cases hm1:m > 1
  ·rw [if_pos hm1]
   refine R.ask _ _ (h.lt (by omega)) (h.lt (by omega)) _ ?_;have hd:decide (r (p.getD 0 0) < r (p.getD (m - 1) 0))=true:=zaA (m3 0 (m - 1) (by omega) (by omega));rw [hd];exact k m p h m3 (by omega) (by omega)
  ·rw [if_neg hm1]
   have hm':m=1:=by omega
   subst hm'
   have hlt:key r p 1 < key r p 0:=by
    rcases m4 with q|q
    ·omega
    ·exact q
   unfold kas_descPart;rw [KasT.kasWp_bind];refine xj R h (n - (1+1)) (1+1) (by omega) (by omega) (fun i j hij hj=>?_) fun m' q1 q2 q3=>?_
   ·have hj1:j=1:=by omega
    have hi0:i=0:=by omega
    subst hj1 hi0;exact hlt
   ·show KasT.kasWp cmp (if (0:Nat) > 0 then _ else _) Q s
    rw [if_neg (by omega)];exact zn R h (show 1<=m' by omega) (show m'<=n by omega) q3 k
theorem n8 (R:Rk r n s cmp){p:Array Nat}(h:Pm n p){Q:Nat->Shared->Prop}{k:Nat}(hk:k < n):∀(f l u:Nat),l<=u->u<=k->u - l<=f->(∀i < l,key r p i < key r p k)->(∀i,u<=i->i < k->key r p k < key r p i)->Up r p k ->
  (∀x,x<=k->(∀i < x,key r p i < key r p k)->(∀i,x<=i->i < k->key r p k < key r p i)->Q x s)->(kas_place p k f l u).kasWp cmp Q s
 |0,l,u,h1,h2,h3,hl,hu,_,kk=>kk l (by omega) hl (fun i h4 h5=>hu i (by omega) h5)
 |f+1,l,u,h1,h2,h3,hl,hu,up,kk=>by
  unfold kas_place
  by_cases hlu:l >= u
  ·rw [if_pos hlu]
   exact kk l (by omega) hl (fun i h4 h5=>hu i (by omega) h5)
  ·rw [if_neg hlu]
   refine R.ask _ _ (h.lt hk) (h.lt (by omega)) _ ?_;have hne:=R.ne h hk (show (l+u) / 2 < n by omega) (by omega)
   by_cases hc:key r p k < key r p ((l+u) / 2)
   ·have hd:decide (r (p.getD k 0) < r (p.getD ((l+u) / 2) 0))=true:=zaA hc
    rw [hd];refine n8 R h hk f l ((l+u) / 2) (by omega) (by omega) (by omega) hl (fun i h4 h5=>?_) up kk
    by_cases hi:i=(l+u) / 2
    ·rw [hi];exact hc
    ·have:=up ((l+u) / 2) i (by omega) h5
     omega
   ·have hd:decide (r (p.getD k 0) < r (p.getD ((l+u) / 2) 0))=false:=zav hc
    rw [hd];refine n8 R h hk f ((l+u) / 2+1) u (by omega) h2 (by omega) (fun i hi=>?_) hu up kk
    by_cases hi':i=(l+u) / 2
    ·rw [hi'];omega
    ·have:=up i ((l+u) / 2) (by omega) (by omega)
     omega
theorem Ij {p:Array Nat}(h:Pm n p){k l i:Nat}(hk:k < n)(hl:l<=k):(bubble p k (k - l)).getD i 0=if i=l then p.getD k 0 else if l < i/\i<=k then p.getD (i - 1) 0 else p.getD i 0:=by
 have hs:=h.size;have:=getElem?_bubble (xs:=p) (src:=k) (by omega) (k - l) (by omega) i
 rw [show k - (k - l)=l by omega] at this
 simp only [zaN];rw [this];split
 ·rfl
 ·split <;> rfl
theorem B8 (R:Rk r n s cmp){Q:Array Nat->Shared->Prop}:∀(f:Nat) (p:Array Nat) (k:Nat),Pm n p->Up r p k->k+f=n->(∀p',Pm n p'->Up r p' n->Q p' s)->(kas_bin f p k).kasWp cmp Q s
 |0,p,k,h,hu,hk,kk=>kk p h (by rw [←hk];exact hu)
 |f+1,p,k,h,hu,hk,kk=>by
  unfold kas_bin;rw [KasT.kasWp_bind];refine n8 R h (by omega) k 0 k (by omega) (zam _) (by omega) (fun i hi=>by omega) (fun i h4 h5=>by omega) hu fun l l1 l2 l3=>?_;refine B8 R f (bubble p k (k - l)) (k+1) ⟨(Array.perm_iff_toList_perm.mp (bubble_perm p k _)).trans h.pm⟩ (fun i j hij hj=>?_) (by omega) kk;have b:=fun i=>Ij h (k:=k) (l:=l) (i:=i) (by omega) l1
  show r _ < r _
  rw [b i,b j]
  by_cases hi:i=l
  ·rw [if_pos hi,if_neg (by omega),if_pos (by omega)]
   exact l3 (j - 1) (by omega) (by omega)
  ·rw [if_neg hi]
   by_cases hj':j=l
   ·rw [if_pos hj',if_neg (by omega)]
    exact l2 i (by omega)
   ·rw [if_neg hj']
    by_cases h6:l < i/\i<=k
    ·rw [if_pos h6,if_pos (by omega)]
     exact hu (i - 1) (j - 1) (by omega) (by omega)
    ·rw [if_neg h6]
     by_cases h7:l < j/\j<=k
     ·rw [if_pos h7]
      by_cases h8:i=j - 1
      ·omega
      ·exact hu i (j - 1) (by omega) (by omega)
     ·rw [if_neg h7]
      exact hu i j hij (by omega)
theorem CJ (R:Rk r n s cmp)(hn:1<=n){Q:Array Nat->Shared->Prop}(k:∀p,Pm n p->Up r p n->Q p s):(kas_sort n).kasWp cmp Q s:=by
 unfold kas_sort;rw [KasT.kasWp_bind];refine B0 R (p:=(List.range n).toArray) ⟨by simp⟩ hn fun m p h hu h1 h2=>?_
 show KasT.kasWp cmp (if m < n then kas_bin (n - max m 1) p (max m 1) else .ret p) Q s
 rw [Nat.max_eq_left h1]
 by_cases hm:m < n
 ·rw [if_pos hm]
  exact B8 R (n - m) p m h hu (by omega) k
 ·rw [if_neg hm]
  have:m=n:=by omega
  subst this;exact k p h hu
end
def iS:List Int->List Int->Bool
 |[],[]=>false
 |[],_::_=>true
 |_::_,[]=>false
 |x::xs,y::ys=>if x=y then iS xs ys else decide (x < y)
theorem gq:∀a,iS a a=false
 |[]=>rfl
 |x::xs=>by simp [iS,gq xs]
theorem m5:∀a b,iS a b=true\/a=b\/iS b a=true
 |[],[]=>.inr (.inl rfl)
 |[],_::_=>.inl rfl
 |_::_,[]=>.inr (.inr rfl)
 |x::xs,y::ys=>by
  by_cases e:x=y
  ·subst e
   rcases m5 xs ys with h|h|h
   ·exact .inl (by simp [iS,h])
   ·exact .inr (.inl (by rw [h]))
   ·exact .inr (.inr (by simp [iS,h]))
  ·by_cases hl:x < y
   ·exact .inl (by simp [iS,e,hl])
   ·exact .inr (.inr (by simp [iS,Ne.symm e];omega))
theorem fH:∀a b c,iS a b=true->iS b c=true->iS a c=true
 |[],[],_,h,_=>by cases h
 |[],_::_,[],_,h=>by cases h
 |[],_::_,_::_,_,_=>rfl
 |_::_,[],_,h,_=>by cases h
 |_::_,_::_,[],_,h=>by cases h
 |x::xs,y::ys,z::zs,h,g=>by
  simp only [iS] at h g ⊢
  by_cases e1:x=y
  ·subst e1
   rw [if_pos rfl] at h
   by_cases e2:x=z
   ·subst e2
    rw [if_pos rfl] at g ⊢;exact fH xs ys zs h g
   ·rw [if_neg e2] at g ⊢;exact g
  ·rw [if_neg e1] at h
   have h1:x < y:=of_decide_eq_true h
   by_cases e2:y=z
   ·subst e2
    rw [if_neg e1];exact h
   ·rw [if_neg e2] at g
    have h2:y < z:=of_decide_eq_true g;rw [if_neg (by omega)];exact zaA (by omega)
def mM (L:Ta)(i:Nat):Int:=((L.filter fun k=>iS k (L.getD i [])).length:Nat)
theorem p4 {L:Ta}{a b:Th}(h:iS a b=true)(hm:a∈L):(L.filter fun k=>iS k a).length < (L.filter fun k=>iS k b).length:=by
 have sub:∀M:Ta,(M.filter fun k=>iS k a).length<=(M.filter fun k=>iS k b).length:=fun M=>by
  induction M with
  |nil=>simp
  |cons x xs ih =>
   simp only [zbX]
   cases hx:iS x a with
   |true=>rw [fH x a b hx h];simp;exact ih
   |false=>cases iS x b <;> simp <;> omega
 induction L with
 |nil=>simp at hm
 |cons x xs ih =>
  simp only [zbX];rcases zak.mp hm with rfl|hm
  ·rw [gq,h]
   have:=sub xs;simp;omega
  ·have:=ih hm
   cases hx:iS x a with
   |true=>rw [fH x a b hx h];simp;exact this
   |false=>cases iS x b <;> simp <;> omega
theorem tN {L:Ta}{i:Nat}(h:i < L.length):L.getD i []∈L:=by
 rw [za2,zar h,zbx];exact zbV h
theorem mX {L:Ta}{i j:Nat}(hi:i < L.length)(hj:j < L.length):decide (mM L i < mM L j)=iS (L.getD i []) (L.getD j []):=by
 rcases m5 (L.getD i []) (L.getD j []) with h|h|h
 ·rw [h]
  refine zaA ?_;have:=p4 h (tN hi);unfold mM;omega
 ·have hr:mM L i=mM L j:=by unfold mM;rw [h]
  rw [hr,h,gq];exact zav (by omega)
 ·have:=p4 h (tN hj)
  have hn:iS (L.getD i []) (L.getD j [])=false:=by
   cases q:iS (L.getD i []) (L.getD j []) with
   |false=>rfl
   |true=>have:=fH _ _ _ q h;rw [gq] at this;cases this
  rw [hn];refine zav ?_;unfold mM;omega
theorem zY {L:Ta}(nd:L.Nodup){i j:Nat}(hi:i < L.length)(hj:j < L.length)(e:mM L i=mM L j):i=j:=by
 have h1:=mX hi hj;have h2:=mX hj hi;rw [zav (by omega)] at h1 h2;rcases m5 (L.getD i []) (L.getD j []) with h|h|h
 ·rw [h] at h1;cases h1
 ·simp only [za2,zar hi,zar hj,zbx] at h
  exact (zb5 nd).mp h
 ·rw [h] at h2;cases h2
section
variable  {prog:Program}{w:World}{A:Around}{E:Tb}{s:Shared}
theorem A1 {b:Bool}{Q:Bool->Shared->Prop}:∀{xs ys:Te} {ns ms:Th} (i:Nat),IntsAre xs ns->IntsAre ys ms->Q (iS ns ms) s->KatLex prog w A b (decide (xs.length < ys.length)) Q (xs.zip ys) i s:=by
  intro xs ys ns ms i r
  induction r generalizing ys ms i with
  |nil=>intro q h;cases q <;> exact h
  |cons n t r ih =>
   rename_i xs ns
   intro q h
   cases q with
   |nil=>exact h
   |cons m u q =>
    rename_i ys ms
    show KatLex prog w A b _ Q ((.int n t,.int m u)::xs.zip ys) i s
    refine kat_cons (wpAny_eqBool_int ?_)
    by_cases e:n=m
    · subst e
      rw [zdo];refine kat_yes ?_
      have hd:decide ((Value.int n t::xs).length < (Value.int n u::ys).length)=decide (xs.length < ys.length):=by simp
      rw [hd];exact ih (i+1) q (by simpa [iS] using h)
    · rw [show (n == m)=false by simpa using e]
      refine kat_no ?_
      have h':Q (decide (n < m)) s:=by simpa [iS,e] using h
      cases (b && i == 0) with
      |true=>exact oneLt_int h'
      |false=>first|exact kat_one _ _ (lt_int h')|exact kat_one _ _ (lt_int (boolBack_bool h'))
def aO (h:Heap):List Value->List (Th)->Prop
 |[],[]=>True
 |v::vs,L::Ls=>(∃a o its n,v=.ref a/\h.get? a=some o/\o.cls=.type "tuple"/\o.data=.seq its n/\IntsAre its.toList L)/\aO h vs Ls
 |_,_=>False
theorem aO.len {h:Heap}:∀{vs:Te} {L:Ta},aO h vs L->vs.length=L.length
 |[],[],_=>rfl
 |[],_::_,h=>h.elim
 |_::_,[],h=>h.elim
 |_::vs,_::L,h=>by simp [aO.len h.2]
theorem aO.at {h:Heap}:∀{vs:Te} {L:Ta},aO h vs L->∀i,i < L.length->∃a o its n,vs.getD i .none=.ref a/\h.get? a=some o/\o.cls=.type "tuple"/\o.data=.seq its n/\IntsAre its.toList (L.getD i [])
 |[],[],_,i,hi=>by simp at hi
 |[],_::_,h,_,_=>h.elim
 |_::_,[],h,_,_=>h.elim
 |v::vs,x::L,h,0,_=>h.1
 |v::vs,x::L,h,i+1,hi=>aO.at h.2 i (by simpa using hi)
theorem aO.keep {h h':Heap}(k:∀b o,h.get? b=some o->h'.get? b=some o):∀{vs:Te} {L:Ta},aO h vs L->aO h' vs L
 |[],[],_=>trivial
 |[],_::_,h=>h.elim
 |_::_,[],h=>h.elim
 |_::vs,_::L,h=>by
  obtain ⟨⟨a,o,its,n,e,g,r⟩,t⟩:=h;exact ⟨⟨a,o,its,n,e,k _ _ g,r⟩,aO.keep k t⟩
theorem aO.keepNe {h h':Heap}{a:Addr}(k:∀b o,h.get? b=some o->b≠a->h'.get? b=some o):∀{vs:Te} {L:Ta},aO h vs L->(∀v∈vs,v≠.ref a)->aO h' vs L
 |[],[],_,_=>trivial
 |[],_::_,h,_=>h.elim
 |_::_,[],h,_=>h.elim
 |v::vs,_::L,h,hn=>by
  obtain ⟨⟨b,o,its,n,e,g,r⟩,t⟩:=h;exact ⟨⟨b,o,its,n,e,k _ _ g fun z=>hn v (by simp) (by rw [e,z]),r⟩,aO.keepNe k t fun u hu=>hn u (by simp [hu])⟩
theorem aO.firsts {h:Heap}:∀{vs:Te} {L:Ta},aO h vs L->(∀x∈L,x≠[])->∃fs,KatTups h vs fs/\fs.length=L.length/\∀f∈fs,∃n t,f=.int n t
 |[],[],_,_=>⟨[],trivial,rfl,by simp⟩
 |[],_::_,h,_=>h.elim
 |_::_,[],h,_=>h.elim
 |v::vs,x::L,h,hn=>by
  obtain ⟨⟨a,o,its,n,e,g,c,d,r⟩,t⟩:=h;obtain ⟨fs,q1,q2,q3⟩:=aO.firsts t fun y hy=>hn y (by simp [hy]);have hx:=hn x (by simp);generalize hits:its.toList=il at r
  cases r with
  |nil=>exact absurd rfl hx
  |cons m tk r' =>
   have h0:its[0]?=some (.int m tk):=by rw [←zaS,hits];rfl
   exact ⟨.int m tk::fs,by subst e;exact KatTups.cons g c d h0 q1,by simp [q2],fun f hf=>by
    rcases zak.mp hf with rfl|hf
    ·exact ⟨m,tk,rfl⟩
    ·exact q3 f hf⟩
theorem nS {α:Type}:∀(l:List α) (d:α),l=(List.range l.length).map fun i=>l.getD i d:=fun l d=>by
 refine zdp (by simp) fun k h1 h2=>?_;simp only [zca,zde];rw [za2,zar h1];rfl
theorem lU {a:Addr}{vs:Te}{L:Ta}{n:Nat}{P:PySem.Fin->Shared->Prop}(ho:s.heap.get? a=some (seqObj "list" vs.toArray n))(hT:aO s.heap vs L)(nd:L.Nodup)(h64:L.length < 64)(hne:2<=L.length->∀x∈L,x≠[])
  (hna:∀v∈vs,v≠.ref a)
  (h:∀(out:Ti) (L':Ta),(∃is:List Nat,out.toList=is.map (fun i=>vs.getD i .none)/\L'=is.map (fun i=>L.getD i [])/\∀i∈is,i < L.length)->L'.Perm L->L'.Pairwise (fun x y=>iS x y=true)->P (.done (.ret .none)) {s with heap:=sortedHeap s.heap a vs out}):wpAny (model prog w) A (Builtin.«list.sort» ⟨[.ref a],[]⟩) P E s:=by
 have hl:=hT.len;rw [list_sort_plain];have ha:a < s.heap.objs.size:=zah ho
 have hz:vs.length<=sizeLine:=by rw [za3];omega
 refine zaa (listItems_at ho rfl (zaa (listUpdate_at ho rfl ?_ (by simpa using hz) (by simp))));obtain ⟨c1,o1⟩:∃c1,(s.heap.update a (Obj.mapSeq fun _=>#[])).get? a=some (seqObj "list" #[] c1):=⟨_,get?_update_seq ho (fun _=>#[])⟩;refine zaa (seqEpoch_at o1 rfl (zaa (wpAny_newTuple (zaa (zcS (zaE ?_) (za9 _))) (by simpa using hz))))
 have o6:(((s.heap.update a (Obj.mapSeq fun _=>#[])).push (seqObj "tuple" vs.toArray 0)).push (seqObj "list" #[] 0)).get? a=some (seqObj "list" #[] c1):=by
  rw [Heap.get?_push_ne _ _ _ (by rw [size_push',zdn];exact zan (zbe ha)),Heap.get?_push_ne _ _ _ (by rw [zdn];exact zan ha)];exact o1
 show wpAny (model prog w) A _ P E {s with heap:=((s.heap.update a (Obj.mapSeq fun _=>#[])).push (seqObj "tuple" vs.toArray 0)).push (seqObj "list" #[] 0)}
 dsimp only
 by_cases h2:vs.toArray.size < 2
 ·rw [if_pos h2,if_pos h2]
  refine zaa (zad (zaa (zad ?_)));dsimp only
  have hm:Array.map (fun x=>x.snd) (arrOf (SortSt.mk' general' (vs.toArray.zip vs.toArray) #[] 7 none))=vs.toArray:=by
   show Array.map (fun x=>x.snd) (vs.toArray.zip vs.toArray)=vs.toArray
   apply Array.ext
   ·simp
   ·intro i h1 h3;simp
  rw [hm];refine zaa (seqEpoch_at o6 rfl (zaa (listUpdate_at o6 rfl ?_ (by simp) (by rw [zaz];omega))))
  show wpAny (model prog w) A (if (c1 != c1)=true then _ else _) P E _
  simp only [bne_self_eq_false,zap,if_false];refine zad (h vs.toArray L ⟨List.range L.length,by rw [←hl];simpa using nS vs .none,nS L [],fun i hi=>by simpa using hi⟩ (List.Perm.refl _) ?_)
  have:L.length < 2:=by simp at h2;omega
  match L,this with
  |[],_=>exact .nil
  |[x],_=>simp
 ·rw [if_neg h2,if_neg h2]
  have hb2:2<=L.length:=by simp at h2;omega
  have keep:∀b o,s.heap.get? b=some o->b≠a->(((s.heap.update a (Obj.mapSeq fun _=>#[])).push (seqObj "tuple" vs.toArray 0)).push (seqObj "list" #[] 0)).get? b=some o:=fun b o e ne =>
   zae _ (zae _ (by rw [zay _ _ (Ne.symm ne)];exact e))
  have hT1:aO (((s.heap.update a (Obj.mapSeq fun _=>#[])).push (seqObj "tuple" vs.toArray 0)).push (seqObj "list" #[] 0)) vs L:=hT.keepNe keep hna;obtain ⟨fs,q1,q2,q3⟩:=hT1.firsts (hne hb2);refine zaa (kat_kind (T:=.type "int") q1 (by omega) (fun v hv=>?_) (by decide) ?_)
  ·obtain ⟨m,tk,rfl⟩:=q3 v hv
   exact .now
  refine zaa (zbz (kat_run (ks:=vs) (vs:=vs) (Q:=fun st' s'=>∃p:Array Nat,p.size=vs.length/\arrOf st'=p.map (kas_item (vs.toArray.zip vs.toArray))/\failedOf st'=none/\s'={s with heap:=((s.heap.update a (Obj.mapSeq fun _=>#[])).push (seqObj "tuple" vs.toArray 0)).push (seqObj "list" #[] 0)}/\Pm L.length p/\Up (mM L) p L.length)
   (G:=fun p s'=>s'={s with heap:=((s.heap.update a (Obj.mapSeq fun _=>#[])).push (seqObj "tuple" vs.toArray 0)).push (seqObj "list" #[] 0)}/\Pm L.length p/\Up (mM L) p L.length)
   rfl (by omega) (by omega) (fun p' st' s' a1 a2 a3 a4=>⟨p',a1,a2,a3,a4⟩) ?_) ?_ fun _ _ e=>e)
  ·rw [hl]
   refine CJ (r:=mM L) (n:=L.length) ⟨fun i j hi hj e=>zY nd hi hj e,fun i j hi hj C hC=>?_⟩ (by omega) fun p hp hu=>⟨rfl,hp,hu⟩;obtain ⟨x,ox,ix,nx,e1,e2,e3,e4,e5⟩:=hT1.at i hi;obtain ⟨y,oy,iy,ny,f1,f2,f3,f4,f5⟩:=hT1.at j hj;unfold kas_ask;rw [e1,f1];refine kat_lt e2 e4 f2 f4 ?_;rw [mX hi hj] at hC;have:=A1 (prog:=prog) (w:=w) (A:=A) (b:=(Value.type "int" != Value.type "tuple")) 0 e5 f5 hC;simpa using this
  ·rintro ⟨⟨⟩,st'⟩ s' ⟨p,hp,har,hf,rfl,hpm,hup⟩
   dsimp only;have hout:=kat_snds (ks:=vs) (vs:=vs) rfl har;rw [hout]
   have hsz:(List.toArray (p.toList.map fun i=>vs.getD i Value.none)).size<=sizeLine+1:=by rw [zaz,zaf,zaD,hp];omega
   refine zaa (seqEpoch_at o6 rfl (zaa (listUpdate_at o6 rfl ?_ (by simp) hsz)));rw [hf];simp only [bne_self_eq_false,zap,if_false]
   have hlt:∀i∈p.toList,i < L.length:=fun i hi=>by have:=hpm.pm.mem_iff.mp hi;simpa using this
   refine zad (h _ (p.toList.map fun i=>L.getD i []) ⟨p.toList,by simp,rfl,hlt⟩ ?_ ?_)
   ·have:=hpm.pm.map fun i=>L.getD i []
    refine this.trans (List.Perm.of_eq ?_);refine zdp (by simp) fun k h1 h2=>?_;simp only [zca,zde];rw [za2,zar (by simpa using h1)];rfl
   ·rw [zbC,zbc]
    intro i j hi hj hij;have hsz2:=hpm.size
    have hi':i < p.size:=by simpa using hi
    have hj':j < p.size:=by simpa using hj
    have hk:=hup i j hij (by omega);unfold key at hk
    have gi:p.getD i 0=p[i]:=by rw [zaN,zao hi'];rfl
    have gj:p.getD j 0=p[j]:=by rw [zaN,zao hj'];rfl
    rw [gi,gj] at hk;have:=mX (L:=L) (i:=p[i]) (j:=p[j]) (hlt _ (by simp)) (hlt _ (by simp))
    rw [zaA hk] at this
    simpa using this.symm
end
end HT2
namespace HK
open PySem PySem.Spec PyProof.Rows L2
def DE (h:Heap)(d:Addr)(es:Array DictEntry)(ep:Nat):Prop:=∃ob,h.get? d=some ob/\ob.ExactDict/\ob.data=.dict es ep
section
variable  {prog:Program}{w:World}{A:Around}{E:Tb}{s:Shared}{d it:Addr}{es:Array DictEntry}{ep i:Nat}
theorem DE.ty (m:DE s.heap d es ep):s.TypeIs (.ref d) "dict":=let ⟨ob,g,x,_⟩:=m;⟨ob,g,x.1⟩
theorem DE.at {h h':Heap}(m:DE h d es ep)(k:∀ob,h.get? d=some ob->h'.get? d=some ob):DE h' d es ep:=let ⟨ob,g,r⟩:=m;⟨ob,k _ g,r⟩
theorem Kq {Q:Tb}(nd:(d == sysModules)=false)(m:DE s.heap d es ep)
  (fin:Q (.ref s.heap.objs.size) {s with heap:=s.heap.push {cls:=.type "dict_keyiterator",data:=.fields #[.ref d,.int 0 0,.int es.size 0,.int ep 0]}}):wpAny (model prog w) A (pyIter (.ref d)) Q E s:=by
 obtain ⟨ob,g,x,dt⟩:=id m;refine zcp m.ty F.slot_dict_iter (zaH F.slot_dict_iter m.ty F.entry_dict_iter ?_ (F.args_dict_iter_1 _));unfold Builtin.«dict.__iter__» Builtin.Dict.dictSlotNone;refine zaa (zaa (zcY m.ty ?_));refine (show wpAny _ _ (pure (Value.ref d)) _ _ s from zad (show wpAny _ _ (Builtin.Dict.showsAll d >>= _) _ _ s from ?_));unfold Builtin.Dict.showsAll;rw [if_neg (show ¬ (d == sysModules)=true by rw [nd];decide)];refine zaa (zad (zaa (zbP g dt (zaa (zcj g dt (zaa (zaJ (zad ⟨_,rfl,"dict_keyiterator",_,⟨_,zal _ rfl,rfl⟩,F.slot_dict_keyiterator_next.lookup,?_⟩))))))));simpa [rawInt] using fin
theorem Kj {e:DictEntry}{Q:Option Value->Shared->Prop}(k:s.heap.IsKeyIter it d i es.size ep)(m:DE s.heap d es ep)(ge:es[i]?=some e)
  (fin:∀h',h'.IsKeyIter it d (i+1) es.size ep->Heap.SameBut it s.heap h'->Q (some e.key) {s with heap:=h'}):wpAny (model prog w) A (pyNext (.ref it)) Q E s:=by
 obtain ⟨oi,gi,ci,di⟩:=id k;obtain ⟨ob,g,x,dt⟩:=id m;have ty:=k.typeIs;unfold pyNext;refine zaa (zbQ (za5 (name:=Str.ofString "__next__") ty F.slot_dict_keyiterator_next (zaH F.slot_dict_keyiterator_next ty F.entry_dict_keyiterator_next ?_ (F.args_dict_keyiterator_next_1 _))));refine zaa (zad (zaa (zaa ?_)))
 first|refine zaa (zbS ty (zad (zaa (zbl gi di ?_))))|refine zaa (zcb ty (zad (zaa (zbl gi di ?_))))
 simp only [show Builtin.Dict_items.ownsTuple "dict_keyiterator" = false by decide,zap,if_false];refine (show wpAny _ _ (if (Value.ref d == Value.none)=true then _ else _) _ _ s from ?_);rw [if_neg (show ¬ ((Value.ref d == Value.none)=true) by exact za1)];refine zaa (zad (zaa (zbP g dt ?_)));rw [if_neg (show ¬ _ by simp)];refine zaa (zad (zaa (zcj g dt ?_)));rw [if_neg (show ¬ _ by simp)];refine zad ?_;simp only [show ¬ ((i:Int) < 0) by omega,if_false,zbB,ge];refine zaa ?_
 first|refine zaa (zbS ty (zad (zaa (zcZ ty ?_))))|refine zaa (zcb ty (zad (zaa (zcZ ty ?_))))
 refine (show wpAny _ _ (setField (.ref it) 1 (rawInt ((i:Int)+1)) >>= _) _ _ s from zaa (zbI gi di (by simp) ?_))
 have k':(s.heap.update it (Obj.mapFields (·.setIfInBounds 1 (rawInt ((i:Int)+1))))).IsKeyIter it d (i+1) es.size ep :=
  ⟨_,za4 _ gi (Obj.isFreed_of_fields (Obj.data_mapFields di _)),(Obj.cls_mapFields ..).trans ci,by rw [Obj.data_mapFields di];simp [rawInt]⟩
 refine zaa (zaE (zaa (zcZ (s:={s with heap:=s.heap.update it (Obj.mapFields (·.setIfInBounds 1 (rawInt ((i:Int)+1))))}) k'.typeIs ?_)));exact (show wpAny _ _ (pure e.key) _ _ _ from zad (zad ⟨_,rfl,zad (fin _ k' (Heap.SameBut.update ..))⟩))
theorem Km {Q:Option Value->Shared->Prop}(hh:A.handled=none)(k:s.heap.IsKeyIter it d es.size es.size ep)(m:DE s.heap d es ep)
  (fin:∀h',Heap.ExtBut it s.heap h'->Q none {s with heap:=h'}):wpAny (model prog w) A (pyNext (.ref it)) Q E s:=by
 obtain ⟨oi,gi,ci,di⟩:=id k;obtain ⟨ob,g,x,dt⟩:=id m;have ty:=k.typeIs;unfold pyNext;refine zaa (zbQ (za5 (name:=Str.ofString "__next__") ty F.slot_dict_keyiterator_next (zaH F.slot_dict_keyiterator_next ty F.entry_dict_keyiterator_next ?_ (F.args_dict_keyiterator_next_1 _))));refine zaa (zad (zaa (zaa ?_)))
 first|refine zaa (zbS ty (zad (zaa (zbl gi di ?_))))|refine zaa (zcb ty (zad (zaa (zbl gi di ?_))))
 simp only [show Builtin.Dict_items.ownsTuple "dict_keyiterator" = false by decide,zap,if_false];refine (show wpAny _ _ (if (Value.ref d == Value.none)=true then _ else _) _ _ s from ?_);rw [if_neg (show ¬ ((Value.ref d == Value.none)=true) by exact za1)];refine zaa (zad (zaa (zbP g dt ?_)));rw [if_neg (show ¬ _ by simp)];refine zaa (zad (zaa (zcj g dt ?_)));rw [if_neg (show ¬ _ by simp)];refine zad ?_;simp only [show ¬ ((es.size:Int) < 0) by omega,if_false,zbB,zcm (zam es.size)];refine zaa ?_
 first|refine zaa (zbS ty (zad ?_))|refine zaa (zcb ty (zad ?_))
 refine (show wpAny _ _ (setField (.ref it) 0 .none >>= _) _ _ s from zaa (zbI gi di (by simp) ?_));refine (show wpAny _ _ (newExc (.type "StopIteration") [] >>= _) _ _ _ from zaa ?_);simp only [newExc,newTuple];refine zaa (zaJ (zaa (m:=firstArgMember _ _) (zda (a:=Value.none) (by first|rfl|(simp only [firstArgMember];rfl)) (zaJ ?_ (by size_fits)))) (by size_fits));simp only [raiseNew];refine zaa (wpAny_handled ?_);rw [show A.in1.handled=none by exact hh];refine zaa (zad (wpAny_throw (zaa ?_)));exact zbw (T:="StopIteration") (b:=true) ⟨_,zal _ rfl,rfl⟩ isSubtype_stop (zad (fin _ (((Heap.SameBut.update ..).extBut.push _).push _)))
theorem FB (hh:A.handled=none)(I d:Addr)(ne:d≠I)(es:Array DictEntry)(ep:Nat):Walks prog w A I [I,d] [I] es.size (fun i v=>∃e,es[i]?=some e/\v=e.key) (fun i h=>h.IsKeyIter I d i es.size ep/\DE h d es ep) where
 sub:=fun b z=>by simp at z;simp [z]
 frame:=fun _ _ _ q z=>⟨q.1.at fun o e=>z I (by simp) o e,q.2.at fun o e=>z d (by simp) o e⟩
 item:=fun i s Q E hi q fin=>by
  refine Kj q.1 q.2 (zao hi) fun h' k' sb=>fin _ h' s.toks ⟨_,zao hi,rfl⟩ ⟨k',q.2.at fun o e=>sb.extBut d o ne e⟩ fun b o hb e=>sb.extBut b o (fun z=>hb (by simp [z])) e
 done:=fun s Q E q fin=>Km hh q.1 q.2 fun h' eb=>fin h' s.toks fun b o hb e=>eb b o (fun z=>hb (by simp [z])) e
 self:=fun _ _ _ _ q fin=>wpAny_pyIter_keyiter q.1 fin
end
end HK
namespace HK
open PySem PySem.Spec PyProof.Rows L2 HT2
section
variable  {prog:Program}{w:World}{A:Around}{E:Tb}{s:Shared}
theorem DB {es:Array DictEntry}{vs:Te}(hl:vs.length=es.size)(h:∀(i:Nat) v,vs[i]?=some v->∃e,es[i]?=some e/\v=e.key):vs=es.toList.map (·.key):=by
 refine zdp (by simpa using hl) fun i h1 h2=>?_;obtain ⟨e,g,q⟩:=h i vs[i] (zar h1)
 have hi:i < es.size:=by simpa using h2
 rw [zao hi] at g;cases g;rw [q];simp
theorem B1 {a:Addr}{es:Array DictEntry}{ep:Nat}{Q:List Value->Shared->Prop}(hh:A.handled=none)(hd:(a == sysModules)=false)(hm:DE s.heap a es ep)(hz:es.size<=sizeLine)
  (h:∀(h':Heap) (tk:Nat),(∀b o,s.heap.get? b=some o->h'.get? b=some o)->s.toks<=tk->s.heap.objs.size<=h'.objs.size->Q (es.toList.map (·.key)) {s with heap:=h',toks:=tk}) :
  wpAny (model prog w) A (collect (.ref a)) Q E s:=by
 obtain ⟨o,ho,hx,hdat⟩:=id hm;have hlt:=zah ho;unfold collect;refine zaa (zcH (zaU F.entry_proto_collect ?_));rw [zaV F.plain_proto_collect _];refine (show wpAny _ A.in1 (newList [] >>= fun l=>again (.builtin "list.__iadd__" ⟨[l,.ref a],[]⟩)) _ _ s from zaa (zaJ ?_));refine zad ⟨zbk F.plain_list_iadd _,zaU F.entry_list_iadd ?_⟩;rw [zaV F.plain_list_iadd _];refine (show wpAny _ A.in1 (Builtin.List.listExtendWith (.ref s.heap.objs.size) (.ref a) (.ref s.heap.objs.size)) _ _ _ from ?_);unfold Builtin.List.listExtendWith;have hm1:DE (s.heap.push {cls:=.type "list",data:=.seq ([]:Te).toArray}) a es ep:=hm.at fun _ e=>zae _ e;have hT:Shared.TypeIs {s with heap:=s.heap.push {cls:=.type "list",data:=.seq ([]:Te).toArray}} (.ref a) "dict":=DE.ty (s:={s with heap:=s.heap.push {cls:=.type "list",data:=.seq ([]:Te).toArray}}) hm1;refine zaa (zbs hT ?_)
 have h1:Builtin.List.listSameRef (.ref s.heap.objs.size) (.ref a)=false:=by simp [Builtin.List.listSameRef,zaY hlt]
 simp only [h1,show (Value.type "dict" == Value.type "list")=false by decide,show (Value.type "dict" == Value.type "tuple")=false by decide,Bool.or_false,zap,if_false];refine zaa (Kq hd hm1 ?_);have hsz:(s.heap.push {cls:=.type "list",data:=.seq ([]:Te).toArray}).objs.size=s.heap.objs.size+1:=zaX ..;generalize hI:(s.heap.push {cls:=.type "list",data:=.seq ([]:Te).toArray}).objs.size=I at *;have kp:∀b o,(s.heap.push {cls:=.type "list",data:=.seq ([]:Te).toArray}).get? b=some o->((s.heap.push {cls:=.type "list",data:=.seq ([]:Te).toArray}).push {cls:=.type "dict_keyiterator",data:=.fields #[.ref a,.int 0 0,.int es.size 0,.int ep 0]}).get? b=some o:=fun b o e=>zae _ e;generalize hh1:(s.heap.push {cls:=.type "list",data:=.seq ([]:Te).toArray}).push {cls:=.type "dict_keyiterator",data:=.fields #[.ref a,.int 0 0,.int es.size 0,.int ep 0]}=h1 at *;have hIt:h1.IsKeyIter I a 0 es.size ep:=⟨_,by rw [←hh1,←hI];exact zal _ rfl,rfl,rfl⟩;have hma:DE h1 a es ep:=hm1.at fun o e=>kp _ o e;have hTa:Shared.TypeIs {s with heap:=h1} (.ref a) "dict":=DE.ty (s:={s with heap:=h1}) hma;refine zaa (zaE (HS.yv hTa ?_))
 refine (show wpAny _ A.in1 (rule "list.extend.makes-room" >>= fun _=>Builtin.List.listTouch (.ref s.heap.objs.size) >>= fun _ =>
  again (.builtin "list.extend.loop" ⟨[.ref s.heap.objs.size,.ref I,.ref s.heap.objs.size],[]⟩)) _ _ _ from zaa (zbY (zaa ?_)))
 have hL:h1.get? s.heap.objs.size=some {cls:=.type "list",data:=.seq ([]:Te).toArray}:=kp _ _ (zal _ rfl)
 have hSf:s.heap.objs.size∉[I,a]:=fun hm=>by
  simp only [zak,zaI,or_false] at hm;rcases hm with e|e
  ·rw [hsz] at e;omega
  ·exact zaR _ (e ▸ hlt)
 refine (show wpAny _ A.in1 (updateSeq s.heap.objs.size (·.push .none) >>= fun _=>updateSeq s.heap.objs.size (·.pop)) _ _ _ from zaa (zc2 hL rfl ?_));have hL2:=za4 (Obj.mapSeq (·.push Value.none)) hL rfl;refine zc2 (s:={s with heap:=_}) hL2 rfl ?_;have hL3:=za4 (Obj.mapSeq (·.pop)) hL2 rfl
 have oth:∀b o,b≠s.heap.objs.size->h1.get? b=some o->((h1.update s.heap.objs.size (Obj.mapSeq (·.push Value.none))).update s.heap.objs.size (Obj.mapSeq (·.pop))).get? b=some o :=
  fun b o hb e=>(zay _ _ (Ne.symm hb)).trans ((zay _ _ (Ne.symm hb)).trans e)
 have W1:=FB (prog:=prog) (w:=w) (A:=A.in1) (show A.in1.handled=none from hh) I a (by rw [hsz];exact zan (zbe hlt)) es ep
 refine zad ⟨zbk F.plain_extend_loop _,codeAny_extend_loopS W1.toS hz _ hSf _ es.size 0 _ _ _ rfl (za9 _)
  (W1.frame 0 h1 _ ⟨hIt,hma⟩ fun b hb o e=>oth b o (fun q=>hSf (q ▸ hb)) e) hL3 (ItemsOf.nil _) fun s' acc c hm' hS' hacc=>?_⟩
 refine (show wpAny _ A (load s.heap.objs.size >>= _) _ _ s' from zaa (wpAny_load hS' ?_));dsimp only;obtain ⟨h',g',d',tk',os'⟩:=s';have eg:g'=s.gens:=hm'.gens;have ed:d'=s.drawn:=hm'.drawn;have eo:os'=s.os:=hm'.os;subst eg;subst ed;subst eo;refine zad ?_;have hk:acc.toList=es.toList.map (·.key):=DB (by rw [←hacc.1];simp) fun i v hv=>hacc.2 i v (by simpa using hv);rw [hk];refine h h' tk' (fun b o e=>hm'.heap b o (fun hb=>?_) (oth b o (fun q=>?_) (kp _ _ (zae _ e)))) hm'.toks (zbK (zah hS'))
 ·have hb1:=zah e
  simp only [zak,zaI,or_false] at hb;rcases hb with q|q
  ·exact zaR _ (q ▸ hb1)
  ·rw [q,hsz] at hb1;exact absurd hb1 (Nat.not_lt.mpr (zbZ _))
 ·exact zaR _ (q ▸ zah e)
theorem CG {a:Addr}{es:Array DictEntry}{ep:Nat}{L:Ta}{Q:Tb}(hh:A.handled=none)(hd:(a == sysModules)=false)(hm:DE s.heap a es ep)(hT:aO s.heap (es.toList.map (·.key)) L)(nd:L.Nodup)(h64:L.length < 64)(hne:2<=L.length->∀x∈L,x≠[])
  (h:∀(is:List Nat) (h':Heap) (tk:Nat) (l:Addr) (c:Nat),(∀i∈is,i < L.length)->(is.map fun i=>L.getD i []).Perm L->(is.map fun i=>L.getD i []).Pairwise (fun x y=>iS x y=true)->(∀b o,s.heap.get? b=some o->h'.get? b=some o)->s.toks<=tk ->
   s.heap.objs.size<=l->h'.get? l=some (seqObj "list" (is.map fun i=>(es.toList.map (·.key)).getD i .none).toArray c)->Q (.ref l) {s with heap:=h',toks:=tk}) :
  wpAny (model prog w) A (call (.builtin "sorted") [.ref a]) Q E s:=by
 have hvl:(es.toList.map (·.key)).length=L.length:=hT.len
 have hes:es.size=L.length:=by simpa using hvl
 refine Calls.call_function_entry kind_sorted plain_sorted entry_sorted (args_sorted1 _) ?_;unfold Builtin.«sorted»;refine zaa (m:=checkCount "sorted" 1 1 _) (zad (zaa (B1 (show A.in1.handled=none from hh) hd hm (by rw [hes,za3];omega) fun h' tk kp ht hge=>?_)));generalize es.toList.map (·.key)=vs at *;refine zaa (zcS ?_ (by rw [hvl,za3];omega));have hoL:(h'.push (seqObj "list" vs.toArray 0)).get? h'.objs.size=some (seqObj "list" vs.toArray 0):=zal _ rfl;have hT2:aO (h'.push (seqObj "list" vs.toArray 0)) vs L:=hT.keep fun b o e=>zae _ (kp b o e)
 have hna:∀v∈vs,v≠.ref h'.objs.size:=fun v hv e=>by
  obtain ⟨i,hi,rfl⟩:=zbt hv;obtain ⟨b,o,its,n,q1,q2,_⟩:=hT.at i (by omega);rw [za2,zar hi] at q1;simp only [zbx] at q1;rw [e] at q1;cases q1;exact absurd (zah (kp _ _ q2)) (zaR _)
 refine zaa (zaE (zaH (s:={s with heap:=h'.push (seqObj "list" vs.toArray 0),toks:=tk}) slot_list_sort ⟨_,hoL,rfl⟩ entry_list_sort (lU (s:={s with heap:=h'.push (seqObj "list" vs.toArray 0),toks:=tk}) hoL hT2 nd h64 hne hna fun out L' ⟨is,a1,a2,a3⟩ a4 a5=>⟨_,rfl,?_⟩) (args_list_sort _)))
 obtain ⟨c,hc⟩:∃c,(sortedHeap (h'.push (seqObj "list" vs.toArray 0)) h'.objs.size vs out).get? h'.objs.size=some (seqObj "list" out c):=by
  unfold sortedHeap;obtain ⟨e1,q1⟩:∃e1,((h'.push (seqObj "list" vs.toArray 0)).update h'.objs.size (Obj.mapSeq fun _=>#[])).get? h'.objs.size=some (seqObj "list" #[] e1):=⟨_,get?_update_seq hoL (fun _=>#[])⟩;exact ⟨_,get?_update_seq (zae _ (zae _ q1)) (fun _=>out)⟩
 have ho:out=(is.map fun i=>vs.getD i .none).toArray:=by rw [←a1]
 subst a2;rw [ho] at hc;refine zad ⟨_,rfl,h is _ tk h'.objs.size c a3 a4 a5 (fun b o e=>?_) ht hge (by rw [ho];exact hc)⟩;have hb:=kp b o e;have ne:h'.objs.size≠b:=zaY (zah hb);unfold sortedHeap;rw [zay _ _ ne];refine zae _ (zae _ ?_);rw [zay _ _ ne];exact zae _ hb
end
end HK
namespace HW
open PySem PySem.Spec PyProof.Rows L2 HS HT2 HK
def ve (k:Th):List (Th)->Ta
 |[]=>[k]
 |x::l=>if iS k x=true then k::x::l else x::ve k l
def aZ:List (Th)->Ta
 |[]=>[]
 |k::l=>ve k (aZ l)
theorem l0 (k:Th):∀l,(ve k l).Perm (k::l)
 |[]=>.refl _
 |x::l=>by
  unfold ve;split
  ·exact .refl _
  ·exact ((l0 k l).cons x).trans (.swap k x l)
theorem bj:∀l,(aZ l).Perm l
 |[]=>.refl _
 |k::l=>(l0 k _).trans ((bj l).cons k)
abbrev rM (l:Ta):Prop:=l.Pairwise fun x y=>iS x y=true
theorem wN {k:Th}:∀{l:Ta},rM l->k∉l->rM (ve k l)
 |[],_,_=>by simp [ve]
 |x::l,h,hk=>by
  obtain ⟨h1,h2⟩:=zaM.mp h;unfold ve;split
  ·rename_i c
   refine zaM.mpr ⟨fun y hy=>?_,h⟩;rcases zak.mp hy with rfl|hy
   ·exact c
   ·exact fH _ _ _ c (h1 y hy)
  ·rename_i c
   refine zaM.mpr ⟨fun y hy=>?_,wN h2 fun z=>hk (zaj _ z)⟩;rcases zak.mp ((l0 k l).mem_iff.mp hy) with rfl|hy
   ·rcases m5 x y with q|q|q
    ·exact q
    ·exact absurd zai (q ▸ hk)
    ·exact absurd q c
   ·exact h1 y hy
theorem eJ:∀{l:Ta},l.Nodup->rM (aZ l)
 |[],_=>.nil
 |k::l,h=>by
  obtain ⟨h1,h2⟩:=zaP.mp h;exact wN (eJ h2) fun z=>h1 ((bj l).mem_iff.mp z)
theorem jK:∀{a b:Ta},rM a->rM b->a.Perm b->a=b
 |[],b,_,_,p=>by rw [List.nil_perm.mp p]
 |x::a,[],_,_,p=>by simpa using p.length_eq
 |x::a,y::b,ha,hb,p=>by
  obtain ⟨a1,a2⟩:=zaM.mp ha;obtain ⟨b1,b2⟩:=zaM.mp hb
  have e:x=y:=by
   rcases zak.mp (p.mem_iff.mp zai) with h|h
   ·exact h
   ·rcases zak.mp (p.mem_iff.mpr zai) with h'|h'
    ·exact h'.symm
    ·have q:=fH _ _ _ (b1 x h) (a1 y h')
     rw [gq] at q;cases q
  subst e;rw [jK a2 b2 ((List.perm_cons x).mp p)]
def A7:List R->ab->Option (R×ab)
 |[x],μ=>(jU x μ).bind fun xs=>(dC xs).bind fun ns=>some (.v (.key ns),μ)
 |_,_=>none
theorem tL {K:zac}{H:Hp}:∀{xs:List D} {ns:Th} {vs:List V},dC xs=some ns->RelDs K H xs vs->vs=ns.map V.int
 |[],ns,vs,e,r=>by cases e;exact r
 |.int n::xs,ns,vs,e,r=>by
  simp only [dC] at e;obtain ⟨ms,e1,rfl⟩:=zaF.mp e;obtain ⟨v,r',rfl,h1,h2⟩:=r;simp only [ak] at h1;subst h1;rw [tL e1 h2];rfl
 |.non::_,_,_,e,_=>by cases e
 |.bl _::_,_,_,e,_=>by cases e
 |.str _::_,_,_,e,_=>by cases e
 |.tup _::_,_,_,e,_=>by cases e
 |.fl _::_,_,_,e,_=>by cases e
 |.fd _ _::_,_,_,e,_=>by cases e
 |.key _::_,_,_,e,_=>by cases e
theorem KF {K:zac}:v4 K A7 (JH K):=by
 intro m H μ xs d μ' vs Q s r e k;unfold A7 at e;split at e
 ·rename_i x
  obtain ⟨ys,e1,e⟩:=zab.mp e;obtain ⟨ns,e2,e⟩:=zab.mp e;cases e;obtain ⟨v,rfl,r1⟩:=lg r;obtain ⟨a,ws,rfl,q,r⟩:=ip s r1 e1;refine ⟨a,ws,rfl,.inl ⟨q,fun p hp=>?_⟩⟩;obtain ⟨x1,x2,x3⟩:=im s r hp;refine k _ _ _ x1 x2 ?_;simp only [ap,ak];exact ⟨p,rfl,by rw [b8,tL e2 r]⟩
 ·cases e
theorem jF {K:zac}{H:Hp}:∀(ns:Th),RelDs K H (ns.map D.int) (ns.map V.int)
 |[]=>rfl
 |n::ns=>⟨_,_,rfl,by simp only [ak],jF ns⟩
abbrev kk (k:Th):List aV:=k.map Sum.inl
theorem qQ {a b:Th}(h:kk a=kk b):a=b:=by
 induction a generalizing b with
 |nil=>cases b with
  |nil=>rfl
  |cons y b=>cases h
 |cons x a ih=>cases b with
  |nil=>cases h
  |cons y b =>
   simp only [kk,zag,List.cons.injEq,Sum.inl.injEq] at h;rw [h.1,ih h.2]
theorem tt (k:Th):(kk k).map kV=k.map V.int:=by
 rw [za7];rfl
def jZ (K:zac)(H:Hp)(kvs:List (Th×D))(es:List (List aV×V)):Prop:=es.map (·.1)=kvs.map (fun p=>kk p.1)/\RelDs K H (kvs.map (·.2)) (es.map (·.2))
def DV:FE:=fun _ μ=>some (.p μ.length,μ++[.dt []])
theorem GB {K:zac}{H:Hp}{Q:VK}(h:aw K DV σ H Q):uR σ H Q:=by
 obtain ⟨ρ,μ,m,d,μ',hl,hs,e,k⟩:=h;cases e;intro p hp;refine k _ _ (m++[p]) (.newH hp) (hs.newH hp ⟨[],b8,rfl,rfl⟩) ⟨p,rfl,?_⟩;rw [←hs.len];simp
def iY (kvs:List (Th×D))(k:Th):Option D:=(kvs.find? fun p=>decide (p.1=k)).map (·.2)
def kj (kvs:List (Th×D))(k:Th)(d:D):List (Th×D) :=
 if (kvs.any fun p=>decide (p.1=k))=true then kvs.map (fun p=>if p.1=k then (p.1,d) else p) else kvs++[(k,d)]
theorem jZ.val {K:zac}{H:Hp}(k:Th):∀{kvs:List (Th×D)} {es:List (List aV×V)},jZ K H kvs es->(iY kvs k=none/\d3 es (kk k)=none)\/∃d v,iY kvs k=some d/\d3 es (kk k)=some v/\ak K H d v
 |[],[],_=>.inl ⟨rfl,rfl⟩
 |[],_::_,h=>by have:=h.1;simp at this
 |_::_,[],h=>by have:=h.1;simp at this
 |p::kvs,e::es,⟨h1,h2⟩=>by
  simp only [zag,List.cons.injEq] at h1;obtain ⟨v,r,q,r1,r2⟩:=h2;simp only [zag,List.cons.injEq] at q;obtain ⟨q1,q2⟩:=q
  by_cases c:p.1=k
  ·refine .inr ⟨p.2,e.2,?_,?_,by rw [q1];exact r1⟩
   ·unfold iY;rw [zcQ (by simpa using c)];rfl
   ·exact kY (by rw [h1.1,c])
  ·have ih:=jZ.val k (kvs:=kvs) (es:=es) ⟨h1.2,by rw [q2];exact r2⟩
   have n1:iY (p::kvs) k=iY kvs k:=by unfold iY;rw [zcR (by simpa using c)]
   have n2:d3 (e::es) (kk k)=d3 es (kk k):=iX fun z=>c (qQ (h1.1.symm.trans z));rw [n1,n2];exact ih
theorem jZ.any {K:zac}{H:Hp}{kvs:List (Th×D)}{es:List (List aV×V)}(r:jZ K H kvs es)(k:Th):(es.any fun e=>decide (e.1=kk k))=(kvs.any fun p=>decide (p.1=k)):=by
 have h1:(es.any fun e=>decide (e.1=kk k))=((es.map (·.1)).any fun x=>decide (x=kk k)):=by rw [zc3];rfl
 rw [h1,r.1,zc3]
 congr 1
 funext p
 simp only [Function.comp]
 by_cases c:p.1=k
 ·rw [zaA c,zaA (by rw [c])]
 ·rw [zav c,zav fun z=>c (qQ z)]
theorem jZ.cons {K:zac}{H:Hp}{k:Th}{k':List aV}{d:D}{v:V}{kvs:List (Th×D)}{es:List (List aV×V)}:jZ K H ((k,d)::kvs) ((k',v)::es) ↔ k'=kk k/\ak K H d v/\jZ K H kvs es:=by
 constructor
 ·rintro ⟨h1,h2⟩
  simp only [zag,List.cons.injEq] at h1;obtain ⟨w,r,e,h3,h4⟩:=h2;simp only [zag,List.cons.injEq] at e;obtain ⟨rfl,rfl⟩:=e;exact ⟨h1.1,h3,h1.2,h4⟩
 ·rintro ⟨rfl,h1,h2,h3⟩
  exact ⟨by rw [zag,zag,h2],⟨_,_,rfl,h1,h3⟩⟩
theorem jZ.repl {K:zac}{H:Hp}{k:Th}{d:D}{v:V}(rd:ak K H d v):∀{kvs:List (Th×D)} {es:List (List aV×V)},jZ K H kvs es->jZ K H (kvs.map fun p=>if p.1=k then (p.1,d) else p) (es.map fun e=>if e.1=kk k then (e.1,v) else e)
 |[],[],_=>⟨rfl,rfl⟩
 |[],_::_,h=>by have:=h.1;simp at this
 |_::_,[],h=>by have:=h.1;simp at this
 |(p,x)::kvs,(e,y)::es,h=>by
  obtain ⟨rfl,h2,h3⟩:=jZ.cons.mp h;have ih:=jZ.repl (k:=k) rd h3;rw [zag,zag]
  by_cases c:p=k
  ·have c':kk p=kk k:=by rw [c]
   rw [if_pos c,if_pos c'];exact jZ.cons.mpr ⟨rfl,rd,ih⟩
  ·have c':¬ kk p=kk k:=fun z=>c (qQ z)
   rw [if_neg c,if_neg c'];exact jZ.cons.mpr ⟨rfl,h2,ih⟩
theorem jZ.snoc {K:zac}{H:Hp}{k:Th}{d:D}{v:V}(rd:ak K H d v){kvs:List (Th×D)}{es:List (List aV×V)}(h:jZ K H kvs es):jZ K H (kvs++[(k,d)]) (es++[(kk k,v)]):=by
 refine ⟨by simp [h.1],?_⟩;rw [zaQ,zaQ];exact RelDs.append h.2 ⟨_,_,rfl,rd,rfl⟩
theorem jZ.put {K:zac}{H:Hp}{k:Th}{d:D}{v:V}{kvs:List (Th×D)}{es:List (List aV×V)}(r:jZ K H kvs es)(rd:ak K H d v):jZ K H (kj kvs k d) (ee es (kk k) v):=by
 unfold kj ee;rw [r.any k];split
 ·exact r.repl rd
 ·exact r.snoc rd
def E9:V->V->V->Hp->(Hp->Prop)->Prop:=fun o i v H Q=>∃p kvs k b,o=.ref p/\i=.ref b/\H p=some (.dT kvs)/\H b=some (.tup (k.map kV))/\kvs.length < sizeLine/\Q (upd H p (.dT (ee kvs k v)))
theorem xH {X:Cx}(hu:X.A.units+1 < cLine):Lj X E9:=by
 intro pins s σ H o i v ov iv u Q I ro ri rv h;obtain ⟨p,kvs,k,b,rfl,rfl,hp,hb,hl,q⟩:=h;cases ro;exact yG hu I (Ex.t hp hb hl) ri rv fun s' I'=>⟨_,I',q⟩
def pA (μ:ab)(n:Nat):Option (List (Th×D)):=match μ[n]? with|some (.dt kvs)=>some kvs|_=>none
theorem t8 {K:zac}{m:Tf}{H:Hp}{μ:ab}{n:Nat}{a:Addr}{kvs:List (Th×D)}(s:aP K m H μ)(ha:m[n]?=some a)(e:pA μ n=some kvs):∃es,H a=some (.dT es)/\jZ K H kvs es:=by
 unfold pA at e;split at e
 ·rename_i q
  cases e;obtain ⟨es,ea,e1,e2⟩:=s.cell _ _ a q ha;exact ⟨es,ea,e1,e2⟩
 ·cases e
def tO (fo fi:FE):FG:=fun d ρ μ=>match d with
 |.v dv=>(fo ρ μ).bind fun o=>(fi ρ o.2).bind fun i=>match o.1,i.1 with
  |.p n,.v (.key ks)=>(pA i.2 n).bind fun kvs=>if kvs.length < 1000 then some (ρ,i.2.set n (.dt (kj kvs ks dv))) else none
  |_,_=>none
 |_=>none
theorem zU {K:zac}{fo fi:FE}{v:V}{H:Hp}{Q:L2.St->Hp->Prop}(h:qC K (tO fo fi) v σ H Q):L2.HH (aw K fo) (aw K fi) E9 v σ H Q:=by
 obtain ⟨ρ,μ,m,d,ρ',μ',hl,hs,r,e,k⟩:=h;unfold tO at e;split at e
 ·rename_i dv
  obtain ⟨⟨o,μ1⟩,e1,e⟩:=zab.mp e;obtain ⟨⟨i,μ2⟩,e2,e⟩:=zab.mp e;dsimp only at e;split at e
  ·rename_i n ks e0
   obtain ⟨kvs,e3,e⟩:=zab.mp e;split at e
   ·rename_i h1000
    cases e;refine ⟨ρ,μ,m,_,μ1,hl,hs,e1,fun vo H1 m1 x1 s1 r1=>?_⟩;refine ⟨ρ,μ1,m1,_,μ2,hl.ext x1,s1,e2,fun vi H2 m2 x2 s2 r2=>?_⟩;obtain ⟨a,rfl,ha⟩:=r1.ext x2;simp only [ap,ak] at r2;obtain ⟨b,rfl,hb⟩:=r2;obtain ⟨es,ea,kd⟩:=t8 s2 ha e3;have rv:ak K H2 dv v:=ak.tf (x1.tf.trans x2.tf) _ _ r;have kd':=kd.put (k:=ks) rv;have x:d6 m2 H2 m2 (upd H2 a (.dT (ee es (kk ks) v))):=.put (zaZ ha) ea (by simp) (by simp);have s3:=s2.put (c:=.dt (kj kvs ks dv)) ha ea (by simp) (by simp) ⟨_,b8,kd'.1,RelDs.tf x.tf _ _ kd'.2⟩;refine ⟨a,es,kk ks,b,rfl,rfl,ea,by rw [tt];exact hb,?_,k σ _ m2 ((x1.trans x2).trans x) s3 (hl.ext ((x1.trans x2).trans x))⟩;have:=congrArg List.length kd.1
    simp only [zaf] at this
    rw [this,za3];omega
   ·cases e
  ·cases e
 ·cases e
def Bz (fo fk:FE):FE:=fun ρ μ=>(fo ρ μ).bind fun o=>(fk ρ o.2).bind fun k=>match o.1,k.1 with
 |.p n,.v (.key ks)=>(pA k.2 n).bind fun kvs=>(iY kvs ks).bind fun d=>some (.v d,k.2)
 |_,_=>none
theorem Gi {K:zac}{H:Hp}{Q:VK}{fo fk}(h:aw K (Bz fo fk) σ H Q):zu (aw K fo) (aw K fk) σ H Q:=by
 obtain ⟨ρ,μ,m,d,μ',hl,hs,e,kk'⟩:=h;obtain ⟨⟨o,μ1⟩,e1,e⟩:=zab.mp e;obtain ⟨⟨k,μ2⟩,e2,e⟩:=zab.mp e;dsimp only at e;split at e
 ·rename_i n ks e0
  obtain ⟨kvs,e3,e⟩:=zab.mp e;obtain ⟨dd,e4,e⟩:=zab.mp e;cases e;refine ⟨ρ,μ,m,_,μ1,hl,hs,e1,fun vo H1 m1 x1 s1 r1=>?_⟩;refine ⟨ρ,μ1,m1,_,_,hl.ext x1,s1,e2,fun vk H2 m2 x2 s2 r2=>?_⟩;obtain ⟨a,rfl,ha⟩:=r1.ext x2;simp only [ap,ak] at r2;obtain ⟨b,rfl,hb⟩:=r2;obtain ⟨es,ea,kd⟩:=t8 s2 ha e3;rcases kd.val ks with ⟨n1,n2⟩|⟨d',v',n1,n2,n3⟩
  ·rw [n1] at e4;cases e4
  ·rw [n1] at e4;cases e4
   exact ⟨a,v',rfl,.inr ⟨es,kk ks,b,.inl ea,rfl,by rw [tt];exact hb,n2.symm⟩,kk' _ H2 m2 (x1.trans x2) s2 (by simpa only [ap] using n3)⟩
 ·cases e
def g8 (H:Hp):List Addr->List (Th)->Prop
 |[],[]=>True
 |a::as,k::ks=>H a=some (.tup (k.map V.int))/\g8 H as ks
 |_,_=>False
theorem g8.at {H:Hp}:∀{as:Tf} {ks:Ta},g8 H as ks->∀i,i < ks.length->H (as.getD i 0)=some (.tup ((ks.getD i []).map V.int))
 |[],[],_,i,hi=>by simp at hi
 |[],_::_,h,_,_=>h.elim
 |_::_,[],h,_,_=>h.elim
 |_::_,_::_,h,0,_=>h.1
 |_::_,_::_,h,i+1,hi=>g8.at h.2 i (by simpa using hi)
theorem g8.pick {H:Hp}{as:Tf}{ks:Ta}(h:g8 H as ks):∀(is:List Nat),(∀i∈is,i < ks.length)->g8 H (is.map fun i=>as.getD i 0) (is.map fun i=>ks.getD i [])
 |[],_=>trivial
 |i::is,hi=>⟨h.at i (hi i zai),g8.pick h is fun j hj=>hi j (zaj _ hj)⟩
theorem g8.rels {K:zac}{H:Hp}:∀{as:Tf} {ks:Ta},g8 H as ks->RelDs K H (ks.map D.key) (as.map V.ref)
 |[],[],_=>rfl
 |[],_::_,h=>h.elim
 |_::_,[],h=>h.elim
 |_::_,_::_,h=>⟨_,_,rfl,by simp only [ak];exact ⟨_,rfl,h.1⟩,g8.rels h.2⟩
def nU:List V->Hp->VK->Prop:=fun vs H Q=>∃p kvs L,vs=[.ref p]/\H p=some (.dT kvs)/\kvs.map (·.1)=L.map kk/\L.length < 64/\(2<=L.length->∀x∈L,x≠[]) /\
 ∀as,g8 H as (aZ L)->∀l,H l=none->Q (.ref l) (upd H l (.lst (as.map V.ref)))
theorem lH {X:Cx}(hc:X.calm=true):d9 X (.builtin "sorted") nU:=by
 intro pins s σ H vs us Q I r h;obtain ⟨p,kvs,L,rfl,hp,hk,h64,hne,q⟩:=h;obtain ⟨u,rfl,rx⟩:=gP r;cases rx;obtain ⟨hz,hs,xs,kt,o,es,ep,g,hx,hd,he,hn⟩:=(show bm X.prog X.w H s.heap p (.dT kvs) from I.hok p _ hp)
 have key:∀{ks:List (List aV×V)} {ys:List (List aV×Addr×Value)} {L:Ta},Paired (fun (p:List aV×V) (q:List aV×Addr×Value)=>p.1=q.1/\H q.2.1=some (.tup (p.1.map kV))/\aY p.2 q.2.2) ks ys->ks.map (·.1)=L.map kk ->
   g8 H (ys.map (·.2.1)) L/\aO s.heap (ys.map fun y=>.ref y.2.1) L/\ys.map (·.1)=L.map kk:=by
  intro ks ys L kt
  induction kt generalizing L with
  |nil=>intro e;cases L with
   |nil=>exact ⟨trivial,trivial,rfl⟩
   |cons _ _=>cases e
  | @cons a b ps qs h1 h2 ih =>
   intro e
   cases L with
   |nil=>cases e
   |cons k L =>
    simp only [zag,List.cons.injEq] at e;obtain ⟨i1,i2,i3⟩:=ih e.2
    have hb:H b.2.1=some (.tup (k.map V.int)):=by rw [h1.2.1,e.1,tt]
    obtain ⟨_,its,rv,⟨ob,g1,g2,n,g3⟩,_⟩:=(show bm X.prog X.w H s.heap b.2.1 (.tup (k.map V.int)) from I.hok _ _ hb);exact ⟨⟨hb,i1⟩,⟨⟨b.2.1,ob,its.toArray,n,rfl,g1,g2,g3,by simpa using cr rv⟩,i2⟩,by simp only [zag,i3,←h1.1,e.1]⟩
 obtain ⟨pa,ta,ka⟩:=key kt hk
 have hkeys:es.toList.map (·.key)=xs.map fun y=>.ref y.2.1:=by rw [he,za7];rfl
 have nd:L.Nodup:=by
  rw [ka] at hn;exact (zbC.mp hn).imp fun h e=>h (by rw [e])
 refine CG (I.ok.hd hc) hs ⟨o,g,hx,hd⟩ (by rw [hkeys];exact ta) nd h64 hne fun is h' tk l c i1 i2 i3 kp ht hl hL=>?_;have hpk:=pa.pick is i1;have heq:(is.map fun i=>L.getD i [])=aZ L:=jK i3 (eJ nd) (i2.trans (bj L).symm);rw [heq] at hpk
 have hlen:is.length=L.length:=by simpa using i2.length_eq
 refine ⟨.ref l,_,I.laid (t':=tk) kp hl (show bm X.prog X.w _ h' _ (.lst ((is.map fun i=>(xs.map (·.2.1)).getD i 0).map V.ref)) from ⟨by rw [zaf,zaf,hlen,za3];omega,(is.map fun i=>(es.toList.map (·.key)).getD i .none),c,?_,by simpa [seqObj] using hL⟩),rfl,q _ hpk _ (I.hok.fresh hl)⟩;rw [hkeys]
 have hxl:xs.length=L.length:=by simpa using congrArg List.length ka
 clear hpk heq i2 i3 hL hlen
 induction is with
 |nil=>exact .nil
 |cons i is ih =>
  have hi:i < xs.length:=by rw [hxl];exact i1 i zai
  refine .cons ?_ (ih fun j hj=>i1 j (zaj _ hj))
  show _=Value.ref _
  simp [za2,zar hi]
def xF:List R->ab->Option (R×ab)
 |[.p n],μ=>(pA μ n).bind fun kvs=>if kvs.length < 64/\(kvs.length < 2\/∀p∈kvs,p.1≠[]) then some (.p μ.length,μ++[.lst ((aZ (kvs.map (·.1))).map D.key)]) else none
 |_,_=>none
theorem Hy {K:zac}:v4 K xF nU:=by
 intro m H μ xs d μ' vs Q s r e k;unfold xF at e;split at e
 ·rename_i n
  obtain ⟨kvs,e1,e⟩:=zab.mp e;split at e
  ·rename_i hc
   cases e;obtain ⟨v,rfl,r1⟩:=lg r;obtain ⟨a,rfl,ha⟩:=r1;obtain ⟨es,ea,kd⟩:=t8 s ha e1;refine ⟨a,es,kvs.map (·.1),rfl,ea,by rw [kd.1,za7];rfl,by simpa using hc.1,fun h2 x hx=>?_,fun as pa l hl=>?_⟩
   ·rw [zaf] at h2
    obtain ⟨p,hp,rfl⟩:=zas.mp hx;rcases hc.2 with h|h
    ·omega
    ·exact h p hp
   ·obtain ⟨x1,x2,x3⟩:=e7 s (pa.rels (K:=K)) hl
    exact k _ _ _ x1 x2 x3
  ·cases e
 ·cases e
theorem Bi {X:Cx}{H:Hp}{s:Shared}(I:aA X pins σ H s){b:Addr}{zs:List V}(h:iV X.K H b zs):∃(its:Te) (n:Nat),aW zs its/\s.heap.get? b=some {cls:=.type "list",data:=.seq its.toArray n}:=by
 rcases h with h|⟨o,its,n,hk,hc,hd,hs,hz,r⟩
 ·obtain ⟨z,its,n,r,e⟩:=h.ok I.hok
  exact ⟨its,n,r,e⟩
 ·refine ⟨its.toList,n,r,?_⟩
  have e:=I.kIn b o hk;obtain ⟨c,d,dt,sl⟩:=o;simp only at hc hd hs;obtain ⟨hd,hl⟩:=hd;subst hc hd hs hl;simpa using e
def zJ:R->ab->Option (List D)
 |.p a,μ=>(match μ[a]? with|some (.lst xs)=>some xs|some (.fz xs)=>some xs|_=>none)
 |.v (.fl xs),_=>some xs
 |_,_=>none
theorem qw {K:zac}{m:Tf}{H:Hp}{μ:ab}(s:aP K m H μ){x:R}{v:V}{xs:List D}(e:zJ x μ=some xs)(r:ap K m H x v):∃a vs,v=.ref a/\iV K H a vs/\RelDs K H xs vs:=by
 refine ip s r ?_;rw [←e]
 cases x with
 |v d=>cases d <;> rfl
 |_=>rfl
end HW
namespace PySem
section
variable  {prog:Program}{w:World}{K:Type}[DecidableEq K]{knd:HeapKind prog w K}{A:Around}{E:Tb}{s:Shared}
theorem pq {d a:Addr}{xs:List (K×Addr×Value)}{k:K}{dflt:Value}{Q:Tb}(hu:knd.room A)(hkey:knd.is s.heap k a)(hm:s.heap.DictOfH knd d xs)
  (h1:∀v,(atKey xs k).map (·.2)=some v->Q v {s with toks:=s.toks+knd.draws k})
  (h2:atKey xs k=none->∀h',h'.DictOfH knd d (storedH xs k a dflt)->Heap.SameBut d s.heap h'->Q dflt {s with heap:=h',toks:=s.toks+knd.draws k})
  (hsz:xs.length<=sizeLine) :
  wpAny (model prog w) A (dictSetDefault d (.ref a) dflt) Q E s:=by
 obtain ⟨o,es,ep,ho,hc,hd,he,his,hn⟩:=hm;unfold dictSetDefault
 try with_reducible refine zaE ?_
 refine zaa (knd.pyHash hu hkey ?_);refine zaa (wpAny_dictFind_heap (s:={s with toks:=s.toks+knd.draws k}) hu hkey ho hd he his hn ?_ ?_)
 ·intro hno
  have hnot:k∉xs.map (·.1):=not_mem_keys_of_get hno
  refine zaa (zbY (zaa (wpAny_updateDictKeys (hz:=by have e:=size_of_entries he;omega) (s:={s with toks:=s.toks+knd.draws k}) ho hd (zad (h2 (atKey_none_of_get hno) _ ⟨_,_,ep+1,za4 _ ho (Obj.isFreed_of_dict (Obj.data_mapDictKeys hd _)),
   hc.mapDictKeys _,Obj.data_mapDictKeys hd _,?_,?_,?_⟩ (Heap.SameBut.update ..))))))
  ·rw [storedH_new (atKey_none_of_get hno)]
   simp [he,entryOfKey]
  ·rw [storedH_new (atKey_none_of_get hno)]
   intro x hx;rcases zaL.mp hx with hx|hx
   ·exact knd.keeps (his x hx) ho hd (Heap.SameBut.update ..)
   ·simp only [zat] at hx
    subst hx;exact knd.keeps hkey ho hd (Heap.SameBut.update ..)
  ·rw [storedH_new (atKey_none_of_get hno)]
   rw [zaQ,zbb];refine ⟨hn,by simp,?_⟩;intro x hx y hy;simp only [zag,za6,zat] at hy;subst hy;exact fun e=>hnot (e ▸ hx)
 ·intro j p hj
  refine zaa (zbP (s:={s with toks:=s.toks+knd.draws k}) ho hd ?_);rw [entry_at he j,hj];exact zaa (zbY (zad (h1 _ (by rw [atKey_of_get hn hj];rfl))))
theorem jV (knd:HeapKind prog w K){k:K}{a:Addr}(d:Addr)(hd:(d == sysModules)=false)(dflt:Value) :
  MeetsIn prog w (Builtin.«dict.setdefault» ⟨[.ref d,.ref a,dflt],[]⟩) (fun A R s=>knd.room A.in1/\knd.is s.heap k a/\∃xs,s.heap.DictOfH knd d xs/\xs.length<=sizeLine /\
   (∀v,(atKey xs k).map (·.2)=some v->R (.ok (.ret v)) {s with toks:=s.toks+knd.draws k}) /\
   (atKey xs k=none->∀h',h'.DictOfH knd d (storedH xs k a dflt)->Heap.SameBut d s.heap h'->R (.ok (.ret dflt)) {s with heap:=h',toks:=s.toks+knd.draws k})) :=
 .of_wp fun A R s hh=>by
  obtain ⟨hu,hkey,xs,hm,hz,h1,h2⟩:=hh;unfold Builtin.«dict.setdefault»;refine zaa ?_;unfold Builtin.Dict.keyAndDefault;refine zaa (zcY hm.typeIs ?_)
  show wpAny _ _ (pure (d,Value.ref a,some dflt)) _ _ s
  refine zad ?_
  show wpAny _ _ (if (d == sysModules)=true then _ else (dictSetDefault d (.ref a) dflt >>= _)) _ _ s
  rw [if_neg (by rw [hd];exact za1)];exact zaa (pq (hsz:=hz) hu hkey hm (fun v hv=>zad ⟨v,rfl,h1 v hv⟩) fun hn h' hm' hs'=>zad ⟨dflt,rfl,h2 hn h' hm' hs'⟩)
end
end PySem
namespace HW
open PySem PySem.Spec PyProof.Rows L2
def zr (td ty tx:TE):TE:=fun σ H Q=>td σ H fun x H1=>∃a,x=.ref a/\OP H1 a/\ty σ H1 fun y H2=>tx σ H2 fun z H3=>∃kvs k b,H3 a=some (.dT kvs)/\y=.ref b/\H3 b=some (.tup (k.map kV))/\kvs.length < sizeLine /\
 (∀v,d3 kvs k=some v->Q v H3)/\(d3 kvs k=none->Q z (upd H3 a (.dT (kvs++[(k,z)]))))
theorem wz {X:Cx}(hu:X.A.units+1 < cLine){o e f:Expr}{apos cpos:Pos}{td ty tx:TE}(ho:PE X o td)(he:PE X e ty)(hf:PE X f tx)(m:M2 X o "setdefault" apos e f cpos):PE X (.Call (.Attribute o "setdefault" apos) [e,f] [] cpos) (zr td ty tx):=by
 intro pins s σ H Q I h;refine wpAny_Call_method m.base m.few m.line PySem.F.plainAttrs_dict PySem.F.slot_dict_setdefault PySem.F.type_dict_setdefault (cV (ho pins s σ H _ I h) fun u s1 hh=>?_);obtain ⟨x,H1,I1,rx,a,ex,d,q1⟩:=hh;subst ex;obtain rfl:u=Value.ref a:=rx;obtain ⟨t1,t2,_⟩:=Bj I1 d;refine ⟨t1,t2,?_⟩;rw [m.trees];refine Calls.callWith_builtin rfl (Calls.evalArgs_plain (Calls.spliced_cons (cV (he pins s1 σ H1 _ I1 q1) fun iv s2 hh=>?_)));obtain ⟨y,H2,I2,ry,q2⟩:=hh;refine Calls.spliced_cons (cV (hf pins s2 σ H2 _ I2 q2) fun fv s3 hh=>Calls.spliced_nil ?_);obtain ⟨z,H3,I3,rz,kvs,k,b,ea,ey,eb,hz,qa,qb⟩:=hh;subst ey;cases (show iv=Value.ref b from ry);obtain ⟨zz,hd,xs,rel,dd⟩:=Fu I3.hok ea
 have hxz:xs.length<=sizeLine:=by rw [←Paired.length rel];exact zz
 refine call_meetsIn PySem.F.slot_dict_setdefault dd.typeIs PySem.F.entry_dict_setdefault (PySem.F.args_dict_setdefault_3 _ _ _) (jV (tupleKind (bz X.prog X.w)) (k:=k) a hd fv) ⟨tupleKind_room_in1 hu,l6 I3.hok eb,xs,dd,hxz,fun v hv=>?_,fun hn h' dd' hs=>?_⟩
 ·have r:=rel.val k
  rw [hv] at r
  cases q:d3 kvs k with
  |none=>rw [q] at r;exact r.elim
  |some v'=>rw [q] at r;exact ⟨v',H3,I3.tok _,r,qa v' q⟩
 ·have r:=rel.val k
  rw [hn] at r
  cases q:d3 kvs k with
  |some v'=>rw [q] at r;exact r.elim
  |none =>
   have rp:=rel.put k eb rz;rw [Ao _ q] at rp;obtain ⟨q',es,ep,hq,h2,h3,h4,_,h5⟩:=dd';refine ⟨z,_,rf (ob:=.dT (kvs++[(k,z)])) I3 (by rw [ea];exact True.intro) hs ⟨q',hq⟩ ⟨by rw [zaW];exact hz,hd,_,rp.keeps fun c ys ec=>?_,q',es,ep,hq,h2,h3,h4,h5⟩,rz,qb q⟩;rw [au (Fi ec ea (fun z=>nomatch z))];exact ec
def mJ (K:zac)(m:Tf)(H:Hp)(kvs:List (Th×R))(es:List (List aV×V)):Prop:=es.map (·.1)=kvs.map (fun p=>kk p.1)/\bn K m H (kvs.map (·.2)) (es.map (·.2))
def iP (kvs:List (Th×R))(k:Th):Option R:=(kvs.find? fun p=>decide (p.1=k)).map (·.2)
section
variable  {K:zac}{m m':Tf}{H H':Hp}
theorem mJ.nil:mJ K m H [] []:=⟨rfl,rfl⟩
theorem mJ.cons {k:Th}{k':List aV}{d:R}{v:V}{kvs:List (Th×R)}{es:List (List aV×V)}:mJ K m H ((k,d)::kvs) ((k',v)::es) ↔ k'=kk k/\ap K m H d v/\mJ K m H kvs es:=by
 constructor
 ·rintro ⟨h1,h2⟩
  simp only [zag,List.cons.injEq] at h1;obtain ⟨w,r,e,h3,h4⟩:=h2;simp only [zag,List.cons.injEq] at e;obtain ⟨rfl,rfl⟩:=e;exact ⟨h1.1,h3,h1.2,h4⟩
 ·rintro ⟨rfl,h1,h2,h3⟩
  exact ⟨by simp [h2],⟨_,_,rfl,h1,h3⟩⟩
theorem mJ.snoc {k:Th}{d:R}{v:V}(rd:ap K m H d v):∀{kvs:List (Th×R)} {es:List (List aV×V)},mJ K m H kvs es->mJ K m H (kvs++[(k,d)]) (es++[(kk k,v)])
 |[],[],_=>mJ.cons.mpr ⟨rfl,rd,.nil⟩
 |[],e::es,h=>by have:=h.1;simp at this
 |q::kvs,[],h=>by have:=h.1;simp at this
 |(a,x)::kvs,(b,y)::es,h=>by
  obtain ⟨rfl,h1,h2⟩:=mJ.cons.mp h;exact mJ.cons.mpr ⟨rfl,h1,mJ.snoc rd h2⟩
theorem mJ.val:∀{kvs:List (Th×R)} {es:List (List aV×V)} (k:Th),mJ K m H kvs es->(iP kvs k=none/\d3 es (kk k)=none)\/∃d v,iP kvs k=some d/\d3 es (kk k)=some v/\ap K m H d v
 |[],es,k,h=>by
  have:es=[]:=by simpa using h.1
  subst this;exact .inl ⟨rfl,rfl⟩
 |(a,d)::kvs,[],k,h=>by have:=h.1;simp at this
 |(a,d)::kvs,(b,v)::es,k,h=>by
  obtain ⟨rfl,h1,h2⟩:=mJ.cons.mp h
  by_cases e:a=k
  ·refine .inr ⟨d,v,?_,?_,h1⟩
   ·simp [iP,e]
   ·simp [d3,e]
  ·have ih:=mJ.val k h2
   have e1:iP ((a,d)::kvs) k=iP kvs k:=by simp [iP,e]
   have e2:d3 ((kk a,v)::es) (kk k)=d3 es (kk k):=iX fun z=>e (qQ z);rw [e1,e2];exact ih
theorem mJ.ext (x:d6 m H m' H'){kvs:List (Th×R)}{es:List (List aV×V)}(h:mJ K m H kvs es):mJ K m' H' kvs es:=⟨h.1,bn.ext x h.2⟩
theorem mJ.len {kvs:List (Th×R)}{es:List (List aV×V)}(h:mJ K m H kvs es):es.length=kvs.length:=by simpa using congrArg List.length h.1
end
def gx (μ:ab)(n:Nat):Option (List (Th×R)):=match μ[n]? with|some (.dtr kvs)=>some kvs|_=>none
theorem rc {K:zac}{m:Tf}{H:Hp}{μ:ab}{n:Nat}{a:Addr}{kvs:List (Th×R)}(s:aP K m H μ)(ha:m[n]?=some a)(e:gx μ n=some kvs):μ[n]?=some (.dtr kvs)/\∃es,H a=some (.dT es)/\mJ K m H kvs es:=by
 unfold gx at e;split at e
 ·rename_i q
  cases e;obtain ⟨es,ea,e1,e2⟩:=s.cell _ _ a q ha;exact ⟨q,es,ea,e1,e2⟩
 ·cases e
def DW:FE:=fun _ μ=>some (.p μ.length,μ++[.dtr []])
theorem GC {K:zac}{H:Hp}{Q:VK}(h:aw K DW σ H Q):uR σ H Q:=by
 obtain ⟨ρ,μ,m,d,μ',hl,hs,e,k⟩:=h;cases e;intro p hp;have x:d6 m H (m++[p]) (upd H p (.dT [])):=.newH hp;exact k _ _ (m++[p]) x (hs.newH hp ⟨[],b8,rfl,rfl⟩) ⟨p,rfl,by rw [←hs.len];simp⟩
def oG (fo fk fx:FE):FE:=fun ρ μ=>(fo ρ μ).bind fun o=>match o.1 with
 |.p n=>if (gx o.2 n).isSome=true then (fk ρ o.2).bind fun k=>match k.1 with
  |.v (.key ks)=>(fx ρ k.2).bind fun x=>(gx x.2 n).bind fun kvs=>if kvs.length < 1000 then some (match iP kvs ks with|some r=>(r,x.2)|none=>(x.1,x.2.set n (.dtr (kvs++[(ks,x.1)])))) else none
  |_=>none
  else none
 |_=>none
theorem CV {K:zac}{H:Hp}{Q:VK}{fo fk fx}(h:aw K (oG fo fk fx) σ H Q):zr (aw K fo) (aw K fk) (aw K fx) σ H Q:=by
 obtain ⟨ρ,μ,m,d,μ',hl,hs,e,kc⟩:=h;obtain ⟨⟨o,μ1⟩,e1,e⟩:=zab.mp e;split at e
 ·rename_i n hn
  simp only at hn;subst hn;split at e
  ·rename_i h0
   obtain ⟨⟨k,μ2⟩,e2,e⟩:=zab.mp e;split at e
   ·rename_i ks hks
    simp only at hks;subst hks;obtain ⟨⟨x,μ3⟩,e3,e⟩:=zab.mp e;obtain ⟨kvs,e4,e⟩:=zab.mp e;split at e
    ·rename_i hlt
     refine ⟨ρ,μ,m,_,μ1,hl,hs,e1,fun vo H1 m1 x1 s1 r1=>?_⟩;obtain ⟨kvs0,e0⟩:=zcD.mp h0;obtain ⟨a,rfl,ha⟩:=r1;obtain ⟨_,es,hR,hK⟩:=rc s1 ha e0;refine ⟨a,rfl,.inr ⟨es,.inl hR⟩,?_⟩;refine ⟨ρ,μ1,m1,_,μ2,hl.ext x1,s1,e2,fun vk H2 m2 x2 s2 r2=>?_⟩;refine ⟨ρ,μ2,m2,x,μ3,hl.ext (x1.trans x2),s2,e3,fun vx H3 m3 x3 s3 r3=>?_⟩;have x13:=(x1.trans x2).trans x3
     have ha3:m3[n]?=some a:=by
      obtain ⟨a',ea',q⟩:=ap.ext (x2.trans x3) (show ap K m1 H1 (.p n) (.ref a) from ⟨a,rfl,ha⟩);cases ea';exact q
     obtain ⟨q3,es',hR',hK'⟩:=rc s3 ha3 e4;have r2':=r2.ext x3;simp only [ap,ak] at r2';obtain ⟨b,rfl,hb⟩:=r2';refine ⟨es',kk ks,b,hR',rfl,by rw [tt];exact hb,?_,fun v hv=>?_,fun hv=>?_⟩
     ·rw [hK'.len];exact zaB hlt (by rw [za3];omega)
     ·rcases mJ.val ks hK' with ⟨n1,n2⟩|⟨dd,vv,n1,n2,n3⟩
      ·rw [n2] at hv;cases hv
      ·rw [n2] at hv;cases hv
       simp only [n1] at e;cases e;exact kc _ H3 m3 x13 s3 n3
     ·rcases mJ.val ks hK' with ⟨n1,n2⟩|⟨dd,vv,n1,n2,n3⟩
      ·simp only [n1] at e
       cases e;have y:d6 m3 H3 m3 (upd H3 a (.dT (es'++[(kk ks,vx)]))):=.put (zaZ ha3) hR' (by simp) (by simp);have kr:=mJ.snoc (k:=ks) (r3.ext y) (hK'.ext y);exact kc _ _ m3 (x13.trans y) (s3.put ha3 hR' (by simp) (by simp) ⟨_,b8,kr.1,kr.2⟩) (r3.ext y)
      ·rw [n2] at hv;cases hv
    ·cases e
   ·cases e
  ·cases e
 ·cases e
def By (fo fk:FE):FE:=fun ρ μ=>(fo ρ μ).bind fun o=>(fk ρ o.2).bind fun k=>match o.1,k.1 with
 |.p n,.v (.key ks)=>(gx k.2 n).bind fun kvs=>(iP kvs ks).bind fun d=>some (d,k.2)
 |_,_=>none
theorem Ge {K:zac}{H:Hp}{Q:VK}{fo fk}(h:aw K (By fo fk) σ H Q):zu (aw K fo) (aw K fk) σ H Q:=by
 obtain ⟨ρ,μ,m,d,μ',hl,hs,e,kk'⟩:=h;obtain ⟨⟨o,μ1⟩,e1,e⟩:=zab.mp e;obtain ⟨⟨k,μ2⟩,e2,e⟩:=zab.mp e;dsimp only at e;split at e
 ·rename_i n ks e0
  obtain ⟨kvs,e3,e⟩:=zab.mp e;obtain ⟨dd,e4,e⟩:=zab.mp e;cases e;refine ⟨ρ,μ,m,_,μ1,hl,hs,e1,fun vo H1 m1 x1 s1 r1=>?_⟩;refine ⟨ρ,μ1,m1,_,_,hl.ext x1,s1,e2,fun vk H2 m2 x2 s2 r2=>?_⟩;obtain ⟨a,rfl,ha⟩:=r1.ext x2;simp only [ap,ak] at r2;obtain ⟨b,rfl,hb⟩:=r2;obtain ⟨_,es,ea,kd⟩:=rc s2 ha e3;rcases mJ.val ks kd with ⟨n1,n2⟩|⟨d',v',n1,n2,n3⟩
  ·rw [n1] at e4;cases e4
  ·rw [n1] at e4;cases e4
   exact ⟨a,v',rfl,.inr ⟨es,kk ks,b,.inl ea,rfl,by rw [tt];exact hb,n2.symm⟩,kk' _ H2 m2 (x1.trans x2) s2 n3⟩
 ·cases e
def pJ:List R->ab->Option (R×ab)
 |[.p n],μ=>(gx μ n).bind fun kvs=>if kvs.length < 64/\(kvs.length < 2\/∀p∈kvs,p.1≠[]) then some (.p μ.length,μ++[.lst ((aZ (kvs.map (·.1))).map D.key)]) else none
 |_,_=>none
theorem DM {K:zac}:v4 K pJ nU:=by
 intro m H μ xs d μ' vs Q s r e k;unfold pJ at e;split at e
 ·rename_i n
  obtain ⟨kvs,e1,e⟩:=zab.mp e;split at e
  ·rename_i hc
   cases e;obtain ⟨v,rfl,r1⟩:=lg r;obtain ⟨a,rfl,ha⟩:=r1;obtain ⟨_,es,ea,kd⟩:=rc s ha e1;refine ⟨a,es,kvs.map (·.1),rfl,ea,by rw [kd.1,za7];rfl,by simpa using hc.1,fun h2 x hx=>?_,fun as pa l hl=>?_⟩
   ·rw [zaf] at h2
    obtain ⟨p,hp,rfl⟩:=zas.mp hx;rcases hc.2 with h|h
    ·omega
    ·exact h p hp
   ·obtain ⟨x1,x2,x3⟩:=e7 s (pa.rels (K:=K)) hl
    exact k _ _ _ x1 x2 x3
  ·cases e
 ·cases e
mutual
def cQ:D->D
 |.tup xs=>.tup (unkDs xs)
 |.fl xs=>.fl (unkDs xs)
 |.key ks=>.tup (ks.map D.int)
 |.fd ks ds=>.fd ks ds
 |.non=>.non
 |.bl b=>.bl b
 |.int i=>.int i
 |.str x=>.str x
def unkDs:List D->List D
 |[]=>[]
 |x::xs=>cQ x::unkDs xs
end
theorem lP:∀xs:List D,unkDs xs=xs.map cQ
 |[]=>by simp only [unkDs,za6]
 |x::xs=>by simp only [unkDs,zag,lP xs]
section
variable  {K:zac}{H:Hp}
mutual
theorem ak.unk:∀(d:D) (v:V),ak K H d v->ak K H (cQ d) v
 |.non,_,h=>by simpa only [cQ] using h
 |.bl _,_,h=>by simpa only [cQ] using h
 |.int _,_,h=>by simpa only [cQ] using h
 |.str _,_,h=>by simpa only [cQ] using h
 |.fd _ _,_,h=>by simpa only [cQ] using h
 |.tup xs,v,h=>by
  simp only [cQ,ak] at h ⊢;obtain ⟨a,vs,e,s,r⟩:=h;exact ⟨a,vs,e,s,RelDs.unk xs vs r⟩
 |.fl xs,v,h=>by
  simp only [cQ,ak] at h ⊢;obtain ⟨a,vs,e,s,r⟩:=h;exact ⟨a,vs,e,s,RelDs.unk xs vs r⟩
 |.key ks,v,h=>by
  simp only [cQ,ak] at h ⊢;obtain ⟨a,e,q⟩:=h;exact ⟨a,_,e,.inl (.inl q),jF ks⟩
theorem RelDs.unk:∀(ds:List D) (vs:List V),RelDs K H ds vs->RelDs K H (unkDs ds) vs
 |[],_,h=>by simpa only [unkDs] using h
 |d::ds,vs,h=>by
  simp only [unkDs,RelDs] at h ⊢;obtain ⟨v,r,e,h1,h2⟩:=h;exact ⟨v,r,e,ak.unk d v h1,RelDs.unk ds r h2⟩
end
end
def uk {α:Type}(f:List D->α):List D->α:=fun ds=>f (unkDs ds)
theorem pE (ds:List D):(unkDs ds).length=ds.length:=by rw [lP,zaf]
theorem Jy {K:zac}{n:Nat}{f:MF}{vs:List V}{H:Hp}{Q:VK}{E:XK}(h:yV K n (uk f) vs H Q E):yV K n f vs H Q E:=by
 obtain ⟨ds,d,hl,r,e,k⟩:=h;exact ⟨unkDs ds,d,(pE ds).trans hl,RelDs.unk ds vs r,e,k⟩
theorem F2 {K:zac}{n:Nat}{f:List D->Option aG}{vs:List V}{H:Hp}{Q:VK}{E:XK}(h:xG K n (cX K (uk f)) vs H Q E):xG K n (cX K f) vs H Q E:=by
 obtain ⟨ds,P,hl,r,e,k⟩:=h;exact ⟨unkDs ds,P,(pE ds).trans hl,RelDs.unk ds vs r,e,k⟩
def lO:R->R
 |.v d=>.v (cQ d)
 |x=>x
def FN:aG->aG
 |.lst xs=>.lst (unkDs xs)
 |.fz xs=>.fz (unkDs xs)
 |c=>c
def qo (μ:ab):ab:=μ.map FN
theorem gf.unk {K:zac}{m:Tf}{H:Hp}{c:aG}{a:Addr}(h:gf K m H c a):gf K m H (FN c) a:=by
 cases c with
 |lst xs=>obtain ⟨vs,e,r⟩:=h;exact ⟨vs,e,RelDs.unk xs vs r⟩
 |fz xs=>obtain ⟨o,vs,e,r⟩:=h;exact ⟨o,vs,e,RelDs.unk xs vs r⟩
 |_=>exact h
theorem aP.unk {K:zac}{m:Tf}{H:Hp}{μ:ab}(s:aP K m H μ):aP K m H (qo μ) :=
 ⟨s.nd,by rw [s.len,qo,zaf],fun i c a e1 e2=>by
  rw [qo,zaG] at e1;obtain ⟨c',q1,q2⟩:=zaF.mp e1;subst q2
  exact (s.cell i c' a q1 e2).unk⟩
theorem ap.unk {K:zac}{m:Tf}{H:Hp}{x:R}{v:V}(h:ap K m H x v):ap K m H (lO x) v:=by
 cases x with
 |v d=>exact ak.unk d v h
 |_=>exact h
def iH (neg:Bool):R->R->ab->Option (R×ab):=fun x y μ=>(fL neg (lO x) (lO y) (qo μ)).bind fun r=>some (r.1,μ)
theorem Bq {K:zac}{neg:Bool}:pC K (iH neg) (C8 K neg):=by
 intro m H μ x y d μ' v u Q s rx ry e k;obtain ⟨⟨r,μ1⟩,e1,e⟩:=zab.mp e;cases e;have e0:=e1;unfold fL at e1;obtain ⟨a,q1,e1⟩:=zab.mp e1;obtain ⟨b,q2,e1⟩:=zab.mp e1;split at e1
 ·cases e1
  exact ⟨m,qo μ,lO x,lO y,_,s.unk,rx.unk,ry.unk,e0,k _ H m .refl s (by simp only [ap,ak])⟩
 ·cases e1
end HW
namespace L2
open PySem PySem.Spec PyProof.Rows
def D7 (o:Obj):Nat:=match o.data with|.dict _ ep=>ep|_=>0
end L2
namespace HW
open PySem PySem.Spec PyProof.Rows L2
end HW
namespace HW
open PySem
abbrev Ip (h:Heap)(z TI TO T:Addr)(fl:Bool):Prop :=
 h.get? z=some {cls:=.type "zip",dict:=none,data:=.fields #[rawInt T,.bool fl,.bool false,.ref TI,.ref TO],slots:=#[]}
end HW
namespace HW
open PySem PySem.Spec PyProof.Rows L2
structure Ph (h:Heap)(S z TI TO i1 i2 l1 l2:Addr)(xs ys:Ti)(k:Nat):Prop where
 st:(k=0/\IsZip h z TI TO .none/\IsPair h TO .none .none)\/∃T fl oT,Ip h z TI TO T fl/\h.get? T=some oT/\T∉[S,z,TO,i1,i2]
 ti:IsPair h TI (.ref i1) (.ref i2)
 h1:h.IsListIter i1 l1 k
 h2:h.IsListIter i2 l2 k
 l1:h.IsList l1 xs
 l2:h.IsList l2 ys
 to:∃o,h.get? TO=some o
end HW
namespace HK
open PySem PySem.Spec PyProof.Rows L2
theorem BS:entryFor table "dict_itemiterator.__iter__" = some Builtin.«dict_keyiterator.__iter__»:=entryFor_alias (id':="dict_keyiterator.__iter__") (by kernel_rfl) rfl (by decide +kernel) (by kernel_rfl)
section
variable  {prog:Program}{w:World}{A:Around}{E:Tb}{s:Shared}{d it v:Addr}{es:Array DictEntry}{ep i:Nat}{ok ov:Value}
theorem Hv {Q:Tb}(nd:(d == sysModules)=false)(m:DE s.heap d es ep)
  (fin:Q (.ref s.heap.objs.size) {s with heap:=s.heap.push {cls:=.type "dict_items",data:=.fields #[.ref d]}}):wpAny (model prog w) A (call (.builtin "dict.items") [.ref d]) Q E s:=by
 refine zaH F.slot_dict_items m.ty F.entry_dict_items ?_ (F.args_dict_items_1 _);unfold Builtin.«dict.items» Builtin.Dict.noArgs;refine zaa (zaa (zcY m.ty (show wpAny _ _ (pure d) _ _ s from zad (show wpAny _ _ (Builtin.Dict.showsAll d >>= _) _ _ s from ?_))));unfold Builtin.Dict.showsAll;rw [if_neg (show ¬ (d == sysModules)=true by rw [nd];decide)];exact zaa (zad (zaa (zaJ (zad ⟨_,rfl,fin⟩))))
theorem Ks {Q:Tb}(y:s.heap.IsItemsView v d)(m:DE s.heap d es ep)
  (fin:Q (.ref s.heap.objs.size) {s with heap:=s.heap.push {cls:=.type "dict_itemiterator",data:=.fields #[.none,.bool false,.ref d,.int 0 0,.int es.size 0,.int ep 0,.none,.none]}}):wpAny (model prog w) A (pyIter (.ref v)) Q E s:=by
 obtain ⟨ob,g,x,dt⟩:=id m;obtain ⟨oy,gy,cy,dy⟩:=id y;refine zcp y.typeIs F.slot_dict_items_iter (zaH F.slot_dict_items_iter y.typeIs F.entry_dict_items_iter ?_ (F.args_dict_items_iter_1 _));unfold Builtin.«dict_items.__iter__» Builtin.Dict_items.dictOf Builtin.Dict_items.newIterator;refine zaa (zad (zaa (zaa (zcw gy dy (x:=.ref d) rfl (zad (zaa (zaa (zbP g dt (zaa (zcj g dt ?_))))))))));simp only [show Builtin.Dict_items.ownsTuple "dict_itemiterator" = true by decide,if_true];refine zaJ (zad ⟨_,rfl,"dict_itemiterator",_,⟨_,zal _ rfl,rfl⟩,F.slot_dict_itemiterator_next.lookup,?_⟩) (by simp [sizeOk,Builtin.Dict_items.ownedTupleFields,za3]);simpa [rawInt,Builtin.Dict_items.ownedTupleFields] using fin
theorem Kr {n:Nat}{Q:Tb}(k:IsItemIter s.heap it d i n ep ok ov)(h:Q (.ref it) s):wpAny (model prog w) A (pyIter (.ref it)) Q E s:=by
 have ty:s.TypeIs (.ref it) "dict_itemiterator":=⟨_,k,rfl⟩;refine zcp ty F.slot_dict_itemiterator_iter (zaH F.slot_dict_itemiterator_iter ty BS ?_ (F.args_dict_itemiterator_iter_1 _))
 show wpAny _ _ (ret (.ref it)) _ _ s
 exact zad ⟨_,rfl,"dict_itemiterator",_,ty,F.slot_dict_itemiterator_next.lookup,h⟩
theorem Kk {e:DictEntry}{Q:Option Value->Shared->Prop}(k:IsItemIter s.heap it d i es.size ep ok ov)(m:DE s.heap d es ep)(ge:es[i]?=some e)
  (fin:∀h',IsItemIterOut h' it d (i+1) es.size ep e.key e.val s.heap.objs.size->h'.get? s.heap.objs.size=some {cls:=.type "tuple",data:=.seq #[e.key,e.val]}->h'.objs.size=s.heap.objs.size+1 ->
   (∀b o,b≠it->s.heap.get? b=some o->h'.get? b=some o)->Q (some (.ref s.heap.objs.size)) {s with heap:=h'}):wpAny (model prog w) A (pyNext (.ref it)) Q E s:=by
 obtain ⟨hp,gs,dr,tk,os⟩:=s;obtain ⟨ob,g,x,dt⟩:=id m;have ty:Shared.TypeIs ⟨hp,gs,dr,tk,os⟩ (.ref it) "dict_itemiterator":=⟨_,k,rfl⟩;have lt:=zah k;unfold pyNext;refine zaa (zbQ (za5 (name:=Str.ofString "__next__") ty F.slot_dict_itemiterator_next (zaH F.slot_dict_itemiterator_next ty F.entry_dict_itemiterator_next ?_ (F.args_dict_itemiterator_next_1 _))));refine zaa (zad (zaa (zaa ?_)))
 first|refine zaa (zbO ty (zad (zaa (zbl k rfl ?_))))|refine zaa (zb4 ty (zad (zaa (zbl k rfl ?_))))
 simp only [show Builtin.Dict_items.ownsTuple "dict_itemiterator" = true by decide,if_true];refine (show wpAny _ _ (if (Value.ref d == Value.none)=true then _ else _) _ _ _ from ?_);rw [if_neg (show ¬ ((Value.ref d == Value.none)=true) by exact za1)];refine zaa (zad (zaa (zbP g dt ?_)));rw [if_neg (show ¬ _ by simp)];refine zaa (zad (zaa (zcj g dt ?_)));rw [if_neg (show ¬ _ by simp)];refine zad ?_;simp only [show ¬ ((i:Int) < 0) by omega,if_false,zbB,ge];refine zaa ?_
 first|refine zaa (zbO ty (zad (zaa (zcn ty ?_))))|refine zaa (zb4 ty (zad (zaa (zcn ty ?_))))
 refine (show wpAny _ _ (setField (.ref it) 3 (rawInt ((i:Int)+1)) >>= _) _ _ _ from zaa (zck k (by simp) fun h₁ k₁ c₁=>?_));have c₁:Heap.SameBut it hp h₁:=c₁
 have k₁:IsItemIter h₁ it d (i+1) es.size ep ok ov:=by
  unfold IsItemIter;rw [show ((i+1:Nat):Int)=(i:Int)+1 by omega];simpa [rawInt] using k₁
 refine zaa (zaE (zaa (zcn (s:=⟨h₁,gs,dr,tk,os⟩) ⟨_,k₁,rfl⟩ (zaa (zcn (s:=⟨h₁,gs,dr,tk,os⟩) ⟨_,k₁,rfl⟩ ?_)))));refine (show wpAny _ _ (Builtin.Dict_items.pairFromOwner (.ref it) 6 e.key e.val) _ _ _ from ?_);unfold Builtin.Dict_items.pairFromOwner;refine zaa (wpAny_newTuple ?_);have kk:∀b o,b≠it->hp.get? b=some o->(h₁.push {cls:=.type "tuple",data:=.seq #[e.key,e.val]}).get? b=some o:=fun b o hb q=>zae _ (c₁.extBut b o hb q);have k₂:IsItemIter (h₁.push {cls:=.type "tuple",data:=.seq #[e.key,e.val]}) it d (i+1) es.size ep ok ov:=zae _ k₁
 have gt:(h₁.push {cls:=.type "tuple",data:=.seq #[e.key,e.val]}).get? hp.objs.size=some {cls:=.type "tuple",data:=.seq #[e.key,e.val]}:=by rw [←c₁.1];exact zal _ rfl
 have sz:(h₁.push {cls:=.type "tuple",data:=.seq #[e.key,e.val]}).objs.size=hp.objs.size+1:=by rw [zaX,c₁.1]
 refine (show wpAny _ _ (Builtin.Dict_items.ownedTupleIsFree (.ref it) >>= _) _ _ ⟨h₁.push {cls:=.type "tuple",data:=.seq #[e.key,e.val]},gs,dr,tk,os⟩ from ?_);rw [c₁.1];generalize h₁.push {cls:=.type "tuple",data:=.seq #[e.key,e.val]}=h₂ at kk k₂ gt sz;clear k₁ c₁;unfold Builtin.Dict_items.ownedTupleIsFree;refine zaa (zaa (zcw k₂ rfl (x:=.none) rfl (zad ?_)));simp only [if_true];refine zaa (zcw k₂ rfl (x:=ok) rfl (zaa (zcw k₂ rfl (x:=ov) rfl ?_)))
 have key:∀h₃,Heap.SameBut it h₂ h₃->h₃.get? hp.objs.size=some {cls:=.type "tuple",data:=.seq #[e.key,e.val]}/\h₃.objs.size=hp.objs.size+1/\∀b o,b≠it->hp.get? b=some o->h₃.get? b=some o:=fun h₃ c =>
  ⟨c.extBut _ _ (zaY lt) gt,c.1.trans sz,fun b o hb q=>c.extBut b o hb (kk b o hb q)⟩
 refine zaa (zck k₂ (by simp) fun h₃ k₃ c₃=>?_);have k₃:IsItemIter h₃ it d (i+1) es.size ep e.key ov:=k₃;refine zaa (zck k₃ (by simp) fun h₄ k₄ c₄=>?_);have k₄:IsItemIter h₄ it d (i+1) es.size ep e.key e.val:=k₄;refine zaa (zck k₄ (by simp) fun h₅ k₅ c₅=>?_);have k₅:IsItemIterOut h₅ it d (i+1) es.size ep e.key e.val hp.objs.size:=k₅;refine zaa (zck k₅ (by simp) fun h₆ k₆ c₆=>?_);have k₆:IsItemIterOut h₆ it d (i+1) es.size ep e.key e.val hp.objs.size:=k₆;obtain ⟨a1,a2,a3⟩:=key h₆ (((Heap.SameBut.trans c₃ c₄).trans c₅).trans c₆);exact zaa (wpAny_letGo (zad (zad ⟨_,rfl,zad (fin h₆ k₆ a1 a2 a3)⟩)))
theorem Kn {Q:Option Value->Shared->Prop}(hh:A.handled=none)(k:IsItemIter s.heap it d es.size es.size ep ok ov)(m:DE s.heap d es ep)
  (fin:∀h',Heap.ExtBut it s.heap h'->Q none {s with heap:=h'}):wpAny (model prog w) A (pyNext (.ref it)) Q E s:=by
 obtain ⟨ob,g,x,dt⟩:=id m;have ty:s.TypeIs (.ref it) "dict_itemiterator":=⟨_,k,rfl⟩;unfold pyNext;refine zaa (zbQ (za5 (name:=Str.ofString "__next__") ty F.slot_dict_itemiterator_next (zaH F.slot_dict_itemiterator_next ty F.entry_dict_itemiterator_next ?_ (F.args_dict_itemiterator_next_1 _))));refine zaa (zad (zaa (zaa ?_)))
 first|refine zaa (zbO ty (zad (zaa (zbl k rfl ?_))))|refine zaa (zb4 ty (zad (zaa (zbl k rfl ?_))))
 simp only [show Builtin.Dict_items.ownsTuple "dict_itemiterator" = true by decide,if_true];refine (show wpAny _ _ (if (Value.ref d == Value.none)=true then _ else _) _ _ s from ?_);rw [if_neg (show ¬ ((Value.ref d == Value.none)=true) by exact za1)];refine zaa (zad (zaa (zbP g dt ?_)));rw [if_neg (show ¬ _ by simp)];refine zaa (zad (zaa (zcj g dt ?_)));rw [if_neg (show ¬ _ by simp)];refine zad ?_;simp only [show ¬ ((es.size:Int) < 0) by omega,if_false,zbB,zcm (zam es.size)];refine zaa ?_
 first|refine zaa (zbO ty (zad ?_))|refine zaa (zb4 ty (zad ?_))
 refine (show wpAny _ _ (setField (.ref it) 2 .none >>= _) _ _ s from zaa (zbI k rfl (by simp) ?_));refine (show wpAny _ _ (newExc (.type "StopIteration") [] >>= _) _ _ _ from zaa ?_);simp only [newExc,newTuple];refine zaa (zaJ (zaa (m:=firstArgMember _ _) (zda (a:=Value.none) (by first|rfl|(simp only [firstArgMember];rfl)) (zaJ ?_ (by size_fits)))) (by size_fits));simp only [raiseNew];refine zaa (wpAny_handled ?_);rw [show A.in1.handled=none by exact hh];refine zaa (zad (wpAny_throw (zaa ?_)));exact zbw (T:="StopIteration") (b:=true) ⟨_,zal _ rfl,rfl⟩ isSubtype_stop (zad (fin _ (((Heap.SameBut.update ..).extBut.push _).push _)))
end
end HK
namespace L2
open PySem PySem.Spec PyProof.Rows HK
def NZ (a:Addr)(o:Obj)(es:List (List aV×V)):It :=
 ⟨fun i H=>H a=some (.frz o (.dT es))/\i < es.length,fun i H v H'=>∃T b kv,es[i]?=some kv/\v=.ref T/\H T=none/\H b=some (.tup (kv.1.map kV))/\H'=upd H T (.tup [.ref b,kv.2]),fun i H=>H a=some (.frz o (.dT es))/\es.length<=i⟩
def t6 (o:Obj):Array DictEntry:=match o.data with|.dict es _=>es|_=>#[]
theorem Br {P:Program}{w:World}{H:Hp}{h:Heap}{a:Addr}{o:Obj}{es:List (List aV×V)}(ok:g9 P w H h)(e:H a=some (.frz o (.dT es))) :
  (a == sysModules)=false/\DE h a (t6 o) (D7 o)/\(t6 o).size=es.length/\∀(i:Nat) kv,es[i]?=some kv->∃b u,aY kv.2 u/\H b=some (.tup (kv.1.map kV))/\∃en,(t6 o)[i]?=some en/\en.key=.ref b/\en.val=u:=by
 obtain ⟨q1,_,q3,xs,q4,o',es',ep,r1,r2,r3,r4,r5⟩:=(show bm P w H h a (.frz o (.dT es)) from ok a _ e);have z:=q1.symm.trans r1;cases z
 have e1:t6 o=es':=by unfold t6;rw [r3]
 have e2:D7 o=ep:=by unfold D7;rw [r3]
 rw [e1,e2];refine ⟨q3,⟨o,r1,r2,r3⟩,?_,fun i kv hi=>?_⟩
 ·rw [←zaD,r4,zaf,←Paired.length q4]
 ·have key:∀{es:List (List aV×V)} {xs:List (List aV×Addr×Value)} {i:Nat} {kv},Paired (fun (p:List aV×V) (q:List aV×Addr×Value)=>p.1=q.1/\H q.2.1=some (.tup (p.1.map kV))/\aY p.2 q.2.2) es xs->es[i]?=some kv->∃x,xs[i]?=some x/\H x.2.1=some (.tup (kv.1.map kV))/\aY kv.2 x.2.2:=by
   intro es xs i kv p
   induction p generalizing i with
   |nil=>intro z;simp at z
   |cons r t ih =>
    intro z
    cases i with
    |zero=>simp only [zcL,Option.some.injEq] at z;subst z;exact ⟨_,rfl,r.2.1,r.2.2⟩
    |succ i=>obtain ⟨x,h1,h2⟩:=ih (by simpa using z);exact ⟨x,by simpa using h1,h2⟩
  obtain ⟨x,h1,h2,h3⟩:=key q4 hi;refine ⟨x.2.1,x.2.2,h3,h2,entryOfKey (tupleKind (bz P w)) x,?_,rfl,rfl⟩;rw [←zaS,r4,zaG,h1];rfl
theorem uP {P:Program}{w:World}{K:zac}{elts:Tj}{x1}{pos:Pos}(a it:Addr)(o:Obj)(es:List (List aV×V)):yS P w K (.Tuple elts x1 pos) (NZ a o es) [it] it (fun i h=>i<=(t6 o).size/\∃ok ov,IsItemIter h it a i (t6 o).size (D7 o) ok ov) where
 mem:=by simp
 obj:=fun i h st b hb=>by
  have e:b=it:=by simpa using hb
  subst e;obtain ⟨_,ok,ov,q⟩:=st
  exact ⟨_,q,fun v z=>by
   have z':Data.fields _=Data.cell v:=z
   cases z'⟩
 keep:=fun i h h' st k=>by
  obtain ⟨z,ok,ov,q⟩:=st;exact ⟨z,ok,ov,k it (by simp) _ q⟩
 item:=by
  intro X hP hw hK hc i pins s σ H E I hf st hg;subst hP hw hK;obtain ⟨hq,hi⟩:=hg;obtain ⟨_,ok,ov,st⟩:=st;obtain ⟨hd,de,hsz,at_⟩:=Br I.hok hq;have hx:es[i]?=some es[i]:=zar hi;obtain ⟨b,u,ru,hb,en,g1,g2,g3⟩:=at_ i _ hx;have ilt:it < s.heap.objs.size:=zah st;have nT:H s.heap.objs.size=none:=I.hok.fresh (zam _);refine Kk st de g1 fun h1 o1 hT hsz1 kk=>⟨_,rfl,wpAny_letOwnedTupleGo_items o1 fun h2 he2 sb=>?_⟩;rw [g2,g3] at hT
  have tup:bm X.prog X.w (upd H s.heap.objs.size (.tup [.ref b,es[i].2])) (s.heap.push {cls:=.type "tuple",data:=.seq #[.ref b,u]}) s.heap.objs.size (.tup [.ref b,es[i].2]) :=
   ⟨(by decide:2<=sizeLine),[.ref b,u],.cons rfl (.cons ru .nil),jB.new _ _⟩
  have I1:=I.laid (t':=s.toks) (fun b o q=>zae _ q) (zam _) tup;have hT2:h2.get? s.heap.objs.size=some {cls:=.type "tuple",data:=.seq #[.ref b,u]}:=(sb.2 _ (zaY ilt)).trans hT
  have I2:aA X pins σ (upd H s.heap.objs.size (.tup [.ref b,es[i].2])) {s with heap:=h2,toks:=s.toks}:=by
   refine aA.turnedL (s:={s with heap:=s.heap.push {cls:=.type "tuple",data:=.seq #[.ref b,u]}}) (its:=[it]) I1 (fun c o hc q=>?_) fun c hc=>?_
   ·have hc1:c≠it:=fun z=>hc (by simp [z])
    by_cases hcT:c=s.heap.objs.size
    ·subst hcT
     have q:(s.heap.push {cls:=.type "tuple",data:=.seq #[.ref b,u]}).get? s.heap.objs.size=some o:=q;rw [zal _ rfl] at q;cases q;exact hT2
    ·have q:(s.heap.push {cls:=.type "tuple",data:=.seq #[.ref b,u]}).get? c=some o:=q
     have hlt:c < s.heap.objs.size:=by
      have h0:=zah q;rw [zaX] at h0;exact Nat.lt_of_le_of_ne (Nat.le_of_lt_succ h0) hcT
     have q0:s.heap.get? c=some o:=by rw [←q];exact (Dd hlt).symm
     exact (sb.2 c hc1).trans (kk c o hc1 q0)
   ·obtain ⟨f0,f1,f2,f3,f4,f5⟩:=hf c hc
    have hcT:c≠s.heap.objs.size:=by
     have z:c=it:=by simpa using hc
     rw [z];exact zan ilt
    exact ⟨by rw [au hcT];exact f0,f1,f3,f4,f5⟩
  refine ⟨.ref s.heap.objs.size,_,I2,rfl,⟨_,b,_,hx,rfl,nT,hb,rfl⟩,⟨by rw [hsz];exact hi,_,_,he2⟩,fun c hc=>?_⟩
  have hcT:c≠s.heap.objs.size:=by
   have z:c=it:=by simpa using hc
   rw [z];exact zan ilt
  rw [au hcT];exact (hf c hc).1
 done:=by
  intro X hP hw hK hc i pins s σ H E I hf st hg;subst hP hw hK;obtain ⟨hq,hi⟩:=hg;obtain ⟨z,ok,ov,st⟩:=st;obtain ⟨hd,de,hsz,_⟩:=Br I.hok hq;obtain ⟨f0,f1,f2,f3,f4,f5⟩:=hf it (by simp)
  have hi':i=(t6 o).size:=by omega
  rw [hi'] at st;exact Kn (I.ok.hd hc) st de fun h' eb=>⟨rfl,I.turned (t':=s.toks) (fun b o hb e=>eb b o hb e) f0 f1 f3 f4 f5⟩
 self:=fun _ _ _ _ _ st h=>by
  obtain ⟨_,ok,ov,st⟩:=st;exact Kr st h
def Bl (tl:TE):TI:=fun σ H R=>tl σ H fun x H1=>∃a o es,x=.ref a/\H1 a=some (.frz o (.dT es))/\R (NZ a o es) H1
theorem Az {X:Cx}{elts:Tj}{x1}{pt apos cpos:Pos}{o:Expr}{tl:TE}(hl:PE X o tl)(hbase:attributeBase o "items" X.env (eval o X.env)=eval o X.env)(hline:(apos.endLine == cpos.line)=true) :
  PI X (.Tuple elts x1 pt) (.Call (.Attribute o "items" apos) [] [] cpos) (Bl tl):=by
 intro pins s σ H R I h;refine wpAny_Call_method hbase rfl hline PySem.F.plainAttrs_dict PySem.F.slot_dict_items PySem.F.type_dict_items (cV (hl pins s σ H _ I h) fun u s1 hh=>?_);obtain ⟨x,H1,I1,rx,a,o,es,ex,hq,q⟩:=hh;subst ex;obtain rfl:u=Value.ref a:=rx;obtain ⟨t1,t2,_⟩:=Bj I1 (.inr ⟨es,.inr ⟨o,hq⟩⟩);refine ⟨t1,t2,Calls.callWith_builtin rfl (PySem.evalArgs_none ?_)⟩;obtain ⟨hd,de,hsz,at_⟩:=Br I1.hok hq;refine Hv hd de ?_;refine Ks (v:=s1.heap.objs.size) (d:=a) ⟨_,zal _ rfl,rfl,rfl⟩ (de.at fun ob g=>zae _ g) ?_;have I2:aA X pins σ H1 {s1 with heap:=s1.heap.push {cls:=.type "dict_items",data:=.fields #[.ref a]}}:=I1.kept (t':=s1.toks) fun b o e=>zae _ e;refine ⟨_,[_],_,_,H1,rfl,I2.kept (t':=s1.toks) fun b o e=>zae _ e,uP a _ o es,⟨za9 _,_,_,zal _ rfl⟩,fun b hb=>?_,q⟩;have e:=zat.mp hb;rw [e];exact I2.fpOk (zam _) (I2.hok.fresh (zam _))
end L2
namespace HW
open PySem PySem.Spec PyProof.Rows L2
def Oi:R->ab->Option (List (Th×D)×ab)
 |.p n,μ=>match μ[n]? with|some (.dt kvs)=>some (kvs,μ.set n (.fzt kvs))|some (.fzt kvs)=>some (kvs,μ)|_=>none
 |_,_=>none
abbrev MB (p:Th×D):D:=.tup [.key p.1,p.2]
def DT (f:FE):FI:=fun ρ μ=>(f ρ μ).bind fun a=>(Oi a.1 a.2).bind fun b=>some (b.1.map MB,b.2)
theorem jZ.tf {K:zac}{H H':Hp}{kvs:List (Th×D)}{es:List (List aV×V)}(t:TF H H')(h:jZ K H kvs es):jZ K H' kvs es:=⟨h.1,RelDs.tf t _ _ h.2⟩
theorem jZ.at {K:zac}{H:Hp}{kvs:List (Th×D)}{es:List (List aV×V)}(h:jZ K H kvs es){i:Nat}{p:Th×D}(e:kvs[i]?=some p):∃v,es[i]?=some (kk p.1,v)/\ak K H p.2 v:=by
 obtain ⟨v,q,r⟩:=h.2.get (i:=i) (d:=p.2) (by rw [zaG,e];rfl)
 have k1:(es.map (·.1))[i]?=some (kk p.1):=by rw [h.1,zaG,e];rfl
 rw [zaG] at q k1
 cases z:es[i]? with
 |none=>rw [z] at q;cases q
 |some y =>
  rw [z] at q k1;have q:=Option.some.inj q;have k1:=Option.some.inj k1;exact ⟨v,congrArg some (Prod.ext k1 q),r⟩
theorem Ba {K:zac}{a:Addr}{o:Obj}{es:List (List aV×V)}{kvs:List (Th×D)}:Fw K (NZ a o es) (kvs.map MB) (fun H=>H a=some (.frz o (.dT es))/\jZ K H kvs es) where
 st:=fun H H' t p=>⟨t.frz _ _ _ p.1,p.2.tf t⟩
 stop:=fun i H p hi=>⟨p.1,by have:=congrArg List.length p.2.1;simp at this hi;omega⟩
 go:=fun i d H e p=>⟨p.1,by
  have h1:=(zaw.mp e).1
  have:=congrArg List.length p.2.1;simp at this h1;omega⟩
 yld:=fun i d H x H' e p y=>by
  obtain ⟨T,b,kv,e1,e2,e3,e4,e5⟩:=y;rw [zaG] at e;obtain ⟨q,hq,hd⟩:=zaF.mp e;obtain ⟨v,z,r⟩:=p.2.at hq;rw [e1] at z;cases z;subst e2 e5 hd;refine ⟨nP e3,?_⟩;simp only [ak];refine ⟨T,[.ref b,v],rfl,eS.of bD,?_⟩;simp only [RelDs,ak];exact ⟨_,_,rfl,⟨b,rfl,by rw [nP e3 b _ e4,tt]⟩,_,_,rfl,ak.tf (tX (m:=[]) (nP e3)).tf _ _ r,rfl⟩
theorem Gx {K:zac}{H:Hp}{R:It->Hp->Prop}{f}(h:C5 K (DT f) σ H R):Bl (Lu (aw K f)) σ H R:=by
 obtain ⟨ρ,μ,m,xs,μ',hl,hs,e,k⟩:=h;obtain ⟨⟨x,μ1⟩,e1,e⟩:=zab.mp e;obtain ⟨⟨kvs,μ2⟩,e2,e⟩:=zab.mp e;cases e;refine ⟨ρ,μ,m,x,μ1,hl,hs,e1,fun v H1 m1 x1 s1 r1=>?_⟩
 cases x with
 |p n =>
  obtain ⟨a,rfl,ha⟩:=r1;simp only [Oi] at e2;split at e2
  ·rename_i kvs q
   cases e2;obtain ⟨es,ea,ke,rr⟩:=s1.cell n _ a q ha;refine .inr ⟨a,_,ea,trivial,fun o=>?_⟩;have x:d6 m1 H1 m1 (upd H1 a (.frz o (.dT es))):=.put (zaZ ha) ea (by simp) (by simp);exact ⟨a,o,es,rfl,b8,k _ _ _ m1 (x1.trans x) (s1.put ha ea (by simp) (by simp) ⟨o,es,b8,ke,RelDs.tf x.tf _ _ rr⟩) Ba ⟨b8,ke,RelDs.tf x.tf _ _ rr⟩⟩
  ·rename_i kvs q
   cases e2;obtain ⟨o,es,ea,ke,rr⟩:=s1.cell n _ a q ha;exact .inl ⟨a,o,es,rfl,ea,k _ _ _ m1 x1 s1 Ba ⟨ea,ke,rr⟩⟩
  ·cases e2
 |_=>cases e2
end HW
namespace HS
open PySem PySem.Spec PyProof.Rows
def Lm (S:Addr)(wr:Tf)(h h':Heap):Prop:=∀b o,b≠S->b∉wr->h.get? b=some o->h'.get? b=some o
def Dc {K:Type}[DecidableEq K](xs ps:List (K×Addr×Value)):List (K×Addr×Value):=ps.foldl (fun a p=>storedH a p.1 p.2.1 p.2.2) xs
theorem sf {K:Type}[DecidableEq K]{xs:List (K×Addr×Value)}{k:K}{a:Addr}{v:Value}{x:K×Addr×Value}(h:x∈storedH xs k a v):(∃y∈xs,y.1=x.1/\y.2.1=x.2.1)\/(x.1=k/\x.2.1=a):=by
 unfold storedH at h;split at h
 ·obtain ⟨y,hy,rfl⟩:=zas.mp h
  refine .inl ⟨y,hy,?_⟩;unfold putAt;split <;> exact ⟨rfl,rfl⟩
 ·rcases zaL.mp h with h|h
  ·exact .inl ⟨x,h,rfl,rfl⟩
  ·rw [zat.mp h];exact .inr ⟨rfl,rfl⟩
theorem sg {K:Type}[DecidableEq K](xs:List (K×Addr×Value))(k:K)(a:Addr)(v:Value):(storedH xs k a v).length<=xs.length+1:=by
 unfold storedH;split <;> simp
section
variable  {prog:Program}{w:World}{A:Around}{E:Tb}{s:Shared}{R:Result->Shared->Prop}{I:Addr}{fp wr:Tf}{n:Nat}{P:Nat->Value->Prop}{St:Nat->Heap->Prop}
theorem vO {K:Type}[DecidableEq K]{knd:HeapKind prog w K}(W:Walks prog w A.in1 I fp wr n P St)(S:Addr)(hSf:S∉fp)(hroom:knd.room A.in1)(ps:List (K×Addr×Value))(hps:ps.length=n)(h₀:Heap)
  (hP:∀i v,P i v->∃p,ps[i]?=some p/\gd h₀ v (.ref p.2.1) p.2.2/\(∀h,Lm S wr h₀ h->knd.is h p.1 p.2.1)/\∀a,v=.ref a->a≠S/\a∉wr) :
  ∀(k i:Nat) (s:Shared) (c:Int) (xs:List (K×Addr×Value)),n - i=k->i<=n->St i s.heap->Lm S wr h₀ s.heap->s.heap.DictOfH knd S xs->(∀x∈xs,∀h,Lm S wr h₀ h->knd.is h x.1 x.2.1)->xs.length+k<=sizeLine ->
   (∀h' tk,Lm S wr s.heap h'->h'.DictOfH knd S (Dc xs (ps.drop i))->R (.ok (.ret .none)) {s with heap:=h',toks:=tk}) ->
   codeAny (model prog w) A (.builtin "dict.update.loop" ⟨[.ref S,.ref I,.int c 0,.none],[]⟩) R s:=by
 have nw:S∉wr:=fun h=>hSf (W.sub _ h);intro k
 induction k with
 |zero =>
  intro i s c xs hk hi hst h0 hS ha hb hR
  have hin:i=n:=by omega
  subst hin;refine zaU fu ?_;rw [zaV bQ _];refine (show wpAny _ A.in1 (pyNext (.ref I) >>= _) _ _ s from zaa (W.done s _ _ hst fun h' tk hk'=>?_));refine (show wpAny _ A.in1 (do Builtin.Dict.addKeywords S [];ret Value.none) _ _ _ from zaa (show wpAny _ _ (pure ()) _ _ _ from zad (zad ?_)));refine hR h' tk (fun b o _ hb e=>hk' b o hb e) ?_;rw [zcO (by omega)];obtain ⟨o,es,ep,ho,r1,r2,r3,r4,r5⟩:=hS;exact ⟨o,es,ep,hk' S o nw ho,r1,r2,r3,fun x hx=>ha x hx h' fun b o n1 n2 e=>hk' b o n2 (h0 b o n1 n2 e),r5⟩
 |succ k ih =>
  intro i s c xs hk hi hst h0 hS ha hb hR
  have hlt:i < n:=by omega
  refine zaU fu ?_;rw [zaV bQ _];refine (show wpAny _ A.in1 (pyNext (.ref I) >>= _) _ _ s from zaa (W.item i s _ _ hlt hst fun v h1 tk1 hPv hst1 hk1=>?_));obtain ⟨p,hpi,hpair,hkey,hap⟩:=hP i v hPv;have h01:Lm S wr h₀ h1:=fun b o n1 n2 e=>hk1 b o n2 (h0 b o n1 n2 e);have hpair1:gd h1 v (.ref p.2.1) p.2.2:=hpair.keep fun a o e q=>hk1 a o (hap a e).2 (h0 a o (hap a e).1 (hap a e).2 q);obtain ⟨a,o,cc,rfl,ho,hc,hd⟩:=hpair1.ex
  have hS1:h1.DictOfH knd S xs:=by
   obtain ⟨o,es,ep,ho,r1,r2,r3,r4,r5⟩:=hS;exact ⟨o,es,ep,hk1 S o nw ho,r1,r2,r3,fun x hx=>ha x hx h1 h01,r5⟩
  refine zaa (zaE (zaa (wpAny_tryCatch ?_)));unfold Builtin.Dict.pairItems;refine zaa (zbs (T:="tuple") ⟨o,ho,hc⟩ ?_);rw [if_pos (by decide)];refine zaa (zcr ho hd (zad ?_));refine (show wpAny _ _ (holding [.ref p.2.1,p.2.2] (dictSet S (.ref p.2.1) p.2.2)) _ _ _ from zaE (wpAny_dictSet_heap (s:={s with heap:=h1,toks:=tk1}) hroom (hkey h1 h01) hS1 (fun h2 hS2 hsb=>?_) (by omega)))
  have hdrop:ps.drop i=p::ps.drop (i+1):=by
   obtain ⟨hl,e⟩:=zaw.mp hpi;rw [zbi hl,e]
  have hlen:=sg xs p.1 p.2.1 p.2.2;refine zad ⟨zbk bQ _,ih (i+1) {s with heap:=h2,toks:=tk1+knd.draws p.1} (c+1) _ (by omega) hlt (W.frame _ h1 _ hst1 fun b hb o e=>?_) (fun b o n1 n2 e=>?_) hS2 (fun x hx=>?_) (by omega) fun h' tk' hk' hD=>?_⟩
  ·rw [hsb.2 b (fun h:b=S=>hSf (h ▸ hb))];exact e
  ·rw [hsb.2 b n1];exact h01 b o n1 n2 e
  ·rcases sf hx with ⟨y,hy,e1,e2⟩|⟨e1,e2⟩
   ·rw [←e1,←e2];exact ha y hy
   ·rw [e1,e2];exact hkey
  ·refine hR h' tk' (fun b o n1 n2 e=>hk' b o n1 n2 ?_) (by rw [hdrop];exact hD)
   show h2.get? b=some o
   rw [hsb.2 b n1];exact hk1 b o n2 e
theorem yE {K:Type}[DecidableEq K]{kn:KeyKind prog w K}{l:Addr}{its:Ti}{c:Nat}{ps:List (List K×Addr×Value)}{Q:Tb}
  (hu:A.units+32 < cLine) (hh:A.handled=none) (hl:s.heap.get? l=some {cls:=.type "list",data:=.seq its c}) (hps:ps.length=its.size) (hz:its.size<=sizeLine)
  (hP:∀(i:Nat) v,its[i]?=some v->∃p,ps[i]?=some p/\gd s.heap v (.ref p.2.1) p.2.2/\(tupleKind kn).is s.heap p.1 p.2.1)
  (h:∀(h':Heap) (tk:Nat),h'.DictOfH (tupleKind kn) s.heap.objs.size (Dc [] ps)->(∀b o,s.heap.get? b=some o->h'.get? b=some o)->Q (.ref s.heap.objs.size) {s with heap:=h',toks:=tk}) :
  wpAny (model prog w) A (call (.type "dict") [.ref l]) Q E s:=by
 obtain ⟨cc,tl,hmro⟩:=bE.mro;have hmade:=bE.made;have hsub:=bE.sub;refine zc1 (zb0 (show wpAny _ _ (callAny (.type "dict") _) _ _ _ from ?_));refine zad ⟨Code.quiet_builtin _ (by decide +kernel),zaU F.entry_type_call ?_⟩;rw [zch (weight_type_call_type "dict" [.ref l] []) rfl];have h1:=bE.notType;have h2:=bE.canCreate;have hct:=nF (.ref l)
 repeat (any_goals (first|assumption|wp_step))
 refine zbg (ub (.ref l) (E:=E) (Q₁:=fun obj s₁=>obj=.ref s.heap.objs.size/\s₁={s with heap:=s.heap.push bp}) ⟨rfl,rfl⟩) fun r s₁ hr=>?_
 cases r with
 |error e=>exact hr
 |ok fl =>
  cases fl with
  |ret obj =>
   obtain ⟨rfl,rfl⟩:=hr;have hS:(s.heap.push bp).get? s.heap.objs.size=some bp:=zal _ rfl;have hT:Shared.TypeIs {s with heap:=s.heap.push bp} (.ref s.heap.objs.size) "dict":=⟨_,hS,rfl⟩;have hli:=bE.init.lookup;have hbi:=bE.init.bind (.ref s.heap.objs.size)
   repeat (any_goals (first|assumption|wp_step))
   refine zbg (zbM (R:=wants (fun r s₂=>r=.none/\∃h' tk,s₂={s with heap:=h',toks:=tk}/\h'.DictOfH (tupleKind kn) s.heap.objs.size (Dc [] ps) /\
     (∀b o,s.heap.get? b=some o->h'.get? b=some o)) E) bE.init.plain lF (lG hT ?_)) fun r₂ s₂ hr₂=>?_
   ·have hlS:l < s.heap.objs.size:=zah hl
    have hl1:(s.heap.push bp).get? l=some {cls:=.type "list",data:=.seq its c}:=zae _ hl;have hTl:Shared.TypeIs {s with heap:=s.heap.push bp} (.ref l) "list":=⟨_,hl1,rfl⟩;unfold Builtin.«dict.__init__» Builtin.Dict.selfAndRest Builtin.Dict.notOrdered;refine zaa (zaa ?_);rw [if_pos (by decide)];refine zaa (zbs hT ?_);rw [if_neg (by decide)];refine zad (zaa (show wpAny _ _ (pure s.heap.objs.size) _ _ _ from zad (zad ?_)));refine (show wpAny _ _ (Builtin.Dict.updateFrom "dict.__init__" s.heap.objs.size (.ref l) [] .none) _ _ _ from ?_);unfold Builtin.Dict.updateFrom;refine zaa (zbs hTl ?_);rw [if_pos (by decide)];refine zaa (wG (show A.in1.in1.handled=none from hh) hl1 fun h2 tk2 kp2=>?_);rw [if_pos (show (none:Tg).isNone=true from rfl)];have hl2:=kp2 _ _ hl1;have hS2:=kp2 _ _ hS;have hl3:h2.IsList l its:=⟨_,hl2,rfl,c,rfl⟩;refine zaa (zbY (zaa (zb3 hl3 ?_)));have hlI:l≠h2.objs.size:=zan (zah hl2);have hSI:s.heap.objs.size≠h2.objs.size:=zan (zah hS2)
    have hSf:s.heap.objs.size∉[h2.objs.size,l]:=by
     simp only [zak,zaI,or_false,not_or];exact ⟨hSI,zaY hlS⟩
    have hD0:(h2.push {cls:=.type "list_iterator",data:=.fields #[.ref l,.int 0 0]}).DictOfH (tupleKind kn) s.heap.objs.size [] :=
     ⟨bp,#[],0,zae _ hS2,⟨rfl,rfl,rfl⟩,rfl,rfl,fun e he=>by simp at he,zcq⟩
    refine zad ⟨zbk bQ _,vO (Walks.list (by simp [hh]) h2.objs.size l hlI its) s.heap.objs.size hSf (show _ < cLine by show A.units+1+1 < cLine;omega) ps hps s.heap (fun i v hv=>?_) (its.size - 0) 0 _ 0 [] (by omega) (za9 _)
     ⟨⟨_,zal _ rfl,rfl,rfl⟩,hl3.push _⟩ (fun b o _ _ e=>zae _ (kp2 _ _ (zae _ e))) hD0 (fun x hx=>nomatch hx) (by simpa using hz) fun h' tk' hk' hD=>?_⟩
    ·obtain ⟨p,e1,e3,e2⟩:=hP i v hv
     refine ⟨p,e1,e3,fun h kp=>?_,fun a e=>?_⟩
     ·obtain ⟨o,items,n,g1,g2,g3,g4⟩:=e2
      refine ⟨o,items,n,kp _ _ (zan (zah g1)) ?_ g1,g2,g3,g4⟩;simp only [zak,zaI,or_false];exact zan (zah (kp2 _ _ (zae _ g1)))
     obtain ⟨a',o',c',q1,q2,_,_⟩:=e3.ex;rw [q1] at e;cases e;refine ⟨zan (zah q2),?_⟩;simp only [zak,zaI,or_false];exact zan (zah (kp2 _ _ (zae _ q2)))
    ·refine ⟨rfl,h',tk',rfl,by simpa using hD,fun b o e=>hk' b o (zan (zah e)) ?_ (zae _ (kp2 _ _ (zae _ e)))⟩
     simp only [zak,zaI,or_false];exact zan (zah (kp2 _ _ (zae _ e)))
   ·cases r₂ with
    |error e=>exact hr₂
    |ok fl2 =>
     cases fl2 with
     |ret r =>
      obtain ⟨rfl,h',tk,rfl,hS',hk'⟩:=hr₂
      repeat (any_goals (first|assumption|wp_step))
      exact h _ _ hS' hk'
     |_=>exact hr₂.elim
  |_=>exact hr.elim
end
end HS
namespace HW
open PySem PySem.Spec PyProof.Rows L2 HS
def v3 (K:zac)(H:Hp):List V->List (List aV×V)->Prop:=Paired fun v kv=>∃t b,v=.ref t/\eS K H t [.ref b,kv.2]/\H b=some (.tup (kv.1.map kV))
def sJ (kvs ps:List (List aV×V)):List (List aV×V):=ps.foldl (fun a p=>ee a p.1 p.2) kvs
theorem Ap {α:Type}[DecidableEq α](kvs:List (α×V))(k:α)(v:V):(ee kvs k v).length<=kvs.length+1:=by
 unfold ee;split <;> simp
theorem sI:∀(ps kvs:List (List aV×V)),(sJ kvs ps).length<=kvs.length+ps.length
 |[],_=>by simp [sJ]
 |p::ps,kvs=>by
  have:=sI ps (ee kvs p.1 p.2);have:=Ap kvs p.1 p.2
  show (sJ (ee kvs p.1 p.2) ps).length<=_
  rw [zaK];omega
theorem Al {H:Hp}{ps:List (List aV×V)}{qs:List (List aV×Addr×Value)}(r:KT H ps qs):∀{kvs:List (List aV×V)} {xs:List (List aV×Addr×Value)},KT H kvs xs->KT H (sJ kvs ps) (Dc xs qs):=by
 induction r with
 |nil=>intro kvs xs h;exact h
 | @cons a b _ _ h t ih =>
  intro kvs xs q;have:=KT.put q _ h.2.1 h.2.2;refine ih (show KT H (ee kvs a.1 a.2) (storedH xs b.1 b.2.1 b.2.2) from ?_);rw [←h.1];exact this
theorem yb {X:Cx}{H:Hp}{s:Shared}(I:aA X pins σ H s){ws:List V}{kvs:List (List aV×V)}(p:v3 X.K H ws kvs):∀{its:Te},aW ws its ->
  ∃ps:List (List aV×Addr×Value),KT H kvs ps/\ps.length=its.length/\∀(i:Nat) v,its[i]?=some v->∃p,ps[i]?=some p/\gd s.heap v (.ref p.2.1) p.2.2/\(tupleKind (bz X.prog X.w)).is s.heap p.1 p.2.1:=by
 induction p with
 |nil=>intro its v;cases v;exact ⟨[],.nil,rfl,fun i v e=>by simp at e⟩
 | @cons _ kv _ _ hp tp ih =>
  intro its v
  cases v with
  |cons hv tv =>
   obtain ⟨ps,a1,a2,a3⟩:=ih tv;obtain ⟨t,b,rfl,hs,hb⟩:=hp;cases hv;obtain ⟨js,r,⟨o,ho,hc,n,hd⟩,_⟩:=I.tuple hs
   cases r with
   |cons r1 rr =>
    cases rr with
    |cons r2 rr =>
     cases rr;cases r1
     rename_i x
     refine ⟨(kv.1,b,x)::ps,.cons ⟨rfl,hb,r2⟩ a1,by simp [a2],fun i v e=>?_⟩
     cases i with
     |zero=>simp at e;subst e;exact ⟨_,rfl,⟨t,o,n,rfl,ho,hc,hd⟩,l6 I.hok hb⟩
     |succ i=>simpa using a3 i v (by simpa using e)
def Ad (K:zac):List V->Hp->VK->Prop:=fun vs H Q=>∃p ws kvs,vs=[.ref p]/\iV K H p ws/\v3 K H ws kvs/\ws.length<=sizeLine/\∀l,H l=none->Q (.ref l) (upd H l (.dT (sJ [] kvs)))
theorem vS {X:Cx}(hu:X.A.units+64 < cLine)(hc:X.calm=true):d9 X (.type "dict") (Ad X.K):=by
 intro pins s σ H vs us Q I r h;obtain ⟨p,ws,kvs,rfl,hH,hp,hws,q⟩:=h;obtain ⟨u,rfl,rx⟩:=gP r;cases rx;obtain ⟨its,n,rv,e⟩:=Bi I hH;obtain ⟨ps,a1,a2,a3⟩:=yb I hp rv
 have hk:kvs.length=its.length:=by have:=Paired.length a1;omega
 have hi:=rv.length;refine yE (kn:=bz X.prog X.w) (ps:=ps) (by omega) (I.ok.hd hc) e (by simpa using a2) (by simp;omega) (fun i v hv=>a3 i v (by simpa using hv)) fun h' tk hD kp=>?_
 have hz:(sJ [] kvs).length<=sizeLine:=by have:=sI kvs [];simp at this;omega
 obtain ⟨o,es,ep,g1,g2,g3,g4,_,g5⟩:=hD;have fr:=I.hok.fresh (zam s.heap.objs.size);refine ⟨.ref s.heap.objs.size,_,I.laid (t':=tk) kp (zam _) (show bm X.prog X.w _ h' _ (.dT _) from ⟨hz,beq_eq_false_iff_ne.mpr (zaY I.big),_,(Al a1 .nil).keeps fun b ys eb=>?_,o,es,ep,g1,g2,g3,g4,g5⟩),rfl,q _ fr⟩;rw [au (fun z=>by rw [z,fr] at eb;cases eb)];exact eb
def jg:List D->Option (List (Th×D))
 |[]=>some []
 |d::r=>match d with|.tup [.key k,x]=>(jg r).map ((k,x) :: ·)|_=>none
def jH (kvs ps:List (Th×D)):List (Th×D):=ps.foldl (fun a p=>kj a p.1 p.2) kvs
def p6:List R->ab->Option (R×ab)
 |[x],μ=>(zJ x μ).bind fun ds=>(jg ds).bind fun kvs=>if ds.length < 1000 then some (.p μ.length,μ++[.dt (jH [] kvs)]) else none
 |_,_=>none
theorem oa {K:zac}{H:Hp}:∀{ds:List D} {ws:List V} {kvs:List (Th×D)},jg ds=some kvs->RelDs K H ds ws->∃qs,v3 K H ws qs/\∀{k0 e0},jZ K H k0 e0->jZ K H (jH k0 kvs) (sJ e0 qs)
 |[],ws,kvs,e,r=>by
  cases e;have r:ws=[]:=r;subst r;exact ⟨[],.nil,fun h=>h⟩
 |d::ds,ws,kvs,e,r=>by
  obtain ⟨v,ws',rfl,r1,r2⟩:=r;unfold jg at e;split at e
  ·rename_i k x
   obtain ⟨ks,e1,rfl⟩:=zaF.mp e;obtain ⟨qs,p1,p2⟩:=oa e1 r2;simp only [ak] at r1;obtain ⟨a,vs,rfl,hq,hr⟩:=r1;obtain ⟨v1,t1,rfl,h1,hr⟩:=hr;obtain ⟨v2,t2,rfl,h2,hr⟩:=hr;have hr:t2=[]:=hr;subst hr;simp only [ak] at h1;obtain ⟨b,rfl,hb⟩:=h1;exact ⟨(kk k,v2)::qs,.cons ⟨a,b,rfl,hq,by rw [tt];exact hb⟩ p1,fun h=>p2 (h.put h2)⟩
  ·cases e
theorem DO {K:zac}:v4 K p6 (Ad K):=by
 intro m H μ xs d μ' vs Q s r e k;unfold p6 at e;split at e
 ·obtain ⟨ds,e0,e⟩:=zab.mp e
  obtain ⟨kvs,e1,e⟩:=zab.mp e;split at e
  ·rename_i hlt
   cases e;obtain ⟨v,rfl,r1⟩:=lg r;obtain ⟨a,ws,rfl,ea,ra⟩:=qw s e0 r1;obtain ⟨qs,p1,p2⟩:=oa e1 ra;refine ⟨a,ws,qs,rfl,ea,p1,by rw [←ra.length,za3];omega,fun l hl=>?_⟩;have x:d6 m H (m++[l]) (upd H l (.dT (sJ [] qs))):=.newH hl;have hk:=p2 (k0:=[]) (e0:=[]) ⟨rfl,rfl⟩;refine k _ _ (m++[l]) x (s.newH hl ⟨_,bD,hk.1,RelDs.tf x.tf _ _ hk.2⟩) ⟨l,rfl,?_⟩;rw [←s.len];simp
  ·cases e
 ·cases e
def yA (fo fk fx:FE):FE:=fun ρ μ=>(fo ρ μ).bind fun o=>match o.1 with
 |.p n=>if (pA o.2 n).isSome=true then (fk ρ o.2).bind fun k=>match k.1 with
  |.v (.key ks)=>(fx ρ k.2).bind fun x=>match x.1 with
   |.v d=>(pA x.2 n).bind fun kvs=>if kvs.length < 1000 then some (match iY kvs ks with|some r=>(.v r,x.2)|none=>(.v d,x.2.set n (.dt (kvs++[(ks,d)])))) else none
   |_=>none
  |_=>none
  else none
 |_=>none
theorem Gk {K:zac}{H:Hp}{Q:VK}{fo fk fx}(h:aw K (yA fo fk fx) σ H Q):zr (aw K fo) (aw K fk) (aw K fx) σ H Q:=by
 obtain ⟨ρ,μ,m,d,μ',hl,hs,e,kc⟩:=h;obtain ⟨⟨o,μ1⟩,e1,e⟩:=zab.mp e;split at e
 ·rename_i n hn
  simp only at hn;subst hn;split at e
  ·rename_i h0
   obtain ⟨⟨k,μ2⟩,e2,e⟩:=zab.mp e;split at e
   ·rename_i ks hks
    simp only at hks;subst hks;obtain ⟨⟨x,μ3⟩,e3,e⟩:=zab.mp e;split at e
    ·rename_i dx hx
     simp only at hx;subst hx;obtain ⟨kvs,e4,e⟩:=zab.mp e;split at e
     ·rename_i hlt
      refine ⟨ρ,μ,m,_,μ1,hl,hs,e1,fun vo H1 m1 x1 s1 r1=>?_⟩;obtain ⟨kvs0,e0⟩:=zcD.mp h0;obtain ⟨a,rfl,ha⟩:=r1;obtain ⟨es,hR,hK⟩:=t8 s1 ha e0;refine ⟨a,rfl,.inr ⟨es,.inl hR⟩,?_⟩;refine ⟨ρ,μ1,m1,_,μ2,hl.ext x1,s1,e2,fun vk H2 m2 x2 s2 r2=>?_⟩;refine ⟨ρ,μ2,m2,_,μ3,hl.ext (x1.trans x2),s2,e3,fun vx H3 m3 x3 s3 r3=>?_⟩;have x13:=(x1.trans x2).trans x3
      have ha3:m3[n]?=some a:=by
       obtain ⟨a',ea',q⟩:=ap.ext (x2.trans x3) (show ap K m1 H1 (.p n) (.ref a) from ⟨a,rfl,ha⟩);cases ea';exact q
      obtain ⟨es',hR',hK'⟩:=t8 s3 ha3 e4;have r2':=r2.ext x3;simp only [ap,ak] at r2';obtain ⟨b,rfl,hb⟩:=r2';refine ⟨es',kk ks,b,hR',rfl,by rw [tt];exact hb,?_,fun v hv=>?_,fun hv=>?_⟩
      ·have:=congrArg List.length hK'.1
       simp at this
       rw [this];exact zaB hlt (by rw [za3];omega)
      ·rcases jZ.val ks hK' with ⟨n1,n2⟩|⟨dd,vv,n1,n2,n3⟩
       ·rw [n2] at hv;cases hv
       ·rw [n2] at hv;cases hv
        simp only [n1] at e;cases e;exact kc _ H3 m3 x13 s3 n3
      ·rcases jZ.val ks hK' with ⟨n1,n2⟩|⟨dd,vv,n1,n2,n3⟩
       ·simp only [n1] at e
        cases e;have y:d6 m3 H3 m3 (upd H3 a (.dT (es'++[(kk ks,vx)]))):=.put (zaZ ha3) hR' (by simp) (by simp);have kr:=jZ.snoc (k:=ks) (ak.tf y.tf _ _ r3) (hK'.tf y.tf);exact kc _ _ m3 (x13.trans y) (s3.put ha3 hR' (by simp) (by simp) ⟨_,b8,kr.1,kr.2⟩) (ak.tf y.tf _ _ r3)
       ·rw [n2] at hv;cases hv
     ·cases e
    ·cases e
   ·cases e
  ·cases e
 ·cases e
end HW
namespace HS
open PySem PySem.Spec PyProof.Rows
theorem zK {m:Nat}(hm:m∈bW)(h:Int){j:Nat}(hj:j < m+1):∃t,t < SetTable.turns m/\(gD m t (SetTable.bits h % (m+1)) (SetTable.bits h)).1=j:=by
 have hb:SetTable.bits h < 2 ^ 64:=by
  unfold SetTable.bits;have:=zci h (show (0:Int) < 2 ^ 64 by decide);have:=zcC h (show (2 ^ 64:Int)≠0 by decide);omega
 have hp:(gD m 13 (SetTable.bits h % (m+1)) (SetTable.bits h)).2=0:=by
  rw [uY];exact Nat.div_eq_of_lt (zb7 hb (by decide))
 have hi:(gD m 13 (SetTable.bits h % (m+1)) (SetTable.bits h)).1 < m+1:=qx m _ _ _ (zcI _ (by omega));obtain ⟨t,ht,e⟩:=wB hm hi hj;refine ⟨13+t,by unfold SetTable.turns;omega,?_⟩;rw [nO,hp,lV,e]
def be (t:SetTable):Nat->SetTable.Probe->SetTable.Probe
 |0,p=>p
 |n+1,p=>be t n (t.advance p)
theorem jA (t:SetTable):∀(a b:Nat) (p:SetTable.Probe),be t (a+b) p=be t b (be t a p)
 |0,b,p=>by rw [zct];rfl
 |a+1,b,p=>by rw [Nat.succ_add];exact jA t a b _
theorem jR (t:SetTable)(n:Nat)(p:SetTable.Probe):be t (n+1) p=t.advance (be t n p):=jA t n 1 p
def fr (m i p:Nat):SetTable.Probe:={j:=i,more:=SetTable.runEnd m i - i,i:=i,perturb:=p,dummy:=none}
theorem nj (t:SetTable)(i pb:Nat):∀(k j:Nat),be t (k+1) {j:=j,more:=k,i:=i,perturb:=pb,dummy:=none}=fr t.mask (SetTable.leap t.mask i pb).1 (SetTable.leap t.mask i pb).2
 |0,j=>by
  show be t 1 _=_
  unfold be be SetTable.advance;rw [if_neg (by simp)];rfl
 |k+1,j=>by
  have e:t.advance {j:=j,more:=k+1,i:=i,perturb:=pb,dummy:=none}={j:=j+1,more:=k,i:=i,perturb:=pb,dummy:=none}:=by
   unfold SetTable.advance;rw [if_pos (by simp)];rfl
  show be t (k+1) (t.advance _)=_
  rw [e];exact nj t i pb k (j+1)
theorem F8 (m i:Nat):SetTable.runEnd m i - i<=9:=by unfold SetTable.runEnd;split <;> omega
theorem ux (t:SetTable):∀(k i p:Nat),∃n,n<=10 * k/\be t n (fr t.mask i p)=fr t.mask (gD t.mask k i p).1 (gD t.mask k i p).2
 |0,i,p=>⟨0,by omega,rfl⟩
 |k+1,i,p=>by
  obtain ⟨n,h1,h2⟩:=ux t k (SetTable.leap t.mask i p).1 (SetTable.leap t.mask i p).2;have:=F8 t.mask i;refine ⟨(SetTable.runEnd t.mask i - i+1)+n,by omega,?_⟩;rw [jA];unfold fr at h2 ⊢;rw [nj t i p (SetTable.runEnd t.mask i - i) i];exact h2
theorem k8 (t:SetTable)(h:Int):t.probeStart h=fr t.mask (SetTable.bits h % (t.mask+1)) (SetTable.bits h):=rfl
theorem wT (j:Nat):SetTable.has #[] j=false:=rfl
theorem b9 (t:SetTable)(hd:t.dummies = #[])(j:Nat):(t.slot j=.empty/\t.place[SetTable.below t.place j]?≠some j)\/(t.slot j=.live (SetTable.below t.place j)/\t.place[SetTable.below t.place j]?=some j):=by
 unfold SetTable.slot
 by_cases c:t.place[SetTable.below t.place j]?=some j
 ·right;exact ⟨by simp [c],c⟩
 ·left
  refine ⟨?_,c⟩
  have:(t.place[SetTable.below t.place j]? == some j)=false:=by simpa using c
  simp only [this,hd,wT,zap,if_false]
theorem CP (t:SetTable)(hf:t.place.size<=t.mask):∃j,j < t.mask+1/\j∉t.place.toList:=by
 apply Classical.byContradiction;intro hn;have hall:∀j∈List.range (t.mask+1),j∈t.place.toList:=fun j hj=>Classical.byContradiction fun c=>hn ⟨j,zby.mp hj,c⟩
 have key:∀(l m:List Nat),l.Nodup->(∀x∈l,x∈m)->l.length<=m.length:=by
  intro l
  induction l with
  |nil=>intro m _ _;exact za9 _
  |cons x l ih =>
   intro m hn h;obtain ⟨h1,h2⟩:=zaP.mp hn;have hx:=h x zai;have:=ih (m.erase x) h2 fun y hy=>(List.mem_erase_of_ne (fun e=>by subst e;exact h1 hy)).mpr (h y (zaj _ hy))
   rw [List.length_erase_of_mem hx] at this
   have:0 < m.length:=List.length_pos_of_mem hx;simp only [zaK];omega
 have:=key _ _ zdl hall
 rw [List.length_range,zaD] at this
 omega
theorem vN {t:SetTable}(hm:t.mask∈bW)(hd:t.dummies = #[])(hf:t.place.size<=t.mask)(h:Int):∃N,N < 10 * SetTable.turns t.mask/\t.slot (be t N (t.probeStart h)).j=.empty:=by
 obtain ⟨j,h1,h2⟩:=CP t hf;obtain ⟨k,k1,k2⟩:=zK hm h h1;obtain ⟨n,n1,n2⟩:=ux t k (SetTable.bits h % (t.mask+1)) (SetTable.bits h);refine ⟨n,by omega,?_⟩;rw [k8,n2,k2];rcases b9 t hd (fr t.mask j (gD t.mask k (SetTable.bits h % (t.mask+1)) (SetTable.bits h)).2).j with c|c
 ·exact c.1
 ·exfalso
  exact h2 (by have:=zc0 c.2;rw [zbA];exact this)
theorem yR (t:SetTable)(p:SetTable.Probe):(t.advance p).dummy=p.dummy:=by
 unfold SetTable.advance;split <;> rfl
theorem kP (t:SetTable):∀(n:Nat) (p:SetTable.Probe),(be t n p).dummy=p.dummy
 |0,_=>rfl
 |n+1,p=>(kP t n _).trans (yR t p)
theorem Fo {t:SetTable}(hashAt:Nat->Int)(h:Int)(hd:t.dummies = #[]){N:Nat}{p:SetTable.Probe}(hp:p.dummy=none)(hE:t.slot (be t N p).j=.empty):∀(f m:Nat),m<=N->N - m < f ->
  (∃j,SetTable.probe.go t hashAt h f (be t m p)=some (.empty j none)/\t.slot j=.empty) \/
  (∃n i,m<=n/\n < N/\SetTable.probe.go t hashAt h f (be t m p)=some (.candidate (be t n p).j i (be t (n+1) p))/\t.slot (be t n p).j=.live i/\hashAt i=h)
 |0,m,_,h2=>by omega
 |f+1,m,h1,h2=>by
  unfold SetTable.probe.go;rcases b9 t hd (be t m p).j with ⟨c,_⟩|⟨c,c'⟩
  ·rw [c]
   exact .inl ⟨_,by rw [kP,hp],c⟩
  ·rw [c]
   have hmN:m < N:=by
    rcases zb8 m N with z|z
    ·exact z
    ·have:m=N:=by omega
     subst this;rw [hE] at c;cases c
   by_cases q:hashAt (SetTable.below t.place (be t m p).j)=h
   ·right
    refine ⟨m,_,zam _,hmN,?_,c,q⟩;simp only [q,zdo,if_true];rw [jR]
   ·have q':(hashAt (SetTable.below t.place (be t m p).j) == h)=false:=by simpa using q
    simp only [q',zap,if_false];rw [←jR];rcases Fo hashAt h hd hp hE f (m+1) hmN (by omega) with z|⟨n,i,z1,z2,z3⟩
    ·exact .inl z
    ·exact .inr ⟨n,i,by omega,z2,z3⟩
section
variable  {prog:Program}{w:World}{A:Around}{E:Tb}{s:Shared}
abbrev j6 (prog:Program)(w:World)(h:Heap)(ks:Th)(a:Addr):Prop:=IsTupleKey (intKind prog w) h ks a
theorem items_int {prog:Program}{w:World}{ks:Th}{vs:Te}(h:ItemsAre (intKind prog w) ks vs):∀v∈vs,∃n t,v=.int n t:=by
 induction h with
 |nil=>intro v hv;simp at hv
 | @cons k v' ks vs h1 _ ih =>
  intro v hv;rcases zak.mp hv with rfl|hv
  ·cases v with
   |int n t=>exact ⟨n,t,rfl⟩
   |_=>simp [intKind,Value.isInt] at h1
  ·exact ih v hv
theorem uh {ks:Th}{a:Addr}{Q:Bool->Shared->Prop}(hk:j6 prog w s.heap ks a)(h:Q false s):wpAny (model prog w) A (ofAClassStatement 8 (.ref a)) Q E s:=by
 have hT:=hk.typeIs;obtain ⟨o,items,n,ho,_,hd,hi⟩:=hk;have hall:=items_int hi;unfold ofAClassStatement;refine zaa (zbs hT ?_);dsimp only;rw [if_pos (by decide)];refine zaa (zad ?_);simp only [zbf,zap,if_false];refine zaa (zcr ho hd ?_);dsimp only;refine zaa ?_;rw [←Array.forIn_toList];refine zcW _ (fun rest r s'=>r.1=none/\s'=s/\∀v∈rest,∃n t,v=Value.int n t) _ ?_ ?_ _ _ ⟨rfl,rfl,hall⟩
 ·rintro v rest r s' ⟨hr,rfl,hv⟩
  obtain ⟨m,t,rfl⟩:=hv v zai;refine zaa (show wpAny _ _ (pure false) _ _ _ from zad ?_);simp only [zap,if_false];exact zad ⟨rfl,rfl,fun u hu=>hv u (zaj _ hu)⟩
 ·rintro ⟨r1,r2⟩ s' ⟨hr,rfl,_⟩
  simp only at hr;subst hr;exact zad h
theorem xw {ks:Th}{a:Addr}{Q:Bool->Shared->Prop}(hk:j6 prog w s.heap ks a)(h:Q true s):wpAny (model prog w) A (hashByValue 8 (.ref a)) Q E s:=by
 have hT:=hk.typeIs;obtain ⟨o,items,n,ho,_,hd,hi⟩:=hk;have hall:=items_int hi;unfold hashByValue;refine zaa (zcz hT F.slot_tuple_hash.lookup ?_);dsimp only;refine zaa (zcr ho hd ?_);refine zaa ?_
 show wpAny _ _ (forIn items _ _) _ _ s
 rw [←Array.forIn_toList];refine zcW _ (fun rest r s'=>r.1=none/\s'=s/\∀v∈rest,∃n t,v=Value.int n t) _ ?_ ?_ _ _ ⟨rfl,rfl,hall⟩
 ·rintro v rest r s' ⟨hr,rfl,hv⟩
  obtain ⟨m,t,rfl⟩:=hv v zai;refine zaa (show wpAny _ _ (pure true) _ _ _ from zad ?_);simp only [zbf,zap,if_false];exact zad ⟨rfl,rfl,fun u hu=>hv u (zaj _ hu)⟩
 ·rintro ⟨r1,r2⟩ s' ⟨hr,rfl,_⟩
  simp only at hr;subst hr;exact zad h
theorem rQ {ks:Th}{a:Addr}{ys:Te}{Q:Bool->Shared->Prop}(hk:j6 prog w s.heap ks a)(hy:∀y∈ys,∃b ls,y=.ref b/\j6 prog w s.heap ls b)(h:Q false s):wpAny (model prog w) A (searchCouldBeSeen (.ref a) ys) Q E s:=by
 unfold searchCouldBeSeen;refine zaa ?_;refine zcW _ (fun rest r s'=>r.1=none/\s'=s/\∀y∈rest,∃b ls,y=Value.ref b/\j6 prog w s.heap ls b) _ ?_ ?_ _ _ ⟨rfl,rfl,hy⟩
 ·rintro y rest r s' ⟨hr,rfl,hv⟩
  obtain ⟨b,ls,rfl,hb⟩:=hv y zai;have nx:∀r':Option Bool×Unit,r'.1=none->r'.1=none/\s'=s'/\∀y∈rest,∃b ls,y=Value.ref b/\j6 prog w s'.heap ls b:=fun r' e=>⟨e,rfl,fun u hu=>hv u (zaj _ hu)⟩;dsimp only;split
  ·exact zad (nx _ rfl)
  ·refine zaa (wpAny_eqIsQuiet_tuple hk ?_)
   simp only [zbf,zap,if_false];refine zaa (wpAny_eqIsQuiet_tuple hb ?_);simp only [zbf,zap,if_false];refine zaa (uh hk ?_);simp only [zap,if_false];refine zaa (uh hb ?_);simp only [zap,if_false];exact zad (nx _ rfl)
 ·rintro ⟨r1,r2⟩ s' ⟨hr,rfl,_⟩
  simp only at hr;subst hr;exact zad h
structure uz (prog:Program)(w:World)(led:Bool)(h:Heap)(es:Array (Int×Value))(t:SetTable)(vs:Te):Prop where
 W:kQ led es t
 ms:t.mask∈bW
 dm:t.dummies = #[]
 pl:t.plain=true
 lo:t.place.size * 5 < t.mask * 3
 pm:(es.toList.map (·.2)).Perm vs
 el:∀e∈es.toList,∃b ls,e.2=.ref b/\j6 prog w h ls b
theorem wU {t:SetTable}{HA:Nat->Int}{h:Int}(hd:t.dummies = #[]){N:Nat}{p:SetTable.Probe}(hp:p.dummy=none)(hE:t.slot (be t N p).j=.empty){f m:Nat}(h1:m<=N)(h2:N - m < f):∃met,SetTable.probe.go t HA h f (be t m p)=some met:=by
 rcases Fo HA h hd hp hE f m h1 h2 with ⟨j,e',hj⟩|⟨n,i,n1,n2,e',hl,hq⟩
 ·exact ⟨_,e'⟩
 ·exact ⟨_,e'⟩
theorem sW:∀m∈bW,(m % 2 == 0)=false:=by decide
theorem j6.same {h h':Heap}{ks:Th}{a S:Addr}{o:Obj}{es:Array (Int×Value)}{ep:Nat}{t:SetTable}(x:j6 prog w h ks a)(ho:h.get? S=some o)(hd:o.data=.set es ep t)(hs:Heap.SameBut S h h'):j6 prog w h' ks a:=by
 obtain ⟨o',items,n,ho',hc,hd',hi⟩:=x
 have hne:a≠S:=by
  rintro rfl;obtain rfl:o'=o:=Option.some.inj (ho'.symm.trans ho);rw [hd] at hd';exact nomatch hd'
 exact ⟨o',items,n,(hs.2 a hne).trans ho',hc,hd',hi⟩
end
def El (prog:Program)(w:World)(led:Bool)(h:Heap)(o:Obj)(vs:Te):Prop:=∃es ep t,o.ExactSet/\o.data=.set es ep t/\uz prog w led h es t vs
theorem tR {prog:Program}{w:World}(led:Bool)(h:Heap):El prog w led h (ax led) [] :=
 ⟨#[],0,_,⟨rfl,rfl,rfl⟩,rfl,⟨⟨by decide,by rfl,fun _=>List.Pairwise.nil,rfl⟩,(show 7∈bW by decide),rfl,rfl,(show 0 * 5 < 7 * 3 by decide),List.Perm.refl _,fun _ h=>by simp at h⟩⟩
section
variable  {prog:Program}{w:World}{A:Around}{R:Result->Shared->Prop}{I:Addr}{fp wr:Tf}{G:Array GenState->Array GenState->Prop}{n:Nat}{P:Nat->Value->Prop}{St:Nat->Shared->Prop}
theorem j6.keep {h h':Heap}{ks:Th}{a:Addr}(x:j6 prog w h ks a)(k:∀o,h.get? a=some o->h'.get? a=some o):j6 prog w h' ks a:=by
 obtain ⟨o,items,n,ho,r⟩:=x;exact ⟨o,items,n,k _ ho,r⟩
theorem uz.keep {led:Bool}{h h':Heap}{es:Array (Int×Value)}{t:SetTable}{vs:Te}(T:uz prog w led h es t vs)(k:∀b,Value.ref b∈vs->∀o,h.get? b=some o->h'.get? b=some o):uz prog w led h' es t vs :=
 ⟨T.W,T.ms,T.dm,T.pl,T.lo,T.pm,fun e he=>by
  obtain ⟨b,ls,e1,e2⟩:=T.el e he
  exact ⟨b,ls,e1,e2.keep (k b (T.pm.mem_iff.mp (zas.mpr ⟨e,he,e1⟩)))⟩⟩
end
section
variable  {prog:Program}{w:World}{A:Around}{E:Tb}{s:Shared}
theorem ya {α β:Type}{f:α->β}{l1 l2:List β}(p:l1.Perm l2):∀zs:List α,zs.map f=l2->∃zs':List α,zs'.Perm zs/\zs'.map f=l1:=by
 induction p with
 |nil=>intro zs e;exact ⟨[],by rw [List.map_eq_nil_iff.mp e],rfl⟩
 |cons x _ ih =>
  intro zs e;obtain ⟨z,zs',rfl,rfl,e2⟩:=zc4.mp e;obtain ⟨ws,h1,h2⟩:=ih zs' e2;exact ⟨z::ws,h1.cons z,by rw [zag,h2]⟩
 |swap x y l =>
  intro zs e;obtain ⟨z,zs',rfl,rfl,e2⟩:=zc4.mp e;obtain ⟨z2,zs2,rfl,rfl,e3⟩:=zc4.mp e2;exact ⟨z2::z::zs2,List.Perm.swap z z2 zs2,by rw [zag,zag,e3]⟩
 |trans _ _ ih1 ih2 =>
  intro zs e;obtain ⟨ws,h1,h2⟩:=ih2 zs e;obtain ⟨us,h3,h4⟩:=ih1 ws h2;exact ⟨us,h3.trans h1,h4⟩
def Em (led:Bool)(o:Obj)(ps:List (Addr×Th)):Prop:=∃es ep t,o.ExactSet/\o.data=.set es ep t/\kQ led es t/\(es.toList.map (·.2)).Perm (ps.map fun p=>Value.ref p.1)
theorem El.o {led:Bool}{h:Heap}{o:Obj}{ps:List (Addr×Th)}(x:El prog w led h o (ps.map fun p=>Value.ref p.1)):Em led o ps:=by
 obtain ⟨es,ep,t,h1,h2,T⟩:=x;exact ⟨es,ep,t,h1,h2,T.W,T.pm⟩
abbrev Im (h:Heap)(p:Addr×Th):Prop:=∃o its n,h.get? p.1=some o/\o.cls=.type "tuple"/\o.data=.seq its n/\IntsAre its.toList p.2
theorem v6 {h:Heap}:∀{ps:List (Addr×Th)},(∀p∈ps,Im h p)->HT2.aO h (ps.map fun p=>Value.ref p.1) (ps.map (·.2))
 |[],_=>trivial
 |p::ps,hp=>by
  obtain ⟨o,its,n,r⟩:=hp p zai;exact ⟨⟨p.1,o,its,n,rfl,r⟩,v6 fun q hq=>hp q (zaj _ hq)⟩
theorem si {a:Addr}{o:Obj}{ps:List (Addr×Th)}{Q:Tb}(hh:A.handled=none)(ho:s.heap.get? a=some o)(hS:Em (!bt w) o ps)(hps:∀p∈ps,Im s.heap p)(nd:(ps.map (·.2)).Nodup)(h64:ps.length < 64)(hne:2<=ps.length->∀p∈ps,p.2≠[])
  (h:∀(qs:List (Addr×Th)) (h':Heap) (d:Drawn) (tk:Nat) (l:Addr) (c:Nat),(∀q∈qs,q∈ps)->(qs.map (·.2)).Perm (ps.map (·.2))->(qs.map (·.2)).Pairwise (fun x y=>HT2.iS x y=true)->(∀b o,s.heap.get? b=some o->h'.get? b=some o)->s.toks<=tk ->
   s.heap.objs.size<=l->h'.get? l=some (seqObj "list" (qs.map fun q=>Value.ref q.1).toArray c)->Q (.ref l) {s with heap:=h',drawn:=d,toks:=tk}) :
  wpAny (model prog w) A (call (.builtin "sorted") [.ref a]) Q E s:=by
 obtain ⟨es,ep,t,hx,hd,G,pm⟩:=hS;refine Calls.call_function_entry kind_sorted plain_sorted entry_sorted (args_sorted1 _) ?_;unfold Builtin.«sorted»;refine zaa (m:=checkCount "sorted" 1 1 _) (zad (zaa (p7 (show A.in1.handled=none from hh) ho hx hd G fun ord h' d tk hord kp ht hge=>?_)));obtain ⟨rs,r1,r2⟩:=ya ((hord.map (·.2)).trans pm) ps rfl;have r2':ord.map (·.2)=rs.map fun p=>Value.ref p.1:=r2.symm;rw [r2'];have hrl:rs.length=ps.length:=r1.length_eq;have hmem:∀q∈rs,q∈ps:=fun q hq=>r1.mem_iff.mp hq;have hT0:HT2.aO s.heap (rs.map fun p=>Value.ref p.1) (rs.map (·.2)):=v6 fun q hq=>hps q (hmem q hq);have nd':(rs.map (·.2)).Nodup:=(r1.map (·.2)).nodup_iff.mpr nd;refine zaa (zcS ?_ (by rw [zaf,za3];omega));generalize hvs:(rs.map fun p=>Value.ref p.1)=vs at *
 have hvl:vs.length=rs.length:=by rw [←hvs,zaf]
 have hoL:(h'.push (seqObj "list" vs.toArray 0)).get? h'.objs.size=some (seqObj "list" vs.toArray 0):=zal _ rfl;have hT2:HT2.aO (h'.push (seqObj "list" vs.toArray 0)) vs (rs.map (·.2)):=hT0.keep fun b o e=>zae _ (kp b o e)
 have hna:∀v∈vs,v≠.ref h'.objs.size:=fun v hv e=>by
  rw [←hvs] at hv;obtain ⟨p,hp,rfl⟩:=zas.mp hv;obtain ⟨op,itp,np,q1,_⟩:=hps p (hmem p hp)
  injection e with e
  have:=zah (kp _ _ q1)
  rw [e] at this
  exact absurd this (zaR _)
 refine zaa (zaE (zaH (s:={s with heap:=h'.push (seqObj "list" vs.toArray 0),drawn:=d,toks:=tk}) slot_list_sort ⟨_,hoL,rfl⟩ entry_list_sort (HT2.lU (s:={s with heap:=h'.push (seqObj "list" vs.toArray 0),drawn:=d,toks:=tk}) hoL hT2 nd' (by rw [zaf];omega) (fun h2 x hx'=>by
  obtain ⟨p,hp,rfl⟩:=zas.mp hx';rw [zaf] at h2
  exact hne (by omega) p (hmem p hp)) hna fun out L' ⟨is,a1,a2,a3⟩ a4 a5=>⟨_,rfl,?_⟩) (args_list_sort _)))
 obtain ⟨c,hc⟩:∃c,(sortedHeap (h'.push (seqObj "list" vs.toArray 0)) h'.objs.size vs out).get? h'.objs.size=some (seqObj "list" out c):=by
  unfold sortedHeap;obtain ⟨e1,q1⟩:∃e1,((h'.push (seqObj "list" vs.toArray 0)).update h'.objs.size (Obj.mapSeq fun _=>#[])).get? h'.objs.size=some (seqObj "list" #[] e1):=⟨_,get?_update_seq hoL (fun _=>#[])⟩;exact ⟨_,get?_update_seq (zae _ (zae _ q1)) (fun _=>out)⟩
 have b1:out.toList=(is.map fun i=>rs.getD i (0,[])).map fun q=>Value.ref q.1:=by
  rw [a1,za7];refine zcy fun i hi=>?_
  have hi':i < rs.length:=by have:=a3 i hi;rwa [zaf] at this
  rw [←hvs];simp [List.getD,hi']
 have b2:L'=(is.map fun i=>rs.getD i (0,[])).map (·.2):=by
  rw [a2,za7];refine zcy fun i hi=>?_
  have hi':i < rs.length:=by have:=a3 i hi;rwa [zaf] at this
  simp [List.getD,hi']
 have ho':out=((is.map fun i=>rs.getD i (0,[])).map fun q=>Value.ref q.1).toArray:=by rw [←b1]
 rw [b2] at a4 a5;refine zad ⟨_,rfl,h (is.map fun i=>rs.getD i (0,[])) _ d tk h'.objs.size c (fun q hq=>?_) (a4.trans (r1.map (·.2))) a5 (fun b o e=>?_) ht hge (by rw [←ho'];exact hc)⟩
 ·obtain ⟨i,hi,rfl⟩:=zas.mp hq
  have hi':i < rs.length:=by have:=a3 i hi;rwa [zaf] at this
  refine hmem _ ?_;simp [List.getD,hi']
 ·have hb:=kp b o e
  have ne:h'.objs.size≠b:=zaY (zah hb);unfold sortedHeap;rw [zay _ _ ne];refine zae _ (zae _ ?_);rw [zay _ _ ne];exact zae _ hb
end
end HS
namespace HW
open PySem PySem.Spec PyProof.Rows L2 HS HT2
theorem tI {prog:Program}{w:World}:∀{its:Te} {ks:Th},IntsAre its ks->ItemsAre (intKind prog w) ks its
 |_,_,.nil=>.nil
 |_,_,.cons n t h=>.cons (intKind_is _ _ _ _) (tI h)
abbrev Cf (K:zac)(H:Hp)(ps:List (Addr×Th)):Prop:=∀q∈ps,eS K H q.1 (q.2.map V.int)
theorem aA.tupA {X:Cx}{H:Hp}{s:Shared}(I:aA X pins σ H s){p:Addr×Th}(h:eS X.K H p.1 (p.2.map V.int)):Im s.heap p:=by
 obtain ⟨its,r',⟨o',ho',hc',n',hd'⟩,hz⟩:=I.tuple h;exact ⟨o',its.toArray,n',ho',hc',hd',by simpa using cr r'⟩
theorem pL:∀{ps:List (Addr×Th)} {its:Te},aW (ps.map fun q=>V.ref q.1) its->its=ps.map fun q=>Value.ref q.1
 |[],its,h=>by cases h;rfl
 |p::ps,its,h=>by
  cases h with
  |cons h1 h2=>rw [pL h2];rw [show _=Value.ref p.1 from h1];rfl
theorem nu:∀(ps:List (Addr×Th)),aW (ps.map fun q=>V.ref q.1) (ps.map fun q=>Value.ref q.1)
 |[]=>.nil
 |p::ps=>.cons rfl (nu ps)
def wq (K:zac)(b:Bool):List V->Hp->VK->Prop:=fun vs H Q=>∃(p:Addr) (o:Obj) (ps:List (Addr×Th)),vs=[.ref p]/\H p=some (bU o)/\Em b o ps/\Cf K H ps/\(ps.map (·.2)).Nodup/\ps.length < 64/\(2<=ps.length->∀p∈ps,p.2≠[]) /\
 ∀(l:Addr) (qs:List (Addr×Th)),H l=none->(∀q∈qs,q∈ps)->qs.map (·.2)=aZ (ps.map (·.2))->Q (.ref l) (upd H l (.lst (qs.map fun q=>V.ref q.1)))
theorem uj {X:Cx}(hc:X.calm=true):d9 X (.builtin "sorted") (wq X.K (!HS.bt X.w)):=by
 intro pins s σ H vs us Q I r h;obtain ⟨p,o,ps,rfl,hp,hS,hT,nd,h64,hne,q⟩:=h;obtain ⟨u,rfl,rx⟩:=gP r;cases rx;have ho:s.heap.get? p=some o:=(I.hok p _ hp).1;refine si (I.ok.hd hc) ho hS (fun q hq=>aA.tupA I (hT q hq)) nd h64 hne fun qs h' d tk l c a1 a2 a3 kp ht hl hL=>?_;have e:qs.map (·.2)=aZ (ps.map (·.2)):=jK a3 (eJ nd) (a2.trans (bj _).symm)
 have hlen:qs.length=ps.length:=by have:=a2.length_eq;simpa using this
 have I1:aA X pins σ (upd H l (.lst (qs.map fun q=>V.ref q.1))) {s with heap:=h',toks:=tk} :=
  I.laid (t':=tk) kp hl (show bm X.prog X.w _ h' _ (.lst _) from ⟨by rw [zaf,hlen,za3];omega,_,c,nu qs,by simpa [seqObj] using hL⟩)
 exact ⟨.ref l,_,aA.drw I1 d,rfl,q _ qs (I.hok.fresh hl) a1 e⟩
def y8:D->Option (Th)
 |.tup xs=>dC xs
 |.key ks=>some ks
 |_=>none
def nH:List D->Option (Ta)
 |[]=>some []
 |d::r=>(y8 d).bind fun k=>(nH r).bind fun ks=>some (k::ks)
abbrev kT (ks:Th):D:=.tup (ks.map .int)
theorem Cu {K:zac}{H:Hp}{d:D}{ks:Th}{v:V}(e:y8 d=some ks)(r:ak K H d v):∃a,v=.ref a/\eS K H a (ks.map V.int):=by
 unfold y8 at e;split at e
 ·simp only [ak] at r
  obtain ⟨a,vs,rfl,h1,h2⟩:=r;rw [tL e h2] at h1;exact ⟨a,rfl,h1⟩
 ·cases e
  simp only [ak] at r;obtain ⟨a,rfl,h⟩:=r;exact ⟨a,rfl,.inl (.inl h)⟩
 ·cases e
theorem nG {K:zac}{H:Hp}:∀{ds:List D} {L:Ta} {vs:List V},nH ds=some L->RelDs K H ds vs->∃ps:List (Addr×Th),vs=ps.map (fun q=>V.ref q.1)/\ps.map (·.2)=L/\Cf K H ps
 |[],L,vs,e,r=>by
  cases e;simp only [RelDs] at r;subst r;exact ⟨[],rfl,rfl,fun _ h=>nomatch h⟩
 |d::ds,L,vs,e,r=>by
  obtain ⟨k,e1,e⟩:=zab.mp e;obtain ⟨ks,e2,e⟩:=zab.mp e;cases e;simp only [RelDs] at r;obtain ⟨v,vr,rfl,r1,r2⟩:=r;obtain ⟨a,rfl,h1⟩:=Cu e1 r1;obtain ⟨ps,rfl,rfl,h2⟩:=nG e2 r2
  exact ⟨(a,k)::ps,rfl,rfl,fun q hq=>by
   rcases zak.mp hq with rfl|hq
   ·exact h1
   ·exact h2 q hq⟩
theorem wS {K:zac}{H:Hp}:∀{qs:List (Addr×Th)},Cf K H qs->RelDs K H ((qs.map (·.2)).map kT) (qs.map fun q=>V.ref q.1)
 |[],_=>by simp only [za6,RelDs]
 |q::qs,h=>by
  simp only [zag,RelDs,ak];exact ⟨_,_,rfl,⟨q.1,_,rfl,h q zai,lf⟩,wS fun p hp=>h p (zaj _ hp)⟩
end HW
namespace HK
open PySem PySem.Spec PyProof.Rows L2 HS HT2
section
variable  {prog:Program}{w:World}{A:Around}{E:Tb}{s:Shared}
theorem CI {a:Addr}{vs:Te}{n:Nat}{L:Ta}{Q:Tb}(ho:s.heap.get? a=some (seqObj "list" vs.toArray n))(hT:aO s.heap vs L)(nd:L.Nodup)(h64:L.length < 64)(hne:2<=L.length->∀x∈L,x≠[])
  (h:∀(is:List Nat) (h':Heap) (tk:Nat) (l:Addr) (c:Nat),(∀i∈is,i < L.length)->(is.map fun i=>L.getD i []).Perm L->(is.map fun i=>L.getD i []).Pairwise (fun x y=>iS x y=true)->(∀b o,s.heap.get? b=some o->h'.get? b=some o)->s.toks<=tk ->
   s.heap.objs.size<=l->h'.get? l=some (seqObj "list" (is.map fun i=>vs.getD i .none).toArray c)->Q (.ref l) {s with heap:=h',toks:=tk}) :
  wpAny (model prog w) A (call (.builtin "sorted") [.ref a]) Q E s:=by
 have hvl:vs.length=L.length:=hT.len;refine Calls.call_function_entry kind_sorted plain_sorted entry_sorted (args_sorted1 _) ?_;unfold Builtin.«sorted»;refine zaa (m:=checkCount "sorted" 1 1 _) (zad (zaa (collect_list (l:=a) (vs:=vs) ⟨_,ho,rfl,n,rfl⟩ ?_ (by rw [hvl,za3];omega))))
 have kp:∀b o,s.heap.get? b=some o->((s.heap.push (seqObj "list" #[] 0)).update s.heap.objs.size (Obj.mapSeq fun x=>x++vs.toArray)).get? b=some o:=fun b o e=>by
  rw [zay _ _ (zaY (zah e))];exact zae _ e
 have hge:s.heap.objs.size<=((s.heap.push (seqObj "list" #[] 0)).update s.heap.objs.size (Obj.mapSeq fun x=>x++vs.toArray)).objs.size:=by
  rw [(Heap.SameBut.update ..).1,zaX];exact zbZ _
 have ht:s.toks<=s.toks:=zam _;generalize (s.heap.push (seqObj "list" #[] 0)).update s.heap.objs.size (Obj.mapSeq fun x=>x++vs.toArray)=h' at kp hge ⊢;clear ho;refine zaa (zcS ?_ (by rw [hvl,za3];omega));have hoL:(h'.push (seqObj "list" vs.toArray 0)).get? h'.objs.size=some (seqObj "list" vs.toArray 0):=zal _ rfl;have hT2:aO (h'.push (seqObj "list" vs.toArray 0)) vs L:=hT.keep fun b o e=>zae _ (kp b o e)
 have hna:∀v∈vs,v≠.ref h'.objs.size:=fun v hv e=>by
  obtain ⟨i,hi,rfl⟩:=zbt hv;obtain ⟨b,o,its,n,q1,q2,_⟩:=hT.at i (by omega);rw [za2,zar hi] at q1;simp only [zbx] at q1;rw [e] at q1;cases q1;exact absurd (zah (kp _ _ q2)) (zaR _)
 refine zaa (zaE (zaH (s:={s with heap:=h'.push (seqObj "list" vs.toArray 0),toks:=s.toks}) slot_list_sort ⟨_,hoL,rfl⟩ entry_list_sort (lU (s:={s with heap:=h'.push (seqObj "list" vs.toArray 0),toks:=s.toks}) hoL hT2 nd h64 hne hna fun out L' ⟨is,a1,a2,a3⟩ a4 a5=>⟨_,rfl,?_⟩) (args_list_sort _)))
 obtain ⟨c,hc⟩:∃c,(sortedHeap (h'.push (seqObj "list" vs.toArray 0)) h'.objs.size vs out).get? h'.objs.size=some (seqObj "list" out c):=by
  unfold sortedHeap;obtain ⟨e1,q1⟩:∃e1,((h'.push (seqObj "list" vs.toArray 0)).update h'.objs.size (Obj.mapSeq fun _=>#[])).get? h'.objs.size=some (seqObj "list" #[] e1):=⟨_,get?_update_seq hoL (fun _=>#[])⟩;exact ⟨_,get?_update_seq (zae _ (zae _ q1)) (fun _=>out)⟩
 have ho:out=(is.map fun i=>vs.getD i .none).toArray:=by rw [←a1]
 subst a2;rw [ho] at hc;refine zad ⟨_,rfl,h is _ s.toks h'.objs.size c a3 a4 a5 (fun b o e=>?_) ht hge (by rw [ho];exact hc)⟩;have hb:=kp b o e;have ne:h'.objs.size≠b:=zaY (zah hb);unfold sortedHeap;rw [zay _ _ ne];refine zae _ (zae _ ?_);rw [zay _ _ ne];exact zae _ hb
end
end HK
namespace HW
open PySem PySem.Spec PyProof.Rows L2 HS HT2 HK
def mI (K:zac)(H:Hp):List V->List (Th)->Prop:=Paired fun v k=>∃t,v=.ref t/\eS K H t (k.map V.int)
def sE (K:zac):List V->Hp->VK->Prop:=fun vs H Q=>∃p ws L,vs=[.ref p]/\iV K H p ws/\mI K H ws L/\L.Nodup/\L.length < 64/\(2<=L.length->∀x∈L,x≠[])/\∀ws',mI K H ws' (aZ L)->∀l,H l=none->Q (.ref l) (upd H l (.lst ws'))
theorem rB {X:Cx}:d9 X (.builtin "sorted") (sE X.K):=by
 intro pins s σ H vs us Q I r h;obtain ⟨p,ws,L,rfl,hp,hk,nd,h64,hne,q⟩:=h;obtain ⟨u,rfl,rx⟩:=gP r;cases rx;obtain ⟨its,n,rv,e⟩:=Bi I hp
 have key:∀{ws:List V} {L:Ta},mI X.K H ws L->∀{its:Te},aW ws its->aO s.heap its L:=by
  intro ws L t
  induction t with
  |nil=>intro its v;cases v;exact trivial
  |cons h _ ih =>
   intro its v
   cases v with
   |cons hv tv =>
    obtain ⟨t,rfl,hs⟩:=h;cases hv;obtain ⟨js,rj,⟨ob,g1,g2,n,g3⟩,_⟩:=I.tuple hs;exact ⟨⟨t,ob,js.toArray,n,rfl,g1,g2,g3,by simpa using cr rj⟩,ih tv⟩
 have hwl:ws.length=L.length:=Paired.length hk;have hil:=rv.length;refine CI (by simpa [seqObj] using e) (key hk rv) nd h64 hne fun is h' tk l c i1 i2 i3 kp ht hl hL=>?_;have heq:(is.map fun i=>L.getD i [])=aZ L:=jK i3 (eJ nd) (i2.trans (bj L).symm)
 have hlen:is.length=L.length:=by simpa using i2.length_eq
 have at_:∀{ws:List V} {L:Ta},mI X.K H ws L->∀i,i < L.length->∃t,ws.getD i .non=.ref t/\eS X.K H t ((L.getD i []).map V.int):=by
  intro ws L t
  induction t with
  |nil=>intro i hi;simp at hi
  |cons h _ ih =>
   intro i hi
   cases i with
   |zero=>simpa using h
   |succ i=>simpa using ih i (by simpa using hi)
 have pick:∀is:List Nat,(∀i∈is,i < L.length)->mI X.K H (is.map fun i=>ws.getD i .non) (is.map fun i=>L.getD i [])/\aW (is.map fun i=>ws.getD i .non) (is.map fun i=>its.getD i .none):=by
  intro is
  induction is with
  |nil=>intro _;exact ⟨.nil,.nil⟩
  |cons i is ih =>
   intro hi;obtain ⟨a,b⟩:=ih fun j hj=>hi j (zaj _ hj);have h0:=hi i zai;refine ⟨.cons (at_ hk i h0) a,.cons ?_ b⟩
   have hw:i < ws.length:=by omega
   obtain ⟨u,q1,q2⟩:=rv.get (zar hw)
   show L2.aY (ws.getD i .non) (its.getD i .none)
   rw [za2,za2,zar hw,q1];exact q2
 obtain ⟨p1,p2⟩:=pick is i1;rw [heq] at p1;exact ⟨.ref l,_,I.laid (t':=tk) kp hl (show bm X.prog X.w _ h' _ (.lst (is.map fun i=>ws.getD i .non)) from ⟨by rw [zaf,hlen,za3];omega,_,c,p2,by simpa [seqObj] using hL⟩),rfl,q _ p1 _ (I.hok.fresh hl)⟩
def zB:List R->ab->Option (R×ab)
 |[x],μ=>(zJ x μ).bind fun ds=>(nH ds).bind fun L=>if L.Nodup/\L.length < 64/\(L.length < 2\/∀k∈L,k≠[]) then some (.p μ.length,μ++[.lst ((aZ L).map fun k=>.tup (k.map D.int))]) else none
 |_,_=>none
theorem rY {K:zac}{H:Hp}:∀{ps:List (Addr×Th)},(∀q∈ps,eS K H q.1 (q.2.map V.int))->mI K H (ps.map fun q=>V.ref q.1) (ps.map (·.2))
 |[],_=>.nil
 |q::ps,h=>.cons ⟨q.1,rfl,h q zai⟩ (rY fun r hr=>h r (zaj _ hr))
theorem mI.rels {K:zac}{H:Hp}{ws:List V}{L:Ta}(t:mI K H ws L):RelDs K H (L.map fun k=>.tup (k.map D.int)) ws:=by
 induction t with
 |nil=>rfl
 |cons h _ ih =>
  obtain ⟨t,rfl,hs⟩:=h;exact ⟨_,_,rfl,by simp only [ak];exact ⟨t,_,rfl,hs,jF _⟩,ih⟩
theorem Hz {K:zac}:v4 K zB (sE K):=by
 intro m H μ xs d μ' vs Q s r e k;unfold zB at e;split at e
 ·obtain ⟨ds,e0,e⟩:=zab.mp e
  obtain ⟨L,e1,e⟩:=zab.mp e;split at e
  ·rename_i hc
   cases e;obtain ⟨v,rfl,r1⟩:=lg r;obtain ⟨a,ws,rfl,ea,ra⟩:=qw s e0 r1;obtain ⟨ps,rfl,rfl,hT⟩:=nG e1 ra;refine ⟨a,_,_,rfl,ea,rY hT,hc.1,hc.2.1,fun h2=>hc.2.2.resolve_left (by omega),fun ws' tv l hl=>?_⟩;obtain ⟨x,y,z⟩:=e7 s tv.rels hl;exact k _ _ _ x y z
  ·cases e
 ·cases e
def vH (f:FE):FE:=fun ρ μ=>(f ρ μ).bind fun a=>some (lO a.1,a.2)
theorem JG {K:zac}{H:Hp}{Q:VK}{f}(h:aw K (vH f) σ H Q):aw K f σ H Q:=by
 obtain ⟨ρ,μ,m,d,μ',hl,hs,e,k⟩:=h;obtain ⟨⟨x,μ1⟩,e1,e⟩:=zab.mp e;cases e;exact ⟨ρ,μ,m,_,_,hl,hs,e1,fun v H' m' x1 s1 r1=>k v H' m' x1 s1 r1.unk⟩
def p5 (fa:FA):FE:=fun ρ μ=>(fa ρ μ).bind fun a=>(vals a.1).bind fun ds=>(dC ds).bind fun ns=>if ds.length<=sizeLine then some (.v (.key ns),a.2) else none
theorem CS {K:zac}{H:Hp}{Q:VK}{fa}(h:aw K (p5 fa) σ H Q):FY (ij K fa) σ H Q:=by
 obtain ⟨ρ,μ,m,d,μ',hl,hs,e,k⟩:=h;obtain ⟨⟨xs,μ1⟩,e1,e⟩:=zab.mp e;obtain ⟨ds,e2,e⟩:=zab.mp e;obtain ⟨ns,e3,e⟩:=zab.mp e;split at e
 ·rename_i z
  cases e;refine ⟨ρ,μ,m,xs,_,hl,hs,e1,fun vs H1 m1 x1 s1 r1=>?_⟩;have r2:=iW e2 r1;refine ⟨by rw [←r2.length];exact z,fun p hp=>?_⟩;obtain ⟨a,b,c⟩:=im s1 r2 hp;refine k _ _ _ (x1.trans a) b ?_;simp only [ap,ak];exact ⟨p,rfl,by rw [b8,tL e3 r2]⟩
 ·cases e
def vX:R->R->ab->Option (R×ab)
 |.v (.tup xs),.v (.key ys),μ=>(dC xs).bind fun ns=>if xs.length+ys.length<=sizeLine/\ys≠[] then some (.v (.key (ns++ys)),μ) else none
 |_,_,_=>none
theorem HG {K:zac}:pC K vX (fun x y H Q=>Ae K x y H Q\/Af K x y H Q):=by
 intro m H μ x y d μ' v u Q s rx ry e k;unfold vX at e;split at e
 ·rename_i xs ys
  obtain ⟨ns,e1,e⟩:=zab.mp e;split at e
  ·rename_i z
   cases e;simp only [ap,ak] at rx ry;obtain ⟨a,vs,rfl,qa,ra⟩:=rx;obtain ⟨b,rfl,qb⟩:=ry;have hv:=tL e1 ra;have hl:=ra.length;subst hv;simp only [zaf] at hl
   by_cases h0:ns=[]
   ·subst h0
    refine .inr ⟨a,b,ys.map V.int,rfl,rfl,qa,eS.of qb,by rw [zaf];omega,k _ H m .refl s ?_⟩;simp only [ap,ak];exact ⟨b,rfl,qb⟩
   ·refine .inl ⟨a,b,ns.map V.int,ys.map V.int,rfl,rfl,qa,eS.of qb,by simpa using h0,by rw [zaf,zaf,←hl];exact z.1,fun h1=>absurd (by simpa using h1) z.2,fun _ p hp=>?_⟩
    rw [←zaQ];obtain ⟨x1,x2,_⟩:=im s (jF (K:=K) (H:=H) (ns++ys)) hp;refine k _ _ m x1 x2 ?_;simp only [ap,ak];exact ⟨p,rfl,b8⟩
  ·cases e
 ·cases e
end HW
namespace HS
open PySem PySem.Spec PyProof.Rows
theorem rL (t:SetTable)(i pb:Nat):∀(k j mo:Nat),k<=mo->be t k {j:=j,more:=mo,i:=i,perturb:=pb,dummy:=none}={j:=j+k,more:=mo - k,i:=i,perturb:=pb,dummy:=none}
 |0,j,mo,_=>rfl
 |k+1,j,mo,h=>by
  have e:t.advance {j:=j,more:=mo,i:=i,perturb:=pb,dummy:=none}={j:=j+1,more:=mo - 1,i:=i,perturb:=pb,dummy:=none}:=by
   unfold SetTable.advance;rw [if_pos (by show mo > 0;omega)]
  show be t k (t.advance _)=_
  rw [e,rL t i pb k (j+1) (mo - 1) (by omega)];simp only [SetTable.Probe.mk.injEq,and_true,true_and];omega
theorem vE {n k:Nat}{p:Nat->Bool}(h:(List.range n).find? p=some k):k < n/\p k=true/\∀x < k,p x=false:=by
 have h1:=zds h;have h2:=List.mem_of_find?_eq_some h;refine ⟨by simpa using h2,h1,fun x hx=>?_⟩;rw [List.find?_range_eq_some] at h;have:=h.2.2 x hx;simpa using this
theorem oB (t:SetTable)(owner:Array (Option Nat)):∀(fuel i p r:Nat),SetTable.layClean.free t.mask owner fuel i p=some r->∃n,(be t n (fr t.mask i p)).j=r/\∀k < n,(owner.getD (be t k (fr t.mask i p)).j (some 0)).isNone=false
 |0,i,p,r,e=>by simp [SetTable.layClean.free] at e
 |fuel+1,i,p,r,e=>by
  have hi:i<=SetTable.runEnd t.mask i:=by unfold SetTable.runEnd;split <;> omega
  unfold SetTable.layClean.free at e;split at e
  ·rename_i k hk
   cases e;obtain ⟨k1,k2,k3⟩:=vE hk;refine ⟨k,?_,fun x hx=>?_⟩
   ·unfold fr;rw [rL _ _ _ _ _ _ (by omega)]
   ·unfold fr;rw [rL _ _ _ _ _ _ (by omega)];exact k3 x hx
  ·rename_i hk
   obtain ⟨n,n1,n2⟩:=oB t owner fuel _ _ r e;have hall:=zdd.mp hk;refine ⟨(SetTable.runEnd t.mask i - i+1)+n,?_,fun x hx=>?_⟩
   ·rw [jA];unfold fr at n1 ⊢;rw [nj];exact n1
   ·by_cases c:x < SetTable.runEnd t.mask i - i+1
    ·unfold fr;rw [rL _ _ _ _ _ _ (by omega)]
     exact Bool.eq_false_iff.mpr (hall x (by rw [zby];omega))
    ·have hx':x=(SetTable.runEnd t.mask i - i+1)+(x - (SetTable.runEnd t.mask i - i+1)):=by omega
     rw [hx',jA];have:=n2 (x - (SetTable.runEnd t.mask i - i+1)) (by omega);unfold fr at this ⊢;rw [nj];exact this
structure IF (m:Nat)(p:SetTable.Probe):Prop where
 j:p.j+p.more<=m
 i:p.i<=m
theorem Av {m i p:Nat}(h:i<=m):IF m (fr m i p):=⟨by
 show i+(SetTable.runEnd m i - i)<=m
 unfold SetTable.runEnd;split <;> omega,h⟩
theorem Dk {t:SetTable}{p:SetTable.Probe}(h:IF t.mask p):IF t.mask (t.advance p):=by
 unfold SetTable.advance;split
 ·have:=h.j;exact ⟨by show p.j+1+(p.more - 1)<=t.mask;omega,h.i⟩
 ·have hl:(SetTable.leap t.mask p.i p.perturb).1<=t.mask:=by
   unfold SetTable.leap;have:=zcI (p.i * 5+1+p.perturb / 32) (show 0 < t.mask+1 by omega)
   show _ % _<=_
   omega
  exact ⟨(Av (p:=0) hl).j,hl⟩
theorem sP {t:SetTable}:∀(n:Nat) {p:SetTable.Probe},IF t.mask p->IF t.mask (be t n p)
 |0,_,h=>h
 |n+1,_,h=>sP n (Dk h)
theorem xY (t:SetTable)(h:Int):IF t.mask (t.probeStart h):=by
 rw [k8];exact Av (by have:=zcI (SetTable.bits h) (show 0 < t.mask+1 by omega);omega)
theorem oZ {t u:SetTable}(h:t.mask=u.mask):∀(n:Nat) (p:SetTable.Probe),be t n p=be u n p
 |0,_=>rfl
 |n+1,p=>by
  have e:t.advance p=u.advance p:=by unfold SetTable.advance;rw [h]
  show be t n (t.advance p)=be u n (u.advance p)
  rw [e];exact oZ h n _
theorem nK {t u:SetTable}(h:t.mask=u.mask)(x:Int):t.probeStart x=u.probeStart x:=by unfold SetTable.probeStart;rw [h]
def qh (t:SetTable)(h:Int)(j:Nat):Prop:=∃n,(be t n (t.probeStart h)).j=j/\∀k < n,t.slot (be t k (t.probeStart h)).j≠.empty
def Me (t:SetTable)(owner:Array (Option Nat))(h:Int)(j:Nat):Prop:=∃n,(be t n (t.probeStart h)).j=j/\∀k < n,(owner.getD (be t k (t.probeStart h)).j (some 0)).isNone=false
theorem xm {t:SetTable}{owner:Array (Option Nat)}{h:Int}{j r k:Nat}(c:Me t owner h j):Me t (owner.setIfInBounds r (some k)) h j:=by
 obtain ⟨n,n1,n2⟩:=c;refine ⟨n,n1,fun x hx=>?_⟩;have:=n2 x hx;generalize (be t x (t.probeStart h)).j=y at *;simp only [zaN,zc9] at this ⊢
 by_cases e:r=y
 ·subst e
  split
  ·split <;> simp
  ·rename_i hne;exact absurd rfl hne
 ·rw [if_neg e];exact this
theorem oC {t:SetTable}:∀(hs:Th) (all:Th) (owner owner':Array (Option Nat)) (k k':Nat),owner.size=t.mask+1->all.drop k=hs->(∀j k',owner[j]?=some (some k')->k' < k/\∃h,all[k']?=some h/\Me t owner h j) ->
  (hs.foldl (init:=some (owner,k)) fun acc h=>do
   let (owner,k) ←acc
   let j ←SetTable.layClean.free t.mask owner (SetTable.turns t.mask) (SetTable.bits h % (t.mask+1)) (SetTable.bits h)
   pure (owner.setIfInBounds j (some k),k+1))=some (owner',k') ->
  ∀j k',owner'[j]?=some (some k')->∃h,all[k']?=some h/\Me t owner' h j
 |[],all,owner,owner',k,k',hz,hd,inv,e=>by
  cases e;exact fun j k' q=>(inv j k' q).2
 |h::hs,all,owner,owner',k,k',hz,hd,inv,e=>by
  rw [za0] at e
  have hk:all[k]?=some h:=by
   have:=congrArg (fun l=>l[0]?) hd;simpa using this
  cases ef:SetTable.layClean.free t.mask owner (SetTable.turns t.mask) (SetTable.bits h % (t.mask+1)) (SetTable.bits h) with
  |none =>
   exfalso
   have stuck:∀l:Th,(l.foldl (init:=(none:Option (Array (Option Nat)×Nat))) fun acc h=>do
    let (owner,k) ←acc
    let j ←SetTable.layClean.free t.mask owner (SetTable.turns t.mask) (SetTable.bits h % (t.mask+1)) (SetTable.bits h)
    pure (owner.setIfInBounds j (some k),k+1))=none:=by
    intro l
    induction l with
    |nil=>rfl
    |cons x l ih=>exact ih
   simp only [bind,Option.bind,ef] at e;have:=stuck hs
   simp only [bind,Option.bind] at this
   rw [this] at e;cases e
  |some r =>
   simp only [bind,Option.bind,ef,pure] at e;refine oC hs all (owner.setIfInBounds r (some k)) owner' (k+1) k' (by simpa using hz) ?_ ?_ (by simpa only [bind,Option.bind,pure] using e)
   ·rw [←List.drop_drop,hd];rfl
   ·intro j k'' q
    obtain ⟨n,n1,n2⟩:=oB t owner _ _ _ _ ef;rw [zc9] at q
    by_cases c:r=j
    ·subst c
     rw [if_pos rfl] at q;split at q
     ·cases q
      exact ⟨by omega,h,hk,xm ⟨n,by rw [k8];exact n1,fun x hx=>by rw [k8];exact n2 x hx⟩⟩
     ·cases q
    ·rw [if_neg c] at q
     obtain ⟨q1,h',q2,q3⟩:=inv j k'' q;exact ⟨by omega,h',q2,xm q3⟩
theorem lw {t:SetTable}(hd:t.dummies = #[])(hs:t.place.toList.Pairwise (· < ·))(j:Nat):t.slot j≠.empty ↔ j∈t.place.toList:=by
 obtain ⟨b1,b2,b3⟩:=lI j hs;constructor
 ·intro h
  rcases b9 t hd j with ⟨c,_⟩|⟨_,c⟩
  ·exact absurd c h
  ·exact zbA.mpr (zc0 c)
 ·intro h e
  rcases b9 t hd j with ⟨_,c⟩|⟨c,_⟩
  ·obtain ⟨i,hi,q⟩:=zcv.mp h
   rw [zaD] at hi;rw [zbq] at q
   have h1:¬ i < SetTable.below t.place j:=fun z=>by have:=b2 i hi z;omega
   by_cases h2:i=SetTable.below t.place j
   ·subst h2
    exact c (by rw [zao hi,q])
   ·have hb:SetTable.below t.place j < t.place.size:=by omega
    have h3:=b3 _ hb (zam _);have h4:=zbc.mp hs (SetTable.below t.place j) i (by rw [zaD];exact hb) (by rw [zaD];exact hi) (by omega);simp only [zbq] at h4;omega
  ·rw [c] at e;cases e
theorem vh {m finger moves:Nat}{led plain:Bool}{hs:Array Int}{t:SetTable}{o:Array Nat}(hm:m∈bW)(hl:hs.size<=m)(e:SetTable.laid m finger moves led plain hs=some (t,o))(i j k:Nat)(hj:t.place[i]?=some j)(hk:o[i]?=some k):∃h,hs[k]?=some h/\qh t h j:=by
 have hr:=(iu e).1;obtain ⟨owner,e1,e2,e3⟩:=ug hm hs (by omega)
 have hlaid:SetTable.laid m finger moves led plain hs=some (({mask:=m,place:=((cB (m+1) owner).map (·.1)).toArray,dummies:=#[],finger,led,moves,plain}:SetTable),((cB (m+1) owner).map (·.2)).toArray):=by
  unfold SetTable.laid;rw [e1];rfl
 rw [hlaid] at e;cases e
 have live:∀y z,(y,z)∈cB (m+1) owner ↔ owner[y]?=some (some z):=fun y z=>by
  unfold cB;rw [zdb];constructor
  ·rintro ⟨x,hx,q⟩
   obtain ⟨z',q1,q2⟩:=zaF.mp q;cases q2;rw [zaN] at q1
   cases q0:owner[y]? with
   |none=>rw [q0] at q1;cases q1
   |some u=>rw [q0] at q1;simp only [zbx] at q1;rw [q1]
  ·intro q
   have hy:y < owner.size:=(zba.mp q).1;exact ⟨y,by rw [zby];omega,by rw [zaN,q];rfl⟩
 have hjk:(j,k)∈cB (m+1) owner:=by
  simp only [List.getElem?_toArray,zaG] at hj hk;obtain ⟨p,p1,p2⟩:=zaF.mp hj;obtain ⟨q,q1,q2⟩:=zaF.mp hk;rw [p1] at q1;cases q1;cases p2;cases q2;exact zaZ p1
 have hown:=(live j k).mp hjk;generalize ht:(({mask:=m,place:=((cB (m+1) owner).map (·.1)).toArray,dummies:=#[],finger,led,moves,plain}:SetTable))=t at *
 have htm:t.mask=m:=by rw [←ht]
 have htd:t.dummies = #[]:=by rw [←ht]
 have htp:∀y,y∈t.place.toList ↔ ∃z,owner[y]?=some (some z):=fun y=>by
  rw [←ht];simp only [List.toList_toArray,zas];constructor
  ·rintro ⟨⟨y',z⟩,q1,q2⟩;cases q2;exact ⟨z,(live _ _).mp q1⟩
  ·rintro ⟨z,q⟩;exact ⟨(y,z),(live _ _).mpr q,rfl⟩
 obtain ⟨k',ef⟩:∃k',(hs.toList.foldl (init:=some (Array.replicate (t.mask+1) none,0)) fun acc h=>do
   let (owner,k) ←acc
   let j ←SetTable.layClean.free t.mask owner (SetTable.turns t.mask) (SetTable.bits h % (t.mask+1)) (SetTable.bits h)
   pure (owner.setIfInBounds j (some k),k+1))=some (owner,k'):=by
  rw [htm];unfold SetTable.layClean at e1;rw [←Array.foldl_toList] at e1;obtain ⟨p,p1,p2⟩:=zaF.mp e1;exact ⟨p.2,by rw [p1,←p2]⟩
 obtain ⟨h,h1,n,n1,n2⟩:=oC hs.toList hs.toList (Array.replicate (t.mask+1) none) owner 0 k' (by simp) rfl (fun j' k'' q=>by
  simp [Array.getElem?_replicate] at q) ef j k hown
 refine ⟨h,by simpa using h1,n,n1,fun x hx=>(lw htd hr _).mpr ((htp _).mpr ?_)⟩;have hb:=(sP x (xY t h)).j;have hq:=n2 x hx
 have hy:(be t x (t.probeStart h)).j < owner.size:=by omega
 rw [zaN,zao hy,zbx] at hq
 cases q:owner[(be t x (t.probeStart h)).j] with
 |none=>rw [q] at hq;cases hq
 |some z=>exact ⟨z,by rw [zao hy,q]⟩
def Ck (es:Array (Int×Value))(t:SetTable):Prop:=∀(i:Nat) (e:Int×Value) (j:Nat),es[i]?=some e->t.place[i]?=some j->qh t e.1 j
theorem vQ {t u:SetTable}(hm:t.mask=u.mask)(h:∀x,t.slot x≠.empty->u.slot x≠.empty){hv:Int}{j:Nat}(c:qh t hv j):qh u hv j:=by
 obtain ⟨n,n1,n2⟩:=c;refine ⟨n,by rw [←nK hm,←oZ hm];exact n1,fun k hk=>?_⟩;rw [←nK hm,←oZ hm];exact h _ (n2 k hk)
theorem Bk {α:Type}(xs:Array α)(p:Nat)(x:α)(hp:p<=xs.size)(i:Nat):(SetTable.insertAt xs p x)[i]?=if i < p then xs[i]? else if i=p then some x else xs[i - 1]?:=by
 rw [←zaS,SetTable.toList_insertAt]
 have hl:(xs.toList.take p).length=p:=by rw [zbv,zaD];omega
 by_cases h:i < p
 ·rw [if_pos h,zaq (by omega),List.getElem?_take,if_pos h,zaS]
 ·rw [if_neg h,zaT (by omega),hl]
  by_cases h2:i=p
  ·subst h2;simp
  ·rw [if_neg h2,List.getElem?_cons]
   rw [if_neg (by omega),List.getElem?_drop,zaS]
   congr 1;omega
theorem xT {es:Array (Int×Value)}{t:SetTable}{hv:Int}{v:Value}{j:Nat}(hd:t.dummies = #[])(hs:t.place.toList.Pairwise (· < ·))(hsz:t.place.size=es.size)(hfree:t.place[SetTable.below t.place j]?≠some j)(c:Ck es t)(hn:qh t hv j) :
  Ck (SetTable.insertAt es (SetTable.below t.place j) (hv,v)) {t with place:=SetTable.insertAt t.place (SetTable.below t.place j) j,plain:=true}:=by
 obtain ⟨b1,_,_⟩:=lI j hs
 have more:∀x,t.slot x≠.empty->({t with place:=SetTable.insertAt t.place (SetTable.below t.place j) j,plain:=true}:SetTable).slot x≠.empty:=fun x hx=>by
  refine (lw (t:={t with place:=SetTable.insertAt t.place (SetTable.below t.place j) j,plain:=true}) hd (iz hs hfree) x).mpr ?_;have:=(lw hd hs x).mp hx;refine (SetTable.insertAt_perm t.place (SetTable.below t.place j) j).mem_iff.mpr ?_;rw [zcM];exact zbo _ this
 intro i e j' h1 h2;rw [Bk _ _ _ (by omega)] at h1;have h2:(SetTable.insertAt t.place (SetTable.below t.place j) j)[i]?=some j':=h2;rw [Bk _ _ _ b1] at h2;refine vQ (t:=t) (u:={t with place:=SetTable.insertAt t.place (SetTable.below t.place j) j,plain:=true}) rfl more ?_
 by_cases q:i < SetTable.below t.place j
 ·rw [if_pos q] at h1 h2;exact c i e j' h1 h2
 ·rw [if_neg q] at h1 h2
  by_cases q2:i=SetTable.below t.place j
  ·rw [if_pos q2] at h1 h2
   cases h1;cases h2;exact hn
  ·rw [if_neg q2] at h1 h2;exact c _ e j' h1 h2
theorem vD {t:SetTable}(HA:Nat->Int)(h:Int)(hd:t.dummies = #[]){p:SetTable.Probe}(hp:p.dummy=none):∀(f m:Nat) {met:SetTable.Met},SetTable.probe.go t HA h f (be t m p)=some met ->
  ∃n,m<=n/\(∀k,m<=k->k < n->∃i,t.slot (be t k p).j=.live i/\HA i≠h) /\
   ((met=.empty (be t n p).j none/\t.slot (be t n p).j=.empty)\/∃i,met=.candidate (be t n p).j i (be t (n+1) p)/\t.slot (be t n p).j=.live i/\HA i=h)
 |0,m,met,e=>by simp [SetTable.probe.go] at e
 |f+1,m,met,e=>by
  unfold SetTable.probe.go at e;rcases b9 t hd (be t m p).j with ⟨c,_⟩|⟨c,c'⟩
  ·rw [c] at e
   cases e;exact ⟨m,zam _,fun k h1 h2=>by omega,.inl ⟨by rw [kP,hp],c⟩⟩
  ·rw [c] at e
   dsimp only at e;split at e
   ·rename_i q
    cases e;exact ⟨m,zam _,fun k h1 h2=>by omega,.inr ⟨_,by rw [jR],c,by simpa using q⟩⟩
   ·rename_i q
    rw [←jR] at e;obtain ⟨n,n1,n2,n3⟩:=vD HA h hd hp f (m+1) e;refine ⟨n,by omega,fun k h1 h2=>?_,n3⟩
    by_cases z:k=m
    ·subst z;exact ⟨_,c,by simpa using q⟩
    ·exact n2 k (by omega) h2
section
variable  {prog:Program}{w:World}{A:Around}{E:Tb}{s:Shared}
theorem wM {t:SetTable}(hd:t.dummies = #[])(hs:t.place.toList.Pairwise (· < ·)){i j:Nat}(h:t.place[i]?=some j):t.slot j=.live i:=by
 have hm:j∈t.place.toList:=zbA.mpr (zc0 h);rcases b9 t hd j with ⟨c,_⟩|⟨c,c'⟩
 ·exact absurd c ((lw hd hs j).mpr hm)
 ·rw [c]
  congr 1
  obtain ⟨a1,a2⟩:=zba.mp h;obtain ⟨b1,b2⟩:=zba.mp c';rcases zcN (SetTable.below t.place j) i with z|z|z
  ·have:=zbc.mp hs _ _ (by rw [zaD];exact b1) (by rw [zaD];exact a1) z
   simp only [zbq] at this;omega
  ·exact z
  ·have:=zbc.mp hs _ _ (by rw [zaD];exact a1) (by rw [zaD];exact b1) z
   simp only [zbq] at this;omega
theorem sk {S a b0:Addr}{led:Bool}{o:Obj}{es:Array (Int×Value)}{ep:Nat}{t:SetTable}{vs:Te}{ks:Th}{hv:Int}{i0 j0 n0:Nat}{Q:SetFound->Shared->Prop}(hu:A.units < cLine)(ho:s.heap.get? S=some o)(hd:o.data=.set es ep t)(T:uz prog w led s.heap es t vs)(ha:j6 prog w s.heap ks a)
  (he0:es[i0]?=some (hv,.ref b0)) (hb0:j6 prog w s.heap ks b0) (hj0:t.place[i0]?=some j0) (c1:(be t n0 (t.probeStart hv)).j=j0) (c2:∀k < n0,t.slot (be t k (t.probeStart hv)).j≠.empty) (hN:n0 < 10 * SetTable.turns t.mask) (h:Q (.there none) s) :
  ∀(fuel m:Nat) (stand:Option SetTable.Probe),m<=n0->n0 - m < fuel->stand.getD (t.probeStart hv)=be t m (t.probeStart hv)->wpAny (model prog w) A (setSearchFrom S (.ref a) hv true fuel stand) Q E s
 |0,m,_,_,h2,_=>by omega
 |fuel+1,m,stand,h1,h2,h3=>by
  have hsz:t.place.size=es.size:=by have:=T.W.ft;simp [SetTable.fits] at this;exact this.1
  have hrs:=T.W.rs T.pl
  have hl0:t.slot (be t n0 (t.probeStart hv)).j=.live i0:=by rw [c1];exact wM T.dm hrs hj0
  have hh0:(es[i0]?.map (·.1)).getD 0=hv:=by rw [he0];rfl
  unfold setSearchFrom;refine zaa (zau ho hd T.W.ft ?_);dsimp only;rw [if_neg (by unfold SetTable.gaveWay;rw [sW _ T.ms];exact za1),h3];split
  ·rename_i met hm
   unfold SetTable.probe at hm;obtain ⟨n,n1,n2,n3⟩:=vD _ hv T.dm (p:=t.probeStart hv) rfl _ m hm
   have hn:n<=n0:=by
    rcases zb8 n0 n with z|z
    ·obtain ⟨i,q1,q2⟩:=n2 n0 h1 z
     rw [hl0] at q1;cases q1;exact absurd hh0 q2
    ·exact z
   rcases n3 with ⟨rfl,hj⟩|⟨i,rfl,hl,hq⟩
   ·exfalso
    rcases zcF hn with z|z
    ·exact c2 n z hj
    ·rw [z,hl0] at hj;cases hj
   ·dsimp only
    have hi:i < es.size:=by
     rcases b9 t T.dm (be t n (t.probeStart hv)).j with ⟨c,_⟩|⟨c,c'⟩
     ·rw [c] at hl;cases hl
     ·rw [c] at hl
      cases hl;rw [←hsz];exact (zba.mp c').1
    have hel:=T.el es[i] (by simp);obtain ⟨b,ls,hb,hB⟩:=hel
    have hes:es[i]?=some (es[i].1,.ref b):=by rw [zao hi,←hb]
    have rest:wpAny (model prog w) A (match es[i]? with
     |some (fst,y)=>do
      let equal ←holding [y] (eqBool y (Value.ref a))
      let __x ←setState S
      match __x with
       |(es',fst,t') =>
        if (true && equal)=true then pure (SetFound.there none)
        else match t'.sameMemory t.moves t.mask with
         |some same=>do
          let still ←match if same=true then t'.slot (be t n (t.probeStart hv)).j else SetTable.Slot.empty with
           |SetTable.Slot.live i'=>match es'[i']? with
            |some (fst,y')=>do
             let __do_lift ←isSame y' y
             pure (if __do_lift=true then some i' else none)
            |none=>pure none
           |_=>pure none
          match still with
           |none=>do
            rule "set.search.anew"
            setSearchFrom S (Value.ref a) hv true fuel none
           |some i'=>if equal=true then pure (SetFound.there (some i')) else setSearchFrom S (Value.ref a) hv true fuel (some (be t (n+1) (t.probeStart hv)))
         |_=>unsupported "set.changed-during-lookup:is-the-new-block-at-the-old-address"
     |_=>unsupported "internal:set-entry") Q E s:=by
     rw [hes];dsimp only;refine zaa (zaE (wpAny_eqBool_tuple hu hB ha ?_))
     by_cases hk:ls=ks
     ·rw [zaA hk]
      refine zaa (zau ho hd T.W.ft ?_);dsimp only;rw [if_pos (by decide)];exact zad h
     rw [zav hk]
     have hnn:n < n0:=by
      rcases zcF hn with z|z
      ·exact z
      ·exfalso
       rw [z,hl0] at hl;cases hl;rw [hes] at he0;cases he0;exact hk (IsTupleKey.inj hB hb0)
     refine zaa (zau ho hd T.W.ft ?_);dsimp only;rw [if_neg (by decide)]
     have hsm:t.sameMemory t.moves t.mask=some true:=by unfold SetTable.sameMemory;rw [if_pos (by simp)]
     rw [hsm];dsimp only;rw [if_pos rfl,hl];dsimp only;rw [hes];dsimp only;refine zaa (wpAny_isSame_ref_self (zaa (zad ?_)));rw [if_pos (by simp)];dsimp only;rw [if_neg (by decide)];exact sk hu ho hd T ha he0 hb0 hj0 c1 c2 hN h fuel (n+1) _ hnn (by omega) rfl
    split
    ·refine zaa (rQ ha (fun y hy=>?_) ?_)
     ·obtain ⟨e,he,rfl⟩:=zas.mp hy
      have:e∈es.toList:=by have:=zbA.mp he;rw [Array.mem_filter] at this;exact zbA.mpr this.1
      obtain ⟨b',ls',e1,e2⟩:=T.el e this;exact ⟨b',ls',e1,e2⟩
     ·simp only [zap,if_false]
      exact rest
    ·exact rest
  ·rename_i hm
   exfalso
   unfold SetTable.probe at hm;obtain ⟨N,hN',hE⟩:=vN T.ms T.dm (by have:=T.lo;omega) hv
   have hmN:m<=N:=by
    rcases zb8 N n0 with z|z
    ·exact absurd hE (c2 N z)
    ·omega
   exact (wU (f:=10 * SetTable.turns t.mask) T.dm (p:=t.probeStart hv) rfl hE hmN (by omega)).elim fun met e=>hm met e
theorem sm {S a:Addr}{led:Bool}{o:Obj}{es:Array (Int×Value)}{ep:Nat}{t:SetTable}{vs:Te}{ks:Th}{hv:Int}{Q:SetFound->Shared->Prop}(hu:A.units < cLine)(ho:s.heap.get? S=some o)(hd:o.data=.set es ep t)(T:uz prog w led s.heap es t vs)(ha:j6 prog w s.heap ks a)
  (hne:∀b ls,Value.ref b∈vs->j6 prog w s.heap ls b->ls≠ks) {N:Nat} (hE:t.slot (be t N (t.probeStart hv)).j=.empty) (hN:N < 10 * SetTable.turns t.mask) (h:∀j,t.slot j=.empty->qh t hv j->Q (.free j false) s) :
  ∀(fuel m:Nat) (stand:Option SetTable.Probe),m<=N->(∀k < m,t.slot (be t k (t.probeStart hv)).j≠.empty)->N - m < fuel->stand.getD (t.probeStart hv)=be t m (t.probeStart hv)->wpAny (model prog w) A (setSearchFrom S (.ref a) hv true fuel stand) Q E s
 |0,m,_,_,_,h2,_=>by omega
 |fuel+1,m,stand,h1,hac,h2,h3=>by
  have hsz:t.place.size=es.size:=by have:=T.W.ft;simp [SetTable.fits] at this;exact this.1
  unfold setSearchFrom;refine zaa (zau ho hd T.W.ft ?_);dsimp only;rw [if_neg (by unfold SetTable.gaveWay;rw [sW _ T.ms];exact za1),h3];split
  ·rename_i met hm
   unfold SetTable.probe at hm;obtain ⟨n,n1,n2,n3⟩:=vD _ hv T.dm (p:=t.probeStart hv) rfl _ m hm
   have hacc:∀k < n,t.slot (be t k (t.probeStart hv)).j≠.empty:=fun k hk=>by
    rcases zb8 k m with z|z
    ·exact hac k z
    ·obtain ⟨i,q1,_⟩:=n2 k z hk
     rw [q1];exact fun z=>by cases z
   rcases n3 with ⟨rfl,hj⟩|⟨i,rfl,hl,hq⟩
   ·exact zad (h _ hj ⟨n,rfl,hacc⟩)
   ·dsimp only
    have hi:i < es.size:=by
     rcases b9 t T.dm (be t n (t.probeStart hv)).j with ⟨c,_⟩|⟨c,c'⟩
     ·rw [c] at hl;cases hl
     ·rw [c] at hl
      cases hl;rw [←hsz];exact (zba.mp c').1
    have hel:=T.el es[i] (by simp);obtain ⟨b,ls,hb,hB⟩:=hel
    have hes:es[i]?=some (es[i].1,.ref b):=by rw [zao hi,←hb]
    have hvs:Value.ref b∈vs:=T.pm.mem_iff.mp (zas.mpr ⟨es[i],by simp,hb⟩)
    have rest:wpAny (model prog w) A (match es[i]? with
     |some (fst,y)=>do
      let equal ←holding [y] (eqBool y (Value.ref a))
      let __x ←setState S
      match __x with
       |(es',fst,t') =>
        if (true && equal)=true then pure (SetFound.there none)
        else match t'.sameMemory t.moves t.mask with
         |some same=>do
          let still ←match if same=true then t'.slot (be t n (t.probeStart hv)).j else SetTable.Slot.empty with
           |SetTable.Slot.live i'=>match es'[i']? with
            |some (fst,y')=>do
             let __do_lift ←isSame y' y
             pure (if __do_lift=true then some i' else none)
            |none=>pure none
           |_=>pure none
          match still with
           |none=>do
            rule "set.search.anew"
            setSearchFrom S (Value.ref a) hv true fuel none
           |some i'=>if equal=true then pure (SetFound.there (some i')) else setSearchFrom S (Value.ref a) hv true fuel (some (be t (n+1) (t.probeStart hv)))
         |_=>unsupported "set.changed-during-lookup:is-the-new-block-at-the-old-address"
     |_=>unsupported "internal:set-entry") Q E s:=by
     rw [hes];dsimp only;refine zaa (zaE (wpAny_eqBool_tuple hu hB ha ?_));rw [zav (hne b ls hvs hB)];refine zaa (zau ho hd T.W.ft ?_);dsimp only;rw [if_neg (by decide)]
     have hsm:t.sameMemory t.moves t.mask=some true:=by unfold SetTable.sameMemory;rw [if_pos (by simp)]
     rw [hsm];dsimp only;rw [if_pos rfl,hl];dsimp only;rw [hes];dsimp only;refine zaa (wpAny_isSame_ref_self (zaa (zad ?_)));rw [if_pos (by simp)];dsimp only;rw [if_neg (by decide)]
     have hnN:n < N:=by
      rcases zcN n N with z|z|z
      ·exact z
      ·rw [z,hE] at hl;cases hl
      ·exact absurd hE (hacc N z)
     exact sm hu ho hd T ha hne hE hN h fuel (n+1) _ hnN (fun k hk=>by
      rcases zcF (Nat.le_of_lt_succ hk) with z|z
      ·exact hacc k z
      ·rw [z,hl];exact fun z=>by cases z) (by omega) rfl
    split
    ·refine zaa (rQ ha (fun y hy=>?_) ?_)
     ·obtain ⟨e,he,rfl⟩:=zas.mp hy
      have:e∈es.toList:=by have:=zbA.mp he;rw [Array.mem_filter] at this;exact zbA.mpr this.1
      obtain ⟨b',ls',e1,e2⟩:=T.el e this;exact ⟨b',ls',e1,e2⟩
     ·simp only [zap,if_false]
      exact rest
    ·exact rest
  ·rename_i hm
   exfalso
   unfold SetTable.probe at hm;exact (wU (f:=10 * SetTable.turns t.mask) T.dm (p:=t.probeStart hv) rfl hE h1 (by omega)).elim fun met e=>hm met e
theorem CQ {led:Bool}{S:Addr}{o:Obj}{es:Array (Int×Value)}{ep:Nat}{t:SetTable}{vs:Te}{wanted:Nat}{Q:Unit->Shared->Prop}(ho:s.heap.get? S=some o)(hx:o.ExactSet)(hd:o.data=.set es ep t)(G:kQ led es t)(hpl:t.plain=true)(hpm:(es.toList.map (·.2)).Perm vs)(hel:∀e∈es.toList,∃b ls,e.2=.ref b/\j6 prog w s.heap ls b)(hw:wanted < 256)(hl:vs.length * 4<=wanted)
  (h:∀h' es' t',Heap.SameBut S s.heap h'->h'.get? S=some {o with data:=.set es' (ep+1) t'}->uz prog w led h' es' t' vs->Ck es' t'->es'.toList.Perm es.toList->Q () {s with heap:=h'}) :
  wpAny (model prog w) A (setRelay S wanted) Q E s:=by
 obtain ⟨m1,m2,m3⟩:=uy wanted hw;have m7:7<=SetTable.sizeAbove wanted - 1:=(by decide:∀m∈bW,7<=m) _ m1
 have hlen:es.size=vs.length:=by have:=hpm.length_eq;simpa using this
 unfold setRelay;refine zaa (zau ho hd G.ft ?_);dsimp only;rw [if_neg (by rw [za3];omega)];obtain ⟨t',ord,e,q1,q2,q3,q4,q5,q6,q7,q8⟩:=wQ (finger:=t.finger) (moves:=t.movedTo (SetTable.sizeAbove wanted - 1)) (led:=t.led) (plain:=t.plain) m1 (es.map (·.1)) (by rw [zcJ];omega);rw [zcJ] at q1 q2 q8
 have hp:(ord.filterMap (es[·]?)).toList.Perm es.toList:=by rw [zcP];exact gw q1
 have hall:∀k∈ord.toList,k < es.size:=fun k hk=>by simpa using q1.mem_iff.mp hk
 have hfm:∀(l:List Nat),(∀k∈l,k < es.size)->∀(i:Nat) (e:Int×Value),(l.filterMap (es[·]?))[i]?=some e->∃k:Nat,l[i]?=some k/\es[k]?=some e:=by
  intro l
  induction l with
  |nil=>intro _ i e q;simp at q
  |cons x l ih =>
   intro hl i e q;obtain ⟨ex,hx⟩:∃ex,es[x]?=some ex:=⟨_,zao (hl x zai)⟩;rw [zcc,hx] at q
   cases i with
   |zero=>simp only [zcL,Option.some.injEq] at q;subst q;exact ⟨x,rfl,hx⟩
   |succ i=>simp only [List.getElem?_cons_succ] at q ⊢;exact ih (fun k hk=>hl k (zaj _ hk)) i e q
 have hch:Ck (ord.filterMap (es[·]?)) t':=fun i x j h1 h2=>by
  rw [←zaS,zcP] at h1;obtain ⟨k,k1,k2⟩:=hfm ord.toList hall i x h1;obtain ⟨hx',z1,z2⟩:=vh m1 (by rw [zcJ];omega) e i j k h2 (by rw [←zaS];exact k1);rw [Array.getElem?_map,k2] at z1;cases z1;exact z2
 have hsz:(ord.filterMap (es[·]?)).size=es.size:=by have:=hp.length_eq;rwa [zaD,zaD] at this
 have e':t.relaid (es.map (·.1)) wanted=some (t',ord):=e;rw [e'];refine zaa (show wpAny _ _ (if ((ord.filterMap (es[·]?)).size != es.size)=true then (do unsupported "internal:set-table-lost-an-element";pure (ord.filterMap (es[·]?),t')) else pure (ord.filterMap (es[·]?),t')) _ _ _ from ?_);rw [if_neg (by simp [hsz])];refine zad (cD ho hx hd (by rw [hsz];exact G.bd) fun h' b1 g1=>?_);refine h h' _ t' b1 g1 ⟨⟨by rw [hsz];exact G.bd,by rw [hsz];exact q2,fun _=>q3,q4.trans G.ld⟩,by rw [q6];exact m1,q7,q5.trans hpl,by rw [q8,q6];omega,(hp.map _).trans hpm,fun x hx'=>?_⟩ hch hp;obtain ⟨b,ls,e1,e2⟩:=hel x (hp.mem_iff.mp hx');exact ⟨b,ls,e1,e2.same ho hd b1⟩
structure uA (prog:Program)(w:World)(TH:List Int->Int)(led:Bool)(h:Heap)(es:Array (Int×Value))(t:SetTable)(vs:Te):Prop where
 T:uz prog w led h es t vs
 ch:Ck es t
 hh:∀e∈es.toList,∃b ls,e.2=.ref b/\j6 prog w h ls b/\e.1=TH ls
theorem Lg {S a:Addr}{led:Bool}{o:Obj}{es:Array (Int×Value)}{ep:Nat}{t:SetTable}{vs:Te}{ks:Th}{TH:List Int->Int}{Q:Bool->Shared->Prop}(hu:A.units < cLine)(ho:s.heap.get? S=some o)(hx:o.ExactSet)(hd:o.data=.set es ep t)(TC:uA prog w TH led s.heap es t vs)(ha:j6 prog w s.heap ks a)
  (hne:∀b ls,Value.ref b∈vs->j6 prog w s.heap ls b->ls≠ks) (hl:vs.length < 63)
  (h:∀h' es' ep' t',Heap.SameBut S s.heap h'->h'.get? S=some {o with data:=.set es' ep' t'}->uA prog w TH led h' es' t' (vs++[.ref a])->Q true {s with heap:=h'}) :
  wpAny (model prog w) A (setAddHashed S (.ref a) (TH ks)) Q E s:=by
 obtain ⟨T,Tch,Thh⟩:=TC;generalize hhv:TH ks=hv
 have hlen:es.size=vs.length:=by have:=T.pm.length_eq;simpa using this
 have hsz:t.place.size=es.size:=by have:=T.W.ft;simp [SetTable.fits] at this;exact this.1
 have hlo:=T.lo;obtain ⟨N,hN,hE⟩:=vN T.ms T.dm (by omega) hv
 have hsb:10 * SetTable.turns t.mask<=2700:=by
  have:∀m∈bW,10 * SetTable.turns m<=2700:=by decide
  exact this _ T.ms
 unfold setAddHashed setAddHashedIn;refine zaE (zaa (zau ho hd T.W.ft ?_));dsimp only;rw [if_neg (by unfold byScan Value.scannable;simp)];unfold setSearch;refine zaa (sm hu ho hd T ha hne hE hN (fun j hj hc=>?_) 100000 0 none (za9 _) (fun k hk=>by omega) (by omega) rfl);dsimp only;refine zaa (zau ho hd T.W.ft ?_)
 have hfree:t.place[SetTable.below t.place j]?≠some j:=by
  rcases b9 t T.dm j with ⟨_,c⟩|⟨c,_⟩
  ·exact c
  ·rw [c] at hj;cases hj
 have hput:t.put j=({t with place:=SetTable.insertAt t.place (SetTable.below t.place j) j},SetTable.below t.place j):=by
  unfold SetTable.put;rw [T.dm,wT];simp only [zap,if_false]
 dsimp only;rw [hput];dsimp only;rw [T.pl,if_pos rfl];refine zaa (xw ha ?_);rw [if_pos rfl];have pe:=SetTable.insertAt_perm es (SetTable.below t.place j) (hv,Value.ref a);rw [zcM] at pe;have pp:=SetTable.insertAt_perm t.place (SetTable.below t.place j) j
 have s1:(SetTable.insertAt es (SetTable.below t.place j) (hv,Value.ref a)).size=es.size+1:=by have:=pe.length_eq;simpa using this
 have s2:(SetTable.insertAt t.place (SetTable.below t.place j) j).size=t.place.size+1:=by have:=pp.length_eq;simpa using this
 have ch1:=xT (v:=.ref a) T.dm (T.W.rs T.pl) hsz hfree Tch hc;generalize hes1:SetTable.insertAt es (SetTable.below t.place j) (hv,Value.ref a)=es1 at *
 have G1:kQ led es1 {t with place:=SetTable.insertAt t.place (SetTable.below t.place j) j,plain:=true}:=by
  refine ⟨by rw [s1];unfold scanBound;omega,?_,fun _=>iz (T.W.rs T.pl) hfree,T.W.ld⟩;simp only [SetTable.fits,SetTable.fill,s1,s2,T.dm];simp;omega
 have pm1:(es1.toList.map (·.2)).Perm (vs++[.ref a]):=by
  refine (pe.map (·.2)).trans ?_;rw [zaQ];exact T.pm.append (List.Perm.refl _)
 have el1:∀e∈es1.toList,∃b ls,e.2=.ref b/\j6 prog w s.heap ls b:=fun e he=>by
  rcases zaL.mp (pe.mem_iff.mp he) with he|he
  ·exact T.el e he
  ·rw [zat] at he;subst he;exact ⟨a,ks,rfl,ha⟩
 refine zaa (cD ho hx hd G1.bd fun h1 b1 g1=>?_)
 have el2:∀e∈es1.toList,∃b ls,e.2=.ref b/\j6 prog w h1 ls b:=fun e he=>by
  obtain ⟨b,ls,e1,e2⟩:=el1 e he;exact ⟨b,ls,e1,e2.same ho hd b1⟩
 have hh1:∀e∈es1.toList,∃b ls,e.2=.ref b/\j6 prog w h1 ls b/\e.1=TH ls:=fun e he=>by
  rcases zaL.mp (pe.mem_iff.mp he) with he|he
  ·obtain ⟨b,ls,e1,e2,e3⟩:=Thh e he
   exact ⟨b,ls,e1,e2.same ho hd b1,e3⟩
  ·rw [zat] at he;subst he;exact ⟨a,ks,rfl,ha.same ho hd b1,hhv.symm⟩
 split
 ·have hgr:SetTable.grown (es.size+1)=(es.size+1) * 4:=by unfold SetTable.grown;rw [if_neg (by omega)]
  rw [hgr];refine zaa (CQ (s:={s with heap:=h1}) g1 hx rfl G1 rfl pm1 el2 (by omega) (by simp;omega) fun h2 es2 t2 b2 g2 T2 C2 P2=>zad ?_)
  exact h h2 es2 _ t2 (b1.trans b2) g2 ⟨T2,C2,fun e he=>by
   obtain ⟨b,ls,e1,e2,e3⟩:=hh1 e (P2.mem_iff.mp he)
   exact ⟨b,ls,e1,e2.same g1 rfl b2,e3⟩⟩
 ·rename_i hfull
  refine zad (h h1 es1 _ _ b1 g1 ⟨⟨G1,T.ms,T.dm,rfl,?_,pm1,el2⟩,ch1,hh1⟩);simp only [zbJ,Bool.true_and,SetTable.tooFull,SetTable.fill,T.dm,decide_eq_true_eq] at hfull;simp only [Array.size_empty,Nat.add_zero] at hfull
  show (SetTable.insertAt t.place (SetTable.below t.place j) j).size * 5 < t.mask * 3
  omega
theorem Lf {S a b0:Addr}{led:Bool}{o:Obj}{es:Array (Int×Value)}{ep:Nat}{t:SetTable}{vs:Te}{ks:Th}{TH:List Int->Int}{Q:Bool->Shared->Prop}(hu:A.units < cLine)(ho:s.heap.get? S=some o)(hx:o.ExactSet)(hd:o.data=.set es ep t)(TC:uA prog w TH led s.heap es t vs)(ha:j6 prog w s.heap ks a)
  (hb:Value.ref b0∈vs) (hB:j6 prog w s.heap ks b0) (h:Q false s):wpAny (model prog w) A (setAddHashed S (.ref a) (TH ks)) Q E s:=by
 obtain ⟨T,Tch,Thh⟩:=TC
 have hsz:t.place.size=es.size:=by have:=T.W.ft;simp [SetTable.fits] at this;exact this.1
 have hlo:=T.lo;obtain ⟨e,he,hb'⟩:=zas.mp (T.pm.mem_iff.mpr hb);obtain ⟨b1,ls,e1,e2,e3⟩:=Thh e he;rw [hb'] at e1;cases e1;have hls:ls=ks:=IsTupleKey.inj e2 hB;subst hls;obtain ⟨i0,hi0⟩:=List.getElem?_of_mem he;rw [zaS] at hi0;have hee:e=(TH ls,.ref b0):=Prod.ext e3 hb';subst hee
 have hip:i0 < t.place.size:=by rw [hsz];exact (zba.mp hi0).1
 obtain ⟨n0,c1,c2⟩:=Tch i0 _ _ hi0 (zao hip);obtain ⟨N,hN,hE⟩:=vN T.ms T.dm (by omega) (TH ls)
 have hnN:n0 < N:=by
  rcases zcN n0 N with z|z|z
  ·exact z
  ·have:=wM T.dm (T.W.rs T.pl) (zao hip)
   rw [←c1,z] at this
   rw [hE] at this;cases this
  ·exact absurd hE (c2 N z)
 have hsb:10 * SetTable.turns t.mask<=2700:=by
  have:∀m∈bW,10 * SetTable.turns m<=2700:=by decide
  exact this _ T.ms
 unfold setAddHashed setAddHashedIn;refine zaE (zaa (zau ho hd T.W.ft ?_));dsimp only;rw [if_neg (by unfold byScan Value.scannable;simp)];unfold setSearch;refine zaa (sk hu ho hd T ha hi0 hB (zao hip) c1 c2 (by omega) ?_ 100000 0 none (za9 _) (by omega) rfl);exact zad h
end
def mO (acc:List (Addr×Th))(p:Addr×Th):List (Addr×Th):=if p.2∈acc.map (·.2) then acc else acc++[p]
def oz (ps:List (Addr×Th)):List (Addr×Th):=ps.foldl mO []
theorem lB:∀(ps acc:List (Addr×Th)),(∀p∈ps.foldl mO acc,p∈acc\/p∈ps)/\(ps.foldl mO acc).length<=acc.length+ps.length/\((acc.map (·.2)).Nodup->((ps.foldl mO acc).map (·.2)).Nodup)/\(∀k,k∈(ps.foldl mO acc).map (·.2) ↔ k∈acc.map (·.2)\/k∈ps.map (·.2))
 |[],acc=>⟨fun p h=>.inl h,by simp,fun h=>h,fun k=>by simp⟩
 |q::ps,acc=>by
  obtain ⟨h1,h2,h3,h4⟩:=lB ps (mO acc q);rw [za0];unfold mO at h1 h2 h3 h4 ⊢
  by_cases c:q.2∈acc.map (·.2)
  ·rw [if_pos c] at h1 h2 h3 h4 ⊢
   refine ⟨fun p hp=>(h1 p hp).imp id (zaj _),by simp only [zaK];omega,h3,fun k=>?_⟩;rw [h4,zag,zak];constructor
   ·rintro (z|z)
    ·exact .inl z
    ·exact .inr (.inr z)
   ·rintro (z|z|z)
    ·exact .inl z
    ·exact .inl (z ▸ c)
    ·exact .inr z
  ·rw [if_neg c] at h1 h2 h3 h4 ⊢
   refine ⟨fun p hp=>?_,by simp only [zaW,zaK,zbL] at h2 ⊢;omega,fun nd=>h3 ?_,fun k=>?_⟩
   ·rcases h1 p hp with z|z
    ·rcases zaL.mp z with z|z
     ·exact .inl z
     ·rw [zat] at z;subst z;exact .inr zai
    ·exact .inr (zaj _ z)
   ·rw [zaQ,zbb]
    refine ⟨nd,by simp,fun x hx y hy e=>?_⟩;simp only [zag,za6,zat] at hy;subst hy;subst e;exact c hx
   ·rw [h4]
    simp only [zaQ,zaL,zag,zak,za6,zaI,or_false,or_assoc]
theorem jN (ps:List (Addr×Th)):∀p∈oz ps,p∈ps:=fun p h=>by
 rcases (lB ps []).1 p h with z|z
 ·simp at z
 ·exact z
theorem wW (ps:List (Addr×Th)):(oz ps).length<=ps.length:=by have:=(lB ps []).2.1;simpa [oz] using this
theorem yz (ps:List (Addr×Th)):((oz ps).map (·.2)).Nodup:=(lB ps []).2.2.1 (by simp)
def vY (prog:Program)(w:World)(led:Bool)(h:Heap)(o:Obj)(vs:Te):Prop:=∃es ep t,o.ExactSet/\o.data=.set es ep t/\uA prog w (tupleKeyHash (intKind prog w)) led h es t vs
theorem tS {prog:Program}{w:World}(led:Bool)(h:Heap):vY prog w led h (ax led) []:=by
 obtain ⟨es,ep,t,x1,x2,T⟩:=tR (prog:=prog) (w:=w) led h
 have he:es = #[]:=by
  have:=T.pm.length_eq
  simp at this
  exact this
 exact ⟨es,ep,t,x1,x2,T,fun i e j h1 h2=>by subst he;simp at h1,fun e he'=>by subst he;simp at he'⟩
section
variable  {prog:Program}{w:World}{A:Around}{R:Result->Shared->Prop}{I:Addr}{fp wr:Tf}{G:Array GenState->Array GenState->Prop}{n:Nat}{P:Nat->Value->Prop}{St:Nat->Shared->Prop}
theorem uA.keep {TH:List Int->Int}{led:Bool}{h h':Heap}{es:Array (Int×Value)}{t:SetTable}{vs:Te}(T:uA prog w TH led h es t vs)(k:∀b,Value.ref b∈vs->∀o,h.get? b=some o->h'.get? b=some o):uA prog w TH led h' es t vs :=
 ⟨T.T.keep k,T.ch,fun e he=>by
  obtain ⟨b,ls,e1,e2,e3⟩:=T.hh e he
  exact ⟨b,ls,e1,e2.keep (k b (T.T.pm.mem_iff.mp (zas.mpr ⟨e,he,e1⟩))),e3⟩⟩
theorem ql (W:WalksS prog w A.in1 I fp wr G n P St)(hu:A.in1.units < cLine)(S:Addr)(hSf:S∉fp){led:Bool}(ps:List (Addr×Th))(hms:ps.length=n)(hval:∀i v,P i v->∃p,ps[i]?=some p/\v=.ref p.1)(hb:ps.length < 64) :
  ∀(k i:Nat) (s:Shared) (o:Obj),n - i=k->i<=n->St i s->s.heap.get? S=some o->vY prog w led s.heap o ((oz (ps.take i)).map fun p=>Value.ref p.1)->(∀p∈ps,j6 prog w s.heap p.2 p.1/\p.1∉S::wr) ->
   (∀s' o',Moved (S::wr) G s s'->s'.heap.get? S=some o'->vY prog w led s'.heap o' ((oz ps).map fun p=>Value.ref p.1)->R (.ok (.ret .none)) s') ->
   codeAny (model prog w) A (.builtin "set.update.loop" ⟨[.ref S,.ref I],[]⟩) R s:=by
 have nw:S∉wr:=fun h=>hSf (W.sub _ h);have up:∀b∈wr,b∈S::wr:=fun b hb=>zaj _ hb
 have av:∀{i:Nat} {b:Addr},Value.ref b∈(oz (ps.take i)).map (fun p=>Value.ref p.1)->∃p∈ps,p.1=b:=fun h=>by
  obtain ⟨p,hp,e⟩:=zas.mp h;exact ⟨p,zc5 (jN _ p hp),by cases e;rfl⟩
 intro k
 induction k with
 |zero =>
  intro i s o hk hi hst ho hS hps hR
  have hin:i=n:=by omega
  subst hin;refine zaU F.entry_set_update_loop ?_;rw [zaV F.plain_set_update_loop _];refine (show wpAny _ A.in1 (pyNext (.ref I) >>= _) _ _ s from zaa (W.done s _ _ hst fun s' hm=>?_));refine (show wpAny _ A.in1 (ret Value.none) _ _ s' from zad (hR s' o (hm.mono up) (hm.heap S _ nw ho) ?_));rw [List.take_of_length_le (by omega)] at hS;obtain ⟨es,ep,t,x1,x2,T⟩:=hS;refine ⟨es,ep,t,x1,x2,T.keep fun b hb o e=>hm.heap b o (fun z=>?_) e⟩;obtain ⟨p,hp,e'⟩:=zas.mp hb;cases e';exact (hps p (jN _ p hp)).2 (up _ z)
 |succ k ih =>
  intro i s o hk hi hst ho hS hps hR
  have hlt:i < n:=by omega
  refine zaU F.entry_set_update_loop ?_;rw [zaV F.plain_set_update_loop _];refine (show wpAny _ A.in1 (pyNext (.ref I) >>= _) _ _ s from zaa (W.item i s _ _ hlt hst fun v s' hP hst' hm=>?_));obtain ⟨p,hpi,rfl⟩:=hval i v hP;have hpm:p∈ps:=zaZ hpi;have ho':=hm.heap S _ nw ho;have hps':∀p∈ps,j6 prog w s'.heap p.2 p.1/\p.1∉S::wr:=fun p hp=>⟨(hps p hp).1.keep fun o e=>hm.heap _ _ (fun z=>(hps p hp).2 (up _ z)) e,(hps p hp).2⟩;obtain ⟨es,ep,t,x1,x2,T0⟩:=hS
  have T:uA prog w (tupleKeyHash (intKind prog w)) led s'.heap es t ((oz (ps.take i)).map fun p=>Value.ref p.1):=T0.keep fun b hb o e=>by
   obtain ⟨q,hq,rfl⟩:=av hb;exact hm.heap _ _ (fun z=>(hps q hq).2 (up _ z)) e
  refine (show wpAny _ A.in1 (holding [Value.ref p.1] (setAdd S (.ref p.1)) >>= _) _ _ s' from zaa (zaE ?_));unfold setAdd;refine zaE (zaa (wpAny_pyHash_tuple hu (hps' p hpm).1 ?_))
  have hk2:oz (ps.take (i+1))=mO (oz (ps.take i)) p:=by
   rw [List.take_add_one,hpi];unfold oz;rw [Option.toList_some,zdk];rfl
  by_cases hin:p.2∈(oz (ps.take i)).map (·.2)
  ·obtain ⟨q,hq,eq⟩:=zas.mp hin
   have hqm:q∈ps:=zc5 (jN _ q hq)
   have hk3:oz (ps.take (i+1))=oz (ps.take i):=by rw [hk2];unfold mO;rw [if_pos hin]
   refine Lf (s:={s' with toks:=s'.toks+(p.2.length+1)}) (b0:=q.1) hu ho' x1 x2 T (hps' p hpm).1 (zas.mpr ⟨q,hq,rfl⟩) (by rw [←eq];exact (hps' q hqm).1) ?_;refine zad ⟨zbk F.plain_set_update_loop _,ih (i+1) _ _ (by omega) hlt (W.frame _ s' _ _ hst' (zcX _ _) fun b hb o e=>e) ho' ⟨es,ep,t,x1,x2,by rw [hk3];exact T⟩ hps' fun s2 o2 hm2 q2 g2=>?_⟩;exact hR s2 o2 (Moved.trans W.gtrans ((hm.mono up).then_heap (zcX _ _) fun b o hb e=>e) hm2) q2 g2
  have hne:∀b ls,Value.ref b∈(oz (ps.take i)).map (fun p=>Value.ref p.1)->j6 prog w s'.heap ls b->ls≠p.2:=fun b ls hb' hB e=>by
   obtain ⟨q,hq,eq⟩:=zas.mp hb';cases eq;have h1:=(hps' q (zc5 (jN _ q hq))).1;have h2:ls=q.2:=IsTupleKey.inj hB h1;exact hin (zas.mpr ⟨q,hq,by rw [←h2,e]⟩)
  refine Lg (s:={s' with toks:=s'.toks+(p.2.length+1)}) hu ho' x1 x2 T (hps' p hpm).1 hne (by have:=wW (ps.take i);rw [zaf];rw [zbv] at this;omega) fun h' es' ep' t' hsb ho2 T2=>?_
  have hk3:(oz (ps.take (i+1))).map (fun p=>Value.ref p.1)=(oz (ps.take i)).map (fun p=>Value.ref p.1)++[.ref p.1]:=by
   rw [hk2];unfold mO;rw [if_neg hin];simp
  have hps2:∀p∈ps,j6 prog w h' p.2 p.1/\p.1∉S::wr:=fun q hq=>⟨(hps' q hq).1.keep fun o e=>by rw [hsb.2 q.1 (fun z:q.1=S=>(hps q hq).2 (by rw [z];exact zai))];exact e,(hps q hq).2⟩;refine zad ⟨zbk F.plain_set_update_loop _,ih (i+1) _ _ (by omega) hlt (W.frame _ s' _ _ hst' (zcX _ _) fun b hb o e=>?_) ho2 ⟨es',ep',t',x1,rfl,by rw [hk3];exact T2⟩ hps2 fun s2 o2 hm2 q2 g2=>?_⟩
  ·rw [hsb.2 b (fun h:b=S=>hSf (h ▸ hb))];exact e
  ·refine hR s2 o2 (Moved.trans W.gtrans ((hm.mono up).then_heap (zcX _ _) fun b o hb e=>?_) hm2) q2 g2
   rw [hsb.2 b (fun h:b=S=>hb (by rw [h];exact zai))];exact e
end
section
variable  {prog:Program}{w:World}{A:Around}{E:Tb}{s:Shared}
set_option maxHeartbeats 3200000 in
theorem zE {l:Addr}{its:Ti}{ps:List (Addr×Th)}{Q:Tb}
  (hh:A.handled=none) (hu:A.in1.in1.in1.units < cLine) (hl:s.heap.IsList l its) (hi:its.toList=ps.map fun p=>Value.ref p.1) (hp:∀p∈ps,j6 prog w s.heap p.2 p.1) (hb:ps.length < 64)
  (h:∀(h':Heap) (tk:Nat) (o:Obj),h'.get? s.heap.objs.size=some o->vY prog w (!w.params.followText "set-order") h' o ((oz ps).map fun p=>Value.ref p.1) ->
   (∀b o,s.heap.get? b=some o->h'.get? b=some o)->s.toks<=tk->Q (.ref s.heap.objs.size) {s with heap:=h',toks:=tk}) :
  wpAny (model prog w) A (call (.type "set") [.ref l]) Q E s:=by
 obtain ⟨c,tl,hmro⟩:=F.called_set.mro;have hmade:=F.called_set.made;have hsub:=F.called_set.sub;refine zc1 (zb0 (show wpAny _ _ (callAny (.type "set") _) _ _ _ from ?_));refine zad ⟨Code.quiet_builtin _ (by decide +kernel),zaU F.entry_type_call ?_⟩;rw [zch (weight_type_call_type "set" [.ref l] []) rfl];have h1:=F.called_set.notType;have h2:=F.called_set.canCreate;have hct:=F.typeCall_set_1 (.ref l)
 repeat (any_goals (first|assumption|wp_step))
 refine zbg (vb (.ref l) (E:=E) (Q₁:=fun obj s₁=>obj=.ref s.heap.objs.size/\s₁={s with heap:=s.heap.push (ax (!w.params.followText "set-order"))}) ⟨rfl,rfl⟩) fun r s₁ hr=>?_;generalize hled:(!w.params.followText "set-order")=led at *
 cases r with
 |error e=>exact hr
 |ok fl =>
  cases fl with
  |ret obj =>
   obtain ⟨rfl,rfl⟩:=hr;have hS:(s.heap.push (ax led)).get? s.heap.objs.size=some (ax led):=zal _ rfl;have hT:Shared.TypeIs {s with heap:=s.heap.push (ax led)} (.ref s.heap.objs.size) "set":=⟨_,hS,rfl⟩;have hli:=F.called_set.init.lookup;have hbi:=F.called_set.init.bind (.ref s.heap.objs.size)
   repeat (any_goals (first|assumption|wp_step))
   refine zbg (zbM (R:=wants (fun r s₂=>r=.none/\∃h' tk o,s₂={s with heap:=h',toks:=tk}/\h'.get? s.heap.objs.size=some o/\vY prog w led h' o ((oz ps).map fun p=>Value.ref p.1) /\
     (∀b o,s.heap.get? b=some o->h'.get? b=some o)/\s.toks<=tk) E) F.called_set.init.plain F.entry_set_init (check_set_init_1 hT ?_)) fun r₂ s₂ hr₂=>?_
   ·obtain ⟨ol,hol,hcl,nl,hdl⟩:=hl
    obtain ⟨ocls,odict,odata,oslots⟩:=ol;simp only at hcl hdl;subst hcl;subst hdl;have hol':(s.heap.push (ax led)).get? l=some {cls:=.type "list",dict:=odict,data:=.seq its nl,slots:=oslots}:=zae _ hol;have hs1:=F.sub_list_set;have hs2:=F.sub_list_frozenset
    have hne:(Value.type "list" == Value.type "dict")=false:=by decide
    have hl1:(s.heap.push (ax led)).IsList l its:=⟨_,hol',rfl,nl,rfl⟩;unfold Builtin.«set.__init__» noKeywords Builtin.Frozenset.updateFrom;generalize hPI:pyIter=PI
    wp_walk;subst hPI
    refine zb3 hl1 (zaa (zcH ?_));have hlS:l < s.heap.objs.size:=zah hol
    have hh3:A.in1.in1.in1.handled=none:=by simp [hh]
    have hneI:l≠(s.heap.push (ax led)).objs.size:=by rw [zaX];exact zan (zbe hlS)
    have hSf:s.heap.objs.size∉[(s.heap.push (ax led)).objs.size,l]:=by
     rw [zaX];simp only [zak,zaI,or_false,not_or];exact ⟨zan (zb9 _),zaY hlS⟩
    have hsz:its.size=ps.length:=by have:=congrArg List.length hi;simpa using this
    have hp1:∀p∈ps,j6 prog w ((s.heap.push (ax led)).push {cls:=.type "list_iterator",data:=.fields #[.ref l,.int 0 0]}) p.2 p.1/\p.1 < s.heap.objs.size:=fun p hp'=>by
     obtain ⟨op,itp,np,q1,q2,q3,q4⟩:=hp p hp';exact ⟨⟨op,itp,np,zae _ (zae _ q1),q2,q3,q4⟩,zah q1⟩
    refine ql ((Walks.list hh3 _ l hneI its).toS) hu s.heap.objs.size hSf (led:=led) ps hsz.symm
     (fun i v hv=>by
      have:its.toList[i]?=some v:=by rw [zaS];exact hv
      rw [hi,zaG] at this
      obtain ⟨p,e1,e2⟩:=zaF.mp this
      exact ⟨p,e1,e2.symm⟩) hb (its.size - 0) 0 _ (ax led) (by omega) (za9 _)
     ⟨⟨_,zal _ rfl,rfl,rfl⟩,(hl1.push _)⟩ (zae _ hS) (tS led _) (fun p hp'=>⟨(hp1 p hp').1,fun z=>?_⟩) fun s' o' hm ho' hS'=>?_
    ·have:=(hp1 p hp').2
     simp only [zak,zaI,or_false] at z;rcases z with z|z
     ·rw [z] at this;exact zaR _ this
     ·rw [z,zaX] at this;exact absurd this (Nat.not_lt.mpr (zbZ _))
    obtain ⟨h',g',d',tk',os'⟩:=s';have eg:g'=s.gens:=hm.gens;have ed:d'=s.drawn:=hm.drawn;have eo:os'=s.os:=hm.os;subst eg;subst ed;subst eo;refine (show wpAny _ _ _ _ _ _ from zad (show wpAny _ _ (ret Value.none) _ _ _ from zad ⟨rfl,h',tk',o',rfl,ho',hS',fun b o e=>?_,hm.toks⟩));have hbs:=zah e;refine hm.heap b o ?_ (zae _ (zae _ e));rw [zaX];simp only [zak,zaI,or_false,not_or];exact ⟨zan hbs,zan (zbe hbs)⟩
   ·cases r₂ with
    |error e=>exact hr₂
    |ok fl2 =>
     cases fl2 with
     |ret r =>
      obtain ⟨rfl,h',tk,o,rfl,ho,hS',hk',ht⟩:=hr₂
      repeat (any_goals (first|assumption|wp_step))
      exact h _ _ o ho hS' hk' ht
     |_=>exact hr₂.elim
  |_=>exact hr.elim
theorem vY.v {led:Bool}{h:Heap}{o:Obj}{vs:Te}(x:vY prog w led h o vs):El prog w led h o vs :=
 let ⟨es,ep,t,x1,x2,T⟩:=x
 ⟨es,ep,t,x1,x2,T.T⟩
end
end HS
namespace HW
open PySem PySem.Spec PyProof.Rows L2 HS HT2
def K9 (acc:Ta)(k:Th):Ta:=if k∈acc then acc else acc++[k]
def dd (L:Ta):Ta:=L.foldl K9 []
theorem xk:∀(ps acc:List (Addr×Th)),(ps.foldl mO acc).map (·.2)=(ps.map (·.2)).foldl K9 (acc.map (·.2))
 |[],_=>rfl
 |q::ps,acc=>by
  rw [za0,xk ps,zag,za0]
  congr 1
  unfold mO K9;split <;> simp
theorem BW (ps:List (Addr×Th)):(oz ps).map (·.2)=dd (ps.map (·.2)):=xk ps []
def Ab (K:zac)(b:Bool):List V->Hp->VK->Prop:=fun vs H Q=>∃(p:Addr) (ps:List (Addr×Th)),vs=[.ref p]/\iV K H p (ps.map fun q=>V.ref q.1)/\Cf K H ps/\ps.length < 64/\∀l o,H l=none->Em b o (oz ps)->Q (.ref l) (upd H l (bU o))
theorem vR {X:Cx}(hc:X.calm=true)(hu:X.A.units+64 < cLine):d9 X (.type "set") (Ab X.K (!HS.bt X.w)):=by
 intro pins s σ H vs us Q I r h;obtain ⟨p,ps,rfl,hq,hT,h64,q⟩:=h;obtain ⟨u,rfl,rx⟩:=gP r;cases rx;obtain ⟨its,r',pl,hz⟩:=I.list hq;have hi:=pL r';refine zE (its:=its.toArray) (ps:=ps) (I.ok.hd hc) (by simp only [Around.in1_units];omega) pl.isList (by simpa using hi) (fun q hq'=>?_) h64 fun h' tk o ho hS kp ht=>?_
 ·obtain ⟨o,itq,n,q1,q2,q3,q4⟩:=aA.tupA I (hT q hq')
  exact ⟨o,itq,n,q1,q2,q3,tI q4⟩
 ·exact ⟨.ref s.heap.objs.size,_,I.laid (t':=tk) kp (zam _) (show bm X.prog X.w _ h' _ (bU o) from ⟨ho,trivial,⟨o,ho⟩,fun _ _ _ _=>trivial⟩),rfl,q _ _ (I.hok.fresh (zam _)) hS.v.o⟩
def Mm (x:R)(μ:ab):Option (R×ab):=(zJ x μ).bind fun ds=>(nH ds).bind fun L=>if L.length < 64/\((dd L).length < 2\/∀k∈L,k≠[]) then some (.p μ.length,μ++[.lst ((aZ (dd L)).map kT)]) else none
def DU (fa:FE):FE:=fun ρ μ=>(fa ρ μ).bind fun a=>Mm a.1 a.2
theorem GF {K:zac}{H:Hp}{Q:VK}{fa:FE}{b:Bool}(h:aw K (DU fa) σ H Q):Iz (wq K b) (pG (Iz (Ab K b) (pG (aw K fa) zt)) zt) σ H Q:=by
 obtain ⟨ρ,μ,m,d,μ',hl,hs,e,kk'⟩:=h;obtain ⟨⟨x,μ1⟩,e1,e⟩:=zab.mp e;obtain ⟨ds,e2,e⟩:=zab.mp e;obtain ⟨L,e3,e⟩:=zab.mp e;split at e
 ·rename_i hc
  obtain ⟨h64,hne⟩:=hc;cases e;refine ⟨ρ,μ,m,x,μ1,hl,hs,e1,fun v H1 m1 x1 s1 r1=>?_⟩;obtain ⟨a,vs,rfl,q1,q2⟩:=qw s1 e2 r1;obtain ⟨ps,rfl,rfl,hT⟩:=nG e3 q2
  have h64':ps.length < 64:=by simpa using h64
  have hl':=wW ps;refine ⟨a,ps,rfl,q1,hT,h64',fun l o hl' hO=>?_⟩;have x2:d6 m1 H1 m1 (upd H1 l (bU o)):=d6.new hl';have s2:aP K m1 (upd H1 l (bU o)) μ1:=s1.same (cu hl');have hT2:Cf K (upd H1 l (bU o)) (oz ps):=fun q hq=>eS.tf (.of (cu hl')) (hT q (jN _ q hq));refine ⟨l,o,oz ps,rfl,b8,hO,hT2,yz ps,by omega,fun h2 p hp=>?_,fun l2 qs hl2 hm hq=>?_⟩
  ·rcases hne with z|z
   ·rw [←BW,zaf] at z;omega
   ·exact z _ (zas.mpr ⟨p,jN _ p hp,rfl⟩)
  ·obtain ⟨x3,s3,r3⟩:=e7 s2 (wS fun q hq'=>hT2 q (hm q hq')) hl2
   rw [hq,BW] at s3;exact kk' _ _ _ (x1.trans (x2.trans x3)) s3 r3
 ·cases e
end HW
namespace HW
open PySem PySem.Spec PyProof.Rows L2
open Classical in
def O5 (cl:List (Str×Addr))(H:Hp):Hp:=fun b=>if (∃y,cl.lookup y=some b) then none else H b
structure NS (P:Addr)(q:Str)(H H':Hp):Prop where
 keep:∀b o,b≠P->H b=some o->H' b=some o
 tab:∃ps,H' P=some (.tbl ps)/\jT H' q ps
def Jl (P:Nat)(q:Str)(μ:ab):Bool:=match μ[0]? with|some (aG.tb P' q')=>decide (P'=P) && decide (q'=q)|_=>false
def ML (P:Nat)(q:Str):nq->Option D
 |.rt r μ=>(DP r μ).bind fun a=>if Jl P q a.2=true then some a.1 else none
 |.nx _ μ=>if Jl P q μ=true then some .non else none
 |_=>none
def OZ (P:Nat)(q:Str)(k:Nat)(b:FS):MF:=fun ds=>(b (ds.map (fun d=>some (.v d))++List.replicate (k - ds.length) none) [.tb P q]).bind (ML P q)
def OY (K:zac)(P:Nat)(q:Str)(n:Nat)(f:MF):Sp:=fun vs H Q _=>∃ds d,ds.length=n/\RelDs K H ds vs/\f ds=some d/\(∃ps,H P=some (.tbl ps)/\jT H q ps)/\∀v H',NS P q H H'->ak K H' d v->Q v H'
def OO (Pg:Program)(w:World)(K:zac)(mg:Td)(base:Heap)(k:Nat)(x:Str)(ps:Tn)(P:Nat)(q:Str)(mf:MF):Prop :=
 ∃f fd,cP Pg w K mg base mK k f fd ps (OY K P q ps.length mf)/\PySem.W.keepIn K (.ref f)=true/\iU K fd ps []/\mg x=some (.ref f)
structure N0 (K:zac)(x:Str)(st:Stmt)(f:Addr)(fd:FuncData)(c:Addr):Prop where
 ex:∃(oc:Value) (od:Option Addr) (kV doc pm:Value) (an:Option Addr) (ct:Value) (osl:Array (Tg)),
  fd=PySem.W.fnOf x x (iI st) (ck st) (ai st) .none kV doc pm an (.ref c) ct/\K.lookup f=some ⟨oc,od,.func fd,osl⟩/\PySem.W.codeIn K (.ref c) x=true
 kp:PySem.W.keepIn K (.ref f)=true
abbrev o5 (e:Expr)(es:Tj)(X:Cx):Prop:=starEach (e::es) X.env=(false,eval e X.env)::starEach es X.env
def l7:Expr->Bool
 |.Starred ..=>true
 |_=>false
theorem aE {e:Expr}{es:Tj}{env:Env}(h:l7 e=false):starEach (e::es) env=(false,eval e env)::starEach es env:=by
 cases e <;> first|rfl|(simp [l7] at h)
theorem aS {env:Env}{pos:Pos}:∀{es:Tj},es.any l7=false->(backTo pos (starEach es env)).any (·.1)=false
 |[],_=>rfl
 |e::es,h=>by
  rw [zbG,Bool.or_eq_false_iff] at h;rw [aE h.1];have ih:=aS (env:=env) (pos:=pos) h.2;unfold backTo at ih ⊢;rw [zag,zbG,ih];rfl
theorem ut {e:Expr}{es:Tj}{env:Env}(h:l7 e=false):(assignEach (e::es) env).map (·.2)=assign e env::(assignEach es env).map (·.2):=by
 cases e <;> first|rfl|(simp [l7] at h)
theorem jW {prog:Program}{w:World}{A:Around}{E:Tb}{s:Shared}{t sl:Addr}{items:Ti}{vl vu:Value}{lo hi:Option Int}{Q:Tb}(ht:IsTup s.heap t items)(hs:s.heap.IsSliceOf sl vl vu .none)(pl:IsPart vl lo)(pu:IsPart vu hi)
  (hw:HT.cx items.size 0 lo=0/\HT.cx items.size items.size hi=items.size)
  (h:Q (.ref t) s):wpAny (model prog w) A (getItem (.ref t) (.ref sl)) Q E s:=by
 obtain ⟨os,hos,hcs,hds⟩:=id hs;have hTs:s.TypeIs (.ref sl) "slice":=⟨os,hos,hcs⟩;unfold getItem
 try with_reducible refine zaE ?_
 first|refine zaa (zad ?_)|skip
 refine zaa (wpAny_sequenceKey ht.typeIs (by decide) ?_)
 refine zaa (za5 (name:=Str.ofString "__getitem__") ht.typeIs PyProof.Rows.slot_tuple_getitem
  (zaH PyProof.Rows.slot_tuple_getitem ht.typeIs entry_tuple_getitem ?_ (args_tuple_getitem _ _)))
 show wpAny _ _ (Builtin.Tuple.tupleItemsOf (.ref t) >>= _) _ _ s
 refine zaa (tupleItemsOf_ ht ?_);refine zaa (zbs hTs ?_);rw [if_pos (by decide)];refine zaa (HT.gT hs pl pu ?_)
 have hyes:((((HT.cx items.size 0 lo:Nat):Int) == 0 && (1:Int) == 1 && (HT.cx items.size items.size hi - HT.cx items.size 0 lo) == items.size)=true):=by
  rw [hw.1,hw.2];simp
 show wpAny _ _ (if (((HT.cx items.size 0 lo:Nat):Int) == 0 && (1:Int) == 1 && (HT.cx items.size items.size hi - HT.cx items.size 0 lo) == items.size)=true then _ else _) _ _ s
 rw [if_pos hyes];refine zaa (m:=Builtin.Tuple.tupleIsExact (.ref t)) (zaa (zbs ht.typeIs (zad ?_)));rw [if_pos (by decide)];refine zaa (zbY ?_)
 first
  |exact zad ⟨_,rfl,zad h⟩
  |exact zaa (zad (zad ⟨_,rfl,zad h⟩))
  |exact zaa (zad ⟨_,rfl,zad h⟩)
def jX (xs:List D)(lo hi:Option Int):List D:=(xs.drop (HT.cx xs.length 0 lo)).take (HT.cx xs.length xs.length hi - HT.cx xs.length 0 lo)
def JK (K:zac):V->Option Int->Option Int->Hp->VK->Prop:=fun x lo hi H Q=>JJ K x lo hi H Q\/JI K x lo hi H Q \/
 ∃a xs,x=.ref a/\eS K H a xs/\(HT.cx xs.length 0 lo=0/\HT.cx xs.length xs.length hi=xs.length)/\Q (.ref a) H
theorem zD {X:Cx}:Cg X (fun x lo hi H Q=>∃a xs,x=.ref a/\eS X.K H a xs/\(HT.cx xs.length 0 lo=0/\HT.cx xs.length xs.length hi=xs.length)/\Q (.ref a) H):=by
 intro pins s σ H x v vl vu lo hi sl Q I rx hs pl pu h;obtain ⟨a,xs,rfl,hx,hw,q⟩:=h;cases rx;obtain ⟨its,r,ht,hz⟩:=I.tuple hx
 have hlen:its.toArray.size=xs.length:=by rw [zaz];exact r.length.symm
 refine ⟨"tuple",_,PyProof.Rows.slot_tuple_getitem.lookup,ht.typeIs,?_⟩;exact jW ht hs pl pu (by rw [hlen];exact hw) ⟨.ref a,H,I,rfl,q⟩
theorem F4 {X:Cx}:Cg X (JK X.K):=Cg.or CK (Cg.or F3 zD)
abbrev FO:=Lo->ab->Option (Option Int×ab)
def C4 (K:zac)(f:FO):TO:=fun σ H Q=>∃ρ μ m o μ',dH K m H ρ σ/\aP K m H μ/\f ρ μ=some (o,μ')/\∀H' m',d6 m H m' H'->aP K m' H' μ'->Q o H'
def eV:FO:=fun _ μ=>some (none,μ)
def dP (f:FE):FO:=fun ρ μ=>(f ρ μ).bind fun a=>match a.1 with|.v (.int i)=>some (some i,a.2)|_=>none
def E4 (x:R)(lo hi:Option Int)(μ:ab):Option (R×ab):=match x with
 |.v (.tup xs)=>some (.v (.tup (jX xs lo hi)),μ)
 |x=>(jU x μ).bind fun xs=>some (.p μ.length,μ++[.lst (jX xs lo hi)])
def tV (fa:FE)(fl fh:FO):FE:=fun ρ μ=>(fa ρ μ).bind fun a=>(fl ρ a.2).bind fun l=>(fh ρ l.2).bind fun h=>E4 a.1 l.1 h.1 h.2
theorem RelDs.drop {K:zac}{H:Hp}:∀{xs:List D} {vs:List V} (n:Nat),RelDs K H xs vs->RelDs K H (xs.drop n) (vs.drop n)
 |_,_,0,h=>h
 |[],_,n+1,h=>by simp only [RelDs] at h;subst h;simp only [List.drop_nil,RelDs]
 |x::xs,_,n+1,h=>by
  simp only [RelDs] at h;obtain ⟨v,r,rfl,_,h2⟩:=h;exact RelDs.drop n h2
theorem RelDs.take {K:zac}{H:Hp}:∀{xs:List D} {vs:List V} (n:Nat),RelDs K H xs vs->RelDs K H (xs.take n) (vs.take n)
 |_,_,0,h=>by simp only [List.take_zero,RelDs]
 |[],_,n+1,h=>by simp only [RelDs] at h;subst h;simp only [List.take_nil,RelDs]
 |x::xs,_,n+1,h=>by
  simp only [RelDs] at h;obtain ⟨v,r,rfl,h1,h2⟩:=h;simp only [List.take_succ_cons,RelDs];exact ⟨v,_,rfl,h1,RelDs.take n h2⟩
theorem RelDs.cut {K:zac}{H:Hp}{xs:List D}{vs:List V}{lo hi:Option Int}(h:RelDs K H xs vs):RelDs K H (jX xs lo hi) (rk vs lo hi):=by
 unfold jX rk;rw [h.length];exact (h.drop _).take _
section
variable  {K:zac}{σ:L2.St}{H:Hp}{Q:VK}
theorem zS {Q:Option Int->Hp->Prop}(h:C4 K eV σ H Q):wg σ H Q:=by
 obtain ⟨ρ,μ,m,o,μ',hl,hs,e,k⟩:=h;cases e;exact k H m .refl hs
theorem zR {f}{Q:Option Int->Hp->Prop}(h:C4 K (dP f) σ H Q):EY (aw K f) σ H Q:=by
 obtain ⟨ρ,μ,m,o,μ',hl,hs,e,k⟩:=h;obtain ⟨⟨x,μ1⟩,e1,e⟩:=zab.mp e;split at e
 ·rename_i i q
  cases e;simp only at q;subst q;exact ⟨ρ,μ,m,_,μ1,hl,hs,e1,fun v H1 m1 x1 s1 r1=>⟨i,by simpa only [ap,ak] using r1,k H1 m1 x1 s1⟩⟩
 ·cases e
theorem JA {m:Tf}{μ μ':ab}{x d:R}{v:V}{lo hi:Option Int}(s:aP K m H μ)(r:ap K m H x v)(e:E4 x lo hi μ=some (d,μ'))(k:∀w H' m',d6 m H m' H'->aP K m' H' μ'->ap K m' H' d w->Q w H'):JK K v lo hi H Q:=by
 have lst:∀xs,jU x μ=some xs->(some (R.p μ.length,μ++[aG.lst (jX xs lo hi)]):Option (R×ab))=some (d,μ')->JK K v lo hi H Q:=fun xs e1 e2=>by
  cases e2;obtain ⟨a,vs,rfl,q,rr⟩:=ip s r e1;refine .inl ⟨a,vs,rfl,q,fun p hp=>?_⟩;obtain ⟨x1,x2,x3⟩:=e7 s (rr.cut (lo:=lo) (hi:=hi)) hp;exact k _ _ _ x1 x2 x3
 have gen:(jU x μ).bind (fun xs=>some (R.p μ.length,μ++[aG.lst (jX xs lo hi)]))=some (d,μ')->JK K v lo hi H Q:=fun e=>by
  obtain ⟨xs,e1,e⟩:=zab.mp e;exact lst xs e1 e
 cases x with
 |p n=>exact gen e
 |s _ n=>exact gen e
 |x n=>exact gen e
 |f L ds=>exact gen e
 |v d0 =>
  cases d0 with
  |tup xs =>
   cases e;simp only [ap,ak] at r;obtain ⟨a,vs,rfl,q,rr⟩:=r
   by_cases hw:HT.cx vs.length 0 lo=0/\HT.cx vs.length vs.length hi=vs.length
   ·refine .inr (.inr ⟨a,vs,rfl,q,hw,k _ H m .refl s ?_⟩)
    simp only [ap,ak];refine ⟨a,vs,rfl,q,?_⟩;have:=rr.cut (lo:=lo) (hi:=hi)
    unfold rk at this
    rw [hw.1,hw.2] at this
    simpa using this
   ·refine .inr (.inl ⟨a,vs,rfl,q,hw,fun p hp=>?_⟩)
    obtain ⟨x1,x2,x3⟩:=im s (rr.cut (lo:=lo) (hi:=hi)) hp;exact k _ _ _ x1 x2 x3
  |non=>exact gen e
  |bl _=>exact gen e
  |int _=>exact gen e
  |str _=>exact gen e
  |fl _=>exact gen e
  |fd _ _=>exact gen e
  |key _=>exact gen e
theorem JC {fa fl fh}(h:aw K (tV fa fl fh) σ H Q):Oc (JK K) (aw K fa) (C4 K fl) (C4 K fh) σ H Q:=by
 obtain ⟨ρ,μ,m,d,μ',hl,hs,e,k⟩:=h;obtain ⟨⟨x,μ1⟩,e1,e⟩:=zab.mp e;obtain ⟨⟨l,μ2⟩,e2,e⟩:=zab.mp e;obtain ⟨⟨u,μ3⟩,e3,e⟩:=zab.mp e;refine ⟨ρ,μ,m,x,μ1,hl,hs,e1,fun v H1 m1 x1 s1 r1=>?_⟩;refine ⟨ρ,μ1,m1,l,μ2,hl.ext x1,s1,e2,fun H2 m2 x2 s2=>?_⟩;refine ⟨ρ,μ2,m2,u,μ3,hl.ext (x1.trans x2),s2,e3,fun H3 m3 x3 s3=>?_⟩;exact JA s3 (r1.ext (x2.trans x3)) e fun w H4 m4 x4 s4 r4=>k w H4 m4 (((x1.trans x2).trans x3).trans x4) s4 r4
end
theorem PO.imp {e:Option Expr}{t t':TO}(h:PO X e t)(k:∀{σ H Q},t' σ H Q->t σ H Q):PO X e t':=fun pins s σ H Q I q=>h pins s σ H Q I (k q)
def qB:FS:=fun _ _=>none
namespace R
section
variable  {X:Cx}{a b e o:Expr}{es:Tj}{fa fb:FE}{ga:FA}{pos p p2 apos:Pos}{x:Str}
theorem ag {i j}:PE X (.Constant (.int i) j pos) (aw X.K (fK (.int i))):=PE.imp GZ (jd fun _ _=>by simp only [ap,ak])
theorem pM (ha:PE X a (aw X.K fa)):PE X (.UnaryOp .USub a pos) (aw X.K (iE lY fa)):=PE.imp (Ka FP ha) (JB Ky)
theorem nW (ha:PE X a (aw X.K fa)):PO X (some a) (C4 X.K (dP fa)):=PO.imp (Dh ha) zR
theorem GJ {k:Nat}{f:Addr}{fd:FuncData}{ps:Tn}{n:Nat}{mf:MF}(F:cP X.prog X.w X.K X.mg X.base mK k f fd ps (yV X.K n mf))(hr:da k X.A)(hg:Gl X x)(hm:X.mg x=some (.ref f))(hk:PySem.W.keepIn X.K (.ref f)=true)(hb:iU X.K fd ps [])
  (ha:PA X (e::es) (ij X.K ga)) (hdb:(x == ("__debug__" : Str))=false:=by decide) (he:o5 e es X:=by exact aE rfl) (hpl:(backTo pos (starEach es X.env)).any (·.1)=false:=by exact aS rfl) :
  PE X (.Call (.Name x p) (e::es) [] pos) (aw X.K (aH mf n ga)):=PE.imp (qI F hr hg hm hk hb .nil AF ha hdb he hpl) C3
theorem jG {d:D}(h:gN X.K X.mg x d)(hg:Gl X x:=by rfl)(hd:(x == ("__debug__" : Str))=false:=by decide):PE X (.Name x pos) (aw X.K (fK d)):=by
 obtain ⟨u,v,hm,r,rd⟩:=h;exact PE.imp (Dq hg hm r hd) (jd fun _ H=>rd H)
theorem mz {op:CmpOp}{r:R2}{g:R->R->ab->Option (R×ab)}(ho:jS X (compareOp op) r)(hg:pC X.K g r)(ha:PE X a (aw X.K fa))(hb:PE X b (aw X.K fb))(hm:behindInMarks op b=false):PT X (.Compare a [op] [b] pos) (eQ X.K (fB (al g fa fb))) :=
 PT.imp (wx ho ha hb hm) fun h=>by
  obtain ⟨ρ,μ,m,d,μ',hl,hs,e,k⟩:=wo h;exact gp hg ⟨ρ,μ,m,d,μ',hl,hs,e,k⟩
theorem Jm {op:CmpOp}{neg:Bool}{c:D}{cv:V}(hc:(c=.non/\cv=.non)\/∃b,c=.bl b/\cv=.bl b)(ho:jS X (compareOp op) (C7 neg cv))(ha:PE X a (aw X.K fa))(hb:PE X b (tC cv))(hm:behindInMarks op b=false):PT X (.Compare a [op] [b] pos) (eQ X.K (fB (iE (ng neg c) fa))) :=
 PT.imp (wx ho ha hb hm) fun h=>by
  obtain ⟨ρ,μ,m,d,μ',hl,hs,e,k⟩:=wo h;exact E6 hc ⟨ρ,μ,m,d,μ',hl,hs,e,k⟩
variable  {ta tb:FT}{rest:Tj}
variable  {st:Stmt}{sts aa bb:Tk}{sa sb:FS}{c tg iter:Expr}
theorem mW:PS X st (gg X.K qB):=fun pins s σ H D I h=>by obtain ⟨ρ,μ,m,out,hl,hs,e,k⟩:=h;cases e
variable  {g:FG}{gs:Fx}{fi:FI}
theorem mU.imp {ifs:Tj}{t t':TT}(h:mU X ifs t)(k:∀{σ H Q},t' σ H Q->t σ H Q):mU X ifs t':=fun pins s σ H Q I q=>h pins s σ H Q I (k q)
theorem ik {ifs:Tj}{scope:Scope}(ix:List Nat)(own caps:Tn)(hc:X.calm=true)(n:aN X.env.scope scope own caps)(hi:PI X tg iter (zX X.K fi))
  (hb:∀cl C s₂ H₂ fp,PG (aL X scope cl C s₂ H₂ fp (own++caps)) tg (qC X.K g)/\mU (aL X scope cl C s₂ H₂ fp (own++caps)) ifs (eQ X.K ta)/\PE (aL X scope cl C s₂ H₂ fp (own++caps)) e (aw X.K fa))
  (hix:ix.map (fun i=>X.N[i]?)=caps.map some:=by rfl)
  (hs:∀x,foldedSetIterable iter X.env x=pure x:=by intro _;rfl):PE X (.ListComp e [⟨tg,iter,ifs,0⟩] scope pos) (aw X.K (eW ix own.length fi g ta fa)):=by
 refine PE.imp (AE (ix:=ix) hc n (by simpa using congrArg List.length hix) (fun j i y h1 h2=>?_) hi hb hs) (wn rfl);have:=congrArg (fun l=>l[j]?) hix
 simp only [zaG,h1,h2,zbu] at this
 exact Option.some.inj this
theorem nQ (i:Nat){py spos:Pos}{ifs:Tj}{scope:Scope}(ix:List Nat)(own caps:Tn)(hc:X.calm=true)(n:aN X.env.scope scope own caps)(hN:X.N.Nodup)(hi:PI X tg iter (zX X.K fi))
  (hb:∀cl C s₂ H₂ fp,PG (aL X scope cl C s₂ H₂ fp (own++caps)) tg (qC X.K g)/\mU (aL X scope cl C s₂ H₂ fp (own++caps)) ifs (eQ X.K ta)/\PE (aL X scope cl C s₂ H₂ fp (own++caps)) e (aw X.K fa))
  (hsw:swapsWith (.ListComp e [⟨tg,iter,ifs,0⟩] scope pos) (some (.Name x py)) spos.line X.env=pure true:=by rfl)
  (hy:X.N[i]?=some x:=by rfl) (hyl:Ep X.env.scope x:=by first|exact Or.inl rfl|exact Or.inr rfl)
  (hix:ix.map (fun i=>X.N[i]?)=caps.map some:=by rfl)
  (hs:∀x,foldedSetIterable iter X.env x=pure x:=by intro _;rfl) (hf:X.fn x=true\/X.env.scope.names.lookup x=some .local:=by first|exact .inl rfl|exact .inr rfl) :
  PS X (.Assign [.Name x py] (.ListComp e [⟨tg,iter,ifs,0⟩] scope pos) spos) (gg X.K (aF i (eW ix own.length fi g ta fa))):=by
 refine PS.imp (At (i:=i) (ix:=ix) hc n hN hy hyl (by simpa using congrArg List.length hix) (fun j i y h1 h2=>?_) hi hb hsw hs hf) fun h=>?_
 ·have:=congrArg (fun l=>l[j]?) hix
  simp only [zaG,h1,h2,zbu] at this
  exact Option.some.inj this
 ·have h':=zQ h
  obtain ⟨ρ,μ,m,d,μ',hl,hs,e,k⟩:=h';exact wn rfl ⟨ρ,μ,m,d,μ',hl,hs,e,k⟩
end
end R
def jo (x:R)(μ:ab):Bool:=match x with|.v (.fl _)=>true|.p n=>(match μ[n]? with|some (.lst _)=>true|some (.fz _)=>true|_=>false)|_=>false
def yB (g:R->List R->ab->Option (R×ab))(fa:FE)(ga:FA):FE:=fun ρ μ=>(fa ρ μ).bind fun a=>if jo a.1 a.2=true then (ga ρ a.2).bind fun b=>g a.1 b.1 b.2 else none
theorem Bh {K:zac}{m:Tf}{H:Hp}{μ:ab}{x:R}{v:V}(s:aP K m H μ)(r:ap K m H x v)(e:jo x μ=true):Ml K "list" v H:=by
 have:∃xs,jU x μ=some xs:=by
  cases x with
  |v d=>cases d <;> simp_all [jo,jU]
  |s _ _=>simp [jo] at e
  |x _=>simp [jo] at e
  |f _ _=>simp [jo] at e
  |p n =>
   simp only [jo] at e;simp only [jU];split at e
   ·rename_i xs q;exact ⟨xs,by first|rfl|rw [q]⟩
   ·rename_i xs q;exact ⟨xs,by first|rfl|rw [q]⟩
   ·cases e
 obtain ⟨xs,e⟩:=this;obtain ⟨a,vs,rfl,q,_⟩:=ip s r e;exact .inl ⟨rfl,vs,q⟩
theorem JE {K:zac}{H:Hp}{Q:VK}{g r fa ga}(hg:OR K g r)(h:aw K (yB g fa ga) σ H Q):Of K "list" r (aw K fa) (ij K ga) σ H Q:=by
 obtain ⟨ρ,μ,m,d,μ',hl,hs,e,k⟩:=h;obtain ⟨⟨x,μ1⟩,e1,e⟩:=zab.mp e;split at e
 ·rename_i hx
  obtain ⟨⟨ys,μ2⟩,e2,e⟩:=zab.mp e;refine ⟨ρ,μ,m,x,μ1,hl,hs,e1,fun v H1 m1 x1 s1 r1=>⟨Bh s1 r1 hx,?_⟩⟩;refine ⟨ρ,μ1,m1,ys,μ2,hl.ext x1,s1,e2,fun vs H2 m2 x2 s2 r2=>?_⟩;exact hg m2 H2 μ2 x ys d μ' v vs Q s2 (r1.ext x2) r2 e fun w H3 m3 x3 s3 r3=>k w H3 m3 ((x1.trans x2).trans x3) s3 r3
 ·cases e
structure bF (K:zac)(mg:Td)(x:Str)(st:Stmt)(ps:Tn):Prop where
 ex:∃f fd,rN K x x st f fd/\iU K fd ps []/\mg x=some (.ref f)
structure N1 (K:zac)(mg:Td)(x:Str)(st:Stmt)(ps:Tn)(c:Addr):Prop where
 ex:∃f fd,N0 K x st f fd c/\iU K fd ps []/\mg x=some (.ref f)
def bg (P:Program)(w:World)(K:zac)(mg:Td)(base:Heap)(k:Nat)(x:Str)(ps:Tn)(mf:MF):Prop :=
 ∃f fd,cP P w K mg base mK k f fd ps (yV K ps.length mf)/\PySem.W.keepIn K (.ref f)=true/\iU K fd ps []/\mg x=some (.ref f)
def eL (P:Program)(w:World)(K:zac)(mg:Td)(base:Heap)(k:Nat)(x:Str)(ps:Tn)(mf:MC):Prop :=
 ∃f fd,cP P w K mg base mK k f fd ps (xG K ps.length (cX K mf))/\PySem.W.keepIn K (.ref f)=true/\iU K fd ps []/\mg x=some (.ref f)
theorem qR {P:Program}{w:World}{K:zac}{mg:Td}{base:Heap}{k:Nat}{x:Str}{ps:Tn}{mf:MF}(h:bg P w K mg base k x ps mf):bg P w K mg base k x ps (uk mf) :=
 let ⟨f,fd,F,r⟩:=h
 ⟨f,fd,F.imp fun _ _ _ _ z=>Jy z,r⟩
theorem on {P:Program}{w:World}{K:zac}{mg:Td}{base:Heap}{k:Nat}{x:Str}{ps:Tn}{mf:MC}(h:eL P w K mg base k x ps mf):eL P w K mg base k x ps (uk mf) :=
 let ⟨f,fd,F,r⟩:=h
 ⟨f,fd,F.imp fun _ _ _ _ z=>F2 z,r⟩
structure NU (K:zac)(C:Addr)(nm qual:Str)(st:Stmt)(ps:Tn):Prop where
 ex:∃f fd,rN K nm qual st f fd/\iU K fd ps []/\NV K C nm f
namespace R
theorem okP {P:Program}{w:World}{K:zac}{mg:Td}{base:Heap}{x:Str}{st:Stmt}{N ps:Tn}{k:Nat}{b:FS}(d:bF K mg x st ps)(S:aC N ps (ai st))
  (hbody:∀(f:Addr) (cdv:Value) (A:Around) (outer:List Env) (s:Shared) (H:Hp) (E:XK),da k (A.deeper (envOfC x (ai st) s.heap.objs.size f cdv))->o9 (mn mK P w K mg base N x (ai st) f cdv A outer s H E).nox (ck st) (gg K b)) :
  bg P w K mg base (k+1) x ps (dM N.length b):=by
 obtain ⟨f,fd,F,B,M⟩:=d.ex;exact ⟨f,fd,rN.okP F S (hbody f),F.kp,B,M⟩
theorem az {X:Cx}{k:Nat}{x:Str}{ps:Tn}{mf:MF}{e:Expr}{es:Tj}{ga:FA}{p pos:Pos}{n:Nat}(F:bg X.prog X.w X.K X.mg X.base k x ps mf)(hr:da k X.A)(ha:PA X (e::es) (ij X.K ga))(hg:Gl X x:=by rfl)(hn:ps.length=n:=by rfl)
  (hdb:(x == ("__debug__" : Str))=false:=by decide) (he:o5 e es X:=by exact aE rfl) (hpl:(backTo pos (starEach es X.env)).any (·.1)=false:=by exact aS rfl) :
  PE X (.Call (.Name x p) (e::es) [] pos) (aw X.K (aH mf n ga)):=by
 subst hn;obtain ⟨f,fd,F,kp,B,M⟩:=F;exact GJ F hr hg M kp B ha hdb he hpl
theorem qF {X:Cx}{k:Nat}{x:Str}{ps:Tn}{mf:MF}{e:Expr}{es:Tj}{ga:FA}{p pos:Pos}{n:Nat}(F:bg X.prog X.w X.K X.mg X.base k x ps mf)(hr:da k X.A)(ha:PA X (e::es) (ij X.K ga))(hg:Gl X x:=by rfl)(hn:ps.length=n:=by rfl)
  (hdb:(x == ("__debug__" : Str))=false:=by decide) (he:o5 e es X:=by exact aE rfl) (hpl:(backTo pos (starEach es X.env)).any (·.1)=false:=by exact aS rfl) :
  PE X (.Call (.Name x p) (e::es) [] pos) (aw X.K (oH mf n ga)):=by
 subst hn;obtain ⟨f,fd,F,kp,B,M⟩:=F;exact PE.imp (qI (cP.borN (F.imp fun _ _ _ _ h=>Jz h) ps.length) hr hg M kp B .nil AF ha hdb he hpl) zV
theorem okN {P:Program}{w:World}{K:zac}{mg:Td}{base:Heap}{x:Str}{st:Stmt}{N ps:Tn}{k:Nat}{b:FS}(d:bF K mg x st ps)(S:aC N ps (ai st))
  (hbody:∀(f:Addr) (cdv:Value) (A:Around) (outer:List Env) (s:Shared) (H:Hp) (E:XK),da k (A.deeper (envOfC x (ai st) s.heap.objs.size f cdv))->o9 (mn mK P w K mg base N x (ai st) f cdv A outer s H E).nox (ck st) (gg K b)) :
  eL P w K mg base (k+1) x ps (sx N.length b):=by
 obtain ⟨f,fd,F,B,M⟩:=d.ex;exact ⟨f,fd,rN.okN F S (hbody f),F.kp,B,M⟩
theorem e6 {X:Cx}{k:Nat}{x:Str}{ps:Tn}{mf:MC}{e:Expr}{es:Tj}{ga:FA}{p pos:Pos}{n:Nat}(F:eL X.prog X.w X.K X.mg X.base k x ps mf)(hr:da k X.A)(ha:PA X (e::es) (ij X.K ga))(hg:Gl X x:=by rfl)(hn:ps.length=n:=by rfl)
  (hdb:(x == ("__debug__" : Str))=false:=by decide) (he:o5 e es X:=by exact aE rfl) (hpl:(backTo pos (starEach es X.env)).any (·.1)=false:=by exact aS rfl) :
  PE X (.Call (.Name x p) (e::es) [] pos) (aw X.K (fY mf n ga)):=by
 subst hn;obtain ⟨f,fd,F,kp,B,M⟩:=F;exact PE.imp (qI (cP.borN F ps.length) hr hg M kp B .nil AF ha hdb he hpl) zW
end R
theorem lx {K:zac}{T:String}(h1:PySem.W.kitOne K (.type "NoneType") (.type T)=some ("NoneType" == T || ("NoneType" == "bool" && T == "int")))
  (h2:PySem.W.kitOne K (.type "bool") (.type T)=some ("bool" == T || ("bool" == "bool" && T == "int"))) (h3:PySem.W.kitOne K (.type "int") (.type T)=some ("int" == T || ("int" == "bool" && T == "int")))
  (h4:PySem.W.kitOne K (.type "str") (.type T)=some ("str" == T || ("str" == "bool" && T == "int"))) (h5:PySem.W.kitOne K (.type "tuple") (.type T)=some ("tuple" == T || ("tuple" == "bool" && T == "int")))
  (h6:PySem.W.kitOne K (.type "list") (.type T)=some ("list" == T || ("list" == "bool" && T == "int"))) (h7:PySem.W.kitOne K (.type "dict") (.type T)=some ("dict" == T || ("dict" == "bool" && T == "int"))):o0 K T:=fun t ht=>by
 simp only [zak,zaI,or_false] at ht;rcases ht with rfl|rfl|rfl|rfl|rfl|rfl|rfl <;> assumption
theorem yj {K:zac}:o0 K "int":=lx rfl rfl rfl rfl rfl rfl rfl
theorem om {K:zac}:o0 K "bool":=lx rfl rfl rfl rfl rfl rfl rfl
theorem cL {K:zac}:o0 K "tuple":=lx rfl rfl rfl rfl rfl rfl rfl
theorem vj {K:zac}:o0 K "list":=lx rfl rfl rfl rfl rfl rfl rfl
theorem yO:bootBuiltins "int" = some (.type "int"):=by decide +kernel
theorem oV:bootBuiltins "bool" = some (.type "bool"):=by decide +kernel
theorem cO:bootBuiltins "tuple" = some (.type "tuple"):=by decide +kernel
theorem vT:bootBuiltins "list" = some (.type "list"):=by decide +kernel
theorem Hj {K:zac}{H:Hp}{a:Addr}{ns:Th}{mf:MF}(hO:Ch H)(hS:iV K H a (ns.map V.int))(h:mf [.fl (ns.map .int)]=some (.bl true)):yV K 1 mf [.ref a] H (fun v _=>v=.bl true) fun _ _ _=>False:=by
 refine ⟨_,_,rfl,?_,h,fun v H' _ r=>by simpa only [ak] using r⟩
 have rInts:∀{ns:Th},RelDs K H (ns.map .int) (ns.map V.int):=fun {ns}=>by
  induction ns with
  |nil=>simp only [za6,RelDs]
  |cons n ns ih=>simp only [zag,RelDs];exact ⟨_,_,rfl,by simp only [ak],ih⟩
 simp only [RelDs];refine ⟨_,_,rfl,?_,rfl⟩;simp only [ak];refine ⟨a,_,rfl,?_,rInts⟩;rcases hS with (hS|⟨o,hS⟩)|hS
 ·rcases hO a with z|⟨o,xs,z⟩ <;> rw [hS] at z <;> cases z
 ·exact .inl ⟨o,hS⟩
 ·exact .inr (.inr hS)
namespace R
end R
@[irreducible] def ZE (X:Cx)(e:Expr)(t:TE):Prop:=L2.PE X e t
@[irreducible] def ZT (X:Cx)(e:Expr)(t:TT):Prop:=L2.PT X e t
@[irreducible] def ZW (X:Cx)(e:Expr)(t:TT):Prop:=L2.PW X e t
@[irreducible] def ZA (X:Cx)(e:Tj)(t:TA):Prop:=L2.PA X e t
@[irreducible] def ZS (X:Cx)(e:Stmt)(t:TS):Prop:=L2.PS X e t
@[irreducible] def Ce (X:Cx)(e:Tk)(t:TS):Prop:=L2.o9 X e t
@[irreducible] def ZG (X:Cx)(e:Expr)(t:TG):Prop:=L2.PG X e t
@[irreducible] def Ma (X:Cx)(e:Tj)(t:Co):Prop:=L2.Cp X e t
@[irreducible] def ZO (X:Cx)(e:Option Expr)(t:TO):Prop:=L2.PO X e t
@[irreducible] def Eh (X:Cx)(e:Tj)(t:TT):Prop:=HW.mU X e t
@[irreducible] def ZI (X:Cx)(tg iter:Expr)(t:TI):Prop:=L2.PI X tg iter t
section
variable  {X:Cx}{a b e o:Expr}{es:Tj}{fa fb:FE}{ga:FA}{pos p p2 apos:Pos}{x:Str}
theorem ac (i:Nat)(hN:X.N[i]?=some x:=by rfl)(hv:Mb X.env.scope x:=by first|exact Or.inl rfl|exact Or.inr (Or.inl rfl)|exact Or.inr (Or.inr rfl))(hd:(x == ("__debug__" : Str))=false:=by decide)
  (hcd:(x == ("__classdict__" : Str))=false:=by decide):ZE X (.Name x pos) (aw X.K (ad i)):=by
 exists PE.imp (GU hN hv hd hcd) Gc
theorem ag {i j}:ZE X (.Constant (.int i) j pos) (aw X.K (fK (.int i))):=by
 exists R.ag
theorem gF {i j}:ZE X (.Constant (.bool i) j pos) (aw X.K (fK (.bl i))):=by
 exists PE.imp Ke (jd fun _ _=>by simp only [ap,ak])
theorem iQ {i j}:ZE X (.Constant (.str i) j pos) (aw X.K (fK (.str i))):=by
 exists PE.imp GV (jd fun _ _=>by simp only [ap,ak])
theorem Fe {j}:ZE X (.Constant .none j pos) (aw X.K (fK .non)):=by
 exists PE.imp qH (jd fun _ _=>by simp only [ap,ak])
theorem bT (ha:ZE X a (aw X.K fa))(hb:ZE X b (aw X.K fb)):ZE X (.BinOp a .Add b pos) (aw X.K (al du fa fb)):=by
 exists PE.imp (mC ((Ha.or (u6.or (wC.or G9))).or wD) ha hb) (gp HF)
theorem je (ha:ZE X a (aw X.K fa))(hb:ZE X b (aw X.K fb)):ZE X (.BinOp a .Sub b pos) (aw X.K (al gR fa fb)):=by
 exists PE.imp (mC G3 ha hb) (gp Kv)
theorem lh (ha:ZE X a (aw X.K fa))(hb:ZE X b (aw X.K fb)):ZE X (.BinOp a .Mult b pos) (aw X.K (al ku fa fb)):=by
 exists PE.imp (mC G6 ha hb) (gp Kz)
theorem bJ (ha:ZE X a (aw X.K fa))(hb:ZE X b (aw X.K fb)):ZE X (.BinOp a .FloorDiv b pos) (aw X.K (al br fa fb)):=by
 exists PE.imp (mC Dw ha hb) (gp KJ)
theorem bf (ha:ZE X a (aw X.K fa))(hb:ZE X b (aw X.K fb)):ZE X (.BinOp a .Mod b pos) (aw X.K (al aT fa fb)):=by
 exists PE.imp (mC G7 ha hb) (gp KA)
theorem wv (ha:ZE X a (aw X.K fa))(hb:ZE X b (aw X.K fb)):ZE X (.BinOp a .Pow b pos) (aw X.K (al ll fa fb)):=by
 exists PE.imp (mC G5 ha hb) (gp Kx)
theorem J4 (ha:ZE X a (aw X.K fa))(hb:ZE X b (aw X.K fb)):ZE X (.BinOp a .BitOr b pos) (aw X.K (al (IB (!HS.bt X.w)) fa fb)):=by
 exists PE.imp (mC AJ ha hb) (gp MH)
theorem pM (ha:ZE X a (aw X.K fa)):ZE X (.UnaryOp .USub a pos) (aw X.K (iE lY fa)):=by
 exists R.pM ha
theorem sG (ha:ZE X a (aw X.K fa)):ZE X (.UnaryOp .Not a pos) (aw X.K (mP fa)):=by
 exists PE.imp (GX ha) Gp
theorem JY (ha:ZE X a (aw X.K fa))(hb:ZE X b (aw X.K fb)):ZE X (.Compare a [.Lt] [b] pos) (aw X.K (al DA fa fb)):=by
 exists PE.imp (lm Fg ha hb (dQ _)) (gp KC)
theorem J1 (hu:X.A.units+64 < cLine)(ha:ZE X a (aw X.K fa))(hb:ZE X b (aw X.K fb)):ZE X (.Compare a [.Eq] [b] pos) (aw X.K (al (fL false) fa fb)):=by
 exists PE.imp (lm (qK hu) ha hb (dQ _)) (gp DN)
theorem Mu (hu:X.A.units+64 < cLine)(ha:ZE X a (aw X.K fa))(hb:ZE X b (aw X.K fb)):ZE X (.Compare a [.NotEq] [b] pos) (aw X.K (al (fL true) fa fb)):=by
 exists PE.imp (lm (u5 hu) ha hb (dQ _)) (gp DN)
theorem JZ {j}(ha:ZE X a (aw X.K fa)):ZE X (.Compare a [.Is] [.Constant .none j p] pos) (aw X.K (iE (ng false .non) fa)):=by
 exists PE.imp (lm sU ha qH (dQ _)) (E6 (.inl ⟨rfl,rfl⟩))
theorem sH {rest:Tj}(ha:ZE X a (aw X.K fa))(hb:ZE X (.BoolOp .And (b::rest) pos) (aw X.K fb)):ZE X (.BoolOp .And (a::b::rest) pos) (aw X.K (tW fa fb)):=by
 exists PE.imp (G0 ha hb) GE
theorem JW {rest:Tj}(ha:ZE X a (aw X.K fa))(hb:ZE X (.BoolOp .Or (b::rest) pos) (aw X.K fb)):ZE X (.BoolOp .Or (a::b::rest) pos) (aw X.K (KQ fa fb)):=by
 exists PE.imp (Kb ha hb) JD
theorem nV {op}(ha:ZE X a (aw X.K fa)):ZE X (.BoolOp op [a] pos) (aw X.K fa):=by
 exists GW ha
theorem aj:ZA X [] (ij X.K am):=by
 exists PA.imp qJ Gq
theorem ae (ha:ZE X e (aw X.K fa))(hr:ZA X es (ij X.K ga))(hs:o5 e es X:=by exact aE rfl):ZA X (e::es) (ij X.K (af fa ga)):=by
 exists PA.imp (lp ha hr hs) C1
theorem bv {x1}(h:ZA X es (ij X.K ga)):ZE X (.Tuple es x1 pos) (aw X.K (bS ga)):=by
 exists PE.imp (AB h) Gd
theorem gX (h:ZA X es (ij X.K ga)):ZE X (.List es pos) (aw X.K (gk ga)):=by
 exists PE.imp (GY h) Gs
theorem aR (ha:ZE X a (aw X.K fa)):ZE X a (aw X.K (bH fa)):=by
 exists PE.imp (u4 ha) E7
theorem aQ (ha:ZE X a (aw X.K fa))(hb:ZE X b (aw X.K fb))(hs:xt b:=by intro _ _;rfl):ZE X (.Subscript a b pos) (aw X.K (al bq fa fb)):=by
 exists PE.imp (Kc Hr ha hb hs) (gp MJ)
theorem u2:ZO X none (C4 X.K eV):=by
 exists PO.imp Di zS
theorem nW (ha:ZE X a (aw X.K fa)):ZO X (some a) (C4 X.K (dP fa)):=by
 exists R.nW ha
theorem sF {lo hi:Option Expr}{fl fh:FO}(ha:ZE X a (aw X.K fa))(hl:ZO X lo (C4 X.K fl))(hh:ZO X hi (C4 X.K fh)):ZE X (.Subscript a (.Slice lo hi none p2) pos) (aw X.K (tV fa fl fh)):=by
 exists PE.imp (AC F4 ha hl hh) JC
theorem iR (hg:Gl X "len")(hm:X.mg "len" = none)(ha:ZA X (e::es) (ij X.K ga))(he:o5 e es X:=by exact aE rfl)(hpl:(backTo pos (starEach es X.env)).any (·.1)=false:=by exact aS rfl) :
  ZE X (.Call (.Name "len" p) (e::es) [] pos) (aw X.K (fJ fV ga)):=by
 exists PE.imp (dN rE hg hm PySem.boot_len ha (he:=he) (hpl:=hpl)) (gW KE)
theorem Fd (hc:X.calm=true)(hg:Gl X "set")(hm:X.mg "set" = none)(ha:ZA X (e::es) (ij X.K ga))(he:o5 e es X:=by exact aE rfl)(hpl:(backTo pos (starEach es X.env)).any (·.1)=false:=by exact aS rfl) :
  ZE X (.Call (.Name "set" p) (e::es) [] pos) (aw X.K (fJ (uX (!HS.bt X.w)) ga)):=by
 exists PE.imp (eh (yK hc) hg hm (by decide +kernel) ha (he:=he) (hpl:=hpl)) (gW HB)
theorem Ah (hc:X.calm=true)(hg:Gl X "sorted")(hm:X.mg "sorted" = none)(ha:ZA X (e::es) (ij X.K ga))(he:o5 e es X:=by exact aE rfl)(hpl:(backTo pos (starEach es X.env)).any (·.1)=false:=by exact aS rfl) :
  ZE X (.Call (.Name "sorted" p) (e::es) [] pos) (aw X.K (fJ (jD (!HS.bt X.w)) ga)):=by
 exists PE.imp (dN (rA hc) hg hm (by decide +kernel) ha (he:=he) (hpl:=hpl)) (gW yx)
theorem Aj (hc:X.calm=true)(hg:Gl X "dict")(hm:X.mg "dict" = none)(ha:ZA X (e::es) (ij X.K ga))(he:o5 e es X:=by exact aE rfl)(hpl:(backTo pos (starEach es X.env)).any (·.1)=false:=by exact aS rfl) :
  ZE X (.Call (.Name "dict" p) (e::es) [] pos) (aw X.K (fJ oO ga)):=by
 exists PE.imp (eh (yM hc) hg hm (by decide +kernel) ha (he:=he) (hpl:=hpl)) (gW HE)
theorem JX (hc:X.calm=true)(hg:Gl X "max")(hm:X.mg "max" = none)(ha:ZA X (e::es) (ij X.K ga))(he:o5 e es X:=by exact aE rfl)(hpl:(backTo pos (starEach es X.env)).any (·.1)=false:=by exact aS rfl) :
  ZE X (.Call (.Name "max" p) (e::es) [] pos) (aw X.K (fJ vd ga)):=by
 exists PE.imp (dN (yL hc) hg hm (by decide +kernel) ha (he:=he) (hpl:=hpl)) (gW KB)
theorem jG {d:D}(h:gN X.K X.mg x d)(hg:Gl X x:=by rfl)(hd:(x == ("__debug__" : Str))=false:=by decide):ZE X (.Name x pos) (aw X.K (fK d)):=by
 exists R.jG h hg hd
theorem qE (hg:Gl X "tuple")(hm:X.mg "tuple" = none)(ha:ZA X (e::es) (ij X.K ga))(he:o5 e es X:=by exact aE rfl)(hpl:(backTo pos (starEach es X.env)).any (·.1)=false:=by exact aS rfl) :
  ZE X (.Call (.Name "tuple" p) (e::es) [] pos) (aw X.K (fJ qr ga)):=by
 exists PE.imp (eh j5 hg hm (by decide +kernel) ha (he:=he) (hpl:=hpl)) (gW Ku)
theorem Ai (hg:Gl X "list")(hm:X.mg "list" = none)(ha:ZA X (e::es) (ij X.K ga))(he:o5 e es X:=by exact aE rfl)(hpl:(backTo pos (starEach es X.env)).any (·.1)=false:=by exact aS rfl) :
  ZE X (.Call (.Name "list" p) (e::es) [] pos) (aw X.K (fJ pT ga)):=by
 exists PE.imp (eh rC hg hm (by decide +kernel) ha (he:=he) (hpl:=hpl)) (gW HC)
theorem J5 (hc:X.calm=true)(hg:Gl X "all")(hm:X.mg "all" = none)(ha:ZA X (e::es) (ij X.K ga))(he:o5 e es X:=by exact aE rfl)(hpl:(backTo pos (starEach es X.env)).any (·.1)=false:=by exact aS rfl) :
  ZE X (.Call (.Name "all" p) (e::es) [] pos) (aw X.K (fJ (Cc false) ga)):=by
 exists PE.imp (dN (yN hc) hg hm PyProof.Rows.boot_all ha (he:=he) (hpl:=hpl)) (gW KL)
theorem jf {T:String}{y:Str}(hT:o0 X.K T)(hg:Gl X "isinstance")(hm:X.mg "isinstance" = none)(hgT:Gl X y)(hmT:X.mg y=none)(hvT:bootBuiltins y=some (.type T))(ha:ZE X e (aw X.K fa))(hn:y≠"__name__":=by decide)(hdb:(y == ("__debug__" : Str))=false:=by decide)
  (he:starEach (e::[.Name y p2]) X.env=(false,eval e X.env)::starEach [.Name y p2] X.env:=by exact aE rfl) (hpl:(backTo pos (starEach [.Name y p2] X.env)).any (·.1)=false:=by rfl) :
  ZE X (.Call (.Name "isinstance" p) [e,.Name y p2] [] pos) (aw X.K (iE (jn T) fa)):=by
 exists PE.imp (dN (B3 hT) hg hm (by decide +kernel) (lp ha (lp (Dr (v:=.ty T) hgT hmT hvT rfl hn hdb) qJ rfl) he) (he:=he) (hpl:=hpl)) Gu
theorem dI (ha:ZE X a (aw X.K fa))(he:∀whole,isTrue a X.env whole=(do let v ←whole;standAt a.pos;holding [v] (truthy v)):=by intro _;rfl):ZT X a (eQ X.K (d5 fa)):=by
 exists PT.imp (Aq ha he) Gg
theorem FW (ha:ZE X a (aw X.K fa))(hb:ZE X b (aw X.K fb)):ZT X (.Compare a [.Lt] [b] pos) (eQ X.K (fB (al DA fa fb))):=by
 exists R.mz Fg KC ha hb (dQ _)
theorem CB (ha:ZE X a (aw X.K fa))(hb:ZE X b (aw X.K fb)):ZT X (.Compare a [.LtE] [b] pos) (eQ X.K (fB (al Hi fa fb))):=by
 exists R.mz Kf MI ha hb (dQ _)
theorem FX (ha:ZE X a (aw X.K fa))(hb:ZE X b (aw X.K fb)):ZT X (.Compare a [.Gt] [b] pos) (eQ X.K (fB (al Fn fa fb))):=by
 exists R.mz Kg MK ha hb (dQ _)
theorem ph (hu:X.A.units+64 < cLine)(ha:ZE X a (aw X.K fa))(hb:ZE X b (aw X.K fb)):ZT X (.Compare a [.Eq] [b] pos) (eQ X.K (fB (al (fL false) fa fb))):=by
 exists R.mz (qK hu) DN ha hb (dQ _)
theorem lS (hu:X.A.units+64 < cLine)(ha:ZE X a (aw X.K fa))(hb:ZE X b (aw X.K fb)):ZT X (.Compare a [.NotEq] [b] pos) (eQ X.K (fB (al (fL true) fa fb))):=by
 exists R.mz (u5 hu) DN ha hb (dQ _)
theorem Jn (hu:X.A.units+64 < cLine)(ha:ZE X a (aw X.K fa))(hb:ZE X b (aw X.K fb))(hm:behindInMarks .In b=false:=by rfl):ZT X (.Compare a [.In] [b] pos) (eQ X.K (fB (al (DJ false) fa fb))):=by
 exists R.mz (yc.or (yd hu)) KH ha hb hm
theorem wf {j}(ha:ZE X a (aw X.K fa)):ZT X (.Compare a [.Is] [.Constant .none j p] pos) (eQ X.K (fB (iE (ng false .non) fa))):=by
 exists R.Jm (.inl ⟨rfl,rfl⟩) sU ha qH (dQ _)
theorem zp {j}(ha:ZE X a (aw X.K fa)):ZT X (.Compare a [.IsNot] [.Constant .none j p] pos) (eQ X.K (fB (iE (ng true .non) fa))):=by
 exists R.Jm (.inl ⟨rfl,rfl⟩) sS ha qH (dQ _)
variable  {ta tb:FT}{rest:Tj}
theorem fO (ha:ZT X a (eQ X.K ta)):ZT X (.UnaryOp .Not a pos) (eQ X.K (d8 ta)):=by
 exists PT.imp (GN ha) CT
theorem nt (ha:ZT X a (eQ X.K ta))(hb:ZW X (.BoolOp .And (b::rest) pos) (eQ X.K tb)):ZW X (.BoolOp .And (a::b::rest) pos) (eQ X.K (eT ta tb)):=by
 exists PW.imp (GM ha hb) CU
theorem kW (ha:ZT X a (eQ X.K ta))(hb:ZW X (.BoolOp .Or (b::rest) pos) (eQ X.K tb)):ZW X (.BoolOp .Or (a::b::rest) pos) (eQ X.K (iZ ta tb)):=by
 exists PW.imp (J7 ha hb) Gh
theorem j7 (ha:ZT X a (eQ X.K ta)):ZW X (.BoolOp .And [a] pos) (eQ X.K ta):=by
 exists Da ha
theorem kU (ha:ZT X a (eQ X.K ta)):ZW X (.BoolOp .Or [a] pos) (eQ X.K ta):=by
 exists GL ha
theorem uB (h:ZW X a (eQ X.K ta)):ZT X a (eQ X.K ta):=by
 exists h.pt
theorem J0 {c:Expr}(hc:ZT X c (eQ X.K ta))(ha:ZE X a (aw X.K fa))(hb:ZE X b (aw X.K fb)):ZE X (.IfExp c a b pos) (aw X.K (HJ ta fa fb)):=by
 exists PE.imp (AD hc ha hb) JF
variable  {st:Stmt}{sts aa bb:Tk}{sa sb:FS}{c tg iter:Expr}
theorem aX:Ce X [] (gg X.K aD):=by
 exists o9.imp Df CW
theorem ah (h1:ZS X st (gg X.K sa))(h2:Ce X sts (gg X.K sb)):Ce X (st::sts) (gg X.K (ar sa sb)):=by
 exists o9.imp (Ar h1 h2) Gj
theorem ao (h1:ZS X st (gg X.K sa)):Ce X [st] (gg X.K sa):=by
 exists De h1
theorem mW:ZS X st (gg X.K qB):=by
 exists R.mW
theorem gE (he:ZE X e (aw X.K fa))(hs:swapsWith e none pos.line X.env=pure false:=by rfl):ZS X (.Expr e pos) (gg X.K (eU fa)):=by
 exists PS.imp (Dg he hs) C0
theorem aM (he:ZE X e (aw X.K fa)):ZS X (.Return (some e) pos) (gg X.K (bo fa)):=by
 exists PS.imp (GQ he) Gm
theorem bM (hc:ZT X c (eQ X.K ta))(ha:Ce X aa (gg X.K sa))(hb:Ce X bb (gg X.K sb)):ZS X (.If c aa bb pos) (gg X.K (dj ta sa sb)):=by
 exists PS.imp (J8 hc ha hb) Gv
theorem ay (i:Nat){pos':Pos}(hN:X.N.Nodup)(he:ZE X e (aw X.K fa))(hi:X.N[i]?=some x:=by rfl)(hx:Ep X.env.scope x:=by first|exact Or.inl rfl|exact Or.inr rfl)(hs:swapsWith e (some (.Name x pos')) pos.line X.env=pure false:=by rfl)(hf:X.fn x=true\/X.env.scope.names.lookup x=some .local:=by first|exact .inl rfl|exact .inr rfl) :
  ZS X (.Assign [.Name x pos'] e pos) (gg X.K (aF i fa)):=by
 exists PS.imp (GO hN hi hx he hs hf) zQ
variable  {g:FG}{gs:Fx}{fi:FI}
theorem cj (i:Nat)(hN:X.N.Nodup)(hi:X.N[i]?=some x:=by rfl)(hx:Ep X.env.scope x:=by first|exact Or.inl rfl|exact Or.inr rfl)(hf:X.fn x=true\/X.env.scope.names.lookup x=some .local:=by first|exact .inl rfl|exact .inr rfl):ZG X (.Name x pos) (qC X.K (bI i)):=by
 exists PG.imp (Do hN hi hx hf) Gz
theorem gK:Ma X [] (sB X.K bZ):=by
 exists Cp.imp Dm zT
theorem bA (h1:ZG X e (qC X.K g))(h2:Ma X es (sB X.K gs))(hs:(assignEach (e::es) X.env).map (·.2)=assign e X.env::(assignEach es X.env).map (·.2):=by exact ut rfl):Ma X (e::es) (sB X.K (aB g gs)):=by
 exists Cp.imp (AA h1 h2 hs) xN
theorem pw {k n:Nat}(hc:X.calm=true)(h:Ma X es (sB X.K gs))(hn:(assignEach es X.env).length=n:=by rfl)(hst:(assignEach es X.env).findIdx? (·.1)=none:=by rfl):ZG X (.Tuple es k pos) (qC X.K (lL n gs)):=by
 exists PG.imp (GS hc h hn hst) Gy
theorem dD (ha:ZE X a (aw X.K fa)):ZI X tg a (zX X.K (cN fa)):=by
 exists PI.imp (Dl (u4 ha)) CY
theorem DK (hg:Gl X "range")(hm:X.mg "range" = none)(ha:ZE X a (aw X.K fa))(hs:starEach [a] X.env=[(false,eval a X.env)]:=by exact aE rfl):ZI X tg (.Call (.Name "range" p) [a] [] pos) (zX X.K (vG fa)):=by
 exists PI.imp (xZ hg hm (ae ha aj hs) hs) Gw
theorem F5 (hc:X.calm=true)(hi:ZI X tg iter (C5 X.K fi))(hg:ZG X tg (qC X.K g))(hb:Ce X aa (gg X.K sa))(hp:PassesOwn (model X.prog X.w) X.A X.env X.xe)(hs:∀x,foldedSetIterable iter X.env x=pure x:=by intro _;rfl):ZS X (.For tg iter aa [] pos) (gg X.K (gU fi g sa)):=by
 exists PS.imp (As hp hc hi hg hb hs) CZ
theorem gm (hc:X.calm=true)(hi:ZI X tg iter (zX X.K fi))(hg:ZG X tg (qC X.K g))(hb:Ce X aa (gg X.K sa))(hp:PassesOwn (model X.prog X.w) X.A X.env X.xe)(hs:∀x,foldedSetIterable iter X.env x=pure x:=by intro _;rfl):ZS X (.For tg iter aa [] pos) (gg X.K (gU fi g sa)):=by
 exists PS.imp (As hp hc hi hg hb hs) GA
theorem sv (he:ZE X e (aw X.K fa))(hg:ZG X tg (qC X.K g))(hs:swapsWithSole [tg] e pos.line X.env=pure false:=by rfl)(hw:swappedStores [tg] e X.env=pure none:=by rfl)(h1:(assignEach [tg] X.env).map (·.2)=[assign tg X.env]:=by rfl):ZS X (.Assign [tg] e pos) (gg X.K (sw fa g)):=by
 exists PS.imp (GR he hg hs hw h1) GD
theorem oF:Eh X [] (eQ X.K jv):=by
 exists R.mU.imp Ax Gb
theorem Bx (h:ZT X c (eQ X.K ta)):Eh X [c] (eQ X.K ta):=by
 exists Aw h
theorem ik {ifs:Tj}{scope:Scope}(ix:List Nat)(own caps:Tn)(hc:X.calm=true)(n:aN X.env.scope scope own caps)(hi:ZI X tg iter (zX X.K fi))
  (hb:∀cl C s₂ H₂ fp,ZG (aL X scope cl C s₂ H₂ fp (own++caps)) tg (qC X.K g)/\Eh (aL X scope cl C s₂ H₂ fp (own++caps)) ifs (eQ X.K ta)/\ZE (aL X scope cl C s₂ H₂ fp (own++caps)) e (aw X.K fa))
  (hix:ix.map (fun i=>X.N[i]?)=caps.map some:=by rfl)
  (hs:∀x,foldedSetIterable iter X.env x=pure x:=by intro _;rfl):ZE X (.ListComp e [⟨tg,iter,ifs,0⟩] scope pos) (aw X.K (eW ix own.length fi g ta fa)):=by
 exists R.ik ix own caps hc n hi hb hix hs
theorem nQ (i:Nat){py spos:Pos}{ifs:Tj}{scope:Scope}(ix:List Nat)(own caps:Tn)(hc:X.calm=true)(n:aN X.env.scope scope own caps)(hN:X.N.Nodup)(hi:ZI X tg iter (zX X.K fi))
  (hb:∀cl C s₂ H₂ fp,ZG (aL X scope cl C s₂ H₂ fp (own++caps)) tg (qC X.K g)/\Eh (aL X scope cl C s₂ H₂ fp (own++caps)) ifs (eQ X.K ta)/\ZE (aL X scope cl C s₂ H₂ fp (own++caps)) e (aw X.K fa))
  (hsw:swapsWith (.ListComp e [⟨tg,iter,ifs,0⟩] scope pos) (some (.Name x py)) spos.line X.env=pure true:=by rfl)
  (hy:X.N[i]?=some x:=by rfl) (hyl:Ep X.env.scope x:=by first|exact Or.inl rfl|exact Or.inr rfl)
  (hix:ix.map (fun i=>X.N[i]?)=caps.map some:=by rfl)
  (hs:∀x,foldedSetIterable iter X.env x=pure x:=by intro _;rfl) (hf:X.fn x=true\/X.env.scope.names.lookup x=some .local:=by first|exact .inl rfl|exact .inr rfl) :
  ZS X (.Assign [.Name x py] (.ListComp e [⟨tg,iter,ifs,0⟩] scope pos) spos) (gg X.K (aF i (eW ix own.length fi g ta fa))):=by
 exists R.nQ i ix own caps hc n hN hi hb hsw hy hyl hix hs hf
end
theorem okP {P:Program}{w:World}{K:zac}{mg:Td}{base:Heap}{x:Str}{st:Stmt}{N ps:Tn}{k:Nat}{b:FS}(d:bF K mg x st ps)(S:aC N ps (ai st))
  (hbody:∀(f:Addr) (cdv:Value) (A:Around) (outer:List Env) (s:Shared) (H:Hp) (E:XK),da k (A.deeper (envOfC x (ai st) s.heap.objs.size f cdv))->Ce (mn mK P w K mg base N x (ai st) f cdv A outer s H E).nox (ck st) (gg K b)) :
  bg P w K mg base (k+1) x ps (dM N.length b):=by
 exists R.okP d S hbody
theorem az {X:Cx}{k:Nat}{x:Str}{ps:Tn}{mf:MF}{e:Expr}{es:Tj}{ga:FA}{p pos:Pos}{n:Nat}(F:bg X.prog X.w X.K X.mg X.base k x ps mf)(hr:da k X.A)(ha:ZA X (e::es) (ij X.K ga))(hg:Gl X x:=by rfl)(hn:ps.length=n:=by rfl)
  (hdb:(x == ("__debug__" : Str))=false:=by decide) (he:o5 e es X:=by exact aE rfl) (hpl:(backTo pos (starEach es X.env)).any (·.1)=false:=by exact aS rfl) :
  ZE X (.Call (.Name x p) (e::es) [] pos) (aw X.K (aH mf n ga)):=by
 exists R.az F hr ha hg hn hdb he hpl
theorem qF {X:Cx}{k:Nat}{x:Str}{ps:Tn}{mf:MF}{e:Expr}{es:Tj}{ga:FA}{p pos:Pos}{n:Nat}(F:bg X.prog X.w X.K X.mg X.base k x ps mf)(hr:da k X.A)(ha:ZA X (e::es) (ij X.K ga))(hg:Gl X x:=by rfl)(hn:ps.length=n:=by rfl)
  (hdb:(x == ("__debug__" : Str))=false:=by decide) (he:o5 e es X:=by exact aE rfl) (hpl:(backTo pos (starEach es X.env)).any (·.1)=false:=by exact aS rfl) :
  ZE X (.Call (.Name x p) (e::es) [] pos) (aw X.K (oH mf n ga)):=by
 exists R.qF F hr ha hg hn hdb he hpl
theorem okN {P:Program}{w:World}{K:zac}{mg:Td}{base:Heap}{x:Str}{st:Stmt}{N ps:Tn}{k:Nat}{b:FS}(d:bF K mg x st ps)(S:aC N ps (ai st))
  (hbody:∀(f:Addr) (cdv:Value) (A:Around) (outer:List Env) (s:Shared) (H:Hp) (E:XK),da k (A.deeper (envOfC x (ai st) s.heap.objs.size f cdv))->Ce (mn mK P w K mg base N x (ai st) f cdv A outer s H E).nox (ck st) (gg K b)) :
  eL P w K mg base (k+1) x ps (sx N.length b):=by
 exists R.okN d S hbody
theorem e6 {X:Cx}{k:Nat}{x:Str}{ps:Tn}{mf:MC}{e:Expr}{es:Tj}{ga:FA}{p pos:Pos}{n:Nat}(F:eL X.prog X.w X.K X.mg X.base k x ps mf)(hr:da k X.A)(ha:ZA X (e::es) (ij X.K ga))(hg:Gl X x:=by rfl)(hn:ps.length=n:=by rfl)
  (hdb:(x == ("__debug__" : Str))=false:=by decide) (he:o5 e es X:=by exact aE rfl) (hpl:(backTo pos (starEach es X.env)).any (·.1)=false:=by exact aS rfl) :
  ZE X (.Call (.Name x p) (e::es) [] pos) (aw X.K (fY mf n ga)):=by
 exists R.e6 F hr ha hg hn hdb he hpl
theorem GI {X:Cx}{e:Expr}{es:Tj}{ga:FA}{p pos:Pos}(hg:Gl X "tuple")(hm:X.mg "tuple" = none)(ha:ZA X (e::es) (ij X.K ga))(he:o5 e es X:=by exact aE rfl)(hpl:(backTo pos (starEach es X.env)).any (·.1)=false:=by exact aS rfl):ZE X (.Call (.Name "tuple" p) (e::es) [] pos) (aw X.K (fJ A7 ga)):=by
 exists PE.imp (eh j5 hg hm (by decide +kernel) ha (he:=he) (hpl:=hpl)) (gW KF)
theorem J2 {X:Cx}{pos:Pos}:ZE X (.Dict [] [] pos) (aw X.K DV):=by
 exists PE.imp sQ GB
theorem Kw {X : Cx} {a b : Expr} {fa fb : FE} {pos : Pos} (hu : X.A.units + 64 < cLine) (ha : ZE X a (aw X.K fa)) (hb : ZE X b (aw X.K fb)) (hq : ∀ v, assign (.Subscript a b pos) X.env v = (do
      let ov ← holding [v] (eval a X.env)
      let iv ← holding [v, ov] (eval b X.env)
      standAt pos
      holding [v, ov, iv] (setItem ov iv v)
      release [v, ov, iv] []) := by intro _; rfl) : ZG X (.Subscript a b pos) (qC X.K (tO fa fb)) := by
  exists PG.imp (GT ha hb (xH (by omega)) hq) zU
theorem JU {X:Cx}{a b:Expr}{fa fb:FE}{pos:Pos}(hu:X.A.units+64 < cLine)(ha:ZE X a (aw X.K fa))(hb:ZE X b (aw X.K fb))(hs:Eo b:=by intro _ _;rfl):ZE X (.Subscript a b pos) (aw X.K (Bz fa fb)):=by
 exists PE.imp (wA (by omega) ha hb hs) Gi
theorem xQ {X:Cx}{e:Expr}{es:Tj}{ga:FA}{p pos:Pos}(hc:X.calm=true)(hg:Gl X "sorted")(hm:X.mg "sorted" = none)(ha:ZA X (e::es) (ij X.K ga))(he:o5 e es X:=by exact aE rfl)(hpl:(backTo pos (starEach es X.env)).any (·.1)=false:=by exact aS rfl) :
  ZE X (.Call (.Name "sorted" p) (e::es) [] pos) (aw X.K (fJ xF ga)):=by
 exists PE.imp (dN (lH hc) hg hm (by decide +kernel) ha (he:=he) (hpl:=hpl)) (gW Hy)
theorem J6 {X:Cx}{e:Expr}{fa:FE}{p pos p2 pos2:Pos}(hc:X.calm=true)(hu:X.A.units+64 < cLine)(hg:Gl X "sorted")(hm:X.mg "sorted" = none)(hg2:Gl X "set")(hm2:X.mg "set" = none)(ha:ZE X e (aw X.K fa))(hs:l7 e=false:=by rfl) :
  ZE X (.Call (.Name "sorted" p) [.Call (.Name "set" p2) [e] [] pos2] [] pos) (aw X.K (DU fa)):=by
 exists PE.imp (dN (uj hc) hg hm (by decide +kernel) (lp (eh (vR hc hu) hg2 hm2 (by decide +kernel) (lp ha qJ (aE hs)) (he:=aE hs)) qJ)) GF
theorem GH {X:Cx}{o e f:Expr}{fa fb fc:FE}{apos cpos:Pos}(hu:X.A.units+64 < cLine)(ho:ZE X o (aw X.K fa))(he:ZE X e (aw X.K fb))(hf:ZE X f (aw X.K fc))(m:M2 X o "setdefault" apos e f cpos:=by exact ⟨rfl,rfl,rfl,rfl⟩) :
  ZE X (.Call (.Attribute o "setdefault" apos) [e,f] [] cpos) (aw X.K (oG fa fb fc)):=by
 exists PE.imp (wz (by omega) ho he hf m) CV
theorem J3 {X:Cx}{pos:Pos}:ZE X (.Dict [] [] pos) (aw X.K DW):=by
 exists PE.imp sQ GC
theorem JT {X:Cx}{a b:Expr}{fa fb:FE}{pos:Pos}(hu:X.A.units+64 < cLine)(ha:ZE X a (aw X.K fa))(hb:ZE X b (aw X.K fb))(hs:Eo b:=by intro _ _;rfl):ZE X (.Subscript a b pos) (aw X.K (By fa fb)):=by
 exists PE.imp (wA (by omega) ha hb hs) Ge
theorem xR {X:Cx}{e:Expr}{es:Tj}{ga:FA}{p pos:Pos}(hc:X.calm=true)(hg:Gl X "sorted")(hm:X.mg "sorted" = none)(ha:ZA X (e::es) (ij X.K ga))(he:o5 e es X:=by exact aE rfl)(hpl:(backTo pos (starEach es X.env)).any (·.1)=false:=by exact aS rfl) :
  ZE X (.Call (.Name "sorted" p) (e::es) [] pos) (aw X.K (fJ pJ ga)):=by
 exists PE.imp (dN (lH hc) hg hm (by decide +kernel) ha (he:=he) (hpl:=hpl)) (gW DM)
theorem DL {X:Cx}{elts:Tj}{x1}{pt apos cpos:Pos}{o:Expr}{fa:FE}(ho:ZE X o (aw X.K fa))(hbase:attributeBase o "items" X.env (eval o X.env)=eval o X.env:=by rfl)(hline:(apos.endLine == cpos.line)=true:=by rfl):ZI X (.Tuple elts x1 pt) (.Call (.Attribute o "items" apos) [] [] cpos) (C5 X.K (DT fa)):=by
 exists PI.imp (Az (u4 ho) hbase hline) Gx
theorem C9 {X:Cx}{e:Expr}{es:Tj}{ga:FA}{p pos:Pos}(hu:X.A.units+64 < cLine)(hc:X.calm=true)(hg:Gl X "dict")(hm:X.mg "dict" = none)(ha:ZA X (e::es) (ij X.K ga))(he:o5 e es X:=by exact aE rfl)(hpl:(backTo pos (starEach es X.env)).any (·.1)=false:=by exact aS rfl) :
  ZE X (.Call (.Name "dict" p) (e::es) [] pos) (aw X.K (fJ p6 ga)):=by
 exists PE.imp (eh (vS hu hc) hg hm (by decide +kernel) ha (he:=he) (hpl:=hpl)) (gW DO)
theorem JV {X:Cx}{o e f:Expr}{fa fb fc:FE}{apos cpos:Pos}(hu:X.A.units+64 < cLine)(ho:ZE X o (aw X.K fa))(he:ZE X e (aw X.K fb))(hf:ZE X f (aw X.K fc))(m:M2 X o "setdefault" apos e f cpos:=by exact ⟨rfl,rfl,rfl,rfl⟩) :
  ZE X (.Call (.Attribute o "setdefault" apos) [e,f] [] cpos) (aw X.K (yA fa fb fc)):=by
 exists PE.imp (wz (by omega) ho he hf m) Gk
theorem xS {X:Cx}{e:Expr}{es:Tj}{ga:FA}{p pos:Pos}(hg:Gl X "sorted")(hm:X.mg "sorted" = none)(ha:ZA X (e::es) (ij X.K ga))(he:o5 e es X:=by exact aE rfl)(hpl:(backTo pos (starEach es X.env)).any (·.1)=false:=by exact aS rfl) :
  ZE X (.Call (.Name "sorted" p) (e::es) [] pos) (aw X.K (fJ zB ga)):=by
 exists PE.imp (dN rB hg hm (by decide +kernel) ha (he:=he) (hpl:=hpl)) (gW Hz)
theorem Ak {X:Cx}{a:Expr}{fa:FE}(ha:ZE X a (aw X.K fa)):ZE X a (aw X.K (vH fa)):=by
 exists PE.imp ha JG
theorem GG {X:Cx}{es:Tj}{ga:FA}{x1}{pos:Pos}(h:ZA X es (ij X.K ga)):ZE X (.Tuple es x1 pos) (aw X.K (p5 ga)):=by
 exists PE.imp (AB h) CS
theorem GK {X:Cx}{a b:Expr}{fa fb:FE}{pos:Pos}(ha:ZE X a (aw X.K fa))(hb:ZE X b (aw X.K fb)):ZE X (.BinOp a .Add b pos) (aw X.K (al vX fa fb)):=by
 exists PE.imp (mC (wC.or wD) ha hb) (gp HG)
theorem Ff {X:Cx}{a b:Expr}{fa fb:FE}{pos:Pos}(hu:X.A.units+64 < cLine)(ha:ZE X a (aw X.K fa))(hb:ZE X b (aw X.K fb)):ZE X (.Compare a [.Eq] [b] pos) (aw X.K (al (iH false) fa fb)):=by
 exists PE.imp (lm (qK hu) ha hb (dQ _)) (gp Bq)
theorem my {X:Cx}{a b:Expr}{fa fb:FE}{pos:Pos}(hu:X.A.units+64 < cLine)(ha:ZE X a (aw X.K fa))(hb:ZE X b (aw X.K fb)):ZT X (.Compare a [.Eq] [b] pos) (eQ X.K (fB (al (iH false) fa fb))):=by
 exists R.mz (qK hu) Bq ha hb (dQ _)
theorem zq {X:Cx}{a b:Expr}{fa fb:FE}{pos:Pos}(hu:X.A.units+64 < cLine)(ha:ZE X a (aw X.K fa))(hb:ZE X b (aw X.K fb)):ZT X (.Compare a [.NotEq] [b] pos) (eQ X.K (fB (al (iH true) fa fb))):=by
 exists R.mz (u5 hu) Bq ha hb (dQ _)
section
variable  {X:Cx}{e o:Expr}{es:Tj}{fa:FE}{ga:FA}{apos cpos:Pos}
theorem lj (ho:ZE X o (aw X.K fa))(ha:ZA X (e::es) (ij X.K ga))(hbase:attributeBase o "append" X.env (eval o X.env)=eval o X.env:=by rfl)
  (hfew:((backTo cpos (starEach (e::es) X.env)).all (fun x=>!x.1) && (backToKw cpos (keywordEach [] X.env)).all (fun x=>x.1.isSome)
   && decide ((e::es).length+([]:List Keyword).length+(if ([]:List Keyword).isEmpty then 0 else 1) < 30))=true:=by rfl)
  (hline:(apos.endLine == cpos.line)=true:=by rfl) (hs:o5 e es X:=by exact aE rfl) (hplain:(backTo cpos (starEach es X.env)).any (·.1)=false:=by exact aS rfl) :
  ZE X (.Call (.Attribute o "append" apos) (e::es) [] cpos) (aw X.K (yB jY fa ga)):=by
 exists PE.imp (Kd PySem.F.plainAttrs_list PySem.F.slot_list_append PySem.F.type_list_append yg ho ha hbase hfew hline hs hplain) (JE KK)
end
theorem HI {P:Program}{w:World}{K:zac}{mg:Td}{base:Heap}{x qual:Str}{st:Stmt}{f:Addr}{fd:FuncData}{N ps:Tn}{k:Nat}{b:FS}(F:rN K x qual st f fd)(S:aC N ps (ai st))
  (hbody:∀(cdv:Value) (A:Around) (outer:List Env) (s:Shared) (H:Hp) (E:XK),da k (A.deeper (envOfC qual (ai st) s.heap.objs.size f cdv))->Ce (mn mK P w K mg base N qual (ai st) f cdv A outer s H E).nox (ck st) (gg K b)) :
  cP P w K mg base mK (k+1) f fd ps (yV K ps.length (dM N.length b)):=by
 exists rN.okP F S hbody
theorem OU {P:List Value->Prop}(h:P []):∀us:Te,us.length=0->P us:=fun us e=>by rw [zce.mp e];exact h
theorem Iw {P:List Value->Prop}{n:Nat}(h:∀a us,us.length=n->P (a::us)):∀us:Te,us.length=n+1->P us:=fun us e=>by
 cases us with
 |nil=>cases e
 |cons a us=>exact h a us (Nat.succ.inj e)
theorem yU {P:List Value->Prop}(h:∀a,P [a]):∀us:Te,us.length=1->P us:=Iw fun a=>OU (P:=fun us=>P (a::us)) (h a)
theorem FD {P:List Value->Prop}(h:∀a b,P [a,b]):∀us:Te,us.length=2->P us:=Iw fun a=>yU (P:=fun us=>P (a::us)) (h a)
theorem Cr {P:List Value->Prop}(h:∀a b c,P [a,b,c]):∀us:Te,us.length=3->P us:=Iw fun a=>FD (P:=fun us=>P (a::us)) (h a)
theorem Mk {P:List Value->Prop}(h:∀a b c d,P [a,b,c,d]):∀us:Te,us.length=4->P us:=Iw fun a=>Cr (P:=fun us=>P (a::us)) (h a)
theorem N7 {P:List Value->Prop}(h:∀a b c d e,P [a,b,c,d,e]):∀us:Te,us.length=5->P us:=Iw fun a=>Mk (P:=fun us=>P (a::us)) (h a)
theorem OT {P:List Value->Prop}(h:∀a b c d e f,P [a,b,c,d,e,f]):∀us:Te,us.length=6->P us:=Iw fun a=>N7 (P:=fun us=>P (a::us)) (h a)
section
variable  {K:zac}{h:Heap}{mg:Td}{x:Str}{st:Stmt}{ps:Tn}
def FK (K:zac)(x:Str)(st:Stmt):Prop:=∃f:Addr,PySem.W.nsIn K mainGlobals x=some (some (.ref f))/\∃(oc:Value) (od:Option Addr) (kV dc pm:Value) (an:Option Addr) (cd ct:Value) (sl:Array (Tg)),
 K.lookup f=some ⟨oc,od,.func (PySem.W.fnOf x x (iI st) (ck st) (ai st) .none kV dc pm an cd ct),sl⟩/\PySem.W.codeIn K cd x=true/\PySem.W.keepIn K (.ref f)=true
abbrev Fy (x:Str)(st:Stmt)(ps:Tn):Prop:=∀(kV doc pm:Value) (an:Option Addr) (cdv ct:Value) (us:Te),us.length=ps.length->bindArgs (PySem.W.fnOf x x (iI st) (ck st) (ai st) .none kV doc pm an cdv ct) ⟨us,[]⟩=pure (ps.zip us)
theorem FK.at_ (a:FK K x st)(X:K.In h)(G:h.Ns mainGlobals mg)(hb:Fy x st ps):bF K mg x st ps:=by
 obtain ⟨f,a,oc,od,kV,dc,pm,an,cd,ct,sl,l,c,k⟩:=a;have F:=Bs l c k;exact ⟨_,_,F,F.binds hb,zcT X G a⟩
theorem FK.law {fa:Addr}(a:FK K x st)(X:K.In h)(G:h.Ns mainGlobals mg)(e:mg x=some (.ref fa))(hb:Fy x st ps):∃fd,rN K x x st fa fd/\∀(s:Shared) (us:Te),us.length=ps.length->BindsTo s fd ⟨us,[]⟩ (ps.zip us):=by
 obtain ⟨f,a,oc,od,kV,dc,pm,an,cd,ct,sl,l,c,k⟩:=a;have:=e.symm.trans (zcT X G a);cases this;exact ⟨_,Bs l c k,fun s us hl=>.of_eq (hb _ _ _ _ _ _ us hl)⟩
end
end HW
namespace HW
open PySem L2
section
variable  {ρ:Lo}{μ μ1:ab}{x y:R}{d:D}
theorem iT {ρ:Lo}:ad 0 (some x::ρ) μ=some (x,μ):=rfl
theorem j4 {i:Nat}{o:Option R}{ρ:Lo}:ad (i+1) (o::ρ) μ=ad i ρ μ:=by simp [ad]
theorem HU:fK d ρ μ=some (.v d,μ):=rfl
def Jb (o:Option (R×ab))(g:R->R->ab->Option (R×ab))(fb:FE)(ρ:Lo):Option (R×ab):=o.bind fun a=>(fb ρ a.2).bind fun b=>g a.1 b.1 b.2
def EK (x:R)(o:Option (R×ab))(g:R->R->ab->Option (R×ab)):Option (R×ab):=o.bind fun b=>g x b.1 b.2
theorem oJ {g fa fb}:al g fa fb ρ μ=Jb (fa ρ μ) g fb ρ:=rfl
theorem kF {g fb}:Jb (some (x,μ)) g fb ρ=EK x (fb ρ μ) g:=rfl
theorem kE {g}:EK x (some (y,μ)) g=g x y μ:=rfl
def IS (o:Option (R×ab))(g:R->ab->Option (R×ab)):Option (R×ab):=o.bind fun a=>g a.1 a.2
theorem Ol {g fa}:iE g fa ρ μ=IS (fa ρ μ) g:=rfl
theorem MV {g}:IS (some (x,μ)) g=g x μ:=rfl
theorem kG:am ρ μ=some ([],μ):=rfl
def zj (o:Option (R×ab))(fr:FA)(ρ:Lo):Option (List R×ab):=o.bind fun a=>(fr ρ a.2).bind fun r=>some (a.1::r.1,r.2)
def v9 (x:R)(o:Option (List R×ab)):Option (List R×ab):=o.bind fun r=>some (x::r.1,r.2)
theorem fq {fa fr}:af fa fr ρ μ=zj (fa ρ μ) fr ρ:=rfl
theorem f6 {fr}:zj (some (x,μ)) fr ρ=v9 x (fr ρ μ):=rfl
theorem fZ {xs}:v9 x (some (xs,μ))=some (x::xs,μ):=rfl
def Jk (o:Option (List R×ab))(g:List R->ab->Option (R×ab)):Option (R×ab):=o.bind fun a=>g a.1 a.2
theorem xf {g fa}:fJ g fa ρ μ=Jk (fa ρ μ) g:=rfl
theorem qZ {g xs}:Jk (some (xs,μ)) g=g xs μ:=rfl
def Oa (o:Option (R×ab)):Option (Bool×ab):=o.bind fun a=>match a.1 with|.v (.bl b)=>some (b,a.2)|_=>none
theorem Ib {fa}:fB fa ρ μ=Oa (fa ρ μ):=rfl
theorem BL {b}:Oa (some (.v (.bl b),μ))=some (b,μ):=rfl
def zf (o:Option (R×ab)):Option (Bool×ab):=o.bind fun a=>(y9 a.1 a.2).bind fun b=>some (b,a.2)
theorem BB {fa}:d5 fa ρ μ=zf (fa ρ μ):=rfl
theorem LH {b}:zf (some (.v (.bl b),μ))=some (b,μ):=rfl
theorem LG {xs}:zf (some (.v (.tup xs),μ))=some (!xs.isEmpty,μ):=rfl
def EU (o:Option (Bool×ab))(u:FT)(ρ:Lo):Option (Bool×ab):=o.bind fun c=>if c.1=true then u ρ c.2 else some (false,c.2)
def Ja (o:Option (Bool×ab))(u:FT)(ρ:Lo):Option (Bool×ab):=o.bind fun c=>if c.1=true then some (true,c.2) else u ρ c.2
def EL (o:Option (Bool×ab)):Option (Bool×ab):=o.bind fun c=>some (!c.1,c.2)
theorem LJ {t u}:eT t u ρ μ=EU (t ρ μ) u ρ:=rfl
theorem KS {b u}:EU (some (b,μ)) u ρ=if b=true then u ρ μ else some (false,μ):=rfl
theorem BC {t u}:iZ t u ρ μ=Ja (t ρ μ) u ρ:=rfl
theorem LI {b u}:Ja (some (b,μ)) u ρ=if b=true then some (true,μ) else u ρ μ:=rfl
theorem w5 {t}:d8 t ρ μ=EL (t ρ μ):=rfl
theorem KR {b}:EL (some (b,μ))=some (!b,μ):=rfl
def zl (o:Option (R×ab))(fb:FE)(ρ:Lo):Option (R×ab):=o.bind fun a=>match a.1 with|.v (.bl c)=>if c=true then fb ρ a.2 else some (.v (.bl false),a.2)|_=>none
def EJ (o:Option (R×ab))(fb:FE)(ρ:Lo):Option (R×ab):=o.bind fun a=>match a.1 with|.v (.bl c)=>if c=true then some (.v (.bl true),a.2) else fb ρ a.2|_=>none
def zh (o:Option (R×ab)):Option (R×ab):=o.bind fun a=>match a.1 with|.v (.bl c)=>some (.v (.bl (!c)),a.2)|_=>none
theorem NI {fa fb}:tW fa fb ρ μ=zl (fa ρ μ) fb ρ:=rfl
theorem LX {c fb}:zl (some (.v (.bl c),μ)) fb ρ=if c=true then fb ρ μ else some (.v (.bl false),μ):=rfl
theorem Fr {fa fb}:KQ fa fb ρ μ=EJ (fa ρ μ) fb ρ:=rfl
theorem M6 {c fb}:EJ (some (.v (.bl c),μ)) fb ρ=if c=true then some (.v (.bl true),μ) else fb ρ μ:=rfl
theorem M8 {fa}:mP fa ρ μ=zh (fa ρ μ):=rfl
theorem LL {c}:zh (some (.v (.bl c),μ))=some (.v (.bl (!c)),μ):=rfl
def Jg (o:Option (Bool×ab))(fa fb:FE)(ρ:Lo):Option (R×ab):=o.bind fun c=>if c.1=true then fa ρ c.2 else fb ρ c.2
theorem OE {t fa fb}:HJ t fa fb ρ μ=Jg (t ρ μ) fa fb ρ:=rfl
theorem Nn {c fa fb}:Jg (some (c,μ)) fa fb ρ=if c=true then fa ρ μ else fb ρ μ:=rfl
def v7 (o:Option (List R×ab)):Option (R×ab):=o.bind fun a=>(vals a.1).bind fun ds=>if ds.length<=sizeLine then some (.v (.tup ds),a.2) else none
def v8 (o:Option (List R×ab)):Option (R×ab):=o.bind fun a=>(vals a.1).bind fun ds=>if ds.length<=sizeLine then some (.p a.2.length,a.2++[.lst ds]) else none
theorem BA {fa}:bS fa ρ μ=v7 (fa ρ μ):=rfl
theorem w4 {rs ds}(h:vals rs=some ds)(hl:ds.length<=sizeLine):v7 (some (rs,μ))=some (.v (.tup ds),μ):=by simp [v7,h,hl]
theorem HR {fa}:gk fa ρ μ=v8 (fa ρ μ):=rfl
theorem D0 {rs ds}(h:vals rs=some ds)(hl:ds.length<=sizeLine):v8 (some (rs,μ))=some (.p μ.length,μ++[.lst ds]):=by simp [v8,h,hl]
def rZ (o:Option (R×ab)):Option (R×ab):=o.bind fun a=>(DP a.1 a.2).bind fun b=>some (.v b.1,b.2)
theorem xa {fa}:bH fa ρ μ=rZ (fa ρ μ):=rfl
theorem BH:rZ (some (.v d,μ))=some (.v d,μ):=rfl
theorem HZ {n xs}(h:μ[n]?=some (.lst xs)):rZ (some (.p n,μ))=some (.v (.fl xs),μ.set n (.fz xs)):=by simp [rZ,DP,h]
def lR (o:Option (List R×ab))(f:MF)(n:Nat):Option (R×ab):=o.bind fun a=>(vals a.1).bind fun ds=>if ds.length=n then (f ds).bind fun d=>some (.v d,a.2) else none
theorem nh {f n fa}:aH f n fa ρ μ=lR (fa ρ μ) f n:=rfl
theorem BK {f:MF}{n rs ds}(h:vals rs=some ds)(hl:ds.length=n)(hf:f ds=some d):lR (some (rs,μ)) f n=some (.v d,μ):=by simp [lR,h,hl,hf]
theorem DZ:aD ρ μ=some (.nx ρ μ):=rfl
def Lr (o:Option nq)(b:FS):Option nq:=o.bind fun o=>match o with|.nx ρ' μ'=>b ρ' μ'|o=>some o
theorem mj {a b}:ar a b ρ μ=Lr (a ρ μ) b:=rfl
theorem iF {b}:Lr (some (.nx ρ μ)) b=b ρ μ:=rfl
theorem LK {b}:Lr (some (.rt x μ)) b=some (.rt x μ):=rfl
def zi (o:Option (R×ab))(ρ:Lo):Option nq:=o.bind fun a=>some (.nx ρ a.2)
theorem D3 {f}:eU f ρ μ=zi (f ρ μ) ρ:=rfl
theorem BJ:zi (some (x,μ)) ρ=some (.nx ρ μ):=rfl
def EI (o:Option (R×ab)):Option nq:=o.bind fun a=>some (.rt a.1 a.2)
theorem HM {f}:bo f ρ μ=EI (f ρ μ):=rfl
theorem DY:EI (some (x,μ))=some (.rt x μ):=rfl
def pF (o:Option (Bool×ab))(a b:FS)(ρ:Lo):Option nq:=o.bind fun c=>if c.1=true then a ρ c.2 else b ρ c.2
theorem oK {t a b}:dj t a b ρ μ=pF (t ρ μ) a b ρ:=rfl
theorem HV {a b}:pF (some (true,μ)) a b ρ=a ρ μ:=rfl
theorem HY {a b}:pF (some (false,μ)) a b ρ=b ρ μ:=rfl
def EH (o:Option (R×ab))(i:Nat)(ρ:Lo):Option nq:=o.bind fun a=>some (.nx (ρ.set i (some a.1)) a.2)
theorem oI {i f}:aF i f ρ μ=EH (f ρ μ) i ρ:=rfl
theorem lE {i}:EH (some (x,μ)) i ρ=some (.nx (ρ.set i (some x)) μ):=rfl
def EO (o:Option (List D×ab))(g:FG)(b:FS)(ρ:Lo):Option nq:=o.bind fun a=>cR g b a.1 ρ a.2
theorem BI {i g b}:gU i g b ρ μ=EO (i ρ μ) g b ρ:=Eq.trans rfl rfl
theorem xb {xs g b}:EO (some (xs,μ)) g b ρ=cR g b xs ρ μ:=Eq.trans rfl rfl
def zg (o:Option (R×ab)):Option (List D×ab):=o.bind fun a=>match a.1 with|.v (.fl xs)=>some (xs,a.2)|.v (.tup xs)=>some (xs,a.2)|_=>none
theorem w9 {f}:cN f ρ μ=zg (rZ (f ρ μ)):=rfl
theorem BF {xs}:zg (some (.v (.fl xs),μ))=some (xs,μ):=rfl
theorem BE {xs}:zg (some (.v (.tup xs),μ))=some (xs,μ):=rfl
def I0 (o:Option (R×ab)):Option (List D×ab):=o.bind fun a=>match a.1 with|.v (.int j)=>if -(2 ^ 62)<=j/\j < 2 ^ 62 then some ((List.range j.toNat).map fun i=>.int (i:Nat),a.2) else none|_=>none
theorem KU {f}:vG f ρ μ=I0 (f ρ μ):=Eq.trans rfl rfl
theorem qW {j:Int}(h : -(2 ^ 62)<=j/\j < 2 ^ 62):I0 (some (.v (.int j),μ))=some ((List.range j.toNat).map fun i=>.int (i:Nat),μ):=by
 show (if -(2 ^ 62)<=j/\j < 2 ^ 62 then _ else _)=_
 rw [if_pos h]
def qt (o:Option (List D×ab))(ix:List Nat)(k:Nat)(g:FG)(c:FT)(f:FE)(ρ:Lo):Option (R×ab):=o.bind fun a=>if a.1.length<=sizeLine then
 (b7 g c f a.1 (dh k ix ρ) a.2).bind fun r=>some (.p r.2.length,r.2++[.lst r.1]) else none
theorem D4 {ix k i g c f}:eW ix k i g c f ρ μ=qt (i ρ μ) ix k g c f ρ:=Eq.trans rfl rfl
theorem tY {xs:List D}{ix k g c f r}(hl:xs.length<=sizeLine)(h:b7 g c f xs (dh k ix ρ) μ=some (r,μ1)):qt (some (xs,μ)) ix k g c f ρ=some (.p μ1.length,μ1++[.lst r]):=by simp [qt,h,hl]
theorem MM:jv ρ μ=some (true,μ):=rfl
def IW (o:Option (R×ab))(fl fh:FO)(ρ:Lo):Option (R×ab):=o.bind fun a=>(fl ρ a.2).bind fun l=>(fh ρ l.2).bind fun h=>E4 a.1 l.1 h.1 h.2
def EG (x:R)(o:Option (Option Int×ab))(fh:FO)(ρ:Lo):Option (R×ab):=o.bind fun l=>(fh ρ l.2).bind fun h=>E4 x l.1 h.1 h.2
def EF (x:R)(l:Option Int)(o:Option (Option Int×ab)):Option (R×ab):=o.bind fun h=>E4 x l h.1 h.2
theorem Oo {fa fl fh}:tV fa fl fh ρ μ=IW (fa ρ μ) fl fh ρ:=rfl
theorem M5 {fl fh}:IW (some (x,μ)) fl fh ρ=EG x (fl ρ μ) fh ρ:=rfl
theorem M4 {l fh}:EG x (some (l,μ)) fh ρ=EF x l (fh ρ μ):=rfl
theorem M3 {l h}:EF x l (some (h,μ))=E4 x l h μ:=rfl
theorem MZ {xs l h}:E4 (.v (.tup xs)) l h μ=some (.v (.tup (jX xs l h)),μ):=rfl
def N9 (o:Option (R×ab)):Option (Option Int×ab):=o.bind fun a=>match a.1 with|.v (.int i)=>some (some i,a.2)|_=>none
theorem Ou:eV ρ μ=some (none,μ):=rfl
theorem Ot {f}:dP f ρ μ=N9 (f ρ μ):=rfl
theorem M7 {i}:N9 (some (.v (.int i),μ))=some (some i,μ):=rfl
def xE (o:Option (R×ab))(g:R->List R->ab->Option (R×ab))(ga:FA)(ρ:Lo):Option (R×ab):=o.bind fun a=>if jo a.1 a.2=true then (ga ρ a.2).bind fun b=>g a.1 b.1 b.2 else none
def nI (x:R)(o:Option (List R×ab))(g:R->List R->ab->Option (R×ab)):Option (R×ab):=o.bind fun b=>g x b.1 b.2
theorem KW {g fa ga}:yB g fa ga ρ μ=xE (fa ρ μ) g ga ρ:=rfl
theorem HQ {g ga n xs}(h:μ[n]?=some (.lst xs)):xE (some (.p n,μ)) g ga ρ=nI (.p n) (ga ρ μ) g:=by simp [xE,jo,h,nI]
theorem HP {g xs}:nI x (some (xs,μ)) g=g x xs μ:=rfl
theorem Ia {n xs}(h:μ[n]?=some (.lst xs))(hl:xs.length < sizeLine):jY (.p n) [.v d] μ=some (.v .non,μ.set n (.lst (xs++[d]))):=by simp [jY,h,hl]
variable  {i j:Int}{b c:Bool}{xs ys:List D}
theorem MY:gR (.v (.int i)) (.v (.int j)) μ=some (.v (.int (i - j)),μ):=rfl
theorem Oz:DA (.v (.int i)) (.v (.int j)) μ=some (.v (.bl (decide (i < j))),μ):=rfl
theorem OB:Hi (.v (.int i)) (.v (.int j)) μ=some (.v (.bl (decide (i<=j))),μ):=rfl
theorem OF:Fn (.v (.int i)) (.v (.int j)) μ=some (.v (.bl (decide (j < i))),μ):=rfl
theorem bK (h:0 < j):aT (.v (.int i)) (.v (.int j)) μ=some (.v (.int (i % j)),μ):=by simp [aT,vC,h]
theorem dq (h:0 < j)(h2:j < 1073741824):br (.v (.int i)) (.v (.int j)) μ=some (.v (.int (i / j)),μ):=by simp [br,vC,h,h2]
theorem fm (h : -(2 ^ 64) < i/\i < 2 ^ 64):ku (.v (.int i)) (.v (.int j)) μ=some (.v (.int (i * j)),μ):=by
 show (if (decide (-(2 ^ 64) < i/\i < 2 ^ 64) || decide (-(2 ^ 64) < j/\j < 2 ^ 64))=true then _ else _)=_
 rw [if_pos (by rw [Bool.or_eq_true];exact .inl (zaA h))]
theorem qX (h:0<=j/\j<=1000000/\i.natAbs < 2 ^ 64):ll (.v (.int i)) (.v (.int j)) μ=some (.v (.int (i ^ j.toNat)),μ):=by simp [ll,vC,h]
theorem M9:lY (.v (.int i)) μ=some (.v (.int (-i)),μ):=rfl
theorem HN:fL true (.v (.bl b)) (.v (.bl c)) μ=some (.v (.bl (!(b == c))),μ):=rfl
theorem D1:fV [.v (.tup xs)] μ=some (.v (.int xs.length),μ):=rfl
theorem D2:fV [.v (.fl xs)] μ=some (.v (.int xs.length),μ):=rfl
theorem vI (h:kO xs i=some d):bq (.v (.tup xs)) (.v (.int i)) μ=some (.v d,μ):=by simp [bq,cM,h]
theorem DX {n}(h:μ[n]?=some (.lst xs)):qr [.p n] μ=some (.v (.tup xs),μ):=by simp [qr,cM,h]
theorem qY {k:Nat}:bI k x ρ μ=some (ρ.set k (some x),μ):=rfl
theorem rG {α:Type}{xs:List α}{i:Int}{a:α}(h0:0<=i)(h:xs[i.toNat]?=some a):kO xs i=some a:=by
 unfold kO Fk;have hl:=(zaw.mp h).1;rw [if_pos h0,if_pos (by omega)];simpa using h
def fj (o:Option nq):Option D:=o.bind fin
theorem H9:fj (some (.rt (.v d) μ))=some d:=rfl
end
theorem fF {n:Nat}(xs:Th):okDs n (xs.map D.int)=true:=by
 induction xs with
 |nil=>cases n <;> rfl
 |cons x xs ih=>cases n <;> simpa [okDs,cW] using ih
theorem fM (xs ys:Th):eqDs (xs.map D.int) (ys.map D.int)=decide (xs=ys):=by
 induction xs generalizing ys with
 |nil=>cases ys <;> simp [eqDs]
 |cons x xs ih =>
  cases ys with
  |nil=>simp [eqDs]
  |cons y ys=>simp [eqDs,dG,ih ys];rfl
def Ix (o:Option (Lo×ab))(b:FS):Option nq:=o.bind fun a=>b a.1 a.2
theorem yC {ρ:Lo}{μ:ab}{b:FS}:Ix (some (ρ,μ)) b=b ρ μ:=rfl
theorem wL {g:FG}{b:FS}(I:Nat->Lo->ab->Prop){xs:List D}{ρ:Lo}{μ:ab}(h0:I 0 ρ μ)
  (hs:∀(i:Nat) x ρ μ,xs[i]?=some x->I i ρ μ->∃ρ' μ',Ix (g (.v x) ρ μ) b=some (.nx ρ' μ')/\I (i+1) ρ' μ') :
  ∃ρ' μ',cR g b xs ρ μ=some (.nx ρ' μ')/\I xs.length ρ' μ':=by
 have key:∀(n:Nat) (ys:List D) (i:Nat) ρ μ,ys.length=n->xs.drop i=ys->i<=xs.length->I i ρ μ->∃ρ' μ',cR g b ys ρ μ=some (.nx ρ' μ')/\I xs.length ρ' μ':=by
  intro n
  induction n with
  |zero =>
   intro ys i ρ μ hn hd hi h;have:ys=[]:=zbR hn;subst this
   have:i=xs.length:=by
    have:=congrArg List.length hd;simp at this;omega
   subst this;exact ⟨ρ,μ,rfl,h⟩
  |succ n ih =>
   intro ys i ρ μ hn hd hi h
   cases ys with
   |nil=>simp at hn
   |cons y ys =>
    have hlt:i < xs.length:=by
     have:=congrArg List.length hd;simp at this;omega
    have hc:=zbi hlt;rw [hd] at hc
    injection hc with h1 h2
    obtain ⟨ρ',μ',e0,h'⟩:=hs i y ρ μ (by rw [h1];exact zar hlt) h;obtain ⟨⟨ρ1,μ1⟩,e1,e2⟩:=zab.mp e0;obtain ⟨ρ2,μ2,e3,h3⟩:=ih ys (i+1) ρ' μ' (by simpa using hn) h2.symm hlt h';exact ⟨ρ2,μ2,by simp only [cR,e1,e2,zax];exact e3,h3⟩
 exact key xs.length xs 0 ρ μ rfl (by simp) (za9 _) h0
theorem ud {g:FG}{c:FT}{f:FE}{μ:ab}(B:Lo->Prop)(p:D->Bool)(e:D->D):∀{xs:List D} {ρ:Lo},B ρ ->
  (∀x∈xs,∀ρ,B ρ->∃ρ1,g (.v x) ρ μ=some (ρ1,μ)/\B ρ1/\c ρ1 μ=some (p x,μ)/\(p x=true->f ρ1 μ=some (.v (e x),μ)))->b7 g c f xs ρ μ=some ((xs.filter p).map e,μ)
 |[],_,_,_=>rfl
 |x::xs,ρ,hB,h=>by
  obtain ⟨ρ1,e1,hB1,e2,e3⟩:=h x (zai) ρ hB;have ih:=ud B p e (xs:=xs) hB1 fun y hy=>h y (zaj _ hy);simp only [b7,e1,zax,e2]
  cases hp:p x with
  |true=>simp [e3 hp,ih,hp]
  |false=>simp [ih,hp]
section
variable  {ρ:Lo}{μ μ1:ab}{x y:R}{d:D}
def wa (o:Option (List R×ab))(f:MF)(n:Nat):Option (R×ab):=o.bind fun a=>(gO a.1 a.2).bind fun ds=>if ds.length=n then (f ds).bind fun d=>if c9 d=true then some (.v d,a.2) else none else none
theorem K1 {f n fa}:oH f n fa ρ μ=wa (fa ρ μ) f n:=rfl
end
section
variable  {ρ:Lo}{μ μ1:ab}{x y:R}{d e:D}{n m:Nat}{xs ys:List D}{i j:Int}{b c:Bool}
def L6 (o:Option aG)(n:Nat)(g:R->List R->ab->Option (R×ab))(ga:FA)(ρ:Lo)(μ:ab):Option (R×ab):=match o with|some (.lst _)=>nI (.p n) (ga ρ μ) g|some (.fz _)=>nI (.p n) (ga ρ μ) g|_=>none
theorem Na {g ga}:xE (some (.p n,μ)) g ga ρ=L6 μ[n]? n g ga ρ μ:=by
 cases h:μ[n]? with
 |none=>simp [xE,jo,L6,h]
 |some c=>cases c <;> simp [xE,jo,L6,nI,h]
theorem Nb {g ga}:L6 (some (.lst xs)) n g ga ρ μ=nI (.p n) (ga ρ μ) g:=rfl
def Lc (o:Option aG)(n:Nat)(d:D)(μ:ab):Option (R×ab):=match o with|some (.lst xs)=>if xs.length < sizeLine then some (.v .non,μ.set n (.lst (xs++[d]))) else none|_=>none
theorem LU:jY (.p n) [.v d] μ=Lc μ[n]? n d μ:=rfl
theorem LV:Lc (some (.lst xs)) n d μ=if xs.length < sizeLine then some (.v .non,μ.set n (.lst (xs++[d]))) else none:=rfl
def L7 (o:Option aG):Option (List D):=match o with|some (.lst xs)=>some xs|some (.fz xs)=>some xs|_=>none
theorem Nj:cM (.v (.tup xs)) μ=some xs:=rfl
theorem Nl:cM (.v (.fl xs)) μ=some xs:=rfl
theorem Nk:cM (.p n) μ=L7 μ[n]?:=rfl
theorem Nm:L7 (some (.lst xs))=some xs:=rfl
theorem Ni:L7 (some (.fz xs))=some xs:=rfl
def Jf (o:Option (List D))(i:Int)(μ:ab):Option (R×ab):=o.bind fun xs=>(kO xs i).bind fun d=>some (.v d,μ)
def EN (o:Option D)(μ:ab):Option (R×ab):=o.bind fun d=>some (.v d,μ)
theorem OD:bq x (.v (.int i)) μ=Jf (cM x μ) i μ:=rfl
theorem Nh:Jf (some xs) i μ=EN (kO xs i) μ:=rfl
theorem Ng:EN (some d) μ=some (.v d,μ):=rfl
theorem NC {a:D}{l:List D}:kO (a::l) 0=some a:=rG (by decide) rfl
theorem NB {a b:D}{l:List D}:kO (a::b::l) 1=some b:=rG (by decide) rfl
theorem NA {a b c d:D}{l:List D}:kO (a::b::c::d::l) 3=some d:=rG (by decide) rfl
def EM (o:Option (List D))(μ:ab):Option (R×ab):=o.bind fun xs=>some (.v (.int xs.length),μ)
theorem Nf:fV [x] μ=EM (cM x μ) μ:=rfl
theorem LN:EM (some xs) μ=some (.v (.int xs.length),μ):=rfl
def IV (o:Option (List D))(μ:ab):Option (R×ab):=o.bind fun xs=>some (.v (.tup xs),μ)
theorem On:qr [x] μ=IV (cM x μ) μ:=rfl
theorem MX:IV (some xs) μ=some (.v (.tup xs),μ):=rfl
def Jd (o:Option (List D))(μ:ab):Option (R×ab):=o.bind fun xs=>some (.p μ.length,μ++[.lst xs])
theorem OA:pT [x] μ=Jd (cM x μ) μ:=rfl
theorem Nd:Jd (some xs) μ=some (.p μ.length,μ++[.lst xs]):=rfl
def OL (o:Option aG):Option D:=match o with|some (.lst xs)=>some (.fl xs)|some (.fz xs)=>some (.fl xs)|_=>none
theorem MN:kX (.v d) μ=some d:=rfl
theorem HL:kX (.p n) μ=OL μ[n]?:=rfl
theorem MO:OL (some (.lst xs))=some (.fl xs):=rfl
def FV (o p:Option D)(neg:Bool)(μ:ab):Option (R×ab):=o.bind fun a=>p.bind fun b=>if (cW 60 a && cW 60 b)=true then some (.v (.bl (if neg then !dG a b else dG a b)),μ) else none
theorem Nx:fL b x y μ=FV (kX x μ) (kX y μ) b μ:=rfl
theorem Ny:FV (some d) (some e) false μ=if (cW 60 d && cW 60 e)=true then some (.v (.bl (dG d e)),μ) else none:=rfl
theorem Nw:FV (some d) (some e) true μ=if (cW 60 d && cW 60 e)=true then some (.v (.bl (!dG d e)),μ) else none:=rfl
theorem Hd:cW n (.int i)=true:=by cases n <;> rfl
theorem Ki:cW n (.bl b)=true:=by cases n <;> rfl
theorem NK:dG (.int i) (.int j)=(i == j):=rfl
def Lb (o:Option aG)(n:Nat)(μ:ab):Option (R×ab):=match o with|some (.lst xs)=>some (.v (.fl xs),μ.set n (.fz xs))|some (.fz xs)=>some (.v (.fl xs),μ)|some (.dct kvs)=>some (.v (.fd (kvs.map (·.1)) (kvs.map (·.2))),μ.set n (.fzd kvs))|some (.fzd kvs)=>some (.v (.fd (kvs.map (·.1)) (kvs.map (·.2))),μ)|_=>none
theorem Nt:rZ (some (.p n,μ))=Lb μ[n]? n μ:=by
 cases h:μ[n]? with
 |none=>simp [rZ,DP,Lb,h]
 |some c=>cases c <;> simp [rZ,DP,Lb,h]
theorem Nu:Lb (some (.lst xs)) n μ=some (.v (.fl xs),μ.set n (.fz xs)):=rfl
theorem Nr:Lb (some (.fz xs)) n μ=some (.v (.fl xs),μ):=rfl
def Jj (o:Option D)(xs:List R)(μ:ab):Option (List D):=o.bind fun d=>(gO xs μ).bind fun ds=>some (d::ds)
def ET (d:D)(o:Option (List D)):Option (List D):=o.bind fun ds=>some (d::ds)
theorem MU:gO [] μ=some []:=rfl
theorem Oj {rs}:gO (x::rs) μ=Jj (L8 x μ) rs μ:=rfl
theorem MT {rs}:Jj (some d) rs μ=ET d (gO rs μ):=rfl
theorem MS {ds}:ET d (some ds)=some (d::ds):=rfl
def NM (o:Option aG):Option D:=match o with|some (.lst xs)=>some (.fl xs)|some (.fz xs)=>some (.fl xs)|some (.dct kvs)=>some (.fd (kvs.map (·.1)) (kvs.map (·.2)))|some (.fzd kvs)=>some (.fd (kvs.map (·.1)) (kvs.map (·.2)))|_=>none
theorem NF:L8 (.v d) μ=some d:=rfl
theorem NG:L8 (.p n) μ=NM μ[n]?:=rfl
theorem NH:NM (some (.lst xs))=some (.fl xs):=rfl
theorem NE:NM (some (.fz xs))=some (.fl xs):=rfl
def IQ (o:Option (List D))(f:MF)(n:Nat)(μ:ab):Option (R×ab):=o.bind fun ds=>if ds.length=n then (f ds).bind fun d=>some (.v d,μ) else none
def IR (o:Option D)(μ:ab):Option (R×ab):=o.bind fun d=>some (.v d,μ)
theorem OJ {rs f n}:lR (some (rs,μ)) f n=IQ (vals rs) f n μ:=rfl
theorem OI {f:MF}{ds:List D}:IQ (some ds) f n μ=if ds.length=n then IR (f ds) μ else none:=rfl
theorem OH:IR (some d) μ=some (.v d,μ):=rfl
def FU (d:D)(o:Option (List D)):Option (List D):=o.bind fun ds=>some (d::ds)
theorem MR:vals []=some []:=rfl
theorem MQ {rs}:vals (.v d::rs)=FU d (vals rs):=by unfold FU;cases h:vals rs <;> simp [vals,h]
theorem MP {ds}:FU d (some ds)=some (d::ds):=rfl
def EB (o:Option (List D))(f:MF)(n:Nat)(μ:ab):Option (R×ab):=o.bind fun ds=>if ds.length=n then (f ds).bind fun d=>if c9 d=true then some (.v d,μ) else none else none
def ED (o:Option D)(μ:ab):Option (R×ab):=o.bind fun d=>if c9 d=true then some (.v d,μ) else none
theorem Os {rs f n}:wa (some (rs,μ)) f n=EB (gO rs μ) f n μ:=rfl
theorem Oq {f:MF}{ds:List D}:EB (some ds) f n μ=if ds.length=n then ED (f ds) μ else none:=rfl
theorem Op:ED (some d) μ=if c9 d=true then some (.v d,μ) else none:=rfl
def IU (o:Option (List D))(μ:ab):Option (R×ab):=o.bind fun ds=>if ds.length<=sizeLine then some (.v (.tup ds),μ) else none
theorem Om {rs}:v7 (some (rs,μ))=IU (vals rs) μ:=rfl
theorem MW {ds}:IU (some ds) μ=if ds.length<=sizeLine then some (.v (.tup ds),μ) else none:=rfl
def Jc (o:Option (List D))(μ:ab):Option (R×ab):=o.bind fun ds=>if ds.length<=sizeLine then some (.p μ.length,μ++[.lst ds]) else none
theorem Oy {rs}:v8 (some (rs,μ))=Jc (vals rs) μ:=rfl
theorem Nc {ds}:Jc (some ds) μ=if ds.length<=sizeLine then some (.p μ.length,μ++[.lst ds]) else none:=rfl
def ER (o:Option (R×ab))(g:FG)(ρ:Lo):Option nq:=o.bind fun a=>(g a.1 ρ a.2).bind fun b=>some (.nx b.1 b.2)
def zk (o:Option (Lo×ab)):Option nq:=o.bind fun b=>some (.nx b.1 b.2)
theorem ND {f g}:sw f g ρ μ=ER (f ρ μ) g ρ:=rfl
theorem LT {g}:ER (some (x,μ)) g ρ=zk (g x ρ μ):=rfl
theorem LS:zk (some (ρ,μ))=some (.nx ρ μ):=rfl
theorem No {g}:lL n g (.v (.tup xs)) ρ μ=if xs.length=n then g (xs.map .v) ρ μ else none:=rfl
theorem Nq:bZ [] ρ μ=some (ρ,μ):=rfl
def Jh (o:Option (Lo×ab))(r:Fx)(ds:List R):Option (Lo×ab):=o.bind fun a=>r ds a.1 a.2
theorem OG {g r ds}:aB g r (x::ds) ρ μ=Jh (g x ρ μ) r ds:=rfl
theorem Np {r ds}:Jh (some (ρ,μ)) r ds=r ds ρ μ:=rfl
theorem M0 {l h}:E4 (.v (.fl xs)) l h μ=some (.p μ.length,μ++[.lst (jX xs l h)]):=rfl
theorem K5:du (.v (.int i)) (.v (.int j)) μ=some (.v (.int (i+j)),μ):=rfl
theorem K3:du (.v (.tup xs)) (.v (.tup ys)) μ=if xs.length+ys.length<=sizeLine then some (.v (.tup (xs++ys)),μ) else none:=by
 cases xs with
 |nil=>simp [du]
 |cons x xs=>simp [du,Ef]
def Ld (o p:Option aG)(μ:ab):Option (R×ab):=match o,p with|some (.lst xs),some (.lst ys)=>if xs.length+ys.length<=sizeLine then some (.p μ.length,μ++[.lst (xs++ys)]) else none|_,_=>none
theorem K4:du (.p n) (.p m) μ=Ld μ[n]? μ[m]? μ:=rfl
theorem L1:Ld (some (.lst xs)) (some (.lst ys)) μ=if xs.length+ys.length<=sizeLine then some (.p μ.length,μ++[.lst (xs++ys)]) else none:=rfl
def Ji (o:Option (List D×ab)):Option (R×ab):=o.bind fun r=>some (.p r.2.length,r.2++[.lst r.1])
theorem K0 {ix k g c f}:qt (some (xs,μ)) ix k g c f ρ=if xs.length<=sizeLine then Ji (b7 g c f xs (dh k ix ρ) μ) else none:=Eq.trans rfl rfl
theorem Nz {r:List D}:Ji (some (r,μ))=some (.p μ.length,μ++[.lst r]):=rfl
theorem LR:dh 1 [] ρ=[none]:=rfl
theorem LQ {i:Nat}:dh 1 [i] ρ=[none,(ρ[i]?).join]:=rfl
theorem LP {i j:Nat}:dh 1 [i,j] ρ=[none,(ρ[i]?).join,(ρ[j]?).join]:=rfl
theorem OC {x:Option R}:(some x).join=x:=rfl
def EV (o:Option (List D))(any:Bool)(μ:ab):Option (R×ab):=o.bind fun xs=>(kI xs).bind fun bs=>some (.v (.bl (if any then bs.any id else bs.all id)),μ)
def zm (o:Option (List Bool))(any:Bool)(μ:ab):Option (R×ab):=o.bind fun bs=>some (.v (.bl (if any then bs.any id else bs.all id)),μ)
theorem NJ:Cc b [x] μ=EV (jU x μ) b μ:=rfl
theorem L0:EV (some xs) b μ=zm (kI xs) b μ:=rfl
theorem LY {bs:List Bool}:zm (some bs) false μ=some (.v (.bl (bs.all id)),μ):=rfl
theorem LM:jU (.p n) μ=L7 μ[n]?:=rfl
def wb (o:Option (List R×ab))(f:MC)(n:Nat):Option (R×ab):=o.bind fun a=>(gO a.1 a.2).bind fun ds=>if ds.length=n then (f ds).bind fun c=>if p0 c=true then some (.p a.2.length,a.2++[c]) else none else none
def EC (o:Option (List D))(f:MC)(n:Nat)(μ:ab):Option (R×ab):=o.bind fun ds=>if ds.length=n then (f ds).bind fun c=>if p0 c=true then some (.p μ.length,μ++[c]) else none else none
def EE (o:Option aG)(μ:ab):Option (R×ab):=o.bind fun c=>if p0 c=true then some (.p μ.length,μ++[c]) else none
theorem K2 {f:MC}{fa}:fY f n fa ρ μ=wb (fa ρ μ) f n:=rfl
theorem Ox {f:MC}{rs}:wb (some (rs,μ)) f n=EC (gO rs μ) f n μ:=rfl
theorem Ow {f:MC}{ds:List D}:EC (some ds) f n μ=if ds.length=n then EE (f ds) μ else none:=rfl
theorem Ov {k:aG}:EE (some k) μ=if p0 k=true then some (.p μ.length,μ++[k]) else none:=rfl
theorem Nv:p0 (.lst xs)=flatDs xs:=rfl
def mG (o:Option nq):Option aG:=o.bind Bv
def xp (o:Option aG):Option aG:=match o with|some (.lst xs)=>some (.lst xs)|some (.dct kvs)=>some (.dct kvs)|_=>none
theorem KY:mG (some (.rt (.p n) μ))=xp μ[n]?:=by
 cases h:μ[n]? with
 |none=>simp [mG,Bv,xp,h]
 |some c=>cases c <;> simp [mG,Bv,xp,h]
theorem KZ:xp (some (.lst xs))=some (.lst xs):=rfl
theorem LO {ns:Th}:dC (ns.map D.int)=some ns:=by
 induction ns with
 |nil=>rfl
 |cons n ns ih=>simp [dC,ih]
theorem IA:2<=sizeLine:=by decide
theorem Pd:0<=sizeLine:=by decide
theorem OX:3<=sizeLine:=by decide
theorem ii {n:Nat}(h:n < 4000):n < sizeLine:=zaB h (by decide)
theorem df {n:Nat}(h:n < 4000):n<=sizeLine:=zbK (ii h)
end
theorem wK {α:Type}{x y:α}{l:List α}:(x::l).set 0 y=y::l:=rfl
theorem wJ {α:Type}{x y:α}{l:List α}{n:Nat}:(x::l).set (n+1) y=x::l.set n y:=rfl
theorem LB {α:Type}{x:α}{l:List α}:(x::l)[0]?=some x:=rfl
theorem LA {α:Type}{x:α}{l:List α}{n:Nat}:(x::l)[n+1]?=l[n]?:=rfl
theorem Mx {α:Type}{x:α}{l:List α}:(x::l).length=l.length+1:=rfl
theorem Lz {α:Type}:([]:List α).length=0:=rfl
theorem Mz {α:Type}{x:α}{l r:List α}:(x::l)++r=x::(l++r):=rfl
theorem LC {α:Type}{r:List α} : []++r=r:=rfl
theorem Mw {α β:Type}{f:α->β}{x:α}{l:List α}:(x::l).map f=f x::l.map f:=rfl
theorem Ly {α β:Type}{f:α->β}:([]:List α).map f=[]:=rfl
theorem Oh {n:Nat}:0+n=n:=zct n
theorem Lw:(!true)=false:=rfl
theorem Lx:(!false)=true:=rfl
theorem My {α:Type}{a b:α}:(if false=true then a else b)=b:=rfl
section
variable  {g:FG}{b:FS}{ρ:Lo}{μ:ab}
def Je (o:Option nq)(g:FG)(b:FS)(xs:List D):Option nq:=o.bind fun o=>match o with
  |.nx ρ' μ'=>cR g b xs ρ' μ'
  |.ct ρ' μ'=>cR g b xs ρ' μ'
  |.bk ρ' μ'=>some (.nx ρ' μ')
  |.rt d μ'=>some (.rt d μ')
theorem pS {x:D}{xs:List D}:cR g b (x::xs) ρ μ=Je (Ix (g (.v x) ρ μ) b) g b xs:=by
 show (g (.v x) ρ μ).bind _=_
 cases e:g (.v x) ρ μ <;> rfl
theorem Fj {xs}:Je (some (.nx ρ μ)) g b xs=cR g b xs ρ μ:=rfl
theorem c7 {α σ:Type}(e:α->D)(S:σ->Lo×ab)(P:σ->List α->Prop):∀(as:List α) (s:σ),P s as ->
  (∀s a r,P s (a::r)->∃s',Ix (g (.v (e a)) (S s).1 (S s).2) b=some (.nx (S s').1 (S s').2)/\P s' r) ->
  ∃s',cR g b (as.map e) (S s).1 (S s).2=some (.nx (S s').1 (S s').2)/\P s' []
 |[],s,h,_=>⟨s,rfl,h⟩
 |a::as,s,h,k=>by
  obtain ⟨s1,h1,h2⟩:=k s a as h;obtain ⟨s2,h3,h4⟩:=c7 e S P as s1 h2 k;exact ⟨s2,by rw [zag,pS,h1,Fj,h3],h4⟩
theorem iq (n:Nat)(I:Nat->Lo->ab->Prop)(h0:I 0 ρ μ)
  (hs:∀i < n,∀ρ μ,I i ρ μ->∃ρ' μ',Ix (g (.v (.int (i:Int))) ρ μ) b=some (.nx ρ' μ')/\I (i+1) ρ' μ') :
  ∃ρ' μ',cR g b ((List.range n).map fun i=>.int ((i:Nat):Int)) ρ μ=some (.nx ρ' μ')/\I n ρ' μ':=by
 obtain ⟨ρ',μ',e,h⟩:=wL (g:=g) (b:=b) I (xs:=(List.range n).map fun i=>D.int ((i:Nat):Int)) h0 fun i x ρ μ hx hI=>by
  rw [zaG] at hx;obtain ⟨k,hk,rfl⟩:=zaF.mp hx;obtain ⟨hl,hk⟩:=zaw.mp hk;rw [zde] at hk;subst hk;exact hs i (by simpa using hl) ρ μ hI
 exact ⟨ρ',μ',e,by simpa using h⟩
end
theorem f7 {α:Type}{f:FE}{μ:ab}{rest:Lo}(e out:α->D):∀(xs:List α) (x0:Option R),(∀a∈xs,f (some (.v (e a))::rest) μ=some (.v (out a),μ))->b7 (bI 0) jv f (xs.map e) (x0::rest) μ=some (xs.map out,μ)
 |[],_,_=>rfl
 |a::xs,x0,h=>by
  have h1:=h a zai;have ih:=f7 e out xs (some (.v (e a))) fun b hb=>h b (zaj _ hb);simp only [zag,b7,bI,zdf,zax,jv,if_true,h1,ih]
section
variable  {ρ:Lo}{μ:ab}{x y z:R}{d:D}{n:Nat}{i:Int}
def EQ (o:Option R)(μ:ab):Option (R×ab):=o.bind fun r=>some (r,μ)
theorem N5:EQ (some x) μ=some (x,μ):=rfl
theorem N6:DW ρ μ=some (.p μ.length,μ++[.dtr []]):=rfl
def L5 (o:Option aG):Option (List (Th×R)):=match o with|some (.dtr kvs)=>some kvs|_=>none
def zd (o:Option (List (Th×R)))(k:Th)(μ:ab):Option (R×ab):=o.bind fun kvs=>(iP kvs k).bind fun d=>some (d,μ)
def ze (x:R)(o:Option (R×ab)):Option (R×ab):=o.bind fun k=>match x,k.1 with
 |.p n,.v (.key ks)=>zd (L5 k.2[n]?) ks k.2
 |_,_=>none
def IT (o:Option (R×ab))(fk:FE)(ρ:Lo):Option (R×ab):=o.bind fun o=>ze o.1 (fk ρ o.2)
theorem OS {fo fk}:By fo fk ρ μ=IT (fo ρ μ) fk ρ:=rfl
theorem N4 {fk}:IT (some (x,μ)) fk ρ=ze x (fk ρ μ):=rfl
theorem N3 {k}:ze (.p n) (some (.v (.key k),μ))=zd (L5 μ[n]?) k μ:=rfl
theorem Mf {kvs}:L5 (some (.dtr kvs))=some kvs:=rfl
theorem N2 {kvs k}:zd (some kvs) k μ=EQ (iP kvs k) μ:=rfl
theorem IJ:pJ [.p n] μ=(L5 μ[n]?).bind fun kvs=>if kvs.length < 64/\(kvs.length < 2\/∀p∈kvs,p.1≠[]) then some (.p μ.length,μ++[.lst ((aZ (kvs.map (·.1))).map D.key)]) else none:=rfl
end
end HW
namespace LW
open PySem HW
abbrev aI (i:Int):Option R:=some (.v (.int i))
abbrev cz (n:Nat):Option R:=some (.p n)
end LW
local macro_rules
 | `(tactic| push_cast [$xs,*] $[$loc]?) => do
  let ids : Array (Lean.TSyntax `term) := ("IA Pd OX wK wJ LB LA Mx Lz Mz LC Mw Ly Oh Lw Lx My Fj iT j4 HU oJ kF kE Ol MV kG xf qZ Ib BL BB LH LG LJ KS BC LI w5 KR NI LX Fr M6 M8 LL OE Nn BA HR xa BH nh DZ mj iF LK D3 BJ HM DY oK HV HY BI xb w9 BF BE KU MM KW HP MY Oz OB OF M9 qY H9 yC Na Nb LU LV Nj Nl Nk Nm Ni OD Nh Ng NC NB NA Nf LN On MX OA Nd MN HL MO Nx Ny Nw Hd Ki NK Nt Nu Nr MU Oj MT MS NF NG NH NE OJ OI OH MR MQ MP Om MW Oy Nc ND LT LS No Nq OG Np K5 K3 K4 L1 LM fq f6 fZ oI lE D4 Oo M5 M4 M3 MZ Ou Ot M7 K1 Os Oq Op M0 K0 Nz LR LQ LP OC NJ L0 LY K2 Ox Ow Ov Nv KY KZ LO N5 N6 OS N4 N3 Mf N2".splitOn " ").toArray.map fun n => ⟨(Lean.mkIdent (String.toName ("HW." ++ n))).raw⟩
  `(tactic| simp -implicitDefEqProofs only [$xs,*, $[$ids:term],*, Nat.reduceAdd, if_true, zdh] $[$loc]?)
namespace LW
open PySem PySem.Spec PyProof.Rows L2 HW
def kZ (i:Nat):Stmt:=PySem.Challenge.pw_heldwhen_k27_told_on.main.body.getD i (.Pass ⟨0,0,0,0⟩)
abbrev i4:Stmt:=kZ 4
theorem sn:aC ["word","one","other"] ["word","one","other"] (ai i4):=⟨rfl,rfl,rfl,by decide +kernel,rfl,by decide +kernel,by decide +kernel⟩
abbrev gB:Stmt:=kZ 8
theorem pj:aC ["low","high"] ["low","high"] (ai gB):=⟨rfl,rfl,rfl,by decide +kernel,rfl,by decide +kernel,by decide +kernel⟩
abbrev jb:Stmt:=kZ 9
theorem bV:aC ["one","other","word","in_one","in_other","first","last","one_borders","other_borders","edges","edge","here"] ["one","other","word"] (ai jb):=⟨rfl,rfl,rfl,by decide +kernel,rfl,by decide +kernel,by decide +kernel⟩
abbrev ig:Stmt:=kZ 19
theorem qA:aC ["plots"] ["plots"] (ai ig):=⟨rfl,rfl,rfl,by decide +kernel,rfl,by decide +kernel,by decide +kernel⟩
abbrev eE:Stmt:=kZ 20
theorem eF:aC ["pairs","plots","row","plot","entries"] ["pairs"] (ai eE):=⟨rfl,rfl,rfl,by decide +kernel,rfl,by decide +kernel,by decide +kernel⟩
abbrev kh:Stmt:=kZ 22
theorem u0:aC ["telling"] ["telling"] (ai kh):=⟨rfl,rfl,rfl,by decide +kernel,rfl,by decide +kernel,by decide +kernel⟩
abbrev gC:Stmt:=kZ 23
theorem pk:aC ["plot"] ["plot"] (ai gC):=⟨rfl,rfl,rfl,by decide +kernel,rfl,by decide +kernel,by decide +kernel⟩
abbrev kf:Stmt:=kZ 24
theorem uZ:aC ["plot","turn","reach"] ["plot","turn","reach"] (ai kf):=⟨rfl,rfl,rfl,by decide +kernel,rfl,by decide +kernel,by decide +kernel⟩
abbrev j9:Stmt:=kZ 25
theorem cE:aC ["table","keys","telling","turn","said","days","plots","pairs","row","plot","word"] ["table","keys","telling","turn"] (ai j9):=⟨rfl,rfl,rfl,by decide +kernel,rfl,by decide +kernel,by decide +kernel⟩
abbrev ja:Stmt:=kZ 27
theorem so:aC ["script","k"] ["script","k"] (ai ja):=⟨rfl,rfl,rfl,by decide +kernel,rfl,by decide +kernel,by decide +kernel⟩
abbrev i5:Stmt:=kZ 28
theorem jc:aC ["cell","k","number"] ["cell","k"] (ai i5):=⟨rfl,rfl,rfl,by decide +kernel,rfl,by decide +kernel,by decide +kernel⟩
abbrev ic:Stmt:=kZ 29
theorem ca:aC ["number","scale","edges","at","rest","turn"] ["number","scale"] (ai ic):=⟨rfl,rfl,rfl,by decide +kernel,rfl,by decide +kernel,by decide +kernel⟩
abbrev i7:Stmt:=kZ 30
theorem bu:aC ["cell","k","scale","number","ground","last","turn","steps","step","reach"] ["cell","k","scale"] (ai i7):=⟨rfl,rfl,rfl,by decide +kernel,rfl,by decide +kernel,by decide +kernel⟩
abbrev kg:Stmt:=kZ 31
theorem fQ:aC ["cell","k","width","number","row","column"] ["cell","k","width"] (ai kg):=⟨rfl,rfl,rfl,by decide +kernel,rfl,by decide +kernel,by decide +kernel⟩
abbrev i8:Stmt:=kZ 32
theorem bP:aC ["plot","day","turn","truth","edges","at","reach","edge"] ["plot","day","turn"] (ai i8):=⟨rfl,rfl,rfl,by decide +kernel,rfl,by decide +kernel,by decide +kernel⟩
abbrev hV:Stmt:=kZ 33
theorem qy:aC ["thing"] ["thing"] (ai hV):=⟨rfl,rfl,rfl,by decide +kernel,rfl,by decide +kernel,by decide +kernel⟩
abbrev hZ:Stmt:=kZ 34
theorem lc:aC ["some","k"] ["some"] (ai hZ):=⟨rfl,rfl,rfl,by decide +kernel,rfl,by decide +kernel,by decide +kernel⟩
abbrev eN:Stmt:=kZ 35
theorem mL:aC ["thing"] ["thing"] (ai eN):=⟨rfl,rfl,rfl,by decide +kernel,rfl,by decide +kernel,by decide +kernel⟩
abbrev dJ:Stmt:=kZ 36
theorem dL:aC ["thing","last","step"] ["thing"] (ai dJ):=⟨rfl,rfl,rfl,by decide +kernel,rfl,by decide +kernel,by decide +kernel⟩
abbrev cn:Stmt:=kZ 37
theorem eP:aC ["thing","width","entry","rows"] ["thing","width"] (ai cn):=⟨rfl,rfl,rfl,by decide +kernel,rfl,by decide +kernel,by decide +kernel⟩
abbrev eY:Stmt:=kZ 38
theorem eZ:aC ["cells","width","scale","plots","cell","plot"] ["cells","width","scale"] (ai eY):=⟨rfl,rfl,rfl,by decide +kernel,rfl,by decide +kernel,by decide +kernel⟩
abbrev hX:Stmt:=kZ 39
theorem qz:aC ["cell"] ["cell"] (ai hX):=⟨rfl,rfl,rfl,by decide +kernel,rfl,by decide +kernel,by decide +kernel⟩
abbrev i6:Stmt:=kZ 40
theorem bG:aC ["cell","k","table","scale","number","turn","day","plot","reach"] ["cell","k","table","scale"] (ai i6):=⟨rfl,rfl,rfl,by decide +kernel,rfl,by decide +kernel,by decide +kernel⟩
abbrev jC:Stmt:=kZ 41
theorem xL:aC ["table","day","turn"] ["table","day","turn"] (ai jC):=⟨rfl,rfl,rfl,by decide +kernel,rfl,by decide +kernel,by decide +kernel⟩
abbrev lT:Stmt:=kZ 42
theorem xK:aC ["telling","day"] ["telling","day"] (ai lT):=⟨rfl,rfl,rfl,by decide +kernel,rfl,by decide +kernel,by decide +kernel⟩
abbrev fP:Stmt:=kZ 43
theorem bi:aC ["cell","table","width","keys","scale","number","row","low","high"] ["cell","table","width","keys","scale"] (ai fP):=⟨rfl,rfl,rfl,by decide +kernel,rfl,by decide +kernel,by decide +kernel⟩
abbrev i9:Stmt:=kZ 44
theorem cF:aC ["table","last","row","plot","turn","reach"] ["table"] (ai i9):=⟨rfl,rfl,rfl,by decide +kernel,rfl,by decide +kernel,by decide +kernel⟩
abbrev ie:Stmt:=kZ 45
theorem ki:aC ["table","keys","telling","at","day","turn","rows"] ["table","keys","telling","at","day","turn"] (ai ie):=⟨rfl,rfl,rfl,by decide +kernel,rfl,by decide +kernel,by decide +kernel⟩
abbrev uU:Stmt:=kZ 46
theorem cU:aC ["script","cell","width","keys","scale","table","telling","at","handed","answer","one","day","turn","kept"] ["script"] (ai uU):=⟨rfl,rfl,rfl,by decide +kernel,rfl,by decide +kernel,by decide +kernel⟩
abbrev iK:FS:=(ar (dj (fB (al (fL false) (ad 0) (fK (.str "both"))))
  (bo (tW (ad 1) (ad 2)))
  aD)
  (ar (dj (fB (al (fL false) (ad 0) (fK (.str "either"))))
  (bo (KQ (ad 1) (ad 2)))
  aD)
  (ar (dj (fB (al (fL false) (ad 0) (fK (.str "less"))))
  (bo (tW (ad 1) (mP (ad 2))))
  aD)
  (ar (dj (fB (al (fL false) (ad 0) (fK (.str "just"))))
  (bo (al (fL true) (ad 1) (ad 2)))
  aD)
  qB))))
def bB:MF:=dM 3 (iK)
abbrev iL:FS:=(ar (dj (eT (fB (iE (ng false .non) (ad 0))) (fB (iE (ng false .non) (ad 1))))
  (bo (fK (.tup [(.bl true),(.tup [])])))
  aD)
  (ar (dj (fB (iE (ng false .non) (ad 0)))
  (bo (bS (af (fK (.bl true)) (af (bS (af (ad 1) am)) am))))
  aD)
  (ar (dj (fB (iE (ng false .non) (ad 1)))
  (bo (bS (af (fK (.bl false)) (af (bS (af (ad 0) am)) am))))
  aD)
  (ar (dj (fB (al Hi (ad 1) (ad 0)))
  (bo (fK (.tup [(.bl false),(.tup [])])))
  aD)
  (bo (bS (af (fK (.bl false)) (af (bS (af (ad 0) (af (ad 1) am))) am))))))))
def dR:MF:=dM 2 (iL)
abbrev ur:FS:=(ar (dj (fB (al (fL false) (fJ fV (af (ad 0) am)) (fK (.int 1))))
  (bo (al bq (ad 0) (fK (.int 0))))
  aD)
  qB)
def cK:MF:=dM 1 (ur)
abbrev jQ:FS:=(bo (al (fL false) (al bq (ad 0) (fK (.int 0))) (fK (.str "tell"))))
def cA:MF:=dM 1 (jQ)
abbrev iN:FS:=(bo (HJ (d5 (al bq (ad 0) (fK (.int 1)))) (al bq (al bq (al bq (ad 0) (fK (.int 1))) (iE lY (fK (.int 1)))) (fK (.int 1))) (al bq (ad 0) (fK (.int 0)))))
def cg:MF:=dM 1 (iN)
abbrev iM:FS:=(ar (dj (fB (al DA (ad 1) (fJ fV (af (ad 0) am))))
  (bo (al bq (ad 0) (ad 1)))
  aD)
  (bo (fK (.int 0))))
def cJ:MF:=dM 2 (iM)
abbrev kK:FS:=(ar (aF 2 (al aT (al ku (al du (al aT (ad 0) (fK (.int 2147483629))) (fK (.int 1))) (fK (.int 1103515245))) (fK (.int 2147483629))))
  (ar (aF 2 (al aT (al du (al du (al ku (ad 2) (ad 2)) (al ku (ad 1) (fK (.int 69621)))) (fK (.int 12345))) (fK (.int 2147483587))))
  (bo (al aT (al ku (ad 2) (ad 2)) (fK (.int 2147483629))))))
def aq:MF:=dM 3 (kK)
abbrev gG:FS:=(ar (aF 3 (al du (al du (ad 3) (fK (.int 1))) (al aT (al br (ad 4) (fK (.int 2))) (fK (.int 4)))))
  (ar (eU (yB jY (ad 2) (af (al ku (ad 3) (ad 1)) am)))
  (aF 4 (al br (ad 4) (fK (.int 8))))))
abbrev jz:FS:=(ar (aF 2 (gk am))
  (ar (aF 3 (al gR (al aT (ad 0) (fK (.int 5))) (fK (.int 2))))
  (ar (aF 4 (al br (ad 0) (fK (.int 15))))
  (ar (gU (vG (al du (al aT (al br (ad 0) (fK (.int 5))) (fK (.int 3))) (al aT (ad 4) (fK (.int 2))))) (bI 5)
  gG)
  (bo (bS (af (al DA (al aT (ad 4) (fK (.int 5))) (fK (.int 2))) (af (fJ qr (af (ad 2) am)) am))))))))
def cI:MF:=dM 6 (jz)
abbrev dW:FS:=(dj (fB (al Hi (ad 5) (ad 2)))
  (sw (ad 6) (lL 2 (aB (bI 3) (aB (bI 4) bZ))))
  aD)
abbrev dU:FS:=(dj (fB (al Hi (ad 7) (ad 1)))
  (aF 3 (mP (ad 3)))
  aD)
abbrev kM:FS:=(ar (sw (al bq (ad 0) (fK (.int 0))) (lL 2 (aB (bI 3) (aB (bI 4) bZ))))
  (ar (gU (cN (al bq (ad 0) (fK (.int 1)))) (lL 2 (aB (bI 5) (aB (bI 6) bZ)))
  dW)
  (ar (gU (cN (ad 4)) (bI 7)
  dU)
  (bo (ad 3)))))
def dk:MF:=dM 8 (kM)
abbrev uq:FS:=(bo (tW (iE (jn "int") (ad 0)) (mP (iE (jn "bool") (ad 0)))))
def cH:MF:=dM 1 (uq)
abbrev jx:FS:=(bo (al bq (gk (af (fK (.int 1)) (af (fK (.int 1)) (af (al ll (fK (.int 10)) (fK (.int 40))) am)))) (al aT (ad 0) (fK (.int 3)))))
def eI:MF:=dM 1 (jx)
abbrev gc:FS:=(ar (dj (eT (fB (iE (ng true .non) (al bq (ad 0) (fK (.int 3))))) (fB (al DA (ad 1) (al bq (ad 0) (fK (.int 3))))))
  (bo (fK (.bl false)))
  aD)
  (bo (KQ (iE (ng false .non) (al bq (ad 0) (fK (.int 4)))) (al DA (ad 1) (al bq (ad 0) (fK (.int 4)))))))
def ji:MF:=dM 2 (gc)
abbrev fg:FS:=(aF 1 (fJ vd (af (ad 1) (af (ad 4) am))))
abbrev ff:FS:=(gU (cN (al bq (ad 3) (fK (.int 1)))) (lL 2 (aB (bI 4) (aB (bI 5) bZ)))
  fg)
abbrev kN:FS:=(ar (aF 1 (fK (.int 0)))
  (ar (gU (cN (ad 0)) (lL 2 (aB (bI 2) (aB (bI 3) bZ)))
  ff)
  (bo (ad 1))))
def eu:MF:=dM 6 (kN)
abbrev rF (bt:Bool):FS:=(ar (aF 3 (al bq (ad 0) (fK (.int 0))))
  (ar (aF 4 (al bq (ad 1) (fK (.int 0))))
  (ar (aF 5 (aH bB 3 (af (bH (ad 2)) (af (bH (ad 3)) (af (bH (ad 4)) am)))))
  (ar (aF 6 (ad 5))
  (ar (aF 7 (fJ oO (af (eW [] 1 (cN (al bq (ad 0) (fK (.int 1)))) (bI 0) jv (bS (af (ad 0) (af (fK (.bl true)) am)))) am)))
  (ar (aF 8 (fJ oO (af (eW [] 1 (cN (al bq (ad 1) (fK (.int 1)))) (bI 0) jv (bS (af (ad 0) (af (fK (.bl true)) am)))) am)))
  (ar (aF 9 (gk am))
  (ar (gU (cN (fJ (jD bt) (af (al (IB bt) (fJ (uX bt) (af (al bq (ad 0) (fK (.int 1))) am)) (fJ (uX bt) (af (al bq (ad 1) (fK (.int 1))) am))) am))) (bI 10)
  (ar (dj (fB (al (DJ false) (ad 10) (ad 7)))
  (aF 3 (mP (ad 3)))
  aD)
  (ar (dj (fB (al (DJ false) (ad 10) (ad 8)))
  (aF 4 (mP (ad 4)))
  aD)
  (ar (aF 11 (aH bB 3 (af (bH (ad 2)) (af (bH (ad 3)) (af (bH (ad 4)) am)))))
  (ar (dj (fB (al (fL true) (ad 11) (ad 6)))
  (eU (yB jY (ad 9) (af (ad 10) am)))
  aD)
  (aF 6 (ad 11)))))))
  (bo (bS (af (ad 5) (af (fJ qr (af (ad 9) am)) am))))))))))))
def jJ (bt:Bool):MF:=dM 12 (rF bt)
abbrev dS (bt:Bool):FS:=(eU (yB jY (oG (ad 1) (ad 2) (gk am)) (af (ad 3) am)))
abbrev kJ (bt:Bool):FS:=(ar (aF 1 DW)
  (ar (gU (cN (ad 0)) (lL 2 (aB (bI 2) (aB (bI 3) bZ)))
  (dS bt))
  (ar (aF 4 (eW [1] 1 (cN (fJ pJ (af (ad 1) am))) (bI 0) jv (bS (af (ad 0) (af (aH cK 1 (af (bH (By (ad 1) (ad 0))) am)) am)))))
  (bo (eW [] 1 (cN (ad 4)) (bI 0) (fB (al (fL true) (al bq (ad 0) (fK (.int 1))) (fK (.tup [(.tup [(.bl false),(.tup [])]),(.tup [])])))) (ad 0))))))
def fT (bt:Bool):MC:=sx 5 (kJ bt)
abbrev jP:FS:=(ar (dj (fB (al (fL false) (ad 2) (aH cg 1 (af (bH (ad 0)) am))))
  (bo (ad 0))
  aD)
  (bo (bS (af (al bq (ad 0) (fK (.int 0))) (af (al du (al bq (ad 0) (fK (.int 1))) (bS (af (bS (af (ad 1) (af (ad 2) am))) am))) am)))))
def gY:MF:=dM 3 (jP)
abbrev e8:FS:=(ar (aF 9 (aH cI 2 (af (bH (aH aq 2 (af (bH (ad 0)) (af (bH (al du (al du (ad 1) (fK (.int 5))) (ad 8))) am)))) (af (bH (ad 2)) am))))
  (ar (dj (fB (al (fL true) (ad 9) (ad 5)))
  (ar (eU (yB jY (ad 7) (af (bS (af (al ku (ad 6) (al bq (gk (af (fK (.int 1)) (af (al ll (fK (.int 10)) (fK (.int 30))) am))) (al aT (al br (ad 3) (fK (.int 80))) (fK (.int 2))))) (af (ad 9) am))) am)))
  (aF 5 (ad 9)))
  aD)
  (aF 6 (al du (al du (ad 6) (fK (.int 1))) (al aT (al br (aH aq 2 (af (bH (ad 0)) (af (bH (al du (ad 1) (fK (.int 9)))) am))) (fK (.int 3))) (fK (.int 3)))))))
abbrev kL:FS:=(ar (aF 3 (aH aq 2 (af (bH (ad 0)) (af (bH (ad 1)) am))))
  (ar (aF 4 (bS (af (fK (.bl false)) (af (bS am) am))))
  (ar (dj (fB (al (fL false) (al aT (ad 3) (fK (.int 4))) (fK (.int 0))))
  (aF 4 (aH cI 2 (af (bH (al br (ad 3) (fK (.int 4)))) (af (bH (ad 2)) am))))
  aD)
  (ar (aF 5 (ad 4))
  (ar (aF 6 (al gR (al aT (al br (ad 3) (fK (.int 16))) (fK (.int 5))) (fK (.int 1))))
  (ar (aF 7 (gk am))
  (ar (gU (vG (al aT (al br (ad 3) (fK (.int 4))) (fK (.int 4)))) (bI 8)
  e8)
  (bo (bS (af (ad 4) (af (fJ qr (af (ad 7) am)) am)))))))))))
def fU:MF:=dM 10 (kL)
abbrev jl:FS:=(ar (eU (yB jY (ad 4) (af (al bq (gk (af (fK (.int 0)) (af (fK (.int 1)) (af (fK (.int 1)) (af (iE lY (fK (.int 1))) (af (fK (.int 2)) (af (al aT (ad 0) (al ll (fK (.int 10)) (fK (.int 50)))) am))))))) (al aT (ad 3) (fK (.int 6)))) am)))
  (aF 3 (al br (ad 3) (fK (.int 6)))))
abbrev mv:FS:=(ar (aF 3 (aH aq 2 (af (bH (ad 0)) (af (bH (al du (ad 1) (fK (.int 17)))) am))))
  (ar (aF 4 (gk am))
  (ar (gU (vG (ad 2)) (bI 5)
  jl)
  (bo (fJ A7 (af (ad 4) am))))))
def dA:MF:=dM 6 (mv)
abbrev eC:FS:=(dj (iZ (d8 (d5 (aH cH 1 (af (bH (al bq (ad 0) (ad 1))) am)))) (eT (fB (al Fn (ad 1) (fK (.int 0)))) (fB (al Hi (al bq (ad 0) (ad 1)) (al bq (ad 0) (al gR (ad 1) (fK (.int 1))))))))
  (bo (fK (.bl false)))
  aD)
abbrev jy:FS:=(ar (gU (vG (fJ fV (af (ad 0) am))) (bI 1)
  eC)
  (bo (fK (.bl true))))
def bR:MF:=dM 2 (jy)
abbrev eA:FS:=(ar (aF 4 (aH aq 2 (af (bH (ad 0)) (af (bH (al du (ad 1) (fK (.int 31)))) am))))
  (ar (aF 5 (al gR (al aT (ad 4) (fK (.int 9))) (fK (.int 2))))
  (ar (aF 6 (al gR (al ku (al gR (al aT (al br (ad 4) (fK (.int 9))) (fK (.int 15))) (fK (.int 4))) (ad 3)) (al aT (al br (ad 4) (fK (.int 135))) (fK (.int 2)))))
  (ar (dj (eT (fB (al (fL true) (ad 2) (gk am))) (fB (al Fn (al aT (al br (ad 4) (fK (.int 270))) (fK (.int 3))) (fK (.int 0)))))
  (ar (aF 7 (al bq (al bq (ad 2) (al aT (al br (ad 4) (fK (.int 810))) (fJ fV (af (ad 2) am)))) (fK (.int 1))))
  (ar (aF 8 (al bq (ad 7) (fK (.int 0))))
  (ar (dj (fB (al (fL true) (al bq (ad 7) (fK (.int 1))) (bS am)))
  (ar (sw (al bq (al bq (ad 7) (fK (.int 1))) (al aT (al br (ad 4) (fK (.int 9000))) (fJ fV (af (al bq (ad 7) (fK (.int 1))) am)))) (lL 2 (aB (bI 5) (aB (bI 8) bZ))))
  (aF 5 (al gR (ad 5) (al aT (al br (ad 4) (fK (.int 90000))) (fK (.int 2))))))
  aD)
  (dj (fB (al (fL true) (al bq (ad 8) (fK (.int 1))) (bS am)))
  (aF 6 (al gR (al bq (al bq (ad 8) (fK (.int 1))) (al aT (al br (ad 4) (fK (.int 180000))) (fJ fV (af (al bq (ad 8) (fK (.int 1))) am)))) (al aT (al br (ad 4) (fK (.int 1800000))) (fK (.int 2)))))
  aD))))
  aD)
  (bo (bS (af (ad 6) (af (ad 5) am))))))))
def et:MF:=dM 9 (eA)
abbrev oX:FS:=(bo (eW [1,2] 2 (cN (ad 0)) (lL 2 (aB (bI 0) (aB (bI 1) bZ))) (d5 (aH dk 3 (af (bH (ad 1)) (af (bH (ad 2)) (af (bH (ad 3)) am))))) (ad 0)))
def cG:MC:=sx 3 (oX)
abbrev dB (bt:Bool):FS:=(dj (fB (al (iH false) (tV (vH (ad 8)) eV (dP (ad 1))) (tV (vH (ad 4)) eV (dP (ad 1)))))
  (ar (aF 10 (HJ (eT (d5 (aH cA 1 (af (bH (ad 2)) am))) (fB (al (iH false) (ad 8) (ad 4)))) (fK (.str "either")) (fK (.str "less"))))
  (eU (yB jY (ad 7) (af (bS (af (ad 8) (af (aH gY 3 (af (bH (ad 9)) (af (bH (ad 3)) (af (bH (aH (jJ bt) 3 (af (bH (aH cg 1 (af (bH (ad 9)) am))) (af (bH (ad 5)) (af (bH (ad 10)) am))))) am)))) am))) am))))
  (eU (yB jY (ad 7) (af (bS (af (ad 8) (af (ad 9) am))) am))))
abbrev mt (bt:Bool):FS:=(ar (aF 4 (al bq (ad 2) (fK (.int 2))))
  (ar (aF 5 (aH dR 2 (af (bH (al bq (ad 2) (fK (.int 3)))) (af (bH (al bq (ad 2) (fK (.int 4)))) am))))
  (ar (aF 6 (fJ p6 (af (ad 0) am)))
  (ar (dj (d5 (aH cA 1 (af (bH (ad 2)) am)))
  (eU (yA (ad 6) (ad 4) (fK (.tup [(.tup [(.bl false),(.tup [])]),(.tup [])]))))
  aD)
  (ar (aF 7 (gk am))
  (ar (gU (DT (ad 6)) (lL 2 (aB (bI 8) (aB (bI 9) bZ)))
  (dB bt))
  (bo (fY (fT bt) 1 (af (ad 7) am)))))))))
def fG (bt:Bool):MC:=sx 11 (mt bt)
abbrev f9:FS:=(ar (dj (iZ (d8 (d5 (iE (jn "tuple") (ad 0)))) (iZ (fB (al (fL true) (fJ fV (af (ad 0) am)) (fK (.int 2)))) (d8 (d5 (iE (jn "bool") (al bq (ad 0) (fK (.int 0))))))))
  (bo (fK (.bl false)))
  aD)
  (bo (tW (iE (jn "tuple") (al bq (ad 0) (fK (.int 1)))) (aH bR 1 (af (bH (al bq (ad 0) (fK (.int 1)))) am)))))
def bY:MF:=dM 1 (f9)
abbrev c8 (bt:Bool):FS:=(ar (aF 5 (aH fU 3 (af (bH (ad 4)) (af (fK (.int 1)) (af (bH (ad 2)) am)))))
  (dj (fB (al (fL true) (ad 5) (bS (af (bS (af (fK (.bl false)) (af (bS am) am))) (af (bS am) am)))))
  (sw (bH (ad 5)) (tO (ad 3) (aH dA 3 (af (bH (ad 4)) (af (fK (.int 1)) (af (bH (ad 1)) am))))))
  aD))
abbrev jw (bt:Bool):FS:=(ar (aF 3 DV)
  (ar (gU (cN (ad 0)) (bI 4)
  (c8 bt))
  (bo (eW [3] 1 (cN (fJ xF (af (ad 3) am))) (bI 0) jv (bS (af (ad 0) (af (Bz (ad 1) (ad 0)) am)))))))
def eG (bt:Bool):MC:=sx 6 (jw bt)
abbrev gL:FS:=(ar (aF 5 (aH aq 2 (af (bH (ad 0)) (af (fK (.int 3)) am))))
  (ar (aF 6 (aH dA 3 (af (bH (ad 0)) (af (fK (.int 2)) (af (bH (ad 2)) am)))))
  (ar (dj (eT (fB (al (iH true) (ad 1) (gk am))) (fB (al Fn (al aT (ad 5) (fK (.int 3))) (fK (.int 0)))))
  (aF 6 (al bq (al bq (ad 1) (al aT (al br (ad 5) (fK (.int 3))) (fJ fV (af (ad 1) am)))) (fK (.int 0))))
  aD)
  (ar (dj (fB (al (iH false) (al aT (al br (ad 5) (fK (.int 90))) (fK (.int 4))) (fK (.int 0))))
  (aF 6 (al vX (tV (vH (ad 6)) eV (dP (iE lY (fK (.int 1))))) (p5 (af (al du (al bq (vH (ad 6)) (iE lY (fK (.int 1)))) (fK (.int 1))) am))))
  aD)
  (ar (aF 7 (al ku (al gR (al aT (al br (ad 5) (fK (.int 360))) (fK (.int 12))) (fK (.int 3))) (ad 4)))
  (ar (aF 8 (al du (ad 7) (al ku (al du (fK (.int 1)) (al aT (al br (ad 5) (fK (.int 4320))) (fK (.int 6)))) (ad 4))))
  (ar (dj (fB (al (iH false) (al aT (al br (ad 5) (fK (.int 30000))) (fK (.int 5))) (fK (.int 0))))
  (aF 7 (fK .non))
  aD)
  (ar (dj (fB (al (iH false) (al aT (al br (ad 5) (fK (.int 150000))) (fK (.int 5))) (fK (.int 0))))
  (aF 8 (fK .non))
  aD)
  (ar (dj (fB (al (iH false) (al aT (al br (ad 5) (fK (.int 750000))) (fK (.int 3))) (fK (.int 0))))
  (bo (bS (af (fK (.str "strike")) (af (fK (.str "some")) (af (tV (vH (ad 6)) eV (dP (ad 3))) (af (ad 7) (af (ad 8) am)))))))
  aD)
  (bo (bS (af (fK (.str "tell")) (af (fK (.str "some")) (af (ad 6) (af (ad 7) (af (ad 8) am))))))))))))))))
def cZ:MF:=dM 9 (gL)
abbrev fN (bt:Bool):FS:=(ar (aF 6 (fY (uk cG) 3 (af (ad 0) (af (ad 4) (af (ad 5) am)))))
  (ar (dj (iZ (fB (al DA (ad 5) (ad 3))) (d8 (d5 (aH ji 2 (af (bH (ad 2)) (af (bH (ad 4)) am))))))
  (bo (ad 6))
  aD)
  (ar (aF 6 (eW [1,2] 1 (cN (ad 6)) (bI 0) (fB (al (fL true) (tV (ad 0) eV (dP (ad 1))) (tV (al bq (ad 2) (fK (.int 2))) eV (dP (ad 1))))) (ad 0)))
  (ar (dj (fB (al (fL false) (al bq (ad 2) (fK (.int 0))) (fK (.str "tell"))))
  (eU (yB jY (ad 6) (af (al bq (ad 2) (fK (.int 2))) am)))
  aD)
  (bo (fJ zB (af (ad 6) am)))))))
def dz (bt:Bool):MC:=sx 7 (fN bt)
abbrev dg:FS:=(ar (dj (iZ (d8 (d5 (iE (jn "tuple") (ad 2)))) (iZ (fB (al (fL true) (fJ fV (af (ad 2) am)) (fK (.int 2)))) (iZ (d8 (d5 (aH bY 1 (af (bH (al bq (ad 2) (fK (.int 1)))) am)))) (fB (al (fL false) (al bq (ad 2) (fK (.int 1))) (ad 1))))))
  (bo (fK (.bl false)))
  aD)
  (aF 1 (al bq (ad 2) (fK (.int 1)))))
abbrev gM:FS:=(ar (dj (iZ (d8 (d5 (iE (jn "tuple") (ad 0)))) (iZ (fB (al (fL true) (fJ fV (af (ad 0) am)) (fK (.int 2)))) (d8 (d5 (aH bY 1 (af (bH (al bq (ad 0) (fK (.int 0)))) am))))))
  (bo (fK (.bl false)))
  aD)
  (ar (dj (d8 (d5 (iE (jn "tuple") (al bq (ad 0) (fK (.int 1))))))
  (bo (fK (.bl false)))
  aD)
  (ar (aF 1 (al bq (ad 0) (fK (.int 0))))
  (ar (gU (cN (al bq (ad 0) (fK (.int 1)))) (bI 2)
  dg)
  (bo (aH bR 1 (af (bH (eW [] 1 (cN (al bq (ad 0) (fK (.int 1)))) (bI 0) jv (al bq (ad 0) (fK (.int 0))))) am)))))))
def c6:MF:=dM 3 (gM)
abbrev cS (bt:Bool):FS:=(ar (dj (iZ (d8 (d5 (iE (jn "tuple") (ad 2)))) (iZ (fB (al (fL true) (fJ fV (af (ad 2) am)) (fK (.int 2)))) (d8 (d5 (iE (jn "tuple") (al bq (ad 2) (fK (.int 0))))))))
  (bo (fK (.bl false)))
  aD)
  (ar (dj (iZ (fB (al (fL true) (fJ fV (af (al bq (ad 2) (fK (.int 0))) am)) (ad 1))) (d8 (d5 (fJ (Cc false) (af (eW [] 1 (cN (al bq (ad 2) (fK (.int 0)))) (bI 0) jv (aH cH 1 (af (bH (ad 0)) am))) am)))))
  (bo (fK (.bl false)))
  aD)
  (dj (iZ (d8 (d5 (aH c6 1 (af (bH (al bq (ad 2) (fK (.int 1)))) am)))) (fB (al (fL false) (al bq (ad 2) (fK (.int 1))) (bS (af (bS (af (fK (.bl false)) (af (bS am) am))) (af (bS am) am))))))
  (bo (fK (.bl false)))
  aD)))
abbrev f8 (bt:Bool):FS:=(ar (dj (d8 (d5 (iE (jn "list") (ad 0))))
  (bo (fK (.bl false)))
  aD)
  (ar (gU (cN (ad 0)) (bI 2)
  (cS bt))
  (ar (aF 3 (eW [] 1 (cN (ad 0)) (bI 0) jv (al bq (ad 0) (fK (.int 0)))))
  (bo (al (fL false) (ad 3) (DU (ad 3)))))))
def bX (bt:Bool):MF:=dM 4 (f8 bt)
abbrev nc (bt:Bool):FS:=(ar (sw (aH (uk et) 4 (af (bH (ad 10)) (af (fK (.int 2)) (af (bH (ad 5)) (af (bH (ad 4)) am))))) (lL 2 (aB (bI 11) (aB (bI 12) bZ))))
  (ar (dj (fB (al (iH false) (al aT (aH aq 2 (af (bH (ad 10)) (af (fK (.int 9)) am))) (fK (.int 3))) (fK (.int 0))))
  (aF 12 (al gR (ad 7) (al aT (al br (aH aq 2 (af (bH (ad 10)) (af (fK (.int 9)) am))) (fK (.int 3))) (fK (.int 2)))))
  aD)
  (ar (dj (eT (fB (iE (ng true .non) (al bq (ad 6) (fK (.int 3))))) (fB (al (iH false) (al aT (al br (aH aq 2 (af (bH (ad 10)) (af (fK (.int 9)) am))) (fK (.int 6))) (fK (.int 4))) (fK (.int 0)))))
  (aF 11 (al gR (al bq (ad 6) (fK (.int 3))) (al aT (al br (aH aq 2 (af (bH (ad 10)) (af (fK (.int 9)) am))) (fK (.int 24))) (fK (.int 2)))))
  aD)
  (dj (fB (al (iH true) (fY (uk cG) 3 (af (ad 9) (af (ad 11) (af (ad 12) am)))) (fY (uk (dz bt)) 6 (af (ad 5) (af (ad 3) (af (ad 6) (af (ad 7) (af (ad 11) (af (ad 12) am)))))))))
  (bo (fK (.bl false)))
  aD))))
abbrev Cb (bt:Bool):FS:=(ar (aF 1 (aH cJ 2 (af (bH (ad 0)) (af (fK (.int 0)) am))))
  (ar (aF 2 (al du (fK (.int 1)) (al aT (ad 1) (fK (.int 3)))))
  (ar (aF 3 (al aT (al br (ad 1) (fK (.int 3))) (al du (ad 2) (fK (.int 1)))))
  (ar (aF 4 (aH eI 1 (af (bH (al br (ad 1) (fK (.int 12)))) am)))
  (ar (aF 5 (fY (eG bt) 3 (af (tV (ad 0) (dP (fK (.int 2))) (dP (fK (.int 22)))) (af (ad 2) (af (ad 4) am)))))
  (ar (aF 6 (aH cZ 5 (af (bH (aH cJ 2 (af (bH (ad 0)) (af (fK (.int 1)) am)))) (af (bH (ad 5)) (af (bH (ad 2)) (af (bH (ad 3)) (af (bH (ad 4)) am)))))))
  (ar (aF 7 (al du (aH (uk eu) 1 (af (bH (ad 5)) am)) (al bq (gk (af (fK (.int 1)) (af (fK (.int 7)) (af (al ll (fK (.int 10)) (fK (.int 40))) am)))) (al aT (al br (ad 1) (fK (.int 36))) (fK (.int 3))))))
  (ar (aF 8 (fJ pT (af (ad 5) am)))
  (ar (aF 9 (fY (fG bt) 4 (af (ad 8) (af (ad 3) (af (ad 6) (af (ad 7) am))))))
  (ar (dj (iZ (fB (al (iH true) (ad 8) (ad 5))) (d8 (d5 (oH (uk (bX bt)) 2 (af (ad 9) (af (ad 2) am))))))
  (bo (fK (.bl false)))
  aD)
  (ar (gU (cN (al du (gk (af (fK (.int 0)) am)) (tV (ad 0) eV (dP (fK (.int 63)))))) (bI 10)
  (nc bt))
  (ar (aF 13 (fJ pT (af (ad 9) am)))
  (ar (eU (yB jY (ad 9) (af (bS am) am)))
  (bo (tW (al (iH false) (ad 8) (ad 5)) (al (iH false) (fY (fG bt) 4 (af (ad 5) (af (ad 3) (af (ad 6) (af (ad 7) am))))) (ad 13)))))))))))))))))
def tj (bt:Bool):MF:=dM 14 (Cb bt)
def zs:Tn:=["dict","set","sorted","tuple","len","range","isinstance","bool","int","list","all","max"]
def L9 (mg:Td)(l:Tn):Prop:=∀(i:Nat) (x:Str),l[i]?=some x->mg x=none
theorem Fz {mg:Td}:L9 mg []:=fun i x e=>by simp at e
theorem db {mg:Td}{x:Str}{l:Tn}(h:mg x=none)(t:L9 mg l):L9 mg (x::l):=fun i y e=>by
 cases i with
 |zero=>cases e;exact h
 |succ i=>exact t i y e
def Zs (mg:Td):Prop:=L9 mg zs
section
variable  {P:Program}{w:World}{K:zac}{mg:Td}{base:Heap}
set_option maxHeartbeats 4000000
theorem vm (z:Zs mg)(d:bF K mg "truth_by" i4 ["word","one","other"])  : bg P w K mg base 1 "truth_by" ["word","one","other"] bB :=
 okP (k:=0) d sn fun f cdv A outer s H E hr =>
  (ah (bM (ph hr.units (ac 0) iQ)
  (ao (aM (sH (ac 1) (nV (ac 2)))))
  aX)
  (ah (bM (ph hr.units (ac 0) iQ)
  (ao (aM (JW (ac 1) (nV (ac 2)))))
  aX)
  (ah (bM (ph hr.units (ac 0) iQ)
  (ao (aM (sH (ac 1) (nV (sG (ac 2))))))
  aX)
  (ah (bM (ph hr.units (ac 0) iQ)
  (ao (aM (Mu hr.units (ac 1) (ac 2))))
  aX)
  (ao mW)))))
theorem qS (z:Zs mg)(d:bF K mg "stretch_of" gB ["low","high"])(c_NO_NUMBERS:gN K mg "NO_NUMBERS" (.tup [(.bl false),(.tup [])]))(c_ALL_NUMBERS:gN K mg "ALL_NUMBERS" (.tup [(.bl true),(.tup [])])):bg P w K mg base 1 "stretch_of" ["low","high"] dR :=
 okP (k:=0) d pj fun f cdv A outer s H E hr =>
  (ah (bM (uB (nt (wf (ac 0)) (j7 (wf (ac 1)))))
  (ao (aM (jG c_ALL_NUMBERS)))
  aX)
  (ah (bM (wf (ac 0))
  (ao (aM (bv (ae gF (ae (bv (ae (ac 1) aj)) aj)))))
  aX)
  (ah (bM (wf (ac 1))
  (ao (aM (bv (ae gF (ae (bv (ae (ac 0) aj)) aj)))))
  aX)
  (ah (bM (CB (ac 1) (ac 0))
  (ao (aM (jG c_NO_NUMBERS)))
  aX)
  (ao (aM (bv (ae gF (ae (bv (ae (ac 0) (ae (ac 1) aj))) aj)))))))))
theorem DC (z:Zs mg)(d:bF K mg "blend" jb ["one","other","word"])(iA:bg P w K mg base 1 "truth_by" ["word","one","other"] bB):bg P w K mg base 2 "blend" ["one","other","word"] (jJ (!HS.bt w)) :=
 okP (k:=1) d bV fun f cdv A outer s H E hr =>
  (ah (ay 3 bV.nd (aQ (ac 0) ag))
  (ah (ay 4 bV.nd (aQ (ac 1) ag))
  (ah (ay 5 bV.nd (az iA (hr.mono (by decide)) (ae (aR (ac 2)) (ae (aR (ac 3)) (ae (aR (ac 4)) aj)))))
  (ah (ay 6 bV.nd (ac 5))
  (ah (ay 7 bV.nd (Aj rfl rfl (z 0 _ rfl) (ae (ik [] ["edge"] [] rfl (show aN (ai jb) _ ["edge"] [] from ⟨rfl,by decide +kernel,by decide +kernel,by decide +kernel,by decide +kernel,by decide +kernel⟩) (dD (aQ (ac 0) ag)) (fun cl C s₂ H₂ fp=>⟨(cj 0 (show (["edge"]:Tn).Nodup by decide +kernel)),oF,(bv (ae (ac 0) (ae gF aj)))⟩)) aj)))
  (ah (ay 8 bV.nd (Aj rfl rfl (z 0 _ rfl) (ae (ik [] ["edge"] [] rfl (show aN (ai jb) _ ["edge"] [] from ⟨rfl,by decide +kernel,by decide +kernel,by decide +kernel,by decide +kernel,by decide +kernel⟩) (dD (aQ (ac 1) ag)) (fun cl C s₂ H₂ fp=>⟨(cj 0 (show (["edge"]:Tn).Nodup by decide +kernel)),oF,(bv (ae (ac 0) (ae gF aj)))⟩)) aj)))
  (ah (ay 9 bV.nd (gX aj))
  (ah (gm rfl (dD (Ah rfl rfl (z 2 _ rfl) (ae (J4 (Fd rfl rfl (z 1 _ rfl) (ae (aQ (ac 0) ag) aj)) (Fd rfl rfl (z 1 _ rfl) (ae (aQ (ac 1) ag) aj))) aj))) (cj 10 bV.nd)
  (ah (bM (Jn hr.units (ac 10) (ac 7))
  (ao (ay 3 bV.nd (sG (ac 3))))
  aX)
  (ah (bM (Jn hr.units (ac 10) (ac 8))
  (ao (ay 4 bV.nd (sG (ac 4))))
  aX)
  (ah (ay 11 bV.nd (az iA (hr.mono (by decide)) (ae (aR (ac 2)) (ae (aR (ac 3)) (ae (aR (ac 4)) aj)))))
  (ah (bM (lS hr.units (ac 11) (ac 6))
  (ao (gE (lj (ac 9) (ae (ac 10) aj))))
  aX)
  (ao (ay 6 bV.nd (ac 11))))))) PassesOwn.never)
  (ao (aM (bv (ae (ac 5) (ae (qE rfl (z 3 _ rfl) (ae (ac 9) aj)) aj)))))))))))))
theorem tG (z:Zs mg)(d:bF K mg "all_spots" ig ["plots"])  : bg P w K mg base 1 "all_spots" ["plots"] cK :=
 okP (k:=0) d qA fun f cdv A outer s H E hr =>
  (ah (bM (ph hr.units (iR rfl (z 4 _ rfl) (ae (ac 0) aj)) ag)
  (ao (aM (aQ (ac 0) ag)))
  aX)
  (ao mW))
theorem vn (z:Zs mg)(d:bF K mg "table_of" eE ["pairs"])(jr:bg P w K mg base 1 "all_spots" ["plots"] cK)(c_NO_SPOTS:gN K mg "NO_SPOTS" (.tup [(.tup [(.bl false),(.tup [])]),(.tup [])])):eL P w K mg base 2 "table_of" ["pairs"] (fT (!HS.bt w)) :=
 okN (k:=1) d eF fun f cdv A outer s H E hr =>
  (ah (ay 1 eF.nd J3)
  (ah (gm rfl (dD (ac 0)) (pw rfl (bA (cj 2 eF.nd) (bA (cj 3 eF.nd) gK)))
  (ao (gE (lj (GH hr.units (ac 1) (ac 2) (gX aj)) (ae (ac 3) aj)))) PassesOwn.never)
  (ah (nQ 4 [1] ["row"] ["plots"] rfl (show aN (ai eE) _ ["row"] ["plots"] from ⟨rfl,by decide +kernel,by decide +kernel,by decide +kernel,by decide +kernel,by decide +kernel⟩) eF.nd (dD (xR rfl rfl (z 2 _ rfl) (ae (ac 1) aj))) (fun cl C s₂ H₂ fp=>⟨(cj 0 (show (["row","plots"]:Tn).Nodup by decide +kernel)),oF,(bv (ae (ac 0) (ae (az jr (hr.mono (by decide)) (ae (aR (JT hr.units (ac 1) (ac 0))) aj)) aj)))⟩))
  (ao (aM (ik [] ["entry"] [] rfl (show aN (ai eE) _ ["entry"] [] from ⟨rfl,by decide +kernel,by decide +kernel,by decide +kernel,by decide +kernel,by decide +kernel⟩) (dD (ac 4)) (fun cl C s₂ H₂ fp=>⟨(cj 0 (show (["entry"]:Tn).Nodup by decide +kernel)),(Bx (lS hr.units (aQ (ac 0) ag) (jG c_NO_SPOTS))),(ac 0)⟩)))))))
theorem yr (z:Zs mg)(d:bF K mg "is_tell" kh ["telling"])  : bg P w K mg base 1 "is_tell" ["telling"] cA :=
 okP (k:=0) d u0 fun f cdv A outer s H E hr =>
  (ao (aM (J1 hr.units (aQ (ac 0) ag) iQ)))
theorem qT (z:Zs mg)(d:bF K mg "last_reach" gC ["plot"])  : bg P w K mg base 1 "last_reach" ["plot"] cg :=
 okP (k:=0) d pk fun f cdv A outer s H E hr =>
  (ao (aM (J0 (dI (aQ (ac 0) ag)) (aQ (aQ (aQ (ac 0) ag) (pM ag)) ag) (aQ (ac 0) ag))))
theorem yo (z:Zs mg)(d:bF K mg "stepped" kf ["plot","turn","reach"])(cT:bg P w K mg base 1 "last_reach" ["plot"] cg):bg P w K mg base 2 "stepped" ["plot","turn","reach"] gY :=
 okP (k:=1) d uZ fun f cdv A outer s H E hr =>
  (ah (bM (ph hr.units (ac 2) (az cT (hr.mono (by decide)) (ae (aR (ac 0)) aj)))
  (ao (aM (ac 0)))
  aX)
  (ao (aM (bv (ae (aQ (ac 0) ag) (ae (bT (aQ (ac 0) ag) (bv (ae (bv (ae (ac 1) (ae (ac 2) aj))) aj))) aj))))))
theorem yn (z:Zs mg)(d:bF K mg "told_on" j9 ["table","keys","telling","turn"])(iB:bg P w K mg base 1 "stretch_of" ["low","high"] dR)(jM:bg P w K mg base 1 "is_tell" ["telling"] cA)(kx:eL P w K mg base 2 "table_of" ["pairs"] (fT (!HS.bt w)))(mh:bg P w K mg base 2 "stepped" ["plot","turn","reach"] gY)(qV:bg P w K mg base 2 "blend" ["one","other","word"] (jJ (!HS.bt w)))(cT:bg P w K mg base 1 "last_reach" ["plot"] cg)(c_NO_SPOTS:gN K mg "NO_SPOTS" (.tup [(.tup [(.bl false),(.tup [])]),(.tup [])])):eL P w K mg base 3 "told_on" ["table","keys","telling","turn"] (fG (!HS.bt w)) :=
 okN (k:=2) d cE fun f cdv A outer s H E hr =>
  (ah (ay 4 cE.nd (aQ (ac 2) ag))
  (ah (ay 5 cE.nd (az iB (hr.mono (by decide)) (ae (aR (aQ (ac 2) ag)) (ae (aR (aQ (ac 2) ag)) aj))))
  (ah (ay 6 cE.nd (C9 hr.units rfl rfl (z 0 _ rfl) (ae (ac 0) aj)))
  (ah (bM (dI (az jM (hr.mono (by decide)) (ae (aR (ac 2)) aj)))
  (ao (gE (JV hr.units (ac 6) (ac 4) (jG c_NO_SPOTS))))
  aX)
  (ah (ay 7 cE.nd (gX aj))
  (ah (F5 rfl (DL (ac 6)) (pw rfl (bA (cj 8 cE.nd) (bA (cj 9 cE.nd) gK)))
  (ao (bM (my hr.units (sF (Ak (ac 8)) u2 (nW (ac 1))) (sF (Ak (ac 4)) u2 (nW (ac 1))))
  (ah (ay 10 cE.nd (J0 (uB (nt (dI (az jM (hr.mono (by decide)) (ae (aR (ac 2)) aj))) (j7 (my hr.units (ac 8) (ac 4))))) iQ iQ))
  (ao (gE (lj (ac 7) (ae (bv (ae (ac 8) (ae (az mh (hr.mono (by decide)) (ae (aR (ac 9)) (ae (aR (ac 3)) (ae (aR (az qV (hr.mono (by decide)) (ae (aR (az cT (hr.mono (by decide)) (ae (aR (ac 9)) aj))) (ae (aR (ac 5)) (ae (aR (ac 10)) aj))))) aj)))) aj))) aj)))))
  (ao (gE (lj (ac 7) (ae (bv (ae (ac 8) (ae (ac 9) aj))) aj)))))) PassesOwn.never)
  (ao (aM (e6 kx (hr.mono (by decide)) (ae (ac 7) aj))))))))))
theorem vA (z:Zs mg)(d:bF K mg "_law_cell" ja ["script","k"])  : bg P w K mg base 1 "_law_cell" ["script","k"] cJ :=
 okP (k:=0) d so fun f cdv A outer s H E hr =>
  (ah (bM (FW (ac 1) (iR rfl (z 4 _ rfl) (ae (ac 0) aj)))
  (ao (aM (aQ (ac 0) (ac 1))))
  aX)
  (ao (aM ag)))
theorem vp (z:Zs mg)(d:bF K mg "_law_stir" i5 ["cell","k"])  : bg P w K mg base 1 "_law_stir" ["cell","k"] aq :=
 okP (k:=0) d jc fun f cdv A outer s H E hr =>
  (ah (ay 2 jc.nd (bf (lh (bT (bf (ac 0) ag) ag) ag) ag))
  (ah (ay 2 jc.nd (bf (bT (bT (lh (ac 2) (ac 2)) (lh (ac 1) ag)) ag) ag))
  (ao (aM (bf (lh (ac 2) (ac 2)) ag)))))
theorem tF (z:Zs mg)(d:bF K mg "_law_reach" ic ["number","scale"])  : bg P w K mg base 1 "_law_reach" ["number","scale"] cI :=
 okP (k:=0) d ca fun f cdv A outer s H E hr =>
  (ah (ay 2 ca.nd (gX aj))
  (ah (ay 3 ca.nd (je (bf (ac 0) ag) ag))
  (ah (ay 4 ca.nd (bJ (ac 0) ag))
  (ah (gm rfl (DK rfl (z 5 _ rfl) (bT (bf (bJ (ac 0) ag) ag) (bf (ac 4) ag))) (cj 5 ca.nd)
  (ah (ay 3 ca.nd (bT (bT (ac 3) ag) (bf (bJ (ac 4) ag) ag)))
  (ah (gE (lj (ac 2) (ae (lh (ac 3) (ac 1)) aj)))
  (ao (ay 4 ca.nd (bJ (ac 4) ag))))) PassesOwn.never)
  (ao (aM (bv (ae (JY (bf (ac 4) ag) ag) (ae (qE rfl (z 3 _ rfl) (ae (ac 2) aj)) aj)))))))))
theorem vt (z:Zs mg)(d:bF K mg "_law_plot" i7 ["cell","k","scale"])(aK:bg P w K mg base 1 "_law_stir" ["cell","k"] aq)(gr:bg P w K mg base 1 "_law_reach" ["number","scale"] cI):bg P w K mg base 2 "_law_plot" ["cell","k","scale"] fU :=
 okP (k:=1) d bu fun f cdv A outer s H E hr =>
  (ah (ay 3 bu.nd (az aK (hr.mono (by decide)) (ae (aR (ac 0)) (ae (aR (ac 1)) aj))))
  (ah (ay 4 bu.nd (bv (ae gF (ae (bv aj) aj))))
  (ah (bM (ph hr.units (bf (ac 3) ag) ag)
  (ao (ay 4 bu.nd (az gr (hr.mono (by decide)) (ae (aR (bJ (ac 3) ag)) (ae (aR (ac 2)) aj)))))
  aX)
  (ah (ay 5 bu.nd (ac 4))
  (ah (ay 6 bu.nd (je (bf (bJ (ac 3) ag) ag) ag))
  (ah (ay 7 bu.nd (gX aj))
  (ah (gm rfl (DK rfl (z 5 _ rfl) (bf (bJ (ac 3) ag) ag)) (cj 8 bu.nd)
  (ah (ay 9 bu.nd (az gr (hr.mono (by decide)) (ae (aR (az aK (hr.mono (by decide)) (ae (aR (ac 0)) (ae (aR (bT (bT (ac 1) ag) (ac 8))) aj)))) (ae (aR (ac 2)) aj))))
  (ah (bM (lS hr.units (ac 9) (ac 5))
  (ah (gE (lj (ac 7) (ae (bv (ae (lh (ac 6) (aQ (gX (ae ag (ae (wv ag ag) aj))) (bf (bJ (ac 3) ag) ag))) (ae (ac 9) aj))) aj)))
  (ao (ay 5 bu.nd (ac 9))))
  aX)
  (ao (ay 6 bu.nd (bT (bT (ac 6) ag) (bf (bJ (az aK (hr.mono (by decide)) (ae (aR (ac 0)) (ae (aR (bT (ac 1) ag)) aj))) ag) ag)))))) PassesOwn.never)
  (ao (aM (bv (ae (ac 4) (ae (qE rfl (z 3 _ rfl) (ae (ac 7) aj)) aj))))))))))))
theorem yp (z:Zs mg)(d:bF K mg "_law_row" kg ["cell","k","width"])(aK:bg P w K mg base 1 "_law_stir" ["cell","k"] aq):bg P w K mg base 2 "_law_row" ["cell","k","width"] dA :=
 okP (k:=1) d fQ fun f cdv A outer s H E hr =>
  (ah (ay 3 fQ.nd (az aK (hr.mono (by decide)) (ae (aR (ac 0)) (ae (aR (bT (ac 1) ag)) aj))))
  (ah (ay 4 fQ.nd (gX aj))
  (ah (gm rfl (DK rfl (z 5 _ rfl) (ac 2)) (cj 5 fQ.nd)
  (ah (gE (lj (ac 4) (ae (aQ (gX (ae ag (ae ag (ae ag (ae (pM ag) (ae ag (ae (bf (ac 0) (wv ag ag)) aj))))))) (bf (ac 3) ag)) aj)))
  (ao (ay 3 fQ.nd (bJ (ac 3) ag)))) PassesOwn.never)
  (ao (aM (GI rfl (z 3 _ rfl) (ae (ac 4) aj)))))))
theorem vw (z:Zs mg)(d:bF K mg "_law_lies" i8 ["plot","day","turn"])  : bg P w K mg base 1 "_law_lies" ["plot","day","turn"] dk :=
 okP (k:=0) d bP fun f cdv A outer s H E hr =>
  (ah (sv (aQ (ac 0) ag) (pw rfl (bA (cj 3 bP.nd) (bA (cj 4 bP.nd) gK))))
  (ah (gm rfl (dD (aQ (ac 0) ag)) (pw rfl (bA (cj 5 bP.nd) (bA (cj 6 bP.nd) gK)))
  (ao (bM (CB (ac 5) (ac 2))
  (ao (sv (ac 6) (pw rfl (bA (cj 3 bP.nd) (bA (cj 4 bP.nd) gK)))))
  aX)) PassesOwn.never)
  (ah (gm rfl (dD (ac 4)) (cj 7 bP.nd)
  (ao (bM (CB (ac 7) (ac 1))
  (ao (ay 3 bP.nd (sG (ac 3))))
  aX)) PassesOwn.never)
  (ao (aM (ac 3))))))
theorem tw (z:Zs mg)(d:bF K mg "_law_whole" hV ["thing"])  : bg P w K mg base 1 "_law_whole" ["thing"] cH :=
 okP (k:=0) d qy fun f cdv A outer s H E hr =>
  (ao (aM (sH (jf yj rfl (z 6 _ rfl) rfl (z 8 _ rfl) yO (ac 0)) (nV (sG (jf om rfl (z 6 _ rfl) rfl (z 7 _ rfl) oV (ac 0)))))))
theorem tE (z:Zs mg)(d:bF K mg "_law_rises" hZ ["some"])(dE:bg P w K mg base 1 "_law_whole" ["thing"] cH):bg P w K mg base 2 "_law_rises" ["some"] bR :=
 okP (k:=1) d lc fun f cdv A outer s H E hr =>
  (ah (gm rfl (DK rfl (z 5 _ rfl) (iR rfl (z 4 _ rfl) (ae (ac 0) aj))) (cj 1 lc.nd)
  (ao (bM (uB (kW (fO (dI (az dE (hr.mono (by decide)) (ae (aR (aQ (ac 0) (ac 1))) aj)))) (kU (uB (nt (FX (ac 1) ag) (j7 (CB (aQ (ac 0) (ac 1)) (aQ (ac 0) (je (ac 1) ag)))))))))
  (ao (aM gF))
  aX)) PassesOwn.never)
  (ao (aM gF)))
theorem ot (z:Zs mg)(d:bF K mg "_law_is_reach" eN ["thing"])(dF:bg P w K mg base 2 "_law_rises" ["some"] bR):bg P w K mg base 3 "_law_is_reach" ["thing"] bY :=
 okP (k:=2) d mL fun f cdv A outer s H E hr =>
  (ah (bM (uB (kW (fO (dI (jf cL rfl (z 6 _ rfl) rfl (z 3 _ rfl) cO (ac 0)))) (kW (lS hr.units (iR rfl (z 4 _ rfl) (ae (ac 0) aj)) ag) (kU (fO (dI (jf om rfl (z 6 _ rfl) rfl (z 7 _ rfl) oV (aQ (ac 0) ag))))))))
  (ao (aM gF))
  aX)
  (ao (aM (sH (jf cL rfl (z 6 _ rfl) rfl (z 3 _ rfl) cO (aQ (ac 0) ag)) (nV (az dF (hr.mono (by decide)) (ae (aR (aQ (ac 0) ag)) aj)))))))
theorem pv (z:Zs mg)(d:bF K mg "_law_is_plot" dJ ["thing"])(dF:bg P w K mg base 2 "_law_rises" ["some"] bR)(dX:bg P w K mg base 3 "_law_is_reach" ["thing"] bY):bg P w K mg base 4 "_law_is_plot" ["thing"] c6 :=
 okP (k:=3) d dL fun f cdv A outer s H E hr =>
  (ah (bM (uB (kW (fO (dI (jf cL rfl (z 6 _ rfl) rfl (z 3 _ rfl) cO (ac 0)))) (kW (lS hr.units (iR rfl (z 4 _ rfl) (ae (ac 0) aj)) ag) (kU (fO (dI (az dX (hr.mono (by decide)) (ae (aR (aQ (ac 0) ag)) aj))))))))
  (ao (aM gF))
  aX)
  (ah (bM (fO (dI (jf cL rfl (z 6 _ rfl) rfl (z 3 _ rfl) cO (aQ (ac 0) ag))))
  (ao (aM gF))
  aX)
  (ah (ay 1 dL.nd (aQ (ac 0) ag))
  (ah (gm rfl (dD (aQ (ac 0) ag)) (cj 2 dL.nd)
  (ah (bM (uB (kW (fO (dI (jf cL rfl (z 6 _ rfl) rfl (z 3 _ rfl) cO (ac 2)))) (kW (lS hr.units (iR rfl (z 4 _ rfl) (ae (ac 2) aj)) ag) (kW (fO (dI (az dX (hr.mono (by decide)) (ae (aR (aQ (ac 2) ag)) aj)))) (kU (ph hr.units (aQ (ac 2) ag) (ac 1)))))))
  (ao (aM gF))
  aX)
  (ao (ay 1 dL.nd (aQ (ac 2) ag)))) PassesOwn.never)
  (ao (aM (az dF (hr.mono (by decide)) (ae (aR (ik [] ["step"] [] rfl (show aN (ai dJ) _ ["step"] [] from ⟨rfl,by decide +kernel,by decide +kernel,by decide +kernel,by decide +kernel,by decide +kernel⟩) (dD (aQ (ac 0) ag)) (fun cl C s₂ H₂ fp=>⟨(cj 0 (show (["step"]:Tn).Nodup by decide +kernel)),oF,(aQ (ac 0) ag)⟩))) aj))))))))
theorem oq (z:Zs mg)(d:bF K mg "_law_is_table" cn ["thing","width"])(gJ:bg P w K mg base 4 "_law_is_plot" ["thing"] c6)(dE:bg P w K mg base 1 "_law_whole" ["thing"] cH):bg P w K mg base 5 "_law_is_table" ["thing","width"] (bX (!HS.bt w)) :=
 okP (k:=4) d eP fun f cdv A outer s H E hr =>
  (ah (bM (fO (dI (jf vj rfl (z 6 _ rfl) rfl (z 9 _ rfl) vT (ac 0))))
  (ao (aM gF))
  aX)
  (ah (gm rfl (dD (ac 0)) (cj 2 eP.nd)
  (ah (bM (uB (kW (fO (dI (jf cL rfl (z 6 _ rfl) rfl (z 3 _ rfl) cO (ac 2)))) (kW (lS hr.units (iR rfl (z 4 _ rfl) (ae (ac 2) aj)) ag) (kU (fO (dI (jf cL rfl (z 6 _ rfl) rfl (z 3 _ rfl) cO (aQ (ac 2) ag))))))))
  (ao (aM gF))
  aX)
  (ah (bM (uB (kW (lS hr.units (iR rfl (z 4 _ rfl) (ae (aQ (ac 2) ag) aj)) (ac 1)) (kU (fO (dI (J5 rfl rfl (z 10 _ rfl) (ae (ik [] ["one"] [] rfl (show aN (ai cn) _ ["one"] [] from ⟨rfl,by decide +kernel,by decide +kernel,by decide +kernel,by decide +kernel,by decide +kernel⟩) (dD (aQ (ac 2) ag)) (fun cl C s₂ H₂ fp=>⟨(cj 0 (show (["one"]:Tn).Nodup by decide +kernel)),oF,(az dE (hr.mono (by decide)) (ae (aR (ac 0)) aj))⟩)) aj)))))))
  (ao (aM gF))
  aX)
  (ao (bM (uB (kW (fO (dI (az gJ (hr.mono (by decide)) (ae (aR (aQ (ac 2) ag)) aj)))) (kU (ph hr.units (aQ (ac 2) ag) (bv (ae (bv (ae gF (ae (bv aj) aj))) (ae (bv aj) aj)))))))
  (ao (aM gF))
  aX)))) PassesOwn.never)
  (ah (nQ 3 [] ["entry"] [] rfl (show aN (ai cn) _ ["entry"] [] from ⟨rfl,by decide +kernel,by decide +kernel,by decide +kernel,by decide +kernel,by decide +kernel⟩) eP.nd (dD (ac 0)) (fun cl C s₂ H₂ fp=>⟨(cj 0 (show (["entry"]:Tn).Nodup by decide +kernel)),oF,(aQ (ac 0) ag)⟩))
  (ao (aM (J1 hr.units (ac 3) (J6 rfl hr.units rfl (z 2 _ rfl) rfl (z 1 _ rfl) (ac 3))))))))
theorem tz (z:Zs mg)(d:bF K mg "_law_table" eY ["cells","width","scale"])(kz:bg P w K mg base 2 "_law_plot" ["cell","k","scale"] fU)(fI:bg P w K mg base 2 "_law_row" ["cell","k","width"] dA):eL P w K mg base 3 "_law_table" ["cells","width","scale"] (eG (!HS.bt w)) :=
 okN (k:=2) d eZ fun f cdv A outer s H E hr =>
  (ah (ay 3 eZ.nd J2)
  (ah (gm rfl (dD (ac 0)) (cj 4 eZ.nd)
  (ah (ay 5 eZ.nd (az kz (hr.mono (by decide)) (ae (aR (ac 4)) (ae ag (ae (aR (ac 2)) aj)))))
  (ao (bM (lS hr.units (ac 5) (bv (ae (bv (ae gF (ae (bv aj) aj))) (ae (bv aj) aj))))
  (ao (sv (aR (ac 5)) (Kw hr.units (ac 3) (az fI (hr.mono (by decide)) (ae (aR (ac 4)) (ae ag (ae (aR (ac 1)) aj)))))))
  aX))) PassesOwn.never)
  (ao (aM (ik [3] ["row"] ["plots"] rfl (show aN (ai eY) _ ["row"] ["plots"] from ⟨rfl,by decide +kernel,by decide +kernel,by decide +kernel,by decide +kernel,by decide +kernel⟩) (dD (xQ rfl rfl (z 2 _ rfl) (ae (ac 3) aj))) (fun cl C s₂ H₂ fp=>⟨(cj 0 (show (["row","plots"]:Tn).Nodup by decide +kernel)),oF,(bv (ae (ac 0) (ae (JU hr.units (ac 1) (ac 0)) aj)))⟩))))))
theorem tD (z:Zs mg)(d:bF K mg "_law_scale" hX ["cell"])  : bg P w K mg base 1 "_law_scale" ["cell"] eI :=
 okP (k:=0) d qz fun f cdv A outer s H E hr =>
  (ao (aM (aQ (gX (ae ag (ae ag (ae (wv ag ag) aj)))) (bf (ac 0) ag))))
theorem vq (z:Zs mg)(d:bF K mg "_law_spot" i6 ["cell","k","table","scale"])(aK:bg P w K mg base 1 "_law_stir" ["cell","k"] aq):bg P w K mg base 2 "_law_spot" ["cell","k","table","scale"] et :=
 okP (k:=1) d bG fun f cdv A outer s H E hr =>
  (ah (ay 4 bG.nd (az aK (hr.mono (by decide)) (ae (aR (ac 0)) (ae (aR (bT (ac 1) ag)) aj))))
  (ah (ay 5 bG.nd (je (bf (ac 4) ag) ag))
  (ah (ay 6 bG.nd (je (lh (je (bf (bJ (ac 4) ag) ag) ag) (ac 3)) (bf (bJ (ac 4) ag) ag)))
  (ah (bM (uB (nt (lS hr.units (ac 2) (gX aj)) (j7 (FX (bf (bJ (ac 4) ag) ag) ag))))
  (ah (ay 7 bG.nd (aQ (aQ (ac 2) (bf (bJ (ac 4) ag) (iR rfl (z 4 _ rfl) (ae (ac 2) aj)))) ag))
  (ah (ay 8 bG.nd (aQ (ac 7) ag))
  (ah (bM (lS hr.units (aQ (ac 7) ag) (bv aj))
  (ah (sv (aQ (aQ (ac 7) ag) (bf (bJ (ac 4) ag) (iR rfl (z 4 _ rfl) (ae (aQ (ac 7) ag) aj)))) (pw rfl (bA (cj 5 bG.nd) (bA (cj 8 bG.nd) gK))))
  (ao (ay 5 bG.nd (je (ac 5) (bf (bJ (ac 4) ag) ag)))))
  aX)
  (ao (bM (lS hr.units (aQ (ac 8) ag) (bv aj))
  (ao (ay 6 bG.nd (je (aQ (aQ (ac 8) ag) (bf (bJ (ac 4) ag) (iR rfl (z 4 _ rfl) (ae (aQ (ac 8) ag) aj)))) (bf (bJ (ac 4) ag) ag))))
  aX)))))
  aX)
  (ao (aM (bv (ae (ac 6) (ae (ac 5) aj)))))))))
theorem A9 (z:Zs mg)(d:bF K mg "_law_at" jC ["table","day","turn"])(kA:bg P w K mg base 1 "_law_lies" ["plot","day","turn"] dk):eL P w K mg base 2 "_law_at" ["table","day","turn"] cG :=
 okN (k:=1) d xL fun f cdv A outer s H E hr =>
  (ao (aM (ik [1,2] ["row","plot"] ["day","turn"] rfl (show aN (ai jC) _ ["row","plot"] ["day","turn"] from ⟨rfl,by decide +kernel,by decide +kernel,by decide +kernel,by decide +kernel,by decide +kernel⟩) (dD (ac 0)) (fun cl C s₂ H₂ fp=>⟨(pw rfl (bA (cj 0 (show (["row","plot","day","turn"]:Tn).Nodup by decide +kernel)) (bA (cj 1 (show (["row","plot","day","turn"]:Tn).Nodup by decide +kernel)) gK))),(Bx (dI (az kA (hr.mono (by decide)) (ae (aR (ac 1)) (ae (aR (ac 2)) (ae (aR (ac 3)) aj)))))),(ac 0)⟩))))
theorem A8 (z:Zs mg)(d:bF K mg "_law_in" lT ["telling","day"])  : bg P w K mg base 1 "_law_in" ["telling","day"] ji :=
 okP (k:=0) d xK fun f cdv A outer s H E hr =>
  (ah (bM (uB (nt (zp (aQ (ac 0) ag)) (j7 (FW (ac 1) (aQ (ac 0) ag)))))
  (ao (aM gF))
  aX)
  (ao (aM (JW (JZ (aQ (ac 0) ag)) (nV (JY (ac 1) (aQ (ac 0) ag)))))))
theorem pr (z:Zs mg)(d:bF K mg "_law_telling" fP ["cell","table","width","keys","scale"])(aK:bg P w K mg base 1 "_law_stir" ["cell","k"] aq)(fI:bg P w K mg base 2 "_law_row" ["cell","k","width"] dA):bg P w K mg base 3 "_law_telling" ["cell","table","width","keys","scale"] cZ :=
 okP (k:=2) d bi fun f cdv A outer s H E hr =>
  (ah (ay 5 bi.nd (az aK (hr.mono (by decide)) (ae (aR (ac 0)) (ae ag aj))))
  (ah (ay 6 bi.nd (az fI (hr.mono (by decide)) (ae (aR (ac 0)) (ae ag (ae (aR (ac 2)) aj)))))
  (ah (bM (uB (nt (zq hr.units (ac 1) (gX aj)) (j7 (FX (bf (ac 5) ag) ag))))
  (ao (ay 6 bi.nd (aQ (aQ (ac 1) (bf (bJ (ac 5) ag) (iR rfl (z 4 _ rfl) (ae (ac 1) aj)))) ag)))
  aX)
  (ah (bM (my hr.units (bf (bJ (ac 5) ag) ag) ag)
  (ao (ay 6 bi.nd (GK (sF (Ak (ac 6)) u2 (nW (pM ag))) (GG (ae (bT (aQ (Ak (ac 6)) (pM ag)) ag) aj)))))
  aX)
  (ah (ay 7 bi.nd (lh (je (bf (bJ (ac 5) ag) ag) ag) (ac 4)))
  (ah (ay 8 bi.nd (bT (ac 7) (lh (bT ag (bf (bJ (ac 5) ag) ag)) (ac 4))))
  (ah (bM (my hr.units (bf (bJ (ac 5) ag) ag) ag)
  (ao (ay 7 bi.nd Fe))
  aX)
  (ah (bM (my hr.units (bf (bJ (ac 5) ag) ag) ag)
  (ao (ay 8 bi.nd Fe))
  aX)
  (ah (bM (my hr.units (bf (bJ (ac 5) ag) ag) ag)
  (ao (aM (bv (ae iQ (ae iQ (ae (sF (Ak (ac 6)) u2 (nW (ac 3))) (ae (ac 7) (ae (ac 8) aj))))))))
  aX)
  (ao (aM (bv (ae iQ (ae iQ (ae (ac 6) (ae (ac 7) (ae (ac 8) aj)))))))))))))))))
theorem vz (z:Zs mg)(d:bF K mg "_law_last" i9 ["table"])  : bg P w K mg base 1 "_law_last" ["table"] eu :=
 okP (k:=0) d cF fun f cdv A outer s H E hr =>
  (ah (ay 1 cF.nd ag)
  (ah (gm rfl (dD (ac 0)) (pw rfl (bA (cj 2 cF.nd) (bA (cj 3 cF.nd) gK)))
  (ao (gm rfl (dD (aQ (ac 3) ag)) (pw rfl (bA (cj 4 cF.nd) (bA (cj 5 cF.nd) gK)))
  (ao (ay 1 cF.nd (JX rfl rfl (z 11 _ rfl) (ae (ac 1) (ae (ac 4) aj))))) PassesOwn.never)) PassesOwn.never)
  (ao (aM (ac 1)))))
theorem yq (z:Zs mg)(d:bF K mg "_law_due" ie ["table","keys","telling","at","day","turn"])(g6:eL P w K mg base 2 "_law_at" ["table","day","turn"] cG)(ow:bg P w K mg base 1 "_law_in" ["telling","day"] ji):eL P w K mg base 3 "_law_due" ["table","keys","telling","at","day","turn"] (dz (!HS.bt w)) :=
 okN (k:=2) d ki fun f cdv A outer s H E hr =>
  (ah (ay 6 ki.nd (e6 (on g6) (hr.mono (by decide)) (ae (ac 0) (ae (ac 4) (ae (ac 5) aj)))))
  (ah (bM (uB (kW (FW (ac 5) (ac 3)) (kU (fO (dI (az ow (hr.mono (by decide)) (ae (aR (ac 2)) (ae (aR (ac 4)) aj))))))))
  (ao (aM (ac 6)))
  aX)
  (ah (nQ 6 [1,2] ["row"] ["keys","telling"] rfl (show aN (ai ie) _ ["row"] ["keys","telling"] from ⟨rfl,by decide +kernel,by decide +kernel,by decide +kernel,by decide +kernel,by decide +kernel⟩) ki.nd (dD (ac 6)) (fun cl C s₂ H₂ fp=>⟨(cj 0 (show (["row","keys","telling"]:Tn).Nodup by decide +kernel)),(Bx (lS hr.units (sF (ac 0) u2 (nW (ac 1))) (sF (aQ (ac 2) ag) u2 (nW (ac 1))))),(ac 0)⟩))
  (ah (bM (ph hr.units (aQ (ac 2) ag) iQ)
  (ao (gE (lj (ac 6) (ae (aQ (ac 2) ag) aj))))
  aX)
  (ao (aM (xS rfl (z 2 _ rfl) (ae (ac 6) aj))))))))
theorem Kp {f:Addr}{fd:FuncData}(z:Zs mg)(F:rN K "law" "law" uU f fd)(iC:bg P w K mg base 1 "_law_cell" ["script","k"] cJ)(jq:bg P w K mg base 1 "_law_scale" ["cell"] eI)(jp:eL P w K mg base 3 "_law_table" ["cells","width","scale"] (eG (!HS.bt w)))(gH:bg P w K mg base 3 "_law_telling" ["cell","table","width","keys","scale"] cZ)(jL:eL P w K mg base 3 "told_on" ["table","keys","telling","turn"] (fG (!HS.bt w)))(kB:bg P w K mg base 1 "_law_last" ["table"] eu)(ky:bg P w K mg base 2 "_law_spot" ["cell","k","table","scale"] et)(fX:bg P w K mg base 5 "_law_is_table" ["thing","width"] (bX (!HS.bt w)))(g6:eL P w K mg base 2 "_law_at" ["table","day","turn"] cG)(mi:eL P w K mg base 3 "_law_due" ["table","keys","telling","at","day","turn"] (dz (!HS.bt w)))(aK:bg P w K mg base 1 "_law_stir" ["cell","k"] aq):cP P w K mg base mK 6 f fd ["script"] (yV K 1 (tj (!HS.bt w))) :=
 HI (k:=5) F cU fun cdv A outer s H E hr =>
  (ah (ay 1 cU.nd (az iC (hr.mono (by decide)) (ae (aR (ac 0)) (ae ag aj))))
  (ah (ay 2 cU.nd (bT ag (bf (ac 1) ag)))
  (ah (ay 3 cU.nd (bf (bJ (ac 1) ag) (bT (ac 2) ag)))
  (ah (ay 4 cU.nd (az jq (hr.mono (by decide)) (ae (aR (bJ (ac 1) ag)) aj)))
  (ah (ay 5 cU.nd (e6 jp (hr.mono (by decide)) (ae (sF (ac 0) (nW ag) (nW ag)) (ae (ac 2) (ae (ac 4) aj)))))
  (ah (ay 6 cU.nd (az gH (hr.mono (by decide)) (ae (aR (az iC (hr.mono (by decide)) (ae (aR (ac 0)) (ae ag aj)))) (ae (aR (ac 5)) (ae (aR (ac 2)) (ae (aR (ac 3)) (ae (aR (ac 4)) aj)))))))
  (ah (ay 7 cU.nd (bT (az (qR kB) (hr.mono (by decide)) (ae (aR (ac 5)) aj)) (aQ (gX (ae ag (ae ag (ae (wv ag ag) aj)))) (bf (bJ (ac 1) ag) ag))))
  (ah (ay 8 cU.nd (Ai rfl (z 9 _ rfl) (ae (ac 5) aj)))
  (ah (ay 9 cU.nd (e6 jL (hr.mono (by decide)) (ae (ac 8) (ae (ac 3) (ae (ac 6) (ae (ac 7) aj))))))
  (ah (bM (uB (kW (zq hr.units (ac 8) (ac 5)) (kU (fO (dI (qF (qR fX) (hr.mono (by decide)) (ae (ac 9) (ae (ac 2) aj))))))))
  (ao (aM gF))
  aX)
  (ah (gm rfl (dD (bT (gX (ae ag aj)) (sF (ac 0) u2 (nW ag)))) (cj 10 cU.nd)
  (ah (sv (az (qR ky) (hr.mono (by decide)) (ae (aR (ac 10)) (ae ag (ae (aR (ac 5)) (ae (aR (ac 4)) aj))))) (pw rfl (bA (cj 11 cU.nd) (bA (cj 12 cU.nd) gK))))
  (ah (bM (my hr.units (bf (az aK (hr.mono (by decide)) (ae (aR (ac 10)) (ae ag aj))) ag) ag)
  (ao (ay 12 cU.nd (je (ac 7) (bf (bJ (az aK (hr.mono (by decide)) (ae (aR (ac 10)) (ae ag aj))) ag) ag))))
  aX)
  (ah (bM (uB (nt (zp (aQ (ac 6) ag)) (j7 (my hr.units (bf (bJ (az aK (hr.mono (by decide)) (ae (aR (ac 10)) (ae ag aj))) ag) ag) ag))))
  (ao (ay 11 cU.nd (je (aQ (ac 6) ag) (bf (bJ (az aK (hr.mono (by decide)) (ae (aR (ac 10)) (ae ag aj))) ag) ag))))
  aX)
  (ao (bM (zq hr.units (e6 (on g6) (hr.mono (by decide)) (ae (ac 9) (ae (ac 11) (ae (ac 12) aj)))) (e6 (on mi) (hr.mono (by decide)) (ae (ac 5) (ae (ac 3) (ae (ac 6) (ae (ac 7) (ae (ac 11) (ae (ac 12) aj))))))))
  (ao (aM gF))
  aX))))) PassesOwn.never)
  (ah (ay 13 cU.nd (Ai rfl (z 9 _ rfl) (ae (ac 9) aj)))
  (ah (gE (lj (ac 9) (ae (bv aj) aj)))
  (ao (aM (sH (Ff hr.units (ac 8) (ac 5)) (nV (Ff hr.units (e6 jL (hr.mono (by decide)) (ae (ac 5) (ae (ac 3) (ae (ac 6) (ae (ac 7) aj))))) (ac 13)))))))))))))))))))
end
set_option maxHeartbeats 4000000 in
theorem Il {l:PySem.W.OpenLaw}{w:World}{K:zac}{h:Heap}{mg:Td}{fa:Addr}(X:K.In h)(G:h.Ns mainGlobals mg)(hfa:mg "law" = some (.ref fa))
  (a0:FK K "truth_by" i4)
  (a1:FK K "stretch_of" gB)
  (a2:FK K "blend" jb)
  (a3:FK K "all_spots" ig)
  (a4:FK K "table_of" eE)
  (a5:FK K "is_tell" kh)
  (a6:FK K "last_reach" gC)
  (a7:FK K "stepped" kf)
  (a8:FK K "told_on" j9)
  (a9:FK K "_law_cell" ja)
  (a10:FK K "_law_stir" i5)
  (a11:FK K "_law_reach" ic)
  (a12:FK K "_law_plot" i7)
  (a13:FK K "_law_row" kg)
  (a14:FK K "_law_lies" i8)
  (a15:FK K "_law_whole" hV)
  (a16:FK K "_law_rises" hZ)
  (a17:FK K "_law_is_reach" eN)
  (a18:FK K "_law_is_plot" dJ)
  (a19:FK K "_law_is_table" cn)
  (a20:FK K "_law_table" eY)
  (a21:FK K "_law_scale" hX)
  (a22:FK K "_law_spot" i6)
  (a23:FK K "_law_at" jC)
  (a24:FK K "_law_in" lT)
  (a25:FK K "_law_telling" fP)
  (a26:FK K "_law_last" i9)
  (a27:FK K "_law_due" ie)
  (a28:FK K "law" uU)
  {qNO_NUMBERS:Addr} {qnNO_NUMBERS:Nat} {qsNO_NUMBERS:Array (Tg)} {qNO_NUMBERS_1:Addr} {qnNO_NUMBERS_1:Nat} {qsNO_NUMBERS_1:Array (Tg)} {qALL_NUMBERS:Addr} {qnALL_NUMBERS:Nat} {qsALL_NUMBERS:Array (Tg)} {qALL_NUMBERS_1:Addr} {qnALL_NUMBERS_1:Nat} {qsALL_NUMBERS_1:Array (Tg)} {qNO_SPOTS:Addr} {qnNO_SPOTS:Nat} {qsNO_SPOTS:Array (Tg)} {qNO_SPOTS_1:Addr} {qnNO_SPOTS_1:Nat} {qsNO_SPOTS_1:Array (Tg)} {qNO_SPOTS_0:Addr} {qnNO_SPOTS_0:Nat} {qsNO_SPOTS_0:Array (Tg)} {qNO_SPOTS_0_1:Addr} {qnNO_SPOTS_0_1:Nat} {qsNO_SPOTS_0_1:Array (Tg)} (gNO_NUMBERS:PySem.W.nsIn K mainGlobals "NO_NUMBERS" = some (some (.ref qNO_NUMBERS))) (LNO_NUMBERS:K.lookup qNO_NUMBERS=some ⟨.type "tuple",none,.seq ([(.bool false),(.ref qNO_NUMBERS_1)]:Te).toArray qnNO_NUMBERS,qsNO_NUMBERS⟩) (LNO_NUMBERS_1:K.lookup qNO_NUMBERS_1=some ⟨.type "tuple",none,.seq ([]:Te).toArray qnNO_NUMBERS_1,qsNO_NUMBERS_1⟩) (gALL_NUMBERS:PySem.W.nsIn K mainGlobals "ALL_NUMBERS" = some (some (.ref qALL_NUMBERS))) (LALL_NUMBERS:K.lookup qALL_NUMBERS=some ⟨.type "tuple",none,.seq ([(.bool true),(.ref qALL_NUMBERS_1)]:Te).toArray qnALL_NUMBERS,qsALL_NUMBERS⟩) (LALL_NUMBERS_1:K.lookup qALL_NUMBERS_1=some ⟨.type "tuple",none,.seq ([]:Te).toArray qnALL_NUMBERS_1,qsALL_NUMBERS_1⟩) (gNO_SPOTS:PySem.W.nsIn K mainGlobals "NO_SPOTS" = some (some (.ref qNO_SPOTS))) (LNO_SPOTS:K.lookup qNO_SPOTS=some ⟨.type "tuple",none,.seq ([(.ref qNO_SPOTS_0),(.ref qNO_SPOTS_1)]:Te).toArray qnNO_SPOTS,qsNO_SPOTS⟩) (LNO_SPOTS_1:K.lookup qNO_SPOTS_1=some ⟨.type "tuple",none,.seq ([]:Te).toArray qnNO_SPOTS_1,qsNO_SPOTS_1⟩) (LNO_SPOTS_0:K.lookup qNO_SPOTS_0=some ⟨.type "tuple",none,.seq ([(.bool false),(.ref qNO_SPOTS_0_1)]:Te).toArray qnNO_SPOTS_0,qsNO_SPOTS_0⟩) (LNO_SPOTS_0_1:K.lookup qNO_SPOTS_0_1=some ⟨.type "tuple",none,.seq ([]:Te).toArray qnNO_SPOTS_0_1,qsNO_SPOTS_0_1⟩) (z0:PySem.W.nsIn K mainGlobals "dict" = some none) (z1:PySem.W.nsIn K mainGlobals "set" = some none) (z2:PySem.W.nsIn K mainGlobals "sorted" = some none) (z3:PySem.W.nsIn K mainGlobals "tuple" = some none) (z4:PySem.W.nsIn K mainGlobals "len" = some none) (z5:PySem.W.nsIn K mainGlobals "range" = some none) (z6:PySem.W.nsIn K mainGlobals "isinstance" = some none) (z7:PySem.W.nsIn K mainGlobals "bool" = some none) (z8:PySem.W.nsIn K mainGlobals "int" = some none) (z9:PySem.W.nsIn K mainGlobals "list" = some none) (z10:PySem.W.nsIn K mainGlobals "all" = some none) (z11:PySem.W.nsIn K mainGlobals "max" = some none) :
  ∃fd:FuncData,(∀(s:Shared) (v:Value),BindsTo s fd ⟨[v],[]⟩ [("script",v)])/\∀base:Heap,K.In base->base.Ns mainGlobals mg->cP l.prog w K mg base mK 6 fa fd ["script"] (fun vs H Q E=>∀b,yV K 1 (tj b) vs H Q E):=by
 have z:Zs mg:=(db (za8 X G z0) (db (za8 X G z1) (db (za8 X G z2) (db (za8 X G z3) (db (za8 X G z4) (db (za8 X G z5) (db (za8 X G z6) (db (za8 X G z7) (db (za8 X G z8) (db (za8 X G z9) (db (za8 X G z10) (db (za8 X G z11) Fz))))))))))));have c_NO_NUMBERS:gN K mg "NO_NUMBERS" (.tup [(.bl false),(.tup [])]):=oQ (zcT X G gNO_NUMBERS) (jt LNO_NUMBERS (show 2<=sizeLine by decide) (eK BZ (eK (jt LNO_NUMBERS_1 (show 0<=sizeLine by decide) gz) gz)));have c_ALL_NUMBERS:gN K mg "ALL_NUMBERS" (.tup [(.bl true),(.tup [])]):=oQ (zcT X G gALL_NUMBERS) (jt LALL_NUMBERS (show 2<=sizeLine by decide) (eK BZ (eK (jt LALL_NUMBERS_1 (show 0<=sizeLine by decide) gz) gz)));have c_NO_SPOTS:gN K mg "NO_SPOTS" (.tup [(.tup [(.bl false),(.tup [])]),(.tup [])]):=oQ (zcT X G gNO_SPOTS) (jt LNO_SPOTS (show 2<=sizeLine by decide) (eK (jt LNO_SPOTS_0 (show 2<=sizeLine by decide) (eK BZ (eK (jt LNO_SPOTS_0_1 (show 0<=sizeLine by decide) gz) gz))) (eK (jt LNO_SPOTS_1 (show 0<=sizeLine by decide) gz) gz)));have d_truth_by:=a0.at_ (ps:=["word","one","other"]) X G (fun _ _ _ _ _ _=>Cr fun _ _ _=>rfl);have d_stretch_of:=a1.at_ (ps:=["low","high"]) X G (fun _ _ _ _ _ _=>FD fun _ _=>rfl);have d_blend:=a2.at_ (ps:=["one","other","word"]) X G (fun _ _ _ _ _ _=>Cr fun _ _ _=>rfl);have d_all_spots:=a3.at_ (ps:=["plots"]) X G (fun _ _ _ _ _ _=>yU fun _=>rfl);have d_table_of:=a4.at_ (ps:=["pairs"]) X G (fun _ _ _ _ _ _=>yU fun _=>rfl);have d_is_tell:=a5.at_ (ps:=["telling"]) X G (fun _ _ _ _ _ _=>yU fun _=>rfl);have d_last_reach:=a6.at_ (ps:=["plot"]) X G (fun _ _ _ _ _ _=>yU fun _=>rfl);have d_stepped:=a7.at_ (ps:=["plot","turn","reach"]) X G (fun _ _ _ _ _ _=>Cr fun _ _ _=>rfl);have d_told_on:=a8.at_ (ps:=["table","keys","telling","turn"]) X G (fun _ _ _ _ _ _=>Mk fun _ _ _ _=>rfl);have d_law_cell:=a9.at_ (ps:=["script","k"]) X G (fun _ _ _ _ _ _=>FD fun _ _=>rfl);have d_law_stir:=a10.at_ (ps:=["cell","k"]) X G (fun _ _ _ _ _ _=>FD fun _ _=>rfl);have d_law_reach:=a11.at_ (ps:=["number","scale"]) X G (fun _ _ _ _ _ _=>FD fun _ _=>rfl);have d_law_plot:=a12.at_ (ps:=["cell","k","scale"]) X G (fun _ _ _ _ _ _=>Cr fun _ _ _=>rfl);have d_law_row:=a13.at_ (ps:=["cell","k","width"]) X G (fun _ _ _ _ _ _=>Cr fun _ _ _=>rfl);have d_law_lies:=a14.at_ (ps:=["plot","day","turn"]) X G (fun _ _ _ _ _ _=>Cr fun _ _ _=>rfl);have d_law_whole:=a15.at_ (ps:=["thing"]) X G (fun _ _ _ _ _ _=>yU fun _=>rfl);have d_law_rises:=a16.at_ (ps:=["some"]) X G (fun _ _ _ _ _ _=>yU fun _=>rfl);have d_law_is_reach:=a17.at_ (ps:=["thing"]) X G (fun _ _ _ _ _ _=>yU fun _=>rfl);have d_law_is_plot:=a18.at_ (ps:=["thing"]) X G (fun _ _ _ _ _ _=>yU fun _=>rfl);have d_law_is_table:=a19.at_ (ps:=["thing","width"]) X G (fun _ _ _ _ _ _=>FD fun _ _=>rfl);have d_law_table:=a20.at_ (ps:=["cells","width","scale"]) X G (fun _ _ _ _ _ _=>Cr fun _ _ _=>rfl);have d_law_scale:=a21.at_ (ps:=["cell"]) X G (fun _ _ _ _ _ _=>yU fun _=>rfl);have d_law_spot:=a22.at_ (ps:=["cell","k","table","scale"]) X G (fun _ _ _ _ _ _=>Mk fun _ _ _ _=>rfl);have d_law_at:=a23.at_ (ps:=["table","day","turn"]) X G (fun _ _ _ _ _ _=>Cr fun _ _ _=>rfl);have d_law_in:=a24.at_ (ps:=["telling","day"]) X G (fun _ _ _ _ _ _=>FD fun _ _=>rfl);have d_law_telling:=a25.at_ (ps:=["cell","table","width","keys","scale"]) X G (fun _ _ _ _ _ _=>N7 fun _ _ _ _ _=>rfl);have d_law_last:=a26.at_ (ps:=["table"]) X G (fun _ _ _ _ _ _=>yU fun _=>rfl);have d_law_due:=a27.at_ (ps:=["table","keys","telling","at","day","turn"]) X G (fun _ _ _ _ _ _=>OT fun _ _ _ _ _ _=>rfl);obtain ⟨fdL,FL,bL⟩:=a28.law (ps:=["script"]) X G hfa (fun _ _ _ _ _ _=>yU fun _=>rfl);refine ⟨fdL,fun s v=>bL s [v] rfl,fun base _ _=>?_⟩
 have iA:=vm (P:=l.prog) (w:=w) (base:=base) z d_truth_by
 have iB:=qS (P:=l.prog) (w:=w) (base:=base) z d_stretch_of c_NO_NUMBERS c_ALL_NUMBERS;have jr:=tG (P:=l.prog) (w:=w) (base:=base) z d_all_spots;have jM:=yr (P:=l.prog) (w:=w) (base:=base) z d_is_tell;have cT:=qT (P:=l.prog) (w:=w) (base:=base) z d_last_reach;have iC:=vA (P:=l.prog) (w:=w) (base:=base) z d_law_cell;have aK:=vp (P:=l.prog) (w:=w) (base:=base) z d_law_stir;have gr:=tF (P:=l.prog) (w:=w) (base:=base) z d_law_reach;have kA:=vw (P:=l.prog) (w:=w) (base:=base) z d_law_lies;have dE:=tw (P:=l.prog) (w:=w) (base:=base) z d_law_whole;have jq:=tD (P:=l.prog) (w:=w) (base:=base) z d_law_scale;have ow:=A8 (P:=l.prog) (w:=w) (base:=base) z d_law_in;have kB:=vz (P:=l.prog) (w:=w) (base:=base) z d_law_last;have qV:=DC (P:=l.prog) (w:=w) (base:=base) z d_blend iA;have kx:=vn (P:=l.prog) (w:=w) (base:=base) z d_table_of jr c_NO_SPOTS;have mh:=yo (P:=l.prog) (w:=w) (base:=base) z d_stepped cT;have kz:=vt (P:=l.prog) (w:=w) (base:=base) z d_law_plot aK gr;have fI:=yp (P:=l.prog) (w:=w) (base:=base) z d_law_row aK;have dF:=tE (P:=l.prog) (w:=w) (base:=base) z d_law_rises dE;have ky:=vq (P:=l.prog) (w:=w) (base:=base) z d_law_spot aK;have g6:=A9 (P:=l.prog) (w:=w) (base:=base) z d_law_at kA;have jL:=yn (P:=l.prog) (w:=w) (base:=base) z d_told_on iB jM kx mh qV cT c_NO_SPOTS;have dX:=ot (P:=l.prog) (w:=w) (base:=base) z d_law_is_reach dF;have jp:=tz (P:=l.prog) (w:=w) (base:=base) z d_law_table kz fI;have gH:=pr (P:=l.prog) (w:=w) (base:=base) z d_law_telling aK fI;have mi:=yq (P:=l.prog) (w:=w) (base:=base) z d_law_due g6 ow;have gJ:=pv (P:=l.prog) (w:=w) (base:=base) z d_law_is_plot dF dX;have fX:=oq (P:=l.prog) (w:=w) (base:=base) z d_law_is_table gJ dE;exact (Kp (P:=l.prog) (w:=w) (base:=base) z FL iC jq jp gH jL kB ky fX g6 mi aK).imp fun _ _ _ _ h=>h _
end LW
namespace LW
open PySem HW
theorem nB (a0 a1 a2:D):bB [a0,a1,a2]=fj (iK [some (.v a0),some (.v a1),some (.v a2)] []):=rfl
theorem qp (a0 a1:D):dR [a0,a1]=fj (iL [some (.v a0),some (.v a1)] []):=rfl
theorem Cs (bt:Bool)(a0 a1 a2:D):jJ bt [a0,a1,a2]=fj (rF bt [some (.v a0),some (.v a1),some (.v a2),none,none,none,none,none,none,none,none,none] []):=rfl
theorem uG (bt:Bool)(a0:D):fT bt [a0]=mG (kJ bt [some (.v a0),none,none,none,none] []):=rfl
theorem xC (a0:D):cA [a0]=fj (jQ [some (.v a0)] []):=rfl
theorem qq (a0:D):cg [a0]=fj (iN [some (.v a0)] []):=rfl
theorem xz (a0 a1 a2:D):gY [a0,a1,a2]=fj (jP [some (.v a0),some (.v a1),some (.v a2)] []):=rfl
theorem xy (bt:Bool)(a0 a1 a2 a3:D):fG bt [a0,a1,a2,a3]=mG (mt bt [some (.v a0),some (.v a1),some (.v a2),some (.v a3),none,none,none,none,none,none,none] []):=rfl
theorem uM (a0 a1:D):cJ [a0,a1]=fj (iM [some (.v a0),some (.v a1)] []):=rfl
theorem uH (a0 a1:D):aq [a0,a1]=fj (kK [some (.v a0),some (.v a1),none] []):=rfl
theorem rX (a0 a1:D):cI [a0,a1]=fj (jz [some (.v a0),some (.v a1),none,none,none,none] []):=rfl
theorem uJ (a0 a1 a2:D):fU [a0,a1,a2]=fj (kL [some (.v a0),some (.v a1),some (.v a2),none,none,none,none,none,none,none] []):=rfl
theorem xA (a0 a1 a2:D):dA [a0,a1,a2]=fj (mv [some (.v a0),some (.v a1),some (.v a2),none,none,none] []):=rfl
theorem uK (a0 a1 a2:D):dk [a0,a1,a2]=fj (kM [some (.v a0),some (.v a1),some (.v a2),none,none,none,none,none] []):=rfl
theorem rW (a0:D):bR [a0]=fj (jy [some (.v a0),none] []):=rfl
theorem nE (a0:D):bY [a0]=fj (f9 [some (.v a0)] []):=rfl
theorem pd (a0:D):c6 [a0]=fj (gM [some (.v a0),none,none] []):=rfl
theorem nD (bt:Bool)(a0 a1:D):bX bt [a0,a1]=fj (f8 bt [some (.v a0),some (.v a1),none,none] []):=rfl
theorem rT (bt:Bool)(a0 a1 a2:D):eG bt [a0,a1,a2]=mG (jw bt [some (.v a0),some (.v a1),some (.v a2),none,none,none] []):=rfl
theorem rV (a0:D):eI [a0]=fj (jx [some (.v a0)] []):=rfl
theorem uI (a0 a1 a2 a3:D):et [a0,a1,a2,a3]=fj (eA [some (.v a0),some (.v a1),some (.v a2),some (.v a3),none,none,none,none,none] []):=rfl
theorem y7 (a0 a1 a2:D):cG [a0,a1,a2]=mG (oX [some (.v a0),some (.v a1),some (.v a2)] []):=rfl
theorem y6 (a0 a1:D):ji [a0,a1]=fj (gc [some (.v a0),some (.v a1)] []):=rfl
theorem pc (a0 a1 a2 a3 a4:D):cZ [a0,a1,a2,a3,a4]=fj (gL [some (.v a0),some (.v a1),some (.v a2),some (.v a3),some (.v a4),none,none,none,none] []):=rfl
theorem uL (a0:D):eu [a0]=fj (kN [some (.v a0),none,none,none,none,none] []):=rfl
theorem xB (bt:Bool)(a0 a1 a2 a3 a4 a5:D):dz bt [a0,a1,a2,a3,a4,a5]=mG (fN bt [some (.v a0),some (.v a1),some (.v a2),some (.v a3),some (.v a4),some (.v a5),none] []):=rfl
theorem IN (bt:Bool)(a0:D):tj bt [a0]=fj (Cb bt [some (.v a0),none,none,none,none,none,none,none,none,none,none,none,none,none] []):=rfl
abbrev Rc:=Bool×Th
abbrev rD (r:Rc):D:=.tup [.bl r.1,.tup (r.2.map .int)]
abbrev sD (p:Int×Rc):D:=.tup [.int p.1,rD p.2]
theorem eR {n:Nat}{xs:List D}(h:okDs n xs=true):cW (n+1) (.tup xs)=true:=by simpa [cW] using h
theorem Fh {n:Nat}{xs:List D}(h:okDs n xs=true):cW (n+1) (.fl xs)=true:=by simpa [cW] using h
theorem dO {n:Nat}{x:D}{xs:List D}(h:cW n x=true)(h':okDs n xs=true):okDs n (x::xs)=true:=by simp [okDs,h,h']
theorem lq {n:Nat}:okDs n []=true:=by cases n <;> rfl
theorem u7 {n:Nat}(r:Rc):cW (n+2) (rD r)=true:=eR (dO Ki (dO (eR (fF _)) lq))
theorem AM {n:Nat}(p:Int×Rc):cW (n+3) (sD p)=true:=eR (dO Hd (dO (u7 _) lq))
theorem lu {α:Type}{n:Nat}{f:α->D}(h:∀a,cW n (f a)=true):∀xs:List α,okDs n (xs.map f)=true
 |[]=>lq
 |x::xs=>dO (h x) (lu h xs)
abbrev pD (g:Rc)(qs:List (Int×Rc)):D:=.tup [rD g,.tup (qs.map sD)]
theorem AN {n:Nat}(g:Rc)(qs:List (Int×Rc)):cW (n+5) (pD g qs)=true:=eR (dO (u7 _) (dO (eR (lu (fun p=>AM p) qs)) lq))
theorem sV (r:Rc):cW 60 (rD r)=true:=u7 r
theorem wF (g:Rc)(qs:List (Int×Rc)):cW 60 (pD g qs)=true:=AN g qs
theorem oM (r s:Rc):dG (rD r) (rD s)=decide (r=s):=by
 obtain ⟨a,xs⟩:=r;obtain ⟨b,ys⟩:=s;simp only [rD,dG,eqDs,fM,zcU,Prod.mk.injEq];cases a <;> cases b <;> simp
theorem K7 (p q:Int×Rc):dG (sD p) (sD q)=decide (p=q):=by
 obtain ⟨a,r⟩:=p;obtain ⟨b,s⟩:=q;have:=oM r s;simp only [sD,dG,eqDs,zcU,Prod.mk.injEq,zdt] at this ⊢;rw [this]
 congr 1
theorem xg {α:Type}[DecidableEq α]{f:α->D}(h:∀a b,dG (f a) (f b)=decide (a=b)):∀xs ys:List α,eqDs (xs.map f) (ys.map f)=decide (xs=ys)
 |[],[]=>by simp [eqDs]
 |[],_::_=>by simp [eqDs]
 |_::_,[]=>by simp [eqDs]
 |x::xs,y::ys=>by simp only [zag,eqDs,h,xg h xs ys,List.cons.injEq,zdt]
theorem Fs (g h:Rc)(ps qs:List (Int×Rc)):dG (pD g ps) (pD h qs)=decide (g=h/\ps=qs):=by
 show (dG (rD g) (rD h) && (eqDs (ps.map sD) (qs.map sD) && true))=_
 rw [oM,xg K7,zcU,zdt]
theorem kC:∀xs:Th,flatDs (xs.map .int)=true
 |[]=>rfl
 |x::xs=>by simp [flatDs,c9,kC xs]
theorem wZ (r:Rc):c9 (rD r)=true:=by simp [rD,c9,flatDs,kC]
theorem tT:∀ps:List (Int×Rc),flatDs (ps.map sD)=true
 |[]=>rfl
 |p::ps=>by
  show ((true && (c9 (rD p.2) && true)) && flatDs (ps.map sD))=true
  rw [wZ,tT ps];rfl
theorem DR (g:Rc)(ps:List (Int×Rc)):c9 (pD g ps)=true:=by
 have:=wZ g;simp only [pD,c9,flatDs,tT,zcU] at *;exact this
abbrev Up (ps:List (Int×Rc)):Prop:=ps.Pairwise fun a b=>a.1 < b.1
def IH:Rc->List (Int×Rc)->Prop
 |_,[]=>True
 |g,p::ps=>p.2≠g/\IH p.2 ps
def ra:Rc->List (Int×Rc)->Int->Rc
 |g,[],_=>g
 |g,p::ps,t=>if t < p.1 then g else ra p.2 ps t
theorem C6:∀(g:Rc) (ps:List (Int×Rc)) (t:Int),(∀p∈ps,t < p.1)->ra g ps t=g
 |_,[],_,_=>rfl
 |g,p::ps,t,h=>by unfold ra;rw [if_pos (h p zai)]
theorem oY {α:Type}{f:α->D}{xs:List α}{k:Nat}{a:α}(h:xs[k]?=some a):L2.kO (xs.map f) (k:Int)=some (f a):=rG (by omega) (by simp [h])
def lst:Rc->List (Int×Rc)->Rc
 |g,[]=>g
 |_,p::ps=>lst p.2 ps
theorem og:∀(g:Rc) (l:List (Int×Rc)) (p),lst g (l++[p])=p.2
 |_,[],_=>rfl
 |_,q::l,p=>og q.2 l p
theorem xI {α:Type}{x y:α}{l:List α}:(x::l).set 0 y=y::l:=rfl
theorem sets {α:Type}{x y:α}{l:List α}{n:Nat}:(x::l).set (n+1) y=x::l.set n y:=rfl
theorem zC {n m:Nat}(h:n<=m)(hm:m<=10000:=by decide):n < sizeLine:=by have:sizeLine=2 ^ 24:=rfl;omega
theorem MG {α:Type}{x:α}{l:List α}:(x::l)[0]?=some x:=rfl
structure II where
 p:Bool
 q:Bool
 last:Bool
 out:Th
def aU (w:Bool->Bool->Bool)(a b:Th)(s:II)(e:Int):II :=
 let p:=if a.contains e then !s.p else s.p
 let q:=if b.contains e then !s.q else s.q
 ⟨p,q,w p q,if w p q != s.last then s.out++[e] else s.out⟩
def g7 (w:Bool->Bool->Bool)(a b:Th)(p q:Bool)(es:Th):II:=es.foldl (aU w a b) ⟨p,q,w p q,[]⟩
def bO (a b:Th):Th:=fW (HS.aJ (HS.aJ [] a) (HS.aJ [] b))
def k7 (e:Int):D:=.tup [.int e,.bl true]
theorem mD:∀(a:Th),lX (a.map k7)=some (a.map fun e=>(.inl e,.bl true))
 |[]=>rfl
 |e::a=>by
  have ih:=mD a;simp only [zag,k7] at ih ⊢;simp only [lX,ih,zbu]
theorem Db (kvs:List (L2.aV×D))(k x:L2.aV)(v:D):((nX kvs k v).any fun kv=>decide (kv.1=x))=((kvs.any fun kv=>decide (kv.1=x)) || decide (k=x)):=by
 unfold nX;split
 ·rename_i h
  have hm:((kvs.map fun kv=>if kv.1=k then (kv.1,v) else kv).any fun kv=>decide (kv.1=x))=kvs.any fun kv=>decide (kv.1=x):=by
   rw [zc3]
   congr 1
   funext kv
   simp only [Function.comp];split <;> rfl
  rw [hm]
  by_cases e:k=x
  ·subst e;rw [h];rfl
  ·simp [e]
 ·rw [List.any_append];simp
theorem nY (x:L2.aV):∀(ps kvs:List (L2.aV×D)),((bc kvs ps).any fun kv=>decide (kv.1=x))=((kvs.any fun kv=>decide (kv.1=x)) || ps.any fun kv=>decide (kv.1=x))
 |[],kvs=>by simp [bc]
 |p::ps,kvs=>by
  have ih:=nY x ps (nX kvs p.1 p.2);simp only [bc,za0] at ih ⊢;rw [ih,Db,zbG,Bool.or_assoc]
theorem yD (a:Th)(e:Int):((bc [] (a.map fun e=>((.inl e:L2.aV),D.bl true))).any fun kv=>decide (kv.1=.inl e))=a.contains e:=by
 rw [nY];simp only [List.any_nil,Bool.false_or,zc3]
 induction a with
 |nil=>rfl
 |cons x a ih =>
  rw [zbG,ih,List.contains_cons]
  congr 1
  simp only [Function.comp]
  by_cases h:x=e
  ·subst h;simp
  ·have h':¬ e=x:=fun z=>h z.symm
   simp [h,h']
theorem oR {a:Th}{μ:ab}{ρ:Lo}:b7 (bI 0) jv (bS (af (ad 0) (af (fK (.bl true)) am))) (a.map .int) (dh 1 [] ρ) μ=some (a.map k7,μ):=by
 have:=ud (g:=bI 0) (c:=jv) (f:=bS (af (ad 0) (af (fK (.bl true)) am))) (μ:=μ) (fun ρ=>∃x,ρ=[x]) (fun _=>true) (fun d=>.tup [d,.bl true]) (xs:=a.map .int) (ρ:=dh 1 [] ρ) ⟨none,rfl⟩ (by
  intro x hx ρ hρ;obtain ⟨y,rfl⟩:=hρ;refine ⟨[some (.v x)],rfl,⟨_,rfl⟩,rfl,fun _=>?_⟩;simp only [BA,fq,iT,f6,HU,kG,fZ]
  exact w4 rfl (show 2<=sizeLine by decide))
 rw [this,zc6.mpr (fun _ _=>rfl),za7];rfl
abbrev B5:FS:=(ar (dj (fB (al (DJ false) (ad 10) (ad 7)))
  (aF 3 (mP (ad 3)))
  aD)
  (ar (dj (fB (al (DJ false) (ad 10) (ad 8)))
  (aF 4 (mP (ad 4)))
  aD)
  (ar (aF 11 (aH bB 3 (af (bH (ad 2)) (af (bH (ad 3)) (af (bH (ad 4)) am)))))
  (ar (dj (fB (al (fL true) (ad 11) (ad 6)))
  (eU (yB jY (ad 9) (af (ad 10) am)))
  aD)
  (aF 6 (ad 11))))))
theorem O8 {α:Type}{x y:α}{l:List α}:(x::y::l)[1]?=some y:=rfl
theorem O6 {α:Type}{x y z u:α}{l:List α}:(x::y::z::u::l)[3]?=some u:=rfl
theorem ME {α:Type}{x y z u v:α}{l:List α}:(x::y::z::u::v::l)[4]?=some v:=rfl
theorem AU (a b:Th):(HS.aJ (HS.aJ [] a) (HS.aJ [] b)).length<=a.length+b.length:=by
 have h1:=HS.jI (HS.aJ [] b) (HS.aJ [] a);have h2:=HS.jI b [];have h3:=HS.jI a [];simp only [zbL] at h2 h3;omega
theorem pV:∀(es:Th),dC (es.map .int)=some es
 |[]=>rfl
 |e::es=>by simp [dC,pV es]
theorem w6 {bt:Bool}{es:Th}{μ:ab}(hl:es.length < 4000):uX bt [.v (.tup (es.map .int))] μ=some (.s bt (HS.aJ [] es),μ):=by
 simp only [uX,cM,pV,zax,if_pos hl]
theorem Fr {bt:Bool}{xs ys:Th}{μ:ab}(hl:xs.length+ys.length < 64):IB bt (.s bt xs) (.s bt ys) μ=some (.s bt (HS.aJ xs ys),μ):=by
 simp only [IB,hl,and_self,if_true]
theorem BD {bt:Bool}{es:Th}{μ:ab}(hl:es.length < 64):jD bt [.s bt es] μ=some (.p μ.length,μ++[.lst ((fW es).map .int)]):=by
 simp only [jD,hl,and_self,if_true]
theorem xc {n:Nat}{a:Th}{μ:ab}(h:μ[n]?=some (.lst (a.map k7))):oO [.p n] μ=some (.p μ.length,μ++[.dct (bc [] (a.map fun e=>(.inl e,.bl true)))]):=by
 simp only [oO,h,mD,zax]
theorem BG {n:Nat}{a:Th}{e:Int}{μ:ab}(h:μ[n]?=some (.dct (bc [] (a.map fun e=>(.inl e,.bl true))))):DJ false (.v (.int e)) (.p n) μ=some (.v (.bl (a.contains e)),μ):=by
 simp only [DJ,h,zap,if_false,yD]
theorem IO (w:Bool->Bool->Bool)(wd:Str)(hw:∀(x y:Bool) (μ:ab),lR (some ([.v (.str wd),.v (.bl x),.v (.bl y)],μ)) bB 3=some (.v (.bl (w x y)),μ))
  (a b:Th) (s:II) (e:Int) (x0 x1 x5 x10 x11:Option R) (c0 c2 c5:aG) (hs:s.out.length < 64) :
  Ix (bI 10 (.v (.int e)) [x0,x1,some (.v (.str wd)),some (.v (.bl s.p)),some (.v (.bl s.q)),x5,some (.v (.bl s.last)),cz 1,cz 3,cz 4,x10,x11] [c0,.dct (bc [] (a.map fun e=>(.inl e,.bl true))),c2,.dct (bc [] (b.map fun e=>(.inl e,.bl true))),.lst (s.out.map .int),c5]) B5
   = some (.nx [x0,x1,some (.v (.str wd)),some (.v (.bl (aU w a b s e).p)),some (.v (.bl (aU w a b s e).q)),x5,some (.v (.bl (aU w a b s e).last)),cz 1,cz 3,cz 4,aI e,some (.v (.bl (aU w a b s e).last))] [c0,.dct (bc [] (a.map fun e=>(.inl e,.bl true))),c2,.dct (bc [] (b.map fun e=>(.inl e,.bl true))),.lst ((aU w a b s e).out.map .int),c5]):=by
 rw [qY,yC];simp only [xI,sets,B5,mj,oK,Ib,oJ,j4,iT,kF,kE,BG (n:=1) (a:=a) O8,BL]
 have T1:pF (some (a.contains e,[c0,.dct (bc [] (a.map fun e=>(.inl e,.bl true))),c2,.dct (bc [] (b.map fun e=>(.inl e,.bl true))),.lst (s.out.map .int),c5])) (aF 3 (mP (ad 3))) aD [x0,x1,some (.v (.str wd)),some (.v (.bl s.p)),some (.v (.bl s.q)),x5,some (.v (.bl s.last)),cz 1,cz 3,cz 4,aI e,x11]
   = some (.nx [x0,x1,some (.v (.str wd)),some (.v (.bl (aU w a b s e).p)),some (.v (.bl s.q)),x5,some (.v (.bl s.last)),cz 1,cz 3,cz 4,aI e,x11] [c0,.dct (bc [] (a.map fun e=>(.inl e,.bl true))),c2,.dct (bc [] (b.map fun e=>(.inl e,.bl true))),.lst (s.out.map .int),c5]):=by
  unfold aU;cases a.contains e <;> rfl
 rw [T1];simp only [iF,mj,oK,Ib,oJ,j4,iT,kF,kE,BG (n:=3) (a:=b) O6,BL]
 have T2:pF (some (b.contains e,[c0,.dct (bc [] (a.map fun e=>(.inl e,.bl true))),c2,.dct (bc [] (b.map fun e=>(.inl e,.bl true))),.lst (s.out.map .int),c5])) (aF 4 (mP (ad 4))) aD [x0,x1,some (.v (.str wd)),some (.v (.bl (aU w a b s e).p)),some (.v (.bl s.q)),x5,some (.v (.bl s.last)),cz 1,cz 3,cz 4,aI e,x11]
   = some (.nx [x0,x1,some (.v (.str wd)),some (.v (.bl (aU w a b s e).p)),some (.v (.bl (aU w a b s e).q)),x5,some (.v (.bl s.last)),cz 1,cz 3,cz 4,aI e,x11] [c0,.dct (bc [] (a.map fun e=>(.inl e,.bl true))),c2,.dct (bc [] (b.map fun e=>(.inl e,.bl true))),.lst (s.out.map .int),c5]):=by
  unfold aU;cases b.contains e <;> rfl
 rw [T2];simp only [iF,mj,oI,nh,fq,xa,j4,iT,BH,f6,kG,fZ,hw,lE,xI,sets,oK,Ib,oJ,kF,kE,HN,BL];have e1:(aU w a b s e).last=w (aU w a b s e).p (aU w a b s e).q:=rfl
 have e2:(aU w a b s e).out=if w (aU w a b s e).p (aU w a b s e).q != s.last then s.out++[e] else s.out:=rfl
 rw [e1,e2];generalize w (aU w a b s e).p (aU w a b s e).q=here
 by_cases hc:here=s.last
 ·have c1:(!(here == s.last))=false:=by simp [hc]
  have c2:(here != s.last)=false:=by simp [hc]
  rw [c1,c2];simp only [HY,DZ,iF,oI,j4,iT,lE,xI,sets,zap,if_false]
 ·have c1:(!(here == s.last))=true:=by simp [hc]
  have c2:(here != s.last)=true:=by simp [hc]
  rw [c1,c2];simp only [HV,D3,KW,j4,iT,HQ (n:=4) (xs:=s.out.map .int) ME,fq,f6,kG,fZ,HP,Ia (n:=4) (xs:=s.out.map .int) ME (by rw [zaf];exact zC (m:=64) (by omega)),BJ,iF,oI,lE,xI,sets,if_true,zaQ,zag,za6]
theorem O7 {α:Type}{x y z:α}{l:List α}:(x::y::z::l)[2]?=some z:=rfl
theorem ul (w:Bool->Bool->Bool)(a b:Th):∀(es:Th) (s:II),(es.foldl (aU w a b) s).out.length<=s.out.length+es.length
 |[],s=>by simp
 |e::es,s=>by
  have h1:=ul w a b es (aU w a b s e)
  have h2:(aU w a b s e).out.length<=s.out.length+1:=by
   have:(aU w a b s e).out=if w (aU w a b s e).p (aU w a b s e).q != s.last then s.out++[e] else s.out:=rfl
   rw [this];split <;> simp
  simp only [za0,zaK];omega
set_option maxHeartbeats 4000000 in
theorem B7 (bt:Bool)(w:Bool->Bool->Bool)(wd:Str)(hw:∀(x y:Bool) (μ:ab),lR (some ([.v (.str wd),.v (.bl x),.v (.bl y)],μ)) bB 3=some (.v (.bl (w x y)),μ))
  (p q:Bool) (a b:Th) (hl:a.length+b.length < 64) :
  jJ bt [.tup [.bl p,.tup (a.map .int)],.tup [.bl q,.tup (b.map .int)],.str wd]=some (.tup [.bl (w p q),.tup ((g7 w a b p q (bO a b)).out.map .int)]):=by
 rw [Cs];have i0:∀(x:Bool) (es:Th),L2.kO [D.bl x,.tup (es.map .int)] 0=some (.bl x):=fun _ _=>rfl;have i1:∀(x:Bool) (es:Th),L2.kO [D.bl x,.tup (es.map .int)] 1=some (.tup (es.map .int)):=fun _ _=>rfl
 have la:(a.map D.int).length<=sizeLine:=by rw [zaf];exact zbK (zC (m:=64) (by omega))
 have lb:(b.map D.int).length<=sizeLine:=by rw [zaf];exact zbK (zC (m:=64) (by omega))
 have ml:=AU a b;have ma:=HS.jI a [];have mb:=HS.jI b [];simp only [zbL] at ma mb
 simp only [rF,mj,oI,oJ,iT,j4,kF,HU,kE,vI (i0 _ _),lE,xI,sets,iF,nh,fq,xa,BH,f6,kG,fZ,hw,
  xf,D4,w9,vI (i1 _ _),BE,tY (μ1:=[]) la oR,zbL,zbE,qZ,xc (n:=0) (a:=a) MG,zaK,zbW,zct]
 rw [tY (μ1:=[.lst (a.map k7),.dct (bc [] (a.map fun e=>(.inl e,.bl true)))]) lb oR]
 simp only [zaK,zbL,zct,Nat.reduceAdd,zbW,zbE,f6,kG,fZ,qZ,xc (n:=2) (a:=b) O7,lE,xI,sets,iF,mj,oI,HR,D0 (rs:=[]) (ds:=[]) rfl (by decide),
  BI,w9,xf,fq,oJ,iT,j4,kF,HU,kE,vI (i1 _ _),w6 (es:=a) (show a.length < 4000 by omega),w6 (es:=b) (show b.length < 4000 by omega),Fr (xs:=HS.aJ [] a) (ys:=HS.aJ [] b) (show (HS.aJ [] a).length+(HS.aJ [] b).length < 64 by omega),
  BD (es:=HS.aJ (HS.aJ [] a) (HS.aJ [] b)) (show (HS.aJ (HS.aJ [] a) (HS.aJ [] b)).length < 64 by omega)]
 rw [HZ (n:=5) (xs:=(fW (HS.aJ (HS.aJ [] a) (HS.aJ [] b))).map .int) rfl,BF,xb]
 have hul:(bO a b).length < 64:=by unfold bO;rw [(dl _).length_eq];omega
 obtain ⟨ρ',μ',el,x10,x11,rfl,rfl⟩:=wL (g:=bI 10) (b:=B5) (xs:=(bO a b).map .int)
  (ρ:=[some (.v (.tup [.bl p,.tup (a.map .int)])),some (.v (.tup [.bl q,.tup (b.map .int)])),some (.v (.str wd)),some (.v (.bl p)),some (.v (.bl q)),some (.v (.bl (w p q))),some (.v (.bl (w p q))),cz 1,cz 3,cz 4,none,none])
  (μ:=[.lst (a.map k7),.dct (bc [] (a.map fun e=>(.inl e,.bl true))),.lst (b.map k7),.dct (bc [] (b.map fun e=>(.inl e,.bl true))),.lst [],.fz ((bO a b).map .int)])
  (fun i ρ μ=>∃x10 x11,ρ=[some (.v (.tup [.bl p,.tup (a.map .int)])),some (.v (.tup [.bl q,.tup (b.map .int)])),some (.v (.str wd)),some (.v (.bl (g7 w a b p q ((bO a b).take i)).p)),some (.v (.bl (g7 w a b p q ((bO a b).take i)).q)),some (.v (.bl (w p q))),some (.v (.bl (g7 w a b p q ((bO a b).take i)).last)),cz 1,cz 3,cz 4,x10,x11] /\
   μ=[.lst (a.map k7),.dct (bc [] (a.map fun e=>(.inl e,.bl true))),.lst (b.map k7),.dct (bc [] (b.map fun e=>(.inl e,.bl true))),.lst ((g7 w a b p q ((bO a b).take i)).out.map .int),.fz ((bO a b).map .int)])
  ⟨none,none,rfl,rfl⟩ (by
   rintro i x ρ μ hx ⟨x10,x11,rfl,rfl⟩;rw [zaG] at hx;obtain ⟨e,he,rfl⟩:=zaF.mp hx;have hil:=(zaw.mp he).1
   have ht:(bO a b).take (i+1)=(bO a b).take i++[e]:=by rw [List.take_succ,he];rfl
   have hb:g7 w a b p q ((bO a b).take (i+1))=aU w a b (g7 w a b p q ((bO a b).take i)) e:=by unfold g7;rw [ht,zdk];rfl
   have hol:(g7 w a b p q ((bO a b).take i)).out.length < 64:=by
    have:=ul w a b ((bO a b).take i) ⟨p,q,w p q,[]⟩
    simp only [zbL,zbv,zct] at this
    unfold g7;omega
   rw [hb]
   exact ⟨_,_,IO w wd hw a b _ e _ _ _ _ _ _ _ _ hol,_,_,rfl,rfl⟩)
 have el':=el;rw [zaf,List.take_length] at el';refine (congrArg (fun o=>fj (Lr o _)) el').trans ?_;simp only [iF,HM,BA,fq,j4,iT,f6,xf,kG,fZ,qZ,DX (n:=4) (xs:=(g7 w a b p q (bO a b)).out.map .int) ME];rw [w4 (ds:=[.bl (w p q),.tup ((g7 w a b p q (bO a b)).out.map .int)]) rfl (show 2<=sizeLine by decide),DY,H9]
theorem Dp {xs ys:Th}(h1:xs.Nodup)(h2:ys.Nodup)(h:∀z,z∈xs ↔ z∈ys):xs.Perm ys:=by
 induction xs generalizing ys with
 |nil =>
  cases ys with
  |nil=>exact .refl _
  |cons y ys=>exact absurd ((h y).mpr (by simp)) (by simp)
 |cons x xs ih =>
  obtain ⟨hx,hn⟩:=zaP.mp h1;have hy:x∈ys:=(h x).mp (by simp);have hp:ys.Perm (x::ys.erase x):=List.perm_cons_erase hy;refine (List.Perm.cons x (ih hn (h2.erase x) fun z=>?_)).trans hp.symm;rw [h2.mem_erase_iff,←h z,zak];constructor
  ·intro hz;exact ⟨fun e=>hx (e ▸ hz),.inr hz⟩
  ·rintro ⟨h1,h2|h2⟩
   ·exact absurd h2 h1
   ·exact h2
theorem Au (xs:Th)(k z:Int):z∈HS.cb xs k ↔ z∈xs\/z=k:=by
 unfold HS.cb;split
 ·rename_i h;exact ⟨.inl,fun q=>q.elim id fun e=>e ▸ h⟩
 ·simp
theorem mZ (z:Int):∀(ns xs:Th),z∈HS.aJ xs ns ↔ z∈xs\/z∈ns
 |[],xs=>by simp [HS.aJ]
 |n::ns,xs=>by
  have ih:=mZ z ns (HS.cb xs n);simp only [HS.aJ,za0] at ih ⊢;rw [ih,Au,zak,or_assoc]
theorem lZ:∀(ns xs:Th),xs.Nodup->(HS.aJ xs ns).Nodup
 |[],xs,h=>h
 |n::ns,xs,h=>lZ ns _ (HS.n5 h)
theorem gQ (a b:Th):(bO a b).Nodup/\(bO a b).Pairwise (·<=·)/\∀z,z∈bO a b ↔ z∈a\/z∈b:=by
 unfold bO;refine ⟨(dl _).nodup_iff.mpr (lZ _ _ (lZ _ _ zcq)),iw _,fun z=>?_⟩;rw [(dl _).mem_iff,mZ,mZ,mZ];simp
theorem IM {l:Th}(h1:l.Nodup)(h2:l.Pairwise (·<=·)):l.Pairwise (· < ·):=by
 induction l with
 |nil=>exact .nil
 |cons x l ih =>
  obtain ⟨a,b⟩:=zaP.mp h1;obtain ⟨c,d⟩:=zaM.mp h2;refine zaM.mpr ⟨fun y hy=>?_,ih b d⟩;have:=c y hy;have:x≠y:=fun e=>a (e ▸ hy);omega
theorem rS (a b:Th):(bO a b).Pairwise (· < ·):=IM (gQ a b).1 (gQ a b).2.1
def B2 (r:Rc)(n:Int):Nat:=(r.2.filter fun e=>decide (e<=n)).length
def l5 (r:Rc)(n:Int):Bool:=if B2 r n % 2=0 then r.1 else !r.1
def xo (b:Bool)(n:Nat):Bool:=if n % 2=0 then b else !b
theorem qi (b:Bool)(n:Nat):xo b (n+1) = !(xo b n):=by
 unfold xo
 by_cases h:n % 2=0
 ·rw [if_pos h,if_neg (by omega)]
 ·rw [if_neg h,if_pos (by omega),Bool.not_not]
theorem uE (b:Bool)(n:Nat):xo (!b) n = !(xo b n):=by unfold xo;split <;> simp
def W (w:Bool->Bool->Bool)(r s:Rc):Rc:=(w r.1 s.1,(g7 w r.2 s.2 r.1 s.1 (bO r.2 s.2)).out)
theorem Ec (bt:Bool)(w:Bool->Bool->Bool)(wd:Str)(hw:∀x y:Bool,bB [.str wd,.bl x,.bl y]=some (.bl (w x y)))(r s:Rc)(hl:r.2.length+s.2.length < 64):jJ bt [rD r,rD s,.str wd]=some (rD (W w r s)) :=
 B7 bt w wd (fun x y μ=>BK (ds:=[.str wd,.bl x,.bl y]) rfl rfl (hw x y)) r.1 s.1 r.2 s.2 hl
theorem xq (w:Bool->Bool->Bool)(a b:Th):∀(es:Th) (s:II),s.last=w s.p s.q ->
  (es.foldl (aU w a b) s).p=xo s.p (es.filter fun e=>a.contains e).length/\(es.foldl (aU w a b) s).q=xo s.q (es.filter fun e=>b.contains e).length /\
  (es.foldl (aU w a b) s).last=w (es.foldl (aU w a b) s).p (es.foldl (aU w a b) s).q/\∃l,(es.foldl (aU w a b) s).out=s.out++l/\l.Sublist es/\(es.foldl (aU w a b) s).last=xo s.last l.length
 |[],s,h=>⟨rfl,rfl,h,[],by simp,List.Sublist.refl _,rfl⟩
 |e::es,s,h=>by
  obtain ⟨h1,h2,h3,l,h4,h5,h6⟩:=xq w a b es (aU w a b s e) rfl;rw [za0];refine ⟨?_,?_,h3,?_⟩
  ·rw [h1]
   have:(aU w a b s e).p=if a.contains e then !s.p else s.p:=rfl
   rw [this]
   by_cases c:a.contains e=true
   ·rw [if_pos c,zbU (by simpa using c),zaK,qi,uE]
   ·rw [if_neg c,zcf (by simpa using c)]
  ·rw [h2]
   have:(aU w a b s e).q=if b.contains e then !s.q else s.q:=rfl
   rw [this]
   by_cases c:b.contains e=true
   ·rw [if_pos c,zbU (by simpa using c),zaK,qi,uE]
   ·rw [if_neg c,zcf (by simpa using c)]
  ·have ho:(aU w a b s e).out=if (aU w a b s e).last != s.last then s.out++[e] else s.out:=rfl
   by_cases c:(aU w a b s e).last=s.last
   ·have c':((aU w a b s e).last != s.last)=false:=by rw [c];simp
    rw [c',if_neg (by decide)] at ho;rw [ho] at h4;refine ⟨l,h4,h5.cons e,?_⟩;rw [h6,c]
   ·have c':((aU w a b s e).last != s.last)=true:=by simpa using c
    rw [c',if_pos rfl] at ho;rw [ho] at h4;refine ⟨e::l,by rw [h4];simp,h5.cons₂ e,?_⟩;rw [h6,zaK,qi,←uE]
    congr 1
    generalize (aU w a b s e).last=x at c;generalize s.last=y at c;cases x <;> cases y <;> simp_all
theorem sh (t:Int):∀(U:Th),U.Pairwise (· < ·)->U=U.filter (fun e=>decide (e<=t))++U.filter (fun e=>!decide (e<=t))
 |[],_=>rfl
 |u::U,h=>by
  obtain ⟨h1,h2⟩:=zaM.mp h
  by_cases c:u<=t
  ·rw [zbU (by simpa using c),zcf (by simpa using c),zbW,←sh t U h2]
  ·have e1:(u::U).filter (fun e=>decide (e<=t))=[]:=zco.mpr fun x hx=>by
    rcases zak.mp hx with rfl|hx
    ·simpa using c
    ·have:=h1 x hx;simp;omega
   have e2:(u::U).filter (fun e=>!decide (e<=t))=u::U:=zc6.mpr fun x hx=>by
    rcases zak.mp hx with rfl|hx
    ·simpa using c
    ·have:=h1 x hx;simp;omega
   rw [e1,e2,zbE]
theorem rP {a:Th}(h:a.Pairwise (· < ·)):a.Nodup:=h.imp fun h=>by omega
theorem Ii {a U:Th}(ha:a.Nodup)(hU:U.Nodup)(hs:∀e∈a,e∈U)(t:Int):((U.filter fun e=>decide (e<=t)).filter fun e=>a.contains e).length=(a.filter fun e=>decide (e<=t)).length:=by
 refine (Dp ((hU.filter _).filter _) (ha.filter _) fun z=>?_).length_eq;simp only [zbd,List.contains_iff_mem,decide_eq_true_eq];constructor
 ·rintro ⟨⟨_,h1⟩,h2⟩;exact ⟨h2,h1⟩
 ·rintro ⟨h1,h2⟩;exact ⟨⟨hs z h1,h2⟩,h1⟩
theorem Fv (w:Bool->Bool->Bool)(r s:Rc):(W w r s).2.Sublist (bO r.2 s.2):=by
 obtain ⟨_,_,_,l,h4,h5,_⟩:=xq w r.2 s.2 (bO r.2 s.2) ⟨r.1,s.1,w r.1 s.1,[]⟩ rfl
 show ((bO r.2 s.2).foldl (aU w r.2 s.2) ⟨r.1,s.1,w r.1 s.1,[]⟩).out.Sublist _
 rw [h4,zbE];exact h5
theorem Lh (w:Bool->Bool->Bool)(r s:Rc):(W w r s).2.Pairwise (· < ·):=(rS _ _).sublist (Fv w r s)
theorem MD (w:Bool->Bool->Bool)(r s:Rc)(hr:r.2.Pairwise (· < ·))(hs:s.2.Pairwise (· < ·))(t:Int):l5 (W w r s) t=w (l5 r t) (l5 s t):=by
 obtain ⟨un,us,um⟩:=gQ r.2 s.2;have uu:=rS r.2 s.2;obtain ⟨U,hU⟩:∃U,U=bO r.2 s.2:=⟨_,rfl⟩;obtain ⟨a1,a2,a3,l1,a4,a5,a6⟩:=xq w r.2 s.2 (U.filter fun e=>decide (e<=t)) ⟨r.1,s.1,w r.1 s.1,[]⟩ rfl;obtain ⟨_,_,_,l2,b4,b5,_⟩:=xq w r.2 s.2 (U.filter fun e=>!decide (e<=t)) _ a3
 have ho:(W w r s).2=l1++l2:=by
  show ((bO r.2 s.2).foldl (aU w r.2 s.2) ⟨r.1,s.1,w r.1 s.1,[]⟩).out=_
  rw [←hU,sh t U (hU ▸ uu),zdk,b4,a4,zbE]
 have c1:l1.filter (fun e=>decide (e<=t))=l1:=zc6.mpr fun x hx=>(zbd.mp (a5.subset hx)).2
 have c2:l2.filter (fun e=>decide (e<=t))=[]:=zco.mpr fun x hx=>by have:=(zbd.mp (b5.subset hx)).2;simpa using this
 have e1:l5 (W w r s) t=xo (w r.1 s.1) l1.length:=by
  unfold l5 B2 xo;rw [ho,List.filter_append,c1,c2,zbm];rfl
 have e2:∀(x:Rc),x.2.Pairwise (· < ·)->(∀e∈x.2,e∈U)->l5 x t=xo x.1 ((U.filter fun e=>decide (e<=t)).filter fun e=>x.2.contains e).length:=fun x hx hm=>by
  unfold l5 B2 xo;rw [Ii (rP hx) (hU ▸ un) hm t]
 rw [e1,e2 r hr fun e he=>hU ▸ (um e).mpr (.inl he),e2 s hs fun e he=>hU ▸ (um e).mpr (.inr he),←a1,←a2];exact a6.symm.trans a3
def lv:Bool->List Int->Int->Bool
 |b,[],_=>b
 |b,x::xs,d=>if d < x then b else lv (!b) xs d
theorem Dz {d:Int}:∀{xs:Th} {b:Bool},(∀x∈xs,d < x)->lv b xs d=b
 |[],_,_=>rfl
 |x::xs,b,h=>by rw [lv,if_pos (h x zai)]
abbrev rO (r:Rc)(d:Int):Bool:=lv r.1 r.2 d
structure Pf (g:Rc)(qs:List (Int×Rc)):Prop where
 gu:g.2.Pairwise (· < ·)
 up:Up qs
 dif:IH g qs
 ru:∀q∈qs,q.2.2.Pairwise (· < ·)
theorem E8:∀{qs:List (Int×Rc)} {g:Rc} {t:Int},ra g qs t=g\/∃q∈qs,ra g qs t=q.2
 |[],_,_=>.inl rfl
 |q::qs,g,t=>by
  rw [ra]
  by_cases z:t < q.1
  ·rw [if_pos z];exact .inl rfl
  ·rw [if_neg z]
   rcases E8 (qs:=qs) (g:=q.2) (t:=t) with h|⟨p,hp,h⟩
   ·exact .inr ⟨q,zai,h⟩
   ·exact .inr ⟨p,zaj _ hp,h⟩
theorem Pf.at {g qs}(p:Pf g qs)(t:Int):(ra g qs t).2.Pairwise (· < ·):=by
 rcases E8 (qs:=qs) (g:=g) (t:=t) with h|⟨q,hq,h⟩
 ·rw [h];exact p.gu
 ·rw [h];exact p.ru q hq
def li (b:Bool):Int:=if b=true then 1 else 0
def c0:List Rc->Int
 |[]=>0
 |r::rs=>li r.1+c0 rs
abbrev An (rs:List Rc)(d:Int):Bool:=rs.any fun r=>rO r d
abbrev A0 (rs:List Rc):Bool:=rs.any (·.1)
def wk (h:Int->Bool):Bool->List Int->Th
 |_,[]=>[]
 |s,e::es=>if h e=s then wk h s es else e::wk h (h e) es
structure Pk (rs:List Rc)(es:Th):Prop where
 up:es.Pairwise (· < ·)
 all:∀x,x∈es ↔ ∃r∈rs,x∈r.2
abbrev Un (rs:List Rc)(es:Th):Rc:=(A0 rs,wk (An rs) (A0 rs) es)
theorem j3 {α:Type}{l:List α}{i:Nat}{a:α}(h:l[i]?=some a):i < l.length:=(zaw.mp h).1
theorem qM {α:Type}{cs:List α}{c:α}:(cs++[c])[cs.length]?=some c:=by simp
theorem F0:1<=sizeLine:=by decide
theorem zG {μ:ab}{c c':aG}:(μ++[c]).set μ.length c'=μ++[c']:=by simp
abbrev NO:Rc:=(false,[])
abbrev Pl:=Rc×List (Int×Rc)
abbrev dZ (p:Pl):D:=pD p.1 p.2
structure BP (ES TS:Th)(p:Pl):Prop where
 pf:Pf p.1 p.2
 ge:∀e∈p.1.2,e∈ES
 re:∀q∈p.2,∀e∈q.2.2,e∈ES
 te:∀q∈p.2,q.1∈TS
theorem uc {α:Type}{c:FT}{f:FE}{rest:Lo}{μ:ab}(ea eb:α->D)(p:α->Bool)(out:α->D):∀(T:List α) (x0 x1:Option R),(∀a∈T,c (some (.v (ea a))::some (.v (eb a))::rest) μ=some (p a,μ))->(∀a∈T,p a=true->f (some (.v (ea a))::some (.v (eb a))::rest) μ=some (.v (out a),μ)) ->
  b7 (lL 2 (aB (bI 0) (aB (bI 1) bZ))) c f (T.map fun a=>.tup [ea a,eb a]) (x0::x1::rest) μ=some ((T.filter p).map out,μ)
 |[],_,_,_,_=>rfl
 |e::T,x0,x1,h,h'=>by
  have h1:=h e zai;have ih:=uc ea eb p out T (some (.v (ea e))) (some (.v (eb e))) (fun b hb=>h b (zaj _ hb)) (fun b hb=>h' b (zaj _ hb));have hg:lL 2 (aB (bI 0) (aB (bI 1) bZ)) (.v (.tup [ea e,eb e])) (x0::x1::rest) μ=some (some (.v (ea e))::some (.v (eb e))::rest,μ):=rfl
  cases hp:p e with
  |true =>
   have h2:=h' e zai hp;simp only [zag,b7,hg,zax,h1,hp,if_true,h2,ih,zbX]
  |false=>simp only [zag,b7,hg,zax,h1,hp,zap,if_false,ih,zbX]
end LW
namespace LW
open PySem HW L2
section
variable  {κ:Type}[DecidableEq κ]
theorem io:∀(l m:List κ),l.Nodup->(∀x∈l,x∈m)->l.length<=m.length
 |[],_,_,_=>za9 _
 |x::l,m,hn,h=>by
  obtain ⟨h1,h2⟩:=zaP.mp hn;have hx:=h x zai;have:=io l (m.erase x) h2 fun y hy=>(List.mem_erase_of_ne (fun e=>by subst e;exact h1 hy)).mpr (h y (zaj _ hy))
  rw [List.length_erase_of_mem hx] at this
  have:0 < m.length:=List.length_pos_of_mem hx;simp only [zaK];omega
abbrev Hl (κ:Type):=List (κ×Nat×List D)
abbrev kvs (l:Hl κ):List (κ×R):=l.map fun p=>(p.1,R.p p.2.1)
def cp:Hl κ->κ->Nat->D->Hl κ
 |[],k,a,d=>[(k,a,[d])]
 |p::l,k,a,d=>if p.1=k then (p.1,p.2.1,p.2.2++[d])::l else p::cp l k a d
def cont:Hl κ->κ->List D
 |[],_=>[]
 |p::l,k=>if p.1=k then p.2.2 else cont l k
def adr:Hl κ->κ->Option Nat
 |[],_=>none
 |p::l,k=>if p.1=k then some p.2.1 else adr l k
theorem mq (k x:κ)(a:Nat)(d:D):∀l:Hl κ,cont (cp l k a d) x=cont l x++(if k=x then [d] else [])
 |[]=>by by_cases q:k=x <;> simp [cp,cont,q]
 |p::l=>by
  have ih:=mq k x a d l;rw [cp]
  by_cases q:p.1=k
  ·rw [if_pos q,cont,cont]
   by_cases z:p.1=x
   ·rw [if_pos z,if_pos z,if_pos (q.symm.trans z)]
   ·rw [if_neg z,if_neg z,if_neg (fun w=>z (q.trans w)),zbm]
  ·rw [if_neg q,cont,cont]
   by_cases z:p.1=x
   ·rw [if_pos z,if_pos z,if_neg (fun w=>q (z.trans w.symm)),zbm]
   ·rw [if_neg z,if_neg z,ih]
theorem ko (k x:κ)(a:Nat)(d:D):∀l:Hl κ,x∈(cp l k a d).map (·.1) ↔ x∈l.map (·.1)\/x=k
 |[]=>by simp [cp]
 |p::l=>by
  have ih:=ko k x a d l;rw [cp]
  by_cases q:p.1=k
  ·rw [if_pos q]
   simp only [zag,zak];constructor
   ·exact .inl
   ·rintro (h|h)
    ·exact h
    ·exact .inl (h.trans q.symm)
  ·rw [if_neg q];simp only [zag,zak,ih,or_assoc]
theorem sN (k:κ)(a:Nat)(d:D):∀l:Hl κ,(l.map (·.1)).Nodup->((cp l k a d).map (·.1)).Nodup
 |[],_=>by simp [cp]
 |p::l,h=>by
  rw [zag,zaP] at h;rw [cp]
  by_cases q:p.1=k
  ·rw [if_pos q,zag,zaP];exact h
  ·rw [if_neg q,zag,zaP]
   refine ⟨fun z=>?_,sN k a d l h.2⟩;rcases (ko k p.1 a d l).mp z with z|z
   ·exact h.1 z
   ·exact q z
theorem sO (k:κ)(a:Nat)(d:D):∀l:Hl κ,(cp l k a d).length<=l.length+1
 |[]=>by simp [cp]
 |p::l=>by
  have ih:=sO k a d l;rw [cp];split
  ·simp
  ·simp only [zaK];omega
theorem lJ {k:κ}:∀{l:Hl κ},adr l k=none ↔ k∉l.map (·.1)
 |[]=>by simp [adr]
 |p::l=>by
  have ih:=lJ (k:=k) (l:=l);rw [adr]
  by_cases q:p.1=k
  ·rw [if_pos q];simp [q]
  ·rw [if_neg q,ih,zag,zak,not_or];exact ⟨fun h=>⟨fun z=>q z.symm,h⟩,fun h=>h.2⟩
theorem iO {k:κ}{a:Nat}:∀{l:Hl κ},adr l k=some a->(k,a,cont l k)∈l
 |[],h=>by cases h
 |p::l,h=>by
  rw [adr] at h;rw [cont]
  by_cases q:p.1=k
  ·rw [if_pos q] at h ⊢
   cases h;rw [←q];exact zai
  ·rw [if_neg q] at h ⊢
   exact zaj _ (iO h)
structure HD (C:List (κ×R)->aG)(n:Nat)(μ:ab)(l:Hl κ):Prop where
 dict:μ[n]?=some (C (kvs l))
 nd:(n::l.map fun p=>p.2.1).Nodup
 cell:∀p∈l,μ[p.2.1]?=some (.lst p.2.2)
theorem wR {k:κ}{a b:Nat}{d:D}:∀{l:Hl κ},k∈l.map (·.1)->kvs (cp l k b d)=kvs l/\(cp l k b d).map (fun p=>p.2.1)=l.map fun p=>p.2.1
 |[],h=>by cases h
 |p::l,h=>by
  rw [cp]
  by_cases q:p.1=k
  ·rw [if_pos q];exact ⟨rfl,rfl⟩
  ·rw [if_neg q]
   have:=wR (a:=a) (b:=b) (d:=d) (l:=l) (by
    rw [zag] at h;rcases zak.mp h with w|w
    ·exact absurd w.symm q
    ·exact w)
   exact ⟨congrArg (_ :: ·) this.1,congrArg (_ :: ·) this.2⟩
theorem ww {k:κ}{b:Nat}{d:D}:∀{l:Hl κ} {p},(l.map (·.1)).Nodup->p∈cp l k b d->k∈l.map (·.1)->(p∈l/\p.1≠k)\/(p.1=k/\adr l k=some p.2.1/\p.2.2=cont l k++[d])
 |[],p,_,_,h=>by cases h
 |q::l,p,nd,hp,h=>by
  rw [zag,zaP] at nd;rw [cp] at hp;rw [adr,cont]
  by_cases z:q.1=k
  ·rw [if_pos z] at hp ⊢
   rw [if_pos z];rcases zak.mp hp with rfl|hp
   ·exact .inr ⟨z,rfl,rfl⟩
   ·exact .inl ⟨zaj _ hp,fun w=>nd.1 (by rw [z,←w];exact zbj hp)⟩
  ·rw [if_neg z] at hp ⊢
   rw [if_neg z];rcases zak.mp hp with rfl|hp
   ·exact .inl ⟨zai,z⟩
   ·rcases ww nd.2 hp (by
     rw [zag] at h;rcases zak.mp h with w|w
     ·exact absurd w.symm z
     ·exact w) with w|w
    ·exact .inl ⟨zaj _ w.1,w.2⟩
    ·exact .inr w
theorem pN {k:κ}{b:Nat}{d:D}:∀{l:Hl κ},k∉l.map (·.1)->cp l k b d=l++[(k,b,[d])]
 |[],_=>rfl
 |p::l,h=>by
  rw [zag,zak,not_or] at h;rw [cp,if_neg (fun z=>h.1 z.symm),pN h.2];rfl
variable  {C:List (κ×R)->aG}{n:Nat}{μ:ab}{l:Hl κ}
theorem HD.lt (h:HD C n μ l):n < μ.length:=j3 h.dict
theorem HD.adr (h:HD C n μ l){k:κ}{a:Nat}(e:adr l k=some a):μ[a]?=some (.lst (cont l k)):=h.cell _ (iO e)
theorem HD.adrN (h:HD C n μ l){k:κ}{a:Nat}(e:LW.adr l k=some a):a≠n:=fun z=>by
 subst z;exact (zaP.mp h.nd).1 (zas.mpr ⟨_,iO e,rfl⟩)
theorem HD.old (h:HD C n μ l)(nk:(l.map (·.1)).Nodup){k:κ}{a:Nat}(e:LW.adr l k=some a)(d:D)(b:Nat):HD C n ((μ++[aG.lst []]).set a (.lst (cont l k++[d]))) (cp l k b d):=by
 have hk:k∈l.map (·.1):=by
  refine Classical.byContradiction fun z=>?_;rw [lJ.mpr z] at e;cases e
 have la:=j3 (h.adr e);obtain ⟨k1,k2⟩:=wR (a:=a) (b:=b) (d:=d) hk;refine ⟨?_,by rw [k2];exact h.nd,fun p hp=>?_⟩
 ·rw [zaO (h.adrN e),zaq h.lt,k1];exact h.dict
 ·rcases ww nk hp hk with ⟨w,w2⟩|⟨w1,w2,w3⟩
  ·have:a≠p.2.1:=fun z=>by
    have m1:=iO e;have:=(zaP.mp h.nd).2;obtain ⟨i,hi,e1⟩:=zbt m1;obtain ⟨j,hj,e2⟩:=zbt w;have hij:i=j:=(zb5 (xs:=l.map fun p=>p.2.1) (h₀:=by simpa using hi) (h₁:=by simpa using hj) this).mp (by rw [zca,zca,e1,e2];exact z);subst hij;rw [e1] at e2;exact w2 (by rw [←e2])
   have hc:=h.cell p w;rw [zaO this,zaq (j3 hc)];exact hc
  ·rw [e] at w2
   cases w2;rw [w3,zbh (by simp;omega)]
theorem HD.new (h:HD C n μ l){k:κ}(hk:k∉l.map (·.1))(d:D):HD C n (((μ++[aG.lst []]).set n (C (kvs l++[(k,.p μ.length)]))).set μ.length (.lst [d])) (cp l k μ.length d):=by
 have hn:=h.lt;rw [pN hk];refine ⟨?_,?_,fun p hp=>?_⟩
 ·rw [zaO (by omega),zbh (by simp;omega)]
  simp [kvs]
 ·rw [zaQ,←zbW,zbb]
  refine ⟨h.nd,by simp,fun x hx y hy=>?_⟩;simp only [zag,za6,zat] at hy;subst hy;rcases zak.mp hx with rfl|hx
  ·omega
  ·obtain ⟨p,hp,rfl⟩:=zas.mp hx
   have:=j3 (h.cell p hp);omega
 ·rcases zaL.mp hp with hp|hp
  ·have hc:=h.cell p hp
   have:=j3 hc;have pn:n≠p.2.1:=fun z=>(zaP.mp h.nd).1 (by rw [z];exact zbj (f:=fun p:κ×Nat×List D=>p.2.1) hp);rw [zaO (by omega),zaO pn,zaq this];exact hc
  ·rw [zat] at hp
   subst hp;rw [zbh (by simp)]
end
abbrev tC (l:List (Th×R)):aG:=.dtr l
abbrev En:=Th×Pl
abbrev bC (e:En):D:=.tup [.key e.1,dZ e.2]
theorem qk (k:Th):∀l:Hl (Th),iP (kvs l) k=(adr l k).map R.p
 |[]=>rfl
 |p::l=>by
  have ih:=qk k l;unfold iP at ih ⊢;rw [adr];simp only [kvs,zag]
  by_cases q:p.1=k
  ·rw [zcQ (by simp [q]),if_pos q];rfl
  ·rw [zcR (by simp [q]),if_neg q]
   exact ih
theorem zH {fo fk:FE}{ρ:Lo}{μ:ab}{n a:Nat}{k:Th}{l:Hl (Th)}(ho:fo ρ μ=some (.p n,μ))(hk:fk ρ μ=some (.v (.key k),μ))(h:HD tC n μ l)(e:adr l k=some a)(hl:l.length < 1000):oG fo fk (gk am) ρ μ=some (.p a,μ++[.lst []]):=by
 have h1:gx μ n=some (kvs l):=by simp only [gx,h.dict]
 have h2:gx (μ++[aG.lst []]) n=some (kvs l):=by simp only [gx,zaq h.lt,h.dict]
 have hL:gk am ρ μ=some (.p μ.length,μ++[aG.lst []]):=rfl
 have hl':(kvs l).length < 1000:=by simpa using hl
 have hv:=qk k l;rw [e,zbu] at hv;simp only [oG,ho,zax,h1,zcE,if_true,hk,hL,h2,hl',hv]
theorem zI {fo fk:FE}{ρ:Lo}{μ:ab}{n:Nat}{k:Th}{l:Hl (Th)}(ho:fo ρ μ=some (.p n,μ))(hk:fk ρ μ=some (.v (.key k),μ))(h:HD tC n μ l)(e:adr l k=none)(hl:l.length < 1000):oG fo fk (gk am) ρ μ=some (.p μ.length,(μ++[aG.lst []]).set n (tC (kvs l++[(k,.p μ.length)]))):=by
 have h1:gx μ n=some (kvs l):=by simp only [gx,h.dict]
 have h2:gx (μ++[aG.lst []]) n=some (kvs l):=by simp only [gx,zaq h.lt,h.dict]
 have hL:gk am ρ μ=some (.p μ.length,μ++[aG.lst []]):=rfl
 have hl':(kvs l).length < 1000:=by simpa using hl
 have hv:=qk k l;rw [e,Option.map_none] at hv;simp only [oG,ho,zax,h1,zcE,if_true,hk,hL,h2,hl',hv]
structure TB (μ:ab)(l:Hl (Th))(N:Nat):Prop where
 hd:HD tC 0 μ l
 nk:(l.map (·.1)).Nodup
 ln:l.length<=N
 cl:∀k,(cont l k).length<=N
theorem CA (bt:Bool){x0 x4:Option R}{e:En}{μ:ab}{l:Hl (Th)}{N:Nat}(h:TB μ l N)(hN:N < 900) :
  ∃μ' b,dS bt [x0,cz 0,some (.v (.key e.1)),some (.v (dZ e.2)),x4] μ=some (.nx [x0,cz 0,some (.v (.key e.1)),some (.v (dZ e.2)),x4] μ')/\TB μ' (cp l e.1 b (dZ e.2)) (N+1):=by
 have zc:(cont l e.1).length < sizeLine:=ii (by have:=h.cl e.1;omega);have z0:(0:Nat) < sizeLine:=ii (by omega)
 have hl:l.length < 1000:=by have:=h.ln;omega
 have lt:=h.hd.lt
 have sb:∀(μ':ab) (b:Nat),HD tC 0 μ' (cp l e.1 b (dZ e.2))->TB μ' (cp l e.1 b (dZ e.2)) (N+1):=fun μ' b hh=>⟨hh,sN _ _ _ _ h.nk,by have:=sO e.1 b (dZ e.2) l;have:=h.ln;omega,fun k=>by
  rw [mq,zaW];have:=h.cl k;split
  ·simp;omega
  ·simp;omega⟩
 cases q:adr l e.1 with
 |some a =>
  have ga:=h.hd.adr q
  have g2:(μ++[aG.lst []])[a]?=some (.lst (cont l e.1)):=by rw [zaq (j3 ga)];exact ga
  have hs:=zH (fo:=ad 1) (fk:=ad 2) (ρ:=[x0,cz 0,some (.v (.key e.1)),some (.v (dZ e.2)),x4]) rfl rfl h.hd q hl;refine ⟨_,0,?_,sb _ 0 (h.hd.old h.nk q (dZ e.2) 0)⟩;push_cast [dS,hs,g2,zc]
 |none =>
  have hs:=zI (fo:=ad 1) (fk:=ad 2) (ρ:=[x0,cz 0,some (.v (.key e.1)),some (.v (dZ e.2)),x4]) rfl rfl h.hd q hl
  have g2:((μ++[aG.lst []]).set 0 (tC (kvs l++[(e.1,.p μ.length)])))[μ.length]?=some (.lst []):=by
   rw [zaO (by omega)];exact qM
  refine ⟨_,μ.length,?_,sb _ _ (h.hd.new (lJ.mp q) (dZ e.2))⟩;push_cast [dS,hs,g2,z0,zbE]
theorem we (bt:Bool){x0 x4:Option R}:∀(es:List En) {μ:ab} {l:Hl (Th)} {N:Nat} (x2 x3:Option R),TB μ l N->N+es.length < 900 ->
  ∃μ' l' y2 y3,cR (lL 2 (aB (bI 2) (aB (bI 3) bZ))) (dS bt) (es.map bC) [x0,cz 0,x2,x3,x4] μ=some (.nx [x0,cz 0,y2,y3,x4] μ')/\TB μ' l' (N+es.length) /\
   (∀x,cont l' x=cont l x++(es.filter fun e=>decide (e.1=x)).map fun e=>dZ e.2)/\(∀x,x∈l'.map (·.1) ↔ x∈l.map (·.1)\/x∈es.map (·.1))
 |[],μ,l,N,x2,x3,h,_=>⟨μ,l,x2,x3,rfl,h,fun x=>by simp,fun x=>by simp⟩
 |e::es,μ,l,N,x2,x3,h,hN=>by
  rw [zaK] at hN;obtain ⟨μ1,b,e1,h1⟩:=CA bt (x0:=x0) (x4:=x4) (e:=e) h (by omega);obtain ⟨μ2,l2,y2,y3,e2,h2,c2,k2⟩:=we bt (x0:=x0) (x4:=x4) es (some (.v (.key e.1))) (some (.v (dZ e.2))) h1 (by omega);refine ⟨μ2,l2,y2,y3,?_,by rw [zaK,show N+(es.length+1)=N+1+es.length by omega];exact h2,fun x=>?_,fun x=>?_⟩
  ·rw [zag,pS]
   have hg:lL 2 (aB (bI 2) (aB (bI 3) bZ)) (.v (bC e)) [x0,cz 0,x2,x3,x4] μ=some ([x0,cz 0,some (.v (.key e.1)),some (.v (dZ e.2)),x4],μ):=rfl;rw [hg,yC,e1,Fj];exact e2
  ·rw [c2,mq,zbD,zbX]
   by_cases z:e.1=x <;> simp [z]
  ·rw [k2,ko,zag,zak,or_assoc]
abbrev fE (bt:Bool):FE:=bS (af (ad 0) (af (aH cK 1 (af (bH (By (ad 1) (ad 0))) am)) am))
theorem t5 (bt:Bool){l:Hl (Th)}(F:List Int->Pl)(hnd:(0::l.map fun p=>p.2.1).Nodup)(nk:(l.map (·.1)).Nodup):∀(rows:Ta) (μ:ab) (x0:Option R),rows.Nodup->(∀r∈rows,cK [.fl (cont l r)]=some (dZ (F r)))->μ[0]?=some (tC (kvs l))->(∀r∈rows,∃a,adr l r=some a/\μ[a]?=some (.lst (cont l r))) ->
  ∃μ',b7 (bI 0) jv (fE bt) (rows.map D.key) [x0,cz 0] μ=some (rows.map fun r=>bC (r,F r),μ')
 |[],μ,x0,_,_,_,_=>⟨μ,rfl⟩
 |r::rows,μ,x0,hr,hF,h0,hc=>by
  obtain ⟨n1,n2⟩:=zaP.mp hr;obtain ⟨a,ea,ga⟩:=hc r zai
  have a0:a≠0:=fun z=>by
   subst z;exact (zaP.mp hnd).1 (zas.mpr ⟨_,iO ea,rfl⟩)
  have hF0:=hF r zai
  obtain ⟨μ',e⟩:=t5 bt F hnd nk rows (μ.set a (.fz (cont l r))) (some (.v (.key r))) n2 (fun x hx=>hF x (zaj _ hx)) (by rw [zaO a0];exact h0) (fun x hx=>by
   obtain ⟨b,eb,gb⟩:=hc x (zaj _ hx);refine ⟨b,eb,?_⟩
   have:a≠b:=fun z=>by
    subst z;have m1:=iO ea;have m2:=iO eb;obtain ⟨i,hi,e1⟩:=zbt m1;obtain ⟨j,hj,e2⟩:=zbt m2;have hij:i=j:=(zb5 (xs:=l.map fun p=>p.2.1) (h₀:=by simpa using hi) (h₁:=by simpa using hj) (zaP.mp hnd).2).mp (by rw [zca,zca,e1,e2]);subst hij;rw [e1] at e2;exact n1 (by have:=congrArg Prod.fst e2;simp only at this;rw [this];exact hx)
   rw [zaO this];exact gb)
  refine ⟨μ',?_⟩;have hv:=qk r l;rw [ea,zbu] at hv;rw [zag,b7];push_cast [zax,h0,tC,hv,ga,hF0,e]
theorem ju {α:Type}{c:FT}{f:FE}{μ:ab}{rest:Lo}(e out:α->D)(p:α->Bool):∀(xs:List α) (x0:Option R),(∀a∈xs,c (some (.v (e a))::rest) μ=some (p a,μ))->(∀a∈xs,p a=true->f (some (.v (e a))::rest) μ=some (.v (out a),μ))->b7 (bI 0) c f (xs.map e) (x0::rest) μ=some ((xs.filter p).map out,μ)
 |[],_,_,_=>rfl
 |a::xs,x0,h,h'=>by
  have h1:=h a zai;have ih:=ju e out p xs (some (.v (e a))) (fun b hb=>h b (zaj _ hb)) (fun b hb=>h' b (zaj _ hb))
  cases hp:p a with
  |true =>
   have h2:=h' a zai hp;simp only [zag,b7,bI,zdf,zax,h1,hp,if_true,h2,ih,zbX]
  |false=>simp only [zag,b7,bI,zdf,zax,h1,hp,zap,if_false,ih,zbX]
abbrev Pe (T:List En):aG:=.lst (T.map bC)
abbrev IG:D:=.tup [.tup [.bl false,.tup []],.tup []]
theorem u9:cW 60 IG=true:=rfl
abbrev nr:Pl:=(NO,[])
def ID (e:En):Bool:=!decide (e.2=nr)
theorem vJ (p:Pl):dG (dZ p) IG=decide (p=nr) :=
 (Fs p.1 NO p.2 []).trans (decide_eq_decide.mpr ⟨fun h=>Prod.ext h.1 h.2,fun h=>by rw [h];exact ⟨rfl,rfl⟩⟩)
abbrev kw (p:Pl)(t d:Int):Bool:=rO (ra p.1 p.2 t) d
theorem AZ (t d:Int):kw nr t d=false:=rfl
theorem AK (p:Pl):cK [.fl [dZ p]]=some (dZ p):=rfl
theorem kD {α β:Type}[DecidableEq β]{f:α->β}:∀{es:List α} {e:α},(es.map f).Nodup->e∈es->(es.filter fun x=>decide (f x=f e))=[e]
 |[],_,_,h=>nomatch h
 |x::es,e,nd,h=>by
  obtain ⟨n1,n2⟩:=zaP.mp nd;rcases zak.mp h with rfl|h
  ·rw [zbU (by simp)]
   congr 1
   refine zco.mpr fun y hy=>?_;simp only [decide_eq_true_eq];exact fun z=>n1 (z ▸ zbj hy)
  ·rw [zcf (by simp only [decide_eq_true_eq];exact fun z=>n1 (z ▸ zbj h))]
   exact kD n2 h
theorem zo (bt:Bool){w:Nat}{es:List En}(hn:es.length<=40)(nd:(es.map (·.1)).Nodup)(hrw:∀e∈es,e.1.length=w):∃T:List En,fT bt [.fl (es.map bC)]=some (.lst (T.map bC))/\rM (T.map (·.1))/\∀e,e∈T ↔ e∈es/\e.2≠nr:=by
 rw [uG];obtain ⟨μ,l,y2,y3,e,tb,c,k⟩:=we bt (x0:=some (.v (.fl (es.map bC)))) (x4:=none) es (μ:=[.dtr []]) (l:=[]) (N:=0) none none ⟨⟨rfl,by simp,fun _ h=>nomatch h⟩,by simp,by simp,fun k=>by simp [cont]⟩ (by omega)
 have k':∀x,x∈l.map (·.1) ↔ x∈es.map (·.1):=fun x=>by rw [k];simp
 have kl:l.length<=40:=by
  have:=io (l.map (·.1)) (es.map (·.1)) tb.nk fun x hx=>(k' x).mp hx;rw [zaf,zaf] at this;omega
 have hF':∃F:List Int->Pl,∀e∈es,F e.1=e.2:=by
  have h:∀r,∃p:Pl,∀e∈es,e.1=r->e.2=p:=fun r=>by
   by_cases hr:∃e∈es,e.1=r
   ·obtain ⟨e,he,rfl⟩:=hr
    refine ⟨e.2,fun x hx hz=>?_⟩;have h1:=kD nd he;have h2:x∈es.filter fun y=>decide (y.1=e.1):=zbd.mpr ⟨hx,by simpa using hz⟩;rw [h1] at h2;rw [zat.mp h2]
   ·exact ⟨nr,fun e he hz=>absurd ⟨e,he,hz⟩ hr⟩
  exact ⟨fun r=>Classical.choose (h r),fun e he=>(Classical.choose_spec (h e.1) e he rfl).symm⟩
 obtain ⟨F,hF⟩:=hF'
 have hc:∀e∈es,cont l e.1=[dZ e.2]:=fun e he=>by
  rw [c]
  show []++_=_
  rw [zbE,kD nd he];rfl
 have rnd:(aZ (l.map (·.1))).Nodup:=(bj _).nodup_iff.mpr tb.nk
 have rm:∀r,r∈aZ (l.map (·.1)) ↔ r∈es.map (·.1):=fun r=>by rw [(bj _).mem_iff];exact k' r
 have hA:∀r∈aZ (l.map (·.1)),cK [.fl (cont l r)]=some (dZ (F r)):=fun r hr=>by
  obtain ⟨e,he,rfl⟩:=zas.mp ((rm r).mp hr);rw [hc e he,hF e he];exact AK _
 have few:(kvs l).length < 64/\((kvs l).length < 2\/∀p∈kvs l,p.1≠[]):=by
  refine ⟨by rw [zaf];omega,?_⟩
  have hw:∀x∈l.map (·.1),x.length=w:=fun x hx=>by
   obtain ⟨e,he,rfl⟩:=zas.mp ((k' x).mp hx);exact hrw e he
  by_cases z:w=0
  ·refine .inl ?_
   have:=io (l.map (·.1)) [[]] tb.nk fun x hx=>by
    have:=hw x hx
    rw [z] at this
    rw [zce.mp this];exact zai
   rw [zaf] at this ⊢;simp at this;omega
  ·refine .inr fun p hp e=>?_
   obtain ⟨q,hq,rfl⟩:=zas.mp hp;have:=hw q.1 (zbj hq);simp only at e
   rw [e] at this
   simp at this;omega
 have g0:(μ++[aG.fz ((aZ (l.map (·.1))).map D.key)])[0]?=some (tC (kvs l)):=by rw [zaq tb.hd.lt];exact tb.hd.dict
 obtain ⟨μ2,ce⟩:=t5 bt F tb.hd.nd tb.nk (aZ (l.map (·.1))) (μ++[aG.fz ((aZ (l.map (·.1))).map D.key)]) none rnd hA g0 (fun r hr=>by
  cases q:adr l r with
  |none=>exact absurd ((bj _).mem_iff.mp hr) (lJ.mp q)
  |some a=>exact ⟨a,rfl,by have:=tb.hd.adr q;rw [zaq (j3 this)];exact this⟩)
 have rl:(aZ (l.map (·.1))).length<=40:=by rw [(bj _).length_eq,zaf];exact kl
 refine ⟨((aZ (l.map (·.1))).map fun r=>(r,F r)).filter ID,?_,?_⟩
 ·have z1:(aZ (l.map (·.1))).length<=sizeLine:=df (by omega)
  have cf:∀μ:ab,b7 (bI 0) (fB (al (fL true) (al bq (ad 0) (fK (.int 1))) (fK (.tup [(.tup [(.bl false),(.tup [])]),(.tup [])])))) (ad 0) ((aZ (l.map (·.1))).map fun r=>bC (r,F r)) [none] μ=some ((((aZ (l.map (·.1))).map fun r=>(r,F r)).filter ID).map bC,μ):=fun μ=>by
   have:=ju (c:=fB (al (fL true) (al bq (ad 0) (fK (.int 1))) (fK IG))) (f:=ad 0) (μ:=μ) (rest:=[]) bC bC ID ((aZ (l.map (·.1))).map fun r=>(r,F r)) none (fun e _=>by
    push_cast [wF,u9,vJ,ID]) (fun e _ _=>by push_cast [HW.IA])
   rw [za7] at this
   exact this
  have km:(kvs l).map (·.1)=l.map (·.1):=by unfold kvs;rw [za7];rfl
  have lk:(μ++[aG.lst ((aZ (l.map (·.1))).map D.key)])[μ.length]?=some (.lst ((aZ (l.map (·.1))).map D.key)):=qM;have hd0:μ[0]?=some (.dtr (kvs l)):=tb.hd.dict
  have sr:pJ [.p 0] μ=some (.p μ.length,μ++[.lst ((aZ (l.map (·.1))).map D.key)]):=by
   rw [IJ,hd0,Mf,zax,if_pos few,km]
  have lk2:(μ2++[aG.lst ((aZ (l.map (·.1))).map fun r=>bC (r,F r))])[μ2.length]?=some (.lst ((aZ (l.map (·.1))).map fun r=>bC (r,F r))):=qM;push_cast [kJ,e,sr,lk,zG,zaf,z1,ce,lk2,cf,qM]
 ·refine ⟨?_,fun e=>?_⟩
  ·have h1:=eJ tb.nk
   have h2:((aZ (l.map (·.1))).map fun r=>(r,F r)).Pairwise fun x y=>HT2.iS x.1 y.1=true:=zbC.mpr h1;exact zbC.mpr (h2.sublist zc7)
  ·rw [zbd,zas]
   constructor
   ·rintro ⟨⟨r,hr,rfl⟩,h2⟩
    obtain ⟨e,he,rfl⟩:=zas.mp ((rm r).mp hr);rw [hF e he] at h2 ⊢;exact ⟨he,by simpa [ID] using h2⟩
   ·rintro ⟨he,h2⟩
    exact ⟨⟨e.1,(rm e.1).mpr (zbj he),by rw [hF e he]⟩,by simpa [ID] using h2⟩
end LW
namespace LW
open PySem HW
theorem b6 (i:Int){j:Int}(h:0 < j):0<=i % j/\i % j < j:=⟨zcC _ (by omega),zci _ h⟩
theorem IE {cs:List aG}{c:aG}:(cs++[c])[cs.length]?=some c:=by simp
theorem hJ (c k:Int)(hk:0<=k/\k < 1000):∃n:Int,aq [.int c,.int k]=some (.int n)/\0<=n/\n < 2147483629:=by
 have b1:=b6 c (j:=2147483629) (by decide);have b2:=b6 ((c % 2147483629+1) * 1103515245) (j:=2147483629) (by decide);obtain ⟨x,hx⟩:∃x,x=(c % 2147483629+1) * 1103515245 % 2147483629:=⟨_,rfl⟩;have b3:=b6 (x * x+k * 69621+12345) (j:=2147483587) (by decide);refine ⟨_,?_,b6 (((x * x+k * 69621+12345) % 2147483587) * ((x * x+k * 69621+12345) % 2147483587)) (j:=2147483629) (by decide)⟩;rw [uH];push_cast [kK,bK (i:=c) (j:=2147483629) (by decide),fm (i:=c % 2147483629+1) (j:=1103515245) (by omega),bK (i:=(c % 2147483629+1) * 1103515245) (j:=2147483629) (by decide),←hx,fm (i:=x) (j:=x) (by omega),fm (i:=k) (j:=69621) (by omega),bK (i:=x * x+k * 69621+12345) (j:=2147483587) (by decide),fm (i:=(x * x+k * 69621+12345) % 2147483587) (j:=(x * x+k * 69621+12345) % 2147483587) (by omega),bK (j:=2147483629) (by decide)]
def yW (s:Int):Th:=(List.range 16).map fun i=>((i:Nat) - 1:Int) * s
def Cn (P:Int):Th:=((List.range 11).map fun i=>((i:Nat) - 1:Int))++(List.range 11).map fun i=>((i:Nat) - 1:Int) * P
theorem Ew (s:Int):(yW s).length=16:=by simp [yW]
theorem Ek (P:Int):(Cn P).length=22:=by simp [Cn]
theorem Ev {s k:Int}(h1 : -1<=k)(h2:k<=14):k * s∈yW s:=zas.mpr ⟨(k+1).toNat,zby.mpr (by omega),by rw [zcd (by omega)];congr 1;omega⟩
theorem Ej {P k f:Int}(h1 : -1<=k)(h2:k<=9)(hf:f=1\/f=P):k * f∈Cn P:=by
 rcases hf with rfl|rfl
 ·exact zbo _ (zas.mpr ⟨(k+1).toNat,zby.mpr (by omega),by rw [zcd (by omega)];omega⟩)
 ·exact zaC _ (zas.mpr ⟨(k+1).toNat,zby.mpr (by omega),by rw [zcd (by omega)];congr 1;omega⟩)
theorem sA (n s:Int)(hs:0 < s):∃r:Rc,cI [.int n,.int s]=some (rD r)/\r.2.Pairwise (· < ·)/\∀e∈r.2,e∈yW s:=by
 rw [rX];have b1:=b6 (n / 5) (j:=3) (by decide);have b2:=b6 (n / 15) (j:=2) (by decide);have b3:=b6 n (j:=5) (by decide);obtain ⟨m,hm⟩:∃m:Nat,(n / 5 % 3+n / 15 % 2).toNat=m:=⟨_,rfl⟩
 have hm3:m<=3:=by omega
 push_cast [jz,bK (i:=n) (j:=5) (by decide),dq (i:=n) (j:=15) (by decide) (by decide),dq (i:=n) (j:=5) (by decide) (by decide),bK (i:=n / 5) (j:=3) (by decide),bK (i:=n / 15) (j:=2) (by decide),qW (j:=n / 5 % 3+n / 15 % 2) (by omega),hm]
 obtain ⟨ρ',μ',e,at',es,rest,x5,rfl,rfl,h1,h2,⟨h3,h5⟩,h4⟩:=iq (g:=bI 5) (b:=gG) (ρ:=[aI n,aI s,cz 0,aI ((n % 5 - 2)),aI ((n / 15)),none]) (μ:=[.lst []]) m
  (fun i ρ μ=>∃(at':Int) (es:Th) (rest:Int) (x5:Option R),ρ=[aI n,aI s,cz 0,aI at',aI rest,x5]/\μ=[.lst (es.map .int)]/\es.Pairwise (· < ·)/\(∀e∈es,e<=at' * s)/\(es.length<=i/\∀e∈es,∃k:Int,-1<=k/\k<=14/\e=k * s)/\(-(2:Int)<=at'/\at'<=2+4 * (i:Int)))
  ⟨n % 5 - 2,[],n / 15,none,rfl,rfl,.nil,(fun e he=>by cases he),⟨by simp,fun e he=>by cases he⟩,by omega⟩ (by
   rintro i hi ρ μ ⟨at',es,rest,x5,rfl,rfl,h1,h2,⟨h3,h5⟩,h4⟩;have b4:=b6 (rest / 2) (j:=4) (by decide);have hlen:(es.map D.int).length < sizeLine:=ii (by simp;omega);have hgt:at' * s < (at'+1+rest / 2 % 4) * s:=zdg (by omega) hs;refine ⟨[aI n,aI s,cz 0,aI ((at'+1+rest / 2 % 4)),aI ((rest / 8)),aI ((i:Int))],[.lst ((es++[(at'+1+rest / 2 % 4) * s]).map .int)],?_,at'+1+rest / 2 % 4,es++[(at'+1+rest / 2 % 4) * s],rest / 8,_,rfl,rfl,zcu.mpr ⟨h1,zbT _ _,fun a ha b hb=>?_⟩,fun e he=>?_,⟨by simp;omega,fun e he=>?_⟩,by omega⟩
   ·push_cast [gG,dq (i:=rest) (j:=2) (by decide) (by decide),bK (i:=rest / 2) (j:=4) (by decide),fm (i:=at'+1+rest / 2 % 4) (j:=s) (by omega),hlen,dq (i:=rest) (j:=8) (by decide) (by decide),zaQ]
   ·rw [zat.mp hb];have:=h2 a ha;omega
   ·rcases zaL.mp he with he|he
    ·have:=h2 e he;omega
    ·rw [zat.mp he];exact zdu _
   ·rcases zaL.mp he with he|he
    ·exact h5 e he
    ·exact ⟨at'+1+rest / 2 % 4,by omega,by omega,zat.mp he⟩)
 rw [e];push_cast [bK (i:=rest) (j:=5) (by decide)]
 exact ⟨(_,es),rfl,h1,fun e he=>by
  obtain ⟨k,k1,k2,rfl⟩:=h5 e he
  exact Ev k1 k2⟩
theorem oN:∀(g:Rc) (l:List (Int×Rc)) (p:Int×Rc),IH g l->p.2≠lst g l->IH g (l++[p])
 |_,[],_,_,h=>⟨h,trivial⟩
 |_,q::l,p,hd,h=>⟨hd.1,oN q.2 l p hd.2 h⟩
theorem Dj (c s:Int)(hs:0 < s){P:Int}(hpow:∀μ:ab,ll (.v (.int 10)) (.v (.int 30)) μ=some (.v (.int P),μ))(hP0:0 < P):∃p:Pl,fU [.int c,.int 1,.int s]=some (dZ p)/\BP (yW s) (Cn P) p:=by
 rw [uJ];obtain ⟨n,hn,hn0,hn1⟩:=hJ c 1 (by decide);obtain ⟨n9,hn9,hn90,hn91⟩:=hJ c 10 (by decide);have b2:=b6 (n / 80) (j:=2) (by decide)
 obtain ⟨f,hf,hf0,hf1⟩:∃f:Int,L2.kO [D.int 1,D.int P] (n / 80 % 2)=some (.int f)/\0 < f/\(f=1\/f=P):=by
  have:n / 80 % 2=0\/n / 80 % 2=1:=by omega
  rcases this with h|h <;> rw [h]
  ·exact ⟨1,rfl,by decide,.inl rfl⟩
  ·exact ⟨P,rfl,hP0,.inr rfl⟩
 obtain ⟨g,hg,hgr⟩:∃g:Rc,pF (some (n % 4 == 0,[])) (aF 4 (aH cI 2 (af (bH (al br (ad 3) (fK (.int 4)))) (af (bH (ad 2)) am)))) aD
   [aI c,aI 1,aI s,aI n,some (.v (.tup [.bl false,.tup []])),none,none,none,none,none] =
   some (.nx [aI c,aI 1,aI s,aI n,some (.v (rD g)),none,none,none,none,none] [])/\g.2.Pairwise (· < ·)/\∀e∈g.2,e∈yW s:=by
  obtain ⟨r,hr,hr1,hr2⟩:=sA (n / 4) s hs
  cases n % 4 == 0 with
  |true=>exact ⟨r,by push_cast [dq (i:=n) (j:=4) (by decide) (by decide),hr],hr1,hr2⟩
  |false=>exact ⟨(false,[]),by push_cast [HW.IA];rfl,.nil,fun _ h=>nomatch h⟩
 have b3:=b6 (n / 16) (j:=5) (by decide);have b4:=b6 (n / 4) (j:=4) (by decide);obtain ⟨m,hm⟩:∃m:Nat,(n / 4 % 4).toNat=m:=⟨_,rfl⟩
 have hm3:m<=3:=by omega
 push_cast [kL,hn,bK (i:=n) (j:=4) (by decide)];rw [hg];push_cast [dq (i:=n) (j:=16) (by decide) (by decide),bK (i:=n / 16) (j:=5) (by decide),dq (i:=n) (j:=4) (by decide) (by decide),bK (i:=n / 4) (j:=4) (by decide),qW (j:=n / 4 % 4) (by omega),hm]
 obtain ⟨ρ',μ',e,last,turn,qs,x8,x9,rfl,⟨cs,rfl⟩,h1,h2,h3,h4,h5,h6,h7⟩:=iq (g:=bI 8) (b:=e8) (ρ:=[aI c,aI 1,aI s,aI n,some (.v (rD g)),some (.v (rD g)),aI ((n / 16 % 5 - 1)),cz 0,none,none]) (μ:=[.lst []]) m
  (fun i ρ μ=>∃(last:Rc) (turn:Int) (qs:List (Int×Rc)) (x8 x9:Option R),ρ=[aI c,aI 1,aI s,aI n,some (.v (rD g)),some (.v (rD last)),aI turn,cz 0,x8,x9]/\(∃cs:List aG,μ=.lst (qs.map sD)::cs)/\Up qs/\IH g qs/\last=lst g qs/\(∀p∈qs,p.1 < turn * f)/\qs.length<=i/\(∀p∈qs,(p.2.2.Pairwise (· < ·)/\∀e∈p.2.2,e∈yW s)/\p.1∈Cn P)/\(-(1:Int)<=turn/\turn<=3+3 * (i:Int)))
  ⟨g,n / 16 % 5 - 1,[],none,none,rfl,⟨[],rfl⟩,.nil,trivial,rfl,(fun _ h=>by cases h),by simp,(fun _ h=>by cases h),by omega⟩ (by
   rintro i hi ρ μ ⟨last,turn,qs,x8,x9,rfl,⟨cs,rfl⟩,h1,h2,h3,h4,h5,h6,h7⟩
   have hi3:(i:Int)<=2:=by omega
   obtain ⟨k,hk,hk0,hk1⟩:=hJ c (1+5+(i:Int)) (by omega);obtain ⟨r,hr,hr1,hr2⟩:=sA k s hs;have b5:=b6 (n9 / 3) (j:=3) (by decide);have hlen:(qs.map sD).length < sizeLine:=ii (by simp;omega);have hgt:turn * f < (turn+1+n9 / 3 % 3) * f:=zdg (by omega) hf0;have hn9':aq [.int c,.int (1+9)]=some (.int n9):=hn9
   by_cases hz:r=last
   ·have hz':decide (r=last)=true:=zaA hz
    refine ⟨_,_,?_,last,turn+1+n9 / 3 % 3,qs,aI ((i:Int)),some (.v (rD r)),rfl,⟨cs,rfl⟩,h1,h2,h3,fun p hp=>by have:=h4 p hp;omega,by omega,h6,by omega⟩;push_cast [e8,hk,hr,sV,oM,hz',hn9',dq (i:=n9) (j:=3) (by decide) (by decide),bK (i:=n9 / 3) (j:=3) (by decide)]
   ·have hz':decide (r=last)=false:=zav hz
    refine ⟨_,_,?_,r,turn+1+n9 / 3 % 3,qs++[(turn * f,r)],aI ((i:Int)),some (.v (rD r)),rfl,⟨cs++[.lst [.int 1,.int P]],rfl⟩,zcu.mpr ⟨h1,zbT _ _,fun a ha b hb=>?_⟩,oN g qs _ h2 (by rw [←h3];exact hz),by rw [og],fun p hp=>?_,by simp;omega,fun p hp=>?_,by omega⟩
    ·push_cast [e8,hk,hr,sV,oM,hz',hn9',dq (i:=n9) (j:=3) (by decide) (by decide),bK (i:=n9 / 3) (j:=3) (by decide),hpow,IA,dq (i:=n) (j:=80) (by decide) (by decide),bK (i:=n / 80) (j:=2) (by decide),hf,fm (i:=turn) (j:=f) (by omega),hlen,zaQ,IE]
    ·rw [zat.mp hb];exact h4 a ha
    ·rcases zaL.mp hp with hp|hp
     ·have:=h4 p hp;omega
     ·rw [zat.mp hp];exact hgt
    ·rcases zaL.mp hp with hp|hp
     ·exact h6 p hp
     ·rw [zat.mp hp];exact ⟨⟨hr1,hr2⟩,Ej (by omega) (by omega) hf1⟩)
 rw [e];push_cast [HW.IA];exact ⟨(g,qs),rfl,⟨hgr.1,h1,h2,fun q hq=>(h6 q hq).1.1⟩,hgr.2,fun q hq=>(h6 q hq).1.2,fun q hq=>(h6 q hq).2⟩
theorem J9 (a b c d e f:Int)(i:Int)(h:0<=i/\i < 6):∃x:Int,L2.kO [D.int a,.int b,.int c,.int d,.int e,.int f] i=some (.int x):=by
 have:i=0\/i=1\/i=2\/i=3\/i=4\/i=5:=by omega
 rcases this with h|h|h|h|h|h <;> rw [h] <;> exact ⟨_,rfl⟩
theorem OW:6<=sizeLine:=by decide
theorem zM (c k0:Int)(hk0:0<=k0/\k0 < 900)(w:Nat)(hw:w<=3):∃r:Th,dA [.int c,.int k0,.int (w:Int)]=some (.key r)/\r.length=w:=by
 rw [xA];obtain ⟨n,hn,hn0,hn1⟩:=hJ c (k0+17) (by omega);obtain ⟨P,hP⟩:∃P:Int,P=10 ^ (50:Int).toNat:=⟨_,rfl⟩
 have hpow:∀μ:ab,ll (.v (.int 10)) (.v (.int 50)) μ=some (.v (.int P),μ):=fun μ=>by rw [qX (by decide),hP]
 have hP0:0 < P:=by rw [hP];exact zdv (by decide)
 clear hP;have hn':aq [.int c,.int (k0+17)]=some (.int n):=hn;push_cast [mv,hn',qW (j:=(w:Int)) (by omega),zbB]
 obtain ⟨ρ',μ',e,k,r,x5,rfl,⟨cs,rfl⟩,h1⟩:=iq (g:=bI 5) (b:=jl) (ρ:=[aI c,aI k0,aI ((w:Int)),aI n,cz 0,none]) (μ:=[.lst []]) w
  (fun i ρ μ=>∃(k:Int) (r:Th) (x5:Option R),ρ=[aI c,aI k0,aI ((w:Int)),aI k,cz 0,x5]/\(∃cs:List aG,μ=.lst (r.map .int)::cs)/\r.length=i)
  ⟨n,[],none,rfl,⟨[],rfl⟩,rfl⟩ (by
   rintro i hi ρ μ ⟨k,r,x5,rfl,⟨cs,rfl⟩,h1⟩;have b:=b6 k (j:=6) (by decide);obtain ⟨x,hx⟩:=J9 0 1 1 (-1) 2 (c % P) (k % 6) b;have hlen:(r.map D.int).length < sizeLine:=ii (by simp;omega);refine ⟨_,_,?_,k / 6,r++[x],aI ((i:Int)),rfl,⟨cs++[.lst [.int 0,.int 1,.int 1,.int (-1),.int 2,.int (c % P)]],rfl⟩,by simp;omega⟩
   push_cast [jl,hpow,bK (i:=c) (j:=P) hP0,OW,bK (i:=k) (j:=6) (by decide),IE,hx,hlen,dq (i:=k) (j:=6) (by decide) (by decide),zaQ])
 rw [e];refine ⟨r,?_,h1⟩;push_cast [A7,zax]
def la (t:Int)(h:Rc)(q:Int×Rc):Rc:=if q.1<=t then q.2 else h
theorem A6:∀(qs:List (Int×Rc)) (g:Rc) (t:Int),Up qs->qs.foldl (la t) g=ra g qs t
 |[],_,_,_=>rfl
 |q::qs,g,t,hu=>by
  obtain ⟨h1,h2⟩:=zaM.mp hu;rw [za0,ra]
  by_cases h:t < q.1
  ·rw [if_pos h,la,if_neg (by omega),A6 qs g t h2]
   exact C6 _ _ _ fun p hp=>by have:=h1 p hp;omega
  ·rw [if_neg h,la,if_pos (by omega),A6 qs q.2 t h2]
def tg (d:Int)(b:Bool)(e:Int):Bool:=if e<=d then !b else b
theorem EW (d:Int):∀(es:Th) (b:Bool),es.Pairwise (· < ·)->es.foldl (tg d) b=lv b es d
 |[],_,_=>rfl
 |e::es,b,h=>by
  obtain ⟨p1,p2⟩:=zaM.mp h;rw [za0,EW d es _ p2,lv,tg]
  by_cases z:e<=d
  ·rw [if_pos z,if_neg (by omega)]
  ·rw [if_neg z,if_pos (by omega),Dz fun x hx=>by have:=p1 x hx;omega]
theorem vg (g:Rc)(qs:List (Int×Rc))(d t:Int)(hp:Pf g qs):dk [pD g qs,.int d,.int t]=some (.bl (rO (ra g qs t) d)):=by
 rw [uK]
 obtain ⟨⟨r,x5,x6⟩,e,h1⟩:=c7 (g:=lL 2 (aB (bI 5) (aB (bI 6) bZ))) (b:=dW) sD
  (fun st:Rc×Option R×Option R=>([some (.v (pD g qs)),aI d,aI t,some (.v (.bl st.1.1)),some (.v (.tup (st.1.2.map .int))),st.2.1,st.2.2,none],([]:ab)))
  (fun st rem=>rem.foldl (la t) st.1=ra g qs t) qs (g,none,none) (A6 qs g t hp.up) (by
   rintro ⟨h,x,y⟩ q rem hh;refine ⟨(la t h q,aI q.1,some (.v (rD q.2))),?_,hh⟩
   by_cases hz:q.1<=t
   ·have hz':decide (q.1<=t)=true:=zaA hz
    push_cast [dW,sD,rD,hz',la,if_pos hz]
   ·have hz':decide (q.1<=t)=false:=zav hz
    push_cast [dW,sD,rD,hz',la,if_neg hz])
 have h1:r=ra g qs t:=h1
 obtain ⟨⟨b,x7⟩,e2,h2⟩:=c7 (g:=bI 7) (b:=dU) D.int
  (fun st:Bool×Option R=>([some (.v (pD g qs)),aI d,aI t,some (.v (.bl st.1)),some (.v (.tup (r.2.map .int))),x5,x6,st.2],([]:ab)))
  (fun st rem=>rem.foldl (tg d) st.1=rO r d) r.2 (r.1,none) (EW d r.2 r.1 (by rw [h1];exact hp.at t)) (by
   rintro ⟨b,x⟩ q rem hh;refine ⟨(tg d b q,some (.v (.int q))),?_,hh⟩
   by_cases hz:q<=d
   ·have hz':decide (q<=d)=true:=zaA hz
    push_cast [dU,hz',tg,if_pos hz]
   ·have hz':decide (q<=d)=false:=zav hz
    push_cast [dU,hz',tg,if_neg hz])
 have h2:b=rO r d:=h2;have e':cR (lL 2 (aB (bI 5) (aB (bI 6) bZ))) dW (qs.map sD) [some (.v (.tup [.tup [.bl g.1,.tup (g.2.map .int)],.tup (qs.map sD)])),aI d,aI t,some (.v (.bl g.1)),some (.v (.tup (g.2.map .int))),none,none,none] []=_:=e;have e2':cR (bI 7) dU (r.2.map .int) [some (.v (.tup [.tup [.bl g.1,.tup (g.2.map .int)],.tup (qs.map sD)])),aI d,aI t,some (.v (.bl r.1)),some (.v (.tup (r.2.map .int))),x5,x6,none] []=_:=e2;push_cast [kM,pD,rD];rw [e'];push_cast [pD,rD];rw [e2'];push_cast [h2,h1]
abbrev ba (r:Th):D:=.tup (r.map .int)
abbrev eM (e:En):D:=.tup [ba e.1,dZ e.2]
theorem lM (i:Int):cH [.int i]=some (.bl true):=rfl
theorem pK (x:D)(ns:Th)(hlen:∀μ:ab,fV [.v x] μ=some (.v (.int (ns.length:Int)),μ))(hix:∀(i:Int) (p:Int) (μ:ab),L2.kO (ns.map D.int) i=some (.int p)->bq (.v x) (.v (.int i)) μ=some (.v (.int p),μ))(hu:ns.Pairwise (· < ·))(hl:ns.length < 2000):bR [x]=some (.bl true):=by
 rw [rW]
 have h62 : -(2 ^ 62:Int)<=(ns.length:Int)/\(ns.length:Int) < 2 ^ 62:=by omega
 obtain ⟨ρ',μ',e,x1,rfl,rfl⟩:=iq (g:=bI 1) (b:=eC) (ρ:=[some (.v x),none]) (μ:=[]) ns.length
  (fun i ρ μ=>∃x1,ρ=[some (.v x),x1]/\μ=[]) ⟨none,rfl,rfl⟩ (by
   rintro i hi ρ μ ⟨x1,rfl,rfl⟩;obtain ⟨p,hp⟩:∃p,ns[i]?=some p:=⟨_,zar hi⟩;have c0:=fun μ=>hix (i:Int) p μ (oY hp)
   cases i with
   |zero =>
    have c1:decide ((0:Int) < ((0:Nat):Int))=false:=rfl;have c0':∀μ:ab,bq (.v x) (.v (.int ((0:Nat):Int))) μ=some (.v (.int p),μ):=c0;refine ⟨[some (.v x),aI (((0:Nat):Int))],[],?_,_,rfl,rfl⟩;push_cast [eC,qY,yC,oK,BC,w5,BB,nh,fq,xa,oJ,iT,j4,wK,wJ,kF,kE,c0',lM,c1]
   |succ j =>
    obtain ⟨q,hq⟩:∃q,ns[j]?=some q:=⟨_,zar (by omega)⟩;have c1:decide ((0:Int) < ((j+1:Nat):Int))=true:=zaA (by omega)
    have c2:((j+1:Nat):Int) - 1=(j:Int):=by omega
    have c3:=fun μ=>hix (j:Int) q μ (oY hq)
    have hlt:q < p:=by
     obtain ⟨h1,h1'⟩:=zaw.mp hq;obtain ⟨h2,h2'⟩:=zaw.mp hp;rw [←h1',←h2'];exact zbc.mp hu j (j+1) h1 h2 (by omega)
    have c4:decide (p<=q)=false:=zav (by omega);refine ⟨[some (.v x),aI (((j+1:Nat):Int))],[],?_,_,rfl,rfl⟩
    push_cast [eC,qY,yC,oK,BC,w5,BB,nh,fq,xa,oJ,iT,j4,wK,wJ,kF,kE,c0,c2,c3,lM,c1,c4])
 push_cast [jy,mj,BI,KU,xf,fq,iT,kG,f6,fZ,qZ,hlen,qW h62,xb,zbB,e]
theorem xM (ns:Th)(hu:ns.Pairwise (· < ·))(hl:ns.length < 2000):bR [.tup (ns.map .int)]=some (.bl true) :=
 pK _ ns (fun μ=>by rw [D1,zaf]) (fun i p μ h=>by push_cast [h]) hu hl
theorem zN (ns:Th)(hu:ns.Pairwise (· < ·))(hl:ns.length < 2000):bR [.fl (ns.map .int)]=some (.bl true) :=
 pK _ ns (fun μ=>by rw [D2,zaf]) (fun i p μ h=>by push_cast [h]) hu hl
theorem t1 (xs:List D)(μ:ab):jn "tuple" (.v (.tup xs)) μ=some (.v (.bl true),μ):=rfl
theorem t2 (b:Bool)(μ:ab):jn "bool" (.v (.bl b)) μ=some (.v (.bl true),μ):=rfl
theorem t3 (xs:List D)(μ:ab):jn "list" (.v (.fl xs)) μ=some (.v (.bl true),μ):=rfl
theorem Lp:(((2:Nat):Int) == 2)=true:=rfl
theorem tJ (r:Rc)(hu:r.2.Pairwise (· < ·))(hl:r.2.length < 2000):bY [rD r]=some (.bl true):=by
 rw [nE];have h:=xM r.2 hu hl;push_cast [f9,t1,t2,Lp,h]
theorem Bf {ES TS:Th}(hE:ES.length<=18)(hT:TS.length<=23){g:Rc}{qs:List (Int×Rc)}(h:BP ES TS (g,qs)):c6 [pD g qs]=some (.bl true):=by
 rw [pd]
 have rl:∀l:Th,l.Pairwise (· < ·)->(∀e∈l,e∈ES)->l.length < 2000:=fun l h1 h2=>by have:=io l ES (rP h1) h2;omega
 have rg:=tJ g h.pf.gu (rl _ h.pf.gu h.ge)
 obtain ⟨⟨dn,x2⟩,e,hd,-⟩:=c7 (g:=bI 2) (b:=dg) sD
  (fun st:List (Int×Rc)×Option R=>([some (.v (pD g qs)),some (.v (rD (lst g st.1))),st.2],([]:ab)))
  (fun st rem=>st.1++rem=qs/\True) qs ([],none) ⟨rfl,trivial⟩ (by
   rintro ⟨dn,x2⟩ q rem ⟨hd,-⟩;simp only at hd
   have hq:q∈qs:=by rw [←hd];simp
   have rq:=tJ q.2 (h.pf.ru q hq) (rl _ (h.pf.ru q hq) (h.re q hq))
   have hne:q.2≠lst g dn:=by
    have key:∀(a:List (Int×Rc)) (g:Rc) (r:List (Int×Rc)),IH g (a++q::r)->q.2≠lst g a:=by
     intro a
     induction a with
     |nil=>intro g r hz;exact hz.1
     |cons p a ih=>intro g r hz;exact ih p.2 r hz.2
    exact key dn g rem (by rw [hd];exact h.pf.dif)
   have hne':decide (q.2=lst g dn)=false:=zav hne;refine ⟨(dn++[q],some (.v (sD q))),?_,by simp only [zbD,List.singleton_append];exact ⟨hd,trivial⟩⟩
   push_cast [dg,sD,t1,Lp,rq,sV,oM,hne',og])
 rw [zbm] at hd
 have hn:qs.length<=23:=by
  have:=io (qs.map (·.1)) TS (rP (zbC.mpr h.pf.up)) fun x hx=>by obtain ⟨q,hq,rfl⟩:=zas.mp hx;exact h.te q hq
  rw [zaf] at this;omega
 have hz:(qs.map sD).length<=sizeLine:=df (by simp;omega);have hc:=f7 (f:=al bq (ad 0) (fK (.int 0))) (μ:=[]) (rest:=[]) sD (fun q=>D.int q.1) qs none (fun q _=>by push_cast [sD])
 have hcm:qs.map (fun q=>D.int q.1)=(qs.map (·.1)).map D.int:=by rw [za7];rfl
 rw [hcm] at hc;have hz2:((qs.map (·.1)).map D.int).length<=sizeLine:=df (by simp;omega);have hr:=zN (qs.map (·.1)) (zbC.mpr h.pf.up) (by simp;omega);have e':cR (bI 2) dg (qs.map sD) [some (.v (.tup [rD g,.tup (qs.map sD)])),some (.v (rD g)),none] []=_:=e;push_cast [gM,pD,t1,Lp,rg];rw [e'];push_cast [hz,hc,hz2,hr]
theorem vP (ks:Th)(μ:ab):b7 (bI 0) jv (aH cH 1 (af (bH (ad 0)) am)) (ks.map .int) [none] μ=some (ks.map (fun _=>D.bl true),μ) :=
 f7 (rest:=[]) D.int (fun _=>D.bl true) ks none (fun k _=>by push_cast [lM])
theorem uw:∀ks:Th,kI (ks.map fun _=>D.bl true)=some (ks.map fun _=>true)
 |[]=>rfl
 |k::ks=>by simp only [zag,kI,uw ks,zax]
theorem gq:∀a:Th,HT2.iS a a=false
 |[]=>rfl
 |x::a=>by simp [HT2.iS,gq a]
theorem jj {l:Ta}(h:rM l):l.Nodup:=h.imp fun {a b} h e=>by subst e;rw [gq] at h;cases h
theorem AW {l:Ta}(h:rM l):aZ l=l:=jK (eJ (jj h)) h (bj l)
theorem l9:∀ns:Th,dC (ns.map D.int)=some ns
 |[]=>rfl
 |n::ns=>by simp only [zag,dC,l9 ns,zbu]
theorem j8:∀rows:Ta,nH (rows.map ba)=some rows
 |[]=>rfl
 |r::rows=>by
  have:y8 (ba r)=some r:=by unfold y8;exact l9 r
  simp only [zag,nH,this,j8 rows,zax]
theorem wE {n:Nat}(rows:Ta):cW (n+3) (.fl (rows.map ba))=true:=Fh (lu (fun r=>eR (fF r)) rows)
theorem xh (a:Ta):dG (.fl (a.map ba)) (.fl (a.map ba))=true:=by
 have:∀l:Ta,eqDs (l.map ba) (l.map ba)=true:=by
  intro l
  induction l with
  |nil=>rfl
  |cons x l ih=>simp only [zag,eqDs,ih,zcU,ba,dG,fM,zaA]
 simp only [dG,this]
theorem BX:∀(l acc:Ta),(acc++l).Nodup->l.foldl K9 acc=acc++l
 |[],acc,_=>by simp
 |k::l,acc,h=>by
  have hk:k∉acc:=fun z=>by
   have:=(zbb.mp h).2.2 k z k zai;exact this rfl
  rw [za0,K9,if_neg hk,BX l (acc++[k]) (by simpa using h)];simp
theorem La {l:Ta}(h:l.Nodup):dd l=l:=by
 have:=BX l [] (by simpa using h);simpa [dd] using this
theorem Bw {w:Nat}{T:List En}(hn:T.length < 64)(hr:∀e∈T,e.1.length=w)(nd:(T.map (·.1)).Nodup):(T.map (·.1)).length < 64/\((T.map (·.1)).length < 2\/∀k∈T.map (·.1),k≠[]):=by
 refine ⟨by simpa using hn,?_⟩
 have hw:∀k∈T.map (·.1),k.length=w:=fun k hk=>by obtain ⟨e,he,rfl⟩:=zas.mp hk;exact hr e he
 by_cases z:w=0
 ·refine .inl ?_
  have:=io (T.map (·.1)) [[]] nd fun x hx=>by
   have:=hw x hx
   rw [z] at this
   rw [zce.mp this];exact zai
  simp at this ⊢;omega
 ·refine .inr fun k hk e=>?_
  have:=hw k hk
  rw [e] at this
  simp at this;omega
theorem Be (bt:Bool){ES TS:Th}(hE:ES.length<=18)(hT:TS.length<=23){w:Nat}{T:List En}(h3:w<=3)(hn:T.length<=40)(hb:∀e∈T,BP ES TS e.2/\e.2≠nr)(hr:∀e∈T,e.1.length=w)(up:rM (T.map (·.1))):bX bt [.fl (T.map eM),.int (w:Int)]=some (.bl true):=by
 rw [nD]
 obtain ⟨⟨μ,x2⟩,e,-⟩:=c7 (g:=bI 2) (b:=cS bt) eM
  (fun st:ab×Option R=>([some (.v (.fl (T.map eM))),aI ((w:Int)),st.2,none],st.1))
  (fun st rem=>∀e∈rem,e∈T) T ([],none) (fun _ h=>h) (by
   rintro ⟨μ,x2⟩ e rem hm;have he:=hm e zai;obtain ⟨pg,hz⟩:=hb e he;have hw:=hr e he
   have hz':dG (dZ e.2) IG=false:=by rw [vJ];exact zav hz
   have hp:=Bf hE hT (g:=e.2.1) (qs:=e.2.2) pg
   have hww:((e.1.length:Int) == (w:Int))=true:=by rw [hw];exact zdo _
   have hwl:e.1.length<=sizeLine:=df (by omega);have cw:=vP e.1;have at':=uw e.1
   have hall:(e.1.map fun _=>true).all id=true:=by simp
   have okn:=u9;obtain ⟨r,g,qs⟩:=e;simp only at hw hww hwl cw at' hall hp hz';refine ⟨(μ++[aG.lst (r.map fun _=>D.bl true)],some (.v (eM (r,g,qs)))),?_,fun e he=>hm e (zaj _ he)⟩
   push_cast [cS,eM,ba,dZ,t1,Lp,hww,zaf,hwl,cw,at',hall,hp,wF,okn,hz',IE,zbf])
 have z1:(T.map eM).length<=sizeLine:=df (by simp;omega);have hc:=f7 (f:=al bq (ad 0) (fK (.int 0))) (μ:=μ) (rest:=[]) eM (fun e=>ba e.1) T none (fun e _=>by push_cast [eM])
 have hcm:T.map (fun e=>ba e.1)=(T.map (·.1)).map ba:=by rw [za7];rfl
 rw [hcm] at hc;have z2:((T.map (·.1)).map ba).length<=sizeLine:=df (by simp;omega);have few:=Bw (w:=w) (T:=T) (by omega) hr (jj up)
 have ss:Mm (.p μ.length) (μ++[.lst ((T.map (·.1)).map ba)])=some (.p (μ++[aG.lst ((T.map (·.1)).map ba)]).length,μ++[.lst ((T.map (·.1)).map ba)]++[.lst ((T.map (·.1)).map ba)]):=by
  unfold Mm zJ;simp only [IE,zax,j8];rw [La (jj up),if_pos few,AW up]
 have e':cR (bI 2) (cS bt) (T.map eM) [some (.v (.fl (T.map eM))),aI ((w:Int)),none,none] []=_:=e;push_cast [f8,t3];rw [e'];generalize hrows:(T.map (·.1)).map ba=rows at *
 have okr:cW 60 (.fl rows)=true:=by rw [←hrows];exact wE _
 have eqr:dG (.fl rows) (.fl rows)=true:=by rw [←hrows];exact xh _
 have g1:(μ++[aG.lst rows]++[aG.lst rows])[μ.length]?=some (.lst rows):=by
  rw [zaq (by simp)];exact IE
 have fs:DU (ad 3) [some (.v (.fl (T.map eM))),aI ((w:Int)),x2,cz μ.length] (μ++[.lst rows])=some (.p (μ++[aG.lst rows]).length,μ++[.lst rows]++[.lst rows]):=ss;push_cast [z1,hc,z2,fs,g1,IE,okr,eqr]
abbrev ez (d t:Int)(es:List En):Ta:=(es.filter fun e=>kw e.2 t d).map (·.1)
theorem A5 {es:List En}(hb:∀e∈es,Pf e.2.1 e.2.2)(hn:es.length < 64)(d t:Int):cG [.fl (es.map eM),.int d,.int t]=some (.lst ((ez d t es).map ba)):=by
 rw [y7];have z1:(es.map eM).length<=sizeLine:=df (by rw [zaf];omega)
 have cm0:=uc (c:=d5 (aH dk 3 (af (bH (ad 1)) (af (bH (ad 2)) (af (bH (ad 3)) am))))) (f:=ad 0) (rest:=[aI d,aI t]) (μ:=[]) (fun e:En=>ba e.1) (fun e=>dZ e.2) (fun e=>kw e.2 t d) (fun e=>ba e.1) es none none (fun e he=>by
   have h1:=vg e.2.1 e.2.2 d t (hb e he)
   push_cast [h1]) (fun e _ _=>by push_cast [HW.IA])
 have cm:b7 (lL 2 (aB (bI 0) (aB (bI 1) bZ))) (d5 (aH dk 3 (af (bH (ad 1)) (af (bH (ad 2)) (af (bH (ad 3)) am))))) (ad 0) (es.map eM) (dh 2 [1,2] [some (.v (.fl (es.map eM))),aI d,aI t]) []=some ((ez d t es).map ba,[]):=by
  rw [ez,za7];exact cm0
 push_cast [oX,z1,cm]
theorem Hc {n:Nat}(e:En):cW (n+6) (eM e)=true:=eR (dO (eR (fF _)) (dO (AN _ _) lq))
theorem AL (es:List En):cW 60 (.fl (es.map eM))=true:=Fh (lu (fun e=>Hc e) es)
theorem CF (cell k s:Int)(hk:0<=k/\k < 100){Ts:List En}:∃d t:Int,et [.int cell,.int k,.fl (Ts.map eM),.int s]=some (.tup [.int d,.int t]):=by
 rw [uI];obtain ⟨n,hn,hn0,hn1⟩:=hJ cell (k+31) (by omega);have dv:∀(j:Int),0 < j->j < 2 ^ 30->∀(μ:ab),br (.v (.int n)) (.v (.int j)) μ=some (.v (.int (n / j)),μ):=fun j j0 j1 μ=>dq (by omega) (by omega);have m9:∀μ:ab,aT (.v (.int n)) (.v (.int 9)) μ=some (.v (.int (n % 9)),μ):=fun μ=>bK (by decide);have md:∀(i j:Int),0 < j->∀μ:ab,aT (.v (.int i)) (.v (.int j)) μ=some (.v (.int (i % j)),μ):=fun i j j0 μ=>bK (by omega);have b15:=b6 (n / 9) (j:=15) (by decide);have ml:∀μ:ab,ku (.v (.int (n / 9 % 15 - 4))) (.v (.int s)) μ=some (.v (.int ((n / 9 % 15 - 4) * s)),μ):=fun μ=>fm (by omega);have okT:cW 60 (.fl (Ts.map eM))=true:=AL Ts;have ok0:cW 60 (.fl [])=true:=rfl
 have okn:cW 60 (.tup [])=true:=by decide +kernel
 by_cases hT:Ts=[]
 ·subst hT
  have e0:dG (.fl (([]:List En).map eM)) (.fl [])=true:=rfl;push_cast [eA,hn,m9,dv 9 (by decide) (by decide),dv 135 (by decide) (by decide),md _ 15 (by decide),md _ 2 (by decide),ml,okT,ok0,e0,zbf];exact ⟨_,_,rfl⟩
 ·have e0:dG (.fl (Ts.map eM)) (.fl [])=false:=by
   cases Ts with
   |nil=>exact absurd rfl hT
   |cons e T=>rfl
  cases q3:decide (0 < n / 270 % 3) with
  |false =>
   push_cast [eA,hn,m9,dv 9 (by decide) (by decide),dv 135 (by decide) (by decide),dv 270 (by decide) (by decide),md _ 15 (by decide),md _ 2 (by decide),md _ 3 (by decide),ml,okT,ok0,e0,q3,zbJ];exact ⟨_,_,rfl⟩
  |true =>
   have pick:∀{α:Type} (f:α->D) (xs:List α) (i:Int),xs≠[]->∃x∈xs,L2.kO (xs.map f) (i % (xs.length:Int))=some (f x)/\(0:Int) < (xs.length:Int):=fun {α} f xs i hx=>by
    have hpos:(0:Int) < (xs.length:Int):=by have:=zcx.mpr hx;omega
    obtain ⟨j,hj⟩:∃j:Nat,(j:Int)=i % (xs.length:Int):=⟨(i % (xs.length:Int)).toNat,by rw [zcd (zcC _ (by omega))]⟩
    have hlt:j < xs.length:=by have:=zci i hpos;omega
    exact ⟨xs[j],zbV hlt,by rw [←hj];exact oY (zar hlt),hpos⟩
   obtain ⟨e,he,a1,p1⟩:=pick eM Ts (n / 810) hT;have mT:=fun μ=>md (n / 810) (Ts.length:Int) p1 μ;obtain ⟨row,g,qs⟩:=e;have okq:cW 60 (.tup (qs.map sD))=true:=eR (lu (fun p=>AM p) qs);have oke:∀r:Rc,cW 60 (.tup (r.2.map .int))=true:=fun r=>eR (fF _)
   have eqe:∀r:Rc,dG (.tup (r.2.map .int)) (.tup [])=decide (r.2=[]):=fun r=>by
    have:=fM r.2 [];simp only [dG];exact this
   have fin:∀(r:Rc) (x7:R) (t d:Int) (μ:ab),∃(d':Int),(dj (fB (al (fL true) (al bq (ad 8) (fK (.int 1))) (bS am))) (aF 6 (al gR (al bq (al bq (ad 8) (fK (.int 1))) (al aT (al br (ad 4) (fK (.int 180000))) (fJ fV (af (al bq (ad 8) (fK (.int 1))) am)))) (al aT (al br (ad 4) (fK (.int 1800000))) (fK (.int 2))))) aD)
     [aI cell,aI k,some (.v (.fl (Ts.map eM))),aI s,aI n,aI t,aI d,some x7,some (.v (rD r))] μ=some (.nx [aI cell,aI k,some (.v (.fl (Ts.map eM))),aI s,aI n,aI t,aI d',some x7,some (.v (rD r))] μ):=fun r x7 t d μ=>by
    by_cases hr:r.2=[]
    ·have hr':decide (r.2=[])=true:=zaA hr
     refine ⟨d,?_⟩;push_cast [oke,okn,eqe,hr',zbf]
    ·have hr':decide (r.2=[])=false:=zav hr
     obtain ⟨x,hx,a2,p2⟩:=pick D.int r.2 (n / 180000) hr;have mR:=fun μ=>md (n / 180000) (r.2.length:Int) p2 μ;refine ⟨x - n / 1800000 % 2,?_⟩;push_cast [oke,okn,eqe,hr',zbJ,dv 180000 (by decide) (by decide),dv 1800000 (by decide) (by decide),zaf,mR,a2,md _ 2 (by decide)]
   generalize hL:(dj (fB (al (fL true) (al bq (ad 8) (fK (.int 1))) (bS am))) (aF 6 (al gR (al bq (al bq (ad 8) (fK (.int 1))) (al aT (al br (ad 4) (fK (.int 180000))) (fJ fV (af (al bq (ad 8) (fK (.int 1))) am)))) (al aT (al br (ad 4) (fK (.int 1800000))) (fK (.int 2))))) aD)=L at fin
   by_cases hq:qs=[]
   ·subst hq
    have eq0:dG (.tup []) (.tup [])=true:=by decide +kernel
    obtain ⟨d',hf⟩:=fin g (.v (.tup [rD g,.tup []])) (n % 9 - 2) ((n / 9 % 15 - 4) * s - n / 135 % 2) [aG.lst []];refine ⟨d',n % 9 - 2,?_⟩;rw [eA,hL];push_cast [hn,m9,dv 9 (by decide) (by decide),dv 135 (by decide) (by decide),dv 270 (by decide) (by decide),dv 810 (by decide) (by decide),md _ 15 (by decide),md _ 2 (by decide),md _ 3 (by decide),ml,okT,ok0,e0,q3,zbJ,zaf,mT,a1,eM,dZ,pD,za6,okn,eq0,zbf,hf]
   ·have eq0:dG (.tup (qs.map sD)) (.tup [])=false:=by
     cases qs with
     |nil=>exact absurd rfl hq
     |cons q rs=>simp [dG,eqDs]
    obtain ⟨q,hqm,a2,p2⟩:=pick sD qs (n / 9000) hq;have mQ:=fun μ=>md (n / 9000) (qs.length:Int) p2 μ;have a2':L2.kO (qs.map sD) (n / 9000 % (qs.length:Int))=some (.tup [.int q.1,rD q.2]):=a2;obtain ⟨d',hf⟩:=fin q.2 (.v (.tup [rD g,.tup (qs.map sD)])) (q.1 - n / 90000 % 2) ((n / 9 % 15 - 4) * s - n / 135 % 2) [aG.lst []];refine ⟨d',q.1 - n / 90000 % 2,?_⟩;rw [eA,hL];push_cast [hn,m9,dv 9 (by decide) (by decide),dv 135 (by decide) (by decide),dv 270 (by decide) (by decide),dv 810 (by decide) (by decide),dv 9000 (by decide) (by decide),dv 90000 (by decide) (by decide),md _ 15 (by decide),md _ 2 (by decide),md _ 3 (by decide),ml,okT,ok0,e0,q3,zbJ,zaf,mT,a1,eM,dZ,pD,okq,okn,eq0,mQ,a2',hf]
theorem cY:∀l:Th,unkDs (l.map D.int)=l.map .int
 |[]=>by simp only [za6,unkDs]
 |i::l=>by simp only [zag,unkDs,cQ,cY l]
theorem y0 (r:Rc):cQ (rD r)=rD r:=by simp only [cQ,unkDs,cY]
theorem qm:∀qs:List (Int×Rc),unkDs (qs.map sD)=qs.map sD
 |[]=>by simp only [za6,unkDs]
 |q::qs=>by simp only [zag,unkDs,cQ,y0,qm qs,cY]
theorem FH (p:Pl):cQ (dZ p)=dZ p:=by simp only [dZ,pD,cQ,unkDs,y0,qm,cY]
theorem FJ (e:En):cQ (bC e)=eM e:=by simp only [bC,cQ,unkDs,cY,qm]
theorem gl:∀es:List En,unkDs (es.map bC)=es.map eM
 |[]=>by simp only [za6,unkDs]
 |e::es=>by rw [zag,unkDs,FJ,gl es];rfl
theorem rR:∀rows:Ta,unkDs (rows.map ba)=rows.map ba
 |[]=>by simp only [za6,unkDs]
 |r::rows=>by simp only [zag,unkDs,cQ,cY,rR rows]
abbrev GP (ES TS:Th)(v:D):Prop:=∃p:Pl,v=dZ p/\BP ES TS p/\p≠nr
structure KG (ES TS:Th)(w:Nat)(kvs:List (Th×D)):Prop where
 nd:(kvs.map (·.1)).Nodup
 len:∀p∈kvs,p.1.length=w
 val:∀p∈kvs,GP ES TS p.2
theorem xU {kvs:List (Th×D)}{k:Th}{d:D}:(kj kvs k d).map (·.1)=if k∈kvs.map (·.1) then kvs.map (·.1) else kvs.map (·.1)++[k]:=by
 unfold kj
 by_cases h:k∈kvs.map (·.1)
 ·have h':(kvs.any fun p=>decide (p.1=k))=true:=by
   obtain ⟨p,hp,e⟩:=zas.mp h;exact zcV.mpr ⟨p,hp,by simpa using e⟩
  rw [if_pos h',if_pos h,za7];refine zcy fun p _=>?_;simp only [Function.comp];split <;> rfl
 ·have h':¬ (kvs.any fun p=>decide (p.1=k))=true:=fun z=>by
   obtain ⟨p,hp,e⟩:=zcV.mp z;exact h (zas.mpr ⟨p,hp,by simpa using e⟩)
  rw [if_neg h',if_neg h,zaQ];rfl
theorem sM {kvs:List (Th×D)}{k:Th}{d:D}{p:Th×D}(h:p∈kj kvs k d):p∈kvs\/(p.1=k/\p.2=d):=by
 unfold kj at h;split at h
 ·obtain ⟨q,hq,e⟩:=zas.mp h
  split at e
  ·rename_i c;subst e;exact .inr ⟨c,rfl⟩
  ·subst e;exact .inl hq
 ·rcases zaL.mp h with h|h
  ·exact .inl h
  ·rw [zat.mp h];exact .inr ⟨rfl,rfl⟩
theorem Am {kvs:List (Th×D)}{k:Th}{d:D}:(kj kvs k d).length<=kvs.length+1:=by
 unfold kj;split <;> simp
theorem KG.put {ES TS:Th}{w:Nat}{kvs:List (Th×D)}(h:KG ES TS w kvs){k:Th}{d:D}(hk:k.length=w)(hd:GP ES TS d):KG ES TS w (kj kvs k d):=by
 refine ⟨?_,fun p hp=>?_,fun p hp=>?_⟩
 ·rw [xU]
  split
  ·exact h.nd
  ·rename_i c
   rw [zbb];exact ⟨h.nd,by simp,fun a ha b hb=>by rw [zat.mp hb];rintro rfl;exact c ha⟩
 ·rcases sM hp with q|q
  ·exact h.len p q
  ·rw [q.1];exact hk
 ·rcases sM hp with q|q
  ·exact h.val p q
  ·rw [q.2];exact hd
theorem yZ {kvs:List (Th×D)}{k:Th}(h:k∈kvs.map (·.1)):∃v,iY kvs k=some v/\(k,v)∈kvs:=by
 unfold iY
 cases e:kvs.find? fun p=>decide (p.1=k) with
 |none =>
  obtain ⟨p,hp,rfl⟩:=zas.mp h;have:=zdd.mp e p hp
  simp at this
 |some p =>
  have h1:=zds e;have h2:=List.mem_of_find?_eq_some e
  have h1:p.1=k:=by simpa using h1
  exact ⟨p.2,rfl,by rw [←h1];exact h2⟩
structure O9 (ES TS:Th)(w:Nat)(T:List En):Prop where
 row:∀e∈T,e.1.length=w
 ok:∀e∈T,BP ES TS e.2/\e.2≠nr
 up:rM (T.map (·.1))
 n:T.length<=20
theorem yh (bt:Bool)(ns:Th)(w:Nat)(hw:w<=3)(s:Int)(hs:0 < s){P:Int}(hpow:∀μ:ab,ll (.v (.int 10)) (.v (.int 30)) μ=some (.v (.int P),μ))(hP0:0 < P)(hn:ns.length<=20):∃T:List En,eG bt [.fl (ns.map .int),.int (w:Int),.int s]=some (.lst (T.map bC))/\O9 (yW s) (Cn P) w T:=by
 rw [rT];push_cast [jw,DV]
 obtain ⟨st,e,h1,h2⟩:=c7 (g:=bI 4) (b:=c8 bt) D.int
  (fun st:List (Th×D)×Option R×Option R=>([some (.v (.fl (ns.map .int))),aI ((w:Int)),aI s,cz 0,st.2.1,st.2.2],[aG.dt st.1]))
  (fun st rem=>KG (yW s) (Cn P) w st.1/\st.1.length+rem.length<=20) ns ([],none,none) ⟨⟨zcq,(fun _ h=>by cases h),(fun _ h=>by cases h)⟩,by simpa using hn⟩ (by
   rintro ⟨kvs,x4,x5⟩ c rem ⟨h1,h2⟩;simp only [zaK] at h2;obtain ⟨p,hp,pg⟩:=Dj c s hs hpow hP0;obtain ⟨r,hr,hrl⟩:=zM c 1 (by decide) w hw;have okn:=u9;have hq:=vJ p
   by_cases hz:p=nr
   ·rw [zaA hz] at hq
    refine ⟨(kvs,aI c,some (.v (dZ p))),?_,h1,by simp only;omega⟩;push_cast [c8,hp,wF,okn,hq]
   ·rw [zav hz] at hq
    have hk:kvs.length < 1000:=by omega
    refine ⟨(kj kvs r (dZ p),aI c,some (.v (dZ p))),?_,h1.put hrl ⟨p,rfl,pg,hz⟩,by have:=Am (kvs:=kvs) (k:=r) (d:=dZ p);simp only;omega⟩
    push_cast [c8,hp,wF,okn,hq,tO,hr,zax,pA,hk])
 have e':cR (bI 4) (c8 bt) (ns.map .int) [some (.v (.fl (ns.map .int))),aI ((w:Int)),aI s,cz 0,none,none] [aG.dt []]=_:=e;rw [e'];obtain ⟨kvs,x4,x5⟩:=st;simp only [zbL,Nat.add_zero] at h1 h2
 have c1:kvs.length < 64/\(kvs.length < 2\/∀p∈kvs,p.1≠[]):=by
  refine ⟨by omega,?_⟩
  cases w with
  |succ w=>exact .inr fun p hp z=>by have:=h1.len p hp;rw [z] at this;simp at this
  |zero =>
   left;have nd:=h1.nd
   match kvs,h1,nd with
   |[],_,_=>simp
   |[_],_,_=>simp
   |p::q::r,h1,nd =>
    have a:=zbR (h1.len p (by simp));have b:=zbR (h1.len q (by simp));simp [a,b] at nd
 have hso:∀μ:ab,xF [.p 0] (aG.dt kvs::μ)=some (.p (μ.length+1),aG.dt kvs::(μ++[.lst ((aZ (kvs.map (·.1))).map D.key)])):=fun μ=>by
  simp only [xF,pA,zcL,zax,if_pos c1,zaK,zbW]
 obtain ⟨vf,hvf⟩:∃vf:List Int->Pl,∀k∈kvs.map (·.1),iY kvs k=some (dZ (vf k))/\BP (yW s) (Cn P) (vf k)/\vf k≠nr:=by
  have h:∀k,∃p:Pl,k∈kvs.map (·.1)->iY kvs k=some (dZ p)/\BP (yW s) (Cn P) p/\p≠nr:=fun k=>by
   by_cases hk:k∈kvs.map (·.1)
   ·obtain ⟨v,e1,e2⟩:=yZ hk
    obtain ⟨p,rfl,hp⟩:=h1.val _ e2;exact ⟨p,fun _=>⟨e1,hp⟩⟩
   ·exact ⟨nr,fun z=>absurd z hk⟩
  exact ⟨fun k=>Classical.choose (h k),fun k=>Classical.choose_spec (h k)⟩
 have hmem:∀k∈aZ (kvs.map (·.1)),k∈kvs.map (·.1):=fun k hk=>(bj _).mem_iff.mp hk
 have hcm:∀μ:ab,b7 (bI 0) jv (bS (af (ad 0) (af (Bz (ad 1) (ad 0)) am))) ((aZ (kvs.map (·.1))).map D.key) [none,cz 0] (aG.dt kvs::μ)=some ((aZ (kvs.map (·.1))).map (fun k=>bC (k,vf k)),aG.dt kvs::μ):=fun μ =>
  f7 (rest:=[cz 0]) D.key (fun k=>bC (k,vf k)) (aZ (kvs.map (·.1))) none (fun k hk=>by
   have:=(hvf k (hmem k hk)).1
   push_cast [Bz,pA,zax,this])
 have hz:((aZ (kvs.map (·.1))).map D.key).length<=sizeLine:=df (by rw [zaf,(bj _).length_eq];simp;omega);push_cast [hso,hz,hcm,qM];refine ⟨(aZ (kvs.map (·.1))).map fun k=>(k,vf k),by rw [za7];rfl,fun e he=>?_,fun e he=>?_,?_,?_⟩
 ·obtain ⟨k,hk,rfl⟩:=zas.mp he
  obtain ⟨q,hq,e⟩:=zas.mp (hmem k hk);rw [←e];exact h1.len q hq
 ·obtain ⟨k,hk,rfl⟩:=zas.mp he
  exact (hvf k (hmem k hk)).2
 ·rw [za7,show ((fun x:En=>x.1) ∘ fun k=>(k,vf k))=id from rfl,List.map_id]
  exact eJ h1.nd
 ·rw [zaf,(bj _).length_eq,zaf];exact h2
def oD:Option Int->D
 |none=>.non
 |some i=>.int i
def st:Option Int->Option Int->Rc
 |none,none=>(true,[])
 |none,some h=>(true,[h])
 |some l,none=>(false,[l])
 |some l,some h=>(false,[l,h])
def uC (lo hi:Option Int)(d:Int):Bool:=(match lo with|none=>true|some l=>decide (l<=d)) && (match hi with|none=>true|some h=>decide (d < h))
theorem uS {lo hi:Option Int}(h:∀l r,lo=some l->hi=some r->l < r):dR [oD lo,oD hi]=some (rD (st lo hi)):=by
 rw [qp]
 cases lo with
 |none=>cases hi <;> rfl
 |some l =>
  cases hi with
  |none=>rfl
  |some r =>
   have:=h l r rfl rfl;have hz:decide (r<=l)=false:=zav (by omega);push_cast [iL,oD,hz,ng,st,rD,zag,za6]
theorem Jx {lo hi:Option Int}(h:∀l r,lo=some l->hi=some r->l < r):(st lo hi).2.Pairwise (· < ·):=by
 cases lo <;> cases hi <;> simp [st];exact h _ _ rfl rfl
theorem Hg {lo hi:Option Int}(h:∀l r,lo=some l->hi=some r->l < r)(d:Int):rO (st lo hi) d=uC lo hi d:=by
 cases lo with
 |none =>
  cases hi with
  |none=>rfl
  |some r =>
   show (if d < r then true else !true)=(true && decide (d < r))
   by_cases c:d < r <;> simp [c]
 |some l =>
  cases hi with
  |none =>
   show (if d < l then false else !false)=(decide (l<=d) && true)
   by_cases c:d < l
   ·have:¬ l<=d:=by omega
    simp [c,this]
   ·have:l<=d:=by omega
    simp [c,this]
  |some r =>
   have:=h l r rfl rfl
   show (if d < l then false else if d < r then !false else !(!false))=(decide (l<=d) && decide (d < r))
   by_cases c:d < l
   ·have:¬ l<=d:=by omega
    simp [c,this]
   ·have h1:l<=d:=by omega
    by_cases e:d < r <;> simp [c,e,h1]
theorem tm:∀(g:Rc) (qs:List (Int×Rc)) (q:Int×Rc),qs.getLast?=some q->lst g qs=q.2
 |_,[],_,h=>by cases h
 |_,[p],q,h=>by cases h;rfl
 |_,p::p'::qs,q,h=>tm p.2 (p'::qs) q (by simpa using h)
theorem xr {α:Type}(f:α->D)(xs:List α)(x:α)(h:xs.getLast?=some x):L2.kO (xs.map f) (-1)=some (f x):=by
 have hne:xs≠[]:=fun z=>by rw [z] at h;cases h
 have hp:=zcx.mpr hne
 have h1:(xs.map f)[(xs.length - 1)]?=some (f x):=by rw [zaG,←List.getLast?_eq_getElem?,h];rfl
 have h2:L2.Fk (xs.map f).length (-1)=some (xs.length - 1):=by
  unfold L2.Fk;rw [zaf,if_neg (by omega),if_pos (by omega)]
  congr 1;omega
 unfold L2.kO;rw [h2];exact h1
theorem wP (p:Pl):cg [dZ p]=some (rD (lst p.1 p.2)):=by
 obtain ⟨g,qs⟩:=p;rw [qq]
 cases hq:qs.getLast? with
 |none =>
  have:qs=[]:=List.getLast?_eq_none_iff.mp hq;subst this;rfl
 |some q =>
  have h1:=xr sD qs q hq
  have hne:qs≠[]:=fun z=>by rw [z] at hq;cases hq
  have h2:(qs.map sD).isEmpty=false:=by
   cases qs with
   |nil=>exact absurd rfl hne
   |cons _ _=>rfl
  push_cast [iN,pD,h2,h1,sD,tm g qs q hq,zbJ]
def Cl (p:Pl)(t:Int)(r:Rc):Pl:=if r=lst p.1 p.2 then p else (p.1,p.2++[(t,r)])
theorem uT (p:Pl)(t:Int)(r:Rc)(hn:p.2.length < 2000):gY [dZ p,.int t,rD r]=some (dZ (Cl p t r)):=by
 have hl:=wP p;obtain ⟨g,qs⟩:=p;have hn:qs.length < 2000:=hn;rw [xz];unfold Cl
 by_cases c:r=lst g qs
 ·have c':decide (r=lst g qs)=true:=zaA c
  rw [if_pos c];push_cast [jP,hl,sV,oM,c']
 ·have c':decide (r=lst g qs)=false:=zav c
  rw [if_neg c];have z:(qs.map sD).length+1<=sizeLine:=df (by rw [zaf];omega);push_cast [jP,hl,sV,oM,c',pD,F0,z,zaQ];simp only [dZ,pD,zaQ,zag,za6,sD]
theorem u1:∀(g:Rc) (qs:List (Int×Rc)) (t:Int),Up qs->(∀q∈qs,q.1<=t)->ra g qs t=lst g qs
 |_,[],_,_,_=>rfl
 |g,q::qs,t,hu,h=>by
  have:=h q zai;rw [ra,if_neg (by omega)];exact u1 q.2 qs t (zaM.mp hu).2 fun x hx=>h x (zaj _ hx)
theorem wp:∀(g:Rc) (qs:List (Int×Rc)) (a:Int) (r:Rc) (t:Int),(∀q∈qs,q.1 < a)->ra g (qs++[(a,r)]) t=if t < a then ra g qs t else r
 |g,[],a,r,t,_=>rfl
 |g,q::qs,a,r,t,h=>by
  have h1:=h q zai;rw [zbW,ra,ra,wp q.2 qs a r t fun x hx=>h x (zaj _ hx)]
  by_cases c:t < q.1
  ·rw [if_pos c,if_pos c,if_pos (by omega)]
  ·rw [if_neg c,if_neg c]
theorem CD {p:Pl}{a:Int}{r:Rc}(hp:Pf p.1 p.2)(h:∀q∈p.2,q.1 < a)(t d:Int):rO (ra (Cl p a r).1 (Cl p a r).2 t) d=if t < a then rO (ra p.1 p.2 t) d else rO r d:=by
 unfold Cl
 by_cases c:r=lst p.1 p.2
 ·rw [if_pos c]
  by_cases z:t < a
  ·rw [if_pos z]
  ·rw [if_neg z,u1 p.1 p.2 t hp.up fun q hq=>by have:=h q hq;omega,c]
 ·rw [if_neg c]
  show rO (ra p.1 (p.2++[(a,r)]) t) d=_
  rw [wp p.1 p.2 a r t h]
  by_cases z:t < a
  ·rw [if_pos z,if_pos z]
  ·rw [if_neg z,if_neg z]
theorem F1 {ES TS:Th}{p:Pl}{a:Int}{r:Rc}(hp:BP ES TS p)(h:∀q∈p.2,q.1 < a)(hr:r.2.Pairwise (· < ·))(he:∀e∈r.2,e∈ES)(ha:a∈TS):BP ES TS (Cl p a r):=by
 unfold Cl
 by_cases c:r=lst p.1 p.2
 ·rw [if_pos c];exact hp
 ·rw [if_neg c]
  have sp:∀q∈p.2++[(a,r)],q∈p.2\/q=(a,r):=fun q hq=>by
   rcases zaL.mp hq with z|z
   ·exact .inl z
   ·exact .inr (zat.mp z)
  refine ⟨⟨hp.pf.gu,?_,oN p.1 p.2 _ hp.pf.dif c,fun q hq=>?_⟩,hp.ge,fun q hq=>?_,fun q hq=>?_⟩
  ·exact zcu.mpr ⟨hp.pf.up,zbT _ _,fun x hx y hy=>by rw [zat.mp hy];exact h x hx⟩
  ·rcases sp q hq with z|rfl
   ·exact hp.pf.ru q z
   ·exact hr
  ·rcases sp q hq with z|rfl
   ·exact hp.re q z
   ·exact he
  ·rcases sp q hq with z|rfl
   ·exact hp.te q z
   ·exact ha
theorem m8:∀(es:Th) (b:Bool) (d:Int),es.Pairwise (· < ·)->l5 (b,es) d=lv b es d
 |[],b,d,_=>by simp [l5,B2,lv]
 |e::es,b,d,h=>by
  obtain ⟨h1,h2⟩:=zaM.mp h;have ih:=m8 es (!b) d h2;rw [lv]
  by_cases c:d < e
  ·rw [if_pos c]
   have:((e::es).filter fun x=>decide (x<=d))=[]:=zco.mpr fun x hx=>by
    rcases zak.mp hx with rfl|hx
    ·simp;omega
    ·have:=h1 x hx;simp;omega
   simp [l5,B2,this]
  ·rw [if_neg c,←ih]
   have:((e::es).filter fun x=>decide (x<=d))=e::es.filter fun x=>decide (x<=d):=zbU (by simp;omega)
   have c1:B2 (b,e::es) d=B2 (!b,es) d+1:=by unfold B2;rw [this];rfl
   show (if B2 (b,e::es) d % 2=0 then b else !b)=if B2 (!b,es) d % 2=0 then !b else !!b
   rw [c1];generalize B2 (!b,es) d=n
   by_cases z:n % 2=0
   ·rw [if_neg (by omega),if_pos z]
   ·rw [if_pos (by omega),if_neg z,Bool.not_not]
theorem Kl (w:Bool->Bool->Bool)(r s:Rc)(hr:r.2.Pairwise (· < ·))(hs:s.2.Pairwise (· < ·))(d:Int):rO (W w r s) d=w (rO r d) (rO s d):=by
 have h:=MD w r s hr hs d;rw [show l5 (W w r s) d=rO (W w r s) d from m8 _ _ d (Lh w r s),show l5 r d=rO r d from m8 _ _ d hr,show l5 s d=rO s d from m8 _ _ d hs] at h;exact h
abbrev Mj (a b:Bool):Bool:=a || b
abbrev Mi (a b:Bool):Bool:=a && !b
theorem k1:cW 60 (.str "both")=true:=by decide +kernel
theorem k2:cW 60 (.str "either")=true:=by decide +kernel
theorem k3:cW 60 (.str "less")=true:=by decide +kernel
theorem O4:dG (.str "either") (.str "both")=false:=by decide +kernel
theorem O3:dG (.str "either") (.str "either")=true:=by decide +kernel
theorem O2:dG (.str "less") (.str "both")=false:=by decide +kernel
theorem O1:dG (.str "less") (.str "either")=false:=by decide +kernel
theorem O0:dG (.str "less") (.str "less")=true:=by decide +kernel
theorem IP (x y:Bool):bB [.str "either",.bl x,.bl y]=some (.bl (Mj x y)):=by
 rw [nB];cases x <;> push_cast [iK,k1,k2,O4,O3,Mj,Bool.true_or,Bool.false_or]
theorem EA (x y:Bool):bB [.str "less",.bl x,.bl y]=some (.bl (Mi x y)):=by
 rw [nB];cases x <;> push_cast [iK,k1,k2,k3,O2,O1,O0,Mi,Bool.true_and,zc8]
theorem q5:dG (.str "tell") (.str "tell")=true:=by decide +kernel
theorem q6:dG (.str "strike") (.str "tell")=false:=by decide +kernel
theorem k5:cW 60 (.str "tell")=true:=by decide +kernel
theorem k6:cW 60 (.str "strike")=true:=by decide +kernel
structure Tl where
 tl:Bool
 said:Th
 lo:Option Int
 hi:Option Int
abbrev dw (x:Tl):D:=if x.tl=true then .key x.said else .tup (x.said.map .int)
abbrev j2 (x:Tl):D:=.tup [.str (if x.tl=true then "tell" else "strike"),.str "some",dw x,oD x.lo,oD x.hi]
abbrev FQ (x:Tl):D:=.tup [.str (if x.tl=true then "tell" else "strike"),.str "some",.tup (x.said.map .int),oD x.lo,oD x.hi]
abbrev Tl.Ok (x:Tl):Prop:=∀l r,x.lo=some l->x.hi=some r->l < r
def yT (x:Tl)(row:Th):Bool->Bool->Bool:=if x.tl=true/\row=x.said then Mj else Mi
def gh (x:Tl)(keys:Nat)(a:Int)(e:En):En:=if e.1.take keys=x.said.take keys then (e.1,Cl e.2 a (W (yT x e.1) (lst e.2.1 e.2.2) (st x.lo x.hi))) else e
theorem wc (x:Tl):cA [j2 x]=some (.bl x.tl):=by
 rw [xC];obtain ⟨b,s,lo,hi⟩:=x;cases b
 ·push_cast [jQ,zap,if_false,k5,k6,q6]
 ·push_cast [jQ,if_true,k5,q5]
theorem oP (r:Th)(k:Nat):jX (r.map D.int) none (some (k:Int))=(r.take k).map .int:=by
 unfold jX;have h1:HT.cx (r.map D.int).length 0 none=0:=rfl
 have h2:HT.cx (r.map D.int).length (r.map D.int).length (some (k:Int))=min k (r.map D.int).length:=by
  exact HT.CN _ _ _
 rw [h1,h2,List.drop_zero,Nat.sub_zero,zdi,List.take_eq_take_iff.mpr];simp
theorem lQ (r:Th):lO (.v (.key r))=.v (.tup (r.map .int)):=rfl
theorem y1 (l:Th):lO (.v (.tup (l.map .int)))=.v (.tup (l.map .int)):=by show R.v (.tup (unkDs (l.map .int)))=_;rw [cY]
theorem BR {x y:R}{a b:Th}(hx:lO x=.v (.tup (a.map .int)))(hy:lO y=.v (.tup (b.map .int)))(μ:ab):iH false x y μ=some (.v (.bl (decide (a=b))),μ):=by
 have o:∀l:Th,cW 60 (.tup (l.map .int))=true:=fun l=>eR (fF l)
 have q:dG (.tup (a.map .int)) (.tup (b.map .int))=decide (a=b):=by simp only [dG];exact fM a b
 unfold iH;rw [hx,hy]
 show ((if (cW 60 (.tup (a.map .int)) && cW 60 (.tup (b.map .int)))=true then some (R.v (.bl (dG (.tup (a.map .int)) (.tup (b.map .int)))),qo μ) else none).bind fun r=>some (r.1,μ))=_
 rw [o,o,q];rfl
theorem BQ (a b:Th)(μ:ab):iH false (.v (.tup (a.map .int))) (.v (.tup (b.map .int))) μ=some (.v (.bl (decide (a=b))),μ):=BR (y1 a) (y1 b) μ
theorem BO (a b:Th)(μ:ab):iH false (.v (.key a)) (.v (.key b)) μ=some (.v (.bl (decide (a=b))),μ):=BR (lQ a) (lQ b) μ
theorem v5 (x:Tl):lO (.v (dw x))=.v (.tup (x.said.map .int)):=by
 unfold dw;split
 ·rfl
 ·show R.v (.tup (unkDs (x.said.map .int)))=_;rw [cY]
section
variable  {ES TS:Th}
theorem AQ (bt:Bool){x:Tl}(ho:x.Ok){keys:Nat}{a:Int}{e:En}(hp:BP ES TS e.2)(hE:ES.length<=18)(hT:TS.length<=23){x0 x6 x8 x9 x10:Option R}{kvs:List (Th×D)}{acc:List En}(hn:acc.length < 100) :
  ∃y10,dB bt [x0,aI ((keys:Int)),some (.v (j2 x)),aI a,some (.v (dw x)),some (.v (rD (st x.lo x.hi))),x6,cz 1,some (.v (.key e.1)),some (.v (dZ e.2)),x10] [.fzt kvs,.lst (acc.map bC)] =
   some (.nx [x0,aI ((keys:Int)),some (.v (j2 x)),aI a,some (.v (dw x)),some (.v (rD (st x.lo x.hi))),x6,cz 1,some (.v (.key e.1)),some (.v (dZ e.2)),y10] [.fzt kvs,.lst ((acc++[gh x keys a e]).map bC)]):=by
 have hb:=hp.pf.ru
 have hl:(lst e.2.1 e.2.2).2.length<=18/\(lst e.2.1 e.2.2).2.Pairwise (· < ·)/\∀z∈(lst e.2.1 e.2.2).2,z∈ES:=by
  have key:∀(g:Rc) (qs:List (Int×Rc)),lst g qs=g\/∃q∈qs,lst g qs=q.2:=fun g qs=>by
   induction qs generalizing g with
   |nil=>exact .inl rfl
   |cons q qs ih =>
    rcases ih q.2 with h|⟨x,hx,h⟩
    ·exact .inr ⟨q,zai,h⟩
    ·exact .inr ⟨x,zaj _ hx,h⟩
  have fin:∀r:Rc,r.2.Pairwise (· < ·)->(∀z∈r.2,z∈ES)->r.2.length<=18/\r.2.Pairwise (· < ·)/\∀z∈r.2,z∈ES:=fun r h1 h2 =>
   ⟨zbF (io _ _ (rP h1) h2) hE,h1,h2⟩
  rcases key e.2.1 e.2.2 with h|⟨q,hq,h⟩ <;> rw [h]
  ·exact fin _ hp.pf.gu hp.ge
  ·exact fin _ (hp.pf.ru q hq) (hp.re q hq)
 have hs2:(st x.lo x.hi).2.length<=2:=by cases x.lo <;> cases x.hi <;> simp [st]
 have hpn:e.2.2.length < 2000:=by
  have:=io (e.2.2.map (·.1)) TS (rP (zbC.mpr hp.pf.up)) fun z hz=>by obtain ⟨q,hq,rfl⟩:=zas.mp hz;exact hp.te q hq
  rw [zaf] at this;omega
 have ha:(acc.map bC).length < sizeLine:=ii (by rw [zaf];omega);have t1:=wc x;have la:=wP e.2;have ct:=fun (r:Th)=>oP r keys;have ek:=fun μ:ab=>BQ (e.1.take keys) (x.said.take keys) μ;unfold gh
 by_cases c:e.1.take keys=x.said.take keys
 ·have c':decide (e.1.take keys=x.said.take keys)=true:=zaA c
  rw [if_pos c]
  have wd:∃wd:Str,(∀u v:Bool,bB [.str wd,.bl u,.bl v]=some (.bl (yT x e.1 u v)))/\(HJ (eT (d5 (aH cA 1 (af (bH (ad 2)) am))) (fB (al (iH false) (ad 8) (ad 4)))) (fK (.str "either")) (fK (.str "less")))
    [x0,aI ((keys:Int)),some (.v (j2 x)),aI a,some (.v (dw x)),some (.v (rD (st x.lo x.hi))),x6,cz 1,some (.v (.key e.1)),some (.v (dZ e.2)),x10] [.fzt kvs,.lst (acc.map bC)]=some (.v (.str wd),[.fzt kvs,.lst (acc.map bC)]):=by
   unfold yT
   cases htl:x.tl with
   |false =>
    refine ⟨"less",fun u v=>by rw [if_neg (by simp)];exact EA u v,?_⟩;rw [htl] at t1;push_cast [t1]
   |true =>
    rw [htl] at t1;have ek2:=fun μ:ab=>BO e.1 x.said μ
    have sd:dw x=.key x.said:=by unfold dw;rw [if_pos htl]
    by_cases z:e.1=x.said
    ·refine ⟨"either",fun u v=>by rw [if_pos ⟨rfl,z⟩];exact IP u v,?_⟩
     rw [zaA z] at ek2;push_cast [t1,sd,ek2]
    ·refine ⟨"less",fun u v=>by rw [if_neg (fun q=>z q.2)];exact EA u v,?_⟩
     rw [zav z] at ek2;push_cast [t1,sd,ek2]
  obtain ⟨wd,hw,hif⟩:=wd;have bl:=Ec bt (yT x e.1) wd hw (lst e.2.1 e.2.2) (st x.lo x.hi) (by omega);have sp:=uT e.2 a (W (yT x e.1) (lst e.2.1 e.2.2) (st x.lo x.hi)) hpn;refine ⟨some (.v (.str wd)),?_⟩;rw [c'] at ek;unfold dB;generalize HJ (eT (d5 (aH cA 1 (af (bH (ad 2)) am))) (fB (al (iH false) (ad 8) (ad 4)))) (fK (.str "either")) (fK (.str "less"))=F at hif ⊢;push_cast [vH,zax,lQ,v5,ct,ek,hif,la,bl,sp,ha,zaQ]
 ·have c':decide (e.1.take keys=x.said.take keys)=false:=zav c
  rw [c'] at ek;rw [if_neg c];refine ⟨x10,?_⟩;push_cast [dB,vH,zax,lQ,v5,ct,ek,ha,zaQ]
end
theorem jh (x:Tl)(keys:Nat)(a:Int)(e:En):(gh x keys a e).1=e.1:=by unfold gh;split <;> rfl
abbrev o8 (e:En):Th×D:=(e.1,dZ e.2)
theorem pP:∀T:List En,jg (T.map bC)=some (T.map o8)
 |[]=>rfl
 |e::T=>by
  rw [zag,zag];unfold jg
  show (jg (T.map bC)).map _=_
  rw [pP T];rfl
theorem nZ:∀(T:List En) (k0:List (Th×D)),(k0.map (·.1)++T.map (·.1)).Nodup->jH k0 (T.map o8)=k0++T.map o8
 |[],k0,_=>by simp [jH]
 |e::T,k0,nd=>by
  have hn:¬ (k0.any fun p=>decide (p.1=e.1))=true:=fun z=>by
   obtain ⟨p,hp,h⟩:=zcV.mp z
   have h:p.1=e.1:=by simpa using h
   exact (zbb.mp nd).2.2 p.1 (zbj hp) e.1 (by simp) h
  show jH (kj k0 e.1 (dZ e.2)) (T.map o8)=_
  unfold kj;rw [if_neg hn,nZ T _ (by simpa using nd)];simp
theorem qj (k:Th):∀T:List En,(iY (T.map o8) k=none ↔ k∉T.map (·.1))
 |[]=>by simp [iY]
 |e::T=>by
  have ih:=qj k T;unfold iY at ih ⊢;rw [zag]
  by_cases z:e.1=k
  ·rw [zcQ (by simpa using z)]
   simp [z]
  ·rw [zcR (by simpa using z),ih]
   simp [Ne.symm z]
def bN (x:Tl)(T:List En):List En:=if x.tl=true/\x.said∉T.map (·.1) then T++[(x.said,nr)] else T
theorem lC:∀es:List En,flatDs (es.map bC)=true
 |[]=>rfl
 |e::es=>by
  have h1:c9 (bC e)=true:=by
   have:=DR e.2.1 e.2.2
   show flatDs [.key e.1,dZ e.2]=true
   simp only [flatDs,c9] at this ⊢;simpa using this
  rw [zag,flatDs,h1,lC es];rfl
section
variable  {ES TS:Th}{w:Nat}{T:List En}
theorem Cw (bt:Bool){x:Tl}(ho:x.Ok){keys:Nat}{a:Int}(hb:∀e∈T,BP ES TS e.2)(hE:ES.length<=18)(hT:TS.length<=23)(hr:∀e∈T,e.1.length=w)(hs:x.tl=true->x.said.length=w)(nd:(T.map (·.1)).Nodup)(hn:T.length<=20) :
  ∃A:List En,fG bt [.fl (T.map bC),.int (keys:Int),j2 x,.int a]=some (.lst (A.map bC))/\rM (A.map (·.1))/\∀e,e∈A ↔ e∈(bN x T).map (gh x keys a)/\e.2≠nr:=by
 have n0:BP ES TS nr:=⟨⟨.nil,.nil,trivial,fun _ h=>nomatch h⟩,(fun _ h=>nomatch h),(fun _ h=>nomatch h),fun _ h=>nomatch h⟩
 have eb:∀e∈bN x T,BP ES TS e.2/\e.1.length=w:=fun e he=>by
  unfold bN at he;split at he
  ·rename_i c
   rcases zaL.mp he with h|h
   ·exact ⟨hb e h,hr e h⟩
   ·rw [zat.mp h];exact ⟨n0,hs c.1⟩
  ·exact ⟨hb e he,hr e he⟩
 have en:((bN x T).map (·.1)).Nodup:=by
  unfold bN;split
  ·rename_i c
   rw [zaQ,zbb]
   exact ⟨nd,by simp,fun p hp q hq=>by
    have hq:q=x.said:=by simpa using hq
    rw [hq];rintro rfl;exact c.2 hp⟩
  ·exact nd
 have el:(bN x T).length<=21:=by
  unfold bN;split
  ·rw [zaW];simp;omega
  ·omega
 obtain ⟨A,hA,hu,hm⟩:=zo bt (w:=w) (es:=(bN x T).map (gh x keys a)) (by rw [zaf];omega) (by rw [za7,show ((fun e:En=>e.1) ∘ gh x keys a)=fun e=>e.1 from funext fun e=>jh x keys a e];exact en) (fun e he=>by
  obtain ⟨y,hy,rfl⟩:=zas.mp he
  rw [jh];exact (eb y hy).2)
 refine ⟨A,?_,hu,hm⟩;rw [xy];have se:=uS ho;have t1:=wc x;have ix2:∀μ:ab,bq (.v (j2 x)) (.v (.int 2)) μ=some (.v (dw x),μ):=fun μ=>rfl;have ix3:∀μ:ab,bq (.v (j2 x)) (.v (.int 3)) μ=some (.v (oD x.lo),μ):=fun μ=>rfl;have ix4:∀μ:ab,bq (.v (j2 x)) (.v (.int 4)) μ=some (.v (oD x.hi),μ):=fun μ=>rfl
 have dt:p6 [.v (.fl (T.map bC))] []=some (.p 0,[.dt (T.map o8)]):=by
  unfold p6
  show ((jg (T.map bC)).bind fun kvs=>if (T.map bC).length < 1000 then some (R.p 0,[aG.dt (jH [] kvs)]) else none)=_
  rw [pP,zax,if_pos (by rw [zaf];omega),nZ T [] (by simpa using nd)];rfl
 have s4:(dj (d5 (aH cA 1 (af (bH (ad 2)) am))) (eU (yA (ad 6) (ad 4) (fK (.tup [(.tup [(.bl false),(.tup [])]),(.tup [])])))) aD)
   [some (.v (.fl (T.map bC))),aI ((keys:Int)),some (.v (j2 x)),aI a,some (.v (dw x)),some (.v (rD (st x.lo x.hi))),cz 0,none,none,none,none] [.dt (T.map o8)] =
   some (.nx [some (.v (.fl (T.map bC))),aI ((keys:Int)),some (.v (j2 x)),aI a,some (.v (dw x)),some (.v (rD (st x.lo x.hi))),cz 0,none,none,none,none] [.dt ((bN x T).map o8)]):=by
  cases htl:x.tl with
  |false =>
   rw [htl] at t1
   have:bN x T=T:=by unfold bN;rw [if_neg (by simp [htl])]
   rw [this];push_cast [t1]
  |true =>
   rw [htl] at t1
   have sd:dw x=.key x.said:=by unfold dw;rw [if_pos htl]
   have sT:(yA (ad 6) (ad 4) (fK (.tup [(.tup [(.bl false),(.tup [])]),(.tup [])]))) [some (.v (.fl (T.map bC))),aI ((keys:Int)),some (.v (j2 x)),aI a,some (.v (dw x)),some (.v (rD (st x.lo x.hi))),cz 0,none,none,none,none] [.dt (T.map o8)] =
     (if (T.map o8).length < 1000 then some (match iY (T.map o8) x.said with|some r=>(.v r,[.dt (T.map o8)])|none=>(.v IG,[.dt (T.map o8++[(x.said,IG)])])) else none):=by rw [sd];rfl
   rw [if_pos (by rw [zaf];omega)] at sT
   by_cases z:x.said∈T.map (·.1)
   ·have:bN x T=T:=by unfold bN;rw [if_neg (fun q=>q.2 z)]
    rw [this]
    cases hv:iY (T.map o8) x.said with
    |none=>exact absurd z ((qj _ _).mp hv)
    |some r =>
     rw [hv] at sT;push_cast [t1,sT]
   ·have:bN x T=T++[(x.said,nr)]:=by unfold bN;rw [if_pos ⟨htl,z⟩]
    rw [this,zaQ];rw [(qj _ _).mpr z] at sT;push_cast [t1,sT];rfl
 obtain ⟨⟨acc,x8,x9,x10⟩,e,h1⟩:=c7 (g:=lL 2 (aB (bI 8) (aB (bI 9) bZ))) (b:=dB bt) bC
  (fun s:List En×Option R×Option R×Option R=>([some (.v (.fl (T.map bC))),aI ((keys:Int)),some (.v (j2 x)),aI a,some (.v (dw x)),some (.v (rD (st x.lo x.hi))),cz 0,cz 1,s.2.1,s.2.2.1,s.2.2.2],[aG.fzt ((bN x T).map o8),.lst (s.1.map bC)]))
  (fun s rem=>s.1++rem.map (gh x keys a)=(bN x T).map (gh x keys a)/\∀e∈rem,e∈bN x T) (bN x T) ([],none,none,none) ⟨rfl,fun _ h=>h⟩ (by
   rintro ⟨acc,x8,x9,x10⟩ e rem ⟨h1,h2⟩
   have hacc:acc.length < 100:=by
    have:=congrArg List.length h1;simp at this;omega
   obtain ⟨y10,q⟩:=AQ bt ho (keys:=keys) (a:=a) (eb e (h2 e zai)).1 hE hT (x0:=some (.v (.fl (T.map bC)))) (x6:=some (.p 0)) (x8:=x8) (x9:=x9) (x10:=x10) (kvs:=(bN x T).map o8) hacc;refine ⟨(acc++[gh x keys a e],some (.v (.key e.1)),some (.v (dZ e.2)),y10),?_,by rw [zbD];exact h1,fun z hz=>h2 z (zaj _ hz)⟩;have hg:lL 2 (aB (bI 8) (aB (bI 9) bZ)) (.v (bC e)) [some (.v (.fl (T.map bC))),aI ((keys:Int)),some (.v (j2 x)),aI a,some (.v (dw x)),some (.v (rD (st x.lo x.hi))),cz 0,cz 1,x8,x9,x10] [aG.fzt ((bN x T).map o8),.lst (acc.map bC)]=some ([some (.v (.fl (T.map bC))),aI ((keys:Int)),some (.v (j2 x)),aI a,some (.v (dw x)),some (.v (rD (st x.lo x.hi))),cz 0,cz 1,some (.v (.key e.1)),some (.v (dZ e.2)),x10],[aG.fzt ((bN x T).map o8),.lst (acc.map bC)]):=rfl;rw [hg,yC]
   exact q)
 have h1:acc=(bN x T).map (gh x keys a):=by simpa using h1.1
 subst h1
 have fi:(DT (ad 6)) [some (.v (.fl (T.map bC))),aI ((keys:Int)),some (.v (j2 x)),aI a,some (.v (dw x)),some (.v (rD (st x.lo x.hi))),cz 0,cz 1,none,none,none] [.dt ((bN x T).map o8),.lst []]=some ((bN x T).map bC,[.fzt ((bN x T).map o8),.lst []]):=by
  show some ((((bN x T).map o8).map MB,_))=_
  rw [za7];rfl
 have fl:=lC A;have e:cR (lL 2 (aB (bI 8) (aB (bI 9) bZ))) (dB bt) ((bN x T).map bC) [some (.v (.fl (T.map bC))),aI ((keys:Int)),some (.v (j2 x)),aI a,some (.v (dw x)),some (.v (rD (st x.lo x.hi))),cz 0,cz 1,none,none,none] [aG.fzt ((bN x T).map o8),.lst []]=_:=e;generalize hL:(dj (d5 (aH cA 1 (af (bH (ad 2)) am))) (eU (yA (ad 6) (ad 4) (fK (.tup [(.tup [(.bl false),(.tup [])]),(.tup [])])))) aD)=L at s4;rw [mt,hL];push_cast [ix2,ix3,ix4,se,dt,s4,fi,e,hA,fl]
end
theorem ni (d t:Int)(l:List En)(r:Th):r∈ez d t l ↔ ∃e∈l,e.1=r/\kw e.2 t d=true:=by
 unfold ez;rw [zas];constructor
 ·rintro ⟨e,he,h1⟩
  obtain ⟨h2,h3⟩:=zbd.mp he;exact ⟨e,h2,h1,h3⟩
 ·rintro ⟨e,he,h1,h2⟩
  exact ⟨e,zbd.mpr ⟨he,h2⟩,h1⟩
section
variable  {ES TS:Th}{T A:List En}{x:Tl}{keys:Nat}{a:Int}
theorem dY {e:En}:e∈bN x T ↔ e∈T\/(x.tl=true/\x.said∉T.map (·.1)/\e=(x.said,nr)):=by
 unfold bN;split
 ·rename_i c
  rw [zaL,zat];exact or_congr Iff.rfl ⟨fun h=>⟨c.1,c.2,h⟩,fun h=>h.2.2⟩
 ·rename_i c
  exact ⟨.inl,fun h=>h.resolve_right fun q=>c ⟨q.1,q.2.1⟩⟩
theorem wH (ho:x.Ok){e:En}(hp:Pf e.2.1 e.2.2)(h:∀q∈e.2.2,q.1 < a)(t d:Int):kw (gh x keys a e).2 t d=if e.1.take keys=x.said.take keys/\¬ t < a then yT x e.1 (kw e.2 t d) (uC x.lo x.hi d) else kw e.2 t d:=by
 unfold gh
 by_cases c:e.1.take keys=x.said.take keys
 ·rw [if_pos c]
  show rO (ra (Cl e.2 a _).1 (Cl e.2 a _).2 t) d=_
  rw [CD hp h]
  by_cases z:t < a
  ·rw [if_pos z,if_neg (fun q=>q.2 z)]
  ·rw [if_neg z,if_pos ⟨c,z⟩]
   have hl:=u1 e.2.1 e.2.2 t hp.up fun q hq=>by have:=h q hq;omega
   have hu:=hp.at t;rw [hl] at hu;rw [Kl _ _ _ hu (Jx ho),Hg ho]
   show _=yT x e.1 (rO (ra e.2.1 e.2.2 t) d) _
   rw [hl]
 ·rw [if_neg c,if_neg (fun q=>c q.1)]
theorem Cv (ho:x.Ok)(hb:∀e∈T,BP ES TS e.2)(ha:∀e∈T,∀q∈e.2.2,q.1 < a)(hA:∀e,e∈A ↔ e∈(bN x T).map (gh x keys a)/\e.2≠nr)(t d:Int)(r:Th) :
  r∈ez d t A ↔ if t < a\/uC x.lo x.hi d=false then r∈ez d t T else (r∈ez d t T/\r.take keys≠x.said.take keys)\/(x.tl=true/\r=x.said):=by
 have n0:Pf nr.1 nr.2:=⟨.nil,.nil,trivial,fun _ h=>nomatch h⟩
 have nl:∀{e:En},e∈bN x T->kw (gh x keys a e).2 t d=if e.1.take keys=x.said.take keys/\¬ t < a then yT x e.1 (kw e.2 t d) (uC x.lo x.hi d) else kw e.2 t d:=fun {e} he=>by
  rcases dY.mp he with h|⟨_,_,rfl⟩
  ·exact wH ho (hb e h).pf (ha e h) t d
  ·exact wH ho n0 (fun q h=>by cases h) t d
 have h1:r∈ez d t A ↔ ∃e∈bN x T,e.1=r/\kw (gh x keys a e).2 t d=true:=by
  rw [ni];constructor
  ·rintro ⟨e,he,hr,hl⟩
   obtain ⟨y,hy,rfl⟩:=zas.mp ((hA e).mp he).1;exact ⟨y,hy,by rw [←hr,jh],hl⟩
  ·rintro ⟨y,hy,hr,hl⟩
   refine ⟨gh x keys a y,(hA _).mpr ⟨zbj hy,fun z=>?_⟩,by rw [jh];exact hr,hl⟩;rw [z,AZ] at hl;cases hl
 rw [h1]
 have same:(∀b:Bool,∀row,yT x row b (uC x.lo x.hi d)=b)\/t < a->((∃e∈bN x T,e.1=r/\kw (gh x keys a e).2 t d=true) ↔ r∈ez d t T):=fun hw=>by
  have eq:∀{e:En},e∈bN x T->kw (gh x keys a e).2 t d=kw e.2 t d:=fun {e} he=>by
   rw [nl he];split
   ·rename_i c
    rcases hw with hw|hw
    ·exact hw _ _
    ·exact absurd hw c.2
   ·rfl
  rw [ni];constructor
  ·rintro ⟨e,he,hr,hl⟩
   rw [eq he] at hl;rcases dY.mp he with h|⟨_,_,rfl⟩
   ·exact ⟨e,h,hr,hl⟩
   ·rw [show kw (x.said,nr).2 t d=false from AZ t d] at hl;cases hl
  ·rintro ⟨e,he,hr,hl⟩
   have he':e∈bN x T:=dY.mpr (.inl he);exact ⟨e,he',hr,by rw [eq he'];exact hl⟩
 by_cases z:t < a\/uC x.lo x.hi d=false
 ·rw [if_pos z]
  refine same ?_;rcases z with z|z
  ·exact .inr z
  ·refine .inl fun b row=>?_
   rw [z];unfold yT;split <;> simp
 ·rw [if_neg z]
  have z1:¬ t < a:=fun h=>z (.inl h)
  have z2:uC x.lo x.hi d=true:=by cases q:uC x.lo x.hi d with
   |true=>rfl
   |false=>exact absurd (.inr q) z
  rw [z2] at nl;constructor
  ·rintro ⟨e,he,rfl,hl⟩
   rw [nl he] at hl;split at hl
   ·rename_i c
    unfold yT at hl;split at hl
    ·rename_i q;exact .inr q
    ·simp at hl
   ·rename_i c
    have c:e.1.take keys≠x.said.take keys:=fun q=>c ⟨q,z1⟩;rcases dY.mp he with h|⟨_,_,rfl⟩
    ·exact .inl ⟨(ni d t T e.1).mpr ⟨e,h,rfl,hl⟩,c⟩
    ·exact absurd rfl c
  ·rintro (⟨h,c⟩|⟨htl,rfl⟩)
   ·obtain ⟨e,he,rfl,hl⟩:=(ni d t T r).mp h
    have he':e∈bN x T:=dY.mpr (.inl he);exact ⟨e,he',rfl,by rw [nl he',if_neg (fun q=>c q.1)];exact hl⟩
   ·have hx:∃e∈bN x T,e.1=x.said:=by
     by_cases q:x.said∈T.map (·.1)
     ·obtain ⟨e,he,h⟩:=zas.mp q
      exact ⟨e,dY.mpr (.inl he),h⟩
     ·exact ⟨_,dY.mpr (.inr ⟨htl,q,rfl⟩),rfl⟩
    obtain ⟨e,he,h⟩:=hx;refine ⟨e,he,h,?_⟩;rw [nl he,if_pos ⟨by rw [h],z1⟩];unfold yT;rw [if_pos ⟨htl,h⟩];simp
theorem Cy (ho:x.Ok)(hb:∀e∈T,BP ES TS e.2)(ha:∀e∈T,∀q∈e.2.2,q.1 < a)(hA:∀e,e∈A ↔ e∈(bN x T).map (gh x keys a)/\e.2≠nr)(hs:∀z∈(st x.lo x.hi).2,z∈ES)(haT:a∈TS):∀e∈A,BP ES TS e.2/\e.2≠nr:=fun e he=>by
 obtain ⟨h1,h2⟩:=(hA e).mp he;refine ⟨?_,h2⟩;obtain ⟨y,hy,rfl⟩:=zas.mp h1
 have hy':BP ES TS y.2/\∀q∈y.2.2,q.1 < a:=by
  rcases dY.mp hy with h|⟨_,_,rfl⟩
  ·exact ⟨hb y h,ha y h⟩
  ·exact ⟨⟨⟨.nil,.nil,trivial,fun _ h=>nomatch h⟩,(fun _ h=>nomatch h),(fun _ h=>nomatch h),fun _ h=>nomatch h⟩,fun _ h=>nomatch h⟩
 unfold gh;split
 ·refine F1 hy'.1 hy'.2 (Lh _ _ _) (fun z hz=>?_) haT
  have:=(Fv _ _ _).subset hz;rcases ((gQ _ _).2.2 z).mp this with h|h
  ·have key:∀(g:Rc) (qs:List (Int×Rc)),(∀w∈g.2,w∈ES)->(∀q∈qs,∀w∈q.2.2,w∈ES)->∀w∈(lst g qs).2,w∈ES:=fun g qs=>by
    induction qs generalizing g with
    |nil=>exact fun h _=>h
    |cons q qs ih=>exact fun _ h2=>ih q.2 (h2 q zai) fun p hp=>h2 p (zaj _ hp)
   exact key _ _ hy'.1.ge hy'.1.re z h
  ·exact hs z h
 ·exact hy'.1
end
theorem He (a b:Int):∃c:Int,(∀μ:ab,vd [.v (.int a),.v (.int b)] μ=some (.v (.int c),μ))/\a<=c/\b<=c:=by
 by_cases h:a < b
 ·exact ⟨b,fun μ=>by simp [vd,h],by omega,by omega⟩
 ·exact ⟨a,fun μ=>by simp [vd,h],by omega,by omega⟩
theorem AX (T:List En):∃L:Int,eu [.fl (T.map eM)]=some (.int L)/\∀e∈T,∀q∈e.2.2,q.1<=L:=by
 rw [uL]
 obtain ⟨⟨L,x2,x3,x4,x5⟩,e,h1⟩:=c7 (g:=lL 2 (aB (bI 2) (aB (bI 3) bZ))) (b:=ff) eM
  (fun s:Int×Option R×Option R×Option R×Option R=>([some (.v (.fl (T.map eM))),aI s.1,s.2.1,s.2.2.1,s.2.2.2.1,s.2.2.2.2],([]:ab)))
  (fun s rem=>∀e∈T,e∈rem\/∀q∈e.2.2,q.1<=s.1) T (0,none,none,none,none) (fun e he=>.inl he) (by
   rintro ⟨L,x2,x3,x4,x5⟩ e rem h
   obtain ⟨⟨L',y4,y5⟩,e2,h2,h3⟩:=c7 (g:=lL 2 (aB (bI 4) (aB (bI 5) bZ))) (b:=fg) sD
    (fun s:Int×Option R×Option R=>([some (.v (.fl (T.map eM))),aI s.1,some (.v (ba e.1)),some (.v (dZ e.2)),s.2.1,s.2.2],([]:ab)))
    (fun s rem=>L<=s.1/\∀q∈e.2.2,q∈rem\/q.1<=s.1) e.2.2 (L,x4,x5) ⟨zdu _,fun q hq=>.inl hq⟩ (by
     rintro ⟨M,y4,y5⟩ q rem ⟨h2,h3⟩;obtain ⟨c,hc,c1,c2⟩:=He M q.1;refine ⟨(c,aI q.1,some (.v (rD q.2))),?_,by simp only at h2 ⊢;omega,fun p hp=>?_⟩
     ·push_cast [fg,sD,hc]
     ·rcases h3 p hp with z|z
      ·rcases zak.mp z with rfl|z
       ·exact .inr c2
       ·exact .inl z
      ·exact .inr (by simp only at z ⊢;omega))
   refine ⟨(L',some (.v (ba e.1)),some (.v (dZ e.2)),y4,y5),?_,fun p hp=>?_⟩
   ·have e2:cR (lL 2 (aB (bI 4) (aB (bI 5) bZ))) fg (e.2.2.map sD) [some (.v (.fl (T.map eM))),aI L,some (.v (ba e.1)),some (.v (.tup [rD e.2.1,.tup (e.2.2.map sD)])),x4,x5] []=_:=e2
    push_cast [ff,eM,dZ,pD,e2]
   ·rcases h p hp with z|z
    ·rcases zak.mp z with rfl|z
     ·exact .inr fun q hq=>(h3 q hq).resolve_left (by simp)
     ·exact .inl z
    ·exact .inr fun q hq=>by have:=z q hq;simp only at this h2 ⊢;omega)
 have e':cR (lL 2 (aB (bI 2) (aB (bI 3) bZ))) ff (T.map eM) [some (.v (.fl (T.map eM))),aI 0,none,none,none,none] []=_:=e;refine ⟨L,by push_cast [kN,e'],fun e he=>(h1 e he).resolve_left (by simp)⟩
theorem Hf (x:Tl)(d:Int):ji [FQ x,.int d]=some (.bl (uC x.lo x.hi d)):=by
 rw [y6];obtain ⟨b,s,lo,hi⟩:=x
 cases lo with
 |none =>
  cases hi with
  |none=>push_cast [gc,oD,ng,uC];rfl
  |some r=>push_cast [gc,oD,ng,uC];rfl
 |some l =>
  by_cases c:d < l
  ·have c1:decide (d < l)=true:=zaA c
   have c2:decide (l<=d)=false:=zav (by omega);push_cast [gc,oD,ng,uC,c1,c2,zc8]
  ·have c1:decide (d < l)=false:=zav c
   have c2:decide (l<=d)=true:=zaA (by omega)
   cases hi with
   |none=>push_cast [gc,oD,ng,uC,c1,c2];rfl
   |some r=>push_cast [gc,oD,ng,uC,c1,c2];rfl
theorem zL (q:Int):∃s:Int,eI [.int q]=some (.int s)/\0 < s:=by
 rw [rV];obtain ⟨P4,hP4,hP40⟩:∃P:Int,(∀μ:ab,ll (.v (.int 10)) (.v (.int 40)) μ=some (.v (.int P),μ))/\0 < P:=⟨10 ^ (40:Int).toNat,fun μ=>qX (by decide),zdv (by decide)⟩;have b3:=b6 q (j:=3) (by decide)
 obtain ⟨s,hs1,hs⟩:∃x:Int,L2.kO [D.int 1,D.int 1,D.int P4] (q % 3)=some (.int x)/\0 < x:=by
  have:q % 3=0\/q % 3=1\/q % 3=2:=by omega
  rcases this with h|h|h <;> rw [h]
  ·exact ⟨1,rfl,by decide⟩
  ·exact ⟨1,rfl,by decide⟩
  ·exact ⟨P4,rfl,hP40⟩
 exact ⟨s,by push_cast [jx,hP4,bK (i:=q) (j:=3) (by decide),hs1],hs⟩
theorem xn (ns:Th)(k:Nat):∃c,cJ [.fl (ns.map .int),.int (k:Int)]=some (.int c):=by
 rw [uM]
 by_cases h:k < ns.length
 ·have c0:decide ((k:Int) < (ns.length:Int))=true:=zaA (by omega)
  have c1:L2.kO (ns.map D.int) (k:Int)=some (.int ns[k]):=oY (zar h);exact ⟨ns[k],by push_cast [iM,zaf,c0,c1]⟩
 ·have c0:decide ((k:Int) < (ns.length:Int))=false:=zav (by omega)
  exact ⟨0,by push_cast [iM,zaf,c0]⟩
theorem iG (i j:Int)(μ:ab):iH false (.v (.int i)) (.v (.int j)) μ=some (.v (.bl (i == j)),μ):=rfl
theorem FF (x:Tl):cQ (j2 x)=FQ x:=by
 obtain ⟨b,s,lo,hi⟩:=x
 have o:∀z:Option Int,cQ (oD z)=oD z:=fun z=>by cases z <;> rfl
 cases b
 ·show D.tup [.str "strike",.str "some",.tup (unkDs (s.map .int)),cQ (oD lo),cQ (oD hi)]=_
  rw [cY,o,o];rfl
 ·show D.tup [.str "tell",.str "some",.tup (s.map .int),cQ (oD lo),cQ (oD hi)]=_
  rw [o,o];rfl
theorem BY (r:Th):jX (r.map D.int) none (some (-1))=r.dropLast.map .int:=by
 unfold jX;have h1:HT.cx (r.map D.int).length 0 none=0:=rfl
 have h2:HT.cx (r.map D.int).length (r.map D.int).length (some (-1))=r.length - 1:=by
  show (if (-1:Int) < 0 then (-1+((r.map D.int).length:Int)).toNat else min (-1:Int).toNat (r.map D.int).length)=_
  rw [if_pos (by decide),zaf];omega
 rw [h1,h2,List.drop_zero,Nat.sub_zero,←zdi,List.dropLast_eq_take]
theorem AV (c s:Int)(hs:0 < s)(w keys:Nat)(hw1:1<=w)(hw:w<=3){T:List En}(hr:∀e∈T,e.1.length=w):∃x:Tl,cZ [.int c,.fl (T.map bC),.int (w:Int),.int (keys:Int),.int s]=some (j2 x)/\x.Ok/\(x.tl=true->x.said.length=w):=by
 rw [pc];obtain ⟨n,hn,hn0,hn1⟩:=hJ c 3 (by decide);obtain ⟨r0,hr0,hl0⟩:=zM c 2 (by decide) w hw;have dv:∀(j:Int),0 < j->j < 2 ^ 30->∀(μ:ab),br (.v (.int n)) (.v (.int j)) μ=some (.v (.int (n / j)),μ):=fun j j0 j1 μ=>dq (by omega) (by omega);have md:∀(i j:Int),0 < j->∀μ:ab,aT (.v (.int i)) (.v (.int j)) μ=some (.v (.int (i % j)),μ):=fun i j j0 μ=>bK (by omega);rw [gL]
 obtain ⟨r1,hl1,s3⟩:∃r1:Th,r1.length=w/\(dj (eT (fB (al (iH true) (ad 1) (gk am))) (fB (al Fn (al aT (ad 5) (fK (.int 3))) (fK (.int 0))))) (aF 6 (al bq (al bq (ad 1) (al aT (al br (ad 5) (fK (.int 3))) (fJ fV (af (ad 1) am)))) (fK (.int 0)))) aD)
   [aI c,some (.v (.fl (T.map bC))),aI ((w:Int)),aI ((keys:Int)),aI s,aI n,some (.v (.key r0)),none,none] [] =
   some (.nx [aI c,some (.v (.fl (T.map bC))),aI ((w:Int)),aI ((keys:Int)),aI s,aI n,some (.v (.key r1)),none,none] [.lst []]):=by
  have ek:iH true (.v (.fl (T.map bC))) (.p 0) [.lst []]=some (.v (.bl (!decide (T=[]))),[.lst []]):=by
   unfold iH
   show ((fL true (.v (.fl (unkDs (T.map bC)))) (.p 0) [.lst []]).bind fun r=>some (r.1,[aG.lst []]))=_
   rw [gl]
   show ((if (cW 60 (.fl (T.map eM)) && cW 60 (.fl []))=true then some (R.v (.bl (!dG (.fl (T.map eM)) (.fl []))),[aG.lst []]) else none).bind fun r=>some (r.1,[aG.lst []]))=_
   rw [AL,show cW 60 (.fl [])=true from rfl]
   cases T with
   |nil=>rfl
   |cons e T=>rfl
  by_cases hT:T=[]
  ·rw [zaA hT] at ek
   exact ⟨r0,hl0,by push_cast [ek,zbf]⟩
  ·rw [zav hT] at ek
   by_cases z:0 < n % 3
   ·have z':decide (0 < n % 3)=true:=zaA z
    have hpos:(0:Int) < (T.length:Int):=by have:=zcx.mpr hT;omega
    obtain ⟨j,hj⟩:∃j:Nat,(j:Int)=n / 3 % (T.length:Int):=⟨(n / 3 % (T.length:Int)).toNat,by rw [zcd (zcC _ (by omega))]⟩
    have hlt:j < T.length:=by have:=zci (n / 3) hpos;omega
    have a1:L2.kO (T.map bC) (n / 3 % (T.length:Int))=some (.tup [.key T[j].1,dZ T[j].2]):=by rw [←hj];exact oY (zar hlt)
    have mT:=fun μ=>md (n / 3) (T.length:Int) hpos μ;exact ⟨T[j].1,hr _ (zbV hlt),by push_cast [ek,zbJ,md _ 3 (by decide),z',dv 3 (by decide) (by decide),zaf,mT,a1]⟩
   ·have z':decide (0 < n % 3)=false:=zav z
    exact ⟨r0,hl0,by push_cast [ek,zbJ,md _ 3 (by decide),z']⟩
 obtain ⟨r2,hl2,s4⟩:∃r2:Th,r2.length=w/\(dj (fB (al (iH false) (al aT (al br (ad 5) (fK (.int 90))) (fK (.int 4))) (fK (.int 0)))) (aF 6 (al vX (tV (vH (ad 6)) eV (dP (iE lY (fK (.int 1))))) (p5 (af (al du (al bq (vH (ad 6)) (iE lY (fK (.int 1)))) (fK (.int 1))) am)))) aD)
   [aI c,some (.v (.fl (T.map bC))),aI ((w:Int)),aI ((keys:Int)),aI s,aI n,some (.v (.key r1)),none,none] [.lst []] =
   some (.nx [aI c,some (.v (.fl (T.map bC))),aI ((w:Int)),aI ((keys:Int)),aI s,aI n,some (.v (.key r2)),none,none] [.lst []]):=by
  cases z:(n / 90 % 4 == 0) with
  |false=>exact ⟨r1,hl1,by push_cast [dv 90 (by decide) (by decide),md _ 4 (by decide),iG,z]⟩
  |true =>
   obtain ⟨y,hy⟩:∃y,r1.getLast?=some y:=by
    cases q:r1.getLast? with
    |none=>rw [List.getLast?_eq_none_iff] at q;rw [q] at hl1;simp at hl1;omega
    |some y=>exact ⟨y,rfl⟩
   have a1:=xr D.int r1 y hy;have c1:=BY r1
   have k1:∀μ:ab,vX (.v (.tup (r1.dropLast.map .int))) (.v (.key [y+1])) μ=some (.v (.key (r1.dropLast++[y+1])),μ):=fun μ=>by
    show ((dC (r1.dropLast.map .int)).bind fun ns=>if (r1.dropLast.map D.int).length+1<=sizeLine/\[y+1]≠[] then some (R.v (.key (ns++[y+1])),μ) else none)=_
    rw [l9,zax,if_pos ⟨df (by simp;omega),by simp⟩]
   have i1:dC [.int (y+1)]=some [y+1]:=rfl;refine ⟨r1.dropLast++[y+1],by simp;omega,?_⟩;push_cast [vH,p5,dv 90 (by decide) (by decide),md _ 4 (by decide),iG,z,zax,lQ,c1,a1,i1,F0,k1]
 have m12:=b6 (n / 360) (j:=12) (by decide);have m6:=b6 (n / 4320) (j:=6) (by decide);have ml1:∀μ:ab,ku (.v (.int (n / 360 % 12 - 3))) (.v (.int s)) μ=some (.v (.int ((n / 360 % 12 - 3) * s)),μ):=fun μ=>fm (by omega);have ml2:∀μ:ab,ku (.v (.int (1+n / 4320 % 6))) (.v (.int s)) μ=some (.v (.int ((1+n / 4320 % 6) * s)),μ):=fun μ=>fm (by omega)
 have hgt:(n / 360 % 12 - 3) * s < (n / 360 % 12 - 3) * s+(1+n / 4320 % 6) * s:=by
  have:0 < (1+n / 4320 % 6) * s:=Int.mul_pos (by omega) hs;omega
 obtain ⟨lo,hlo⟩:∃lo:Int,lo=(n / 360 % 12 - 3) * s:=⟨_,rfl⟩;obtain ⟨hi,hhi⟩:∃hi:Int,hi=lo+(1+n / 4320 % 6) * s:=⟨_,rfl⟩
 have hlt:lo < hi:=by rw [hhi,hlo];exact hgt
 rw [←hlo] at ml1;refine ⟨⟨!(n / 750000 % 3 == 0),if (n / 750000 % 3 == 0)=true then r2.take keys else r2,if (n / 30000 % 5 == 0)=true then none else some lo,if (n / 150000 % 5 == 0)=true then none else some hi⟩,?_,fun l r h1 h2=>?_,fun h=>?_⟩
 ·have ct:=oP r2 keys
  have sz5:5<=sizeLine:=by decide
  have hn':aq [.int c,.int 3]=some (.int n):=hn;have hr0':dA [.int c,.int 2,.int (w:Int)]=some (.key r0):=hr0;generalize hL3:(dj (eT (fB (al (iH true) (ad 1) (gk am))) (fB (al Fn (al aT (ad 5) (fK (.int 3))) (fK (.int 0))))) (aF 6 (al bq (al bq (ad 1) (al aT (al br (ad 5) (fK (.int 3))) (fJ fV (af (ad 1) am)))) (fK (.int 0)))) aD)=L3 at s3 ⊢;generalize hL4:(dj (fB (al (iH false) (al aT (al br (ad 5) (fK (.int 90))) (fK (.int 4))) (fK (.int 0)))) (aF 6 (al vX (tV (vH (ad 6)) eV (dP (iE lY (fK (.int 1))))) (p5 (af (al du (al bq (vH (ad 6)) (iE lY (fK (.int 1)))) (fK (.int 1))) am)))) aD)=L4 at s4 ⊢
  cases b3:(n / 750000 % 3 == 0) <;> cases b1:(n / 30000 % 5 == 0) <;> cases b2:(n / 150000 % 5 == 0) <;>
   push_cast [vH,hn',hr0',s3,s4,dv 360 (by decide) (by decide),md _ 12 (by decide),ml1,dv 4320 (by decide) (by decide),md _ 6 (by decide),ml2,←hhi,dv 30000 (by decide) (by decide),md _ 5 (by decide),dv 150000 (by decide) (by decide),dv 750000 (by decide) (by decide),md _ 3 (by decide),iG,b1,b2,b3,zax,lQ,ct,sz5,j2,dw,oD,zbf,zbJ,zap,if_false]
 ·simp only at h1 h2
  split at h1
  ·cases h1
  ·split at h2
   ·cases h2
   ·cases h1;cases h2;exact hlt
 ·have h:(n / 750000 % 3 == 0)=false:=by simpa using h
  simp only [h,zap,if_false];exact hl2
theorem oE:∀rows:Ta,flatDs (rows.map ba)=true
 |[]=>rfl
 |r::rows=>by simp only [zag,flatDs,ba,c9,kC,oE rows,zdh]
section
variable  {ES TS:Th}{w:Nat}{T:List En}
def mS (x:Tl)(keys:Nat)(a d t:Int)(T:List En):Ta:=if t < a\/uC x.lo x.hi d=false then ez d t T else aZ ((ez d t T).filter (fun r=>!decide (r.take keys=x.said.take keys))++(if x.tl=true then [x.said] else []))
theorem rh (h:rM (T.map (·.1)))(d t:Int):rM (ez d t T):=List.Pairwise.sublist (List.Sublist.map _ zc7) h
theorem BT (h:rM (T.map (·.1)))(x:Tl)(keys:Nat)(d t:Int):((ez d t T).filter (fun r=>!decide (r.take keys=x.said.take keys))++(if x.tl=true then [x.said] else [])).Nodup:=by
 have n1:=jj (rh h d t);rw [zbb];refine ⟨n1.sublist zc7,by split <;> simp,fun p hp q hq=>?_⟩;have:=(zbd.mp hp).2;split at hq
 ·rw [zat.mp hq]
  rintro rfl
  simp at this
 ·cases hq
theorem Ig (bt:Bool){x:Tl}{keys:Nat}{a d t:Int}(hw1:1<=w)(hp:∀e∈T,Pf e.2.1 e.2.2)(hr:∀e∈T,e.1.length=w)(hs:x.tl=true->x.said.length=w)(hu:rM (T.map (·.1)))(hn:T.length<=20) :
  dz bt [.fl (T.map eM),.int (keys:Int),FQ x,.int a,.int d,.int t]=some (.lst ((mS x keys a d t T).map ba)):=by
 rw [xB];have la:=A5 hp (by omega) d t
 have la':uk cG [.fl (T.map eM),.int d,.int t]=some (.lst ((ez d t T).map ba)):=by
  unfold uk
  have:unkDs (T.map eM)=T.map eM:=by
   rw [lP,za7];refine zcy fun e _=>?_
   show D.tup [.tup (unkDs (e.1.map .int)),cQ (dZ e.2)]=_
   rw [cY,FH]
  simp only [unkDs,cQ,this];exact la
 have li:=Hf x d
 have hc:(ez d t T).length<=T.length:=by rw [zaf];exact List.length_filter_le _ _
 have ix2:∀μ:ab,bq (.v (FQ x)) (.v (.int 2)) μ=some (.v (.tup (x.said.map .int)),μ):=fun μ=>rfl;have ix0:∀μ:ab,bq (.v (FQ x)) (.v (.int 0)) μ=some (.v (.str (if x.tl=true then "tell" else "strike")),μ):=fun μ=>rfl;have fl:=oE (ez d t T);unfold mS
 by_cases z:t < a
 ·have z':decide (t < a)=true:=zaA z
  rw [if_pos (.inl z)];push_cast [fN,la',fl,z']
 ·have z':decide (t < a)=false:=zav z
  cases q:uC x.lo x.hi d with
  |false =>
   rw [if_pos (.inr rfl)];rw [q] at li;push_cast [fN,la',fl,z',li]
  |true =>
   rw [if_neg (by simp [z])];rw [q] at li;have z1:((ez d t T).map ba).length<=sizeLine:=df (by rw [zaf];omega)
   have cf:∀μ:ab,b7 (bI 0) (fB (al (fL true) (tV (ad 0) eV (dP (ad 1))) (tV (al bq (ad 2) (fK (.int 2))) eV (dP (ad 1))))) (ad 0) ((ez d t T).map ba) [none,aI ((keys:Int)),some (.v (FQ x))] μ=some (((ez d t T).filter (fun r=>!decide (r.take keys=x.said.take keys))).map ba,μ):=fun μ =>
    ju (c:=fB (al (fL true) (tV (ad 0) eV (dP (ad 1))) (tV (al bq (ad 2) (fK (.int 2))) eV (dP (ad 1))))) (f:=ad 0) (μ:=μ) (rest:=[aI ((keys:Int)),some (.v (FQ x))]) ba ba (fun r=>!decide (r.take keys=x.said.take keys)) (ez d t T) none (fun r _=>by
     have o:∀l:Th,cW 60 (.tup (l.map .int))=true:=fun l=>eR (fF l)
     have e:dG (.tup ((r.take keys).map .int)) (.tup ((x.said.take keys).map .int))=decide (r.take keys=x.said.take keys):=by simp only [dG];exact fM _ _
     push_cast [ba,ix2,oP,o,e]) (fun r _ _=>by push_cast [HW.IA])
   generalize hF:(ez d t T).filter (fun r=>!decide (r.take keys=x.said.take keys))=F at cf
   have hFl:F.length<=20:=by rw [←hF];have:=List.length_filter_le (fun r=>!decide (List.take keys r=List.take keys x.said)) (ez d t T);omega
   have nd:=BT hu x keys d t;rw [hF] at nd
   have ne:∀k∈F++(if x.tl=true then [x.said] else []),k≠[]:=fun k hk e0=>by
    have hk:k.length=w:=by
     rcases zaL.mp hk with h|h
     ·rw [←hF] at h
      obtain ⟨e,he,rfl⟩:=zas.mp (zbd.mp h).1;exact hr e (zbd.mp he).1
     ·split at h
      ·rename_i c;rw [zat.mp h];exact hs c
      ·cases h
    rw [e0] at hk;simp at hk;omega
   have zF:(F.map ba).length < sizeLine:=ii (by rw [zaf];omega)
   have sr:∀(L:Ta) (c:aG),L.Nodup->L.length < 64->(∀k∈L,k≠[])->zB [.p 1] [c,.lst (L.map ba)]=some (.p 2,[c,.lst (L.map ba),.lst ((aZ L).map ba)]):=fun L c h1 h2 h3=>by
    show ((nH (L.map ba)).bind fun L=>if L.Nodup/\L.length < 64/\(L.length < 2\/∀k∈L,k≠[]) then some (R.p 2,[c,aG.lst _]++[.lst ((aZ L).map fun k=>.tup (k.map D.int))]) else none)=_
    rw [j8,zax,if_pos ⟨h1,h2,.inr h3⟩];rfl
   cases htl:x.tl with
   |false =>
    rw [htl] at nd ne ix0;simp only [zap,if_false,zbm] at nd ne ix0 ⊢;have s1:=sr F (.fz ((ez d t T).map ba)) nd (by omega) ne;push_cast [fN,la',fl,z',li,z1,cf,ix0,k5,k6,q6,s1]
   |true =>
    rw [htl] at nd ne ix0;simp only [if_true] at nd ne ix0 ⊢;have s1:=sr (F++[x.said]) (.fz ((ez d t T).map ba)) nd (by simp;omega) ne;rw [zaQ,zag,za6] at s1;push_cast [fN,la',fl,z',li,z1,cf,ix0,k5,q5,ix2,zF,s1]
end
theorem FM {μ:ab}{a:Nat}{c:aG}(h:μ[a]?=some c):(qo μ)[a]?=some (FN c):=by unfold qo;rw [zaG,h];rfl
def LZ (c:aG)(xs:List D):Prop:=c=.lst xs\/c=.fz xs
theorem tZ {neg:Bool}{μ:ab}{a b:Nat}{c c':aG}{xs ys:List D}(ha:μ[a]?=some c)(hb:μ[b]?=some c')(za:LZ c xs)(zb:LZ c' xs)(hu:unkDs xs=ys)(ok:cW 60 (.fl ys)=true)(eq:dG (.fl ys) (.fl ys)=true):iH neg (.p a) (.p b) μ=some (.v (.bl (!neg)),μ):=by
 have v:∀{n:Nat} {c:aG},μ[n]?=some c->LZ c xs->kX (.p n) (qo μ)=some (.fl ys):=fun {n c} h z=>by
  rw [HL,FM h,←hu];rcases z with rfl|rfl <;> rfl
 unfold iH;rw [show lO (.p a)=.p a from rfl,show lO (.p b)=.p b from rfl];unfold fL;rw [v ha za,v hb zb,zax,zax,ok,eq];cases neg <;> rfl
theorem BM:∀es:List En,eqDs (es.map eM) (es.map eM)=true
 |[]=>rfl
 |e::es=>by
  have h1:dG (dZ e.2) (dZ e.2)=true:=by
   have:=Fs e.2.1 e.2.1 e.2.2 e.2.2;rw [this];simp
  have h2:dG (ba e.1) (ba e.1)=true:=by simp only [ba,dG,fM,decide_true]
  have h3:dG (eM e) (eM e)=true:=by
   show eqDs [ba e.1,dZ e.2] [ba e.1,dZ e.2]=true
   simp only [eqDs,h1,h2,zdh]
  rw [zag]
  show (dG (eM e) (eM e) && eqDs (es.map eM) (es.map eM))=true
  rw [h3,BM es];rfl
theorem K6 (es:List En):dG (.fl (es.map eM)) (.fl (es.map eM))=true:=by simp only [dG,BM]
theorem vK {neg:Bool}{μ:ab}{a b:Nat}{c c':aG}{es:List En}(ha:μ[a]?=some c)(hb:μ[b]?=some c')(za:LZ c (es.map bC))(zb:LZ c' (es.map bC)):iH neg (.p a) (.p b) μ=some (.v (.bl (!neg)),μ) :=
 tZ ha hb za zb (gl es) (AL es) (K6 es)
theorem Ic {neg:Bool}{μ:ab}{a b:Nat}{rows:Ta}(ha:μ[a]?=some (.lst (rows.map ba)))(hb:μ[b]?=some (.lst (rows.map ba))):iH neg (.p a) (.p b) μ=some (.v (.bl (!neg)),μ) :=
 tZ ha hb (.inl rfl) (.inl rfl) (rR rows) (wE rows) (xh rows)
theorem uv {μ ν:ab}{i:Nat}{c:aG}(h:μ[i]?=some c):(μ++ν)[i]?=some c:=by rw [zaq (j3 h)];exact h
section
variable  {bt:Bool}{ES TS:Th}{w:Nat}{T A:List En}{x:Tl}{keys:Nat}{a:Int}
theorem D9 (ho:x.Ok)(hb:∀e∈T,BP ES TS e.2)(ha:∀e∈T,∀q∈e.2.2,q.1 < a)(hu:rM (T.map (·.1)))(hA:∀e,e∈A ↔ e∈(bN x T).map (gh x keys a)/\e.2≠nr)(hAu:rM (A.map (·.1)))(d t:Int):ez d t A=mS x keys a d t T:=by
 have hd:rM (mS x keys a d t T):=by
  unfold mS;split
  ·exact rh hu d t
  ·exact eJ (BT hu x keys d t)
 refine jK (rh hAu d t) hd ((List.perm_ext_iff_of_nodup (jj (rh hAu d t)) (jj hd)).mpr fun r=>?_);rw [Cv ho hb ha hA];unfold mS;split
 ·exact Iff.rfl
 ·rw [(bj _).mem_iff,zaL,zbd]
  refine or_congr (and_congr Iff.rfl (by simp)) ?_;split <;> simp [*]
theorem Hk {d t:Int}{es:List En}(hp:∀e∈es,Pf e.2.1 e.2.2)(hn:es.length < 64):uk cG [.fl (es.map bC),.int d,.int t]=some (.lst ((ez d t es).map ba)):=by
 have:=A5 hp hn d t;unfold uk;simp only [unkDs,cQ,gl];exact this
theorem Ie (hw1:1<=w)(hp:∀e∈T,Pf e.2.1 e.2.2)(hr:∀e∈T,e.1.length=w)(hs:x.tl=true->x.said.length=w)(hu:rM (T.map (·.1)))(hn:T.length<=20)(d t:Int) :
  uk (dz bt) [.fl (T.map bC),.int (keys:Int),j2 x,.int a,.int d,.int t]=some (.lst ((mS x keys a d t T).map ba)):=by
 have:=Ig bt (x:=x) (keys:=keys) (a:=a) (d:=d) (t:=t) hw1 hp hr hs hu hn;unfold uk;rw [show unkDs [.fl (T.map bC),.int (keys:Int),j2 x,.int a,.int d,.int t]=[.fl (unkDs (T.map bC)),.int (keys:Int),cQ (j2 x),.int a,.int d,.int t] from rfl,gl,FF];exact this
theorem A2 (hat:∀d t,uk cG [.fl (A.map bC),.int d,.int t]=some (.lst ((mS x keys a d t T).map ba)))(hdu:∀d t,uk (dz bt) [.fl (T.map bC),.int (keys:Int),j2 x,.int a,.int d,.int t]=some (.lst ((mS x keys a d t T).map ba)))
  {x0 x1 x2 x8 x11 x12 x13:Option R} {s one:Int} {μ:ab} (h1:μ[1]?=some (.fz (T.map bC))) (h4:μ[4]?=some (.lst (A.map bC))) :
  ∃μ' y11 y12,nc bt [x0,x1,x2,aI ((keys:Int)),aI s,cz 1,some (.v (j2 x)),aI a,x8,cz 4,aI one,x11,x12,x13] μ =
   some (.nx [x0,x1,x2,aI ((keys:Int)),aI s,cz 1,some (.v (j2 x)),aI a,x8,cz 4,aI one,y11,y12,x13] μ') /\
   μ'[1]?=some (.fz (T.map bC))/\μ'[3]?=μ[3]?/\μ'[4]?=μ[4]?:=by
 obtain ⟨d,t,hs⟩:=CF one 2 s (by decide) (Ts:=T)
 have hs':uk et [.int one,.int 2,.fl (T.map bC),.int s]=some (.tup [.int d,.int t]):=by
  unfold uk;simp only [unkDs,cQ,gl];exact hs
 obtain ⟨n,hn,hn0,hn1⟩:=hJ one 9 (by decide);have hn':aq [.int one,.int 9]=some (.int n):=hn;have dv:∀(j:Int),0 < j->j < 2 ^ 30->∀(μ:ab),br (.v (.int n)) (.v (.int j)) μ=some (.v (.int (n / j)),μ):=fun j j0 j1 μ=>dq (by omega) (by omega);have md:∀(i j:Int),0 < j->∀μ:ab,aT (.v (.int i)) (.v (.int j)) μ=some (.v (.int (i % j)),μ):=fun i j j0 μ=>bK (by omega);have ix3:∀μ:ab,bq (.v (j2 x)) (.v (.int 3)) μ=some (.v (oD x.lo),μ):=fun μ=>rfl;have l4:=j3 h4
 obtain ⟨t',s2⟩:∃t':Int,(dj (fB (al (iH false) (al aT (aH aq 2 (af (bH (ad 10)) (af (fK (.int 9)) am))) (fK (.int 3))) (fK (.int 0)))) (aF 12 (al gR (ad 7) (al aT (al br (aH aq 2 (af (bH (ad 10)) (af (fK (.int 9)) am))) (fK (.int 3))) (fK (.int 2))))) aD)
   [x0,x1,x2,aI ((keys:Int)),aI s,cz 1,some (.v (j2 x)),aI a,x8,cz 4,aI one,aI d,aI t,x13] μ=some (.nx [x0,x1,x2,aI ((keys:Int)),aI s,cz 1,some (.v (j2 x)),aI a,x8,cz 4,aI one,aI d,aI t',x13] μ):=by
  cases b:(n % 3 == 0) with
  |false=>exact ⟨t,by push_cast [hn',md _ 3 (by decide),iG,b]⟩
  |true=>exact ⟨a - n / 3 % 2,by push_cast [hn',md _ 3 (by decide),iG,b,dv 3 (by decide) (by decide),md _ 2 (by decide)]⟩
 obtain ⟨d',s3⟩:∃d':Int,(dj (eT (fB (iE (ng true .non) (al bq (ad 6) (fK (.int 3))))) (fB (al (iH false) (al aT (al br (aH aq 2 (af (bH (ad 10)) (af (fK (.int 9)) am))) (fK (.int 6))) (fK (.int 4))) (fK (.int 0))))) (aF 11 (al gR (al bq (ad 6) (fK (.int 3))) (al aT (al br (aH aq 2 (af (bH (ad 10)) (af (fK (.int 9)) am))) (fK (.int 24))) (fK (.int 2))))) aD)
   [x0,x1,x2,aI ((keys:Int)),aI s,cz 1,some (.v (j2 x)),aI a,x8,cz 4,aI one,aI d,aI t',x13] μ=some (.nx [x0,x1,x2,aI ((keys:Int)),aI s,cz 1,some (.v (j2 x)),aI a,x8,cz 4,aI one,aI d',aI t',x13] μ):=by
  cases hl:x.lo with
  |none =>
   rw [hl] at ix3;exact ⟨d,by push_cast [ix3,oD,ng]⟩
  |some l =>
   rw [hl] at ix3
   cases b:(n / 6 % 4 == 0) with
   |false=>exact ⟨d,by push_cast [ix3,oD,ng,hn',dv 6 (by decide) (by decide),md _ 4 (by decide),iG,b]⟩
   |true=>exact ⟨l - n / 24 % 2,by push_cast [ix3,oD,ng,hn',dv 6 (by decide) (by decide),md _ 4 (by decide),iG,b,dv 24 (by decide) (by decide),md _ 2 (by decide)]⟩
 have a1:=hat d' t';have a2:=hdu d' t';generalize mS x keys a d' t' T=rows at a1 a2;have fl:=oE rows;have k1:(μ++[aG.lst (rows.map ba)])[1]?=some (.fz (T.map bC)):=uv h1;have ek:=Ic (neg:=true) (μ:=μ++[aG.lst (rows.map ba)]++[aG.lst (rows.map ba)]) (a:=μ.length) (b:=(μ++[aG.lst (rows.map ba)]).length) (rows:=rows) (uv qM) qM;refine ⟨μ++[aG.lst (rows.map ba)]++[aG.lst (rows.map ba)],aI d',aI t',?_,uv (uv h1),?_,?_⟩
 ·generalize hL2:(dj (fB (al (iH false) (al aT (aH aq 2 (af (bH (ad 10)) (af (fK (.int 9)) am))) (fK (.int 3))) (fK (.int 0)))) (aF 12 (al gR (ad 7) (al aT (al br (aH aq 2 (af (bH (ad 10)) (af (fK (.int 9)) am))) (fK (.int 3))) (fK (.int 2))))) aD)=L2 at s2
  generalize hL3:(dj (eT (fB (iE (ng true .non) (al bq (ad 6) (fK (.int 3))))) (fB (al (iH false) (al aT (al br (aH aq 2 (af (bH (ad 10)) (af (fK (.int 9)) am))) (fK (.int 6))) (fK (.int 4))) (fK (.int 0))))) (aF 11 (al gR (al bq (ad 6) (fK (.int 3))) (al aT (al br (aH aq 2 (af (bH (ad 10)) (af (fK (.int 9)) am))) (fK (.int 24))) (fK (.int 2))))) aD)=L3 at s3;rw [nc,hL2,hL3];push_cast [h1,hs',s2,s3,h4,a1,fl,k1,a2,ek]
 ·by_cases z:3 < μ.length
  ·rw [zaq (by rw [zaW];omega),zaq (by omega)]
  ·omega
 ·rw [zaq (by rw [zaW];omega),zaq (by omega)]
end
theorem BP.mono {ES TS ES' TS':Th}{p:Pl}(h:BP ES TS p)(h1:∀z∈ES,z∈ES')(h2:∀z∈TS,z∈TS'):BP ES' TS' p:=⟨h.pf,fun z hz=>h1 z (h.ge z hz),fun q hq z hz=>h1 z (h.re q hq z hz),fun q hq=>h2 _ (h.te q hq)⟩
theorem A3 (bt:Bool)(ns:Th)(hl:ns.length<=63):tj bt [.fl (ns.map .int)]=some (.bl true):=by
 rw [IN];obtain ⟨c,hc⟩:=xn ns 0;obtain ⟨c1,hc1⟩:=xn ns 1;have hc':cJ [.fl (ns.map .int),.int 0]=some (.int c):=hc;have hc1':cJ [.fl (ns.map .int),.int 1]=some (.int c1):=hc1;have bw:=b6 c (j:=3) (by decide);obtain ⟨w,hw⟩:∃w:Nat,1+c % 3=(w:Int):=⟨(1+c % 3).toNat,by omega⟩
 have hw1:1<=w:=by omega
 have hw3:w<=3:=by omega
 have bk:=b6 (c / 3) (j:=(w:Int)+1) (by omega);obtain ⟨keys,hk⟩:∃k:Nat,c / 3 % ((w:Int)+1)=(k:Int):=⟨(c / 3 % ((w:Int)+1)).toNat,by omega⟩;obtain ⟨s,hs1,hs⟩:=zL (c / 12);obtain ⟨P,hP,hP0⟩:∃P:Int,(∀μ:ab,ll (.v (.int 10)) (.v (.int 30)) μ=some (.v (.int P),μ))/\0 < P:=⟨10 ^ (30:Int).toNat,fun μ=>qX (by decide),zdv (by decide)⟩;obtain ⟨P4,hP4,hP40⟩:∃P:Int,(∀μ:ab,ll (.v (.int 10)) (.v (.int 40)) μ=some (.v (.int P),μ))/\0 < P:=⟨10 ^ (40:Int).toNat,fun μ=>qX (by decide),zdv (by decide)⟩
 obtain ⟨ms,hms,hml⟩:∃ms:Th,jX (ns.map D.int) (some 2) (some 22)=ms.map D.int/\ms.length<=20:=by
  unfold jX;rw [←List.map_drop,←zdi];refine ⟨_,rfl,?_⟩;have h1:∀d n:Nat,HT.cx n d (some 2)=min 2 n:=fun d n=>rfl;have h2:∀d n:Nat,HT.cx n d (some 22)=min 22 n:=fun d n=>rfl;simp only [h1,h2,zaf,zbv,zb6];omega
 obtain ⟨ls,hls,hll⟩:∃ls:Th,jX (ns.map D.int) none (some 63)=ls.map D.int/\ls.length<=63:=by
  unfold jX;rw [←List.map_drop,←zdi];refine ⟨_,rfl,?_⟩;have h2:∀d n:Nat,HT.cx n d (some 63)=min 63 n:=fun d n=>rfl;simp only [h2,zaf,zbv,zb6];omega
 obtain ⟨T,ht,tab⟩:=yh bt ms w hw3 s hs hP hP0 hml;obtain ⟨x,hx,ho,hsl⟩:=AV c1 s hs w keys hw1 hw3 tab.row;obtain ⟨L,hL,hLq⟩:=AX T
 have hL':uk eu [.fl (T.map bC)]=some (.int L):=by
  unfold uk;simp only [unkDs,cQ,gl];exact hL
 have b3:=b6 (c / 36) (j:=3) (by decide)
 obtain ⟨g,hg1,hg⟩:∃g:Int,L2.kO [D.int 1,D.int 7,D.int P4] (c / 36 % 3)=some (.int g)/\0 < g:=by
  have:c / 36 % 3=0\/c / 36 % 3=1\/c / 36 % 3=2:=by omega
  rcases this with h|h|h <;> rw [h]
  ·exact ⟨1,rfl,by decide⟩
  ·exact ⟨7,rfl,by decide⟩
  ·exact ⟨P4,rfl,hP40⟩
 have ha:∀e∈T,∀q∈e.2.2,q.1 < L+g:=fun e he q hq=>by have:=hLq e he q hq;omega
 obtain ⟨ES,hES⟩:∃ES,ES=yW s++(st x.lo x.hi).2:=⟨_,rfl⟩;obtain ⟨TS,hTS⟩:∃TS,TS=Cn P++[L+g]:=⟨_,rfl⟩
 have hE:ES.length<=18:=by
  have:(st x.lo x.hi).2.length<=2:=by cases x.lo <;> cases x.hi <;> simp [st]
  rw [hES,zaW,Ew];omega
 have hT:TS.length<=23:=by rw [hTS,zaW,Ek];simp
 have hb:∀e∈T,BP ES TS e.2:=fun e he=>(tab.ok e he).1.mono (fun z hz=>by rw [hES];exact zbo _ hz) fun z hz=>by rw [hTS];exact zbo _ hz
 have hpf:∀e∈T,Pf e.2.1 e.2.2:=fun e he=>(hb e he).pf;have tn:=tab.n;obtain ⟨A,hA,hAu,hAm⟩:=Cw bt ho (keys:=keys) (a:=L+g) hb hE hT tab.row hsl (jj tab.up) tab.n;have hAb:=Cy ho hb ha hAm (fun z hz=>by rw [hES];exact zaC _ hz) (by rw [hTS];simp)
 have hAr:∀e∈A,e.1.length=w/\e.1∈(bN x T).map (·.1):=fun e he=>by
  obtain ⟨y,hy,rfl⟩:=zas.mp ((hAm e).mp he).1;rw [jh];refine ⟨?_,zbj hy⟩;rcases dY.mp hy with h|⟨h1,_,rfl⟩
  ·exact tab.row y h
  ·exact hsl h1
 have hAn:A.length<=21:=by
  have h1:=io (A.map (·.1)) ((bN x T).map (·.1)) (jj hAu) fun z hz=>by
   obtain ⟨e,he,rfl⟩:=zas.mp hz;exact (hAr e he).2
  rw [zaf,zaf] at h1
  have:(bN x T).length<=T.length+1:=by
   unfold bN;split
   ·simp
   ·omega
  omega
 have ist:=Be bt hE hT (w:=w) hw3 (by omega) hAb (fun e he=>(hAr e he).1) hAu
 have ist':uk (bX bt) [.fl (A.map bC),.int (w:Int)]=some (.bl true):=by
  unfold uk;simp only [unkDs,cQ,gl];exact ist
 have hat:∀d t,uk cG [.fl (A.map bC),.int d,.int t]=some (.lst ((mS x keys (L+g) d t T).map ba)):=fun d t=>by
  rw [←D9 ho hb ha tab.up hAm hAu];exact Hk (fun e he=>(hAb e he).1.pf) (by omega)
 have hdu:∀d t,uk (dz bt) [.fl (T.map bC),.int (keys:Int),j2 x,.int (L+g),.int d,.int t]=some (.lst ((mS x keys (L+g) d t T).map ba)):=fun d t=>Ie hw1 hpf tab.row hsl tab.up tn d t;have md:∀(i j:Int),0 < j->∀μ:ab,aT (.v (.int i)) (.v (.int j)) μ=some (.v (.int (i % j)),μ):=fun i j j0 μ=>bK (by omega);have dv:∀(j:Int),0 < j->j < 2 ^ 30->∀(μ:ab),br (.v (.int c)) (.v (.int j)) μ=some (.v (.int (c / j)),μ):=fun j j0 j1 μ=>dq (by omega) (by omega);have mk:=fun μ:ab=>md (c / 3) ((w:Int)+1) (by omega) μ;rw [hk] at mk
 obtain ⟨⟨μ,x10,x11,x12⟩,e,h1,h3,h4⟩:=c7 (g:=bI 10) (b:=nc bt) D.int
  (fun s':ab×Option R×Option R×Option R=>([some (.v (.fl (ns.map .int))),aI c,aI ((w:Int)),aI ((keys:Int)),aI s,cz 1,some (.v (j2 x)),aI ((L+g)),cz 3,cz 4,s'.2.1,s'.2.2.1,s'.2.2.2,none],s'.1))
  (fun s' _=>s'.1[1]?=some (.fz (T.map bC))/\s'.1[3]?=some (.lst (T.map bC))/\s'.1[4]?=some (.lst (A.map bC))) (0::ls) ([aG.lst (ms.map .int),.fz (T.map bC),.lst [.int 1,.int 7,.int P4],.lst (T.map bC),.lst (A.map bC),.lst [.int 0],.lst (ls.map .int),.fz (.int 0::ls.map .int)],none,none,none) ⟨rfl,rfl,rfl⟩ (by
   rintro ⟨μ,x10,x11,x12⟩ one rem ⟨h1,h3,h4⟩;obtain ⟨μ',y11,y12,q,a1,a3,a4⟩:=A2 (bt:=bt) hat hdu (x0:=some (.v (.fl (ns.map .int)))) (x1:=some (.v (.int c))) (x2:=some (.v (.int (w:Int)))) (x8:=some (.p 3)) (x11:=x11) (x12:=x12) (x13:=none) (s:=s) (one:=one) h1 h4;refine ⟨(μ',aI one,y11,y12),?_,a1,a3.trans h3,a4.trans h4⟩;rw [qY,yC]
   exact q)
 have h1:μ[1]?=some (.fz (T.map bC)):=h1;have h3:μ[3]?=some (.lst (T.map bC)):=h3;have h4:μ[4]?=some (.lst (A.map bC)):=h4;have flT:=lC T;have flA:=lC A;have z1:1+ls.length<=sizeLine:=df (by omega);have ek:iH true (.p 3) (.p 1) [aG.lst (ms.map .int),.fz (T.map bC),.lst [.int 1,.int 7,.int P4],.lst (T.map bC),.lst (A.map bC)]=some (.v (.bl false),[aG.lst (ms.map .int),.fz (T.map bC),.lst [.int 1,.int 7,.int P4],.lst (T.map bC),.lst (A.map bC)]):=vK (neg:=true) rfl rfl (.inl rfl) (.inr rfl);simp only [zag] at e;have zA:A.length < sizeLine:=ii (by omega);have l4:=j3 h4
 have k1:((μ++[aG.lst (A.map bC)]).set 4 (.lst (A.map bC++[.tup []])))[1]?=some (.fz (T.map bC)):=by rw [zaO (by omega)];exact uv h1
 have k3:((μ++[aG.lst (A.map bC)]).set 4 (.lst (A.map bC++[.tup []])))[3]?=some (.lst (T.map bC)):=by rw [zaO (by omega)];exact uv h3
 have k4:(μ++[aG.lst (A.map bC)])[4]?=some (.lst (A.map bC)):=uv h4
 have kn:((μ++[aG.lst (A.map bC)]).set 4 (.lst (A.map bC++[.tup []])))[μ.length]?=some (.lst (A.map bC)):=by rw [zaO (by omega)];exact qM
 generalize hμ2:(μ++[aG.lst (A.map bC)]).set 4 (.lst (A.map bC++[.tup []]))=μ2 at k1 k3 kn;have q1:=vK (neg:=false) (μ:=μ2) k3 k1 (.inl rfl) (.inr rfl);have q2:=vK (neg:=false) (μ:=μ2++[aG.lst (A.map bC)]) (a:=μ2.length) (b:=μ.length) (es:=A) qM (uv kn) (.inl rfl) (.inl rfl);push_cast [Cb,hc',hw,md c 3 (by decide),dv 3 (by decide) (by decide),mk,dv 12 (by decide) (by decide),hs1,hms,ht,flT,hc1',hx,hL',hP4,OX,dv 36 (by decide) (by decide),md (c / 36) 3 (by decide),hg1,hA,flA,ek,ist',c9,F0,hls,zaf,z1,e,h4,k4,zA,hμ2,q1,k1,q2]
end LW
namespace PySem.W.Fast
def tw997234426517255155:=0
def tw12739850579451857138:=0
def tw13075819312817820174:=0
def tw5468366037915648671:=0
def tw14538221518588237831:=0
def tw2959987127148465897:=0
def tw16209085560995042095:=0
def tw8693801712073042836:=0
def tw4564374858779376417:=0
def tw13083756842526445580:=0
def tw18288414849915889758:=0
def tw16845221317800574662:=0
def tw9515413856041257689:=0
def tw8957855548950752161:=0
def tw629709346298158974:=0
def tw990569641474531043:=0
def tw16813488767161693987:=0
def tw8531584169633515760:=0
def tw11847181729965443414:=0
def tw9873978050896180506:=0
def tw12774513786512964573:=0
def tw17717195970001007812:=0
def tw8477478375098345571:=0
def tw1240080841841969986:=0
def tw10702578546161592979:=0
def tw7541750192818425181:=0
def tw5730004600511413212:=0
def tw13000709732664561527:=0
def tw2598990661984722569:=0
def tw12909873037269569219:=0
def tw3484168171538046137:=0
def tw17293685406655862655:=0
def tw10471330534385032906:=0
def tw6252596162573351911:=0
def tw15500153517508734335:=0
def tw7791060711360425124:=0
def tw17550245389997653399:=0
def tw12242509998907448016:=0
def tw3572916863177189679:=0
def tw2989729087082492347:=0
def tw3851852271613968891:=0
def tw2068862269524887547:=0
def tw8299756161751312956:=0
def tw3732324100253958590:=0
def tw10673891129330655083:=0
def tw4629288001791294298:=0
def tw3041828043863626352:=0
def tw1277960835742466918:=0
def tw9090448405729566035:=0
def tw7885375070929341285:=0
def tw4836134945592713245:=0
def tw11218010757041049324:=0
def tw8051580302610502519:=0
def tw10493416234800882255:=0
def tw12037784695695898876:=0
def tw9139585204951049550:=0
def tw7656729773104417572:=0
def tw5627841171167653682:=0
def tw10701702537308643272:=0
def tw12023075341404116158:=0
def tw9006455691446325309:=0
def tw9515668152104307081:=0
def tw7724370608963332734:=0
def tw8469906073247285636:=0
def tw3013619926808977542:=0
def tw15173010614554638447:=0
def tw18111130617767733543:=0
def tw6922758234520636853:=0
def tw8385975418452840047:=0
def tw7282888745665797548:=0
def tw8714258503773657528:=0
def tw3291582936057032879:=0
def tw5137391530168038507:=0
def tw5773022738604556996:=0
def tw13621252050785815880:=0
def tw12869353856712879924:=0
def tw14706327834301281015:=0
def tw15508692591524144669:=0
def tw9273292054982529311:=0
def tw13982201264813568586:=0
def tw15699074470385377837:=0
def tw5561282950893276329:=0
def tw10534116913579932842:=0
def tw908141727509694272:=0
def tw15274661489363207494:=0
def tw5909960827795524521:=0
def tw18407990839974353674:=0
def tw10780124403531950266:=0
def tw12864107779473321625:=0
def tw17255697534489372661:=0
def tw13338857226400140272:=0
def tw18197179745559301309:=0
def tw6059677292124357641:=0
def tw11457148248074116212:=0
def tw10618863674071686779:=0
def tw13372154702649565015:=0
def tw5292792439802361781:=0
def tw14605543597549294918:=0
def tw11690594293706617700:=0
def tw7099083259260643902:=0
def tw8540551192914201455:=0
def tw10516417272985268350:=0
def tw11107082125682957515:=0
def tw6020801639866092423:=0
def tw1496665039469738293:=0
def tw6054260833464214282:=0
def tw637336080989198113:=0
def tw1584000518637845059:=0
end PySem.W.Fast
open PySem PySem.W PyProof.Rows
set_option maxRecDepth 100000 in
set_option maxHeartbeats 0 in
theorem PySem.Challenge.cw_heldwhen_k27_told_on_holds : PySem.Challenge.rw_heldwhen_k27_told_on.Holds := by
 w_on; o_law; k_head; (case hw => w_witness2)
 k_fill
 refine L2.yY (l := PySem.Challenge.rw_heldwhen_k27_told_on) (n := 63) (k := 6) (x := "script") (CX := L2.mK) (sp := fun K => (fun vs H Q E => ∀ b, HW.yV K 1 (LW.tj b) vs H Q E)) rfl (by decide) rfl ⟨rfl, by decide, by decide⟩ (fun w h Y => PySem.W.kIn_of Y) ?F (fun K H a ns hl hO hS => fun b => HW.Hj hO hS (LW.A3 b ns hl)) fun _ _ _ _ z => z
 case F =>
  intro w mg fa h KX G hmg
  refine' LW.Il KX G hmg ?a0 ?a1 ?a2 ?a3 ?a4 ?a5 ?a6 ?a7 ?a8 ?a9 ?a10 ?a11 ?a12 ?a13 ?a14 ?a15 ?a16 ?a17 ?a18 ?a19 ?a20 ?a21 ?a22 ?a23 ?a24 ?a25 ?a26 ?a27 ?a28 ?gNO_NUMBERS ?LNO_NUMBERS ?LNO_NUMBERS_1 ?gALL_NUMBERS ?LALL_NUMBERS ?LALL_NUMBERS_1 ?gNO_SPOTS ?LNO_SPOTS ?LNO_SPOTS_1 ?LNO_SPOTS_0 ?LNO_SPOTS_0_1 ?z0 ?z1 ?z2 ?z3 ?z4 ?z5 ?z6 ?z7 ?z8 ?z9 ?z10 ?z11
  (case a0 | a1 | a2 | a3 | a4 | a5 | a6 | a7 | a8 | a9 | a10 | a11 | a12 | a13 | a14 | a15 | a16 | a17 | a18 | a19 | a20 | a21 | a22 | a23 | a24 | a25 | a26 | a27 | a28 => exact ⟨_, by k_is, _, _, _, _, _, _, _, _, _, by k_is, by k_is, by k_is⟩)
  (case gNO_NUMBERS | LNO_NUMBERS | LNO_NUMBERS_1 | gALL_NUMBERS | LALL_NUMBERS | LALL_NUMBERS_1 | gNO_SPOTS | LNO_SPOTS | LNO_SPOTS_1 | LNO_SPOTS_0 | LNO_SPOTS_0_1 | z0 | z1 | z2 | z3 | z4 | z5 | z6 | z7 | z8 | z9 | z10 | z11 => k_is)
