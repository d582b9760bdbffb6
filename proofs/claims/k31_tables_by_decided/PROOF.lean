import PyProof.Rows.All
import Wide.All
import OpenK.AllK
import Wide.FinOn
import Lean
import PyProof.EqAt
import PyProof.EqKinds
import PyProof.TupleCall
import PyProof.IsiH_tuple
import PyProof.NsDelKeeps
import PyProof.FString4
import PyProof.ExcBaseAll.ValueError
import PyProof.ForAny
import KE.KIsAll
import KE.KSortTup
import KE.KLam
import KE.KNestM
import PyProof.StrWalks
import PyProof.SliceStr2
import PyProof.StrBlockI
import KE.KIntText
import PyProof.StrCalls2
import PyProof.StrLawsTight
import PyProof.Rows.FStrParts
import PyProof.Rows.StrInSeq3
import PyProof.TupleKey
import PyProof.IsRules
import PyProof.SumWalkG
import PyProof.EnumFor
import PyProof.EnumStmt
import PyProof.EnumMake
import PyProof.StrBlock2
import PyProof.ZipIter
import PyProof.ListNew
import PyProof.DictIter
import PyProof.DictFindH
import PyProof.ListRange
import PyProof.TupleOfGen
import PyProof.LongRange
import PySem.Challenge.RW_heldwhen_k31_tables_by_decided
local macro_rules | `(tactic| exists $t) => `(tactic| with_unfolding_all exact $t)
local macro_rules | `(tactic| decide) => `(tactic| decide +kernel)
local macro_rules | `(tactic| ac_rfl) => `(tactic| (constructor <;> first | rfl | decide +kernel))
set_option Elab.async false
set_option linter.all false
set_option maxRecDepth 100000
noncomputable section
open PySem PySem.Spec SetTable Builtin.List
namespace Y0
open PyProof.Rows
def zaa:=@wpAny_bind
def zab:=@Option.bind_eq_some_iff
abbrev zac:=PySem.W.Frag
def zad:=@wpAny_pure
def zae:=@Heap.get?_push_of_some
def zaf:=@List.map_cons
def zag:=@List.length_map
def zah:=@Heap.lt_size
def zai:=@List.getElem?_append_left
def zaj:=@List.mem_cons_of_mem
def zak:=@List.mem_cons
def zal:=@Heap.get?_push_size
def zam:=@Nat.le_refl
def zan:=@List.mem_cons_self
def zao:=@List.getElem?_eq_getElem
def zap:=@Nat.ne_of_lt
def zaq:=@List.size_toArray
def zar:=@Option.bind_some
def zas:=@Bool.false_eq_true
def zat:=@List.getElem?_eq_some_iff
def zau:=@List.mem_singleton
def zav:=@Array.getElem?_eq_getElem
def zaw:=@Heap.get?_update_other
def zax:=@Nat.lt_of_lt_of_le
def zay:=@decide_eq_false
def zaz:=@List.getElem?_set_ne
def zaA:=@wpAny_setState_of
def zaB:=@List.length_cons
def zaC:=@List.mem_append_right
def zaD:=@List.length_append
def zaE:=@List.getElem?_map
def zaF:=@wpAny_newObj_type
def zaG:=@wpAny_call_entry
def zaH:=@List.mem_of_getElem?
def zaI:=@wpAny_holding
def zaJ:=@List.mem_map
def zaK:=@decide_eq_true
def zaL:=@List.nodup_cons
def zaM:=@List.pairwise_cons
def zaN:=@List.getElem?_append_right
def zaO:=@Option.map_eq_some_iff
def zaP:=@Nat.lt_irrefl
def zaQ:=@List.not_mem_nil
def zaR:=@List.map_append
def zaS:=@Heap.get?_update_self
def zaT:=@List.getElem?_set_self
def zaU:=@List.mem_append
def zaV:=@Nat.ne_of_gt
def zaW:=@codeAny_builtin
def zaX:=@Around.under_plainId
def zaY:=@Heap.size_push
def zaZ:=@List.getD_eq_getElem?_getD
def za0:=@wpAny_callSpecial?_slot
def za1:=@List.mem_map_of_mem
def za2:=@List.append_nil
def za3:=@List.nil_append
def za4:=@Bool.and_eq_true
def za5:=@Bool.false_ne_true
def za6:=@List.map_nil
def za7:=@Array.getD_eq_getD_getElem?
def za8:=@Array.length_toList
def za9:=@sizeLine_eq
def zba:=@List.lookup_cons
def zbb:=@List.append_assoc
def zbc:=@List.nodup_append
def zbd:=@Nat.zero_le
def zbe:=@List.drop_eq_getElem_cons
def zbf:=@List.getElem_of_mem
def zbg:=@Nat.le_trans
def zbh:=@codeAny_mono
def zbi:=@wpAny_fieldsOf
def zbj:=@List.map_map
def zbk:=@List.length_nil
def zbl:=@List.foldl_cons
def zbm:=@wpAny_askSetting
def zbn:=@Bool.not_true
def zbo:=@Nat.lt_succ_of_lt
def zbp:=@Option.map_some
def zbq:=@Array.getElem?_toList
def zbr:=@List.length_take
def zbs:=@wpAny_typeOf
def zbt:=@wpAny_isInstance
def zbu:=@List.filterMap_cons_some
def zbv:=@PySem.W.mg_none_of
def zbw:=@plainId_quiet
def zbx:=@wpAny_mono
def zby:=@Int.toNat_natCast
def zbz:=@List.mem_filter
def zbA:=@List.any_cons
def zbB:=@List.getElem_mem
def zbC:=@wpAny_setField
def zbD:=@Nat.le_of_lt
def zbE:=@wpAny_typeNameOfWhole_itemiter
def zbF:=@wpAny_dictEntries
def zbG:=@wpAny_attempt
def zbH:=@wpAny_typeNameOfWhole_keyiter
def zbI:=@List.length_eq_zero_iff
def zbJ:=@List.filter_cons_of_pos
def zbK:=@List.getElem_inj
def zbL:=@Nat.lt_succ_self
def zbM:=@Option.getD_some
def zbN:=@List.filter_cons
def zbO:=@wpAny_rule
def zbP:=@Nat.le_succ
def zbQ:=@builtinLookup_eq_fast
def zbR:=@List.pairwise_map
def zbS:=@List.pairwise_iff_getElem
def zbT:=@codeAny_call_builtin
def zbU:=@wpAny_typeNameOf_itemiter
def zbV:=@List.mem_range
def zbW:=@Bool.not_false
def zbX:=@List.any_eq_true
def zbY:=@List.filterMap_cons_none
def zbZ:=@List.cons_append
def zb0:=@List.getElem_map
def zb1:=@wpAny_typeNameOf_keyiter
def zb2:=@List.getElem?_replicate
def zb3:=@List.filter_cons_of_neg
def zb4:=@List.find?_cons
def zb5:=@codeAny_of_tree
def zb6:=@wpAny_dictEpoch
def zb7:=@wpAny_setField_rec
def zb8:=@PySem.W.cellsFrom_some
def zb9:=@Array.getElem?_eq_none
def zca:=@List.find?_cons_of_pos
def zcb:=@List.find?_cons_of_neg
def zcc:=@wpAny_isOneOf_itemiter
def zcd:=@List.filter_eq_nil_iff
def zce:=@wpAny_truthy_bool
def zcf:=@wpAny_pyIter_slot
def zcg:=@Nat.lt_trans
def zch:=@List.getElem?_eq_none
def zci:=@Nat.zero_add
def zcj:=@List.mem_append_left
def zck:=@Array.getElem_toList
def zcl:=@PySem.W.mg_of
def zcm:=@wpAny_field
def zcn:=@List.filterMap_cons
def zco:=@Int.toNat_of_nonneg
def zcp:=@wpAny_passesOwn
def zcq:=@typeLookup_type
def zcr:=@wpAny_Call_Name_kw
def zcs:=@Option.isSome_iff_exists
def zct:=@Option.isSome_some
def zcu:=@Around.under_plain
def zcv:=@List.set_cons_zero
def zcw:=@Bool.false_and
def zcx:=@List.nodup_nil
def zcy:=@List.pairwise_singleton
def zcz:=@wpAny_pyIter_list
def zcA:=@List.drop_of_length_le
def zcB:=@Bool.true_and
def zcC:=@Bool.and_true
def zcD:=@Nat.min_le_right
def zcE:=@List.length_drop
def zcF:=@wpAny_notOrdered_dict
def zcG:=@wpAny_isOneOf_keyiter
def zcH:=@wpAny_specialOf
def zcI:=@wpAny_call
def zcJ:=@List.mem_iff_getElem
def zcK:=@wpAny_updateSeq
def zcL:=@List.any_map
def zcM:=@List.eq_nil_of_length_eq_zero
def zcN:=@PySem.W.plainGet_of
def zcO:=@List.length_pos_iff
def zcP:=@List.filter_eq_self
def zcQ:=@List.map_congr_left
def zcR:=@wpAny_runValue
def zcS:=@wpAny_seqItems
def zcT:=@wpAny_of_eq
def zcU:=@List.mem_filterMap
def zcV:=@PySem.W.callWith_K
def zcW:=@Int.emod_lt_of_pos
def zcX:=@List.getElem_range
def zcY:=@Nat.add_sub_cancel
def zcZ:=@wpAny_newList
def zc0:=@Nat.lt_or_ge
def zc1:=@List.drop_length
def zc2:=@Heap.size_update
def zc3:=@beq_self_eq_true
def zc4:=@List.ext_getElem
def zc5:=@wpAny_execs_nil
def zc6:=@List.of_mem_zip
def zc7:=@Int.emod_nonneg
def zc8:=@Bool.decide_and
end Y0
open Y0
namespace Y1z
abbrev Ta:=List (List Int)
abbrev Tb:=Value->Shared->Prop
abbrev Tc:=List (Addr×Obj)
abbrev Td:=Str->Option Value
abbrev Te:=List Value
abbrev Tf:=List Addr
abbrev Tg:=Option Value
abbrev Th:=List Int
abbrev Ti:=Array Value
abbrev Tj:=List Expr
abbrev Tk:=List Stmt
abbrev Tn:=List Str
end Y1z
open Y1z
namespace L2
open PyProof.Rows
section
variable {prog:Program}{w:World}{A:Around}{E:Tb}{s:Shared}
theorem lS {Q:Int->Shared->Prop}(h:Q 0xFCA86420 {s with toks:=s.toks+1}):wpAny (model prog w) A (pyHash .none) Q E s:=by
 have hT:s.TypeIs .none "NoneType":=rfl
 show wpAny _ _ (pyHashByItsType .none) _ _ s
 unfold pyHashByItsType;refine zaa (wpAny_cRoomFor_byValue rfl ?_);refine zaa (zcH hT F.slot_NoneType_hash.lookup ?_);rw [if_neg (by decide)];refine zaa (zcH hT F.slot_NoneType_hash.lookup ?_);rw [if_neg (by decide)]
 show wpAny _ _ (callSpecialIfBoundUnlessNone? .none "__hash__" _ >>= _) Q E s
 refine zaa (wpAny_callSpecialIfBoundUnlessNone?_slot hT F.slot_NoneType_hash
  (zaG F.slot_NoneType_hash hT F.entry_NoneType_hash
   (show wpAny _ _ (do ret (←mkInt 0xFCA86420)) _ _ s from wpAny_ret_mkInt ?_) (F.args_NoneType_hash_1 _)))
 show wpAny _ _ (if (decide (-(2:Int) ^ 63<=0xFCA86420) && decide ((0xFCA86420:Int) < 2 ^ 63))=true then _ else _) Q E _
 rw [if_pos (by decide)];exact zad h
def lT {Q:Bool->Shared->Prop}(h:Q true s):wpAny (model prog w) A (eqBool .none .none) Q E s:=by unfold eqBool;refine zaI ?_;rw [if_pos (by decide)];exact zaa (zbO (zad h))
end
abbrev aH:=Sum Int (Option Str)
def nN:aH->Value->Bool
 |.inl k,v=>Value.isInt k v
 |.inr (some x),v=>Value.isStrOf x v
 |.inr none,v=>v == .none
def Pw (w:World):aH->Int
 |.inl k=>hashInt k
 |.inr (some x)=>hashStr w x
 |.inr none=>0xFCA86420
theorem bE:∀{k:aH} {v:Value},nN k v=true->(∃i t,k=Sum.inl i/\v=Value.int i t)\/(∃x t,k=Sum.inr (some x)/\v=Value.str x t)\/(k=Sum.inr none/\v=Value.none)
 |.inl i,v,h=>by obtain ⟨t,e⟩:=Value.isInt_shape (k:=i) (v:=v) h;exact .inl ⟨i,t,rfl,e⟩
 |.inr (some x),v,h=>by obtain ⟨t,e⟩:=Value.isStrOf_shape (x:=x) (v:=v) h;exact .inr (.inl ⟨x,t,rfl,e⟩)
 |.inr none,v,h=>.inr (.inr ⟨rfl,eq_of_beq h⟩)
def zT (i:Int)(t:Tok):nN (.inl i) (.int i t)=true:=by simp [nN,Value.isInt]
def zR (x:Str)(t:Tok):nN (.inr (some x)) (.str x t)=true:=by simp [nN,Value.isStrOf]
def zS:nN (.inr none) .none=true:=by simp [nN]
def Kk (a b:Int):decide ((Sum.inl a:aH)=Sum.inl b)=(a == b):=by
 by_cases e:a=b
 ·subst e;simp
 ·have h:¬ (Sum.inl a:aH)=Sum.inl b:=fun q=>e (Sum.inl.inj q);rw [zay h];exact (beq_eq_false_iff_ne.mpr e).symm
def Kj (a b:Str):decide ((Sum.inr (some a):aH)=Sum.inr (some b))=decide (a=b):=by
 by_cases e:a=b
 ·subst e;simp
 ·have h:¬ (Sum.inr (some a):aH)=Sum.inr (some b):=fun q=>e (Option.some.inj (Sum.inr.inj q));rw [zay h,zay e]
def bG (prog:Program)(w:World):PySem.KeyKind prog w aH where
 is:=nN
 hash:=Pw w
 inj:=fun v a b ha hb=>by
  rcases bE ha with ⟨i,t,rfl,rfl⟩|⟨x,t,rfl,rfl⟩|⟨rfl,rfl⟩
  ·rcases bE hb with ⟨j,u,rfl,e⟩|⟨y,u,rfl,e⟩|⟨rfl,e⟩
   ·injection e with e1 _;rw [e1]
   ·exact nomatch e
   ·exact nomatch e
  ·rcases bE hb with ⟨j,u,rfl,e⟩|⟨y,u,rfl,e⟩|⟨rfl,e⟩
   ·exact nomatch e
   ·injection e with e1 _;rw [e1]
   ·exact nomatch e
  ·rcases bE hb with ⟨j,u,rfl,e⟩|⟨y,u,rfl,e⟩|⟨rfl,e⟩
   ·exact nomatch e
   ·exact nomatch e
   ·rfl
 byValue:=fun k v h=>by rcases bE h with ⟨i,t,rfl,rfl⟩|⟨x,t,rfl,rfl⟩|⟨rfl,rfl⟩ <;> rfl
 pyHash:=fun hv h=>by
  rcases bE hv with ⟨i,t,rfl,rfl⟩|⟨x,t,rfl,rfl⟩|⟨rfl,rfl⟩
  ·exact wpAny_pyHash_int h
  ·exact wpAny_pyHash_str h
  ·exact lS h
 eqBool:=fun hu hv h=>by
  rcases bE hu with ⟨i,t,rfl,rfl⟩|⟨x,t,rfl,rfl⟩|⟨rfl,rfl⟩
  ·rcases bE hv with ⟨j,u,rfl,rfl⟩|⟨y,u,rfl,rfl⟩|⟨rfl,rfl⟩
   ·rw [Kk] at h;exact wpAny_eqBool_int h
   ·exact SeqAt.EqAt.int_str i t y u _ _ _ _ (by simpa using h)
   ·exact SeqAt.EqAt.int_none i t _ _ _ _ (by simpa using h)
  ·rcases bE hv with ⟨j,u,rfl,rfl⟩|⟨y,u,rfl,rfl⟩|⟨rfl,rfl⟩
   ·exact SeqAt.EqAt.str_int x t j u _ _ _ _ (by simpa using h)
   ·rw [Kj] at h;exact wpAny_eqBool_str h
   ·exact SeqAt.EqAt.str_none x t _ _ _ _ (by simpa using h)
  ·rcases bE hv with ⟨j,u,rfl,rfl⟩|⟨y,u,rfl,rfl⟩|⟨rfl,rfl⟩
   ·exact SeqAt.EqAt.none_int j u _ _ _ _ (by simpa using h)
   ·exact SeqAt.EqAt.none_str y u _ _ _ _ (by simpa using h)
   ·exact lT (by simpa using h)
 «strs»:=fun k x t v h=>by
  rcases bE h with ⟨i,u,rfl,e⟩|⟨y,u,rfl,e⟩|⟨rfl,e⟩
  ·exact nomatch e
  ·injection e with e1 _
   subst e1;cases v <;> rfl
  ·exact nomatch e
def uE (prog:Program)(w:World)(i:Int)(t:Tok):(bG prog w).is (.inl i) (.int i t)=true:=zT i t
def uD (prog:Program)(w:World)(x:Str)(t:Tok):(bG prog w).is (.inr (some x)) (.str x t)=true:=zR x t
inductive V where
 |non|bl (b:Bool)|int (i:Int)|str (x:Str)|byt (b:Array UInt8)|flt (b:UInt64)|ref (a:Addr)|ty (n:String)
 deriving DecidableEq
def aY:V->Value->Prop
 |.non,u=>u=Value.none
 |.bl b,u=>u=Value.bool b
 |.int i,u=>∃t,u=Value.int i t
 |.str x,u=>∃t,u=Value.str x t
 |.byt b,u=>∃t,u=Value.bytes b t
 |.flt b,u=>∃t,u=Value.float b t
 |.ref a,u=>u=Value.ref a
 |.ty n,u=>u=Value.type n
abbrev aS:List V->List Value->Prop:=Paired aY
def aS.length {xs:List V}{us:Te}(r:aS xs us):xs.length=us.length:=Paired.length r
theorem aS.get:∀{xs:List V} {us:Te} {i:Nat} {x:V},aS xs us->xs[i]?=some x->∃u,us[i]?=some u/\aY x u
 |_,_,_,_,.nil,e=>by simp at e
 |_,_,0,_,.cons r _,e=>by simp at e;subst e;exact ⟨_,rfl,r⟩
 |_,_,i+1,x,.cons _ t,e=>by obtain ⟨u,h1,h2⟩:=aS.get (i:=i) (x:=x) t (by simpa using e);exact ⟨u,by simpa using h1,h2⟩
theorem aS.set {x:V}{u:Value}(r:aY x u):∀{xs:List V} {us:Te} (i:Nat),aS xs us->aS (xs.set i x) (us.set i u)
 |_,_,_,.nil=>.nil
 |_,_,0,.cons _ t=>.cons r t
 |_,_,i+1,.cons q t=>.cons q (aS.set r i t)
theorem aS.append:∀{xs ys:List V} {us ws:Te},aS xs us->aS ys ws->aS (xs++ys) (us++ws)
 |_,_,_,_,.nil,s=>s
 |_,_,_,_,.cons r t,s=>.cons r (aS.append t s)
theorem aS.take:∀{xs:List V} {us:Te} (n:Nat),aS xs us->aS (xs.take n) (us.take n)
 |_,_,0,_=>.nil
 |_,_,_+1,.nil=>.nil
 |_,_,n+1,.cons r t=>.cons r (aS.take n t)
theorem aS.drop:∀{xs:List V} {us:Te} (n:Nat),aS xs us->aS (xs.drop n) (us.drop n)
 |_,_,0,r=>r
 |_,_,_+1,.nil=>.nil
 |_,_,n+1,.cons _ t=>aS.drop n t
def kZ:Option V->Option Value->Prop
 |some v,some u=>aY v u
 |none,none=>True
 |_,_=>False
def KV {κ:Type}:List (κ×V)->List (κ×Value)->Prop:=Paired fun (p:κ×V) (q:κ×Value)=>p.1=q.1/\aY p.2 q.2
def kV:aH->V
 |.inl i=>.int i
 |.inr (some x)=>.str x
 |.inr none=>.non
inductive HO where
 |lst (xs:List V)
 |tup (xs:List V)
 |dK (kvs:List (aH×V))|dT (kvs:List (List aH×V))
 |set (S:Int->Bool) (n:Nat)
 |ins (C dx:Addr) (fs:List (Str×V))
 |own (x:Addr)
 |xd (fs:List (Str×V))
 |met (f x:Addr)
 |rng (lo hi:Int)
 |frz (o:Obj) (u:HO)
 |tbl (ps:Ti)
 |ext (φ:Heap->Prop)
abbrev Hp:=Addr->Option HO
def upd (H:Hp)(a:Addr)(o:HO):Hp:=fun b=>if b=a then some o else H b
def bx {H:Hp}{a:Addr}{o:HO}:upd H a o a=some o:=by unfold upd;rw [if_pos rfl]
def az {H:Hp}{a b:Addr}{o:HO}(h:b≠a):upd H a o b=H b:=by unfold upd;rw [if_neg h]
def HN {H:Hp}{a b:Addr}{o u:HO}(h:H a=some o)(h':H b=some u)(d:o≠u):a≠b:=by intro e;subst e;rw [h] at h';exact d (Option.some.inj h')
def gJ {H:Hp}{a b:Addr}{o:HO}(h:H a=some o)(h':H b=none):a≠b:=by intro e;subst e;rw [h] at h';cases h'
def ky (h:Heap)(a:Addr)(items:Ti):Prop:=IsTup h a items/\∀o,h.get? a=some o->o.dict=none
def ky.new (h:Heap)(items:Ti):ky (h.push {cls:=.type "tuple",data:=.seq items}) h.objs.size items:=⟨IsTup.new _ _,fun o e=>by rw [zal _ rfl] at e;cases e;rfl⟩
section
variable (P:Program)(w:World)
def bB (H:Hp)(h:Heap)(a:Addr):HO->Prop
 |.lst xs=>xs.length<=sizeLine/\∃(its:Te) (n:Nat),aS xs its/\h.get? a=some {cls:=.type "list",data:=.seq its.toArray n}
 |.tup xs=>xs.length<=sizeLine/\∃its:Te,aS xs its/\ky h a its.toArray
 |.dK kvs=>kvs.length<=sizeLine/\(a == sysModules)=false/\∃vs,KV kvs vs/\h.DictOf (bG P w) a vs
 |.dT kvs=>kvs.length<=sizeLine/\(a == sysModules)=false/\∃xs:List (List aH×Addr×Value),
   Paired (fun (p:List aH×V) (q:List aH×Addr×Value)=>p.1=q.1/\H q.2.1=some (.tup (p.1.map kV))/\aY p.2 q.2.2) kvs xs /\
   ∃o es ep,h.get? a=some o/\o.ExactDict/\o.data=.dict es ep/\es.toList=xs.map (entryOfKey (tupleKind (bG P w)))/\(xs.map (·.1)).Nodup
 |.set S n=>h.SetOf (intKind P w) a S n
 |.ins C dx fs=>H dx=some (.own a)/\fs.length<=1000/\dx≠a/\h.get? a=some (PySem.W.instObj C dx) /\
   ∃mA,h.Ns1 dx mA/\(∀f,kZ (fs.lookup f) (mA f))/\PySem.Within mA (fs.map (·.1))
 |.own _=>∃o,h.get? a=some o
 |.xd fs=>∃mA,h.Ns1 a mA/\∀f,kZ (fs.lookup f) (mA f)
 |.rng lo hi=>∃t u v,h.get? a=some {cls:=.type "range",data:=.fields #[.int lo t,.int hi u,.int 1 v]}
 |.frz o u=>h.get? a=some o/\bB H h a u
 |.tbl ps=>h.get? a=some {cls:=.none,data:=.fields ps}
 |.met f x=>h.get? a=some (PySem.W.methodObj (.ref f) (.ref x))
 |.ext φ=>φ h/\(∃o,h.get? a=some o)/\∀h1 h2:Heap,φ h1->(∀o,h1.get? a=some o->h2.get? a=some o)->φ h2
def iS (H:Hp)(h:Heap):Prop:=∀a o,H a=some o->bB P w H h a o
end
section
variable {P:Program}{w:World}{H H':Hp}{h h':Heap}{a:Addr}{o:HO}
theorem bB.lt (x:bB P w H h a o):a < h.objs.size:=by
 cases o with
 |lst xs=>obtain ⟨_,_,_,_,e⟩:=x;exact zah e
 |tup xs=>obtain ⟨_,_,_,p⟩:=x;exact p.1.lt
 |dK kvs=>obtain ⟨_,_,_,_,o,_,_,e,_⟩:=x;exact zah e
 |dT kvs=>obtain ⟨_,_,_,_,o,_,_,e,_⟩:=x;exact zah e
 |set S n=>obtain ⟨o,_,_,_,e,_⟩:=x;exact zah e
 |ins C dx fs=>obtain ⟨_,_,_,e,_⟩:=x;exact zah e
 |own y=>obtain ⟨_,e⟩:=x;exact zah e
 |xd fs=>obtain ⟨_,⟨_,_,_,e,_⟩,_⟩:=x;exact zah e
 |rng lo hi=>obtain ⟨_,_,_,e⟩:=x;exact zah e
 |frz ob u=>obtain ⟨e,_⟩:=x;exact zah e
 |tbl ps=>exact zah (show h.get? a=some _ from x)
 |met f y=>exact zah (show h.get? a=some _ from x)
 |ext φ=>obtain ⟨_,⟨_,e⟩,_⟩:=x;exact zah e
theorem Paired.mapP {Z β:Type}{F G:Z->β->Prop}{l₁:List Z}{l₂:List β}(h:Paired F l₁ l₂)(f:∀a b,F a b->G a b):Paired G l₁ l₂:=by
 induction h with
 |nil=>exact .nil
 |cons r t ih=>exact .cons (f _ _ r) ih
theorem bB.stay (x:bB P w H h a o)(k:∀b u,(b=a\/H b=some (.own a))->h.get? b=some u->h'.get? b=some u)
  (ho:∀b,H b=some (.own a)->H' b=some (.own a)) (ht:∀b xs,H b=some (.tup xs)->H' b=some (.tup xs)):bB P w H' h' a o:=by
 induction o with
 |lst xs=>obtain ⟨z,its,n,r,e⟩:=x;exact ⟨z,its,n,r,k _ _ (.inl rfl) e⟩
 |tup xs=>obtain ⟨z,its,r,⟨ob,e,c⟩,dn⟩:=x;exact ⟨z,its,r,⟨ob,k _ _ (.inl rfl) e,c⟩,fun o q=>by rw [k _ _ (.inl rfl) e] at q;cases q;exact dn _ e⟩
 |dK kvs=>obtain ⟨z,y,vs,r,ob,es,ep,e,c⟩:=x;exact ⟨z,y,vs,r,ob,es,ep,k _ _ (.inl rfl) e,c⟩
 |dT kvs =>
  obtain ⟨z,y,xs,r,ob,es,ep,e,c⟩:=x;exact ⟨z,y,xs,Paired.mapP r fun p q z=>⟨z.1,ht _ _ z.2.1,z.2.2⟩,ob,es,ep,k _ _ (.inl rfl) e,c⟩
 |set S n=>obtain ⟨ob,es,ep,t,e,c⟩:=x;exact ⟨ob,es,ep,t,k _ _ (.inl rfl) e,c⟩
 |ins C dx fs =>
  obtain ⟨d,z,ne,e,mA,⟨od,es,ep,e2,c⟩,r⟩:=x;exact ⟨ho _ d,z,ne,k _ _ (.inl rfl) e,mA,⟨od,es,ep,k _ _ (.inr d) e2,c⟩,r⟩
 |own y=>obtain ⟨ob,e⟩:=x;exact ⟨ob,k _ _ (.inl rfl) e⟩
 |xd fs=>obtain ⟨mA,⟨od,es,ep,e,c⟩,r⟩:=x;exact ⟨mA,⟨od,es,ep,k _ _ (.inl rfl) e,c⟩,r⟩
 |rng lo hi=>obtain ⟨t,u,v,e⟩:=x;exact ⟨t,u,v,k _ _ (.inl rfl) e⟩
 |frz ob u ih=>obtain ⟨e,q⟩:=x;exact ⟨k _ _ (.inl rfl) e,ih q⟩
 |tbl ps =>
  have e:h.get? a=some {cls:=.none,data:=.fields ps}:=x
  show h'.get? a=some {cls:=.none,data:=.fields ps}
  exact k a _ (.inl rfl) e
 |met f y =>
  have e:h.get? a=some (PySem.W.methodObj (.ref f) (.ref y)):=x
  show h'.get? a=some (PySem.W.methodObj (.ref f) (.ref y))
  exact k a _ (.inl rfl) e
 |ext φ=>obtain ⟨p,⟨o,e⟩,st⟩:=x;exact ⟨st _ _ p fun o q=>k _ _ (.inl rfl) q,⟨o,k _ _ (.inl rfl) e⟩,st⟩
def iS.lt (x:iS P w H h)(e:H a=some o):a < h.objs.size:=(x a o e).lt
theorem iS.fresh (x:iS P w H h)(e:h.objs.size<=a):H a=none:=by
 cases q:H a with
 |none=>rfl
 |some u=>exact absurd (zax (x.lt q) e) (zaP _)
def iS.kept (x:iS P w H h)(k:∀b u,h.get? b=some u->h'.get? b=some u):iS P w H h':=fun a o e =>
 (x a o e).stay (fun b u _ q=>k b u q) (fun _ q=>q) fun _ _ q=>q
def iS.laid (x:iS P w H h)(k:∀b u,h.get? b=some u->h'.get? b=some u)(hp:h.objs.size<=a)(new:bB P w (upd H a o) h' a o):iS P w (upd H a o) h':=fun b u e=>by
 have hn:=x.fresh hp;by_cases hb:b=a
 ·subst hb;rw [bx] at e;cases e;exact new
 ·rw [az hb] at e;exact (x b u e).stay (fun c v _ q=>k c v q) (fun c q=>by rw [az (gJ q hn)];exact q) fun c xs q=>by rw [az (gJ q hn)];exact q
end
def Rd (H:Hp)(a:Addr)(u:HO):Prop:=H a=some u\/∃o,H a=some (.frz o u)
def Rd.ok {H:Hp}{h:Heap}{a:Addr}{u:HO}(r:Rd H a u)(x:iS P w H h):bB P w H h a u:=by
 rcases r with r|⟨o,r⟩
 ·exact x a u r
 ·obtain ⟨_,q⟩:=x a _ r;exact q
def Od:Option HO->Prop
 |some (.lst _)=>True
 |some (.dK _)=>True
 |some (.dT _)=>True
 |some (.set _ _)=>True
 |some (.ins _ _ _)=>True
 |some (.ext _)=>True
 |_=>False
section
variable {P:Program}{w:World}{H:Hp}{h h':Heap}{x e:Addr}{o':HO}
theorem iS.write (ok:iS P w H h)(mu:Od (H x))(he:e=x\/H e=some (.own x))(k:∀b u,b≠e->h.get? b=some u->h'.get? b=some u)(heo:∃u,h'.get? e=some u)
  (new:bB P w (upd H x o') h' x o'):iS P w (upd H x o') h':=fun b u q=>by
 have nown:∀c y,H c=some (.own y)->c≠x:=fun c y r z=>by subst z;rw [r] at mu;exact mu
 have ntup:∀c xs,H c=some (.tup xs)->c≠x:=fun c xs r z=>by subst z;rw [r] at mu;exact mu
 by_cases hb:b=x
 ·subst hb;rw [bx] at q;cases q;exact new
 ·rw [az hb] at q
  by_cases hbe:b=e
  ·have q':H b=some (.own x):=by
    rcases he with z|z
    ·exact absurd (hbe.trans z) hb
    ·rw [hbe];exact z
   rw [q] at q';cases q';obtain ⟨v,hv⟩:=heo;exact ⟨v,by rw [hbe];exact hv⟩
  ·refine (ok b u q).stay (fun c v hc r=>k c v ?_ r) (fun c r=>by rw [az (nown c b r)];exact r) fun c xs r=>by rw [az (ntup c xs r)];exact r
   rcases hc with rfl|hc
   ·exact hbe
   ·rintro rfl
    rcases he with z|z
    ·exact nown c b hc z
    ·rw [hc] at z;cases z;exact hb rfl
end
structure Un (fs ex:Tf)(H H':Hp)(h h':Heap):Prop where
 keep:∀b o,h.get? b=some o->H b=none->b∉fs->b∉ex->h'.get? b=some o
 slot:∀b o,h.get? b=some o->H b=none->b∈fs->b∉ex->∃sl,h'.get? b=some {o with slots:=sl}
 free:∀b o,h.get? b=some o->H b=none->b∉ex->H' b=none
 there:∀b o,h.get? b=some o->b∉ex->∃o',h'.get? b=some o'
 tups:∀b xs,H b=some (.tup xs)->H' b=some (.tup xs)
 frzs:∀b o u,H b=some (.frz o u)->H' b=some (.frz o u)
 tbls:∀b ps,H b=some (.tbl ps)->∃more,H' b=some (.tbl (ps++more))
section
variable {fs ex:Tf}{H H1:Hp}{h h1 h':Heap}{a x e:Addr}{o:HO}
def Un.any (u:Un fs ex H H1 h h1){b:Addr}{ob:Obj}(q:h.get? b=some ob)(n:H b=none)(hx:b∉ex):∃sl,h1.get? b=some {ob with slots:=sl}:=by
 by_cases hb:b∈fs
 ·exact u.slot b ob q n hb hx
 ·exact ⟨ob.slots,u.keep b ob q n hb hx⟩
def Un.kept (k:∀b u,h.get? b=some u->h'.get? b=some u):Un fs ex H H h h' :=
 ⟨fun b ob q _ _ _=>k b ob q,fun b ob q _ _ _=>⟨ob.slots,k b ob q⟩,fun _ _ _ n _=>n,fun b ob q _=>⟨ob,k b ob q⟩,fun _ _ q=>q,fun _ _ _ q=>q,fun _ ps q=>⟨#[],by rw [q];simp⟩⟩
def Un.refl:Un fs ex H H h h:=Un.kept fun _ _ q=>q
def Un.laid (k:∀b u,h.get? b=some u->h'.get? b=some u)(hp:h.objs.size<=a)(hn:H a=none):Un fs ex H (upd H a o) h h' where
 keep:=fun b u q _ _ _=>k b u q
 slot:=fun b u q _ _ _=>⟨u.slots,k b u q⟩
 free:=fun b u q n _=>by rw [az (zap (zax (zah q) hp))];exact n
 there:=fun b u q _=>⟨u,k b u q⟩
 tups:=fun b xs q=>by rw [az (gJ q hn)];exact q
 frzs:=fun b u xs q=>by rw [az (gJ q hn)];exact q
 tbls:=fun b ps q=>⟨#[],by rw [az (gJ q hn),q];simp⟩
def Un.write (mu:Od (H x))(he:e=x\/H e=some (.own x))(k:∀b u,b≠e->h.get? b=some u->h'.get? b=some u)(heo:∃u,h'.get? e=some u):Un fs ex H (upd H x o) h h':=by
 have hx:∀b,H b=none->b≠x:=fun b n z=>by subst z;rw [n] at mu;exact mu
 have hb:∀b,H b=none->b≠e:=fun b n z=>by
  subst z;rcases he with r|r
  ·exact hx b n r
  ·rw [n] at r;cases r
 have hm:∀b u,H b=some u->¬ Od (some u)->b≠x:=fun b u q nm z=>by subst z;rw [q] at mu;exact nm mu
 refine ⟨fun b u q n _ _=>k b u (hb b n) q,fun b u q n _ _=>⟨u.slots,k b u (hb b n) q⟩,fun b u q n _=>by rw [az (hx b n)];exact n,fun b u q _=>?_,
  fun b xs q=>by rw [az (hm b _ q fun z=>z)];exact q,fun b u xs q=>by rw [az (hm b _ q fun z=>z)];exact q,fun b ps q=>⟨#[],by rw [az (hm b _ q fun z=>z),q];simp⟩⟩
 by_cases hbe:b=e
 ·subst hbe;exact heo
 ·exact ⟨u,k b u hbe q⟩
end
def Ol (h:Heap)(H:Hp):Tf:=(List.range h.objs.size).filter fun a=>(H a).isSome
def sN (h:Heap)(H:Hp):Heap:=PySem.W.hideAll h (Ol h H)
def Ad (h:Heap)(H:Hp):(sN h H).objs.size=h.objs.size:=PySem.W.hideAll_size _ _
def C3 {h:Heap}{H:Hp}{b:Addr}{o:Obj}(e:h.get? b=some o)(n:H b=none):(sN h H).get? b=some o :=
 PySem.W.hideAll_get _ e fun hm=>by have q:(H b).isSome=true:=(zbz.mp hm).2;rw [n] at q;simp at q
theorem Fi {h:Heap}{H:Hp}{b:Addr}{o:Obj}(e:(sN h H).get? b=some o):h.get? b=some o/\H b=none:=by
 have e':h.get? b=some o:=PySem.W.of_hideAll (Ol h H) e;refine ⟨e',?_⟩
 cases q:H b with
 |none=>rfl
 |some x =>
  have hm:b∈Ol h H:=zbz.mpr ⟨zbV.mpr (zah e'),by simp [q]⟩;have z:(sN h H).get? b=none:=PySem.W.hideAll_none (Ol h H) hm;rw [z] at e;cases e
def Gj (g h:Heap)(L:Addr):Tc:=(List.range h.objs.size).filterMap fun a=>if a=L\/(g.get? a).isSome=true then none else (h.get? a).map fun o=>(a,o)
def rest (g h:Heap)(L d:Addr):Tc:=(Gj g h L).filter fun p=>decide (p.1≠d)
structure Mod (K:zac)(mg:Td)(base:Heap):Prop where
 kin:K.In base
 glob:base.Ns mainGlobals mg
 blt:∃mb,base.Ns builtinsNs mb/\∀x:Str,x≠"__name__"->mb x=bootBuiltins x
 nolimit:base.NoLimit
structure Cx where
 prog:Program
 w:World
 K:zac
 mg:Td
 base:Heap
 A:Around
 N:Tn
 s₀:Shared
 H₀:Hp
 env:Env
 outer:List Env
 stack:List Env
 ex:Tf
 fn:Str->Bool
 calm:Bool
 pn:Tc
 xe:Tb
def Ai (l:List Env):Tf:=l.filterMap (·.frame)
abbrev Cx.fs (X:Cx):Tf:=Ai X.outer
def O6 (sc:Scope)(x:Str):Prop:=sc.names.lookup x=some .local\/sc.names.lookup x=some .cell\/sc.names.lookup x=some .free
def Gw (sc:Scope)(x:Str):Prop:=sc.names.lookup x=some .local\/sc.names.lookup x=some .cell
def QJ (env:Env)(h:Heap)(m:Td)(x:Str)(u:Value):Prop :=
 (env.kindOf x=some .local/\m x=some u)\/((env.kindOf x=some .cell\/env.kindOf x=some .free)/\∃c,env.cells.lookup x=some c/\h.IsCell c (some u))
structure Cx.Ok (X:Cx):Prop where
 mod:Mod X.K X.mg X.base
 kind:X.env.scope.kind=.function
 glob:X.env.globals=mainGlobals
 blt:X.env.builtins=builtinsNs
 above:X.s₀.heap.objs.size<=X.env.locals
 inj:∀x y c,X.env.cells.lookup x=some c->X.env.cells.lookup y=some c->x=y
 has:∀x,(X.env.kindOf x=some .cell\/X.env.kindOf x=some .free)->∃c,X.env.cells.lookup x=some c
 cab:∀x c,X.fn x=true->X.env.cells.lookup x=some c->X.s₀.heap.objs.size<=c
 hd:X.calm=true->X.A.handled=none
 frames:X.A.frames=some X.stack
 stk:X.stack=X.outer\/(X.stack=X.env::X.outer/\X.env.frame=some X.env.locals)
 exf:∀b∈X.ex,b≠X.env.locals/\∀x c,X.env.cells.lookup x=some c->c≠b
 bs:∀b o,X.base.get? b=some o->X.s₀.heap.get? b=some o/\X.H₀ b=none
 bsz:X.base.objs.size<=X.s₀.heap.objs.size
 noex:∀b o,X.base.get? b=some o->b∉X.ex
 exfs:∀b∈X.ex,b∉X.fs
 funs:X.s₀.heap.FunFrames X.base X.outer
 frf:∀b∈X.fs,X.H₀ b=none
structure aA (X:Cx)(pins:Tc)(Y:List (Option V))(H:Hp)(s:Shared):Prop where
 ok:X.Ok
 os:s.os=X.s₀.os
 bare:AllBare s.gens
 base:Un X.fs X.ex X.H₀ H X.s₀.heap s.heap
 loc:∃m,s.heap.Ns X.env.locals m/\∀(i:Nat) (x:Str) (v:V),X.N[i]?=some x->Y[i]?=some (some v)->O6 X.env.scope x->∃u,aY v u/\QJ X.env s.heap m x u
 cell:∀x c,X.env.cells.lookup x=some c->∃v,s.heap.IsCell c v
 free:H X.env.locals=none
 freeC:∀x c,X.env.cells.lookup x=some c->H c=none
 pin:∀p∈X.pn++pins,s.heap.get? p.1=some p.2/\H p.1=none/\p.1≠X.env.locals/\p.1∉X.fs/\∀v,p.2.data≠.cell v
 hok:iS X.prog X.w H s.heap
 len:Y.length=X.N.length
section
variable {X:Cx}{pins:Tc}{Y:List (Option V)}{H H':Hp}{s:Shared}{h':Heap}
def Cx.Ok.nofr (ok:X.Ok){b:Addr}{o:Obj}(e:X.base.get? b=some o):b∉X.fs:=fun hb=>by have:=(ok.funs.mem hb).1;rw [e] at this;cases this
def aA.bs (I:aA X pins Y H s):∀b o,X.base.get? b=some o->s.heap.get? b=some o/\H b=none:=fun b o e =>
 ⟨I.base.keep b o (I.ok.bs b o e).1 (I.ok.bs b o e).2 (I.ok.nofr e) (I.ok.noex b o e),I.base.free b o (I.ok.bs b o e).1 (I.ok.bs b o e).2 (I.ok.noex b o e)⟩
def aA.bk (I:aA X pins Y H s):∀b o,X.base.get? b=some o->s.heap.get? b=some o:=fun b o e=>(I.bs b o e).1
def aA.mod (I:aA X pins Y H s):Mod X.K X.mg X.base:=I.ok.mod
def aA.kIn (I:aA X pins Y H s):X.K.In s.heap:=I.ok.mod.kin.keeps I.bk
def aA.lt (I:aA X pins Y H s):X.env.locals < s.heap.objs.size:=let ⟨_,hn,_⟩:=I.loc;hn.lt
def aA.sz (I:aA X pins Y H s):X.s₀.heap.objs.size<=s.heap.objs.size:=zbg I.ok.above (zbD I.lt)
def aA.nofs (I:aA X pins Y H s){a:Addr}(h:s.heap.objs.size<=a):a∉X.fs:=fun hb=>by obtain ⟨_,o,ho,_⟩:=I.ok.funs.mem hb;exact absurd (zax (zah ho) (zbg I.sz h)) (zaP _)
def aA.cne (I:aA X pins Y H s):∀x c,X.env.cells.lookup x=some c->c≠X.env.locals:=fun x c e z=>by obtain ⟨v,o,ho,hd⟩:=I.cell x c e;obtain ⟨m,⟨o',es,ep,ho',hd',_⟩,_⟩:=I.loc;rw [z,ho'] at ho;cases ho;rw [hd'] at hd;cases hd
def aA.funs (I:aA X pins Y H s):s.heap.FunFrames X.base X.outer:=by
 have all:∀(l:List Env),(∀b∈Ai l,b∈X.fs)->X.s₀.heap.FunFrames X.base l->s.heap.FunFrames X.base l:=by
  intro l;induction l with
  |nil=>intro _ _;trivial
  |cons env r ih =>
   intro hs hl;obtain ⟨hk,⟨L,o,hf,hn,ho,hd⟩,hr⟩:=hl;have hL:L∈X.fs:=hs L (by unfold Ai;rw [zcn,hf];exact zan);obtain ⟨sl,e⟩:=I.base.slot L o ho (I.ok.frf L hL) hL fun z=>I.ok.exfs L z hL;exact ⟨hk,⟨L,_,hf,hn,e,hd⟩,ih (fun b hb=>hs b (by unfold Ai;rw [zcn,hf];exact zaj _ hb)) hr⟩
 exact all X.outer (fun _ hb=>hb) I.ok.funs
def aA.stack (I:aA X pins Y H s):s.heap.FunFrames X.base X.stack:=by
 rcases I.ok.stk with e|⟨e,hf⟩
 ·rw [e];exact I.funs
 ·rw [e];obtain ⟨m,hn,_⟩:=I.loc;refine .cons (by rw [I.ok.kind];decide) hf hn ?_ I.funs;exact Heap.get?_none_of_le (zbg I.ok.bsz I.ok.above)
def aA.stkSub (I:aA X pins Y H s):∀b∈Ai X.stack,b∈X.env.locals::X.fs:=fun b hb=>by
 rcases I.ok.stk with e|⟨e,hf⟩
 ·rw [e] at hb;exact zaj _ hb
 ·rw [e] at hb;unfold Ai at hb;rw [zcn,hf] at hb;exact hb
def aA.stkFree (I:aA X pins Y H s):∀b∈Ai X.stack,H b=none:=fun b hb=>by
 rcases zak.mp (I.stkSub b hb) with e|hb
 ·rw [e];exact I.free
 ·obtain ⟨_,o,ho,_⟩:=I.ok.funs.mem hb;exact I.base.free b o ho (I.ok.frf b hb) fun z=>I.ok.exfs b z hb
def aA.step {g':Array GenState}{t':Nat}{d':Drawn}{ch:Tf}(I:aA X pins Y H s)
  (hch:∀b∈ch,(b∈X.ex\/X.s₀.heap.objs.size<=b)/\b≠X.env.locals/\(∀x c,X.env.cells.lookup x=some c->c≠b)/\∀p∈X.pn++pins,p.1≠b)
  (keep:∀b o,b≠X.env.locals->b∉X.fs->b∉ch->s.heap.get? b=some o->H b=none->h'.get? b=some o)
  (slot:∀b o,b≠X.env.locals->b∈X.fs->b∉ch->s.heap.get? b=some o->H b=none->∃sl,h'.get? b=some {o with slots:=sl}) (free:∀b o,b∉ch->s.heap.get? b=some o->H b=none->H' b=none)
  (there:∀b o,b∉ch->s.heap.get? b=some o->∃o',h'.get? b=some o')
  (tups:∀b xs,H b=some (.tup xs)->H' b=some (.tup xs)) (frzs:∀b o u,H b=some (.frz o u)->H' b=some (.frz o u)) (tbls:∀b ps,H b=some (.tbl ps)->∃more,H' b=some (.tbl (ps++more)))
  (ns:∀m,s.heap.Ns X.env.locals m->h'.Ns X.env.locals m) (hok:iS X.prog X.w H' h') (hg:AllBare g') :
  aA X pins Y H' {s with heap:=h',gens:=g',drawn:=d',toks:=t'}:=by
 have neL:∀b o,X.s₀.heap.get? b=some o->b≠X.env.locals:=fun b o e=>zap (zax (zah e) I.ok.above)
 have neC:∀b o,X.s₀.heap.get? b=some o->b∉X.ex->b∉ch:=fun b o e hx hb=>by
  rcases (hch b hb).1 with z|z
  ·exact hx z
  ·exact absurd (zax (zah e) z) (zaP _)
 have cellK:∀x c,X.env.cells.lookup x=some c->∀v,s.heap.IsCell c v->h'.IsCell c v:=fun x c e v ⟨o,ho,hd⟩=>by
  have nch:c∉ch:=fun z=>(hch c z).2.2.1 x c e rfl
  by_cases hc:c∈X.fs
  ·obtain ⟨sl,q⟩:=slot c o (I.cne x c e) hc nch ho (I.freeC x c e)
   exact ⟨_,q,hd⟩
  ·exact ⟨o,keep c o (I.cne x c e) hc nch ho (I.freeC x c e),hd⟩
 refine ⟨I.ok,I.os,hg,⟨fun b o e n hb hx=>?_,fun b o e n hb hx=>?_,fun b o e n hx=>?_,fun b o e hx=>?_,fun b xs e=>tups b xs (I.base.tups b xs e),fun b o xs e=>frzs b o xs (I.base.frzs b o xs e),fun b ps e=>?_⟩,?_,fun x c e=>?_,?_,fun x c e=>?_,fun p hp=>?_,hok,I.len⟩
 ·exact keep b o (neL b o e) hb (neC b o e hx) (I.base.keep b o e n hb hx) (I.base.free b o e n hx)
 ·obtain ⟨sl,e1⟩:=I.base.slot b o e n hb hx
  obtain ⟨sl',e2⟩:=slot b _ (neL b o e) hb (neC b o e hx) e1 (I.base.free b o e n hx);exact ⟨sl',e2⟩
 ·obtain ⟨o',e1⟩:=I.base.there b o e hx
  exact free b o' (neC b o e hx) e1 (I.base.free b o e n hx)
 ·obtain ⟨o',e1⟩:=I.base.there b o e hx
  exact there b o' (neC b o e hx) e1
 ·obtain ⟨m1,e1⟩:=I.base.tbls b ps e
  obtain ⟨m2,e2⟩:=tbls b _ e1;exact ⟨m1++m2,by rw [e2,Array.append_assoc]⟩
 ·obtain ⟨m,hn,hl⟩:=I.loc
  refine ⟨m,ns m hn,fun i x v e1 e2 e3=>?_⟩;obtain ⟨u,r,l⟩:=hl i x v e1 e2 e3;refine ⟨u,r,?_⟩;rcases l with l|⟨k,c,e,z⟩
  ·exact .inl l
  ·exact .inr ⟨k,c,e,cellK x c e _ z⟩
 ·obtain ⟨v,z⟩:=I.cell x c e
  exact ⟨v,cellK x c e v z⟩
 ·obtain ⟨m,⟨o,_,_,ho,_⟩,_⟩:=I.loc
  exact free _ o (fun z=>(hch _ z).2.1 rfl) ho I.free
 ·obtain ⟨v,o,ho,hd⟩:=I.cell x c e
  exact free c o (fun z=>(hch c z).2.2.1 x c e rfl) ho (I.freeC x c e)
 ·obtain ⟨e,n,ne,nf,d⟩:=I.pin p hp
  have nch:p.1∉ch:=fun z=>(hch p.1 z).2.2.2 p hp rfl;exact ⟨keep p.1 p.2 ne nf nch e n,free p.1 p.2 nch e n,ne,nf,d⟩
theorem aA.un {t':Nat}(I:aA X pins Y H s)(u:Un X.fs [] H H' s.heap h')(hok:iS X.prog X.w H' h'):aA X pins Y H' {s with heap:=h',toks:=t'}:=by obtain ⟨m,⟨o,es,ep,ho,r⟩,_⟩:=id I.loc;obtain ⟨sl,hL⟩:=u.any ho I.free (by simp);exact I.step (g':=s.gens) (d':=s.drawn) (ch:=[]) (fun _ z=>nomatch z) (fun b o _ hb _ e n=>u.keep b o e n hb (by simp)) (fun b o _ hb _ e n=>u.slot b o e n hb (by simp)) (fun b o _ e n=>u.free b o e n (by simp)) (fun b o _ e=>u.there b o e (by simp)) u.tups u.frzs u.tbls (fun m' hm=>by obtain ⟨o',es',ep',ho',r'⟩:=hm;rw [ho] at ho';cases ho';exact ⟨_,es',ep',hL,r'⟩) hok I.bare
theorem aA.call {g':Array GenState}{t':Nat}{d':Drawn}{ch:Tf}(I:aA X pins Y H s)(u:Un (Ai X.stack) ch H H' s.heap h')(hok:iS X.prog X.w H' h')(hg:AllBare g')
  (hch:∀b∈ch,(b∈X.ex\/X.s₀.heap.objs.size<=b)/\b≠X.env.locals/\(∀x c,X.env.cells.lookup x=some c->c≠b)/\∀p∈X.pn++pins,p.1≠b) :
  aA X pins Y H' {s with heap:=h',gens:=g',drawn:=d',toks:=t'}:=by
 obtain ⟨m,⟨o,es,ep,ho,r⟩,_⟩:=id I.loc;obtain ⟨sl,hL⟩:=u.any ho I.free fun z=>(hch _ z).2.1 rfl
 exact I.step (ch:=ch) hch (fun b o hL hb hc e n=>u.keep b o e n (fun z=>(zak.mp (I.stkSub b z)).elim hL hb) hc) (fun b o _ _ hc e n=>u.any e n hc) (fun b o hc e n=>u.free b o e n hc) (fun b o hc e=>u.there b o e hc) u.tups u.frzs u.tbls (fun m' hm=>by
  obtain ⟨o',es',ep',ho',r'⟩:=hm;rw [ho] at ho';cases ho'
  exact ⟨_,es',ep',hL,r'⟩) hok hg
def aA.turned {t':Nat}{it:Addr}(I:aA X pins Y H s)(k:∀b o,b≠it->s.heap.get? b=some o->h'.get? b=some o)(hn:H it=none)(hL:it≠X.env.locals)
  (h1:it∈X.ex\/X.s₀.heap.objs.size<=it) (h2:∀x c,X.env.cells.lookup x=some c->c≠it) (h3:∀p∈X.pn++pins,p.1≠it):aA X pins Y H {s with heap:=h',toks:=t'}:=by
 have nit:∀b u,H b=some u->b≠it:=fun b u e z=>by rw [z,hn] at e;cases e
 refine I.step (g':=s.gens) (d':=s.drawn) (ch:=[it]) (fun b hb=>?_) (fun b o _ _ hc e _=>k b o (fun z=>hc (by simp [z])) e) (fun b o _ _ hc e _=>⟨o.slots,k b o (fun z=>hc (by simp [z])) e⟩) (fun _ _ _ _ n=>n)
  (fun b o hc e=>⟨o,k b o (fun z=>hc (by simp [z])) e⟩) (fun _ _ e=>e) (fun _ _ _ e=>e) (fun b ps e=>⟨#[],by rw [e];simp⟩) (fun m hm=>?_) (fun b u e=>?_) I.bare
 ·have e:b=it:=by simpa using hb
  subst e;exact ⟨h1,hL,h2,h3⟩
 ·obtain ⟨o,es,ep,ho,r⟩:=hm
  exact ⟨o,es,ep,k _ o (Ne.symm hL) ho,r⟩
 ·refine (I.hok b u e).stay (fun c v hc q=>k c v ?_ q) (fun _ q=>q) fun _ _ q=>q
  rcases hc with z|z
  ·rw [z];exact nit b u e
  ·exact nit c _ z
def aA.tok (I:aA X pins Y H s)(t:Nat):aA X pins Y H {s with toks:=t}:=I.un (h':=s.heap) (t':=t) Un.refl I.hok
def aA.kept {t':Nat}(I:aA X pins Y H s)(k:∀b u,s.heap.get? b=some u->h'.get? b=some u):aA X pins Y H {s with heap:=h',toks:=t'}:=I.un (Un.kept k) (I.hok.kept k)
def aA.laid {a:Addr}{o:HO}{t':Nat}(I:aA X pins Y H s)(k:∀b u,s.heap.get? b=some u->h'.get? b=some u)(hp:s.heap.objs.size<=a)(new:bB X.prog X.w (upd H a o) h' a o) :
  aA X pins Y (upd H a o) {s with heap:=h',toks:=t'}:=I.un (Un.laid k hp (I.hok.fresh hp)) (I.hok.laid k hp new)
def aA.write {x e:Addr}{o:HO}{t':Nat}(I:aA X pins Y H s)(mu:Od (H x))(he:e=x\/H e=some (.own x))(k:∀b u,b≠e->s.heap.get? b=some u->h'.get? b=some u)(heo:∃u,h'.get? e=some u)
  (new:bB X.prog X.w (upd H x o) h' x o):aA X pins Y (upd H x o) {s with heap:=h',toks:=t'}:=I.un (Un.write mu he k heo) (I.hok.write mu he k heo new)
def aA.pins_of {pins':Tc}(I:aA X pins Y H s)(h:∀p∈pins',s.heap.get? p.1=some p.2/\H p.1=none/\p.1≠X.env.locals/\p.1∉X.fs/\∀v,p.2.data≠.cell v):aA X pins' Y H s :=
 ⟨I.ok,I.os,I.bare,I.base,I.loc,I.cell,I.free,I.freeC,fun p hp=>(zaU.mp hp).elim (fun z=>I.pin p (zcj _ z)) (h p),I.hok,I.len⟩
def uC {N:Tn}(hN:N.Nodup){i j:Nat}{x:Str}(a:N[i]?=some x)(b:N[j]?=some x):i=j:=by obtain ⟨h1,e1⟩:=zat.mp a;obtain ⟨h2,e2⟩:=zat.mp b;exact (zbK hN).mp (e1.trans e2.symm)
theorem qH {M:Model}{A:Around}{E:Tb}{i:Nat}{x:Str}{v:V}{u:Value}{Q:Unit->Shared->Prop}(I:aA X pins Y H s)(hN:X.N.Nodup)(hi:X.N[i]?=some x)(hx:Gw X.env.scope x)(r:aY v u)
  (h:∀s',aA X pins (Y.set i (some v)) H s'->(∃a,Heap.SameBut a s.heap s'.heap/\(a=X.env.locals\/X.env.cells.lookup x=some a))->Q () s') (hf:X.fn x=true\/X.env.scope.names.lookup x=some .local:=by first|exact .inl rfl|exact .inr rfl|assumption):wpAny M A (storeName X.env x u) Q E s:=by
 obtain ⟨m,hn,hl⟩:=id I.loc
 have hcls:(X.env.scope.kind == .class || (X.env.scope.kind == .module && X.env.locals != X.env.globals))=false:=by rw [I.ok.kind];rfl
 have hiY:i < Y.length:=by rw [I.len];exact (zat.mp hi).1
 have cne:=I.cne
 have tracked:∀{a:Addr} {h':Heap},(∃o,s.heap.get? a=some o/\H a=none)->Heap.SameBut a s.heap h'->iS X.prog X.w H h':=fun {a h'} ha hs b ob e=>by
  obtain ⟨_,_,hfree⟩:=ha;refine (I.hok b ob e).stay (fun c w' hc q=>(hs.2 c ?_).trans q) (fun _ q=>q) fun _ _ q=>q;rintro rfl;rcases hc with rfl|hc
  ·rw [hfree] at e;cases e
  ·rw [hfree] at hc;cases hc
 rcases hx with hk|hk
 ·refine wpAny_storeName_local hk hn (fun h' hn' hs=>?_) hcls
  obtain ⟨oL,_,_,hoL,_⟩:=id hn;refine h _ ⟨I.ok,I.os,I.bare,⟨fun b o e n hb hx=>?_,fun b o e n hb hx=>?_,I.base.free,fun b o e hx=>?_,I.base.tups,I.base.frzs,I.base.tbls⟩,⟨_,hn',fun j y v' e1 e2 e3=>?_⟩,fun y c e=>?_,I.free,I.freeC,fun p hp=>?_,tracked ⟨oL,hoL,I.free⟩ hs,by simpa using I.len⟩ ⟨_,hs,.inl rfl⟩
  ·exact (hs.2 b (zap (zax (zah e) I.ok.above))).trans (I.base.keep b o e n hb hx)
  ·obtain ⟨sl,e1⟩:=I.base.slot b o e n hb hx
   exact ⟨sl,(hs.2 b (zap (zax (zah e) I.ok.above))).trans e1⟩
  ·obtain ⟨o',e1⟩:=I.base.there b o e hx
   exact ⟨o',(hs.2 b (zap (zax (zah e) I.ok.above))).trans e1⟩
  ·by_cases hj:j=i
   ·subst hj
    rw [hi] at e1;cases e1;rw [zaT hiY] at e2;cases e2;exact ⟨u,r,.inl ⟨hk,by simp⟩⟩
   ·rw [zaz (Ne.symm hj)] at e2
    obtain ⟨u',r',q⟩:=hl j y v' e1 e2 e3;refine ⟨u',r',?_⟩;rcases q with ⟨k,e⟩|⟨k,c,e,z⟩
    ·refine .inl ⟨k,?_⟩
     have:y≠x:=fun e=>hj (uC hN e1 (e ▸ hi));simp [this,e]
    ·exact .inr ⟨k,c,e,z.sameBut hs (cne y c e)⟩
  ·obtain ⟨w',z⟩:=I.cell y c e
   exact ⟨w',z.sameBut hs (cne y c e)⟩
  ·obtain ⟨e,n,ne,nf,d⟩:=I.pin p hp
   exact ⟨(hs.2 p.1 ne).trans e,n,ne,nf,d⟩
 ·have hfn:X.fn x=true:=by
   rcases hf with z|z
   ·exact z
   ·rw [z] at hk;cases hk
  obtain ⟨c,hc⟩:=I.ok.has x (.inl hk);obtain ⟨w',z⟩:=I.cell x c hc;refine wpAny_storeName_cell I.ok.kind hk hc z (fun h' hc' hs=>?_);obtain ⟨oc,hoc,hocd⟩:=id z;refine h {s with heap:=h'} ⟨I.ok,I.os,I.bare,⟨fun b o e n hb hx=>?_,fun b o e n hb hx=>?_,I.base.free,fun b o e hx=>?_,I.base.tups,I.base.frzs,I.base.tbls⟩,⟨m,hn.sameBut hs (Ne.symm (cne x c hc)),fun j y v' e1 e2 e3=>?_⟩,fun y c' e=>?_,I.free,I.freeC,fun p hp=>?_,tracked ⟨oc,hoc,I.freeC x c hc⟩ hs,by simpa using I.len⟩ ⟨c,hs,.inr hc⟩
  ·exact (hs.2 b (zap (zax (zah e) (I.ok.cab x c hfn hc)))).trans (I.base.keep b o e n hb hx)
  ·obtain ⟨sl,e1⟩:=I.base.slot b o e n hb hx
   exact ⟨sl,(hs.2 b (zap (zax (zah e) (I.ok.cab x c hfn hc)))).trans e1⟩
  ·obtain ⟨o',e1⟩:=I.base.there b o e hx
   exact ⟨o',(hs.2 b (zap (zax (zah e) (I.ok.cab x c hfn hc)))).trans e1⟩
  ·by_cases hj:j=i
   ·subst hj
    rw [hi] at e1;cases e1;rw [zaT hiY] at e2;cases e2;exact ⟨u,r,.inr ⟨.inl hk,c,hc,hc'⟩⟩
   ·rw [zaz (Ne.symm hj)] at e2
    obtain ⟨u',r',q⟩:=hl j y v' e1 e2 e3;refine ⟨u',r',?_⟩;rcases q with q|⟨k,c',e,z'⟩
    ·exact .inl q
    ·refine .inr ⟨k,c',e,z'.sameBut hs ?_⟩
     rintro rfl;exact hj (uC hN e1 (I.ok.inj _ _ _ e hc ▸ hi))
  ·by_cases hcc:c'=c
   ·subst hcc;exact ⟨_,hc'⟩
   ·obtain ⟨w2,z2⟩:=I.cell y c' e
    exact ⟨w2,z2.sameBut hs hcc⟩
  ·obtain ⟨e,n,ne,nf,d⟩:=I.pin p hp
   refine ⟨(hs.2 p.1 ?_).trans e,n,ne,nf,d⟩;intro q;rw [q,hoc] at e;have q':oc=p.2:=Option.some.inj e;exact d w' (by rw [←q'];exact hocd)
def et {M:Model}{A:Around}{E:Tb}{i:Nat}{x:Str}{v:V}{u:Value}{Q:Unit->Shared->Prop}(I:aA X pins Y H s)(hN:X.N.Nodup)(hi:X.N[i]?=some x)(hx:Gw X.env.scope x)(r:aY v u)
  (h:∀s',aA X pins (Y.set i (some v)) H s'->Q () s') (hf:X.fn x=true\/X.env.scope.names.lookup x=some .local:=by first|exact .inl rfl|exact .inr rfl|assumption):wpAny M A (storeName X.env x u) Q E s :=
 qH I hN hi hx r (fun s' I' _=>h s' I') hf
def aA.call' {s':Shared}{ch:Tf}(I:aA X pins Y H s)(ho:s'.os=s.os)(u:Un (Ai X.stack) ch H H' s.heap s'.heap)(hok:iS X.prog X.w H' s'.heap)(hg:AllBare s'.gens)
  (hch:∀b∈ch,(b∈X.ex\/X.s₀.heap.objs.size<=b)/\b≠X.env.locals/\(∀x c,X.env.cells.lookup x=some c->c≠b)/\∀p∈X.pn++pins,p.1≠b):aA X pins Y H' s':=by
 obtain ⟨h',g',d',t',o'⟩:=s';have e:o'=s.os:=ho;subst e;exact I.call (g':=g') (t':=t') (d':=d') u hok hg hch
end
abbrev XK:=Value->Option Addr->Hp->Prop
abbrev St:=List (Option V)
abbrev VK:=V->Hp->Prop
abbrev TE:=St->Hp->VK->Prop
abbrev TT:=St->Hp->(Bool->Hp->Prop)->Prop
abbrev TA:=St->Hp->(List V->Hp->Prop)->Prop
structure eN where
 nx:St->Hp->Prop
 rt:VK
 bk:St->Hp->Prop:=fun _ _=>False
 ct:St->Hp->Prop:=fun _ _=>False
abbrev TS:=eN->St->Hp->Prop
def EP (X:Cx)(pins:Tc)(Y:St)(Q:VK)(u:Value)(s':Shared):Prop:=∃v H',aA X pins Y H' s'/\aY v u/\Q v H'
def TP (X:Cx)(pins:Tc)(Y:St)(Q:Bool->Hp->Prop)(b:Bool)(s':Shared):Prop:=∃H',aA X pins Y H' s'/\Q b H'
def AP (X:Cx)(pins:Tc)(Y:St)(Q:List V->Hp->Prop)(us:Te)(s':Shared):Prop:=∃vs H',aA X pins Y H' s'/\aS vs us/\Q vs H'
def SP (X:Cx)(pins:Tc)(D:eN)(f:Flow)(s':Shared):Prop :=
 match f with
 |.next=>∃Y' H',aA X pins Y' H' s'/\D.nx Y' H'
 |.brk=>∃Y' H',aA X pins Y' H' s'/\D.bk Y' H'
 |.cont=>∃Y' H',aA X pins Y' H' s'/\D.ct Y' H'
 |.ret u=>∃v Y' H',aA X pins Y' H' s'/\aY v u/\D.rt v H'
def PE (X:Cx)(e:Expr)(t:TE):Prop :=
 ∀(pins:Tc) (s:Shared) (Y:St) (H:Hp) (Q:VK),aA X pins Y H s->t Y H Q->wpAny (model X.prog X.w) X.A (eval e X.env) (EP X pins Y Q) X.xe s
def PT (X:Cx)(e:Expr)(t:TT):Prop :=
 ∀(pins:Tc) (s:Shared) (Y:St) (H:Hp) (Q:Bool->Hp->Prop),aA X pins Y H s->t Y H Q->wpAny (model X.prog X.w) X.A (isTrue e X.env (eval e X.env)) (TP X pins Y Q) X.xe s
def PW (X:Cx)(e:Expr)(t:TT):Prop :=
 ∀(whole:Sem Value) (pins:Tc) (s:Shared) (Y:St) (H:Hp) (Q:Bool->Hp->Prop),aA X pins Y H s->t Y H Q->wpAny (model X.prog X.w) X.A (isTrue e X.env whole) (TP X pins Y Q) X.xe s
def PW.pt {t:TT}(h:PW X e t):PT X e t:=h _
def PA (X:Cx)(es:Tj)(t:TA):Prop :=
 ∀(pos:Pos) (pins:Tc) (s:Shared) (Y:St) (H:Hp) (Q:List V->Hp->Prop),aA X pins Y H s->t Y H Q->wpAny (model X.prog X.w) X.A (spliced (backTo pos (starEach es X.env))) (AP X pins Y Q) X.xe s
def PS (X:Cx)(st:Stmt)(t:TS):Prop :=
 ∀(pins:Tc) (s:Shared) (Y:St) (H:Hp) (D:eN),aA X pins Y H s->t D Y H->wpAny (model X.prog X.w) X.A (exec st X.env) (SP X pins D) X.xe s
def on (X:Cx)(st:Tk)(t:TS):Prop :=
 ∀(pins:Tc) (s:Shared) (Y:St) (H:Hp) (D:eN),aA X pins Y H s->t D Y H->wpAny (model X.prog X.w) X.A (execs st X.env) (SP X pins D) X.xe s
def db {Z:Type}{t:Sem Z}{Q Q':Z->Shared->Prop}{M:Model}{E:Tb}{s:Shared}(h:wpAny M A t Q E s)(hQ:∀a s,Q a s->Q' a s):wpAny M A t Q' E s:=zbx h hQ fun _ _ x=>x
section
variable {X:Cx}
def Mc (i:Nat):TE:=fun Y H Q=>∃v,Y[i]?=some (some v)/\Q v H
def tC (v:V):TE:=fun _ H Q=>Q v H
def JU {i:Nat}{x:Str}(hN:X.N[i]?=some x)(hv:O6 X.env.scope x)(hd:(x == ("__debug__" : Str))=false:=by decide)(hcd:(x == ("__classdict__" : Str))=false:=by decide):PE X (.Name x pos) (Mc i):=by
 intro pins s Y H Q I h;obtain ⟨v,e,h⟩:=h;obtain ⟨m,hn,hl⟩:=I.loc;obtain ⟨u,r,l⟩:=hl i x v hN e hv;have fin:EP X pins Y Q u s:=⟨v,H,I,r,h⟩;rcases l with ⟨hk,hm⟩|⟨hk,c,hc,hcell⟩
 ·exact wpAny_Name (wpAny_loadName_local I.ok.kind hk hn hm fin) hd
 ·rcases hk with hk|hk
  ·exact wpAny_Name (wpAny_loadName_cell I.ok.kind hk hc hcell fin) hd
  ·exact wpAny_Name (wpAny_loadName_free I.ok.kind hk hc hcell fin hcd) hd
def J0 {i j pos}:PE X (.Constant (.int i) j pos) (tC (.int i)):=fun _ _ _ H _ I h=>wpAny_Constant_int ⟨.int i,H,I.tok _,⟨_,rfl⟩,h⟩
def M5 {b j pos}:PE X (.Constant (.bool b) j pos) (tC (.bl b)):=fun _ _ _ H _ I h=>Constant_bool ⟨.bl b,H,I,rfl,h⟩
def ww {j pos}:PE X (.Constant .none j pos) (tC .non):=fun _ _ _ H _ I h=>Constant_none ⟨.non,H,I,rfl,h⟩
def JW {x j pos}:PE X (.Constant (.str x) j pos) (tC (.str x)):=fun _ _ _ H _ I h=>Calls.Constant_str ⟨.str x,H,I.tok _,⟨_,rfl⟩,h⟩
def Gl (X:Cx)(x:Str):Prop:=X.env.kindOf x=some .globalImplicit
def sy {E:Tb}{s:Shared}{H:Hp}{x:Str}{u:Value}{pos:Pos}{Q:Tb}(I:aA X pins Y H s)(hg:Gl X x)(hm:X.mg x=some u)(h:Q u s)
  (hd:(x == ("__debug__" : Str))=false:=by decide):wpAny (model X.prog X.w) X.A (eval (.Name x pos) X.env) Q E s :=
 Calls.Name_function_global I.ok.kind hg (Calls.loadGlobal_global (by rw [I.ok.glob];exact I.mod.glob.keeps I.bk) hm h) hd
def sA {E:Tb}{s:Shared}{H:Hp}{x:Str}{u:Value}{pos:Pos}{Q:Tb}(I:aA X pins Y H s)(hg:Gl X x)(hm:X.mg x=none)(hv:bootBuiltins x=some u)(h:Q u s)
  (hn:x≠"__name__":=by decide) (hd:(x == ("__debug__" : Str))=false:=by decide):wpAny (model X.prog X.w) X.A (eval (.Name x pos) X.env) Q E s:=by
 obtain ⟨mb,h1,h2⟩:=I.mod.blt;exact Calls.Name_function_global I.ok.kind hg (Calls.loadGlobal_builtin (by rw [I.ok.glob];exact I.mod.glob.keeps I.bk) hm (by rw [I.ok.blt];exact h1.keeps I.bk) ((h2 x hn).trans hv) h) hd
def E8 {x:Str}{v:V}{u:Value}(hg:Gl X x)(hm:X.mg x=some u)(r:aY v u)(hd:(x == ("__debug__" : Str))=false:=by decide):PE X (.Name x pos) (tC v) :=
 fun _ _ _ H _ I h=>sy I hg hm ⟨v,H,I,r,h⟩ hd
variable {a b:Expr}{ta tb:TE}{pos:Pos}
def tB (t:TE):TT:=fun Y H Q=>t Y H fun x H1=>∃c,x=.bl c/\Q c H1
variable {tA tB':TT}{rest:Tj}
def Mo (t u:TT):TT:=fun Y H Q=>t Y H fun c H1=>if c=true then u Y H1 Q else Q false H1
def Q0 (t u:TT):TT:=fun Y H Q=>t Y H fun c H1=>if c=true then Q true H1 else u Y H1 Q
def Mj (t:TT):TT:=fun Y H Q=>t Y H fun c H1=>Q (!c) H1
theorem ER (ha:PT X a tA):PW X (.BoolOp .And [a] pos) tA:=by
 intro wh pins s Y H Q I h;refine isTrue_and (db (ha pins s Y H Q I h) fun c s1 e=>?_)
 cases c with
 |true=>exact isTrue_and_nil e
 |false=>exact e
theorem JK (ha:PT X a tA):PW X (.BoolOp .Or [a] pos) tA:=by
 intro wh pins s Y H Q I h;refine isTrue_or (db (ha pins s Y H Q I h) fun c s1 e=>?_)
 cases c with
 |false=>exact isTrue_or_nil e
 |true=>exact e
theorem JL (ha:PT X a tA)(hb:PW X (.BoolOp .And (b::rest) pos) tB'):PW X (.BoolOp .And (a::b::rest) pos) (Mo tA tB'):=by
 intro wh pins s Y H Q I h;refine isTrue_and (db (ha pins s Y H _ I h) fun c s1 hh=>?_);obtain ⟨H1,I1,q1⟩:=hh
 cases c with
 |true=>exact hb wh pins s1 Y H1 Q I1 q1
 |false=>exact ⟨H1,I1,q1⟩
theorem MY (ha:PT X a tA)(hb:PW X (.BoolOp .Or (b::rest) pos) tB'):PW X (.BoolOp .Or (a::b::rest) pos) (Q0 tA tB'):=by
 intro wh pins s Y H Q I h;refine isTrue_or (db (ha pins s Y H _ I h) fun c s1 hh=>?_);obtain ⟨H1,I1,q1⟩:=hh
 cases c with
 |true=>exact ⟨H1,I1,q1⟩
 |false=>exact hb wh pins s1 Y H1 Q I1 q1
def JO (ha:PT X a tA):PT X (.UnaryOp .Not a pos) (Mj tA):=by intro pins s Y H Q I h;exact isTrue_not (ha pins s Y H (fun c H1=>Q (!c) H1) I h)
def Hk (ta tb:TE):TE:=fun Y H Q=>ta Y H fun x H1=>∃c,x=.bl c/\if c=true then tb Y H1 Q else Q (.bl false) H1
def Mi (ta tb:TE):TE:=fun Y H Q=>ta Y H fun x H1=>∃c,x=.bl c/\if c=true then Q (.bl true) H1 else tb Y H1 Q
def Hf (ta:TE):TE:=fun Y H Q=>ta Y H fun x H1=>∃c,x=.bl c/\Q (.bl (!c)) H1
def JX {op}{t:TE}(h:PE X a t):PE X (.BoolOp op [a] pos) t:=fun pins s Y H Q I hw=>BoolOp_one (h pins s Y H Q I hw)
theorem J2 (ha:PE X a ta)(hb:PE X (.BoolOp .And (b::rest) pos) tb):PE X (.BoolOp .And (a::b::rest) pos) (Hk ta tb):=by
 intro pins s Y H Q I h;refine BoolOp_and (db (ha pins s Y H _ I h) fun v s1 hh=>?_);obtain ⟨x,H1,I1,r1,q1⟩:=hh;obtain ⟨c,rfl,q1⟩:=q1;cases r1;refine zce ?_
 cases c with
 |true=>exact hb pins s1 Y H1 Q I1 q1
 |false=>exact ⟨.bl false,H1,I1,rfl,q1⟩
theorem M3 (ha:PE X a ta)(hb:PE X (.BoolOp .Or (b::rest) pos) tb):PE X (.BoolOp .Or (a::b::rest) pos) (Mi ta tb):=by
 intro pins s Y H Q I h;refine BoolOp_or (db (ha pins s Y H _ I h) fun v s1 hh=>?_);obtain ⟨x,H1,I1,r1,q1⟩:=hh;obtain ⟨c,rfl,q1⟩:=q1;cases r1;refine zce ?_
 cases c with
 |false=>exact hb pins s1 Y H1 Q I1 q1
 |true=>exact ⟨.bl true,H1,I1,rfl,q1⟩
def JY (ha:PE X a ta):PE X (.UnaryOp .Not a pos) (Hf ta):=by intro pins s Y H Q I h;refine UnaryOp_ (db (ha pins s Y H _ I h) fun v s1 hh=>?_);obtain ⟨x,H1,I1,r1,q1⟩:=hh;obtain ⟨c,rfl,q1⟩:=q1;cases r1;exact not_of (zce ⟨.bl (!c),H1,I1,rfl,q1⟩)
def Q1 (t:TT)(ta tb:TE):TE:=fun Y H Q=>t Y H fun c H1=>if c=true then ta Y H1 Q else tb Y H1 Q
theorem Cd {c:Expr}(hc:PT X c tA)(ha:PE X a ta)(hb:PE X b tb):PE X (.IfExp c a b pos) (Q1 tA ta tb):=by
 intro pins s Y H Q I h;refine wpAny_IfExp (db (hc pins s Y H _ I h) fun d s1 hh=>?_);obtain ⟨H1,I1,q1⟩:=hh
 cases d with
 |true=>exact ha pins s1 Y H1 Q I1 q1
 |false=>exact hb pins s1 Y H1 Q I1 q1
end
def jF (K:zac)(H:Hp)(a:Addr)(xs:List V):Prop :=
 Rd H a (.lst xs) \/
  ∃(o:Obj) (its:Ti) (n:Nat),K.lookup a=some o/\o.cls=.type "list"/\(o.dict=none/\o.slots = #[])/\o.data=.seq its n/\its.size<=sizeLine/\aS xs its.toList
def gQ (K:zac)(H:Hp)(a:Addr)(xs:List V):Prop :=
 Rd H a (.tup xs) \/
  ∃(o:Obj) (its:Ti) (n:Nat),K.lookup a=some o/\o.cls=.type "tuple"/\o.dict=none/\o.data=.seq its n/\its.size<=sizeLine/\aS xs its.toList
def QC:Value->Option V
 |.none=>some .non
 |.bool b=>some (.bl b)
 |.int i _=>some (.int i)
 |.str x _=>some (.str x)
 |.bytes b _=>some (.byt b)
 |.float b _=>some (.flt b)
 |.ref a=>some (.ref a)
 |.type n=>some (.ty n)
 |_=>none
theorem aY.abs {x:V}{u:Value}(r:aY x u):QC u=some x:=by
 cases x with
 |non=>cases r;rfl
 |bl _=>cases r;rfl
 |int _=>obtain ⟨t,rfl⟩:=r;rfl
 |str _=>obtain ⟨t,rfl⟩:=r;rfl
 |byt _=>obtain ⟨t,rfl⟩:=r;rfl
 |flt _=>obtain ⟨t,rfl⟩:=r;rfl
 |ref _=>cases r;rfl
 |ty _=>cases r;rfl
def aY.inj {x y:V}{u:Value}(r:aY x u)(q:aY y u):x=y:=Option.some.inj (r.abs.symm.trans q.abs)
theorem aS.inj {xs ys:List V}{us:Te}(h:aS xs us):aS ys us->xs=ys:=by
 induction h generalizing ys with
 |nil=>intro q;cases q;rfl
 |cons r t ih=>intro q;cases q with|cons r' t'=>rw [r.inj r',ih t']
section
variable {X:Cx}{pins:Tc}{Y:St}{H:Hp}{s:Shared}{a:Addr}{xs ys:List V}
def gQ.of {K:zac}(h:H a=some (.tup xs)):gQ K H a xs:=.inl (.inl h)
def aA.list (I:aA X pins Y H s)(h:jF X.K H a xs):∃its:Te,aS xs its/\PlainL s.heap a its.toArray/\xs.length<=sizeLine:=by
 rcases h with h|⟨o,its,n,hk,hc,hd,hs,hz,r⟩
 ·obtain ⟨z,its,n,r,e⟩:=h.ok I.hok;exact ⟨its,r,⟨_,n,e,rfl,rfl,rfl⟩,z⟩
 ·refine ⟨its.toList,r,⟨o,n,I.kIn a o hk,hc,hd.1,by simpa using hs⟩,?_⟩;have e:=r.length;simp only [za8] at e;omega
def aA.tuple (I:aA X pins Y H s)(h:gQ X.K H a xs):∃its:Te,aS xs its/\IsTup s.heap a its.toArray/\xs.length<=sizeLine:=by
 rcases h with h|⟨o,its,n,hk,hc,hn,hs,hz,r⟩
 ·obtain ⟨z,its,r,p⟩:=h.ok I.hok;exact ⟨its,r,p.1,z⟩
 ·refine ⟨its.toList,r,⟨o,I.kIn a o hk,hc,n,by simpa using hs⟩,?_⟩;have e:=r.length;simp only [za8] at e;omega
def aA.list_inj (I:aA X pins Y H s)(h:jF X.K H a xs)(h':jF X.K H a ys):xs=ys:=by
 obtain ⟨its,r,⟨o,n,e,_,_,d⟩,_⟩:=I.list h;obtain ⟨its',r',⟨o',n',e',_,_,d'⟩,_⟩:=I.list h';rw [e] at e';cases e';rw [d] at d';injection d' with d1 _
 have:its=its':=by simpa using congrArg Array.toList d1
 subst this;exact r.inj r'
def aA.tuple_inj (I:aA X pins Y H s)(h:gQ X.K H a xs)(h':gQ X.K H a ys):xs=ys:=by
 obtain ⟨its,r,⟨o,e,_,n,d⟩,_⟩:=I.tuple h;obtain ⟨its',r',⟨o',e',_,n',d'⟩,_⟩:=I.tuple h';rw [e] at e';cases e';rw [d] at d';injection d' with d1 _
 have:its=its':=by simpa using congrArg Array.toList d1
 subst this;exact r.inj r'
end
abbrev Cx.wish (X:Cx)(E:Tb):Cx:={X with xe:=E}
abbrev Cx.nox (X:Cx):Cx:=X.wish fun _ _=>False
def Cx.Ok.wish {X:Cx}(ok:X.Ok)(E:Tb):(X.wish E).Ok :=
 ⟨ok.mod,ok.kind,ok.glob,ok.blt,ok.above,ok.inj,ok.has,ok.cab,ok.hd,ok.frames,ok.stk,ok.exf,ok.bs,ok.bsz,ok.noex,ok.exfs,ok.funs,ok.frf⟩
def Cx.Ok.unwish {X:Cx}{E:Tb}(ok:(X.wish E).Ok):X.Ok :=
 ⟨ok.mod,ok.kind,ok.glob,ok.blt,ok.above,ok.inj,ok.has,ok.cab,ok.hd,ok.frames,ok.stk,ok.exf,ok.bs,ok.bsz,ok.noex,ok.exfs,ok.funs,ok.frf⟩
section
variable {X:Cx}{pins:Tc}{Y:St}{H:Hp}{s:Shared}{E:Tb}
def aA.wish (I:aA X pins Y H s)(E:Tb):aA (X.wish E) pins Y H s:=⟨I.ok.wish E,I.os,I.bare,I.base,I.loc,I.cell,I.free,I.freeC,I.pin,I.hok,I.len⟩
def aA.unwish (I:aA (X.wish E) pins Y H s):aA X pins Y H s:=⟨I.ok.unwish,I.os,I.bare,I.base,I.loc,I.cell,I.free,I.freeC,I.pin,I.hok,I.len⟩
theorem SP.unwish {D:eN}{f:Flow}{s':Shared}(h:SP (X.wish E) pins D f s'):SP X pins D f s':=by
 cases f with
 |next=>obtain ⟨Y',H',I,q⟩:=h;exact ⟨Y',H',I.unwish,q⟩
 |brk=>obtain ⟨Y',H',I,q⟩:=h;exact ⟨Y',H',I.unwish,q⟩
 |cont=>obtain ⟨Y',H',I,q⟩:=h;exact ⟨Y',H',I.unwish,q⟩
 |ret u=>obtain ⟨v,Y',H',I,r,q⟩:=h;exact ⟨v,Y',H',I.unwish,r,q⟩
def on.nox {st:Tk}{t:TS}(h:on X.nox st t):on X st t:=fun pins s Y H D I hw =>
 zbx (h pins s Y H D (I.wish _) hw) (fun _ _ q=>q.unwish) fun _ _ z=>False.elim z
end
section
variable {X:Cx}{st:Stmt}{rest:Tk}{t u:TS}{e:Expr}{te:TE}{pos:Pos}
def Hg:TS:=fun D Y H=>D.nx Y H
def Me (t u:TS):TS:=fun D Y H=>t {D with nx:=u D} Y H
def EX:on X [] Hg:=fun _ _ Y H _ I h=>zc5 ⟨Y,H,I,h⟩
theorem B0 (h1:PS X st t)(h2:on X rest u):on X (st::rest) (Me t u):=by
 intro pins s Y H D I h;refine wpAny_execs_cons (db (h1 pins s Y H {D with nx:=u D} I h) fun f s1 q=>?_)
 cases f with
 |next =>
  obtain ⟨Y',H',I',q⟩:=q;exact h2 pins s1 Y' H' D I' q
 |ret v=>exact q
 |brk=>exact q
 |cont=>exact q
theorem EW (h1:PS X st t):on X [st] t:=by
 intro pins s Y H D I h;refine wpAny_execs_cons (db (h1 pins s Y H D I h) fun f s1 q=>?_)
 cases f with
 |next=>exact zc5 q
 |ret v=>exact q
 |brk=>exact q
 |cont=>exact q
def Ba:TS:=fun D Y H=>D.bk Y H
def B3:PS X (.Break pos) Ba:=fun _ _ Y H _ I h=>wpAny_Break ⟨Y,H,I,h⟩
def aA.quiet {H:Hp}{s:Shared}(I:aA X pins Y H s):interactive X.env=false:=by simp [interactive,I.ok.kind]
def Hj (te:TE):TS:=fun D Y H=>te Y H fun _ H1=>D.nx Y H1
theorem EY (he:PE X e te)(hs:swapsWith e none pos.line X.env=pure false:=by rfl):PS X (.Expr e pos) (Hj te):=by intro pins s Y H D I h;exact wpAny_Expr_any (db (he pins s Y H _ I h) fun v s1 ⟨x,H1,I1,r1,q1⟩=>⟨Y,H1,I1,q1⟩) I.quiet hs
def Mf (te:TE):TS:=fun D Y H=>te Y H D.rt
def JQ (he:PE X e te):PS X (.Return (some e) pos) (Mf te):=by intro pins s Y H D I h;exact wpAny_Return_some (db (he pins s Y H _ I h) fun v s1 ⟨x,H1,I1,r1,q1⟩=>⟨x,Y,H1,I1,r1,q1⟩)
def Mm (c:TT)(t u:TS):TS:=fun D Y H=>c Y H fun b H1=>if b=true then t D Y H1 else u D Y H1
theorem MZ {c:Expr}{a b:Tk}{tc:TT}(hc:PT X c tc)(ha:on X a t)(hb:on X b u):PS X (.If c a b pos) (Mm tc t u):=by
 intro pins s Y H D I h;refine wpAny_If (db (hc pins s Y H _ I h) fun d s1 hh=>?_);obtain ⟨H1,I1,q1⟩:=hh
 cases d with
 |true=>exact ha pins s1 Y H1 D I1 q1
 |false=>exact hb pins s1 Y H1 D I1 q1
end
abbrev TG:=V->St->Hp->(St->Hp->Prop)->Prop
abbrev D3:=List V->St->Hp->(St->Hp->Prop)->Prop
def PG (X:Cx)(target:Expr)(t:TG):Prop :=
 ∀(pins:Tc) (s:Shared) (Y:St) (H:Hp) (v:V) (u:Value) (Q:St->Hp->Prop),aA X pins Y H s->aY v u->t v Y H Q ->
  wpAny (model X.prog X.w) X.A (assign target X.env u) (fun _ s'=>∃Y' H',aA X pins Y' H' s'/\Q Y' H') X.xe s
def D4 (X:Cx)(ts:Tj)(t:D3):Prop :=
 ∀(pins:Tc) (s:Shared) (Y:St) (H:Hp) (vs:List V) (us:Te) (Q:St->Hp->Prop),aA X pins Y H s->aS vs us->t vs Y H Q ->
  wpAny (model X.prog X.w) X.A (assignInOrder ((assignEach ts X.env).map (·.2)) us) (fun _ s'=>∃Y' H',aA X pins Y' H' s'/\Q Y' H') X.xe s
abbrev Gs:=V->V->V->Hp->(Hp->Prop)->Prop
def tF (X:Cx)(t:Gs):Prop :=
 ∀(pins:Tc) (s:Shared) (Y:St) (H:Hp) (o i v:V) (ov iv u:Value) (Q:Hp->Prop),aA X pins Y H s->aY o ov->aY i iv->aY v u->t o i v H Q ->
  wpAny (model X.prog X.w) X.A (setItem ov iv u) (fun _ s'=>∃H',aA X pins Y H' s'/\Q H') X.xe s
section
variable {X:Cx}{pos:Pos}
def qZ (i:Nat):TG:=fun v Y H Q=>Q (Y.set i (some v)) H
def E4 {i:Nat}{x:Str}(hN:X.N.Nodup)(hi:X.N[i]?=some x)(hx:Gw X.env.scope x)(hf:X.fn x=true\/X.env.scope.names.lookup x=some .local:=by first|exact .inl rfl|exact .inr rfl|assumption):PG X (.Name x pos) (qZ i):=by intro pins s Y H v u Q I r h;exact wpAny_assign_Name (et I hN hi hx r (fun s' I'=>⟨_,H,I',h⟩) hf)
def NK:D3:=fun vs Y H Q=>vs=[]/\Q Y H
def HV (t:TG)(u:D3):D3:=fun vs Y H Q=>∃v r,vs=v::r/\t v Y H fun Y' H'=>u r Y' H' Q
def E3:D4 X [] NK:=by intro pins s Y H vs us Q I r h;obtain ⟨e,h⟩:=h;subst e;cases r;exact assignInOrder_nil ⟨Y,H,I,h⟩
theorem Cb {e:Expr}{es:Tj}{t:TG}{u:D3}(h1:PG X e t)(h2:D4 X es u)
  (hs:(assignEach (e::es) X.env).map (·.2)=assign e X.env::(assignEach es X.env).map (·.2):=by rfl):D4 X (e::es) (HV t u):=by
 intro pins s Y H vs us Q I r h;obtain ⟨v,vr,e1,h⟩:=h;subst e1
 cases r with
 |cons r rr =>
  rw [hs];refine assignInOrder_cons (db (h1 pins s Y H _ _ _ I r h) fun _ s1 hh=>?_);obtain ⟨Y1,H1,I1,q1⟩:=hh;exact h2 pins s1 Y1 H1 _ _ Q I1 rr q1
def NJ (K:zac)(n:Nat)(t:D3):TG:=fun v Y H Q=>∃a xs,v=.ref a/\gQ K H a xs/\xs.length=n/\t xs Y H Q
theorem JT {es:Tj}{k:Nat}{t:D3}{n:Nat}(hc:X.calm=true)(h:D4 X es t)
  (hn:(assignEach es X.env).length=n:=by rfl) (hst:(assignEach es X.env).findIdx? (·.1)=none:=by rfl):PG X (.Tuple es k pos) (NJ X.K n t):=by
 intro pins s Y H v u Q I r hw;obtain ⟨a,xs,e1,hq,hl,hw⟩:=hw;subst e1;cases r;obtain ⟨its,rv,ht,hz⟩:=I.tuple hq;refine assign_Tuple_tuple (I.ok.hd hc) ht (by simp [hn,←hl,rv.length]) hst fun h' hx=>?_;have I1:aA X pins Y H {s with heap:=h'}:=I.kept (t':=s.toks) fun b o e=>hx b o (zap (zah e)) e;exact h pins _ Y H xs _ Q I1 (by simpa using rv) hw
def qx (to ti:TE)(t:Gs):TG:=fun v Y H Q=>to Y H fun o H1=>ti Y H1 fun i H2=>t o i v H2 fun H3=>Q Y H3
def Cc {o i:Expr}{to ti:TE}{t:Gs}(ho:PE X o to)(hi:PE X i ti)(hs:tF X t)
  (ha:∀v,assign (.Subscript o i pos) X.env v=(do
   let ov ←holding [v] (eval o X.env)
   let iv ←holding [v,ov] (eval i X.env)
   standAt pos
   holding [v,ov,iv] (setItem ov iv v)
   release [v,ov,iv] []):=by intro _;rfl):PG X (.Subscript o i pos) (qx to ti t):=by
 intro pins s Y H v u Q I r h;rw [ha];refine zaa (zaI (db (ho pins s Y H _ I h) fun ov s1 hh=>?_));obtain ⟨x,H1,I1,r1,q1⟩:=hh;refine zaa (zaI (db (hi pins s1 Y H1 _ I1 q1) fun iv s2 hh=>?_));obtain ⟨y,H2,I2,r2,q2⟩:=hh;refine zaa (wpAny_standAt (zaa (zaI (db (hs pins s2 Y H2 x y v ov iv u _ I2 r1 r2 r q2) fun _ s3 hh=>?_))));obtain ⟨H3,I3,q3⟩:=hh;exact wpAny_release ⟨Y,H3,I3,q3⟩
def Bb (te:TE)(g:TG):TS:=fun D Y H=>te Y H fun x H1=>g x Y H1 D.nx
theorem JS {tg e:Expr}{te:TE}{g:TG}(he:PE X e te)(hg:PG X tg g)(hs:swapsWithSole [tg] e pos.line X.env=pure false:=by rfl)(hw:swappedStores [tg] e X.env=pure none:=by rfl)
  (h1:(assignEach [tg] X.env).map (·.2)=[assign tg X.env]:=by rfl):PS X (.Assign [tg] e pos) (Bb te g):=by
 intro pins s Y H D I h;refine wpAny_Assign_stores (db (he pins s Y H _ I h) fun v s1 hh=>?_) hs hw;obtain ⟨x,H1,I1,r1,q1⟩:=hh;rw [h1];exact db (hg pins s1 Y H1 x v _ I1 r1 q1) fun _ s2 q=>q
theorem JP {i:Nat}{x:Str}{te:TE}{pos':Pos}(hN:X.N.Nodup)(hi:X.N[i]?=some x)(hx:Gw X.env.scope x)(he:PE X e te)(hs:swapsWith e (some (.Name x pos')) pos.line X.env=pure false:=by rfl)(hf:X.fn x=true\/X.env.scope.names.lookup x=some .local:=by first|exact .inl rfl|exact .inr rfl|assumption) :
  PS X (.Assign [.Name x pos'] e pos) (Bb te (qZ i)):=by
 intro pins s Y H D I h;refine wpAny_Assign_Name (db (he pins s Y H _ I h) fun v s1 hh=>?_) hs;obtain ⟨y,H1,I1,r1,q1⟩:=hh;exact et I1 hN hi hx r1 (fun s2 I2=>⟨_,H1,I2,q1⟩) hf
end
structure It where
 go:Nat->Hp->Prop
 yld:Nat->Hp->V->Hp->Prop
 stop:Nat->Hp->Prop
def mF (X:Cx)(pins:Tc)(H:Hp)(b:Addr):Prop :=
 H b=none/\b≠X.env.locals/\b∉X.fs/\(b∈X.ex\/X.s₀.heap.objs.size<=b)/\(∀x c,X.env.cells.lookup x=some c->c≠b)/\∀p∈X.pn++pins,p.1≠b
def aA.fpOk {H H':Hp}{s:Shared}{b:Addr}(I:aA X pins Y H s)(hb:s.heap.objs.size<=b)(hn:H' b=none):mF X pins H' b:=by
 refine ⟨hn,zaV (zax I.lt hb),I.nofs hb,.inr (zbg I.sz hb),fun x c e z=>?_,fun p hp z=>?_⟩
 ·obtain ⟨v,q⟩:=I.cell x c e;exact absurd (zax q.lt (by rw [z];exact hb)) (zaP _)
 ·exact absurd (zax (zah (I.pin p hp).1) (by rw [z];exact hb)) (zaP _)
structure vE (P:Program)(w:World)(K:zac)(tg:Expr)(J:It)(fp:Tf)(it:Addr)(tn:Nat->Heap->Prop):Prop where
 mem:it∈fp
 obj:∀i h,tn i h->∀b∈fp,∃o,h.get? b=some o/\∀v,o.data≠.cell v
 keep:∀i h h',tn i h->(∀b∈fp,∀o,h.get? b=some o->h'.get? b=some o)->tn i h'
 item:∀(X:Cx),X.prog=P->X.w=w->X.K=K->X.calm=true->∀(i:Nat) (pins:Tc) (s:Shared) (Y:St) (H:Hp) (E:Tb),aA X pins Y H s->(∀b∈fp,mF X pins H b)->tn i s.heap->J.go i H ->
  wpAny (model P w) X.A (pyNext (.ref it)) (fun r s1=>∃u,r=some u /\
   wpAny (model P w) X.A (letOwnedTupleGo tg (.ref it) u) (fun _ s2=>∃x H',aA X pins Y H' s2/\aY x u/\J.yld i H x H'/\tn (i+1) s2.heap/\∀b∈fp,H' b=none) E s1) E s
 done:∀(X:Cx),X.prog=P->X.w=w->X.K=K->X.calm=true->∀(i:Nat) (pins:Tc) (s:Shared) (Y:St) (H:Hp) (E:Tb),aA X pins Y H s->(∀b∈fp,mF X pins H b)->tn i s.heap->J.stop i H ->
  wpAny (model P w) X.A (pyNext (.ref it)) (fun r s1=>r=none/\aA X pins Y H s1) E s
 self:∀(A:Around) (i:Nat) (s:Shared) (Q:Tb) (E:Tb),tn i s.heap->Q (.ref it) s->wpAny (model P w) A (pyIter (.ref it)) Q E s
abbrev TI:=St->Hp->(It->Hp->Prop)->Prop
def QI (X:Cx)(pins:Tc)(Y:St)(tg:Expr)(R:It->Hp->Prop)(itv:Value)(s2:Shared):Prop :=
 ∃(it:Addr) (fp:Tf) (tn:Nat->Heap->Prop) (J:It) (H':Hp),itv=.ref it/\aA X pins Y H' s2/\vE X.prog X.w X.K tg J fp it tn/\tn 0 s2.heap/\(∀b∈fp,mF X pins H' b)/\R J H'
def PI (X:Cx)(tg iter:Expr)(wi:TI):Prop :=
 ∀(pins:Tc) (s:Shared) (Y:St) (H:Hp) (R:It->Hp->Prop),aA X pins Y H s->wi Y H R ->
  wpAny (model X.prog X.w) X.A (eval iter X.env) (fun v s1=>wpAny (model X.prog X.w) X.A (pyIter v) (QI X pins Y tg R) X.xe s1) X.xe s
def uV {M : Model} {A : Around} {E : Tb} {s : Shared} {tg : Expr} {it : Addr} {u : Value} {o : Obj} {n : String} {vs : Ti} {Q : Unit -> Shared -> Prop} (ho : s.heap.get? it = some o) (hc : o.cls = .type n) (hd : o.data = .fields vs)
    (hn : ["enumerate", "zip", "dict_itemiterator", "dict_reverseitemiterator", "odict_iterator", "itertools.zip_longest", "itertools.pairwise"].contains n = false) (hQ : Q () s) : wpAny M A (letOwnedTupleGo tg (.ref it) u) Q E s := by
  unfold letOwnedTupleGo
  cases tg <;> first
    | exact zad hQ
    | (cases u <;> first
        | exact zad hQ
        | (refine zaa (wpAny_load ho ?_)
           rw [hc, hd]
           show wpAny M A (if (["enumerate", "zip", "dict_itemiterator", "dict_reverseitemiterator", "odict_iterator", "itertools.zip_longest", "itertools.pairwise"].contains n && vs[0]? == some (rawInt _)) = true then _ else _) Q E s
           rw [if_neg (by intro h; rw [hn, zcw] at h; cases h)]
           exact zad hQ))
def QL (K:zac)(a:Addr):It :=
 ⟨fun i H=>∃xs x,jF K H a xs/\xs[i]?=some x,fun i H x H'=>H'=H/\∀xs,jF K H a xs->xs[i]?=some x,fun i H=>∃xs,jF K H a xs/\xs.length<=i⟩
def QK (K:zac)(a:Addr):It :=
 ⟨fun i H=>∃xs x,gQ K H a xs/\xs[i]?=some x,fun i H x H'=>H'=H/\∀xs,gQ K H a xs->xs[i]?=some x,fun i H=>∃xs,gQ K H a xs/\xs.length<=i⟩
def O8 (lo:Int)(n:Nat):It:=⟨fun i _=>i < n,fun i H x H'=>H'=H/\x=.int (lo+i),fun i _=>n<=i⟩
theorem zd {K:zac}{tg:Expr}(a it:Addr):vE P w K tg (QL K a) [it] it (fun i h=>h.IsListIter it a i) where
 mem:=by simp
 obj:=fun i h st b hb=>by
  have e:b=it:=by simpa using hb
  subst e;obtain ⟨o,e,c,d⟩:=st;exact ⟨o,e,fun v z=>by rw [d] at z;cases z⟩
 keep:=fun i h h' st k=>st.at fun o e=>k it (by simp) o e
 item:=by intro X hP hw hK hc i pins s Y H E I hf st hg;subst hP hw hK;obtain ⟨xs,x,hq,hx⟩:=hg;obtain ⟨its,rv,p,hz⟩:=I.list hq;obtain ⟨u,hu,ru⟩:=rv.get hx;obtain ⟨f0,f1,f2,f3,f4,f5⟩:=hf it (by simp);refine wpAny_pyNext_list_item st p.isList (x:=u) (by simpa using hu) fun h' st' sb=>?_;have I1:aA X pins Y H {s with heap:=h'}:=I.turned (t':=s.toks) (fun b o hb e=>(sb.2 b hb).trans e) f0 f1 f3 f4 f5;obtain ⟨o,e,c,d⟩:=id st';exact ⟨u,rfl,uV (s:={s with heap:=h'}) e c d (by decide) ⟨x,H,I1,ru,⟨rfl,fun ys hy=>by rw [I.list_inj hy hq];exact hx⟩,st',fun b hb=>(hf b hb).1⟩⟩
 done:=by intro X hP hw hK hc i pins s Y H E I hf st hg;subst hP hw hK;obtain ⟨xs,hq,hx⟩:=hg;obtain ⟨its,rv,p,hz⟩:=I.list hq;obtain ⟨f0,f1,f2,f3,f4,f5⟩:=hf it (by simp);have hl:=rv.length;exact wpAny_pyNext_list_end (I.ok.hd hc) st p.isList (by simp;omega) fun h' eb=>⟨rfl,I.turned (t':=s.toks) (fun b o hb e=>eb b o hb e) f0 f1 f3 f4 f5⟩
 self:=fun _ _ _ _ _ st h=>wpAny_pyIter_listiter st h
theorem vW {K:zac}{tg:Expr}(a it:Addr):vE P w K tg (QK K a) [it] it (fun i h=>h.IsTupleIter it a i) where
 mem:=by simp
 obj:=fun i h st b hb=>by
  have e:b=it:=by simpa using hb
  subst e;obtain ⟨o,e,c,d⟩:=st;exact ⟨o,e,fun v z=>by rw [d] at z;cases z⟩
 keep:=fun i h h' st k=>st.at fun o e=>k it (by simp) o e
 item:=by intro X hP hw hK hc i pins s Y H E I hf st hg;subst hP hw hK;obtain ⟨xs,x,hq,hx⟩:=hg;obtain ⟨its,rv,p,hz⟩:=I.tuple hq;obtain ⟨u,hu,ru⟩:=rv.get hx;obtain ⟨f0,f1,f2,f3,f4,f5⟩:=hf it (by simp);refine wpAny_pyNext_tuple_item st (show s.heap.IsTuple a its.toArray from p) (x:=u) (by simpa using hu) fun h' st' sb=>?_;have I1:aA X pins Y H {s with heap:=h'}:=I.turned (t':=s.toks) (fun b o hb e=>(sb.2 b hb).trans e) f0 f1 f3 f4 f5;obtain ⟨o,e,c,d⟩:=id st';exact ⟨u,rfl,uV (s:={s with heap:=h'}) e c d (by decide) ⟨x,H,I1,ru,⟨rfl,fun ys hy=>by rw [I.tuple_inj hy hq];exact hx⟩,st',fun b hb=>(hf b hb).1⟩⟩
 done:=by intro X hP hw hK hc i pins s Y H E I hf st hg;subst hP hw hK;obtain ⟨xs,hq,hx⟩:=hg;obtain ⟨its,rv,p,hz⟩:=I.tuple hq;obtain ⟨f0,f1,f2,f3,f4,f5⟩:=hf it (by simp);have hl:=rv.length;exact wpAny_pyNext_tuple_end (I.ok.hd hc) st (show s.heap.IsTuple a its.toArray from p) (by simp;omega) fun h' eb=>⟨rfl,I.turned (t':=s.toks) (fun b o hb e=>eb b o hb e) f0 f1 f3 f4 f5⟩
 self:=fun _ _ _ _ _ st h=>wpAny_pyIter_tupleiter st h
def vX {w:World}{K:zac}{tg:Expr}(it:Addr)(lo:Int)(n:Nat):vE P w K tg (O8 lo n) [it] it (fun i h=>IsRangeIter h it (lo+(i:Nat) * 1) ((n:Int) - (i:Nat)) 1) where
 mem:=by simp
 obj:=fun i h st b hb=>by
  have e:b=it:=by simpa using hb
  subst e;exact ⟨_,st,fun v z=>by
   have z':Data.fields _=Data.cell v:=z
   cases z'⟩
 keep:=fun i h h' st k=>k it (by simp) _ st
 item:=by intro X hP hw hK hc i pins s Y H E I hf st hg;subst hP hw hK;obtain ⟨f0,f1,f2,f3,f4,f5⟩:=hf it (by simp);have W:=Walks.range (prog:=X.prog) (w:=X.w) (I.ok.hd hc) it lo 1 n;refine W.item i s _ _ hg st fun v h' tk hv st' kk=>?_;obtain ⟨t,rfl⟩:=hv;have I1:aA X pins Y H {s with heap:=h',toks:=tk}:=I.turned (fun b o hb e=>kk b o (by simpa using hb) e) f0 f1 f3 f4 f5;refine ⟨_,rfl,uV (s:={s with heap:=h',toks:=tk}) (n:="range_iterator") st' rfl rfl (by decide) ⟨.int (lo+i),H,I1,⟨t,?_⟩,⟨rfl,rfl⟩,st',fun b hb=>(hf b hb).1⟩⟩;rw [Int.mul_one]
 done:=by intro X hP hw hK hc i pins s Y H E I hf st hg;subst hP hw hK;obtain ⟨f0,f1,f2,f3,f4,f5⟩:=hf it (by simp);exact wpAny_pyNext_range_end (I.ok.hd hc) st (by have:n<=i:=hg;omega) fun h' eb=>⟨rfl,I.turned (t':=s.toks) (fun b o hb e=>eb b o hb e) f0 f1 f3 f4 f5⟩
 self:=fun _ _ _ _ _ st h=>wpAny_pyIter_rangeiter st h
section
variable {X:Cx}{tg:Expr}
def BH {H:Hp}{s:Shared}{R:It->Hp->Prop}{E:Tb}{lo hi:Int}{t u v:Tok}{tk:Nat}(I:aA X pins Y H s)(h1 : -(2 ^ 62)<=lo)(h2:lo < 2 ^ 62)(h3 : -(2 ^ 62)<=hi)(h4:hi < 2 ^ 62)
  (q:R (O8 lo (hi - lo).toNat) H):wpAny (model X.prog X.w) X.A (pyIter (.ref s.heap.objs.size)) (QI X pins Y tg R) E {s with heap:=s.heap.push {cls:=.type "range",data:=.fields #[.int lo t,.int hi u,.int 1 v]},toks:=tk}:=by
 refine wpAny_pyIter_range (IsRange.new ..) (small_one h1 h2 h3 h4) ?_;have I1:aA X pins Y H {s with heap:=s.heap.push {cls:=.type "range",data:=.fields #[.int lo t,.int hi u,.int 1 v]},toks:=tk}:=I.kept fun b o e=>zae _ e
 refine ⟨(s.heap.push {cls:=.type "range",data:=.fields #[.int lo t,.int hi u,.int 1 v]}).objs.size,[(s.heap.push {cls:=.type "range",data:=.fields #[.int lo t,.int hi u,.int 1 v]}).objs.size],_,_,H,rfl,
  I1.kept (t':=tk) fun b o e=>zae _ e,vX _ lo (hi - lo).toNat,?_,fun b hb=>?_,q⟩
 ·have e1:lo+((0:Nat):Int) * 1=lo:=by simp
  have e2:(((hi - lo).toNat:Nat):Int) - ((0:Nat):Int)=Builtin.Range.rangeSize lo hi 1:=by rw [rangeSize_one];split <;> omega
  show IsRangeIter _ _ (lo+((0:Nat):Int) * 1) ((((hi - lo).toNat:Nat):Int) - ((0:Nat):Int)) 1
  rw [e1,e2];exact zal _ rfl
 ·have e:b=(s.heap.push {cls:=.type "range",data:=.fields #[.int lo t,.int hi u,.int 1 v]}).objs.size:=by simpa using hb
  subst e;exact I1.fpOk (zam _) (I1.hok.fresh (zam _))
def HU (ta:TA):TI:=fun Y H R=>ta Y H fun vs H1=>∃j:Int,vs=[.int j]/\-(2 ^ 62)<=j/\j < 2 ^ 62/\R (O8 0 j.toNat) H1
theorem zE {a:Expr}{ta:TA}{p pos:Pos}(hg:Gl X "range")(hm:X.mg "range" = none)(ha:PA X [a] ta)(hs:starEach [a] X.env=[(false,eval a X.env)]:=by rfl):PI X tg (.Call (.Name "range" p) [a] [] pos) (HU ta):=by
 intro pins s Y H R I h;refine Call_ (sA I hg hm boot_range (PyProof.Rows.callWith_type1 (db (ha pos pins s Y H _ I h) fun us s1 hh=>?_) hs rfl));obtain ⟨vs,H1,I1,r1,q1⟩:=hh;obtain ⟨j,e,q1,q2,q⟩:=q1;subst e
 cases r1 with
 |cons r rr =>
  cases rr;obtain ⟨t,rfl⟩:=r;exact call_range_1 (BH I1 (by omega) (by omega) q1 q2 (by simpa using q))
def IG (wi:TI)(g:TG)(tb:TS):TS:=fun D Y H=>wi Y H fun J H1=>∃W:Nat->Nat->St->Hp->Prop,(∃m,W 0 m Y H1)/\∀i m Y H,W i m Y H ->
 (J.stop i H/\D.nx Y H)\/(J.go i H/\∃N:St->Hp->Prop,(∀Y' H',N Y' H'->∃m',m' < m/\W (i+1) m' Y' H')/\∀x H',J.yld i H x H'->g x Y H' fun Y2 H2=>tb {D with nx:=N,ct:=N,bk:=D.nx} Y2 H2)
def lD (fp:Tf)(h:Heap):Tc:=fp.filterMap fun b=>(h.get? b).map fun o=>(b,o)
def eU {fp:Tf}{h:Heap}{b:Addr}{o:Obj}(hb:b∈fp)(e:h.get? b=some o):(b,o)∈lD fp h:=zcU.mpr ⟨b,hb,by rw [e];rfl⟩
theorem qR {fp:Tf}{h:Heap}{p:Addr×Obj}(hp:p∈lD fp h):p.1∈fp/\h.get? p.1=some p.2:=by
 obtain ⟨b,hb,e⟩:=zcU.mp hp
 cases q:h.get? b with
 |none=>rw [q] at e;cases e
 |some o =>
  rw [q] at e;have e':(b,o)=p:=Option.some.inj e;subst e';exact ⟨hb,q⟩
def aA.pinned {H:Hp}{s:Shared}{fp:Tf}(I:aA X pins Y H s)(hf:∀b∈fp,mF X pins H b)(ho:∀b∈fp,∃o,s.heap.get? b=some o/\∀v,o.data≠.cell v):aA X (pins++lD fp s.heap) Y H s :=
 I.pins_of fun p hp=>(zaU.mp hp).elim (fun z=>I.pin p (zaC _ z)) fun z=>by obtain ⟨hb,e⟩:=qR z;obtain ⟨f0,f1,f2,_⟩:=hf p.1 hb;obtain ⟨o,e',d⟩:=ho p.1 hb;rw [e] at e';cases e';exact ⟨e,f0,f1,f2,d⟩
def aA.unpinned {pins pl:Tc}{H:Hp}{s:Shared}(I:aA X (pins++pl) Y H s):aA X pins Y H s:=I.pins_of fun p hp=>I.pin p (zaC _ (zcj _ hp))
def B1 {iter:Expr}{body:Tk}{wi:TI}{g:TG}{tb:TS}{pos:Pos}(hp:PassesOwn (model X.prog X.w) X.A X.env X.xe)(hc:X.calm=true)(hi:PI X tg iter wi)(hg:PG X tg g)(hb:on X body tb)
  (hs:∀x,foldedSetIterable iter X.env x=pure x:=by intro _;rfl):PS X (.For tg iter body [] pos) (IG wi g tb):=by
 intro pins s Y H D I h;refine wpAny_For (db (hi pins s Y H _ I h) fun v s1 h1=>db h1 fun itv s2 h2=>?_) hs;obtain ⟨it,fp,tn,J,H2,e,I2,T,st2,f2,W,⟨m0,w0⟩,turn⟩:=h2;subst e;have stat:∀{H':Hp},(∀b∈fp,H' b=none)->∀b∈fp,mF X pins H' b:=fun hn b hb=>⟨hn b hb,(f2 b hb).2⟩;refine codeAny_forLoop_any (fun n s'=>∃i Y' H',aA X pins Y' H' s'/\tn i s'.heap/\(∀b∈fp,H' b=none)/\W i n Y' H') ?_ m0 ⟨0,Y,H2,I2,st2,fun b hb=>(f2 b hb).1,w0⟩;rintro n s3 ⟨i,Y3,H3,I3,st3,fr3,w3⟩;rcases turn i n Y3 H3 w3 with ⟨stop,qn⟩|⟨go,N,hN,step⟩
 ·refine zcp hp (db (T.done X rfl rfl rfl hc i pins s3 Y3 H3 X.xe I3 (stat fr3) st3 stop) fun r s4 hh=>?_)
  obtain ⟨hr,I4⟩:=hh;subst hr;exact zc5 ⟨Y3,H3,I4,qn⟩
 ·refine zcp hp (db (T.item X rfl rfl rfl hc i pins s3 Y3 H3 X.xe I3 (stat fr3) st3 go) fun r s4 hh=>?_)
  obtain ⟨u,hr,h4⟩:=hh;subst hr;refine zcp hp (db h4 fun _ s5 hh=>?_);obtain ⟨x,H5,I5,r5,y5,st5,fr5⟩:=hh;have I5':=I5.pinned (stat fr5) (T.obj _ _ st5);refine zcp hp (db (hg _ s5 Y3 H5 x u _ I5' r5 (step x H5 y5)) fun _ s6 hh=>?_);obtain ⟨Y6,H6,I6,q6⟩:=hh;refine zcp hp (db (hb _ s6 Y6 H6 _ I6 q6) fun f s7 q7=>?_)
  have again:∀{Y7:St} {H7:Hp},aA X (pins++lD fp s5.heap) Y7 H7 s7->N Y7 H7->∃m,m < n/\∃i Y' H',aA X pins Y' H' s7/\tn i s7.heap/\(∀b∈fp,H' b=none)/\W i m Y' H':=fun {Y7 H7} I7 n7=>by
   obtain ⟨m',hm,w7⟩:=hN Y7 H7 n7;refine ⟨m',hm,i+1,Y7,H7,I7.unpinned,T.keep _ _ _ st5 fun b hb o e=>(I7.pin (b,o) (zaC _ (zaC _ (eU hb e)))).1,fun b hb=>?_,w7⟩;obtain ⟨o,e,d⟩:=T.obj _ _ st5 b hb;exact (I7.pin (b,o) (zaC _ (zaC _ (eU hb e)))).2.1
  cases f with
  |next=>obtain ⟨Y7,H7,I7,n7⟩:=q7;exact again I7 n7
  |cont=>obtain ⟨Y7,H7,I7,n7⟩:=q7;exact again I7 n7
  |brk=>obtain ⟨Y7,H7,I7,q7⟩:=q7;exact ⟨Y7,H7,I7.unpinned,q7⟩
  |ret v=>obtain ⟨x7,Y7,H7,I7,r7,q7⟩:=q7;exact ⟨x7,Y7,H7,I7.unpinned,r7,q7⟩
end
abbrev R2:=V->V->Hp->VK->Prop
def ku (X:Cx)(f:Value->Value->Sem Value)(r:R2):Prop :=
 ∀(pins:Tc) (s:Shared) (Y:St) (H:Hp) (x y:V) (v u:Value) (Q:VK),aA X pins Y H s->aY x v->aY y u->r x y H Q ->
  wpAny (model X.prog X.w) X.A (f v u) (EP X pins Y Q) X.xe s
def QD (X:Cx)(f:Value->Sem Value)(r:V->Hp->VK->Prop):Prop :=
 ∀(pins:Tc) (s:Shared) (Y:St) (H:Hp) (x:V) (v:Value) (Q:VK),aA X pins Y H s->aY x v->r x H Q ->
  wpAny (model X.prog X.w) X.A (f v) (EP X pins Y Q) X.xe s
def gW (X:Cx)(f:Value)(r:List V->Hp->VK->Prop):Prop :=
 ∀(pins:Tc) (s:Shared) (Y:St) (H:Hp) (xs:List V) (us:Te) (Q:VK),aA X pins Y H s->aS xs us->r xs H Q ->
  wpAny (model X.prog X.w) X.A (call f us) (EP X pins Y Q) X.xe s
def QE (X:Cx)(r:V->Hp->(Bool->Hp->Prop)->Prop):Prop :=
 ∀(pins:Tc) (s:Shared) (Y:St) (H:Hp) (x:V) (v:Value) (Q:Bool->Hp->Prop),aA X pins Y H s->aY x v->r x H Q ->
  wpAny (model X.prog X.w) X.A (truthy v) (TP X pins Y Q) X.xe s
def IE (r:R2)(ta tb:TE):TE:=fun Y H Q=>ta Y H fun x H1=>tb Y H1 fun y H2=>r x y H2 Q
def QZ (r:V->Hp->VK->Prop)(ta:TE):TE:=fun Y H Q=>ta Y H fun x H1=>r x H1 Q
def rI (C:Int->Int->Prop)(g:Int->Int->V):R2:=fun x y H Q=>∃i j,x=.int i/\y=.int j/\C i j/\Q (g i j) H
def zu (g:Int->Int->V):R2:=fun x y H Q=>∃i j,x=.int i/\y=.int j/\Q (g i j) H
def rU (g:Int->V):V->Hp->VK->Prop:=fun x H Q=>∃i,x=.int i/\Q (g i) H
section
variable {X:Cx}{a b:Expr}{ta tb:TE}{pos:Pos}
def Gg (ha:PE X a ta)(hb:PE X b tb){s:Shared}{H:Hp}{R:V->V->Hp->Prop}(I:aA X pins Y H s)
  (h:ta Y H fun x H1=>tb Y H1 fun y H2=>R x y H2) {Q:Tb} {f:Value->Value->Sem Value}
  (hf:∀v u s2 x y H2,aA X pins Y H2 s2->aY x v->aY y u->R x y H2->wpAny (model X.prog X.w) X.A (f v u) Q X.xe s2) :
  wpAny (model X.prog X.w) X.A (eval a X.env) (fun v s₁=>wpAny (model X.prog X.w) X.A (eval b X.env) (fun u s₂=>wpAny (model X.prog X.w) X.A (f v u) Q X.xe s₂) X.xe s₁) X.xe s:=by
 refine db (ha pins s Y H _ I h) fun v s1 hh=>?_;obtain ⟨x,H1,I1,r1,q1⟩:=hh;refine db (hb pins s1 Y H1 _ I1 q1) fun u s2 hh=>?_;obtain ⟨y,H2,I2,r2,q2⟩:=hh;exact hf v u s2 x y H2 I2 r1 r2 q2
def nJ {op:Operator}{r:R2}(ho:ku X (binaryOp op) r)(ha:PE X a ta)(hb:PE X b tb):PE X (.BinOp a op b pos) (IE r ta tb):=by intro pins s Y H Q I h;exact wpAny_BinOp (Gg ha hb I h fun v u s2 x y H2 I2 rx ry q=>ho pins s2 Y H2 x y v u Q I2 rx ry q)
def M0 {op:UnaryOp}{r:V->Hp->VK->Prop}(ho:QD X (unaryOp op) r)(ha:PE X a ta):PE X (.UnaryOp op a pos) (QZ r ta):=by intro pins s Y H Q I h;exact UnaryOp_ (db (ha pins s Y H _ I h) fun v s1 ⟨x,H1,I1,r1,q1⟩=>ho pins s1 Y H1 x v Q I1 r1 q1)
def Oo {f:Value->Value->Sem Value}{C:Int->Int->Prop}{g:Int->Int->Int}
  (rule:∀(i j:Int) (t u:Tok) (s:Shared) (Q:Tb) (E:Tb),C i j->Q (.int (g i j) s.toks) {s with toks:=s.toks+1}->wpAny (model X.prog X.w) X.A (f (.int i t) (.int j u)) Q E s) :
  ku X f (rI C fun i j=>.int (g i j)):=by
 intro pins s Y H x y v u Q I rx ry h;obtain ⟨i,j,rfl,rfl,hc,q⟩:=h;obtain ⟨t,rfl⟩:=rx;obtain ⟨t',rfl⟩:=ry;exact rule i j t t' s _ _ hc ⟨.int (g i j),H,I.tok _,⟨_,rfl⟩,q⟩
def M9 {f:Value->Value->Sem Value}{g:Int->Int->Int}
  (rule:∀(i j:Int) (t u:Tok) (s:Shared) (Q:Tb) (E:Tb),Q (.int (g i j) s.toks) {s with toks:=s.toks+1}->wpAny (model X.prog X.w) X.A (f (.int i t) (.int j u)) Q E s) :
  ku X f (zu fun i j=>.int (g i j)):=by
 intro pins s Y H x y v u Q I rx ry h;obtain ⟨i,j,rfl,rfl,q⟩:=h;obtain ⟨t,rfl⟩:=rx;obtain ⟨t',rfl⟩:=ry;exact rule i j t t' s _ _ ⟨.int (g i j),H,I.tok _,⟨_,rfl⟩,q⟩
def Ka {f:Value->Value->Sem Value}{g:Int->Int->Bool}
  (rule:∀(i j:Int) (t u:Tok) (s:Shared) (Q:Tb) (E:Tb),Q (.bool (g i j)) s->wpAny (model X.prog X.w) X.A (f (.int i t) (.int j u)) Q E s) :
  ku X f (zu fun i j=>.bl (g i j)):=by
 intro pins s Y H x y v u Q I rx ry h;obtain ⟨i,j,rfl,rfl,q⟩:=h;obtain ⟨t,rfl⟩:=rx;obtain ⟨t',rfl⟩:=ry;exact rule i j t t' s _ _ ⟨.bl (g i j),H,I,rfl,q⟩
def Li (i j:Int):Prop:=0 < j/\j < 1073741824
def Lh (i j:Int):Prop:=0<=j/\j<=1000000/\i.natAbs < 2 ^ 64
def DX (i j:Int):Prop:=(-(2 ^ 64) < i/\i < 2 ^ 64)\/(-(2 ^ 64) < j/\j < 2 ^ 64)
def DX.ok {i j:Int}(h:DX i j):IntMulOk i j:=by
 rcases h with ⟨h1,h2⟩|⟨h1,h2⟩
 ·exact .of_left (intBits_le_64 h1 h2)
 ·exact .of_right (intBits_le_64 h1 h2)
def J9:ku X (binaryOp .Add) (zu fun i j=>.int (i+j)):=M9 fun _ _ _ _ _ _ _ q=>add_int q
def J3:ku X (binaryOp .Sub) (zu fun i j=>.int (i - j)):=M9 fun _ _ _ _ _ _ _ q=>sub_int q
def J5:ku X (binaryOp .Mult) (rI DX fun i j=>.int (i * j)):=Oo fun _ _ _ _ _ _ _ hc q=>mul_int q hc.ok
def Fe:ku X (binaryOp .FloorDiv) (rI Li fun i j=>.int (i / j)):=Oo fun i j _ _ _ _ _ hc q=>by have h1:(0:Int) < j:=hc.1;have h2:j < 1073741824:=hc.2;exact floordiv_int (by omega) (by rw [Int.fdiv_eq_ediv_of_nonneg i (by omega)];exact q) (.inl (PyProof.noPylong_small (by omega)))
def J6:ku X (binaryOp .Mod) (rI (fun _ j=>0 < j) fun i j=>.int (i % j)):=Oo fun i j _ _ _ _ _ hc q=>by have h1:(0:Int) < j:=hc;exact mod_int' (by omega) (by rw [Int.fmod_eq_emod_of_nonneg i (by omega)];exact q)
def J4:ku X (binaryOp .Pow) (rI Lh fun i j=>.int (i ^ j.toNat)):=Oo fun _ _ _ _ _ _ _ hc q=>pow_int_small hc.1 hc.2.1 hc.2.2 q
def RN {f:Value->Sem Value}{g:Int->Int}
  (rule:∀(i:Int) (t:Tok) (s:Shared) (Q:Tb) (E:Tb),Q (.int (g i) s.toks) {s with toks:=s.toks+1}->wpAny (model X.prog X.w) X.A (f (.int i t)) Q E s) :
  QD X f (rU fun i=>.int (g i)):=by
 intro pins s Y H x v Q I rx h;obtain ⟨i,rfl,q⟩:=h;obtain ⟨t,rfl⟩:=rx;exact rule i t s _ _ ⟨.int (g i),H,I.tok _,⟨_,rfl⟩,q⟩
def Iw:QD X (unaryOp .USub) (rU fun i=>.int (-i)):=RN fun _ _ _ _ _ q=>neg_int q
end
section
variable {X:Cx}{a b c:Expr}{ta tb:TE}{pos:Pos}
def C8 {H:Hp}{s:Shared}{Q:VK}{k k':Bool}(I:aA X pins Y H s)(q:Q (.bl k) H)(e:k=k'):EP X pins Y Q (.bool k') s:=by subst e;exact ⟨.bl k,H,I,rfl,q⟩
def M6:ku X (compareOp .Lt) (zu fun i j=>.bl (decide (i < j))):=Ka fun _ _ _ _ _ _ _ q=>lt_int q
def M7:ku X (compareOp .LtE) (zu fun i j=>.bl (decide (i<=j))):=Ka fun _ _ _ _ _ _ _ q=>le_int q
def M8:ku X (compareOp .Gt) (zu fun i j=>.bl (decide (j < i))):=Ka fun _ _ _ _ _ _ _ q=>gt_int q
theorem J7:ku X (compareOp .Is) (fun x y H Q=>y=.non/\Q (.bl (decide (x=.non))) H):=by
 intro pins s Y H x y v u Q I rx ry h;obtain ⟨rfl,q⟩:=h;cases ry;refine is_none_gen (C8 I q ?_)
 cases x <;> first
  |(cases rx;rfl)
  |(obtain ⟨t,rfl⟩:=rx;rfl)
theorem Fd:ku X (compareOp .IsNot) (fun x y H Q=>y=.non/\Q (.bl (!decide (x=.non))) H):=by
 intro pins s Y H x y v u Q I rx ry h;obtain ⟨rfl,q⟩:=h;cases ry;refine isnot_none_gen (C8 I q ?_)
 cases x <;> first
  |(cases rx;rfl)
  |(obtain ⟨t,rfl⟩:=rx;rfl)
def ku.or {f:Value->Value->Sem Value}{r r':R2}(h:ku X f r)(h':ku X f r'):ku X f (fun x y H Q=>r x y H Q\/r' x y H Q):=by
 intro pins s Y H x y v u Q I rx ry q;rcases q with q|q
 ·exact h pins s Y H x y v u Q I rx ry q
 ·exact h' pins s Y H x y v u Q I rx ry q
def iq (b:Expr){op:CmpOp}(h:op≠.In:=by decide)(h2:op≠.NotIn:=by decide):behindInMarks op b=false:=by
 have e1:(op == CmpOp.In)=false:=by cases op <;> first|rfl|exact absurd rfl h
 have e2:(op == CmpOp.NotIn)=false:=by cases op <;> first|rfl|exact absurd rfl h2
 cases b <;> simp [behindInMarks,e1,e2]
def ye {op:CmpOp}{r:R2}(ho:ku X (compareOp op) r)(ha:PE X a ta)(hb:PE X b tb)(hm:behindInMarks op b=false):PE X (.Compare a [op] [b] pos) (IE r ta tb):=by intro pins s Y H Q I h;exact wpAny_Compare1 (Gg ha hb I h fun v u s2 x y H2 I2 rx ry q=>ho pins s2 Y H2 x y v u Q I2 rx ry q) hm
def Hd (t:TE):TT:=fun Y H Q=>t Y H fun x H'=>∃k,x=.bl k/\Q k H'
def ya {op:CmpOp}{r:R2}(ho:ku X (compareOp op) r)(ha:PE X a ta)(hb:PE X b tb)(hm:behindInMarks op b=false):PT X (.Compare a [op] [b] pos) (Hd (IE r ta tb)):=by intro pins s Y H Q I h;refine wpAny_isTrue_Compare1 (db (ha pins s Y H _ I h) fun v s1 hh=>?_) hm;obtain ⟨x,H1,I1,r1,q1⟩:=hh;refine db (hb pins s1 Y H1 _ I1 q1) fun u s2 hh=>?_;obtain ⟨y,H2,I2,r2,q2⟩:=hh;refine db (ho pins s2 Y H2 x y v u _ I2 r1 r2 q2) fun c s3 hh=>?_;obtain ⟨z,H3,I3,r3,k,e,q3⟩:=hh;subst e;cases r3;exact zce ⟨H3,I3,q3⟩
def Gp (K:zac)(x:V)(H:Hp)(k:Bool):Prop :=
 match x with
 |.non=>k=false
 |.bl b=>k=b
 |.int i=>k=(i != 0)
 |.str y=>y.length<=sizeLine/\k=((y.length:Int) != 0)
 |.byt y=>y.size<=sizeLine/\k=((y.size:Int) != 0)
 |.ref p=>(∃xs,jF K H p xs/\k = !xs.isEmpty)\/(∃xs,gQ K H p xs/\k = !xs.isEmpty)\/∃kvs,H p=some (.dK kvs)/\k = !kvs.isEmpty
 |_=>False
theorem wS {κ:Type}{kvs:List (κ×V)}{vs:List (κ×Value)}(r:KV kvs vs):(!vs.isEmpty) = !kvs.isEmpty:=by cases r <;> rfl
def pL {xs:List V}{its:Te}(r:aS xs its):(!its.toArray.isEmpty) = !xs.isEmpty:=by cases r <;> simp
def lE:(sizeLine:Nat) < 2 ^ 63:=by rw [za9];decide
theorem vZ:QE X (fun x H Q=>∃k,Gp X.K x H k/\Q k H):=by
 intro pins s Y H x v Q I rx h;obtain ⟨k,e,q⟩:=h;have hl:=lE;have hs:sizeLine=16777216:=za9
 cases x with
 |non =>
  cases rx;have e':k=false:=e;subst e';exact truthy_none ⟨H,I,q⟩
 |bl b =>
  cases rx;have e':k=b:=e;subst e';exact zce ⟨H,I,q⟩
 |int i =>
  obtain ⟨t,rfl⟩:=rx;have e':k=(i != 0):=e;subst e';exact PySem.P.truthy_int ⟨H,I,q⟩
 |str y =>
  obtain ⟨t,rfl⟩:=rx;obtain ⟨hy,e'⟩:y.length<=sizeLine/\k=((y.length:Int) != 0):=e;subst e';exact PySem.P.truthy_str (by omega) ⟨H,I.tok _,q⟩
 |byt y =>
  obtain ⟨t,rfl⟩:=rx;obtain ⟨hy,e'⟩:y.size<=sizeLine/\k=((y.size:Int) != 0):=e;subst e';exact PySem.W.truthy_bytes (by omega) ⟨H,I.tok _,q⟩
 |ref p =>
  cases rx;have e':(∃xs,jF X.K H p xs/\k = !xs.isEmpty)\/(∃xs,gQ X.K H p xs/\k = !xs.isEmpty)\/∃kvs,H p=some (.dK kvs)/\k = !kvs.isEmpty:=e;rcases e' with ⟨xs,hx,e'⟩|⟨xs,hx,e'⟩|⟨kvs,hx,e'⟩
  ·subst e';obtain ⟨its,r,pl,hz⟩:=I.list hx;have hlen:=r.length;exact wpAny_truthy_list pl.isList (by simp only [zaq];omega) ⟨H,I.tok _,by rw [pL r];exact q⟩
  ·subst e';obtain ⟨its,r,pl,hz⟩:=I.tuple hx;have hlen:=r.length;exact truthy_tuple pl (by simp only [zaq];omega) ⟨H,I.tok _,by rw [pL r];exact q⟩
  ·subst e';obtain ⟨hz,hS,vs,r,m⟩:kvs.length<=sizeLine/\(p == sysModules)=false/\∃vs,KV kvs vs/\s.heap.DictOf (bG X.prog X.w) p vs:=I.hok p _ hx;have hlen:kvs.length=vs.length:=Paired.length r;exact wpAny_truthy_dict hS m (by omega) ⟨H,I.tok _,by rw [wS r];exact q⟩
 |_=>exact (show False from e).elim
def BZ (ha:PE X a ta)(he:∀whole,isTrue a X.env whole=(do let v ←whole;standAt a.pos;holding [v] (truthy v))) :
  PT X a (fun Y H Q=>ta Y H fun x H'=>∃k,Gp X.K x H' k/\Q k H'):=by
 intro pins s Y H Q I h;exact isTrue_plain (db (ha pins s Y H _ I h) fun v s1 ⟨x,H1,I1,r1,q1⟩=>vZ pins s1 Y H1 x v Q I1 r1 q1) (he _)
def wz:ku X (binaryOp .Add) (fun x y H Q=>∃i j,x=.str i/\y=.str j/\i.length+j.length<=sizeLine/\Q (.str (i++j)) H):=by intro pins s Y H x y v u Q I rx ry h;obtain ⟨i,j,rfl,rfl,hz,q⟩:=h;obtain ⟨t,rfl⟩:=rx;obtain ⟨t',rfl⟩:=ry;exact add_str (fun t' tk=>⟨.str (i++j),H,I.tok _,⟨_,rfl⟩,q⟩) hz
def vF (b:Expr):Prop:=∀o i,subscripted b false o i=operate [o,i] (getItem o i)
def ux (ha:PE X a ta)(hb:PE X b tb)(hs:vF b) :
  PE X (.Subscript a b pos) (IE (fun x y H Q=>∃z i c,x=.str z/\y=.int i/\0<=i/\i < 2 ^ 63/\i < z.length/\z.cps[i.toNat]?=some c/\Q (.str ⟨#[c]⟩) H) ta tb):=by
 intro pins s Y H Q I h;refine Subscript_ (Gg ha hb I h fun v u s2 x y H2 I2 rx ry q=>?_);obtain ⟨z,i,c,rfl,rfl,h0,h63,h1,hc,q⟩:=q;obtain ⟨t,rfl⟩:=rx;obtain ⟨t',rfl⟩:=ry;have e:seqIndex? i z.length=some i.toNat:=PySem.StrLaws.seqIndex_nonneg h0 h1
 exact tail_any (typeIs_str s2 z t) slot_str_getitem.lookup (getItem_str (c:=c) (by
  have e1:decide (i < -(2 ^ 63:Int))=false:=zay (by omega);have e2:decide (i >= 2 ^ 63)=false:=zay (by omega)
  rw [e1,e2] <;> rfl) (by rw [e];exact hc) ⟨.str ⟨#[c]⟩,H2,I2.tok _,⟨_,rfl⟩,q⟩) (hs _ _)
theorem iC {x:V}{us:Te}(r:aS [x] us):∃u,us=[u]/\aY x u:=by
 cases r with
 |cons r1 r2=>cases r2;exact ⟨_,rfl,r1⟩
theorem Lx {x y:V}{us:Te}(r:aS [x,y] us):∃u w',us=[u,w']/\aY x u/\aY y w':=by
 cases r with
 |cons r1 r2 =>
  cases r2 with
  |cons r3 r4=>cases r4;exact ⟨_,_,rfl,r1,r3⟩
def Az (hc:X.calm=true):gW X (.builtin "min") (fun xs H Q=>∃i j,xs=[.int i,.int j]/\Q (.int (if j < i then j else i)) H):=by
 intro pins s Y H xs us Q I r h;obtain ⟨i,j,rfl,q⟩:=h;obtain ⟨u,w',rfl,⟨t,rfl⟩,⟨t',rfl⟩⟩:=Lx r;refine min_two_ints (I.ok.hd hc) fun h' tk k=>⟨_,H,I.kept k,?_,q⟩;by_cases hj:j < i
 ·rw [if_pos hj,if_pos hj];exact ⟨_,rfl⟩
 ·rw [if_neg hj,if_neg hj];exact ⟨_,rfl⟩
end
structure xp (h:Heap)(x dx C:Addr)(mA:Td):Prop where
 obj:h.get? x=some (PySem.W.instObj C dx)
 ns:h.Ns1 dx mA
 ne:dx≠x
def zL {h:Heap}{dx:Addr}{mA:Td}(n:h.Ns1 dx mA):∃od,h.get? dx=some od/\∀name,PySem.W.lookIn name od=some (mA name):=by
 obtain ⟨o,es,ep,ho,hd,hk,_,hm⟩:=n;refine ⟨o,ho,fun name=>?_⟩;have e:=hm name;unfold nsFind findBy at e;rw [←Array.find?_toList] at e;unfold PySem.W.lookIn;rw [hd];dsimp only;split
 ·rename_i y q;rw [q] at e;exact congrArg some e
 ·rename_i q;rw [q] at e;have a:es.toList.any (·.refKey)=false:=by rw [List.any_eq_false];intro y hy;obtain ⟨z,t,hkey⟩:=hk y (Array.mem_toList_iff.mp hy);simp [DictEntry.refKey,hkey]
  have a':¬ es.toList.any (·.refKey)=true:=by rw [a];exact za5
  rw [if_neg a'];exact congrArg some e
def xp.look {h:Heap}{x dx C:Addr}{mA:Td}(I:xp h x dx C mA):∃od,PySem.W.InstAt h x (PySem.W.instObj C dx) C (some od)/\∀name,PySem.W.lookIn name od=some (mA name) :=
 let ⟨od,ho,hl⟩:=zL I.ns
 ⟨od,⟨I.obj,rfl,rfl,ho⟩,hl⟩
section
variable {prog:Program}{w:World}{A:Around}{E:Tb}{s:Shared}{K:zac}{x dx C f:Addr}{mA:Td}{name:Str}{v:Value}
def FC {expr:Bool}{Q:Tb}(X:K.In s.heap)(I:xp s.heap x dx C mA)(hg:PySem.W.plainGet K C name=true)(hh:PySem.W.hasDictIn K C=true)
  (ha:PySem.W.findIn K (.ref C) name=some none) (hv:mA name=some v) (hv':PySem.W.handedIn v=true) (h:Q v {s with toks:=s.toks+1}) :
  wpAny (model prog w) A (getAttr (.ref x) name expr) Q E s:=by
 obtain ⟨od,J,hl⟩:=I.look;exact PySem.W.get_value X J (zcN hg).1 (PySem.W.findObj_own hh ha rfl (by rw [hl,hv])) hv' h
def C4 {pl:Sem Bool}{Q:Value×List Value->Shared->Prop}(X:K.In s.heap)(I:xp s.heap x dx C mA)(hg:PySem.W.plainGet K C name=true)
  (hf:PySem.W.findIn K (.ref C) name=some (some (.ref f))) (ht:PySem.W.isFn K (.ref f)=true) (hv:mA name=none) (h:Q (.ref f,[.ref x]) s) :
  wpAny (model prog w) A (getMethod (.ref x) name pl) Q E s:=by
 obtain ⟨od,J,hl⟩:=I.look;exact PySem.W.method_fn X J (zcN hg).1 (zcN hg).2 hf (beq_iff_eq.mp ht) (by show (PySem.W.lookIn name od).map (·.isSome)=some false;rw [hl,hv];rfl) h
def Es {ns:Tn}{Q:Unit->Shared->Prop}(X:K.In s.heap)(I:xp s.heap x dx C mA)
  (hs:PySem.W.findIn K (.ref C) "__setattr__" = some (some (.builtin "object.__setattr__"))) (hp:PySem.W.plainOver K C=true) (ht:PySem.W.takerIn K C name=some none) (hh:PySem.W.hasDictIn K C=true)
  (hw:PySem.Within mA ns) (hsz:ns.length<=sizeLine)
  (h:∀h',xp h' x dx C (fun y=>if y=name then some v else mA y)->Heap.SameBut dx s.heap h'->Q () {s with heap:=h',toks:=s.toks+2}) :
  wpAny (model prog w) A (setAttr (.ref x) name v) Q E s:=by
 obtain ⟨od,J,hl⟩:=I.look;refine PySem.W.set_plain X J hs (PySem.W.osa_open (s:={s with toks:=s.toks+1}) (r:=none) X J hp ht fun b=>?_);obtain ⟨cd,hc,hd'⟩:=PySem.W.any_some hh;have hx:s.heap.get? x=some ⟨.ref C,some dx,.plain,#[]⟩:=I.obj;refine zaa (zad (zaa (zaa (wpAny_loadPart hx (zaa (PySem.W.Looks.here (s:={s with toks:=s.toks+1}) (PySem.W.looks_clsIn X hc) ?_))))));rw [hd'];refine zad (a:=some dx) (zaa (zad (zaa ?_)));refine wpAny_nsSet1 (s:={s with toks:=s.toks+1}) I.ns fun h' hn2 hs2=>?_;obtain ⟨oD,esD,epD,hoD,hdD,hcD⟩:=hn2.count (PySem.Within.cons name v hw);refine zaa (wpAny_lookBehind hoD (by rw [hdD];exact pastItsLine_dict (zbg hcD (by rw [zaB];omega))) ?_);exact zad (h _ ⟨(hs2.2 _ (Ne.symm I.ne)).trans I.obj,hn2,I.ne⟩ hs2)
def CA {R:Result->Shared->Prop}{vs:Te}{kw:List (Str×Value)}(X:K.In s.heap)(hm:PySem.W.makesIn K C=true)
  (hi:PySem.W.findIn K (.ref C) "__init__" = some (some (.ref f))) (hf:PySem.W.typeIn K (.ref f)=some (.type "function"))
  (h:codeAny (model prog w) (A.under (.builtin "type.__call__" ⟨.ref C::vs,kw⟩)) (.call (.ref f) ⟨.ref (s.heap.objs.size+1)::vs,kw⟩) (PySem.W.InitBack (s.heap.objs.size+1) R)
   {s with heap:=(s.heap.push PySem.W.emptyDict).push (PySem.W.instObj C s.heap.objs.size)}) :
  codeAny (model prog w) A (.call (.ref C) ⟨vs,kw⟩) R s:=by
 obtain ⟨hh,g,d,t,os⟩:=s;exact PySem.W.make_core (PySem.W.makes_of X hm) (PySem.W.looks_findIn X hi) (fun self=>PySem.W.bind_fn X self hf) (.inl rfl) h
end
def i9 (f:Str)(v:V):List (Str×V)->List (Str×V)
 |[]=>[(f,v)]
 |(g,x)::r=>if g=f then (g,v)::r else (g,x)::i9 f v r
theorem nL (f g:Str)(v:V):∀fs:List (Str×V),(i9 f v fs).lookup g=if g=f then some v else fs.lookup g
 |[]=>by
  show List.lookup g [(f,v)]=_
  by_cases h:g=f
  ·have hb:(g == f)=true:=beq_iff_eq.mpr h;simp only [List.lookup,hb,if_pos h]
  ·have hb:(g == f)=false:=beq_eq_false_iff_ne.mpr h;simp only [List.lookup,hb,if_neg h]
 |(k,x)::r=>by
  have ih:=nL f g v r;rw [show i9 f v ((k,x)::r)=(if k=f then (k,v)::r else (k,x)::i9 f v r) from rfl];by_cases hk:k=f
  ·rw [if_pos hk];by_cases h:g=k
   ·have hb:(g == k)=true:=beq_iff_eq.mpr h;simp only [List.lookup,hb,if_pos (h.trans hk)]
   ·have hb:(g == k)=false:=beq_eq_false_iff_ne.mpr h;simp only [List.lookup,hb,if_neg (fun e:g=f=>h (e.trans hk.symm))]
  ·rw [if_neg hk];by_cases h:g=k
   ·have hb:(g == k)=true:=beq_iff_eq.mpr h;simp only [List.lookup,hb,if_neg (fun e:g=f=>hk (h.symm.trans e))]
   ·have hb:(g == k)=false:=beq_eq_false_iff_ne.mpr h;simp only [List.lookup,hb];exact ih
theorem mY (f:Str)(v:V):∀fs:List (Str×V),f∈(i9 f v fs).map (·.1)/\∀g,g∈fs.map (·.1)->g∈(i9 f v fs).map (·.1)
 |[]=>⟨by simp [i9],fun g h=>by simp at h⟩
 |(k,x)::r=>by
  obtain ⟨i1,i2⟩:=mY f v r;rw [show i9 f v ((k,x)::r)=(if k=f then (k,v)::r else (k,x)::i9 f v r) from rfl];by_cases hk:k=f
  ·rw [if_pos hk];subst hk;exact ⟨by simp,fun g h=>by simpa using h⟩
  ·rw [if_neg hk];refine ⟨?_,fun g h=>?_⟩
   ·rw [zaf];exact zaj _ i1
   ·rw [zaf] at h ⊢;rcases zak.mp h with e|e
    ·exact zak.mpr (.inl e)
    ·exact zaj _ (i2 g e)
theorem nM (f:Str)(v:V):∀fs:List (Str×V),(i9 f v fs).length<=fs.length+1
 |[]=>by simp [i9]
 |(k,x)::r=>by
  have ih:=nM f v r;rw [show i9 f v ((k,x)::r)=(if k=f then (k,v)::r else (k,x)::i9 f v r) from rfl];by_cases hk:k=f
  ·rw [if_pos hk,zaB,zaB];omega
  ·rw [if_neg hk,zaB,zaB];omega
theorem kZ.some_of {v:V}{o:Tg}(r:kZ (some v) o):∃u,o=some u/\aY v u:=by
 cases o with
 |none=>exact (show False from r).elim
 |some u=>exact ⟨u,rfl,r⟩
theorem kZ.none_of {o:Tg}(r:kZ none o):o=none:=by
 cases o with
 |none=>rfl
 |some u=>exact (show False from r).elim
theorem Ae {v:V}{u:Value}(r:aY v u):PySem.W.handedIn u=true:=by
 cases v with
 |non=>cases (show u=Value.none from r);rfl
 |bl b=>cases (show u=Value.bool b from r);rfl
 |int i=>obtain ⟨t,e⟩:=(show ∃t,u=Value.int i t from r);cases e;rfl
 |str x=>obtain ⟨t,e⟩:=(show ∃t,u=Value.str x t from r);cases e;rfl
 |byt b=>obtain ⟨t,e⟩:=(show ∃t,u=Value.bytes b t from r);cases e;rfl
 |flt b=>obtain ⟨t,e⟩:=(show ∃t,u=Value.float b t from r);cases e;rfl
 |ref a=>cases (show u=Value.ref a from r);rfl
 |ty n=>cases (show u=Value.type n from r);rfl
section
variable {P:Program}{w:World}{H:Hp}{h:Heap}{a C dx:Addr}{fs:List (Str×V)}
def sM (hok:iS P w H h)(e:H a=some (.ins C dx fs)):∃mA,xp h a dx C mA/\(∀f,kZ (fs.lookup f) (mA f))/\PySem.Within mA (fs.map (·.1))/\fs.length<=1000/\H dx=some (.own a):=by obtain ⟨d,z,ne,ob,mA,n,r,q⟩:=(show bB P w H h a (.ins C dx fs) from hok a _ e);exact ⟨mA,⟨ob,n,ne⟩,r,q,z,d⟩
end
structure GA (K:zac)(C:Addr):Prop where
 pg:PySem.W.plainGet K C Str.empty=true
 hd:PySem.W.hasDictIn K C=true
 po:PySem.W.plainOver K C=true
 sa:PySem.W.findIn K (.ref C) "__setattr__" = some (some (.builtin "object.__setattr__"))
def GA.get {K:zac}{C:Addr}(c:GA K C)(f:Str):PySem.W.plainGet K C f=true:=c.pg
def e7 (K:zac)(C:Addr)(f:Str):Prop:=PySem.W.findIn K (.ref C) f=some none
theorem e7.taker {K:zac}{C:Addr}{f:Str}(n:e7 K C f):PySem.W.takerIn K C f=some none:=by unfold PySem.W.takerIn;rw [show PySem.W.findIn K (.ref C) f=some none from n];rfl
structure Gv (K:zac)(C:Addr)(m:Str)(f:Addr):Prop where
 at_:PySem.W.findIn K (.ref C) m=some (some (.ref f))
 fn:PySem.W.isFn K (.ref f)=true
 kp:PySem.W.keepIn K (.ref f)=true
section
variable {X:Cx}{pins:Tc}{Y:St}{H:Hp}{s:Shared}{a C dx:Addr}{fs:List (Str×V)}{f:Str}{v:V}{A:Around}{E:Tb}
def wV {b:Bool}{Q:Tb}(I:aA X pins Y H s)(e:H a=some (.ins C dx fs))(c:GA X.K C)(n:e7 X.K C f)(l:fs.lookup f=some v)
  (h:∀u s',aA X pins Y H s'->aY v u->Q u s'):wpAny (model X.prog X.w) A (getAttr (.ref a) f b) Q E s:=by
 obtain ⟨mA,Ozz,r,_,_,_⟩:=sM I.hok e;obtain ⟨u,hu,ru⟩:=kZ.some_of (v:=v) (o:=mA f) (by rw [←l];exact r f);exact FC I.kIn Ozz (c.get f) c.hd n hu (Ae ru) (h u _ (I.tok _) ru)
def wU {m:Str}{g:Addr}{pl:Sem Bool}{Q:Value×List Value->Shared->Prop}(I:aA X pins Y H s)(e:H a=some (.ins C dx fs))(c:GA X.K C)(k:Gv X.K C m g)(l:fs.lookup m=none)
  (h:Q (.ref g,[.ref a]) s):wpAny (model X.prog X.w) A (getMethod (.ref a) m pl) Q E s:=by
 obtain ⟨mA,Ozz,r,_,_,_⟩:=sM I.hok e;have hn:mA m=none:=kZ.none_of (by rw [←l];exact r m);exact C4 I.kIn Ozz (c.get m) k.at_ k.fn hn h
def we {y:V}{u:Value}{Q:Unit->Shared->Prop}(I:aA X pins Y H s)(e:H a=some (.ins C dx fs))(c:GA X.K C)(n:e7 X.K C f)(hl:fs.length < 1000)(ry:aY y u)
  (h:∀s',aA X pins Y (upd H a (.ins C dx (i9 f y fs))) s'->Q () s'):wpAny (model X.prog X.w) A (setAttr (.ref a) f u) Q E s:=by
 obtain ⟨mA,Ozz,r,wi,_,ho⟩:=sM I.hok e
 have hz:(fs.map (·.1)).length<=sizeLine:=by rw [zag,za9];omega
 refine Es I.kIn Ozz c.sa c.po n.taker c.hd wi hz fun h' O'z sb=>h _ ?_;have hd:∃o,h'.get? dx=some o:=let ⟨o,_,_,e',_⟩:=O'z.ns;⟨o,e'⟩;refine I.write (x:=a) (e:=dx) (by rw [e];exact True.intro) (.inr ho) (fun b q hb z=>(sb.2 b hb).trans z) hd ?_;refine ⟨by rw [az Ozz.ne];exact ho,?_,Ozz.ne,O'z.obj,_,O'z.ns,fun g=>?_,fun g hg=>?_⟩
 ·have:=nM f y fs;omega
 ·show kZ ((i9 f y fs).lookup g) (if g=f then some u else mA g)
  rw [nL]
  by_cases q:g=f
  ·rw [if_pos q,if_pos q];exact ry
  ·rw [if_neg q,if_neg q];exact r g
 ·by_cases q:g=f
  ·rw [q];exact (mY f y fs).1
  ·refine (mY f y fs).2 g (wi g fun z=>hg ?_)
   show (if g=f then some u else mA g)=none
   rw [if_neg q];exact z
def aA.made (I:aA X pins Y H s):aA X pins Y (upd (upd H s.heap.objs.size (.own (s.heap.objs.size+1))) (s.heap.objs.size+1) (.ins C s.heap.objs.size []))
  {s with heap:=(s.heap.push PySem.W.emptyDict).push (PySem.W.instObj C s.heap.objs.size)}:=by
 have e1:(s.heap.push PySem.W.emptyDict).get? s.heap.objs.size=some PySem.W.emptyDict:=zal s.heap rfl
 have e2:((s.heap.push PySem.W.emptyDict).push (PySem.W.instObj C s.heap.objs.size)).get? (s.heap.objs.size+1)=some (PySem.W.instObj C s.heap.objs.size):=by
  have:=zal (s.heap.push PySem.W.emptyDict) (o:=PySem.W.instObj C s.heap.objs.size) rfl
  rwa [zaY] at this
 have e3:(s.heap.push PySem.W.emptyDict).Ns s.heap.objs.size (fun _=>none):=⟨PySem.W.emptyDict,#[],_,e1,rfl,(fun e he=>absurd he (by simp)),fun _=>rfl⟩;have I1:=I.laid (a:=s.heap.objs.size) (o:=.own (s.heap.objs.size+1)) (h':=s.heap.push PySem.W.emptyDict) (t':=s.toks) (fun b u q=>zae _ q) (zam _) ⟨_,e1⟩;refine I1.laid (a:=s.heap.objs.size+1) (o:=.ins C s.heap.objs.size []) (t':=s.toks) (fun b u q=>zae _ q) (Nat.le_of_eq (zaY _ _)) ?_;have ne:s.heap.objs.size≠s.heap.objs.size+1:=zap (zbL _);refine ⟨by rw [az ne,bx],zbd _,ne,e2,fun _=>none,(Heap.Ns1.of_empty e3).at fun o q=>zae _ q,fun _=>True.intro,fun y hy=>absurd rfl hy⟩
def Gh {prog:Program}{w:World}{env:Env}{e:Expr}{f:Str}{pos:Pos}{s:Shared}{Q:Tb}(hb:attributeBase e f env (eval e env)=eval e env)
  (h:wpAny (model prog w) A (eval e env) (fun o s₁=>wpAny (model prog w) A (getAttr o f true) Q E s₁) E s):wpAny (model prog w) A (eval (.Attribute e f pos) env) Q E s :=
 Attribute_any_ h (by rw [arm_eval_Attribute,hb])
end
def Mn (K:zac)(ta:TE)(f:Str):TE:=fun Y H Q=>ta Y H fun x H1=>∃a C dx fs v,x=.ref a/\H1 a=some (.ins C dx fs)/\GA K C/\e7 K C f/\fs.lookup f=some v/\Q v H1
def Mx (K:zac)(ta tv:TE)(f:Str):TS:=fun D Y H=>tv Y H fun y H1=>ta Y H1 fun x H2=>∃a C dx fs,x=.ref a/\H2 a=some (.ins C dx fs)/\GA K C/\e7 K C f/\fs.length < 1000 /\
 D.nx Y (upd H2 a (.ins C dx (i9 f y fs)))
section
variable {X:Cx}{o e value:Expr}{f:Str}{pos pos':Pos}{ta tv:TE}
def J1 (he:PE X e ta)(hb:attributeBase e f X.env (eval e X.env)=eval e X.env):PE X (.Attribute e f pos) (Mn X.K ta f):=by intro pins s Y H Q I h;refine Gh hb (db (he pins s Y H _ I h) fun u s1 hh=>?_);obtain ⟨x,H1,I1,rx,a,C,dx,fs,v,ex,ea,c,n,l,q⟩:=hh;subst ex;obtain rfl:u=Value.ref a:=rx;exact wV I1 ea c n l fun u' s2 I2 ru=>⟨v,H1,I2,ru,q⟩
def JR (ha:PE X o ta)(hv:PE X value tv)(hs:swapsWith value (some (.Attribute o f pos')) pos.line X.env=pure false):PS X (.Assign [.Attribute o f pos'] value pos) (Mx X.K ta tv f):=by intro pins s Y H D I h;refine plainObj_wpAny_Assign_Attribute (db (hv pins s Y H _ I h) fun u s1 hh=>?_) hs;obtain ⟨y,H1,I1,ry,q⟩:=hh;refine db (ha pins s1 Y H1 _ I1 q) fun ov s2 hh=>?_;obtain ⟨x,H2,I2,rx,a,C,dx,fs,ex,ea,c,n,l,q2⟩:=hh;subst ex;obtain rfl:ov=Value.ref a:=rx;exact we I2 ea c n l ry fun s3 I3=>⟨Y,_,I3,q2⟩
end
structure bQ (k:Nat)(A:Around):Prop where
 hd:A.handled=none
 dp:A.depth+3 * k+5 < recursionLimit
 un:A.units+16 * k+200 < cLine
def bQ.mono {j k:Nat}(r:bQ k A)(h:j<=k):bQ j A:=⟨r.hd,by have:=r.dp;omega,by have:=r.un;omega⟩
def bQ.deeper {k:Nat}{A:Around}(r:bQ (k+1) A)(env:Env):bQ k (A.deeper env) :=
 ⟨r.hd,by have:=r.dp;show A.depth+1+3 * k+5 < _;omega,by have:=r.un;show A.units+3+16 * k+200 < _;omega⟩
def wG {A:Around}{C:Addr}{us:Te}{kw:List (Str×Value)}:(A.under (.builtin "type.__call__" ⟨.ref C::us,kw⟩)).depth=A.depth+1:=by first|rfl|simp [Around.under,Code.weight,Code.isCreation,Code.isGuard,Code.isCaller,Code.frames,Code.isFrame,guardIds]
def wF {A:Around}{C:Addr}{us:Te}{kw:List (Str×Value)}:(A.under (.builtin "type.__call__" ⟨.ref C::us,kw⟩)).units=A.units+1:=by first|rfl|simp [Around.under,Code.cUnits,Code.frames,Code.isFrame]
def bQ.make {k:Nat}{A:Around}(r:bQ (k+1) A)(C:Addr)(us:Te)(kw:List (Str×Value)):bQ k (A.under (.builtin "type.__call__" ⟨.ref C::us,kw⟩)) :=
 ⟨r.hd,by have:=r.dp;rw [wG];omega,by have:=r.un;rw [wF];omega⟩
def bQ.depth {k:Nat}{A:Around}(r:bQ k A):A.depth < recursionLimit:=by have:=r.dp;omega
def bQ.units {k:Nat}{A:Around}(r:bQ k A):A.units+64 < cLine:=by have:=r.un;omega
def IF:TA:=fun _ H Q=>Q [] H
def A8 (ta:TE)(tr:TA):TA:=fun Y H Q=>ta Y H fun x H1=>tr Y H1 fun xs H2=>Q (x::xs) H2
section
variable {X:Cx}{e:Expr}{es:Tj}{te:TE}{t:TA}{pos:Pos}
def Cg:PA X [] IF:=fun _ _ _ _ H Q I h=>Calls.spliced_nil ⟨[],H,I,.nil,h⟩
theorem yf (ha:PE X e te)(hr:PA X es t)(hs:starEach (e::es) X.env=(false,eval e X.env)::starEach es X.env:=by rfl):PA X (e::es) (A8 te t):=by
 intro pos pins s Y H Q I h;rw [hs]
 show wpAny _ _ (spliced ((false,eval e X.env)::backTo pos (starEach es X.env))) _ _ s
 refine Calls.spliced_cons (db (ha pins s Y H _ I h) fun u s1 hh=>?_);obtain ⟨x,H1,I1,r1,q1⟩:=hh;exact db (hr pos pins s1 Y H1 _ I1 q1) fun us s2 ⟨xs,H2,I2,r2,q2⟩=>⟨x::xs,H2,I2,.cons r1 r2,q2⟩
def Md (t:TA):TE:=fun Y H Q=>t Y H fun xs H1=>xs.length<=sizeLine/\∀p,H1 p=none->Q (.ref p) (upd H1 p (.tup xs))
def Ml (t:TA):TE:=fun Y H Q=>t Y H fun xs H1=>xs.length<=sizeLine/\∀p,H1 p=none->Q (.ref p) (upd H1 p (.lst xs))
def JV {x1}(h:PA X es t):PE X (.Tuple es x1 pos) (Md t):=by intro pins s Y H Q I hq;refine wpAny_Tuple_spliced (db (h pos pins s Y H _ I hq) fun us s1 hh=>?_);obtain ⟨xs,H1,I1,r,z,q⟩:=hh;refine ⟨by rw [←r.length];exact z,?_⟩;have hf:H1 s1.heap.objs.size=none:=I1.hok.fresh (zam _);refine ⟨.ref s1.heap.objs.size,upd H1 s1.heap.objs.size (.tup xs),I1.laid (t':=s1.toks) (fun b u e=>zae _ e) (zam _) ?_,rfl,q _ hf⟩;exact ⟨z,us,r,ky.new _ _⟩
def JZ (h:PA X es t):PE X (.List es pos) (Ml t):=by intro pins s Y H Q I hq;refine wpAny_List_spliced (db (h pos pins s Y H _ I hq) fun us s1 hh=>?_);obtain ⟨xs,H1,I1,r,z,q⟩:=hh;refine ⟨by rw [←r.length];exact z,?_⟩;have hf:H1 s1.heap.objs.size=none:=I1.hok.fresh (zam _);refine ⟨.ref s1.heap.objs.size,upd H1 s1.heap.objs.size (.lst xs),I1.laid (t':=s1.toks) (fun b u e=>zae _ e) (zam _) ?_,rfl,q _ hf⟩;exact ⟨z,us,0,r,zal _ rfl⟩
end
abbrev Sp:=List V->Hp->VK->XK->Prop
abbrev yU:=List Env->Hp->Shared->XK->Tb
structure xq (P:Program)(w:World)(K:zac)(mg:Td)(base:Heap)(A:Around)(outer:List Env)(s:Shared)(H:Hp):Prop where
 frames:A.frames=some outer
 mod:Mod K mg base
 bs:∀b o,base.get? b=some o->s.heap.get? b=some o/\H b=none
 bsz:base.objs.size<=s.heap.objs.size
 funs:s.heap.FunFrames base outer
 frf:∀b∈Ai outer,H b=none
 hok:iS P w H s.heap
 bare:AllBare s.gens
def CE (outer:List Env)(P:Program)(w:World)(H:Hp)(s:Shared)(Q:VK)(u:Value)(s':Shared):Prop :=
 ∃v H',s'.os=s.os/\AllBare s'.gens/\Un (Ai outer) [] H H' s.heap s'.heap/\iS P w H' s'.heap/\aY v u/\Q v H'
def CR (CX:yU)(outer:List Env)(P:Program)(w:World)(H:Hp)(s:Shared)(Q:VK)(E:XK)(r:Result)(s':Shared):Prop :=
 match r with
 |.ok (.ret u)=>CE outer P w H s Q u s'
 |.ok _=>False
 |.error e=>CX outer H s E e s'
structure cF (P:Program)(w:World)(K:zac)(mg:Td)(base:Heap)(CX:yU)(k:Nat)(f:Addr)(fd:FuncData)(ps:Tn)(sp:Sp):Prop where
 len:∀vs H Q E,sp vs H Q E->vs.length=ps.length
 run:∀(A:Around) (outer:List Env) (s:Shared) (H:Hp) (args:Args) (us:Te) (vs:List V) (Q:VK) (E:XK),bQ k A->xq P w K mg base A outer s H->BindsTo s fd args (ps.zip us)->aS vs us->sp vs H Q E ->
  codeAny (model P w) A (.call (.ref f) args) (CR CX outer P w H s Q E) s
def cF.imp {P:Program}{w:World}{K:zac}{mg:Td}{base:Heap}{CX:yU}{k:Nat}{f:Addr}{fd:FuncData}{ps:Tn}{sp sp':Sp}(F:cF P w K mg base CX k f fd ps sp)
  (h:∀vs H Q E,sp' vs H Q E->sp vs H Q E):cF P w K mg base CX k f fd ps sp' :=
 ⟨fun vs H Q E q=>F.len vs H Q E (h _ _ _ _ q),fun A outer s H args us vs Q E hr he hb hv hs=>F.run A outer s H args us vs Q E hr he hb hv (h _ _ _ _ hs)⟩
def xq.make {K:zac}{mg:Td}{base:Heap}{outer:List Env}{s:Shared}{H:Hp}(e:xq P w K mg base A outer s H)(C:Addr)(us:Te)(kw:List (Str×Value)) :
  xq P w K mg base (A.under (.builtin "type.__call__" ⟨.ref C::us,kw⟩)) outer s H:=⟨by first|exact e.frames|(simpa [Around.under,Code.envs,Code.isFrame,pushEnvs] using e.frames),e.mod,e.bs,e.bsz,e.funs,e.frf,e.hok,e.bare⟩
section
variable {X:Cx}{pins:Tc}{Y:St}{H:Hp}{s s':Shared}
def aA.env0 (I:aA X pins Y H s):xq X.prog X.w X.K X.mg X.base X.A X.stack s H :=
 ⟨I.ok.frames,I.ok.mod,I.bs,zbg I.ok.bsz I.sz,I.stack,I.stkFree,I.hok,I.bare⟩
def aA.after {Q:VK}{u:Value}(I:aA X pins Y H s)(h:CE X.stack X.prog X.w H s Q u s'):EP X pins Y Q u s':=by obtain ⟨v,H',os,bare,un,hok,r,q⟩:=h;obtain ⟨hh,g,d,t,os'⟩:=s';obtain rfl:os'=s.os:=os;exact ⟨v,H',I.call (h':=hh) (g':=g) (d':=d) (t':=t) (ch:=[]) un hok bare (fun b z=>absurd z (by simp)),r,q⟩
end
def tX (sp:Sp)(dvs:List V)(E:XK)(t:TA):TE:=fun Y H Q=>t Y H fun vs H1=>sp (vs++dvs) H1 Q E
def Hh (C:Addr)(m:Str)(sp:Sp)(dvs:List V)(E:XK)(ta:TE)(t:TA):TE:=fun Y H Q=>ta Y H fun x H1=>∃a dx fs,x=.ref a/\H1 a=some (.ins C dx fs)/\fs.lookup m=none /\
 t Y H1 fun vs H2=>sp (x::(vs++dvs)) H2 Q E
def Hi (C:Addr)(sp:Sp)(dvs:List V)(E:XK)(t:TA):TE:=fun Y H Q=>t Y H fun vs H1=>∀x dx,H1 x=none->H1 dx=none->dx≠x ->
 sp (.ref x::(vs++dvs)) (upd (upd H1 dx (.own x)) x (.ins C dx [])) (fun v H2=>v=.non/\Q (.ref x) H2) E
def f6 (K:zac)(fd:FuncData)(ps:Tn)(ds:Te):Prop :=
 ∀(s:Shared) (us:Te),K.In s.heap->(us++ds).length=ps.length->BindsTo s fd ⟨us,[]⟩ (ps.zip (us++ds))
def f6.all {K:zac}{ps:Tn}(h:∀us:Te,us.length=ps.length->bindArgs fd ⟨us,[]⟩=pure (ps.zip us)):f6 K fd ps []:=fun s us _ hl=>by rw [za2] at hl ⊢;exact .of_eq (h us hl)
def nA (CX:yU)(X:Cx)(E:XK):Prop:=∀(pins:Tc) (Y:St) (H:Hp) (s:Shared) (e:Value) (s':Shared),aA X pins Y H s->CX X.stack H s E e s'->X.xe e s'
section
variable {X:Cx}{CX:yU}{k:Nat}{f C:Addr}{fd:FuncData}{ps:Tn}{sp:Sp}{dvs:List V}{ds:Te}{E:XK}{x m:Str}{p pos apos:Pos}{e o:Expr}{es:Tj}{ta:TE}{t:TA}
theorem Bs {pins:Tc}{Y:St}{H:Hp}{s:Shared}{Q:VK}{us:Te}{vs:List V}(F:cF X.prog X.w X.K X.mg X.base CX k f fd ps sp)(hr:bQ k X.A)(hb:f6 X.K fd ps ds)(hd:aS dvs ds)(hx:nA CX X E)
  (I:aA X pins Y H s) (r:aS vs us) (h:sp (vs++dvs) H Q E):wpAny (model X.prog X.w) X.A (call (.ref f) us) (EP X pins Y Q) X.xe s:=by
 have r2:aS (vs++dvs) (us++ds):=r.append hd
 have hl:(us++ds).length=ps.length:=by rw [←r2.length];exact F.len _ _ _ _ h
 refine zcI (zbh (F.run X.A X.stack s H ⟨us,[]⟩ (us++ds) (vs++dvs) Q E hr I.env0 (hb s us I.kIn hl) r2 h) fun r s' hq=>?_)
 cases r with
 |error e=>exact hx pins Y H s e s' I hq
 |ok fl =>
  cases fl with
  |ret u=>exact I.after hq
  |next=>exact False.elim hq
  |brk=>exact False.elim hq
  |cont=>exact False.elim hq
theorem oC (F:cF X.prog X.w X.K X.mg X.base CX k f fd ps sp)(hr:bQ k X.A)(hg:Gl X x)(hm:X.mg x=some (.ref f))(hk:PySem.W.keepIn X.K (.ref f)=true)(hb:f6 X.K fd ps ds)(hd:aS dvs ds)(hx:nA CX X E)
  (ha:PA X (e::es) t) (hdb:(x == ("__debug__" : Str))=false:=by decide) (he:starEach (e::es) X.env=(false,eval e X.env)::starEach es X.env:=by rfl) (hpl:(backTo pos (starEach es X.env)).any (·.1)=false:=by rfl) :
  PE X (.Call (.Name x p) (e::es) [] pos) (tX sp dvs E t):=by
 intro pins s Y H Q I h;refine zcr (sy I hg hm ?_ hdb);refine zcV (h₀:=X.base) I.ok.mod.kin hk (db (ha pos pins s Y H _ I h) fun us s1 hh=>?_) he hpl;obtain ⟨vs,H1,I1,r,q⟩:=hh;refine ⟨I1.kIn,?_⟩;exact Bs F hr hb hd hx I1 r q
theorem E6 {pl:Sem Bool}(he:PE X o ta)(c:GA X.K C)(hm:Gv X.K C m f)(F:cF X.prog X.w X.K X.mg X.base CX k f fd ps sp)(hr:bQ k X.A)(hb:f6 X.K fd ps ds)(hd:aS dvs ds)(hx:nA CX X E)(ha:PA X (e::es) t)
  (hst:starEach (e::es) X.env=(false,eval e X.env)::starEach es X.env:=by rfl) (hpl:(backTo pos (starEach es X.env)).any (·.1)=false:=by rfl)
  (ht:eval (.Call (.Attribute o m apos) (e::es) [] pos) X.env=(do
   let ov ←eval o X.env
   standAt apos.atName
   let (f,first) ←holding [ov] (getMethod ov m pl)
   callWith pos f first (backTo pos (starEach (e::es) X.env)) (backToKw pos (keywordEach [] X.env))):=by rfl) :
  PE X (.Call (.Attribute o m apos) (e::es) [] pos) (Hh C m sp dvs E ta t):=by
 intro pins s Y H Q I h;refine PySem.W.methodCall_KW (pl:=pl) (db (he pins s Y H _ I h) fun u s1 hh=>?_) ht;obtain ⟨x,H1,I1,rx,a,dx,fs,ex,ea,l,q⟩:=hh;subst ex;obtain rfl:u=Value.ref a:=rx;refine wU I1 ea c hm l ?_;refine zcV (first:=[.ref a]) (h₀:=X.base) I.ok.mod.kin hm.kp (db (ha pos pins s1 Y H1 _ I1 q) fun us s2 hh=>?_) hst hpl;obtain ⟨vs,H2,I2,r,q2⟩:=hh;refine ⟨I2.kIn,?_⟩;exact Bs (us:=.ref a::us) (vs:=.ref a::vs) F hr hb hd hx I2 (.cons rfl r) q2
structure Mk (K:zac)(C f:Addr):Prop where
 makes:PySem.W.makesIn K C=true
 init:PySem.W.findIn K (.ref C) "__init__" = some (some (.ref f))
 fn:PySem.W.isFn K (.ref f)=true
 kp:PySem.W.keepIn K (.ref C)=true
theorem Br {pins:Tc}{Y:St}{H:Hp}{s:Shared}{Q:VK}{us:Te}{vs:List V}(M:Mk X.K C f)(F:cF X.prog X.w X.K X.mg X.base CX k f fd ps sp)(hr:bQ (k+1) X.A)(hb:f6 X.K fd ps ds)(hd:aS dvs ds)
  (hx:nA CX X E) (I:aA X pins Y H s) (r:aS vs us)
  (h:∀x dx,H x=none->H dx=none->dx≠x->sp (.ref x::(vs++dvs)) (upd (upd H dx (.own x)) x (.ins C dx [])) (fun v H2=>v=.non/\Q (.ref x) H2) E) :
  wpAny (model X.prog X.w) X.A (call (.ref C) us) (EP X pins Y Q) X.xe s:=by
 have hq:=h (s.heap.objs.size+1) s.heap.objs.size (I.hok.fresh (zbP _)) (I.hok.fresh (zam _)) (zap (zbL _));have I2:=aA.made (C:=C) I;have r2:aS (V.ref (s.heap.objs.size+1)::(vs++dvs)) (Value.ref (s.heap.objs.size+1)::(us++ds)):=.cons rfl (r.append hd)
 have hl:(Value.ref (s.heap.objs.size+1)::us++ds).length=ps.length:=by
  have e:=r2.length;rw [F.len _ _ _ _ hq] at e;exact e.symm
 refine zcI (CA (f:=f) I.kIn M.makes M.init (beq_iff_eq.mp M.fn) (zbh (F.run _ X.stack _ _ ⟨Value.ref (s.heap.objs.size+1)::us,[]⟩ (Value.ref (s.heap.objs.size+1)::(us++ds)) _ _ E (hr.make C us [])
  (I2.env0.make C us []) (hb _ (Value.ref (s.heap.objs.size+1)::us) I2.kIn hl) r2 hq) fun r s' hq'=>?_))
 cases r with
 |error e=>exact hx pins Y _ _ e s' I2 hq'
 |ok fl =>
  cases fl with
  |ret u =>
   obtain ⟨v,H',I3,rv,ev,q3⟩:=I2.after hq';subst ev;exact ⟨rv,⟨V.ref (s.heap.objs.size+1),H',I3,rfl,q3⟩⟩
  |next=>exact False.elim hq'
  |brk=>exact False.elim hq'
  |cont=>exact False.elim hq'
theorem E7 (M:Mk X.K C f)(F:cF X.prog X.w X.K X.mg X.base CX k f fd ps sp)(hr:bQ (k+1) X.A)(hg:Gl X x)(hm:X.mg x=some (.ref C))(hb:f6 X.K fd ps ds)(hd:aS dvs ds)(hx:nA CX X E)
  (ha:PA X (e::es) t) (hdb:(x == ("__debug__" : Str))=false:=by decide) (he:starEach (e::es) X.env=(false,eval e X.env)::starEach es X.env:=by rfl) (hpl:(backTo pos (starEach es X.env)).any (·.1)=false:=by rfl) :
  PE X (.Call (.Name x p) (e::es) [] pos) (Hi C sp dvs E t):=by
 intro pins s Y H Q I h;refine zcr (sy I hg hm ?_ hdb);refine zcV (h₀:=X.base) I.ok.mod.kin M.kp (db (ha pos pins s Y H _ I h) fun us s1 hh=>?_) he hpl;obtain ⟨vs,H1,I1,r,q⟩:=hh;refine ⟨I1.kIn,?_⟩;exact Br M F hr hb hd hx I1 r q
end
structure ax (N P:Tn)(sc:Scope):Prop where
 kind:sc.kind=.function
 co:sc.isCoroutine=false
 gen:sc.isGenerator=false
 nd:N.Nodup
 pre:N.take P.length=P
 par:∀x∈P,sc.names.lookup x=some .local\/sc.names.lookup x=some .cell
 nofree:∀y∈sc.names,y.2≠.free
theorem rE {kindOf:Str->Option NameKind}{x:Str}:∀{binds:List (Str×Value)} {m:Td},(∀v,(x,v)∉binds)->bindL kindOf binds m x=m x
 |[],_,_=>rfl
 |(n,v)::r,m,h=>by
  unfold bindL;rw [rE fun w hw=>h w (zaj _ hw)];split
  ·have:x≠n:=by rintro rfl;exact h v zan
   simp [this]
  ·rfl
theorem rG {kindOf:Str->Option NameKind}{x:Str}:∀{binds:List (Str×Value)} {m:Td},(∀v,(x,v)∉binds)->bindC kindOf binds m x=m x
 |[],_,_=>rfl
 |(n,v)::r,m,h=>by
  unfold bindC;rw [rG fun w hw=>h w (zaj _ hw)];split
  ·rfl
  ·have:x≠n:=by rintro rfl;exact h v zan
   simp [this]
theorem rF {kindOf:Str->Option NameKind}{x:Str}{v:Value}:∀{P:Tn} {vs:Te} {i:Nat} {m:Td},P.Nodup->P[i]?=some x->vs[i]?=some v->kindOf x=some .local ->
  bindL kindOf (P.zip vs) m x=some v
 |[],_,_,_,_,h,_,_=>by simp at h
 |_::_,[],_,_,_,_,h,_=>by simp at h
 |p::P,w::vs,0,m,nd,h1,h2,hk=>by
  simp at h1 h2;subst h1;subst h2
  show bindL kindOf ((p,w)::P.zip vs) m p=_
  unfold bindL;rw [rE fun v hv=>(zaL.mp nd).1 (zc6 hv).1,if_pos hk];simp
 |p::P,w::vs,i+1,m,nd,h1,h2,hk=>by
  show bindL kindOf ((p,w)::P.zip vs) m x=_
  unfold bindL;exact rF (i:=i) (zaL.mp nd).2 (by simpa using h1) (by simpa using h2) hk
theorem rH {kindOf:Str->Option NameKind}{x:Str}{v:Value}:∀{P:Tn} {vs:Te} {i:Nat} {m:Td},P.Nodup->P[i]?=some x->vs[i]?=some v->kindOf x≠some .local ->
  bindC kindOf (P.zip vs) m x=some v
 |[],_,_,_,_,h,_,_=>by simp at h
 |_::_,[],_,_,_,_,h,_=>by simp at h
 |p::P,w::vs,0,m,nd,h1,h2,hk=>by
  simp at h1 h2;subst h1;subst h2
  show bindC kindOf ((p,w)::P.zip vs) m p=_
  unfold bindC;rw [rG fun v hv=>(zaL.mp nd).1 (zc6 hv).1,if_neg hk];simp
 |p::P,w::vs,i+1,m,nd,h1,h2,hk=>by
  show bindC kindOf ((p,w)::P.zip vs) m x=_
  unfold bindC;exact rH (i:=i) (zaL.mp nd).2 (by simpa using h1) (by simpa using h2) hk
def fw (N:Tn)(vs:List V):St:=vs.map some++List.replicate (N.length - vs.length) none
def jE (CX:yU)(P:Program)(w:World)(K:zac)(mg:Td)(base:Heap)(N:Tn)(qual:Str)(scope:Scope)(f:Addr)(cd:Value)(A:Around)(outer:List Env)(s:Shared)(H:Hp)(E:XK):Cx where
 prog:=P
 w:=w
 K:=K
 mg:=mg
 base:=base
 A:=A.deeper (envOfC qual scope s.heap.objs.size f cd)
 N:=N
 s₀:=s
 H₀:=H
 env:=envOfC qual scope s.heap.objs.size f cd
 outer:=outer
 stack:=envOfC qual scope s.heap.objs.size f cd::outer
 ex:=[]
 calm:=true
 fn:=fun _=>true
 pn:=[]
 xe:=fun e s'=>wpAny (model P w) (A.deeper (envOfC qual scope s.heap.objs.size f cd)) (leaving (envOfC qual scope s.heap.objs.size f cd) e) (fun _ s''=>CX outer H s E e s'') (fun e' s''=>CX outer H s E e' s'') s'
def vm {sc:Scope}{n:Nat}{x:Str}(h:sc.names.lookup x=some .cell):∃c,(cellsFrom n sc.names []).lookup x=some c:=by have q:=zb8 sc.names n [] (.inl h);exact zcs.mp q
def z8 {CX:yU}{P:Program}{w:World}{K:zac}{mg:Td}{base:Heap}{N ps:Tn}{qual:Str}{scope:Scope}{f:Addr}{cd:Value}{A:Around}{outer:List Env}{s s1:Shared}{H:Hp}{E:XK}{us:Te}{vs:List V}
  (S:ax N ps scope) (hd:A.handled=none) (e0:xq P w K mg base A outer s H) (hl:vs.length=ps.length) (r:aS vs us)
  (x:InCallC s s.heap.objs.size (bindL (envOfC qual scope s.heap.objs.size f cd).kindOf (ps.zip us) fun _=>none) (cellsFrom (s.heap.objs.size+1) scope.names []) (bindC (envOfC qual scope s.heap.objs.size f cd).kindOf (ps.zip us) fun _=>none) s1) :
  aA (jE CX P w K mg base N qual scope f cd A outer s H E) [] (fw N vs) H s1:=by
 have hpl:ps.length<=N.length:=by have:=congrArg List.length S.pre;rw [zbr] at this;omega
 obtain ⟨h1,tk,rfl,hk⟩:=x.done;have noA:∀b:Addr,b∉(jE CX P w K mg base N qual scope f cd A outer s H E).ex:=fun b z=>absurd (show b∈([]:Tf) from z) (by simp)
 refine ⟨⟨e0.mod,S.kind,rfl,rfl,zam _,fun y z c h1 h2=>?_,fun y hy=>?_,fun y c _ h=>?_,fun _=>hd,Around.frames_deeper e0.frames,.inr ⟨rfl,rfl⟩,fun b z=>absurd z (noA b),e0.bs,e0.bsz,fun b _ _=>noA b,fun b z=>absurd z (noA b),e0.funs,e0.frf⟩,
  rfl,e0.bare,Un.kept hk,⟨_,x.toInCall.ns,fun i y v h1 h2 h3=>?_⟩,fun y c h=>⟨_,x.cell y c h⟩,e0.hok.fresh (zam _),fun y c h=>?_,fun p hp=>absurd (show p∈([]:Tc) from hp) (by simp),e0.hok.kept hk,?_⟩
 ·exact name_of_addr x.apart (PySem.mem_of_lookup h1) (PySem.mem_of_lookup h2)
 ·have hy:scope.names.lookup y=some .cell\/scope.names.lookup y=some .free:=hy
  rcases hy with hy|hy
  ·exact vm hy
  ·exact absurd rfl (S.nofree _ (PySem.mem_of_lookup hy))
 ·exact zbD (x.above y c (PySem.mem_of_lookup h))
 ·have hi:i < vs.length:=by
   unfold fw at h2
   by_cases hi:i < vs.length
   ·exact hi
   ·rw [zaN (by simpa using hi)] at h2
    rw [zb2] at h2;split at h2 <;> cases h2
  have ha:vs[i]?=some v:=by
   unfold fw at h2;rw [zai (by simpa using hi),zaE] at h2
   cases e:vs[i]? with
   |none=>rw [e] at h2;cases h2
   |some a=>rw [e] at h2;cases h2;rfl
  obtain ⟨u,hu,rv⟩:=r.get ha
  have hp:ps[i]?=some y:=by
   rw [←S.pre,List.getElem?_take_of_lt (by omega)];exact h1
  have ndP:ps.Nodup:=by rw [←S.pre];exact S.nd.sublist (List.take_sublist _ _)
  refine ⟨u,rv,?_⟩;rcases S.par y (zaH hp) with k|k
  ·exact .inl ⟨k,rF ndP hp hu k⟩
  ·obtain ⟨c,e⟩:=vm (n:=s.heap.objs.size+1) k
   refine .inr ⟨.inl k,c,e,?_⟩;have q:=x.cell y c e;rw [rH ndP hp hu (by show scope.names.lookup y≠_;rw [k];decide)] at q;exact q
 ·exact e0.hok.fresh (zbD (x.above y c (PySem.mem_of_lookup h)))
 ·unfold fw
  show _=N.length
  rw [zaD,zag,List.length_replicate];omega
theorem NL {CX:yU}{P:Program}{w:World}{K:zac}{mg:Td}{base:Heap}{k:Nat}{f:Addr}{name qual:Str}{params:Arguments}{body:Tk}{scope:Scope}{dV kV doc pm cdv ct oc:Value}{an od:Option Addr}
  {osl:Array (Tg)} {N ps:Tn} {sp:Sp} (lk:K.lookup f=some ⟨oc,od,.func (PySem.W.fnOf name qual params body scope dV kV doc pm an cdv ct),osl⟩) (hcd:PySem.W.codeIn K cdv qual=true) (S:ax N ps scope)
  (len:∀vs H Q E,sp vs H Q E->vs.length=ps.length)
  (hbody:∀(A:Around) (outer:List Env) (s:Shared) (H:Hp) (vs:List V) (Q:VK) (E:XK),bQ k (A.deeper (envOfC qual scope s.heap.objs.size f cdv))->sp vs H Q E ->
   ∃t,on (jE CX P w K mg base N qual scope f cdv A outer s H E) body t/\t {nx:=fun _ H'=>Q .non H',rt:=Q} (fw N vs) H) :
  cF P w K mg base CX (k+1) f (PySem.W.fnOf name qual params body scope dV kV doc pm an cdv ct) ps sp:=by
 refine ⟨len,fun A outer s H args us vs Q E hr e0 hb r hsp=>?_⟩;have hl:=len _ _ _ _ hsp;have KX:K.In s.heap:=e0.mod.kin.keeps fun b o e=>(e0.bs b o e).1;have lim:s.heap.NoLimit:=e0.mod.nolimit.keeps fun b o e=>(e0.bs b o e).1
 have hkind:∀y∈ps.zip us,scope.names.lookup y.1=some .local\/(scope.names.lookup y.1=some .cell/\((cellsFrom (s.heap.objs.size+1) scope.names []).lookup y.1).isSome=true):=fun ⟨n,v⟩ hy=>by
  rcases S.par n (zc6 hy).1 with q|q
  ·exact .inl q
  ·exact .inr ⟨q,zb8 _ _ _ (.inl q)⟩
 refine codeAny_call_function hr.depth (KX _ _ lk) rfl S.co S.gen rfl (PySem.W.codeRec_of KX hcd) (hb _ _ _ _ ?_);refine wpAny_newFunctionEnv_cells S.kind hkind fun env he s1 x=>?_;subst he;refine ⟨lim.keeps x.toInCall.keep,codeAny_func ?_⟩;obtain ⟨t,ht,hq⟩:=hbody A outer s H vs Q E (hr.deeper _) hsp;have I:aA (jE CX P w K mg base N qual scope f cdv A outer s H E) [] (fw N vs) H s1:=z8 S hr.hd e0 hl r x;refine zbx (ht [] s1 (fw N vs) H _ I hq) (fun fl s' hs=>?_) fun e s' hs=>hs
 have fin:∀{Y':St} {H':Hp} {v:V} {u:Value},aA (jE CX P w K mg base N qual scope f cdv A outer s H E) [] Y' H' s'->aY v u->Q v H'->CE outer P w H s Q u s' :=
  fun {Y' H' v u} J rv q=>⟨v,H',J.os,J.bare,J.base,J.hok,rv,q⟩
 cases fl with
 |ret u =>
  obtain ⟨v,Y',H',J,rv,q⟩:=hs;exact fin J rv q
 |next =>
  obtain ⟨Y',H',J,q⟩:=hs;exact fin (v:=V.non) (u:=Value.none) J rfl q
 |brk =>
  obtain ⟨_,_,_,q⟩:=hs;exact False.elim q
 |cont =>
  obtain ⟨_,_,_,q⟩:=hs;exact False.elim q
section
variable {X:Cx}{x:Str}{p pos:Pos}{e:Expr}{es:Tj}{t:TA}{id T:String}{r:List V->Hp->VK->Prop}
def Pe (r:List V->Hp->VK->Prop)(t:TA):TE:=fun Y H Q=>t Y H fun vs H1=>r vs H1 Q
theorem gH (hc:gW X (.builtin id) r)(hg:Gl X x)(hm:X.mg x=none)(hv:bootBuiltins x=some (.builtin id))(ha:PA X (e::es) t)(hn:x≠"__name__":=by decide)(hdb:(x == ("__debug__" : Str))=false:=by decide)
  (he:starEach (e::es) X.env=(false,eval e X.env)::starEach es X.env:=by rfl) (hpl:(backTo pos (starEach es X.env)).any (·.1)=false:=by rfl):PE X (.Call (.Name x p) (e::es) [] pos) (Pe r t):=by
 intro pins s Y H Q I h;refine zcr (sA I hg hm hv ?_ hn hdb);exact PyProof.Rows.callWith_builtin1 (db (ha pos pins s Y H _ I h) fun us s1 ⟨vs,H1,I1,r1,q1⟩=>hc pins s1 Y H1 vs us Q I1 r1 q1) he hpl
theorem eS (hc:gW X (.type T) r)(hg:Gl X x)(hm:X.mg x=none)(hv:bootBuiltins x=some (.type T))(ha:PA X (e::es) t)(hn:x≠"__name__":=by decide)(hdb:(x == ("__debug__" : Str))=false:=by decide)
  (he:starEach (e::es) X.env=(false,eval e X.env)::starEach es X.env:=by rfl) (hpl:(backTo pos (starEach es X.env)).any (·.1)=false:=by rfl):PE X (.Call (.Name x p) (e::es) [] pos) (Pe r t):=by
 intro pins s Y H Q I h;refine zcr (sA I hg hm hv ?_ hn hdb);exact PyProof.Rows.callWith_type1 (db (ha pos pins s Y H _ I h) fun us s1 ⟨vs,H1,I1,r1,q1⟩=>hc pins s1 Y H1 vs us Q I1 r1 q1) he hpl
end
end L2
namespace HT
open PyProof.Rows
section
variable {prog:Program}{w:World}{A:Around}{E:Tb}{s:Shared}
theorem Gc {t b:Addr}{vs ws:Te}{Q:Tb}(ht:IsTup s.heap t vs.toArray)(hb:IsTup s.heap b ws.toArray)(hv:vs≠[])
  (h1:ws=[]->Q (.ref t) s) (h2:ws≠[]->Q (.ref s.heap.objs.size) {s with heap:=s.heap.push {cls:=.type "tuple",data:=.seq (vs++ws).toArray}})
  (hsz:vs.length+ws.length<=sizeLine):wpAny (model prog w) A (binaryOp .Add (.ref t) (.ref b)) Q E s:=by
 obtain ⟨⟨cls,dd,data,sl⟩,ho,hc,n,hd⟩:=id ht;obtain ⟨⟨cls2,dd2,data2,sl2⟩,ho2,hc2,n2,hd2⟩:=id hb;simp only at hc hd hc2 hd2;subst hc hd hc2 hd2
 have e:vs.toArray++ws.toArray=(vs++ws).toArray:=by simp
 by_cases hw:ws=[]
 ·exact concat_meets ⟨_,ho,rfl⟩ ⟨_,ho2,rfl⟩ noFill_tuple_add seq_tuple_add PySem.F.slot_tuple_add PySem.F.entry_tuple_add (PySem.F.args_tuple_add_2 _ _)
   (tuple_addW1 t b vs.toArray ws.toArray n n2 dd dd2 sl sl2 (by simpa using hv) (by simp [hw])) ⟨ho,ho2,h1 hw⟩
 ·refine concat_meets ⟨_,ho,rfl⟩ ⟨_,ho2,rfl⟩ noFill_tuple_add seq_tuple_add PySem.F.slot_tuple_add PySem.F.entry_tuple_add (PySem.F.args_tuple_add_2 _ _)
   (tuple_addW2 t b vs.toArray ws.toArray n n2 dd dd2 sl sl2 (by simpa using hv) (by simpa using hw) (by rw [zaq,zaq];exact hsz)) ⟨ho,ho2,?_⟩
  rw [e];exact h2 hw
def cP (n d:Nat):Option Int->Nat
 |none=>d
 |some v=>if v < 0 then (v+(n:Int)).toNat else min v.toNat n
def xP (n d k:Nat):cP n d (some (k:Int))=min k n:=by
 show (if (k:Int) < 0 then ((k:Int)+(n:Int)).toNat else min (k:Int).toNat n)=min k n
 rw [if_neg (by omega),zby]
theorem IU (n d:Nat)(hd:d<=n)(o:Option Int):cP n d o<=n:=by
 cases o with
 |none=>exact hd
 |some v =>
  show (if v < 0 then (v+(n:Int)).toNat else min v.toNat n)<=n
  by_cases hv:v < 0
  ·rw [if_pos hv];omega
  ·rw [if_neg hv];exact zcD _ _
def yP (v:Int)(n d:Nat):(if v < 0 then max (v+(n:Int)) 0 else min v (n:Int))=((cP n d (some v):Nat):Int):=by
 show (if v < 0 then max (v+(n:Int)) 0 else min v (n:Int))=(((if v < 0 then (v+(n:Int)).toNat else min v.toNat n):Nat):Int)
 by_cases hv:v < 0
 ·simp only [if_pos hv];omega
 ·simp only [if_neg hv];omega
def xm (lo hi:Option Int)(n:Nat):Builtin.Slice.sliceAdjust lo hi 1 (n:Int)=(((cP n 0 lo:Nat):Int),((cP n n hi:Nat):Int)):=by
 have h1:¬ ((1:Int) < 0):=by omega
 unfold Builtin.Slice.sliceAdjust;simp only [h1,if_false];refine Prod.ext ?_ ?_
 ·cases lo with
  |none=>rfl
  |some v=>exact yP v n 0
 ·cases hi with
  |none=>rfl
  |some v=>exact yP v n n
def wv (i j:Nat):Builtin.Slice.slicePlaces (i:Int) (j:Int) 1=j - i:=by
 unfold Builtin.Slice.slicePlaces;have h1:(1:Int) > 0:=by omega
 simp only [h1,if_true,Int.ediv_one];split <;> omega
theorem o8 {v:Value}{o:Option Int}{Q:Option Int->Shared->Prop}(p:IsPart v o)(h:Q o s):wpAny (model prog w) A (Builtin.Slice.slicePartIndex v) Q E s:=by
 cases p with
 |none=>exact slicePart_none h
 |int i t=>exact slicePart_int h
theorem iF {sl:Addr}{vl vu:Value}{lo hi:Option Int}{n:Nat}{Q:Int×Int×Nat->Shared->Prop}(hs:s.heap.IsSliceOf sl vl vu .none)(pl:IsPart vl lo)(pu:IsPart vu hi)
  (h:Q (((cP n 0 lo:Nat):Int),1,cP n n hi - cP n 0 lo) s):wpAny (model prog w) A (Builtin.Slice.sliceApplied (.ref sl) (pure (n:Int))) Q E s:=by
 obtain ⟨os,hos,hcs,hds⟩:=id hs;unfold Builtin.Slice.sliceApplied Builtin.Slice.sliceFields;refine zaa (zaa (zcm hos hds (x:=vl) rfl (zaa (zcm hos hds (x:=vu) rfl (zaa (zcm hos hds (x:=.none) rfl (zad ?_)))))));refine zaa (slicePart_none ?_)
 show wpAny _ _ (if ((1:Int) == 0)=true then _ else _) _ _ s
 rw [if_neg (by decide)];refine zaa (o8 pl (zaa (o8 pu (zaa (zad ?_)))))
 show wpAny _ _ (match Builtin.Slice.sliceAdjust lo hi 1 (n:Int) with|(lo,hi)=>pure (lo,(1:Int),Builtin.Slice.slicePlaces lo hi 1)) _ _ s
 rw [xm lo hi n]
 show wpAny _ _ (pure (((cP n 0 lo:Nat):Int),(1:Int),Builtin.Slice.slicePlaces ((cP n 0 lo:Nat):Int) ((cP n n hi:Nat):Int) 1)) _ _ s
 rw [wv];exact zad h
theorem B7 (xs:Ti)(i k:Nat):((List.range k).filterMap fun (m:Nat)=>xs[((i:Int)+(m:Int) * 1).toNat]?).toArray=((xs.toList.drop i).take k).toArray:=by
 have e:(fun (m:Nat)=>xs[((i:Int)+(m:Int) * 1).toNat]?)=fun m=>xs[i+m]?:=by
  funext m;have:((i:Int)+(m:Int) * 1).toNat=i+m:=by omega
  rw [this]
 rw [e];have:=pick_run xs i k;rw [List.filterMap_map] at this
 have e2:((fun x=>xs[x]?) ∘ fun x=>i+x)=fun m=>xs[i+m]?:=rfl;rw [e2] at this
 rw [this]
theorem mo {t sl:Addr}{items:Ti}{vl vu:Value}{lo hi:Option Int}{Q:Tb}(ht:IsTup s.heap t items)(hs:s.heap.IsSliceOf sl vl vu .none)(pl:IsPart vl lo)(pu:IsPart vu hi)
  (hw:¬ (cP items.size 0 lo=0/\cP items.size items.size hi=items.size))
  (h:Q (.ref s.heap.objs.size) {s with heap:=s.heap.push {cls:=.type "tuple",data:=.seq ((items.toList.drop (cP items.size 0 lo)).take (cP items.size items.size hi - cP items.size 0 lo)).toArray}})
  (hsz:items.size<=sizeLine):wpAny (model prog w) A (getItem (.ref t) (.ref sl)) Q E s:=by
 have htake:sizeOk (.seq ((items.toList.drop (cP items.size 0 lo)).take (cP items.size items.size hi - cP items.size 0 lo)).toArray):=by
  show ((items.toList.drop (cP items.size 0 lo)).take (cP items.size items.size hi - cP items.size 0 lo)).toArray.size<=sizeLine
  rw [zaq,zbr,zcE,za8];omega
 have hj:cP items.size items.size hi<=items.size:=IU _ _ (zam _) hi;obtain ⟨os,hos,hcs,hds⟩:=id hs;have hTs:s.TypeIs (.ref sl) "slice":=⟨os,hos,hcs⟩;unfold getItem
 try with_reducible refine zaI ?_
 first|refine zaa (zad ?_)|skip
 refine zaa (wpAny_sequenceKey ht.typeIs (by decide) ?_)
 refine zaa (za0 (name:=Str.ofString "__getitem__") ht.typeIs PyProof.Rows.slot_tuple_getitem
  (zaG PyProof.Rows.slot_tuple_getitem ht.typeIs entry_tuple_getitem ?_ (args_tuple_getitem _ _)))
 show wpAny _ _ (Builtin.Tuple.tupleItemsOf (.ref t) >>= _) _ _ s
 refine zaa (tupleItemsOf_ ht ?_);refine zaa (zbs hTs ?_);rw [if_pos (by decide)];refine zaa (iF hs pl pu ?_)
 have hno:¬ ((((cP items.size 0 lo:Nat):Int) == 0 && (1:Int) == 1 && (cP items.size items.size hi - cP items.size 0 lo) == items.size)=true):=by
  intro q;rw [za4,za4] at q;have q1:((cP items.size 0 lo:Nat):Int)=0:=eq_of_beq q.1.1;have q2:cP items.size items.size hi - cP items.size 0 lo=items.size:=eq_of_beq q.2;exact hw ⟨by omega,by omega⟩
 show wpAny _ _ (if (((cP items.size 0 lo:Nat):Int) == 0 && (1:Int) == 1 && (cP items.size items.size hi - cP items.size 0 lo) == items.size)=true then _ else _) _ _ s
 rw [if_neg hno,B7]
 first
  |exact zaa (m:=Builtin.Tuple.tupleExact _) (zaF (zad ⟨_,rfl,zad h⟩) htake)
  |exact zaa (m:=Builtin.Tuple.tupleExact _) (zaF (zaa (zad (zad ⟨_,rfl,zad h⟩))) htake)
  |exact zaa (zaa (m:=Builtin.Tuple.tupleExact _) (zaF (zad (zad ⟨_,rfl,zad h⟩)) htake))
  |exact zaa (zaa (m:=Builtin.Tuple.tupleExact _) (zaF (zad ⟨_,rfl,zad h⟩) htake))
end
end HT
namespace L2
open PyProof.Rows
abbrev TO:=St->Hp->(Option Int->Hp->Prop)->Prop
def PO (X:Cx)(e:Option Expr)(t:TO):Prop :=
 ∀(pins:Tc) (s:Shared) (Y:St) (H:Hp) (Q:Option Int->Hp->Prop),aA X pins Y H s->t Y H Q ->
  wpAny (model X.prog X.w) X.A (evalPart e X.env) (fun u s'=>∃o H',aA X pins Y H' s'/\IsPart u o/\Q o H') X.xe s
def xL:TO:=fun _ H Q=>Q none H
def He (t:TE):TO:=fun Y H Q=>t Y H fun x H1=>∃i,x=.int i/\Q (some i) H1
section
variable {X:Cx}{e:Expr}{te:TE}{lo hi:Option Expr}{tl th:TO}{pos p2:Pos}
def E1:PO X none xL:=by intro pins s Y H Q I h;rw [evalPart_none];exact zad ⟨none,H,I,.none,h⟩
def EZ (h:PE X e te):PO X (some e) (He te):=by intro pins s Y H Q I hw;rw [evalPart_some];refine db (h pins s Y H _ I hw) fun u s1 hh=>?_;obtain ⟨x,H1,I1,r1,q1⟩:=hh;obtain ⟨i,rfl,q⟩:=q1;obtain ⟨t,rfl⟩:=r1;exact ⟨some i,H1,I1,.int i t,q⟩
def AG (X:Cx)(r:V->Option Int->Option Int->Hp->VK->Prop):Prop :=
 ∀(pins:Tc) (s:Shared) (Y:St) (H:Hp) (x:V) (v vl vu:Value) (lo hi:Option Int) (sl:Addr) (Q:VK),aA X pins Y H s->aY x v->s.heap.IsSliceOf sl vl vu .none->IsPart vl lo->IsPart vu hi->r x lo hi H Q ->
  ∃T id,typeLookup (.type T) "__getitem__" = pure (some (.builtin id))/\s.TypeIs v T/\wpAny (model X.prog X.w) X.A (getItem v (.ref sl)) (EP X pins Y Q) X.xe s
def AG.or {r r':V->Option Int->Option Int->Hp->VK->Prop}(h:AG X r)(h':AG X r'):AG X (fun x lo hi H Q=>r x lo hi H Q\/r' x lo hi H Q):=by
 intro pins s Y H x v vl vu lo hi sl Q I rx hs pl pu q;rcases q with q|q
 ·exact h pins s Y H x v vl vu lo hi sl Q I rx hs pl pu q
 ·exact h' pins s Y H x v vl vu lo hi sl Q I rx hs pl pu q
def Om (r:V->Option Int->Option Int->Hp->VK->Prop)(te:TE)(tl th:TO):TE:=fun Y H Q=>te Y H fun x H1=>tl Y H1 fun l H2=>th Y H2 fun u H3=>r x l u H3 Q
theorem pB {r:V->Option Int->Option Int->Hp->VK->Prop}(hr:AG X r)(he:PE X e te)(hl:PO X lo tl)(hu:PO X hi th):PE X (.Subscript e (.Slice lo hi none p2) pos) (Om r te tl th):=by
 intro pins s Y H Q I h;refine Subscript_ (db (he pins s Y H _ I h) fun v s1 hh=>?_);obtain ⟨x,H1,I1,r1,q1⟩:=hh;refine wpAny_Slice (db (hl pins s1 Y H1 _ I1 q1) fun vl s2 hh=>?_);obtain ⟨l,H2,I2,pl,q2⟩:=hh;refine db (hu pins s2 Y H2 _ I2 q2) fun vu s3 hh=>?_;obtain ⟨u,H3,I3,pu,q3⟩:=hh;rw [evalPart_none];refine zad ?_;have I4:aA X pins Y H3 {s3 with heap:=s3.heap.push {cls:=.type "slice",data:=.fields #[vl,vu,.none]}}:=I3.kept (t':=s3.toks) fun b ob q=>zae _ q;obtain ⟨T,id,hT,ht,hg⟩:=hr pins {s3 with heap:=s3.heap.push {cls:=.type "slice",data:=.fields #[vl,vu,.none]}} Y H3 x v vl vu l u s3.heap.objs.size Q I4 r1 (Heap.IsSliceOf.new ..) pl pu q3
 show wpAny (model X.prog X.w) X.A (subscriptTail e (.Slice lo hi none p2) v (.ref s3.heap.objs.size)) (EP X pins Y Q) X.xe {s3 with heap:=s3.heap.push {cls:=.type "slice",data:=.fields #[vl,vu,.none]}}
 exact tail_any (ops:=[.ref s3.heap.objs.size,v]) ht hT hg (by with_unfolding_all rfl)
def oj (xs:List V)(lo hi:Option Int):List V:=(xs.drop (HT.cP xs.length 0 lo)).take (HT.cP xs.length xs.length hi - HT.cP xs.length 0 lo)
def nS (xs:List V)(lo hi:Option Int):(oj xs lo hi).length<=xs.length:=by unfold oj;rw [zbr,zcE];omega
def MI (K:zac):V->Option Int->Option Int->Hp->VK->Prop:=fun x lo hi H Q=>∃a xs,x=.ref a/\gQ K H a xs /\
 ¬ (HT.cP xs.length 0 lo=0/\HT.cP xs.length xs.length hi=xs.length)/\∀p,H p=none->Q (.ref p) (upd H p (.tup (oj xs lo hi)))
def IP:AG X (MI X.K):=by
 intro pins s Y H x v vl vu lo hi sl Q I rx hs pl pu h;obtain ⟨a,xs,rfl,hx,hw,q⟩:=h;cases rx;obtain ⟨its,r,ht,hz⟩:=I.tuple hx;have hlen:its.toArray.size=xs.length:=by rw [zaq];exact r.length.symm
 refine ⟨"tuple",_,PyProof.Rows.slot_tuple_getitem.lookup,ht.typeIs,?_⟩;refine HT.mo ht hs pl pu (by rw [hlen];exact hw) ?_ (by rw [hlen];exact hz);rw [hlen];refine ⟨.ref s.heap.objs.size,_,I.laid (t':=s.toks) (o:=.tup (oj xs lo hi)) (fun b ob q=>zae _ q) (zam _) ?_,rfl,q _ (I.hok.fresh (zam _))⟩;exact ⟨zbg (nS xs lo hi) hz,_,(r.drop (HT.cP xs.length 0 lo)).take (HT.cP xs.length xs.length hi - HT.cP xs.length 0 lo),ky.new _ _⟩
def Hx (K:zac):R2:=fun x y H Q=>∃a b xs ys,x=.ref a/\y=.ref b/\gQ K H a xs/\gQ K H b ys/\xs≠[]/\xs.length+ys.length<=sizeLine /\
 (ys=[]->Q (.ref a) H)/\(ys≠[]->∀p,H p=none->Q (.ref p) (upd H p (.tup (xs++ys))))
theorem aS.nil_iff {xs:List V}{us:Te}(r:aS xs us):us=[] ↔ xs=[]:=by
 cases r with
 |nil=>simp
 |cons _ _=>simp
def Ff:ku X (binaryOp .Add) (Hx X.K):=by intro pins s Y H x y v u Q I rx ry h;obtain ⟨a,b,xs,ys,rfl,rfl,ha,hb,hx,hz,q1,q2⟩:=h;cases rx;cases ry;obtain ⟨its,r1,p1,_⟩:=I.tuple ha;obtain ⟨its2,r2,p2,_⟩:=I.tuple hb;refine HT.Gc p1 p2 (fun z=>hx (r1.nil_iff.mp z)) (fun z=>⟨.ref a,H,I,rfl,q1 (r2.nil_iff.mp z)⟩) (fun z=>?_) (by rw [←r1.length,←r2.length];exact hz);refine ⟨.ref s.heap.objs.size,_,I.laid (t':=s.toks) (o:=.tup (xs++ys)) (fun b ob q=>zae _ q) (zam _) ?_,rfl,q2 (fun w=>z (r2.nil_iff.mpr w)) _ (I.hok.fresh (zam _))⟩;exact ⟨by rw [zaD];exact hz,_,r1.append r2,ky.new _ _⟩
end
def D0 (n:Nat)(i:Int):Option Nat:=if 0<=i then (if i < n then some i.toNat else none) else if -(n:Int)<=i then some (i+n).toNat else none
def mI {Z:Type}(xs:List Z)(i:Int):Option Z:=(D0 xs.length i).bind fun j=>xs[j]?
def yw {n:Nat}{i:Int}{j:Nat}(h:D0 n i=some j):seqIndex? i n=some j/\j < n/\-(n:Int)<=i/\i < n:=by
 unfold D0 at h;by_cases h0:0<=i
 ·rw [if_pos h0] at h;by_cases h1:i < n
  ·rw [if_pos h1] at h;have e:i.toNat=j:=Option.some.inj h;exact ⟨by rw [seqIndex_of h0 h1,e],by omega,by omega,h1⟩
  ·rw [if_neg h1] at h;cases h
 ·rw [if_neg h0] at h;by_cases h1 : -(n:Int)<=i
  ·rw [if_pos h1] at h;have e:(i+n).toNat=j:=Option.some.inj h;exact ⟨by rw [seqIndex_neg (by omega) h1,e],by omega,h1,by omega⟩
  ·rw [if_neg h1] at h;cases h
theorem tw {Z:Type}{xs:List Z}{i:Int}{v:Z}(h:mI xs i=some v):∃j,seqIndex? i xs.length=some j/\xs[j]?=some v/\j < xs.length/\-(xs.length:Int)<=i/\i < xs.length:=by
 unfold mI at h
 cases e:D0 xs.length i with
 |none=>rw [e] at h;cases h
 |some j =>
  rw [e] at h;obtain ⟨h1,h2,h3,h4⟩:=yw e;exact ⟨j,h1,h,h2,h3,h4⟩
def yT (b:Expr):Prop:=∀o i,subscripted b false o i=operate [o,i] (getItem o i)
def Gy (X:Cx)(r:R2):Prop :=
 ∀(value slice:Expr) (pins:Tc) (s:Shared) (Y:St) (H:Hp) (x y:V) (v u:Value) (Q:VK),aA X pins Y H s->aY x v->aY y u->r x y H Q ->
  subscripted slice false v u=operate [v,u] (getItem v u)->wpAny (model X.prog X.w) X.A (subscriptTail value slice v u) (EP X pins Y Q) X.xe s
def RE (X:Cx)(id:String)(r:V->List V->Hp->VK->Prop):Prop :=
 ∀(pins:Tc) (s:Shared) (Y:St) (H:Hp) (x:V) (xs:List V) (v:Value) (us:Te) (Q:VK),aA X pins Y H s->aY x v->aS xs us->r x xs H Q ->
  wpAny (model X.prog X.w) X.A (call (.builtin id) (v::us)) (EP X pins Y Q) X.xe s
section
variable {X:Cx}{a b:Expr}{ta tb:TE}{pos:Pos}
def Gy.or {r r':R2}(h:Gy X r)(h':Gy X r'):Gy X (fun x y H Q=>r x y H Q\/r' x y H Q):=by
 intro value slice pins s Y H x y v u Q I rx ry q hs;rcases q with q|q
 ·exact h value slice pins s Y H x y v u Q I rx ry q hs
 ·exact h' value slice pins s Y H x y v u Q I rx ry q hs
def M4 {r:R2}(hr:Gy X r)(ha:PE X a ta)(hb:PE X b tb)(hs:yT b):PE X (.Subscript a b pos) (IE r ta tb):=by intro pins s Y H Q I h;exact Subscript_ (Gg ha hb I h fun v u s2 x y H2 I2 rx ry q=>hr a b pins s2 Y H2 x y v u Q I2 rx ry q (hs _ _))
def MO (K:zac):R2:=fun x y H Q=>∃p xs i v,x=.ref p/\y=.int i/\jF K H p xs/\mI xs i=some v/\Q v H
def MM (K:zac):R2:=fun x y H Q=>∃p xs i v,x=.ref p/\y=.int i/\gQ K H p xs/\mI xs i=some v/\Q v H
def MN:R2:=fun x y H Q=>∃z i c,x=.str z/\y=.int i/\z.length<=sizeLine/\mI z.cps.toList i=some c/\Q (.str ⟨#[c]⟩) H
def Ft:Gy X (MO X.K):=by
 intro value slice pins s Y H x y v u Q I rx ry h hs;obtain ⟨p,xs,i,z,rfl,rfl,hq,he,q⟩:=h;cases rx;obtain ⟨t,rfl⟩:=ry;obtain ⟨its,r,pl,hz⟩:=I.list hq;obtain ⟨j,h1,h2,h3,h4,h5⟩:=tw he;obtain ⟨w,ew,rw'⟩:=r.get h2;have hl:=r.length;have hn:=lE;have fin:EP X pins Y Q w s:=⟨z,H,I,rw',q⟩;by_cases h0:0<=i
 ·have hj:i.toNat=j:=by
   rw [seqIndex_of h0 h5] at h1;exact Option.some.inj h1
  exact item_listR pl.isList h0 (by omega) (by rw [hj];simpa using ew) fin hs
 ·have hj:(i+(its.toArray.size:Int)).toNat=j:=by
   rw [seqIndex_neg (by omega) h4] at h1;rw [zaq,←hl];exact Option.some.inj h1
  exact subscriptTail_builtinR (x:=w) pl.isList.typeIs slot_list_getitem.lookup
   (wpAny_getItem_list_neg (Q:=fun r s'=>r=w/\EP X pins Y Q r s') pl.isList (by omega) (by rw [zaq] <;> omega) (by omega) (by rw [hj];simpa using ew) ⟨rfl,fin⟩) hs
def Kl:Gy X (MM X.K):=by
 intro value slice pins s Y H x y v u Q I rx ry h hs;obtain ⟨p,xs,i,z,rfl,rfl,hq,he,q⟩:=h;cases rx;obtain ⟨t,rfl⟩:=ry;obtain ⟨its,r,pl,hz⟩:=I.tuple hq;obtain ⟨j,h1,h2,h3,h4,h5⟩:=tw he;obtain ⟨w,ew,rw'⟩:=r.get h2;have hl:=r.length;have hn:=lE;have fin:EP X pins Y Q w s:=⟨z,H,I,rw',q⟩;exact subscriptTail_builtinR (x:=w) pl.typeIs slot_tuple_getitem.lookup
  (getItem_tuple (j:=j) (Q:=fun r s'=>r=w/\EP X pins Y Q r s') pl (by omega) (by omega) (by rw [zaq,←hl];exact h1) (by simpa using ew) ⟨rfl,fin⟩) hs
def Km:Gy X MN:=by
 intro value slice pins s Y H x y v u Q I rx ry h hs;obtain ⟨z,i,c,rfl,rfl,hz,he,q⟩:=h;obtain ⟨t,rfl⟩:=rx;obtain ⟨t',rfl⟩:=ry;obtain ⟨j,h1,h2,h3,h4,h5⟩:=tw he;have hl:z.cps.toList.length=z.length:=by simp [Str.length]
 rw [hl] at h1 h4 h5;have hn:=lE;exact tail_any (typeIs_str s z t) slot_str_getitem.lookup (getItem_str (c:=c) (by have e1:decide (i < -(2 ^ 63:Int))=false:=zay (by omega);have e2:decide (i >= 2 ^ 63)=false:=zay (by omega);rw [e1,e2,Bool.or_false]) (by rw [h1];simpa using h2) ⟨.str ⟨#[c]⟩,H,I.tok _,⟨_,rfl⟩,q⟩) hs
def Q7 (K:zac):R2:=fun x y H Q=>MO K x y H Q\/MM K x y H Q\/MN x y H Q
def Kn:Gy X (Q7 X.K):=Ft.or (Kl.or Km)
def wE (its:Te)(n j:Nat)(u:Value):Obj.mapSeq (·.setIfInBounds j u) {cls:=.type "list",data:=.seq its.toArray n}={cls:=.type "list",data:=.seq (its.set j u).toArray n}:=by simp [Obj.mapSeq]
def aA.lst {H:Hp}{s:Shared}{p:Addr}{xs:List V}(I:aA X pins Y H s)(h:H p=some (.lst xs)) :
  ∃(its:Te) (n:Nat),aS xs its/\s.heap.get? p=some {cls:=.type "list",data:=.seq its.toArray n}/\xs.length<=sizeLine:=by
 obtain ⟨z,its,n,r,e⟩:=I.hok p _ h;exact ⟨its,n,r,e,z⟩
def aA.lstUpd {H:Hp}{s:Shared}{p:Addr}{xs ys:List V}{its its':Te}{n n':Nat}{f:Obj->Obj}(I:aA X pins Y H s)(h:H p=some (.lst xs))
  (ho:s.heap.get? p=some {cls:=.type "list",data:=.seq its.toArray n}) (hf:f {cls:=.type "list",data:=.seq its.toArray n}={cls:=.type "list",data:=.seq its'.toArray n'}) (r:aS ys its') (hz:ys.length<=sizeLine) (t:Nat) :
  aA X pins Y (upd H p (.lst ys)) {s with heap:=s.heap.update p f,toks:=t}:=by
 have e:(s.heap.update p f).get? p=some {cls:=.type "list",data:=.seq its'.toArray n'}:=by
  rw [zaS f ho (by rw [hf] <;> rfl),hf]
 refine I.write (x:=p) (e:=p) (by rw [h];trivial) (.inl rfl) (fun b u hb q=>(zaw _ _ (Ne.symm hb)).trans q) ⟨_,e⟩ ?_;exact ⟨hz,its',n',r,e⟩
def BJ:V->V->V->Hp->(Hp->Prop)->Prop:=fun o i v H Q=>∃p xs k j,o=.ref p/\i=.int k/\H p=some (.lst xs)/\D0 xs.length k=some j/\Q (upd H p (.lst (xs.set j v)))
def Bj:tF X BJ:=by
 intro pins s Y H o i v ov iv u Q I ro ri rv h;obtain ⟨p,xs,k,j,rfl,rfl,hp,hj,q⟩:=h;cases ro;obtain ⟨t,rfl⟩:=ri;obtain ⟨its,n,r,ho,hz⟩:=I.lst hp;obtain ⟨h1,h2,h3,h4⟩:=yw hj;have hl:=r.length;have hn:=lE;have I':aA X pins Y (upd H p (.lst (xs.set j v))) {s with heap:=s.heap.update p (Obj.mapSeq (·.setIfInBounds j u))} :=
  I.lstUpd hp ho (wE its n j u) (r.set rv j) (by rw [List.length_set];exact hz) s.toks
 by_cases h0:0<=k
 ·have hk:k.toNat=j:=by
   rw [seqIndex_of h0 h4] at h1;exact Option.some.inj h1
  exact PySem.W.ki_setAt ho h0 (by omega) (by rw [zaq,←hl];exact h4) (by rw [hk];exact ⟨_,I',q⟩)
 ·have hk:(k+(its.toArray.size:Int)).toNat=j:=by
   rw [seqIndex_neg (by omega) h3] at h1;rw [zaq,←hl];exact Option.some.inj h1
  exact PySem.W.ki_setBack ho (by omega) (by rw [zaq,←hl];exact h3) (by omega) (by rw [hk];exact ⟨_,I',q⟩)
def r9 (lo hi:Option Int)(n:Nat):(sliceBounds lo hi none n).1=((HT.cP n 0 lo:Nat):Int)/\(sliceBounds lo hi none n).2.1=((HT.cP n n hi:Nat):Int)/\(sliceBounds lo hi none n).2.2=1:=by
 refine ⟨?_,?_,rfl⟩
 ·cases lo with
  |none=>simp [sliceBounds,HT.cP]
  |some i =>
   simp only [sliceBounds,HT.cP,Option.getD_none,show (1:Int) > 0 by decide,if_true];by_cases h:i < 0
   ·simp only [h,if_true] <;> omega
   ·simp only [h,if_false] <;> omega
 ·cases hi with
  |none=>simp [sliceBounds,HT.cP]
  |some i =>
   simp only [sliceBounds,HT.cP,Option.getD_none,show (1:Int) > 0 by decide,if_true];by_cases h:i < 0
   ·simp only [h,if_true] <;> omega
   ·simp only [h,if_false] <;> omega
theorem qk (its:Te)(lo hi:Option Int):slicePick its.toArray lo hi none=((its.drop (HT.cP its.length 0 lo)).take (HT.cP its.length its.length hi - HT.cP its.length 0 lo)).toArray:=by obtain ⟨h1,h2,h3⟩:=r9 lo hi its.toArray.size;unfold slicePick;rw [h1,h2,h3];simp only [sliceRange_one,pick_run,zaq] <;> rfl
def MK (K:zac):V->Option Int->Option Int->Hp->VK->Prop:=fun x lo hi H Q=>∃a xs,x=.ref a/\jF K H a xs/\∀p,H p=none->Q (.ref p) (upd H p (.lst (oj xs lo hi)))
def Eo:AG X (MK X.K):=by intro pins s Y H x v vl vu lo hi sl Q I rx hs pl pu h;obtain ⟨a,xs,rfl,hx,q⟩:=h;cases rx;obtain ⟨its,r,ht,hz⟩:=I.list hx;have hlen:=r.length;refine ⟨"list",_,slot_list_getitem.lookup,ht.isList.typeIs,?_⟩;refine wpAny_getItem_list_slice ht.isList hs pl pu .none (by simp) ?_ (by rw [zaq] <;> omega);rw [qk,←hlen];refine ⟨.ref s.heap.objs.size,_,I.laid (t':=s.toks) (o:=.lst (oj xs lo hi)) (fun b ob q=>zae _ q) (zam _) ?_,rfl,q _ (I.hok.fresh (zam _))⟩;exact ⟨zbg (nS xs lo hi) hz,_,0,(r.drop (HT.cP xs.length 0 lo)).take (HT.cP xs.length xs.length hi - HT.cP xs.length 0 lo),zal _ rfl⟩
def mq:V->Bool
 |.non=>true
 |.bl _=>true
 |.int _=>true
 |.str _=>true
 |_=>false
def F6:V->V->Bool
 |.non,.non=>true
 |.bl a,.bl b=>a == b
 |.bl a,.int b=>(if a then 1 else 0) == b
 |.int a,.bl b=>a == (if b then 1 else 0)
 |.int a,.int b=>a == b
 |.str a,.str b=>a == b
 |_,_=>false
theorem K7 {s:Shared}{y x:V}{u v:Value}(ry:aY y u)(rx:aY x v)(fy:mq y=true)(fx:mq x=true):SeqAt.EqAt A s u v (F6 y x):=by
 cases y with
 |non =>
  cases ry
  cases x with
  |non=>cases rx;exact SeqAt.EqAt.same _
  |bl b=>cases rx;exact SeqAt.EqAt.none_bool b
  |int b=>obtain ⟨t,rfl⟩:=rx;exact SeqAt.EqAt.none_int b t
  |str b=>obtain ⟨t,rfl⟩:=rx;exact SeqAt.EqAt.none_str b t
  |_=>exact absurd (show false=true from fx) za5
 |bl a =>
  cases ry
  cases x with
  |non=>cases rx;exact SeqAt.EqAt.bool_none a
  |bl b=>cases rx;exact SeqAt.EqAt.bool_bool a b
  |int b=>obtain ⟨t,rfl⟩:=rx;exact SeqAt.EqAt.bool_int a b t
  |str b=>obtain ⟨t,rfl⟩:=rx;exact SeqAt.EqAt.bool_str a b t
  |_=>exact absurd (show false=true from fx) za5
 |int a =>
  obtain ⟨t',rfl⟩:=ry
  cases x with
  |non=>cases rx;exact SeqAt.EqAt.int_none a t'
  |bl b=>cases rx;exact SeqAt.EqAt.int_bool a t' b
  |int b=>obtain ⟨t,rfl⟩:=rx;exact SeqAt.EqAt.int_int a t' b t
  |str b=>obtain ⟨t,rfl⟩:=rx;exact SeqAt.EqAt.int_str a t' b t
  |_=>exact absurd (show false=true from fx) za5
 |str a =>
  obtain ⟨t',rfl⟩:=ry
  cases x with
  |non=>cases rx;exact SeqAt.EqAt.str_none a t'
  |bl b=>cases rx;exact SeqAt.EqAt.str_bool a t' b
  |int b=>obtain ⟨t,rfl⟩:=rx;exact SeqAt.EqAt.str_int a t' b t
  |str b=>obtain ⟨t,rfl⟩:=rx;exact SeqAt.EqAt.str_str a t' b t
  |_=>exact absurd (show false=true from fx) za5
 |_=>exact absurd (show false=true from fy) za5
def F7 (x:V)(u:Value):Bool:=match u with
 |.none=>F6 .non x
 |.bool b=>F6 (.bl b) x
 |.int i _=>F6 (.int i) x
 |.str z _=>F6 (.str z) x
 |_=>false
theorem Dq {x y:V}{u:Value}(r:aY y u)(f:mq y=true):F7 x u=F6 y x:=by
 cases y with
 |non=>cases r;rfl
 |bl b=>cases r;rfl
 |int i=>obtain ⟨t,rfl⟩:=r;rfl
 |str z=>obtain ⟨t,rfl⟩:=r;rfl
 |_=>exact absurd (show false=true from f) za5
theorem tD {x:V}:∀{xs:List V} {us:Te},aS xs us->xs.all mq=true->us.any (F7 x)=xs.any fun y=>F6 y x
 |_,_,.nil,_=>rfl
 |y::xs,u::us,.cons r t,f=>by rw [List.all_cons,za4] at f;rw [zbA,zbA,Dq r f.1,tD t f.2]
theorem pF {s:Shared}{x:V}{v:Value}(rx:aY x v)(fx:mq x=true):∀{xs:List V} {us:Te},aS xs us->xs.all mq=true->∀u∈us,SeqAt.EqAt A s u v (F7 x u)
 |_,_,.nil,_=>fun u hu=>by cases hu
 |y::xs,u::us,.cons r t,f=>fun u' hu=>by
  rw [List.all_cons,za4] at f;rcases zak.mp hu with rfl|hu
  ·rw [Dq r f.1];exact K7 r rx f.1 fx
  ·exact pF rx fx t f.2 u' hu
def Ow (x:V)(xs:List V):Bool:=xs.any fun y=>F6 y x
def Po (K:zac)(neg:Bool):R2:=fun x y H Q=>∃p xs,y=.ref p/\(jF K H p xs\/gQ K H p xs)/\mq x=true/\xs.all mq=true/\Q (.bl (if neg then !Ow x xs else Ow x xs)) H
def zG:ku X (compareOp .In) (Po X.K false):=by
 intro pins s Y H x y v u Q I rx ry h;obtain ⟨p,xs,rfl,hq,fx,fs,q⟩:=h;cases ry;rcases hq with hq|hq
 ·obtain ⟨its,r,pl,hz⟩:=I.list hq;refine SeqAt.in_listAt (F7 x) pl.isList (fun w hw=>pF rx fx r fs w (by simpa using hw)) ⟨.bl _,H,I,rfl,?_⟩;rw [show its.toArray.any (F7 x)=its.any (F7 x) by simp,tD r fs];exact q
 ·obtain ⟨its,r,pl,hz⟩:=I.tuple hq;refine SeqAt.in_tupleAt (F7 x) pl (fun w hw=>pF rx fx r fs w (by simpa using hw)) ⟨.bl _,H,I,rfl,?_⟩;rw [show its.toArray.any (F7 x)=its.any (F7 x) by simp,tD r fs];exact q
def tq:gW X (.builtin "len") (fun xs H Q=>∃p ys,xs=[.ref p]/\(jF X.K H p ys\/gQ X.K H p ys)/\Q (.int ys.length) H):=by
 intro pins s Y H xs us Q I r h;obtain ⟨p,ys,rfl,hq,q⟩:=h;obtain ⟨u,rfl,rx⟩:=iC r;cases rx;have hn:=lE;rcases hq with hq|hq
 ·obtain ⟨its,r',pl,hz⟩:=I.list hq;have hlen:=r'.length;exact Calls.call_len_list pl.isList (by simp only [zaq] <;> omega) ⟨.int ys.length,H,I.tok _,⟨s.toks+1,by rw [zaq,hlen]⟩,q⟩
 ·obtain ⟨its,r',pl,hz⟩:=I.tuple hq;have hlen:=r'.length;exact len_tuple pl (by simp only [zaq] <;> omega) ⟨.int ys.length,H,I.tok _,⟨s.toks+1,by rw [zaq,hlen]⟩,q⟩
def tm:gW X (.builtin "len") (fun xs H Q=>∃z,xs=[.str z]/\z.length<=sizeLine/\Q (.int z.length) H):=by intro pins s Y H xs us Q I r h;obtain ⟨z,rfl,hz,q⟩:=h;obtain ⟨u,rfl,t,rfl⟩:=iC r;have hn:=lE;exact len_str (by omega) ⟨.int z.length,H,I.tok _,⟨_,rfl⟩,q⟩
def s9:gW X (.type "list") (fun xs H Q=>∃p ys,xs=[.ref p]/\(jF X.K H p ys\/gQ X.K H p ys)/\∀l,H l=none->Q (.ref l) (upd H l (.lst ys))):=by
 intro pins s Y H xs us Q I r h;obtain ⟨p,ys,rfl,hq,q⟩:=h;obtain ⟨u,rfl,rx⟩:=iC r;cases rx;have fin:∀(its:Te),aS ys its->ys.length<=sizeLine->∀(h':Heap) (c':Nat),(∀b o',s.heap.get? b=some o'->h'.get? b=some o') ->
   h'.get? s.heap.objs.size=some {cls:=.type "list",dict:=none,data:=.seq its.toArray c',slots:=#[]}->EP X pins Y Q (.ref s.heap.objs.size) {s with heap:=h'}:=fun its r' hz h' c' kp e =>
  ⟨.ref s.heap.objs.size,_,I.laid (t':=s.toks) kp (zam _) (show bB X.prog X.w _ h' _ (.lst ys) from ⟨hz,its,c',r',e⟩),rfl,q _ (I.hok.fresh (zam _))⟩
 rcases hq with hq|hq
 ·obtain ⟨its,r',pl,hz⟩:=I.list hq;have hlen:=r'.length;obtain ⟨o,ho,hc,n,hd⟩:=pl.isList;exact call_list_seq p (.inl rfl) ho hc hd (fun h' c' kp e=>fin its r' hz h' c' kp e) (by simp only [zaq] <;> omega)
 ·obtain ⟨its,r',pl,hz⟩:=I.tuple hq;have hlen:=r'.length;obtain ⟨o,ho,hc,n,hd⟩:=pl;exact call_list_seq p (.inr rfl) ho hc hd (fun h' c' kp e=>fin its r' hz h' c' kp e) (by simp only [zaq] <;> omega)
def lh:gW X (.type "tuple") (fun xs H Q=>∃p ys,xs=[.ref p]/\((jF X.K H p ys/\∀l,H l=none->Q (.ref l) (upd H l (.tup ys)))\/(gQ X.K H p ys/\Q (.ref p) H))):=by
 intro pins s Y H xs us Q I r h;obtain ⟨p,ys,rfl,h⟩:=h;obtain ⟨u,rfl,rx⟩:=iC r;cases rx;rcases h with ⟨hq,q⟩|⟨hq,q⟩
 ·obtain ⟨its,r',pl,hz⟩:=I.list hq;have hlen:=r'.length;refine call_tuple_list pl.isList (fun h' kp=>?_) (by simp only [zaq] <;> omega);have I1:aA X pins Y H {s with heap:=h'}:=I.kept (t':=s.toks) kp;have I2:aA X pins Y (upd H h'.objs.size (.tup ys)) {s with heap:=h'.push {cls:=.type "tuple",data:=.seq its.toArray}} :=
   I1.laid (t':=s.toks) (fun b o e=>zae _ e) (zam _) (show bB X.prog X.w _ _ _ (.tup ys) from ⟨hz,its,r',ky.new _ _⟩)
  exact ⟨.ref h'.objs.size,_,I2,rfl,q _ (I1.hok.fresh (zam _))⟩
 ·obtain ⟨its,r',pl,hz⟩:=I.tuple hq;exact call_tuple_same pl ⟨.ref p,H,I,rfl,q⟩
def Pd (K:zac)(T:String)(x:V)(H:Hp):Prop:=match x with
 |.str _=>T = "str"
 |.int _=>T = "int"
 |.ref p=>(T = "list"/\∃xs,jF K H p xs)\/(T = "tuple"/\∃o,K.lookup p=some o/\o.cls=.type "tuple"/\o.dict=none) \/
   (T = "dict"/\((∃kvs,H p=some (.dK kvs))\/∃kvs,H p=some (.dT kvs)))\/(T = "set"/\∃S n,H p=some (.set S n))
 |_=>False
theorem Ix {H:Hp}{s:Shared}{T:String}{x:V}{v:Value}(I:aA X pins Y H s)(r:aY x v)(ty:Pd X.K T x H) :
  s.TypeIs v T/\∀a,v=.ref a->∃ob,s.heap.get? a=some ob/\ob.dict=none:=by
 cases x with
 |str z =>
  obtain ⟨t,rfl⟩:=r;cases (show T = "str" from ty);exact ⟨typeIs_str s z t,fun _ e=>nomatch e⟩
 |int i =>
  obtain ⟨t,rfl⟩:=r;cases (show T = "int" from ty);exact ⟨typeIs_int s i t,fun _ e=>nomatch e⟩
 |ref p =>
  cases r;rcases ty with ⟨rfl,xs,hq⟩|⟨rfl,o,hk,hc,hd⟩|⟨rfl,hk⟩|⟨rfl,S,n,hk⟩
  ·obtain ⟨its,_,pl,_⟩:=I.list hq
   refine ⟨pl.isList.typeIs,fun a e=>?_⟩;cases e;obtain ⟨o,n,e,c,hd,_⟩:=pl;exact ⟨o,e,hd⟩
  ·refine ⟨⟨o,I.kIn p o hk,hc⟩,fun a e=>?_⟩
   cases e;exact ⟨o,I.kIn _ o hk,hd⟩
  ·have z:∃o,s.heap.get? p=some o/\o.ExactDict:=by
    rcases hk with ⟨kvs,hk⟩|⟨kvs,hk⟩
    ·obtain ⟨_,_,_,_,o,_,_,e,ex,_⟩:=I.hok p _ hk
     exact ⟨o,e,ex⟩
    ·obtain ⟨_,_,_,_,o,_,_,e,ex,_⟩:=I.hok p _ hk
     exact ⟨o,e,ex⟩
   obtain ⟨o,e,ex⟩:=z;refine ⟨⟨o,e,ex.1⟩,fun a e2=>?_⟩;cases e2;exact ⟨o,e,ex.2.1⟩
  ·obtain ⟨o,_,_,_,e,ex,_⟩:=I.hok p _ hk
   refine ⟨⟨o,e,ex.1⟩,fun a e2=>?_⟩;cases e2;exact ⟨o,e,ex.2.1⟩
 |_=>exact False.elim ty
def Pg (K:zac)(T:String)(r:V->List V->Hp->VK->Prop)(to:TE)(t:TA):TE:=fun Y H Q=>to Y H fun x H1=>Pd K T x H1/\t Y H1 fun xs H2=>r x xs H2 Q
variable {o e:Expr}{es:Tj}{to:TE}{t:TA}{name:Str}{apos cpos:Pos}{T id:String}{r:V->List V->Hp->VK->Prop}
theorem HJ (pa:PlainAttrs T)(slot:Slot T name id)(hty:typeOf (.builtin id)=pure (.type "method_descriptor"))(hm:RE X id r)(ho:PE X o to)(ha:PA X (e::es) t)
  (hbase:attributeBase o name X.env (eval o X.env)=eval o X.env:=by rfl)
  (hfew:((backTo cpos (starEach (e::es) X.env)).all (fun x=>!x.1) && (backToKw cpos (keywordEach [] X.env)).all (fun x=>x.1.isSome)
   && decide ((e::es).length+([]:List Keyword).length+(if ([]:List Keyword).isEmpty then 0 else 1) < 30))=true:=by rfl)
  (hline:(apos.endLine == cpos.line)=true:=by rfl) (hs:starEach (e::es) X.env=(false,eval e X.env)::starEach es X.env:=by rfl) (hplain:(backTo cpos (starEach es X.env)).any (·.1)=false:=by rfl) :
  PE X (.Call (.Attribute o name apos) (e::es) [] cpos) (Pg X.K T r to t):=by
 intro pins s Y H Q I h;refine wpAny_Call_method_late hbase hfew hline rfl (db (ho pins s Y H _ I h) fun v s1 hh=>?_);obtain ⟨x,H1,I1,r1,ty,q1⟩:=hh;obtain ⟨h1,h2⟩:=Ix I1 r1 ty;refine ⟨T,id,pa,slot,hty,h1,h2,?_⟩;have hA:=ha cpos pins s1 Y H1 _ I1 q1;rw [hs] at hA ⊢;refine Calls.callWith_builtin (by show (false || (backTo cpos (starEach es X.env)).any (·.1))=false;rw [hplain] <;> rfl) (Calls.evalArgs_plain ?_);exact db hA fun us s2 ⟨vs,H2,I2,r2,q2⟩=>hm pins s2 Y H2 x vs v us Q I2 r1 r2 q2
end
def R7 (X:Cx)(id:String)(r:V->List V->Hp->VK->Prop):Prop :=
 ∀(pins:Tc) (s:Shared) (Y:St) (H:Hp) (x:V) (xs:List V) (v:Value) (us:Te) (Q:VK),aA X pins Y H s->aY x v->aS xs us->r x xs H Q ->
  wpAny (model X.prog X.w) X.A (call (.builtin id) (v::us)) (EP X pins Y Q) X.xe s
def aS.one {x:V}{us:Te}(h:aS [x] us):∃u,us=[u]/\aY x u:=by cases h with|cons r t=>cases t;exact ⟨_,rfl,r⟩
section
variable {X:Cx}{pins:Tc}{Y:St}{H:Hp}{s:Shared}{l:Addr}{xs ys:List V}
def aA.lset {its its':Te}{n:Nat}{f:Array Value->Ti}{t':Nat}(I:aA X pins Y H s)(hH:H l=some (.lst xs))
  (e:s.heap.get? l=some {cls:=.type "list",data:=.seq its.toArray n}) (hf:f its.toArray=its'.toArray) (hv:aS ys its') (hz:ys.length<=sizeLine) :
  aA X pins Y (upd H l (.lst ys)) {s with heap:=s.heap.update l (Obj.mapSeq f),toks:=t'}:=by
 have q:=PySem.IsL.update e f;rw [hf] at q;refine I.write (x:=l) (e:=l) (by rw [hH];exact trivial) (.inl rfl) (fun b' u hb hu=>(zaw s.heap (Obj.mapSeq f) (Ne.symm hb)).trans hu) ⟨_,q⟩ ?_;exact ⟨hz,its',_,hv,q⟩
def aA.lnew {its:Te}{t':Nat}(I:aA X pins Y H s)(hv:aS ys its)(hz:ys.length<=sizeLine) :
  aA X pins Y (upd H s.heap.objs.size (.lst ys)) {s with heap:=s.heap.push {cls:=.type "list",data:=.seq its.toArray},toks:=t'} :=
 I.laid (fun _ _ q=>zae _ q) (zam _) ⟨hz,its,0,hv,zal _ rfl⟩
def aA.fresh (I:aA X pins Y H s):H s.heap.objs.size=none:=I.hok.fresh (zam _)
def aA.lstM (I:aA X pins Y H s)(hH:H l=some (.lst xs)):xs.length<=sizeLine/\∃(its:Te) (n:Nat),aS xs its/\xs.length=its.length/\s.heap.get? l=some {cls:=.type "list",data:=.seq its.toArray n}:=by obtain ⟨z,its,n,r,e⟩:=I.hok l _ hH;exact ⟨z,its,n,r,r.length,e⟩
end
section
variable {X:Cx}
def xV:V->List V->Hp->VK->Prop:=fun x vs H Q=>∃l xs y,x=.ref l/\vs=[y]/\H l=some (.lst xs)/\xs.length < sizeLine/\Q .non (upd H l (.lst (xs++[y])))
def zK:R7 X "list.append" xV:=by intro pins s Y H x vs v us Q I rx rv h;obtain ⟨l,xs,y,rfl,rfl,hH,hz,q⟩:=h;cases rx;obtain ⟨u,rfl,ru⟩:=rv.one;obtain ⟨z,its,n,r,hl,e⟩:=I.lstM hH;refine call_meets F.slot_list_append ⟨_,e,rfl⟩ F.entry_list_append (F.args_list_append_2 _ _) (PySem.list_append l its.toArray n u (by rw [zaq];omega)) ⟨e,?_⟩;refine ⟨.non,_,I.lset (its':=its++[u]) hH e (by simp) (r.append (.cons ru .nil)) ?_,rfl,q⟩;rw [zaD,List.length_singleton];omega
def MP:R2:=fun x y H Q=>∃l b xs zs,x=.ref l/\y=.ref b/\H l=some (.lst xs)/\H b=some (.lst zs)/\xs.length+zs.length<=sizeLine/\∀p,H p=none->Q (.ref p) (upd H p (.lst (xs++zs)))
def J8:ku X (binaryOp .Add) MP:=by
 intro pins s Y H x y v u Q I rx ry h;obtain ⟨l,b,xs,zs,rfl,rfl,hH,hB,hz,q⟩:=h;cases rx;cases ry;obtain ⟨z,its,n,r,hl,e⟩:=I.lstM hH;obtain ⟨z2,its2,n2,r2,hl2,e2⟩:=I.lstM hB;refine PySem.P.add_list e e2 ?_ (by rw [zaq,zaq];omega);have ea:its.toArray++its2.toArray=(its++its2).toArray:=by simp
 rw [ea];exact ⟨.ref _,_,I.lnew (t':=s.toks) (r.append r2) (by rw [zaD];omega),rfl,q _ I.fresh⟩
end
section
variable {κ:Type}[DecidableEq κ]
def dI (kvs:List (κ×V))(k:κ):Option V:=(kvs.find? fun kv=>decide (kv.1=k)).map (·.2)
def em (kvs:List (κ×V))(k:κ)(v:V):List (κ×V) :=
 if (kvs.any fun kv=>decide (kv.1=k))=true then kvs.map (fun kv=>if kv.1=k then (kv.1,v) else kv) else kvs++[(k,v)]
def lV {p:κ×V}{r:List (κ×V)}{k:κ}(e:p.1=k):dI (p::r) k=some p.2:=by simp [dI,zb4,e]
def iD {p:κ×V}{r:List (κ×V)}{k:κ}(e:¬ p.1=k):dI (p::r) k=dI r k:=by simp [dI,zb4,e]
theorem oN (k:κ):∀kvs:List (κ×V),(kvs.any fun kv=>decide (kv.1=k))=(dI kvs k).isSome
 |[]=>rfl
 |p::r=>by
  rw [zbA];by_cases e:p.1=k
  ·simp only [lV e,zaK e,Bool.true_or,zct]
  ·rw [iD e,zay e,Bool.false_or];exact oN k r
def jX (kvs:List (κ×V))(k:κ)(v:V):(em kvs k v).length<=kvs.length+1:=by
 unfold em;split
 ·rw [zag];omega
 ·rw [zaD,zaB,zbk];omega
def BX {kvs:List (κ×V)}{k:κ}(v:V)(h:dI kvs k=none):em kvs k v=kvs++[(k,v)]:=by unfold em;rw [oN,h];exact if_neg (by decide)
theorem kZ.isSome_eq {o:Option V}{u:Tg}(r:kZ o u):o.isSome=u.isSome:=by
 cases o with
 |none=>cases u with
  |none=>rfl
  |some _=>exact (show False from r).elim
 |some _=>cases u with
  |none=>exact (show False from r).elim
  |some _=>rfl
theorem KV.val {kvs:List (κ×V)}{vs:List (κ×Value)}(r:KV kvs vs)(k:κ):kZ (dI kvs k) (valueAt vs k):=by
 unfold KV at r;induction r with
 |nil=>exact True.intro
 | @cons p q ps qs h t ih =>
  obtain ⟨h1,h2⟩:=h;by_cases e:p.1=k
  ·have e':q.1=k:=h1.symm.trans e;have b:valueAt (q::qs) k=some q.2:=(by simp [valueAt,zb4,e']);rw [lV e,b];exact h2
  ·have e':¬ q.1=k:=fun z=>e (h1.trans z);have b:valueAt (q::qs) k=valueAt qs k:=(by simp [valueAt,zb4,e']);rw [iD e,b];exact ih
theorem KV.any {kvs:List (κ×V)}{vs:List (κ×Value)}(r:KV kvs vs)(k:κ):(kvs.any fun kv=>decide (kv.1=k))=vs.any fun kv=>decide (kv.1=k):=by
 unfold KV at r;induction r with
 |nil=>rfl
 |cons h t ih=>rw [zbA,zbA,ih,h.1]
theorem KV.repl {kvs:List (κ×V)}{vs:List (κ×Value)}(r:KV kvs vs)(k:κ){y:V}{u:Value}(ry:aY y u) :
  KV (kvs.map fun kv=>if kv.1=k then (kv.1,y) else kv) (vs.map fun kv=>if kv.1=k then (kv.1,u) else kv):=by
 unfold KV at r ⊢
 induction r with
 |nil=>exact .nil
 | @cons p q ps qs h t ih =>
  rw [zaf,zaf];refine .cons ?_ ih;obtain ⟨h1,h2⟩:=h
  by_cases e:p.1=k
  ·rw [if_pos e,if_pos (h1.symm.trans e)];exact ⟨h1,ry⟩
  ·rw [if_neg e,if_neg (fun z=>e (h1.trans z))];exact ⟨h1,h2⟩
def KV.put {kvs:List (κ×V)}{vs:List (κ×Value)}(r:KV kvs vs)(k:κ){y:V}{u:Value}(ry:aY y u):KV (em kvs k y) (stored vs k u):=by
 unfold em stored;rw [r.any k];by_cases e:(vs.any fun kv=>decide (kv.1=k))=true
 ·rw [if_pos e,if_pos e];exact r.repl k ry
 ·rw [if_neg e,if_neg e];exact Paired.snoc r ⟨rfl,ry⟩
def KV.length {kvs:List (κ×V)}{vs:List (κ×Value)}(r:KV kvs vs):kvs.length=vs.length:=Paired.length r
end
theorem uR {k:aH}{u:Value}(r:aY (kV k) u):(bG P w).is k u=true:=by
 cases k with
 |inl i=>obtain ⟨t,e⟩:=(show ∃t,u=Value.int i t from r);subst e;exact uE P w i t
 |inr o=>cases o with
  |some x=>obtain ⟨t,e⟩:=(show ∃t,u=Value.str x t from r);subst e;exact uD P w x t
  |none=>have e:u=Value.none:=r;subst e;exact zS
theorem qU :∀{ks:List aH} {us:Te},aS (ks.map kV) us->ItemsAre (bG P w) ks us
 |[],_,r=>by rw [za6] at r;cases r;exact .nil
 |k::ks,_,r=>by
  rw [zaf] at r
  cases r with
  |cons h t=>exact .cons (uR h) (qU t)
abbrev KT (H:Hp):List (List aH×V)->List (List aH×Addr×Value)->Prop:=Paired fun p q=>p.1=q.1/\H q.2.1=some (.tup (p.1.map kV))/\aY p.2 q.2.2
theorem KT.val {H:Hp}{kvs:List (List aH×V)}{xs:List (List aH×Addr×Value)}(r:KT H kvs xs)(k:List aH):kZ (dI kvs k) ((atKey xs k).map (·.2)):=by
 induction r with
 |nil=>exact True.intro
 | @cons p q ps qs h t ih =>
  obtain ⟨h1,_,h2⟩:=h;by_cases e:p.1=k
  ·have e':q.1=k:=h1.symm.trans e;have b:atKey (q::qs) k=some q.2:=(by simp [atKey,zb4,e']);rw [lV e,b];exact h2
  ·have e':¬ q.1=k:=fun z=>e (h1.trans z);have b:atKey (q::qs) k=atKey qs k:=(by simp [atKey,zb4,e']);rw [iD e,b];exact ih
theorem KT.repl {H:Hp}{kvs:List (List aH×V)}{xs:List (List aH×Addr×Value)}(r:KT H kvs xs)(k:List aH){y:V}{u:Value}(ry:aY y u) :
  KT H (kvs.map fun kv=>if kv.1=k then (kv.1,y) else kv) (xs.map (putAt k u)):=by
 induction r with
 |nil=>exact .nil
 | @cons p q ps qs h t ih =>
  rw [zaf,zaf];refine .cons ?_ ih;obtain ⟨h1,h2,h3⟩:=h;unfold putAt
  by_cases e:p.1=k
  ·rw [if_pos e,if_pos (h1.symm.trans e)];exact ⟨h1,h2,ry⟩
  ·rw [if_neg e,if_neg (fun z=>e (h1.trans z))];exact ⟨h1,h2,h3⟩
def KT.put {H:Hp}{kvs:List (List aH×V)}{xs:List (List aH×Addr×Value)}(r:KT H kvs xs)(k:List aH){b:Addr}{y:V}{u:Value}(hb:H b=some (.tup (k.map kV)))(ry:aY y u) :
  KT H (em kvs k y) (storedH xs k b u):=by
 have e:(kvs.any fun kv=>decide (kv.1=k))=(atKey xs k).isSome:=by
  rw [oN,(r.val k).isSome_eq,Option.isSome_map]
 unfold em storedH;rw [e]
 by_cases q:(atKey xs k).isSome=true
 ·rw [if_pos q,if_pos q];exact r.repl k ry
 ·rw [if_neg q,if_neg q];exact Paired.snoc r ⟨rfl,hb,ry⟩
def KT.keeps {H H':Hp}{kvs:List (List aH×V)}{xs:List (List aH×Addr×Value)}(r:KT H kvs xs)(ht:∀b ys,H b=some (.tup ys)->H' b=some (.tup ys)):KT H' kvs xs :=
 Paired.mapP r fun _ _ z=>⟨z.1,ht _ _ z.2.1,z.2.2⟩
section
variable {P:Program}{w:World}{H:Hp}{h:Heap}{a:Addr}
def Hr {u:HO}(ok:iS P w H h)(e:Rd H a u):bB P w H h a u:=e.ok ok
def va {kvs:List (aH×V)}(ok:iS P w H h)(e:Rd H a (.dK kvs)):kvs.length<=sizeLine/\(a == sysModules)=false/\∃vs,KV kvs vs/\h.DictOf (bG P w) a vs :=
 show bB P w H h a (.dK kvs) from Hr ok e
def N6 {kvs:List (aH×V)}(ok:iS P w H h)(e:H a=some (.dK kvs)):kvs.length<=sizeLine/\(a == sysModules)=false/\∃vs,KV kvs vs/\h.DictOf (bG P w) a vs:=va ok (.inl e)
def mZ {ks:List aH}(ok:iS P w H h)(e:H a=some (.tup (ks.map kV))):(tupleKind (bG P w)).is h ks a:=by obtain ⟨_,its,r,⟨o,h1,h2,n,h3⟩,_⟩:=(show bB P w H h a (.tup (ks.map kV)) from ok a _ e);exact ⟨o,its.toArray,n,h1,h2,h3,by simpa using qU r⟩
def u9 {kvs:List (List aH×V)}(ok:iS P w H h)(e:Rd H a (.dT kvs)):kvs.length<=sizeLine/\(a == sysModules)=false /\
  ∃xs,KT H kvs xs/\h.DictOfH (tupleKind (bG P w)) a xs:=by
 obtain ⟨z,y,xs,r,o,es,ep,h1,h2,h3,h4,h5⟩:=(show bB P w H h a (.dT kvs) from Hr ok e);refine ⟨z,y,xs,r,o,es,ep,h1,h2,h3,h4,fun x hx=>?_,h5⟩
 have all:∀{l:List (List aH×V)} {m:List (List aH×Addr×Value)},KT H l m->∀x∈m,(tupleKind (bG P w)).is h x.1 x.2.1:=by
  intro l m q
  induction q with
  |nil=>intro x hx;exact nomatch hx
  | @cons p q ps qs hq t ih =>
   intro x hx;rcases zak.mp hx with e|hx
   ·subst e
    exact mZ ok (by rw [←hq.1];exact hq.2.1)
   ·exact ih x hx
 exact all r x hx
def Ic {kvs:List (List aH×V)}(ok:iS P w H h)(e:H a=some (.dT kvs)):kvs.length<=sizeLine/\(a == sysModules)=false /\
  ∃xs,KT H kvs xs/\h.DictOfH (tupleKind (bG P w)) a xs:=u9 ok (.inl e)
end
def Gz (H:Hp)(a:Addr)(y:V)(r:Option V):Prop :=
 (∃kvs k,Rd H a (.dK kvs)/\y=kV k/\r=dI kvs k)\/∃kvs k b,Rd H a (.dT kvs)/\y=.ref b/\H b=some (.tup (k.map kV))/\r=dI kvs k
def xt (H:Hp)(a:Addr)(y v:V)(H':Hp):Prop :=
 (∃kvs k,H a=some (.dK kvs)/\y=kV k/\kvs.length < sizeLine/\H'=upd H a (.dK (em kvs k v))) \/
 ∃kvs k b,H a=some (.dT kvs)/\y=.ref b/\H b=some (.tup (k.map kV))/\kvs.length < sizeLine/\H'=upd H a (.dT (em kvs k v))
def xt.k {H:Hp}{a:Addr}{kvs:List (aH×V)}{k:aH}{v:V}(e:H a=some (.dK kvs))(hl:kvs.length < sizeLine):xt H a (kV k) v (upd H a (.dK (em kvs k v))):=.inl ⟨kvs,k,e,rfl,hl,rfl⟩
def xt.t {H:Hp}{a b:Addr}{kvs:List (List aH×V)}{k:List aH}{v:V}(e:H a=some (.dT kvs))(eb:H b=some (.tup (k.map kV)))(hl:kvs.length < sizeLine) :
  xt H a (.ref b) v (upd H a (.dT (em kvs k v))):=.inr ⟨kvs,k,b,e,rfl,eb,hl,rfl⟩
section
variable {X:Cx}{pins:Tc}{Y:St}{H:Hp}{s:Shared}{a:Addr}{y v:V}{u r:Value}{o:Option V}{A:Around}{E:Tb}
def aA.big (I:aA X pins Y H s):sysModules < s.heap.objs.size:=by have h:mainGlobals < s.heap.objs.size:=(I.mod.glob.keeps I.bk).lt;exact zcg (by decide) h
def At {Q:Tb}(hu:A.units+1 < cLine)(I:aA X pins Y H s)(g:Gz H a y (some v))(ry:aY y u)(h:∀w' s',aA X pins Y H s'->aY v w'->Q w' s') :
  wpAny (model X.prog X.w) A (getItem (.ref a) u) Q E s:=by
 rcases g with ⟨kvs,k,e,ey,l⟩|⟨kvs,k,b,e,ey,eb,l⟩
 ·subst ey
  obtain ⟨z,hd,vs,rel,dd⟩:=va I.hok e;obtain ⟨w',hw,rw'⟩:=kZ.some_of (v:=v) (o:=valueAt vs k) (by rw [l];exact rel.val k);exact wpAny_getItem_of (uR ry) dd.mapOf hw (h w' _ (I.tok _) rw')
 ·subst ey
  cases (show u=Value.ref b from ry);obtain ⟨z,hd,xs,rel,dd⟩:=u9 I.hok e;obtain ⟨w',hw,rw'⟩:=kZ.some_of (v:=v) (o:=(atKey xs k).map (·.2)) (by rw [l];exact rel.val k);obtain ⟨p,hp,hp2⟩:=zaO.mp hw;refine wpAny_getItem_heap (tupleKind_room_in1 hu) (mZ I.hok eb) dd hp ?_;rw [hp2];exact h w' _ (I.tok _) rw'
def Qy {Q:Tb}(hu:A.units+1 < cLine)(I:aA X pins Y H s)(g:Gz H a y o)(ry:aY y u)(h:∀s',aA X pins Y H s'->Q (.bool o.isSome) s') :
  wpAny (model X.prog X.w) A (compareOp .In u (.ref a)) Q E s:=by
 rcases g with ⟨kvs,k,e,ey,l⟩|⟨kvs,k,b,e,ey,eb,l⟩
 ·subst ey
  obtain ⟨z,hd,vs,rel,dd⟩:=va I.hok e;refine wpAny_in_of (uR ry) hd dd.mapOf ?_;rw [←(rel.val k).isSome_eq,←l];exact h _ (I.tok _)
 ·subst ey
  cases (show u=Value.ref b from ry);obtain ⟨z,hd,xs,rel,dd⟩:=u9 I.hok e;refine wpAny_in_heap (tupleKind_room_in1 hu) (mZ I.hok eb) hd dd ?_;have q:=(rel.val k).isSome_eq;rw [Option.isSome_map] at q;rw [←q,←l];exact h _ (I.tok _)
def sV {h':Heap}{t':Nat}{ob:HO}(I:aA X pins Y H s)(mu:Od (H a))(hs:Heap.SameBut a s.heap h')(he:∃q,h'.get? a=some q)(new:bB X.prog X.w (upd H a ob) h' a ob) :
  aA X pins Y (upd H a ob) {s with heap:=h',toks:=t'} :=
 I.write (x:=a) (e:=a) mu (.inl rfl) (fun b q hb z=>(hs.2 b hb).trans z) he new
def K8 {H':Hp}{h':Heap}{kvs:List (aH×V)}{vs:List (aH×Value)}(z:kvs.length<=sizeLine)(hd:(a == sysModules)=false)(rel:KV kvs vs)(dd:h'.DictOf (bG P w) a vs) :
  bB P w H' h' a (.dK kvs):=⟨z,hd,vs,rel,dd⟩
def rn {H':Hp}{Q:Unit->Shared->Prop}(hu:A.units+1 < cLine)(I:aA X pins Y H s)(g:xt H a y v H')(ry:aY y u)(rv:aY v r)(h:∀s',aA X pins Y H' s'->Q () s') :
  wpAny (model X.prog X.w) A (setItem (.ref a) u r) Q E s:=by
 rcases g with ⟨kvs,k,e,ey,l,eH⟩|⟨kvs,k,b,e,ey,eb,l,eH⟩
 ·subst ey eH
  obtain ⟨z,hd,vs,rel,dd⟩:=N6 I.hok e
  have hz:vs.length<=sizeLine:=by rw [←rel.length];exact z
  have hl:(em kvs k v).length<=sizeLine:=by have:=jX kvs k v;omega
  refine wpAny_setItem_pairs (hsz:=hz) (uR ry) dd fun h' dd' hs=>h _ ?_;have he:∃q,h'.get? a=some q:=let ⟨q,_,_,hq,_⟩:=dd';⟨q,hq⟩;exact sV I (by rw [e];exact True.intro) hs he (K8 hl hd (rel.put k rv) dd')
 ·subst ey eH
  cases (show u=Value.ref b from ry);obtain ⟨z,hd,xs,rel,dd⟩:=Ic I.hok e
  have hz:xs.length<=sizeLine:=by rw [←Paired.length rel];exact z
  have hl:(em kvs k v).length<=sizeLine:=by have:=jX kvs k v;omega
  refine wpAny_setItem_heap (hsz:=hz) (tupleKind_room_in1 hu) (mZ I.hok eb) dd fun h' dd' hs=>h _ ?_;obtain ⟨q,es,ep,hq,h2,h3,h4,_,h5⟩:=dd';refine sV I (by rw [e];exact True.intro) hs ⟨q,hq⟩ ⟨hl,hd,_,(rel.put k eb rv).keeps fun c ys ec=>?_,q,es,ep,hq,h2,h3,h4,h5⟩;rw [az (HN ec e (fun z=>nomatch z))];exact ec
end
def Gu (i:Expr):Prop:=∀ov iv,subscripted i false ov iv=operate [ov,iv] (getItem ov iv)
def Eh {prog:Program}{w:World}{A:Around}{E:Tb}{s:Shared}{env:Env}{value slice:Expr}{pos:Pos}{T id:String}{Q:Tb}
  (hl:typeLookup (.type T) "__getitem__" = pure (some (.builtin id))) (hs:Gu slice)
  (h:wpAny (model prog w) A (eval value env) (fun o s₁=>wpAny (model prog w) A (eval slice env) (fun i s₂=>s₂.TypeIs o T/\wpAny (model prog w) A (getItem o i) Q E s₂) E s₁) E s) :
  wpAny (model prog w) A (eval (.Subscript value slice pos) env) Q E s:=by
 refine Subscript_ (zbx h (fun o s₁ h₁=>zbx h₁ (fun i s₂ h₂=>?_) fun _ _ x=>x) fun _ _ x=>x);obtain ⟨hT,h₂⟩:=h₂;unfold subscriptTail;refine zaa ?_;rw [getitemInPython_of_ne hT.not_modules];refine zaa (zcH hT hl ?_)
 have fin:wpAny (model prog w) A (subscripted slice false o i) (fun r s₃=>wpAny (model prog w) A (letTemporaryGo value o r >>= fun _=>pure r) Q E s₃) E s₂:=by
  rw [hs o i];exact wpAny_operating (zbx h₂ (fun r s₃ h₃=>zaa (wpAny_letTemporaryGo (zad h₃))) fun _ _ x=>x)
 first
  |exact zad (zaa fin)
  |exact zaa (zad (zaa fin))
  |exact zaa fin
def vc {H:Hp}{s:Shared}{a:Addr}{y:V}{o:Option V}(I:aA X pins Y H s)(g:Gz H a y o):s.TypeIs (.ref a) "dict":=by
 rcases g with ⟨kvs,k,e,_,_⟩|⟨kvs,k,b,e,_,_,_⟩
 ·obtain ⟨_,_,vs,_,dd⟩:=va I.hok e;exact dd.typeIs
 ·obtain ⟨_,_,xs,_,dd⟩:=u9 I.hok e;exact dd.typeIs
def A7 (td ty:TE):TE:=fun Y H Q=>td Y H fun x H1=>ty Y H1 fun y H2=>∃a v,x=.ref a/\Gz H2 a y (some v)/\Q v H2
section
variable {X:Cx}{o i:Expr}{pos:Pos}{td ty:TE}
def yd (hu:X.A.units+1 < cLine)(ho:PE X o td)(hi:PE X i ty)(hs:Gu i):PE X (.Subscript o i pos) (A7 td ty):=by intro pins s Y H Q I h;refine Eh PySem.F.slot_dict_getitem.lookup hs (db (ho pins s Y H _ I h) fun u s1 hh=>?_);obtain ⟨x,H1,I1,rx,q1⟩:=hh;refine db (hi pins s1 Y H1 _ I1 q1) fun iv s2 hh=>?_;obtain ⟨y,H2,I2,ry,a,v,ex,g,q2⟩:=hh;subst ex;obtain rfl:u=Value.ref a:=rx;exact ⟨vc I2 g,At hu I2 g ry fun w' s3 I3 rw'=>⟨v,H2,I3,rw',q2⟩⟩
end
def Dw {H:Hp}(h:Heap)(hb:sysModules < h.objs.size):bB P w H (h.push {cls:=.type "dict",data:=.dict #[]}) h.objs.size (.dT []) :=
 ⟨zbd _,beq_eq_false_iff_ne.mpr (Ne.symm (zap hb)),[],.nil,_,#[],0,zal _ rfl,⟨rfl,rfl,rfl⟩,rfl,rfl,zcx⟩
def v7:TE:=fun _ H Q=>∀p,H p=none->Q (.ref p) (upd H p (.dT []))
section
variable {X:Cx}{pos:Pos}
def uy:PE X (.Dict [] [] pos) v7:=fun pins s Y H Q I h =>
 wpAny_Dict_empty ⟨.ref s.heap.objs.size,_,I.laid (a:=s.heap.objs.size) (o:=.dT []) (t':=s.toks) (fun _ _ q=>zae _ q) (zam _) (Dw s.heap I.big),rfl,h _ (I.hok.fresh (zam _))⟩
end
structure M1 (X:Cx)(o:Expr)(m:Str)(apos:Pos)(e:Expr)(cpos:Pos):Prop where
 base:attributeBase o m X.env (eval o X.env)=eval o X.env
 few:((backTo cpos (starEach [e] X.env)).all (fun x=>!x.1) && (backToKw cpos (keywordEach [] X.env)).all (fun x=>x.1.isSome)
  && decide (([e]:Tj).length+([]:List Keyword).length+(if ([]:List Keyword).isEmpty then 0 else 1) < 30))=true
 line:(apos.endLine == cpos.line)=true
 trees:backTo cpos (starEach [e] X.env)=[(false,eval e X.env)]
structure M2 (X:Cx)(o:Expr)(m:Str)(apos:Pos)(e f:Expr)(cpos:Pos):Prop where
 base:attributeBase o m X.env (eval o X.env)=eval o X.env
 few:((backTo cpos (starEach [e,f] X.env)).all (fun x=>!x.1) && (backToKw cpos (keywordEach [] X.env)).all (fun x=>x.1.isSome)
  && decide (([e,f]:Tj).length+([]:List Keyword).length+(if ([]:List Keyword).isEmpty then 0 else 1) < 30))=true
 line:(apos.endLine == cpos.line)=true
 trees:backTo cpos (starEach [e,f] X.env)=[(false,eval e X.env),(false,eval f X.env)]
def RH (H:Hp)(a:Addr):Prop:=(∃kvs,Rd H a (.dK kvs))\/∃kvs,Rd H a (.dT kvs)
def CW {H:Hp}{s:Shared}{a:Addr}(I:aA X pins Y H s)(d:RH H a) :
  s.TypeIs (.ref a) "dict"/\(∀b,Value.ref a=.ref b->∃ob,s.heap.get? b=some ob/\ob.dict=none)/\(a == sysModules)=false:=by
 rcases d with ⟨kvs,e⟩|⟨kvs,e⟩
 ·obtain ⟨_,hd,vs,_,dd⟩:=va I.hok e
  refine ⟨dd.typeIs,fun b q=>?_,hd⟩;cases q;obtain ⟨ob,_,_,h1,h2,_⟩:=dd;exact ⟨ob,h1,h2.2.1⟩
 ·obtain ⟨_,hd,xs,_,dd⟩:=u9 I.hok e
  refine ⟨dd.typeIs,fun b q=>?_,hd⟩;cases q;obtain ⟨ob,_,_,h1,h2,_⟩:=dd;exact ⟨ob,h1,h2.2.1⟩
end L2
namespace Att
open PySem.W PySem.Calls PyProof.Rows
theorem oh {P:Params}{h:Heap}:∀(ns:Th) (vs:Te),WellAll P h vs (ns.map WData.int)->IntsAre vs ns:=by
 intro ns;induction ns with
 |nil =>
  intro vs w;rw [za6] at w;cases w;exact .nil
 |cons n ns ih =>
  intro vs w;rw [zaf] at w
  cases w with
  |cons a b =>
   cases a;exact .cons _ _ (ih _ b)
theorem zp {l:OpenLaw}{n:Nat}(hn:l.most=some n){P:Params}{h:Heap}{args:List WData}{vals:Te}
  (hpre:l.row.toRowW.claim.pre args=true) (hwl:WellAll P h vals args) :
  ∃a vs ns,vals=[Value.ref a]/\args=[WData.list (ns.map WData.int)]/\h.get? a=some {cls:=.type "list",data:=.seq vs.toArray}/\IntsAre vs ns/\ns.length<=n:=by
 have hsh:WShape.hasAll [] args [.list .int]=true:=(pre_splitW hpre).1;have hc:l.pre.holds [] {args:=args}=true:=(pre_splitW hpre).2;obtain ⟨d,r,rfl,h1,h2⟩:=hasAllW_cons hsh;obtain rfl:=hasAllW_nil h2;obtain ⟨xs,rfl,h3⟩:=hasW_list h1;obtain ⟨ns,rfl⟩:=items_int h3
 have hlen:ns.length<=n:=by
  unfold OpenLaw.pre at hc
  have h4:(WTm.not (.lt (.lit (.int (n:Int))) (.len (.arg 0)))).holds [] {args:=[.list (ns.map .int)]}=true:=by
   have h4:=(holds_andW hc).1;rw [hn] at h4;exact h4
  have h5:=condW_of h4 (w_not (w_lt w_lit (w_len_list (w_arg rfl))));rw [zag] at h5;refine Nat.le_of_not_lt fun q=>?_
  have q':(n:Int) < ((ns.length:Nat):Int):=by omega
  first
   |(rw [zaK q'] at h5;exact absurd h5 (by decide))
   |(simp at h5;omega)
 cases hwl with
 |cons w1 w2 =>
  cases w2
  cases w1 with
  |list ho hall=>exact ⟨_,_,ns,rfl,rfl,ho,oh ns _ hall,hlen⟩
theorem zA (l:OpenLaw)(args:List WData):l.row.toRowW.claim.post args (.bool true) args=true :=
 postW_of (r:=l.row.toRowW) (X:=(true == true))
  (show WShape.has [] (.bool true) .bool=true by first|rfl|decide|simp [WShape.has,WShape.arms,WShape.armsAll])
  (show (WTm.eq .res (.lit (.bool true))).value [] {args:=args,res:=some (.bool true),after:=args}=some (.bool (true == true)) from w_eq_bool (w_res rfl) w_lit) rfl
def attach_call {l:OpenLaw}{n:Nat}{q:Program}{loose:Tn}{XP:(Td)->Heap->Prop}{YP:World->Heap->Prop}{d:DefRec}
  (hn:l.most=some n) (hdf:d.params.defaults=[])
  (call:∀(w:World) (s₀ s₁:Shared) (mg mb:Td) (fa:Addr) (o:Obj) (pm cd doc:Value) (a:Addr) (vs:Te) (ns:Th),
   Ground q loose [] XP w s₀ mg mb s₁.heap->YP w s₁.heap ->
   s₁.heap.get? fa=some o->o.data=.func (docDef d.name d.params d.body d.scope pm cd doc)->s₁.heap.CodeRec cd d.name->mg d.name=some (.ref fa) ->
   s₁.heap.get? a=some {cls:=.type "list",data:=.seq vs.toArray}->IntsAre vs ns->ns.length<=n->s₁.gens = #[] ->
   codeAny (model l.prog w) callerA (.call (.ref fa) ⟨[.ref a],[]⟩) (fun r s'=>r=.ok (.ret (.bool true))/\OldK s₁.heap s'.heap/\s'.os=s₁.os/\AllBare s'.gens) s₁) :
  WalkO q loose XP YP l.row.toRowW d [] (fun f vs=>PySem.call f vs):=by
 intro w s₀ s₁ mg mb G Yz fa o pm cd doc dV kV ho hd hcd hD hmg hg args vals as hpre hlay hrd hwl hlo;obtain rfl:dV=.none:=Dflts.none hD hdf;obtain rfl:kV=.none:=Dflts.noKw hD;obtain ⟨a,vs,ns,rfl,rfl,hobj,hints,hlen⟩:=zp hn hpre hwl;refine enter_call (zbh (call w s₀ s₁ mg mb fa o pm cd doc a vs ns G Yz ho (fd_plain hd) hcd hmg hobj hints hlen hg) fun r s' hq=>?_);obtain ⟨rfl,h2,h3,h4⟩:=hq;exact ⟨.inl ⟨.bool true,.bool true,[],rfl,fun _=>rfl,.bool true,zA l _,fun _=>⟨List.Pairwise.nil,fun _ hm=>(nomatch hm)⟩⟩,h2,h3,h4⟩
end Att
namespace L2
open PyProof.Rows
theorem dz:∀{vs:Te} {ns:Th},IntsAre vs ns->aS (ns.map V.int) vs
 |_,_,.nil=>.nil
 |_,_,.cons n t h=>.cons ⟨t,rfl⟩ (dz h)
def DR (H:Hp):Prop:=∀b,H b=none\/∃o xs,H b=some (.frz o (.lst xs))
theorem CK {P:Program}{w:World}{K:zac}{mg mb:Td}{CX:yU}{k:Nat}{fa a:Addr}{fd:FuncData}{x:Str}{sp:Sp}{s₁:Shared}{vs:Te}{ns:Th}
  (KX:K.In s₁.heap) (hns:s₁.heap.Ns mainGlobals mg) (hb:s₁.heap.Ns builtinsNs mb) (hbb:∀x:Str,x≠"__name__"->mb x=bootBuiltins x) (hlim:s₁.heap.NoLimit) (hg:s₁.gens = #[])
  (ha:s₁.heap.get? a=some {cls:=.type "list",data:=.seq vs.toArray}) (hi:IntsAre vs ns) (hl:ns.length<=sizeLine) (hr:bQ k callerA)
  (F:∀base:Heap,K.In base->base.Ns mainGlobals mg->cF P w K mg base CX k fa fd [x] sp) (hbind:∀(s:Shared) (u:Value),BindsTo s fd ⟨[u],[]⟩ [(x,u)])
  (hsp:∀H:Hp,DR H->jF K H a (ns.map V.int)->sp [.ref a] H (fun v _=>v=.bl true) fun _ _ _=>False)
  (hCX:∀H e s',CX [] H s₁ (fun _ _ _=>False) e s'->False) :
  codeAny (model P w) callerA (.call (.ref fa) ⟨[.ref a],[]⟩) (fun r s'=>r=.ok (.ret (.bool true))/\OldK s₁.heap s'.heap/\s'.os=s₁.os/\AllBare s'.gens) s₁:=by
 have rv:=dz hi;have lenV:=hi.length
 have core:∀H:Hp,DR H->jF K H a (ns.map V.int)->iS P w H s₁.heap->(∀b,H b≠none->b=a)->(H a≠none->K.lookup a=none) ->
   codeAny (model P w) callerA (.call (.ref fa) ⟨[.ref a],[]⟩) (fun r s'=>r=.ok (.ret (.bool true))/\OldK s₁.heap s'.heap/\s'.os=s₁.os/\AllBare s'.gens) s₁:=by
  intro H hOz hS hok hA hK;have base_of:∀{b:Addr} {o:Obj},s₁.heap.get? b=some o->H b=none->(sN s₁.heap H).get? b=some o:=fun e n=>C3 e n
  have noA:∀{b:Addr} {o:Obj} {es:Array DictEntry} {ep:Nat},s₁.heap.get? b=some o->o.data=.dict es ep->H b=none:=fun {b o es ep} e d=>by
   cases q:H b with
   |none=>rfl
   |some u =>
    have e':b=a:=hA b (by rw [q];simp);subst e';rw [ha] at e;cases e;have d':Data.seq vs.toArray _=Data.dict es ep:=d;cases d'
  have nsK:∀{b:Addr} {m:Td},s₁.heap.Ns b m->(sN s₁.heap H).Ns b m:=fun {b m} ⟨o,es,ep,e,d,r⟩=>⟨o,es,ep,base_of e (noA e d),d,r⟩
  have hKb:K.In (sN s₁.heap H):=fun b o e=>base_of (KX b o e) (by
   cases q:H b with
   |none=>rfl
   |some u =>
    have e':b=a:=hA b (by rw [q];simp);subst e'
    rw [hK (by rw [q];simp)] at e;cases e)
  have hM:Mod K mg (sN s₁.heap H):=⟨hKb,nsK hns,⟨mb,nsK hb,hbb⟩,let ⟨mc,h1,h2⟩:=hlim;⟨mc,nsK h1,h2⟩⟩;have e0:xq P w K mg (sN s₁.heap H) callerA [] s₁ H:=⟨rfl,hM,fun b o e=>Fi e,Nat.le_of_eq (Ad _ _),trivial,fun b hb=>absurd (show b∈([]:Tf) from hb) (by simp),hok,.of_eq hg⟩;refine zbh ((F _ hKb (nsK hns)).run callerA [] s₁ H ⟨[.ref a],[]⟩ [.ref a] [.ref a] _ _ hr e0 (hbind s₁ (.ref a)) (.cons rfl .nil) (hsp H hOz hS)) fun r s' h=>?_
  cases r with
  |error e=>exact (hCX H e s' h).elim
  |ok fl =>
   cases fl with
   |next=>exact False.elim h
   |brk=>exact False.elim h
   |cont=>exact False.elim h
   |ret u =>
    obtain ⟨v,H',os,bare,un,hok',r',q⟩:=h;have q':v=.bl true:=q;subst q';obtain rfl:u=Value.bool true:=r';refine ⟨rfl,OldK.of_keep fun b o e=>?_,os,bare⟩
    cases q:H b with
    |none=>exact un.keep b o e q (by intro z;exact absurd (show b∈([]:Tf) from z) (by simp)) (by simp)
    |some u =>
     rcases hOz b with z|⟨ob,xs,z⟩
     ·rw [q] at z;cases z
     ·have z2:=un.frzs b ob _ z
      obtain ⟨e1,_⟩:=hok b _ z;obtain ⟨e2,_⟩:=hok' b _ z2;rw [e] at e1;cases e1;exact e2
 cases hk:K.lookup a with
 |some o =>
  have e:=KX a o hk;rw [ha] at e;cases e;refine core (fun _=>none) (fun _=>.inl rfl) (.inr ⟨_,vs.toArray,_,hk,rfl,⟨rfl,rfl⟩,rfl,by rw [zaq,lenV];exact hl,by simpa using rv⟩) (fun b u z=>by have z':(none:Option HO)=some u:=z;cases z') (fun b z=>absurd rfl z) fun z=>absurd rfl z
 |none =>
  refine core (fun b=>if b=a then some (.frz {cls:=.type "list",data:=.seq vs.toArray} (.lst (ns.map V.int))) else none) (fun b=>?_) (.inl (.inr ⟨{cls:=.type "list",data:=.seq vs.toArray},if_pos rfl⟩)) (fun b u z=>?_) (fun b z=>?_) fun _=>hk
  ·by_cases hb:b=a
   ·exact .inr ⟨_,_,if_pos hb⟩
   ·exact .inl (if_neg hb)
  ·by_cases hb:b=a
   ·have z':=(if_pos hb).symm.trans z
    cases z';subst hb;exact ⟨ha,by rw [zag];exact hl,vs,_,rv,ha⟩
   ·have z':=(if_neg hb).symm.trans z
    cases z'
  ·by_cases hb:b=a
   ·exact hb
   ·exact absurd (if_neg hb) z
def D6 {l:PySem.W.OpenLaw}{n k:Nat}{q:Program}{loose:Tn}{XP:(Td)->Heap->Prop}{YP:World->Heap->Prop}{d:DefRec}{K:Params->zac}{CX:World->yU}{sp:World->Sp}{x:Str}
  (hn:l.most=some n) (hn2:n<=sizeLine) (hdf:d.params.defaults=[]) (hr:bQ k callerA)
  (hY:∀(w:World) (h:Heap),YP w h->(K w.params).In h)
  (F:∀(w:World) (mg:Td) (fa:Addr) (h:Heap),(K w.params).In h->h.Ns mainGlobals mg->mg d.name=some (.ref fa) ->
   ∃fd:FuncData,(∀(s:Shared) (u:Value),BindsTo s fd ⟨[u],[]⟩ [(x,u)]) /\
    ∀base:Heap,(K w.params).In base->base.Ns mainGlobals mg->cF l.prog w (K w.params) mg base (CX w) k fa fd [x] (sp w))
  (hsp:∀(w:World) (H:Hp) (a:Addr) (ns:Th),ns.length<=n->DR H->jF (K w.params) H a (ns.map V.int)->sp w [.ref a] H (fun v _=>v=.bl true) fun _ _ _=>False)
  (hCX:∀(w:World) (H:Hp) (s:Shared) (e:Value) (s':Shared),CX w [] H s (fun _ _ _=>False) e s'->False) :
  PySem.W.WalkO q loose XP YP l.row.toRowW d [] (fun f vs=>PySem.call f vs):=by
 refine Att.attach_call hn hdf fun w s₀ s₁ mg mb fa o pm cd doc a vs ns G Yz ho hd hcd hmg hobj hints hlen hg=>?_;have KX:=hY w _ Yz;obtain ⟨fd,hb,hF⟩:=F w mg fa _ KX G.T.g hmg;exact CK KX G.T.g G.T.b G.T.builtins G.T.nolimit hg hobj hints (zbg hlen hn2) hr hF hb (fun H hOz hS=>hsp w H a ns hlen hOz hS) fun H e s'=>hCX w H s₁ e s'
def AI {l:PySem.W.OpenLaw}{n k:Nat}{q:Program}{loose:Tn}{XP:(Td)->Heap->Prop}{YP:World->Heap->Prop}{d:DefRec}{K:Params->zac}{CX:yU}{sp:zac->Sp}{x:Str}
  (hn:l.most=some n) (hn2:n<=sizeLine) (hdf:d.params.defaults=[]) (hr:bQ k callerA)
  (hY:∀(w:World) (h:Heap),YP w h->(K w.params).In h)
  (F:∀(w:World) (mg:Td) (fa:Addr) (h:Heap),(K w.params).In h->h.Ns mainGlobals mg->mg d.name=some (.ref fa) ->
   ∃fd:FuncData,(∀(s:Shared) (u:Value),BindsTo s fd ⟨[u],[]⟩ [(x,u)]) /\
    ∀base:Heap,(K w.params).In base->base.Ns mainGlobals mg->cF l.prog w (K w.params) mg base CX k fa fd [x] (sp (K w.params)))
  (hsp:∀(K:zac) (H:Hp) (a:Addr) (ns:Th),ns.length<=n->DR H->jF K H a (ns.map V.int)->sp K [.ref a] H (fun v _=>v=.bl true) fun _ _ _=>False)
  (hCX:∀(H:Hp) (s:Shared) (e:Value) (s':Shared),CX [] H s (fun _ _ _=>False) e s'->False) :
  PySem.W.WalkO q loose XP YP l.row.toRowW d [] (fun f vs=>PySem.call f vs) :=
 D6 (K:=K) (CX:=fun _=>CX) (sp:=fun w=>sp (K w.params)) hn hn2 hdf hr hY F (fun w H a ns h1 h2 h3=>hsp (K w.params) H a ns h1 h2 h3) fun _ H s e s'=>hCX H s e s'
def kM (s:Stmt)(j:Nat):Stmt:=match s with
 |.ClassDef _ _ _ body _ _ _ _ _ _ _=>body.getD j (.Pass ⟨0,0,0,0⟩)
 |_=>.Pass ⟨0,0,0,0⟩
def gh (s:Stmt):Arguments:=match s with
 |.FunctionDef _ a _ _ _ _ _ _ _ _=>a
 |_=>{posonlyargs:=[],args:=[],vararg:=none,kwonlyargs:=[],kw_defaults:=[],kwarg:=none,defaults:=[]}
def bu (s:Stmt):Tk:=match s with
 |.FunctionDef _ _ b _ _ _ _ _ _ _=>b
 |_=>[]
def ai (s:Stmt):Scope:=match s with
 |.FunctionDef _ _ _ _ _ _ sc _ _ _=>sc
 |_=>{kind:=.function,names:=[],isGenerator:=false,isCoroutine:=false}
abbrev kT:yU:=fun _ _ _ _ _ _=>False
abbrev E0:XK:=fun _ _ _=>False
def qO:nA kT X E0:=fun _ _ _ _ _ _ _ h=>h.elim
structure oK (K:zac)(x qual:Str)(st:Stmt)(f:Addr)(fd:FuncData):Prop where
 ex:∃(oc:Value) (od:Option Addr) (kV doc pm:Value) (an:Option Addr) (cdv ct:Value) (osl:Array (Tg)),
  fd=PySem.W.fnOf x qual (gh st) (bu st) (ai st) .none kV doc pm an cdv ct/\K.lookup f=some ⟨oc,od,.func fd,osl⟩/\PySem.W.codeIn K cdv qual=true
 kp:PySem.W.keepIn K (.ref f)=true
section
variable {P:Program}{w:World}{K:zac}{mg:Td}{base:Heap}
def oK.ok {x qual:Str}{st:Stmt}{f:Addr}{fd:FuncData}{N ps:Tn}{k:Nat}{sp:Sp}(F:oK K x qual st f fd)(S:ax N ps (ai st))(len:∀vs H Q E,sp vs H Q E->vs.length=ps.length)
  (hbody:∀(cdv:Value) (A:Around) (outer:List Env) (s:Shared) (H:Hp) (vs:List V) (Q:VK) (E:XK),bQ k (A.deeper (envOfC qual (ai st) s.heap.objs.size f cdv))->sp vs H Q E ->
   ∃t,on (jE kT P w K mg base N qual (ai st) f cdv A outer s H E).nox (bu st) t/\t {nx:=fun _ H'=>Q .non H',rt:=Q} (fw N vs) H):cF P w K mg base kT (k+1) f fd ps sp:=by
 obtain ⟨oc,od,kV,doc,pm,an,cdv,ct,osl,rfl,lk,hcd⟩:=F.ex;refine NL lk hcd S len fun A outer s H vs Q E hr hsp=>?_;obtain ⟨t,h,q⟩:=hbody cdv A outer s H vs Q E hr hsp;exact ⟨t,h.nox,q⟩
def oK.binds {x qual:Str}{st:Stmt}{f:Addr}{fd:FuncData}{ps:Tn}(F:oK K x qual st f fd)
  (h:∀(kV doc pm:Value) (an:Option Addr) (cdv ct:Value) (us:Te),us.length=ps.length->bindArgs (PySem.W.fnOf x qual (gh st) (bu st) (ai st) .none kV doc pm an cdv ct) ⟨us,[]⟩=pure (ps.zip us)):f6 K fd ps []:=by
 obtain ⟨oc,od,kV,doc,pm,an,cdv,ct,osl,rfl,lk,hcd⟩:=F.ex;exact .all (h kV doc pm an cdv ct)
def wW {x qual:Str}{st:Stmt}{f:Addr}{oc:Value}{od an:Option Addr}{osl:Array (Tg)}{kV doc pm cdv ct:Value}(l:K.lookup f=some ⟨oc,od,.func (PySem.W.fnOf x qual (gh st) (bu st) (ai st) .none kV doc pm an cdv ct),osl⟩)
  (c:PySem.W.codeIn K cdv qual=true) (k:PySem.W.keepIn K (.ref f)=true):oK K x qual st f (PySem.W.fnOf x qual (gh st) (bu st) (ai st) .none kV doc pm an cdv ct):=⟨⟨oc,od,kV,doc,pm,an,cdv,ct,osl,rfl,l,c⟩,k⟩
end
end L2
namespace HS
theorem DL (xs:Array Nat)(j:Nat)(hs:xs.toList.Pairwise (· < ·)):∀(fuel lo hi:Nat),hi - lo<=fuel->lo<=hi->hi<=xs.size ->
  (∀i (h:i < xs.size),i < lo->xs[i] < j)->(∀i (h:i < xs.size),hi<=i->j<=xs[i]) ->
  SetTable.below.go xs j fuel lo hi<=xs.size/\(∀i (h:i < xs.size),i < SetTable.below.go xs j fuel lo hi->xs[i] < j)/\(∀i (h:i < xs.size),SetTable.below.go xs j fuel lo hi<=i->j<=xs[i]):=by
 intro fuel
 have mono:∀i k (hi:i < xs.size) (hk:k < xs.size),i<=k->xs[i]<=xs[k]:=fun i k hi hk h=>by
  rcases zc0 i k with h|h
  ·have:=zbS.mp hs i k (by simpa using hi) (by simpa using hk) h
   simp at this;omega
  ·have:i=k:=by omega
   subst this;omega
 induction fuel with
 |zero =>
  intro lo hi hf hle hsz h1 h2
  have:lo=hi:=by omega
  subst this;exact ⟨hsz,h1,h2⟩
 |succ fuel ih =>
  intro lo hi hf hle hsz h1 h2;unfold SetTable.below.go
  by_cases hlt:lo < hi
  ·rw [if_pos hlt]
   dsimp only
   have hm:(lo+hi) / 2 < xs.size:=by omega
   have hg:xs.getD ((lo+hi) / 2) j=xs[(lo+hi) / 2]:=by simp [Array.getD,hm]
   rw [hg];split
   ·rename_i hc
    exact ih _ _ (by omega) (by omega) hsz (fun i h hi'=>Nat.lt_of_le_of_lt (mono i _ h hm (by omega)) hc) h2
   ·rename_i hc
    exact ih _ _ (by omega) (by omega) (by omega) h1 (fun i h hi'=>zbg (by omega) (mono _ i hm h hi'))
  ·rw [if_neg hlt]
   have:lo=hi:=by omega
   subst this;exact ⟨hsz,h1,h2⟩
def vA {xs:Array Nat}(j:Nat)(hs:xs.toList.Pairwise (· < ·)) :
  SetTable.below xs j<=xs.size/\(∀i (h:i < xs.size),i < SetTable.below xs j->xs[i] < j)/\(∀i (h:i < xs.size),SetTable.below xs j<=i->j<=xs[i]) :=
 DL xs j hs xs.size 0 xs.size (by omega) (by omega) (by omega) (fun _ _ h=>by omega) (fun _ h h'=>by omega)
def rJ (t:SetTable):Prop:=t.plain=true->t.place.toList.Pairwise (· < ·)
def sL {xs:Array Nat}{j:Nat}(hs:xs.toList.Pairwise (· < ·))(hn:xs[SetTable.below xs j]?≠some j):(insertAt xs (SetTable.below xs j) j).toList.Pairwise (· < ·):=by
 obtain ⟨b1,b2,b3⟩:=vA j hs;rw [toList_insertAt];generalize SetTable.below xs j=p at *;rw [List.pairwise_append];refine ⟨hs.sublist (List.take_sublist _ _),zaM.mpr ⟨fun y hy=>?_,hs.sublist (List.drop_sublist _ _)⟩,fun x hx y hy=>?_⟩
 ·obtain ⟨i,hi,rfl⟩:=zcJ.mp hy;simp only [zcE,za8] at hi;rw [List.getElem_drop,zck];have h1:=b3 (p+i) (by omega) (by omega);rcases Nat.lt_or_eq_of_le h1 with h|h
  ·exact h
  ·exfalso;rcases Nat.eq_zero_or_pos i with rfl|hi0
   ·exact hn (by rw [zav (by omega)];simp only [Nat.add_zero] at h;rw [←h])
   ·have h2:=b3 p (by omega) (by omega);have h3:=zbS.mp hs p (p+i) (by simp;omega) (by simp;omega) (by omega);simp only [zck] at h3;omega
 ·obtain ⟨i,hi,rfl⟩:=zcJ.mp hx;simp only [zbr,za8] at hi;rw [List.getElem_take,zck];have h1:=b2 i (by omega) (by omega);rcases zak.mp hy with rfl|hy
  ·exact h1
  ·obtain ⟨k,hk,rfl⟩:=zcJ.mp hy;simp only [zcE,za8] at hk;rw [List.getElem_drop,zck];have:=b3 (p+k) (by omega) (by omega);omega
theorem pw (t:SetTable)(hashAt:Nat->Int)(h:Int):∀(fuel:Nat) (p:Probe),(∀d,p.dummy=some d->t.place[SetTable.below t.place d]?≠some d) ->
  ∀j dm,probe.go t hashAt h fuel p=some (.empty j dm)->t.place[SetTable.below t.place j]?≠some j/\∀d,dm=some d->t.place[SetTable.below t.place d]?≠some d
 |0,_,_,_,_,e=>by simp [probe.go] at e
 |fuel+1,p,hp,j,dm,e=>by
  unfold probe.go at e
  have adv:∀q:Probe,(t.advance q).dummy=q.dummy:=fun q=>by
   unfold advance;split <;> rfl
  split at e
  ·rename_i hs
   cases e;refine ⟨?_,hp⟩;intro hq;unfold SetTable.slot at hs;simp [hq] at hs
  ·rename_i hs
   refine pw t hashAt h fuel _ (fun d hd=>?_) j dm e;rw [adv] at hd;cases hd;intro hq;unfold SetTable.slot at hs;simp [hq] at hs
  ·split at e
   ·cases e
   ·exact pw t hashAt h fuel _ (fun d hd=>hp d (by rwa [adv] at hd)) j dm e
def qy {t:SetTable}{h:Int}{j:Nat}{b:Bool}(e:t.freeSlot h=some (j,b)):t.place[SetTable.below t.place j]?≠some j:=by
 unfold freeSlot at e;split at e
 ·rename_i j' dm hp
  cases e;obtain ⟨h1,h2⟩:=pw t _ h _ _ (by intro d hd;simp [probeStart] at hd) _ _ hp
  cases dm with
  |none=>exact h1
  |some d=>exact h2 d rfl
 ·cases e
def e8 (t:SetTable)(n:Nat):rJ (t.standIn n):=fun h=>by simp [standIn] at h
def sB {t:SetTable}(es:Array (Int×Value))(h:Int)(x:Value)(r:rJ t):rJ (layNew t es h x).2.1/\(layNew t es h x).2.1.led=t.led:=by
 unfold layNew;split
 ·rename_i slot wd hf;dsimp only;unfold orStandIn;split
  ·refine ⟨fun hp=>?_,rfl⟩;exact sL (r hp) (qy hf)
  ·exact ⟨e8 _ _,rfl⟩
 ·exact ⟨e8 _ _,rfl⟩
def lF {mask finger moves:Nat}{led plain:Bool}{hs:Array Int}{t':SetTable}{o:Array Nat}(e:laid mask finger moves led plain hs=some (t',o)):t'.place.toList.Pairwise (· < ·)/\t'.led=led:=by
 unfold laid at e;simp only [bind,Option.bind,pure] at e;split at e
 ·cases e
 ·cases e;refine ⟨?_,rfl⟩;rw [zbR,List.pairwise_filterMap];refine List.Pairwise.imp ?_ (List.pairwise_lt_range);intro a b hab x hx y hy;simp only [zaO] at hx hy;obtain ⟨_,_,rfl⟩:=hx;obtain ⟨_,_,rfl⟩:=hy;exact hab
def ph (t:SetTable)(es:Array (Int×Value))(wanted:Nat):rJ (relayAll t es wanted).2.1/\(relayAll t es wanted).2.1.led=t.led:=by
 unfold relayAll;split
 ·rename_i t' order h;dsimp only;split
  ·exact ⟨fun _=>(lF h).1,(lF h).2⟩
  ·exact ⟨e8 _ _,rfl⟩
 ·exact ⟨e8 _ _,rfl⟩
open PyProof.Rows
def val (e:Int×Value):Int:=match e.2 with|.int n _=>n|_=>0
def Lf (e:Int×Value):Prop:=∃n t,e=(hashInt n,.int n t)
structure cU (led:Bool)(es:Array (Int×Value))(t:SetTable)(xs:Th):Prop where
 el:∀e∈es.toList,Lf e
 pm:(es.toList.map val).Perm xs
 nd:xs.Nodup
 bd:es.size < scanBound
 ft:t.fits es.size=true
 rs:rJ t
 ld:t.led=led
structure om (led:Bool)(es:Array (Int×Value))(t:SetTable):Prop where
 bd:es.size < scanBound
 ft:t.fits es.size=true
 rs:rJ t
 ld:t.led=led
def cU.w {led:Bool}{es:Array (Int×Value)}{t:SetTable}{xs:Th}(g:cU led es t xs):om led es t:=⟨g.bd,g.ft,g.rs,g.ld⟩
def c7 (led:Bool)(o:Obj)(xs:Th):Prop:=∃es ep t,o.ExactSet/\o.data=.set es ep t/\cU led es t xs
def c7.len {led:Bool}{es:Array (Int×Value)}{t:SetTable}{xs:Th}(g:cU led es t xs):es.size=xs.length:=by have:=g.pm.length_eq;simpa using this
def Ib {prog:Program}{l:List (Int×Value)}(h:∀e∈l,Lf e):ElemsOf (intKind prog w) l:=fun e he=>by obtain ⟨n,t,rfl⟩:=h e he;exact ⟨⟨n,intKind_is _ _ _ _,rfl⟩,rfl⟩
def CU {prog:Program}{e:Int×Value}(h:Lf e)(k:Int):(intKind prog w).is k e.2=true ↔ val e=k:=by obtain ⟨n,t,rfl⟩:=h;simp [intKind,Value.isInt,val]
section
variable {prog:Program}{w:World}{A:Around}{E:Tb}{s:Shared}
def cI (xs:Th)(k:Int):Th:=if k∈xs then xs else xs++[k]
def px {xs:Th}{k:Int}(h:xs.Nodup):(cI xs k).Nodup:=by
 unfold cI;split
 ·exact h
 ·rename_i hk;rw [zbc];exact ⟨h,by simp,fun a ha b hb=>by simp at hb;subst hb;exact fun e=>hk (e ▸ ha)⟩
def et {a:Addr}{o:Obj}{es es':Array (Int×Value)}{ep:Nat}{t t':SetTable}{Q:Unit->Shared->Prop}(ho:s.heap.get? a=some o)(hx:o.ExactSet)(hd:o.data=.set es ep t)
  (hb:es'.size < scanBound)
  (h:∀h',Heap.SameBut a s.heap h'->h'.get? a=some {o with data:=.set es' (ep+1) t'}->Q () {s with heap:=h'}):wpAny (model prog w) A (storeSet a es' t') Q E s:=by
 refine wpAny_storeSet_of ho hd (h _ (Heap.SameBut.update s.heap a _) ?_) (fits_of_scanBound hb);have q:=zaS (Obj.putSet es' t') ho (by rw [putSet_of es' t' hd];rfl)
 rwa [putSet_of es' t' hd] at q
def yx {g:Bool->Sem Unit}(hg:g=fun b=>match b with|true=>rule "set.scan.the-table-gave-way" | false=>pure ()){b:Bool}{Q:Unit->Shared->Prop}(h:Q () s):wpAny (model prog w) A (g b) Q E s:=by
 subst hg;cases b
 ·exact zad h
 ·exact zbO h
theorem DP {a:Addr}{led:Bool}{o:Obj}{xs:Th}{k:Int}{tk:Tok}{Q:Bool->Shared->Prop}(ho:s.heap.get? a=some o)(hS:c7 led o xs)(hroom:xs.length+1 < scanBound)
  (h:∀h' o' b,Heap.SameBut a s.heap h'->h'.get? a=some o'->c7 led o' (cI xs k)->Q b {s with heap:=h'}) :
  wpAny (model prog w) A (setAddHashed a (.int k tk) (hashInt k)) Q E s:=by
 obtain ⟨es,ep,t,hx,hd,G⟩:=hS;have hlen:=c7.len G;unfold setAddHashed setAddHashedIn;refine zaI (zaa (zaA ho hd G.ft ?_));dsimp only;rw [byScan_of (knd:=intKind prog w) (x:=.int k tk) rfl G.bd (Ib G.el),if_pos rfl];unfold setAddByScan;refine zaa (zaa (zbO (zaa ?_)));refine wpAny_setScan_of (knd:=intKind prog w) (k:=k) (intKind_is _ _ _ _) ho hd G.ft (Ib G.el) ?_
 cases hr:List.findIdx? (fun e=>(intKind prog w).is k e.2) es.toList with
 |some j =>
  obtain ⟨hj,hpj,_⟩:=List.findIdx?_eq_some_iff_getElem.mp hr
  have hin:k∈xs:=by
   refine G.pm.mem_iff.mp (zaJ.mpr ⟨_,zbB hj,?_⟩);exact (CU (G.el _ (zbB hj)) k).mp hpj
  dsimp only;refine zad (zad ?_);have:=h s.heap o false (Heap.SameBut.refl a s.heap) ho
  unfold cI at this
  rw [if_pos hin] at this
  have e:s={s with heap:=s.heap}:=by cases s;rfl
  rw [e];exact this ⟨es,ep,t,hx,hd,G⟩
 |none =>
  have hout:k∉xs:=fun hk=>by
   obtain ⟨e,he,hv⟩:=zaJ.mp (G.pm.mem_iff.mpr hk);have:=List.findIdx?_eq_none_iff.mp hr e he;rw [(CU (G.el e he) k).mpr hv] at this;cases this
  dsimp only;have p1:=layNew_perm t es (hashInt k) (.int k tk);have f1:=layNew_fits t es (hashInt k) (.int k tk);have r1:=sB es (hashInt k) (.int k tk) G.rs;generalize hL:layNew t es (hashInt k) (.int k tk)=L at p1 f1 r1;obtain ⟨es1,t1,wd,gv⟩:=L;have hL':layNew t es ((intKind prog w).hash k) (.int k tk)=(es1,t1,wd,gv):=hL
  try rw [hL']
  dsimp only at p1 f1 r1 ⊢;rw [Array.toList_push] at p1
  have G1:cU led es1 t1 (cI xs k):=by
   have hm:(es1.toList.map val).Perm (xs++[k]):=by
    refine (p1.map val).trans ?_;rw [zaR];exact G.pm.append (List.Perm.refl _)
   have hsz:es1.size=xs.length+1:=by have:=hm.length_eq;simpa using this
   refine ⟨fun e he=>?_,?_,px G.nd,by omega,f1,r1.1,r1.2.trans G.ld⟩
   ·rcases zaU.mp (p1.mem_iff.mp he) with he|he
    ·exact G.el e he
    ·rw [zau] at he;exact ⟨k,tk,he⟩
   ·unfold cI;rw [if_neg hout];exact hm
  refine zaa (yx rfl ?_)
  have tail:∀t2,t2=t1->wpAny (model prog w) A (do
    storeSet a es1 t2
    if (!wd && t2.tooFull)=true then do
      (match (relayAll t2 es1 (grown es1.size)).2.2 with|true=>rule "set.scan.the-table-gave-way" | false=>pure ())
      storeSet a (relayAll t2 es1 (grown es1.size)).1 (relayAll t2 es1 (grown es1.size)).2.1
      pure (some true)
     else pure (some true)) (fun r s'=>wpAny (model prog w) A (match r with|some added=>pure added|none=>setAddHashedIn a (.int k tk) ((intKind prog w).hash k) 99999) Q E s') E s:=by
   intro t2 ht2;subst ht2;refine zaa (et ho hx hd G1.bd fun h1 b1 g1=>?_);split
   ·have p2:=relayAll_perm t2 es1 (grown es1.size)
    have f2:=relayAll_fits t2 es1 (grown es1.size);have r2:=ph t2 es1 (grown es1.size);generalize relayAll t2 es1 (grown es1.size)=Rl at p2 f2 r2 ⊢;obtain ⟨es2,t3,gv2⟩:=Rl;dsimp only at p2 f2 r2 ⊢
    have hsz:es2.size=es1.size:=by have:=p2.length_eq;simpa using this
    refine zaa (yx (g:=fun b=>match b with|true=>rule "set.scan.the-table-gave-way" | false=>pure ()) rfl ?_);refine zaa (et (s:={s with heap:=h1}) g1 hx rfl (by rw [hsz];exact G1.bd) fun h2 b2 g2=>zad (zad ?_));refine h h2 _ true (b1.trans b2) g2 ⟨es2,_,t3,hx,rfl,fun e he=>G1.el e (p2.mem_iff.mp he),(p2.map val).trans G1.pm,G1.nd,by rw [hsz];exact G1.bd,f2,r2.1,r2.2.trans G1.ld⟩
   ·exact zad (zad (h h1 _ true b1 g1 ⟨es1,_,t2,hx,rfl,G1⟩))
  split
  ·refine zaa ?_
   rw [hashByValue_scannable 8 (x:=.int k tk) rfl];exact zad (tail _ rfl)
  ·exact zaa (zad (tail _ rfl))
end
def tY:isSubtype (.type "tuple") (.type "set")=pure false:=by rw [isSubtype_type];kernel_rfl
def tZ:isSubtype (.type "tuple") (.type "frozenset")=pure false:=by rw [isSubtype_type];kernel_rfl
def pz (xs:Th)(k:Int):(cI xs k).length<=xs.length+1:=by unfold cI;split <;> simp
def aG (xs:Th)(ns:Th):Th:=ns.foldl cI xs
abbrev aO (led:Bool):Obj:={cls:=.type "set",dict:=none,data:=.set #[] 0 (.fresh 0 0 led)}
def ji (led:Bool):c7 led (aO led) [] :=
 ⟨#[],0,_,⟨rfl,rfl,rfl⟩,rfl,⟨fun _ h=>by simp at h,List.Perm.refl _,zcx,by decide,by rfl,fun _=>List.Pairwise.nil,rfl⟩⟩
section
variable {prog:Program}{w:World}{A:Around}{R:Result->Shared->Prop}{I:Addr}{fp wr:Tf}{G:Array GenState->Array GenState->Prop}{n:Nat}{P:Nat->Value->Prop}{St:Nat->Shared->Prop}
theorem nE (W:WalksS prog w A.in1 I fp wr G n P St)(S:Addr)(hSf:S∉fp){led:Bool}(ms:Th)(hms:ms.length=n)(hval:∀i v,P i v->∃t,v=.int (ms.getD i 0) t) :
  ∀(k i:Nat) (s:Shared) (o:Obj) (xs:Th),n - i=k->i<=n->St i s->s.heap.get? S=some o->c7 led o xs->xs.length+k+1 < scanBound ->
   (∀s' o',Moved (S::wr) G s s'->s'.heap.get? S=some o'->c7 led o' (aG xs (ms.drop i))->R (.ok (.ret .none)) s') ->
   codeAny (model prog w) A (.builtin "set.update.loop" ⟨[.ref S,.ref I],[]⟩) R s:=by
 have nw:S∉wr:=fun h=>hSf (W.sub _ h);have up:∀b∈wr,b∈S::wr:=fun b hb=>zaj _ hb;intro k
 induction k with
 |zero =>
  intro i s o xs hk hi hst ho hS hb hR
  have hin:i=n:=by omega
  subst hin;refine zaW F.entry_set_update_loop ?_;rw [zaX F.plain_set_update_loop _];refine (show wpAny _ A.in1 (pyNext (.ref I) >>= _) _ _ s from zaa (W.done s _ _ hst fun s' hm=>?_));refine (show wpAny _ A.in1 (ret Value.none) _ _ s' from zad (hR s' o (hm.mono up) (hm.heap S _ nw ho) ?_));rw [zcA (by omega)];exact hS
 |succ k ih =>
  intro i s o xs hk hi hst ho hS hb hR
  have hlt:i < n:=by omega
  refine zaW F.entry_set_update_loop ?_;rw [zaX F.plain_set_update_loop _];refine (show wpAny _ A.in1 (pyNext (.ref I) >>= _) _ _ s from zaa (W.item i s _ _ hlt hst fun v s' hP hst' hm=>?_));obtain ⟨t,rfl⟩:=hval i v hP;have ho':=hm.heap S _ nw ho;refine (show wpAny _ A.in1 (holding [Value.int (ms.getD i 0) t] (setAdd S (.int (ms.getD i 0) t)) >>= _) _ _ s' from zaa (zaI ?_));unfold setAdd;refine zaI (zaa ((intKind prog w).pyHash (k:=ms.getD i 0) (intKind_is _ _ _ _) ?_));refine DP (s:={s' with toks:=s'.toks+1}) ho' hS (by omega) fun h' o' _ hsb ho2 hS2=>?_
  have hdrop:ms.drop i=ms.getD i 0::ms.drop (i+1):=by
   have hl:i < ms.length:=by omega
   rw [zbe hl];simp [List.getD,hl]
  refine zad ⟨zbw F.plain_set_update_loop _,ih (i+1) _ o' _ (by omega) hlt (W.frame _ s' _ _ hst' (zbP _) fun b hb o e=>?_) ho2 hS2 (by have:=pz xs (ms.getD i 0);omega) fun s2 o2 hm2 q2 g2=>?_⟩
  ·rw [hsb.2 b (fun h:b=S=>hSf (h ▸ hb))];exact e
  ·refine hR s2 o2 (Moved.trans W.gtrans ((hm.mono up).then_heap (zbP _) fun b o hb e=>?_) hm2) q2 (by rw [hdrop];exact g2)
   rw [hsb.2 b (fun h:b=S=>hb (by rw [h];exact zan))];exact e
end
section
variable {prog:Program}{w:World}{A:Around}{E:Tb}{s:Shared}
def Ct (a:Value){Q₁:Tb}(h:Q₁ (.ref s.heap.objs.size) {s with heap:=s.heap.push (aO (!w.params.followText "set-order"))}) :
  codeAny (model prog w) A (.call (.builtin "set.__new__") ⟨[.type "set",a],[]⟩) (wants Q₁ E) s:=by
 refine zb5 (show wpAny _ A.in1 (do checkBuiltinCall "set.__new__" ⟨[.type "set",a],[]⟩;again (.builtin "set.__new__" ⟨[.type "set",a],[]⟩)) _ _ s from ?_);refine zaa (zcT (F.newCall_set_1 a) (zad ⟨zbw F.plain_set_new _,zaW F.entry_set_new ?_⟩));rw [zaX F.plain_set_new _];have hsub:=sub_set_self;unfold Builtin.«set.__new__» Builtin.Frozenset.newClass;obtain ⟨hp,g,d,tk,os⟩:=s;dsimp only;wp_walk;refine zbm (zad ?_);dsimp only;simp only [newObj];exact zaa (wpAny_alloc (zad (zad h)))
set_option maxHeartbeats 3200000 in
theorem Er {l:Addr}{its:Ti}{ns:Th}{Q:Tb}
  (hh:A.handled=none) (hl:s.heap.IsTuple l its) (hi:IntsAre its.toList ns) (hb:its.size+1 < scanBound)
  (h:∀(h':Heap) (tk:Nat) (o:Obj),h'.get? s.heap.objs.size=some o->c7 (!w.params.followText "set-order") o (aG [] ns) ->
   (∀b o,s.heap.get? b=some o->h'.get? b=some o)->s.toks<=tk->Q (.ref s.heap.objs.size) {s with heap:=h',toks:=tk}) :
  wpAny (model prog w) A (call (.type "set") [.ref l]) Q E s:=by
 obtain ⟨c,tl,hmro⟩:=F.called_set.mro;have hmade:=F.called_set.made;have hsub:=F.called_set.sub;refine zcI (zb5 (show wpAny _ _ (callAny (.type "set") _) _ _ _ from ?_));refine zad ⟨Code.quiet_builtin _ (by decide),zaW F.entry_type_call ?_⟩;rw [zcu (weight_type_call_type "set" [.ref l] []) rfl];have h1:=F.called_set.notType;have h2:=F.called_set.canCreate;have hct:=F.typeCall_set_1 (.ref l)
 repeat (any_goals (first|assumption|wp_step))
 refine zbh (Ct (.ref l) (E:=E) (Q₁:=fun obj s₁=>obj=.ref s.heap.objs.size/\s₁={s with heap:=s.heap.push (aO (!w.params.followText "set-order"))}) ⟨rfl,rfl⟩) fun r s₁ hr=>?_;generalize hled:(!w.params.followText "set-order")=led at *
 cases r with
 |error e=>exact hr
 |ok fl =>
  cases fl with
  |ret obj =>
   obtain ⟨rfl,rfl⟩:=hr;have hS:(s.heap.push (aO led)).get? s.heap.objs.size=some (aO led):=zal _ rfl;have hT:Shared.TypeIs {s with heap:=s.heap.push (aO led)} (.ref s.heap.objs.size) "set":=⟨_,hS,rfl⟩;have hli:=F.called_set.init.lookup;have hbi:=F.called_set.init.bind (.ref s.heap.objs.size)
   repeat (any_goals (first|assumption|wp_step))
   refine zbh (zbT (R:=wants (fun r s₂=>r=.none/\∃h' tk o,s₂={s with heap:=h',toks:=tk}/\h'.get? s.heap.objs.size=some o/\c7 led o (aG [] ns) /\
     (∀b o,s.heap.get? b=some o->h'.get? b=some o)/\s.toks<=tk) E) F.called_set.init.plain F.entry_set_init (check_set_init_1 hT ?_)) fun r₂ s₂ hr2=>?_
   ·obtain ⟨ol,hol,hcl,nl,hdl⟩:=hl
    obtain ⟨ocls,odict,odata,oslots⟩:=ol;simp only at hcl hdl;subst hcl;subst hdl;have hol':(s.heap.push (aO led)).get? l=some {cls:=.type "tuple",dict:=odict,data:=.seq its nl,slots:=oslots}:=zae _ hol;have hs1:=tY;have hs2:=tZ
    have hne:(Value.type "tuple" == Value.type "dict")=false:=by decide
    have hl1:(s.heap.push (aO led)).IsTuple l its:=⟨_,hol',rfl,nl,rfl⟩;unfold Builtin.«set.__init__» noKeywords Builtin.Frozenset.updateFrom;generalize hPI:pyIter=PI
    wp_walk;subst hPI
    refine wpAny_pyIter_tuple hl1 (zaa (zcR ?_));have hlS:l < s.heap.objs.size:=zah hol
    have hh3:A.in1.in1.in1.handled=none:=by simp [hh]
    have hneI:l≠(s.heap.push (aO led)).objs.size:=by rw [zaY];exact zap (zbo hlS)
    have hSf:s.heap.objs.size∉[(s.heap.push (aO led)).objs.size,l]:=by
     rw [zaY];simp only [zak,zaQ,or_false,not_or];exact ⟨zap (zbL _),zaV hlS⟩
    refine nE ((Walks.tuple hh3 _ l hneI its).toS) s.heap.objs.size hSf (led:=led) ns (by have:=IntsAre.length hi;simpa using this.symm)
     (fun i v hv=>IntsAre.int_at hi i v (by rw [zbq];exact hv)) (its.size - 0) 0 _ (aO led) [] (by omega) (zbd _)
     ⟨⟨_,zal _ rfl,rfl,rfl⟩,(hl1.at fun o e=>zae _ e)⟩ (zae _ hS) (ji led) (by simpa using hb) fun s' o' hm ho' hS'=>?_
    obtain ⟨h',g',d',tk',os'⟩:=s';have eg:g'=s.gens:=hm.gens;have ed:d'=s.drawn:=hm.drawn;have eo:os'=s.os:=hm.os;subst eg;subst ed;subst eo;refine (show wpAny _ _ _ _ _ _ from zad (show wpAny _ _ (ret Value.none) _ _ _ from zad ⟨rfl,h',tk',o',rfl,ho',hS',fun b o e=>?_,hm.toks⟩));have hbs:=zah e;refine hm.heap b o ?_ (zae _ (zae _ e));rw [zaY];simp only [zak,zaQ,or_false,not_or];exact ⟨zap hbs,zap (zbo hbs)⟩
   ·cases r₂ with
    |error e=>exact hr2
    |ok fl₂ =>
     cases fl₂ with
     |ret r =>
      obtain ⟨rfl,h',tk,o,rfl,ho,hS',hk',ht⟩:=hr2
      repeat (any_goals (first|assumption|wp_step))
      exact h _ _ o ho hS' hk' ht
     |_=>exact hr2.elim
  |_=>exact hr.elim
end
def bi:Slot "set_iterator" "__next__" "set_iterator.__next__":=by
 refine .of (owner:="set_iterator") (n:="__next__") ?_ (by decide) (by decide) (by decide) ?_ ?_
 ·rw [zcq,zbQ];kernel_rfl
 ·first|exact .inl (by decide)|exact .inr (by decide)
 ·rw [isSubtype_type];kernel_rfl
def fq:entryFor table "set_iterator.__next__" = some Builtin.«set_iterator.__next__»:=entryFor_of_tree (by kernel_rfl)
def gk (a:Value):argsOk "set_iterator.__next__" ⟨[a],[]⟩:=by unfold argsOk;kernel_rfl
def sS:entryFor table "set.__iter__" = some Builtin.«frozenset.__iter__» :=
 entryFor_alias (id':="frozenset.__iter__") (by kernel_rfl) (by first|rfl|decide) (by decide) (by kernel_rfl)
theorem lM {Z:Type}:∀{l:List Z} {i:Nat} (h:i < l.length),(l[i]::l.eraseIdx i).Perm l
 |x::xs,0,_=>by simp
 |x::xs,i+1,h=>by simp only [List.getElem_cons_succ,List.eraseIdx_cons_succ];exact (List.Perm.swap _ _ _).trans ((lM (by simpa using h)).cons x)
section
variable {Z:Type}{M:Model}{A:Around}{E:Tb}{s:Shared}
def Aw {src:Source}{n:Nat}{Q:Nat->Shared->Prop}(hn:0 < n)(h:∀i d,i < n->Q i {s with drawn:=d}):wpAny M A (choose src n) Q E s :=
 fun _ _ _=>⟨Nat.pos_iff_ne_zero.mp hn,h _ _ (Nat.mod_lt _ hn)⟩
theorem F9 (n:Nat):∀(xs:List Z) (s:Shared) (Q:List Z->Shared->Prop),xs.length=n->(∀ys d,ys.Perm xs->Q ys {s with drawn:=d})->wpAny M A (drawOrder n xs) Q E s:=by
 induction n with
 |zero =>
  intro xs s Q hl h;have e:xs=[]:=zbI.mp hl;subst e;exact zad (h [] s.drawn (List.Perm.refl _))
 |succ n ih =>
  intro xs s Q hl h
  cases xs with
  |nil=>cases hl
  |cons x xs =>
   unfold drawOrder;refine zaa (Aw (by simp) fun i d hi=>?_);rw [zao hi];dsimp only;refine zaa (ih _ _ _ (by rw [List.length_eraseIdx_of_lt hi];simp at hl;simp;omega) fun ys d' hp=>zad ?_);exact h _ d' ((hp.cons _).trans (lM hi))
end
abbrev bt (w:World):Bool:=w.params.followText "set-order"
def jZ (f:Value)(i:Nat)(a:Addr)(n ep:Nat):Obj:={cls:=.type "set_iterator",data:=.fields #[f,.int i 0,.ref a,.int n 0,.int ep 0]}
def CT {s:Shared}{I:Addr}{f:Value}{i:Nat}{a:Addr}{n ep:Nat}(h:s.heap.get? I=some (jZ f i a n ep)):s.TypeIs (.ref I) "set_iterator":=⟨_,h,rfl⟩
def DM {t:SetTable}(r:t.place.toList.Pairwise (· < ·))(i:Nat)(hi:i<=t.place.size):SetTable.below t.place (if h:0 < i then t.place[i - 1]'(by omega)+1 else 0)=i:=by
 obtain ⟨b1,b2,b3⟩:=vA (if h:0 < i then t.place[i - 1]'(by omega)+1 else 0) r;generalize hB:SetTable.below t.place (if h:0 < i then t.place[i - 1]'(by omega)+1 else 0)=B at *;have lt:∀(x y:Nat) (hx:x < t.place.size) (hy:y < t.place.size),x < y->t.place[x] < t.place[y]:=fun x y hx hy hxy=>by have:=zbS.mp r x y (by simpa using hx) (by simpa using hy) hxy;simpa using this
 rcases Nat.lt_trichotomy B i with h|h|h
 ·exfalso;have hp:0 < i:=by omega
  simp only [hp,dite_true] at b3;have h1:=b3 B (by omega) (zam _);rcases zc0 B (i - 1) with h2|h2
  ·have:=lt B (i - 1) (by omega) (by omega) h2;omega
  ·have:B=i - 1:=by omega
   subst this;omega
 ·exact h
 ·exfalso;have h1:=b2 i (by omega) h;by_cases hp:0 < i
  ·simp only [hp,dite_true] at h1;have:=lt (i - 1) i (by omega) (by omega) (by omega);omega
  ·simp only [hp,dite_false] at h1;omega
section
variable {prog:Program}{w:World}{A:Around}{E:Tb}{s:Shared}
def wC {led:Bool}{a:Addr}{o:Obj}{es:Array (Int×Value)}{ep:Nat}{t:SetTable}{i:Nat}{Q:Option (Value×Nat)->Shared->Prop}(hb:bt w=false)(hl:led=true)
  (ho:s.heap.get? a=some o) (hd:o.data=.set es ep t) (G:om led es t) (hdr:(!t.plain && decide (es.size > 1))=false) (hi:i<=es.size) (hp:t.place.size=es.size)
  (h:Q (if hlt:i < es.size then some (es[i].2,t.place[i]+1) else none) s) :
  wpAny (model prog w) A (setNext a (if h:0 < i then t.place[i - 1]'(by omega)+1 else 0) i ep) Q E s:=by
 have r:t.place.toList.Pairwise (· < ·):=by
  cases hpl:t.plain with
  |true=>exact G.rs hpl
  |false =>
   have h1:¬ es.size > 1:=by simpa [hpl] using hdr
   have:t.place.toList.length<=1:=by simp;omega
   match hq:t.place.toList,this with
   |[],_=>exact List.Pairwise.nil
   |[x],_=>exact zcy _ _
 unfold setNext;refine zaa (zaA ho hd G.ft ?_);dsimp only;unfold setsByText;refine zaa (zaa (zbm (zad ?_)));dsimp only;rw [show ((model prog w).w.params.followText "set-order")=false from hb];simp only [zas,↓reduceIte];split
 ·rename_i hc
  have:(!t.plain && decide (es.size > 1))=true:=hc;rw [hdr] at this;cases this
 ·refine zaa (show wpAny _ _ (if (!t.led && !es.isEmpty)=true then unsupported "set:maker-not-led" else pure ()) _ _ _ from ?_)
  rw [if_neg (by rw [G.ld,hl];simp)];refine zad ?_;rw [DM r i (by omega)];refine zad ?_
  by_cases hlt:i < es.size
  ·have h2:i < t.place.size:=by omega
   rw [dif_pos hlt] at h;rw [zav hlt,zav h2];exact h
  ·rw [dif_neg hlt] at h
   rw [zb9 (by omega)];exact h
theorem yb {Z:Type}(nx:Nat->Nat):∀(fuel k:Nat) (left:List Z) (out:Array Z),left.length=fuel->(pickOrder.go nx fuel k left out).toList.Perm (out.toList++left)
 |0,k,[],out,_=>by unfold pickOrder.go;simp
 |fuel+1,k,x::xs,out,hl=>by unfold pickOrder.go;have hlt:nx k % (x::xs).length < (x::xs).length:=Nat.mod_lt _ (by simp);generalize nx k % (x::xs).length=j at hlt;rw [zao hlt];dsimp only;refine (yb nx fuel (k+1) _ _ (by rw [List.length_eraseIdx_of_lt hlt];simp at hl;simp;omega)).trans ?_;rw [Array.toList_push,zbb];exact (List.Perm.refl _).append (lM hlt)
def mQ {Z:Type}(nx:Nat->Nat)(xs:Array Z):(pickOrder nx xs).toList.Perm xs.toList:=by have:=yb nx xs.size 0 xs.toList #[] (by simp);simpa [pickOrder] using this
def zI {led:Bool}{a:Addr}{o:Obj}{es:Array (Int×Value)}{ep:Nat}{t:SetTable}{sl i:Nat}{Q:Option (Value×Nat)->Shared->Prop}(hb:bt w=true)
  (ho:s.heap.get? a=some o) (hd:o.data=.set es ep t) (G:om led es t)
  (h:Q (((pickOrder (w.params.setOrder a ep) es)[i]?).map fun e=>(e.2,sl)) s) :
  wpAny (model prog w) A (setNext a sl i ep) Q E s:=by
 unfold setNext;refine zaa (zaA ho hd G.ft ?_);dsimp only;unfold setsByText;refine zaa (zaa (zbm (zad ?_)));dsimp only;rw [show ((model prog w).w.params.followText "set-order")=true from hb];simp only [bne_self_eq_false,zas,↓reduceIte];unfold setWalk setsByText;refine zaa (zaa (zaA ho hd G.ft (zaa (zaa (zbm (zad ?_))))));dsimp only;rw [show ((model prog w).w.params.followText "set-order")=true from hb];simp only [↓reduceIte];refine zaa (zbm (zad (zad ?_)));exact h
end
section
variable {prog:Program}{w:World}{A:Around}{E:Tb}{s:Shared}
def yL {M:Model}{E:Tb}{s:Shared}{A:Around}{Q:Fin->Shared->Prop}(hh:A.handled=none)
  (h:∀h' a,(∀b o,s.heap.get? b=some o->h'.get? b=some o)->Shared.TypeIs {s with heap:=h'} (.ref a) "StopIteration"->E (.ref a) {s with heap:=h'}) :
  wpAny M A (newExc (.type "StopIteration") [] >>= fun e=>raiseNew e) Q E s:=by
 refine zaa ?_;simp only [newExc,newTuple];refine zaa (zaF ?_ (by size_fits));refine zaa (m:=firstArgMember _ _) (zcT (a:=Value.none) (by first|rfl|(simp only [firstArgMember];rfl)) ?_);refine zaF ?_ (by size_fits);simp only [raiseNew];refine zaa (wpAny_handled ?_);rw [hh];refine zaa (zad (wpAny_throw (h _ _ (fun b o e=>zae _ (zae _ e)) ?_)));exact ⟨_,zal _ rfl,rfl⟩
theorem Fv {led:Bool}{I a:Addr}{o:Obj}{es:Array (Int×Value)}{ep:Nat}{t:SetTable}{i sl sl':Nat}{x:Value}{Q:Option Value->Shared->Prop}
  (hI:s.heap.get? I=some (jZ (.int sl 0) i a es.size ep)) (ho:s.heap.get? a=some o) (hd:o.data=.set es ep t) (G:om led es t)
  (hnx:∀A' E' (Q':Option (Value×Nat)->Shared->Prop),Q' (some (x,sl')) s->wpAny (model prog w) A' (setNext a sl i ep) Q' E' s)
  (h:∀h',h'.get? I=some (jZ (.int sl' 0) (i+1) a es.size ep)->Heap.SameBut I s.heap h'->Q (some x) {s with heap:=h'}):wpAny (model prog w) A (pyNext (.ref I)) Q E s:=by
 unfold pyNext;refine zaa (zbG (za0 (name:=Str.ofString "__next__") (CT hI) bi (zaG bi (CT hI) fq ?_ (gk _))));unfold Builtin.«set_iterator.__next__»;refine zaa (show wpAny _ _ (pure (Value.ref I,([]:Te))) _ _ _ from zad ?_);refine zaa (zbi hI rfl ?_);dsimp only;unfold setEntries;refine zaa (zaa (zaA ho hd G.ft (zad ?_)));dsimp only;rw [if_neg (by simp)];refine zaa (show wpAny _ _ (setNext a sl i ep) _ _ _ from hnx _ _ _ ?_);dsimp only;refine zaa (zbC hI rfl (by simp) ?_);have h1:=zaS (Obj.mapFields (·.setIfInBounds 0 (rawInt (sl':Int)))) hI rfl;refine zaa (zbC (s:={s with heap:=_}) h1 rfl (by simp) ?_);have h2:=zaS (Obj.mapFields (·.setIfInBounds 1 (rawInt ((i:Int)+1)))) h1 rfl;refine zad ⟨x,rfl,zad (h _ (h2.trans ?_) ((Heap.SameBut.update ..).trans (Heap.SameBut.update ..)))⟩;rfl
def Ks {led:Bool}{I a:Addr}{o:Obj}{es:Array (Int×Value)}{ep:Nat}{t:SetTable}{i sl:Nat}{Q:Option Value->Shared->Prop}(hh:A.handled=none)
  (hI:s.heap.get? I=some (jZ (.int sl 0) i a es.size ep)) (ho:s.heap.get? a=some o) (hd:o.data=.set es ep t) (G:om led es t)
  (hnx:∀A' E' (Q':Option (Value×Nat)->Shared->Prop),Q' none s->wpAny (model prog w) A' (setNext a sl i ep) Q' E' s)
  (h:∀h',(∀b o,b∉[I]->s.heap.get? b=some o->h'.get? b=some o)->Q none {s with heap:=h'}):wpAny (model prog w) A (pyNext (.ref I)) Q E s:=by
 unfold pyNext;refine zaa (zbG (za0 (name:=Str.ofString "__next__") (CT hI) bi (zaG bi (CT hI) fq ?_ (gk _))));unfold Builtin.«set_iterator.__next__»;refine zaa (show wpAny _ _ (pure (Value.ref I,([]:Te))) _ _ _ from zad ?_);refine zaa (zbi hI rfl ?_);dsimp only;unfold setEntries;refine zaa (zaa (zaA ho hd G.ft (zad ?_)));dsimp only;rw [if_neg (by simp)];refine zaa (show wpAny _ _ (setNext a sl i ep) _ _ _ from hnx _ _ _ ?_);dsimp only;refine zaa (zbC hI rfl (by simp) ?_);refine yL (show A.in1.handled=none from hh) fun h' b kp hT=>?_;refine zaa (zbt (T:="StopIteration") (b:=true) hT isSubtype_stop ?_);exact zad (h _ fun b o hb e=>kp b o (by rw [zaw _ _ (fun q:I=b=>hb (by simp [q]))];exact e))
def CS {led:Bool}{I a tp:Addr}{o:Obj}{es:Array (Int×Value)}{ep:Nat}{t:SetTable}{i:Nat}{pl:List Nat}{x:Int×Value}{p:Nat}{Q:Option Value->Shared->Prop}
  (hI:s.heap.get? I=some (jZ (.ref tp) i a es.size ep)) (htp:s.heap.get? tp=some {cls:=.type "tuple",data:=.seq (pl.map fun i:Nat=>rawInt i).toArray})
  (ho:s.heap.get? a=some o) (hd:o.data=.set es ep t) (G:om led es t) (hp:pl[i]?=some p) (hx:es[p]?=some x)
  (h:∀h',h'.get? I=some (jZ (.ref tp) (i+1) a es.size ep)->Heap.SameBut I s.heap h'->Q (some x.2) {s with heap:=h'}):wpAny (model prog w) A (pyNext (.ref I)) Q E s:=by
 unfold pyNext;refine zaa (zbG (za0 (name:=Str.ofString "__next__") (CT hI) bi (zaG bi (CT hI) fq ?_ (gk _))));unfold Builtin.«set_iterator.__next__»;refine zaa (show wpAny _ _ (pure (Value.ref I,([]:Te))) _ _ _ from zad ?_);refine zaa (zbi hI rfl ?_);dsimp only;unfold setEntries;refine zaa (zaa (zaA ho hd G.ft (zad ?_)));dsimp only;rw [if_neg (by simp)];refine zaa (zcS htp rfl ?_);dsimp only
 have hq:(pl.map fun i:Nat=>rawInt i).toArray[((i:Nat):Int).toNat]?=some (.int p 0):=by simp [hp,rawInt]
 rw [hq];dsimp only;unfold setNextDrawn;refine zaa (zaa (zaA ho hd G.ft ?_));dsimp only;rw [if_neg (by simp)];simp only [zby,hx];refine zad (zaa (zbC hI rfl (by simp) ?_));have h1:=zaS (Obj.mapFields (·.setIfInBounds 1 (rawInt ((i:Int)+1)))) hI rfl;exact zad ⟨x.2,rfl,zad (h _ (h1.trans rfl) (Heap.SameBut.update ..))⟩
def Fw {led:Bool}{I a tp:Addr}{o:Obj}{es:Array (Int×Value)}{ep:Nat}{t:SetTable}{i:Nat}{pl:List Nat}{Q:Option Value->Shared->Prop}(hh:A.handled=none)
  (hI:s.heap.get? I=some (jZ (.ref tp) i a es.size ep)) (htp:s.heap.get? tp=some {cls:=.type "tuple",data:=.seq (pl.map fun i:Nat=>rawInt i).toArray})
  (ho:s.heap.get? a=some o) (hd:o.data=.set es ep t) (G:om led es t) (hp:pl.length<=i)
  (h:∀h',(∀b o,b∉[I]->s.heap.get? b=some o->h'.get? b=some o)->Q none {s with heap:=h'}):wpAny (model prog w) A (pyNext (.ref I)) Q E s:=by
 unfold pyNext;refine zaa (zbG (za0 (name:=Str.ofString "__next__") (CT hI) bi (zaG bi (CT hI) fq ?_ (gk _))));unfold Builtin.«set_iterator.__next__»;refine zaa (show wpAny _ _ (pure (Value.ref I,([]:Te))) _ _ _ from zad ?_);refine zaa (zbi hI rfl ?_);dsimp only;unfold setEntries;refine zaa (zaa (zaA ho hd G.ft (zad ?_)));dsimp only;rw [if_neg (by simp)];refine zaa (zcS htp rfl ?_);dsimp only
 have hq:(pl.map fun i:Nat=>rawInt i).toArray[((i:Nat):Int).toNat]?=none:=by simp;omega
 rw [hq];dsimp only;refine zaa (zbC hI rfl (by simp) ?_);have h1:=zaS (Obj.mapFields (·.setIfInBounds 0 (rawInt 0))) hI rfl;refine zaa (zbC (s:={s with heap:=_}) h1 rfl (by simp) ?_);refine yL (show A.in1.handled=none from hh) fun h' b kp hT=>?_;refine zaa (zbt (T:="StopIteration") (b:=true) hT isSubtype_stop ?_);refine zad (h _ fun b o hb e=>kp b o ?_);have ne:I≠b:=fun q=>hb (by simp [q]);rw [zaw _ _ ne,zaw _ _ ne];exact e
end
def lZ:Slot "set_iterator" "__iter__" "set_iterator.__iter__":=by
 refine .of (owner:="set_iterator") (n:="__iter__") ?_ (by decide) (by decide) (by decide) ?_ ?_
 ·rw [zcq,zbQ];kernel_rfl
 ·first|exact .inl (by decide)|exact .inr (by decide)
 ·rw [isSubtype_type];kernel_rfl
def tz (a:Value):argsOk "set_iterator.__iter__" ⟨[a],[]⟩:=by unfold argsOk;kernel_rfl
def qA:entryFor table "set_iterator.__iter__" = some Builtin.«dict_keyiterator.__iter__» :=
 entryFor_alias (id':="dict_keyiterator.__iter__") (by kernel_rfl) (by first|rfl|decide) (by decide) (by kernel_rfl)
section
variable {prog:Program}{w:World}{A:Around}{E:Tb}{s:Shared}
def xN {I:Addr}{f:Value}{i:Nat}{a:Addr}{n ep:Nat}{Q:Tb}(hI:s.heap.get? I=some (jZ f i a n ep))(h:Q (.ref I) s):wpAny (model prog w) A (pyIter (.ref I)) Q E s:=by refine zcf (CT hI) lZ (zaG lZ (CT hI) qA ?_ (tz _));exact (show wpAny _ _ (ret (.ref I)) _ _ s from zad ⟨_,rfl,"set_iterator",_,CT hI,bi.lookup,h⟩)
end
variable  {prog:Program}{w:World}
abbrev Ln (ord:List (Int×Value))(i:Nat)(x:Value):Prop:=(ord[i]?).map (·.2)=some x
def AH {A:Around}(hh:A.handled=none){led:Bool}{I a:Addr}(hne:a≠I){o:Obj}{es:Array (Int×Value)}{ep:Nat}{t:SetTable}(hd:o.data=.set es ep t)(G:om led es t)
  (ord:List (Int×Value)) (hl:ord.length=es.size) (sl:Nat->Nat)
  (hnx:∀i (s:Shared) A' E' (Q':Option (Value×Nat)->Shared->Prop),i<=es.size->s.heap.get? a=some o->Q' ((ord[i]?).map fun e=>(e.2,sl (i+1))) s->wpAny (model prog w) A' (setNext a (sl i) i ep) Q' E' s) :
  Walks prog w A I [I,a] [I] ord.length (Ln ord) (fun i h=>h.get? I=some (jZ (.int (sl i) 0) i a es.size ep)/\h.get? a=some o) where
 sub:=fun b hb=>by simp at hb;simp [hb]
 frame:=fun _ _ _ st hk=>⟨hk I (by simp) _ st.1,hk a (by simp) _ st.2⟩
 item:=fun i s Q E hi st hQ=>by
  have hx:ord[i]?=some ord[i]:=zao hi;refine Fv (x:=ord[i].2) (sl':=sl (i+1)) st.1 st.2 hd G (fun A' E' Q' q=>hnx i s A' E' Q' (by omega) st.2 (by rw [hx];exact q)) fun h' hI' hs=>?_;refine hQ _ h' s.toks (by simp [Ln,hx]) ⟨hI',hs.extBut a o hne st.2⟩ fun b o hb e=>hs.extBut b o (fun h=>hb (by simp [h])) e
 done:=fun s Q E st hQ=>by
  refine Ks hh st.1 st.2 hd G (fun A' E' Q' q=>hnx _ s A' E' Q' (by omega) st.2 (by rw [zch (by omega)];exact q)) fun h' hk=>hQ h' s.toks hk
 self:=fun _ _ _ _ st hQ=>xN st.1 hQ
def Io {A:Around}(hh:A.handled=none){led:Bool}{I a tp:Addr}(hne:a≠I)(hnt:tp≠I){o:Obj}{es:Array (Int×Value)}{ep:Nat}{t:SetTable}(hd:o.data=.set es ep t)(G:om led es t)
  (pl:List Nat) (hpl:∀p∈pl,p < es.size) :
  Walks prog w A I [I,a,tp] [I] pl.length (Ln (pl.filterMap (es[·]?))) (fun i h=>h.get? I=some (jZ (.ref tp) i a es.size ep)/\h.get? a=some o/\h.get? tp=some {cls:=.type "tuple",data:=.seq (pl.map fun i:Nat=>rawInt i).toArray}) where
 sub:=fun b hb=>by simp at hb;simp [hb]
 frame:=fun _ _ _ st hk=>⟨hk I (by simp) _ st.1,hk a (by simp) _ st.2.1,hk tp (by simp) _ st.2.2⟩
 item:=fun i s Q E hi st hQ=>by
  have hp:pl[i]?=some pl[i]:=zao hi;have hx:es[pl[i]]?=some (es[pl[i]]'(hpl _ (zbB hi))):=zav _
  have hmap:pl.filterMap (es[·]?)=pl.pmap (fun p h=>es[p]'h) hpl:=by
   clear hQ st hp hx hi
   induction pl with
   |nil=>rfl
   |cons p ps ih=>rw [zbu (b:=es[p]'(hpl p (by simp))) (zav _),ih (fun q hq=>hpl q (by simp [hq]))];rfl
  refine CS st.1 st.2.2 st.2.1 hd G hp hx fun h' hI' hs=>?_;refine hQ _ h' s.toks ?_ ⟨hI',hs.extBut a o hne st.2.1,hs.extBut tp _ hnt st.2.2⟩ fun b o hb e=>hs.extBut b o (fun h=>hb (by simp [h])) e;rw [hmap];simp [Ln,hp]
 done:=fun s Q E st hQ=>Fw hh st.1 st.2.2 st.2.1 hd G (zam _) fun h' hk=>hQ h' s.toks hk
 self:=fun _ _ _ _ st hQ=>xN st.1 hQ
def j4 {es:Array (Int×Value)}{pl:List Nat}(h:pl.Perm (List.range es.size)):(pl.filterMap (es[·]?)).Perm es.toList :=
 (h.filterMap _).trans (by rw [filterMap_getElem?_range])
def wX {es:Array (Int×Value)}{pl:List Nat}(h:pl.Perm (List.range es.size)):(pl.filterMap (es[·]?)).length=pl.length:=by rw [(j4 h).length_eq,h.length_eq];simp
def o7 (t:SetTable)(i:Nat):Nat:=if h:0 < i/\i<=t.place.size then t.place[i - 1]'(by omega)+1 else 0
section
variable {prog:Program}{w:World}{A:Around}{E:Tb}{s:Shared}
def CQ {a:Addr}{o:Obj}{es:Array (Int×Value)}{ep:Nat}{t:SetTable}{Q:Tb}(ho:s.heap.get? a=some o)(hx:o.ExactSet)(hd:o.data=.set es ep t)(G:om (!bt w) es t)
  (h:∀(h':Heap) (d:Drawn) (I:Addr) (fp:Tf) (St:Nat->Heap->Prop) (ord:List (Int×Value)),(∀A',A'.handled=none->Walks prog w A' I fp [I] ord.length (Ln ord) St)->St 0 h'->(∀b∈fp,b=a\/s.heap.objs.size<=b) ->
   (∀b o,s.heap.get? b=some o->h'.get? b=some o)->s.heap.objs.size<=I->ord.Perm es.toList->Q (.ref I) {s with heap:=h',drawn:=d}) :
  wpAny (model prog w) A (pyIter (.ref a)) Q E s:=by
 have hlt:=zah ho;have hT:s.TypeIs (.ref a) "set":=⟨o,ho,hx.1⟩
 have hpz:t.place.size=es.size:=by have:=G.ft;simp [fits] at this;exact this.1
 refine zcf hT F.slot_set_iter (zaG F.slot_set_iter hT sS ?_ (F.args_set_iter_1 _));unfold Builtin.«frozenset.__iter__» Builtin.Frozenset.slot0 Builtin.Frozenset.sizeOf;refine zaa (zaa (show wpAny _ _ (pure (Value.ref a,([]:Te))) _ _ _ from zad (show wpAny _ _ (pure a) _ _ _ from zad ?_)));unfold setEntries;refine zaa (zaa (zaa (zaA ho hd G.ft (zad (zad ?_)))));dsimp only;unfold setDrawn setsByText;refine zaa (zaa (zaA ho hd G.ft (zaa (zaa (zbm (zad (zad ?_)))))));dsimp only;split
 ·rename_i hc
  have hdr:(!bt w && (!t.plain && decide (es.size > 1)))=true:=hc;simp only [za4] at hdr;refine zaa (F9 es.size (List.range es.size) _ _ (by simp) fun pl d hp=>?_);unfold newTuple;refine zaa (zaF ?_ (show (pl.map fun i:Nat=>rawInt i).toArray.size<=sizeLine by have:=fits_of_scanBound G.bd;rw [zaq,zag,hp.length_eq,List.length_range];exact this));unfold setEpoch;refine zaa (zaa (zaA (zae _ ho) hd G.ft (zad ?_)));unfold newFields;refine zaa (zaF (zad ⟨_,rfl,"set_iterator",_,⟨_,zal _ rfl,rfl⟩,bi.lookup,?_⟩));have hz:(s.heap.push {cls:=.type "tuple",data:=.seq (pl.map fun i:Nat=>rawInt i).toArray}).objs.size=s.heap.objs.size+1:=zaY ..;refine h _ d _ [_,a,s.heap.objs.size] _ (pl.filterMap (es[·]?)) (fun A' hA=>by rw [wX hp];exact Io hA (I:=(s.heap.push {cls:=.type "tuple",data:=.seq (pl.map fun i:Nat=>rawInt i).toArray}).objs.size) (tp:=s.heap.objs.size) (by rw [hz];exact zap (zbo hlt)) (by rw [hz];exact zap (zbL _)) hd G pl (fun p hp'=>by simpa using hp.mem_iff.mp hp')) ?_ ?_ ?_ ?_ (j4 hp)
  ·exact ⟨zal _ rfl,zae _ (zae _ ho),zae _ (zal _ rfl)⟩
  ·intro b hb
   simp only [zak,zaQ,or_false] at hb;rcases hb with rfl|rfl|rfl
   ·right;rw [hz];exact zbP _
   ·left;rfl
   ·right;exact zam _
  ·exact fun b o e=>zae _ (zae _ e)
  ·rw [hz];exact zbP _
 ·rename_i hc
  have hdr:¬ (!bt w && (!t.plain && decide (es.size > 1)))=true:=hc;refine zaa (zad ?_);unfold setEpoch;refine zaa (zaa (zaA ho hd G.ft (zad ?_)));unfold newFields;refine zaa (zaF (zad ⟨_,rfl,"set_iterator",_,⟨_,zal _ rfl,rfl⟩,bi.lookup,?_⟩));have kp:∀b o,s.heap.get? b=some o->(s.heap.push (jZ (.int ((0:Nat):Int) 0) 0 a es.size ep)).get? b=some o:=fun b o e=>zae _ e
  have fpo:∀b∈[s.heap.objs.size,a],b=a\/s.heap.objs.size<=b:=fun b hb=>by
   simp only [zak,zaQ,or_false] at hb;rcases hb with rfl|rfl
   ·right;exact zam _
   ·left;rfl
  cases hb:bt w with
  |true =>
   refine h _ s.drawn _ [s.heap.objs.size,a] _ (pickOrder (w.params.setOrder a ep) es).toList (fun A' hA=>AH hA (zap hlt) hd G _ (by have:=(mQ (w.params.setOrder a ep) es).length_eq;simpa using this) (fun _=>0) ?_) ⟨zal _ rfl,kp _ _ ho⟩ fpo kp (zam _) (mQ _ _);intro i s' A' E' Q' hi ho' q;exact zI hb ho' hd G (by rw [zbq] at q;exact q)
  |false =>
   rw [hb] at hdr G
   have hdr':(!t.plain && decide (es.size > 1))=false:=by simpa using hdr
   refine h _ s.drawn _ [s.heap.objs.size,a] _ es.toList (fun A' hA=>AH hA (zap hlt) hd G es.toList (by simp) (o7 t) ?_) ⟨zal _ rfl,kp _ _ ho⟩ fpo kp (zam _) (List.Perm.refl _);intro i s' A' E' Q' hi ho' q
   have e1:o7 t i=(if h:0 < i then t.place[i - 1]'(by omega)+1 else 0):=by
    by_cases h0:0 < i
    ·unfold o7;rw [dif_pos ⟨h0,by omega⟩,dif_pos h0]
    ·unfold o7;rw [dif_neg (fun h=>h0 h.1),dif_neg h0]
   rw [e1];refine wC hb rfl ho' hd G hdr' hi hpz ?_
   by_cases hlt:i < es.size
   ·rw [dif_pos hlt]
    rw [zbq,zav hlt] at q;simp only [zbp] at q;unfold o7 at q;rw [dif_pos ⟨by omega,by omega⟩] at q;exact q
   ·rw [dif_neg hlt]
    rw [zch (by simp;omega)] at q;exact q
theorem Gm {ord:List (Int×Value)}{acc:Ti}(h:ItemsOf (Ln ord) acc ord.length):acc.toList=ord.map (·.2):=by
 refine List.ext_getElem? fun i=>?_;rw [zaE,zbq];rcases zc0 i ord.length with hi|hi
 ·have hs:i < acc.size:=by rw [h.1];exact hi
  have:=h.2 i acc[i] (zav hs);rw [zav hs];exact this.symm
 ·rw [zch hi,zb9 (by rw [h.1];exact hi)];rfl
theorem Ch {ord:List (Int×Value)}(h:∀e∈ord,Lf e):IntsAre (ord.map (·.2)) (ord.map val):=by
 induction ord with
 |nil=>exact .nil
 |cons e r ih =>
  obtain ⟨n,t,rfl⟩:=h _ (zan ..);exact .cons n t (ih fun e he=>h e (zaj _ he))
def C2 {a : Addr} {Q : Bool -> Shared -> Prop} (hT : s.TypeIs (.ref a) "set") (h : Q false s) : wpAny (model prog w) A (listLengthHint (.ref a)) Q E s := by
  unfold listLengthHint
  refine zaa (zcH hT F.slot_set_len.lookup ?_)
  have hsp : splitId "set.__len__" = some ("set", "__len__") := by decide
  simp only [hsp]
  refine zaa (zbt hT sub_set_self ?_)
  simp only [zbn, zas, ↓reduceIte]
  refine (show wpAny _ _ (do let .ref _ ← typeOf (Value.ref a) | return false
                             let some k ← asInt? (← call (.builtin "len") [.ref a]) | unsupported "internal:len-gave-no-int"
                             return k != 0) _ _ _ from zaa (zbs hT (zad h)))
def Av {a:Addr}{o:Obj}{es:Array (Int×Value)}{ep:Nat}{t:SetTable}{Q:List Value->Shared->Prop}(hh:A.handled=none)(ho:s.heap.get? a=some o)(hx:o.ExactSet)(hd:o.data=.set es ep t)(G:om (!bt w) es t)
  (h:∀(ord:List (Int×Value)) (h':Heap) (d:Drawn) (tk:Nat),ord.Perm es.toList->(∀b o,s.heap.get? b=some o->h'.get? b=some o)->s.toks<=tk->s.heap.objs.size<=h'.objs.size->Q (ord.map (·.2)) {s with heap:=h',drawn:=d,toks:=tk}) :
  wpAny (model prog w) A (collect (.ref a)) Q E s:=by
 have hlt:=zah ho;unfold collect;refine zaa (zcR (zaW F.entry_proto_collect ?_));rw [zaX F.plain_proto_collect _];refine (show wpAny _ A.in1 (newList [] >>= fun l=>again (.builtin "list.__iadd__" ⟨[l,.ref a],[]⟩)) _ _ s from zaa (zaF ?_));refine zad ⟨zbw F.plain_list_iadd _,zaW F.entry_list_iadd ?_⟩;rw [zaX F.plain_list_iadd _];refine (show wpAny _ A.in1 (listExtendWith (.ref s.heap.objs.size) (.ref a) (.ref s.heap.objs.size)) _ _ _ from ?_);unfold listExtendWith;have ho1:(s.heap.push {cls:=.type "list",data:=.seq ([]:Te).toArray}).get? a=some o:=zae _ ho;have hT:Shared.TypeIs {s with heap:=s.heap.push {cls:=.type "list",data:=.seq ([]:Te).toArray}} (.ref a) "set":=⟨o,ho1,hx.1⟩;refine zaa (zbs hT ?_)
 have h1:listSameRef (.ref s.heap.objs.size) (.ref a)=false:=by simp [listSameRef,zaV hlt]
 simp only [h1,show (Value.type "set" == Value.type "list")=false by decide,show (Value.type "set" == Value.type "tuple")=false by decide,Bool.or_false,zas,if_false];refine zaa (CQ ho1 hx hd G fun h1 d I fp St ord W st hfp kp hI hord=>?_);have hTa:Shared.TypeIs {s with heap:=h1,drawn:=d} (.ref a) "set":=⟨o,kp _ _ ho1,hx.1⟩;refine zaa (zaI (C2 hTa ?_))
 refine (show wpAny _ A.in1 (rule "list.extend.makes-room" >>= fun _=>listTouch (.ref s.heap.objs.size) >>= fun _ =>
  again (.builtin "list.extend.loop" ⟨[.ref s.heap.objs.size,.ref I,.ref s.heap.objs.size],[]⟩)) _ _ _ from zaa (zbO (zaa ?_)))
 have hL:h1.get? s.heap.objs.size=some {cls:=.type "list",data:=.seq ([]:Te).toArray}:=kp _ _ (zal _ rfl);have hsz:(s.heap.push {cls:=.type "list",data:=.seq ([]:Te).toArray}).objs.size=s.heap.objs.size+1:=zaY ..
 have hSf:s.heap.objs.size∉fp:=fun hm=>by
  rcases hfp _ hm with e|e
  ·exact zaP _ (e ▸ hlt)
  ·rw [hsz] at e;exact zaP _ e
 refine (show wpAny _ A.in1 (updateSeq s.heap.objs.size (·.push .none) >>= fun _=>updateSeq s.heap.objs.size (·.pop)) _ _ _ from zaa (zcK hL rfl ?_));have hL2:=zaS (Obj.mapSeq (·.push Value.none)) hL rfl;refine zcK (s:={s with heap:=_,drawn:=d}) hL2 rfl ?_;have hL3:=zaS (Obj.mapSeq (·.pop)) hL2 rfl
 have oth:∀b o,b≠s.heap.objs.size->h1.get? b=some o->((h1.update s.heap.objs.size (Obj.mapSeq (·.push Value.none))).update s.heap.objs.size (Obj.mapSeq (·.pop))).get? b=some o :=
  fun b o hb e=>(zaw _ _ (Ne.symm hb)).trans ((zaw _ _ (Ne.symm hb)).trans e)
 have W1:=W A.in1 (show A.in1.handled=none from hh)
 have hol:ord.length=es.size:=by have:=hord.length_eq;simpa using this
 refine zad ⟨zbw F.plain_extend_loop _,codeAny_extend_loopS W1.toS (by rw [hol];exact fits_of_scanBound G.bd) _ hSf _ ord.length 0 _ _ _ rfl (zbd _)
  (W1.frame 0 h1 _ st fun b hb o e=>oth b o (fun q=>hSf (q ▸ hb)) e) hL3 (ItemsOf.nil _) fun s' acc c hm hS' hacc=>?_⟩
 refine (show wpAny _ A (load s.heap.objs.size >>= _) _ _ s' from zaa (wpAny_load hS' ?_));dsimp only;obtain ⟨h',g',d',tk',os'⟩:=s';have eg:g'=s.gens:=hm.gens;have ed:d'=d:=hm.drawn;have eo:os'=s.os:=hm.os;subst eg;subst ed;subst eo;refine zad ?_;rw [Gm hacc];refine h ord h' d' tk' hord (fun b o e=>hm.heap b o (fun hb=>?_) (oth b o (fun q=>?_) (kp _ _ (zae _ e)))) hm.toks (zbD (zah hS'))
 ·have hb1:=zah e
  simp only [zak,zaQ,or_false] at hb;rcases hb with q|q
  ·exact zaP _ (q ▸ hb1)
  ·rw [hsz,←q] at hI;exact zaP _ (zax hb1 (Nat.le_of_succ_le hI))
 ·exact zaP _ (q ▸ zah e)
def vj {a:Addr}{o:Obj}{xs:Th}{Q:List Value->Shared->Prop}(hh:A.handled=none)(ho:s.heap.get? a=some o)(hS:c7 (!bt w) o xs)
  (h:∀(vs:Te) (ns:Th) (h':Heap) (d:Drawn) (tk:Nat),IntsAre vs ns->ns.Perm xs->(∀b o,s.heap.get? b=some o->h'.get? b=some o)->s.toks<=tk->s.heap.objs.size<=h'.objs.size->Q vs {s with heap:=h',drawn:=d,toks:=tk}) :
  wpAny (model prog w) A (collect (.ref a)) Q E s:=by
 obtain ⟨es,ep,t,hx,hd,G⟩:=hS;exact Av hh ho hx hd G.w fun ord h' d tk hord k1 k2 k3=>h _ _ h' d tk (Ch fun e he=>G.el e (hord.mem_iff.mp he)) ((hord.map val).trans G.pm) k1 k2 k3
def wb {a:Addr}{o:Obj}{xs:Th}{Q:Tb}(hh:A.handled=none)(ho:s.heap.get? a=some o)(hS:c7 (!bt w) o xs)(h64:xs.length < 64)
  (h:∀(out:Ti) (ns:Th) (h':Heap) (d:Drawn) (tk:Nat) (l:Addr) (c:Nat),IntsAre out.toList ns->ns.Perm xs->ns.Pairwise (·<=·)->(∀b o,s.heap.get? b=some o->h'.get? b=some o)->s.toks<=tk ->
   s.heap.objs.size<=l->h'.get? l=some (seqObj "list" out c)->Q (.ref l) {s with heap:=h',drawn:=d,toks:=tk}) :
  wpAny (model prog w) A (call (.builtin "sorted") [.ref a]) Q E s:=by
 refine Calls.call_function_entry kind_sorted plain_sorted entry_sorted (args_sorted1 _) ?_;unfold Builtin.«sorted»;refine zaa (m:=checkCount "sorted" 1 1 _) (zad (zaa (vj (show A.in1.handled=none from hh) ho hS fun vs ns h' d tk hI hp kp ht hge=>?_)))
 have hvl:vs.length=xs.length:=by rw [IntsAre.length hI,hp.length_eq]
 refine zaa (zcZ ?_ (by rw [hvl,za9];omega));have hoL:(h'.push (seqObj "list" vs.toArray 0)).get? h'.objs.size=some (seqObj "list" vs.toArray 0):=zal _ rfl;refine zaa (zaI (zaG (s:={s with heap:=h'.push (seqObj "list" vs.toArray 0),drawn:=d,toks:=tk}) slot_list_sort ⟨_,hoL,rfl⟩ entry_list_sort (list_sort_tree hoL hI (by omega) fun out ns' a1 a2 a3=>⟨_,rfl,?_⟩) (args_list_sort _)))
 obtain ⟨c,hc⟩:∃c,(sortedHeap (h'.push (seqObj "list" vs.toArray 0)) h'.objs.size vs out).get? h'.objs.size=some (seqObj "list" out c):=by
  unfold sortedHeap;obtain ⟨e1,q1⟩:∃e1,((h'.push (seqObj "list" vs.toArray 0)).update h'.objs.size (Obj.mapSeq fun _=>#[])).get? h'.objs.size=some (seqObj "list" #[] e1):=⟨_,get?_update_seq hoL (fun _=>#[])⟩;exact ⟨_,get?_update_seq (zae _ (zae _ q1)) (fun _=>out)⟩
 refine zad ⟨_,rfl,h out ns' _ d tk h'.objs.size c a1 (a2.trans hp) a3 (fun b o e=>?_) ht hge hc⟩;have hb:=kp b o e;have ne:h'.objs.size≠b:=zaV (zah hb);unfold sortedHeap;rw [zaw _ _ ne];refine zae _ (zae _ ?_);rw [zaw _ _ ne];exact zae _ hb
end
def Be (M i:Nat):Nat:=(i * 5+1) % M
def DZ (M:Nat):Nat->Nat->Nat
 |0,i=>i
 |t+1,i=>DZ M t (Be M i)
theorem oE (M:Nat):∀s t i,DZ M (s+t) i=DZ M t (DZ M s i)
 |0,t,i=>by rw [zci];rfl
 |s+1,t,i=>by rw [Nat.succ_add];exact oE M s t _
def eC:List Nat:=[7,15,31,63,127,255]
def Ci:∀m∈eC,DZ (m+1) (m+1) 0=0:=by decide
def uA:∀m∈eC,∀j < m+1,∃t < m+1,DZ (m+1) t 0=j:=by
 have:∀m∈eC,∀j < m+1,((List.range (m+1)).any fun t=>DZ (m+1) t 0 == j)=true:=by decide
 intro m hm j hj;obtain ⟨t,ht,e⟩:=zbX.mp (this m hm j hj);exact ⟨t,by simpa using ht,by simpa using e⟩
def Fb {m:Nat}(hm:m∈eC){i j:Nat}(hi:i < m+1)(hj:j < m+1):∃t < m+1,DZ (m+1) t i=j:=by
 obtain ⟨s,hs,rfl⟩:=uA m hm i hi;obtain ⟨t,ht,rfl⟩:=uA m hm j hj;rcases zc0 t s with h|h
 ·refine ⟨m+1 - s+t,by omega,?_⟩;rw [←oE,show s+(m+1 - s+t)=(m+1)+t by omega,oE,Ci m hm]
 ·refine ⟨t - s,by omega,?_⟩;rw [←oE,show s+(t - s)=t by omega]
theorem pM (m:Nat)(owner:Array (Option Nat)):∀fuel i p r,layClean.free m owner fuel i p=some r->owner[r]?=some none
 |0,i,p,r,e=>by simp [layClean.free] at e
 |fuel+1,i,p,r,e=>by
  unfold layClean.free at e;split at e
  ·rename_i k hk
   cases e;have:=List.find?_some hk;simp only [Array.getD] at this
   split at this
   ·rename_i hlt;rw [zav hlt];simpa using this
   ·simp at this
  ·exact pM m owner fuel _ _ r e
def ly (m:Nat):Nat->Nat->Nat->Nat×Nat
 |0,i,p=>(i,p)
 |t+1,i,p=>ly m t (leap m i p).1 (leap m i p).2
theorem q8 (m:Nat)(owner:Array (Option Nat)):∀fuel i p,layClean.free m owner fuel i p=none->∀t < fuel,owner[(ly m t i p).1]?≠some none
 |0,i,p,_,t,ht=>by omega
 |fuel+1,i,p,e,t,ht=>by
  unfold layClean.free at e;split at e
  ·cases e
  ·rename_i hk
   cases t with
   |zero =>
    intro hq;have h0:=List.find?_eq_none.mp hk 0 (by have:i<=runEnd m i:=(by unfold runEnd;split <;> omega);simp;omega)
    simp only [ly] at hq;obtain ⟨hlt,hq⟩:=Array.getElem?_eq_some_iff.mp hq;simp [Array.getD,hlt,hq] at h0
   |succ t=>exact q8 m owner fuel _ _ e t (by omega)
theorem Bp (m:Nat):∀t i p,(ly m t i p).2=p / 32 ^ t
 |0,i,p=>by simp [ly]
 |t+1,i,p=>by unfold ly;rw [Bp m t];simp only [leap];rw [Nat.div_div_eq_div_mul,Nat.pow_succ,Nat.mul_comm]
theorem t9 (m:Nat):∀s t i p,ly m (s+t) i p=ly m t (ly m s i p).1 (ly m s i p).2
 |0,t,i,p=>by rw [zci];rfl
 |s+1,t,i,p=>by rw [Nat.succ_add];exact t9 m s t _ _
theorem qL (m:Nat):∀t i,(ly m t i 0).1=DZ (m+1) t i
 |0,i=>rfl
 |t+1,i=>by
  have e:leap m i 0=(Be (m+1) i,0):=by simp [leap,Be]
  unfold ly DZ;rw [e];exact qL m t _
theorem xO (m:Nat):∀t i p,i < m+1->(ly m t i p).1 < m+1
 |0,i,p,h=>h
 |t+1,i,p,h=>xO m t _ _ (Nat.mod_lt _ (by omega))
theorem FM {m:Nat}(hm:m∈eC){owner:Array (Option Nat)}(h:Int){j:Nat}(hj:j < m+1)(hf:owner[j]?=some none) :
  ∃r,layClean.free m owner (turns m) (bits h % (m+1)) (bits h)=some r/\owner[r]?=some none:=by
 cases e:layClean.free m owner (turns m) (bits h % (m+1)) (bits h) with
 |some r=>exact ⟨r,rfl,pM m owner _ _ _ r e⟩
 |none =>
  exfalso
  have hn:=q8 m owner _ _ _ e
  have hb:bits h < 2 ^ 64:=by
   unfold bits;have:=zcW h (show (0:Int) < 2 ^ 64 by decide);have:=zc7 h (show (2 ^ 64:Int)≠0 by decide);omega
  have hp:(ly m 13 (bits h % (m+1)) (bits h)).2=0:=by
   rw [Bp];exact Nat.div_eq_of_lt (zcg hb (by decide))
  have hi:(ly m 13 (bits h % (m+1)) (bits h)).1 < m+1:=xO m _ _ _ (Nat.mod_lt _ (by omega));obtain ⟨t,ht,e⟩:=Fb hm hi hj;refine hn (13+t) (by unfold turns;omega) ?_;rw [t9,hp,qL,e];exact hf
def fO (M:Nat)(owner:Array (Option Nat)):List (Nat×Nat):=(List.range M).filterMap fun j=>(owner.getD j none).map (j,·)
theorem yz {Z β:Type}{f g:Z->Option β}:∀{l:List Z},(∀y∈l,g y=f y)->l.filterMap g=l.filterMap f
 |[],_=>rfl
 |x::l,h=>by have ih:=yz (l:=l) fun y hy=>h y (by simp [hy]);simp only [zcn,h x (by simp),ih]
theorem C7 {f g:Nat->Option (Nat×Nat)}{j:Nat}{v:Nat×Nat}(hf:f j=none)(hg:g j=some v)(hx:∀x,x≠j->g x=f x):∀{l:List Nat},l.Nodup->j∈l->(l.filterMap g).Perm (v::l.filterMap f)
 |[],_,h=>by simp at h
 |x::l,hn,h=>by
  obtain ⟨h1,h2⟩:=zaL.mp hn;by_cases e:x=j
  ·subst e;have:l.filterMap g=l.filterMap f:=yz fun y hy=>hx y fun z=>h1 (z ▸ hy);rw [zbu hg,zbY hf,this]
  ·have hj:j∈l:=by
    rcases zak.mp h with q|q
    ·exact absurd q.symm e
    ·exact q
   have ih:=C7 hf hg hx h2 hj
   cases q:f x with
   |none=>rw [zbY (by rw [hx x e];exact q),zbY q];exact ih
   |some u =>
    rw [zbu (by rw [hx x e];exact q),zbu q];exact (ih.cons u).trans (.swap _ _ _)
theorem CC {M k r:Nat}{owner:Array (Option Nat)}(hs:owner.size=M)(hr:owner[r]?=some none):(fO M (owner.setIfInBounds r (some k))).Perm ((r,k)::fO M owner):=by
 obtain ⟨hlt,hq⟩:=Array.getElem?_eq_some_iff.mp hr;refine C7 (j:=r) (v:=(r,k)) ?_ ?_ ?_ List.nodup_range (zbV.mpr (by omega))
 ·simp [Array.getD,hlt,hq]
 ·simp [Array.getD,hlt]
 ·intro x hx;simp only [Array.getD,Array.size_setIfInBounds];split
  ·rename_i h;have e:(owner.setIfInBounds r (some k))[x]'(by simpa using h)=owner[x]:=Array.getElem_setIfInBounds_ne _ (Ne.symm hx);exact congrArg _ e
  ·rfl
def zM {M:Nat}{owner:Array (Option Nat)}(hs:owner.size=M)(h:∀j < M,owner[j]?≠some none):(fO M owner).length=M:=by
 have:∀l:List Nat,(∀j∈l,j < M)->(l.filterMap fun j=>(owner.getD j none).map (j,·)).length=l.length:=by
  intro l;induction l with
  |nil=>intro _;rfl
  |cons x l ih =>
   intro hl;have hx:=hl x (by simp);have hlt:x < owner.size:=by omega
   cases q:owner[x] with
   |none=>exact absurd (by rw [zav hlt,q]) (h x hx)
   |some v =>
    rw [zbu (b:=(x,v)) (by simp [Array.getD,hlt,q])];rw [zaB,ih fun j hj=>hl j (by simp [hj]),zaB]
 have:=this (List.range M) (by simp);simpa [fO] using this
theorem yy {m:Nat}(hm:m∈eC):∀(hs:Th) (owner:Array (Option Nat)) (k:Nat),owner.size=m+1->((fO (m+1) owner).map (·.2)).Perm (List.range k)->k+hs.length<=m+1 ->
  ∃owner',(hs.foldl (init:=some (owner,k)) fun acc h=>do
   let (owner,k) ←acc
   let j ←layClean.free m owner (turns m) (bits h % (m+1)) (bits h)
   pure (owner.setIfInBounds j (some k),k+1))=some (owner',k+hs.length)/\owner'.size=m+1/\((fO (m+1) owner').map (·.2)).Perm (List.range (k+hs.length))
 |[],owner,k,h1,h2,h3=>⟨owner,by simp,h1,by simpa using h2⟩
 |h::hs,owner,k,h1,h2,h3=>by
  have hex:∃j,j < m+1/\owner[j]?=some none:=by
   refine Classical.byContradiction fun hc=>?_;have:=zM h1 fun j hj q=>hc ⟨j,hj,q⟩;have h4:=h2.length_eq;simp at h4 h3;omega
  obtain ⟨j,hj,hf⟩:=hex;obtain ⟨r,e,hr⟩:=FM hm h hj hf
  have ih:=yy hm hs (owner.setIfInBounds r (some k)) (k+1) (by simpa using h1) (by
   refine ((CC h1 hr).map (·.2)).trans ?_;rw [zaf,List.range_succ]
   exact (h2.cons k).trans (List.perm_append_singleton k _).symm) (by simp at h3;omega)
  obtain ⟨o',e1,e2,e3⟩:=ih;refine ⟨o',?_,e2,?_⟩
  ·rw [zbl]
   simp only [bind,Option.bind,e,pure];rw [show k+(h::hs).length=k+1+hs.length by simp;omega];exact e1
  ·rw [show k+(h::hs).length=k+1+hs.length by simp;omega];exact e3
theorem DF {m:Nat}(hm:m∈eC)(hs:Array Int)(hl:hs.size<=m+1):∃owner,layClean m hs=some owner/\owner.size=m+1/\((fO (m+1) owner).map (·.2)).Perm (List.range hs.size):=by
 obtain ⟨o,e1,e2,e3⟩:=yy hm hs.toList (Array.replicate (m+1) none) 0 (by simp) (by
  have:fO (m+1) (Array.replicate (m+1) none)=[]:=by unfold fO;rw [List.filterMap_eq_nil_iff];intro j hj;simp at hj;simp [Array.getD,hj]
  rw [this];exact .refl _) (by simpa using hl)
 refine ⟨o,?_,e2,by simpa using e3⟩;unfold layClean;rw [←Array.foldl_toList,e1];rfl
def Fn {m finger moves:Nat}{led plain:Bool}(hm:m∈eC)(hs:Array Int)(hl:hs.size<=m) :
  ∃t o,laid m finger moves led plain hs=some (t,o)/\o.toList.Perm (List.range hs.size)/\t.fits hs.size=true/\t.place.toList.Pairwise (· < ·)/\t.led=led/\t.plain=plain/\t.mask=m/\t.dummies = #[]/\t.place.size=hs.size:=by
 obtain ⟨owner,e,e2,e3⟩:=DF hm hs (by omega)
 have hlen:(fO (m+1) owner).length=hs.size:=by have:=e3.length_eq;simpa using this
 have hlaid:laid m finger moves led plain hs=some (({mask:=m,place:=((fO (m+1) owner).map (·.1)).toArray,dummies:=#[],finger,led,moves,plain}:SetTable),((fO (m+1) owner).map (·.2)).toArray):=by
  unfold laid;rw [e];rfl
 refine ⟨_,_,hlaid,by simpa using e3,?_,(lF hlaid).1,rfl,rfl,rfl,rfl,by simpa using hlen⟩;simp [fits,SetTable.fill,hlen];omega
def DQ:∀n < 256,sizeAbove n - 1∈eC/\n < sizeAbove n/\sizeAbove n<=256:=by decide
def cU.perm {led:Bool}{es:Array (Int×Value)}{t:SetTable}{xs ys:Th}(g:cU led es t xs)(p:xs.Perm ys):cU led es t ys :=
 ⟨g.el,g.pm.trans p,p.nodup_iff.mp g.nd,g.bd,g.ft,g.rs,g.ld⟩
def cU.place {led:Bool}{es:Array (Int×Value)}{t:SetTable}{xs:Th}(g:cU led es t xs):t.place.size=es.size/\t.fill<=t.mask:=by have:=g.ft;simp [fits] at this;exact this
section
variable {prog:Program}{w:World}{A:Around}{E:Tb}{s:Shared}
def uJ {led l' plain:Bool}{es:Array (Int×Value)}{t:SetTable}{xs:Th}(G:cU led es t xs){m finger moves:Nat}(hm:m∈eC)(hl:xs.length<=m)(hl':l'=led) :
  ∃t' o,laid m finger moves l' plain (es.map (·.1))=some (t',o)/\cU led (o.filterMap (es[·]?)) t' xs/\(o.filterMap (es[·]?)).size=es.size/\t'.mask=m/\t'.dummies = #[]:=by
 have hz:=c7.len G;obtain ⟨t',o,e,h1,h2,h3,h4,h5,h6,h7,h8⟩:=Fn (finger:=finger) (moves:=moves) (led:=l') (plain:=plain) hm (es.map (·.1)) (by rw [Array.size_map];omega);rw [Array.size_map] at h1 h2 h8
 have hp:(o.filterMap (es[·]?)).toList.Perm es.toList:=by rw [Array.toList_filterMap];exact j4 h1
 have hsz:(o.filterMap (es[·]?)).size=es.size:=by have:=hp.length_eq;rwa [za8,za8] at this
 exact ⟨t',o,e,⟨fun x hx=>G.el x (hp.mem_iff.mp hx),(hp.map val).trans G.pm,G.nd,by rw [hsz];exact G.bd,by rw [hsz];exact h2,fun _=>h3,h4.trans hl'⟩,hsz,h6,h7⟩
def Bv {led:Bool}{a:Addr}{o:Obj}{es:Array (Int×Value)}{ep:Nat}{t:SetTable}{xs:Th}{wanted:Nat}{Q:Unit->Shared->Prop}(ho:s.heap.get? a=some o)(hx:o.ExactSet)(hd:o.data=.set es ep t)(G:cU led es t xs)(hw:wanted < 256)(hl:xs.length<=wanted)
  (h:∀h' es' t',Heap.SameBut a s.heap h'->h'.get? a=some {o with data:=.set es' (ep+1) t'}->cU led es' t' xs->t'.mask∈eC->wanted<=t'.mask->t'.dummies = #[]->Q () {s with heap:=h'}) :
  wpAny (model prog w) A (setRelay a wanted) Q E s:=by
 obtain ⟨m1,m2,m3⟩:=DQ wanted hw;unfold setRelay;refine zaa (zaA ho hd G.ft ?_);dsimp only;rw [if_neg (by rw [za9];omega)];obtain ⟨t',ord,e,G',hsz,hm,hdm⟩:=uJ (l':=t.led) (plain:=t.plain) (finger:=t.finger) (moves:=t.movedTo (sizeAbove wanted - 1)) G m1 (by omega) G.ld;have e':t.relaid (es.map (·.1)) wanted=some (t',ord):=e;rw [e'];refine zaa (show wpAny _ _ (if ((ord.filterMap (es[·]?)).size != es.size)=true then (do unsupported "internal:set-table-lost-an-element";pure (ord.filterMap (es[·]?),t')) else pure (ord.filterMap (es[·]?),t')) _ _ _ from ?_);rw [if_neg (by simp [hsz])];refine zad (et ho hx hd G'.bd fun h' b1 g1=>?_);exact h h' _ t' b1 g1 G' (by rw [hm];exact m1) (by rw [hm];omega) hdm
def Ev {led:Bool}{a:Addr}{o:Obj}{es:Array (Int×Value)}{ep:Nat}{t:SetTable}{xs:Th}{more:Nat}{Q:Unit->Shared->Prop}(ho:s.heap.get? a=some o)(hx:o.ExactSet)(hd:o.data=.set es ep t)(G:cU led es t xs)(hw:xs.length+more < 128)
  (h:∀h' es' ep' t',Heap.SameBut a s.heap h'->h'.get? a=some {o with data:=.set es' ep' t'}->cU led es' t' xs->((t'=t/\(t.fill+more) * 5 < t.mask * 3)\/(t'.mask∈eC/\xs.length+more<=t'.mask/\t'.dummies = #[]))->Q () {s with heap:=h'}) :
  wpAny (model prog w) A (setRoomFor a more) Q E s:=by
 have hz:=c7.len G;have hpl:=G.place;unfold setRoomFor;refine zaa (zaA ho hd G.ft ?_);dsimp only;unfold roomFor
 by_cases hc:(t.fill+more) * 5 >= t.mask * 3
 ·rw [if_pos hc]
  dsimp only;refine Bv ho hx hd G (by omega) (by omega) fun h' es' t' b g G' m1 m2 m3=>h h' es' _ t' b g G' (.inr ⟨m1,by omega,m3⟩)
 ·rw [if_neg hc]
  dsimp only;refine zad ?_
  have e:s={s with heap:=s.heap}:=by cases s;rfl
  have hoo:s.heap.get? a=some {o with data:=.set es ep t}:=by rw [ho];obtain ⟨c1,c2,c3,c4⟩:=o;simp only at hd;subst hd;rfl
  rw [e];exact h s.heap es ep t (Heap.SameBut.refl a s.heap) hoo G (.inl ⟨rfl,by omega⟩)
end
def zC {xs ys:Th}(p:xs.Perm ys)(k:Int):(cI xs k).Perm (cI ys k):=by
 unfold cI;by_cases h:k∈xs
 ·rw [if_pos h,if_pos (p.mem_iff.mp h)];exact p
 ·rw [if_neg h,if_neg (fun q=>h (p.mem_iff.mpr q))];exact p.append (.refl _)
def zB (xs:Th)(a b:Int):(cI (cI xs a) b).Perm (cI (cI xs b) a):=by
 have h1:∀x k,k∈cI xs x ↔ k∈xs\/k=x:=fun x k=>by
  unfold cI;split
  ·rename_i h;exact ⟨.inl,fun q=>q.elim id fun e=>e ▸ h⟩
  ·simp
 by_cases ha:a∈xs
 ·by_cases hb:b∈xs
  ·simp [cI,ha,hb]
  ·simp [cI,ha,hb]
 ·by_cases hb:b∈xs
  ·simp [cI,ha,hb]
  ·by_cases e:a=b
   ·subst e;exact .refl _
   ·have e1:cI (cI xs a) b=xs++([a]++[b]):=by
     have:b∉xs++[a]:=by simp [hb,Ne.symm e]
     rw [show cI xs a=xs++[a] by simp [cI,ha]];unfold cI;rw [if_neg this,zbb]
    have e2:cI (cI xs b) a=xs++([b]++[a]):=by
     have:a∉xs++[b]:=by simp [ha,e]
     rw [show cI xs b=xs++[b] by simp [cI,hb]];unfold cI;rw [if_neg this,zbb]
    rw [e1,e2];exact (List.Perm.refl xs).append (.swap _ _ _)
theorem qS:∀{ns:Th} {xs ys:Th},xs.Perm ys->(aG xs ns).Perm (aG ys ns)
 |[],_,_,p=>p
 |n::ns,_,_,p=>qS (ns:=ns) (zC p n)
theorem Cw {ns ms:Th}(p:ns.Perm ms):∀(xs:Th),(aG xs ns).Perm (aG xs ms):=by
 induction p with
 |nil=>exact fun _=>.refl _
 |cons x _ ih=>exact fun xs=>ih _
 |swap x y l=>exact fun xs=>qS (zB xs y x)
 |trans _ _ h1 h2=>exact fun xs=>(h1 xs).trans (h2 xs)
def yl {ns:Th}(h:ns.Nodup):(aG [] ns).Perm ns:=by
 have:∀{es acc:Th},(acc++es).Nodup->aG acc es=acc++es:=by
  intro es;induction es with
  |nil=>intro acc _;simp [aG]
  |cons e es ih =>
   intro acc h;have hn:e∉acc:=fun he=>by rw [zbc] at h;exact h.2.2 e he e (by simp) rfl
   have:=ih (acc:=acc++[e]) (by simpa using h);simp only [aG,zbl,cI,if_neg hn] at this ⊢;rw [this];simp
 rw [this (by simpa using h)];simp
theorem kH:∀(ns xs:Th),(aG xs ns).length<=xs.length+ns.length
 |[],xs=>by simp [aG]
 |n::ns,xs=>by have h1:=kH ns (cI xs n);have h2:=pz xs n;simp only [aG,zbl,zaB] at h1 ⊢;omega
section
variable {prog:Program}{w:World}{A:Around}{E:Tb}{s:Shared}
def FP {led:Bool}{r:Addr}{or oo:Obj}{es eo:Array (Int×Value)}{ep eq:Nat}{ts to:SetTable}{ys:Th}{Q:Unit->Shared->Prop}(hr:s.heap.get? r=some or)(hxr:or.ExactSet)(hdr:or.data=.set es ep ts)(Gr:cU led es ts [])
  (hm:ts.mask∈eC) (hdm:ts.dummies = #[]) (hl:ys.length<=ts.mask) (hdo:oo.data=.set eo eq to) (Go:cU led eo to ys)
  (h:∀h' o',Heap.SameBut r s.heap h'->h'.get? r=some o'->c7 led o' ys->Q () {s with heap:=h'}) {k:Sem Unit} :
  wpAny (model prog w) A (match ts.road to with
   |.slotForSlot=>storeSet r eo {to with finger:=ts.finger,led:=ts.led && to.led,moves:=ts.moves,plain:=ts.plain && to.plain}
   |.clean=>do
    let (es,t) ←(do
     let some (t,order):=laid ts.mask ts.finger ts.moves (led:=ts.led && to.led) (plain:=ts.plain && to.plain) (eo.map (·.1))|unsupported "internal:set-table-without-room"
     let es':=order.filterMap (eo[·]?)
     if es'.size != eo.size then unsupported "internal:set-table-lost-an-element"
     pure (es',t):Sem (Array (Int×Value)×SetTable))
    storeSet r es t
   |.oneByOne=>k) Q E s:=by
 have hes:es.size=0:=c7.len Gr
 have hpz:ts.place.size=0:=by rw [Gr.place.1,hes]
 have hfill:ts.fill=0:=by unfold SetTable.fill;rw [hpz,hdm];rfl
 have hled:(ts.led && to.led)=led:=by rw [Gr.ld,Go.ld];simp
 unfold road;rw [hfill];simp only [bne_self_eq_false,zas,if_false]
 by_cases hc:(ts.mask == to.mask && to.dummies.isEmpty)=true
 ·rw [if_pos hc]
  refine et hr hxr hdr Go.bd fun h' b g=>h h' _ b g ⟨eo,_,_,hxr,rfl,⟨Go.el,Go.pm,Go.nd,Go.bd,Go.ft,fun hp=>?_,hled⟩⟩;simp only [za4] at hp;exact Go.rs hp.2
 ·rw [if_neg hc]
  dsimp only;obtain ⟨t',ord,e,G',hsz,hm',hdm'⟩:=uJ (l':=ts.led && to.led) (plain:=ts.plain && to.plain) (finger:=ts.finger) (moves:=ts.moves) Go hm hl hled;rw [e];dsimp only;rw [if_neg (by simp [hsz])];refine zaa (zad (et hr hxr hdr G'.bd fun h' b g=>h h' _ b g ⟨_,_,t',hxr,rfl,G'⟩))
def BO {sets:Tf}{Q:Bool->Shared->Prop}(h:∀a∈sets,∃o es ep t,s.heap.get? a=some o/\o.data=.set es ep t/\t.fits es.size=true/\∀e∈es.toList,Lf e)(hQ:Q true s):wpAny (model prog w) A (setsQuiet sets) Q E s:=by
 unfold setsQuiet;refine zaa (wpAny_forIn_list _ (fun rest b s'=>b=(none,())/\s'=s/\∀a∈rest,a∈sets) _ ?_ ?_ _ _ ⟨rfl,rfl,fun a ha=>ha⟩)
 ·rintro a rest b s' ⟨rfl,rfl,hs⟩;obtain ⟨o,es,ep,t,ho,hd,hf,he⟩:=h a (hs a (by simp));unfold setEntries;refine zaa (zaa (zaA ho hd hf (zad (zaa ?_))));dsimp only;refine forIn_array_ _ (fun rest b s''=>b=(none,())/\s''=s'/\∀e∈rest,Lf e) _ ?_ ?_ _ _ ⟨rfl,rfl,he⟩
  ·rintro e rest' b s'' ⟨rfl,rfl,hE⟩;obtain ⟨n,tk,rfl⟩:=hE e (by simp);exact zad ⟨rfl,rfl,fun e he=>hE e (by simp [he])⟩
  ·rintro b s'' ⟨rfl,rfl,_⟩;exact zad ⟨rfl,rfl,fun a ha=>hs a (by simp [ha])⟩
 ·rintro b s' ⟨rfl,rfl,_⟩;exact zad hQ
theorem yW {led:Bool}(hled:led = !bt w){r o:Addr}(hne:r≠o){or oo:Obj}{es eo:Array (Int×Value)}{ep eq:Nat}{ts to:SetTable}{xs ys:Th}{Q:Array (Int×Value)->Shared->Prop}(hr:s.heap.get? r=some or)(hxr:or.ExactSet)(hdr:or.data=.set es ep ts)(Gr:cU led es ts xs)
  (ho:s.heap.get? o=some oo) (hdo:oo.data=.set eo eq to) (Go:cU led eo to ys)
  (h:∀ord h' o' d,ord.toList.Perm eo.toList->Heap.SameBut r s.heap h'->h'.get? r=some o'->c7 led o' xs->Q ord {s with heap:=h',drawn:=d}) :
  wpAny (model prog w) A (setWalkUnseen o [r] (some r)) Q E s:=by
 have hS:c7 led or xs:=⟨es,ep,ts,hxr,hdr,Gr⟩;have same:∀(ord:Array (Int×Value)) d,ord.toList.Perm eo.toList->Q ord {s with drawn:=d}:=fun ord d p=>h ord s.heap or d p (Heap.SameBut.refl r s.heap) hr hS;unfold setWalkUnseen;refine zaa (zaA ho hdo Go.ft ?_);dsimp only;unfold setsByText;refine zaa (zaa (zbm (zad ?_)));dsimp only;have hbt:(model prog w).w.params.followText "set-order" = bt w:=rfl;rw [hbt]
 by_cases hc:(bt w || (to.led && to.plain) || decide (eo.size<=1))=true
 ·rw [if_pos hc]
  unfold setWalk setsByText;refine zaa (zaA ho hdo Go.ft ?_);dsimp only;refine zaa (zaa (zbm (zad ?_)));dsimp only;rw [hbt]
  cases hb:bt w with
  |true =>
   simp only [↓reduceIte];exact zaa (zbm (zad (same _ s.drawn (mQ _ _))))
  |false =>
   simp only [zas,↓reduceIte];rw [hb] at hc hled;split
   ·rename_i hdr'
    have hdr':(!to.plain && decide (eo.size > 1))=true:=hdr';simp only [za4,Bool.not_eq_true',decide_eq_true_eq] at hdr'
    exfalso
    simp [hdr'.1] at hc;omega
   ·refine zaa (show wpAny _ _ (if (!to.led && decide (eo.size > 1))=true then unsupported "set:maker-not-led" else pure ()) _ _ _ from ?_)
    rw [if_neg (by rw [Go.ld,hled];simp)];exact zad (zad (same eo s.drawn (.refl _)))
 ·rw [if_neg hc]
  refine zaa (BO (fun b hb=>?_) ?_)
  ·simp only [zak,zaQ,or_false] at hb
   rcases hb with rfl|rfl
   ·exact ⟨oo,eo,eq,to,ho,hdo,Go.ft,Go.el⟩
   ·exact ⟨or,es,ep,ts,hr,hdr,Gr.ft,Gr.el⟩
  ·simp only [zbn,zas,↓reduceIte]
   refine zaa (zbO (zaa (zaA hr hdr Gr.ft ?_)));dsimp only;split
   ·refine zaa (et hr hxr hdr Gr.bd fun h' b g=>zad ?_)
    refine h eo h' _ s.drawn (.refl _) b g ⟨es,_,_,hxr,rfl,⟨Gr.el,Gr.pm,Gr.nd,Gr.bd,Gr.ft,fun hp=>?_,by rw [Gr.ld,Go.ld];simp⟩⟩;simp only [za4] at hp;exact Gr.rs hp.1
   ·exact zad (same eo s.drawn (.refl _))
def uF {led:Bool}(hled:led = !bt w){r o:Addr}(hne:r≠o){or oo:Obj}{es eo:Array (Int×Value)}{ep eq:Nat}{ts to:SetTable}{xs ys:Th}{each:Sem Unit}{Q:Unit->Shared->Prop}(hr:s.heap.get? r=some or)(hxr:or.ExactSet)(hdr:or.data=.set es ep ts)(Gr:cU led es ts xs)
  (hempty:xs=[]->ts.mask∈eC/\ts.dummies = #[])
  (ho:s.heap.get? o=some oo) (hdo:oo.data=.set eo eq to) (Go:cU led eo to ys) (hz:xs.length+ys.length < 128)
  (heach:∀(s':Shared) (Q':Unit->Shared->Prop),s'.heap.get? o=some oo->Q' () s'->wpAny (model prog w) A each Q' E s')
  (h:∀h' o' d,Heap.SameBut r s.heap h'->h'.get? r=some o'->c7 led o' (aG xs ys)->Q () {s with heap:=h',drawn:=d}) :
  wpAny (model prog w) A (setMerge r o each) Q E s:=by
 have hyl:=c7.len Go;unfold setMerge;rw [if_neg (by simpa using hne)];refine zaa (zaA ho hdo Go.ft ?_);dsimp only
 by_cases hem:eo.isEmpty=true
 ·rw [if_pos hem]
  have hy:ys=[]:=by
   have:eo.size=0:=by simpa [Array.isEmpty] using hem
   exact zcM (by omega)
  subst hy;exact zad (h s.heap or s.drawn (Heap.SameBut.refl r s.heap) hr ⟨es,ep,ts,hxr,hdr,Gr⟩)
 ·rw [if_neg hem]
  refine zaa (Ev hr hxr hdr Gr (by omega) fun h1 es1 ep1 t1 b1 g1 G1 c1=>?_)
  have ho1:h1.get? o=some oo:=by rw [b1.2 o (Ne.symm hne)];exact ho
  refine zaa (zaA g1 rfl G1.ft ?_);dsimp only
  by_cases hx:xs=[]
  ·subst hx
   have hm:t1.mask∈eC/\t1.dummies = #[]/\ys.length<=t1.mask:=by
    rcases c1 with ⟨rfl,q⟩|⟨m1,m2,m3⟩
    ·obtain ⟨m1,m2⟩:=hempty rfl
     exact ⟨m1,m2,by simp only [hyl] at q;omega⟩
    ·exact ⟨m1,m3,by simpa [hyl] using m2⟩
   refine FP (s:={s with heap:=h1}) g1 hxr rfl G1 hm.1 hm.2.1 hm.2.2 hdo Go fun h2 o2 b2 g2 S2=>?_;obtain ⟨e2,q2,t2,x2,d2,G2⟩:=S2;exact h h2 o2 s.drawn (b1.trans b2) g2 ⟨e2,q2,t2,x2,d2,cU.perm G2 (yl Go.nd).symm⟩
  ·have hfill:(t1.fill != 0)=true:=by
    have h0:0 < xs.length:=zcO.mpr hx;have:=G1.place.1;have:=c7.len G1;refine bne_iff_ne.mpr ?_;unfold SetTable.fill;omega
   unfold road;rw [if_pos hfill];dsimp only;refine zaa (yW (s:={s with heap:=h1}) hled hne g1 hxr rfl G1 ho1 hdo Go fun ord h2 o2 d hp b2 g2 S2=>?_)
   have ho2:h2.get? o=some oo:=by rw [b2.2 o (Ne.symm hne)];exact ho1
   refine zaa (forIn_array_ _ (fun rest _ s'=>∃h3 o3 zs,s'={s with heap:=h3,drawn:=d}/\Heap.SameBut r s.heap h3/\h3.get? r=some o3/\c7 led o3 zs/\aG zs (rest.map val)=aG xs (ord.toList.map val)/\(∀e∈rest,Lf e)/\zs.length+rest.length<=127) _ ?_ ?_ _ _
    ⟨h2,o2,xs,rfl,b1.trans b2,g2,S2,rfl,fun e he=>Go.el e (hp.mem_iff.mp he),by have:=hp.length_eq;simp only [za8] at this ⊢;omega⟩)
   ·rintro e rest b s' ⟨h3,o3,zs,rfl,b3,g3,S3,m3,e3,l3⟩
    obtain ⟨n,tk,rfl⟩:=e3 e (by simp)
    have ho3:h3.get? o=some oo:=by rw [b3.2 o (Ne.symm hne)];exact ho
    dsimp only;refine zaa (zaI (DP (s:={s with heap:=h3,drawn:=d}) g3 S3 (by simp at l3;unfold scanBound;omega) fun h4 o4 bb b4 g4 S4=>?_))
    have ho4:h4.get? o=some oo:=by rw [b4.2 o (Ne.symm hne)];exact ho3
    refine zaa (heach _ _ ho4 (zaa (zaA (s:={s with heap:=h4,drawn:=d}) ho4 hdo Go.ft ?_)));dsimp only;rw [if_neg (by simp)];refine zad ⟨h4,o4,cI zs n,rfl,b3.trans b4,g4,S4,m3,fun e he=>e3 e (by simp [he]),?_⟩;have:=pz zs n;simp at l3;omega
   ·rintro b s' ⟨h3,o3,zs,rfl,b3,g3,S3,m3,_,_⟩
    have m3:zs=aG xs (ord.toList.map val):=m3;obtain ⟨e4,q4,t4,x4,d4,G4⟩:=S3;refine zad (h h3 o3 d b3 g3 ⟨e4,q4,t4,x4,d4,cU.perm G4 ?_⟩);rw [m3];exact Cw ((hp.map val).trans Go.pm) xs
end
def xc:entryFor table "set.__or__" = some Builtin.«frozenset.__or__» :=
 entryFor_alias (id':="frozenset.__or__") (by kernel_rfl) (by first|rfl|decide) (by decide) (by kernel_rfl)
theorem Cv {xs ys:Th}(h:∀y∈ys,y∈xs):aG xs ys=xs:=by
 induction ys with
 |nil=>rfl
 |cons y ys ih =>
  have:cI xs y=xs:=by unfold cI;rw [if_pos (h y (by simp))]
  simp only [aG,zbl,this];exact ih fun z hz=>h z (by simp [hz])
section
variable {prog:Program}{w:World}{A:Around}{E:Tb}{s:Shared}
def nv {a:Addr}{Q:Bool->Shared->Prop}(hT:s.TypeIs (.ref a) "set")(h:Q true s):wpAny (model prog w) A (Builtin.Frozenset.isAnySet (.ref a)) Q E s:=by unfold Builtin.Frozenset.isAnySet;unfold orM;exact zaa (zbt hT sub_set_self (zad h))
def Ga {l:Addr}{ol:Obj}{xs:Th}{Q:Tb}(hl:s.heap.get? l=some ol)(Sl:c7 (!bt w) ol xs)(hz:xs.length < 128)
  (h:∀h' d o',(∀b o,s.heap.get? b=some o->h'.get? b=some o)->h'.get? s.heap.objs.size=some o'->c7 (!bt w) o' xs->(xs=[]->o'=aO (!bt w))->Q (.ref s.heap.objs.size) {s with heap:=h',drawn:=d}) :
  wpAny (model prog w) A (Builtin.Frozenset.copyOf l) Q E s:=by
 obtain ⟨eo,eq,to,hx,hd,Go⟩:=Sl;have hlt:=zah hl;have hT:s.TypeIs (.ref l) "set":=⟨ol,hl,hx.1⟩;unfold Builtin.Frozenset.copyOf Builtin.Frozenset.baseOf;refine zaa (zaa (zbt hT sub_set_self (zad ?_)));simp only [↓reduceIte];unfold newSet setsByText;refine zaa (zaa (zaa (zbm (zad ?_))));dsimp only;refine zaF ?_;refine zaa (show wpAny _ _ (pure s.heap.objs.size) _ _ _ from zad ?_);have hS:(s.heap.push (aO (!bt w))).get? s.heap.objs.size=some (aO (!bt w)):=zal _ rfl
 by_cases hxs:xs=[]
 ·subst hxs
  have hem:eo.isEmpty=true:=by have:=c7.len Go;simpa [Array.isEmpty] using this
  unfold setMerge;rw [if_neg (by simpa using zaV hlt)];refine zaa (zaa (zaA (zae _ hl) hd Go.ft ?_));dsimp only;rw [if_pos hem];exact zad (zad (h _ s.drawn (aO (!bt w)) (fun c u e=>zae _ e) hS (ji _) fun _=>rfl))
 ·obtain ⟨fe,fp,ft,fx,fd,Gf⟩:=ji (!bt w)
  cases fd;refine zaa (uF (s:={s with heap:=s.heap.push (aO (!bt w))}) rfl (zaV hlt) hS fx rfl Gf (fun _=>⟨show (7:Nat)∈eC by decide,rfl⟩) (zae _ hl) hd Go (by simpa using hz) (fun s' Q' _ q=>zad q) fun h' o' d b g S=>zad ?_)
  have hk:∀c u,s.heap.get? c=some u->h'.get? c=some u:=fun c u e=>by
   rw [b.2 c (zap (zah e))];exact zae _ e
  obtain ⟨e4,q4,t4,x4,d4,G4⟩:=S;exact h h' d o' hk g ⟨e4,q4,t4,x4,d4,cU.perm G4 (yl Go.nd)⟩ fun z=>absurd z hxs
def iE {l r:Addr}{ol or:Obj}{xs ys:Th}{Q:Tb}(hl:s.heap.get? l=some ol)(Sl:c7 (!bt w) ol xs)(hr:s.heap.get? r=some or)(Sr:c7 (!bt w) or ys)(hz:xs.length+ys.length < 128)
  (h:∀h' d o',(∀b o,s.heap.get? b=some o->h'.get? b=some o)->h'.get? s.heap.objs.size=some o'->c7 (!bt w) o' (aG xs ys)->Q (.ref s.heap.objs.size) {s with heap:=h',drawn:=d}) :
  wpAny (model prog w) A (binaryOp .BitOr (.ref l) (.ref r)) Q E s:=by
 have hTl:s.TypeIs (.ref l) "set":=by obtain ⟨_,_,_,hx,_⟩:=Sl;exact ⟨ol,hl,hx.1⟩
 have hTr:s.TypeIs (.ref r) "set":=by obtain ⟨_,_,_,hx,_⟩:=Sr;exact ⟨or,hr,hx.1⟩
 refine wpAny_binaryOp_same hTl hTr F.fills_set_or F.slot_set_or (zaG F.slot_set_or hTl xc ?_ (F.args_set_or_2 _ _))
 refine (show wpAny _ _ (do
  let (self,other) ←Builtin.Frozenset.slot1 "__or__" ⟨[.ref l,.ref r],[]⟩
  if !(←Builtin.Frozenset.isAnySet self <&&> Builtin.Frozenset.isAnySet other) then rule s!"frozenset.{"__or__"}.declined";return ←ret .notImplemented
  ret (←(do
   let result ←Builtin.Frozenset.copyOf (←Builtin.Frozenset.addrOf self)
   if other != .ref l then holding [result] (Builtin.Frozenset.updateFrom s!"frozenset.{"__or__"}" (←Builtin.Frozenset.addrOf result) other)
   return result:Sem Value))) _ _ _ from ?_)
 refine zaa (show wpAny _ _ (pure (Value.ref l,Value.ref r)) _ _ _ from zad ?_);dsimp only;unfold andM;refine zaa (zaa (nv hTl ?_));refine (show wpAny _ _ (Builtin.Frozenset.isAnySet (.ref r)) _ _ _ from nv hTr ?_);simp only [zbn,zas,↓reduceIte];refine zaa ?_;refine zaa (show wpAny _ _ (pure l) _ _ _ from zad ?_);refine zaa (Ga hl Sl (by omega) fun h1 d1 o1 k1 g1 S1 f1=>?_)
 have fin:∀h' d o',(∀b o,s.heap.get? b=some o->h'.get? b=some o)->h'.get? s.heap.objs.size=some o'->c7 (!bt w) o' (aG xs ys) ->
   wpAny (model prog w) A.in1 (pure (Value.ref s.heap.objs.size)) (fun a s'=>wpAny (model prog w) A.in1 (ret a) (fun fin s'=>∃v,fin=Fin.done (Flow.ret v)/\v≠Value.notImplemented/\Q v s') E s') E {s with heap:=h',drawn:=d} :=
  fun h' d o' k g S=>zad (zad ⟨_,rfl,by simp,h h' d o' k g S⟩)
 by_cases hlr:r=l
 ·subst hlr
  rw [if_neg (by simp)];refine fin h1 d1 o1 k1 g1 ?_;rw [hl] at hr;cases hr;obtain ⟨e1,q1,t1,x1,d1',G1⟩:=Sl;obtain ⟨e2,q2,t2,x2,d2,G2⟩:=Sr;rw [d1'] at d2;cases d2;rw [Cv fun y hy=>(G1.pm.symm.trans G2.pm).mem_iff.mpr hy];exact S1
 ·rw [if_pos (by simpa using hlr)]
  have hr1:=k1 _ _ hr;have hrl:=zah hr
  have hT1:Shared.TypeIs {s with heap:=h1,drawn:=d1} (.ref r) "set":=by obtain ⟨_,_,_,hx,_⟩:=Sr;exact ⟨or,hr1,hx.1⟩
  refine zaa (show wpAny _ _ (pure s.heap.objs.size) _ _ _ from zad ?_);refine zaa (zaI ?_);unfold Builtin.Frozenset.updateFrom;refine zaa (nv hT1 ?_);simp only [↓reduceIte];refine zaa (show wpAny _ _ (pure r) _ _ _ from zad ?_);unfold Builtin.Frozenset.merge;obtain ⟨eo,eq,to,hxo,hdo,Go⟩:=Sr;refine zaa (wpAny_setEpoch_of hr1 hdo Go.ft ?_)
  have hem:xs=[]->∀e q t,o1.data=.set e q t->t.mask∈eC/\t.dummies = #[]:=fun z e q t ed=>by
   rw [f1 z] at ed;cases ed;exact ⟨show (7:Nat)∈eC by decide,rfl⟩
  obtain ⟨e1,q1,t1,x1,dd1,G1⟩:=S1;refine uF (s:={s with heap:=h1,drawn:=d1}) rfl (zaV hrl) g1 x1 dd1 G1 (fun z=>hem z _ _ _ dd1) hr1 hdo Go hz (fun s' Q' q' z=>?_) fun h' o' d b g S=>?_
  ·unfold Builtin.Frozenset.unchanged
   refine zaa (wpAny_setEpoch_of q' hdo Go.ft ?_);rw [if_neg (by simp)];exact zad z
  ·refine fin h' d o' (fun c u e=>?_) g S
   rw [b.2 c (zap (zah e))];exact k1 c u e
end
section
variable {prog:Program}{w:World}{A:Around}{E:Tb}{s:Shared}
set_option maxHeartbeats 3200000 in
theorem Et {l:Addr}{its:Ti}{ns:Th}{Q:Tb}
  (hh:A.handled=none) (hl:s.heap.IsList l its) (hi:IntsAre its.toList ns) (hb:its.size+1 < scanBound)
  (h:∀(h':Heap) (tk:Nat) (o:Obj),h'.get? s.heap.objs.size=some o->c7 (!w.params.followText "set-order") o (aG [] ns) ->
   (∀b o,s.heap.get? b=some o->h'.get? b=some o)->s.toks<=tk->Q (.ref s.heap.objs.size) {s with heap:=h',toks:=tk}) :
  wpAny (model prog w) A (call (.type "set") [.ref l]) Q E s:=by
 obtain ⟨c,tl,hmro⟩:=F.called_set.mro;have hmade:=F.called_set.made;have hsub:=F.called_set.sub;refine zcI (zb5 (show wpAny _ _ (callAny (.type "set") _) _ _ _ from ?_));refine zad ⟨Code.quiet_builtin _ (by decide),zaW F.entry_type_call ?_⟩;rw [zcu (weight_type_call_type "set" [.ref l] []) rfl];have h1:=F.called_set.notType;have h2:=F.called_set.canCreate;have hct:=F.typeCall_set_1 (.ref l)
 repeat (any_goals (first|assumption|wp_step))
 refine zbh (Ct (.ref l) (E:=E) (Q₁:=fun obj s₁=>obj=.ref s.heap.objs.size/\s₁={s with heap:=s.heap.push (aO (!w.params.followText "set-order"))}) ⟨rfl,rfl⟩) fun r s₁ hr=>?_;generalize hled:(!w.params.followText "set-order")=led at *
 cases r with
 |error e=>exact hr
 |ok fl =>
  cases fl with
  |ret obj =>
   obtain ⟨rfl,rfl⟩:=hr;have hS:(s.heap.push (aO led)).get? s.heap.objs.size=some (aO led):=zal _ rfl;have hT:Shared.TypeIs {s with heap:=s.heap.push (aO led)} (.ref s.heap.objs.size) "set":=⟨_,hS,rfl⟩;have hli:=F.called_set.init.lookup;have hbi:=F.called_set.init.bind (.ref s.heap.objs.size)
   repeat (any_goals (first|assumption|wp_step))
   refine zbh (zbT (R:=wants (fun r s₂=>r=.none/\∃h' tk o,s₂={s with heap:=h',toks:=tk}/\h'.get? s.heap.objs.size=some o/\c7 led o (aG [] ns) /\
     (∀b o,s.heap.get? b=some o->h'.get? b=some o)/\s.toks<=tk) E) F.called_set.init.plain F.entry_set_init (check_set_init_1 hT ?_)) fun r₂ s₂ hr2=>?_
   ·obtain ⟨ol,hol,hcl,nl,hdl⟩:=hl
    obtain ⟨ocls,odict,odata,oslots⟩:=ol;simp only at hcl hdl;subst hcl;subst hdl;have hol':(s.heap.push (aO led)).get? l=some {cls:=.type "list",dict:=odict,data:=.seq its nl,slots:=oslots}:=zae _ hol;have hs1:=F.sub_list_set;have hs2:=F.sub_list_frozenset
    have hne:(Value.type "list" == Value.type "dict")=false:=by decide
    have hl1:(s.heap.push (aO led)).IsList l its:=⟨_,hol',rfl,nl,rfl⟩;unfold Builtin.«set.__init__» noKeywords Builtin.Frozenset.updateFrom;generalize hPI:pyIter=PI
    wp_walk;subst hPI
    refine zcz hl1 (zaa (zcR ?_));have hlS:l < s.heap.objs.size:=zah hol
    have hh3:A.in1.in1.in1.handled=none:=by simp [hh]
    have hneI:l≠(s.heap.push (aO led)).objs.size:=by rw [zaY];exact zap (zbo hlS)
    have hSf:s.heap.objs.size∉[(s.heap.push (aO led)).objs.size,l]:=by
     rw [zaY];simp only [zak,zaQ,or_false,not_or];exact ⟨zap (zbL _),zaV hlS⟩
    refine nE ((Walks.list hh3 _ l hneI its).toS) s.heap.objs.size hSf (led:=led) ns (by have:=IntsAre.length hi;simpa using this.symm)
     (fun i v hv=>IntsAre.int_at hi i v (by rw [zbq];exact hv)) (its.size - 0) 0 _ (aO led) [] (by omega) (zbd _)
     ⟨⟨_,zal _ rfl,rfl,rfl⟩,(hl1.push _)⟩ (zae _ hS) (ji led) (by simpa using hb) fun s' o' hm ho' hS'=>?_
    obtain ⟨h',g',d',tk',os'⟩:=s';have eg:g'=s.gens:=hm.gens;have ed:d'=s.drawn:=hm.drawn;have eo:os'=s.os:=hm.os;subst eg;subst ed;subst eo;refine (show wpAny _ _ _ _ _ _ from zad (show wpAny _ _ (ret Value.none) _ _ _ from zad ⟨rfl,h',tk',o',rfl,ho',hS',fun b o e=>?_,hm.toks⟩));have hbs:=zah e;refine hm.heap b o ?_ (zae _ (zae _ e));rw [zaY];simp only [zak,zaQ,or_false,not_or];exact ⟨zap hbs,zap (zbo hbs)⟩
   ·cases r₂ with
    |error e=>exact hr2
    |ok fl₂ =>
     cases fl₂ with
     |ret r =>
      obtain ⟨rfl,h',tk,o,rfl,ho,hS',hk',ht⟩:=hr2
      repeat (any_goals (first|assumption|wp_step))
      exact h _ _ o ho hS' hk' ht
     |_=>exact hr2.elim
  |_=>exact hr.elim
end
def sx:typeLookup (.type "list") "keys" = pure none:=by rw [zcq,zbQ];kernel_rfl
section
variable {prog:Program}{w:World}{A:Around}{E:Tb}{h:Heap}{g:Array GenState}{d:Drawn}{t:Nat}{os:OsState}{a:Addr}{its:Ti}{n:Nat}
set_option maxHeartbeats 2000000 in
def wD {tk:Tok}{Q:Fin->Shared->Prop}(hh:A.handled=none)(hx:h.get? a=some {cls:=.type "list",data:=.seq its n})
  (hq:∀h' tk' e,Heap.NewAttrErr h h' e (.ref a) "keys"->E (.ref e) ⟨h',g,d,tk',os⟩) :
  wpAny (model prog w) A (Builtin.«object.__getattribute__» ⟨[.ref a,.str "keys" tk],[]⟩) Q E ⟨h,g,d,t,os⟩:=by
 have hT:(⟨h,g,d,t,os⟩:Shared).TypeIs (.ref a) "list":=⟨_,hx,rfl⟩;have f4:=sx
 repeat (any_goals (first|assumption|wp_step))
 exact wpAny_raiseAttrError hh hq (attrMsg_fits (by decide) (by size_fits))
def Fm {tk:Tok}{Q:Tb}(hh:A.handled=none)(hx:h.get? a=some {cls:=.type "list",data:=.seq its n})
  (hq:∀h' tk' e,Heap.NewAttrErr h h' e (.ref a) "keys"->E (.ref e) ⟨h',g,d,tk',os⟩) :
  wpAny (model prog w) A (getAttrBy (.ref a) (.str "keys" tk) false) Q E ⟨h,g,d,t,os⟩:=by
 have hT:(⟨h,g,d,t,os⟩:Shared).TypeIs (.ref a) "list":=⟨_,hx,rfl⟩;have f2:=F.slot_list_getattribute.lookup;have f3:=F.slot_list_getattribute.bind (.ref a)
 repeat (any_goals (first|assumption|wp_step))
 refine zbT F.slot_list_getattribute.plain F.entry_list_ga (F.slot_list_getattribute.check _ _ _ _ _ _ _ _ hT (F.args_list_getattribute_2 _ _) ?_);refine wD (show A.in1.handled=none from hh) hx fun h' tk' e hx'=>?_;obtain ⟨t',u',he⟩:=hx'.there;have f1:=sub_AttributeError;have f5:typeLookup (.type "list") "__getattr__" = pure none:=am_miss_of_fast (by kernel_rfl);refine (show wpAny _ _ (getattributeRaised _ _ _ _ _ _ _) _ _ _ from ?_);unfold getattributeRaised
 repeat (any_goals (first|assumption|wp_step))
 exact hq _ _ _ hx'
def yj {Q:Option Value->Shared->Prop}(hh:A.handled=none)(hx:h.get? a=some {cls:=.type "list",data:=.seq its n})
  (hq:∀h' tk',(∀c u,h.get? c=some u->h'.get? c=some u)->Q none ⟨h',g,d,tk',os⟩) :
  wpAny (model prog w) A (getAttr? (.ref a) "keys") Q E ⟨h,g,d,t,os⟩:=by
 unfold getAttr? getAttrBy?;refine zaa (wpAny_mkText (zaa (zbG (Fm hh hx fun h' tk' e hx'=>?_))));obtain ⟨t',u',he⟩:=hx'.there;exact zaa (zbt (T:="AttributeError") ⟨_,he,rfl⟩ sub_AttributeError (zad (hq _ _ hx'.keeps)))
end
def gg:entryFor table "dict.update.loop" = some Builtin.«dict.update.loop»:=entryFor_of_tree (by kernel_rfl)
def cg:plainId "dict.update.loop" = true:=by decide
section
variable {prog:Program}{w:World}{A:Around}{R:Result->Shared->Prop}{I:Addr}{fp wr:Tf}{n:Nat}{P:Nat->Value->Prop}{St:Nat->Heap->Prop}
structure gR (h:Heap)(v key val:Value):Prop where
 ex:∃a o c,v=.ref a/\h.get? a=some o/\o.cls=.type "tuple"/\o.data=.seq #[key,val] c
def gR.keep {h h':Heap}{v key val:Value}(p:gR h v key val)(k:∀a o,v=.ref a->h.get? a=some o->h'.get? a=some o):gR h' v key val:=by obtain ⟨a,o,c,rfl,h1,h2,h3⟩:=p.ex;exact ⟨a,o,c,rfl,k a o rfl h1,h2,h3⟩
def putAll {K:Type}[DecidableEq K](kvs:List (K×Value))(ps:List (K×Value)):List (K×Value):=ps.foldl (fun a p=>stored a p.1 p.2) kvs
theorem As {K:Type}[DecidableEq K]{knd:KeyKind prog w K}(W:Walks prog w A.in1 I fp wr n P St)(S:Addr)(hSf:S∉fp)(ps:List (K×Value))(hps:ps.length=n)(h₀:Heap)
  (hP:∀i v,P i v->∃k x key,ps[i]?=some (k,x)/\knd.is k key=true/\gR h₀ v key x/\∀a,v=.ref a->a≠S/\a∉wr) :
  ∀(k i:Nat) (s:Shared) (c:Int) (kvs:List (K×Value)),n - i=k->i<=n->St i s.heap->(∀b o,b≠S->b∉wr->h₀.get? b=some o->s.heap.get? b=some o)->s.heap.DictOf knd S kvs->kvs.length+k<=sizeLine ->
   (∀h' tk,(∀b o,b≠S->b∉wr->s.heap.get? b=some o->h'.get? b=some o)->s.toks<=tk\/True->h'.DictOf knd S (putAll kvs (ps.drop i))->R (.ok (.ret .none)) {s with heap:=h',toks:=tk}) ->
   codeAny (model prog w) A (.builtin "dict.update.loop" ⟨[.ref S,.ref I,.int c 0,.none],[]⟩) R s:=by
 have nw:S∉wr:=fun h=>hSf (W.sub _ h);intro k
 induction k with
 |zero =>
  intro i s c kvs hk hi hst h0 hS hb hR
  have hin:i=n:=by omega
  subst hin;refine zaW gg ?_;rw [zaX cg _];refine (show wpAny _ A.in1 (pyNext (.ref I) >>= _) _ _ s from zaa (W.done s _ _ hst fun h' tk hk'=>?_));refine (show wpAny _ A.in1 (do Builtin.Dict.addKeywords S [];ret Value.none) _ _ _ from zaa (show wpAny _ _ (pure ()) _ _ _ from zad (zad ?_)));refine hR h' tk (fun b o _ hb e=>hk' b o hb e) (.inr trivial) ?_;rw [zcA (by omega)];obtain ⟨o,es,ep,ho,r⟩:=hS;exact ⟨o,es,ep,hk' S o nw ho,r⟩
 |succ k ih =>
  intro i s c kvs hk hi hst h0 hS hb hR
  have hlt:i < n:=by omega
  refine zaW gg ?_;rw [zaX cg _];refine (show wpAny _ A.in1 (pyNext (.ref I) >>= _) _ _ s from zaa (W.item i s _ _ hlt hst fun v h1 tk1 hPv hst1 hk1=>?_));obtain ⟨kk,x,key,hpi,hkey,hpair,hap⟩:=hP i v hPv;have hpair1:gR h1 v key x:=hpair.keep fun a o e q=>hk1 a o (hap a e).2 (h0 a o (hap a e).1 (hap a e).2 q);obtain ⟨a,o,cc,rfl,ho,hc,hd⟩:=hpair1.ex
  have hS1:h1.DictOf knd S kvs:=by
   obtain ⟨o,es,ep,ho,r⟩:=hS;exact ⟨o,es,ep,hk1 S o nw ho,r⟩
  refine zaa (zaI (zaa (wpAny_tryCatch ?_)));unfold Builtin.Dict.pairItems;refine zaa (zbs (T:="tuple") ⟨o,ho,hc⟩ ?_);rw [if_pos (by decide)];refine zaa (zcS ho hd (zad ?_));refine (show wpAny _ _ (holding [key,x] (dictSet S key x)) _ _ _ from zaI (wpAny_dictSet_pairs (s:={s with heap:=h1,toks:=tk1}) hkey hS1 (fun h2 hS2 hsb=>?_) (by omega)))
  have hdrop:ps.drop i=(kk,x)::ps.drop (i+1):=by
   obtain ⟨hl,e⟩:=zat.mp hpi;rw [zbe hl,e]
  have hlen:(stored kvs kk x).length<=kvs.length+1:=stored_length_le kvs kk x;refine zad ⟨zbw cg _,ih (i+1) {s with heap:=h2,toks:=tk1+1} (c+1) _ (by omega) hlt (W.frame _ h1 _ hst1 fun b hb o e=>?_) (fun b o n1 n2 e=>?_) hS2 (by omega) fun h' tk' hk' ht hD=>?_⟩
  ·rw [hsb.2 b (fun h:b=S=>hSf (h ▸ hb))];exact e
  ·rw [hsb.2 b n1];exact hk1 b o n2 (h0 b o n1 n2 e)
  ·refine hR h' tk' (fun b o n1 n2 e=>hk' b o n1 n2 ?_) (.inr trivial) (by rw [hdrop];exact hD)
   show h2.get? b=some o
   rw [hsb.2 b n1];exact hk1 b o n2 e
end
def Cu:mroOf (.type "dict")=pure [.type "dict",.type "object"]:=by rw [mroOf_type];kernel_rfl
def sw:typeLookup (.type "dict") "__new__" = pure (some (.builtin "dict.__new__")):=by rw [zcq,zbQ];kernel_rfl
def t8:Slot "dict" "__init__" "dict.__init__":=by
 refine .of (owner:="dict") (n:="__init__") ?_ (by decide) (by decide) (by decide) ?_ ?_
 ·rw [zcq,zbQ];kernel_rfl
 ·first|exact .inl (by decide)|exact .inr (by decide)
 ·rw [isSubtype_type];kernel_rfl
def bK:TypeCalled "dict" "dict.__new__" "dict.__init__" :=
 ⟨by decide,by decide,⟨_,_,Cu⟩,madeBy_type Cu sw (by decide),by decide,by rw [isSubtype_type];kernel_rfl,t8⟩
def oS (a:Value):checkTypeCall "dict" ⟨[a],[]⟩=pure ():=by kernel_rfl
def zJ (a:Value):checkBuiltinCall "dict.__new__" ⟨[.type "dict",a],[]⟩=pure ():=by kernel_rfl
def u5:entryFor table "dict.__new__" = some Builtin.«dict.__new__»:=entryFor_of_tree (by kernel_rfl)
def nI:plainId "dict.__new__" = true:=by decide
def my:entryFor table "dict.__init__" = some Builtin.«dict.__init__»:=entryFor_of_tree (by kernel_rfl)
def oZ:isSubtype (.type "dict") (.type "dict")=pure true:=by rw [isSubtype_type];kernel_rfl
def uK:builtinKind "dict.__init__" = some .slot:=by kernel_rfl
def r6:splitId "dict.__init__" = some ("dict","__init__"):=by kernel_rfl
def wc:Manifest.signature? "dict.__init__" = some ⟨.positional,"dict","dict",.self,[⟨"other",.posOnly,false⟩,⟨"kwargs",.varKw,false⟩]⟩:=by kernel_rfl
section
variable {prog:Program}{w:World}{A:Around}{E:Tb}{s:Shared}
abbrev bA:Obj:={cls:=.type "dict",dict:=none,data:=.dict #[]}
def ve (a:Value){Q₁:Tb}(h:Q₁ (.ref s.heap.objs.size) {s with heap:=s.heap.push bA}) :
  codeAny (model prog w) A (.call (.builtin "dict.__new__") ⟨[.type "dict",a],[]⟩) (wants Q₁ E) s:=by
 refine zb5 (show wpAny _ A.in1 (do checkBuiltinCall "dict.__new__" ⟨[.type "dict",a],[]⟩;again (.builtin "dict.__new__" ⟨[.type "dict",a],[]⟩)) _ _ s from ?_);refine zaa (zcT (zJ a) (zad ⟨zbw nI _,zaW u5 ?_⟩));rw [zaX nI _];have hsub:=oZ;have hmro:=Cu;unfold Builtin.«dict.__new__»;obtain ⟨hp,g,d,tk,os⟩:=s;dsimp only
 repeat (any_goals (first|assumption|wp_step))
def mB {M:Model}{self a:Value}{Q:Unit->Shared->Prop}(hT:s.TypeIs self "dict")(hQ:Q () s) :
  wpAny M A (checkBuiltinCall "dict.__init__" ⟨[self,a],[]⟩) Q E s:=by
 simp only [checkBuiltinCall,uK,r6,wc];refine zaa (zbt hT oZ ?_);simp only [zbn,zas,if_false];unfold Bind.checkArgs;dsimp only;refine zaa (m:=Bind.printed "dict" true _ _) (PyProof.Rows.printed_name (by decide) ?_);refine zaa (m:=Bind.printed "dict" false _ _) (PyProof.Rows.printed_name (by decide) ?_)
 have hrn:(Manifest.Receiver.self == Manifest.Receiver.none)=false:=by decide
 have hn:(if (Manifest.Receiver.self == Manifest.Receiver.none)=true then [self,a].length else [self,a].length - 1)=1:=by simp [hrn]
 rw [hn];simp only [za6]
 have hc:Bind.check ⟨.positional,"dict","dict",.self,[⟨"other",.posOnly,false⟩,⟨"kwargs",.varKw,false⟩]⟩ "dict" "dict" 1 []=pure ():=by kernel_rfl
 rw [hc];exact wpAny_onRaise (zad hQ)
set_option maxHeartbeats 3200000 in
theorem Dx {K:Type}[DecidableEq K]{knd:KeyKind prog w K}{l:Addr}{its:Ti}{c:Nat}{ps:List (K×Value)}{Q:Tb}
  (hh:A.handled=none) (hl:s.heap.get? l=some {cls:=.type "list",data:=.seq its c}) (hps:ps.length=its.size) (hz:its.size<=sizeLine)
  (hP:∀(i:Nat) v,its[i]?=some v->∃k x key,ps[i]?=some (k,x)/\knd.is k key=true/\gR s.heap v key x)
  (h:∀(h':Heap) (tk:Nat),h'.DictOf knd s.heap.objs.size (putAll [] ps)->(∀b o,s.heap.get? b=some o->h'.get? b=some o)->Q (.ref s.heap.objs.size) {s with heap:=h',toks:=tk}) :
  wpAny (model prog w) A (call (.type "dict") [.ref l]) Q E s:=by
 obtain ⟨cc,tl,hmro⟩:=bK.mro;have hmade:=bK.made;have hsub:=bK.sub;refine zcI (zb5 (show wpAny _ _ (callAny (.type "dict") _) _ _ _ from ?_));refine zad ⟨Code.quiet_builtin _ (by decide),zaW F.entry_type_call ?_⟩;rw [zcu (weight_type_call_type "dict" [.ref l] []) rfl];have h1:=bK.notType;have h2:=bK.canCreate;have hct:=oS (.ref l)
 repeat (any_goals (first|assumption|wp_step))
 refine zbh (ve (.ref l) (E:=E) (Q₁:=fun obj s₁=>obj=.ref s.heap.objs.size/\s₁={s with heap:=s.heap.push bA}) ⟨rfl,rfl⟩) fun r s₁ hr=>?_
 cases r with
 |error e=>exact hr
 |ok fl =>
  cases fl with
  |ret obj =>
   obtain ⟨rfl,rfl⟩:=hr;have hS:(s.heap.push bA).get? s.heap.objs.size=some bA:=zal _ rfl;have hT:Shared.TypeIs {s with heap:=s.heap.push bA} (.ref s.heap.objs.size) "dict":=⟨_,hS,rfl⟩;have hli:=bK.init.lookup;have hbi:=bK.init.bind (.ref s.heap.objs.size)
   repeat (any_goals (first|assumption|wp_step))
   refine zbh (zbT (R:=wants (fun r s₂=>r=.none/\∃h' tk,s₂={s with heap:=h',toks:=tk}/\h'.DictOf knd s.heap.objs.size (putAll [] ps) /\
     (∀b o,s.heap.get? b=some o->h'.get? b=some o)) E) bK.init.plain my (mB hT ?_)) fun r₂ s₂ hr2=>?_
   ·have hlS:l < s.heap.objs.size:=zah hl
    have hl1:(s.heap.push bA).get? l=some {cls:=.type "list",data:=.seq its c}:=zae _ hl;have hTl:Shared.TypeIs {s with heap:=s.heap.push bA} (.ref l) "list":=⟨_,hl1,rfl⟩;unfold Builtin.«dict.__init__» Builtin.Dict.selfAndRest Builtin.Dict.notOrdered;refine zaa (zaa ?_);rw [if_pos (by decide)];refine zaa (zbs hT ?_);rw [if_neg (by decide)];refine zad (zaa (show wpAny _ _ (pure s.heap.objs.size) _ _ _ from zad (zad ?_)));refine (show wpAny _ _ (Builtin.Dict.updateFrom "dict.__init__" s.heap.objs.size (.ref l) [] .none) _ _ _ from ?_);unfold Builtin.Dict.updateFrom;refine zaa (zbs hTl ?_);rw [if_pos (by decide)];refine zaa (yj (show A.in1.in1.handled=none from hh) hl1 fun h2 tk2 kp2=>?_);rw [if_pos (show (none:Tg).isNone=true from rfl)];have hl2:=kp2 _ _ hl1;have hS2:=kp2 _ _ hS;have hl3:h2.IsList l its:=⟨_,hl2,rfl,c,rfl⟩;refine zaa (zbO (zaa (zcz hl3 ?_)));have hlI:l≠h2.objs.size:=zap (zah hl2);have hSI:s.heap.objs.size≠h2.objs.size:=zap (zah hS2)
    have hSf:s.heap.objs.size∉[h2.objs.size,l]:=by
     simp only [zak,zaQ,or_false,not_or];exact ⟨hSI,zaV hlS⟩
    have hD0:(h2.push {cls:=.type "list_iterator",data:=.fields #[.ref l,.int 0 0]}).DictOf knd s.heap.objs.size [] :=
     ⟨bA,#[],0,zae _ hS2,⟨rfl,rfl,rfl⟩,rfl,fun e he=>by simp at he,.nil,zcx⟩
    refine zad ⟨zbw cg _,As (Walks.list (by simp [hh]) h2.objs.size l hlI its) s.heap.objs.size hSf ps hps s.heap (fun i v hv=>?_) (its.size - 0) 0 _ 0 [] (by omega) (zbd _)
     ⟨⟨_,zal _ rfl,rfl,rfl⟩,hl3.push _⟩ (fun b o _ _ e=>zae _ (kp2 _ _ (zae _ e))) hD0 (by simpa using hz) fun h' tk' hk' _ hD=>?_⟩
    ·obtain ⟨k,x,key,e1,e2,e3⟩:=hP i v hv
     refine ⟨k,x,key,e1,e2,e3,fun a e=>?_⟩;obtain ⟨a',o',c',q1,q2,_,_⟩:=e3.ex;rw [q1] at e;cases e;refine ⟨zap (zah q2),?_⟩;simp only [zak,zaQ,or_false];exact zap (zah (kp2 _ _ (zae _ q2)))
    ·refine ⟨rfl,h',tk',rfl,by simpa using hD,fun b o e=>hk' b o (zap (zah e)) ?_ (zae _ (kp2 _ _ (zae _ e)))⟩
     simp only [zak,zaQ,or_false];exact zap (zah (kp2 _ _ (zae _ e)))
   ·cases r₂ with
    |error e=>exact hr2
    |ok fl₂ =>
     cases fl₂ with
     |ret r =>
      obtain ⟨rfl,h',tk,rfl,hS',hk'⟩:=hr2
      repeat (any_goals (first|assumption|wp_step))
      exact h _ _ hS' hk'
     |_=>exact hr2.elim
  |_=>exact hr.elim
end
end HS
namespace L2
open PyProof.Rows
def mE (H:Hp)(q:Str)(ps:Ti):Prop:=TriplesOk ps.toList/\∀pos cv,codeAmong pos ps.toList=some cv->∃c' oc vs t,cv=.ref c'/\H c'=some (.frz oc (.ext fun _=>True))/\oc.data=.fields vs/\vs[1]?=some (.str q t)
def mE.mono {H H':Hp}{q:Str}{ps:Ti}(g:mE H q ps)(k:∀b o u,H b=some (.frz o u)->H' b=some (.frz o u)):mE H' q ps :=
 ⟨g.1,fun pos cv e=>let ⟨c',oc,vs,t,e1,e2,r⟩:=g.2 pos cv e;⟨c',oc,vs,t,e1,k _ _ _ e2,r⟩⟩
structure DS (x:Str)(caps:Tn)(sc:Scope)(cl:List (Str×Addr)):Prop where
 kind:sc.kind=.function
 co:sc.isCoroutine=false
 gen:sc.isGenerator=false
 nd:(x::caps).Nodup
 par:sc.names.lookup x=some .local
 nocell:∀y∈sc.names,y.2≠.cell
 free:∀y,sc.names.lookup y=some .free->∃c,cl.lookup y=some c
 inj:∀y z c,cl.lookup y=some c->cl.lookup z=some c->y=z
end L2
namespace HW
open L2
inductive D where
 |non|bl (b:Bool)|int (i:Int)|str (x:Str)
 |tup (xs:List D)|fl (xs:List D)|fd (ks:List aH) (ds:List D)|key (ks:Th)
structure Oe where
 qual:Str
 params:Arguments
 body:Expr
 scope:Scope
 x:Str
 caps:Tn
inductive R where
 |v (d:D)|p (n:Nat)|s (b:Bool) (xs:Th)|x (c:Str)|f (L:Oe) (ds:List D)
inductive aq where
 |lst (xs:List D)|fz (xs:List D)|dct (kvs:List (aH×D))|fzd (kvs:List (aH×D))|dr (kvs:List (aH×R))|lr (xs:List R)|dt (kvs:List (Th×D))|tb (P:Nat) (q:Str)|ob (c:Str) (fs:List (Str×R))|tr (xs:List R)|fzr (kvs:List (aH×R))|dtr (kvs:List (Th×R))|fzt (kvs:List (Th×D))
abbrev ac:=List aq
abbrev Lo:=List (Option R)
abbrev FE:=Lo->ac->Option (R×ac)
abbrev FT:=Lo->ac->Option (Bool×ac)
abbrev FA:=Lo->ac->Option (List R×ac)
inductive oJ where
 |nx (O:Lo) (U:ac)|rt (d:R) (U:ac)|bk (O:Lo) (U:ac)|ct (O:Lo) (U:ac)
abbrev FS:=Lo->ac->Option oJ
def Lg (K:zac)(H:Hp)(a:Addr)(vs:List V):Prop:=(∃o,H a=some (.frz o (.lst vs)))\/jF K (fun _=>none) a vs
mutual
def ao (K:zac)(H:Hp):D->V->Prop
 |.non,v=>v=.non
 |.bl b,v=>v=.bl b
 |.int i,v=>v=.int i
 |.str x,v=>v=.str x
 |.tup xs,v=>∃a vs,v=.ref a/\gQ K H a vs/\RelDs K H xs vs
 |.fl xs,v=>∃a vs,v=.ref a/\Lg K H a vs/\RelDs K H xs vs
 |.fd ks ds,v=>∃a o es,v=.ref a/\H a=some (.frz o (.dK es))/\es.map (·.1)=ks/\RelDs K H ds (es.map (·.2))
 |.key ks,v=>∃a,v=.ref a/\H a=some (.tup (ks.map V.int))
def RelDs (K:zac)(H:Hp):List D->List V->Prop
 |[],vs=>vs=[]
 |x::xs,vs=>∃v r,vs=v::r/\ao K H x v/\RelDs K H xs r
end
structure Gx (K:zac)(H:Hp)(L:Oe)(ds:List D)(a:Addr)(cl:List (Str×Addr))(pm ctv:Value)(c':Addr):Prop where
 fn:H a=some (.frz (PySem.W.kla_obj "<lambda>" L.qual L.params L.body L.scope cl pm c' ctv) (.ext fun _=>True))
 code:∃oc vs t,H c'=some (.frz oc (.ext fun _=>True))/\oc.data=.fields vs/\vs[1]?=some (.str L.qual t)
 len:ds.length=L.caps.length
 cell:∀y c,cl.lookup y=some c->∃z o,H c=some (.frz o (.ext fun _=>True))/\o.data=.cell z
 cap:∀(i:Nat) y d,L.caps[i]?=some y->ds[i]?=some d->∃c o u vy,L.scope.names.lookup y=some .free/\cl.lookup y=some c/\H c=some (.frz o (.ext fun _=>True))/\o.data=.cell (some u)/\aY vy u/\ao K H d vy
 sc:DS L.x L.caps L.scope cl
def au (K:zac)(m:Tf)(H:Hp):R->V->Prop
 |.v d,v=>ao K H d v
 |.p n,v=>∃a,v=.ref a/\m[n]?=some a
 |.s b xs,v=>∃a o,v=.ref a/\H a=some (.frz o (.ext fun _=>True))/\HS.c7 b o xs
 |.x c,v=>∃a vs C,v=.ref a/\H a=some (.frz {cls:=.ref C,dict:=none,data:=.fields vs,slots:=#[]} (.ext fun _=>True))/\PySem.W.nsIn K mainGlobals c=some (some (.ref C))
 |.f L ds,v=>∃a cl pm ctv c',v=.ref a/\Gx K H L ds a cl pm ctv c'
def aQ (K:zac)(m:Tf)(H:Hp):List R->List V->Prop
 |[],vs=>vs=[]
 |x::xs,vs=>∃v r,vs=v::r/\au K m H x v/\aQ K m H xs r
def gU (K:zac)(m:Tf)(H:Hp):aq->Addr->Prop
 |.lst xs,a=>∃vs,H a=some (.lst vs)/\RelDs K H xs vs
 |.fz xs,a=>∃o vs,H a=some (.frz o (.lst vs))/\RelDs K H xs vs
 |.dct kvs,a=>∃es,H a=some (.dK es)/\es.map (·.1)=kvs.map (·.1)/\RelDs K H (kvs.map (·.2)) (es.map (·.2))
 |.fzd kvs,a=>∃o es,H a=some (.frz o (.dK es))/\es.map (·.1)=kvs.map (·.1)/\RelDs K H (kvs.map (·.2)) (es.map (·.2))
 |.dr kvs,a=>∃es,H a=some (.dK es)/\es.map (·.1)=kvs.map (·.1)/\aQ K m H (kvs.map (·.2)) (es.map (·.2))
 |.lr xs,a=>∃vs,H a=some (.lst vs)/\aQ K m H xs vs
 |.tb P q,a=>a=P/\∃ps,H P=some (.tbl ps)/\mE H q ps
 |.ob c fs,a=>∃C dx es,PySem.W.nsIn K mainGlobals c=some (some (.ref C))/\H a=some (.ins C dx es)/\es.map (·.1)=fs.map (·.1)/\aQ K m H (fs.map (·.2)) (es.map (·.2))
 |.tr xs,a=>∃vs,H a=some (.tup vs)/\aQ K m H xs vs
 |.fzr kvs,a=>∃o es,H a=some (.frz o (.dK es))/\es.map (·.1)=kvs.map (·.1)/\aQ K m H (kvs.map (·.2)) (es.map (·.2))
 |.dtr kvs,a=>∃es,H a=some (.dT es)/\es.map (·.1)=kvs.map (fun p=>p.1.map Sum.inl)/\aQ K m H (kvs.map (·.2)) (es.map (·.2))
 |.dt kvs,a=>∃es,H a=some (.dT es)/\es.map (·.1)=kvs.map (fun p=>p.1.map Sum.inl)/\RelDs K H (kvs.map (·.2)) (es.map (·.2))
 |.fzt kvs,a=>∃o es,H a=some (.frz o (.dT es))/\es.map (·.1)=kvs.map (fun p=>p.1.map Sum.inl)/\RelDs K H (kvs.map (·.2)) (es.map (·.2))
structure aI (K:zac)(m:Tf)(H:Hp)(U:ac):Prop where
 nd:m.Nodup
 len:m.length=U.length
 cell:∀(i:Nat) c a,U[i]?=some c->m[i]?=some a->gU K m H c a
structure TF (H H':Hp):Prop where
 tup:∀a xs,H a=some (.tup xs)->H' a=some (.tup xs)
 frz:∀a o u,H a=some (.frz o u)->H' a=some (.frz o u)
structure dM (m:Tf)(H:Hp)(m':Tf)(H':Hp):Prop where
 ext:∃e,m'=m++e/\∀a∈e,H a=none
 tf:TF H H'
 keep:∀a o,H a=some o->a∉m->H' a=some o
 live:∀a,H' a=none->H a=none
def dZ (K:zac)(m:Tf)(H:Hp)(O:Lo)(Y:St):Prop :=
 O.length=Y.length/\∀(i:Nat) d,O[i]?=some (some d)->∃v,Y[i]?=some (some v)/\au K m H d v
section
variable {K:zac}{H H' H1 H2:Hp}
def TF.refl:TF H H:=⟨fun _ _ h=>h,fun _ _ _ h=>h⟩
def TF.trans (a:TF H H1)(b:TF H1 H2):TF H H2:=⟨fun _ _ h=>b.tup _ _ (a.tup _ _ h),fun _ _ _ h=>b.frz _ _ _ (a.frz _ _ _ h)⟩
def TF.of (h:∀a o,H a=some o->H' a=some o):TF H H':=⟨fun _ _ e=>h _ _ e,fun _ _ _ e=>h _ _ e⟩
def gQ.tf {a vs}(t:TF H H')(h:gQ K H a vs):gQ K H' a vs:=by
 rcases h with (h|⟨o,h⟩)|h
 ·exact .inl (.inl (t.tup _ _ h))
 ·exact .inl (.inr ⟨o,t.frz _ _ _ h⟩)
 ·exact .inr h
def Lg.tf {a vs}(t:TF H H')(h:Lg K H a vs):Lg K H' a vs:=by
 rcases h with ⟨o,h⟩|h
 ·exact .inl ⟨o,t.frz _ _ _ h⟩
 ·exact .inr h
def Lg.sq {a vs}(h:Lg K H a vs):jF K H a vs:=by
 rcases h with ⟨o,h⟩|(h|⟨_,h⟩)|h
 ·exact .inl (.inr ⟨o,h⟩)
 ·cases h
 ·cases h
 ·exact .inr h
mutual
theorem ao.tf (t:TF H H'):∀(d:D) (v:V),ao K H d v->ao K H' d v
 |.non,_,h=>by simpa only [ao] using h
 |.bl _,_,h=>by simpa only [ao] using h
 |.int _,_,h=>by simpa only [ao] using h
 |.str _,_,h=>by simpa only [ao] using h
 |.tup xs,v,h=>by simp only [ao] at h ⊢;obtain ⟨a,vs,e,s,r⟩:=h;exact ⟨a,vs,e,gQ.tf t s,RelDs.tf t xs vs r⟩
 |.fl xs,v,h=>by simp only [ao] at h ⊢;obtain ⟨a,vs,e,s,r⟩:=h;exact ⟨a,vs,e,s.tf t,RelDs.tf t xs vs r⟩
 |.fd ks ds,v,h=>by simp only [ao] at h ⊢;obtain ⟨a,o,es,e,s,k,r⟩:=h;exact ⟨a,o,es,e,t.frz _ _ _ s,k,RelDs.tf t ds _ r⟩
 |.key ks,v,h=>by simp only [ao] at h ⊢;obtain ⟨a,e,q⟩:=h;exact ⟨a,e,t.tup _ _ q⟩
theorem RelDs.tf (t:TF H H'):∀(ds:List D) (vs:List V),RelDs K H ds vs->RelDs K H' ds vs
 |[],_,h=>by simpa only [RelDs] using h
 |d::ds,vs,h=>by simp only [RelDs] at h ⊢;obtain ⟨v,r,e,h1,h2⟩:=h;exact ⟨v,r,e,ao.tf t d v h1,RelDs.tf t ds r h2⟩
end
def Gx.tf {L ds a cl pm ctv c'}(t:TF H H')(h:Gx K H L ds a cl pm ctv c'):Gx K H' L ds a cl pm ctv c':=by
 refine ⟨t.frz _ _ _ h.fn,?_,h.len,fun y c e=>?_,fun i y d e1 e2=>?_,h.sc⟩
 ·obtain ⟨oc,vs,u,e,r⟩:=h.code;exact ⟨oc,vs,u,t.frz _ _ _ e,r⟩
 ·obtain ⟨z,o,q,r⟩:=h.cell y c e;exact ⟨z,o,t.frz _ _ _ q,r⟩
 ·obtain ⟨c,o,u,vy,k1,k2,k3,k4,k5,k6⟩:=h.cap i y d e1 e2;exact ⟨c,o,u,vy,k1,k2,t.frz _ _ _ k3,k4,k5,ao.tf t _ _ k6⟩
def dM.refl:dM m H m H:=⟨⟨[],by simp⟩,.refl,fun _ _ h _=>h,fun _ h=>h⟩
def dM.trans (x:dM m H m1 H1)(y:dM m1 H1 m2 H2):dM m H m2 H2:=by
 obtain ⟨e1,rfl,f1⟩:=x.ext;obtain ⟨e2,rfl,f2⟩:=y.ext;refine ⟨⟨e1++e2,by simp,fun a ha=>?_⟩,x.tf.trans y.tf,fun a o h n=>?_,fun a h=>x.live a (y.live a h)⟩
 ·rcases zaU.mp ha with h|h
  ·exact f1 a h
  ·exact x.live a (f2 a h)
 ·refine y.keep a o (x.keep a o h n) fun z=>?_;rcases zaU.mp z with z|z
  ·exact n z
  ·rw [f1 a z] at h;cases h
theorem au.ext (x:dM m H m' H'){d:R}{v:V}(h:au K m H d v):au K m' H' d v:=by
 cases d with
 |v d=>exact ao.tf x.tf d v h
 |p n =>
  obtain ⟨a,e,q⟩:=h;obtain ⟨e1,rfl,_⟩:=x.ext;refine ⟨a,e,?_⟩;obtain ⟨hl,hq⟩:=zat.mp q;rw [zai hl];exact q
 |s b xs =>
  obtain ⟨a,o,e,q,r⟩:=h;exact ⟨a,o,e,x.tf.frz _ _ _ q,r⟩
 |x c =>
  obtain ⟨a,vs,C,e,q,r⟩:=h;exact ⟨a,vs,C,e,x.tf.frz _ _ _ q,r⟩
 |f L ds =>
  obtain ⟨a,cl,pm,ctv,c',e,q⟩:=h;exact ⟨a,cl,pm,ctv,c',e,q.tf x.tf⟩
theorem aQ.ext (x:dM m H m' H'):∀{ds:List R} {vs:List V},aQ K m H ds vs->aQ K m' H' ds vs
 |[],_,h=>h
 |_::_,_,⟨v,r,e,h1,h2⟩=>⟨v,r,e,h1.ext x,aQ.ext x h2⟩
def dZ.ext (x:dM m H m' H')(h:dZ K m H O Y):dZ K m' H' O Y :=
 ⟨h.1,fun i d e=>let ⟨v,q,r⟩:=h.2 i d e;⟨v,q,r.ext x⟩⟩
theorem au.tfm (t:TF H H')(y:∃e,m'=m++e){d:R}{v:V}(h:au K m H d v):au K m' H' d v:=by
 cases d with
 |v d=>exact ao.tf t d v h
 |p n =>
  obtain ⟨a,e,q⟩:=h;obtain ⟨e1,rfl⟩:=y;refine ⟨a,e,?_⟩;obtain ⟨hl,hq⟩:=zat.mp q;rw [zai hl];exact q
 |s b xs =>
  obtain ⟨a,o,e,q,r⟩:=h;exact ⟨a,o,e,t.frz _ _ _ q,r⟩
 |x c =>
  obtain ⟨a,vs,C,e,q,r⟩:=h;exact ⟨a,vs,C,e,t.frz _ _ _ q,r⟩
 |f L ds =>
  obtain ⟨a,cl,pm,ctv,c',e,q⟩:=h;exact ⟨a,cl,pm,ctv,c',e,q.tf t⟩
theorem aQ.tfm (t:TF H H')(y:∃e,m'=m++e):∀{ds:List R} {vs:List V},aQ K m H ds vs->aQ K m' H' ds vs
 |[],_,h=>h
 |_::_,_,⟨v,r,e,h1,h2⟩=>⟨v,r,e,h1.tfm t y,aQ.tfm t y h2⟩
theorem gU.same (s:∀a o,H a=some o->H' a=some o)(y:∃e,m'=m++e){c:aq}{a:Addr}(h:gU K m H c a):gU K m' H' c a:=by
 cases c with
 |lst xs=>obtain ⟨vs,e,r⟩:=h;exact ⟨vs,s _ _ e,RelDs.tf (.of s) _ _ r⟩
 |fz xs=>obtain ⟨o,vs,e,r⟩:=h;exact ⟨o,vs,s _ _ e,RelDs.tf (.of s) _ _ r⟩
 |dct kvs=>obtain ⟨es,e,k,r⟩:=h;exact ⟨es,s _ _ e,k,RelDs.tf (.of s) _ _ r⟩
 |fzd kvs=>obtain ⟨o,es,e,k,r⟩:=h;exact ⟨o,es,s _ _ e,k,RelDs.tf (.of s) _ _ r⟩
 |fzt kvs=>obtain ⟨o,es,e,k,r⟩:=h;exact ⟨o,es,s _ _ e,k,RelDs.tf (.of s) _ _ r⟩
 |dr kvs=>obtain ⟨es,e,k,r⟩:=h;exact ⟨es,s _ _ e,k,aQ.tfm (.of s) y r⟩
 |lr xs=>obtain ⟨vs,e,r⟩:=h;exact ⟨vs,s _ _ e,aQ.tfm (.of s) y r⟩
 |dt kvs=>obtain ⟨es,e,k,r⟩:=h;exact ⟨es,s _ _ e,k,RelDs.tf (.of s) _ _ r⟩
 |tb P q=>obtain ⟨e,ps,k,r⟩:=h;exact ⟨e,ps,s _ _ k,r.mono fun b o u g=>s _ _ g⟩
 |ob c fs=>obtain ⟨C,dx,es,n,e,k,r⟩:=h;exact ⟨C,dx,es,n,s _ _ e,k,aQ.tfm (.of s) y r⟩
 |tr xs=>obtain ⟨vs,e,r⟩:=h;exact ⟨vs,s _ _ e,aQ.tfm (.of s) y r⟩
 |fzr kvs=>obtain ⟨o,es,e,k,r⟩:=h;exact ⟨o,es,s _ _ e,k,aQ.tfm (.of s) y r⟩
 |dtr kvs=>obtain ⟨es,e,k,r⟩:=h;exact ⟨es,s _ _ e,k,aQ.tfm (.of s) y r⟩
theorem gU.some {c:aq}{a:Addr}(h:gU K m H c a):∃o,H a=some o:=by
 cases c with
 |lst xs=>obtain ⟨vs,e,r⟩:=h;exact ⟨_,e⟩
 |fz xs=>obtain ⟨o,vs,e,r⟩:=h;exact ⟨_,e⟩
 |dct kvs=>obtain ⟨es,e,k,r⟩:=h;exact ⟨_,e⟩
 |fzd kvs=>obtain ⟨o,es,e,k,r⟩:=h;exact ⟨_,e⟩
 |fzt kvs=>obtain ⟨o,es,e,k,r⟩:=h;exact ⟨_,e⟩
 |dr kvs=>obtain ⟨es,e,k,r⟩:=h;exact ⟨_,e⟩
 |lr xs=>obtain ⟨vs,e,r⟩:=h;exact ⟨_,e⟩
 |dt kvs=>obtain ⟨es,e,k,r⟩:=h;exact ⟨_,e⟩
 |tb P q=>obtain ⟨e,ps,k,r⟩:=h;exact ⟨_,e ▸ k⟩
 |ob c fs=>obtain ⟨C,dx,es,n,e,k,r⟩:=h;exact ⟨_,e⟩
 |tr xs=>obtain ⟨vs,e,r⟩:=h;exact ⟨_,e⟩
 |fzr kvs=>obtain ⟨o,es,e,k,r⟩:=h;exact ⟨_,e⟩
 |dtr kvs=>obtain ⟨es,e,k,r⟩:=h;exact ⟨_,e⟩
def aI.same (h:aI K m H U)(s:∀a o,H a=some o->H' a=some o):aI K m H' U :=
 ⟨h.nd,h.len,fun i c a e1 e2=>(h.cell i c a e1 e2).same s ⟨[],by simp⟩⟩
def aI.mem (h:aI K m H U){a:Addr}(ha:a∈m):∃o,H a=some o:=by
 obtain ⟨i,hi,e⟩:=zbf ha;have hi':i < U.length:=by rw [←h.len];exact hi
 exact (h.cell i U[i] a (zao hi') (by rw [←e];exact zao hi)).some
def aI.fresh (h:aI K m H U){p:Addr}(hp:H p=none):p∉m:=fun z=>by obtain ⟨o,e⟩:=h.mem z;rw [hp] at e;cases e
def aI.nil:aI K [] H []:=⟨.nil,rfl,fun i c a e=>by simp at e⟩
def dA {p:Addr}{o:HO}(hp:H p=none):∀a u,H a=some u->upd H p o a=some u:=fun a u e=>by unfold upd;rw [if_neg (fun z=>by rw [z,hp] at e;cases e)];exact e
def oO {p:Addr}{o:HO}{a:Addr}(h:upd H p o a=none):H a=none:=by
 unfold upd at h;split at h
 ·cases h
 ·exact h
def cp {p:Addr}{o:HO}:upd H p o p=some o:=by unfold upd;rw [if_pos rfl]
def dM.new {p:Addr}{o:HO}(hp:H p=none):dM m H m (upd H p o) :=
 ⟨⟨[],by simp⟩,.of (dA hp),fun a u e _=>dA hp a u e,fun _ h=>oO h⟩
def dM.newH {p:Addr}{o:HO}(hp:H p=none):dM m H (m++[p]) (upd H p o) :=
 ⟨⟨[p],rfl,fun a h=>by rw [zau.mp h];exact hp⟩,.of (dA hp),fun a u e _=>dA hp a u e,fun _ h=>oO h⟩
def aI.newH {p:Addr}{o:HO}{c:aq}(h:aI K m H U)(hp:H p=none)(hc:gU K (m++[p]) (upd H p o) c p):aI K (m++[p]) (upd H p o) (U++[c]):=by
 refine ⟨?_,by simp [h.len],fun i c' a e1 e2=>?_⟩
 ·refine zbc.mpr ⟨h.nd,by simp,fun a ha b hb=>?_⟩;rw [zau.mp hb];rintro rfl;exact h.fresh hp ha
 ·by_cases hi:i < m.length
  ·rw [zai hi] at e2;rw [zai (by rw [←h.len];exact hi)] at e1;exact (h.cell i c' a e1 e2).same (dA hp) ⟨[p],rfl⟩
  ·rw [zaN (by omega)] at e2;rw [zaN (by have:=h.len;omega)] at e1;have hl:=h.len;have:i - m.length=0:=by
    cases q:i - m.length with
    |zero=>rfl
    |succ k=>rw [q] at e2;simp at e2
   have e3:i - U.length=0:=(by omega);rw [this] at e2;rw [e3] at e1;simp at e1 e2;subst e1 e2;exact hc
def dM.put {a:Addr}{o o':HO}(ha:a∈m)(e:H a=some o)(ho:∀xs,o≠.tup xs)(hf:∀x u,o≠.frz x u):dM m H m (upd H a o'):=by
 have ne:∀b u,H b=some u->u≠o->b≠a:=fun b u q n z=>by rw [z,e] at q;exact n (Option.some.inj q).symm
 refine ⟨⟨[],by simp⟩,⟨fun b xs q=>?_,fun b x u q=>?_⟩,fun b u q n=>?_,fun b h=>oO h⟩
 ·unfold upd;rw [if_neg (ne b _ q fun z=>ho xs z.symm)];exact q
 ·unfold upd;rw [if_neg (ne b _ q fun z=>hf x u z.symm)];exact q
 ·unfold upd;rw [if_neg (fun z:b=a=>n (by rw [z];exact ha))];exact q
def aI.put {n:Nat}{a:Addr}{o o':HO}{c:aq}(h:aI K m H U)(hn:m[n]?=some a)(e:H a=some o)(ho:∀xs,o≠.tup xs)(hf:∀x u,o≠.frz x u)(hc:gU K m (upd H a o') c a):aI K m (upd H a o') (U.set n c):=by
 have ha:a∈m:=zaH hn;have x:dM m H m (upd H a o'):=.put ha e ho hf;refine ⟨h.nd,by simp [h.len],fun i c' b e1 e2=>?_⟩;by_cases hi:i=n
 ·subst hi;rw [hn] at e2;cases e2;rw [zaT (by have:=(zat.mp hn).1;have:=h.len;omega)] at e1;cases e1;exact hc
 ·rw [zaz (Ne.symm hi)] at e1;have nb:b≠a:=by rintro rfl;obtain ⟨h1,q1⟩:=zat.mp e2;obtain ⟨h2,q2⟩:=zat.mp hn;exact hi ((zbK h.nd).mp (q1.trans q2.symm))
  have at':∀u,H b=some u->upd H a o' b=some u:=fun u q=>by unfold upd;rw [if_neg nb];exact q
  have z:=h.cell i c' b e1 e2
  cases c' with
  |lst xs=>obtain ⟨vs,e,r⟩:=z;exact ⟨vs,at' _ e,RelDs.tf x.tf _ _ r⟩
  |fz xs=>obtain ⟨o,vs,e,r⟩:=z;exact ⟨o,vs,at' _ e,RelDs.tf x.tf _ _ r⟩
  |dct kvs=>obtain ⟨es,e,k,r⟩:=z;exact ⟨es,at' _ e,k,RelDs.tf x.tf _ _ r⟩
  |fzd kvs=>obtain ⟨o,es,e,k,r⟩:=z;exact ⟨o,es,at' _ e,k,RelDs.tf x.tf _ _ r⟩
  |fzt kvs=>obtain ⟨o,es,e,k,r⟩:=z;exact ⟨o,es,at' _ e,k,RelDs.tf x.tf _ _ r⟩
  |dr kvs=>obtain ⟨es,e,k,r⟩:=z;exact ⟨es,at' _ e,k,aQ.tfm x.tf ⟨[],by simp⟩ r⟩
  |lr xs=>obtain ⟨vs,e,r⟩:=z;exact ⟨vs,at' _ e,aQ.tfm x.tf ⟨[],by simp⟩ r⟩
  |dt kvs=>obtain ⟨es,e,k,r⟩:=z;exact ⟨es,at' _ e,k,RelDs.tf x.tf _ _ r⟩
  |tb P q=>obtain ⟨e,ps,k,r⟩:=z;subst e;exact ⟨rfl,ps,at' _ k,r.mono x.tf.frz⟩
  |ob c fs=>obtain ⟨C,dx,es,n,e,k,r⟩:=z;exact ⟨C,dx,es,n,at' _ e,k,aQ.tfm x.tf ⟨[],by simp⟩ r⟩
  |tr xs=>obtain ⟨vs,e,r⟩:=z;exact ⟨vs,at' _ e,aQ.tfm x.tf ⟨[],by simp⟩ r⟩
  |fzr kvs=>obtain ⟨o,es,e,k,r⟩:=z;exact ⟨o,es,at' _ e,k,aQ.tfm x.tf ⟨[],by simp⟩ r⟩
  |dtr kvs=>obtain ⟨es,e,k,r⟩:=z;exact ⟨es,at' _ e,k,aQ.tfm x.tf ⟨[],by simp⟩ r⟩
end
def av (K:zac)(f:FE):TE:=fun Y H Q=>∃O U m d U',dZ K m H O Y/\aI K m H U/\f O U=some (d,U') /\
 ∀v H' m',dM m H m' H'->aI K m' H' U'->au K m' H' d v->Q v H'
def fU (K:zac)(f:FT):TT:=fun Y H Q=>∃O U m b U',dZ K m H O Y/\aI K m H U/\f O U=some (b,U') /\
 ∀H' m',dM m H m' H'->aI K m' H' U'->Q b H'
def gp (K:zac)(f:FA):TA:=fun Y H Q=>∃O U m ds U',dZ K m H O Y/\aI K m H U/\f O U=some (ds,U') /\
 ∀vs H' m',dM m H m' H'->aI K m' H' U'->aQ K m' H' ds vs->Q vs H'
def eN.of (K:zac)(m:Tf)(H:Hp)(D:eN):oJ->Prop
 |.nx O U=>∀Y H' m',dM m H m' H'->aI K m' H' U->dZ K m' H' O Y->D.nx Y H'
 |.bk O U=>∀Y H' m',dM m H m' H'->aI K m' H' U->dZ K m' H' O Y->D.bk Y H'
 |.ct O U=>∀Y H' m',dM m H m' H'->aI K m' H' U->dZ K m' H' O Y->D.ct Y H'
 |.rt d U=>∀v H' m',dM m H m' H'->aI K m' H' U->au K m' H' d v->D.rt v H'
def eP (K:zac)(f:FS):TS:=fun D Y H=>∃O U m out,dZ K m H O Y/\aI K m H U/\f O U=some out/\eN.of K m H D out
def af (i:Nat):FE:=fun O U=>match O[i]? with|some (some d)=>some (d,U)|_=>none
def fK (d:D):FE:=fun _ U=>some (.v d,U)
def ar (g:R->R->ac->Option (R×ac))(fa fb:FE):FE:=fun O U=>(fa O U).bind fun a=>(fb O a.2).bind fun b=>g a.1 b.1 b.2
def oH (g:R->ac->Option (R×ac))(fa:FE):FE:=fun O U=>(fa O U).bind fun a=>g a.1 a.2
def qf (K:zac)(g:R->R->ac->Option (R×ac))(r:R2):Prop :=
 ∀m H U x y d U' v u Q,aI K m H U->au K m H x v->au K m H y u->g x y U=some (d,U')->(∀w H' m',dM m H m' H'->aI K m' H' U'->au K m' H' d w->Q w H')->r v u H Q
def RI (K:zac)(g:R->ac->Option (R×ac))(r:V->Hp->VK->Prop):Prop :=
 ∀m H U x d U' v Q,aI K m H U->au K m H x v->g x U=some (d,U')->(∀w H' m',dM m H m' H'->aI K m' H' U'->au K m' H' d w->Q w H')->r v H Q
def vL (K:zac)(g:List R->ac->Option (R×ac))(r:List V->Hp->VK->Prop):Prop :=
 ∀m H U xs d U' vs Q,aI K m H U->aQ K m H xs vs->g xs U=some (d,U')->(∀w H' m',dM m H m' H'->aI K m' H' U'->au K m' H' d w->Q w H')->r vs H Q
def ak:FA:=fun _ U=>some ([],U)
def ae (fa:FE)(fr:FA):FA:=fun O U=>(fa O U).bind fun a=>(fr O a.2).bind fun r=>some (a.1::r.1,r.2)
def dQ (g:List R->ac->Option (R×ac))(fa:FA):FE:=fun O U=>(fa O U).bind fun a=>g a.1 a.2
section
variable {K:zac}{Y:St}{H:Hp}{Q:VK}
def Ja {i:Nat}(h:av K (af i) Y H Q):Mc i Y H Q:=by
 obtain ⟨O,U,m,d,U',hl,hs,e,k⟩:=h;unfold af at e;split at e
 ·rename_i d' q
  cases e;obtain ⟨v,q1,q2⟩:=hl.2 i _ q;exact ⟨v,q1,k v H m .refl hs q2⟩
 ·cases e
def jO {d:D}{v:V}(hv:∀m H,au K m H (.v d) v)(h:av K (fK d) Y H Q):tC v Y H Q:=by obtain ⟨O,U,m,d',U',hl,hs,e,k⟩:=h;cases e;exact k v H m .refl hs (hv _ _)
def iJ {g r fa fb}(hg:qf K g r)(h:av K (ar g fa fb) Y H Q):IE r (av K fa) (av K fb) Y H Q:=by obtain ⟨O,U,m,d,U',hl,hs,e,k⟩:=h;obtain ⟨⟨x,U1⟩,e1,e⟩:=zab.mp e;obtain ⟨⟨y,U2⟩,e2,e⟩:=zab.mp e;refine ⟨O,U,m,x,U1,hl,hs,e1,fun v H1 m1 x1 s1 r1=>?_⟩;refine ⟨O,U1,m1,y,U2,hl.ext x1,s1,e2,fun u H2 m2 x2 s2 r2=>?_⟩;exact hg m2 H2 U2 x y d U' v u Q s2 (r1.ext x2) r2 e fun w H3 m3 x3 s3 r3=>k w H3 m3 ((x1.trans x2).trans x3) s3 r3
def My {g r fa}(hg:RI K g r)(h:av K (oH g fa) Y H Q):QZ r (av K fa) Y H Q:=by obtain ⟨O,U,m,d,U',hl,hs,e,k⟩:=h;obtain ⟨⟨x,U1⟩,e1,e⟩:=zab.mp e;refine ⟨O,U,m,x,U1,hl,hs,e1,fun v H1 m1 x1 s1 r1=>?_⟩;exact hg m1 H1 U1 x d U' v Q s1 r1 e fun w H3 m3 x3 s3 r3=>k w H3 m3 (x1.trans x3) s3 r3
theorem Jm {Q:List V->Hp->Prop}(h:gp K ak Y H Q):IF Y H Q:=by obtain ⟨O,U,m,ds,U',hl,hs,e,k⟩:=h;cases e;exact k [] H m .refl hs rfl
def EG {fa fr}{Q:List V->Hp->Prop}(h:gp K (ae fa fr) Y H Q):A8 (av K fa) (gp K fr) Y H Q:=by obtain ⟨O,U,m,ds,U',hl,hs,e,k⟩:=h;obtain ⟨⟨x,U1⟩,e1,e⟩:=zab.mp e;obtain ⟨⟨xs,U2⟩,e2,e⟩:=zab.mp e;cases e;refine ⟨O,U,m,x,U1,hl,hs,e1,fun v H1 m1 x1 s1 r1=>?_⟩;refine ⟨O,U1,m1,xs,U2,hl.ext x1,s1,e2,fun vs H2 m2 x2 s2 r2=>?_⟩;exact k (v::vs) H2 m2 (x1.trans x2) s2 ⟨v,vs,rfl,r1.ext x2,r2⟩
def g8 {g r fa}(hg:vL K g r)(h:av K (dQ g fa) Y H Q):Pe r (gp K fa) Y H Q:=by obtain ⟨O,U,m,d,U',hl,hs,e,k⟩:=h;obtain ⟨⟨xs,U1⟩,e1,e⟩:=zab.mp e;refine ⟨O,U,m,xs,U1,hl,hs,e1,fun vs H1 m1 x1 s1 r1=>?_⟩;exact hg m1 H1 U1 xs d U' vs Q s1 r1 e fun w H3 m3 x3 s3 r3=>k w H3 m3 (x1.trans x3) s3 r3
end
def fB (fa:FE):FT:=fun O U=>(fa O U).bind fun a=>match a.1 with|.v (.bl b)=>some (b,a.2)|_=>none
def AO:R->ac->Option Bool
 |.v .non,_=>some false
 |.v (.bl b),_=>some b
 |.v (.int i),_=>some (i != 0)
 |.v (.str x),_=>if x.length<=sizeLine then some ((x.length:Int) != 0) else none
 |.v (.tup xs),_=>some (!xs.isEmpty)
 |.v (.fl xs),_=>some (!xs.isEmpty)
 |.v (.fd _ _),_=>none
 |.v (.key _),_=>none
 |.s _ _,_=>none
 |.x _,_=>none
 |.f _ _,_=>none
 |.p n,U=>match U[n]? with|some (.lst xs)=>some (!xs.isEmpty)|some (.fz xs)=>some (!xs.isEmpty)|some (.dct kvs)=>some (!kvs.isEmpty)|_=>none
def j5 (fa:FE):FT:=fun O U=>(fa O U).bind fun a=>(AO a.1 a.2).bind fun b=>some (b,a.2)
def k8 (t u:FT):FT:=fun O U=>(t O U).bind fun c=>if c.1=true then u O c.2 else some (false,c.2)
def v5 (t u:FT):FT:=fun O U=>(t O U).bind fun c=>if c.1=true then some (true,c.2) else u O c.2
def tW (t:FT):FT:=fun O U=>(t O U).bind fun c=>some (!c.1,c.2)
def Dc (fa fb:FE):FE:=fun O U=>(fa O U).bind fun a=>match a.1 with|.v (.bl c)=>if c=true then fb O a.2 else some (.v (.bl false),a.2)|_=>none
def Oz (fa fb:FE):FE:=fun O U=>(fa O U).bind fun a=>match a.1 with|.v (.bl c)=>if c=true then some (.v (.bl true),a.2) else fb O a.2|_=>none
def pR (fa:FE):FE:=fun O U=>(fa O U).bind fun a=>match a.1 with|.v (.bl c)=>some (.v (.bl (!c)),a.2)|_=>none
def FU (t:FT)(fa fb:FE):FE:=fun O U=>(t O U).bind fun c=>if c.1=true then fa O c.2 else fb O c.2
theorem RelDs.length {K:zac}{H:Hp}:∀{ds:List D} {vs:List V},RelDs K H ds vs->ds.length=vs.length
 |[],_,h=>by simp only [RelDs] at h;subst h;rfl
 |_::_,_,h=>by simp only [RelDs] at h;obtain ⟨v,r,rfl,_,h2⟩:=h;simp [RelDs.length h2]
def RelDs.empty {K:zac}{H:Hp}{ds:List D}{vs:List V}(h:RelDs K H ds vs):ds.isEmpty=vs.isEmpty:=by have:=h.length;cases ds <;> cases vs <;> simp_all
section
variable {K:zac}{Y:St}{H:Hp}{Q:VK}{B:Bool->Hp->Prop}
def Pi {fa}(h:fU K (fB fa) Y H B):tB (av K fa) Y H B:=by
 obtain ⟨O,U,m,d,U',hl,hs,e,k⟩:=h;obtain ⟨⟨x,U1⟩,e1,e⟩:=zab.mp e;split at e
 ·rename_i b q
  cases e;subst q;exact ⟨O,U,m,_,U1,hl,hs,e1,fun v H1 m1 x1 s1 r1=>⟨_,by simpa only [au,ao] using r1,k H1 m1 x1 s1⟩⟩
 ·cases e
def xR {fa}(h:fU K (fB fa) Y H B):Hd (av K fa) Y H B:=Pi h
theorem vZ {m:Tf}{U:ac}{x:R}{b:Bool}{v:V}(s:aI K m H U)(r:au K m H x v)(e:AO x U=some b):Gp K v H b:=by
 cases x with
 |v d =>
  cases d with
  |non=>cases e;cases r;rfl
  |bl c=>cases e;simp only [au,ao] at r;subst r;rfl
  |int i=>cases e;simp only [au,ao] at r;subst r;rfl
  |str x =>
   simp only [au,ao] at r;subst r;simp only [AO] at e;split at e
   ·rename_i z;cases e;exact ⟨z,rfl⟩
   ·cases e
  |tup xs =>
   cases e;simp only [au,ao] at r;obtain ⟨a,vs,rfl,q,r⟩:=r;exact .inr (.inl ⟨vs,q,by rw [r.empty]⟩)
  |fl xs =>
   cases e;simp only [au,ao] at r;obtain ⟨a,vs,rfl,q,r⟩:=r;exact .inl ⟨vs,q.sq,by rw [r.empty]⟩
  |fd ks ds=>cases e
  |key ks=>cases e
 |s b xs=>cases e
 |x _=>cases e
 |f _ _=>cases e
 |p n =>
  obtain ⟨a,rfl,ha⟩:=r;simp only [AO] at e;split at e
  ·rename_i xs q
   cases e;obtain ⟨vs,e,r⟩:=s.cell n _ a q ha;exact .inl ⟨vs,.inl (.inl e),by rw [r.empty]⟩
  ·rename_i xs q
   cases e;obtain ⟨o,vs,e,r⟩:=s.cell n _ a q ha;exact .inl ⟨vs,.inl (.inr ⟨o,e⟩),by rw [r.empty]⟩
  ·rename_i kvs q
   cases e;obtain ⟨es,e,k,r⟩:=s.cell n _ a q ha;refine .inr (.inr ⟨es,e,?_⟩);have:=congrArg List.length k;cases es <;> cases kvs <;> simp_all
  ·cases e
def Jd {fa}(h:fU K (j5 fa) Y H B):(fun Y H (Q:Bool->Hp->Prop)=>av K fa Y H fun x H1=>∃k,Gp K x H1 k/\Q k H1) Y H B:=by obtain ⟨O,U,m,d,U',hl,hs,e,k⟩:=h;obtain ⟨⟨x,U1⟩,e1,e⟩:=zab.mp e;obtain ⟨b,e2,e⟩:=zab.mp e;cases e;exact ⟨O,U,m,x,_,hl,hs,e1,fun v H1 m1 x1 s1 r1=>⟨_,vZ s1 r1 e2,k H1 m1 x1 s1⟩⟩
theorem Ex {t u}(h:fU K (k8 t u) Y H B):Mo (fU K t) (fU K u) Y H B:=by
 obtain ⟨O,U,m,d,U',hl,hs,e,k⟩:=h;obtain ⟨⟨c,U1⟩,e1,e⟩:=zab.mp e;refine ⟨O,U,m,c,U1,hl,hs,e1,fun H1 m1 x1 s1=>?_⟩
 cases c with
 |true=>exact ⟨O,U1,m1,d,U',hl.ext x1,s1,e,fun H2 m2 x2 s2=>k H2 m2 (x1.trans x2) s2⟩
 |false=>cases e;exact k H1 m1 x1 s1
theorem Je {t u}(h:fU K (v5 t u) Y H B):Q0 (fU K t) (fU K u) Y H B:=by
 obtain ⟨O,U,m,d,U',hl,hs,e,k⟩:=h;obtain ⟨⟨c,U1⟩,e1,e⟩:=zab.mp e;refine ⟨O,U,m,c,U1,hl,hs,e1,fun H1 m1 x1 s1=>?_⟩
 cases c with
 |false=>exact ⟨O,U1,m1,d,U',hl.ext x1,s1,e,fun H2 m2 x2 s2=>k H2 m2 (x1.trans x2) s2⟩
 |true=>cases e;exact k H1 m1 x1 s1
def Ew {t}(h:fU K (tW t) Y H B):Mj (fU K t) Y H B:=by obtain ⟨O,U,m,d,U',hl,hs,e,k⟩:=h;obtain ⟨⟨c,U1⟩,e1,e⟩:=zab.mp e;cases e;exact ⟨O,U,m,c,U1,hl,hs,e1,fun H1 m1 x1 s1=>k H1 m1 x1 s1⟩
def JB {fa fb}(h:av K (Dc fa fb) Y H Q):Hk (av K fa) (av K fb) Y H Q:=by
 obtain ⟨O,U,m,d,U',hl,hs,e,k⟩:=h;obtain ⟨⟨x,U1⟩,e1,e⟩:=zab.mp e;split at e
 ·rename_i c q;subst q;refine ⟨O,U,m,_,U1,hl,hs,e1,fun v H1 m1 x1 s1 r1=>⟨c,by simpa only [au,ao] using r1,?_⟩⟩
  cases c with
  |true=>exact ⟨O,U1,m1,d,U',hl.ext x1,s1,e,fun w H2 m2 x2 s2 r2=>k w H2 m2 (x1.trans x2) s2 r2⟩
  |false=>cases e;exact k _ H1 m1 x1 s1 (by simp only [au,ao])
 ·cases e
def MA {fa fb}(h:av K (Oz fa fb) Y H Q):Mi (av K fa) (av K fb) Y H Q:=by
 obtain ⟨O,U,m,d,U',hl,hs,e,k⟩:=h;obtain ⟨⟨x,U1⟩,e1,e⟩:=zab.mp e;split at e
 ·rename_i c q;subst q;refine ⟨O,U,m,_,U1,hl,hs,e1,fun v H1 m1 x1 s1 r1=>⟨c,by simpa only [au,ao] using r1,?_⟩⟩
  cases c with
  |false=>exact ⟨O,U1,m1,d,U',hl.ext x1,s1,e,fun w H2 m2 x2 s2 r2=>k w H2 m2 (x1.trans x2) s2 r2⟩
  |true=>cases e;exact k _ H1 m1 x1 s1 (by simp only [au,ao])
 ·cases e
def Jl {fa}(h:av K (pR fa) Y H Q):Hf (av K fa) Y H Q:=by
 obtain ⟨O,U,m,d,U',hl,hs,e,k⟩:=h;obtain ⟨⟨x,U1⟩,e1,e⟩:=zab.mp e;split at e
 ·rename_i c q
  cases e;subst q;exact ⟨O,U,m,_,U1,hl,hs,e1,fun v H1 m1 x1 s1 r1=>⟨c,by simpa only [au,ao] using r1,k _ H1 m1 x1 s1 (by simp only [au,ao])⟩⟩
 ·cases e
theorem ME {t fa fb}(h:av K (FU t fa fb) Y H Q):Q1 (fU K t) (av K fa) (av K fb) Y H Q:=by
 obtain ⟨O,U,m,d,U',hl,hs,e,k⟩:=h;obtain ⟨⟨c,U1⟩,e1,e⟩:=zab.mp e;refine ⟨O,U,m,c,U1,hl,hs,e1,fun H1 m1 x1 s1=>?_⟩
 cases c with
 |true=>exact ⟨O,U1,m1,d,U',hl.ext x1,s1,e,fun w H2 m2 x2 s2 r2=>k w H2 m2 (x1.trans x2) s2 r2⟩
 |false=>exact ⟨O,U1,m1,d,U',hl.ext x1,s1,e,fun w H2 m2 x2 s2 r2=>k w H2 m2 (x1.trans x2) s2 r2⟩
end
def vals:List R->Option (List D)
 |[]=>some []
 |.v d::r=>(vals r).bind fun ds=>some (d::ds)
 |.p _::_=>none
 |.s _ _::_=>none
 |.x _::_=>none
 |.f _ _::_=>none
theorem lU {K:zac}{m:Tf}{H:Hp}:∀{rs:List R} {ds:List D} {vs:List V},vals rs=some ds->aQ K m H rs vs->RelDs K H ds vs
 |[],_,_,e,h=>by cases e;simp only [RelDs];exact h
 |.v d::r,_,_,e,⟨v,vs,rfl,h1,h2⟩=>by obtain ⟨ds,e1,e⟩:=zab.mp e;cases e;simp only [RelDs];exact ⟨v,vs,rfl,h1,lU e1 h2⟩
 |.p _::_,_,_,e,_=>by cases e
 |.s _ _::_,_,_,e,_=>by cases e
 |.x _::_,_,_,e,_=>by cases e
 |.f _ _::_,_,_,e,_=>by cases e
def du (fa:FA):FE:=fun O U=>(fa O U).bind fun a=>(vals a.1).bind fun ds=>if ds.length<=sizeLine then some (.v (.tup ds),a.2) else none
def cN (fa:FA):FE:=fun O U=>(fa O U).bind fun a=>(vals a.1).bind fun ds=>if ds.length<=sizeLine then some (.p a.2.length,a.2++[.lst ds]) else none
section
variable {K:zac}{m:Tf}{Y:St}{H:Hp}{Q:VK}{U:ac}
def kG {ds:List D}{vs:List V}{p:Addr}(s:aI K m H U)(r:RelDs K H ds vs)(hp:H p=none):dM m H m (upd H p (.tup vs))/\aI K m (upd H p (.tup vs)) U/\au K m (upd H p (.tup vs)) (.v (.tup ds)) (.ref p):=by refine ⟨.new hp,s.same (dA hp),?_⟩;simp only [au,ao];exact ⟨p,vs,rfl,.inl (.inl cp),RelDs.tf (.of (dA hp)) _ _ r⟩
def f9 {ds:List D}{vs:List V}{p:Addr}(s:aI K m H U)(r:RelDs K H ds vs)(hp:H p=none):dM m H (m++[p]) (upd H p (.lst vs))/\aI K (m++[p]) (upd H p (.lst vs)) (U++[.lst ds])/\au K (m++[p]) (upd H p (.lst vs)) (.p U.length) (.ref p):=by refine ⟨.newH hp,s.newH hp ⟨vs,cp,RelDs.tf (.of (dA hp)) _ _ r⟩,p,rfl,?_⟩;rw [←s.len];simp
def Jb {fa}(h:av K (du fa) Y H Q):Md (gp K fa) Y H Q:=by
 obtain ⟨O,U,m,d,U',hl,hs,e,k⟩:=h;obtain ⟨⟨xs,U1⟩,e1,e⟩:=zab.mp e;obtain ⟨ds,e2,e⟩:=zab.mp e;split at e
 ·rename_i z
  cases e;refine ⟨O,U,m,xs,_,hl,hs,e1,fun vs H1 m1 x1 s1 r1=>?_⟩;have r2:=lU e2 r1;refine ⟨by rw [←r2.length];exact z,fun p hp=>?_⟩;obtain ⟨a,b,c⟩:=kG s1 r2 hp;exact k _ _ _ (x1.trans a) b c
 ·cases e
def Jn {fa}(h:av K (cN fa) Y H Q):Ml (gp K fa) Y H Q:=by
 obtain ⟨O,U,m,d,U',hl,hs,e,k⟩:=h;obtain ⟨⟨xs,U1⟩,e1,e⟩:=zab.mp e;obtain ⟨ds,e2,e⟩:=zab.mp e;split at e
 ·rename_i z
  cases e;refine ⟨O,U,m,xs,_,hl,hs,e1,fun vs H1 m1 x1 s1 r1=>?_⟩;have r2:=lU e2 r1;refine ⟨by rw [←r2.length];exact z,fun p hp=>?_⟩;obtain ⟨a,b,c⟩:=f9 s1 r2 hp;exact k _ _ _ (x1.trans a) b c
 ·cases e
end
def aT:FS:=fun O U=>some (.nx O U)
def aB (a b:FS):FS:=fun O U=>(a O U).bind fun o=>match o with|.nx O' U'=>b O' U'|o=>some o
def sm:FS:=fun O U=>some (.bk O U)
def cC (f:FE):FS:=fun O U=>(f O U).bind fun a=>some (.nx O a.2)
def bD (f:FE):FS:=fun O U=>(f O U).bind fun a=>some (.rt a.1 a.2)
def gm (t:FT)(a b:FS):FS:=fun O U=>(t O U).bind fun c=>if c.1=true then a O c.2 else b O c.2
def aK (i:Nat)(f:FE):FS:=fun O U=>(f O U).bind fun a=>some (.nx (O.set i (some a.1)) a.2)
section
variable {K:zac}{m m' m1:Tf}{Y:St}{H H' H1:Hp}{D:eN}{U:ac}{O:Lo}
theorem eN.of_ext {o:oJ}(x:dM m H m1 H1)(h:eN.of K m H D o):eN.of K m1 H1 D o:=by
 cases o with
 |nx O U=>exact fun Y H' m' y=>h Y H' m' (x.trans y)
 |bk O U=>exact fun Y H' m' y=>h Y H' m' (x.trans y)
 |ct O U=>exact fun Y H' m' y=>h Y H' m' (x.trans y)
 |rt d U=>exact fun Y H' m' y=>h Y H' m' (x.trans y)
def dZ.set {d:R}{v:V}(h:dZ K m H O Y)(r:au K m H d v)(i:Nat):dZ K m H (O.set i (some d)) (Y.set i (some v)):=by
 refine ⟨by simp [h.1],fun j d' e=>?_⟩;by_cases hj:j=i
 ·subst hj;by_cases hi:j < O.length
  ·rw [zaT hi] at e
   cases e;exact ⟨v,zaT (by rw [←h.1];exact hi),r⟩
  ·rw [zch (by simp;omega)] at e
   cases e
 ·rw [zaz (Ne.symm hj)] at e;obtain ⟨u,q1,q2⟩:=h.2 j d' e;exact ⟨u,by rw [zaz (Ne.symm hj)];exact q1,q2⟩
def EA (h:eP K aT D Y H):Hg D Y H:=by obtain ⟨O,U,m,o,hl,hs,e,k⟩:=h;cases e;exact k Y H m .refl hs hl
theorem Jh {a b}(h:eP K (aB a b) D Y H):Me (eP K a) (eP K b) D Y H:=by
 obtain ⟨O,U,m,o,hl,hs,e,k⟩:=h;obtain ⟨o1,e1,e⟩:=zab.mp e;refine ⟨O,U,m,o1,hl,hs,e1,?_⟩
 cases o1 with
 |nx O1 U1=>exact fun Y1 H1 m1 x1 s1 l1=>⟨O1,U1,m1,o,l1,s1,e,eN.of_ext x1 k⟩
 |bk O1 U1=>cases e;exact k
 |ct O1 U1=>cases e;exact k
 |rt d U1=>cases e;exact k
def BF (h:eP K sm D Y H):Ba D Y H:=by obtain ⟨O,U,m,o,hl,hs,e,k⟩:=h;cases e;exact k Y H m .refl hs hl
def EF {f}(h:eP K (cC f) D Y H):Hj (av K f) D Y H:=by obtain ⟨O,U,m,o,hl,hs,e,k⟩:=h;obtain ⟨⟨x,U1⟩,e1,e⟩:=zab.mp e;cases e;exact ⟨O,U,m,x,U1,hl,hs,e1,fun v H1 m1 x1 s1 r1=>k Y H1 m1 x1 s1 (hl.ext x1)⟩
def Jj {f}(h:eP K (bD f) D Y H):Mf (av K f) D Y H:=by obtain ⟨O,U,m,o,hl,hs,e,k⟩:=h;obtain ⟨⟨x,U1⟩,e1,e⟩:=zab.mp e;cases e;exact ⟨O,U,m,x,U1,hl,hs,e1,k⟩
theorem Jo {t a b}(h:eP K (gm t a b) D Y H):Mm (fU K t) (eP K a) (eP K b) D Y H:=by
 obtain ⟨O,U,m,o,hl,hs,e,k⟩:=h;obtain ⟨⟨c,U1⟩,e1,e⟩:=zab.mp e;refine ⟨O,U,m,c,U1,hl,hs,e1,fun H1 m1 x1 s1=>?_⟩
 cases c with
 |true=>exact ⟨O,U1,m1,o,hl.ext x1,s1,e,eN.of_ext x1 k⟩
 |false=>exact ⟨O,U1,m1,o,hl.ext x1,s1,e,eN.of_ext x1 k⟩
def Bw {i f}(h:eP K (aK i f) D Y H):Bb (av K f) (qZ i) D Y H:=by obtain ⟨O,U,m,o,hl,hs,e,k⟩:=h;obtain ⟨⟨x,U1⟩,e1,e⟩:=zab.mp e;cases e;exact ⟨O,U,m,x,U1,hl,hs,e1,fun v H1 m1 x1 s1 r1=>k _ H1 m1 x1 s1 ((hl.ext x1).set r1 i)⟩
end
abbrev FG:=R->Lo->ac->Option (Lo×ac)
def qp (K:zac)(g:FG):TG:=fun v Y H Q=>∃O U m d O' U',dZ K m H O Y/\aI K m H U/\au K m H d v/\g d O U=some (O',U') /\
 ∀Y' H' m',dM m H m' H'->aI K m' H' U'->dZ K m' H' O' Y'->Q Y' H'
abbrev Ij:=List R->Lo->ac->Option (Lo×ac)
def uh (K:zac)(g:Ij):D3:=fun vs Y H Q=>∃O U m ds O' U',dZ K m H O Y/\aI K m H U/\aQ K m H ds vs/\g ds O U=some (O',U') /\
 ∀Y' H' m',dM m H m' H'->aI K m' H' U'->dZ K m' H' O' Y'->Q Y' H'
def b7 (i:Nat):FG:=fun d O U=>some (O.set i (some d),U)
def eG:Ij:=fun ds O U=>match ds with|[]=>some (O,U)|_=>none
def aN (g:FG)(r:Ij):Ij:=fun ds O U=>match ds with|[]=>none|d::ds=>(g d O U).bind fun a=>r ds a.1 a.2
def qX (n:Nat)(g:Ij):FG:=fun d O U=>match d with|.v (.tup xs)=>if xs.length=n then g (xs.map .v) O U else none|_=>none
def pe (f:FE)(g:FG):FS:=fun O U=>(f O U).bind fun a=>(g a.1 O a.2).bind fun b=>some (.nx b.1 b.2)
section
variable {K:zac}{m m1:Tf}{Y:St}{H H1:Hp}{D:eN}{U:ac}{O:Lo}{v:V}{Q:St->Hp->Prop}
def Jt {i}(h:qp K (b7 i) v Y H Q):qZ i v Y H Q:=by obtain ⟨O,U,m,d,O',U',hl,hs,r,e,k⟩:=h;cases e;exact k _ H m .refl hs (hl.set r i)
theorem BA {vs}(h:uh K eG vs Y H Q):NK vs Y H Q:=by
 obtain ⟨O,U,m,ds,O',U',hl,hs,r,e,k⟩:=h
 cases ds with
 |nil=>cases e;exact ⟨r,k Y H m .refl hs hl⟩
 |cons d ds=>cases e
theorem zr {g r vs}(h:uh K (aN g r) vs Y H Q):HV (qp K g) (uh K r) vs Y H Q:=by
 obtain ⟨O,U,m,ds,O',U',hl,hs,rr,e,k⟩:=h
 cases ds with
 |nil=>cases e
 |cons d ds =>
  obtain ⟨v,vr,rfl,r1,r2⟩:=rr;obtain ⟨⟨O1,U1⟩,e1,e⟩:=zab.mp e;refine ⟨v,vr,rfl,O,U,m,d,O1,U1,hl,hs,r1,e1,fun Y1 H1 m1 x1 s1 l1=>?_⟩;exact ⟨O1,U1,m1,ds,O',U',l1,s1,r2.ext x1,e,fun Y2 H2 m2 x2 s2 l2=>k Y2 H2 m2 (x1.trans x2) s2 l2⟩
theorem RelDs.rs:∀{ds:List HW.D} {vs:List V},RelDs K H ds vs->aQ K m H (ds.map .v) vs
 |[],_,h=>by simp only [RelDs] at h;exact h
 |d::ds,_,h=>by simp only [RelDs] at h;obtain ⟨v,r,rfl,h1,h2⟩:=h;exact ⟨v,r,rfl,h1,RelDs.rs h2⟩
def Js {n g}(h:qp K (qX n g) v Y H Q):NJ K n (uh K g) v Y H Q:=by
 obtain ⟨O,U,m,d,O',U',hl,hs,r,e,k⟩:=h;unfold qX at e;split at e
 ·rename_i xs;split at e
  ·rename_i hn;simp only [au,ao] at r;obtain ⟨a,vs,rfl,q,rr⟩:=r;exact ⟨a,vs,rfl,q,by rw [←rr.length];exact hn,O,U,m,_,O',U',hl,hs,rr.rs,e,k⟩
  ·cases e
 ·cases e
def JA {f g}(h:eP K (pe f g) D Y H):Bb (av K f) (qp K g) D Y H:=by obtain ⟨O,U,m,o,hl,hs,e,k⟩:=h;obtain ⟨⟨x,U1⟩,e1,e⟩:=zab.mp e;obtain ⟨⟨O2,U2⟩,e2,e⟩:=zab.mp e;cases e;exact ⟨O,U,m,x,U1,hl,hs,e1,fun v H1 m1 x1 s1 r1=>⟨O,U1,m1,x,O2,U2,hl.ext x1,s1,r1,e2,fun Y2 H2 m2 x2 s2 l2=>k Y2 H2 m2 (x1.trans x2) s2 l2⟩⟩
end
def gl:HO->Prop
 |.lst _=>True
 |.set _ _=>True
 |.dK _=>True
 |.dT _=>True
 |_=>False
def On (t:TE):TE:=fun Y H Q=>t Y H fun v H1=>Q v H1\/∃a u,H1 a=some u/\gl u/\∀o,Q v (upd H1 a (.frz o u))
def D1:R->ac->Option (D×ac)
 |.v d,U=>some (d,U)
 |.s _ _,_=>none
 |.x _,_=>none
 |.f _ _,_=>none
 |.p n,U=>match U[n]? with|some (.lst xs)=>some (.fl xs,U.set n (.fz xs))|some (.fz xs)=>some (.fl xs,U)|some (.dct kvs)=>some (.fd (kvs.map (·.1)) (kvs.map (·.2)),U.set n (.fzd kvs))|some (.fzd kvs)=>some (.fd (kvs.map (·.1)) (kvs.map (·.2)),U)|_=>none
def bP (f:FE):FE:=fun O U=>(f O U).bind fun a=>(D1 a.1 a.2).bind fun b=>some (.v b.1,b.2)
section
variable {K:zac}{m:Tf}{Y:St}{H:Hp}{U:ac}{Q:VK}
theorem HY {x:R}{d:D}{U':ac}{v:V}{B:Hp->Prop}(hs:aI K m H U)(r:au K m H x v)(e:D1 x U=some (d,U'))
  (k:∀H',dM m H m H'->aI K m H' U'->ao K H' d v->B H'):B H\/∃a u,H a=some u/\gl u/\∀o,B (upd H a (.frz o u)):=by
 cases x with
 |v d'=>cases e;exact .inl (k H .refl hs r)
 |s b xs=>cases e
 |x _=>cases e
 |f _ _=>cases e
 |p n =>
  obtain ⟨a,rfl,ha⟩:=r;simp only [D1] at e;split at e
  ·rename_i xs q
   cases e;obtain ⟨vs,ea,rr⟩:=hs.cell n _ a q ha;refine .inr ⟨a,_,ea,trivial,fun o=>?_⟩;have x:dM m H m (upd H a (.frz o (.lst vs))):=.put (zaH ha) ea (by simp) (by simp);refine k _ x (hs.put ha ea (by simp) (by simp) ⟨o,vs,cp,RelDs.tf x.tf _ _ rr⟩) ?_;simp only [ao];exact ⟨a,vs,rfl,.inl ⟨o,cp⟩,RelDs.tf x.tf _ _ rr⟩
  ·rename_i xs q
   cases e;obtain ⟨o,vs,ea,rr⟩:=hs.cell n _ a q ha;refine .inl (k H .refl hs ?_);simp only [ao];exact ⟨a,vs,rfl,.inl ⟨o,ea⟩,rr⟩
  ·rename_i kvs q
   cases e;obtain ⟨es,ea,ke,rr⟩:=hs.cell n _ a q ha;refine .inr ⟨a,_,ea,trivial,fun o=>?_⟩;have x:dM m H m (upd H a (.frz o (.dK es))):=.put (zaH ha) ea (by simp) (by simp);refine k _ x (hs.put ha ea (by simp) (by simp) ⟨o,es,cp,ke,RelDs.tf x.tf _ _ rr⟩) ?_;simp only [ao];exact ⟨a,o,es,rfl,cp,ke,RelDs.tf x.tf _ _ rr⟩
  ·rename_i kvs q
   cases e;obtain ⟨o,es,ea,ke,rr⟩:=hs.cell n _ a q ha;refine .inl (k H .refl hs ?_);simp only [ao];exact ⟨a,o,es,rfl,ea,ke,rr⟩
  ·cases e
def Hs {f}(h:av K (bP f) Y H Q):On (av K f) Y H Q:=by obtain ⟨O,U,m,d,U',hl,hs,e,k⟩:=h;obtain ⟨⟨x,U1⟩,e1,e⟩:=zab.mp e;obtain ⟨⟨d1,U2⟩,e2,e⟩:=zab.mp e;cases e;refine ⟨O,U,m,x,U1,hl,hs,e1,fun v H1 m1 x1 s1 r1=>?_⟩;exact HY (B:=fun H'=>Q v H') s1 r1 e2 fun H' y s2 r2=>k v H' m1 (x1.trans y) s2 r2
end
abbrev FI:=Lo->ac->Option (List D×ac)
structure DV (K:zac)(J:It)(xs:List D)(P:Hp->Prop):Prop where
 st:∀H H',TF H H'->P H->P H'
 stop:∀i H,P H->xs.length<=i->J.stop i H
 go:∀(i:Nat) d H,xs[i]?=some d->P H->J.go i H
 yld:∀(i:Nat) d H x H',xs[i]?=some d->P H->J.yld i H x H'->H'=H/\ao K H d x
def zt (K:zac)(f:FI):TI:=fun Y H R=>∃O U m xs U',dZ K m H O Y/\aI K m H U/\f O U=some (xs,U') /\
 ∀J P H' m',dM m H m' H'->aI K m' H' U'->DV K J xs P->P H'->R J H'
def dC (g:FG)(b:FS):List D->Lo->ac->Option oJ
 |[],O,U=>some (.nx O U)
 |x::xs,O,U=>(g (.v x) O U).bind fun a=>(b a.1 a.2).bind fun o=>match o with
  |.nx O' U'=>dC g b xs O' U'
  |.ct O' U'=>dC g b xs O' U'
  |.bk O' U'=>some (.nx O' U')
  |.rt d U'=>some (.rt d U')
def i7 (i:FI)(g:FG)(b:FS):FS:=fun O U=>(i O U).bind fun a=>dC g b a.1 O a.2
section
variable {K:zac}{m:Tf}{Y:St}{H:Hp}{U:ac}{D:eN}
def Ju {fi g b}(h:eP K (i7 fi g b) D Y H):IG (zt K fi) (qp K g) (eP K b) D Y H:=by
 obtain ⟨O,U,m,o,hl,hs,e,k⟩:=h;obtain ⟨⟨xs,U1⟩,e1,e⟩:=zab.mp e;refine ⟨O,U,m,xs,U1,hl,hs,e1,fun J P H1 m1 x1 s1 ok p1=>?_⟩;refine ⟨fun i n Y H=>n=xs.length - i/\i<=xs.length/\P H/\∃O U m,dZ K m H O Y/\aI K m H U/\dC g b (xs.drop i) O U=some o/\eN.of K m H D o,
  ⟨_,rfl,zbd _,p1,O,U1,m1,hl.ext x1,s1,by simpa using e,eN.of_ext x1 k⟩,?_⟩
 rintro i n Y H ⟨rfl,hi,p,O,U,m,hl,hs,e,k⟩;by_cases hlt:i < xs.length
 ·have hx:xs[i]?=some xs[i]:=zao hlt;rw [zbe hlt,dC] at e;obtain ⟨⟨O1,U1⟩,e1,e⟩:=zab.mp e;obtain ⟨o1,e2,e⟩:=zab.mp e;refine .inr ⟨ok.go i _ H hx p,fun Y H=>i+1<=xs.length/\P H/\∃O U m,dZ K m H O Y/\aI K m H U/\dC g b (xs.drop (i+1)) O U=some o/\eN.of K m H D o,
   fun Y' H' z=>⟨xs.length - (i+1),by omega,rfl,z⟩,fun x H' y=>?_⟩
  obtain ⟨rfl,rx⟩:=ok.yld i _ H x H' hx p y;refine ⟨O,U,m,.v xs[i],O1,U1,hl,hs,rx,e1,fun Y1 H1 m1 x1 s1 l1=>?_⟩;refine ⟨O1,U1,m1,o1,l1,s1,e2,?_⟩
  cases o1 with
  |nx O2 U2=>exact fun Y2 H2 m2 x2 s2 l2=>⟨hlt,ok.st _ _ (x1.trans x2).tf p,O2,U2,m2,l2,s2,e,eN.of_ext (x1.trans x2) k⟩
  |ct O2 U2=>exact fun Y2 H2 m2 x2 s2 l2=>⟨hlt,ok.st _ _ (x1.trans x2).tf p,O2,U2,m2,l2,s2,e,eN.of_ext (x1.trans x2) k⟩
  |bk O2 U2=>cases e;exact fun Y2 H2 m2 x2 s2 l2=>k Y2 H2 m2 (x1.trans x2) s2 l2
  |rt d U2=>cases e;exact fun v H2 m2 x2 s2 l2=>k v H2 m2 (x1.trans x2) s2 l2
 ·have:i=xs.length:=by omega
  subst this;rw [zc1,dC] at e;cases e;exact .inl ⟨ok.stop _ H p (zam _),k Y H m .refl hs hl⟩
end
def cw (f:FE):FI:=fun O U=>(bP f O U).bind fun a=>match a.1 with|.v (.fl xs)=>some (xs,a.2)|.v (.tup xs)=>some (xs,a.2)|_=>none
def Np (K:zac)(tl:TE):TI:=fun Y H R=>tl Y H fun x H1=>∃a,x=.ref a/\(((∃xs,jF K H1 a xs)/\R (QL K a) H1)\/((∃xs,gQ K H1 a xs)/\R (QK K a) H1))
def Al (f:FE):FI:=fun O U=>(f O U).bind fun a=>match a.1 with|.v (.int j)=>if -(2 ^ 62)<=j/\j < 2 ^ 62 then some ((List.range j.toNat).map fun i=>.int (i:Nat),a.2) else none|_=>none
section
variable {K:zac}{m:Tf}{Y:St}{H:Hp}{U:ac}{R:It->Hp->Prop}
theorem RelDs.get:∀{ds:List D} {vs:List V} {i:Nat} {d:D},RelDs K H ds vs->ds[i]?=some d->∃v,vs[i]?=some v/\ao K H d v
 |[],_,_,_,_,e=>by simp at e
 |x::xs,vs,0,d,h,e=>by simp only [RelDs] at h;obtain ⟨v,r,rfl,h1,h2⟩:=h;simp at e;subst e;exact ⟨v,rfl,h1⟩
 |x::xs,vs,i+1,d,h,e=>by simp only [RelDs] at h;obtain ⟨v,r,rfl,h1,h2⟩:=h;obtain ⟨u,q1,q2⟩:=RelDs.get (i:=i) h2 (by simpa using e);exact ⟨u,by simpa using q1,q2⟩
def Kq {a vs xs}(r0:RelDs K H xs vs):DV K (QL K a) xs (fun H=>Lg K H a vs/\RelDs K H xs vs) where
 st:=fun H H' t ⟨f,r⟩=>⟨f.tf t,RelDs.tf t _ _ r⟩
 stop:=fun i H ⟨f,r⟩ hi=>⟨vs,f.sq,by rw [←r.length];exact hi⟩
 go:=fun i d H e ⟨f,r⟩=>let ⟨v,q,_⟩:=r.get e;⟨vs,v,f.sq,q⟩
 yld:=fun i d H x H' e ⟨f,r⟩ ⟨e1,e2⟩=>by obtain ⟨v,q,rv⟩:=r.get e;have:=e2 vs f.sq;rw [q] at this;cases this;exact ⟨e1,rv⟩
def Ko {a vs xs}(r0:RelDs K H xs vs):DV K (QK K a) xs (fun H=>gQ K H a vs/\RelDs K H xs vs) where
 st:=fun H H' t ⟨f,r⟩=>⟨gQ.tf t f,RelDs.tf t _ _ r⟩
 stop:=fun i H ⟨f,r⟩ hi=>⟨vs,f,by rw [←r.length];exact hi⟩
 go:=fun i d H e ⟨f,r⟩=>let ⟨v,q,_⟩:=r.get e;⟨vs,v,f,q⟩
 yld:=fun i d H x H' e ⟨f,r⟩ ⟨e1,e2⟩=>by obtain ⟨v,q,rv⟩:=r.get e;have:=e2 vs f;rw [q] at this;cases this;exact ⟨e1,rv⟩
def Kp (lo:Int)(n:Nat):DV K (O8 lo n) ((List.range n).map fun k=>.int (lo+(k:Nat))) (fun _=>True) where
 st:=fun _ _ _ _=>trivial
 stop:=fun i H _ hi=>by show n<=i;simpa using hi
 go:=fun i d H e _=>by
  have:=(zat.mp e).1
  show i < n;simpa using this
 yld:=fun i d H x H' e _ ⟨e1,e2⟩=>by
  have hi:=(zat.mp e).1;have hi':i < n:=by simpa using hi
  refine ⟨e1,?_⟩;simp [hi'] at e;subst e e2;simp only [ao]
def EC {f}(h:zt K (cw f) Y H R):Np K (On (av K f)) Y H R:=by
 obtain ⟨O,U,m,xs,U',hl,hs,e,k⟩:=h;obtain ⟨⟨x,U1⟩,e1,e⟩:=zab.mp e;refine Hs ⟨O,U,m,x,U1,hl,hs,e1,fun v H1 m1 x1 s1 r1=>?_⟩;split at e
 ·rename_i ys q
  cases e;simp only at q;subst q;simp only [au,ao] at r1;obtain ⟨a,vs,rfl,f,r⟩:=r1;exact ⟨a,rfl,.inl ⟨⟨vs,f.sq⟩,k _ _ H1 m1 x1 s1 (Kq r) ⟨f,r⟩⟩⟩
 ·rename_i ys q
  cases e;simp only at q;subst q;simp only [au,ao] at r1;obtain ⟨a,vs,rfl,f,r⟩:=r1;exact ⟨a,rfl,.inr ⟨⟨vs,f⟩,k _ _ H1 m1 x1 s1 (Ko r) ⟨f,r⟩⟩⟩
 ·cases e
def Jq {f}(h:zt K (Al f) Y H R):HU (gp K (ae f ak)) Y H R:=by
 obtain ⟨O,U,m,xs,U',hl,hs,e,k⟩:=h;obtain ⟨⟨x,U1⟩,e1,e⟩:=zab.mp e;refine ⟨O,U,m,[x],U1,hl,hs,by simp [ae,ak,e1],fun vs H1 m1 x1 s1 r1=>?_⟩;split at e
 ·rename_i j q;split at e
  ·rename_i z
   cases e;simp only at q;subst q;obtain ⟨v,r,rfl,r1,r2⟩:=r1;have r2:r=[]:=r2;simp only [au,ao] at r1;subst r1 r2;have:=Kp (K:=K) 0 j.toNat;simp only [Int.zero_add] at this
   exact ⟨j,rfl,z.1,z.2,k _ _ H1 m1 x1 s1 this trivial⟩
  ·cases e
 ·cases e
end
end HW
namespace HW
variable {K:zac}
open L2
abbrev MF:=List D->Option D
def vJ (H H':Hp):Prop:=∀a o,H a=some o->H' a=some o
def AF (K:zac)(n:Nat)(f:MF):Sp:=fun vs H Q _=>∃ds d,ds.length=n/\RelDs K H ds vs/\f ds=some d/\∀v H',vJ H H'->ao K H' d v->Q v H'
def fin:oJ->Option D
 |.rt r U=>(D1 r U).bind fun a=>some a.1
 |.nx _ _=>some .non
 |_=>none
def fG (k:Nat)(b:FS):MF:=fun ds=>(b (ds.map (fun d=>some (.v d))++List.replicate (k - ds.length) none) []).bind fin
def aL (f:MF)(n:Nat)(fa:FA):FE:=fun O U=>(fa O U).bind fun a=>(vals a.1).bind fun ds=>if ds.length=n then (f ds).bind fun d=>some (.v d,a.2) else none
section
variable {K:zac}{m:Tf}{Y:St}{H H':Hp}{U:ac}{Q:VK}
theorem vJ.ext (s:vJ H H'):dM m H m H':=⟨⟨[],by simp⟩,.of s,fun a o e _=>s a o e,fun a h=>by
 cases q:H a with
 |none=>rfl
 |some o=>rw [s a o q] at h;cases h⟩
def EH {f n fa}{E:XK}(h:av K (aL f n fa) Y H Q):tX (AF K n f) [] E (gp K fa) Y H Q:=by
 obtain ⟨O,U,m,d,U',hl,hs,e,k⟩:=h;obtain ⟨⟨xs,U1⟩,e1,e⟩:=zab.mp e;obtain ⟨ds,e2,e⟩:=zab.mp e;split at e
 ·rename_i hn;obtain ⟨d1,e3,e⟩:=zab.mp e;cases e;refine ⟨O,U,m,xs,_,hl,hs,e1,fun vs H1 m1 x1 s1 r1=>?_⟩;refine ⟨ds,d1,hn,by simpa using lU e2 r1,e3,fun v H2 z r2=>?_⟩;exact k v H2 m1 (x1.trans z.ext) (s1.same z) r2
 ·cases e
def qI {N:Tn}{ds:List D}{vs:List V}(r:RelDs K H ds vs):dZ K [] H (ds.map (fun d=>some (.v d))++List.replicate (N.length - ds.length) none) (L2.fw N vs):=by
 have hl:=r.length;unfold L2.fw;refine ⟨by simp [hl],fun i d e=>?_⟩;by_cases hi:i < ds.length
 ·rw [zai (by simpa using hi),zaE] at e
  cases q:ds[i]? with
  |none=>rw [q] at e;cases e
  |some d' =>
   rw [q] at e;cases e;obtain ⟨v,q1,q2⟩:=r.get q;exact ⟨v,by rw [zai (by simp;omega),zaE,q1];rfl,q2⟩
 ·rw [zaN (by simpa using hi),zb2] at e;split at e <;> cases e
def Fc (Q:VK):VK:=fun v H=>Q v H\/∃a u,H a=some u/\gl u/\∀o,Q v (upd H a (.frz o u))
def dM.sam (x:dM [] H m H'):vJ H H':=fun a o e=>x.keep a o e (by simp)
theorem IV {N:Tn}{b:FS}{ds:List D}{vs:List V}{d:D}{E:XK}(r:RelDs K H ds vs)(e:fG N.length b ds=some d)(k:∀v H',vJ H H'->ao K H' d v->Q v H') :
  eP K b {nx:=fun _ H'=>Fc Q .non H',rt:=Fc Q} (L2.fw N vs) H:=by
 obtain ⟨o,e1,e⟩:=zab.mp e;refine ⟨_,[],[],o,qI r,.nil,e1,?_⟩
 cases o with
 |nx O U =>
  cases e;exact fun Y H' m' x _ _=>.inl (k _ _ x.sam (by simp only [ao]))
 |bk O U=>cases e
 |ct O U=>cases e
 |rt q U =>
  obtain ⟨⟨d1,U1⟩,e2,e⟩:=zab.mp e;cases e;intro v H' m' x s r';exact HY (B:=fun H'=>Q v H') s r' e2 fun H2 y s2 r2=>k v H2 (x.trans y).sam r2
end
def wT (C:Int->Int->Bool)(f:Int->Int->D):R->R->ac->Option (R×ac)
 |.v (.int i),.v (.int j),U=>if C i j=true then some (.v (f i j),U) else none
 |_,_,_=>none
def gI {C:Int->Int->Bool}{C':Int->Int->Prop}{f:Int->Int->D}{g:Int->Int->V}(hC:∀i j,C i j=true->C' i j)(hg:∀H i j,ao K H (f i j) (g i j)):qf K (wT C f) (rI C' g):=by
 intro m H U x y d U' v u Q s rx ry e k;unfold wT at e;split at e
 ·rename_i i j;split at e
  ·rename_i z
   cases e;simp only [au,ao] at rx ry;subst rx ry;exact ⟨i,j,rfl,rfl,hC i j z,k _ H m .refl s (hg H i j)⟩
  ·cases e
 ·cases e
def Oy {f:Int->Int->D}{g:Int->Int->V}(hg:∀H i j,ao K H (f i j) (g i j)):qf K (wT (fun _ _=>true) f) (zu g):=by
 intro m H U x y d U' v u Q s rx ry e k;unfold wT at e;split at e
 ·rename_i i j;split at e
  ·cases e;simp only [au,ao] at rx ry;subst rx ry;exact ⟨i,j,rfl,rfl,k _ H m .refl s (hg H i j)⟩
  ·cases e
 ·cases e
abbrev iU:=wT (fun _ _=>true) fun i j=>.int (i - j)
abbrev mV:=wT (fun i j=>decide (-(2 ^ 64) < i/\i < 2 ^ 64) || decide (-(2 ^ 64) < j/\j < 2 ^ 64)) fun i j=>.int (i * j)
abbrev fI:=wT (fun _ j=>decide (0 < j/\j < 1073741824)) fun i j=>.int (i / j)
abbrev bO:=wT (fun _ j=>decide (0 < j)) fun i j=>.int (i % j)
abbrev iL:=wT (fun i j=>decide (0<=j/\j<=1000000/\i.natAbs < 2 ^ 64)) fun i j=>.int (i ^ j.toNat)
abbrev Ng:=wT (fun _ _=>true) fun i j=>.bl (decide (i < j))
abbrev HP:=wT (fun _ _=>true) fun i j=>.bl (decide (i<=j))
abbrev Nq:=wT (fun _ _=>true) fun i j=>.bl (decide (j < i))
def n9:R->ac->Option (R×ac)
 |.v (.int i),U=>some (.v (.int (-i)),U)
 |_,_=>none
section
variable {K:zac}
def BL {H:Hp}{i:Int}:ao K H (.int i) (.int i):=by simp only [ao]
def Pp {H:Hp}{i:Bool}:ao K H (.bl i) (.bl i):=by simp only [ao]
def Nt:qf K iU (zu fun i j=>.int (i - j)):=Oy fun _ _ _=>BL
def Nx:qf K mV (rI DX fun i j=>.int (i * j)):=gI (fun i j h=>by simpa [DX] using h) fun _ _ _=>BL
def NG:qf K fI (rI Li fun i j=>.int (i / j)):=gI (fun i j h=>by simpa [Li] using h) fun _ _ _=>BL
def Ny:qf K bO (rI (fun _ j=>0 < j) fun i j=>.int (i % j)):=gI (fun i j h=>by simpa using h) fun _ _ _=>BL
def Nv:qf K iL (rI Lh fun i j=>.int (i ^ j.toNat)):=gI (fun i j h=>by simpa [Lh] using h) fun _ _ _=>BL
def PH:qf K Ng (zu fun i j=>.bl (decide (i < j))):=Oy fun _ _ _=>Pp
def PJ:qf K HP (zu fun i j=>.bl (decide (i<=j))):=Oy fun _ _ _=>Pp
def PL:qf K Nq (zu fun i j=>.bl (decide (j < i))):=Oy fun _ _ _=>Pp
def Nw:RI K n9 (rU fun i=>.int (-i)):=by
 intro m H U x d U' v Q s rx e k;unfold n9 at e;split at e
 ·rename_i i
  cases e;simp only [au,ao] at rx;subst rx;exact ⟨i,rfl,k _ H m .refl s (by simp only [au,ao])⟩
 ·cases e
end
def Gk:R->R->ac->Option (R×ac)
 |.v (.int i),.v (.int j),U=>some (.v (.int (i+j)),U)
 |.v (.str x),.v (.str y),U=>if x.length+y.length<=sizeLine then some (.v (.str (x++y)),U) else none
 |.v (.tup xs),.v (.tup ys),U=>if xs≠[]/\xs.length+ys.length<=sizeLine then some (.v (.tup (xs++ys)),U) else none
 |.p a,.p b,U=>match U[a]?,U[b]? with|some (.lst xs),some (.lst ys)=>if xs.length+ys.length<=sizeLine then some (.p U.length,U++[.lst (xs++ys)]) else none|_,_=>none
 |_,_,_=>none
def MQ:R2:=fun x y H Q=>∃i j,x=.str i/\y=.str j/\i.length+j.length<=sizeLine/\Q (.str (i++j)) H
def Pk (r r':R2):R2:=fun x y H Q=>r x y H Q\/r' x y H Q
def HA (K:zac):R2:=Pk (zu fun i j=>.int (i+j)) (Pk MQ (Pk (Hx K) MP))
theorem RelDs.append {K:zac}{H:Hp}:∀{xs ys:List D} {vs ws:List V},RelDs K H xs vs->RelDs K H ys ws->RelDs K H (xs++ys) (vs++ws)
 |[],_,_,_,h,h'=>by simp only [RelDs] at h;subst h;exact h'
 |x::xs,_,_,_,h,h'=>by
  simp only [RelDs] at h;obtain ⟨v,r,rfl,h1,h2⟩:=h
  show RelDs K H (x::(xs++_)) _
  simp only [RelDs];exact ⟨v,r++_,rfl,h1,RelDs.append h2 h'⟩
def RelDs.nil_iff {H:Hp}{xs:List D}{vs:List V}(h:RelDs K H xs vs):xs=[] ↔ vs=[]:=by have:=h.length;cases xs <;> cases vs <;> simp_all
def NI :qf K Gk (HA K):=by
 intro m H U x y d U' v u Q s rx ry e k;unfold Gk at e;split at e
 ·cases e;simp only [au,ao] at rx ry;subst rx ry;exact .inl ⟨_,_,rfl,rfl,k _ H m .refl s (by simp only [au,ao])⟩
 ·split at e
  ·rename_i z
   cases e;simp only [au,ao] at rx ry;subst rx ry;exact .inr (.inl ⟨_,_,rfl,rfl,z,k _ H m .refl s (by simp only [au,ao])⟩)
  ·cases e
 ·split at e
  ·rename_i z
   cases e;simp only [au,ao] at rx ry;obtain ⟨a,vs,rfl,qa,ra⟩:=rx;obtain ⟨b,ws,rfl,qb,rb⟩:=ry;refine .inr (.inr (.inl ⟨a,b,vs,ws,rfl,rfl,qa,qb,fun h=>z.1 (ra.nil_iff.mpr h),by rw [←ra.length,←rb.length];exact z.2,fun h=>?_,fun h p hp=>?_⟩))
   ·refine k _ H m .refl s ?_;have:=rb.nil_iff.mpr h;subst this;simp only [au,ao,za2];exact ⟨a,vs,rfl,qa,ra⟩
   ·obtain ⟨x1,x2,x3⟩:=kG s (ra.append rb) hp;exact k _ _ _ x1 x2 x3
  ·cases e
 ·split at e
  ·rename_i xs ys qa qb;split at e
   ·rename_i z
    cases e;obtain ⟨a',rfl,ha⟩:=rx;obtain ⟨b',rfl,hb⟩:=ry;obtain ⟨vs,ea,ra⟩:=s.cell _ _ a' qa ha;obtain ⟨ws,eb,rb⟩:=s.cell _ _ b' qb hb;refine .inr (.inr (.inr ⟨a',b',vs,ws,rfl,rfl,ea,eb,by rw [←ra.length,←rb.length];exact z,fun p hp=>?_⟩));obtain ⟨x1,x2,x3⟩:=f9 s (ra.append rb) hp;exact k _ _ _ x1 x2 x3
   ·cases e
  ·cases e
 ·cases e
def dJ:R->ac->Option (List D)
 |.v (.tup xs),_=>some xs
 |.v (.fl xs),_=>some xs
 |.p n,U=>match U[n]? with|some (.lst xs)=>some xs|some (.fz xs)=>some xs|_=>none
 |_,_=>none
def kW:R->ac->Option (List D)
 |.v (.fl xs),_=>some xs
 |.p n,U=>match U[n]? with|some (.lst xs)=>some xs|some (.fz xs)=>some xs|_=>none
 |_,_=>none
section
variable {K:zac}{m:Tf}{H:Hp}{U:ac}
def jb {x:R}{xs:List D}{v:V}(s:aI K m H U)(r:au K m H x v)(e:kW x U=some xs):∃a vs,v=.ref a/\jF K H a vs/\RelDs K H xs vs:=by
 unfold kW at e;split at e
 ·cases e;simp only [au,ao] at r;obtain ⟨a,vs,rfl,q,r⟩:=r;exact ⟨a,vs,rfl,q.sq,r⟩
 ·obtain ⟨a,rfl,ha⟩:=r;split at e
  ·rename_i q
   cases e;obtain ⟨vs,e,r⟩:=s.cell _ _ a q ha;exact ⟨a,vs,rfl,.inl (.inl e),r⟩
  ·rename_i q
   cases e;obtain ⟨o,vs,e,r⟩:=s.cell _ _ a q ha;exact ⟨a,vs,rfl,.inl (.inr ⟨o,e⟩),r⟩
  ·cases e
 ·cases e
theorem iN {x:R}{xs:List D}{v:V}(s:aI K m H U)(r:au K m H x v)(e:dJ x U=some xs):∃a vs,v=.ref a/\(jF K H a vs\/gQ K H a vs)/\RelDs K H xs vs:=by
 cases x with
 |v d =>
  cases d with
  |tup ys =>
   cases e;simp only [au,ao] at r;obtain ⟨a,vs,rfl,q,r⟩:=r;exact ⟨a,vs,rfl,.inr q,r⟩
  |fl ys=>obtain ⟨a,vs,q1,q2,q3⟩:=jb s r (xs:=xs) e;exact ⟨a,vs,q1,.inl q2,q3⟩
  |non=>cases e
  |bl _=>cases e
  |int _=>cases e
  |str _=>cases e
  |fd _ _=>cases e
  |key _=>cases e
 |p n=>obtain ⟨a,vs,q1,q2,q3⟩:=jb s r (xs:=xs) e;exact ⟨a,vs,q1,.inl q2,q3⟩
 |s _ _=>cases e
 |x _=>cases e
 |f _ _=>cases e
end
def bh:R->R->ac->Option (R×ac)
 |x,.v (.int i),U=>(dJ x U).bind fun xs=>(mI xs i).bind fun d=>some (.v d,U)
 |_,_,_=>none
def fP:List R->ac->Option (R×ac)
 |[x],U=>(dJ x U).bind fun xs=>some (.v (.int xs.length),U)
 |_,_=>none
def Gi {H:Hp}{xs:List D}{vs:List V}{i:Int}{d:D}(r:RelDs K H xs vs)(e:mI xs i=some d):∃v,mI vs i=some v/\ao K H d v:=by obtain ⟨j,e1,e2⟩:=zab.mp e;obtain ⟨v,q1,q2⟩:=r.get e2;exact ⟨v,by unfold mI;rw [←r.length,e1];exact q1,q2⟩
def PK :qf K bh (Q7 K):=by
 intro m H U x y d U' v u Q s rx ry e k;unfold bh at e;split at e
 ·rename_i i;obtain ⟨xs,e1,e⟩:=zab.mp e;obtain ⟨d1,e2,e⟩:=zab.mp e;cases e;simp only [au,ao] at ry;subst ry;obtain ⟨a,vs,rfl,q,r⟩:=iN s rx e1;obtain ⟨w,q1,q2⟩:=Gi r e2;rcases q with q|q
  ·exact .inl ⟨a,vs,i,w,rfl,rfl,q,q1,k _ H m .refl s q2⟩
  ·exact .inr (.inl ⟨a,vs,i,w,rfl,rfl,q,q1,k _ H m .refl s q2⟩)
 ·cases e
def Pn (K:zac):List V->Hp->VK->Prop:=fun xs H Q=>∃p ys,xs=[.ref p]/\(jF K H p ys\/gQ K H p ys)/\Q (.int ys.length) H
def lB {m:Tf}{H:Hp}{x:R}{vs:List V}(r:aQ K m H [x] vs):∃v,vs=[v]/\au K m H x v:=by obtain ⟨v,r,rfl,h1,h2⟩:=r;have h2:r=[]:=h2;subst h2;exact ⟨v,rfl,h1⟩
def NA :vL K fP (Pn K):=by
 intro m H U xs d U' vs Q s r e k;unfold fP at e;split at e
 ·rename_i x;obtain ⟨ys,e1,e⟩:=zab.mp e;cases e;obtain ⟨v,rfl,r1⟩:=lB r;obtain ⟨a,ws,rfl,q,r⟩:=iN s r1 e1;exact ⟨a,ws,rfl,q,k _ H m .refl s (by simp only [au,ao];rw [r.length])⟩
 ·cases e
def pI:List R->ac->Option (R×ac)
 |[x],U=>(dJ x U).bind fun xs=>some (.p U.length,U++[.lst xs])
 |_,_=>none
def ML (K:zac):List V->Hp->VK->Prop:=fun xs H Q=>∃p ys,xs=[.ref p]/\(jF K H p ys\/gQ K H p ys)/\∀l,H l=none->Q (.ref l) (upd H l (.lst ys))
def Ky :vL K pI (ML K):=by
 intro m H U xs d U' vs Q s r e k;unfold pI at e;split at e
 ·rename_i x;obtain ⟨ys,e1,e⟩:=zab.mp e;cases e;obtain ⟨v,rfl,r1⟩:=lB r;obtain ⟨a,ws,rfl,q,r⟩:=iN s r1 e1;refine ⟨a,ws,rfl,q,fun p hp=>?_⟩;obtain ⟨x1,x2,x3⟩:=f9 s r hp;exact k _ _ _ x1 x2 x3
 ·cases e
def ze:List R->ac->Option (R×ac)
 |[x],U=>(dJ x U).bind fun xs=>some (.v (.tup xs),U)
 |_,_=>none
def MH (K:zac):List V->Hp->VK->Prop:=fun xs H Q=>∃p ys,xs=[.ref p]/\((jF K H p ys/\∀l,H l=none->Q (.ref l) (upd H l (.tup ys)))\/(gQ K H p ys/\Q (.ref p) H))
def Nr :vL K ze (MH K):=by
 intro m H U xs d U' vs Q s r e k;unfold ze at e;split at e
 ·rename_i x;obtain ⟨ys,e1,e⟩:=zab.mp e;cases e;obtain ⟨v,rfl,r1⟩:=lB r;obtain ⟨a,ws,rfl,q,r⟩:=iN s r1 e1;rcases q with q|q
  ·refine ⟨a,ws,rfl,.inl ⟨q,fun p hp=>?_⟩⟩;obtain ⟨x1,x2,x3⟩:=kG s r hp;exact k _ _ _ x1 x2 x3
  ·refine ⟨a,ws,rfl,.inr ⟨q,k _ H m .refl s ?_⟩⟩;simp only [au,ao];exact ⟨a,ws,rfl,q,r⟩
 ·cases e
def kq:R->List R->ac->Option (R×ac)
 |.p n,[.v d],U=>match U[n]? with|some (.lst xs)=>if xs.length < sizeLine then some (.v .non,U.set n (.lst (xs++[d]))) else none|_=>none
 |_,_,_=>none
def RK (K:zac)(g:R->List R->ac->Option (R×ac))(r:V->List V->Hp->VK->Prop):Prop :=
 ∀m H U x xs d U' v vs Q,aI K m H U->au K m H x v->aQ K m H xs vs->g x xs U=some (d,U')->(∀w H' m',dM m H m' H'->aI K m' H' U'->au K m' H' d w->Q w H')->r v vs H Q
def NH :RK K kq xV:=by
 intro m H U x xs d U' v vs Q s rx rs e k;unfold kq at e;split at e
 ·split at e
  ·rename_i ys q;split at e
   ·rename_i z
    cases e;obtain ⟨a,rfl,ha⟩:=rx;obtain ⟨w,rfl,rw'⟩:=lB rs;obtain ⟨ws,ea,ra⟩:=s.cell _ _ a q ha;have x:dM m H m (upd H a (.lst (ws++[w]))):=.put (zaH ha) ea (by simp) (by simp);refine ⟨a,ws,w,rfl,rfl,ea,by rw [←ra.length];exact z,k _ _ m x (s.put ha ea (by simp) (by simp) ⟨_,cp,?_⟩) (by simp only [au,ao])⟩;refine RelDs.tf x.tf _ _ (ra.append ?_);simp only [RelDs];exact ⟨w,[],rfl,rw',rfl⟩
   ·cases e
  ·cases e
 ·cases e
def cx (g:FG)(c:FT)(f:FE):List D->Lo->ac->Option (List D×ac)
 |[],_,U=>some ([],U)
 |x::xs,O,U=>(g (.v x) O U).bind fun a=>(c a.1 a.2).bind fun b=>if b.1=true then (f a.1 b.2).bind fun y=>match y.1 with
   |.v d=>(cx g c f xs a.1 y.2).bind fun r=>some (d::r.1,r.2)
   |_=>none
  else cx g c f xs a.1 b.2
def dR (k:Nat)(ix:List Nat)(O:Lo):Lo:=List.replicate k none++ix.map fun i=>(O[i]?).join
def eI (ix:List Nat)(k:Nat)(i:FI)(g:FG)(c:FT)(f:FE):FE:=fun O U=>(i O U).bind fun a=>if a.1.length<=sizeLine then
 (cx g c f a.1 (dR k ix O) a.2).bind fun r=>some (.p r.2.length,r.2++[.lst r.1]) else none
def jo:FT:=fun _ U=>some (true,U)
open PyProof.Rows
section
variable {X:Cx}
def PE.imp {t t':TE}(h:PE X e t)(k:∀{Y H Q},t' Y H Q->t Y H Q):PE X e t':=fun pins s Y H Q I q=>h pins s Y H Q I (k q)
def PT.imp {t t':TT}(h:PT X e t)(k:∀{Y H Q},t' Y H Q->t Y H Q):PT X e t':=fun pins s Y H Q I q=>h pins s Y H Q I (k q)
def PW.imp {t t':TT}(h:PW X e t)(k:∀{Y H Q},t' Y H Q->t Y H Q):PW X e t':=fun wh pins s Y H Q I q=>h wh pins s Y H Q I (k q)
def PA.imp {e:Tj}{t t':TA}(h:PA X e t)(k:∀{Y H Q},t' Y H Q->t Y H Q):PA X e t':=fun pos pins s Y H Q I q=>h pos pins s Y H Q I (k q)
def PS.imp {e:Stmt}{t t':TS}(h:PS X e t)(k:∀{D Y H},t' D Y H->t D Y H):PS X e t':=fun pins s Y H Q I q=>h pins s Y H Q I (k q)
def on.imp {e:Tk}{t t':TS}(h:on X e t)(k:∀{D Y H},t' D Y H->t D Y H):on X e t':=fun pins s Y H Q I q=>h pins s Y H Q I (k q)
def PI.imp {tg e:Expr}{t t':TI}(h:PI X tg e t)(k:∀{Y H R},t' Y H R->t Y H R):PI X tg e t':=fun pins s Y H R I q=>h pins s Y H R I (k q)
def PG.imp {t t':TG}(h:PG X e t)(k:∀{v Y H Q},t' v Y H Q->t v Y H Q):PG X e t':=fun pins s Y H v u Q I r q=>h pins s Y H v u Q I r (k q)
def D4.imp {e:Tj}{t t':D3}(h:D4 X e t)(k:∀{v Y H Q},t' v Y H Q->t v Y H Q):D4 X e t':=fun pins s Y H v u Q I r q=>h pins s Y H v u Q I r (k q)
end
section
variable {P:Program}{w:World}{H H0:Hp}{h h0:Heap}{a:Addr}{u:HO}{fs ex:Tf}
def gl.ne {b:Addr}{v:HO}(e:H a=some u)(hu:gl u)(q:H b=some v)(n:¬ gl v):b≠a:=fun z=>by rw [z,e] at q;cases q;exact n hu
def iS.frz (ok:iS P w H h)(e:H a=some u)(hu:gl u):∃o,iS P w (upd H a (.frz o u)) h:=by
 have ho:∃o,h.get? a=some o:=by
  have z:=ok a u e
  cases u with
  |lst xs=>obtain ⟨_,_,_,_,q⟩:=z;exact ⟨_,q⟩
  |set S n=>obtain ⟨o,_,_,_,q,_⟩:=z;exact ⟨_,q⟩
  |dK kvs=>obtain ⟨_,_,_,_,o,_,_,q,_⟩:=z;exact ⟨_,q⟩
  |dT kvs=>obtain ⟨_,_,_,_,o,_,_,q,_⟩:=z;exact ⟨_,q⟩
  |_=>exact hu.elim
 obtain ⟨o,ho⟩:=ho;refine ⟨o,fun b v q=>?_⟩;have own:∀c y,H c=some (.own y)->upd H a (.frz o u) c=some (.own y):=fun c y r=>by rw [L2.az (gl.ne e hu r fun z=>z)];exact r
 have tup:∀c xs,H c=some (.tup xs)->upd H a (.frz o u) c=some (.tup xs):=fun c xs r=>by rw [L2.az (gl.ne e hu r fun z=>z)];exact r
 by_cases hb:b=a
 ·subst hb;rw [L2.bx] at q;cases q;exact ⟨ho,(ok b u e).stay (fun c v _ q=>q) (fun c r=>own c _ r) tup⟩
 ·rw [L2.az hb] at q;exact (ok b v q).stay (fun c v _ q=>q) (fun c r=>own c _ r) tup
def Un.frz {o:Obj}(un:Un fs ex H0 H h0 h)(e:H a=some u)(hu:gl u):Un fs ex H0 (upd H a (.frz o u)) h0 h where
 keep:=un.keep
 slot:=un.slot
 free:=fun b ob q n hx=>by have z:=un.free b ob q n hx;rw [L2.az (fun y=>by rw [y,e] at z;cases z)];exact z
 there:=un.there
 tups:=fun b xs q=>by rw [L2.az (gl.ne e hu (un.tups b xs q) fun z=>z)];exact un.tups b xs q
 frzs:=fun b ob v q=>by rw [L2.az (gl.ne e hu (un.frzs b ob v q) fun z=>z)];exact un.frzs b ob v q
 tbls:=fun b ps q=>by obtain ⟨more,r⟩:=un.tbls b ps q;exact ⟨more,by rw [L2.az (gl.ne e hu r fun z=>z)];exact r⟩
def aA.frz {s:Shared}(I:aA X pins Y H s)(e:H a=some u)(hu:gl u):∃o,aA X pins Y (upd H a (.frz o u)) s:=by
 obtain ⟨o,ok⟩:=iS.frz I.hok e hu;have nn:∀b,H b=none->upd H a (.frz o u) b=none:=fun b z=>by rw [L2.az (fun y=>by rw [y,e] at z;cases z)];exact z
 refine ⟨o,I.ok,I.os,I.bare,Un.frz I.base e hu,I.loc,I.cell,nn _ I.free,fun x c q=>nn _ (I.freeC x c q),fun p hp=>?_,ok,I.len⟩;obtain ⟨q1,q2,q3⟩:=I.pin p hp;exact ⟨q1,nn _ q2,q3⟩
end
def wx {t:TE}(h:PE X e t):PE X e (On t):=fun pins s Y H Q I q=>by
 refine db (h pins s Y H _ I q) fun v s1 hh=>?_;obtain ⟨x,H1,I1,r1,q1⟩:=hh;rcases q1 with q1|⟨a,u,e,hu,q1⟩
 ·exact ⟨x,H1,I1,r1,q1⟩
 ·obtain ⟨o,I2⟩:=aA.frz I1 e hu;exact ⟨x,_,I2,r1,q1 o⟩
theorem cF.fz {mg:Td}{base:Heap}{CX:yU}{k:Nat}{f:Addr}{ps:Tn}{sp:Sp}(F:cF P w K mg base CX k f fd ps sp) :
  cF P w K mg base CX k f fd ps (fun vs H Q E=>sp vs H (Fc Q) E):=by
 refine ⟨fun vs H Q E h=>F.len vs H _ E h,fun A outer s H args us vs Q E hr he hb hv hs=>?_⟩;refine zbh (F.run A outer s H args us vs (Fc Q) E hr he hb hv hs) fun r s' hq=>?_
 cases r with
 |error e=>exact hq
 |ok fl =>
  cases fl with
  |next=>exact hq
  |brk=>exact hq
  |cont=>exact hq
  |ret u =>
   obtain ⟨v,H',os,bare,un,hok,rv,q⟩:=hq;rcases q with q|⟨a,u',e,hu,q⟩
   ·exact ⟨v,H',os,bare,un,hok,rv,q⟩
   ·obtain ⟨o,ok⟩:=iS.frz hok e hu
    exact ⟨v,_,os,bare,Un.frz un e hu,ok,rv,q o⟩
def oK.okP {P:Program}{w:World}{K:zac}{mg:Td}{base:Heap}{x qual:Str}{st:Stmt}{f:Addr}{fd:FuncData}{N ps:Tn}{k:Nat}{b:FS}(F:oK K x qual st f fd)(S:ax N ps (ai st))
  (hbody:∀(cdv:Value) (A:Around) (outer:List Env) (s:Shared) (H:Hp) (E:XK),bQ k (A.deeper (envOfC qual (ai st) s.heap.objs.size f cdv))->on (jE kT P w K mg base N qual (ai st) f cdv A outer s H E).nox (bu st) (eP K b)) :
  cF P w K mg base kT (k+1) f fd ps (AF K ps.length (fG N.length b)):=by
 have G:cF P w K mg base kT (k+1) f fd ps (fun vs H Q _=>vs.length=ps.length/\eP K b {nx:=fun _ H'=>Q .non H',rt:=Q} (L2.fw N vs) H) :=
  L2.oK.ok F S (fun vs H Q E h=>h.1) fun cdv A outer s H vs Q E hr h=>⟨_,hbody cdv A outer s H E hr,h.2⟩
 refine (cF.fz G).imp fun vs H Q E ⟨ds,d,hn,r,e,k⟩=>⟨by rw [←r.length];exact hn,IV (E:=E) r e k⟩
def E2 {X:Cx}{tg l:Expr}{tl:TE}(hl:PE X l tl):PI X tg l (Np X.K tl):=by
 intro pins s Y H R I h;refine db (hl pins s Y H _ I h) fun v s1 hh=>?_;obtain ⟨x,H1,I1,r1,q1⟩:=hh;obtain ⟨a,e,q1⟩:=q1;subst e;cases r1;rcases q1 with ⟨⟨xs,hq⟩,q⟩|⟨⟨xs,hq⟩,q⟩
 ·obtain ⟨its,rv,p,hz⟩:=I1.list hq;refine zcz p.isList ?_;refine ⟨s1.heap.objs.size,[s1.heap.objs.size],_,_,H1,rfl,I1.kept (t':=s1.toks) fun b o e=>zae _ e,zd a _,⟨_,zal _ rfl,rfl,rfl⟩,fun b hb=>?_,q⟩;have e:b=s1.heap.objs.size:=by simpa using hb
  subst e;exact I1.fpOk (zam _) (I1.hok.fresh (zam _))
 ·obtain ⟨its,rv,p,hz⟩:=I1.tuple hq;refine wpAny_pyIter_tuple (show s1.heap.IsTuple a its.toArray from p) ?_;refine ⟨s1.heap.objs.size,[s1.heap.objs.size],_,_,H1,rfl,I1.kept (t':=s1.toks) fun b o e=>zae _ e,vW a _,⟨_,zal _ rfl,rfl,rfl⟩,fun b hb=>?_,q⟩;have e:b=s1.heap.objs.size:=by simpa using hb
  subst e;exact I1.fpOk (zam _) (I1.hok.fresh (zam _))
theorem gG {env:Env}:∀{names:List (Str×NameKind)} {x:Str},
  (names.map fun (n,k)=>if (k == NameKind.free && env.scope.kind == .function && env.kindOf n == some .cell) then (n,NameKind.cell) else (n,k)).lookup x =
   (names.lookup x).map fun k=>if (k == NameKind.free && env.scope.kind == .function && env.kindOf x == some .cell) then NameKind.cell else k
 |[],_=>rfl
 |(n,k)::r,x=>by
  have ih:=@gG env r x
  show List.lookup x ((if (k == NameKind.free && env.scope.kind == .function && env.kindOf n == some .cell)=true then (n,NameKind.cell) else (n,k))::_)=_
  cases hx:x == n with
  |true =>
   have:x=n:=eq_of_beq hx;subst this;simp only [zba,hx,zbp]
   by_cases hc:(k == NameKind.free && env.scope.kind == .function && env.kindOf x == some .cell)=true
   ·simp [hc]
   ·simp [hc]
  |false =>
   by_cases hc:(k == NameKind.free && env.scope.kind == .function && env.kindOf n == some .cell)=true
   ·rw [if_pos hc];simp only [zba,hx];exact ih
   ·rw [if_neg hc];simp only [zba,hx];exact ih
theorem jn {env:Env}:∀(names:List (Str×NameKind)) (acc:List (Str×Addr)),(∀x c,acc.lookup x=some c->env.cells.lookup x=some c) ->
  (∀y∈names,y.2=.free->∃c,env.cells.lookup y.1=some c) ->
  ∃cl:List (Str×Addr),(forIn names acc fun (x:Str×NameKind) (r:List (Str×Addr))=>(if (x.2 == NameKind.free)=true then do let a ←cellOf env x.1;pure (ForInStep.yield ((x.1,a)::r)) else pure (ForInStep.yield r):Sem (ForInStep (List (Str×Addr)))))=pure cl /\
   (∀x c,cl.lookup x=some c->env.cells.lookup x=some c)/\(∀x c,acc.lookup x=some c->∃c',cl.lookup x=some c')/\∀y∈names,y.2=.free->∃c,cl.lookup y.1=some c
 |[],acc,h1,_=>⟨acc,rfl,h1,fun x c e=>⟨c,e⟩,fun y hy=>by simp at hy⟩
 |(n,k)::r,acc,h1,h2=>by
  by_cases hk:k=.free
  ·subst hk
   obtain ⟨c,hc⟩:=h2 (n,.free) zan rfl
   have step:∀x c',List.lookup x ((n,c)::acc)=some c'->env.cells.lookup x=some c':=fun x c' e=>by
    rw [zba] at e
    cases hx:x == n with
    |true=>rw [hx] at e;have:x=n:=eq_of_beq hx;subst this;rw [hc];exact e
    |false=>rw [hx] at e;exact h1 x c' e
   obtain ⟨cl,e,p1,p2,p3⟩:=jn r ((n,c)::acc) step fun y hy=>h2 y (zaj _ hy);have hn:∃c',List.lookup n ((n,c)::acc)=some c':=⟨c,by rw [zba];simp⟩;refine ⟨cl,?_,p1,fun x c' e'=>?_,fun y hy hf=>?_⟩
   ·rw [List.forIn_cons]
    show ((cellOf env n >>= fun a=>pure (ForInStep.yield ((n,a)::acc))) >>= _)=_
    unfold cellOf;rw [hc];exact e
   ·cases hx:x == n with
    |true=>have:x=n:=eq_of_beq hx;subst this;obtain ⟨c'',q⟩:=hn;exact p2 _ _ q
    |false=>exact p2 x c' (by rw [zba,hx];exact e')
   ·rcases zak.mp hy with rfl|hy
    ·obtain ⟨c'',q⟩:=hn;exact p2 _ _ q
    ·exact p3 y hy hf
  ·obtain ⟨cl,e,p1,p2,p3⟩:=jn r acc h1 fun y hy=>h2 y (zaj _ hy)
   have hb:(k == NameKind.free)=false:=by simpa using hk
   refine ⟨cl,?_,p1,p2,fun y hy hf=>?_⟩
   ·rw [List.forIn_cons]
    simp only [hb,zas,if_false];exact e
   ·rcases zak.mp hy with rfl|hy
    ·exact absurd hf hk
    ·exact p3 y hy hf
def p6 {env:Env}{scope:Scope}(h:∀y∈scope.names,y.2=.free->∃c,env.cells.lookup y.1=some c) :
  ∃cl,closureFor scope env=pure cl/\(∀x c,cl.lookup x=some c->env.cells.lookup x=some c)/\∀y∈scope.names,y.2=.free->∃c,cl.lookup y.1=some c:=by
 obtain ⟨cl,e,p1,_,p3⟩:=jn (env:=env) scope.names [] (fun x c e=>by simp at e) h;refine ⟨cl,?_,p1,p3⟩;unfold closureFor
 first
  |(show (forIn scope.names [] _ >>= fun r=>pure r)=_;rw [e];rfl)
  |(simp only [bind_pure];exact e)
structure aP (osc scope:Scope)(own:Tn)(caps:Tn):Prop where
 kind:scope.kind=.function
 cell:∀y∈scope.names,y.2=.cell->scope.names.lookup y.1=some .cell
 loc:∀y∈scope.names,y.2=.local->scope.names.lookup y.1=some .local
 free:∀y∈scope.names,y.2=.free->osc.names.lookup y.1=some .cell\/osc.names.lookup y.1=some .free
 cap:∀y∈caps,(y,NameKind.free)∈scope.names/\scope.names.lookup y=some .free
 nd:(own++caps).Nodup
def aM (X:Cx)(scope:Scope)(cl:List (Str×Addr))(C:Addr)(s₂:Shared)(H₂:Hp)(fp:Tf)(N:Tn):Cx :=
 {X with N:=N,s₀:=s₂,H₀:=H₂,env:=compEnvC scope cl C X.env,outer:=X.stack,stack:=X.stack,ex:=fp,fn:=fun x=>scope.names.lookup x == some .cell,pn:=[],xe:=fun _ _=>False}
def pH {names:List (Str×NameKind)}{x:Str}{k:NameKind}(h:names.lookup x=some k):(x,k)∈names:=PySem.mem_of_lookup h
structure Oh (X:Cx)(scope:Scope)(lo:Nat)(cl:List (Str×Addr)):Prop where
 src:∀x c,cl.lookup x=some c->(X.env.cells.lookup x=some c/\scope.names.lookup x≠some .cell)\/lo < c
 inj:∀x y c,cl.lookup x=some c->cl.lookup y=some c->x=y
 has:∀y∈scope.names,y.2=.free\/y.2=.cell->∃c,cl.lookup y.1=some c
 fr:∀y,scope.names.lookup y=some .free->∃c,cl.lookup y=some c/\X.env.cells.lookup y=some c
theorem p8 {X:Cx}{scope:Scope}{own caps:Tn}(n:aP X.env.scope scope own caps){cl:List (Str×Addr)}{C:Addr}{x:Str}{k:NameKind}(h:(compEnvC scope cl C X.env).kindOf x=some k)(hk:k=.cell\/k=.free) :
  ∃k,(x,k)∈scope.names/\(k=.free\/k=.cell):=by
 have h':(relabel scope X.env).names.lookup x=some k:=h;unfold relabel at h';rw [gG] at h'
 cases q:scope.names.lookup x with
 |none=>rw [q] at h';cases h'
 |some k0 =>
  rw [q,zbp] at h';have m:=pH q;have h2:=Option.some.inj h'
  by_cases hf:k0=.free
  ·subst hf;exact ⟨_,m,.inl rfl⟩
  ·have hb:(k0 == NameKind.free)=false:=by simpa using hf
   simp only [hb,zcw,zas,if_false] at h2;rcases hk with hk|hk
   ·exact ⟨_,m,.inr (h2.trans hk)⟩
   ·exact absurd (h2.trans hk) hf
theorem xk {X:Cx}{scope:Scope}{cl:List (Str×Addr)}{C:Addr}{x:Str}(h:scope.names.lookup x=some .free) :
  (compEnvC scope cl C X.env).kindOf x=some .cell\/(compEnvC scope cl C X.env).kindOf x=some .free:=by
 show (relabel scope X.env).names.lookup x=some .cell\/(relabel scope X.env).names.lookup x=some .free
 unfold relabel;rw [gG,h];simp only [zbp];split
 ·exact .inl rfl
 ·exact .inr rfl
def Oh.ne {H:Hp}{lo b:Nat}{cl:List (Str×Addr)}(B:Oh X scope lo cl)(f:mF X pins H b)(hb:b < lo){x:Str}{c:Addr}(e:cl.lookup x=some c):c≠b:=by
 rcases B.src x c e with ⟨z,_⟩|z
 ·exact f.2.2.2.2.1 x c z
 ·exact Ne.symm (zap (zcg hb z))
def DI {X:Cx}{H₂:Hp}{s₂:Shared}{scope:Scope}{own caps:Tn}{cl:List (Str×Addr)}{C:Addr}{fp:Tf}(I:aA X pins Y H₂ s₂)(n:aP X.env.scope scope own caps)
  (B:Oh X scope s₂.heap.objs.size cl) (hC:s₂.heap.objs.size<=C) (hfs:∀b∈fp,b < s₂.heap.objs.size) (hf:∀b∈fp,mF X pins H₂ b) :
  (aM X scope cl C s₂ H₂ fp (own++caps)).Ok:=by
 refine ⟨I.ok.mod,n.kind,I.ok.glob,I.ok.blt,hC,B.inj,fun x hx=>?_,fun x c h _=>?_,I.ok.hd,I.ok.frames,.inl rfl,fun b hb=>⟨zap (zax (hfs b hb) hC),fun x c e=>B.ne (hf b hb) (hfs b hb) e⟩,
  I.bs,zbg I.ok.bsz I.sz,fun b o e hb=>?_,fun b hb z=>?_,I.stack,I.stkFree⟩
 ·rcases hx with hx|hx
  ·obtain ⟨k,m,hk⟩:=p8 n hx (.inl rfl);exact B.has _ m hk
  ·obtain ⟨k,m,hk⟩:=p8 n hx (.inr rfl);exact B.has _ m hk
 ·rcases B.src x c ‹_› with ⟨_,z⟩|z
  ·exact absurd (eq_of_beq h) z
  ·exact zbD z
 ·rcases (hf b hb).2.2.2.1 with z|z
  ·exact I.ok.noex b o e z
  ·exact absurd (zax (zax (zah e) I.ok.bsz) z) (zaP _)
 ·rcases zak.mp (I.stkSub b z) with e|e
  ·exact (hf b hb).2.1 e
  ·exact (hf b hb).2.2.1 e
def ic (own:L2.St)(ix:List Nat)(Y:L2.St):L2.St:=own++ix.map fun i=>(Y[i]?).join
def vw {X:Cx}{H₂:Hp}{s₂:Shared}{scope:Scope}{own caps:Tn}{ix:List Nat}{cl:List (Str×Addr)}{C:Addr}{fp:Tf}{h₁:Heap}{tk:Nat}(I:aA X pins Y H₂ s₂)(n:aP X.env.scope scope own caps)
  (B:Oh X scope s₂.heap.objs.size cl) (hC:s₂.heap.objs.size<=C) (hfs:∀b∈fp,b < s₂.heap.objs.size) (hf:∀b∈fp,mF X pins H₂ b)
  (hown:∀x c,cl.lookup x=some c->s₂.heap.objs.size < c->h₁.IsCell c none) (hix:ix.length=caps.length) (hix2:∀(j i:Nat) y,ix[j]?=some i->caps[j]?=some y->X.N[i]?=some y)
  (old:∀b o,s₂.heap.get? b=some o->h₁.get? b=some o) {m:Td} (hns:h₁.Ns C m) :
  aA (aM X scope cl C s₂ H₂ fp (own++caps)) [] (ic (own.map fun _=>none) ix Y) H₂ {s₂ with heap:=h₁,toks:=tk}:=by
 refine ⟨DI I n B hC hfs hf,rfl,I.bare,Un.kept old,⟨m,hns,fun i x v e1 e2 hv=>?_⟩,fun x c e=>?_,I.hok.fresh hC,fun x c e=>(B.src x c e).elim (fun z=>I.freeC x c z.1) fun z=>I.hok.fresh (zbD z),fun p hp=>?_,I.hok.kept old,?_⟩
 ·have e1:(own++caps)[i]?=some x:=e1
  unfold ic at e2
  by_cases hi:i < own.length
  ·rw [zai (by simpa using hi),zaE] at e2
   cases q:own[i]? with
   |none=>rw [q] at e2;cases e2
   |some y=>rw [q] at e2;cases e2
  ·rw [zaN (by simpa using hi)] at e2
   rw [zaN (by omega)] at e1;simp only [zag] at e2;generalize i - own.length=j at e1 e2;rw [zaE] at e2
   cases q:ix[j]? with
   |none=>rw [q] at e2;cases e2
   |some i' =>
    rw [q] at e2;have e3:(Y[i']?).join=some v:=Option.some.inj e2
    have e4:Y[i']?=some (some v):=by
     cases z:Y[i']? with
     |none=>rw [z] at e3;cases e3
     |some w'=>rw [z] at e3;cases w' with
      |none=>cases e3
      |some _=>cases e3;rfl
    have hN:=hix2 j i' x q e1;obtain ⟨mm,hl⟩:=n.cap x (zaH e1);have hk:X.env.kindOf x=some .cell\/X.env.kindOf x=some .free:=n.free _ mm rfl;obtain ⟨m0,hn0,hl0⟩:=I.loc
    have vis:O6 X.env.scope x:=by
     rcases hk with hk|hk
     ·exact .inr (.inl hk)
     ·exact .inr (.inr hk)
    obtain ⟨u,r,l⟩:=hl0 i' x v hN e4 vis;refine ⟨u,r,.inr ⟨xk hl,?_⟩⟩;obtain ⟨c,hc,hcx⟩:=B.fr x hl;rcases l with ⟨l,_⟩|⟨_,c',hc',z⟩
    ·exfalso
     rcases hk with hk|hk <;> rw [hk] at l <;> cases l
    ·rw [hc'] at hcx;cases hcx
     obtain ⟨o,ho,hd⟩:=z;exact ⟨_,hc,o,old _ _ ho,hd⟩
 ·rcases B.src x c e with ⟨z,_⟩|z
  ·obtain ⟨v,o,ho,hd⟩:=I.cell x c z
   exact ⟨v,o,old _ _ ho,hd⟩
  ·exact ⟨none,hown x c e z⟩
 ·exact absurd (show p∈([]:Tc) from hp) (by simp)
 ·show (ic _ ix Y).length=(own++caps).length
  unfold ic;simp [hix]
def oq (X:Cx)(ifs:Tj)(t:TT):Prop :=
 ∀(pins:Tc) (s:Shared) (Y:L2.St) (H:Hp) (Q:Bool->Hp->Prop),aA X pins Y H s->t Y H Q ->
  wpAny (model X.prog X.w) X.A (forIn ifs true fun c r=>if r=true then do let ok ←isTrue c X.env (eval c X.env);pure (ForInStep.yield ok) else pure (ForInStep.yield r)) (TP X pins Y Q) X.xe s
def Mb:TT:=fun _ H Q=>Q true H
def B6:oq X [] Mb:=fun pins s Y H Q I h=>wpAny_tests_nil ⟨H,I,h⟩
def B5 {c:Expr}{t:TT}(h:PT X c t):oq X [c] t:=fun pins s Y H Q I q=>wpAny_tests_one (h pins s Y H Q I q)
theorem vh {prog:Program}{w:World}{A:Around}{R:Result->Shared->Prop}{s:Shared}{elt target iter:Expr}{ifs:Tj}{scope:Scope}{pos:Pos}{it acc:Value}{env:Env}(I:Nat->Shared->Prop)
  (turn:∀n s,I n s->wpAny (model prog w) A (pyNext it) (fun r s₁=>match r with
   |none=>R (.ok .next) s₁
   |some v=>wpAny (model prog w) A (letOwnedTupleGo target it v) (fun _ s₁'=>wpAny (model prog w) A (assign target env v) (fun _ s₂ =>
     wpAny (model prog w) A (forIn ifs true fun c r=>if r=true then do let ok ←isTrue c env (eval c env);pure (ForInStep.yield ok) else pure (ForInStep.yield r)) (fun ok s₃ =>
      if ok=true then wpAny (model prog w) A (eval elt env) (fun x s₄ =>
       wpAny (model prog w) A (call (.builtin "list.append") [acc,x]) (fun _ s₅=>∃m,m < n/\I m s₅) (fun _ _=>False) s₄) (fun _ _=>False) s₃
      else ∃m,m < n/\I m s₃) (fun _ _=>False) s₂) (fun _ _=>False) s₁') (fun _ _=>False) s₁) (fun _ _=>False) s)
  (n:Nat) (h:I n s):codeAny (model prog w) A (.compLoop (.ListComp elt [⟨target,iter,ifs,0⟩] scope pos) 0 it acc env) R s:=by
 refine codeAny_loop rfl I (fun n s hI=>?_) n h
 show wpAny _ A ((compTurn (.ListComp elt [⟨target,iter,ifs,0⟩] scope pos) 0 it acc env).onRaise (fun x=>do noteFrame x env;theTreesLotGoes x)) _ _ s
 refine wpAny_noted ?_;rw [compTurn_list];refine zaa (wpAny_standAt (zaa (zbx (turn n s hI) (fun r s₁ h₁=>?_) fun _ _ h'=>h'.elim)))
 cases r with
 |none=>exact zad h₁
 |some v =>
  refine zaa (zbx h₁ (fun _ s₁' h1'=>?_) fun _ _ h'=>h'.elim);refine zaa (zbx h1' (fun _ s₂ h₂=>zaa (zbx h₂ (fun ok s₃ h₃=>?_) fun _ _ h'=>h'.elim)) fun _ _ h'=>h'.elim)
  cases ok with
  |false=>exact zad ⟨rfl,h₃⟩
  |true =>
   exact zaa (zaa (zbx h₃ (fun x s₄ h₄=>zaa (zbx h₄ (fun _ s₅ h₅=>zad (zad ⟨rfl,h₅⟩)) fun _ _ h'=>h'.elim)) fun _ _ h'=>h'.elim))
def aA.adopt {X:Cx}{H:Hp}{s:Shared}{a:Addr}{o:HO}(I:aA X pins Y H s)(f:mF X pins H a)(hs:X.s₀.heap.objs.size<=a)(new:bB X.prog X.w (upd H a o) s.heap a o):aA X pins Y (upd H a o) s:=by
 obtain ⟨f0,f1,f2,f3,f4,f5⟩:=f;have ne:∀b u,H b=some u->b≠a:=fun b u e z=>by rw [z,f0] at e;cases e
 refine ⟨I.ok,I.os,I.bare,⟨I.base.keep,I.base.slot,fun b ob q n hx'=>?_,I.base.there,fun b xs q=>?_,fun b ob u q=>?_,fun b ps q=>?_⟩,I.loc,I.cell,?_,fun x c q=>?_,fun p hp=>?_,fun b u q=>?_,I.len⟩
 ·rw [L2.az (zap (zax (zah q) hs))];exact I.base.free b ob q n hx'
 ·rw [L2.az (ne _ _ (I.base.tups b xs q))];exact I.base.tups b xs q
 ·rw [L2.az (ne _ _ (I.base.frzs b ob u q))];exact I.base.frzs b ob u q
 ·obtain ⟨more,r⟩:=I.base.tbls b ps q;exact ⟨more,by rw [L2.az (ne _ _ r)];exact r⟩
 ·rw [L2.az (Ne.symm f1)];exact I.free
 ·rw [L2.az (f4 x c q)];exact I.freeC x c q
 ·obtain ⟨q1,q2,q3⟩:=I.pin p hp;exact ⟨q1,by rw [L2.az (f5 p hp)];exact q2,q3⟩
 ·by_cases hb:b=a
  ·subst hb;rw [L2.bx] at q;cases q;exact new
  ·rw [L2.az hb] at q;exact (I.hok b u q).stay (fun c v _ q=>q) (fun c r=>by rw [L2.az (ne _ _ r)];exact r) fun c xs r=>by rw [L2.az (ne _ _ r)];exact r
def A9 (ix:List Nat)(own:Tn)(wi:TI)(g:TG)(tc:TT)(te:TE):TE:=fun Y H Q=>wi Y H fun J H1 =>
 ∃W:Nat->Nat->List V->L2.St->Hp->Prop,(∃n,W 0 n [] (ic (own.map fun _=>none) ix Y) H1)/\∀i n ys τ H,W i n ys τ H ->
  (J.stop i H/\∀p,H p=none->Q (.ref p) (upd H p (.lst ys))) \/
  (J.go i H/\ys.length < sizeLine/\∀x H',J.yld i H x H'->g x τ H' fun τ2 H2=>tc τ2 H2 fun b H3=>if b=true then te τ2 H3 fun y H4=>∃n',n' < n/\W (i+1) n' (ys++[y]) τ2 H4 else ∃n',n' < n/\W (i+1) n' ys τ2 H3)
theorem kQ:∀(names:List (Str×NameKind)) (k:Nat) (acc:List (Str×Addr)),cellsFrom k names acc=cellsFrom k names []++acc
 |[],_,_=>rfl
 |(x,d)::r,k,acc=>by
  unfold cellsFrom;split
  ·rw [kQ r (k+1) ((x,k)::acc),kQ r (k+1) [(x,k)],zbb];rfl
  ·exact kQ r k acc
theorem p7 {x:Str}{c:Addr}:∀(names:List (Str×NameKind)) (k:Nat) (acc:List (Str×Addr)),(x,c)∈cellsFrom k names acc->(x,c)∈acc\/(x,NameKind.cell)∈names
 |[],_,_,h=>.inl h
 |(y,d)::r,k,acc,h=>by
  unfold cellsFrom at h;split at h
  ·rename_i hk;rcases p7 r (k+1) _ h with h|h
   ·rcases zak.mp h with e|e
    ·cases e;rw [←eq_of_beq hk];exact .inr zan
    ·exact .inl e
   ·exact .inr (zaj _ h)
  ·exact (p7 r k acc h).imp id (zaj _)
theorem jc {x:Str}:∀(a b:List (Str×Addr)),(a++b).lookup x=(a.lookup x).or (b.lookup x)
 |[],_=>rfl
 |(y,c)::a,b=>by
  rw [zbZ,zba,zba];split
  ·rfl
  ·exact jc a b
def AB {X:Cx}{s₂ s₃:Shared}{H₂:Hp}{E:Tb}{scope:Scope}{own caps:Tn}{cl:List (Str×Addr)}{Q:Env->Shared->Prop}(I:aA X pins Y H₂ s₂)(n:aP X.env.scope scope own caps)(hs:s₂.heap.objs.size < s₃.heap.objs.size)
  (hcl:∀x c,cl.lookup x=some c->X.env.cells.lookup x=some c) (hcl2:∀y∈scope.names,y.2=.free->∃c,cl.lookup y.1=some c)
  (hQ:∀(h₁:Heap) (cl':List (Str×Addr)) (m:Td),(∀b o,s₃.heap.get? b=some o->h₁.get? b=some o)->h₁.Ns s₃.heap.objs.size m->Oh X scope s₂.heap.objs.size cl'->(∀x c,cl'.lookup x=some c->s₂.heap.objs.size < c->h₁.IsCell c none) ->
   Q {compEnvC scope cl' s₃.heap.objs.size X.env with scope:=scope} {s₃ with heap:=h₁}) :
  wpAny (model X.prog X.w) X.A (newFunctionEnv scope X.env.globals cl [] X.env.qual none .none (some X.env)) Q E s₃:=by
 simp only [newFunctionEnv,zct,if_true];refine zaa (wpAny_alloc ?_);refine zaa (wpAny_layCells _ (fun name kind cells=>by cases hkc:kind == NameKind.cell <;> simp [hkc]) _ _ _ _ ?_);have ok:=cellsFrom_ok scope.names (s₃.heap.push {cls:=.type "dict",data:=.dict #[]}) (s₃.heap.objs.size+1) [] ⟨fun _ _ hm=>(nomatch hm),List.Pairwise.nil⟩ (by rw [zaY];exact zam _);have e1:=kQ scope.names (s₃.heap.push {cls:=.type "dict",data:=.dict #[]}).objs.size cl;refine zad (hQ _ _ _ (fun b o e=>pushCells_keeps _ _ b o (zae _ e)) ((Heap.Ns.new s₃.heap (.type "dict")).keeps (pushCells_keeps _ _)) ?_ ?_)
 all_goals
  rw [e1];generalize hOz:cellsFrom (s₃.heap.push {cls:=.type "dict",data:=.dict #[]}).objs.size scope.names []=Ozz at ok e1;have own:∀{x c},Ozz.lookup x=some c->(pushCells (s₃.heap.push {cls:=.type "dict",data:=.dict #[]}) scope.names).IsCell c none/\s₂.heap.objs.size < c:=fun {x c} h=>⟨(ok.empty x c (PySem.mem_of_lookup h)).1,zcg hs (ok.empty x c (PySem.mem_of_lookup h)).2⟩
  have ol:∀{x c},cl.lookup x=some c->c < s₂.heap.objs.size:=fun {x c} h=>by
   obtain ⟨v,o,q,_⟩:=I.cell x c (hcl x c h);exact zah q
  have spl:∀{x c},(Ozz++cl).lookup x=some c->Ozz.lookup x=some c\/(Ozz.lookup x=none/\cl.lookup x=some c):=fun {x c} h=>by
   rw [jc] at h
   cases q:Ozz.lookup x with
   |none=>rw [q] at h;exact .inr ⟨rfl,h⟩
   |some d=>rw [q] at h;exact .inl h
 ·refine ⟨fun x c h=>?_,fun x y c h1 h2=>?_,fun y hy hk=>?_,fun y hy=>?_⟩
  ·rcases spl h with h|⟨h1,h2⟩
   ·exact .inr (own h).2
   ·refine .inl ⟨hcl x c h2,fun z=>?_⟩
    have:=zb8 scope.names (s₃.heap.push {cls:=.type "dict",data:=.dict #[]}).objs.size [] (.inl z);rw [hOz,h1] at this;cases this
  ·rcases spl h1 with h1|⟨_,h1⟩ <;> rcases spl h2 with h2|⟨_,h2⟩
   ·exact PySem.name_of_addr ok.apart (PySem.mem_of_lookup h1) (PySem.mem_of_lookup h2)
   ·exact absurd (zcg (own h1).2 (ol h2)) (zaP _)
   ·exact absurd (zcg (own h2).2 (ol h1)) (zaP _)
   ·exact I.ok.inj x y c (hcl x c h1) (hcl y c h2)
  ·rw [jc]
   cases q:Ozz.lookup y.1 with
   |some d=>exact ⟨d,rfl⟩
   |none =>
    rcases hk with hk|hk
    ·exact hcl2 y hy hk
    ·have:=zb8 scope.names (s₃.heap.push {cls:=.type "dict",data:=.dict #[]}).objs.size [] (.inl (n.cell y hy hk))
     rw [hOz,q] at this;cases this
  ·obtain ⟨c,hc⟩:=hcl2 _ (pH hy) rfl
   refine ⟨c,?_,hcl y c hc⟩;rw [jc]
   cases q:Ozz.lookup y with
   |none=>exact hc
   |some d =>
    rw [←hOz] at q;rcases p7 _ _ _ (PySem.mem_of_lookup q) with z|z
    ·cases z
    ·have:=n.cell _ z rfl
     rw [hy] at this;cases this
 ·intro x c h hc
  rcases spl h with h|⟨_,h⟩
  ·exact (own h).1
  ·exact absurd (zcg hc (ol h)) (zaP _)
theorem rC {X:Cx}{pins:Tc}{Y:L2.St}{s₂:Shared}{H₂:Hp}{E:Tb}{elt tg iter:Expr}{ifs:Tj}{scope:Scope}{pos:Pos}{own caps:Tn}{ix:List Nat}{g:TG}{tc:TT}{te:TE}{Q:VK}{cl:List (Str×Addr)}
  {it:Addr} {fp:Tf} {tn:Nat->Heap->Prop} {J:It} {RR:Value->Addr->Result->Shared->Prop}
  (hc:X.calm=true) (I:aA X pins Y H₂ s₂) (T:vE X.prog X.w X.K tg J fp it tn) (st:tn 0 s₂.heap) (hf:∀b∈fp,mF X pins H₂ b) (n:aP X.env.scope scope own caps)
  (hcl:∀x c,cl.lookup x=some c->X.env.cells.lookup x=some c) (hcl2:∀y∈scope.names,y.2=.free->∃c,cl.lookup y.1=some c)
  (hix:ix.length=caps.length) (hix2:∀(j i:Nat) y,ix[j]?=some i->caps[j]?=some y->X.N[i]?=some y)
  (hg:∀cl C,PG (aM X scope cl C s₂ H₂ fp (own++caps)) tg g) (ht:∀cl C,oq (aM X scope cl C s₂ H₂ fp (own++caps)) ifs tc) (he:∀cl C,PE (aM X scope cl C s₂ H₂ fp (own++caps)) elt te)
  (W:Nat->Nat->List V->L2.St->Hp->Prop) (hW0:∃n,W 0 n [] (ic (own.map fun _=>none) ix Y) H₂)
  (hW:∀i n ys τ H,W i n ys τ H->(J.stop i H/\∀p,H p=none->Q (.ref p) (upd H p (.lst ys))) \/
   (J.go i H/\ys.length < sizeLine/\∀x H',J.yld i H x H'->g x τ H' fun τ2 H2=>tc τ2 H2 fun b H3=>if b=true then te τ2 H3 fun y H4=>∃n',n' < n/\W (i+1) n' (ys++[y]) τ2 H4 else ∃n',n' < n/\W (i+1) n' ys τ2 H3))
  (hRR:∀(D C:Addr) (s':Shared) m H' ys,s'.heap.Ns C m->aA X pins Y (upd H' D (.lst ys)) s'->mF X pins (upd H' D (.lst ys)) C->Q (.ref D) (upd H' D (.lst ys))->RR (.ref D) C (.ok .next) s') :
  wpAny (model X.prog X.w) X.A (newList []) (fun acc s₃=>wpAny (model X.prog X.w) X.A (newFunctionEnv scope X.env.globals cl [] X.env.qual none .none (some X.env)) (fun cenv s₄ =>
   codeAny (model X.prog X.w) X.A (.compStart (.ListComp elt [⟨tg,iter,ifs,0⟩] scope pos) 0 (.ref it) acc {cenv with scope:=relabel scope X.env}) (RR acc cenv.locals) s₄) E s₃) E s₂:=by
 refine zaF (AB (s₂:=s₂) I n (by show s₂.heap.objs.size < (s₂.heap.push _).objs.size;rw [zaY];exact zbL _) hcl hcl2 fun h₁ cl m₁ kp1 hns1 B hown=>?_);dsimp only at hns1 kp1 ⊢;generalize hH2:s₂.heap.push {cls:=.type "list",dict:=none,data:=.seq ([]:Te).toArray}=H2 at hns1 kp1 ⊢
 have hC:H2.objs.size=s₂.heap.objs.size+1:=by rw [←hH2,zaY]
 have below:∀b,b < s₂.heap.objs.size->b≠H2.objs.size/\b≠s₂.heap.objs.size:=fun b hb=>⟨by rw [hC];exact zap (zbo hb),zap hb⟩
 have hDC:s₂.heap.objs.size≠H2.objs.size:=by rw [hC];exact zap (zbL _)
 have old:∀b o,s₂.heap.get? b=some o->h₁.get? b=some o:=fun b o e=>kp1 b o (hH2 ▸ zae _ e);have hacc:h₁.get? s₂.heap.objs.size=some {cls:=.type "list",data:=.seq ([]:Te).toArray}:=kp1 _ _ (hH2 ▸ zal _ rfl)
 have fplt:∀b∈fp,b < s₂.heap.objs.size:=fun b hb=>by obtain ⟨o,e,_⟩:=T.obj _ _ st b hb;exact zah e
 have hCle:s₂.heap.objs.size<=H2.objs.size:=by rw [hC];exact zbP _
 have hfC:∀b∈fp,b < H2.objs.size:=fun b hb=>zax (fplt b hb) hCle;have st₁:tn 0 h₁:=T.keep 0 _ _ st fun b _ o e=>old b o e;have I₀:=vw (tk:=s₂.toks) I n B hCle fplt hf hown hix hix2 old hns1;clear hns1 kp1
 have cellD:∀x c,cl.lookup x=some c->c≠s₂.heap.objs.size:=fun x c e=>by
  rcases B.src x c e with ⟨z,_⟩|z
  ·obtain ⟨v,o,q,_⟩:=I.cell x c z;exact zap (zah q)
  ·exact Ne.symm (zap z)
 have stkD:∀b∈Ai X.stack,b < s₂.heap.objs.size:=fun b hb=>by
  rcases zak.mp (I.stkSub b hb) with e|e
  ·rw [e];exact I.lt
  ·obtain ⟨_,o,q,_⟩:=I.funs.mem e;exact zah q
 have fpok:∀{ps:Tc} {H:Hp},(∀b∈fp,H b=none)->(∀p∈ps,p.1∉fp)->∀b∈fp,mF (aM X scope cl H2.objs.size s₂ H₂ fp (own++caps)) ps H b:=fun {ps H} hn hp b hb =>
  ⟨hn b hb,zap (hfC b hb),fun z=>by
   rcases zak.mp (I.stkSub b z) with e|e
   ·exact (hf b hb).2.1 e
   ·exact (hf b hb).2.2.1 e,.inl hb,fun x c e=>B.ne (hf b hb) (fplt b hb) e,fun p hp' z=>hp p (by simpa [aM] using hp') (z ▸ hb)⟩
 have Dfp:s₂.heap.objs.size∉fp:=fun z=>zaP _ (fplt _ z)
 have pinD:∀{H:Hp} {h:Heap} {its:Te} {k:Nat},H s₂.heap.objs.size=none->h.get? s₂.heap.objs.size=some {cls:=.type "list",data:=.seq its.toArray k} ->
   ∀p∈[((s₂.heap.objs.size,{cls:=.type "list",data:=.seq its.toArray k}):Addr×Obj)],h.get? p.1=some p.2/\H p.1=none/\p.1≠H2.objs.size/\p.1∉Ai X.stack/\∀v,p.2.data≠.cell v:=fun {H h its k} hn e p hp=>by
  rw [zau.mp hp];exact ⟨e,hn,hDC,fun z=>zaP _ (stkD _ z),fun v z=>by cases z⟩
 have dC:∀s₃:Shared,s₃={s₂ with heap:=h₁} ->
   codeAny (model X.prog X.w) X.A (.compLoop (.ListComp elt [⟨tg,iter,ifs,0⟩] scope pos) 0 (.ref it) (.ref s₂.heap.objs.size) (compEnvC scope cl H2.objs.size X.env)) (RR (.ref s₂.heap.objs.size) H2.objs.size) s₃:=by
  rintro s₃ rfl;obtain ⟨n0,hW0⟩:=hW0
  refine vh (fun n s'=>∃i ys its k τ H,aA (aM X scope cl H2.objs.size s₂ H₂ fp (own++caps)) [(s₂.heap.objs.size,{cls:=.type "list",data:=.seq its.toArray k})] τ H s'/\tn i s'.heap/\(∀b∈fp,H b=none)/\aS ys its/\ys.length<=sizeLine/\W i n ys τ H) ?_ n0
   ⟨0,[],[],0,_,H₂,I₀.pins_of (pinD (I.hok.fresh (zam _)) hacc),st₁,fun b hb=>(hf b hb).1,.nil,zbd _,hW0⟩
  rintro n s3 ⟨i,ys,its,k,τ,H,I3,st3,fr3,rv,hz,w3⟩;have hD3:=I3.pin _ (zaC _ zan)
  have pfp:∀p∈[((s₂.heap.objs.size,{cls:=.type "list",data:=.seq its.toArray k}):Addr×Obj)],p.1∉fp:=fun p hp=>by rw [zau.mp hp];exact Dfp
  rcases hW i n ys τ H w3 with ⟨stop,q⟩|⟨go,hlt,step⟩
  ·refine db (T.done (aM X scope cl H2.objs.size s₂ H₂ fp (own++caps)) rfl rfl rfl hc i _ s3 τ H (fun _ _=>False) I3 (fpok fr3 pfp) st3 stop) fun r s4 hh=>?_
   obtain ⟨hr,I4⟩:=hh;subst hr;have hD4:=I4.pin _ (zaC _ zan);obtain ⟨m,hm,_⟩:=id I4.loc;have IX:aA X pins Y H s4:=I.call' (ch:=fp) I4.os I4.base I4.hok I4.bare fun b hb=>⟨(hf b hb).2.2.2.1,(hf b hb).2.1,(hf b hb).2.2.2.2⟩;have fD:mF X pins H s₂.heap.objs.size:=I.fpOk (zam _) hD4.2.1;have IY:=aA.adopt (o:=.lst ys) IX fD I.sz ⟨hz,its,k,rv,hD4.1⟩;exact hRR _ _ s4 m H ys hm IY (I.fpOk hCle (by rw [L2.az (Ne.symm hDC)];exact I4.free)) (q _ hD4.2.1)
  ·refine db (T.item (aM X scope cl H2.objs.size s₂ H₂ fp (own++caps)) rfl rfl rfl hc i _ s3 τ H (fun _ _=>False) I3 (fpok fr3 pfp) st3 go) fun r s4 hh=>?_
   obtain ⟨u,hr,h4⟩:=hh;subst hr;refine db h4 fun _ s5 hh=>?_;obtain ⟨x,H5,I5,r5,y5,st5,fr5⟩:=hh;have I5':=I5.pinned (fpok fr5 pfp) (T.obj _ _ st5);refine db (hg _ _ _ s5 τ H5 x u _ I5' r5 (step x H5 y5)) fun _ s6 hh=>?_;obtain ⟨Y6,H6,I6,q6⟩:=hh;refine db (ht _ _ _ s6 Y6 H6 _ I6 q6) fun ok s7 hh=>?_;obtain ⟨H7,I7,q7⟩:=hh;have memD:∀p∈lD fp s5.heap,p.1≠s₂.heap.objs.size:=fun p hp z=>Dfp (z ▸ (qR hp).1)
   cases ok with
   |true =>
    refine db (he _ _ _ s7 Y6 H7 _ I7 q7) fun u8 s8 hh=>?_;obtain ⟨y,H8,I8,r8,n',hn',w8⟩:=hh;have hD8:=I8.pin (s₂.heap.objs.size,_) (zaC _ (zcj _ zan));refine append_at (hsz:=by rw [zaq,←rv.length];exact hz) hD8.1 fun h9 sb hD9=>?_;have I8':aA (aM X scope cl H2.objs.size s₂ H₂ fp (own++caps)) (lD fp s5.heap) Y6 H8 s8:=I8.pins_of fun p hp=>I8.pin p (zaC _ (zaC _ hp))
    have I9:aA (aM X scope cl H2.objs.size s₂ H₂ fp (own++caps)) (lD fp s5.heap) Y6 H8 {s8 with heap:=h9}:=I8'.turned (t':=s8.toks) (it:=s₂.heap.objs.size) (fun b o hb e=>sb.extBut b o hb e) hD8.2.1 hDC (.inr (zam _))
     cellD fun p hp=>memD p (by simpa [aM] using hp)
    have e9:(its.toArray.push u8)=(its++[u8]).toArray:=by simp
    rw [e9] at hD9;refine ⟨n',hn',i+1,ys++[y],its++[u8],k+1,Y6,H8,I9.pins_of (pinD hD8.2.1 hD9),T.keep _ _ _ st5 fun b hb o e=>(I9.pin (b,o) (zaC _ (eU hb e))).1,fun b hb=>?_,rv.append (.cons r8 .nil),by rw [zaD];exact hlt,w8⟩;obtain ⟨o,e,d⟩:=T.obj _ _ st5 b hb;exact (I9.pin (b,o) (zaC _ (eU hb e))).2.1
   |false =>
    obtain ⟨n',hn',w8⟩:=q7;have hD7:=I7.pin (s₂.heap.objs.size,_) (zaC _ (zcj _ zan));refine ⟨n',hn',i+1,ys,its,k,Y6,H7,I7.pins_of (pinD hD7.2.1 hD7.1),T.keep _ _ _ st5 fun b hb o e=>(I7.pin (b,o) (zaC _ (zaC _ (eU hb e)))).1,fun b hb=>?_,rv,hz,w8⟩;obtain ⟨o,e,d⟩:=T.obj _ _ st5 b hb;exact (I7.pin (b,o) (zaC _ (zaC _ (eU hb e)))).2.1
 exact codeAny_compStart_list (dC _ rfl) (T.self _ 0 _ _ _ st₁ (dC _ rfl))
def Ce {X:Cx}{elt tg iter:Expr}{ifs:Tj}{scope:Scope}{pos:Pos}{own caps:Tn}{ix:List Nat}{wi:TI}{g:TG}{tc:TT}{te:TE}(hc:X.calm=true)(n:aP X.env.scope scope own caps)
  (hix:ix.length=caps.length) (hix2:∀(j i:Nat) y,ix[j]?=some i->caps[j]?=some y->X.N[i]?=some y) (hi:PI X tg iter wi)
  (hb:∀cl C s₂ H₂ fp,PG (aM X scope cl C s₂ H₂ fp (own++caps)) tg g/\oq (aM X scope cl C s₂ H₂ fp (own++caps)) ifs tc/\PE (aM X scope cl C s₂ H₂ fp (own++caps)) elt te)
  (hs:∀x,foldedSetIterable iter X.env x=pure x:=by intro _;rfl):PE X (.ListComp elt [⟨tg,iter,ifs,0⟩] scope pos) (A9 ix own wi g tc te):=by
 intro pins s Y H Q I h;obtain ⟨cl,hclos,hcl,hcl2⟩:=p6 (env:=X.env) (scope:=scope) fun y hy hf=>I.ok.has y.1 (n.free y hy hf);rw [eval_ListComp];refine wpAny_comprehension_free (use:=none) rfl hs hclos n.kind n.loc (db (hi pins s Y H _ I h) fun v s1 h1=>db h1 fun itv s2 h2=>?_);obtain ⟨it,fp,tn,J,H2,e,I2,T,st2,f2,W,w0,turn⟩:=h2;subst e;refine rC (RR:=fun acc C=>compPost (model X.prog X.w) X.A X.xe none (EP X pins Y Q) acc C) hc I2 T st2 f2 n hcl hcl2 hix hix2 (fun cl C=>(hb cl C s2 H2 fp).1) (fun cl C=>(hb cl C s2 H2 fp).2.1) (fun cl C=>(hb cl C s2 H2 fp).2.2) W w0 turn ?_;intro D C s' m H' ys hm IY fC q;refine ⟨m,hm,fun h' sb=>⟨.ref D,_,IY.turned (t':=s'.toks) (it:=C) (fun b o hb e=>sb.extBut b o hb e) fC.1 fC.2.1 fC.2.2.2.1 fC.2.2.2.2.1 fC.2.2.2.2.2,rfl,q⟩⟩
def B2 {X:Cx}{elt tg iter:Expr}{ifs:Tj}{scope:Scope}{pos spos py:Pos}{own caps:Tn}{ix:List Nat}{wi:TI}{g:TG}{tc:TT}{te:TE}{i:Nat}{y:Str}(hc:X.calm=true)(n:aP X.env.scope scope own caps)
  (hN:X.N.Nodup) (hy:X.N[i]?=some y) (hyl:Gw X.env.scope y)
  (hix:ix.length=caps.length) (hix2:∀(j i:Nat) y,ix[j]?=some i->caps[j]?=some y->X.N[i]?=some y) (hi:PI X tg iter wi)
  (hb:∀cl C s₂ H₂ fp,PG (aM X scope cl C s₂ H₂ fp (own++caps)) tg g/\oq (aM X scope cl C s₂ H₂ fp (own++caps)) ifs tc/\PE (aM X scope cl C s₂ H₂ fp (own++caps)) elt te)
  (hsw:swapsWith (.ListComp elt [⟨tg,iter,ifs,0⟩] scope pos) (some (.Name y py)) spos.line X.env=pure true)
  (hs:∀x,foldedSetIterable iter X.env x=pure x:=by intro _;rfl) (hf:X.fn y=true\/X.env.scope.names.lookup y=some .local:=by first|exact .inl rfl|exact .inr rfl|assumption) :
  PS X (.Assign [.Name y py] (.ListComp elt [⟨tg,iter,ifs,0⟩] scope pos) spos) (Bb (A9 ix own wi g tc te) (qZ i)):=by
 intro pins s Y H Zz I h;obtain ⟨cl,hclos,hcl,hcl2⟩:=p6 (env:=X.env) (scope:=scope) fun y hy hf=>I.ok.has y.1 (n.free y hy hf);rw [exec_Assign_Name_used _ _ _ _ hsw];refine zaa (wpAny_standAt (zaa ?_))
 show wpAny _ X.A (do let _ ←comprehension (.ListComp elt [⟨tg,iter,ifs,0⟩] scope pos) scope X.env _ (newList []) false (eval iter X.env) (some (assign (.Name y py) X.env))) _ _ s
 refine zaa (zbx (wpAny_comprehension_free (use:=some (assign (.Name y py) X.env)) (Q:=fun _ s'=>SP X pins Zz .next s') rfl hs hclos n.kind n.loc (db (hi pins s Y H _ I h) fun v s1 h1=>db h1 fun itv s2 h2=>?_)) (fun _ s' hq=>zad (zad hq)) fun _ _ e=>e);obtain ⟨it,fp,tn,J,H2,e,I2,T,st2,f2,W,w0,turn⟩:=h2;subst e;refine rC (Q:=fun x H1=>qZ i x Y H1 Zz.nx) (RR:=fun acc C=>compPost (model X.prog X.w) X.A X.xe (some (assign (.Name y py) X.env)) (fun _ s'=>SP X pins Zz .next s') acc C) hc I2 T st2 f2 n hcl hcl2 hix hix2 (fun cl C=>(hb cl C s2 H2 fp).1) (fun cl C=>(hb cl C s2 H2 fp).2.1) (fun cl C=>(hb cl C s2 H2 fp).2.2) W w0 turn ?_;intro D C s' m H' ys hm IY fC q
 show wpAny _ X.A (assign (.Name y py) X.env (.ref D)) _ _ _
 refine wpAny_assign_Name (qH (v:=.ref D) IY hN hy hyl rfl (fun s'' IZ hh=>?_) hf);obtain ⟨a,sa,ha⟩:=hh
 have nC:C≠a:=by
  rcases ha with ha|ha
  ·rw [ha];exact fC.2.1
  ·exact Ne.symm (fC.2.2.2.2.1 _ _ ha)
 refine ⟨m,hm.sameBut sa nC,fun h' sb=>⟨_,_,IZ.turned (t':=s''.toks) (it:=C) (fun b o hb e=>sb.extBut b o hb e) fC.1 fC.2.1 fC.2.2.2.1 fC.2.2.2.2.1 fC.2.2.2.2.2,q⟩⟩
section
variable {K:zac}{m:Tf}{Y:L2.St}{H:Hp}{Q:VK}{U:ac}
def I0 {B:Bool->Hp->Prop}(h:fU K jo Y H B):Mb Y H B:=by obtain ⟨O,U,m,d,U',hl,hs,e,k⟩:=h;cases e;exact k H m .refl hs
def AA {O:Lo}{k:Nat}{ix:List Nat}{own:Tn}(hk:own.length=k)(h:dZ K m H O Y):dZ K m H (dR k ix O) (ic (own.map fun _=>none) ix Y):=by
 subst hk;unfold dR ic;refine ⟨by simp,fun i d e=>?_⟩;by_cases hi:i < own.length
 ·rw [zai (by simpa using hi),zb2] at e;split at e <;> cases e
 ·rw [zaN (by simpa using hi)] at e;rw [zaN (by simpa using hi)];simp only [List.length_replicate,zag] at e ⊢;generalize i - own.length=j at e ⊢;rw [zaE] at e ⊢
  cases q:ix[j]? with
  |none=>rw [q] at e;cases e
  |some i' =>
   rw [q] at e;have e3:(O[i']?).join=some d:=Option.some.inj e;have e4:O[i']?=some (some d):=by
    cases z:O[i']? with
    |none=>rw [z] at e3;cases e3
    |some w'=>rw [z] at e3;cases w' with
     |none=>cases e3
     |some _=>cases e3;rfl
   obtain ⟨v,q1,q2⟩:=h.2 i' d e4;exact ⟨v,by simp [q1],q2⟩
def xQ {ix:List Nat}{k:Nat}{own:Tn}{fi:FI}{g:FG}{c:FT}{f:FE}(hk:own.length=k)(h:av K (eI ix k fi g c f) Y H Q):A9 ix own (zt K fi) (qp K g) (fU K c) (av K f) Y H Q:=by
 obtain ⟨O,U,m,d,U',hl,hs,e,kk⟩:=h;obtain ⟨⟨xs,U1⟩,e1,e⟩:=zab.mp e;split at e
 ·rename_i hz;obtain ⟨⟨r,Ur⟩,e2,e⟩:=zab.mp e;cases e;refine ⟨O,U,m,xs,U1,hl,hs,e1,fun J P H1 m1 x1 s1 ok p1=>?_⟩;refine ⟨fun i n ys τ H=>n=xs.length - i/\i<=xs.length/\ys.length<=i/\P H/\∃O U m ds r',dZ K m H O τ/\aI K m H U/\RelDs K H ds ys/\cx g c f (xs.drop i) O U=some (r',Ur)/\r=ds++r' /\
   ∀v H' m',dM m H m' H'->aI K m' H' (Ur++[.lst r])->au K m' H' (.p Ur.length) v->Q v H',
   ⟨_,rfl,zbd _,zam _,p1,_,U1,m1,[],r,AA hk (hl.ext x1),s1,by simp only [RelDs],by simpa using e2,rfl,fun v H' m' x2 s2 r2=>kk v H' m' (x1.trans x2) s2 r2⟩,?_⟩
  rintro i n ys τ H ⟨rfl,hi,hy,p,O,U,m,ds,r',hl,hs,rs,e,er,kk⟩;by_cases hlt:i < xs.length
  ·have hx:xs[i]?=some xs[i]:=zao hlt;rw [zbe hlt,cx] at e;obtain ⟨⟨O1,U2⟩,q1,e⟩:=zab.mp e;obtain ⟨⟨b,U3⟩,q2,e⟩:=zab.mp e;refine .inr ⟨ok.go i _ H hx p,Nat.lt_of_le_of_lt hy (zax hlt hz),fun x H' y=>?_⟩;obtain ⟨rfl,rx⟩:=ok.yld i _ H x H' hx p y;refine ⟨O,U,m,.v xs[i],O1,U2,hl,hs,rx,q1,fun Y1 H1 m1 x1 s1 l1=>?_⟩;refine ⟨O1,U2,m1,b,U3,l1,s1,q2,fun H2 m2 x2 s2=>?_⟩
   cases b with
   |true =>
    simp only [if_true] at e ⊢;obtain ⟨⟨y',U4⟩,q3,e⟩:=zab.mp e;refine ⟨O1,U3,m2,y',U4,l1.ext x2,s2,q3,fun w H3 m3 x3 s3 r3=>?_⟩
    cases y' with
    |p _=>cases e
    |s _ _=>cases e
    |x _=>cases e
    |f _ _=>cases e
    |v d1 =>
     obtain ⟨⟨r1,U5⟩,q4,e⟩:=zab.mp e;cases e;have x4:=(x1.trans x2).trans x3;refine ⟨_,(by omega:xs.length - (i+1) < xs.length - i),rfl,hlt,by rw [zaD];exact Nat.succ_le_succ hy,ok.st _ _ x4.tf p,O1,U4,m3,ds++[d1],r1,l1.ext (x2.trans x3),s3,
      (RelDs.tf x4.tf _ _ rs).append (by simp only [RelDs];exact ⟨w,[],rfl,r3,rfl⟩),q4,by rw [er,zbb];rfl,fun v H' m' x5 s5 r5=>kk v H' m' (x4.trans x5) s5 r5⟩
   |false =>
    simp only [zas,if_false] at e ⊢;have x4:=x1.trans x2;exact ⟨_,(by omega:xs.length - (i+1) < xs.length - i),rfl,hlt,Nat.le_succ_of_le hy,ok.st _ _ x4.tf p,O1,U3,m2,ds,r',l1.ext x2,s2,RelDs.tf x4.tf _ _ rs,e,er,fun v H' m' x5 s5 r5=>kk v H' m' (x4.trans x5) s5 r5⟩
  ·have:i=xs.length:=by omega
   subst this;rw [zc1,cx] at e;cases e;refine .inl ⟨ok.stop _ H p (zam _),fun p hp=>?_⟩;obtain ⟨a1,a2,a3⟩:=f9 hs rs hp;rw [za2] at er;subst er;exact kk _ _ _ a1 a2 a3
 ·cases e
end
mutual
def lX:D->PyData
 |.non=>.none
 |.bl b=>.bool b
 |.int i=>.int i
 |.str x=>.str x
 |.tup xs=>.tuple (toPys xs)
 |.fl xs=>.list (toPys xs)
 |.fd _ _=>.none
 |.key _=>.none
def toPys:List D->List PyData
 |[]=>[]
 |x::xs=>lX x::toPys xs
end
mutual
def dL:Nat->D->Bool
 |_,.non=>true
 |_,.bl _=>true
 |_,.int _=>true
 |_,.str x=>PyData.strOk x
 |_,.fd _ _=>false
 |_,.key _=>false
 |0,.tup _=>false
 |0,.fl _=>false
 |n+1,.tup xs=>okDs n xs
 |n+1,.fl xs=>okDs n xs
def okDs:Nat->List D->Bool
 |_,[]=>true
 |n,x::xs=>dL n x && okDs n xs
end
mutual
def iO:D->D->Bool
 |.bl a,y=>match y with|.bl b=>a == b|.int j=>(if a then 1 else 0) == j|_=>false
 |.int i,y=>match y with|.bl b=>i == (if b then 1 else 0)|.int j=>i == j|_=>false
 |.str x,y=>match y with|.str z=>x == z|_=>false
 |.tup xs,y=>match y with|.tup ys=>eqDs xs ys|_=>false
 |.fl xs,y=>match y with|.fl ys=>eqDs xs ys|_=>false
 |_,y=>match y with|.non=>true|.fd _ _=>true|.key _=>true|_=>false
def eqDs:List D->List D->Bool
 |[],[]=>true
 |x::xs,y::ys=>iO x y && eqDs xs ys
 |_,_=>false
end
theorem sQ (xs ys:List D):iO (.tup xs) (.tup ys)=eqDs xs ys:=rfl
theorem xa (xs ys:List D):iO (.fl xs) (.fl ys)=eqDs xs ys:=rfl
theorem xb (a b:Bool):iO (.bl a) (.bl b)=(a == b):=rfl
theorem sR (i j:Int):iO (.int i) (.int j)=(i == j):=rfl
theorem eM:eqDs [] []=true:=rfl
theorem cZ (x y:D)(xs ys:List D):eqDs (x::xs) (y::ys)=(iO x y && eqDs xs ys):=rfl
theorem gd (y:D)(ys:List D):eqDs [] (y::ys)=false:=rfl
theorem gf (y:D)(ys:List D):eqDs (y::ys) []=false:=rfl
mutual
theorem w9:∀a b:D,PyData.eqv (lX a) (lX b)=iO a b
 |.non,b=>by cases b <;> rfl
 |.bl _,b=>by cases b <;> rfl
 |.int _,b=>by cases b <;> rfl
 |.str _,b=>by cases b <;> rfl
 |.tup xs,b=>by
  cases b with
  |tup ys=>exact eqDs_py xs ys
  |_=>rfl
 |.fl xs,b=>by
  cases b with
  |fl ys=>exact eqDs_py xs ys
  |_=>rfl
 |.fd _ _,b=>by cases b <;> rfl
 |.key _,b=>by cases b <;> rfl
theorem eqDs_py:∀a b:List D,PyData.eqvAll (toPys a) (toPys b)=eqDs a b
 |[],b=>by cases b <;> rfl
 |x::xs,b=>by
  cases b with
  |nil=>rfl
  |cons y ys=>rw [cZ,←w9 x y,←eqDs_py xs ys];rfl
end
mutual
theorem Cp:∀(n:Nat) (d:D),dL n d=true->(lX d).canLay0=true/\(lX d).depth<=n
 |_,.non,_=>by simp [lX,PyData.canLay0,PyData.depth]
 |_,.bl _,_=>by simp [lX,PyData.canLay0,PyData.depth]
 |_,.int _,_=>by simp [lX,PyData.canLay0,PyData.depth]
 |n,.str x,h=>by
  have h:PyData.strOk x=true:=by cases n <;> simpa [dL] using h
  simp [lX,PyData.canLay0,PyData.depth,h]
 |n,.fd _ _,h=>by cases n <;> simp [dL] at h
 |n,.key _,h=>by cases n <;> simp [dL] at h
 |0,.tup _,h=>by simp [dL] at h
 |0,.fl _,h=>by simp [dL] at h
 |n+1,.tup xs,h=>by obtain ⟨a,b⟩:=okDs_py n xs (by simpa [dL] using h);simp only [lX,PyData.canLay0,PyData.depth];exact ⟨a,by omega⟩
 |n+1,.fl xs,h=>by obtain ⟨a,b⟩:=okDs_py n xs (by simpa [dL] using h);simp only [lX,PyData.canLay0,PyData.depth];exact ⟨a,by omega⟩
theorem okDs_py:∀(n:Nat) (ds:List D),okDs n ds=true->PyData.canLayAll0 (toPys ds)=true/\PyData.depthAll (toPys ds)<=n
 |_,[],_=>by simp [toPys,PyData.canLayAll0,PyData.depthAll]
 |n,x::xs,h=>by
  have h':dL n x=true/\okDs n xs=true:=by cases n <;> simpa [okDs] using h
  obtain ⟨a1,b1⟩:=Cp n x h'.1;obtain ⟨a2,b2⟩:=okDs_py n xs h'.2;simp only [toPys,PyData.canLayAll0,PyData.depthAll,a1,a2,Bool.and_self,true_and];omega
end
def kC {d:D}(h:dL 60 d=true):SeqAt.shaped (lX d)=true:=by obtain ⟨a,b⟩:=Cp 60 d h;unfold SeqAt.shaped;rw [a,zcB];exact zaK (by omega)
section
variable {X:Cx}{pins:Tc}{Y:L2.St}{H:Hp}{s:Shared}
mutual
theorem ue (I:aA X pins Y H s):∀(k:Nat) (d:D) (v:V) (u:Value),dL k d=true->ao X.K H d v->aY v u->∃as,Reads s.heap u (lX d) as
 |_,.non,v,u,_,h,r=>by simp only [ao] at h;subst h;cases r;exact ⟨_,.none⟩
 |_,.bl b,v,u,_,h,r=>by simp only [ao] at h;subst h;cases r;exact ⟨_,.bool b⟩
 |_,.int i,v,u,_,h,r=>by simp only [ao] at h;subst h;obtain ⟨t,rfl⟩:=r;exact ⟨_,.int i t⟩
 |_,.str x,v,u,_,h,r=>by simp only [ao] at h;subst h;obtain ⟨t,rfl⟩:=r;exact ⟨_,.str x t⟩
 |_,.fd _ _,v,u,hk,h,r=>by simp [dL] at hk
 |_,.key _,v,u,hk,h,r=>by simp [dL] at hk
 |0,.tup xs,v,u,hk,h,r=>by simp [dL] at hk
 |0,.fl xs,v,u,hk,h,r=>by simp [dL] at hk
 |k+1,.tup xs,v,u,hk,h,r=>by simp only [ao] at h;obtain ⟨a,vs,rfl,q,h⟩:=h;cases r;obtain ⟨its,rv,⟨o,e,c,n,hd⟩,_⟩:=I.tuple q;obtain ⟨as,ra⟩:=readss_of I k xs vs its (by simpa [dL] using hk) h rv;exact ⟨_,.tuple e c hd (by simpa using ra)⟩
 |k+1,.fl xs,v,u,hk,h,r=>by simp only [ao] at h;obtain ⟨a,vs,rfl,q,h⟩:=h;cases r;obtain ⟨its,rv,⟨o,n,e,c,_,hd⟩,_⟩:=I.list q.sq;obtain ⟨as,ra⟩:=readss_of I k xs vs its (by simpa [dL] using hk) h rv;exact ⟨_,.list e c hd (by simpa using ra)⟩
theorem readss_of (I:aA X pins Y H s):∀(k:Nat) (ds:List D) (vs:List V) (us:Te),okDs k ds=true->RelDs X.K H ds vs->aS vs us->∃as,ReadsAll s.heap us (toPys ds) as
 |_,[],vs,us,_,h,r=>by simp only [RelDs] at h;subst h;cases r;exact ⟨_,.nil⟩
 |k,d::ds,vs,us,hk,h,r=>by
  have hk:dL k d=true/\okDs k ds=true:=by cases k <;> simpa [okDs] using hk
  simp only [RelDs] at h;obtain ⟨v,vr,rfl,h1,h2⟩:=h
  cases r with
  |cons r1 r2 =>
   obtain ⟨as,q1⟩:=ue I k d v _ hk.1 h1 r1;obtain ⟨bs,q2⟩:=readss_of I k ds vr _ hk.2 h2 r2;exact ⟨_,.cons q1 q2⟩
end
end
def nD:R->ac->Option D
 |.v d,_=>some d
 |.p n,U=>match U[n]? with|some (.lst xs)=>some (.fl xs)|some (.fz xs)=>some (.fl xs)|_=>none
 |_,_=>none
def fS (neg:Bool):R->R->ac->Option (R×ac):=fun x y U=>(nD x U).bind fun a=>(nD y U).bind fun b=>if (dL 60 a && dL 60 b)=true then some (.v (.bl (if neg then !iO a b else iO a b)),U) else none
def EK (K:zac)(neg:Bool):R2:=fun v u H Q=>∃m U x y d,aI K m H U/\au K m H x v/\au K m H y u/\fS neg x y U=some (.v (.bl d),U)/\Q (.bl d) H
def FF {neg:Bool}:qf K (fS neg) (EK K neg):=by
 intro m H U x y d U' v u Q s rx ry e k;have e0:=e;unfold fS at e;obtain ⟨a,e1,e⟩:=zab.mp e;obtain ⟨b,e2,e⟩:=zab.mp e;split at e
 ·cases e;exact ⟨m,U,x,y,_,s,rx,ry,e0,k _ H m .refl s (by simp only [au,ao])⟩
 ·cases e
theorem iT {X:Cx}{H:Hp}{s:Shared}{m:Tf}{U:ac}{x:R}{d:D}{v:V}{u:Value}(I:aA X pins Y H s)(S:aI X.K m H U)(r:au X.K m H x v)(ru:aY v u)(e:nD x U=some d)(hk:dL 60 d=true):∃as,Reads s.heap u (lX d) as:=by
 cases x with
 |v d'=>cases e;exact ue I 60 _ _ _ hk r ru
 |s _ _=>cases e
 |x _=>cases e
 |f _ _=>cases e
 |p n =>
  have hl:∃xs,d=.fl xs/\kW (.p n) U=some xs:=by
   simp only [nD] at e;split at e
   ·rename_i xs q;cases e;exact ⟨xs,rfl,by simp [kW,q]⟩
   ·rename_i xs q;cases e;exact ⟨xs,rfl,by simp [kW,q]⟩
   ·cases e
  obtain ⟨xs,rfl,e2⟩:=hl;obtain ⟨a,vs,rfl,q,rr⟩:=jb S r e2;cases ru;obtain ⟨its,rv,⟨o,n',e,c,_,hd⟩,_⟩:=I.list q;obtain ⟨as,ra⟩:=readss_of I 59 xs vs its (by simpa [dL] using hk) rr rv;exact ⟨_,.list e c hd (by simpa using ra)⟩
def wy {X:Cx}(hu:X.A.units+64 < cLine):ku X (compareOp .Eq) (EK X.K false):=by
 intro pins s Y H v u v' u' Q I rv ru q;obtain ⟨m,U,x,y,d,S,rx,ry,e,q⟩:=q;unfold fS at e;obtain ⟨a,e1,e⟩:=zab.mp e;obtain ⟨b,e2,e⟩:=zab.mp e;split at e
 ·rename_i z;rw [za4] at z;cases e;obtain ⟨as,r1⟩:=iT I S rx rv e1 z.1;obtain ⟨bs,r2⟩:=iT I S ry ru e2 z.2;exact eq_dataH r1 r2 (kC z.1) (kC z.2) hu ⟨_,H,I,by rw [w9];rfl,q⟩
 ·cases e
def Ck {X:Cx}(hu:X.A.units+64 < cLine):ku X (compareOp .NotEq) (EK X.K true):=by
 intro pins s Y H v u v' u' Q I rv ru q;obtain ⟨m,U,x,y,d,S,rx,ry,e,q⟩:=q;unfold fS at e;obtain ⟨a,e1,e⟩:=zab.mp e;obtain ⟨b,e2,e⟩:=zab.mp e;split at e
 ·rename_i z;rw [za4] at z;cases e;obtain ⟨as,r1⟩:=iT I S rx rv e1 z.1;obtain ⟨bs,r2⟩:=iT I S ry ru e2 z.2;exact ne_dataH r1 r2 (kC z.1) (kC z.2) hu ⟨_,H,I,by rw [w9];rfl,q⟩
 ·cases e
def uT (neg:Bool)(c:D):R->ac->Option (R×ac):=fun x U=>match c,x with
 |.non,.v .non=>some (.v (.bl (!neg)),U)
 |.bl b,.v (.bl a)=>some (.v (.bl (if neg then !(a == b) else a == b)),U)
 |_,_=>some (.v (.bl neg),U)
def EJ (neg:Bool)(c:V):R2:=fun x y H Q=>y=c/\Q (.bl (if neg then !decide (x=c) else decide (x=c))) H
section
variable {X:Cx}
def Cm:ku X (compareOp .Is) (EJ false .non):=J7
def uB:ku X (compareOp .IsNot) (EJ true .non):=Fd
end
def Kt {m:Tf}{H:Hp}{neg:Bool}{c:D}{cv v:V}{x d:R}{U U':ac}(hc:(c=.non/\cv=.non)\/∃b,c=.bl b/\cv=.bl b)(r:au K m H x v)(e:uT neg c x U=some (d,U')) :
  U'=U/\d=.v (.bl (if neg then !decide (v=cv) else decide (v=cv))):=by
 have nn:∀d0,d0≠.non->ao K H d0 v->v≠.non:=fun d0 h1 h2 z=>by
  subst z;cases d0 <;> simp only [ao] at h2 <;> first|exact h1 rfl|(obtain ⟨_,_,_,h,_⟩:=h2;cases h;done)|(obtain ⟨_,_,h,_⟩:=h2;cases h;done)|(obtain ⟨_,h,_⟩:=h2;cases h;done)|cases h2
 have nb:∀d0 b,(∀a,d0≠.bl a)->ao K H d0 v->v≠.bl b:=fun d0 b h1 h2 z=>by
  subst z;cases d0 <;> simp only [ao] at h2 <;> first|exact h1 _ rfl|(obtain ⟨_,_,_,h,_⟩:=h2;cases h;done)|(obtain ⟨_,_,h,_⟩:=h2;cases h;done)|(obtain ⟨_,h,_⟩:=h2;cases h;done)|cases h2
 have np:∀n,au K m H (.p n) v->v≠.non/\∀b,v≠.bl b:=fun n ⟨a,e,_⟩=>⟨fun z=>(by rw [e] at z;cases z),fun b z=>(by rw [e] at z;cases z)⟩;have ns:∀b' n,au K m H (.s b' n) v->v≠.non/\∀b,v≠.bl b:=fun b' n ⟨a,_,e,_⟩=>⟨fun z=>(by rw [e] at z;cases z),fun b z=>(by rw [e] at z;cases z)⟩;have nx:∀c,au K m H (.x c) v->v≠.non/\∀b,v≠.bl b:=fun c ⟨a,_,_,e,_⟩=>⟨fun z=>(by rw [e] at z;cases z),fun b z=>(by rw [e] at z;cases z)⟩;have nf:∀L ds,au K m H (.f L ds) v->v≠.non/\∀b,v≠.bl b:=fun L ds ⟨a,_,_,_,_,e,_⟩=>⟨fun z=>(by rw [e] at z;cases z),fun b z=>(by rw [e] at z;cases z)⟩;rcases hc with ⟨rfl,rfl⟩|⟨b,rfl,rfl⟩
 ·cases x with
  |v d0 =>
   by_cases h0:d0=.non
   ·subst h0
    have r:v=.non:=by simpa only [au,ao] using r
    subst r;cases e;cases neg <;> simp
   ·have:=nn d0 h0 r
    cases d0 <;> first|exact absurd rfl h0|(cases e;cases neg <;> simp [this])
  |p n=>have:=(np n r).1;cases e;cases neg <;> simp [this]
  |s b' n=>have:=(ns b' n r).1;cases e;cases neg <;> simp [this]
  |x c=>have:=(nx c r).1;cases e;cases neg <;> simp [this]
  |f L ds=>have:=(nf L ds r).1;cases e;cases neg <;> simp [this]
 ·cases x with
  |v d0 =>
   by_cases h0:∃a,d0=.bl a
   ·obtain ⟨a,rfl⟩:=h0
    have r:v=.bl a:=by simpa only [au,ao] using r
    subst r;cases e;cases neg <;> cases a <;> cases b <;> simp
   ·have:=nb d0 b (fun a z=>h0 ⟨a,z⟩) r
    cases d0 <;> first|exact absurd ⟨_,rfl⟩ h0|(cases e;cases neg <;> simp [this])
  |p n=>have:=(np n r).2 b;cases e;cases neg <;> simp [this]
  |s b' n=>have:=(ns b' n r).2 b;cases e;cases neg <;> simp [this]
  |x c=>have:=(nx c r).2 b;cases e;cases neg <;> simp [this]
  |f L ds=>have:=(nf L ds r).2 b;cases e;cases neg <;> simp [this]
def MD {H:Hp}{Q:VK}{fa:FE}{neg:Bool}{c:D}{cv:V}(hc:(c=.non/\cv=.non)\/∃b,c=.bl b/\cv=.bl b)(h:av K (oH (uT neg c) fa) Y H Q):IE (EJ neg cv) (av K fa) (tC cv) Y H Q:=by obtain ⟨O,U,m,d,U',hl,hs,e,k⟩:=h;obtain ⟨⟨x,U1⟩,e1,e⟩:=zab.mp e;refine ⟨O,U,m,x,U1,hl,hs,e1,fun v H1 m1 x1 s1 r1=>⟨rfl,?_⟩⟩;obtain ⟨rfl,rfl⟩:=Kt hc r1 e;exact k _ H1 m1 x1 s1 (by simp only [au,ao])
def RF (K:zac)(T:String):Prop:=∀t∈["NoneType","bool","int","str","tuple","list","dict"],PySem.W.kitOne K (.type t) (.type T)=some (t == T || (t == "bool" && T == "int"))
end HW
namespace HW
variable {K:zac}
open PyProof.Rows L2 HS
def Aa (x:Int):List Int->Th
 |[]=>[x]
 |y::ys=>if x<=y then x::y::ys else y::Aa x ys
def gN:List Int->Th
 |[]=>[]
 |x::xs=>Aa x (gN xs)
theorem m6 (x:Int):∀xs,(Aa x xs).Perm (x::xs)
 |[]=>.refl _
 |y::ys=>by
  unfold Aa;split
  ·exact .refl _
  ·exact ((m6 x ys).cons y).trans (.swap _ _ _)
theorem dX:∀xs,(gN xs).Perm xs
 |[]=>.refl _
 |x::xs=>(m6 x _).trans ((dX xs).cons x)
theorem nO (x:Int):∀{xs:Th},xs.Pairwise (·<=·)->(Aa x xs).Pairwise (·<=·)
 |[],_=>zcy _ _
 |y::ys,h=>by
  unfold Aa;obtain ⟨h1,h2⟩:=zaM.mp h;split
  ·rename_i hxy;refine zaM.mpr ⟨fun z hz=>?_,h⟩;rcases zak.mp hz with rfl|hz
   ·exact hxy
   ·exact Int.le_trans hxy (h1 z hz)
  ·rename_i hxy;refine zaM.mpr ⟨fun z hz=>?_,nO x h2⟩;rcases zak.mp ((m6 x ys).mem_iff.mp hz) with rfl|hz
   ·omega
   ·exact h1 z hz
theorem jd:∀xs,(gN xs).Pairwise (·<=·)
 |[]=>.nil
 |x::xs=>nO x (jd xs)
theorem o5:∀{xs ys:Th},xs.Pairwise (·<=·)->ys.Pairwise (·<=·)->xs.Perm ys->xs=ys
 |[],ys,_,_,p=>(List.Perm.nil_eq p)
 |x::xs,[],_,_,p=>absurd p.length_eq (by simp)
 |x::xs,y::ys,hx,hy,p=>by
  obtain ⟨hx1,hx2⟩:=zaM.mp hx;obtain ⟨hy1,hy2⟩:=zaM.mp hy;have e:x=y:=by
   have h1:x∈y::ys:=p.mem_iff.mp (by simp);have h2:y∈x::xs:=p.mem_iff.mpr (by simp);rcases zak.mp h1 with h|h
   ·exact h
   ·rcases zak.mp h2 with h'|h'
    ·exact h'.symm
    ·exact Int.le_antisymm (hx1 y h') (hy1 x h)
  subst e;rw [o5 hx2 hy2 ((List.perm_cons _).mp p)]
def uS {xs ns:Th}(h:ns.Pairwise (·<=·))(p:ns.Perm xs):ns=gN xs:=o5 h (jd xs) (p.trans (dX xs).symm)
theorem dz:∀{ns:Th} {its:Te},aS (ns.map V.int) its->IntsAre its ns
 |[],its,h=>by cases h;exact .nil
 |n::ns,its,h=>by
  cases h with
  |cons r t=>obtain ⟨tk,rfl⟩:=r;exact .cons n tk (dz t)
theorem m5:∀{ns:Th} {its:Te},IntsAre its ns->aS (ns.map V.int) its
 |_,_,.nil=>.nil
 |_,_,.cons n t h=>.cons ⟨t,rfl⟩ (m5 h)
abbrev fj (o:Obj):HO:=.frz o (.ext fun _=>True)
def Pj (K:zac)(b:Bool):List V->Hp->VK->Prop:=fun vs H Q=>∃p ns,vs=[.ref p]/\gQ K H p (ns.map V.int)/\ns.length < 4000/\∀l o,H l=none->c7 b o (aG [] ns)->Q (.ref l) (upd H l (fj o))
def Ax {X:Cx}(hc:X.calm=true):gW X (.type "set") (Pj X.K (!HS.bt X.w)):=by intro pins s Y H vs us Q I r h;obtain ⟨p,ns,rfl,hq,hn,q⟩:=h;obtain ⟨u,rfl,rx⟩:=iC r;cases rx;obtain ⟨its,r',pl,hz⟩:=I.tuple hq;have hI:=dz r';have hl:its.length=ns.length:=IntsAre.length hI;obtain ⟨o',ho',hc',n',hd'⟩:=pl;refine Er (its:=its.toArray) (ns:=ns) (I.ok.hd hc) ⟨o',ho',hc',n',hd'⟩ (by simpa using hI) (by simp [scanBound,hl];omega) fun h' tk o ho hS kp ht=>?_;exact ⟨.ref s.heap.objs.size,_,I.laid (t':=tk) kp (zam _) (show bB X.prog X.w _ h' _ (fj o) from ⟨ho,trivial,⟨o,ho⟩,fun _ _ _ _=>trivial⟩),rfl,q _ _ (I.hok.fresh (zam _)) hS⟩
def so (b:Bool):List V->Hp->VK->Prop:=fun vs H Q=>∃p o xs,vs=[.ref p]/\H p=some (fj o)/\c7 b o xs/\xs.length < 64/\∀l,H l=none->Q (.ref l) (upd H l (.lst ((gN xs).map V.int)))
def aA.drw {H:Hp}{s:Shared}(I:aA X pins Y H s)(d:Drawn):aA X pins Y H {s with drawn:=d} :=
 ⟨I.ok,I.os,I.bare,I.base,I.loc,I.cell,I.free,I.freeC,I.pin,I.hok,I.len⟩
def sX {X:Cx}(hc:X.calm=true):gW X (.builtin "sorted") (so (!HS.bt X.w)):=by
 intro pins s Y H vs us Q I r h;obtain ⟨p,o,xs,rfl,hp,hS,h64,q⟩:=h;obtain ⟨u,rfl,rx⟩:=iC r;cases rx;have ho:s.heap.get? p=some o:=(I.hok p _ hp).1;refine wb (I.ok.hd hc) ho hS h64 fun out ns h' d tk l c a1 a2 a3 kp ht hl hL=>?_;have e:=uS a3 a2;subst e;have hlen:(gN xs).length=xs.length:=(dX xs).length_eq;have I1:aA X pins Y (upd H l (.lst ((gN xs).map V.int))) {s with heap:=h',toks:=tk} :=
  I.laid (t':=tk) kp hl (show bB X.prog X.w _ h' _ (.lst _) from ⟨by rw [zag,hlen,za9];omega,out.toList,c,m5 a1,by simpa [seqObj] using hL⟩)
 exact ⟨.ref l,_,aA.drw I1 d,rfl,q _ (I.hok.fresh hl)⟩
def fX:List D->Option (Th)
 |[]=>some []
 |.int n::r=>(fX r).map (n :: ·)
 |_=>none
theorem mj:∀{ds:List D} {ns:Th},fX ds=some ns->ds=ns.map D.int
 |[],ns,e=>by cases e;rfl
 |d::r,ns,e=>by cases d <;> simp only [fX] at e <;> first|cases e|skip;obtain ⟨ms,e1,rfl⟩:=zaO.mp e;rw [mj e1];rfl
theorem mh {K:zac}{H:Hp}:∀{ns:Th} {vs:List V},RelDs K H (ns.map D.int) vs->vs=ns.map V.int
 |[],vs,h=>h
 |n::ns,vs,h=>by
  obtain ⟨v,r,rfl,h1,h2⟩:=h;have h1:v=.int n:=by simpa only [ao] using h1
  rw [h1,mh h2];rfl
theorem pi {K:zac}{H:Hp}:∀{ns:Th},RelDs K H (ns.map D.int) (ns.map V.int)
 |[]=>rfl
 |n::ns=>⟨_,_,rfl,by simp only [ao],pi⟩
def xM (b:Bool):List R->ac->Option (R×ac)
 |[.s c xs],U=>if c=b/\xs.length < 64 then some (.p U.length,U++[.lst ((gN xs).map D.int)]) else none
 |_,_=>none
def C5 {b:Bool}:vL K (xM b) (so b):=by
 intro m H U xs d U' vs Q s r e k;unfold xM at e;split at e
 ·rename_i c ys;split at e
  ·rename_i hn;obtain ⟨rfl,hn⟩:=hn;cases e;obtain ⟨v,rfl,r1⟩:=lB r;obtain ⟨a,o,rfl,q,hS⟩:=r1;refine ⟨a,o,ys,rfl,q,hS,hn,fun l hl=>k _ _ (m++[l]) (.newH hl) (s.newH hl ⟨_,bx,pi⟩) ⟨l,rfl,?_⟩⟩;rw [←s.len];simp
  ·cases e
 ·cases e
def oa:List R->ac->Option (R×ac)
 |[.v (.int i),.v (.int j)],U=>some (.v (.int (if j < i then j else i)),U)
 |_,_=>none
def Ph {m:Tf}{H:Hp}{x y:R}{vs:List V}(r:aQ K m H [x,y] vs):∃v w,vs=[v,w]/\au K m H x v/\au K m H y w:=by obtain ⟨v,r,rfl,h1,h2⟩:=r;obtain ⟨w,r,rfl,h2,h3⟩:=h2;have h3:r=[]:=h3;subst h3;exact ⟨v,w,rfl,h1,h2⟩
def Nz :vL K oa (fun xs H Q=>∃i j,xs=[.int i,.int j]/\Q (.int (if j < i then j else i)) H):=by
 intro m H U xs d U' vs Q s r e k;unfold oa at e;split at e
 ·cases e;obtain ⟨v,w,rfl,r1,r2⟩:=Ph r;simp only [au,ao] at r1 r2;subst r1;subst r2;exact ⟨_,_,rfl,k _ H m .refl s (by simp only [au,ao])⟩
 ·cases e
def BI (b:Bool):R2:=fun x y H Q=>∃p q o o' xs ys,x=.ref p/\y=.ref q/\H p=some (fj o)/\H q=some (fj o')/\c7 b o xs/\c7 b o' ys/\xs.length+ys.length < 64/\∀l u,H l=none->c7 b u (aG xs ys)->Q (.ref l) (upd H l (fj u))
def Cj {X:Cx}:ku X (binaryOp .BitOr) (BI (!HS.bt X.w)):=by intro pins s Y H x y v u Q I rx ry h;obtain ⟨p,q,o,o',xs,ys,rfl,rfl,hp,hq,S1,S2,hz,k⟩:=h;cases rx;cases ry;refine iE (I.hok p _ hp).1 S1 (I.hok q _ hq).1 S2 (by omega) fun h' d u kp g S=>?_;have I1:aA X pins Y (upd H s.heap.objs.size (fj u)) {s with heap:=h',toks:=s.toks}:=I.laid (t':=s.toks) kp (zam _) (show bB X.prog X.w _ h' _ (fj u) from ⟨g,trivial,⟨u,g⟩,fun _ _ _ _=>trivial⟩);exact ⟨.ref s.heap.objs.size,_,aA.drw I1 d,rfl,k _ _ (I.hok.fresh (zam _)) S⟩
def Lm (b:Bool):R->R->ac->Option (R×ac)
 |.s c xs,.s c' ys,U=>if c=b/\c'=b/\xs.length+ys.length < 64 then some (.s b (aG xs ys),U) else none
 |_,_,_=>none
def uc {H:Hp}{l:Addr}{o:HO}(hl:H l=none):∀a o',H a=some o'->upd H l o a=some o':=fun a o' e=>by rw [az (fun z=>by rw [z,hl] at e;cases e)];exact e
def PF {b:Bool}:qf K (Lm b) (BI b):=by
 intro m H U x y d U' v u Q s rx ry e k;unfold Lm at e;split at e
 ·split at e
  ·rename_i hc;obtain ⟨rfl,rfl,hz⟩:=hc;cases e;obtain ⟨p,o,rfl,hp,S1⟩:=rx;obtain ⟨q,o',rfl,hq,S2⟩:=ry;exact ⟨p,q,o,o',_,_,rfl,rfl,hp,hq,S1,S2,hz,fun l w hl S=>k _ _ m (.new hl) (s.same (uc hl)) ⟨l,w,rfl,bx,S⟩⟩
  ·cases e
 ·cases e
def Hv (K:zac)(b:Bool):List V->Hp->VK->Prop:=fun vs H Q=>∃p ns,vs=[.ref p]/\(jF K H p (ns.map V.int)\/gQ K H p (ns.map V.int))/\ns.length < 4000/\∀l o,H l=none->c7 b o (aG [] ns)->Q (.ref l) (upd H l (fj o))
def Ay {X:Cx}(hc:X.calm=true):gW X (.type "set") (Hv X.K (!HS.bt X.w)):=by
 intro pins s Y H vs us Q I r h;obtain ⟨p,ns,rfl,hq,hn,q⟩:=h;rcases hq with hq|hq
 ·obtain ⟨u,rfl,rx⟩:=iC r
  cases rx;obtain ⟨its,r',pl,hz⟩:=I.list hq;have hI:=dz r';have hl:its.length=ns.length:=IntsAre.length hI;refine Et (its:=its.toArray) (ns:=ns) (I.ok.hd hc) pl.isList (by simpa using hI) (by simp [scanBound,hl];omega) fun h' tk o ho hS kp ht=>?_;exact ⟨.ref s.heap.objs.size,_,I.laid (t':=tk) kp (zam _) (show bB X.prog X.w _ h' _ (fj o) from ⟨ho,trivial,⟨o,ho⟩,fun _ _ _ _=>trivial⟩),rfl,q _ _ (I.hok.fresh (zam _)) hS⟩
 ·exact Ax hc pins s Y H _ us Q I r ⟨p,ns,rfl,hq,hn,q⟩
def wf (b:Bool):List R->ac->Option (R×ac)
 |[x],U=>(dJ x U).bind fun ds=>(fX ds).bind fun ns=>if ns.length < 4000 then some (.s b (aG [] ns),U) else none
 |_,_=>none
def Kx {b:Bool}:vL K (wf b) (Hv K b):=by
 intro m H U xs d U' vs Q s r e k;unfold wf at e;split at e
 ·obtain ⟨ds,e0,e⟩:=zab.mp e;obtain ⟨ns,e1,e⟩:=zab.mp e;split at e
  ·rename_i hn
   cases e;obtain ⟨v,rfl,r1⟩:=lB r;obtain ⟨a,ws,rfl,q,rr⟩:=iN s r1 e0;rw [mj e1] at rr;rw [mh rr] at q;exact ⟨a,ns,rfl,q,hn,fun l o hl hS=>k _ _ m (.new hl) (s.same (uc hl)) ⟨l,o,rfl,bx,hS⟩⟩
  ·cases e
 ·cases e
def ui (K:zac)(b:Bool):List V->Hp->VK->Prop:=fun vs H Q=>so b vs H Q\/∃p ns,vs=[.ref p]/\jF K H p (ns.map V.int)/\ns.length < 64/\∀l,H l=none->Q (.ref l) (upd H l (.lst ((gN ns).map V.int)))
def sY {X:Cx}(hc:X.calm=true):gW X (.builtin "sorted") (ui X.K (!HS.bt X.w)):=by
 intro pins s Y H vs us Q I r h;rcases h with h|⟨p,ns,rfl,hq,h64,q⟩
 ·exact sX hc pins s Y H vs us Q I r h
 ·obtain ⟨u,rfl,rx⟩:=iC r
  cases rx;obtain ⟨its,r',pl,hz⟩:=I.list hq;have hI:=dz r';have hl:its.length=ns.length:=IntsAre.length hI;refine sorted_ints (vs:=its) (ns:=ns) pl.isList hI (by omega) fun out ns' a1 a2 a3=>?_;have e:=uS a3 a2;subst e;have hlen:(gN ns).length=ns.length:=(dX ns).length_eq;have hsz:((s.heap.push (seqObj "list" #[] 0)).update s.heap.objs.size (Obj.mapSeq (·++its.toArray))).objs.size=s.heap.objs.size+1:=by rw [zc2,size_push']
  have hoL:(((s.heap.push (seqObj "list" #[] 0)).update s.heap.objs.size (Obj.mapSeq (·++its.toArray))).push (seqObj "list" its.toArray 0)).get? (s.heap.objs.size+1)=some (seqObj "list" its.toArray 0):=by rw [←hsz];exact zal _ rfl
  obtain ⟨c,hcx⟩:∃c,(sortedAll s.heap its out).get? (s.heap.objs.size+1)=some (seqObj "list" out c):=by unfold sortedAll sortedHeap;obtain ⟨e1,q1⟩:∃e1,((((s.heap.push (seqObj "list" #[] 0)).update s.heap.objs.size (Obj.mapSeq (·++its.toArray))).push (seqObj "list" its.toArray 0)).update (s.heap.objs.size+1) (Obj.mapSeq fun _=>#[])).get? (s.heap.objs.size+1)=some (seqObj "list" #[] e1):=⟨_,get?_update_seq hoL (fun _=>#[])⟩;exact ⟨_,get?_update_seq (zae _ (zae _ q1)) (fun _=>out)⟩
  have kp:∀b o,s.heap.get? b=some o->(sortedAll s.heap its out).get? b=some o:=fun b o e=>by have hb:=zah e;have n1:s.heap.objs.size+1≠b:=zaV (zbo hb);have n0:s.heap.objs.size≠b:=zaV hb;unfold sortedAll sortedHeap;rw [zaw _ _ n1];refine zae _ (zae _ ?_);rw [zaw _ _ n1];refine zae _ ?_;rw [zaw _ _ n0];exact zae _ e
  exact ⟨.ref (s.heap.objs.size+1),_,I.laid (t':=s.toks) kp (zbP _) (show bB X.prog X.w _ _ _ (.lst _) from ⟨by rw [zag,hlen,za9];omega,out.toList,c,m5 a1,by simpa [seqObj] using hcx⟩),rfl,q _ (I.hok.fresh (zbP _))⟩
def kB (b:Bool):List R->ac->Option (R×ac)
 |[.s c xs],U=>if c=b/\xs.length < 64 then some (.p U.length,U++[.lst ((gN xs).map D.int)]) else none
 |[x],U=>(kW x U).bind fun ds=>(fX ds).bind fun ns=>if ns.length < 64 then some (.p U.length,U++[.lst ((gN ns).map D.int)]) else none
 |_,_=>none
def Ah {b:Bool}:vL K (kB b) (ui K b):=by
 intro m H U xs d U' vs Q s r e k;unfold kB at e;split at e
 ·exact .inl (C5 m H U _ d U' vs Q s r e k)
 ·rename_i x _;obtain ⟨ds,e0,e⟩:=zab.mp e;obtain ⟨ns,e1,e⟩:=zab.mp e;split at e
  ·rename_i hn
   cases e;obtain ⟨v,rfl,r1⟩:=lB r;obtain ⟨a,ws,rfl,q,rr⟩:=jb s r1 e0;rw [mj e1] at rr;rw [mh rr] at q;refine .inr ⟨a,ns,rfl,q,hn,fun l hl=>k _ _ (m++[l]) (.newH hl) (s.newH hl ⟨_,bx,pi⟩) ⟨l,rfl,?_⟩⟩;rw [←s.len];simp
  ·cases e
 ·cases e
def Ox (neg:Bool):R->R->ac->Option (R×ac)
 |.v (.int i),y,U=>(dJ y U).bind fun ds=>(fX ds).bind fun ns=>some (.v (.bl (if neg then !ns.contains i else ns.contains i)),U)
 |_,_,_=>none
theorem uU {i:Int}:∀{ns:Th},Ow (.int i) (ns.map V.int)=ns.contains i
 |[]=>rfl
 |n::ns=>by have ih:=uU (i:=i) (ns:=ns);unfold Ow at ih ⊢;rw [zaf,zbA,ih,List.contains_cons];simp only [F6];rw [show (n == i)=(i == n) from Bool.eq_iff_iff.mpr ⟨fun h=>beq_iff_eq.mpr (beq_iff_eq.mp h).symm,fun h=>beq_iff_eq.mpr (beq_iff_eq.mp h).symm⟩]
theorem q9:∀{ns:Th},(ns.map V.int).all mq=true
 |[]=>rfl
 |n::ns=>by rw [zaf,List.all_cons,q9];rfl
def NE {neg:Bool}:qf K (Ox neg) (Po K neg):=by
 intro m H U x y d U' v u Q s rx ry e k;unfold Ox at e;split at e
 ·obtain ⟨ds,e0,e⟩:=zab.mp e;obtain ⟨ns,e1,e⟩:=zab.mp e;cases e;simp only [au,ao] at rx;subst rx;obtain ⟨a,ws,rfl,q,rr⟩:=iN s ry e0;rw [mj e1] at rr;rw [mh rr] at q;refine ⟨a,ns.map V.int,rfl,q,rfl,q9,k _ H m .refl s ?_⟩;simp only [au,ao,uU]
 ·cases e
def tE (K:zac)(H:Hp):List V->List (aH×V)->Prop:=Paired fun v kv=>∃t,v=.ref t/\gQ K H t [kV kv.1,kv.2]
def qr (kvs ps:List (aH×V)):List (aH×V):=ps.foldl (fun a p=>em a p.1 p.2) kvs
theorem ut:∀(ps kvs:List (aH×V)),(qr kvs ps).length<=kvs.length+ps.length
 |[],kvs=>by simp [qr]
 |p::ps,kvs=>by have h1:=ut ps (em kvs p.1 p.2);have h2:=jX kvs p.1 p.2;simp only [qr,zbl,zaB] at h1 ⊢;omega
theorem ur:∀{ps:List (aH×V)} {qs:List (aH×Value)} {kvs:List (aH×V)} {vs:List (aH×Value)},KV kvs vs->KV ps qs->KV (qr kvs ps) (HS.putAll vs qs)
 |_,_,_,_,r,.nil=>r
 |p::ps,q::qs,_,_,r,.cons e t=>by obtain ⟨e1,e2⟩:=e;simp only [qr,HS.putAll,zbl];rw [←e1];exact ur (ps:=ps) (qs:=qs) (KV.put r p.1 e2) t
def Cf {X : Cx} {H : Hp} {s : Shared} (I : aA X pins Y H s) : ∀ {ws : List V} {kvs : List (aH × V)} {its : Te}, tE X.K H ws kvs -> aS ws its ->
    ∃ ps : List (aH × Value), KV kvs ps /\ ps.length = its.length /\ ∀ (i : Nat) v, its[i]? = some v -> ∃ k x key, ps[i]? = some (k, x) /\ (bG X.prog X.w).is k key = true /\ gR s.heap v key x := by
  intro ws kvs its p v
  induction p generalizing its with
  | nil => cases v; exact ⟨[], .nil, rfl, fun i v e => by simp at e⟩
  | @cons _ kv _ _ hp tp ih =>
   obtain ⟨k, y⟩ := kv
   cases v with
   | cons hv tv =>
    obtain ⟨ps, a1, a2, a3⟩ := ih tv
    obtain ⟨t, rfl, hs⟩ := hp
    cases hv
    obtain ⟨js, r, ⟨o, ho, hc, n, hd⟩, _⟩ := I.tuple hs
    cases r with
    | cons r1 rr =>
      cases rr with
      | cons r2 rr =>
        cases rr
        rename_i key x
        refine ⟨(k, x) :: ps, .cons ⟨rfl, r2⟩ a1, by simp [a2], fun i v e => ?_⟩
        cases i with
        | zero => simp at e; subst e; exact ⟨k, x, key, rfl, uR r1, ⟨t, o, n, rfl, ho, hc, hd⟩⟩
        | succ i => simpa using a3 i v (by simpa using e)
def BN (K:zac):List V->Hp->VK->Prop:=fun vs H Q=>∃p ws kvs,vs=[.ref p]/\H p=some (.lst ws)/\tE K H ws kvs/\∀l,H l=none->Q (.ref l) (upd H l (.dK (qr [] kvs)))
def rB {X:Cx}(hc:X.calm=true):gW X (.type "dict") (BN X.K):=by
 intro pins s Y H vs us Q I r h;obtain ⟨p,ws,kvs,rfl,hH,hp,q⟩:=h;obtain ⟨u,rfl,rx⟩:=iC r;cases rx;obtain ⟨z,its,n,rv,hl,e⟩:=I.lstM hH;obtain ⟨ps,a1,a2,a3⟩:=Cf I hp rv;have hk:kvs.length=its.length:=by have:=Paired.length a1;omega
 refine Dx (knd:=bG X.prog X.w) (ps:=ps) (I.ok.hd hc) e (by simpa using a2) (by simp;omega) (fun i v hv=>a3 i v (by simpa using hv)) fun h' tk hD kp=>?_;have hz:(qr [] kvs).length<=sizeLine:=by have:=ut kvs [];simp at this;omega
 exact ⟨.ref s.heap.objs.size,_,I.laid (t':=tk) kp (zam _) (show bB X.prog X.w _ h' _ (.dK _) from ⟨hz,beq_eq_false_iff_ne.mpr (zaV I.big),_,ur .nil a1,hD⟩),rfl,q _ (I.hok.fresh (zam _))⟩
def mU:List D->Option (List (aH×D))
 |[]=>some []
 |.tup [.int i,d]::r=>(mU r).map ((.inl i,d) :: ·)
 |_=>none
def hG (kvs:List (aH×D))(k:aH)(v:D):List (aH×D):=if (kvs.any fun kv=>decide (kv.1=k))=true then kvs.map (fun kv=>if kv.1=k then (kv.1,v) else kv) else kvs++[(k,v)]
def aU (kvs ps:List (aH×D)):List (aH×D):=ps.foldl (fun a p=>hG a p.1 p.2) kvs
def KD (K:zac)(H:Hp)(kvs:List (aH×D))(es:List (aH×V)):Prop:=es.map (·.1)=kvs.map (·.1)/\RelDs K H (kvs.map (·.2)) (es.map (·.2))
def KD.nil {H:Hp}:KD K H [] []:=⟨rfl,rfl⟩
def KD.any {H:Hp}{kvs:List (aH×D)}{es:List (aH×V)}(r:KD K H kvs es)(k:aH):(es.any fun kv=>decide (kv.1=k))=(kvs.any fun kv=>decide (kv.1=k)):=by
 have h1:∀{β:Type} (l:List (aH×β)),(l.any fun kv=>decide (kv.1=k))=((l.map (·.1)).any fun x=>decide (x=k)):=fun l=>by rw [zcL];rfl
 rw [h1,h1,r.1]
def KD.cons {K:zac}{H:Hp}{k k':aH}{d:D}{v:V}{kvs:List (aH×D)}{es:List (aH×V)}:KD K H ((k,d)::kvs) ((k',v)::es) ↔ k'=k/\ao K H d v/\KD K H kvs es:=by
 constructor
 ·rintro ⟨h1,h2⟩;simp only [zaf,List.cons.injEq] at h1;obtain ⟨w,r,e,h3,h4⟩:=h2;simp only [zaf,List.cons.injEq] at e;obtain ⟨rfl,rfl⟩:=e;exact ⟨h1.1,h3,h1.2,h4⟩
 ·rintro ⟨rfl,h1,h2,h3⟩;exact ⟨by simp [h2],⟨_,_,rfl,h1,h3⟩⟩
theorem KD.repl {K:zac}{H:Hp}{k:aH}{d:D}{v:V}(rd:ao K H d v):∀{kvs:List (aH×D)} {es:List (aH×V)},KD K H kvs es->KD K H (kvs.map fun kv=>if kv.1=k then (kv.1,d) else kv) (es.map fun kv=>if kv.1=k then (kv.1,v) else kv)
 |[],[],_=>.nil
 |[],e::es,h=>by have:=h.1;simp at this
 |q::kvs,[],h=>by have:=h.1;simp at this
 |(a,x)::kvs,(b,y)::es,h=>by
  obtain ⟨rfl,h1,h2⟩:=KD.cons.mp h;have ih:=KD.repl (k:=k) rd h2;rw [zaf,zaf];by_cases e:b=k
  ·rw [if_pos e,if_pos e];exact KD.cons.mpr ⟨rfl,rd,ih⟩
  ·rw [if_neg e,if_neg e];exact KD.cons.mpr ⟨rfl,h1,ih⟩
theorem KD.snoc {K:zac}{H:Hp}{k:aH}{d:D}{v:V}(rd:ao K H d v):∀{kvs:List (aH×D)} {es:List (aH×V)},KD K H kvs es->KD K H (kvs++[(k,d)]) (es++[(k,v)])
 |[],[],_=>KD.cons.mpr ⟨rfl,rd,.nil⟩
 |[],e::es,h=>by have:=h.1;simp at this
 |q::kvs,[],h=>by have:=h.1;simp at this
 |(a,x)::kvs,(b,y)::es,h=>by obtain ⟨rfl,h1,h2⟩:=KD.cons.mp h;exact KD.cons.mpr ⟨rfl,h1,KD.snoc rd h2⟩
def KD.put {H:Hp}{k:aH}{d:D}{v:V}{kvs:List (aH×D)}{es:List (aH×V)}(r:KD K H kvs es)(rd:ao K H d v):KD K H (hG kvs k d) (em es k v):=by
 unfold hG em;rw [r.any k];split
 ·exact r.repl rd
 ·exact r.snoc rd
theorem KD.putAll {K:zac}{H:Hp}:∀{ps:List (aH×D)} {qs:List (aH×V)} {kvs:List (aH×D)} {es:List (aH×V)},KD K H kvs es->KD K H ps qs->KD K H (aU kvs ps) (qr es qs)
 |[],[],_,_,r,_=>r
 |[],e::es,_,_,_,h=>by have:=h.1;simp at this
 |q::kvs,[],_,_,_,h=>by have:=h.1;simp at this
 |(a,x)::ps,(b,y)::qs,_,_,r,h=>by obtain ⟨rfl,h1,h2⟩:=KD.cons.mp h;exact KD.putAll (ps:=ps) (qs:=qs) (r.put h1) h2
theorem qP {K:zac}{H:Hp}:∀{ds:List D} {ws:List V} {kvs:List (aH×D)},mU ds=some kvs->RelDs K H ds ws->∃qs,tE K H ws qs/\KD K H kvs qs
 |[],ws,kvs,e,r=>by cases e;have r:ws=[]:=r;subst r;exact ⟨[],.nil,.nil⟩
 |d::ds,ws,kvs,e,r=>by
  obtain ⟨v,ws',rfl,r1,r2⟩:=r;unfold mU at e;split at e
  ·cases e;rename_i h;cases h
  ·rename_i i x r' h
   cases h;obtain ⟨ks,e1,rfl⟩:=zaO.mp e;obtain ⟨qs,p1,p2⟩:=qP e1 r2;simp only [ao] at r1;obtain ⟨a,vs,rfl,hq,hr⟩:=r1;obtain ⟨v1,t1,rfl,h1,hr⟩:=hr;obtain ⟨v2,t2,rfl,h2,hr⟩:=hr;have hr:t2=[]:=hr;subst hr;have h1:v1=.int i:=(by simpa only [ao] using h1);subst h1;exact ⟨(.inl i,v2)::qs,.cons ⟨a,rfl,hq⟩ p1,KD.cons.mpr ⟨rfl,h2,p2⟩⟩
  ·cases e
def pY:List R->ac->Option (R×ac)
 |[.p n],U=>match U[n]? with
  |some (.lst ds)=>(mU ds).bind fun kvs=>some (.p U.length,U++[.dct (aU [] kvs)])
  |_=>none
 |_,_=>none
def KB {K:zac}:vL K pY (BN K):=by
 intro m H U xs d U' vs Q s r e k;unfold pY at e;split at e
 ·rename_i n;split at e
  ·rename_i ds hn;obtain ⟨kvs,e1,e⟩:=zab.mp e;cases e;obtain ⟨v,rfl,r1⟩:=lB r;obtain ⟨a,rfl,ha⟩:=r1;obtain ⟨ws,ea,ra⟩:=s.cell _ _ a hn ha;obtain ⟨qs,p1,p2⟩:=qP e1 ra;refine ⟨a,ws,qs,rfl,ea,p1,fun l hl=>?_⟩;have x:dM m H (m++[l]) (upd H l (.dK (qr [] qs))):=.newH hl;have hk:=KD.putAll (K:=K) (H:=H) .nil p2;refine k _ _ (m++[l]) x (s.newH hl ⟨_,bx,hk.1,RelDs.tf x.tf _ _ hk.2⟩) ⟨l,rfl,?_⟩;rw [←s.len];simp
  ·cases e
 ·cases e
def xU (neg:Bool):R2:=fun x y H Q=>∃p kvs k,y=.ref p/\x=kV k/\Rd H p (.dK kvs)/\Q (.bl (if neg then !(dI kvs k).isSome else (dI kvs k).isSome)) H
def zH {X:Cx}(hu:X.A.units+64 < cLine):ku X (compareOp .In) (xU false):=by intro pins s Y H x y v u Q I rx ry h;obtain ⟨p,kvs,k,rfl,rfl,hR,q⟩:=h;cases ry;exact Qy (by omega) I (.inl ⟨kvs,k,hR,rfl,rfl⟩) rx fun s' I'=>⟨.bl _,H,I',rfl,q⟩
theorem mJ (k:aH):∀(es:List (aH×V)),(dI es k).isSome=es.any fun kv=>decide (kv.1=k)
 |[]=>rfl
 |(a,v)::es=>by
  have ih:=mJ k es;unfold dI at ih ⊢;by_cases e:a=k
  ·simp [e]
  ·simpa [e] using ih
def Fz (neg:Bool):R->R->ac->Option (R×ac)
 |.v (.int i),.p n,U=>match U[n]? with
  |some (.dct kvs)=>some (.v (.bl (if neg then !(kvs.any fun kv=>decide (kv.1=.inl i)) else kvs.any fun kv=>decide (kv.1=.inl i))),U)
  |some (.fzd kvs)=>some (.v (.bl (if neg then !(kvs.any fun kv=>decide (kv.1=.inl i)) else kvs.any fun kv=>decide (kv.1=.inl i))),U)
  |_=>Ox neg (.v (.int i)) (.p n) U
 |x,y,U=>Ox neg x y U
def ND {K:zac}{neg:Bool}:qf K (Fz neg) (fun x y H Q=>Po K neg x y H Q\/xU neg x y H Q):=by
 intro m H U x y d U' v u Q s rx ry e k;unfold Fz at e;split at e
 ·rename_i i n;split at e
  ·rename_i kvs hn
   cases e;simp only [au,ao] at rx;subst rx;obtain ⟨a,rfl,ha⟩:=ry;obtain ⟨es,ea,e1,e2⟩:=s.cell _ _ a hn ha;refine .inr ⟨a,es,.inl i,rfl,rfl,.inl ea,k _ H m .refl s ?_⟩;have hv:=(mJ (.inl i) es).trans (KD.any (K:=K) (H:=H) ⟨e1,e2⟩ (.inl i));rw [hv];simp only [au,ao]
  ·rename_i kvs hn
   cases e;simp only [au,ao] at rx;subst rx;obtain ⟨a,rfl,ha⟩:=ry;obtain ⟨o,es,ea,e1,e2⟩:=s.cell _ _ a hn ha;refine .inr ⟨a,es,.inl i,rfl,rfl,.inr ⟨o,ea⟩,k _ H m .refl s ?_⟩;have hv:=(mJ (.inl i) es).trans (KD.any (K:=K) (H:=H) ⟨e1,e2⟩ (.inl i));rw [hv];simp only [au,ao]
  ·exact .inl (NE m H U _ _ d U' v u Q s rx ry e k)
 ·exact .inl (NE m H U _ _ d U' v u Q s rx ry e k)
end HW
namespace HW
open PyProof.Rows L2
mutual
def cS:D->Bool
 |.tup xs=>flatDs xs
 |.fl _=>false
 |.fd _ _=>false
 |_=>true
def flatDs:List D->Bool
 |[]=>true
 |x::xs=>cS x && flatDs xs
end
def O3:R->ac->Option D
 |.v d,_=>some d
 |.p n,U=>match U[n]? with
  |some (.lst xs)=>some (.fl xs)|some (.fz xs)=>some (.fl xs)
  |some (.dct kvs)=>some (.fd (kvs.map (·.1)) (kvs.map (·.2)))|some (.fzd kvs)=>some (.fd (kvs.map (·.1)) (kvs.map (·.2)))
  |_=>none
 |.s _ _,_=>none
 |.x _,_=>none
 |.f _ _,_=>none
def iB:List R->ac->Option (List D)
 |[],_=>some []
 |x::xs,U=>(O3 x U).bind fun d=>(iB xs U).bind fun ds=>some (d::ds)
def dY (f:MF)(n:Nat)(fa:FA):FE:=fun O U=>(fa O U).bind fun a=>(iB a.1 a.2).bind fun ds=>if ds.length=n then (f ds).bind fun d=>if cS d=true then some (.v d,a.2) else none else none
abbrev MC:=List D->Option aq
def rc:aq->Bool
 |.lst xs=>flatDs xs
 |.dct kvs=>flatDs (kvs.map (·.2))
 |_=>false
def C9:oJ->Option aq
 |.rt (.p n) U=>match U[n]? with|some (.lst xs)=>some (.lst xs)|some (.dct kvs)=>some (.dct kvs)|_=>none
 |_=>none
def wo (k:Nat)(b:FS):MC:=fun ds=>(b (ds.map (fun d=>some (.v d))++List.replicate (k - ds.length) none) []).bind C9
def bZ (f:MC)(n:Nat)(fa:FA):FE:=fun O U=>(fa O U).bind fun a=>(iB a.1 a.2).bind fun ds=>if ds.length=n then (f ds).bind fun c=>if rc c=true then some (.p a.2.length,a.2++[c]) else none else none
section
variable {P:Program}{w:World}{H H0:Hp}{h h0:Heap}{a:Addr}{u:HO}{o:Obj}{fs ex:Tf}
def iS.thaw (ok:iS P w H h)(e:H a=some (.frz o u))(hu:gl u):iS P w (upd H a u) h:=by
 have ne:∀c v,H c=some v->v≠.frz o u->c≠a:=fun c v q n z=>by rw [z,e] at q;exact n (Option.some.inj q).symm
 have own:∀c y,H c=some (.own y)->upd H a u c=some (.own y):=fun c y r=>by rw [L2.az (ne c _ r (by simp))];exact r
 have tup:∀c xs,H c=some (.tup xs)->upd H a u c=some (.tup xs):=fun c xs r=>by rw [L2.az (ne c _ r (by simp))];exact r
 intro b v q;by_cases hb:b=a
 ·subst hb;rw [L2.bx] at q;cases q;exact (ok b _ e).2.stay (fun c v _ q=>q) (fun c r=>own c _ r) tup
 ·rw [L2.az hb] at q;exact (ok b v q).stay (fun c v _ q=>q) (fun c r=>own c _ r) tup
def Un.thaw (un:Un fs ex (upd H0 a (.frz o u)) H h0 h)(e:H0 a=some u)(hu:gl u):Un fs ex H0 (upd H a u) h0 h:=by
 have nn:∀b,H0 b=none->b≠a:=fun b z y=>by rw [y,e] at z;cases z
 have nf:∀b v,H0 b=some v->¬ gl v->b≠a:=fun b v q n=>gl.ne e hu q n;refine ⟨fun b ob q n hb hx=>un.keep b ob q (by rw [L2.az (nn b n)];exact n) hb hx,fun b ob q n hb hx=>un.slot b ob q (by rw [L2.az (nn b n)];exact n) hb hx,fun b ob q n hx=>?_,un.there,fun b xs q=>?_,fun b ob v q=>?_,fun b ps q=>?_⟩
 ·rw [L2.az (nn b n)];exact un.free b ob q (by rw [L2.az (nn b n)];exact n) hx
 ·have hb:=nf b _ q fun z=>z;rw [L2.az hb];exact un.tups b xs (by rw [L2.az hb];exact q)
 ·have hb:=nf b _ q fun z=>z;rw [L2.az hb];exact un.frzs b ob v (by rw [L2.az hb];exact q)
 ·have hb:=nf b _ q fun z=>z;obtain ⟨more,r⟩:=un.tbls b ps (by rw [L2.az hb];exact q);exact ⟨more,by rw [L2.az hb];exact r⟩
end
def bor (sp:Sp):Sp:=fun vs H Q E=>sp vs H Q E\/∃a u,H a=some u/\gl u/\∀o,sp vs (upd H a (.frz o u)) (fun v H2=>Q v (upd H2 a u)) E
def borN:Nat->Sp->Sp
 |0,sp=>sp
 |n+1,sp=>bor (borN n sp)
def cF.bor {K:zac}{mg:Td}{base:Heap}{k:Nat}{f:Addr}{ps:Tn}{sp:Sp}(F:cF P w K mg base kT k f fd ps sp) :
  cF P w K mg base kT k f fd ps (HW.bor sp):=by
 refine ⟨fun vs H Q E h=>?_,fun A outer s H args us vs Q E hr he hb hv hs=>?_⟩
 ·rcases h with h|⟨a,u,e,hu,h⟩
  ·exact F.len vs H Q E h
  ·exact F.len _ _ _ _ (h {cls:=.none,data:=.fields #[]})
 ·rcases hs with hs|⟨a,u,e,hu,hs⟩
  ·exact F.run A outer s H args us vs Q E hr he hb hv hs
  ·obtain ⟨o,ok⟩:=iS.frz he.hok e hu
   have nn:∀b,H b=none->upd H a (.frz o u) b=none:=fun b z=>by rw [L2.az (fun y=>by rw [y,e] at z;cases z)];exact z
   refine zbh (F.run A outer s (upd H a (.frz o u)) args us vs _ E hr ⟨he.frames,he.mod,fun b ob q=>⟨(he.bs b ob q).1,nn b (he.bs b ob q).2⟩,he.bsz,he.funs,fun b hb=>nn b (he.frf b hb),ok,he.bare⟩ hb hv (hs o)) fun r s' hq=>?_
   cases r with
   |error e=>exact hq
   |ok fl =>
    cases fl with
    |next=>exact hq
    |brk=>exact hq
    |cont=>exact hq
    |ret x =>
     obtain ⟨v,H',os,bare,un,hok,rv,q⟩:=hq;exact ⟨v,_,os,bare,Un.thaw un e hu,iS.thaw hok (un.frzs a o u L2.bx) hu,rv,q⟩
theorem cF.borN {K:zac}{mg:Td}{base:Heap}{k:Nat}{f:Addr}{ps:Tn}{sp:Sp}(F:cF P w K mg base kT k f fd ps sp) :
  ∀n,cF P w K mg base kT k f fd ps (HW.borN n sp)
 |0=>F
 |n+1=>cF.bor (cF.borN F n)
def qd (H H2:Hp):Hp:=fun b=>match H b with|some u=>some u|none=>H2 b
def Cz (H H1:Hp):Prop:=∀b,H1 b=H b\/∃u o,H b=some u/\gl u/\H1 b=some (.frz o u)
section
variable {K:zac}{H H1 H2:Hp}
theorem Cz.refl:Cz H H:=fun _=>.inl rfl
def Cz.upd {a:Addr}{u:HO}{o:Obj}(c:Cz H H1)(e:H1 a=some u)(hu:gl u):Cz H (upd H1 a (.frz o u)):=fun b=>by
 by_cases hb:b=a
 ·subst hb;rw [L2.bx];rcases c b with z|⟨u',o',_,_,z⟩
  ·exact .inr ⟨u,o,by rw [←z,e],hu,rfl⟩
  ·rw [e] at z;cases z;exact hu.elim
 ·rw [L2.az hb];exact c b
def Cz.trans (c:Cz H H1)(c':Cz H1 H2):Cz H H2:=fun b=>by
 rcases c' b with z|⟨u,o,z1,z2,z3⟩
 ·rw [z];exact c b
 ·rcases c b with y|⟨u',o',_,_,y⟩
  ·exact .inr ⟨u,o,by rw [←y,z1],z2,z3⟩
  ·rw [z1] at y;cases y;exact z2.elim
def Cz.tf (c:Cz H H1):TF H H1:=by
 refine ⟨fun a xs e=>?_,fun a o u e=>?_⟩
 ·rcases c a with z|⟨u,o,z1,z2,z3⟩
  ·rw [z,e]
  ·rw [e] at z1;cases z1;exact z2.elim
 ·rcases c a with z|⟨u',o',z1,z2,z3⟩
  ·rw [z,e]
  ·rw [e] at z1;cases z1;exact z2.elim
theorem Fa (s:vJ H H2):qd H H2=H2:=by
 funext b;unfold qd
 cases e:H b with
 |none=>rfl
 |some u=>exact (s b u e).symm
def ow:vJ H (qd H H2):=fun a o e=>by unfold qd;rw [e]
def E9 {a:Addr}{u v:HO}(e:H a=some u):upd (qd (upd H a v) H2) a u=qd H H2:=by
 funext b;by_cases hb:b=a
 ·subst hb;rw [L2.bx];unfold qd;rw [e]
 ·rw [L2.az hb];unfold qd;rw [L2.az hb]
def Jk {a:Addr}{xs:List V}(c:Cz H H1)(s:vJ H1 H2)(h:gQ K H2 a xs):gQ K (qd H H2) a xs:=by
 have back:∀v,¬ gl v->(∀o u,v=.frz o u->¬ gl u)->H2 a=some v->qd H H2 a=some v:=fun v nf nz e=>by
  unfold qd
  cases q:H a with
  |none=>exact e
  |some u =>
   rcases c a with z|⟨u',o',z1,z2,z3⟩
   ·rw [q] at z;rw [s a u z] at e;exact e
   ·rw [s a _ z3] at e
    cases e;exact absurd z2 (nz o' u' rfl)
 rcases h with (h|⟨o,h⟩)|h
 ·exact .inl (.inl (back _ (fun z=>z) (fun _ _ z=>by cases z) h))
 ·exact .inl (.inr ⟨o,back _ (fun z=>z) (fun o u z=>by cases z;exact fun z=>z) h⟩)
 ·exact .inr h
theorem D8 {a:Addr}{xs:List V}(c:Cz H H1)(s:vJ H1 H2)(e:H2 a=some (.tup xs)):qd H H2 a=some (.tup xs):=by
 unfold qd
 cases q:H a with
 |none=>exact e
 |some u =>
  rcases c a with z|⟨u',o',z1,z2,z3⟩
  ·rw [q] at z;rw [s a u z] at e;exact e
  ·rw [s a _ z3] at e
   cases e
mutual
theorem uY (c:Cz H H1)(s:vJ H1 H2):∀(d:D) (v:V),cS d=true->ao K H2 d v->ao K (qd H H2) d v
 |.non,_,_,h=>by simpa only [ao] using h
 |.bl _,_,_,h=>by simpa only [ao] using h
 |.int _,_,_,h=>by simpa only [ao] using h
 |.str _,_,_,h=>by simpa only [ao] using h
 |.tup xs,v,f,h=>by simp only [ao] at h ⊢;obtain ⟨a,vs,e,q,r⟩:=h;exact ⟨a,vs,e,Jk c s q,flats_ovr c s xs vs (by simpa only [cS] using f) r⟩
 |.fl _,_,f,_=>by simp [cS] at f
 |.fd _ _,_,f,_=>by simp [cS] at f
 |.key _,_,_,h=>by simp only [ao] at h ⊢;obtain ⟨a,e,q⟩:=h;exact ⟨a,e,D8 c s q⟩
theorem flats_ovr (c:Cz H H1)(s:vJ H1 H2):∀(ds:List D) (vs:List V),flatDs ds=true->RelDs K H2 ds vs->RelDs K (qd H H2) ds vs
 |[],_,_,h=>by simpa only [RelDs] using h
 |d::ds,vs,f,h=>by
  simp only [RelDs] at h ⊢;obtain ⟨v,r,e,h1,h2⟩:=h;have f':cS d=true/\flatDs ds=true:=by simpa [flatDs] using f
  exact ⟨v,r,e,uY c s d v f'.1 h1,flats_ovr c s ds r f'.2 h2⟩
end
end
def zi (K:zac)(n:Nat)(f:List D->Option (Hp->V->Hp->Prop)):Sp:=fun vs H Q _=>∃ds P,ds.length=n/\RelDs K H ds vs/\f ds=some P/\∀v H',vJ H H'->P H v H'->Q v H'
section
variable {K:zac}{m:Tf}{Y:L2.St}{H H0:Hp}{U:ac}{Q:VK}
theorem Kh {n:Nat}{f:List D->Option (Hp->V->Hp->Prop)}{P:Hp->V->Hp->Prop}{E:XK}(hs:aI K m H0 U):∀(rs:List R) (vs vsP:List V) (ds dsP:List D) (H1:Hp) (Q:VK),Cz H0 H1->RelDs K H1 dsP vsP->aQ K m H0 rs vs->iB rs U=some ds ->
  f (dsP++ds)=some P->(dsP++ds).length=n->(∀v H2 H1',Cz H1 H1'->vJ H1' H2->P H1' v H2->Q v (qd H1 H2))->borN rs.length (zi K n f) (vsP++vs) H1 Q E
 |[],vs,vsP,ds,dsP,H1,Q,c,rp,rr,ev,ef,el,k=>by
  cases ev;have rr:vs=[]:=rr;subst rr;rw [za2] at ef el ⊢;exact ⟨dsP,P,el,rp,ef,fun v H' s p=>by have:=k v H' H1 .refl s p;rwa [Fa s] at this⟩
 |r::rs,vs,vsP,ds,dsP,H1,Q,c,rp,rr,ev,ef,el,k=>by
  obtain ⟨v,ws,rfl,r1,r2⟩:=rr;obtain ⟨d,e1,ev⟩:=zab.mp ev;obtain ⟨es,e2,ev⟩:=zab.mp ev;cases ev
  have app:∀{Z:Type} (a:List Z) (x:Z) (b:List Z),a++x::b=a++[x]++b:=fun a x b=>by simp
  rw [app] at ef el ⊢
  have go:∀(H1':Hp) (Q':VK),Cz H1 H1'->ao K H1' d v->(∀v H2 H1'',Cz H1' H1''->vJ H1'' H2->P H1'' v H2->Q' v (qd H1' H2))->borN rs.length (zi K n f) (vsP++[v]++ws) H1' Q' E:=fun H1' Q' c' rd k' =>
   Kh hs rs ws (vsP++[v]) es (dsP++[d]) H1' Q' (c.trans c') (RelDs.append (RelDs.tf c'.tf _ _ rp) (by simp only [RelDs];exact ⟨_,_,rfl,rd,rfl⟩)) r2 e2 ef el k'
  cases r with
  |v d' =>
   cases e1;exact .inl (go H1 Q .refl (ao.tf c.tf _ _ r1) k)
  |s _ _=>cases e1
  |x _=>cases e1
  |f _ _=>cases e1
  |p i =>
   obtain ⟨a,rfl,ha⟩:=r1;have e1:(match U[i]? with|some (.lst xs)=>some (D.fl xs)|some (.fz xs)=>some (D.fl xs)|some (.dct kvs)=>some (D.fd (kvs.map (·.1)) (kvs.map (·.2)))|some (.fzd kvs)=>some (D.fd (kvs.map (·.1)) (kvs.map (·.2)))|_=>none)=some d:=e1
   have lent:∀u,gl u->H0 a=some u->(∀H3 o,H3 a=some (.frz o u)->TF H0 H3->ao K H3 d (.ref a))->borN (rs.length+1) (zi K n f) (vsP++[V.ref a]++ws) H1 Q E:=fun u hu e0 rd=>by
    rcases c a with z|⟨u',o',z1,z2,z3⟩
    ·rw [e0] at z
     refine .inr ⟨a,u,z,hu,fun o=>?_⟩;have c1:Cz H1 (upd H1 a (.frz o u)):=Cz.refl.upd z hu
     exact go _ _ c1 (rd _ o L2.bx (c.tf.trans c1.tf)) fun v H2 H1'' c2 s2 p=>by
      rw [E9 z];exact k v H2 H1'' (c1.trans c2) s2 p
    ·rw [e0] at z1;cases z1
     exact .inl (go H1 Q .refl (rd _ o' z3 c.tf) k)
   have known:∀o u,H0 a=some (.frz o u)->ao K H1 d (.ref a)->borN (rs.length+1) (zi K n f) (vsP++[V.ref a]++ws) H1 Q E:=fun o u e0 rd=>.inl (go H1 Q .refl rd k);split at e1
   ·rename_i xs q
    cases e1;obtain ⟨ws',ea,ra⟩:=hs.cell _ _ a q ha
    exact lent (.lst ws') trivial ea fun H3 o e3 t=>by simp only [ao];exact ⟨a,ws',rfl,.inl ⟨o,e3⟩,RelDs.tf t _ _ ra⟩
   ·rename_i xs q
    cases e1;obtain ⟨o,ws',ea,ra⟩:=hs.cell _ _ a q ha;exact known o _ ea (by simp only [ao];exact ⟨a,ws',rfl,.inl ⟨o,c.tf.frz _ _ _ ea⟩,RelDs.tf c.tf _ _ ra⟩)
   ·rename_i kvs q
    cases e1;obtain ⟨es',ea,e1,e2⟩:=hs.cell _ _ a q ha
    exact lent (.dK es') trivial ea fun H3 o e3 t=>by simp only [ao];exact ⟨a,o,es',rfl,e3,e1,RelDs.tf t _ _ e2⟩
   ·rename_i kvs q
    cases e1;obtain ⟨o,es',ea,e1,e2⟩:=hs.cell _ _ a q ha;exact known o _ ea (by simp only [ao];exact ⟨a,o,es',rfl,c.tf.frz _ _ _ ea,e1,RelDs.tf c.tf _ _ e2⟩)
   ·cases e1
def pX (K:zac)(f:MF):List D->Option (Hp->V->Hp->Prop):=fun ds=>(f ds).map fun d _ v H'=>ao K H' d v
def cX (K:zac)(f:MC):List D->Option (Hp->V->Hp->Prop):=fun ds=>(f ds).map fun c H v H'=>∃a,v=.ref a/\H a=none/\gU K [] H' c a
def Mu {n:Nat}{f:MF}{vs:List V}{E:XK}(h:zi K n (pX K f) vs H Q E):AF K n f vs H Q E:=by obtain ⟨ds,P,el,r,ef,k⟩:=h;obtain ⟨d,e,rfl⟩:=zaO.mp ef;exact ⟨ds,d,el,r,e,k⟩
theorem vO:∀{rs:List R} {ds:List D},iB rs U=some ds->rs.length=ds.length
 |[],_,h=>by cases h;rfl
 |r::rs,ds,h=>by obtain ⟨d,_,h⟩:=zab.mp h;obtain ⟨es,e2,h⟩:=zab.mp h;cases h;simp [vO e2]
def BD {f n fa}{E:XK}(h:av K (dY f n fa) Y H Q):tX (borN n (zi K n (pX K f))) [] E (gp K fa) Y H Q:=by
 obtain ⟨O,U,m,d,U',hl,hs,e,k⟩:=h;obtain ⟨⟨xs,U1⟩,e1,e⟩:=zab.mp e;obtain ⟨ds,e2,e⟩:=zab.mp e;split at e
 ·rename_i hn;obtain ⟨d1,e3,e⟩:=zab.mp e;split at e
  ·rename_i hf
   cases e;refine ⟨O,U,m,xs,_,hl,hs,e1,fun vs H1 m1 x1 s1 r1=>?_⟩;have hx:xs.length=n:=(vO e2).trans hn
   show borN n (zi K n (pX K f)) (vs++[]) H1 Q E
   rw [za2,←hx];refine Kh (dsP:=[]) (vsP:=[]) (P:=fun _ v H'=>ao K H' d1 v) s1 xs vs ds H1 Q .refl rfl r1 e2 ?_ (by simp [hn,hx]) fun v H2 H1' c s p=>?_
   ·rw [za3];unfold pX;rw [e3];rfl
   ·exact k v _ m1 (x1.trans (vJ.ext ow)) (s1.same ow) (uY c s _ _ hf p)
  ·cases e
 ·cases e
def BE {f n fa}{E:XK}(h:av K (bZ f n fa) Y H Q):tX (borN n (zi K n (cX K f))) [] E (gp K fa) Y H Q:=by
 obtain ⟨O,U,m,d,U',hl,hs,e,k⟩:=h;obtain ⟨⟨xs,U1⟩,e1,e⟩:=zab.mp e;obtain ⟨ds,e2,e⟩:=zab.mp e;split at e
 ·rename_i hn;obtain ⟨c1,e3,e⟩:=zab.mp e;split at e
  ·rename_i hf
   cases e;refine ⟨O,U,m,xs,_,hl,hs,e1,fun vs H1 m1 x1 s1 r1=>?_⟩;have hx:xs.length=n:=(vO e2).trans hn
   show borN n (zi K n (cX K f)) (vs++[]) H1 Q E
   rw [za2,←hx];refine Kh (dsP:=[]) (vsP:=[]) (P:=fun H v H'=>∃a,v=.ref a/\H a=none/\gU K [] H' c1 a) s1 xs vs ds H1 Q .refl rfl r1 e2 ?_ (by simp [hn,hx]) fun v H2 H1' c s p=>?_
   ·rw [za3];unfold cX;rw [e3];rfl
   ·obtain ⟨a,rfl,ha,hc⟩:=p;have h1a:H1 a=none:=by
     rcases c a with z|⟨u,o,_,_,z⟩
     ·rw [←z,ha]
     ·rw [ha] at z;cases z
    have at':∀u,H2 a=some u->qd H1 H2 a=some u:=fun u q=>(by unfold qd;rw [h1a];exact q);have hc':gU K (m1++[a]) (qd H1 H2) c1 a:=by
     cases c1 with
     |lst xs=>obtain ⟨vs,q,r⟩:=hc;exact ⟨vs,at' _ q,flats_ovr c s _ _ hf r⟩
     |dct kvs=>obtain ⟨es,q,q2,r⟩:=hc;exact ⟨es,at' _ q,q2,flats_ovr c s _ _ hf r⟩
     |fz xs=>cases hf
     |fzt kvs=>cases hf
     |fzd kvs=>cases hf
     |dr kvs=>cases hf
     |lr xs=>cases hf
     |dt kvs=>cases hf
     |tb _ _=>cases hf
     |ob _ _=>cases hf
     |tr _=>cases hf
     |fzr _=>cases hf
     |dtr _=>cases hf
    have hn':a∉m1:=s1.fresh h1a;have ext:dM m1 H1 (m1++[a]) (qd H1 H2):=by have z:=vJ.ext (m:=m1) (ow (H:=H1) (H2:=H2));exact ⟨⟨[a],rfl,fun b hb=>by rw [zau.mp hb];exact h1a⟩,z.tf,z.keep,z.live⟩
    have srel:aI K (m1++[a]) (qd H1 H2) (U1++[c1]):=by
     have s1':=s1.same (ow (H:=H1) (H2:=H2));refine ⟨zbc.mpr ⟨s1.nd,by simp,fun b hb b' hb'=>?_⟩,by simp [s1.len],fun i c' b q1 q2=>?_⟩
     ·rw [zau.mp hb'];rintro rfl;exact hn' hb
     ·by_cases hi:i < m1.length
      ·rw [zai hi] at q2;rw [zai (by rw [←s1.len];exact hi)] at q1;exact (s1'.cell i c' b q1 q2).same (fun _ _ z=>z) ⟨[a],rfl⟩
      ·have hl:=s1.len;rw [zaN (by omega)] at q2;rw [zaN (by omega)] at q1;have z:i - m1.length=0:=by
        cases q:i - m1.length with
        |zero=>rfl
        |succ k=>rw [q] at q2;simp at q2
       have z':i - U1.length=0:=(by omega);rw [z] at q2;rw [z'] at q1;simp at q1 q2;subst q1 q2;exact hc'
    exact k _ _ (m1++[a]) (x1.trans ext) srel ⟨a,rfl,by rw [←s1.len];simp⟩
  ·cases e
 ·cases e
end
theorem oK.okN {P:Program}{w:World}{K:zac}{mg:Td}{base:Heap}{x qual:Str}{st:Stmt}{f:Addr}{fd:FuncData}{N ps:Tn}{k:Nat}{b:FS}(F:oK K x qual st f fd)(S:ax N ps (ai st))
  (hbody:∀(cdv:Value) (A:Around) (outer:List Env) (s:Shared) (H:Hp) (E:XK),bQ k (A.deeper (envOfC qual (ai st) s.heap.objs.size f cdv))->on (jE kT P w K mg base N qual (ai st) f cdv A outer s H E).nox (bu st) (eP K b)) :
  cF P w K mg base kT (k+1) f fd ps (zi K ps.length (cX K (wo N.length b))):=by
 have G:cF P w K mg base kT (k+1) f fd ps (fun vs H Q _=>vs.length=ps.length/\eP K b {nx:=fun _ H'=>Q .non H',rt:=Q} (L2.fw N vs) H) :=
  L2.oK.ok F S (fun vs H Q E h=>h.1) fun cdv A outer s H vs Q E hr h=>⟨_,hbody cdv A outer s H E hr,h.2⟩
 refine G.imp fun vs H Q E hh=>?_;obtain ⟨ds,P',hn,r,e,k⟩:=hh;refine ⟨by rw [←r.length];exact hn,?_⟩;obtain ⟨c,ec,rfl⟩:=zaO.mp e;obtain ⟨o,e1,e2⟩:=zab.mp ec;refine ⟨_,[],[],o,qI r,.nil,e1,?_⟩
 cases o with
 |nx O U=>cases e2
 |bk O U=>cases e2
 |ct O U=>cases e2
 |rt d U =>
  cases d with
  |v d=>cases e2
  |s b xs=>cases e2
  |x _=>cases e2
  |f _ _=>cases e2
  |p n =>
   intro v H' m' x s' r';obtain ⟨a,rfl,ha⟩:=r';unfold C9 at e2;have cell:∀c',U[n]?=some c'->gU K m' H' c' a:=fun c' q=>s'.cell n c' a q ha
   have free:H a=none:=by
    obtain ⟨e,rfl,f⟩:=x.ext;exact f a (by simpa using zaH ha)
   simp only at e2;split at e2
   ·rename_i xs q;cases e2;exact k _ _ x.sam ⟨a,rfl,free,cell _ q⟩
   ·rename_i kvs q;cases e2;exact k _ _ x.sam ⟨a,rfl,free,cell _ q⟩
   ·cases e2
end HW
namespace HW
variable {K:zac}
open PyProof.Rows L2
def Hz (K:zac):R2:=fun x y H Q=>∃a b ys,x=.ref a/\y=.ref b/\gQ K H a []/\gQ K H b ys/\ys.length<=sizeLine/\Q (.ref b) H
theorem Fh {X:Cx}:ku X (binaryOp .Add) (Hz X.K):=by
 intro pins s Y H x y v u Q I rx ry h;obtain ⟨a,b,ys,rfl,rfl,ha,hb,hz,q⟩:=h;cases rx;cases ry;obtain ⟨its,r1,p1,_⟩:=I.tuple ha;obtain ⟨its2,r2,p2,_⟩:=I.tuple hb;cases r1;obtain ⟨⟨cls,dd,data,sl⟩,ho,hc,n,hd⟩:=id p1;obtain ⟨⟨cls2,dd2,data2,sl2⟩,ho2,hc2,n2,hd2⟩:=id p2;simp only at hc hd hc2 hd2;subst hc hd hc2 hd2;exact concat_meets ⟨_,ho,rfl⟩ ⟨_,ho2,rfl⟩ noFill_tuple_add seq_tuple_add PySem.F.slot_tuple_add PySem.F.entry_tuple_add (PySem.F.args_tuple_add_2 _ _)
  (tuple_addW0 a b #[] its2.toArray n n2 dd dd2 sl sl2 (by simp)) ⟨ho,ho2,⟨.ref b,H,I,rfl,q⟩⟩
def cO:R->R->ac->Option (R×ac)
 |.v (.tup []),.v (.tup ys),U=>if ys.length<=sizeLine then some (.v (.tup ys),U) else none
 |x,y,U=>Gk x y U
def KC :qf K cO (fun x y H Q=>HA K x y H Q\/Hz K x y H Q):=by
 intro m H U x y d U' v u Q s rx ry e k;unfold cO at e;split at e
 ·split at e
  ·rename_i z
   cases e;have ry':=ry;simp only [au,ao] at rx ry;obtain ⟨a,vs,rfl,qa,ra⟩:=rx;obtain ⟨b,ws,rfl,qb,rb⟩:=ry;have ra:vs=[]:=(by simpa only [RelDs] using ra);subst ra;exact .inr ⟨a,b,ws,rfl,rfl,qa,qb,by rw [←rb.length];exact z,k _ H m .refl s ry'⟩
  ·cases e
 ·exact .inl (NI m H U _ _ d U' v u Q s rx ry e k)
def BK:V->V->V->Hp->(Hp->Prop)->Prop:=fun o i v H Q=>∃p kvs k,o=.ref p/\i=kV k/\H p=some (.dK kvs)/\kvs.length < sizeLine/\Q (upd H p (.dK (em kvs k v)))
def Bl {X:Cx}(hu:X.A.units+1 < cLine):tF X BK:=by intro pins s Y H o i v ov iv u Q I ro ri rv h;obtain ⟨p,kvs,k,rfl,rfl,hp,hl,q⟩:=h;cases ro;exact rn hu I (xt.k hp hl) ri rv fun s' I'=>⟨_,I',q⟩
def tF.or {t u:Gs}(h:tF X t)(h':tF X u):tF X (fun o i v H Q=>t o i v H Q\/u o i v H Q):=fun pins s Y H o i v ov iv z Q I ro ri rv q=>by
 rcases q with q|q
 ·exact h pins s Y H o i v ov iv z Q I ro ri rv q
 ·exact h' pins s Y H o i v ov iv z Q I ro ri rv q
def lg:R->Option aH
 |.v (.int i)=>some (.inl i)
 |.v (.str x)=>some (.inr (some x))
 |.v .non=>some (.inr none)
 |_=>none
def wu (o i:R)(dv:D)(U:ac):Option ac:=match o with
 |.p n=>match U[n]? with
  |some (.lst xs)=>(match i with|.v (.int k)=>(D0 xs.length k).bind fun j=>some (U.set n (.lst (xs.set j dv)))|_=>none)
  |some (.dct kvs)=>if kvs.length < sizeLine then (lg i).bind fun k=>some (U.set n (.dct (hG kvs k dv))) else none
  |_=>none
 |_=>none
def qx (fo fi:FE):FG:=fun d O U=>match d with|.v dv=>(fo O U).bind fun o=>(fi O o.2).bind fun i=>(wu o.1 i.1 dv i.2).bind fun U'=>some (O,U')|_=>none
theorem RelDs.setAt {K:zac}{H:Hp}{d:D}{v:V}(h:ao K H d v):∀{ds:List D} {vs:List V} (j:Nat),RelDs K H ds vs->RelDs K H (ds.set j d) (vs.set j v)
 |[],vs,j,r=>by have r:vs=[]:=r;subst r;exact rfl
 |_::_,_,0,⟨v',r,e,h1,h2⟩=>by subst e;exact ⟨v,r,rfl,h,h2⟩
 |_::_,_,j+1,⟨v',r,e,h1,h2⟩=>by subst e;exact ⟨v',_,rfl,h1,RelDs.setAt h j h2⟩
def yv {m:Tf}{H:Hp}{x:R}{v:V}{k:aH}(r:au K m H x v)(e:lg x=some k):v=kV k:=by
 unfold lg at e;split at e
 ·cases e;simpa only [au,ao,kV] using r
 ·cases e;simpa only [au,ao,kV] using r
 ·cases e;simpa only [au,ao,kV] using r
 ·cases e
def JM {K:zac}{m:Tf}{H:Hp}{U U':ac}{o i:R}{dv:D}{vo vi v:V}{Q:Hp->Prop}(s:aI K m H U)(ro:au K m H o vo)(ri:au K m H i vi)(rv:ao K H dv v)(e:wu o i dv U=some U')
  (k:∀H',dM m H m H'->aI K m H' U'->Q H'):BJ vo vi v H Q\/BK vo vi v H Q:=by
 unfold wu at e;split at e
 ·rename_i n
  split at e
  ·rename_i xs q
   split at e
   ·rename_i j
    obtain ⟨w,e1,e⟩:=zab.mp e;cases e;obtain ⟨a,rfl,ha⟩:=ro
    have ri:vi=.int j:=by simpa only [au,ao] using ri
    subst ri;obtain ⟨ws,ea,ra⟩:=s.cell _ _ a q ha;have x:dM m H m (upd H a (.lst (ws.set w v))):=.put (zaH ha) ea (by simp) (by simp);exact .inl ⟨a,ws,j,w,rfl,rfl,ea,by rw [←ra.length];exact e1,k _ x (s.put ha ea (by simp) (by simp) ⟨_,cp,RelDs.tf x.tf _ _ (RelDs.setAt rv w ra)⟩)⟩
   ·cases e
  ·rename_i kvs q
   split at e
   ·rename_i hl
    obtain ⟨w,e1,e⟩:=zab.mp e;cases e;obtain ⟨a,rfl,ha⟩:=ro;obtain ⟨es,ea,q1,q2⟩:=s.cell _ _ a q ha;have kd:KD K H kvs es:=⟨q1,q2⟩;have kd':=kd.put (k:=w) rv;have x:dM m H m (upd H a (.dK (em es w v))):=.put (zaH ha) ea (by simp) (by simp);exact .inr ⟨a,es,w,rfl,yv ri e1,ea,by have:=congrArg List.length q1;simp at this;omega,k _ x (s.put ha ea (by simp) (by simp) ⟨_,cp,kd'.1,RelDs.tf x.tf _ _ kd'.2⟩)⟩
   ·cases e
  ·cases e
 ·cases e
def ED {fo fi:FE}{v:V}{H:Hp}{Q:L2.St->Hp->Prop}(h:qp K (qx fo fi) v Y H Q):L2.qx (av K fo) (av K fi) (fun o i v H Q=>BJ o i v H Q\/BK o i v H Q) v Y H Q:=by
 obtain ⟨O,U,m,d,O',U',hl,hs,r,e,k⟩:=h;unfold qx at e;split at e
 ·rename_i dv;obtain ⟨⟨o,U1⟩,e1,e⟩:=zab.mp e;obtain ⟨⟨i,U2⟩,e2,e⟩:=zab.mp e;obtain ⟨U3,e3,e⟩:=zab.mp e;cases e;refine ⟨O,U,m,o,U1,hl,hs,e1,fun vo H1 m1 x1 s1 r1=>?_⟩;refine ⟨O,U1,m1,i,U2,hl.ext x1,s1,e2,fun vi H2 m2 x2 s2 r2=>?_⟩;exact JM s2 (r1.ext x2) r2 (ao.tf (x1.tf.trans x2.tf) _ _ r) e3 fun H3 x3 s3=>k Y H3 m2 ((x1.trans x2).trans x3) s3 (hl.ext ((x1.trans x2).trans x3))
 ·cases e
def QB (lt:Int->Int->Bool)(ns:Th):Int:=ns.getD (argBest (fun i j=>lt (ns.getD i 0) (ns.getD j 0)) (ns.length - 1)) 0
end HW
namespace HS
open PyProof.Rows L2
section
variable {prog:Program}{w:World}{A:Around}{E:Tb}{s:Shared}
def Ac {a:Addr}{Q:Bool->Shared->Prop}(hT:s.TypeIs (.ref a) "dict")(h:Q false s):wpAny (model prog w) A (listLengthHint (.ref a)) Q E s:=PySem.W.kdl_hint_dict hT h
end
end HS
namespace HW
open PyProof.Rows L2 HS
def Fx:List aH->Option (Th)
 |[]=>some []
 |.inl n::r=>(Fx r).map (n :: ·)
 |_=>none
end HW
namespace HW
variable {K:zac}
open PyProof.Rows L2
def iA (K:zac)(mg:Td)(x:Str)(d:D):Prop:=∃u v,mg x=some u/\aY v u/\∀H,ao K H d v
def GB (K:zac)(d:D)(v:V)(u:Value):Prop:=aY v u/\∀H,ao K H d v
def yV (K:zac)(ds:List D)(vs:List V)(us:Te):Prop:=aS vs us/\∀H,RelDs K H ds vs
def hZ :yV K [] [] []:=⟨.nil,fun _=>rfl⟩
def fJ {d:D}{v:V}{u:Value}{ds:List D}{vs:List V}{us:Te}(h:GB K d v u)(h':yV K ds vs us):yV K (d::ds) (v::vs) (u::us) :=
 ⟨.cons h.1 h'.1,fun H=>by simp only [RelDs];exact ⟨_,_,rfl,h.2 H,h'.2 H⟩⟩
def DB {b:Bool}:GB K (.bl b) (.bl b) (.bool b):=⟨rfl,fun H=>by simp only [ao]⟩
def j9 {K:zac}{a:Addr}{us:Te}{n:Nat}{sl:Array (Tg)}{ds:List D}{vs:List V}(h:K.lookup a=some ⟨.type "tuple",none,.seq us.toArray n,sl⟩)(hz:us.length<=sizeLine)(r:yV K ds vs us):GB K (.tup ds) (.ref a) (.ref a) :=
 ⟨rfl,fun H=>by simp only [ao];exact ⟨a,vs,rfl,.inr ⟨_,us.toArray,n,h,rfl,rfl,rfl,by simpa using hz,by simpa using r.1⟩,r.2 H⟩⟩
def p0 {mg:Td}{x:Str}{u:Value}{d:D}{v:V}(hm:mg x=some u)(r:GB K d v u):iA K mg x d:=⟨u,v,hm,r.1,r.2⟩
def DU (lo c:Int)(n:Nat):It:=⟨fun i _=>i < n,fun i H x H'=>H'=H/\x=.int (lo+i * c),fun i _=>n<=i⟩
def za {w:World}{tg:Expr}(it:Addr)(lo c:Int)(n:Nat):vE P w K tg (DU lo c n) [it] it (fun i h=>IsRangeIter h it (lo+(i:Nat) * c) ((n:Int) - (i:Nat)) c) where
 mem:=by simp
 obj:=fun i h st b hb=>by
  have e:b=it:=by simpa using hb
  subst e;exact ⟨_,st,fun v z=>by
   have z':Data.fields _=Data.cell v:=z
   cases z'⟩
 keep:=fun i h h' st k=>k it (by simp) _ st
 item:=by intro X hP hw hK hc i pins s Y H E I hf st hg;subst hP hw hK;obtain ⟨f0,f1,f2,f3,f4,f5⟩:=hf it (by simp);refine (Walks.range (prog:=X.prog) (w:=X.w) (I.ok.hd hc) it lo c n).item i s _ _ hg st fun v h' tk hv st' kk=>?_;obtain ⟨t,rfl⟩:=hv;have I1:aA X pins Y H {s with heap:=h',toks:=tk}:=I.turned (fun b o hb e=>kk b o (by simpa using hb) e) f0 f1 f3 f4 f5;exact ⟨_,rfl,uV (s:={s with heap:=h',toks:=tk}) (n:="range_iterator") st' rfl rfl (by decide) ⟨.int (lo+i * c),H,I1,⟨t,rfl⟩,⟨rfl,rfl⟩,st',fun b hb=>(hf b hb).1⟩⟩
 done:=by intro X hP hw hK hc i pins s Y H E I hf st hg;subst hP hw hK;obtain ⟨f0,f1,f2,f3,f4,f5⟩:=hf it (by simp);exact wpAny_pyNext_range_end (I.ok.hd hc) st (by have:n<=i:=hg;omega) fun h' eb=>⟨rfl,I.turned (t':=s.toks) (fun b o hb e=>eb b o hb e) f0 f1 f3 f4 f5⟩
 self:=fun _ _ _ _ _ st h=>wpAny_pyIter_rangeiter st h
def zb {w:World}{tg:Expr}(it:Addr)(lo c:Int)(n:Nat):vE P w K tg (DU lo c n) [it] it (fun i h=>IsLongIter h it (lo+(i:Nat) * c) ((n:Int) - (i:Nat)) c) where
 mem:=by simp
 obj:=fun i h st b hb=>by
  have e:b=it:=by simpa using hb
  subst e;exact ⟨_,st,fun v z=>by
   have z':Data.fields _=Data.cell v:=z
   cases z'⟩
 keep:=fun i h h' st k=>k it (by simp) _ st
 item:=by intro X hP hw hK hc i pins s Y H E I hf st hg;subst hP hw hK;obtain ⟨f0,f1,f2,f3,f4,f5⟩:=hf it (by simp);refine (Walks.longrange (prog:=X.prog) (w:=X.w) (I.ok.hd hc) it lo c n).item i s _ _ hg st fun v h' tk hv st' kk=>?_;obtain ⟨t,rfl⟩:=hv;have I1:aA X pins Y H {s with heap:=h',toks:=tk}:=I.turned (fun b o hb e=>kk b o (by simpa using hb) e) f0 f1 f3 f4 f5;exact ⟨_,rfl,uV (s:={s with heap:=h',toks:=tk}) (n:="longrange_iterator") st' rfl rfl (by decide) ⟨.int (lo+i * c),H,I1,⟨t,rfl⟩,⟨rfl,rfl⟩,st',fun b hb=>(hf b hb).1⟩⟩
 done:=by intro X hP hw hK hc i pins s Y H E I hf st hg;subst hP hw hK;obtain ⟨f0,f1,f2,f3,f4,f5⟩:=hf it (by simp);exact wpAny_pyNext_long_end (I.ok.hd hc) st (by have:n<=i:=hg;omega) fun h' eb=>⟨rfl,I.turned (t':=s.toks) (fun b o hb e=>eb b o hb e) f0 f1 f3 f4 f5⟩
 self:=fun _ _ _ _ _ st h=>wpAny_pyIter_longiter st h
abbrev gZ (i j c:Int):Nat:=(Builtin.Range.rangeSize i j c).toNat
def rZ (i j c:Int):Prop:=c≠0/\-(2 ^ 30) < c/\c < 2 ^ 30
instance {i j c:Int}:Decidable (rZ i j c):=by unfold rZ;infer_instance
section
variable {X:Cx}{tg:Expr}
theorem Ej {H:Hp}{s:Shared}{R:It->Hp->Prop}{E:Tb}{lo hi c:Int}{t u v:Tok}{tk:Nat}(I:aA X pins Y H s)
  (q:R (DU lo c (gZ lo hi c)) H):wpAny (model X.prog X.w) X.A (pyIter (.ref s.heap.objs.size)) (QI X pins Y tg R) E {s with heap:=s.heap.push {cls:=.type "range",data:=.fields #[.int lo t,.int hi u,.int c v]},toks:=tk}:=by
 have I1:aA X pins Y H {s with heap:=s.heap.push {cls:=.type "range",data:=.fields #[.int lo t,.int hi u,.int c v]},toks:=tk}:=I.kept fun b o e=>zae _ e
 have e1:lo+((0:Nat):Int) * c=lo:=by simp
 have e2:((gZ lo hi c:Nat):Int) - ((0:Nat):Int)=Builtin.Range.rangeSize lo hi c:=by rw [rangeSize_toNat lo hi c];simp [gZ]
 cases hs:Builtin.Range.small lo hi c with
 |true =>
  refine wpAny_pyIter_range (IsRange.new ..) hs ?_
  refine ⟨_,[(s.heap.push {cls:=.type "range",data:=.fields #[.int lo t,.int hi u,.int c v]}).objs.size],_,_,H,rfl,
   I1.kept (t':=tk) fun b o e=>zae _ e,za _ lo c (gZ lo hi c),?_,fun b hb=>?_,q⟩
  ·show IsRangeIter _ _ (lo+((0:Nat):Int) * c) (((gZ lo hi c:Nat):Int) - ((0:Nat):Int)) c
   rw [e1,e2];exact zal _ rfl
  ·have e:=zau.mp hb
   subst e;exact I1.fpOk (zam _) (I1.hok.fresh (zam _))
 |false =>
  refine wpAny_pyIter_longrange (IsRange.new ..) hs ?_
  refine ⟨_,[(s.heap.push {cls:=.type "range",data:=.fields #[.int lo t,.int hi u,.int c v]}).objs.size],_,_,H,rfl,
   I1.kept (t':=tk) fun b o e=>zae _ e,zb _ lo c (gZ lo hi c),?_,fun b hb=>?_,q⟩
  ·show IsLongIter _ _ (lo+((0:Nat):Int) * c) (((gZ lo hi c:Nat):Int) - ((0:Nat):Int)) c
   rw [e1,e2];exact zal _ rfl
  ·have e:=zau.mp hb
   subst e;exact I1.fpOk (zam _) (I1.hok.fresh (zam _))
def HR (ta:TA):TI:=fun Y H R=>ta Y H fun vs H1=>∃i j c:Int,vs=[.int i,.int j,.int c]/\rZ i j c/\R (DU i c (gZ i j c)) H1
theorem zD {a b c:Expr}{ta:TA}{p pos:Pos}(hg:Gl X "range")(hm:X.mg "range" = none)(ha:PA X [a,b,c] ta)(hs:starEach [a,b,c] X.env=(false,eval a X.env)::starEach [b,c] X.env)(hs2:(backTo pos (starEach [b,c] X.env)).any (·.1)=false) :
  PI X tg (.Call (.Name "range" p) [a,b,c] [] pos) (HR ta):=by
 intro pins s Y H R I h;refine Call_ (sA I hg hm boot_range (PyProof.Rows.callWith_type1 (db (ha pos pins s Y H _ I h) fun us s1 hh=>?_) hs hs2));obtain ⟨vs,H1,I1,r1,q1⟩:=hh;obtain ⟨i,j,c,e,hk,q⟩:=q1;subst e
 cases r1 with
 |cons r rr =>
 cases rr with
 |cons r' rr =>
 cases rr with
 |cons r'' rr =>
 cases rr;obtain ⟨t,rfl⟩:=r;obtain ⟨t',rfl⟩:=r';obtain ⟨t'',rfl⟩:=r'';exact call_range_3 hk.1 (Ej I1 q) (.inl (PyProof.noPylong_small (by have:=hk.2;omega)))
end
def Ak (f g h:FE):FI:=fun O U=>(f O U).bind fun a=>(g O a.2).bind fun b=>(h O b.2).bind fun c=>match a.1,b.1,c.1 with
 |.v (.int i),.v (.int j),.v (.int k)=>if rZ i j k then some ((List.range (gZ i j k)).map fun n=>.int (i+(n:Nat) * k),c.2) else none|_,_,_=>none
def Fu (lo c:Int)(n:Nat):DV K (DU lo c n) ((List.range n).map fun k=>.int (lo+(k:Nat) * c)) (fun _=>True) where
 st:=fun _ _ _ _=>trivial
 stop:=fun i H _ hi=>by show n<=i;simpa using hi
 go:=fun i d H e _=>by
  have:=(zat.mp e).1
  show i < n;simpa using this
 yld:=fun i d H x H' e _ ⟨e1,e2⟩=>by
  have hi:=(zat.mp e).1;have hi':i < n:=by simpa using hi
  refine ⟨e1,?_⟩;simp [hi'] at e;subst e e2;simp only [ao]
def Jp {H:Hp}{R:It->Hp->Prop}{f g i}(h:zt K (Ak f g i) Y H R):HR (gp K (ae f (ae g (ae i ak)))) Y H R:=by
 obtain ⟨O,U,m,xs,U',hl,hs,e,k⟩:=h;obtain ⟨⟨x,U1⟩,e1,e⟩:=zab.mp e;obtain ⟨⟨y,U2⟩,e2,e⟩:=zab.mp e;obtain ⟨⟨z,U3⟩,e3,e⟩:=zab.mp e;refine ⟨O,U,m,[x,y,z],U3,hl,hs,by simp only at e2 e3;simp [ae,ak,e1,e2,e3],fun vs H1 m1 x1 s1 r1=>?_⟩;split at e
 ·rename_i i j c q1 q2 q3;split at e
  ·rename_i zz
   cases e;simp only at q1 q2 q3;subst q1 q2 q3;obtain ⟨v,r,rfl,r1,v2,r',rfl,r2,v3,r'',rfl,r3,r4⟩:=r1;have r4:r''=[]:=r4;simp only [au,ao] at r1 r2 r3;subst r1 r2 r3 r4;exact ⟨i,j,c,rfl,zz,k _ _ H1 m1 x1 s1 (Fu i c (gZ i j c)) trivial⟩
  ·cases e
 ·cases e
end HW
namespace L2
open PyProof.Rows
section
variable {X:Cx}{pins:Tc}{Y:St}{H:Hp}{s:Shared}{h':Heap}
def aA.turnedL {t':Nat}{its:Tf}(I:aA X pins Y H s)(k:∀b o,b∉its->s.heap.get? b=some o->h'.get? b=some o)
  (hf:∀it∈its,H it=none/\it≠X.env.locals/\(it∈X.ex\/X.s₀.heap.objs.size<=it)/\(∀x c,X.env.cells.lookup x=some c->c≠it)/\∀p∈X.pn++pins,p.1≠it):aA X pins Y H {s with heap:=h',toks:=t'}:=by
 have nit:∀b u,H b=some u->b∉its:=fun b u e z=>by rw [(hf b z).1] at e;cases e
 refine I.step (g':=s.gens) (d':=s.drawn) (ch:=its) (fun b hb=>?_) (fun b o _ _ hc e _=>k b o hc e) (fun b o _ _ hc e _=>⟨o.slots,k b o hc e⟩) (fun _ _ _ _ n=>n)
  (fun b o hc e=>⟨o,k b o hc e⟩) (fun _ _ e=>e) (fun _ _ _ e=>e) (fun b ps e=>⟨#[],by rw [e];simp⟩) (fun m hm=>?_) (fun b u e=>?_) I.bare
 ·obtain ⟨_,hL,h1,h2,h3⟩:=hf b hb
  exact ⟨h1,hL,h2,h3⟩
 ·obtain ⟨o,es,ep,ho,r⟩:=hm
  exact ⟨o,es,ep,k _ o (fun z=>(hf _ z).2.1 rfl) ho,r⟩
 ·refine (I.hok b u e).stay (fun c v hc q=>k c v ?_ q) (fun _ q=>q) fun _ _ q=>q
  rcases hc with z|z
  ·rw [z];exact nit b u e
  ·exact nit c _ z
end
def EV {h:Heap}{o:Obj}{b:Addr}(hb:b < h.objs.size):(h.push o).get? b=h.get? b:=by unfold Heap.get? Heap.push;simp [Array.getElem?_push,zap hb]
end L2
namespace HW
open PyProof.Rows L2
structure Ih (K:zac)(J:It)(xs:List D)(P:Hp->Prop):Prop where
 st:∀H H',TF H H'->P H->P H'
 stop:∀i H,P H->xs.length<=i->J.stop i H
 go:∀(i:Nat) d H,xs[i]?=some d->P H->J.go i H
 yld:∀(i:Nat) d H x H',xs[i]?=some d->P H->J.yld i H x H'->(∀a o,H a=some o->H' a=some o)/\ao K H' d x
def EI (K:zac)(f:FI):TI:=fun Y H R=>∃O U m xs U',dZ K m H O Y/\aI K m H U/\f O U=some (xs,U') /\
 ∀J P H' m',dM m H m' H'->aI K m' H' U'->Ih K J xs P->P H'->R J H'
def u0 {m:Tf}{H H':Hp}(s:∀a o,H a=some o->H' a=some o):dM m H m H' :=
 ⟨⟨[],by simp,fun _ z=>nomatch z⟩,⟨fun a xs e=>s _ _ e,fun a o x e=>s _ _ e⟩,fun a o e _=>s _ _ e,fun a e=>by
  cases q:H a with
  |none=>rfl
  |some o=>rw [s _ _ q] at e;cases e⟩
section
variable {K:zac}{m:Tf}{Y:L2.St}{H:Hp}{U:ac}{D:eN}
def EE {fi g b}(h:eP K (i7 fi g b) D Y H):IG (EI K fi) (qp K g) (eP K b) D Y H:=by
 obtain ⟨O,U,m,o,hl,hs,e,k⟩:=h;obtain ⟨⟨xs,U1⟩,e1,e⟩:=zab.mp e;refine ⟨O,U,m,xs,U1,hl,hs,e1,fun J P H1 m1 x1 s1 ok p1=>?_⟩;refine ⟨fun i n Y H=>n=xs.length - i/\i<=xs.length/\P H/\∃O U m,dZ K m H O Y/\aI K m H U/\dC g b (xs.drop i) O U=some o/\eN.of K m H D o,
  ⟨_,rfl,zbd _,p1,O,U1,m1,dZ.ext x1 hl,s1,by simpa using e,eN.of_ext x1 k⟩,?_⟩
 rintro i n Y H ⟨rfl,hi,p,O,U,m,hl,hs,e,k⟩;by_cases hlt:i < xs.length
 ·have hx:xs[i]?=some xs[i]:=zao hlt;rw [zbe hlt,dC] at e;obtain ⟨⟨O1,U1⟩,e1,e⟩:=zab.mp e;obtain ⟨o1,e2,e⟩:=zab.mp e;refine .inr ⟨ok.go i _ H hx p,fun Y H=>i+1<=xs.length/\P H/\∃O U m,dZ K m H O Y/\aI K m H U/\dC g b (xs.drop (i+1)) O U=some o/\eN.of K m H D o,
   fun Y' H' z=>⟨xs.length - (i+1),by omega,rfl,z⟩,fun x H' y=>?_⟩
  obtain ⟨xe,rx⟩:=ok.yld i _ H x H' hx p y;have x0:dM m H m H':=u0 xe;refine ⟨O,U,m,.v xs[i],O1,U1,dZ.ext x0 hl,hs.same xe,rx,e1,fun Y1 H1 m1 x1 s1 l1=>?_⟩;have x1:=x0.trans x1;refine ⟨O1,U1,m1,o1,l1,s1,e2,?_⟩
  cases o1 with
  |nx O2 U2=>exact fun Y2 H2 m2 x2 s2 l2=>⟨hlt,ok.st _ _ (x1.trans x2).tf p,O2,U2,m2,l2,s2,e,eN.of_ext (x1.trans x2) k⟩
  |ct O2 U2=>exact fun Y2 H2 m2 x2 s2 l2=>⟨hlt,ok.st _ _ (x1.trans x2).tf p,O2,U2,m2,l2,s2,e,eN.of_ext (x1.trans x2) k⟩
  |bk O2 U2=>cases e;exact fun Y2 H2 m2 x2 s2 l2=>k Y2 H2 m2 (x1.trans x2) s2 l2
  |rt d U2=>cases e;exact fun v H2 m2 x2 s2 l2=>k v H2 m2 (x1.trans x2) s2 l2
 ·have:i=xs.length:=by omega
  subst this;rw [zc1,dC] at e;cases e;exact .inl ⟨ok.stop _ H p (zam _),k Y H m .refl hs hl⟩
end
def pd {H:Hp}{T:Addr}{o':HO}(h:H T=none)(a:Addr)(o:HO)(e:H a=some o):upd H T o' a=some o:=by
 have ne:a≠T:=fun z=>by rw [z,h] at e;cases e
 rw [az ne];exact e
end HW
namespace HS
open PyProof.Rows
end HS
namespace HW
open PyProof.Rows L2 HS
end HW
namespace HS
open PyProof.Rows
end HS
namespace HW
open PyProof.Rows L2 HS
end HW
namespace HX
abbrev eO (C:Value)(vs:Ti):Obj:={cls:=C,dict:=none,data:=.fields vs,slots:=#[]}
structure Fl (G:Addr->Prop)(h:Heap)(e:Addr)(C fl:Value):Prop where
 is:∃vs T ts c,¬ G e/\¬ G T/\T≠e/\h.get? e=some (eO C vs)/\vs[1]?=some (.ref T)/\h.get? T=some (eO c ts)/\ts[3]?=some fl
 all:∀b,G b->∃o,h.get? b=some o
end HX
namespace HW
open PyProof.Rows L2
abbrev RA (K:zac)(c:Str)(C:Addr):Prop:=PySem.W.nsIn K mainGlobals c=some (some (.ref C))
structure R8 (K:zac)(D:Addr):Prop where
 dc:PySem.W.hasDictIn K D=true
 ga:PySem.W.findIn K (.ref D) "__getattribute__" = some (some (.builtin "BaseException.__getattribute__"))
 gn:PySem.W.findIn K (.ref D) "__getattr__" = some none
 fi:PySem.W.findIn K (.ref D) "__class__" = some (some (.builtin "object.__class__"))
 mr:PySem.W.mroIn K D (.type "object")=some true
 mb:PySem.W.mroIn K D (.type "BaseException")=some true
 gt:PySem.W.specialIn K (.builtin "object.__class__") "__get__" = some (some (.builtin "getset_descriptor.__get__"))
 tk:PySem.W.takesIn K (.builtin "object.__class__")=some true
end HW
namespace HW
open L2
end HW
namespace HX
end HX
namespace HW
open PyProof.Rows L2
def MJ:V->Option Int->Option Int->Hp->VK->Prop:=fun x lo hi H Q=>∃z,x=.str z/\z.length<=sizeLine/\Q (.str (Txt.slice z lo hi)) H
theorem IQ:AG X MJ:=by
 intro pins s Y H x v vl vu lo hi sl Q I rx hs pl pu h;obtain ⟨z,rfl,hz,q⟩:=h;obtain ⟨t,rfl⟩:=rx;refine ⟨"str",_,PySem.F.slot_str_getitem.lookup,typeIs_str _ _ _,?_⟩;have fin:∀(l u:Option (Int×Tok)),lo=l.map (·.1)->hi=u.map (·.1)->s.heap.IsSlice sl l u none->wpAny (model X.prog X.w) X.A (getItem (.str z t) (.ref sl)) (EP X pins Y Q) X.xe s:=fun l u e1 e2 hS=>by subst e1 e2;refine wpAny_getItem_str_slice (l:=l) (u:=u) (st:=none) hS rfl ?_;exact post_val_or_str ⟨zbg (Txt.slice_le z _ _) hz,fun t' k=>⟨.str _,H,I.tok k,⟨_,rfl⟩,q⟩⟩
 cases pl with
 |none =>
  cases pu with
  |none=>exact fin none none rfl rfl hs
  |int j tj=>exact fin none (some (j,tj)) rfl rfl hs
 |int i ti =>
  cases pu with
  |none=>exact fin (some (i,ti)) none rfl rfl hs
  |int j tj=>exact fin (some (i,ti)) (some (j,tj)) rfl rfl hs
section
variable {K:zac}{H:Hp}{Q:VK}
def Bi (x:R)(lo hi:Option Int)(U:ac):Option (R×ac):=match x with
 |.v (.str z)=>if z.length<=sizeLine then some (.v (.str (Txt.slice z lo hi)),U) else none
 |_=>none
def HQ:R->R->ac->Option (R×ac)
 |.v (.str z),.v (.int i),U=>if 0<=i/\i < 2 ^ 63/\i < z.length then (z.cps[i.toNat]?).bind fun c=>some (.v (.str ⟨#[c]⟩),U) else none
 |_,_,_=>none
def NC:qf K HQ (fun x y H Q=>∃z i c,x=.str z/\y=.int i/\0<=i/\i < 2 ^ 63/\i < z.length/\z.cps[i.toNat]?=some c/\Q (.str ⟨#[c]⟩) H):=by
 intro m H U x y d U' v u Q s rx ry e k;unfold HQ at e;split at e
 ·rename_i z i;split at e
  ·rename_i c;obtain ⟨c',e1,e⟩:=zab.mp e;cases e;simp only [au,ao] at rx ry;subst rx ry;exact ⟨z,i,c',rfl,rfl,c.1,c.2.1,c.2.2,e1,k _ H m .refl s (by simp only [au,ao])⟩
  ·cases e
 ·cases e
def zO:List R->ac->Option (R×ac)
 |[.v (.str z)],U=>if z.length<=sizeLine then some (.v (.int z.length),U) else none
 |_,_=>none
def Kz:vL K zO (fun xs H Q=>∃z,xs=[.str z]/\z.length<=sizeLine/\Q (.int z.length) H):=by
 intro m H U xs d U' vs Q s r e k;unfold zO at e;split at e
 ·rename_i z;split at e
  ·rename_i hz
   cases e;obtain ⟨v,rfl,r1⟩:=lB r;simp only [au,ao] at r1;subst r1;exact ⟨z,rfl,hz,k _ H m .refl s (by simp only [au,ao])⟩
  ·cases e
 ·cases e
end
theorem oW:∀{its:Te} {ts:Tn},aS (ts.map V.str) its->∃l:List (Str×Tok),its=strValues l/\l.map (·.1)=ts
 |its,[],r=>by
  have:=r.length
  cases its with
  |nil=>exact ⟨[],rfl,rfl⟩
  |cons a b=>simp at this
 |its,x::ts,r=>by
  cases r with
  |cons r1 r2 =>
   obtain ⟨l,e1,e2⟩:=oW r2;obtain ⟨t,rfl⟩:=r1;exact ⟨(x,t)::l,by rw [e1];rfl,by rw [zaf,e2]⟩
def Hw (K:zac):V->List V->Hp->VK->Prop:=fun x ys H Q=>∃a p ts,x=.str a/\ys=[.ref p]/\jF K H p (ts.map V.str)/\JoinOk a ts=true/\Q (.str (Txt.join a ts)) H
def Fk {X:Cx}:RE X "str.join" (Hw X.K):=by intro pins s Y H x xs v us Q I rx rv h;obtain ⟨a,p,ts,rfl,rfl,hq,hok,q⟩:=h;obtain ⟨t,rfl⟩:=rx;obtain ⟨u,rfl,ru⟩:=iC rv;cases ru;obtain ⟨its,r',pl,hz⟩:=I.list hq;obtain ⟨l,rfl,e2⟩:=oW r';exact SC.join pl.isList e2 hok fun t' k=>⟨.str _,H,I.tok k,⟨_,rfl⟩,q⟩
structure RJ (K:zac)(g:R->R->ac->Option (R×ac))(r:V->List V->Hp->VK->Prop):Prop where
 str:∀{x y U z},g x y U=some z->∃a,x=.v (.str a)
 go:∀{m H U x y d U' v u} {Q:VK},aI K m H U->au K m H x v->au K m H y u->g x y U=some (d,U')->(∀w H' m',dM m H m' H'->aI K m' H' U'->au K m' H' d w->Q w H')->r v [u] H Q
section
variable {K:zac}{Y:L2.St}{H:Hp}{Q:VK}
def Jz {g r fa fb}(hg:RJ K g r)(h:av K (ar g fa fb) Y H Q):Pg K "str" r (av K fa) (A8 (av K fb) IF) Y H Q:=by obtain ⟨O,U,m,d,U',hl,hs,e,k⟩:=h;obtain ⟨⟨x,U1⟩,e1,e⟩:=zab.mp e;obtain ⟨⟨y,U2⟩,e2,e⟩:=zab.mp e;obtain ⟨a,hx⟩:=hg.str e;simp only at hx;subst hx;refine ⟨O,U,m,_,U1,hl,hs,e1,fun v H1 m1 x1 s1 r1=>?_⟩;have r1':=r1;simp only [au,ao] at r1';subst r1';refine ⟨rfl,O,U1,m1,_,_,hl.ext x1,s1,e2,fun u H2 m2 x2 s2 r2=>?_⟩;exact hg.go s2 (r1.ext x2) r2 e fun w H3 m3 x3 s3 r3=>k w H3 m3 ((x1.trans x2).trans x3) s3 r3
def mL:List D->Option (Tn)
 |[]=>some []
 |.str x::r=>(mL r).bind fun l=>some (x::l)
 |_=>none
theorem qF:∀{ds:List D} {ts:Tn} {vs:List V},mL ds=some ts->RelDs K H ds vs->vs=ts.map V.str
 |[],ts,vs,e,r=>by cases e;simp only [RelDs] at r;exact r
 |d::ds,ts,vs,e,r=>by
  cases d with
  |str x =>
   obtain ⟨l,e1,e2⟩:=zab.mp e;cases e2;simp only [RelDs] at r;obtain ⟨v,r',rfl,h1,h2⟩:=r;simp only [ao] at h1;rw [h1,qF e1 h2];rfl
  |non=>cases e
  |bl _=>cases e
  |int _=>cases e
  |tup _=>cases e
  |fl _=>cases e
  |fd _ _=>cases e
  |key _=>cases e
def qT:R->R->ac->Option (R×ac)
 |.v (.str a),y,U=>(kW y U).bind fun ds=>(mL ds).bind fun ts=>if JoinOk a ts=true then some (.v (.str (Txt.join a ts)),U) else none
 |_,_,_=>none
def KA:RJ K qT (Hw K) where
 str:=fun {x y U z} e=>by
  unfold qT at e;split at e
  ·exact ⟨_,rfl⟩
  ·cases e
 go:=fun {m H U x y d U' v u Q} s rx ry e k=>by
  unfold qT at e;split at e
  ·rename_i a;obtain ⟨ds,e1,e⟩:=zab.mp e;obtain ⟨ts,e2,e⟩:=zab.mp e;split at e
   ·rename_i hok
    cases e;simp only [au,ao] at rx;subst rx;obtain ⟨p,vs,rfl,q,rr⟩:=jb s ry e1;rw [qF e2 rr] at q;exact ⟨a,p,ts,rfl,rfl,q,hok,k _ H m .refl s (by simp only [au,ao])⟩
   ·cases e
  ·cases e
end
end HW
namespace HS
open PyProof.Rows
def O7 (xs:Array Keyed)(lo hi:Nat):Prop:=∀i j,lo<=i->i<=j->j < hi->K xs i<=K xs j
def oJ (lo hi:Nat)(xs ys:Array Keyed):Prop:=∀k,¬ (lo<=k/\k < hi)->ys[k]?=xs[k]?
structure SB (a₀:Array Keyed)(st:SortSt):Prop where
 perm:(arrOf st).Perm a₀
 kind:kindOf st=oneType'
 ok:failedOf st=none
structure Sc (a₀:Array Keyed)(lo hi:Nat)(st st':SortSt):Prop where
 b:SB a₀ st'
 pend:pendingOf st'=pendingOf st
 out:oJ lo hi (arrOf st) (arrOf st')
section
def IK (xs:Array Keyed):Prop:=∀i,i < xs.size->∃t q,xs[i]?=some (.int (K xs i) t,q)
end
def kk (p:Keyed):Int:=numOf p.1
def Le (x y:Keyed):Prop:=kk x<=kk y
structure Mg (A B Ozz:List Keyed)(ia ib:Nat):Prop where
 perm:(Ozz++A.drop ia++B.drop ib).Perm (A++B)
 srt:Ozz.Pairwise Le
 toA:∀x∈Ozz,∀y∈A.drop ia,Le x y
 toB:∀x∈Ozz,∀y∈B.drop ib,Le x y
 len:Ozz.length=ia+ib
structure RD (st st':SortSt):Prop where
 kind:kindOf st'=kindOf st
 arr:arrOf st'=arrOf st
 pend:pendingOf st'=pendingOf st
 ok:failedOf st'=failedOf st
section
structure Sd (a b:Array Keyed):Prop where
 ka:IK a
 kb:IK b
 sa:O7 a 0 a.size
 sb:O7 b 0 b.size
 na:0 < a.size
 nb:0 < b.size
end
structure Mh (A B Ozz:List Keyed)(na nb:Nat):Prop where
 perm:(A.take na++B.take nb++Ozz).Perm (A++B)
 srt:Ozz.Pairwise Le
 toA:∀x∈A.take na,∀y∈Ozz,Le x y
 toB:∀x∈B.take nb,∀y∈Ozz,Le x y
structure Wb (xs ys:Array Keyed)(lo hi:Nat):Prop where
 perm:ys.Perm xs
 out:oJ lo hi xs ys
 src:∀q,lo<=q->q < hi->∃r,lo<=r/\r < hi/\K ys q=K xs r
 srt:O7 ys lo hi
def Ob (xs:Array Keyed):List (Nat×Nat×Nat)->Nat->Nat->Prop
 |[],b,e=>b=e
 |(a,n,_)::r,b,e=>a=b/\0 < n/\O7 xs a (a+n)/\Ob xs r (b+n) e
structure QH (a₀:Array Keyed)(st:SortSt)(lo:Nat):Prop where
 b:SB a₀ st
 r:Ob (arrOf st) (pendingOf st).toList 0 lo
open L2
end HS
namespace HW
open PyProof.Rows L2 HS
end HW
namespace HS
open PyProof.Rows
end HS
namespace HW
open PyProof.Rows L2 HS
end HW
namespace HW
open PyProof.Rows L2
def KR (K:zac)(m:Tf)(H:Hp)(kvs:List (aH×R))(es:List (aH×V)):Prop:=es.map (·.1)=kvs.map (·.1)/\aQ K m H (kvs.map (·.2)) (es.map (·.2))
def lW (kvs:List (aH×R))(k:aH):Option R:=(kvs.find? fun kv=>decide (kv.1=k)).map (·.2)
section
variable {K:zac}{m:Tf}{H:Hp}
def KR.cons {k k':aH}{d:R}{v:V}{kvs:List (aH×R)}{es:List (aH×V)}:KR K m H ((k,d)::kvs) ((k',v)::es) ↔ k'=k/\au K m H d v/\KR K m H kvs es:=by
 constructor
 ·rintro ⟨h1,h2⟩;simp only [zaf,List.cons.injEq] at h1;obtain ⟨w,r,e,h3,h4⟩:=h2;simp only [zaf,List.cons.injEq] at e;obtain ⟨rfl,rfl⟩:=e;exact ⟨h1.1,h3,h1.2,h4⟩
 ·rintro ⟨rfl,h1,h2,h3⟩;exact ⟨by simp [h2],⟨_,_,rfl,h1,h3⟩⟩
theorem KR.val:∀{kvs:List (aH×R)} {es:List (aH×V)} (k:aH),KR K m H kvs es->(lW kvs k=none/\dI es k=none)\/∃d v,lW kvs k=some d/\dI es k=some v/\au K m H d v
 |[],es,k,h=>by
  have:es=[]:=by simpa using h.1
  subst this;exact .inl ⟨rfl,rfl⟩
 |(a,d)::kvs,[],k,h=>by have:=h.1;simp at this
 |(a,d)::kvs,(b,v)::es,k,h=>by
  obtain ⟨rfl,h1,h2⟩:=KR.cons.mp h;by_cases e:b=k
  ·refine .inr ⟨d,v,?_,?_,h1⟩
   ·simp [lW,e]
   ·simp [dI,e]
  ·have ih:=KR.val k h2;have e1:lW ((b,d)::kvs) k=lW kvs k:=(by simp [lW,e]);have e2:dI ((b,v)::es) k=dI es k:=iD e;rw [e1,e2];exact ih
end
def sC (x:R)(U:ac):Option (List (aH×R)):=match x with
 |.v (.fd ks ds)=>if ks.length=ds.length then some (ks.zip (ds.map R.v)) else none
 |.p n=>match U[n]? with|some (.dct kvs)=>some (kvs.map fun p=>(p.1,R.v p.2))|some (.fzd kvs)=>some (kvs.map fun p=>(p.1,R.v p.2))|some (.dr kvs)=>some kvs|some (.fzr kvs)=>some kvs|_=>none
 |_=>none
theorem oz {K:zac}{m:Tf}{H:Hp}:∀{ds:List D} {vs:List V},RelDs K H ds vs->aQ K m H (ds.map R.v) vs
 |[],_,h=>h
 |_::_,_,⟨v,r,e,h1,h2⟩=>⟨v,r,e,h1,oz h2⟩
def Fo {K:zac}{m:Tf}{H:Hp}{U:ac}{x:R}{v:V}{kvs:List (aH×R)}(s:aI K m H U)(r:au K m H x v)(e:sC x U=some kvs):∃a es,v=.ref a/\Rd H a (.dK es)/\KR K m H kvs es:=by
 unfold sC at e;split at e
 ·rename_i ks ds;split at e
  ·rename_i hl
   cases e;simp only [au,ao] at r;obtain ⟨a,o,es,rfl,ea,e1,e2⟩:=r;refine ⟨a,es,rfl,.inr ⟨o,ea⟩,?_,?_⟩
   ·rw [List.map_fst_zip (by simp [hl]),e1]
   ·rw [List.map_snd_zip (by simp [hl])];exact oz e2
  ·cases e
 ·rename_i n;obtain ⟨a,rfl,ha⟩:=r;split at e
  ·rename_i kv q
   cases e;obtain ⟨es,ea,e1,e2⟩:=s.cell _ _ a q ha;refine ⟨a,es,rfl,.inl ea,by simp [e1,Function.comp_def],?_⟩;have:=oz (m:=m) e2;simpa [Function.comp_def] using this
  ·rename_i kv q
   cases e;obtain ⟨o,es,ea,e1,e2⟩:=s.cell _ _ a q ha;refine ⟨a,es,rfl,.inr ⟨o,ea⟩,by simp [e1,Function.comp_def],?_⟩;have:=oz (m:=m) e2;simpa [Function.comp_def] using this
  ·rename_i kv q
   cases e;obtain ⟨es,ea,e1,e2⟩:=s.cell _ _ a q ha;exact ⟨a,es,rfl,.inl ea,e1,e2⟩
  ·rename_i kv q
   cases e;obtain ⟨o,es,ea,e1,e2⟩:=s.cell _ _ a q ha;exact ⟨a,es,rfl,.inr ⟨o,ea⟩,e1,e2⟩
  ·cases e
 ·cases e
def uZ (fo fk:FE):FE:=fun O U=>(fo O U).bind fun o=>(fk O o.2).bind fun k=>(sC o.1 k.2).bind fun kvs=>(lg k.1).bind fun key=>(lW kvs key).bind fun r=>some (r,k.2)
def Jy {K:zac}{H:Hp}{Q:VK}{fo fk}(h:av K (uZ fo fk) Y H Q):A7 (av K fo) (av K fk) Y H Q:=by
 obtain ⟨O,U,m,d,U',hl,hs,e,kk⟩:=h;obtain ⟨⟨o,U1⟩,e1,e⟩:=zab.mp e;obtain ⟨⟨k,U2⟩,e2,e⟩:=zab.mp e;obtain ⟨kvs,e4,e⟩:=zab.mp e;obtain ⟨key,e5,e⟩:=zab.mp e;obtain ⟨r,e6,e⟩:=zab.mp e;cases e;refine ⟨O,U,m,o,U1,hl,hs,e1,fun vo H1 m1 x1 s1 r1=>?_⟩;refine ⟨O,U1,m1,k,U2,hl.ext x1,s1,e2,fun vk H2 m2 x2 s2 r2=>?_⟩;obtain ⟨a,es,rfl,hR,hK⟩:=Fo s2 (r1.ext x2) e4;have hk:=yv r2 e5;rcases KR.val key hK with ⟨n1,n2⟩|⟨dd,vv,n1,n2,n3⟩
 ·rw [n1] at e6;cases e6
 ·rw [n1] at e6;cases e6;exact ⟨a,vv,rfl,.inl ⟨es,key,hR,hk,n2.symm⟩,kk _ H2 m2 (x1.trans x2) s2 n3⟩
end HW
namespace HT2
open PySem.W PyProof.Rows
section
variable {r:Nat->Int}{n:Nat}{s:Shared}{cmp:Nat->Nat->(Bool->Shared->Prop)->Shared->Prop}
abbrev key (r:Nat->Int)(p:Array Nat)(k:Nat):Int:=r (p.getD k 0)
def Up (r:Nat->Int)(p:Array Nat)(a:Nat):Prop:=∀i j,i < j->j < a->key r p i < key r p j
def Dn (r:Nat->Int)(p:Array Nat)(a:Nat):Prop:=∀i j,i < j->j < a->key r p j < key r p i
structure Pm (n:Nat)(p:Array Nat):Prop where
 pm:p.toList.Perm (List.range n)
def Pm.size {p:Array Nat}(h:Pm n p):p.size=n:=by have:=h.pm.length_eq;simpa using this
def Pm.lt {p:Array Nat}(h:Pm n p){k:Nat}(hk:k < n):p.getD k 0 < n:=by
 have hs:=h.size;have hm:p.getD k 0∈p.toList:=by have:p[k]?=some p[k]:=zav (by omega);rw [za7,this,zbM];simp
 have:=h.pm.mem_iff.mp hm;simpa using this
def Pm.inj {p:Array Nat}(h:Pm n p){i j:Nat}(hi:i < n)(hj:j < n)(e:p.getD i 0=p.getD j 0):i=j:=by
 have hs:=h.size;have nd:p.toList.Nodup:=h.pm.nodup_iff.mpr List.nodup_range;have ei:p[i]?=some p[i]:=zav (by omega);have ej:p[j]?=some p[j]:=zav (by omega);rw [za7,za7,ei,ej,zbM,zbM] at e;have e':p.toList[i]'(by simpa using (by omega:i < p.size))=p.toList[j]'(by simpa using (by omega:j < p.size)):=by simpa using e
 exact (zbK nd).mp e'
structure Rk (r:Nat->Int)(n:Nat)(s:Shared)(cmp:Nat->Nat->(Bool->Shared->Prop)->Shared->Prop):Prop where
 inj:∀i j,i < n->j < n->r i=r j->i=j
 ask:∀i j,i < n->j < n->∀C:Bool->Shared->Prop,C (decide (r i < r j)) s->cmp i j C s
def Rk.ne (R:Rk r n s cmp){p:Array Nat}(h:Pm n p){i j:Nat}(hi:i < n)(hj:j < n)(ne:i≠j):key r p i≠key r p j:=fun e=>ne (h.inj hi hj (R.inj _ _ (h.lt hi) (h.lt hj) e))
theorem xl (R:Rk r n s cmp){p:Array Nat}(h:Pm n p){Q:Nat->Shared->Prop}:∀(f a:Nat),1<=a->a+f<=n->Up r p a->(∀m,a<=m->m<=a+f->Up r p m->(m=a+f\/key r p m < key r p (m - 1))->Q m s)->(kas_asc p f a).kasWp cmp Q s
 |0,a,_,_,hu,k=>k a (zam _) (zam _) hu (.inl rfl)
 |f+1,a,h1,h2,hu,k=>by
  refine R.ask _ _ (h.lt (by omega)) (h.lt (by omega)) _ ?_;by_cases hc:key r p a < key r p (a - 1)
  ·have hd:decide (r (p.getD a 0) < r (p.getD (a - 1) 0))=true:=zaK hc;rw [hd];exact k a (zam _) (by omega) hu (.inr hc)
  ·have hd:decide (r (p.getD a 0) < r (p.getD (a - 1) 0))=false:=zay hc;rw [hd];have hne:=R.ne h (show a < n by omega) (show a - 1 < n by omega) (by omega);refine xl R h f (a+1) (by omega) (by omega) (fun i j hij hj=>?_) fun m m1 m2 m3 m4=>k m (by omega) (by omega) m3 (by rcases m4 with q|q;exact .inl (by omega);exact .inr q);by_cases hja:j=a
   ·subst hja;have:key r p i<=key r p (j - 1):=by
     by_cases hi:i=j - 1
     ·rw [hi];exact Int.le_refl _
     ·exact Int.le_of_lt (hu i (j - 1) (by omega) (by omega))
    omega
   ·exact hu i j hij (by omega)
theorem yO (R:Rk r n s cmp){p:Array Nat}(h:Pm n p){Q:Array Nat×Nat×Nat->Shared->Prop}:∀(f a:Nat),1<=a->a+f<=n->Dn r p a->(∀m,a<=m->m<=a+f->Dn r p m->Q (p,m,0) s)->(kas_desc f p a 0).kasWp cmp Q s
 |0,a,_,_,hu,k=>k a (zam _) (zam _) hu
 |f+1,a,h1,h2,hu,k=>by
  refine R.ask _ _ (h.lt (by omega)) (h.lt (by omega)) _ ?_;have hne:=R.ne h (show a < n by omega) (show a - 1 < n by omega) (by omega);by_cases hc:key r p a < key r p (a - 1)
  ·have hd:decide (r (p.getD a 0) < r (p.getD (a - 1) 0))=true:=zaK hc;rw [hd];refine yO R h f (a+1) (by omega) (by omega) (fun i j hij hj=>?_) fun m m1 m2 m3=>k m (by omega) (by omega) m3;by_cases hja:j=a
   ·subst hja;have:key r p (j - 1)<=key r p i:=by
     by_cases hi:i=j - 1
     ·rw [hi];exact Int.le_refl _
     ·exact Int.le_of_lt (hu i (j - 1) (by omega) (by omega))
    omega
   ·exact hu i j hij (by omega)
  ·have hd:decide (r (p.getD a 0) < r (p.getD (a - 1) 0))=false:=zay hc;rw [hd];refine R.ask _ _ (h.lt (by omega)) (h.lt (by omega)) _ ?_;have hd2:decide (r (p.getD (a - 1) 0) < r (p.getD a 0))=true:=zaK (show key r p (a - 1) < key r p a by omega);rw [hd2];exact k a (zam _) (by omega) hu
def Bu {p:Array Nat}(h:Pm n p){m k:Nat}(hm:m<=n)(hk:k < m):(kas_rev p 0 m).getD k 0=p.getD (m - 1 - k) 0:=by
 have hs:=h.size;have:=getElem?_mirror_all (xs:=p) (i:=0) (j:=m) (by omega) k;rw [if_pos (by omega)] at this
 unfold kas_rev;rw [za7,this,za7];congr 2;omega
def IW {p:Array Nat}(h:Pm n p){m:Nat}:Pm n (kas_rev p 0 m):=⟨(Array.perm_iff_toList_perm.mp (mirror_perm p 0 m _)).trans h.pm⟩
def A4 (R:Rk r n s cmp){p:Array Nat}(h:Pm n p){Q:Nat×Array Nat->Shared->Prop}{a:Nat}(h1:1<=a)(h2:a<=n)(hd:Dn r p a)(k:∀m p',Pm n p'->Up r p' m->1<=m->m<=n->Q (m,p') s):(kas_tail3 a n p).kasWp cmp Q s:=by unfold kas_tail3;rw [KasT.kasWp_bind];have hr:=IW h (m:=a);refine xl R hr (n - a) a h1 (by omega) (fun i j hij hj=>?_) fun m m1 m2 m3 _=>k m _ hr m3 (by omega) (by omega);unfold key;rw [Bu h h2 (by omega),Bu h h2 (by omega)];exact hd (a - 1 - j) (a - 1 - i) (by omega) (by omega)
def DC (R:Rk r n s cmp){p:Array Nat}(h:Pm n p)(hn:1<=n){Q:Nat×Array Nat->Shared->Prop}(k:∀m p',Pm n p'->Up r p' m->1<=m->m<=n->Q (m,p') s):(kas_count n p).kasWp cmp Q s:=by
 unfold kas_count;rw [KasT.kasWp_bind];refine xl R h (n - 1) 1 (zam _) (by omega) (fun i j hij hj=>by omega) fun m m1 m2 m3 m4=>?_;by_cases hm:m=n
 ·subst hm;rw [if_pos (by simp)];exact k m p h m3 hn (zam _)
 ·rw [if_neg (by simpa using hm)];by_cases hm1:m > 1
  ·rw [if_pos hm1];refine R.ask _ _ (h.lt (by omega)) (h.lt (by omega)) _ ?_;have hd:decide (r (p.getD 0 0) < r (p.getD (m - 1) 0))=true:=zaK (m3 0 (m - 1) (by omega) (by omega));rw [hd];exact k m p h m3 (by omega) (by omega)
  ·rw [if_neg hm1];have hm':m=1:=(by omega);subst hm';have hlt:key r p 1 < key r p 0:=by
    rcases m4 with q|q
    ·omega
    ·exact q
   unfold kas_descPart;rw [KasT.kasWp_bind];refine yO R h (n - (1+1)) (1+1) (by omega) (by omega) (fun i j hij hj=>?_) fun m' q1 q2 q3=>?_
   ·have hj1:j=1:=by omega
    have hi0:i=0:=(by omega);subst hj1 hi0;exact hlt
   ·show KasT.kasWp cmp (if (0:Nat) > 0 then _ else _) Q s
    rw [if_neg (by omega)];exact A4 R h (show 1<=m' by omega) (show m'<=n by omega) q3 k
theorem pA (R:Rk r n s cmp){p:Array Nat}(h:Pm n p){Q:Nat->Shared->Prop}{k:Nat}(hk:k < n):∀(f l u:Nat),l<=u->u<=k->u - l<=f->(∀i < l,key r p i < key r p k)->(∀i,u<=i->i < k->key r p k < key r p i)->Up r p k ->
  (∀x,x<=k->(∀i < x,key r p i < key r p k)->(∀i,x<=i->i < k->key r p k < key r p i)->Q x s)->(kas_place p k f l u).kasWp cmp Q s
 |0,l,u,h1,h2,h3,hl,hu,_,kk=>kk l (by omega) hl (fun i h4 h5=>hu i (by omega) h5)
 |f+1,l,u,h1,h2,h3,hl,hu,up,kk=>by
  unfold kas_place
  by_cases hlu:l >= u
  ·rw [if_pos hlu]
   exact kk l (by omega) hl (fun i h4 h5=>hu i (by omega) h5)
  ·rw [if_neg hlu]
   refine R.ask _ _ (h.lt hk) (h.lt (by omega)) _ ?_;have hne:=R.ne h hk (show (l+u) / 2 < n by omega) (by omega)
   by_cases hc:key r p k < key r p ((l+u) / 2)
   ·have hd:decide (r (p.getD k 0) < r (p.getD ((l+u) / 2) 0))=true:=zaK hc
    rw [hd];refine pA R h hk f l ((l+u) / 2) (by omega) (by omega) (by omega) hl (fun i h4 h5=>?_) up kk
    by_cases hi:i=(l+u) / 2
    ·rw [hi];exact hc
    ·have:=up ((l+u) / 2) i (by omega) h5
     omega
   ·have hd:decide (r (p.getD k 0) < r (p.getD ((l+u) / 2) 0))=false:=zay hc
    rw [hd];refine pA R h hk f ((l+u) / 2+1) u (by omega) h2 (by omega) (fun i hi=>?_) hu up kk
    by_cases hi':i=(l+u) / 2
    ·rw [hi'];omega
    ·have:=up i ((l+u) / 2) (by omega) (by omega)
     omega
theorem La {p:Array Nat}(h:Pm n p){k l i:Nat}(hk:k < n)(hl:l<=k):(bubble p k (k - l)).getD i 0=if i=l then p.getD k 0 else if l < i/\i<=k then p.getD (i - 1) 0 else p.getD i 0:=by
 have hs:=h.size;have:=getElem?_bubble (xs:=p) (src:=k) (by omega) (k - l) (by omega) i;rw [show k - (k - l)=l by omega] at this
 simp only [za7];rw [this];split
 ·rfl
 ·split <;> rfl
theorem DK (R:Rk r n s cmp){Q:Array Nat->Shared->Prop}:∀(f:Nat) (p:Array Nat) (k:Nat),Pm n p->Up r p k->k+f=n->(∀p',Pm n p'->Up r p' n->Q p' s)->(kas_bin f p k).kasWp cmp Q s
 |0,p,k,h,hu,hk,kk=>kk p h (by rw [←hk];exact hu)
 |f+1,p,k,h,hu,hk,kk=>by
  unfold kas_bin;rw [KasT.kasWp_bind];refine pA R h (by omega) k 0 k (by omega) (zam _) (by omega) (fun i hi=>by omega) (fun i h4 h5=>by omega) hu fun l l1 l2 l3=>?_;refine DK R f (bubble p k (k - l)) (k+1) ⟨(Array.perm_iff_toList_perm.mp (bubble_perm p k _)).trans h.pm⟩ (fun i j hij hj=>?_) (by omega) kk;have b:=fun i=>La h (k:=k) (l:=l) (i:=i) (by omega) l1
  show r _ < r _
  rw [b i,b j];by_cases hi:i=l
  ·rw [if_pos hi,if_neg (by omega),if_pos (by omega)];exact l3 (j - 1) (by omega) (by omega)
  ·rw [if_neg hi];by_cases hj':j=l
   ·rw [if_pos hj',if_neg (by omega)];exact l2 i (by omega)
   ·rw [if_neg hj'];by_cases h6:l < i/\i<=k
    ·rw [if_pos h6,if_pos (by omega)];exact hu (i - 1) (j - 1) (by omega) (by omega)
    ·rw [if_neg h6];by_cases h7:l < j/\j<=k
     ·rw [if_pos h7];by_cases h8:i=j - 1
      ·omega
      ·exact hu i (j - 1) (by omega) (by omega)
     ·rw [if_neg h7];exact hu i j hij (by omega)
def Em (R:Rk r n s cmp)(hn:1<=n){Q:Array Nat->Shared->Prop}(k:∀p,Pm n p->Up r p n->Q p s):(kas_sort n).kasWp cmp Q s:=by
 unfold kas_sort;rw [KasT.kasWp_bind];refine DC R (p:=(List.range n).toArray) ⟨by simp⟩ hn fun m p h hu h1 h2=>?_
 show KasT.kasWp cmp (if m < n then kas_bin (n - max m 1) p (max m 1) else .ret p) Q s
 rw [Nat.max_eq_left h1];by_cases hm:m < n
 ·rw [if_pos hm];exact DK R (n - m) p m h hu (by omega) k
 ·rw [if_neg hm];have:m=n:=by omega
  subst this;exact k p h hu
end
def jD:List Int->List Int->Bool
 |[],[]=>false
 |[],_::_=>true
 |_::_,[]=>false
 |x::xs,y::ys=>if x=y then jD xs ys else decide (x < y)
theorem hJ:∀a,jD a a=false
 |[]=>rfl
 |x::xs=>by simp [jD,hJ xs]
theorem oG:∀a b,jD a b=true\/a=b\/jD b a=true
 |[],[]=>.inr (.inl rfl)
 |[],_::_=>.inl rfl
 |_::_,[]=>.inr (.inr rfl)
 |x::xs,y::ys=>by
  by_cases e:x=y
  ·subst e;rcases oG xs ys with h|h|h
   ·exact .inl (by simp [jD,h])
   ·exact .inr (.inl (by rw [h]))
   ·exact .inr (.inr (by simp [jD,h]))
  ·by_cases hl:x < y
   ·exact .inl (by simp [jD,e,hl])
   ·exact .inr (.inr (by simp [jD,Ne.symm e];omega))
theorem gw:∀a b c,jD a b=true->jD b c=true->jD a c=true
 |[],[],_,h,_=>by cases h
 |[],_::_,[],_,h=>by cases h
 |[],_::_,_::_,_,_=>rfl
 |_::_,[],_,h,_=>by cases h
 |_::_,_::_,[],_,h=>by cases h
 |x::xs,y::ys,z::zs,h,g=>by
  simp only [jD] at h g ⊢;by_cases e1:x=y
  ·subst e1;rw [if_pos rfl] at h;by_cases e2:x=z
   ·subst e2;rw [if_pos rfl] at g ⊢;exact gw xs ys zs h g
   ·rw [if_neg e2] at g ⊢;exact g
  ·rw [if_neg e1] at h;have h1:x < y:=of_decide_eq_true h;by_cases e2:y=z
   ·subst e2;rw [if_neg e1];exact h
   ·rw [if_neg e2] at g;have h2:y < z:=of_decide_eq_true g;rw [if_neg (by omega)];exact zaK (by omega)
def n5 (L:Ta)(i:Nat):Int:=((L.filter fun k=>jD k (L.getD i [])).length:Nat)
theorem rf {L:Ta}{a b:Th}(h:jD a b=true)(hm:a∈L):(L.filter fun k=>jD k a).length < (L.filter fun k=>jD k b).length:=by
 have sub:∀M:Ta,(M.filter fun k=>jD k a).length<=(M.filter fun k=>jD k b).length:=fun M=>by
  induction M with
  |nil=>simp
  |cons x xs ih =>
   simp only [zbN]
   cases hx:jD x a with
   |true=>rw [gw x a b hx h];simp;exact ih
   |false=>cases jD x b <;> simp <;> omega
 induction L with
 |nil=>simp at hm
 |cons x xs ih =>
  simp only [zbN];rcases zak.mp hm with rfl|hm
  ·rw [hJ,h];have:=sub xs;simp;omega
  ·have:=ih hm
   cases hx:jD x a with
   |true=>rw [gw x a b hx h];simp;exact this
   |false=>cases jD x b <;> simp <;> omega
def uW {L:Ta}{i:Nat}(h:i < L.length):L.getD i []∈L:=by rw [zaZ,zao h,zbM];exact zbB h
def oA {L:Ta}{i j:Nat}(hi:i < L.length)(hj:j < L.length):decide (n5 L i < n5 L j)=jD (L.getD i []) (L.getD j []):=by
 rcases oG (L.getD i []) (L.getD j []) with h|h|h
 ·rw [h];refine zaK ?_;have:=rf h (uW hi);unfold n5;omega
 ·have hr:n5 L i=n5 L j:=by unfold n5;rw [h]
  rw [hr,h,hJ];exact zay (by omega)
 ·have:=rf h (uW hj);have hn:jD (L.getD i []) (L.getD j [])=false:=by
   cases q:jD (L.getD i []) (L.getD j []) with
   |false=>rfl
   |true=>have:=gw _ _ _ q h;rw [hJ] at this;cases this
  rw [hn];refine zay ?_;unfold n5;omega
def BG {L:Ta}(nd:L.Nodup){i j:Nat}(hi:i < L.length)(hj:j < L.length)(e:n5 L i=n5 L j):i=j:=by
 have h1:=oA hi hj;have h2:=oA hj hi;rw [zay (by omega)] at h1 h2;rcases oG (L.getD i []) (L.getD j []) with h|h|h
 ·rw [h] at h1;cases h1
 ·simp only [zaZ,zao hi,zao hj,zbM] at h;exact (zbK nd).mp h
 ·rw [h] at h2;cases h2
section
variable {prog:Program}{w:World}{A:Around}{E:Tb}{s:Shared}
def CI {b:Bool}{Q:Bool->Shared->Prop}:∀{xs ys:Te} {ns ms:Th} (i:Nat),IntsAre xs ns->IntsAre ys ms->Q (jD ns ms) s->KatLex prog w A b (decide (xs.length < ys.length)) Q (xs.zip ys) i s:=by
  intro xs ys ns ms i r;induction r generalizing ys ms i with
  |nil=>intro q h;cases q <;> exact h
  |cons n t r ih =>
   rename_i xs ns;intro q h
   cases q with
   |nil=>exact h
   |cons m u q =>
    rename_i ys ms
    show KatLex prog w A b _ Q ((.int n t,.int m u)::xs.zip ys) i s
    refine kat_cons (wpAny_eqBool_int ?_);by_cases e:n=m
    · subst e
      rw [zc3];refine kat_yes ?_;have hd:decide ((Value.int n t::xs).length < (Value.int n u::ys).length)=decide (xs.length < ys.length):=(by simp);rw [hd];exact ih (i+1) q (by simpa [jD] using h)
    · rw [show (n == m)=false by simpa using e]
      refine kat_no ?_;have h':Q (decide (n < m)) s:=by simpa [jD,e] using h
      cases (b && i == 0) with
      |true=>exact oneLt_int h'
      |false=>first|exact kat_one _ _ (lt_int h')|exact kat_one _ _ (lt_int (boolBack_bool h'))
def be (h:Heap):List Value->List (Th)->Prop
 |[],[]=>True
 |v::vs,L::Ls=>(∃a o its n,v=.ref a/\h.get? a=some o/\o.cls=.type "tuple"/\o.data=.seq its n/\IntsAre its.toList L)/\be h vs Ls
 |_,_=>False
theorem be.len {h:Heap}:∀{vs:Te} {L:Ta},be h vs L->vs.length=L.length
 |[],[],_=>rfl
 |[],_::_,h=>h.elim
 |_::_,[],h=>h.elim
 |_::vs,_::L,h=>by simp [be.len h.2]
theorem be.at {h:Heap}:∀{vs:Te} {L:Ta},be h vs L->∀i,i < L.length->∃a o its n,vs.getD i .none=.ref a/\h.get? a=some o/\o.cls=.type "tuple"/\o.data=.seq its n/\IntsAre its.toList (L.getD i [])
 |[],[],_,i,hi=>by simp at hi
 |[],_::_,h,_,_=>h.elim
 |_::_,[],h,_,_=>h.elim
 |v::vs,x::L,h,0,_=>h.1
 |v::vs,x::L,h,i+1,hi=>be.at h.2 i (by simpa using hi)
theorem be.keep {h h':Heap}(k:∀b o,h.get? b=some o->h'.get? b=some o):∀{vs:Te} {L:Ta},be h vs L->be h' vs L
 |[],[],_=>trivial
 |[],_::_,h=>h.elim
 |_::_,[],h=>h.elim
 |_::vs,_::L,h=>by obtain ⟨⟨a,o,its,n,e,g,r⟩,t⟩:=h;exact ⟨⟨a,o,its,n,e,k _ _ g,r⟩,be.keep k t⟩
theorem be.keepNe {h h':Heap}{a:Addr}(k:∀b o,h.get? b=some o->b≠a->h'.get? b=some o):∀{vs:Te} {L:Ta},be h vs L->(∀v∈vs,v≠.ref a)->be h' vs L
 |[],[],_,_=>trivial
 |[],_::_,h,_=>h.elim
 |_::_,[],h,_=>h.elim
 |v::vs,_::L,h,hn=>by obtain ⟨⟨b,o,its,n,e,g,r⟩,t⟩:=h;exact ⟨⟨b,o,its,n,e,k _ _ g fun z=>hn v (by simp) (by rw [e,z]),r⟩,be.keepNe k t fun u hu=>hn u (by simp [hu])⟩
theorem be.firsts {h:Heap}:∀{vs:Te} {L:Ta},be h vs L->(∀x∈L,x≠[])->∃fs,KatTups h vs fs/\fs.length=L.length/\∀f∈fs,∃n t,f=.int n t
 |[],[],_,_=>⟨[],trivial,rfl,by simp⟩
 |[],_::_,h,_=>h.elim
 |_::_,[],h,_=>h.elim
 |v::vs,x::L,h,hn=>by
  obtain ⟨⟨a,o,its,n,e,g,c,d,r⟩,t⟩:=h;obtain ⟨fs,q1,q2,q3⟩:=be.firsts t fun y hy=>hn y (by simp [hy]);have hx:=hn x (by simp);generalize hits:its.toList=il at r
  cases r with
  |nil=>exact absurd rfl hx
  |cons m tk r' =>
   have h0:its[0]?=some (.int m tk):=(by rw [←zbq,hits];rfl);exact ⟨.int m tk::fs,by subst e;exact KatTups.cons g c d h0 q1,by simp [q2],fun f hf=>by
    rcases zak.mp hf with rfl|hf
    ·exact ⟨m,tk,rfl⟩
    ·exact q3 f hf⟩
theorem pj {Z:Type}:∀(l:List Z) (d:Z),l=(List.range l.length).map fun i=>l.getD i d:=fun l d=>by refine zc4 (by simp) fun k h1 h2=>?_;simp only [zb0,zcX];rw [zaZ,zao h1];rfl
def qK {a:Addr}{vs:Te}{L:Ta}{n:Nat}{P:PySem.Fin->Shared->Prop}(ho:s.heap.get? a=some (seqObj "list" vs.toArray n))(hT:be s.heap vs L)(nd:L.Nodup)(h64:L.length < 64)(hne:2<=L.length->∀x∈L,x≠[])
  (hna:∀v∈vs,v≠.ref a)
  (h:∀(out:Ti) (L':Ta),(∃is:List Nat,out.toList=is.map (fun i=>vs.getD i .none)/\L'=is.map (fun i=>L.getD i [])/\∀i∈is,i < L.length)->L'.Perm L->L'.Pairwise (fun x y=>jD x y=true)->P (.done (.ret .none)) {s with heap:=sortedHeap s.heap a vs out}):wpAny (model prog w) A (Builtin.«list.sort» ⟨[.ref a],[]⟩) P E s:=by
 have hl:=hT.len;rw [list_sort_plain];have ha:a < s.heap.objs.size:=zah ho
 have hz:vs.length<=sizeLine:=by rw [za9];omega
 refine zaa (listItems_at ho rfl (zaa (listUpdate_at ho rfl ?_ (by simpa using hz) (by simp))));obtain ⟨c1,o1⟩:∃c1,(s.heap.update a (Obj.mapSeq fun _=>#[])).get? a=some (seqObj "list" #[] c1):=⟨_,get?_update_seq ho (fun _=>#[])⟩;refine zaa (seqEpoch_at o1 rfl (zaa (wpAny_newTuple (zaa (zcZ (zaI ?_) (zbd _))) (by simpa using hz))))
 have o6:(((s.heap.update a (Obj.mapSeq fun _=>#[])).push (seqObj "tuple" vs.toArray 0)).push (seqObj "list" #[] 0)).get? a=some (seqObj "list" #[] c1):=by
  rw [Heap.get?_push_ne _ _ _ (by rw [size_push',zc2];exact zap (zbo ha)),Heap.get?_push_ne _ _ _ (by rw [zc2];exact zap ha)];exact o1
 show wpAny (model prog w) A _ P E {s with heap:=((s.heap.update a (Obj.mapSeq fun _=>#[])).push (seqObj "tuple" vs.toArray 0)).push (seqObj "list" #[] 0)}
 dsimp only
 by_cases h2:vs.toArray.size < 2
 ·rw [if_pos h2,if_pos h2]
  refine zaa (zad (zaa (zad ?_)));dsimp only
  have hm:Array.map (fun x=>x.snd) (arrOf (SortSt.mk' general' (vs.toArray.zip vs.toArray) #[] 7 none))=vs.toArray:=by
   show Array.map (fun x=>x.snd) (vs.toArray.zip vs.toArray)=vs.toArray
   apply Array.ext
   ·simp
   ·intro i h1 h3;simp
  rw [hm];refine zaa (seqEpoch_at o6 rfl (zaa (listUpdate_at o6 rfl ?_ (by simp) (by rw [zaq];omega))))
  show wpAny (model prog w) A (if (c1 != c1)=true then _ else _) P E _
  simp only [bne_self_eq_false,zas,if_false];refine zad (h vs.toArray L ⟨List.range L.length,by rw [←hl];simpa using pj vs .none,pj L [],fun i hi=>by simpa using hi⟩ (List.Perm.refl _) ?_)
  have:L.length < 2:=by simp at h2;omega
  match L,this with
  |[],_=>exact .nil
  |[x],_=>simp
 ·rw [if_neg h2,if_neg h2]
  have hb2:2<=L.length:=by simp at h2;omega
  have keep:∀b o,s.heap.get? b=some o->b≠a->(((s.heap.update a (Obj.mapSeq fun _=>#[])).push (seqObj "tuple" vs.toArray 0)).push (seqObj "list" #[] 0)).get? b=some o:=fun b o e ne =>
   zae _ (zae _ (by rw [zaw _ _ (Ne.symm ne)];exact e))
  have hT1:be (((s.heap.update a (Obj.mapSeq fun _=>#[])).push (seqObj "tuple" vs.toArray 0)).push (seqObj "list" #[] 0)) vs L:=hT.keepNe keep hna;obtain ⟨fs,q1,q2,q3⟩:=hT1.firsts (hne hb2);refine zaa (kat_kind (T:=.type "int") q1 (by omega) (fun v hv=>?_) (by decide) ?_)
  ·obtain ⟨m,tk,rfl⟩:=q3 v hv
   exact .now
  refine zaa (zbx (kat_run (ks:=vs) (vs:=vs) (Q:=fun st' s'=>∃p:Array Nat,p.size=vs.length/\arrOf st'=p.map (kas_item (vs.toArray.zip vs.toArray))/\failedOf st'=none/\s'={s with heap:=((s.heap.update a (Obj.mapSeq fun _=>#[])).push (seqObj "tuple" vs.toArray 0)).push (seqObj "list" #[] 0)}/\Pm L.length p/\Up (n5 L) p L.length)
   (G:=fun p s'=>s'={s with heap:=((s.heap.update a (Obj.mapSeq fun _=>#[])).push (seqObj "tuple" vs.toArray 0)).push (seqObj "list" #[] 0)}/\Pm L.length p/\Up (n5 L) p L.length)
   rfl (by omega) (by omega) (fun p' st' s' a1 a2 a3 a4=>⟨p',a1,a2,a3,a4⟩) ?_) ?_ fun _ _ e=>e)
  ·rw [hl]
   refine Em (r:=n5 L) (n:=L.length) ⟨fun i j hi hj e=>BG nd hi hj e,fun i j hi hj C hC=>?_⟩ (by omega) fun p hp hu=>⟨rfl,hp,hu⟩;obtain ⟨x,ox,ix,nx,e1,e2,e3,e4,e5⟩:=hT1.at i hi;obtain ⟨y,oy,iy,ny,f1,f2,f3,f4,f5⟩:=hT1.at j hj;unfold kas_ask;rw [e1,f1];refine kat_lt e2 e4 f2 f4 ?_;rw [oA hi hj] at hC;have:=CI (prog:=prog) (w:=w) (A:=A) (b:=(Value.type "int" != Value.type "tuple")) 0 e5 f5 hC;simpa using this
  ·rintro ⟨⟨⟩,st'⟩ s' ⟨p,hp,har,hf,rfl,hpm,hup⟩
   dsimp only;have hout:=kat_snds (ks:=vs) (vs:=vs) rfl har;rw [hout]
   have hsz:(List.toArray (p.toList.map fun i=>vs.getD i Value.none)).size<=sizeLine+1:=by rw [zaq,zag,za8,hp];omega
   refine zaa (seqEpoch_at o6 rfl (zaa (listUpdate_at o6 rfl ?_ (by simp) hsz)));rw [hf];simp only [bne_self_eq_false,zas,if_false]
   have hlt:∀i∈p.toList,i < L.length:=fun i hi=>by have:=hpm.pm.mem_iff.mp hi;simpa using this
   refine zad (h _ (p.toList.map fun i=>L.getD i []) ⟨p.toList,by simp,rfl,hlt⟩ ?_ ?_)
   ·have:=hpm.pm.map fun i=>L.getD i []
    refine this.trans (List.Perm.of_eq ?_);refine zc4 (by simp) fun k h1 h2=>?_;simp only [zb0,zcX];rw [zaZ,zao (by simpa using h1)];rfl
   ·rw [zbR,zbS]
    intro i j hi hj hij;have hsz2:=hpm.size
    have hi':i < p.size:=by simpa using hi
    have hj':j < p.size:=by simpa using hj
    have hk:=hup i j hij (by omega);unfold key at hk
    have gi:p.getD i 0=p[i]:=by rw [za7,zav hi'];rfl
    have gj:p.getD j 0=p[j]:=by rw [za7,zav hj'];rfl
    rw [gi,gj] at hk;have:=oA (L:=L) (i:=p[i]) (j:=p[j]) (hlt _ (by simp)) (hlt _ (by simp))
    rw [zaK hk] at this
    simpa using this.symm
end
end HT2
namespace HK
open PyProof.Rows L2
def DE (h:Heap)(d:Addr)(es:Array DictEntry)(ep:Nat):Prop:=∃ob,h.get? d=some ob/\ob.ExactDict/\ob.data=.dict es ep
section
variable {prog:Program}{w:World}{A:Around}{E:Tb}{s:Shared}{d it:Addr}{es:Array DictEntry}{ep i:Nat}
def DE.ty (m:DE s.heap d es ep):s.TypeIs (.ref d) "dict":=let ⟨ob,g,x,_⟩:=m;⟨ob,g,x.1⟩
def DE.at {h h':Heap}(m:DE h d es ep)(k:∀ob,h.get? d=some ob->h'.get? d=some ob):DE h' d es ep:=let ⟨ob,g,r⟩:=m;⟨ob,k _ g,r⟩
theorem Nm {Q:Tb}(nd:(d == sysModules)=false)(m:DE s.heap d es ep)
  (fin:Q (.ref s.heap.objs.size) {s with heap:=s.heap.push {cls:=.type "dict_keyiterator",data:=.fields #[.ref d,.int 0 0,.int es.size 0,.int ep 0]}}):wpAny (model prog w) A (pyIter (.ref d)) Q E s:=by
 obtain ⟨ob,g,x,dt⟩:=id m;refine zcf m.ty F.slot_dict_iter (zaG F.slot_dict_iter m.ty F.entry_dict_iter ?_ (F.args_dict_iter_1 _));unfold Builtin.«dict.__iter__» Builtin.Dict.dictSlotNone;refine zaa (zaa (zcF m.ty ?_));refine (show wpAny _ _ (pure (Value.ref d)) _ _ s from zad (show wpAny _ _ (Builtin.Dict.showsAll d >>= _) _ _ s from ?_));unfold Builtin.Dict.showsAll;rw [if_neg (show ¬ (d == sysModules)=true by rw [nd];decide)];refine zaa (zad (zaa (zbF g dt (zaa (zb6 g dt (zaa (zaF (zad ⟨_,rfl,"dict_keyiterator",_,⟨_,zal _ rfl,rfl⟩,F.slot_dict_keyiterator_next.lookup,?_⟩))))))));simpa [rawInt] using fin
theorem Nd {e:DictEntry}{Q:Option Value->Shared->Prop}(k:s.heap.IsKeyIter it d i es.size ep)(m:DE s.heap d es ep)(ge:es[i]?=some e)
  (fin:∀h',h'.IsKeyIter it d (i+1) es.size ep->Heap.SameBut it s.heap h'->Q (some e.key) {s with heap:=h'}):wpAny (model prog w) A (pyNext (.ref it)) Q E s:=by
 obtain ⟨oi,gi,ci,di⟩:=id k;obtain ⟨ob,g,x,dt⟩:=id m;have ty:=k.typeIs;unfold pyNext;refine zaa (zbG (za0 (name:=Str.ofString "__next__") ty F.slot_dict_keyiterator_next (zaG F.slot_dict_keyiterator_next ty F.entry_dict_keyiterator_next ?_ (F.args_dict_keyiterator_next_1 _))));refine zaa (zad (zaa (zaa ?_)))
 first|refine zaa (zbH ty (zad (zaa (zbi gi di ?_))))|refine zaa (zb1 ty (zad (zaa (zbi gi di ?_))))
 simp only [show Builtin.Dict_items.ownsTuple "dict_keyiterator" = false by decide,zas,if_false];refine (show wpAny _ _ (if (Value.ref d == Value.none)=true then _ else _) _ _ s from ?_);rw [if_neg (show ¬ ((Value.ref d == Value.none)=true) by exact za5)];refine zaa (zad (zaa (zbF g dt ?_)));rw [if_neg (show ¬ _ by simp)];refine zaa (zad (zaa (zb6 g dt ?_)));rw [if_neg (show ¬ _ by simp)];refine zad ?_;simp only [show ¬ ((i:Int) < 0) by omega,if_false,zby,ge];refine zaa ?_
 first|refine zaa (zbH ty (zad (zaa (zcG ty ?_))))|refine zaa (zb1 ty (zad (zaa (zcG ty ?_))))
 refine (show wpAny _ _ (setField (.ref it) 1 (rawInt ((i:Int)+1)) >>= _) _ _ s from zaa (zbC gi di (by simp) ?_))
 have k':(s.heap.update it (Obj.mapFields (·.setIfInBounds 1 (rawInt ((i:Int)+1))))).IsKeyIter it d (i+1) es.size ep :=
  ⟨_,zaS _ gi (Obj.isFreed_of_fields (Obj.data_mapFields di _)),(Obj.cls_mapFields ..).trans ci,by rw [Obj.data_mapFields di];simp [rawInt]⟩
 refine zaa (zaI (zaa (zcG (s:={s with heap:=s.heap.update it (Obj.mapFields (·.setIfInBounds 1 (rawInt ((i:Int)+1))))}) k'.typeIs ?_)));exact (show wpAny _ _ (pure e.key) _ _ _ from zad (zad ⟨_,rfl,zad (fin _ k' (Heap.SameBut.update ..))⟩))
theorem Nj {Q:Option Value->Shared->Prop}(hh:A.handled=none)(k:s.heap.IsKeyIter it d es.size es.size ep)(m:DE s.heap d es ep)
  (fin:∀h',Heap.ExtBut it s.heap h'->Q none {s with heap:=h'}):wpAny (model prog w) A (pyNext (.ref it)) Q E s:=by
 obtain ⟨oi,gi,ci,di⟩:=id k;obtain ⟨ob,g,x,dt⟩:=id m;have ty:=k.typeIs;unfold pyNext;refine zaa (zbG (za0 (name:=Str.ofString "__next__") ty F.slot_dict_keyiterator_next (zaG F.slot_dict_keyiterator_next ty F.entry_dict_keyiterator_next ?_ (F.args_dict_keyiterator_next_1 _))));refine zaa (zad (zaa (zaa ?_)))
 first|refine zaa (zbH ty (zad (zaa (zbi gi di ?_))))|refine zaa (zb1 ty (zad (zaa (zbi gi di ?_))))
 simp only [show Builtin.Dict_items.ownsTuple "dict_keyiterator" = false by decide,zas,if_false];refine (show wpAny _ _ (if (Value.ref d == Value.none)=true then _ else _) _ _ s from ?_);rw [if_neg (show ¬ ((Value.ref d == Value.none)=true) by exact za5)];refine zaa (zad (zaa (zbF g dt ?_)));rw [if_neg (show ¬ _ by simp)];refine zaa (zad (zaa (zb6 g dt ?_)));rw [if_neg (show ¬ _ by simp)];refine zad ?_;simp only [show ¬ ((es.size:Int) < 0) by omega,if_false,zby,zb9 (zam es.size)];refine zaa ?_
 first|refine zaa (zbH ty (zad ?_))|refine zaa (zb1 ty (zad ?_))
 refine (show wpAny _ _ (setField (.ref it) 0 .none >>= _) _ _ s from zaa (zbC gi di (by simp) ?_));refine (show wpAny _ _ (newExc (.type "StopIteration") [] >>= _) _ _ _ from zaa ?_);simp only [newExc,newTuple];refine zaa (zaF (zaa (m:=firstArgMember _ _) (zcT (a:=Value.none) (by first|rfl|(simp only [firstArgMember];rfl)) (zaF ?_ (by size_fits)))) (by size_fits));simp only [raiseNew];refine zaa (wpAny_handled ?_);rw [show A.in1.handled=none by exact hh];refine zaa (zad (wpAny_throw (zaa ?_)));exact zbt (T:="StopIteration") (b:=true) ⟨_,zal _ rfl,rfl⟩ isSubtype_stop (zad (fin _ (((Heap.SameBut.update ..).extBut.push _).push _)))
def Im (hh:A.handled=none)(I d:Addr)(ne:d≠I)(es:Array DictEntry)(ep:Nat):Walks prog w A I [I,d] [I] es.size (fun i v=>∃e,es[i]?=some e/\v=e.key) (fun i h=>h.IsKeyIter I d i es.size ep/\DE h d es ep) where
 sub:=fun b z=>by simp at z;simp [z]
 frame:=fun _ _ _ q z=>⟨q.1.at fun o e=>z I (by simp) o e,q.2.at fun o e=>z d (by simp) o e⟩
 item:=fun i s Q E hi q fin=>by refine Nd q.1 q.2 (zav hi) fun h' k' sb=>fin _ h' s.toks ⟨_,zav hi,rfl⟩ ⟨k',q.2.at fun o e=>sb.extBut d o ne e⟩ fun b o hb e=>sb.extBut b o (fun z=>hb (by simp [z])) e
 done:=fun s Q E q fin=>Nj hh q.1 q.2 fun h' eb=>fin h' s.toks fun b o hb e=>eb b o (fun z=>hb (by simp [z])) e
 self:=fun _ _ _ _ q fin=>wpAny_pyIter_keyiter q.1 fin
end
open HT2
section
variable {prog:Program}{w:World}{A:Around}{E:Tb}{s:Shared}
def Fp {es:Array DictEntry}{vs:Te}(hl:vs.length=es.size)(h:∀(i:Nat) v,vs[i]?=some v->∃e,es[i]?=some e/\v=e.key):vs=es.toList.map (·.key):=by
 refine zc4 (by simpa using hl) fun i h1 h2=>?_;obtain ⟨e,g,q⟩:=h i vs[i] (zao h1);have hi:i < es.size:=by simpa using h2
 rw [zav hi] at g;cases g;rw [q];simp
theorem DD {a:Addr}{es:Array DictEntry}{ep:Nat}{Q:List Value->Shared->Prop}(hh:A.handled=none)(hd:(a == sysModules)=false)(hm:DE s.heap a es ep)(hz:es.size<=sizeLine)
  (h:∀(h':Heap) (tk:Nat),(∀b o,s.heap.get? b=some o->h'.get? b=some o)->s.toks<=tk->s.heap.objs.size<=h'.objs.size->Q (es.toList.map (·.key)) {s with heap:=h',toks:=tk}) :
  wpAny (model prog w) A (collect (.ref a)) Q E s:=by
 obtain ⟨o,ho,hx,hdat⟩:=id hm;have hlt:=zah ho;unfold collect;refine zaa (zcR (zaW F.entry_proto_collect ?_));rw [zaX F.plain_proto_collect _];refine (show wpAny _ A.in1 (newList [] >>= fun l=>again (.builtin "list.__iadd__" ⟨[l,.ref a],[]⟩)) _ _ s from zaa (zaF ?_));refine zad ⟨zbw F.plain_list_iadd _,zaW F.entry_list_iadd ?_⟩;rw [zaX F.plain_list_iadd _];refine (show wpAny _ A.in1 (listExtendWith (.ref s.heap.objs.size) (.ref a) (.ref s.heap.objs.size)) _ _ _ from ?_);unfold listExtendWith;have hm1:DE (s.heap.push {cls:=.type "list",data:=.seq ([]:Te).toArray}) a es ep:=hm.at fun _ e=>zae _ e;have hT:Shared.TypeIs {s with heap:=s.heap.push {cls:=.type "list",data:=.seq ([]:Te).toArray}} (.ref a) "dict":=DE.ty (s:={s with heap:=s.heap.push {cls:=.type "list",data:=.seq ([]:Te).toArray}}) hm1;refine zaa (zbs hT ?_)
 have h1:listSameRef (.ref s.heap.objs.size) (.ref a)=false:=by simp [listSameRef,zaV hlt]
 simp only [h1,show (Value.type "dict" == Value.type "list")=false by decide,show (Value.type "dict" == Value.type "tuple")=false by decide,Bool.or_false,zas,if_false];refine zaa (Nm hd hm1 ?_);have hsz:(s.heap.push {cls:=.type "list",data:=.seq ([]:Te).toArray}).objs.size=s.heap.objs.size+1:=zaY ..;generalize hI:(s.heap.push {cls:=.type "list",data:=.seq ([]:Te).toArray}).objs.size=I at *;have kp:∀b o,(s.heap.push {cls:=.type "list",data:=.seq ([]:Te).toArray}).get? b=some o->((s.heap.push {cls:=.type "list",data:=.seq ([]:Te).toArray}).push {cls:=.type "dict_keyiterator",data:=.fields #[.ref a,.int 0 0,.int es.size 0,.int ep 0]}).get? b=some o:=fun b o e=>zae _ e;generalize hh1:(s.heap.push {cls:=.type "list",data:=.seq ([]:Te).toArray}).push {cls:=.type "dict_keyiterator",data:=.fields #[.ref a,.int 0 0,.int es.size 0,.int ep 0]}=h1 at *;have hIt:h1.IsKeyIter I a 0 es.size ep:=⟨_,by rw [←hh1,←hI];exact zal _ rfl,rfl,rfl⟩;have hma:DE h1 a es ep:=hm1.at fun o e=>kp _ o e;have hTa:Shared.TypeIs {s with heap:=h1} (.ref a) "dict":=DE.ty (s:={s with heap:=h1}) hma;refine zaa (zaI (HS.Ac hTa ?_))
 refine (show wpAny _ A.in1 (rule "list.extend.makes-room" >>= fun _=>listTouch (.ref s.heap.objs.size) >>= fun _ =>
  again (.builtin "list.extend.loop" ⟨[.ref s.heap.objs.size,.ref I,.ref s.heap.objs.size],[]⟩)) _ _ _ from zaa (zbO (zaa ?_)))
 have hL:h1.get? s.heap.objs.size=some {cls:=.type "list",data:=.seq ([]:Te).toArray}:=kp _ _ (zal _ rfl)
 have hSf:s.heap.objs.size∉[I,a]:=fun hm=>by
  simp only [zak,zaQ,or_false] at hm;rcases hm with e|e
  ·rw [hsz] at e;omega
  ·exact zaP _ (e ▸ hlt)
 refine (show wpAny _ A.in1 (updateSeq s.heap.objs.size (·.push .none) >>= fun _=>updateSeq s.heap.objs.size (·.pop)) _ _ _ from zaa (zcK hL rfl ?_));have hL2:=zaS (Obj.mapSeq (·.push Value.none)) hL rfl;refine zcK (s:={s with heap:=_}) hL2 rfl ?_;have hL3:=zaS (Obj.mapSeq (·.pop)) hL2 rfl
 have oth:∀b o,b≠s.heap.objs.size->h1.get? b=some o->((h1.update s.heap.objs.size (Obj.mapSeq (·.push Value.none))).update s.heap.objs.size (Obj.mapSeq (·.pop))).get? b=some o :=
  fun b o hb e=>(zaw _ _ (Ne.symm hb)).trans ((zaw _ _ (Ne.symm hb)).trans e)
 have W1:=Im (prog:=prog) (w:=w) (A:=A.in1) (show A.in1.handled=none from hh) I a (by rw [hsz];exact zap (zbo hlt)) es ep
 refine zad ⟨zbw F.plain_extend_loop _,codeAny_extend_loopS W1.toS hz _ hSf _ es.size 0 _ _ _ rfl (zbd _)
  (W1.frame 0 h1 _ ⟨hIt,hma⟩ fun b hb o e=>oth b o (fun q=>hSf (q ▸ hb)) e) hL3 (ItemsOf.nil _) fun s' acc c hm' hS' hacc=>?_⟩
 refine (show wpAny _ A (load s.heap.objs.size >>= _) _ _ s' from zaa (wpAny_load hS' ?_));dsimp only;obtain ⟨h',g',d',tk',os'⟩:=s';have eg:g'=s.gens:=hm'.gens;have ed:d'=s.drawn:=hm'.drawn;have eo:os'=s.os:=hm'.os;subst eg;subst ed;subst eo;refine zad ?_;have hk:acc.toList=es.toList.map (·.key):=Fp (by rw [←hacc.1];simp) fun i v hv=>hacc.2 i v (by simpa using hv);rw [hk];refine h h' tk' (fun b o e=>hm'.heap b o (fun hb=>?_) (oth b o (fun q=>?_) (kp _ _ (zae _ e)))) hm'.toks (zbD (zah hS'))
 ·have hb1:=zah e
  simp only [zak,zaQ,or_false] at hb;rcases hb with q|q
  ·exact zaP _ (q ▸ hb1)
  ·rw [q,hsz] at hb1;exact absurd hb1 (Nat.not_lt.mpr (zbP _))
 ·exact zaP _ (q ▸ zah e)
def Ek {a:Addr}{es:Array DictEntry}{ep:Nat}{L:Ta}{Q:Tb}(hh:A.handled=none)(hd:(a == sysModules)=false)(hm:DE s.heap a es ep)(hT:be s.heap (es.toList.map (·.key)) L)(nd:L.Nodup)(h64:L.length < 64)(hne:2<=L.length->∀x∈L,x≠[])
  (h:∀(is:List Nat) (h':Heap) (tk:Nat) (l:Addr) (c:Nat),(∀i∈is,i < L.length)->(is.map fun i=>L.getD i []).Perm L->(is.map fun i=>L.getD i []).Pairwise (fun x y=>jD x y=true)->(∀b o,s.heap.get? b=some o->h'.get? b=some o)->s.toks<=tk ->
   s.heap.objs.size<=l->h'.get? l=some (seqObj "list" (is.map fun i=>(es.toList.map (·.key)).getD i .none).toArray c)->Q (.ref l) {s with heap:=h',toks:=tk}) :
  wpAny (model prog w) A (call (.builtin "sorted") [.ref a]) Q E s:=by
 have hvl:(es.toList.map (·.key)).length=L.length:=hT.len
 have hes:es.size=L.length:=by simpa using hvl
 refine Calls.call_function_entry kind_sorted plain_sorted entry_sorted (args_sorted1 _) ?_;unfold Builtin.«sorted»;refine zaa (m:=checkCount "sorted" 1 1 _) (zad (zaa (DD (show A.in1.handled=none from hh) hd hm (by rw [hes,za9];omega) fun h' tk kp ht hge=>?_)));generalize es.toList.map (·.key)=vs at *;refine zaa (zcZ ?_ (by rw [hvl,za9];omega));have hoL:(h'.push (seqObj "list" vs.toArray 0)).get? h'.objs.size=some (seqObj "list" vs.toArray 0):=zal _ rfl;have hT2:be (h'.push (seqObj "list" vs.toArray 0)) vs L:=hT.keep fun b o e=>zae _ (kp b o e)
 have hna:∀v∈vs,v≠.ref h'.objs.size:=fun v hv e=>by
  obtain ⟨i,hi,rfl⟩:=zbf hv;obtain ⟨b,o,its,n,q1,q2,_⟩:=hT.at i (by omega);rw [zaZ,zao hi] at q1;simp only [zbM] at q1;rw [e] at q1;cases q1;exact absurd (zah (kp _ _ q2)) (zaP _)
 refine zaa (zaI (zaG (s:={s with heap:=h'.push (seqObj "list" vs.toArray 0),toks:=tk}) slot_list_sort ⟨_,hoL,rfl⟩ entry_list_sort (qK (s:={s with heap:=h'.push (seqObj "list" vs.toArray 0),toks:=tk}) hoL hT2 nd h64 hne hna fun out L' ⟨is,a1,a2,a3⟩ a4 a5=>⟨_,rfl,?_⟩) (args_list_sort _)))
 obtain ⟨c,hc⟩:∃c,(sortedHeap (h'.push (seqObj "list" vs.toArray 0)) h'.objs.size vs out).get? h'.objs.size=some (seqObj "list" out c):=by
  unfold sortedHeap;obtain ⟨e1,q1⟩:∃e1,((h'.push (seqObj "list" vs.toArray 0)).update h'.objs.size (Obj.mapSeq fun _=>#[])).get? h'.objs.size=some (seqObj "list" #[] e1):=⟨_,get?_update_seq hoL (fun _=>#[])⟩;exact ⟨_,get?_update_seq (zae _ (zae _ q1)) (fun _=>out)⟩
 have ho:out=(is.map fun i=>vs.getD i .none).toArray:=by rw [←a1]
 subst a2;rw [ho] at hc;refine zad ⟨_,rfl,h is _ tk h'.objs.size c a3 a4 a5 (fun b o e=>?_) ht hge (by rw [ho];exact hc)⟩;have hb:=kp b o e;have ne:h'.objs.size≠b:=zaV (zah hb);unfold sortedHeap;rw [zaw _ _ ne];refine zae _ (zae _ ?_);rw [zaw _ _ ne];exact zae _ hb
end
end HK
namespace HW
variable {K:zac}
open PyProof.Rows L2 HS HT2 HK
def wJ (k:Th):List (Th)->Ta
 |[]=>[k]
 |x::l=>if jD k x=true then k::x::l else x::wJ k l
def br:List (Th)->Ta
 |[]=>[]
 |k::l=>wJ k (br l)
theorem mX (k:Th):∀l,(wJ k l).Perm (k::l)
 |[]=>.refl _
 |x::l=>by
  unfold wJ;split
  ·exact .refl _
  ·exact ((mX k l).cons x).trans (.swap k x l)
theorem bI:∀l,(br l).Perm l
 |[]=>.refl _
 |k::l=>(mX k _).trans ((bI l).cons k)
abbrev DT (l:Ta):Prop:=l.Pairwise fun x y=>jD x y=true
theorem yq {k:Th}:∀{l:Ta},DT l->k∉l->DT (wJ k l)
 |[],_,_=>by simp [wJ]
 |x::l,h,hk=>by
  obtain ⟨h1,h2⟩:=zaM.mp h;unfold wJ;split
  ·rename_i c;refine zaM.mpr ⟨fun y hy=>?_,h⟩;rcases zak.mp hy with rfl|hy
   ·exact c
   ·exact gw _ _ _ c (h1 y hy)
  ·rename_i c;refine zaM.mpr ⟨fun y hy=>?_,yq h2 fun z=>hk (zaj _ z)⟩;rcases zak.mp ((mX k l).mem_iff.mp hy) with rfl|hy
   ·rcases oG x y with q|q|q
    ·exact q
    ·exact absurd zan (q ▸ hk)
    ·exact absurd q c
   ·exact h1 y hy
theorem jT:∀{l:Ta},l.Nodup->DT (br l)
 |[],_=>.nil
 |k::l,h=>by obtain ⟨h1,h2⟩:=zaL.mp h;exact yq (jT h2) fun z=>h1 ((bI l).mem_iff.mp z)
theorem l9:∀{a b:Ta},DT a->DT b->a.Perm b->a=b
 |[],b,_,_,p=>by rw [List.nil_perm.mp p]
 |x::a,[],_,_,p=>by simpa using p.length_eq
 |x::a,y::b,ha,hb,p=>by
  obtain ⟨a1,a2⟩:=zaM.mp ha;obtain ⟨b1,b2⟩:=zaM.mp hb;have e:x=y:=by
   rcases zak.mp (p.mem_iff.mp zan) with h|h
   ·exact h
   ·rcases zak.mp (p.mem_iff.mpr zan) with h'|h'
    ·exact h'.symm
    ·have q:=gw _ _ _ (b1 x h) (a1 y h');rw [hJ] at q;cases q
  subst e;rw [l9 a2 b2 ((List.perm_cons x).mp p)]
def CL:List R->ac->Option (R×ac)
 |[x],U=>(kW x U).bind fun xs=>(fX xs).bind fun ns=>some (.v (.key ns),U)
 |_,_=>none
theorem CY {K:zac}{H:Hp}:∀{xs:List D} {ns:Th} {vs:List V},fX xs=some ns->RelDs K H xs vs->vs=ns.map V.int
 |[],ns,vs,e,r=>by cases e;exact r
 |.int n::xs,ns,vs,e,r=>by simp only [fX] at e;obtain ⟨ms,e1,rfl⟩:=zaO.mp e;obtain ⟨v,r',rfl,h1,h2⟩:=r;simp only [ao] at h1;subst h1;rw [CY e1 h2];rfl
 |.non::_,_,_,e,_=>by cases e
 |.bl _::_,_,_,e,_=>by cases e
 |.str _::_,_,_,e,_=>by cases e
 |.tup _::_,_,_,e,_=>by cases e
 |.fl _::_,_,_,e,_=>by cases e
 |.fd _ _::_,_,_,e,_=>by cases e
 |.key _::_,_,_,e,_=>by cases e
def NB :vL K CL (MH K):=by
 intro m H U xs d U' vs Q s r e k;unfold CL at e;split at e
 ·rename_i x;obtain ⟨ys,e1,e⟩:=zab.mp e;obtain ⟨ns,e2,e⟩:=zab.mp e;cases e;obtain ⟨v,rfl,r1⟩:=lB r;obtain ⟨a,ws,rfl,q,r⟩:=jb s r1 e1;refine ⟨a,ws,rfl,.inl ⟨q,fun p hp=>?_⟩⟩;obtain ⟨x1,x2,x3⟩:=kG s r hp;refine k _ _ _ x1 x2 ?_;simp only [au,ao];exact ⟨p,rfl,by rw [cp,CY e2 r]⟩
 ·cases e
theorem kD {K:zac}{H:Hp}:∀(ns:Th),RelDs K H (ns.map D.int) (ns.map V.int)
 |[]=>rfl
 |n::ns=>⟨_,_,rfl,by simp only [ao],kD ns⟩
abbrev kk (k:Th):List aH:=k.map Sum.inl
theorem sE {a b:Th}(h:kk a=kk b):a=b:=by
 induction a generalizing b with
 |nil=>cases b with
  |nil=>rfl
  |cons y b=>cases h
 |cons x a ih=>cases b with
  |nil=>cases h
  |cons y b =>
   simp only [kk,zaf,List.cons.injEq,Sum.inl.injEq] at h;rw [h.1,ih h.2]
theorem wK (k:Th):(kk k).map kV=k.map V.int:=by rw [zbj];rfl
def k7 (K:zac)(H:Hp)(kvs:List (Th×D))(es:List (List aH×V)):Prop:=es.map (·.1)=kvs.map (fun p=>kk p.1)/\RelDs K H (kvs.map (·.2)) (es.map (·.2))
def FV:FE:=fun _ U=>some (.p U.length,U++[.dt []])
def Jw {H:Hp}{Q:VK}(h:av K FV Y H Q):v7 Y H Q:=by obtain ⟨O,U,m,d,U',hl,hs,e,k⟩:=h;cases e;intro p hp;refine k _ _ (m++[p]) (.newH hp) (hs.newH hp ⟨[],cp,rfl,rfl⟩) ⟨p,rfl,?_⟩;rw [←hs.len];simp
def nX (kvs:List (Th×D))(k:Th):Option D:=(kvs.find? fun p=>decide (p.1=k)).map (·.2)
def l7 (kvs:List (Th×D))(k:Th)(d:D):List (Th×D) :=
 if (kvs.any fun p=>decide (p.1=k))=true then kvs.map (fun p=>if p.1=k then (p.1,d) else p) else kvs++[(k,d)]
theorem k7.val {K:zac}{H:Hp}(k:Th):∀{kvs:List (Th×D)} {es:List (List aH×V)},k7 K H kvs es->(nX kvs k=none/\dI es (kk k)=none)\/∃d v,nX kvs k=some d/\dI es (kk k)=some v/\ao K H d v
 |[],[],_=>.inl ⟨rfl,rfl⟩
 |[],_::_,h=>by have:=h.1;simp at this
 |_::_,[],h=>by have:=h.1;simp at this
 |p::kvs,e::es,⟨h1,h2⟩=>by
  simp only [zaf,List.cons.injEq] at h1;obtain ⟨v,r,q,r1,r2⟩:=h2;simp only [zaf,List.cons.injEq] at q;obtain ⟨q1,q2⟩:=q;by_cases c:p.1=k
  ·refine .inr ⟨p.2,e.2,?_,?_,by rw [q1];exact r1⟩
   ·unfold nX;rw [zca (by simpa using c)];rfl
   ·exact lV (by rw [h1.1,c])
  ·have ih:=k7.val k (kvs:=kvs) (es:=es) ⟨h1.2,by rw [q2];exact r2⟩;have n1:nX (p::kvs) k=nX kvs k:=(by unfold nX;rw [zcb (by simpa using c)]);have n2:dI (e::es) (kk k)=dI es (kk k):=iD fun z=>c (sE (h1.1.symm.trans z));rw [n1,n2];exact ih
def k7.any {H:Hp}{kvs:List (Th×D)}{es:List (List aH×V)}(r:k7 K H kvs es)(k:Th):(es.any fun e=>decide (e.1=kk k))=(kvs.any fun p=>decide (p.1=k)):=by
 have h1:(es.any fun e=>decide (e.1=kk k))=((es.map (·.1)).any fun x=>decide (x=kk k)):=by rw [zcL];rfl
 rw [h1,r.1,zcL];congr 1;funext p;simp only [Function.comp];by_cases c:p.1=k
 ·rw [zaK c,zaK (by rw [c])]
 ·rw [zay c,zay fun z=>c (sE z)]
def k7.cons {K:zac}{H:Hp}{k:Th}{k':List aH}{d:D}{v:V}{kvs:List (Th×D)}{es:List (List aH×V)}:k7 K H ((k,d)::kvs) ((k',v)::es) ↔ k'=kk k/\ao K H d v/\k7 K H kvs es:=by
 constructor
 ·rintro ⟨h1,h2⟩;simp only [zaf,List.cons.injEq] at h1;obtain ⟨w,r,e,h3,h4⟩:=h2;simp only [zaf,List.cons.injEq] at e;obtain ⟨rfl,rfl⟩:=e;exact ⟨h1.1,h3,h1.2,h4⟩
 ·rintro ⟨rfl,h1,h2,h3⟩;exact ⟨by rw [zaf,zaf,h2],⟨_,_,rfl,h1,h3⟩⟩
theorem k7.repl {K:zac}{H:Hp}{k:Th}{d:D}{v:V}(rd:ao K H d v):∀{kvs:List (Th×D)} {es:List (List aH×V)},k7 K H kvs es->k7 K H (kvs.map fun p=>if p.1=k then (p.1,d) else p) (es.map fun e=>if e.1=kk k then (e.1,v) else e)
 |[],[],_=>⟨rfl,rfl⟩
 |[],_::_,h=>by have:=h.1;simp at this
 |_::_,[],h=>by have:=h.1;simp at this
 |(p,x)::kvs,(e,y)::es,h=>by
  obtain ⟨rfl,h2,h3⟩:=k7.cons.mp h;have ih:=k7.repl (k:=k) rd h3;rw [zaf,zaf];by_cases c:p=k
  ·have c':kk p=kk k:=by rw [c]
   rw [if_pos c,if_pos c'];exact k7.cons.mpr ⟨rfl,rd,ih⟩
  ·have c':¬ kk p=kk k:=fun z=>c (sE z);rw [if_neg c,if_neg c'];exact k7.cons.mpr ⟨rfl,h2,ih⟩
def k7.snoc {H:Hp}{k:Th}{d:D}{v:V}(rd:ao K H d v){kvs:List (Th×D)}{es:List (List aH×V)}(h:k7 K H kvs es):k7 K H (kvs++[(k,d)]) (es++[(kk k,v)]):=by refine ⟨by simp [h.1],?_⟩;rw [zaR,zaR];exact RelDs.append h.2 ⟨_,_,rfl,rd,rfl⟩
def k7.put {H:Hp}{k:Th}{d:D}{v:V}{kvs:List (Th×D)}{es:List (List aH×V)}(r:k7 K H kvs es)(rd:ao K H d v):k7 K H (l7 kvs k d) (em es (kk k) v):=by
 unfold l7 em;rw [r.any k];split
 ·exact r.repl rd
 ·exact r.snoc rd
def Hu:V->V->V->Hp->(Hp->Prop)->Prop:=fun o i v H Q=>∃p kvs k b,o=.ref p/\i=.ref b/\H p=some (.dT kvs)/\H b=some (.tup (k.map kV))/\kvs.length < sizeLine/\Q (upd H p (.dT (em kvs k v)))
def zm {X:Cx}(hu:X.A.units+1 < cLine):tF X Hu:=by intro pins s Y H o i v ov iv u Q I ro ri rv h;obtain ⟨p,kvs,k,b,rfl,rfl,hp,hb,hl,q⟩:=h;cases ro;exact rn hu I (xt.t hp hb hl) ri rv fun s' I'=>⟨_,I',q⟩
def xf (U:ac)(n:Nat):Option (List (Th×D)):=match U[n]? with|some (.dt kvs)=>some kvs|_=>none
def yN {m:Tf}{H:Hp}{U:ac}{n:Nat}{a:Addr}{kvs:List (Th×D)}(s:aI K m H U)(ha:m[n]?=some a)(e:xf U n=some kvs):∃es,H a=some (.dT es)/\k7 K H kvs es:=by
 unfold xf at e;split at e
 ·rename_i q
  cases e;obtain ⟨es,ea,e1,e2⟩:=s.cell _ _ a q ha;exact ⟨es,ea,e1,e2⟩
 ·cases e
def qY (fo fi:FE):FG:=fun d O U=>match d with
 |.v dv=>(fo O U).bind fun o=>(fi O o.2).bind fun i=>match o.1,i.1 with
  |.p n,.v (.key ks)=>(xf i.2 n).bind fun kvs=>if kvs.length < 1000 then some (O,i.2.set n (.dt (l7 kvs ks dv))) else none
  |_,_=>none
 |_=>none
def BB {fo fi:FE}{v:V}{H:Hp}{Q:L2.St->Hp->Prop}(h:qp K (qY fo fi) v Y H Q):L2.qx (av K fo) (av K fi) Hu v Y H Q:=by
 obtain ⟨O,U,m,d,O',U',hl,hs,r,e,k⟩:=h;unfold qY at e;split at e
 ·rename_i dv;obtain ⟨⟨o,U1⟩,e1,e⟩:=zab.mp e;obtain ⟨⟨i,U2⟩,e2,e⟩:=zab.mp e;dsimp only at e;split at e
  ·rename_i n ks e0;obtain ⟨kvs,e3,e⟩:=zab.mp e;split at e
   ·rename_i h1000
    cases e;refine ⟨O,U,m,_,U1,hl,hs,e1,fun vo H1 m1 x1 s1 r1=>?_⟩;refine ⟨O,U1,m1,_,U2,hl.ext x1,s1,e2,fun vi H2 m2 x2 s2 r2=>?_⟩;obtain ⟨a,rfl,ha⟩:=r1.ext x2;simp only [au,ao] at r2;obtain ⟨b,rfl,hb⟩:=r2;obtain ⟨es,ea,kd⟩:=yN s2 ha e3;have rv:ao K H2 dv v:=ao.tf (x1.tf.trans x2.tf) _ _ r;have kd':=kd.put (k:=ks) rv;have x:dM m2 H2 m2 (upd H2 a (.dT (em es (kk ks) v))):=.put (zaH ha) ea (by simp) (by simp);have s3:=s2.put (c:=.dt (l7 kvs ks dv)) ha ea (by simp) (by simp) ⟨_,cp,kd'.1,RelDs.tf x.tf _ _ kd'.2⟩;refine ⟨a,es,kk ks,b,rfl,rfl,ea,by rw [wK];exact hb,?_,k Y _ m2 ((x1.trans x2).trans x) s3 (hl.ext ((x1.trans x2).trans x))⟩;have:=congrArg List.length kd.1;simp only [zag] at this
    rw [this,za9];omega
   ·cases e
  ·cases e
 ·cases e
def iR (H:Hp):List Addr->List (Th)->Prop
 |[],[]=>True
 |a::as,k::ks=>H a=some (.tup (k.map V.int))/\iR H as ks
 |_,_=>False
theorem iR.at {H:Hp}:∀{as:Tf} {ks:Ta},iR H as ks->∀i,i < ks.length->H (as.getD i 0)=some (.tup ((ks.getD i []).map V.int))
 |[],[],_,i,hi=>by simp at hi
 |[],_::_,h,_,_=>h.elim
 |_::_,[],h,_,_=>h.elim
 |_::_,_::_,h,0,_=>h.1
 |_::_,_::_,h,i+1,hi=>iR.at h.2 i (by simpa using hi)
theorem iR.pick {H:Hp}{as:Tf}{ks:Ta}(h:iR H as ks):∀(is:List Nat),(∀i∈is,i < ks.length)->iR H (is.map fun i=>as.getD i 0) (is.map fun i=>ks.getD i [])
 |[],_=>trivial
 |i::is,hi=>⟨h.at i (hi i zan),iR.pick h is fun j hj=>hi j (zaj _ hj)⟩
theorem iR.rels {K:zac}{H:Hp}:∀{as:Tf} {ks:Ta},iR H as ks->RelDs K H (ks.map D.key) (as.map V.ref)
 |[],[],_=>rfl
 |[],_::_,h=>h.elim
 |_::_,[],h=>h.elim
 |_::_,_::_,h=>⟨_,_,rfl,by simp only [ao];exact ⟨_,rfl,h.1⟩,iR.rels h.2⟩
def pp:List V->Hp->VK->Prop:=fun vs H Q=>∃p kvs L,vs=[.ref p]/\H p=some (.dT kvs)/\kvs.map (·.1)=L.map kk/\L.length < 64/\(2<=L.length->∀x∈L,x≠[]) /\
 ∀as,iR H as (br L)->∀l,H l=none->Q (.ref l) (upd H l (.lst (as.map V.ref)))
theorem mC {X:Cx}(hc:X.calm=true):gW X (.builtin "sorted") pp:=by
 intro pins s Y H vs us Q I r h;obtain ⟨p,kvs,L,rfl,hp,hk,h64,hne,q⟩:=h;obtain ⟨u,rfl,rx⟩:=iC r;cases rx;obtain ⟨hz,hs,xs,kt,o,es,ep,g,hx,hd,he,hn⟩:=(show bB X.prog X.w H s.heap p (.dT kvs) from I.hok p _ hp);have key:∀{ks:List (List aH×V)} {ys:List (List aH×Addr×Value)} {L:Ta},Paired (fun (p:List aH×V) (q:List aH×Addr×Value)=>p.1=q.1/\H q.2.1=some (.tup (p.1.map kV))/\aY p.2 q.2.2) ks ys->ks.map (·.1)=L.map kk ->
   iR H (ys.map (·.2.1)) L/\be s.heap (ys.map fun y=>.ref y.2.1) L/\ys.map (·.1)=L.map kk:=by
  intro ks ys L kt
  induction kt generalizing L with
  |nil=>intro e;cases L with
   |nil=>exact ⟨trivial,trivial,rfl⟩
   |cons _ _=>cases e
  | @cons a b ps qs h1 h2 ih =>
   intro e
   cases L with
   |nil=>cases e
   |cons k L =>
    simp only [zaf,List.cons.injEq] at e;obtain ⟨i1,i2,i3⟩:=ih e.2
    have hb:H b.2.1=some (.tup (k.map V.int)):=by rw [h1.2.1,e.1,wK]
    obtain ⟨_,its,rv,⟨ob,g1,g2,n,g3⟩,_⟩:=(show bB X.prog X.w H s.heap b.2.1 (.tup (k.map V.int)) from I.hok _ _ hb);exact ⟨⟨hb,i1⟩,⟨⟨b.2.1,ob,its.toArray,n,rfl,g1,g2,g3,by simpa using dz rv⟩,i2⟩,by simp only [zaf,i3,←h1.1,e.1]⟩
 obtain ⟨pa,ta,ka⟩:=key kt hk;have hkeys:es.toList.map (·.key)=xs.map fun y=>.ref y.2.1:=by rw [he,zbj];rfl
 have nd:L.Nodup:=by rw [ka] at hn;exact (zbR.mp hn).imp fun h e=>h (by rw [e])
 refine Ek (I.ok.hd hc) hs ⟨o,g,hx,hd⟩ (by rw [hkeys];exact ta) nd h64 hne fun is h' tk l c i1 i2 i3 kp ht hl hL=>?_;have hpk:=pa.pick is i1;have heq:(is.map fun i=>L.getD i [])=br L:=l9 i3 (jT nd) (i2.trans (bI L).symm);rw [heq] at hpk;have hlen:is.length=L.length:=by simpa using i2.length_eq
 refine ⟨.ref l,_,I.laid (t':=tk) kp hl (show bB X.prog X.w _ h' _ (.lst ((is.map fun i=>(xs.map (·.2.1)).getD i 0).map V.ref)) from ⟨by rw [zag,zag,hlen,za9];omega,(is.map fun i=>(es.toList.map (·.key)).getD i .none),c,?_,by simpa [seqObj] using hL⟩),rfl,q _ hpk _ (I.hok.fresh hl)⟩;rw [hkeys];have hxl:xs.length=L.length:=by simpa using congrArg List.length ka
 clear hpk heq i2 i3 hL hlen;induction is with
 |nil=>exact .nil
 |cons i is ih =>
  have hi:i < xs.length:=by rw [hxl];exact i1 i zan
  refine .cons ?_ (ih fun j hj=>i1 j (zaj _ hj))
  show _=Value.ref _
  simp [zaZ,zao hi]
def zg:List R->ac->Option (R×ac)
 |[.p n],U=>(xf U n).bind fun kvs=>if kvs.length < 64/\(kvs.length < 2\/∀p∈kvs,p.1≠[]) then some (.p U.length,U++[.lst ((br (kvs.map (·.1))).map D.key)]) else none
 |_,_=>none
def Kv {K:zac}:vL K zg pp:=by
 intro m H U xs d U' vs Q s r e k;unfold zg at e;split at e
 ·rename_i n;obtain ⟨kvs,e1,e⟩:=zab.mp e;split at e
  ·rename_i hc
   cases e;obtain ⟨v,rfl,r1⟩:=lB r;obtain ⟨a,rfl,ha⟩:=r1;obtain ⟨es,ea,kd⟩:=yN s ha e1;refine ⟨a,es,kvs.map (·.1),rfl,ea,by rw [kd.1,zbj];rfl,by simpa using hc.1,fun h2 x hx=>?_,fun as pa l hl=>?_⟩
   ·rw [zag] at h2;obtain ⟨p,hp,rfl⟩:=zaJ.mp hx;rcases hc.2 with h|h
    ·omega
    ·exact h p hp
   ·obtain ⟨x1,x2,x3⟩:=f9 s (pa.rels (K:=K)) hl;exact k _ _ _ x1 x2 x3
  ·cases e
 ·cases e
def sK {X:Cx}{H:Hp}{s:Shared}(I:aA X pins Y H s){b:Addr}{zs:List V}(h:jF X.K H b zs):∃(its:Te) (n:Nat),aS zs its/\s.heap.get? b=some {cls:=.type "list",data:=.seq its.toArray n}:=by
 rcases h with h|⟨o,its,n,hk,hc,hd,hs,hz,r⟩
 ·obtain ⟨z,its,n,r,e⟩:=h.ok I.hok;exact ⟨its,n,r,e⟩
 ·refine ⟨its.toList,n,r,?_⟩;have e:=I.kIn b o hk;obtain ⟨c,d,dt,sl⟩:=o;simp only at hc hd hs;obtain ⟨hd,hl⟩:=hd;subst hc hd hs hl;simpa using e
def Hy (K:zac):R2:=fun x y H Q=>∃l b xs zs,x=.ref l/\y=.ref b/\jF K H l xs/\jF K H b zs/\xs.length+zs.length<=sizeLine/\∀p,H p=none->Q (.ref p) (upd H p (.lst (xs++zs)))
def Fg {X:Cx}:ku X (binaryOp .Add) (Hy X.K):=by intro pins s Y H x y v u Q I rx ry h;obtain ⟨l,b,xs,zs,rfl,rfl,hH,hB,hz,q⟩:=h;cases rx;cases ry;obtain ⟨its,n,r,e⟩:=sK I hH;obtain ⟨its2,n2,r2,e2⟩:=sK I hB;have l1:=r.length;have l2:=r2.length;refine PySem.P.add_list e e2 ?_ (by rw [zaq,zaq];omega);rw [show its.toArray++its2.toArray=(its++its2).toArray by simp];exact ⟨.ref _,_,I.lnew (t':=s.toks) (r.append r2) (by rw [zaD];omega),rfl,q _ I.fresh⟩
def wg:R->ac->Option (List D)
 |.p a,U=>(match U[a]? with|some (.lst xs)=>some xs|some (.fz xs)=>some xs|_=>none)
 |.v (.fl xs),_=>some xs
 |_,_=>none
theorem ou {m:Tf}{H:Hp}{U:ac}(s:aI K m H U){x:R}{v:V}{xs:List D}(e:wg x U=some xs)(r:au K m H x v):∃a vs,v=.ref a/\jF K H a vs/\RelDs K H xs vs:=by
 refine jb s r ?_;rw [←e]
 cases x with
 |v d=>cases d <;> rfl
 |_=>rfl
def vD (x y:R)(U:ac):Option (R×ac):=(wg x U).bind fun xs=>(wg y U).bind fun ys=>if xs.length+ys.length<=sizeLine then some (.p U.length,U++[.lst (xs++ys)]) else none
def KE :qf K vD (Hy K):=by
 intro m H U x y d U' v u Q s rx ry e k;unfold vD at e;obtain ⟨xs,e1,e⟩:=zab.mp e;obtain ⟨ys,e2,e⟩:=zab.mp e;split at e
 ·rename_i hz
  cases e;obtain ⟨b,vs,rfl,ea,r1⟩:=ou s e1 rx;obtain ⟨c,ws,rfl,f,r2⟩:=ou s e2 ry;refine ⟨b,c,vs,ws,rfl,rfl,ea,f,by rw [←r1.length,←r2.length];exact hz,fun p hp=>?_⟩;obtain ⟨x1,x2,x3⟩:=f9 s (r1.append r2) hp;exact k _ _ _ x1 x2 x3
 ·cases e
end HW
namespace PySem
section
variable {prog:Program}{w:World}{K:Type}[DecidableEq K]{knd:HeapKind prog w K}{A:Around}{E:Tb}{s:Shared}
theorem qt {d a:Addr}{xs:List (K×Addr×Value)}{k:K}{dflt:Value}{Q:Tb}(hu:knd.room A)(hkey:knd.is s.heap k a)(hm:s.heap.DictOfH knd d xs)
  (h1:∀v,(atKey xs k).map (·.2)=some v->Q v {s with toks:=s.toks+knd.draws k})
  (h2:atKey xs k=none->∀h',h'.DictOfH knd d (storedH xs k a dflt)->Heap.SameBut d s.heap h'->Q dflt {s with heap:=h',toks:=s.toks+knd.draws k})
  (hsz:xs.length<=sizeLine) :
  wpAny (model prog w) A (dictSetDefault d (.ref a) dflt) Q E s:=by
 obtain ⟨o,es,ep,ho,hc,hd,he,his,hn⟩:=hm;unfold dictSetDefault
 try with_reducible refine zaI ?_
 refine zaa (knd.pyHash hu hkey ?_);refine zaa (wpAny_dictFind_heap (s:={s with toks:=s.toks+knd.draws k}) hu hkey ho hd he his hn ?_ ?_)
 ·intro hno
  have hnot:k∉xs.map (·.1):=not_mem_keys_of_get hno
  refine zaa (zbO (zaa (wpAny_updateDictKeys (hz:=by have e:=size_of_entries he;omega) (s:={s with toks:=s.toks+knd.draws k}) ho hd (zad (h2 (atKey_none_of_get hno) _ ⟨_,_,ep+1,zaS _ ho (Obj.isFreed_of_dict (Obj.data_mapDictKeys hd _)),
   hc.mapDictKeys _,Obj.data_mapDictKeys hd _,?_,?_,?_⟩ (Heap.SameBut.update ..))))))
  ·rw [storedH_new (atKey_none_of_get hno)]
   simp [he,entryOfKey]
  ·rw [storedH_new (atKey_none_of_get hno)]
   intro x hx;rcases zaU.mp hx with hx|hx
   ·exact knd.keeps (his x hx) ho hd (Heap.SameBut.update ..)
   ·simp only [zau] at hx
    subst hx;exact knd.keeps hkey ho hd (Heap.SameBut.update ..)
  ·rw [storedH_new (atKey_none_of_get hno)]
   rw [zaR,zbc];refine ⟨hn,by simp,?_⟩;intro x hx y hy;simp only [zaf,za6,zau] at hy;subst hy;exact fun e=>hnot (e ▸ hx)
 ·intro j p hj
  refine zaa (zbF (s:={s with toks:=s.toks+knd.draws k}) ho hd ?_);rw [entry_at he j,hj];exact zaa (zbO (zad (h1 _ (by rw [atKey_of_get hn hj];rfl))))
def kX (knd:HeapKind prog w K){k:K}{a:Addr}(d:Addr)(hd:(d == sysModules)=false)(dflt:Value) :
  MeetsIn prog w (Builtin.«dict.setdefault» ⟨[.ref d,.ref a,dflt],[]⟩) (fun A R s=>knd.room A.in1/\knd.is s.heap k a/\∃xs,s.heap.DictOfH knd d xs/\xs.length<=sizeLine /\
   (∀v,(atKey xs k).map (·.2)=some v->R (.ok (.ret v)) {s with toks:=s.toks+knd.draws k}) /\
   (atKey xs k=none->∀h',h'.DictOfH knd d (storedH xs k a dflt)->Heap.SameBut d s.heap h'->R (.ok (.ret dflt)) {s with heap:=h',toks:=s.toks+knd.draws k})) :=
 .of_wp fun A R s hh=>by
  obtain ⟨hu,hkey,xs,hm,hz,h1,h2⟩:=hh;unfold Builtin.«dict.setdefault»;refine zaa ?_;unfold Builtin.Dict.keyAndDefault;refine zaa (zcF hm.typeIs ?_)
  show wpAny _ _ (pure (d,Value.ref a,some dflt)) _ _ s
  refine zad ?_
  show wpAny _ _ (if (d == sysModules)=true then _ else (dictSetDefault d (.ref a) dflt >>= _)) _ _ s
  rw [if_neg (by rw [hd];exact za5)];exact zaa (qt (hsz:=hz) hu hkey hm (fun v hv=>zad ⟨v,rfl,h1 v hv⟩) fun hn h' hm' hs'=>zad ⟨dflt,rfl,h2 hn h' hm' hs'⟩)
end
end PySem
namespace HW
variable {K:zac}
open PyProof.Rows L2
def A6 (td ty tx:TE):TE:=fun Y H Q=>td Y H fun x H1=>∃a,x=.ref a/\RH H1 a/\ty Y H1 fun y H2=>tx Y H2 fun z H3=>∃kvs k b,H3 a=some (.dT kvs)/\y=.ref b/\H3 b=some (.tup (k.map kV))/\kvs.length < sizeLine /\
 (∀v,dI kvs k=some v->Q v H3)/\(dI kvs k=none->Q z (upd H3 a (.dT (kvs++[(k,z)]))))
def yc {X:Cx}(hu:X.A.units+1 < cLine){o e f:Expr}{apos cpos:Pos}{td ty tx:TE}(ho:PE X o td)(he:PE X e ty)(hf:PE X f tx)(m:M2 X o "setdefault" apos e f cpos):PE X (.Call (.Attribute o "setdefault" apos) [e,f] [] cpos) (A6 td ty tx):=by
 intro pins s Y H Q I h;refine wpAny_Call_method m.base m.few m.line PySem.F.plainAttrs_dict PySem.F.slot_dict_setdefault PySem.F.type_dict_setdefault (db (ho pins s Y H _ I h) fun u s1 hh=>?_);obtain ⟨x,H1,I1,rx,a,ex,d,q1⟩:=hh;subst ex;obtain rfl:u=Value.ref a:=rx;obtain ⟨t1,t2,_⟩:=CW I1 d;refine ⟨t1,t2,?_⟩;rw [m.trees];refine Calls.callWith_builtin rfl (Calls.evalArgs_plain (Calls.spliced_cons (db (he pins s1 Y H1 _ I1 q1) fun iv s2 hh=>?_)));obtain ⟨y,H2,I2,ry,q2⟩:=hh;refine Calls.spliced_cons (db (hf pins s2 Y H2 _ I2 q2) fun fv s3 hh=>Calls.spliced_nil ?_);obtain ⟨z,H3,I3,rz,kvs,k,b,ea,ey,eb,hz,qa,qb⟩:=hh;subst ey;cases (show iv=Value.ref b from ry);obtain ⟨zz,hd,xs,rel,dd⟩:=Ic I3.hok ea;have hxz:xs.length<=sizeLine:=by rw [←Paired.length rel];exact zz
 refine call_meetsIn PySem.F.slot_dict_setdefault dd.typeIs PySem.F.entry_dict_setdefault (PySem.F.args_dict_setdefault_3 _ _ _) (kX (tupleKind (bG X.prog X.w)) (k:=k) a hd fv) ⟨tupleKind_room_in1 hu,mZ I3.hok eb,xs,dd,hxz,fun v hv=>?_,fun hn h' dd' hs=>?_⟩
 ·have r:=rel.val k;rw [hv] at r
  cases q:dI kvs k with
  |none=>rw [q] at r;exact r.elim
  |some v'=>rw [q] at r;exact ⟨v',H3,I3.tok _,r,qa v' q⟩
 ·have r:=rel.val k;rw [hn] at r
  cases q:dI kvs k with
  |some v'=>rw [q] at r;exact r.elim
  |none =>
   have rp:=rel.put k eb rz;rw [BX _ q] at rp;obtain ⟨q',es,ep,hq,h2,h3,h4,_,h5⟩:=dd';refine ⟨z,_,sV (ob:=.dT (kvs++[(k,z)])) I3 (by rw [ea];exact True.intro) hs ⟨q',hq⟩ ⟨by rw [zaD];exact hz,hd,_,rp.keeps fun c ys ec=>?_,q',es,ep,hq,h2,h3,h4,h5⟩,rz,qb q⟩;rw [az (HN ec ea (fun z=>nomatch z))];exact ec
def nW (K:zac)(m:Tf)(H:Hp)(kvs:List (Th×R))(es:List (List aH×V)):Prop:=es.map (·.1)=kvs.map (fun p=>kk p.1)/\aQ K m H (kvs.map (·.2)) (es.map (·.2))
def jB (kvs:List (Th×R))(k:Th):Option R:=(kvs.find? fun p=>decide (p.1=k)).map (·.2)
section
variable {K:zac}{m m':Tf}{H H':Hp}
def nW.nil:nW K m H [] []:=⟨rfl,rfl⟩
def nW.cons {k:Th}{k':List aH}{d:R}{v:V}{kvs:List (Th×R)}{es:List (List aH×V)}:nW K m H ((k,d)::kvs) ((k',v)::es) ↔ k'=kk k/\au K m H d v/\nW K m H kvs es:=by
 constructor
 ·rintro ⟨h1,h2⟩;simp only [zaf,List.cons.injEq] at h1;obtain ⟨w,r,e,h3,h4⟩:=h2;simp only [zaf,List.cons.injEq] at e;obtain ⟨rfl,rfl⟩:=e;exact ⟨h1.1,h3,h1.2,h4⟩
 ·rintro ⟨rfl,h1,h2,h3⟩;exact ⟨by simp [h2],⟨_,_,rfl,h1,h3⟩⟩
theorem nW.snoc {k:Th}{d:R}{v:V}(rd:au K m H d v):∀{kvs:List (Th×R)} {es:List (List aH×V)},nW K m H kvs es->nW K m H (kvs++[(k,d)]) (es++[(kk k,v)])
 |[],[],_=>nW.cons.mpr ⟨rfl,rd,.nil⟩
 |[],e::es,h=>by have:=h.1;simp at this
 |q::kvs,[],h=>by have:=h.1;simp at this
 |(a,x)::kvs,(b,y)::es,h=>by obtain ⟨rfl,h1,h2⟩:=nW.cons.mp h;exact nW.cons.mpr ⟨rfl,h1,nW.snoc rd h2⟩
theorem nW.val:∀{kvs:List (Th×R)} {es:List (List aH×V)} (k:Th),nW K m H kvs es->(jB kvs k=none/\dI es (kk k)=none)\/∃d v,jB kvs k=some d/\dI es (kk k)=some v/\au K m H d v
 |[],es,k,h=>by
  have:es=[]:=by simpa using h.1
  subst this;exact .inl ⟨rfl,rfl⟩
 |(a,d)::kvs,[],k,h=>by have:=h.1;simp at this
 |(a,d)::kvs,(b,v)::es,k,h=>by
  obtain ⟨rfl,h1,h2⟩:=nW.cons.mp h;by_cases e:a=k
  ·refine .inr ⟨d,v,?_,?_,h1⟩
   ·simp [jB,e]
   ·simp [dI,e]
  ·have ih:=nW.val k h2;have e1:jB ((a,d)::kvs) k=jB kvs k:=(by simp [jB,e]);have e2:dI ((kk a,v)::es) (kk k)=dI es (kk k):=iD fun z=>e (sE z);rw [e1,e2];exact ih
def nW.ext (x:dM m H m' H'){kvs:List (Th×R)}{es:List (List aH×V)}(h:nW K m H kvs es):nW K m' H' kvs es:=⟨h.1,aQ.ext x h.2⟩
def nW.len {kvs:List (Th×R)}{es:List (List aH×V)}(h:nW K m H kvs es):es.length=kvs.length:=by simpa using congrArg List.length h.1
end
def hX (U:ac)(n:Nat):Option (List (Th×R)):=match U[n]? with|some (.dtr kvs)=>some kvs|_=>none
def sU {m:Tf}{H:Hp}{U:ac}{n:Nat}{a:Addr}{kvs:List (Th×R)}(s:aI K m H U)(ha:m[n]?=some a)(e:hX U n=some kvs):U[n]?=some (.dtr kvs)/\∃es,H a=some (.dT es)/\nW K m H kvs es:=by
 unfold hX at e;split at e
 ·rename_i q
  cases e;obtain ⟨es,ea,e1,e2⟩:=s.cell _ _ a q ha;exact ⟨q,es,ea,e1,e2⟩
 ·cases e
def FW:FE:=fun _ U=>some (.p U.length,U++[.dtr []])
def Jx {H:Hp}{Q:VK}(h:av K FW Y H Q):v7 Y H Q:=by obtain ⟨O,U,m,d,U',hl,hs,e,k⟩:=h;cases e;intro p hp;have x:dM m H (m++[p]) (upd H p (.dT [])):=.newH hp;exact k _ _ (m++[p]) x (hs.newH hp ⟨[],cp,rfl,rfl⟩) ⟨p,rfl,by rw [←hs.len];simp⟩
def pQ (fo fk fx:FE):FE:=fun O U=>(fo O U).bind fun o=>match o.1 with
 |.p n=>if (hX o.2 n).isSome=true then (fk O o.2).bind fun k=>match k.1 with
  |.v (.key ks)=>(fx O k.2).bind fun x=>(hX x.2 n).bind fun kvs=>if kvs.length < 1000 then some (match jB kvs ks with|some r=>(r,x.2)|none=>(x.1,x.2.set n (.dtr (kvs++[(ks,x.1)])))) else none
  |_=>none
  else none
 |_=>none
def Ez {H:Hp}{Q:VK}{fo fk fx}(h:av K (pQ fo fk fx) Y H Q):A6 (av K fo) (av K fk) (av K fx) Y H Q:=by
 obtain ⟨O,U,m,d,U',hl,hs,e,kc⟩:=h;obtain ⟨⟨o,U1⟩,e1,e⟩:=zab.mp e;split at e
 ·rename_i n hn;simp only at hn;subst hn;split at e
  ·rename_i h0;obtain ⟨⟨k,U2⟩,e2,e⟩:=zab.mp e;split at e
   ·rename_i ks hks;simp only at hks;subst hks;obtain ⟨⟨x,U3⟩,e3,e⟩:=zab.mp e;obtain ⟨kvs,e4,e⟩:=zab.mp e;split at e
    ·rename_i hlt;refine ⟨O,U,m,_,U1,hl,hs,e1,fun vo H1 m1 x1 s1 r1=>?_⟩;obtain ⟨kvs0,e0⟩:=zcs.mp h0;obtain ⟨a,rfl,ha⟩:=r1;obtain ⟨_,es,hR,hK⟩:=sU s1 ha e0;refine ⟨a,rfl,.inr ⟨es,.inl hR⟩,?_⟩;refine ⟨O,U1,m1,_,U2,hl.ext x1,s1,e2,fun vk H2 m2 x2 s2 r2=>?_⟩;refine ⟨O,U2,m2,x,U3,hl.ext (x1.trans x2),s2,e3,fun vx H3 m3 x3 s3 r3=>?_⟩;have x13:=(x1.trans x2).trans x3;have ha3:m3[n]?=some a:=by obtain ⟨a',ea',q⟩:=au.ext (x2.trans x3) (show au K m1 H1 (.p n) (.ref a) from ⟨a,rfl,ha⟩);cases ea';exact q
     obtain ⟨q3,es',hR',hK'⟩:=sU s3 ha3 e4;have r2':=r2.ext x3;simp only [au,ao] at r2';obtain ⟨b,rfl,hb⟩:=r2';refine ⟨es',kk ks,b,hR',rfl,by rw [wK];exact hb,?_,fun v hv=>?_,fun hv=>?_⟩
     ·rw [hK'.len];exact zax hlt (by rw [za9];omega)
     ·rcases nW.val ks hK' with ⟨n1,n2⟩|⟨dd,vv,n1,n2,n3⟩
      ·rw [n2] at hv;cases hv
      ·rw [n2] at hv;cases hv;simp only [n1] at e;cases e;exact kc _ H3 m3 x13 s3 n3
     ·rcases nW.val ks hK' with ⟨n1,n2⟩|⟨dd,vv,n1,n2,n3⟩
      ·simp only [n1] at e
       cases e;have y:dM m3 H3 m3 (upd H3 a (.dT (es'++[(kk ks,vx)]))):=.put (zaH ha3) hR' (by simp) (by simp);have kr:=nW.snoc (k:=ks) (r3.ext y) (hK'.ext y);exact kc _ _ m3 (x13.trans y) (s3.put ha3 hR' (by simp) (by simp) ⟨_,cp,kr.1,kr.2⟩) (r3.ext y)
      ·rw [n2] at hv;cases hv
    ·cases e
   ·cases e
  ·cases e
 ·cases e
def Da (fo fk:FE):FE:=fun O U=>(fo O U).bind fun o=>(fk O o.2).bind fun k=>match o.1,k.1 with
 |.p n,.v (.key ks)=>(hX k.2 n).bind fun kvs=>(jB kvs ks).bind fun d=>some (d,k.2)
 |_,_=>none
def Jc {H:Hp}{Q:VK}{fo fk}(h:av K (Da fo fk) Y H Q):A7 (av K fo) (av K fk) Y H Q:=by
 obtain ⟨O,U,m,d,U',hl,hs,e,kk'⟩:=h;obtain ⟨⟨o,U1⟩,e1,e⟩:=zab.mp e;obtain ⟨⟨k,U2⟩,e2,e⟩:=zab.mp e;dsimp only at e;split at e
 ·rename_i n ks e0;obtain ⟨kvs,e3,e⟩:=zab.mp e;obtain ⟨dd,e4,e⟩:=zab.mp e;cases e;refine ⟨O,U,m,_,U1,hl,hs,e1,fun vo H1 m1 x1 s1 r1=>?_⟩;refine ⟨O,U1,m1,_,_,hl.ext x1,s1,e2,fun vk H2 m2 x2 s2 r2=>?_⟩;obtain ⟨a,rfl,ha⟩:=r1.ext x2;simp only [au,ao] at r2;obtain ⟨b,rfl,hb⟩:=r2;obtain ⟨_,es,ea,kd⟩:=sU s2 ha e3;rcases nW.val ks kd with ⟨n1,n2⟩|⟨d',v',n1,n2,n3⟩
  ·rw [n1] at e4;cases e4
  ·rw [n1] at e4;cases e4;exact ⟨a,v',rfl,.inr ⟨es,kk ks,b,.inl ea,rfl,by rw [wK];exact hb,n2.symm⟩,kk' _ H2 m2 (x1.trans x2) s2 n3⟩
 ·cases e
def qJ:List R->ac->Option (R×ac)
 |[.p n],U=>(hX U n).bind fun kvs=>if kvs.length < 64/\(kvs.length < 2\/∀p∈kvs,p.1≠[]) then some (.p U.length,U++[.lst ((br (kvs.map (·.1))).map D.key)]) else none
 |_,_=>none
def FD {K:zac}:vL K qJ pp:=by
 intro m H U xs d U' vs Q s r e k;unfold qJ at e;split at e
 ·rename_i n;obtain ⟨kvs,e1,e⟩:=zab.mp e;split at e
  ·rename_i hc
   cases e;obtain ⟨v,rfl,r1⟩:=lB r;obtain ⟨a,rfl,ha⟩:=r1;obtain ⟨_,es,ea,kd⟩:=sU s ha e1;refine ⟨a,es,kvs.map (·.1),rfl,ea,by rw [kd.1,zbj];rfl,by simpa using hc.1,fun h2 x hx=>?_,fun as pa l hl=>?_⟩
   ·rw [zag] at h2;obtain ⟨p,hp,rfl⟩:=zaJ.mp hx;rcases hc.2 with h|h
    ·omega
    ·exact h p hp
   ·obtain ⟨x1,x2,x3⟩:=f9 s (pa.rels (K:=K)) hl;exact k _ _ _ x1 x2 x3
  ·cases e
 ·cases e
mutual
def eh:D->D
 |.tup xs=>.tup (unkDs xs)
 |.fl xs=>.fl (unkDs xs)
 |.key ks=>.tup (ks.map D.int)
 |.fd ks ds=>.fd ks ds
 |.non=>.non
 |.bl b=>.bl b
 |.int i=>.int i
 |.str x=>.str x
def unkDs:List D->List D
 |[]=>[]
 |x::xs=>eh x::unkDs xs
end
theorem qB:∀xs:List D,unkDs xs=xs.map eh
 |[]=>by simp only [unkDs,za6]
 |x::xs=>by simp only [unkDs,zaf,qB xs]
section
variable {K:zac}{H:Hp}
mutual
theorem ao.unk:∀(d:D) (v:V),ao K H d v->ao K H (eh d) v
 |.non,_,h=>by simpa only [eh] using h
 |.bl _,_,h=>by simpa only [eh] using h
 |.int _,_,h=>by simpa only [eh] using h
 |.str _,_,h=>by simpa only [eh] using h
 |.fd _ _,_,h=>by simpa only [eh] using h
 |.tup xs,v,h=>by simp only [eh,ao] at h ⊢;obtain ⟨a,vs,e,s,r⟩:=h;exact ⟨a,vs,e,s,RelDs.unk xs vs r⟩
 |.fl xs,v,h=>by simp only [eh,ao] at h ⊢;obtain ⟨a,vs,e,s,r⟩:=h;exact ⟨a,vs,e,s,RelDs.unk xs vs r⟩
 |.key ks,v,h=>by simp only [eh,ao] at h ⊢;obtain ⟨a,e,q⟩:=h;exact ⟨a,_,e,.inl (.inl q),kD ks⟩
theorem RelDs.unk:∀(ds:List D) (vs:List V),RelDs K H ds vs->RelDs K H (unkDs ds) vs
 |[],_,h=>by simpa only [unkDs] using h
 |d::ds,vs,h=>by simp only [unkDs,RelDs] at h ⊢;obtain ⟨v,r,e,h1,h2⟩:=h;exact ⟨v,r,e,ao.unk d v h1,RelDs.unk ds r h2⟩
end
end
def uk {Z:Type}(f:List D->Z):List D->Z:=fun ds=>f (unkDs ds)
def qD (ds:List D):(unkDs ds).length=ds.length:=by rw [qB,zag]
def Mt {n:Nat}{f:MF}{vs:List V}{H:Hp}{Q:VK}{E:XK}(h:AF K n (uk f) vs H Q E):AF K n f vs H Q E:=by obtain ⟨ds,d,hl,r,e,k⟩:=h;exact ⟨unkDs ds,d,(qD ds).trans hl,RelDs.unk ds vs r,e,k⟩
def IN {n:Nat}{f:List D->Option aq}{vs:List V}{H:Hp}{Q:VK}{E:XK}(h:zi K n (cX K (uk f)) vs H Q E):zi K n (cX K f) vs H Q E:=by obtain ⟨ds,P,hl,r,e,k⟩:=h;exact ⟨unkDs ds,P,(qD ds).trans hl,RelDs.unk ds vs r,e,k⟩
def oP:R->R
 |.v d=>.v (eh d)
 |x=>x
def LA:aq->aq
 |.lst xs=>.lst (unkDs xs)
 |.fz xs=>.fz (unkDs xs)
 |c=>c
def yX (U:ac):ac:=U.map LA
theorem gU.unk {m:Tf}{H:Hp}{c:aq}{a:Addr}(h:gU K m H c a):gU K m H (LA c) a:=by
 cases c with
 |lst xs=>obtain ⟨vs,e,r⟩:=h;exact ⟨vs,e,RelDs.unk xs vs r⟩
 |fz xs=>obtain ⟨o,vs,e,r⟩:=h;exact ⟨o,vs,e,RelDs.unk xs vs r⟩
 |_=>exact h
def aI.unk {m:Tf}{H:Hp}{U:ac}(s:aI K m H U):aI K m H (yX U) :=
 ⟨s.nd,by rw [s.len,yX,zag],fun i c a e1 e2=>by rw [yX,zaE] at e1;obtain ⟨c',q1,q2⟩:=zaO.mp e1;subst q2;exact (s.cell i c' a q1 e2).unk⟩
theorem au.unk {m:Tf}{H:Hp}{x:R}{v:V}(h:au K m H x v):au K m H (oP x) v:=by
 cases x with
 |v d=>exact ao.unk d v h
 |_=>exact h
def D2 (neg:Bool):R->R->ac->Option (R×ac):=fun x y U=>(fS neg (oP x) (oP y) (yX U)).bind fun r=>some (r.1,U)
def NF {neg:Bool}:qf K (D2 neg) (EK K neg):=by
 intro m H U x y d U' v u Q s rx ry e k;obtain ⟨⟨r,U1⟩,e1,e⟩:=zab.mp e;cases e;have e0:=e1;unfold fS at e1;obtain ⟨a,q1,e1⟩:=zab.mp e1;obtain ⟨b,q2,e1⟩:=zab.mp e1;split at e1
 ·cases e1;exact ⟨m,yX U,oP x,oP y,_,s.unk,rx.unk,ry.unk,e0,k _ H m .refl s (by simp only [au,ao])⟩
 ·cases e1
end HW
namespace L2
open PyProof.Rows
def F8 (o:Obj):Nat:=match o.data with|.dict _ ep=>ep|_=>0
end L2
namespace HW
open PyProof.Rows L2
end HW
namespace HW
abbrev Ld (h:Heap)(z TI TO T:Addr)(fl:Bool):Prop :=
 h.get? z=some {cls:=.type "zip",dict:=none,data:=.fields #[rawInt T,.bool fl,.bool false,.ref TI,.ref TO],slots:=#[]}
open L2 PyProof.Rows
structure Sb (h:Heap)(S z TI TO i1 i2 l1 l2:Addr)(xs ys:Ti)(k:Nat):Prop where
 st:(k=0/\IsZip h z TI TO .none/\IsPair h TO .none .none)\/∃T fl oT,Ld h z TI TO T fl/\h.get? T=some oT/\T∉[S,z,TO,i1,i2]
 ti:IsPair h TI (.ref i1) (.ref i2)
 h1:h.IsListIter i1 l1 k
 h2:h.IsListIter i2 l2 k
 l1:h.IsList l1 xs
 l2:h.IsList l2 ys
 to:∃o,h.get? TO=some o
end HW
namespace HK
open PyProof.Rows L2
def Du:entryFor table "dict_itemiterator.__iter__" = some Builtin.«dict_keyiterator.__iter__»:=entryFor_alias (id':="dict_keyiterator.__iter__") (by kernel_rfl) rfl (by decide) (by kernel_rfl)
section
variable {prog:Program}{w:World}{A:Around}{E:Tb}{s:Shared}{d it v:Addr}{es:Array DictEntry}{ep i:Nat}{ok ov:Value}
def Kr {Q:Tb}(nd:(d == sysModules)=false)(m:DE s.heap d es ep)
  (fin:Q (.ref s.heap.objs.size) {s with heap:=s.heap.push {cls:=.type "dict_items",data:=.fields #[.ref d]}}):wpAny (model prog w) A (call (.builtin "dict.items") [.ref d]) Q E s:=by
 refine zaG F.slot_dict_items m.ty F.entry_dict_items ?_ (F.args_dict_items_1 _);unfold Builtin.«dict.items» Builtin.Dict.noArgs;refine zaa (zaa (zcF m.ty (show wpAny _ _ (pure d) _ _ s from zad (show wpAny _ _ (Builtin.Dict.showsAll d >>= _) _ _ s from ?_))));unfold Builtin.Dict.showsAll;rw [if_neg (show ¬ (d == sysModules)=true by rw [nd];decide)];exact zaa (zad (zaa (zaF (zad ⟨_,rfl,fin⟩))))
theorem No {Q:Tb}(y:s.heap.IsItemsView v d)(m:DE s.heap d es ep)
  (fin:Q (.ref s.heap.objs.size) {s with heap:=s.heap.push {cls:=.type "dict_itemiterator",data:=.fields #[.none,.bool false,.ref d,.int 0 0,.int es.size 0,.int ep 0,.none,.none]}}):wpAny (model prog w) A (pyIter (.ref v)) Q E s:=by
 obtain ⟨ob,g,x,dt⟩:=id m;obtain ⟨oy,gy,cy,dy⟩:=id y;refine zcf y.typeIs F.slot_dict_items_iter (zaG F.slot_dict_items_iter y.typeIs F.entry_dict_items_iter ?_ (F.args_dict_items_iter_1 _));unfold Builtin.«dict_items.__iter__» Builtin.Dict_items.dictOf Builtin.Dict_items.newIterator;refine zaa (zad (zaa (zaa (zcm gy dy (x:=.ref d) rfl (zad (zaa (zaa (zbF g dt (zaa (zb6 g dt ?_))))))))));simp only [show Builtin.Dict_items.ownsTuple "dict_itemiterator" = true by decide,if_true];refine zaF (zad ⟨_,rfl,"dict_itemiterator",_,⟨_,zal _ rfl,rfl⟩,F.slot_dict_itemiterator_next.lookup,?_⟩) (by simp [sizeOk,Builtin.Dict_items.ownedTupleFields,za9]);simpa [rawInt,Builtin.Dict_items.ownedTupleFields] using fin
def Nn {n:Nat}{Q:Tb}(k:IsItemIter s.heap it d i n ep ok ov)(h:Q (.ref it) s):wpAny (model prog w) A (pyIter (.ref it)) Q E s:=by
 have ty:s.TypeIs (.ref it) "dict_itemiterator":=⟨_,k,rfl⟩;refine zcf ty F.slot_dict_itemiterator_iter (zaG F.slot_dict_itemiterator_iter ty Du ?_ (F.args_dict_itemiterator_iter_1 _))
 show wpAny _ _ (ret (.ref it)) _ _ s
 exact zad ⟨_,rfl,"dict_itemiterator",_,ty,F.slot_dict_itemiterator_next.lookup,h⟩
theorem Nf {e:DictEntry}{Q:Option Value->Shared->Prop}(k:IsItemIter s.heap it d i es.size ep ok ov)(m:DE s.heap d es ep)(ge:es[i]?=some e)
  (fin:∀h',IsItemIterOut h' it d (i+1) es.size ep e.key e.val s.heap.objs.size->h'.get? s.heap.objs.size=some {cls:=.type "tuple",data:=.seq #[e.key,e.val]}->h'.objs.size=s.heap.objs.size+1 ->
   (∀b o,b≠it->s.heap.get? b=some o->h'.get? b=some o)->Q (some (.ref s.heap.objs.size)) {s with heap:=h'}):wpAny (model prog w) A (pyNext (.ref it)) Q E s:=by
 obtain ⟨hp,gs,dr,tk,os⟩:=s;obtain ⟨ob,g,x,dt⟩:=id m;have ty:Shared.TypeIs ⟨hp,gs,dr,tk,os⟩ (.ref it) "dict_itemiterator":=⟨_,k,rfl⟩;have lt:=zah k;unfold pyNext;refine zaa (zbG (za0 (name:=Str.ofString "__next__") ty F.slot_dict_itemiterator_next (zaG F.slot_dict_itemiterator_next ty F.entry_dict_itemiterator_next ?_ (F.args_dict_itemiterator_next_1 _))));refine zaa (zad (zaa (zaa ?_)))
 first|refine zaa (zbE ty (zad (zaa (zbi k rfl ?_))))|refine zaa (zbU ty (zad (zaa (zbi k rfl ?_))))
 simp only [show Builtin.Dict_items.ownsTuple "dict_itemiterator" = true by decide,if_true];refine (show wpAny _ _ (if (Value.ref d == Value.none)=true then _ else _) _ _ _ from ?_);rw [if_neg (show ¬ ((Value.ref d == Value.none)=true) by exact za5)];refine zaa (zad (zaa (zbF g dt ?_)));rw [if_neg (show ¬ _ by simp)];refine zaa (zad (zaa (zb6 g dt ?_)));rw [if_neg (show ¬ _ by simp)];refine zad ?_;simp only [show ¬ ((i:Int) < 0) by omega,if_false,zby,ge];refine zaa ?_
 first|refine zaa (zbE ty (zad (zaa (zcc ty ?_))))|refine zaa (zbU ty (zad (zaa (zcc ty ?_))))
 refine (show wpAny _ _ (setField (.ref it) 3 (rawInt ((i:Int)+1)) >>= _) _ _ _ from zaa (zb7 k (by simp) fun h₁ k₁ c₁=>?_));have c₁:Heap.SameBut it hp h₁:=c₁
 have k₁:IsItemIter h₁ it d (i+1) es.size ep ok ov:=by
  unfold IsItemIter;rw [show ((i+1:Nat):Int)=(i:Int)+1 by omega];simpa [rawInt] using k₁
 refine zaa (zaI (zaa (zcc (s:=⟨h₁,gs,dr,tk,os⟩) ⟨_,k₁,rfl⟩ (zaa (zcc (s:=⟨h₁,gs,dr,tk,os⟩) ⟨_,k₁,rfl⟩ ?_)))));refine (show wpAny _ _ (Builtin.Dict_items.pairFromOwner (.ref it) 6 e.key e.val) _ _ _ from ?_);unfold Builtin.Dict_items.pairFromOwner;refine zaa (wpAny_newTuple ?_);have kk:∀b o,b≠it->hp.get? b=some o->(h₁.push {cls:=.type "tuple",data:=.seq #[e.key,e.val]}).get? b=some o:=fun b o hb q=>zae _ (c₁.extBut b o hb q);have k₂:IsItemIter (h₁.push {cls:=.type "tuple",data:=.seq #[e.key,e.val]}) it d (i+1) es.size ep ok ov:=zae _ k₁
 have gt:(h₁.push {cls:=.type "tuple",data:=.seq #[e.key,e.val]}).get? hp.objs.size=some {cls:=.type "tuple",data:=.seq #[e.key,e.val]}:=by rw [←c₁.1];exact zal _ rfl
 have sz:(h₁.push {cls:=.type "tuple",data:=.seq #[e.key,e.val]}).objs.size=hp.objs.size+1:=by rw [zaY,c₁.1]
 refine (show wpAny _ _ (Builtin.Dict_items.ownedTupleIsFree (.ref it) >>= _) _ _ ⟨h₁.push {cls:=.type "tuple",data:=.seq #[e.key,e.val]},gs,dr,tk,os⟩ from ?_);rw [c₁.1];generalize h₁.push {cls:=.type "tuple",data:=.seq #[e.key,e.val]}=h₂ at kk k₂ gt sz;clear k₁ c₁;unfold Builtin.Dict_items.ownedTupleIsFree;refine zaa (zaa (zcm k₂ rfl (x:=.none) rfl (zad ?_)));simp only [if_true];refine zaa (zcm k₂ rfl (x:=ok) rfl (zaa (zcm k₂ rfl (x:=ov) rfl ?_)))
 have key:∀h₃,Heap.SameBut it h₂ h₃->h₃.get? hp.objs.size=some {cls:=.type "tuple",data:=.seq #[e.key,e.val]}/\h₃.objs.size=hp.objs.size+1/\∀b o,b≠it->hp.get? b=some o->h₃.get? b=some o:=fun h₃ c =>
  ⟨c.extBut _ _ (zaV lt) gt,c.1.trans sz,fun b o hb q=>c.extBut b o hb (kk b o hb q)⟩
 refine zaa (zb7 k₂ (by simp) fun h₃ k₃ c₃=>?_);have k₃:IsItemIter h₃ it d (i+1) es.size ep e.key ov:=k₃;refine zaa (zb7 k₃ (by simp) fun h₄ k₄ c₄=>?_);have k₄:IsItemIter h₄ it d (i+1) es.size ep e.key e.val:=k₄;refine zaa (zb7 k₄ (by simp) fun h₅ k₅ c₅=>?_);have k₅:IsItemIterOut h₅ it d (i+1) es.size ep e.key e.val hp.objs.size:=k₅;refine zaa (zb7 k₅ (by simp) fun h₆ k₆ c₆=>?_);have k₆:IsItemIterOut h₆ it d (i+1) es.size ep e.key e.val hp.objs.size:=k₆;obtain ⟨a1,a2,a3⟩:=key h₆ (((Heap.SameBut.trans c₃ c₄).trans c₅).trans c₆);exact zaa (wpAny_letGo (zad (zad ⟨_,rfl,zad (fin h₆ k₆ a1 a2 a3)⟩)))
theorem Nk {Q:Option Value->Shared->Prop}(hh:A.handled=none)(k:IsItemIter s.heap it d es.size es.size ep ok ov)(m:DE s.heap d es ep)
  (fin:∀h',Heap.ExtBut it s.heap h'->Q none {s with heap:=h'}):wpAny (model prog w) A (pyNext (.ref it)) Q E s:=by
 obtain ⟨ob,g,x,dt⟩:=id m;have ty:s.TypeIs (.ref it) "dict_itemiterator":=⟨_,k,rfl⟩;unfold pyNext;refine zaa (zbG (za0 (name:=Str.ofString "__next__") ty F.slot_dict_itemiterator_next (zaG F.slot_dict_itemiterator_next ty F.entry_dict_itemiterator_next ?_ (F.args_dict_itemiterator_next_1 _))));refine zaa (zad (zaa (zaa ?_)))
 first|refine zaa (zbE ty (zad (zaa (zbi k rfl ?_))))|refine zaa (zbU ty (zad (zaa (zbi k rfl ?_))))
 simp only [show Builtin.Dict_items.ownsTuple "dict_itemiterator" = true by decide,if_true];refine (show wpAny _ _ (if (Value.ref d == Value.none)=true then _ else _) _ _ s from ?_);rw [if_neg (show ¬ ((Value.ref d == Value.none)=true) by exact za5)];refine zaa (zad (zaa (zbF g dt ?_)));rw [if_neg (show ¬ _ by simp)];refine zaa (zad (zaa (zb6 g dt ?_)));rw [if_neg (show ¬ _ by simp)];refine zad ?_;simp only [show ¬ ((es.size:Int) < 0) by omega,if_false,zby,zb9 (zam es.size)];refine zaa ?_
 first|refine zaa (zbE ty (zad ?_))|refine zaa (zbU ty (zad ?_))
 refine (show wpAny _ _ (setField (.ref it) 2 .none >>= _) _ _ s from zaa (zbC k rfl (by simp) ?_));refine (show wpAny _ _ (newExc (.type "StopIteration") [] >>= _) _ _ _ from zaa ?_);simp only [newExc,newTuple];refine zaa (zaF (zaa (m:=firstArgMember _ _) (zcT (a:=Value.none) (by first|rfl|(simp only [firstArgMember];rfl)) (zaF ?_ (by size_fits)))) (by size_fits));simp only [raiseNew];refine zaa (wpAny_handled ?_);rw [show A.in1.handled=none by exact hh];refine zaa (zad (wpAny_throw (zaa ?_)));exact zbt (T:="StopIteration") (b:=true) ⟨_,zal _ rfl,rfl⟩ isSubtype_stop (zad (fin _ (((Heap.SameBut.update ..).extBut.push _).push _)))
end
end HK
namespace L2
open PyProof.Rows HK
def QM (a:Addr)(o:Obj)(es:List (List aH×V)):It :=
 ⟨fun i H=>H a=some (.frz o (.dT es))/\i < es.length,fun i H v H'=>∃T b kv,es[i]?=some kv/\v=.ref T/\H T=none/\H b=some (.tup (kv.1.map kV))/\H'=upd H T (.tup [.ref b,kv.2]),fun i H=>H a=some (.frz o (.dT es))/\es.length<=i⟩
def u7 (o:Obj):Array DictEntry:=match o.data with|.dict es _=>es|_=>#[]
theorem C6 {H:Hp}{h:Heap}{a:Addr}{o:Obj}{es:List (List aH×V)}(ok:iS P w H h)(e:H a=some (.frz o (.dT es))) :
  (a == sysModules)=false/\DE h a (u7 o) (F8 o)/\(u7 o).size=es.length/\∀(i:Nat) kv,es[i]?=some kv->∃b u,aY kv.2 u/\H b=some (.tup (kv.1.map kV))/\∃en,(u7 o)[i]?=some en/\en.key=.ref b/\en.val=u:=by
 obtain ⟨q1,_,q3,xs,q4,o',es',ep,r1,r2,r3,r4,r5⟩:=(show bB P w H h a (.frz o (.dT es)) from ok a _ e);have z:=q1.symm.trans r1;cases z
 have e1:u7 o=es':=by unfold u7;rw [r3]
 have e2:F8 o=ep:=by unfold F8;rw [r3]
 rw [e1,e2];refine ⟨q3,⟨o,r1,r2,r3⟩,?_,fun i kv hi=>?_⟩
 ·rw [←za8,r4,zag,←Paired.length q4]
 ·have key:∀{es:List (List aH×V)} {xs:List (List aH×Addr×Value)} {i:Nat} {kv},Paired (fun (p:List aH×V) (q:List aH×Addr×Value)=>p.1=q.1/\H q.2.1=some (.tup (p.1.map kV))/\aY p.2 q.2.2) es xs->es[i]?=some kv->∃x,xs[i]?=some x/\H x.2.1=some (.tup (kv.1.map kV))/\aY kv.2 x.2.2:=by
   intro es xs i kv p
   induction p generalizing i with
   |nil=>intro z;simp at z
   |cons r t ih =>
    intro z
    cases i with
    |zero=>simp only [List.getElem?_cons_zero,Option.some.injEq] at z;subst z;exact ⟨_,rfl,r.2.1,r.2.2⟩
    |succ i=>obtain ⟨x,h1,h2⟩:=ih (by simpa using z);exact ⟨x,by simpa using h1,h2⟩
  obtain ⟨x,h1,h2,h3⟩:=key q4 hi;refine ⟨x.2.1,x.2.2,h3,h2,entryOfKey (tupleKind (bG P w)) x,?_,rfl,rfl⟩;rw [←zbq,r4,zaE,h1];rfl
def vY {K:zac}{elts:Tj}{x1}(a it:Addr)(o:Obj)(es:List (List aH×V)):vE P w K (.Tuple elts x1 pos) (QM a o es) [it] it (fun i h=>i<=(u7 o).size/\∃ok ov,IsItemIter h it a i (u7 o).size (F8 o) ok ov) where
 mem:=by simp
 obj:=fun i h st b hb=>by
  have e:b=it:=by simpa using hb
  subst e;obtain ⟨_,ok,ov,q⟩:=st;exact ⟨_,q,fun v z=>by
   have z':Data.fields _=Data.cell v:=z
   cases z'⟩
 keep:=fun i h h' st k=>by obtain ⟨z,ok,ov,q⟩:=st;exact ⟨z,ok,ov,k it (by simp) _ q⟩
 item:=by
  intro X hP hw hK hc i pins s Y H E I hf st hg;subst hP hw hK;obtain ⟨hq,hi⟩:=hg;obtain ⟨_,ok,ov,st⟩:=st;obtain ⟨hd,de,hsz,at_⟩:=C6 I.hok hq;have hx:es[i]?=some es[i]:=zao hi;obtain ⟨b,u,ru,hb,en,g1,g2,g3⟩:=at_ i _ hx;have ilt:it < s.heap.objs.size:=zah st;have nT:H s.heap.objs.size=none:=I.hok.fresh (zam _);refine Nf st de g1 fun h1 o1 hT hsz1 kk=>⟨_,rfl,wpAny_letOwnedTupleGo_items o1 fun h2 he2 sb=>?_⟩;rw [g2,g3] at hT;have tup:bB X.prog X.w (upd H s.heap.objs.size (.tup [.ref b,es[i].2])) (s.heap.push {cls:=.type "tuple",data:=.seq #[.ref b,u]}) s.heap.objs.size (.tup [.ref b,es[i].2]) :=
   ⟨(by decide:2<=sizeLine),[.ref b,u],.cons rfl (.cons ru .nil),ky.new _ _⟩
  have I1:=I.laid (t':=s.toks) (fun b o q=>zae _ q) (zam _) tup;have hT2:h2.get? s.heap.objs.size=some {cls:=.type "tuple",data:=.seq #[.ref b,u]}:=(sb.2 _ (zaV ilt)).trans hT;have I2:aA X pins Y (upd H s.heap.objs.size (.tup [.ref b,es[i].2])) {s with heap:=h2,toks:=s.toks}:=by
   refine aA.turnedL (s:={s with heap:=s.heap.push {cls:=.type "tuple",data:=.seq #[.ref b,u]}}) (its:=[it]) I1 (fun c o hc q=>?_) fun c hc=>?_
   ·have hc1:c≠it:=fun z=>hc (by simp [z]);by_cases hcT:c=s.heap.objs.size
    ·subst hcT;have q:(s.heap.push {cls:=.type "tuple",data:=.seq #[.ref b,u]}).get? s.heap.objs.size=some o:=q;rw [zal _ rfl] at q;cases q;exact hT2
    ·have q:(s.heap.push {cls:=.type "tuple",data:=.seq #[.ref b,u]}).get? c=some o:=q;have hlt:c < s.heap.objs.size:=by have h0:=zah q;rw [zaY] at h0;exact Nat.lt_of_le_of_ne (Nat.le_of_lt_succ h0) hcT
     have q0:s.heap.get? c=some o:=(by rw [←q];exact (EV hlt).symm);exact (sb.2 c hc1).trans (kk c o hc1 q0)
   ·obtain ⟨f0,f1,f2,f3,f4,f5⟩:=hf c hc;have hcT:c≠s.heap.objs.size:=by have z:c=it:=(by simpa using hc);rw [z];exact zap ilt
    exact ⟨by rw [az hcT];exact f0,f1,f3,f4,f5⟩
  refine ⟨.ref s.heap.objs.size,_,I2,rfl,⟨_,b,_,hx,rfl,nT,hb,rfl⟩,⟨by rw [hsz];exact hi,_,_,he2⟩,fun c hc=>?_⟩;have hcT:c≠s.heap.objs.size:=by have z:c=it:=(by simpa using hc);rw [z];exact zap ilt
  rw [az hcT];exact (hf c hc).1
 done:=by
  intro X hP hw hK hc i pins s Y H E I hf st hg;subst hP hw hK;obtain ⟨hq,hi⟩:=hg;obtain ⟨z,ok,ov,st⟩:=st;obtain ⟨hd,de,hsz,_⟩:=C6 I.hok hq;obtain ⟨f0,f1,f2,f3,f4,f5⟩:=hf it (by simp);have hi':i=(u7 o).size:=by omega
  rw [hi'] at st;exact Nk (I.ok.hd hc) st de fun h' eb=>⟨rfl,I.turned (t':=s.toks) (fun b o hb e=>eb b o hb e) f0 f1 f3 f4 f5⟩
 self:=fun _ _ _ _ _ st h=>by obtain ⟨_,ok,ov,st⟩:=st;exact Nn st h
def CZ (tl:TE):TI:=fun Y H R=>tl Y H fun x H1=>∃a o es,x=.ref a/\H1 a=some (.frz o (.dT es))/\R (QM a o es) H1
def Ca {X:Cx}{elts:Tj}{x1}{pt apos cpos:Pos}{o:Expr}{tl:TE}(hl:PE X o tl)(hbase:attributeBase o "items" X.env (eval o X.env)=eval o X.env)(hline:(apos.endLine == cpos.line)=true) :
  PI X (.Tuple elts x1 pt) (.Call (.Attribute o "items" apos) [] [] cpos) (CZ tl):=by
 intro pins s Y H R I h;refine wpAny_Call_method hbase rfl hline PySem.F.plainAttrs_dict PySem.F.slot_dict_items PySem.F.type_dict_items (db (hl pins s Y H _ I h) fun u s1 hh=>?_);obtain ⟨x,H1,I1,rx,a,o,es,ex,hq,q⟩:=hh;subst ex;obtain rfl:u=Value.ref a:=rx;obtain ⟨t1,t2,_⟩:=CW I1 (.inr ⟨es,.inr ⟨o,hq⟩⟩);refine ⟨t1,t2,Calls.callWith_builtin rfl (PySem.evalArgs_none ?_)⟩;obtain ⟨hd,de,hsz,at_⟩:=C6 I1.hok hq;refine Kr hd de ?_;refine No (v:=s1.heap.objs.size) (d:=a) ⟨_,zal _ rfl,rfl,rfl⟩ (de.at fun ob g=>zae _ g) ?_;have I2:aA X pins Y H1 {s1 with heap:=s1.heap.push {cls:=.type "dict_items",data:=.fields #[.ref a]}}:=I1.kept (t':=s1.toks) fun b o e=>zae _ e;refine ⟨_,[_],_,_,H1,rfl,I2.kept (t':=s1.toks) fun b o e=>zae _ e,vY a _ o es,⟨zbd _,_,_,zal _ rfl⟩,fun b hb=>?_,q⟩;have e:=zau.mp hb;rw [e];exact I2.fpOk (zam _) (I2.hok.fresh (zam _))
end L2
namespace HW
variable {K:zac}
open PyProof.Rows L2
def Ra:R->ac->Option (List (Th×D)×ac)
 |.p n,U=>match U[n]? with|some (.dt kvs)=>some (kvs,U.set n (.fzt kvs))|some (.fzt kvs)=>some (kvs,U)|_=>none
 |_,_=>none
abbrev Px (p:Th×D):D:=.tup [.key p.1,p.2]
def FQ (f:FE):FI:=fun O U=>(f O U).bind fun a=>(Ra a.1 a.2).bind fun b=>some (b.1.map Px,b.2)
def k7.tf {H H':Hp}{kvs:List (Th×D)}{es:List (List aH×V)}(t:TF H H')(h:k7 K H kvs es):k7 K H' kvs es:=⟨h.1,RelDs.tf t _ _ h.2⟩
theorem k7.at {H:Hp}{kvs:List (Th×D)}{es:List (List aH×V)}(h:k7 K H kvs es){i:Nat}{p:Th×D}(e:kvs[i]?=some p):∃v,es[i]?=some (kk p.1,v)/\ao K H p.2 v:=by
 obtain ⟨v,q,r⟩:=h.2.get (i:=i) (d:=p.2) (by rw [zaE,e];rfl);have k1:(es.map (·.1))[i]?=some (kk p.1):=by rw [h.1,zaE,e];rfl
 rw [zaE] at q k1
 cases z:es[i]? with
 |none=>rw [z] at q;cases q
 |some y =>
  rw [z] at q k1;have q:=Option.some.inj q;have k1:=Option.some.inj k1;exact ⟨v,congrArg some (Prod.ext k1 q),r⟩
def CP {a:Addr}{o:Obj}{es:List (List aH×V)}{kvs:List (Th×D)}:Ih K (QM a o es) (kvs.map Px) (fun H=>H a=some (.frz o (.dT es))/\k7 K H kvs es) where
 st:=fun H H' t p=>⟨t.frz _ _ _ p.1,p.2.tf t⟩
 stop:=fun i H p hi=>⟨p.1,by have:=congrArg List.length p.2.1;simp at this hi;omega⟩
 go:=fun i d H e p=>⟨p.1,by
  have h1:=(zat.mp e).1;have:=congrArg List.length p.2.1;simp at this h1;omega⟩
 yld:=fun i d H x H' e p y=>by obtain ⟨T,b,kv,e1,e2,e3,e4,e5⟩:=y;rw [zaE] at e;obtain ⟨q,hq,hd⟩:=zaO.mp e;obtain ⟨v,z,r⟩:=p.2.at hq;rw [e1] at z;cases z;subst e2 e5 hd;refine ⟨pd e3,?_⟩;simp only [ao];refine ⟨T,[.ref b,v],rfl,gQ.of bx,?_⟩;simp only [RelDs,ao];exact ⟨_,_,rfl,⟨b,rfl,by rw [pd e3 b _ e4,wK]⟩,_,_,rfl,ao.tf (u0 (m:=[]) (pd e3)).tf _ _ r,rfl⟩
theorem Jr {H:Hp}{R:It->Hp->Prop}{f}(h:EI K (FQ f) Y H R):CZ (On (av K f)) Y H R:=by
 obtain ⟨O,U,m,xs,U',hl,hs,e,k⟩:=h;obtain ⟨⟨x,U1⟩,e1,e⟩:=zab.mp e;obtain ⟨⟨kvs,U2⟩,e2,e⟩:=zab.mp e;cases e;refine ⟨O,U,m,x,U1,hl,hs,e1,fun v H1 m1 x1 s1 r1=>?_⟩
 cases x with
 |p n =>
  obtain ⟨a,rfl,ha⟩:=r1;simp only [Ra] at e2;split at e2
  ·rename_i kvs q
   cases e2;obtain ⟨es,ea,ke,rr⟩:=s1.cell n _ a q ha;refine .inr ⟨a,_,ea,trivial,fun o=>?_⟩;have x:dM m1 H1 m1 (upd H1 a (.frz o (.dT es))):=.put (zaH ha) ea (by simp) (by simp);exact ⟨a,o,es,rfl,cp,k _ _ _ m1 (x1.trans x) (s1.put ha ea (by simp) (by simp) ⟨o,es,cp,ke,RelDs.tf x.tf _ _ rr⟩) CP ⟨cp,ke,RelDs.tf x.tf _ _ rr⟩⟩
  ·rename_i kvs q
   cases e2;obtain ⟨o,es,ea,ke,rr⟩:=s1.cell n _ a q ha;exact .inl ⟨a,o,es,rfl,ea,k _ _ _ m1 x1 s1 CP ⟨ea,ke,rr⟩⟩
  ·cases e2
 |_=>cases e2
end HW
namespace HS
open PyProof.Rows
def Of (S:Addr)(wr:Tf)(h h':Heap):Prop:=∀b o,b≠S->b∉wr->h.get? b=some o->h'.get? b=some o
def EU {K:Type}[DecidableEq K](xs ps:List (K×Addr×Value)):List (K×Addr×Value):=ps.foldl (fun a p=>storedH a p.1 p.2.1 p.2.2) xs
def t0 {K:Type}[DecidableEq K]{xs:List (K×Addr×Value)}{k:K}{a:Addr}{v:Value}{x:K×Addr×Value}(h:x∈storedH xs k a v):(∃y∈xs,y.1=x.1/\y.2.1=x.2.1)\/(x.1=k/\x.2.1=a):=by
 unfold storedH at h;split at h
 ·obtain ⟨y,hy,rfl⟩:=zaJ.mp h;refine .inl ⟨y,hy,?_⟩;unfold putAt;split <;> exact ⟨rfl,rfl⟩
 ·rcases zaU.mp h with h|h
  ·exact .inl ⟨x,h,rfl,rfl⟩
  ·rw [zau.mp h];exact .inr ⟨rfl,rfl⟩
def t5 {K:Type}[DecidableEq K](xs:List (K×Addr×Value))(k:K)(a:Addr)(v:Value):(storedH xs k a v).length<=xs.length+1:=by unfold storedH;split <;> simp
section
variable {prog:Program}{w:World}{A:Around}{E:Tb}{s:Shared}{R:Result->Shared->Prop}{I:Addr}{fp wr:Tf}{n:Nat}{P:Nat->Value->Prop}{St:Nat->Heap->Prop}
theorem xg {K:Type}[DecidableEq K]{knd:HeapKind prog w K}(W:Walks prog w A.in1 I fp wr n P St)(S:Addr)(hSf:S∉fp)(hroom:knd.room A.in1)(ps:List (K×Addr×Value))(hps:ps.length=n)(h₀:Heap)
  (hP:∀i v,P i v->∃p,ps[i]?=some p/\gR h₀ v (.ref p.2.1) p.2.2/\(∀h,Of S wr h₀ h->knd.is h p.1 p.2.1)/\∀a,v=.ref a->a≠S/\a∉wr) :
  ∀(k i:Nat) (s:Shared) (c:Int) (xs:List (K×Addr×Value)),n - i=k->i<=n->St i s.heap->Of S wr h₀ s.heap->s.heap.DictOfH knd S xs->(∀x∈xs,∀h,Of S wr h₀ h->knd.is h x.1 x.2.1)->xs.length+k<=sizeLine ->
   (∀h' tk,Of S wr s.heap h'->h'.DictOfH knd S (EU xs (ps.drop i))->R (.ok (.ret .none)) {s with heap:=h',toks:=tk}) ->
   codeAny (model prog w) A (.builtin "dict.update.loop" ⟨[.ref S,.ref I,.int c 0,.none],[]⟩) R s:=by
 have nw:S∉wr:=fun h=>hSf (W.sub _ h);intro k
 induction k with
 |zero =>
  intro i s c xs hk hi hst h0 hS ha hb hR
  have hin:i=n:=by omega
  subst hin;refine zaW gg ?_;rw [zaX cg _];refine (show wpAny _ A.in1 (pyNext (.ref I) >>= _) _ _ s from zaa (W.done s _ _ hst fun h' tk hk'=>?_));refine (show wpAny _ A.in1 (do Builtin.Dict.addKeywords S [];ret Value.none) _ _ _ from zaa (show wpAny _ _ (pure ()) _ _ _ from zad (zad ?_)));refine hR h' tk (fun b o _ hb e=>hk' b o hb e) ?_;rw [zcA (by omega)];obtain ⟨o,es,ep,ho,r1,r2,r3,r4,r5⟩:=hS;exact ⟨o,es,ep,hk' S o nw ho,r1,r2,r3,fun x hx=>ha x hx h' fun b o n1 n2 e=>hk' b o n2 (h0 b o n1 n2 e),r5⟩
 |succ k ih =>
  intro i s c xs hk hi hst h0 hS ha hb hR
  have hlt:i < n:=by omega
  refine zaW gg ?_;rw [zaX cg _];refine (show wpAny _ A.in1 (pyNext (.ref I) >>= _) _ _ s from zaa (W.item i s _ _ hlt hst fun v h1 tk1 hPv hst1 hk1=>?_));obtain ⟨p,hpi,hpair,hkey,hap⟩:=hP i v hPv;have h01:Of S wr h₀ h1:=fun b o n1 n2 e=>hk1 b o n2 (h0 b o n1 n2 e);have hpair1:gR h1 v (.ref p.2.1) p.2.2:=hpair.keep fun a o e q=>hk1 a o (hap a e).2 (h0 a o (hap a e).1 (hap a e).2 q);obtain ⟨a,o,cc,rfl,ho,hc,hd⟩:=hpair1.ex
  have hS1:h1.DictOfH knd S xs:=by
   obtain ⟨o,es,ep,ho,r1,r2,r3,r4,r5⟩:=hS;exact ⟨o,es,ep,hk1 S o nw ho,r1,r2,r3,fun x hx=>ha x hx h1 h01,r5⟩
  refine zaa (zaI (zaa (wpAny_tryCatch ?_)));unfold Builtin.Dict.pairItems;refine zaa (zbs (T:="tuple") ⟨o,ho,hc⟩ ?_);rw [if_pos (by decide)];refine zaa (zcS ho hd (zad ?_));refine (show wpAny _ _ (holding [.ref p.2.1,p.2.2] (dictSet S (.ref p.2.1) p.2.2)) _ _ _ from zaI (wpAny_dictSet_heap (s:={s with heap:=h1,toks:=tk1}) hroom (hkey h1 h01) hS1 (fun h2 hS2 hsb=>?_) (by omega)))
  have hdrop:ps.drop i=p::ps.drop (i+1):=by
   obtain ⟨hl,e⟩:=zat.mp hpi;rw [zbe hl,e]
  have hlen:=t5 xs p.1 p.2.1 p.2.2;refine zad ⟨zbw cg _,ih (i+1) {s with heap:=h2,toks:=tk1+knd.draws p.1} (c+1) _ (by omega) hlt (W.frame _ h1 _ hst1 fun b hb o e=>?_) (fun b o n1 n2 e=>?_) hS2 (fun x hx=>?_) (by omega) fun h' tk' hk' hD=>?_⟩
  ·rw [hsb.2 b (fun h:b=S=>hSf (h ▸ hb))];exact e
  ·rw [hsb.2 b n1];exact h01 b o n1 n2 e
  ·rcases t0 hx with ⟨y,hy,e1,e2⟩|⟨e1,e2⟩
   ·rw [←e1,←e2];exact ha y hy
   ·rw [e1,e2];exact hkey
  ·refine hR h' tk' (fun b o n1 n2 e=>hk' b o n1 n2 ?_) (by rw [hdrop];exact hD)
   show h2.get? b=some o
   rw [hsb.2 b n1];exact hk1 b o n2 e
theorem Ar {K:Type}[DecidableEq K]{kn:KeyKind prog w K}{l:Addr}{its:Ti}{c:Nat}{ps:List (List K×Addr×Value)}{Q:Tb}
  (hu:A.units+32 < cLine) (hh:A.handled=none) (hl:s.heap.get? l=some {cls:=.type "list",data:=.seq its c}) (hps:ps.length=its.size) (hz:its.size<=sizeLine)
  (hP:∀(i:Nat) v,its[i]?=some v->∃p,ps[i]?=some p/\gR s.heap v (.ref p.2.1) p.2.2/\(tupleKind kn).is s.heap p.1 p.2.1)
  (h:∀(h':Heap) (tk:Nat),h'.DictOfH (tupleKind kn) s.heap.objs.size (EU [] ps)->(∀b o,s.heap.get? b=some o->h'.get? b=some o)->Q (.ref s.heap.objs.size) {s with heap:=h',toks:=tk}) :
  wpAny (model prog w) A (call (.type "dict") [.ref l]) Q E s:=by
 obtain ⟨cc,tl,hmro⟩:=bK.mro;have hmade:=bK.made;have hsub:=bK.sub;refine zcI (zb5 (show wpAny _ _ (callAny (.type "dict") _) _ _ _ from ?_));refine zad ⟨Code.quiet_builtin _ (by decide),zaW F.entry_type_call ?_⟩;rw [zcu (weight_type_call_type "dict" [.ref l] []) rfl];have h1:=bK.notType;have h2:=bK.canCreate;have hct:=oS (.ref l)
 repeat (any_goals (first|assumption|wp_step))
 refine zbh (ve (.ref l) (E:=E) (Q₁:=fun obj s₁=>obj=.ref s.heap.objs.size/\s₁={s with heap:=s.heap.push bA}) ⟨rfl,rfl⟩) fun r s₁ hr=>?_
 cases r with
 |error e=>exact hr
 |ok fl =>
  cases fl with
  |ret obj =>
   obtain ⟨rfl,rfl⟩:=hr;have hS:(s.heap.push bA).get? s.heap.objs.size=some bA:=zal _ rfl;have hT:Shared.TypeIs {s with heap:=s.heap.push bA} (.ref s.heap.objs.size) "dict":=⟨_,hS,rfl⟩;have hli:=bK.init.lookup;have hbi:=bK.init.bind (.ref s.heap.objs.size)
   repeat (any_goals (first|assumption|wp_step))
   refine zbh (zbT (R:=wants (fun r s₂=>r=.none/\∃h' tk,s₂={s with heap:=h',toks:=tk}/\h'.DictOfH (tupleKind kn) s.heap.objs.size (EU [] ps) /\
     (∀b o,s.heap.get? b=some o->h'.get? b=some o)) E) bK.init.plain my (mB hT ?_)) fun r₂ s₂ hr2=>?_
   ·have hlS:l < s.heap.objs.size:=zah hl
    have hl1:(s.heap.push bA).get? l=some {cls:=.type "list",data:=.seq its c}:=zae _ hl;have hTl:Shared.TypeIs {s with heap:=s.heap.push bA} (.ref l) "list":=⟨_,hl1,rfl⟩;unfold Builtin.«dict.__init__» Builtin.Dict.selfAndRest Builtin.Dict.notOrdered;refine zaa (zaa ?_);rw [if_pos (by decide)];refine zaa (zbs hT ?_);rw [if_neg (by decide)];refine zad (zaa (show wpAny _ _ (pure s.heap.objs.size) _ _ _ from zad (zad ?_)));refine (show wpAny _ _ (Builtin.Dict.updateFrom "dict.__init__" s.heap.objs.size (.ref l) [] .none) _ _ _ from ?_);unfold Builtin.Dict.updateFrom;refine zaa (zbs hTl ?_);rw [if_pos (by decide)];refine zaa (yj (show A.in1.in1.handled=none from hh) hl1 fun h2 tk2 kp2=>?_);rw [if_pos (show (none:Tg).isNone=true from rfl)];have hl2:=kp2 _ _ hl1;have hS2:=kp2 _ _ hS;have hl3:h2.IsList l its:=⟨_,hl2,rfl,c,rfl⟩;refine zaa (zbO (zaa (zcz hl3 ?_)));have hlI:l≠h2.objs.size:=zap (zah hl2);have hSI:s.heap.objs.size≠h2.objs.size:=zap (zah hS2)
    have hSf:s.heap.objs.size∉[h2.objs.size,l]:=by
     simp only [zak,zaQ,or_false,not_or];exact ⟨hSI,zaV hlS⟩
    have hD0:(h2.push {cls:=.type "list_iterator",data:=.fields #[.ref l,.int 0 0]}).DictOfH (tupleKind kn) s.heap.objs.size [] :=
     ⟨bA,#[],0,zae _ hS2,⟨rfl,rfl,rfl⟩,rfl,rfl,fun e he=>by simp at he,zcx⟩
    refine zad ⟨zbw cg _,xg (Walks.list (by simp [hh]) h2.objs.size l hlI its) s.heap.objs.size hSf (show _ < cLine by show A.units+1+1 < cLine;omega) ps hps s.heap (fun i v hv=>?_) (its.size - 0) 0 _ 0 [] (by omega) (zbd _)
     ⟨⟨_,zal _ rfl,rfl,rfl⟩,hl3.push _⟩ (fun b o _ _ e=>zae _ (kp2 _ _ (zae _ e))) hD0 (fun x hx=>nomatch hx) (by simpa using hz) fun h' tk' hk' hD=>?_⟩
    ·obtain ⟨p,e1,e3,e2⟩:=hP i v hv
     refine ⟨p,e1,e3,fun h kp=>?_,fun a e=>?_⟩
     ·obtain ⟨o,items,n,g1,g2,g3,g4⟩:=e2
      refine ⟨o,items,n,kp _ _ (zap (zah g1)) ?_ g1,g2,g3,g4⟩;simp only [zak,zaQ,or_false];exact zap (zah (kp2 _ _ (zae _ g1)))
     obtain ⟨a',o',c',q1,q2,_,_⟩:=e3.ex;rw [q1] at e;cases e;refine ⟨zap (zah q2),?_⟩;simp only [zak,zaQ,or_false];exact zap (zah (kp2 _ _ (zae _ q2)))
    ·refine ⟨rfl,h',tk',rfl,by simpa using hD,fun b o e=>hk' b o (zap (zah e)) ?_ (zae _ (kp2 _ _ (zae _ e)))⟩
     simp only [zak,zaQ,or_false];exact zap (zah (kp2 _ _ (zae _ e)))
   ·cases r₂ with
    |error e=>exact hr2
    |ok fl₂ =>
     cases fl₂ with
     |ret r =>
      obtain ⟨rfl,h',tk,rfl,hS',hk'⟩:=hr2
      repeat (any_goals (first|assumption|wp_step))
      exact h _ _ hS' hk'
     |_=>exact hr2.elim
  |_=>exact hr.elim
end
end HS
namespace HW
open PyProof.Rows L2 HS
def xn (K:zac)(H:Hp):List V->List (List aH×V)->Prop:=Paired fun v kv=>∃t b,v=.ref t/\gQ K H t [.ref b,kv.2]/\H b=some (.tup (kv.1.map kV))
def uq (kvs ps:List (List aH×V)):List (List aH×V):=ps.foldl (fun a p=>em a p.1 p.2) kvs
def BY {Z:Type}[DecidableEq Z](kvs:List (Z×V))(k:Z)(v:V):(em kvs k v).length<=kvs.length+1:=by unfold em;split <;> simp
theorem uo:∀(ps kvs:List (List aH×V)),(uq kvs ps).length<=kvs.length+ps.length
 |[],_=>by simp [uq]
 |p::ps,kvs=>by
  have:=uo ps (em kvs p.1 p.2);have:=BY kvs p.1 p.2
  show (uq (em kvs p.1 p.2) ps).length<=_
  rw [zaB];omega
theorem BW {H:Hp}{ps:List (List aH×V)}{qs:List (List aH×Addr×Value)}(r:KT H ps qs):∀{kvs:List (List aH×V)} {xs:List (List aH×Addr×Value)},KT H kvs xs->KT H (uq kvs ps) (EU xs qs):=by
 induction r with
 |nil=>intro kvs xs h;exact h
 | @cons a b _ _ h t ih =>
  intro kvs xs q;have:=KT.put q _ h.2.1 h.2.2;refine ih (show KT H (em kvs a.1 a.2) (storedH xs b.1 b.2.1 b.2.2) from ?_);rw [←h.1];exact this
theorem zF {X:Cx}{H:Hp}{s:Shared}(I:aA X pins Y H s){ws:List V}{kvs:List (List aH×V)}(p:xn X.K H ws kvs):∀{its:Te},aS ws its ->
  ∃ps:List (List aH×Addr×Value),KT H kvs ps/\ps.length=its.length/\∀(i:Nat) v,its[i]?=some v->∃p,ps[i]?=some p/\gR s.heap v (.ref p.2.1) p.2.2/\(tupleKind (bG X.prog X.w)).is s.heap p.1 p.2.1:=by
 induction p with
 |nil=>intro its v;cases v;exact ⟨[],.nil,rfl,fun i v e=>by simp at e⟩
 | @cons _ kv _ _ hp tp ih =>
  intro its v
  cases v with
  |cons hv tv =>
   obtain ⟨ps,a1,a2,a3⟩:=ih tv;obtain ⟨t,b,rfl,hs,hb⟩:=hp;cases hv;obtain ⟨js,r,⟨o,ho,hc,n,hd⟩,_⟩:=I.tuple hs
   cases r with
   |cons r1 rr =>
    cases rr with
    |cons r2 rr =>
     cases rr;cases r1
     rename_i x
     refine ⟨(kv.1,b,x)::ps,.cons ⟨rfl,hb,r2⟩ a1,by simp [a2],fun i v e=>?_⟩
     cases i with
     |zero=>simp at e;subst e;exact ⟨_,rfl,⟨t,o,n,rfl,ho,hc,hd⟩,mZ I.hok hb⟩
     |succ i=>simpa using a3 i v (by simpa using e)
def BM (K:zac):List V->Hp->VK->Prop:=fun vs H Q=>∃p ws kvs,vs=[.ref p]/\jF K H p ws/\xn K H ws kvs/\ws.length<=sizeLine/\∀l,H l=none->Q (.ref l) (upd H l (.dT (uq [] kvs)))
def xj {X:Cx}(hu:X.A.units+64 < cLine)(hc:X.calm=true):gW X (.type "dict") (BM X.K):=by
 intro pins s Y H vs us Q I r h;obtain ⟨p,ws,kvs,rfl,hH,hp,hws,q⟩:=h;obtain ⟨u,rfl,rx⟩:=iC r;cases rx;obtain ⟨its,n,rv,e⟩:=sK I hH;obtain ⟨ps,a1,a2,a3⟩:=zF I hp rv;have hk:kvs.length=its.length:=by have:=Paired.length a1;omega
 have hi:=rv.length;refine Ar (kn:=bG X.prog X.w) (ps:=ps) (by omega) (I.ok.hd hc) e (by simpa using a2) (by simp;omega) (fun i v hv=>a3 i v (by simpa using hv)) fun h' tk hD kp=>?_;have hz:(uq [] kvs).length<=sizeLine:=by have:=uo kvs [];simp at this;omega
 obtain ⟨o,es,ep,g1,g2,g3,g4,_,g5⟩:=hD;have fr:=I.hok.fresh (zam s.heap.objs.size);refine ⟨.ref s.heap.objs.size,_,I.laid (t':=tk) kp (zam _) (show bB X.prog X.w _ h' _ (.dT _) from ⟨hz,beq_eq_false_iff_ne.mpr (zaV I.big),_,(BW a1 .nil).keeps fun b ys eb=>?_,o,es,ep,g1,g2,g3,g4,g5⟩),rfl,q _ fr⟩;rw [az (fun z=>by rw [z,fr] at eb;cases eb)];exact eb
def jR:List D->Option (List (Th×D))
 |[]=>some []
 |d::r=>match d with|.tup [.key k,x]=>(jR r).map ((k,x) :: ·)|_=>none
def kF (kvs ps:List (Th×D)):List (Th×D):=ps.foldl (fun a p=>l7 a p.1 p.2) kvs
def rk:List R->ac->Option (R×ac)
 |[x],U=>(wg x U).bind fun ds=>(jR ds).bind fun kvs=>if ds.length < 1000 then some (.p U.length,U++[.dt (kF [] kvs)]) else none
 |_,_=>none
theorem pC {K:zac}{H:Hp}:∀{ds:List D} {ws:List V} {kvs:List (Th×D)},jR ds=some kvs->RelDs K H ds ws->∃qs,xn K H ws qs/\∀{k0 e0},k7 K H k0 e0->k7 K H (kF k0 kvs) (uq e0 qs)
 |[],ws,kvs,e,r=>by cases e;have r:ws=[]:=r;subst r;exact ⟨[],.nil,fun h=>h⟩
 |d::ds,ws,kvs,e,r=>by
  obtain ⟨v,ws',rfl,r1,r2⟩:=r;unfold jR at e;split at e
  ·rename_i k x;obtain ⟨ks,e1,rfl⟩:=zaO.mp e;obtain ⟨qs,p1,p2⟩:=pC e1 r2;simp only [ao] at r1;obtain ⟨a,vs,rfl,hq,hr⟩:=r1;obtain ⟨v1,t1,rfl,h1,hr⟩:=hr;obtain ⟨v2,t2,rfl,h2,hr⟩:=hr;have hr:t2=[]:=hr;subst hr;simp only [ao] at h1;obtain ⟨b,rfl,hb⟩:=h1;exact ⟨(kk k,v2)::qs,.cons ⟨a,b,rfl,hq,by rw [wK];exact hb⟩ p1,fun h=>p2 (h.put h2)⟩
  ·cases e
def FH {K:zac}:vL K rk (BM K):=by
 intro m H U xs d U' vs Q s r e k;unfold rk at e;split at e
 ·obtain ⟨ds,e0,e⟩:=zab.mp e;obtain ⟨kvs,e1,e⟩:=zab.mp e;split at e
  ·rename_i hlt
   cases e;obtain ⟨v,rfl,r1⟩:=lB r;obtain ⟨a,ws,rfl,ea,ra⟩:=ou s e0 r1;obtain ⟨qs,p1,p2⟩:=pC e1 ra;refine ⟨a,ws,qs,rfl,ea,p1,by rw [←ra.length,za9];omega,fun l hl=>?_⟩;have x:dM m H (m++[l]) (upd H l (.dT (uq [] qs))):=.newH hl;have hk:=p2 (k0:=[]) (e0:=[]) ⟨rfl,rfl⟩;refine k _ _ (m++[l]) x (s.newH hl ⟨_,bx,hk.1,RelDs.tf x.tf _ _ hk.2⟩) ⟨l,rfl,?_⟩;rw [←s.len];simp
  ·cases e
 ·cases e
def Ao (fo fk fx:FE):FE:=fun O U=>(fo O U).bind fun o=>match o.1 with
 |.p n=>if (xf o.2 n).isSome=true then (fk O o.2).bind fun k=>match k.1 with
  |.v (.key ks)=>(fx O k.2).bind fun x=>match x.1 with
   |.v d=>(xf x.2 n).bind fun kvs=>if kvs.length < 1000 then some (match nX kvs ks with|some r=>(.v r,x.2)|none=>(.v d,x.2.set n (.dt (kvs++[(ks,d)])))) else none
   |_=>none
  |_=>none
  else none
 |_=>none
def Ji {K:zac}{H:Hp}{Q:VK}{fo fk fx}(h:av K (Ao fo fk fx) Y H Q):A6 (av K fo) (av K fk) (av K fx) Y H Q:=by
 obtain ⟨O,U,m,d,U',hl,hs,e,kc⟩:=h;obtain ⟨⟨o,U1⟩,e1,e⟩:=zab.mp e;split at e
 ·rename_i n hn;simp only at hn;subst hn;split at e
  ·rename_i h0;obtain ⟨⟨k,U2⟩,e2,e⟩:=zab.mp e;split at e
   ·rename_i ks hks;simp only at hks;subst hks;obtain ⟨⟨x,U3⟩,e3,e⟩:=zab.mp e;split at e
    ·rename_i dx hx;simp only at hx;subst hx;obtain ⟨kvs,e4,e⟩:=zab.mp e;split at e
     ·rename_i hlt;refine ⟨O,U,m,_,U1,hl,hs,e1,fun vo H1 m1 x1 s1 r1=>?_⟩;obtain ⟨kvs0,e0⟩:=zcs.mp h0;obtain ⟨a,rfl,ha⟩:=r1;obtain ⟨es,hR,hK⟩:=yN s1 ha e0;refine ⟨a,rfl,.inr ⟨es,.inl hR⟩,?_⟩;refine ⟨O,U1,m1,_,U2,hl.ext x1,s1,e2,fun vk H2 m2 x2 s2 r2=>?_⟩;refine ⟨O,U2,m2,_,U3,hl.ext (x1.trans x2),s2,e3,fun vx H3 m3 x3 s3 r3=>?_⟩;have x13:=(x1.trans x2).trans x3;have ha3:m3[n]?=some a:=by obtain ⟨a',ea',q⟩:=au.ext (x2.trans x3) (show au K m1 H1 (.p n) (.ref a) from ⟨a,rfl,ha⟩);cases ea';exact q
      obtain ⟨es',hR',hK'⟩:=yN s3 ha3 e4;have r2':=r2.ext x3;simp only [au,ao] at r2';obtain ⟨b,rfl,hb⟩:=r2';refine ⟨es',kk ks,b,hR',rfl,by rw [wK];exact hb,?_,fun v hv=>?_,fun hv=>?_⟩
      ·have:=congrArg List.length hK'.1;simp at this
       rw [this];exact zax hlt (by rw [za9];omega)
      ·rcases k7.val ks hK' with ⟨n1,n2⟩|⟨dd,vv,n1,n2,n3⟩
       ·rw [n2] at hv;cases hv
       ·rw [n2] at hv;cases hv;simp only [n1] at e;cases e;exact kc _ H3 m3 x13 s3 n3
      ·rcases k7.val ks hK' with ⟨n1,n2⟩|⟨dd,vv,n1,n2,n3⟩
       ·simp only [n1] at e
        cases e;have y:dM m3 H3 m3 (upd H3 a (.dT (es'++[(kk ks,vx)]))):=.put (zaH ha3) hR' (by simp) (by simp);have kr:=k7.snoc (k:=ks) (ao.tf y.tf _ _ r3) (hK'.tf y.tf);exact kc _ _ m3 (x13.trans y) (s3.put ha3 hR' (by simp) (by simp) ⟨_,cp,kr.1,kr.2⟩) (ao.tf y.tf _ _ r3)
       ·rw [n2] at hv;cases hv
     ·cases e
    ·cases e
   ·cases e
  ·cases e
 ·cases e
end HW
namespace HS
open PyProof.Rows
def Lc (t:SetTable):Nat->Probe->Probe
 |0,p=>p
 |n+1,p=>Lc t n (t.advance p)
def fr (m i p:Nat):Probe:={j:=i,more:=runEnd m i - i,i:=i,perturb:=p,dummy:=none}
section
variable {prog:Program}{w:World}
abbrev RG (prog:Program)(w:World)(h:Heap)(ks:Th)(a:Addr):Prop:=IsTupleKey (intKind prog w) h ks a
theorem items_int {prog:Program}{ks:Th}{vs:Te}(h:ItemsAre (intKind prog w) ks vs):∀v∈vs,∃n t,v=.int n t:=by
 induction h with
 |nil=>intro v hv;simp at hv
 | @cons k v' ks vs h1 _ ih =>
  intro v hv;rcases zak.mp hv with rfl|hv
  ·cases v with
   |int n t=>exact ⟨n,t,rfl⟩
   |_=>simp [intKind,Value.isInt] at h1
  ·exact ih v hv
structure QG (prog:Program)(w:World)(led:Bool)(h:Heap)(es:Array (Int×Value))(t:SetTable)(vs:Te):Prop where
 W:om led es t
 ms:t.mask∈eC
 dm:t.dummies = #[]
 pl:t.plain=true
 lo:t.place.size * 5 < t.mask * 3
 pm:(es.toList.map (·.2)).Perm vs
 el:∀e∈es.toList,∃b ls,e.2=.ref b/\RG prog w h ls b
end
end HS
namespace HW
open PyProof.Rows L2 HS HT2
abbrev QF (K:zac)(H:Hp)(ps:List (Addr×Th)):Prop:=∀q∈ps,gQ K H q.1 (q.2.map V.int)
def AN:D->Option (Th)
 |.tup xs=>fX xs
 |.key ks=>some ks
 |_=>none
def tT:List D->Option (Ta)
 |[]=>some []
 |d::r=>(AN d).bind fun k=>(tT r).bind fun ks=>some (k::ks)
def D9 {K:zac}{H:Hp}{d:D}{ks:Th}{v:V}(e:AN d=some ks)(r:ao K H d v):∃a,v=.ref a/\gQ K H a (ks.map V.int):=by
 unfold AN at e;split at e
 ·simp only [ao] at r;obtain ⟨a,vs,rfl,h1,h2⟩:=r;rw [CY e h2] at h1;exact ⟨a,rfl,h1⟩
 ·cases e;simp only [ao] at r;obtain ⟨a,rfl,h⟩:=r;exact ⟨a,rfl,.inl (.inl h)⟩
 ·cases e
theorem tS {K:zac}{H:Hp}:∀{ds:List D} {L:Ta} {vs:List V},tT ds=some L->RelDs K H ds vs->∃ps:List (Addr×Th),vs=ps.map (fun q=>V.ref q.1)/\ps.map (·.2)=L/\QF K H ps
 |[],L,vs,e,r=>by cases e;simp only [RelDs] at r;subst r;exact ⟨[],rfl,rfl,fun _ h=>nomatch h⟩
 |d::ds,L,vs,e,r=>by
  obtain ⟨k,e1,e⟩:=zab.mp e;obtain ⟨ks,e2,e⟩:=zab.mp e;cases e;simp only [RelDs] at r;obtain ⟨v,vr,rfl,r1,r2⟩:=r;obtain ⟨a,rfl,h1⟩:=D9 e1 r1;obtain ⟨ps,rfl,rfl,h2⟩:=tS e2 r2;exact ⟨(a,k)::ps,rfl,rfl,fun q hq=>by
   rcases zak.mp hq with rfl|hq
   ·exact h1
   ·exact h2 q hq⟩
end HW
namespace HK
open PyProof.Rows L2 HS HT2
section
variable {prog:Program}{w:World}{A:Around}{E:Tb}{s:Shared}
def El {a:Addr}{vs:Te}{n:Nat}{L:Ta}{Q:Tb}(ho:s.heap.get? a=some (seqObj "list" vs.toArray n))(hT:be s.heap vs L)(nd:L.Nodup)(h64:L.length < 64)(hne:2<=L.length->∀x∈L,x≠[])
  (h:∀(is:List Nat) (h':Heap) (tk:Nat) (l:Addr) (c:Nat),(∀i∈is,i < L.length)->(is.map fun i=>L.getD i []).Perm L->(is.map fun i=>L.getD i []).Pairwise (fun x y=>jD x y=true)->(∀b o,s.heap.get? b=some o->h'.get? b=some o)->s.toks<=tk ->
   s.heap.objs.size<=l->h'.get? l=some (seqObj "list" (is.map fun i=>vs.getD i .none).toArray c)->Q (.ref l) {s with heap:=h',toks:=tk}) :
  wpAny (model prog w) A (call (.builtin "sorted") [.ref a]) Q E s:=by
 have hvl:vs.length=L.length:=hT.len;refine Calls.call_function_entry kind_sorted plain_sorted entry_sorted (args_sorted1 _) ?_;unfold Builtin.«sorted»;refine zaa (m:=checkCount "sorted" 1 1 _) (zad (zaa (collect_list (l:=a) (vs:=vs) ⟨_,ho,rfl,n,rfl⟩ ?_ (by rw [hvl,za9];omega))))
 have kp:∀b o,s.heap.get? b=some o->((s.heap.push (seqObj "list" #[] 0)).update s.heap.objs.size (Obj.mapSeq fun x=>x++vs.toArray)).get? b=some o:=fun b o e=>by
  rw [zaw _ _ (zaV (zah e))];exact zae _ e
 have hge:s.heap.objs.size<=((s.heap.push (seqObj "list" #[] 0)).update s.heap.objs.size (Obj.mapSeq fun x=>x++vs.toArray)).objs.size:=by
  rw [(Heap.SameBut.update ..).1,zaY];exact zbP _
 have ht:s.toks<=s.toks:=zam _;generalize (s.heap.push (seqObj "list" #[] 0)).update s.heap.objs.size (Obj.mapSeq fun x=>x++vs.toArray)=h' at kp hge ⊢;clear ho;refine zaa (zcZ ?_ (by rw [hvl,za9];omega));have hoL:(h'.push (seqObj "list" vs.toArray 0)).get? h'.objs.size=some (seqObj "list" vs.toArray 0):=zal _ rfl;have hT2:be (h'.push (seqObj "list" vs.toArray 0)) vs L:=hT.keep fun b o e=>zae _ (kp b o e)
 have hna:∀v∈vs,v≠.ref h'.objs.size:=fun v hv e=>by
  obtain ⟨i,hi,rfl⟩:=zbf hv;obtain ⟨b,o,its,n,q1,q2,_⟩:=hT.at i (by omega);rw [zaZ,zao hi] at q1;simp only [zbM] at q1;rw [e] at q1;cases q1;exact absurd (zah (kp _ _ q2)) (zaP _)
 refine zaa (zaI (zaG (s:={s with heap:=h'.push (seqObj "list" vs.toArray 0),toks:=s.toks}) slot_list_sort ⟨_,hoL,rfl⟩ entry_list_sort (qK (s:={s with heap:=h'.push (seqObj "list" vs.toArray 0),toks:=s.toks}) hoL hT2 nd h64 hne hna fun out L' ⟨is,a1,a2,a3⟩ a4 a5=>⟨_,rfl,?_⟩) (args_list_sort _)))
 obtain ⟨c,hc⟩:∃c,(sortedHeap (h'.push (seqObj "list" vs.toArray 0)) h'.objs.size vs out).get? h'.objs.size=some (seqObj "list" out c):=by
  unfold sortedHeap;obtain ⟨e1,q1⟩:∃e1,((h'.push (seqObj "list" vs.toArray 0)).update h'.objs.size (Obj.mapSeq fun _=>#[])).get? h'.objs.size=some (seqObj "list" #[] e1):=⟨_,get?_update_seq hoL (fun _=>#[])⟩;exact ⟨_,get?_update_seq (zae _ (zae _ q1)) (fun _=>out)⟩
 have ho:out=(is.map fun i=>vs.getD i .none).toArray:=by rw [←a1]
 subst a2;rw [ho] at hc;refine zad ⟨_,rfl,h is _ s.toks h'.objs.size c a3 a4 a5 (fun b o e=>?_) ht hge (by rw [ho];exact hc)⟩;have hb:=kp b o e;have ne:h'.objs.size≠b:=zaV (zah hb);unfold sortedHeap;rw [zaw _ _ ne];refine zae _ (zae _ ?_);rw [zaw _ _ ne];exact zae _ hb
end
end HK
namespace HW
variable {K:zac}
open PyProof.Rows L2 HS HT2 HK
def nU (K:zac)(H:Hp):List V->List (Th)->Prop:=Paired fun v k=>∃t,v=.ref t/\gQ K H t (k.map V.int)
def uj (K:zac):List V->Hp->VK->Prop:=fun vs H Q=>∃p ws L,vs=[.ref p]/\jF K H p ws/\nU K H ws L/\L.Nodup/\L.length < 64/\(2<=L.length->∀x∈L,x≠[])/\∀ws',nU K H ws' (br L)->∀l,H l=none->Q (.ref l) (upd H l (.lst ws'))
def sZ {X:Cx}:gW X (.builtin "sorted") (uj X.K):=by
 intro pins s Y H vs us Q I r h;obtain ⟨p,ws,L,rfl,hp,hk,nd,h64,hne,q⟩:=h;obtain ⟨u,rfl,rx⟩:=iC r;cases rx;obtain ⟨its,n,rv,e⟩:=sK I hp;have key:∀{ws:List V} {L:Ta},nU X.K H ws L->∀{its:Te},aS ws its->be s.heap its L:=by
  intro ws L t;induction t with
  |nil=>intro its v;cases v;exact trivial
  |cons h _ ih =>
   intro its v
   cases v with
   |cons hv tv =>
    obtain ⟨t,rfl,hs⟩:=h;cases hv;obtain ⟨js,rj,⟨ob,g1,g2,n,g3⟩,_⟩:=I.tuple hs;exact ⟨⟨t,ob,js.toArray,n,rfl,g1,g2,g3,by simpa using dz rj⟩,ih tv⟩
 have hwl:ws.length=L.length:=Paired.length hk;have hil:=rv.length;refine El (by simpa [seqObj] using e) (key hk rv) nd h64 hne fun is h' tk l c i1 i2 i3 kp ht hl hL=>?_;have heq:(is.map fun i=>L.getD i [])=br L:=l9 i3 (jT nd) (i2.trans (bI L).symm);have hlen:is.length=L.length:=by simpa using i2.length_eq
 have at_:∀{ws:List V} {L:Ta},nU X.K H ws L->∀i,i < L.length->∃t,ws.getD i .non=.ref t/\gQ X.K H t ((L.getD i []).map V.int):=by
  intro ws L t;induction t with
  |nil=>intro i hi;simp at hi
  |cons h _ ih =>
   intro i hi
   cases i with
   |zero=>simpa using h
   |succ i=>simpa using ih i (by simpa using hi)
 have pick:∀is:List Nat,(∀i∈is,i < L.length)->nU X.K H (is.map fun i=>ws.getD i .non) (is.map fun i=>L.getD i [])/\aS (is.map fun i=>ws.getD i .non) (is.map fun i=>its.getD i .none):=by
  intro is;induction is with
  |nil=>intro _;exact ⟨.nil,.nil⟩
  |cons i is ih =>
   intro hi;obtain ⟨a,b⟩:=ih fun j hj=>hi j (zaj _ hj);have h0:=hi i zan;refine ⟨.cons (at_ hk i h0) a,.cons ?_ b⟩;have hw:i < ws.length:=(by omega);obtain ⟨u,q1,q2⟩:=rv.get (zao hw)
   show L2.aY (ws.getD i .non) (its.getD i .none)
   rw [zaZ,zaZ,zao hw,q1];exact q2
 obtain ⟨p1,p2⟩:=pick is i1;rw [heq] at p1;exact ⟨.ref l,_,I.laid (t':=tk) kp hl (show bB X.prog X.w _ h' _ (.lst (is.map fun i=>ws.getD i .non)) from ⟨by rw [zag,hlen,za9];omega,_,c,p2,by simpa [seqObj] using hL⟩),rfl,q _ p1 _ (I.hok.fresh hl)⟩
def t6:List R->ac->Option (R×ac)
 |[x],U=>(wg x U).bind fun ds=>(tT ds).bind fun L=>if L.Nodup/\L.length < 64/\(L.length < 2\/∀k∈L,k≠[]) then some (.p U.length,U++[.lst ((br L).map fun k=>.tup (k.map D.int))]) else none
 |_,_=>none
theorem tR {K:zac}{H:Hp}:∀{ps:List (Addr×Th)},(∀q∈ps,gQ K H q.1 (q.2.map V.int))->nU K H (ps.map fun q=>V.ref q.1) (ps.map (·.2))
 |[],_=>.nil
 |q::ps,h=>.cons ⟨q.1,rfl,h q zan⟩ (tR fun r hr=>h r (zaj _ hr))
theorem nU.rels {H:Hp}{ws:List V}{L:Ta}(t:nU K H ws L):RelDs K H (L.map fun k=>.tup (k.map D.int)) ws:=by
 induction t with
 |nil=>rfl
 |cons h _ ih =>
  obtain ⟨t,rfl,hs⟩:=h;exact ⟨_,_,rfl,by simp only [ao];exact ⟨t,_,rfl,hs,kD _⟩,ih⟩
def Kw :vL K t6 (uj K):=by
 intro m H U xs d U' vs Q s r e k;unfold t6 at e;split at e
 ·obtain ⟨ds,e0,e⟩:=zab.mp e;obtain ⟨L,e1,e⟩:=zab.mp e;split at e
  ·rename_i hc
   cases e;obtain ⟨v,rfl,r1⟩:=lB r;obtain ⟨a,ws,rfl,ea,ra⟩:=ou s e0 r1;obtain ⟨ps,rfl,rfl,hT⟩:=tS e1 ra;refine ⟨a,_,_,rfl,ea,tR hT,hc.1,hc.2.1,fun h2=>hc.2.2.resolve_left (by omega),fun ws' tv l hl=>?_⟩;obtain ⟨x,y,z⟩:=f9 s tv.rels hl;exact k _ _ _ x y z
  ·cases e
 ·cases e
def HZ (f:FE):FE:=fun O U=>(f O U).bind fun a=>some (oP a.1,a.2)
def MG {H:Hp}{Q:VK}{f}(h:av K (HZ f) Y H Q):av K f Y H Q:=by obtain ⟨O,U,m,d,U',hl,hs,e,k⟩:=h;obtain ⟨⟨x,U1⟩,e1,e⟩:=zab.mp e;cases e;exact ⟨O,U,m,_,_,hl,hs,e1,fun v H' m' x1 s1 r1=>k v H' m' x1 s1 r1.unk⟩
end HW
namespace HS
open PyProof.Rows
def Og (t:SetTable)(h:Int)(j:Nat):Prop:=∃n,(Lc t n (t.probeStart h)).j=j/\∀k < n,t.slot (Lc t k (t.probeStart h)).j≠.empty
def QP (es:Array (Int×Value))(t:SetTable):Prop:=∀(i:Nat) (e:Int×Value) (j:Nat),es[i]?=some e->t.place[i]?=some j->Og t e.1 j
section
variable {prog:Program}{w:World}
structure R5 (prog:Program)(w:World)(TH:List Int->Int)(led:Bool)(h:Heap)(es:Array (Int×Value))(t:SetTable)(vs:Te):Prop where
 T:QG prog w led h es t vs
 ch:QP es t
 hh:∀e∈es.toList,∃b ls,e.2=.ref b/\RG prog w h ls b/\e.1=TH ls
end
end HS
namespace HW
open PyProof.Rows L2 HS HT2
def R3 (acc:Ta)(k:Th):Ta:=if k∈acc then acc else acc++[k]
def dd (L:Ta):Ta:=L.foldl R3 []
end HW
namespace HW
open PyProof.Rows L2
open Classical in
def RX (cl:List (Str×Addr))(H:Hp):Hp:=fun b=>if (∃y,cl.lookup y=some b) then none else H b
structure R6 (P:Addr)(q:Str)(H H':Hp):Prop where
 keep:∀b o,b≠P->H b=some o->H' b=some o
 tab:∃ps,H' P=some (.tbl ps)/\mE H' q ps
structure QN (K:zac)(x:Str)(st:Stmt)(f:Addr)(fd:FuncData)(c:Addr):Prop where
 ex:∃(oc:Value) (od:Option Addr) (kV doc pm:Value) (an:Option Addr) (ct:Value) (osl:Array (Tg)),
  fd=PySem.W.fnOf x x (gh st) (bu st) (ai st) .none kV doc pm an (.ref c) ct/\K.lookup f=some ⟨oc,od,.func fd,osl⟩/\PySem.W.codeIn K (.ref c) x=true
 kp:PySem.W.keepIn K (.ref f)=true
section
variable {K:zac}{m:Tf}{H:Hp}
theorem aQ.length:∀{ds:List R} {vs:List V},aQ K m H ds vs->ds.length=vs.length
 |[],_,h=>by cases (show _=[] from h);rfl
 |_::_,_,⟨v,r,e,h1,h2⟩=>by subst e;simp [aQ.length h2]
theorem aQ.get:∀{ds:List R} {vs:List V} {i:Nat} {d:R},aQ K m H ds vs->ds[i]?=some d->∃v,vs[i]?=some v/\au K m H d v
 |[],_,_,_,_,e=>by simp at e
 |_::_,_,0,_,⟨v,r,e,h1,h2⟩,q=>by subst e;simp at q;subst q;exact ⟨v,rfl,h1⟩
 |_::_,_,i+1,_,⟨v,r,e,h1,h2⟩,q=>by subst e;simp at q;obtain ⟨w,a,b⟩:=aQ.get h2 q;exact ⟨w,by simpa using a,b⟩
end
abbrev MW:=List R->ac->Option (R×ac)
def sP:oJ->Option (R×ac)
 |.rt r U=>some (r,U)
 |.nx _ U=>some (.v .non,U)
 |_=>none
def mO (k:Nat)(b:FS):MW:=fun rs U=>(b (rs.map some++List.replicate (k - rs.length) none) U).bind sP
def Ll (K:zac)(n:Nat)(f:MW):Sp:=fun vs H Q _=>∃U m rs d U',rs.length=n/\aI K m H U/\aQ K m H rs vs/\f rs U=some (d,U') /\
 ∀v H' m',dM m H m' H'->aI K m' H' U'->au K m' H' d v->Q v H'
def Bf {K:zac}{m:Tf}{H:Hp}{N:Tn}{rs:List R}{vs:List V}(r:aQ K m H rs vs):dZ K m H (rs.map some++List.replicate (N.length - rs.length) none) (L2.fw N vs):=by
 have hl:=r.length;refine ⟨by simp [L2.fw,hl],fun i d e=>?_⟩;by_cases hi:i < rs.length
 ·rw [zai (by simpa using hi),zaE] at e
  cases q:rs[i]? with
  |none=>rw [q] at e;cases e
  |some x =>
   rw [q] at e;cases e;obtain ⟨v,q1,q2⟩:=r.get q;refine ⟨v,?_,q2⟩;unfold L2.fw;rw [zai (by simp;omega),zaE,q1];rfl
 ·rw [zaN (by simpa using hi),zb2] at e;split at e <;> cases e
theorem oK.okW {P:Program}{w:World}{K:zac}{mg:Td}{base:Heap}{x qual:Str}{st:Stmt}{f:Addr}{fd:FuncData}{N ps:Tn}{k:Nat}{b:FS}(F:oK K x qual st f fd)(S:ax N ps (ai st))
  (hbody:∀(cdv:Value) (A:Around) (outer:List Env) (s:Shared) (H:Hp) (E:XK),bQ k (A.deeper (envOfC qual (ai st) s.heap.objs.size f cdv))->on (jE kT P w K mg base N qual (ai st) f cdv A outer s H E).nox (bu st) (eP K b)) :
  cF P w K mg base kT (k+1) f fd ps (Ll K ps.length (mO N.length b)):=by
 have G:cF P w K mg base kT (k+1) f fd ps (fun vs H Q _=>vs.length=ps.length/\eP K b {nx:=fun _ H'=>Q .non H',rt:=Q} (L2.fw N vs) H) :=
  L2.oK.ok F S (fun vs H Q E h=>h.1) fun cdv A outer s H vs Q E hr h=>⟨_,hbody cdv A outer s H E hr,h.2⟩
 refine G.imp fun vs H Q E hh=>?_;obtain ⟨U,m,rs,d,U',hn,hs,r,e,k⟩:=hh;refine ⟨by rw [←r.length];exact hn,?_⟩;obtain ⟨o,e1,e⟩:=zab.mp e;refine ⟨_,U,m,o,Bf r,hs,e1,?_⟩
 cases o with
 |nx O U1=>cases e;exact fun Y H' m' x1 s1 _=>k _ H' m' x1 s1 (by simp only [au,ao])
 |rt d U1=>cases e;exact fun v H' m' x1 s1 r1=>k _ H' m' x1 s1 r1
 |bk O U1=>cases e
 |ct O U1=>cases e
def j6 (f:MW)(n:Nat)(fa:FA):FE:=fun O U=>(fa O U).bind fun a=>if a.1.length=n then f a.1 a.2 else none
structure ot (K:zac)(mg:Td)(c:Str)(C:Addr):Prop where
 ns:PySem.W.nsIn K mainGlobals c=some (some (.ref C))
 mg:mg c=some (.ref C)
 cl:GA K C
def wB (c:Str)(U:ac)(x:R):Option (List (Str×R)):=match x with
 |.p n=>(match U[n]? with|some (.ob c' fs)=>if c'=c then some fs else none|_=>none)
 |_=>none
def xY (f:Str)(v:R):List (Str×R)->List (Str×R)
 |[]=>[(f,v)]
 |(g,x)::r=>if g=f then (g,v)::r else (g,x)::xY f v r
def FR (K:zac)(m:Tf)(H:Hp)(fs:List (Str×R))(es:List (Str×V)):Prop:=es.map (·.1)=fs.map (·.1)/\aQ K m H (fs.map (·.2)) (es.map (·.2))
section
variable {K:zac}{m m':Tf}{H H':Hp}
def FR.cons {k k':Str}{d:R}{v:V}{fs:List (Str×R)}{es:List (Str×V)}:FR K m H ((k,d)::fs) ((k',v)::es) ↔ k'=k/\au K m H d v/\FR K m H fs es:=by
 constructor
 ·rintro ⟨h1,h2⟩;simp only [zaf,List.cons.injEq] at h1;obtain ⟨w,r,e,h3,h4⟩:=h2;simp only [zaf,List.cons.injEq] at e;obtain ⟨rfl,rfl⟩:=e;exact ⟨h1.1,h3,h1.2,h4⟩
 ·rintro ⟨rfl,h1,h2,h3⟩;exact ⟨by simp [h2],⟨_,_,rfl,h1,h3⟩⟩
theorem FR.look:∀{fs:List (Str×R)} {es:List (Str×V)} (f:Str),FR K m H fs es->(fs.lookup f=none/\es.lookup f=none)\/∃d v,fs.lookup f=some d/\es.lookup f=some v/\au K m H d v
 |[],es,f,h=>by
  have:es=[]:=by simpa using h.1
  subst this;exact .inl ⟨rfl,rfl⟩
 |(a,d)::fs,[],f,h=>by have:=h.1;simp at this
 |(a,d)::fs,(b,v)::es,f,h=>by
  obtain ⟨rfl,h1,h2⟩:=FR.cons.mp h;simp only [zba]
  cases q:f == b with
  |true=>exact .inr ⟨d,v,rfl,rfl,h1⟩
  |false=>exact FR.look f h2
theorem FR.put {f:Str}{d:R}{v:V}(rd:au K m H d v):∀{fs:List (Str×R)} {es:List (Str×V)},FR K m H fs es->FR K m H (xY f d fs) (i9 f v es)
 |[],es,h=>by
  have:es=[]:=by simpa using h.1
  subst this;exact FR.cons.mpr ⟨rfl,rd,rfl,rfl⟩
 |(a,x)::fs,[],h=>by have:=h.1;simp at this
 |(a,x)::fs,(b,y)::es,h=>by
  obtain ⟨rfl,h1,h2⟩:=FR.cons.mp h;unfold xY i9;by_cases q:b=f
  ·rw [if_pos q,if_pos q];exact FR.cons.mpr ⟨rfl,rd,h2⟩
  ·rw [if_neg q,if_neg q];exact FR.cons.mpr ⟨rfl,h1,FR.put rd h2⟩
def FR.ext (x:dM m H m' H'){fs:List (Str×R)}{es:List (Str×V)}(h:FR K m H fs es):FR K m' H' fs es:=⟨h.1,aQ.ext x h.2⟩
def FR.len {fs:List (Str×R)}{es:List (Str×V)}(h:FR K m H fs es):es.length=fs.length:=by simpa using congrArg List.length h.1
def Cq {mg:Td}{c:Str}{C:Addr}{U:ac}{x:R}{v:V}{fs:List (Str×R)}(N:ot K mg c C)(s:aI K m H U)(r:au K m H x v)(e:wB c U x=some fs) :
  ∃n a dx es,x=.p n/\m[n]?=some a/\v=.ref a/\H a=some (.ins C dx es)/\FR K m H fs es:=by
 unfold wB at e;split at e
 ·rename_i n
  split at e
  ·rename_i c' gs q
   split at e
   ·rename_i hc
    cases e;subst hc;obtain ⟨a,rfl,ha⟩:=r;obtain ⟨C',dx,es,h1,h2,h3,h4⟩:=s.cell _ _ a q ha;rw [N.ns] at h1;cases h1;exact ⟨n,a,dx,es,rfl,ha,rfl,h2,h3,h4⟩
   ·cases e
  ·cases e
 ·cases e
end
def dP (c f:Str)(fo:FE):FE:=fun O U=>(fo O U).bind fun o=>(wB c o.2 o.1).bind fun fs=>(fs.lookup f).bind fun d=>some (d,o.2)
def l6 (c f:Str)(fo fv:FE):FS:=fun O U=>(fv O U).bind fun v=>(fo O v.2).bind fun o=>(wB c o.2 o.1).bind fun fs=>if fs.length < 1000 then (match o.1 with|.p n=>some (.nx O (o.2.set n (.ob c (xY f v.1 fs))))|_=>none) else none
def fZ (c nm:Str)(f:MW)(n:Nat)(fo:FE)(fa:FA):FE:=fun O U=>(fo O U).bind fun o=>(wB c o.2 o.1).bind fun fs=>if (fs.lookup nm).isNone=true then (fa O o.2).bind fun a=>if a.1.length+1=n then f (o.1::a.1) a.2 else none else none
section
variable {K:zac}{Y:L2.St}{H:Hp}{Q:VK}{mg:Td}{c:Str}{C:Addr}
def BC {f:MW}{n:Nat}{fa}{E:XK}(h:av K (j6 f n fa) Y H Q):tX (Ll K n f) [] E (gp K fa) Y H Q:=by
 obtain ⟨O,U,m,d,U',hl,hs,e,k⟩:=h;obtain ⟨⟨xs,U1⟩,e1,e⟩:=zab.mp e;split at e
 ·rename_i hn;refine ⟨O,U,m,xs,U1,hl,hs,e1,fun vs H1 m1 x1 s1 r1=>?_⟩;exact ⟨U1,m1,xs,d,U',hn,s1,by rw [za2];exact r1,e,fun v H' m' x2 s2 r2=>k v H' m' (x1.trans x2) s2 r2⟩
 ·cases e
def Jv {f:Str}{fo}(N:ot K mg c C)(hf:e7 K C f)(h:av K (dP c f fo) Y H Q):Mn K (av K fo) f Y H Q:=by
 obtain ⟨O,U,m,d,U',hl,hs,e,k⟩:=h;obtain ⟨⟨o,U1⟩,e1,e⟩:=zab.mp e;obtain ⟨fs,e2,e⟩:=zab.mp e;obtain ⟨d',e3,e⟩:=zab.mp e;cases e;refine ⟨O,U,m,o,U1,hl,hs,e1,fun v H1 m1 x1 s1 r1=>?_⟩;obtain ⟨n,a,dx,es,rfl,ha,rfl,ea,fr⟩:=Cq N s1 r1 e2;rcases fr.look f with ⟨z,_⟩|⟨d0,v0,z1,z2,z3⟩
 ·rw [z] at e3;cases e3
 ·rw [z1] at e3;cases e3;exact ⟨a,C,dx,es,v0,rfl,ea,N.cl,hf,z2,k _ H1 m1 x1 s1 z3⟩
def Ey {f:Str}{fo fv}{D:eN}(N:ot K mg c C)(hf:e7 K C f)(h:eP K (l6 c f fo fv) D Y H):Mx K (av K fo) (av K fv) f D Y H:=by
 obtain ⟨O,U,m,o,hl,hs,e,k⟩:=h;obtain ⟨⟨v,U1⟩,e1,e⟩:=zab.mp e;obtain ⟨⟨ob,U2⟩,e2,e⟩:=zab.mp e;obtain ⟨fs,e3,e⟩:=zab.mp e;split at e
 ·rename_i hlt;refine ⟨O,U,m,v,U1,hl,hs,e1,fun y H1 m1 x1 s1 r1=>?_⟩;refine ⟨O,U1,m1,ob,U2,hl.ext x1,s1,e2,fun vo H2 m2 x2 s2 r2=>?_⟩;obtain ⟨n,a,dx,es,rfl,ha,rfl,ea,fr⟩:=Cq N s2 r2 e3;dsimp only at e;cases e;have x:dM m2 H2 m2 (upd H2 a (.ins C dx (i9 f y es))):=.put (zaH ha) ea (by simp) (by simp);refine ⟨a,C,dx,es,rfl,ea,N.cl,hf,by rw [fr.len];exact hlt,?_⟩;have x3:=(x1.trans x2).trans x;have fr2:=(FR.put (f:=f) (r1.ext x2) fr).ext x;exact k _ _ m2 x3 (s2.put ha ea (by simp) (by simp) ⟨C,dx,_,N.ns,cp,fr2.1,fr2.2⟩) (hl.ext x3)
 ·cases e
def EB {nm:Str}{f:MW}{n:Nat}{fo fa}{E:XK}(N:ot K mg c C)(h:av K (fZ c nm f n fo fa) Y H Q):Hh C nm (Ll K n f) [] E (av K fo) (gp K fa) Y H Q:=by
 obtain ⟨O,U,m,d,U',hl,hs,e,k⟩:=h;obtain ⟨⟨o,U1⟩,e1,e⟩:=zab.mp e;obtain ⟨fs,e2,e⟩:=zab.mp e;split at e
 ·rename_i hno;obtain ⟨⟨xs,U2⟩,e3,e⟩:=zab.mp e;split at e
  ·rename_i hn;refine ⟨O,U,m,o,U1,hl,hs,e1,fun v H1 m1 x1 s1 r1=>?_⟩;obtain ⟨i,a,dx,es,rfl,ha,rfl,ea,fr⟩:=Cq N s1 r1 e2;have hlook:es.lookup nm=none:=by
    rcases fr.look nm with ⟨_,z⟩|⟨d0,v0,z1,z2,z3⟩
    ·exact z
    ·rw [z1] at hno;cases hno
   refine ⟨a,dx,es,rfl,ea,hlook,?_⟩;refine ⟨O,U1,m1,xs,U2,hl.ext x1,s1,e3,fun vs H2 m2 x2 s2 r2=>?_⟩;exact ⟨U2,m2,.p i::xs,d,U',by simpa using hn,s2,⟨_,_,rfl,r1.ext x2,by rw [za2];exact r2⟩,e,fun v H' m' x3 s3 r3=>k v H' m' ((x1.trans x2).trans x3) s3 r3⟩
  ·cases e
 ·cases e
end
open HS
def nj (c:Str)(f:MW)(n:Nat)(fa:FA):FE:=fun O U=>(fa O U).bind fun a=>if a.1.length+1=n then (f (.p a.2.length::a.1) (a.2++[.ob c []])).bind fun r=>match r.1 with|.v .non=>some (.p a.2.length,r.2)|_=>none else none
def Bz {K:zac}{mg:Td}{c:Str}{C:Addr}{H:Hp}{Q:VK}{f:MW}{n:Nat}{fa:FA}{E:XK}(N:ot K mg c C)(h:av K (nj c f n fa) Y H Q):Hi C (Ll K n f) [] E (gp K fa) Y H Q:=by
 obtain ⟨O,U,m,d,U',hl,hs,e,k⟩:=h;obtain ⟨⟨xs,U0⟩,e0,e⟩:=zab.mp e;dsimp only at e;split at e
 ·rename_i hn;obtain ⟨⟨r,U1⟩,e1,e⟩:=zab.mp e;dsimp only at e;split at e
  ·cases e;refine ⟨O,U,m,xs,U0,hl,hs,e0,fun vs H1 m1 x1 s1 r1=>?_⟩;intro x dx hx hdx hne;have y1:dM m1 H1 m1 (upd H1 dx (.own x)):=.new hdx;have t1:=s1.same (dA hdx (o:=HO.own x));have hx1:upd H1 dx (.own x) x=none:=(by unfold upd;rw [if_neg (Ne.symm hne)];exact hx);have y2:dM m1 (upd H1 dx (.own x)) (m1++[x]) (upd (upd H1 dx (.own x)) x (.ins C dx [])):=.newH hx1;have s2:=t1.newH (c:=.ob c []) hx1 ⟨C,dx,[],N.ns,cp,rfl,rfl⟩;have hp:(m1++[x])[U0.length]?=some x:=(by rw [←s1.len];simp);refine ⟨_,_,.p U0.length::xs,_,_,by simpa using hn,s2,⟨_,_,rfl,⟨x,rfl,hp⟩,by rw [za2];exact r1.ext (y1.trans y2)⟩,e1,fun v H' m' x3 s3 r3=>?_⟩;refine ⟨by simpa only [au,ao] using r3,k _ H' m' ((x1.trans (y1.trans y2)).trans x3) s3 ?_⟩;exact au.ext x3 (show au K (m1++[x]) _ (.p U0.length) (.ref x) from ⟨x,rfl,hp⟩)
  ·cases e
 ·cases e
def mR:List D->Option (List (aH×D))
 |[]=>some []
 |.tup [.str i,d]::r=>(mR r).map ((.inr (some i),d) :: ·)
 |_=>none
theorem pE {K:zac}{H:Hp}:∀{ds:List D} {ws:List V} {kvs:List (aH×D)},mR ds=some kvs->RelDs K H ds ws->∃qs,tE K H ws qs/\KD K H kvs qs
 |[],ws,kvs,e,r=>by cases e;have r:ws=[]:=r;subst r;exact ⟨[],.nil,.nil⟩
 |d::ds,ws,kvs,e,r=>by
  obtain ⟨v,ws',rfl,r1,r2⟩:=r;unfold mR at e;split at e
  ·cases e;rename_i h;cases h
  ·rename_i i x r' h
   cases h;obtain ⟨ks,e1,rfl⟩:=zaO.mp e;obtain ⟨qs,p1,p2⟩:=pE e1 r2;simp only [ao] at r1;obtain ⟨a,vs,rfl,hq,hr⟩:=r1;obtain ⟨v1,t1,rfl,h1,hr⟩:=hr;obtain ⟨v2,t2,rfl,h2,hr⟩:=hr;have hr:t2=[]:=hr;subst hr;have h1:v1=.str i:=(by simpa only [ao] using h1);subst h1;exact ⟨(.inr (some i),v2)::qs,.cons ⟨a,rfl,hq⟩ p1,KD.cons.mpr ⟨rfl,h2,p2⟩⟩
  ·cases e
def nR:List R->ac->Option (R×ac)
 |[.p n],U=>match U[n]? with
  |some (.lst ds)=>(mR ds).bind fun kvs=>some (.p U.length,U++[.dct (aU [] kvs)])
  |_=>none
 |_,_=>none
def FJ {K:zac}:vL K nR (BN K):=by
 intro m H U xs d U' vs Q s r e k;unfold nR at e;split at e
 ·rename_i n;split at e
  ·rename_i ds hn;obtain ⟨kvs,e1,e⟩:=zab.mp e;cases e;obtain ⟨v,rfl,r1⟩:=lB r;obtain ⟨a,rfl,ha⟩:=r1;obtain ⟨ws,ea,ra⟩:=s.cell _ _ a hn ha;obtain ⟨qs,p1,p2⟩:=pE e1 ra;refine ⟨a,ws,qs,rfl,ea,p1,fun l hl=>?_⟩;have x:dM m H (m++[l]) (upd H l (.dK (qr [] qs))):=.newH hl;have hk:=KD.putAll (K:=K) (H:=H) .nil p2;refine k _ _ (m++[l]) x (s.newH hl ⟨_,bx,hk.1,RelDs.tf x.tf _ _ hk.2⟩) ⟨l,rfl,?_⟩;rw [←s.len];simp
  ·cases e
 ·cases e
end HW
namespace HW
variable {K:zac}
open PyProof.Rows L2
abbrev l5 (e:Expr)(es:Tj)(X:Cx):Prop:=starEach (e::es) X.env=(false,eval e X.env)::starEach es X.env
def pK:Expr->Bool
 |.Starred ..=>true
 |_=>false
def aw {es:Tj}{env:Env}(h:pK e=false):starEach (e::es) env=(false,eval e env)::starEach es env:=by cases e <;> first|rfl|(simp [pK] at h)
theorem aD {env:Env}{pos:Pos}:∀{es:Tj},es.any pK=false->(backTo pos (starEach es env)).any (·.1)=false
 |[],_=>rfl
 |e::es,h=>by rw [zbA,Bool.or_eq_false_iff] at h;rw [aw h.1];have ih:=aD (env:=env) (pos:=pos) h.2;unfold backTo at ih ⊢;rw [zaf,zbA,ih];rfl
def vC {es:Tj}{env:Env}(h:pK e=false):(assignEach (e::es) env).map (·.2)=assign e env::(assignEach es env).map (·.2):=by cases e <;> first|rfl|(simp [pK] at h)
theorem kY {prog:Program}{w:World}{A:Around}{E:Tb}{s:Shared}{t sl:Addr}{items:Ti}{vl vu:Value}{lo hi:Option Int}{Q:Tb}(ht:IsTup s.heap t items)(hs:s.heap.IsSliceOf sl vl vu .none)(pl:IsPart vl lo)(pu:IsPart vu hi)
  (hw:HT.cP items.size 0 lo=0/\HT.cP items.size items.size hi=items.size)
  (h:Q (.ref t) s):wpAny (model prog w) A (getItem (.ref t) (.ref sl)) Q E s:=by
 obtain ⟨os,hos,hcs,hds⟩:=id hs;have hTs:s.TypeIs (.ref sl) "slice":=⟨os,hos,hcs⟩;unfold getItem
 try with_reducible refine zaI ?_
 first|refine zaa (zad ?_)|skip
 refine zaa (wpAny_sequenceKey ht.typeIs (by decide) ?_)
 refine zaa (za0 (name:=Str.ofString "__getitem__") ht.typeIs PyProof.Rows.slot_tuple_getitem
  (zaG PyProof.Rows.slot_tuple_getitem ht.typeIs entry_tuple_getitem ?_ (args_tuple_getitem _ _)))
 show wpAny _ _ (Builtin.Tuple.tupleItemsOf (.ref t) >>= _) _ _ s
 refine zaa (tupleItemsOf_ ht ?_);refine zaa (zbs hTs ?_);rw [if_pos (by decide)];refine zaa (HT.iF hs pl pu ?_)
 have hyes:((((HT.cP items.size 0 lo:Nat):Int) == 0 && (1:Int) == 1 && (HT.cP items.size items.size hi - HT.cP items.size 0 lo) == items.size)=true):=by
  rw [hw.1,hw.2];simp
 show wpAny _ _ (if (((HT.cP items.size 0 lo:Nat):Int) == 0 && (1:Int) == 1 && (HT.cP items.size items.size hi - HT.cP items.size 0 lo) == items.size)=true then _ else _) _ _ s
 rw [if_pos hyes];refine zaa (m:=Builtin.Tuple.tupleIsExact (.ref t)) (zaa (zbs ht.typeIs (zad ?_)));rw [if_pos (by decide)];refine zaa (zbO ?_)
 first
  |exact zad ⟨_,rfl,zad h⟩
  |exact zaa (zad (zad ⟨_,rfl,zad h⟩))
  |exact zaa (zad ⟨_,rfl,zad h⟩)
def mz (xs:List D)(lo hi:Option Int):List D:=(xs.drop (HT.cP xs.length 0 lo)).take (HT.cP xs.length xs.length hi - HT.cP xs.length 0 lo)
def JC (K:zac):V->Option Int->Option Int->Hp->VK->Prop:=fun x lo hi H Q=>MK K x lo hi H Q\/MI K x lo hi H Q \/
 ∃a xs,x=.ref a/\gQ K H a xs/\(HT.cP xs.length 0 lo=0/\HT.cP xs.length xs.length hi=xs.length)/\Q (.ref a) H
def Bg {X:Cx}:AG X (fun x lo hi H Q=>∃a xs,x=.ref a/\gQ X.K H a xs/\(HT.cP xs.length 0 lo=0/\HT.cP xs.length xs.length hi=xs.length)/\Q (.ref a) H):=by
 intro pins s Y H x v vl vu lo hi sl Q I rx hs pl pu h;obtain ⟨a,xs,rfl,hx,hw,q⟩:=h;cases rx;obtain ⟨its,r,ht,hz⟩:=I.tuple hx;have hlen:its.toArray.size=xs.length:=by rw [zaq];exact r.length.symm
 refine ⟨"tuple",_,PyProof.Rows.slot_tuple_getitem.lookup,ht.typeIs,?_⟩;exact kY ht hs pl pu (by rw [hlen];exact hw) ⟨.ref a,H,I,rfl,q⟩
def Bh {X:Cx}:AG X (JC X.K):=AG.or Eo (AG.or IP Bg)
abbrev FO:=Lo->ac->Option (Option Int×ac)
def ug (K:zac)(f:FO):TO:=fun Y H Q=>∃O U m o U',dZ K m H O Y/\aI K m H U/\f O U=some (o,U')/\∀H' m',dM m H m' H'->aI K m' H' U'->Q o H'
def eB:FO:=fun _ U=>some (none,U)
def d8 (f:FE):FO:=fun O U=>(f O U).bind fun a=>match a.1 with|.v (.int i)=>some (some i,a.2)|_=>none
def Hq (x:R)(lo hi:Option Int)(U:ac):Option (R×ac):=match x with
 |.v (.tup xs)=>some (.v (.tup (mz xs lo hi)),U)
 |x=>(kW x U).bind fun xs=>some (.p U.length,U++[.lst (mz xs lo hi)])
def Am (fa:FE)(fl fh:FO):FE:=fun O U=>(fa O U).bind fun a=>(fl O a.2).bind fun l=>(fh O l.2).bind fun h=>Hq a.1 l.1 h.1 h.2
theorem RelDs.drop {K:zac}{H:Hp}:∀{xs:List D} {vs:List V} (n:Nat),RelDs K H xs vs->RelDs K H (xs.drop n) (vs.drop n)
 |_,_,0,h=>h
 |[],_,n+1,h=>by simp only [RelDs] at h;subst h;simp only [List.drop_nil,RelDs]
 |x::xs,_,n+1,h=>by simp only [RelDs] at h;obtain ⟨v,r,rfl,_,h2⟩:=h;exact RelDs.drop n h2
theorem RelDs.take {K:zac}{H:Hp}:∀{xs:List D} {vs:List V} (n:Nat),RelDs K H xs vs->RelDs K H (xs.take n) (vs.take n)
 |_,_,0,h=>by simp only [List.take_zero,RelDs]
 |[],_,n+1,h=>by simp only [RelDs] at h;subst h;simp only [List.take_nil,RelDs]
 |x::xs,_,n+1,h=>by simp only [RelDs] at h;obtain ⟨v,r,rfl,h1,h2⟩:=h;simp only [List.take_succ_cons,RelDs];exact ⟨v,_,rfl,h1,RelDs.take n h2⟩
def RelDs.cut {H:Hp}{xs:List D}{vs:List V}{lo hi:Option Int}(h:RelDs K H xs vs):RelDs K H (mz xs lo hi) (oj vs lo hi):=by unfold mz oj;rw [h.length];exact (h.drop _).take _
section
variable {K:zac}{Y:L2.St}{H:Hp}{Q:VK}
def By {Q:Option Int->Hp->Prop}(h:ug K eB Y H Q):xL Y H Q:=by obtain ⟨O,U,m,o,U',hl,hs,e,k⟩:=h;cases e;exact k H m .refl hs
def Bx {f}{Q:Option Int->Hp->Prop}(h:ug K (d8 f) Y H Q):He (av K f) Y H Q:=by
 obtain ⟨O,U,m,o,U',hl,hs,e,k⟩:=h;obtain ⟨⟨x,U1⟩,e1,e⟩:=zab.mp e;split at e
 ·rename_i i q
  cases e;simp only at q;subst q;exact ⟨O,U,m,_,U1,hl,hs,e1,fun v H1 m1 x1 s1 r1=>⟨i,by simpa only [au,ao] using r1,k H1 m1 x1 s1⟩⟩
 ·cases e
theorem Mw {m:Tf}{U U':ac}{x d:R}{v:V}{lo hi:Option Int}(s:aI K m H U)(r:au K m H x v)(e:Hq x lo hi U=some (d,U'))(k:∀w H' m',dM m H m' H'->aI K m' H' U'->au K m' H' d w->Q w H'):JC K v lo hi H Q:=by
 have lst:∀xs,kW x U=some xs->(some (R.p U.length,U++[aq.lst (mz xs lo hi)]):Option (R×ac))=some (d,U')->JC K v lo hi H Q:=fun xs e1 e2=>by cases e2;obtain ⟨a,vs,rfl,q,rr⟩:=jb s r e1;refine .inl ⟨a,vs,rfl,q,fun p hp=>?_⟩;obtain ⟨x1,x2,x3⟩:=f9 s (rr.cut (lo:=lo) (hi:=hi)) hp;exact k _ _ _ x1 x2 x3
 have gen:(kW x U).bind (fun xs=>some (R.p U.length,U++[aq.lst (mz xs lo hi)]))=some (d,U')->JC K v lo hi H Q:=fun e=>by obtain ⟨xs,e1,e⟩:=zab.mp e;exact lst xs e1 e
 cases x with
 |p n=>exact gen e
 |s _ n=>exact gen e
 |x n=>exact gen e
 |f L ds=>exact gen e
 |v d0 =>
  cases d0 with
  |tup xs =>
   cases e;simp only [au,ao] at r;obtain ⟨a,vs,rfl,q,rr⟩:=r;by_cases hw:HT.cP vs.length 0 lo=0/\HT.cP vs.length vs.length hi=vs.length
   ·refine .inr (.inr ⟨a,vs,rfl,q,hw,k _ H m .refl s ?_⟩);simp only [au,ao];refine ⟨a,vs,rfl,q,?_⟩;have:=rr.cut (lo:=lo) (hi:=hi);unfold oj at this
    rw [hw.1,hw.2] at this
    simpa using this
   ·refine .inr (.inl ⟨a,vs,rfl,q,hw,fun p hp=>?_⟩);obtain ⟨x1,x2,x3⟩:=kG s (rr.cut (lo:=lo) (hi:=hi)) hp;exact k _ _ _ x1 x2 x3
  |non=>exact gen e
  |bl _=>exact gen e
  |int _=>exact gen e
  |str _=>exact gen e
  |fl _=>exact gen e
  |fd _ _=>exact gen e
  |key _=>exact gen e
def Mz {fa fl fh}(h:av K (Am fa fl fh) Y H Q):Om (JC K) (av K fa) (ug K fl) (ug K fh) Y H Q:=by obtain ⟨O,U,m,d,U',hl,hs,e,k⟩:=h;obtain ⟨⟨x,U1⟩,e1,e⟩:=zab.mp e;obtain ⟨⟨l,U2⟩,e2,e⟩:=zab.mp e;obtain ⟨⟨u,U3⟩,e3,e⟩:=zab.mp e;refine ⟨O,U,m,x,U1,hl,hs,e1,fun v H1 m1 x1 s1 r1=>?_⟩;refine ⟨O,U1,m1,l,U2,hl.ext x1,s1,e2,fun H2 m2 x2 s2=>?_⟩;refine ⟨O,U2,m2,u,U3,hl.ext (x1.trans x2),s2,e3,fun H3 m3 x3 s3=>?_⟩;exact Mw s3 (r1.ext (x2.trans x3)) e fun w H4 m4 x4 s4 r4=>k w H4 m4 (((x1.trans x2).trans x3).trans x4) s4 r4
def Au (xs:Th)(lo hi:Option Int):Th:=(xs.drop (HT.cP xs.length 0 lo)).take (HT.cP xs.length xs.length hi - HT.cP xs.length 0 lo)
def DA (xs:Th)(lo hi:Option Int):oj (xs.map V.int) lo hi=(Au xs lo hi).map V.int:=by unfold oj Au;rw [zag,List.map_take,List.map_drop]
def Ho (x:R)(lo hi:Option Int)(U:ac):Option (R×ac):=match x with
 |.v (.key ks)=>some (.v (.key (Au ks lo hi)),U)
 |_=>none
def wY (fa:FE)(fl fh:FO):FE:=fun O U=>(fa O U).bind fun a=>(fl O a.2).bind fun l=>(fh O l.2).bind fun h=>Ho a.1 l.1 h.1 h.2
def IS {m:Tf}{U U':ac}{x d:R}{v:V}{lo hi:Option Int}(s:aI K m H U)(r:au K m H x v)(e:Ho x lo hi U=some (d,U'))(k:∀w H' m',dM m H m' H'->aI K m' H' U'->au K m' H' d w->Q w H'):JC K v lo hi H Q:=by
 unfold Ho at e;split at e
 ·rename_i ks
  cases e;simp only [au,ao] at r;obtain ⟨a,rfl,q⟩:=r;by_cases hw:HT.cP (ks.map V.int).length 0 lo=0/\HT.cP (ks.map V.int).length (ks.map V.int).length hi=(ks.map V.int).length
  ·refine .inr (.inr ⟨a,_,rfl,.inl (.inl q),hw,k _ H m .refl s ?_⟩);simp only [au,ao];refine ⟨a,rfl,?_⟩;rw [q,←DA];unfold oj;rw [hw.1,hw.2,List.drop_zero,Nat.sub_zero,List.take_length]
  ·refine .inr (.inl ⟨a,_,rfl,.inl (.inl q),hw,fun p hp=>?_⟩);obtain ⟨x1,x2,x3⟩:=kG s ((kD ks).cut (lo:=lo) (hi:=hi)) hp;refine k _ _ _ x1 x2 ?_;simp only [au,ao];exact ⟨p,rfl,by rw [cp,DA]⟩
 ·cases e
def Jg {fa fl fh}(h:av K (wY fa fl fh) Y H Q):Om (JC K) (av K fa) (ug K fl) (ug K fh) Y H Q:=by obtain ⟨O,U,m,d,U',hl,hs,e,k⟩:=h;obtain ⟨⟨x,U1⟩,e1,e⟩:=zab.mp e;obtain ⟨⟨l,U2⟩,e2,e⟩:=zab.mp e;obtain ⟨⟨u,U3⟩,e3,e⟩:=zab.mp e;refine ⟨O,U,m,x,U1,hl,hs,e1,fun v H1 m1 x1 s1 r1=>?_⟩;refine ⟨O,U1,m1,l,U2,hl.ext x1,s1,e2,fun H2 m2 x2 s2=>?_⟩;refine ⟨O,U2,m2,u,U3,hl.ext (x1.trans x2),s2,e3,fun H3 m3 x3 s3=>?_⟩;exact IS s3 (r1.ext (x2.trans x3)) e fun w H4 m4 x4 s4 r4=>k w H4 m4 (((x1.trans x2).trans x3).trans x4) s4 r4
def Db (fa:FE)(fl fh:FO):FE:=fun O U=>(fa O U).bind fun a=>(fl O a.2).bind fun l=>(fh O l.2).bind fun h=>Bi a.1 l.1 h.1 h.2
def IR {x:R}{lo hi:Option Int}{U U':ac}{d:R}(e:Bi x lo hi U=some (d,U')):∃z,x=.v (.str z)/\z.length<=sizeLine/\d=.v (.str (Txt.slice z lo hi))/\U'=U:=by
 unfold Bi at e;split at e
 ·split at e
  ·rename_i hz
   cases e;exact ⟨_,rfl,hz,rfl,rfl⟩
  ·cases e
 ·cases e
def Jf {fa fl fh}(h:av K (Db fa fl fh) Y H Q):Om MJ (av K fa) (ug K fl) (ug K fh) Y H Q:=by obtain ⟨O,U,m,d,U',hl,hs,e,k⟩:=h;obtain ⟨⟨x,U1⟩,e1,e⟩:=zab.mp e;obtain ⟨⟨l,U2⟩,e2,e⟩:=zab.mp e;obtain ⟨⟨u,U3⟩,e3,e⟩:=zab.mp e;refine ⟨O,U,m,x,U1,hl,hs,e1,fun v H1 m1 x1 s1 r1=>?_⟩;refine ⟨O,U1,m1,l,U2,hl.ext x1,s1,e2,fun H2 m2 x2 s2=>?_⟩;refine ⟨O,U2,m2,u,U3,hl.ext (x1.trans x2),s2,e3,fun H3 m3 x3 s3=>?_⟩;obtain ⟨z,rfl,hz,rfl,rfl⟩:=IR e;simp only [au,ao] at r1;exact ⟨z,r1,hz,k _ H3 m3 ((x1.trans x2).trans x3) s3 (by simp only [au,ao])⟩
end
def PO.imp {e:Option Expr}{t t':TO}(h:PO X e t)(k:∀{Y H Q},t' Y H Q->t Y H Q):PO X e t':=fun pins s Y H Q I q=>h pins s Y H Q I (k q)
def lz:FS:=fun _ _=>none
namespace R
section
variable {X:Cx}{a b e:Expr}{es:Tj}{fa fb:FE}{ga:FA}{pos p:Pos}{x:Str}
def aj {i j}:PE X (.Constant (.int i) j pos) (av X.K (fK (.int i))):=PE.imp J0 (jO fun _ _=>by simp only [au,ao])
def qM (ha:PE X a (av X.K fa)):PE X (.UnaryOp .USub a pos) (av X.K (oH n9 fa)):=PE.imp (M0 Iw ha) (My Nw)
def n6 (ha:PE X a (av X.K fa)):PO X (some a) (ug X.K (d8 fa)):=PO.imp (EZ ha) Bx
def JH {k:Nat}{f:Addr}{fd:FuncData}{ps:Tn}{n:Nat}{mf:MF}(F:cF X.prog X.w X.K X.mg X.base kT k f fd ps (AF X.K n mf))(hr:bQ k X.A)(hg:Gl X x)(hm:X.mg x=some (.ref f))(hk:PySem.W.keepIn X.K (.ref f)=true)(hb:f6 X.K fd ps [])
  (ha:PA X (e::es) (gp X.K ga)) (hdb:(x == ("__debug__" : Str))=false:=by decide) (he:l5 e es X:=by exact aw rfl) (hpl:(backTo pos (starEach es X.env)).any (·.1)=false:=by exact aD rfl) :
  PE X (.Call (.Name x p) (e::es) [] pos) (av X.K (aL mf n ga)):=PE.imp (oC F hr hg hm hk hb .nil qO ha hdb he hpl) EH
theorem kE {d:D}(h:iA X.K X.mg x d)(hg:Gl X x:=by rfl)(hd:(x == ("__debug__" : Str))=false:=by decide):PE X (.Name x pos) (av X.K (fK d)):=by obtain ⟨u,v,hm,r,rd⟩:=h;exact PE.imp (E8 hg hm r hd) (jO fun _ H=>rd H)
def oY {op:CmpOp}{r:R2}{g:R->R->ac->Option (R×ac)}(ho:ku X (compareOp op) r)(hg:qf X.K g r)(ha:PE X a (av X.K fa))(hb:PE X b (av X.K fb))(hm:behindInMarks op b=false):PT X (.Compare a [op] [b] pos) (fU X.K (fB (ar g fa fb))) :=
 PT.imp (ya ho ha hb hm) fun h=>by obtain ⟨O,U,m,d,U',hl,hs,e,k⟩:=xR h;exact iJ hg ⟨O,U,m,d,U',hl,hs,e,k⟩
def L8 {op:CmpOp}{neg:Bool}{c:D}{cv:V}(hc:(c=.non/\cv=.non)\/∃b,c=.bl b/\cv=.bl b)(ho:ku X (compareOp op) (EJ neg cv))(ha:PE X a (av X.K fa))(hb:PE X b (tC cv))(hm:behindInMarks op b=false):PT X (.Compare a [op] [b] pos) (fU X.K (fB (oH (uT neg c) fa))) :=
 PT.imp (ya ho ha hb hm) fun h=>by obtain ⟨O,U,m,d,U',hl,hs,e,k⟩:=xR h;exact MD hc ⟨O,U,m,d,U',hl,hs,e,k⟩
variable {ta:FT}
variable {st:Stmt}{c tg iter:Expr}
def i6:PS X st (eP X.K lz):=fun pins s Y H D I h=>by obtain ⟨O,U,m,out,hl,hs,e,k⟩:=h;cases e
variable {g:FG}{fi:FI}
def oq.imp {ifs:Tj}{t t':TT}(h:oq X ifs t)(k:∀{Y H Q},t' Y H Q->t Y H Q):oq X ifs t':=fun pins s Y H Q I q=>h pins s Y H Q I (k q)
theorem io {ifs:Tj}{scope:Scope}(ix:List Nat)(own caps:Tn)(hc:X.calm=true)(n:aP X.env.scope scope own caps)(hi:PI X tg iter (zt X.K fi))
  (hb:∀cl C s₂ H₂ fp,PG (aM X scope cl C s₂ H₂ fp (own++caps)) tg (qp X.K g)/\oq (aM X scope cl C s₂ H₂ fp (own++caps)) ifs (fU X.K ta)/\PE (aM X scope cl C s₂ H₂ fp (own++caps)) e (av X.K fa))
  (hix:ix.map (fun i=>X.N[i]?)=caps.map some:=by rfl)
  (hs:∀x,foldedSetIterable iter X.env x=pure x:=by intro _;rfl):PE X (.ListComp e [⟨tg,iter,ifs,0⟩] scope pos) (av X.K (eI ix own.length fi g ta fa)):=by
 refine PE.imp (Ce (ix:=ix) hc n (by simpa using congrArg List.length hix) (fun j i y h1 h2=>?_) hi hb hs) (xQ rfl);have:=congrArg (fun l=>l[j]?) hix
 simp only [zaE,h1,h2,zbp] at this
 exact Option.some.inj this
theorem sk (i:Nat){py spos:Pos}{ifs:Tj}{scope:Scope}(ix:List Nat)(own caps:Tn)(hc:X.calm=true)(n:aP X.env.scope scope own caps)(hN:X.N.Nodup)(hi:PI X tg iter (zt X.K fi))
  (hb:∀cl C s₂ H₂ fp,PG (aM X scope cl C s₂ H₂ fp (own++caps)) tg (qp X.K g)/\oq (aM X scope cl C s₂ H₂ fp (own++caps)) ifs (fU X.K ta)/\PE (aM X scope cl C s₂ H₂ fp (own++caps)) e (av X.K fa))
  (hsw:swapsWith (.ListComp e [⟨tg,iter,ifs,0⟩] scope pos) (some (.Name x py)) spos.line X.env=pure true:=by rfl)
  (hy:X.N[i]?=some x:=by rfl) (hyl:Gw X.env.scope x:=by first|exact Or.inl rfl|exact Or.inr rfl)
  (hix:ix.map (fun i=>X.N[i]?)=caps.map some:=by rfl)
  (hs:∀x,foldedSetIterable iter X.env x=pure x:=by intro _;rfl) (hf:X.fn x=true\/X.env.scope.names.lookup x=some .local:=by first|exact .inl rfl|exact .inr rfl) :
  PS X (.Assign [.Name x py] (.ListComp e [⟨tg,iter,ifs,0⟩] scope pos) spos) (eP X.K (aK i (eI ix own.length fi g ta fa))):=by
 refine PS.imp (B2 (i:=i) (ix:=ix) hc n hN hy hyl (by simpa using congrArg List.length hix) (fun j i y h1 h2=>?_) hi hb hsw hs hf) fun h=>?_
 ·have:=congrArg (fun l=>l[j]?) hix
  simp only [zaE,h1,h2,zbp] at this
  exact Option.some.inj this
 ·have h':=Bw h
  obtain ⟨O,U,m,d,U',hl,hs,e,k⟩:=h';exact xQ rfl ⟨O,U,m,d,U',hl,hs,e,k⟩
end
end R
def j0 (x:R)(U:ac):Bool:=match x with|.v (.fl _)=>true|.p n=>(match U[n]? with|some (.lst _)=>true|some (.fz _)=>true|_=>false)|_=>false
def yC (g:R->List R->ac->Option (R×ac))(fa:FE)(ga:FA):FE:=fun O U=>(fa O U).bind fun a=>if j0 a.1 a.2=true then (ga O a.2).bind fun b=>g a.1 b.1 b.2 else none
def CV {m:Tf}{H:Hp}{U:ac}{x:R}{v:V}(s:aI K m H U)(r:au K m H x v)(e:j0 x U=true):Pd K "list" v H:=by
 have:∃xs,kW x U=some xs:=by
  cases x with
  |v d=>cases d <;> simp_all [j0,kW]
  |s _ _=>simp [j0] at e
  |x _=>simp [j0] at e
  |f _ _=>simp [j0] at e
  |p n =>
   simp only [j0] at e;simp only [kW];split at e
   ·rename_i xs q;exact ⟨xs,by first|rfl|rw [q]⟩
   ·rename_i xs q;exact ⟨xs,by first|rfl|rw [q]⟩
   ·cases e
 obtain ⟨xs,e⟩:=this;obtain ⟨a,vs,rfl,q,_⟩:=jb s r e;exact .inl ⟨rfl,vs,q⟩
def MB {H:Hp}{Q:VK}{g r fa ga}(hg:RK K g r)(h:av K (yC g fa ga) Y H Q):Pg K "list" r (av K fa) (gp K ga) Y H Q:=by
 obtain ⟨O,U,m,d,U',hl,hs,e,k⟩:=h;obtain ⟨⟨x,U1⟩,e1,e⟩:=zab.mp e;split at e
 ·rename_i hx;obtain ⟨⟨ys,U2⟩,e2,e⟩:=zab.mp e;refine ⟨O,U,m,x,U1,hl,hs,e1,fun v H1 m1 x1 s1 r1=>⟨CV s1 r1 hx,?_⟩⟩;refine ⟨O,U1,m1,ys,U2,hl.ext x1,s1,e2,fun vs H2 m2 x2 s2 r2=>?_⟩;exact hg m2 H2 U2 x ys d U' v vs Q s2 (r1.ext x2) r2 e fun w H3 m3 x3 s3 r3=>k w H3 m3 ((x1.trans x2).trans x3) s3 r3
 ·cases e
structure bM (K:zac)(mg:Td)(x:Str)(st:Stmt)(ps:Tn):Prop where
 ex:∃f fd,oK K x x st f fd/\f6 K fd ps []/\mg x=some (.ref f)
structure QO (K:zac)(mg:Td)(x:Str)(st:Stmt)(ps:Tn)(c:Addr):Prop where
 ex:∃f fd,QN K x st f fd c/\f6 K fd ps []/\mg x=some (.ref f)
def bn (P:Program)(w:World)(K:zac)(mg:Td)(base:Heap)(k:Nat)(x:Str)(ps:Tn)(mf:MF):Prop :=
 ∃f fd,cF P w K mg base kT k f fd ps (AF K ps.length mf)/\PySem.W.keepIn K (.ref f)=true/\f6 K fd ps []/\mg x=some (.ref f)
def gS (P:Program)(w:World)(K:zac)(mg:Td)(base:Heap)(k:Nat)(x:Str)(ps:Tn)(mf:MC):Prop :=
 ∃f fd,cF P w K mg base kT k f fd ps (zi K ps.length (cX K mf))/\PySem.W.keepIn K (.ref f)=true/\f6 K fd ps []/\mg x=some (.ref f)
def me {mg:Td}{base:Heap}{k:Nat}{x:Str}{ps:Tn}{mf:MF}(h:bn P w K mg base k x ps mf):bn P w K mg base k x ps (uk mf) :=
 let ⟨f,fd,F,r⟩:=h
 ⟨f,fd,F.imp fun _ _ _ _ z=>Mt z,r⟩
def jY {mg:Td}{base:Heap}{k:Nat}{x:Str}{ps:Tn}{mf:MC}(h:gS P w K mg base k x ps mf):gS P w K mg base k x ps (uk mf) :=
 let ⟨f,fd,F,r⟩:=h
 ⟨f,fd,F.imp fun _ _ _ _ z=>IN z,r⟩
def nV (P:Program)(w:World)(K:zac)(mg:Td)(base:Heap)(k:Nat)(x:Str)(ps:Tn)(mf:MW):Prop :=
 ∃f fd,cF P w K mg base kT k f fd ps (Ll K ps.length mf)/\PySem.W.keepIn K (.ref f)=true/\f6 K fd ps []/\mg x=some (.ref f)
structure jz (K:zac)(C:Addr)(nm qual:Str)(st:Stmt)(ps:Tn):Prop where
 ex:∃f fd,oK K nm qual st f fd/\f6 K fd ps []/\Gv K C nm f
def ee (P:Program)(w:World)(K:zac)(mg:Td)(base:Heap)(k:Nat)(nm:Str)(C:Addr)(ps:Tn)(mf:MW):Prop :=
 ∃f fd,cF P w K mg base kT k f fd ps (Ll K ps.length mf)/\f6 K fd ps []/\Gv K C nm f
namespace R
def okP {P:Program}{w:World}{K:zac}{mg:Td}{base:Heap}{x:Str}{st:Stmt}{N ps:Tn}{k:Nat}{b:FS}(d:bM K mg x st ps)(S:ax N ps (ai st))
  (hbody:∀(f:Addr) (cdv:Value) (A:Around) (outer:List Env) (s:Shared) (H:Hp) (E:XK),bQ k (A.deeper (envOfC x (ai st) s.heap.objs.size f cdv))->on (jE kT P w K mg base N x (ai st) f cdv A outer s H E).nox (bu st) (eP K b)) :
  bn P w K mg base (k+1) x ps (fG N.length b):=by
 obtain ⟨f,fd,F,B,M⟩:=d.ex;exact ⟨f,fd,oK.okP F S (hbody f),F.kp,B,M⟩
theorem aE {X:Cx}{k:Nat}{x:Str}{ps:Tn}{mf:MF}{e:Expr}{es:Tj}{ga:FA}{p pos:Pos}{n:Nat}(F:bn X.prog X.w X.K X.mg X.base k x ps mf)(hr:bQ k X.A)(ha:PA X (e::es) (gp X.K ga))(hg:Gl X x:=by rfl)(hn:ps.length=n:=by rfl)
  (hdb:(x == ("__debug__" : Str))=false:=by decide) (he:l5 e es X:=by exact aw rfl) (hpl:(backTo pos (starEach es X.env)).any (·.1)=false:=by exact aD rfl) :
  PE X (.Call (.Name x p) (e::es) [] pos) (av X.K (aL mf n ga)):=by
 subst hn;obtain ⟨f,fd,F,kp,B,M⟩:=F;exact JH F hr hg M kp B ha hdb he hpl
theorem g9 {X:Cx}{k:Nat}{x:Str}{ps:Tn}{mf:MF}{e:Expr}{es:Tj}{ga:FA}{p pos:Pos}{n:Nat}(F:bn X.prog X.w X.K X.mg X.base k x ps mf)(hr:bQ k X.A)(ha:PA X (e::es) (gp X.K ga))(hg:Gl X x:=by rfl)(hn:ps.length=n:=by rfl)
  (hdb:(x == ("__debug__" : Str))=false:=by decide) (he:l5 e es X:=by exact aw rfl) (hpl:(backTo pos (starEach es X.env)).any (·.1)=false:=by exact aD rfl) :
  PE X (.Call (.Name x p) (e::es) [] pos) (av X.K (dY mf n ga)):=by
 subst hn;obtain ⟨f,fd,F,kp,B,M⟩:=F;exact PE.imp (oC (cF.borN (F.imp fun _ _ _ _ h=>Mu h) ps.length) hr hg M kp B .nil qO ha hdb he hpl) BD
def okN {P:Program}{w:World}{K:zac}{mg:Td}{base:Heap}{x:Str}{st:Stmt}{N ps:Tn}{k:Nat}{b:FS}(d:bM K mg x st ps)(S:ax N ps (ai st))
  (hbody:∀(f:Addr) (cdv:Value) (A:Around) (outer:List Env) (s:Shared) (H:Hp) (E:XK),bQ k (A.deeper (envOfC x (ai st) s.heap.objs.size f cdv))->on (jE kT P w K mg base N x (ai st) f cdv A outer s H E).nox (bu st) (eP K b)) :
  gS P w K mg base (k+1) x ps (wo N.length b):=by
 obtain ⟨f,fd,F,B,M⟩:=d.ex;exact ⟨f,fd,oK.okN F S (hbody f),F.kp,B,M⟩
theorem fg {X:Cx}{k:Nat}{x:Str}{ps:Tn}{mf:MC}{e:Expr}{es:Tj}{ga:FA}{p pos:Pos}{n:Nat}(F:gS X.prog X.w X.K X.mg X.base k x ps mf)(hr:bQ k X.A)(ha:PA X (e::es) (gp X.K ga))(hg:Gl X x:=by rfl)(hn:ps.length=n:=by rfl)
  (hdb:(x == ("__debug__" : Str))=false:=by decide) (he:l5 e es X:=by exact aw rfl) (hpl:(backTo pos (starEach es X.env)).any (·.1)=false:=by exact aD rfl) :
  PE X (.Call (.Name x p) (e::es) [] pos) (av X.K (bZ mf n ga)):=by
 subst hn;obtain ⟨f,fd,F,kp,B,M⟩:=F;exact PE.imp (oC (cF.borN F ps.length) hr hg M kp B .nil qO ha hdb he hpl) BE
def okW {P:Program}{w:World}{K:zac}{mg:Td}{base:Heap}{x:Str}{st:Stmt}{N ps:Tn}{k:Nat}{b:FS}(d:bM K mg x st ps)(S:ax N ps (ai st))
  (hbody:∀(f:Addr) (cdv:Value) (A:Around) (outer:List Env) (s:Shared) (H:Hp) (E:XK),bQ k (A.deeper (envOfC x (ai st) s.heap.objs.size f cdv))->on (jE kT P w K mg base N x (ai st) f cdv A outer s H E).nox (bu st) (eP K b)) :
  nV P w K mg base (k+1) x ps (mO N.length b):=by
 obtain ⟨f,fd,F,B,M⟩:=d.ex;exact ⟨f,fd,oK.okW F S (hbody f),F.kp,B,M⟩
def HM {P:Program}{w:World}{K:zac}{mg:Td}{base:Heap}{nm qual:Str}{C:Addr}{st:Stmt}{N ps:Tn}{k:Nat}{b:FS}(d:jz K C nm qual st ps)(S:ax N ps (ai st))
  (hbody:∀(f:Addr) (cdv:Value) (A:Around) (outer:List Env) (s:Shared) (H:Hp) (E:XK),bQ k (A.deeper (envOfC qual (ai st) s.heap.objs.size f cdv))->on (jE kT P w K mg base N qual (ai st) f cdv A outer s H E).nox (bu st) (eP K b)) :
  ee P w K mg base (k+1) nm C ps (mO N.length b):=by
 obtain ⟨f,fd,F,B,M⟩:=d.ex;exact ⟨f,fd,oK.okW F S (hbody f),B,M⟩
theorem oB {X:Cx}{k:Nat}{x:Str}{ps:Tn}{mf:MW}{e:Expr}{es:Tj}{ga:FA}{p pos:Pos}{n:Nat}(F:nV X.prog X.w X.K X.mg X.base k x ps mf)(hr:bQ k X.A)(ha:PA X (e::es) (gp X.K ga))(hg:Gl X x:=by rfl)(hn:ps.length=n:=by rfl)
  (hdb:(x == ("__debug__" : Str))=false:=by decide) (he:l5 e es X:=by exact aw rfl) (hpl:(backTo pos (starEach es X.env)).any (·.1)=false:=by exact aD rfl) :
  PE X (.Call (.Name x p) (e::es) [] pos) (av X.K (j6 mf n ga)):=by
 subst hn;obtain ⟨f,fd,F,kp,B,M⟩:=F;exact PE.imp (oC F hr hg M kp B .nil qO ha hdb he hpl) BC
theorem i8 {X:Cx}{k:Nat}{c nm:Str}{C:Addr}{ps:Tn}{mf:MW}{o e:Expr}{es:Tj}{fo:FE}{ga:FA}{apos pos:Pos}{n:Nat}{pl:Sem Bool}(N:ot X.K X.mg c C)(F:ee X.prog X.w X.K X.mg X.base k nm C ps mf)(hr:bQ k X.A)(ho:PE X o (av X.K fo))(ha:PA X (e::es) (gp X.K ga))(hn:ps.length=n:=by rfl)
  (he:l5 e es X:=by exact aw rfl) (hpl:(backTo pos (starEach es X.env)).any (·.1)=false:=by exact aD rfl)
  (ht:eval (.Call (.Attribute o nm apos) (e::es) [] pos) X.env=(do
   let ov ←eval o X.env
   standAt apos.atName
   let (mth,first) ←holding [ov] (getMethod ov nm pl)
   callWith pos mth first (backTo pos (starEach (e::es) X.env)) (backToKw pos (keywordEach [] X.env))):=by rfl) :
  PE X (.Call (.Attribute o nm apos) (e::es) [] pos) (av X.K (fZ c nm mf n fo ga)):=by
 subst hn;obtain ⟨f,fd,F,B,M⟩:=F;exact PE.imp (E6 ho N.cl M F hr B .nil qO ha he hpl ht) (EB N)
theorem su {X:Cx}{k:Nat}{c:Str}{C:Addr}{ps:Tn}{mf:MW}{e:Expr}{es:Tj}{ga:FA}{p pos:Pos}{n:Nat}(N:ot X.K X.mg c C)(hk:PySem.W.makesIn X.K C=true)(hp:PySem.W.keepIn X.K (.ref C)=true)(F:ee X.prog X.w X.K X.mg X.base k "__init__" C ps mf)(hr:bQ (k+1) X.A)(ha:PA X (e::es) (gp X.K ga))(hg:Gl X c:=by rfl)(hn:ps.length=n:=by rfl)
  (hdb:(c == ("__debug__" : Str))=false:=by decide) (he:l5 e es X:=by exact aw rfl) (hpl:(backTo pos (starEach es X.env)).any (·.1)=false:=by exact aD rfl):PE X (.Call (.Name c p) (e::es) [] pos) (av X.K (nj c mf n ga)):=by
 subst hn;obtain ⟨f,fd,F,B,M⟩:=F;exact PE.imp (E7 ⟨hk,M.at_,M.fn,hp⟩ F hr hg N.mg B .nil qO ha hdb he hpl) (Bz N)
end R
def Ki {H:Hp}{a:Addr}{ns:Th}{mf:MF}(hOz:DR H)(hS:jF K H a (ns.map V.int))(h:mf [.fl (ns.map .int)]=some (.bl true)):AF K 1 mf [.ref a] H (fun v _=>v=.bl true) fun _ _ _=>False:=by
 refine ⟨_,_,rfl,?_,h,fun v H' _ r=>by simpa only [ao] using r⟩;have rInts:∀{ns:Th},RelDs K H (ns.map .int) (ns.map V.int):=fun {ns}=>by
  induction ns with
  |nil=>simp only [za6,RelDs]
  |cons n ns ih=>simp only [zaf,RelDs];exact ⟨_,_,rfl,by simp only [ao],ih⟩
 simp only [RelDs];refine ⟨_,_,rfl,?_,rfl⟩;simp only [ao];refine ⟨a,_,rfl,?_,rInts⟩;rcases hS with (hS|⟨o,hS⟩)|hS
 ·rcases hOz a with z|⟨o,xs,z⟩ <;> rw [hS] at z <;> cases z
 ·exact .inl ⟨o,hS⟩
 ·exact .inr (.inr hS)
namespace R
end R
@[irreducible] def ZE (X:Cx)(e:Expr)(t:TE):Prop:=L2.PE X e t
@[irreducible] def ZT (X:Cx)(e:Expr)(t:TT):Prop:=L2.PT X e t
@[irreducible] def ZW (X:Cx)(e:Expr)(t:TT):Prop:=L2.PW X e t
@[irreducible] def ZA (X:Cx)(e:Tj)(t:TA):Prop:=L2.PA X e t
@[irreducible] def ZS (X:Cx)(e:Stmt)(t:TS):Prop:=L2.PS X e t
@[irreducible] def AD (X:Cx)(e:Tk)(t:TS):Prop:=L2.on X e t
@[irreducible] def ZG (X:Cx)(e:Expr)(t:TG):Prop:=L2.PG X e t
@[irreducible] def O5 (X:Cx)(e:Tj)(t:D3):Prop:=L2.D4 X e t
@[irreducible] def ZO (X:Cx)(e:Option Expr)(t:TO):Prop:=L2.PO X e t
@[irreducible] def Gn (X:Cx)(e:Tj)(t:TT):Prop:=HW.oq X e t
@[irreducible] def ZI (X:Cx)(tg iter:Expr)(t:TI):Prop:=L2.PI X tg iter t
section
variable {X:Cx}{a b e:Expr}{es:Tj}{fa fb:FE}{ga:FA}{pos p p2:Pos}{x:Str}
theorem ag (i:Nat)(hN:X.N[i]?=some x:=by rfl)(hv:O6 X.env.scope x:=by first|exact Or.inl rfl|exact Or.inr (Or.inl rfl)|exact Or.inr (Or.inr rfl))(hd:(x == ("__debug__" : Str))=false:=by decide)
  (hcd:(x == ("__classdict__" : Str))=false:=by decide):ZE X (.Name x pos) (av X.K (af i)):=by
 exists PE.imp (JU hN hv hd hcd) Ja
def aj {i j}:ZE X (.Constant (.int i) j pos) (av X.K (fK (.int i))):=by exists R.aj
def n8 {i j}:ZE X (.Constant (.bool i) j pos) (av X.K (fK (.bl i))):=by exists PE.imp M5 (jO fun _ _=>by simp only [au,ao])
def fV {i j}:ZE X (.Constant (.str i) j pos) (av X.K (fK (.str i))):=by exists PE.imp JW (jO fun _ _=>by simp only [au,ao])
def BS {j}:ZE X (.Constant .none j pos) (av X.K (fK .non)):=by exists PE.imp ww (jO fun _ _=>by simp only [au,ao])
def cq (ha:ZE X a (av X.K fa))(hb:ZE X b (av X.K fb)):ZE X (.BinOp a .Add b pos) (av X.K (ar cO fa fb)):=by exists PE.imp (nJ ((J9.or (wz.or (Ff.or J8))).or Fh) ha hb) (iJ KC)
def lf (ha:ZE X a (av X.K fa))(hb:ZE X b (av X.K fb)):ZE X (.BinOp a .Sub b pos) (av X.K (ar iU fa fb)):=by exists PE.imp (nJ J3 ha hb) (iJ Nt)
def pq (ha:ZE X a (av X.K fa))(hb:ZE X b (av X.K fb)):ZE X (.BinOp a .Mult b pos) (av X.K (ar mV fa fb)):=by exists PE.imp (nJ J5 ha hb) (iJ Nx)
def fH (ha:ZE X a (av X.K fa))(hb:ZE X b (av X.K fb)):ZE X (.BinOp a .FloorDiv b pos) (av X.K (ar fI fa fb)):=by exists PE.imp (nJ Fe ha hb) (iJ NG)
def bY (ha:ZE X a (av X.K fa))(hb:ZE X b (av X.K fb)):ZE X (.BinOp a .Mod b pos) (av X.K (ar bO fa fb)):=by exists PE.imp (nJ J6 ha hb) (iJ Ny)
def ul (ha:ZE X a (av X.K fa))(hb:ZE X b (av X.K fb)):ZE X (.BinOp a .Pow b pos) (av X.K (ar iL fa fb)):=by exists PE.imp (nJ J4 ha hb) (iJ Nv)
def MX (ha:ZE X a (av X.K fa))(hb:ZE X b (av X.K fb)):ZE X (.BinOp a .BitOr b pos) (av X.K (ar (Lm (!HS.bt X.w)) fa fb)):=by exists PE.imp (nJ Cj ha hb) (iJ PF)
def qM (ha:ZE X a (av X.K fa)):ZE X (.UnaryOp .USub a pos) (av X.K (oH n9 fa)):=by exists R.qM ha
def xW (ha:ZE X a (av X.K fa)):ZE X (.UnaryOp .Not a pos) (av X.K (pR fa)):=by exists PE.imp (JY ha) Jl
def MT (hu:X.A.units+64 < cLine)(ha:ZE X a (av X.K fa))(hb:ZE X b (av X.K fb)):ZE X (.Compare a [.Eq] [b] pos) (av X.K (ar (fS false) fa fb)):=by exists PE.imp (ye (wy hu) ha hb (iq _)) (iJ FF)
def Pr (hu:X.A.units+64 < cLine)(ha:ZE X a (av X.K fa))(hb:ZE X b (av X.K fb)):ZE X (.Compare a [.NotEq] [b] pos) (av X.K (ar (fS true) fa fb)):=by exists PE.imp (ye (Ck hu) ha hb (iq _)) (iJ FF)
def HI {rest:Tj}(ha:ZE X a (av X.K fa))(hb:ZE X (.BoolOp .And (b::rest) pos) (av X.K fb)):ZE X (.BoolOp .And (a::b::rest) pos) (av X.K (Dc fa fb)):=by exists PE.imp (J2 ha hb) JB
def Pq {rest:Tj}(ha:ZE X a (av X.K fa))(hb:ZE X (.BoolOp .Or (b::rest) pos) (av X.K fb)):ZE X (.BoolOp .Or (a::b::rest) pos) (av X.K (Oz fa fb)):=by exists PE.imp (M3 ha hb) MA
def BR {op}(ha:ZE X a (av X.K fa)):ZE X (.BoolOp op [a] pos) (av X.K fa):=by exists JX ha
def am:ZA X [] (gp X.K ak):=by exists PA.imp Cg Jm
def ah (ha:ZE X e (av X.K fa))(hr:ZA X es (gp X.K ga))(hs:l5 e es X:=by exact aw rfl):ZA X (e::es) (gp X.K (ae fa ga)):=by exists PA.imp (yf ha hr hs) EG
def dF {x1}(h:ZA X es (gp X.K ga)):ZE X (.Tuple es x1 pos) (av X.K (du ga)):=by exists PE.imp (JV h) Jb
def fW (h:ZA X es (gp X.K ga)):ZE X (.List es pos) (av X.K (cN ga)):=by exists PE.imp (JZ h) Jn
def bg (ha:ZE X a (av X.K fa)):ZE X a (av X.K (bP fa)):=by exists PE.imp (wx ha) Hs
def ba (ha:ZE X a (av X.K fa))(hb:ZE X b (av X.K fb))(hs:yT b:=by intro _ _;rfl):ZE X (.Subscript a b pos) (av X.K (ar bh fa fb)):=by exists PE.imp (M4 Kn ha hb hs) (iJ PK)
def qq:ZO X none (ug X.K eB):=by exists PO.imp E1 By
def n6 (ha:ZE X a (av X.K fa)):ZO X (some a) (ug X.K (d8 fa)):=by exists R.n6 ha
def HC {lo hi:Option Expr}{fl fh:FO}(ha:ZE X a (av X.K fa))(hl:ZO X lo (ug X.K fl))(hh:ZO X hi (ug X.K fh)):ZE X (.Subscript a (.Slice lo hi none p2) pos) (av X.K (wY fa fl fh)):=by exists PE.imp (pB Bh ha hl hh) Jg
def zy {lo hi:Option Expr}{fl fh:FO}(ha:ZE X a (av X.K fa))(hl:ZO X lo (ug X.K fl))(hh:ZO X hi (ug X.K fh)):ZE X (.Subscript a (.Slice lo hi none p2) pos) (av X.K (Am fa fl fh)):=by exists PE.imp (pB Bh ha hl hh) Mz
def iK (hg:Gl X "len")(hm:X.mg "len" = none)(ha:ZA X (e::es) (gp X.K ga))(he:l5 e es X:=by exact aw rfl)(hpl:(backTo pos (starEach es X.env)).any (·.1)=false:=by exact aD rfl) :
  ZE X (.Call (.Name "len" p) (e::es) [] pos) (av X.K (dQ fP ga)):=by
 exists PE.imp (gH tq hg hm PySem.boot_len ha (he:=he) (hpl:=hpl)) (g8 NA)
def HE (hc:X.calm=true)(hg:Gl X "set")(hm:X.mg "set" = none)(ha:ZA X (e::es) (gp X.K ga))(he:l5 e es X:=by exact aw rfl)(hpl:(backTo pos (starEach es X.env)).any (·.1)=false:=by exact aD rfl) :
  ZE X (.Call (.Name "set" p) (e::es) [] pos) (av X.K (dQ (wf (!HS.bt X.w)) ga)):=by
 exists PE.imp (eS (Ay hc) hg hm (by decide) ha (he:=he) (hpl:=hpl)) (g8 Kx)
def BQ (hc:X.calm=true)(hg:Gl X "sorted")(hm:X.mg "sorted" = none)(ha:ZA X (e::es) (gp X.K ga))(he:l5 e es X:=by exact aw rfl)(hpl:(backTo pos (starEach es X.env)).any (·.1)=false:=by exact aD rfl) :
  ZE X (.Call (.Name "sorted" p) (e::es) [] pos) (av X.K (dQ (kB (!HS.bt X.w)) ga)):=by
 exists PE.imp (gH (sY hc) hg hm (by decide) ha (he:=he) (hpl:=hpl)) (g8 Ah)
def BV (hc:X.calm=true)(hg:Gl X "dict")(hm:X.mg "dict" = none)(ha:ZA X (e::es) (gp X.K ga))(he:l5 e es X:=by exact aw rfl)(hpl:(backTo pos (starEach es X.env)).any (·.1)=false:=by exact aD rfl) :
  ZE X (.Call (.Name "dict" p) (e::es) [] pos) (av X.K (dQ pY ga)):=by
 exists PE.imp (eS (rB hc) hg hm (by decide) ha (he:=he) (hpl:=hpl)) (g8 KB)
def HF (hc:X.calm=true)(hg:Gl X "min")(hm:X.mg "min" = none)(ha:ZA X (e::es) (gp X.K ga))(he:l5 e es X:=by exact aw rfl)(hpl:(backTo pos (starEach es X.env)).any (·.1)=false:=by exact aD rfl) :
  ZE X (.Call (.Name "min" p) (e::es) [] pos) (av X.K (dQ oa ga)):=by
 exists PE.imp (gH (Az hc) hg hm (by decide) ha (he:=he) (hpl:=hpl)) (g8 Nz)
theorem kE {d:D}(h:iA X.K X.mg x d)(hg:Gl X x:=by rfl)(hd:(x == ("__debug__" : Str))=false:=by decide):ZE X (.Name x pos) (av X.K (fK d)):=by exists R.kE h hg hd
def EM (hg:Gl X "tuple")(hm:X.mg "tuple" = none)(ha:ZA X (e::es) (gp X.K ga))(he:l5 e es X:=by exact aw rfl)(hpl:(backTo pos (starEach es X.env)).any (·.1)=false:=by exact aD rfl) :
  ZE X (.Call (.Name "tuple" p) (e::es) [] pos) (av X.K (dQ ze ga)):=by
 exists PE.imp (eS lh hg hm (by decide) ha (he:=he) (hpl:=hpl)) (g8 Nr)
def BU (hg:Gl X "list")(hm:X.mg "list" = none)(ha:ZA X (e::es) (gp X.K ga))(he:l5 e es X:=by exact aw rfl)(hpl:(backTo pos (starEach es X.env)).any (·.1)=false:=by exact aD rfl) :
  ZE X (.Call (.Name "list" p) (e::es) [] pos) (av X.K (dQ pI ga)):=by
 exists PE.imp (eS s9 hg hm (by decide) ha (he:=he) (hpl:=hpl)) (g8 Ky)
def oX (ha:ZE X a (av X.K fa))(he:∀whole,isTrue a X.env whole=(do let v ←whole;standAt a.pos;holding [v] (truthy v)):=by intro _;rfl):ZT X a (fU X.K (j5 fa)):=by exists PT.imp (BZ ha he) Jd
def L7 (ha:ZE X a (av X.K fa))(hb:ZE X b (av X.K fb)):ZT X (.Compare a [.Lt] [b] pos) (fU X.K (fB (ar Ng fa fb))):=by exists R.oY M6 PH ha hb (iq _)
def ID (ha:ZE X a (av X.K fa))(hb:ZE X b (av X.K fb)):ZT X (.Compare a [.LtE] [b] pos) (fU X.K (fB (ar HP fa fb))):=by exists R.oY M7 PJ ha hb (iq _)
def Ma (ha:ZE X a (av X.K fa))(hb:ZE X b (av X.K fb)):ZT X (.Compare a [.Gt] [b] pos) (fU X.K (fB (ar Nq fa fb))):=by exists R.oY M8 PL ha hb (iq _)
def ll (hu:X.A.units+64 < cLine)(ha:ZE X a (av X.K fa))(hb:ZE X b (av X.K fb)):ZT X (.Compare a [.Eq] [b] pos) (fU X.K (fB (ar (fS false) fa fb))):=by exists R.oY (wy hu) FF ha hb (iq _)
def qj (hu:X.A.units+64 < cLine)(ha:ZE X a (av X.K fa))(hb:ZE X b (av X.K fb)):ZT X (.Compare a [.NotEq] [b] pos) (fU X.K (fB (ar (fS true) fa fb))):=by exists R.oY (Ck hu) FF ha hb (iq _)
theorem L9 (hu:X.A.units+64 < cLine)(ha:ZE X a (av X.K fa))(hb:ZE X b (av X.K fb))(hm:behindInMarks .In b=false:=by rfl):ZT X (.Compare a [.In] [b] pos) (fU X.K (fB (ar (Fz false) fa fb))):=by exists R.oY (zG.or (zH hu)) ND ha hb hm
def xK {j}(ha:ZE X a (av X.K fa)):ZT X (.Compare a [.Is] [.Constant .none j p] pos) (fU X.K (fB (oH (uT false .non) fa))):=by exists R.L8 (.inl ⟨rfl,rfl⟩) Cm ha ww (iq _)
def rY {j}(ha:ZE X a (av X.K fa)):ZT X (.Compare a [.IsNot] [.Constant .none j p] pos) (fU X.K (fB (oH (uT true .non) fa))):=by exists R.L8 (.inl ⟨rfl,rfl⟩) uB ha ww (iq _)
variable {ta tb:FT}{rest:Tj}
def L6 (ha:ZT X a (fU X.K ta)):ZT X (.UnaryOp .Not a pos) (fU X.K (tW ta)):=by exists PT.imp (JO ha) Ew
def tI (ha:ZT X a (fU X.K ta))(hb:ZW X (.BoolOp .And (b::rest) pos) (fU X.K tb)):ZW X (.BoolOp .And (a::b::rest) pos) (fU X.K (k8 ta tb)):=by exists PW.imp (JL ha hb) Ex
def Ip (ha:ZT X a (fU X.K ta))(hb:ZW X (.BoolOp .Or (b::rest) pos) (fU X.K tb)):ZW X (.BoolOp .Or (a::b::rest) pos) (fU X.K (v5 ta tb)):=by exists PW.imp (MY ha hb) Je
def rM (ha:ZT X a (fU X.K ta)):ZW X (.BoolOp .And [a] pos) (fU X.K ta):=by exists ER ha
def AJ (ha:ZT X a (fU X.K ta)):ZW X (.BoolOp .Or [a] pos) (fU X.K ta):=by exists JK ha
def IC (h:ZW X a (fU X.K ta)):ZT X a (fU X.K ta):=by exists h.pt
def EN {c:Expr}(hc:ZT X c (fU X.K ta))(ha:ZE X a (av X.K fa))(hb:ZE X b (av X.K fb)):ZE X (.IfExp c a b pos) (av X.K (FU ta fa fb)):=by exists PE.imp (Cd hc ha hb) ME
variable {st:Stmt}{sts aa bb:Tk}{sa sb:FS}{c tg iter:Expr}
def bF:AD X [] (eP X.K aT):=by exists on.imp EX EA
def ap (h1:ZS X st (eP X.K sa))(h2:AD X sts (eP X.K sb)):AD X (st::sts) (eP X.K (aB sa sb)):=by exists on.imp (B0 h1 h2) Jh
def ay (h1:ZS X st (eP X.K sa)):AD X [st] (eP X.K sa):=by exists EW h1
def i6:ZS X st (eP X.K lz):=by exists R.i6
def Eu:ZS X (.Break pos) (eP X.K sm):=by exists PS.imp B3 BF
theorem dW (he:ZE X e (av X.K fa))(hs:swapsWith e none pos.line X.env=pure false:=by rfl):ZS X (.Expr e pos) (eP X.K (cC fa)):=by exists PS.imp (EY he hs) EF
def aX (he:ZE X e (av X.K fa)):ZS X (.Return (some e) pos) (eP X.K (bD fa)):=by exists PS.imp (JQ he) Jj
def dh (hc:ZT X c (fU X.K ta))(ha:AD X aa (eP X.K sa))(hb:AD X bb (eP X.K sb)):ZS X (.If c aa bb pos) (eP X.K (gm ta sa sb)):=by exists PS.imp (MZ hc ha hb) Jo
theorem aJ (i:Nat){pos':Pos}(hN:X.N.Nodup)(he:ZE X e (av X.K fa))(hi:X.N[i]?=some x:=by rfl)(hx:Gw X.env.scope x:=by first|exact Or.inl rfl|exact Or.inr rfl)(hs:swapsWith e (some (.Name x pos')) pos.line X.env=pure false:=by rfl)(hf:X.fn x=true\/X.env.scope.names.lookup x=some .local:=by first|exact .inl rfl|exact .inr rfl) :
  ZS X (.Assign [.Name x pos'] e pos) (eP X.K (aK i fa)):=by
 exists PS.imp (JP hN hi hx he hs hf) Bw
variable {g:FG}{gs:Ij}{fi:FI}
theorem dO (i:Nat)(hN:X.N.Nodup)(hi:X.N[i]?=some x:=by rfl)(hx:Gw X.env.scope x:=by first|exact Or.inl rfl|exact Or.inr rfl)(hf:X.fn x=true\/X.env.scope.names.lookup x=some .local:=by first|exact .inl rfl|exact .inr rfl):ZG X (.Name x pos) (qp X.K (b7 i)):=by exists PG.imp (E4 hN hi hx hf) Jt
def nh:O5 X [] (uh X.K eG):=by exists D4.imp E3 BA
def da (h1:ZG X e (qp X.K g))(h2:O5 X es (uh X.K gs))(hs:(assignEach (e::es) X.env).map (·.2)=assign e X.env::(assignEach es X.env).map (·.2):=by exact vC rfl):O5 X (e::es) (uh X.K (aN g gs)):=by exists D4.imp (Cb h1 h2 hs) zr
theorem Ag {k n:Nat}(hc:X.calm=true)(h:O5 X es (uh X.K gs))(hn:(assignEach es X.env).length=n:=by rfl)(hst:(assignEach es X.env).findIdx? (·.1)=none:=by rfl):ZG X (.Tuple es k pos) (qp X.K (qX n gs)):=by exists PG.imp (JT hc h hn hst) Js
def PD (hu : X.A.units + 64 < cLine) (ha : ZE X a (av X.K fa)) (hb : ZE X b (av X.K fb)) (hq : ∀ v, assign (.Subscript a b pos) X.env v = (do
      let ov ← holding [v] (eval a X.env)
      let iv ← holding [v, ov] (eval b X.env)
      standAt pos
      holding [v, ov, iv] (setItem ov iv v)
      release [v, ov, iv] []) := by intro _; rfl) : ZG X (.Subscript a b pos) (qp X.K (qx fa fb)) := by
  exists PG.imp (Cc ha hb (tF.or Bj (Bl (by omega))) hq) ED
def fY (ha:ZE X a (av X.K fa)):ZI X tg a (zt X.K (cw fa)):=by exists PI.imp (E2 (wx ha)) EC
def Ku (hg:Gl X "range")(hm:X.mg "range" = none)(ha:ZE X a (av X.K fa))(hs:starEach [a] X.env=[(false,eval a X.env)]:=by exact aw rfl):ZI X tg (.Call (.Name "range" p) [a] [] pos) (zt X.K (Al fa)):=by exists PI.imp (zE hg hm (ah ha am hs) hs) Jq
def Pz {fc:FE}(hg:Gl X "range")(hm:X.mg "range" = none)(ha:ZE X a (av X.K fa))(hb:ZE X b (av X.K fb))(hc:ZE X c (av X.K fc))(hs:starEach [a,b,c] X.env=(false,eval a X.env)::starEach [b,c] X.env:=by exact aw rfl)(hs1:starEach [b,c] X.env=(false,eval b X.env)::starEach [c] X.env:=by exact aw rfl)(hs2:starEach [c] X.env=(false,eval c X.env)::starEach [] X.env:=by exact aw rfl)(hs3:(backTo pos (starEach [b,c] X.env)).any (·.1)=false:=by exact aD rfl):ZI X tg (.Call (.Name "range" p) [a,b,c] [] pos) (zt X.K (Ak fa fb fc)):=by exists PI.imp (zD hg hm (ah ha (ah hb (ah hc am hs2) hs1) hs) hs hs3) Jp
def IT (hc:X.calm=true)(hi:ZI X tg iter (EI X.K fi))(hg:ZG X tg (qp X.K g))(hb:AD X aa (eP X.K sa))(hp:PassesOwn (model X.prog X.w) X.A X.env X.xe)(hs:∀x,foldedSetIterable iter X.env x=pure x:=by intro _;rfl):ZS X (.For tg iter aa [] pos) (eP X.K (i7 fi g sa)):=by exists PS.imp (B1 hp hc hi hg hb hs) EE
def k9 (hc:X.calm=true)(hi:ZI X tg iter (zt X.K fi))(hg:ZG X tg (qp X.K g))(hb:AD X aa (eP X.K sa))(hp:PassesOwn (model X.prog X.w) X.A X.env X.xe)(hs:∀x,foldedSetIterable iter X.env x=pure x:=by intro _;rfl):ZS X (.For tg iter aa [] pos) (eP X.K (i7 fi g sa)):=by exists PS.imp (B1 hp hc hi hg hb hs) Ju
theorem ud (he:ZE X e (av X.K fa))(hg:ZG X tg (qp X.K g))(hs:swapsWithSole [tg] e pos.line X.env=pure false:=by rfl)(hw:swappedStores [tg] e X.env=pure none:=by rfl)(h1:(assignEach [tg] X.env).map (·.2)=[assign tg X.env]:=by rfl):ZS X (.Assign [tg] e pos) (eP X.K (pe fa g)):=by exists PS.imp (JS he hg hs hw h1) JA
def rg:Gn X [] (fU X.K jo):=by exists R.oq.imp B6 I0
def yB (h:ZT X c (fU X.K ta)):Gn X [c] (fU X.K ta):=by exists B5 h
theorem io {ifs:Tj}{scope:Scope}(ix:List Nat)(own caps:Tn)(hc:X.calm=true)(n:aP X.env.scope scope own caps)(hi:ZI X tg iter (zt X.K fi))
  (hb:∀cl C s₂ H₂ fp,ZG (aM X scope cl C s₂ H₂ fp (own++caps)) tg (qp X.K g)/\Gn (aM X scope cl C s₂ H₂ fp (own++caps)) ifs (fU X.K ta)/\ZE (aM X scope cl C s₂ H₂ fp (own++caps)) e (av X.K fa))
  (hix:ix.map (fun i=>X.N[i]?)=caps.map some:=by rfl)
  (hs:∀x,foldedSetIterable iter X.env x=pure x:=by intro _;rfl):ZE X (.ListComp e [⟨tg,iter,ifs,0⟩] scope pos) (av X.K (eI ix own.length fi g ta fa)):=by
 exists R.io ix own caps hc n hi hb hix hs
theorem sk (i:Nat){py spos:Pos}{ifs:Tj}{scope:Scope}(ix:List Nat)(own caps:Tn)(hc:X.calm=true)(n:aP X.env.scope scope own caps)(hN:X.N.Nodup)(hi:ZI X tg iter (zt X.K fi))
  (hb:∀cl C s₂ H₂ fp,ZG (aM X scope cl C s₂ H₂ fp (own++caps)) tg (qp X.K g)/\Gn (aM X scope cl C s₂ H₂ fp (own++caps)) ifs (fU X.K ta)/\ZE (aM X scope cl C s₂ H₂ fp (own++caps)) e (av X.K fa))
  (hsw:swapsWith (.ListComp e [⟨tg,iter,ifs,0⟩] scope pos) (some (.Name x py)) spos.line X.env=pure true:=by rfl)
  (hy:X.N[i]?=some x:=by rfl) (hyl:Gw X.env.scope x:=by first|exact Or.inl rfl|exact Or.inr rfl)
  (hix:ix.map (fun i=>X.N[i]?)=caps.map some:=by rfl)
  (hs:∀x,foldedSetIterable iter X.env x=pure x:=by intro _;rfl) (hf:X.fn x=true\/X.env.scope.names.lookup x=some .local:=by first|exact .inl rfl|exact .inr rfl) :
  ZS X (.Assign [.Name x py] (.ListComp e [⟨tg,iter,ifs,0⟩] scope pos) spos) (eP X.K (aK i (eI ix own.length fi g ta fa))):=by
 exists R.sk i ix own caps hc n hN hi hb hsw hy hyl hix hs hf
end
def okP {P:Program}{w:World}{K:zac}{mg:Td}{base:Heap}{x:Str}{st:Stmt}{N ps:Tn}{k:Nat}{b:FS}(d:bM K mg x st ps)(S:ax N ps (ai st))
  (hbody:∀(f:Addr) (cdv:Value) (A:Around) (outer:List Env) (s:Shared) (H:Hp) (E:XK),bQ k (A.deeper (envOfC x (ai st) s.heap.objs.size f cdv))->AD (jE kT P w K mg base N x (ai st) f cdv A outer s H E).nox (bu st) (eP K b)) :
  bn P w K mg base (k+1) x ps (fG N.length b):=by
 exists R.okP d S hbody
theorem aE {X:Cx}{k:Nat}{x:Str}{ps:Tn}{mf:MF}{e:Expr}{es:Tj}{ga:FA}{p pos:Pos}{n:Nat}(F:bn X.prog X.w X.K X.mg X.base k x ps mf)(hr:bQ k X.A)(ha:ZA X (e::es) (gp X.K ga))(hg:Gl X x:=by rfl)(hn:ps.length=n:=by rfl)
  (hdb:(x == ("__debug__" : Str))=false:=by decide) (he:l5 e es X:=by exact aw rfl) (hpl:(backTo pos (starEach es X.env)).any (·.1)=false:=by exact aD rfl) :
  ZE X (.Call (.Name x p) (e::es) [] pos) (av X.K (aL mf n ga)):=by
 exists R.aE F hr ha hg hn hdb he hpl
theorem g9 {X:Cx}{k:Nat}{x:Str}{ps:Tn}{mf:MF}{e:Expr}{es:Tj}{ga:FA}{p pos:Pos}{n:Nat}(F:bn X.prog X.w X.K X.mg X.base k x ps mf)(hr:bQ k X.A)(ha:ZA X (e::es) (gp X.K ga))(hg:Gl X x:=by rfl)(hn:ps.length=n:=by rfl)
  (hdb:(x == ("__debug__" : Str))=false:=by decide) (he:l5 e es X:=by exact aw rfl) (hpl:(backTo pos (starEach es X.env)).any (·.1)=false:=by exact aD rfl) :
  ZE X (.Call (.Name x p) (e::es) [] pos) (av X.K (dY mf n ga)):=by
 exists R.g9 F hr ha hg hn hdb he hpl
def okN {P:Program}{w:World}{K:zac}{mg:Td}{base:Heap}{x:Str}{st:Stmt}{N ps:Tn}{k:Nat}{b:FS}(d:bM K mg x st ps)(S:ax N ps (ai st))
  (hbody:∀(f:Addr) (cdv:Value) (A:Around) (outer:List Env) (s:Shared) (H:Hp) (E:XK),bQ k (A.deeper (envOfC x (ai st) s.heap.objs.size f cdv))->AD (jE kT P w K mg base N x (ai st) f cdv A outer s H E).nox (bu st) (eP K b)) :
  gS P w K mg base (k+1) x ps (wo N.length b):=by
 exists R.okN d S hbody
theorem fg {X:Cx}{k:Nat}{x:Str}{ps:Tn}{mf:MC}{e:Expr}{es:Tj}{ga:FA}{p pos:Pos}{n:Nat}(F:gS X.prog X.w X.K X.mg X.base k x ps mf)(hr:bQ k X.A)(ha:ZA X (e::es) (gp X.K ga))(hg:Gl X x:=by rfl)(hn:ps.length=n:=by rfl)
  (hdb:(x == ("__debug__" : Str))=false:=by decide) (he:l5 e es X:=by exact aw rfl) (hpl:(backTo pos (starEach es X.env)).any (·.1)=false:=by exact aD rfl) :
  ZE X (.Call (.Name x p) (e::es) [] pos) (av X.K (bZ mf n ga)):=by
 exists R.fg F hr ha hg hn hdb he hpl
def okW {P:Program}{w:World}{K:zac}{mg:Td}{base:Heap}{x:Str}{st:Stmt}{N ps:Tn}{k:Nat}{b:FS}(d:bM K mg x st ps)(S:ax N ps (ai st))
  (hbody:∀(f:Addr) (cdv:Value) (A:Around) (outer:List Env) (s:Shared) (H:Hp) (E:XK),bQ k (A.deeper (envOfC x (ai st) s.heap.objs.size f cdv))->AD (jE kT P w K mg base N x (ai st) f cdv A outer s H E).nox (bu st) (eP K b)) :
  nV P w K mg base (k+1) x ps (mO N.length b):=by
 exists R.okW d S hbody
def HM {P:Program}{w:World}{K:zac}{mg:Td}{base:Heap}{nm qual:Str}{C:Addr}{st:Stmt}{N ps:Tn}{k:Nat}{b:FS}(d:jz K C nm qual st ps)(S:ax N ps (ai st))
  (hbody:∀(f:Addr) (cdv:Value) (A:Around) (outer:List Env) (s:Shared) (H:Hp) (E:XK),bQ k (A.deeper (envOfC qual (ai st) s.heap.objs.size f cdv))->AD (jE kT P w K mg base N qual (ai st) f cdv A outer s H E).nox (bu st) (eP K b)) :
  ee P w K mg base (k+1) nm C ps (mO N.length b):=by
 exists R.HM d S hbody
theorem oB {X:Cx}{k:Nat}{x:Str}{ps:Tn}{mf:MW}{e:Expr}{es:Tj}{ga:FA}{p pos:Pos}{n:Nat}(F:nV X.prog X.w X.K X.mg X.base k x ps mf)(hr:bQ k X.A)(ha:ZA X (e::es) (gp X.K ga))(hg:Gl X x:=by rfl)(hn:ps.length=n:=by rfl)
  (hdb:(x == ("__debug__" : Str))=false:=by decide) (he:l5 e es X:=by exact aw rfl) (hpl:(backTo pos (starEach es X.env)).any (·.1)=false:=by exact aD rfl) :
  ZE X (.Call (.Name x p) (e::es) [] pos) (av X.K (j6 mf n ga)):=by
 exists R.oB F hr ha hg hn hdb he hpl
theorem i8 {X:Cx}{k:Nat}{c nm:Str}{C:Addr}{ps:Tn}{mf:MW}{o e:Expr}{es:Tj}{fo:FE}{ga:FA}{apos pos:Pos}{n:Nat}{pl:Sem Bool}(N:ot X.K X.mg c C)(F:ee X.prog X.w X.K X.mg X.base k nm C ps mf)(hr:bQ k X.A)(ho:ZE X o (av X.K fo))(ha:ZA X (e::es) (gp X.K ga))(hn:ps.length=n:=by rfl)
  (he:l5 e es X:=by exact aw rfl) (hpl:(backTo pos (starEach es X.env)).any (·.1)=false:=by exact aD rfl)
  (ht:eval (.Call (.Attribute o nm apos) (e::es) [] pos) X.env=(do
   let ov ←eval o X.env
   standAt apos.atName
   let (mth,first) ←holding [ov] (getMethod ov nm pl)
   callWith pos mth first (backTo pos (starEach (e::es) X.env)) (backToKw pos (keywordEach [] X.env))):=by rfl) :
  ZE X (.Call (.Attribute o nm apos) (e::es) [] pos) (av X.K (fZ c nm mf n fo ga)):=by
 exists R.i8 N F hr ho ha hn he hpl ht
theorem su {X:Cx}{k:Nat}{c:Str}{C:Addr}{ps:Tn}{mf:MW}{e:Expr}{es:Tj}{ga:FA}{p pos:Pos}{n:Nat}(N:ot X.K X.mg c C)(hk:PySem.W.makesIn X.K C=true)(hp:PySem.W.keepIn X.K (.ref C)=true)(F:ee X.prog X.w X.K X.mg X.base k "__init__" C ps mf)(hr:bQ (k+1) X.A)(ha:ZA X (e::es) (gp X.K ga))(hg:Gl X c:=by rfl)(hn:ps.length=n:=by rfl)
  (hdb:(c == ("__debug__" : Str))=false:=by decide) (he:l5 e es X:=by exact aw rfl) (hpl:(backTo pos (starEach es X.env)).any (·.1)=false:=by exact aD rfl):ZE X (.Call (.Name c p) (e::es) [] pos) (av X.K (nj c mf n ga)):=by
 exists R.su N hk hp F hr ha hg hn hdb he hpl
def EQ {X:Cx}{es:Tj}{ga:FA}{p pos:Pos}(hc:X.calm=true)(hg:Gl X "dict")(hm:X.mg "dict" = none)(ha:ZA X (e::es) (gp X.K ga))(he:l5 e es X:=by exact aw rfl)(hpl:(backTo pos (starEach es X.env)).any (·.1)=false:=by exact aD rfl) :
  ZE X (.Call (.Name "dict" p) (e::es) [] pos) (av X.K (dQ nR ga)):=by
 exists PE.imp (eS (rB hc) hg hm (by decide) ha (he:=he) (hpl:=hpl)) (g8 FJ)
theorem jP {X:Cx}{c f:Str}{C:Addr}{o:Expr}{fo:FE}(N:ot X.K X.mg c C)(hf:e7 X.K C f)(ho:ZE X o (av X.K fo))(hb:attributeBase o f X.env (eval o X.env)=eval o X.env:=by rfl):ZE X (.Attribute o f pos) (av X.K (dP c f fo)):=by exists PE.imp (J1 ho hb) (Jv N hf)
theorem Bq {X:Cx}{c f:Str}{C:Addr}{o e:Expr}{fo fv:FE}{pos pos':Pos}(N:ot X.K X.mg c C)(hf:e7 X.K C f)(ho:ZE X o (av X.K fo))(hv:ZE X e (av X.K fv))(hs:swapsWith e (some (.Attribute o f pos')) pos.line X.env=pure false:=by rfl):ZS X (.Assign [.Attribute o f pos'] e pos) (eP X.K (l6 c f fo fv)):=by exists PS.imp (JR ho hv hs) (Ey N hf)
def HB {X:Cx}{a:Expr}{fa:FE}{p2 pos:Pos}{lo hi:Option Expr}{fl fh:FO}(ha:ZE X a (av X.K fa))(hl:ZO X lo (ug X.K fl))(hh:ZO X hi (ug X.K fh)):ZE X (.Subscript a (.Slice lo hi none p2) pos) (av X.K (Db fa fl fh)):=by exists PE.imp (pB IQ ha hl hh) Jf
def HG {X:Cx}{a b:Expr}{fa fb:FE}(ha:ZE X a (av X.K fa))(hb:ZE X b (av X.K fb))(hs:vF b:=by intro _ _;rfl):ZE X (.Subscript a b pos) (av X.K (ar HQ fa fb)):=by exists PE.imp (ux ha hb hs) (iJ NC)
def JE {X:Cx}{es:Tj}{ga:FA}{p pos:Pos}(hg:Gl X "len")(hm:X.mg "len" = none)(ha:ZA X (e::es) (gp X.K ga))(he:l5 e es X:=by exact aw rfl)(hpl:(backTo pos (starEach es X.env)).any (·.1)=false:=by exact aD rfl) :
  ZE X (.Call (.Name "len" p) (e::es) [] pos) (av X.K (dQ zO ga)):=by
 exists PE.imp (gH tm hg hm PySem.boot_len ha (he:=he) (hpl:=hpl)) (g8 Kz)
theorem JG {X:Cx}{e o:Expr}{fa fb:FE}{apos cpos:Pos}(ho:ZE X o (av X.K fa))(hb:ZE X e (av X.K fb))(hbase:attributeBase o "join" X.env (eval o X.env)=eval o X.env:=by rfl)
  (hfew:((backTo cpos (starEach [e] X.env)).all (fun x=>!x.1) && (backToKw cpos (keywordEach [] X.env)).all (fun x=>x.1.isSome)
   && decide ([e].length+([]:List Keyword).length+(if ([]:List Keyword).isEmpty then 0 else 1) < 30))=true:=by rfl)
  (hline:(apos.endLine == cpos.line)=true:=by rfl) (hs:starEach [e] X.env=(false,eval e X.env)::starEach [] X.env:=by exact aw rfl) (hplain:(backTo cpos (starEach [] X.env)).any (·.1)=false:=by exact aD rfl) :
  ZE X (.Call (.Attribute o "join" apos) [e] [] cpos) (av X.K (ar qT fa fb)):=by
 exists PE.imp (HJ PySem.F.plainAttrs_str PySem.F.slot_str_join PySem.F.type_str_join Fk ho (yf hb Cg hs) hbase hfew hline hs hplain) (Jz KA)
def HH {X:Cx}{a b:Expr}{fa fb:FE}(hu:X.A.units+64 < cLine)(ha:ZE X a (av X.K fa))(hb:ZE X b (av X.K fb))(hs:Gu b:=by intro _ _;rfl):ZE X (.Subscript a b pos) (av X.K (uZ fa fb)):=by exists PE.imp (yd (by omega) ha hb hs) Jy
def JF {X:Cx}{es:Tj}{ga:FA}{p pos:Pos}(hg:Gl X "tuple")(hm:X.mg "tuple" = none)(ha:ZA X (e::es) (gp X.K ga))(he:l5 e es X:=by exact aw rfl)(hpl:(backTo pos (starEach es X.env)).any (·.1)=false:=by exact aD rfl):ZE X (.Call (.Name "tuple" p) (e::es) [] pos) (av X.K (dQ CL ga)):=by exists PE.imp (eS lh hg hm (by decide) ha (he:=he) (hpl:=hpl)) (g8 NB)
def MU {X:Cx}:ZE X (.Dict [] [] pos) (av X.K FV):=by exists PE.imp uy Jw
def Nu {X : Cx} {a b : Expr} {fa fb : FE} {pos : Pos} (hu : X.A.units + 64 < cLine) (ha : ZE X a (av X.K fa)) (hb : ZE X b (av X.K fb)) (hq : ∀ v, assign (.Subscript a b pos) X.env v = (do
      let ov ← holding [v] (eval a X.env)
      let iv ← holding [v, ov] (eval b X.env)
      standAt pos
      holding [v, ov, iv] (setItem ov iv v)
      release [v, ov, iv] []) := by intro _; rfl) : ZG X (.Subscript a b pos) (qp X.K (qY fa fb)) := by
  exists PG.imp (Cc ha hb (zm (by omega)) hq) BB
def zv {X:Cx}{es:Tj}{ga:FA}{p pos:Pos}(hc:X.calm=true)(hg:Gl X "sorted")(hm:X.mg "sorted" = none)(ha:ZA X (e::es) (gp X.K ga))(he:l5 e es X:=by exact aw rfl)(hpl:(backTo pos (starEach es X.env)).any (·.1)=false:=by exact aD rfl) :
  ZE X (.Call (.Name "sorted" p) (e::es) [] pos) (av X.K (dQ zg ga)):=by
 exists PE.imp (gH (mC hc) hg hm (by decide) ha (he:=he) (hpl:=hpl)) (g8 Kv)
def JI {X:Cx}{a b:Expr}{fa fb:FE}(ha:ZE X a (av X.K fa))(hb:ZE X b (av X.K fb)):ZE X (.BinOp a .Add b pos) (av X.K (ar vD fa fb)):=by exists PE.imp (nJ Fg ha hb) (iJ KE)
def JD {X:Cx}{o e f:Expr}{fa fb fc:FE}{apos cpos:Pos}(hu:X.A.units+64 < cLine)(ho:ZE X o (av X.K fa))(he:ZE X e (av X.K fb))(hf:ZE X f (av X.K fc))(m:M2 X o "setdefault" apos e f cpos:=by exact ⟨rfl,rfl,rfl,rfl⟩) :
  ZE X (.Call (.Attribute o "setdefault" apos) [e,f] [] cpos) (av X.K (pQ fa fb fc)):=by
 exists PE.imp (yc (by omega) ho he hf m) Ez
def MV {X:Cx}:ZE X (.Dict [] [] pos) (av X.K FW):=by exists PE.imp uy Jx
def MR {X:Cx}{a b:Expr}{fa fb:FE}(hu:X.A.units+64 < cLine)(ha:ZE X a (av X.K fa))(hb:ZE X b (av X.K fb))(hs:Gu b:=by intro _ _;rfl):ZE X (.Subscript a b pos) (av X.K (Da fa fb)):=by exists PE.imp (yd (by omega) ha hb hs) Jc
def zw {X:Cx}{es:Tj}{ga:FA}{p pos:Pos}(hc:X.calm=true)(hg:Gl X "sorted")(hm:X.mg "sorted" = none)(ha:ZA X (e::es) (gp X.K ga))(he:l5 e es X:=by exact aw rfl)(hpl:(backTo pos (starEach es X.env)).any (·.1)=false:=by exact aD rfl) :
  ZE X (.Call (.Name "sorted" p) (e::es) [] pos) (av X.K (dQ qJ ga)):=by
 exists PE.imp (gH (mC hc) hg hm (by decide) ha (he:=he) (hpl:=hpl)) (g8 FD)
theorem FB {X:Cx}{elts:Tj}{x1}{pt apos cpos:Pos}{o:Expr}{fa:FE}(ho:ZE X o (av X.K fa))(hbase:attributeBase o "items" X.env (eval o X.env)=eval o X.env:=by rfl)(hline:(apos.endLine == cpos.line)=true:=by rfl):ZI X (.Tuple elts x1 pt) (.Call (.Attribute o "items" apos) [] [] cpos) (EI X.K (FQ fa)):=by exists PI.imp (Ca (wx ho) hbase hline) Jr
def EO {X:Cx}{es:Tj}{ga:FA}{p pos:Pos}(hu:X.A.units+64 < cLine)(hc:X.calm=true)(hg:Gl X "dict")(hm:X.mg "dict" = none)(ha:ZA X (e::es) (gp X.K ga))(he:l5 e es X:=by exact aw rfl)(hpl:(backTo pos (starEach es X.env)).any (·.1)=false:=by exact aD rfl) :
  ZE X (.Call (.Name "dict" p) (e::es) [] pos) (av X.K (dQ rk ga)):=by
 exists PE.imp (eS (xj hu hc) hg hm (by decide) ha (he:=he) (hpl:=hpl)) (g8 FH)
def MS {X:Cx}{o e f:Expr}{fa fb fc:FE}{apos cpos:Pos}(hu:X.A.units+64 < cLine)(ho:ZE X o (av X.K fa))(he:ZE X e (av X.K fb))(hf:ZE X f (av X.K fc))(m:M2 X o "setdefault" apos e f cpos:=by exact ⟨rfl,rfl,rfl,rfl⟩) :
  ZE X (.Call (.Attribute o "setdefault" apos) [e,f] [] cpos) (av X.K (Ao fa fb fc)):=by
 exists PE.imp (yc (by omega) ho he hf m) Ji
def zx {X:Cx}{es:Tj}{ga:FA}{p pos:Pos}(hg:Gl X "sorted")(hm:X.mg "sorted" = none)(ha:ZA X (e::es) (gp X.K ga))(he:l5 e es X:=by exact aw rfl)(hpl:(backTo pos (starEach es X.env)).any (·.1)=false:=by exact aD rfl) :
  ZE X (.Call (.Name "sorted" p) (e::es) [] pos) (av X.K (dQ t6 ga)):=by
 exists PE.imp (gH sZ hg hm (by decide) ha (he:=he) (hpl:=hpl)) (g8 Kw)
def JJ {X:Cx}{a:Expr}{fa:FE}(ha:ZE X a (av X.K fa)):ZE X a (av X.K (HZ fa)):=by exists PE.imp ha MG
def Hc {X:Cx}{a b:Expr}{fa fb:FE}(hu:X.A.units+64 < cLine)(ha:ZE X a (av X.K fa))(hb:ZE X b (av X.K fb)):ZT X (.Compare a [.Eq] [b] pos) (fU X.K (fB (ar (D2 false) fa fb))):=by exists R.oY (wy hu) NF ha hb (iq _)
section
variable {X:Cx}{e o:Expr}{es:Tj}{fa:FE}{ga:FA}{apos cpos:Pos}
theorem nH (ho:ZE X o (av X.K fa))(ha:ZA X (e::es) (gp X.K ga))(hbase:attributeBase o "append" X.env (eval o X.env)=eval o X.env:=by rfl)
  (hfew:((backTo cpos (starEach (e::es) X.env)).all (fun x=>!x.1) && (backToKw cpos (keywordEach [] X.env)).all (fun x=>x.1.isSome)
   && decide ((e::es).length+([]:List Keyword).length+(if ([]:List Keyword).isEmpty then 0 else 1) < 30))=true:=by rfl)
  (hline:(apos.endLine == cpos.line)=true:=by rfl) (hs:l5 e es X:=by exact aw rfl) (hplain:(backTo cpos (starEach es X.env)).any (·.1)=false:=by exact aD rfl) :
  ZE X (.Call (.Attribute o "append" apos) (e::es) [] cpos) (av X.K (yC kq fa ga)):=by
 exists PE.imp (HJ PySem.F.plainAttrs_list PySem.F.slot_list_append PySem.F.type_list_append zK ho ha hbase hfew hline hs hplain) (MB NH)
end
def KF {P:Program}{w:World}{K:zac}{mg:Td}{base:Heap}{x qual:Str}{st:Stmt}{f:Addr}{fd:FuncData}{N ps:Tn}{k:Nat}{b:FS}(F:oK K x qual st f fd)(S:ax N ps (ai st))
  (hbody:∀(cdv:Value) (A:Around) (outer:List Env) (s:Shared) (H:Hp) (E:XK),bQ k (A.deeper (envOfC qual (ai st) s.heap.objs.size f cdv))->AD (jE kT P w K mg base N qual (ai st) f cdv A outer s H E).nox (bu st) (eP K b)) :
  cF P w K mg base kT (k+1) f fd ps (AF K ps.length (fG N.length b)):=by
 exists oK.okP F S hbody
def RM {P:List Value->Prop}(h:P []):∀us:Te,us.length=0->P us:=fun us e=>by rw [zbI.mp e];exact h
theorem Ly {P:List Value->Prop}{n:Nat}(h:∀a us,us.length=n->P (a::us)):∀us:Te,us.length=n+1->P us:=fun us e=>by
 cases us with
 |nil=>cases e
 |cons a us=>exact h a us (Nat.succ.inj e)
def Iq {P:List Value->Prop}(h:∀a,P [a]):∀us:Te,us.length=1->P us:=Ly fun a=>RM (P:=fun us=>P (a::us)) (h a)
def xv {P:List Value->Prop}(h:∀a b,P [a,b]):∀us:Te,us.length=2->P us:=Ly fun a=>Iq (P:=fun us=>P (a::us)) (h a)
def GG {P:List Value->Prop}(h:∀a b c,P [a,b,c]):∀us:Te,us.length=3->P us:=Ly fun a=>xv (P:=fun us=>P (a::us)) (h a)
def Oj {P:List Value->Prop}(h:∀a b c d,P [a,b,c,d]):∀us:Te,us.length=4->P us:=Ly fun a=>GG (P:=fun us=>P (a::us)) (h a)
def Oi {P:List Value->Prop}(h:∀a b c d e,P [a,b,c,d,e]):∀us:Te,us.length=5->P us:=Ly fun a=>Oj (P:=fun us=>P (a::us)) (h a)
section
variable {K:zac}{h:Heap}{mg:Td}{x:Str}{st:Stmt}{ps:Tn}
def FK (K:zac)(x:Str)(st:Stmt):Prop:=∃f:Addr,PySem.W.nsIn K mainGlobals x=some (some (.ref f))/\∃(oc:Value) (od:Option Addr) (kV dc pm:Value) (an:Option Addr) (cd ct:Value) (sl:Array (Tg)),
 K.lookup f=some ⟨oc,od,.func (PySem.W.fnOf x x (gh st) (bu st) (ai st) .none kV dc pm an cd ct),sl⟩/\PySem.W.codeIn K cd x=true/\PySem.W.keepIn K (.ref f)=true
abbrev Ik (x:Str)(st:Stmt)(ps:Tn):Prop:=∀(kV doc pm:Value) (an:Option Addr) (cdv ct:Value) (us:Te),us.length=ps.length->bindArgs (PySem.W.fnOf x x (gh st) (bu st) (ai st) .none kV doc pm an cdv ct) ⟨us,[]⟩=pure (ps.zip us)
def FK.at_ (a:FK K x st)(X:K.In h)(G:h.Ns mainGlobals mg)(hb:Ik x st ps):bM K mg x st ps:=by obtain ⟨f,a,oc,od,kV,dc,pm,an,cd,ct,sl,l,c,k⟩:=a;have F:=wW l c k;exact ⟨_,_,F,F.binds hb,zcl X G a⟩
def Ii (K:zac)(C:Addr)(nm qual:Str)(st:Stmt):Prop:=∃f:Addr,PySem.W.findIn K (.ref C) nm=some (some (.ref f))/\PySem.W.isFn K (.ref f)=true/\∃(oc:Value) (od:Option Addr) (kV dc pm:Value) (an:Option Addr) (cd ct:Value) (sl:Array (Tg)),
 K.lookup f=some ⟨oc,od,.func (PySem.W.fnOf nm qual (gh st) (bu st) (ai st) .none kV dc pm an cd ct),sl⟩/\PySem.W.codeIn K cd qual=true/\PySem.W.keepIn K (.ref f)=true
def Ii.at_ {C:Addr}{nm qual:Str}(a:Ii K C nm qual st)(hb:∀(kV doc pm:Value) (an:Option Addr) (cdv ct:Value) (us:Te),us.length=ps.length->bindArgs (PySem.W.fnOf nm qual (gh st) (bu st) (ai st) .none kV doc pm an cdv ct) ⟨us,[]⟩=pure (ps.zip us)):jz K C nm qual st ps:=by obtain ⟨f,a,i,oc,od,kV,dc,pm,an,cd,ct,sl,l,c,k⟩:=a;have F:=wW l c k;exact ⟨_,_,F,F.binds hb,⟨a,i,k⟩⟩
def FK.law {fa:Addr}(a:FK K x st)(X:K.In h)(G:h.Ns mainGlobals mg)(e:mg x=some (.ref fa))(hb:Ik x st ps):∃fd,oK K x x st fa fd/\∀(s:Shared) (us:Te),us.length=ps.length->BindsTo s fd ⟨us,[]⟩ (ps.zip us):=by obtain ⟨f,a,oc,od,kV,dc,pm,an,cd,ct,sl,l,c,k⟩:=a;have:=e.symm.trans (zcl X G a);cases this;exact ⟨_,wW l c k,fun s us hl=>.of_eq (hb _ _ _ _ _ _ us hl)⟩
end
end HW
namespace HW
open L2
section
variable {O:Lo}{U U1:ac}{x y:R}{d:D}
theorem mv {O:Lo}:af 0 (some x::O) U=some (x,U):=rfl
def nP {i:Nat}{o:Option R}{O:Lo}:af (i+1) (o::O) U=af i O U:=by simp [af]
theorem KP:fK d O U=some (.v d,U):=rfl
def LP (o:Option (R×ac))(g:R->R->ac->Option (R×ac))(fb:FE)(O:Lo):Option (R×ac):=o.bind fun a=>(fb O a.2).bind fun b=>g a.1 b.1 b.2
def G0 (x:R)(o:Option (R×ac))(g:R->R->ac->Option (R×ac)):Option (R×ac):=o.bind fun b=>g x b.1 b.2
theorem nQ {g fa fb}:ar g fa fb O U=LP (fa O U) g fb O:=rfl
theorem j8 {g fb}:LP (some (x,U)) g fb O=G0 x (fb O U) g:=rfl
theorem lL {g}:G0 x (some (y,U)) g=g x y U:=rfl
def LI (o:Option (R×ac))(g:R->ac->Option (R×ac)):Option (R×ac):=o.bind fun a=>g a.1 a.2
theorem Rb {g fa}:oH g fa O U=LI (fa O U) g:=rfl
theorem PV {g}:LI (some (x,U)) g=g x U:=rfl
theorem jj:ak O U=some ([],U):=rfl
def A1 (o:Option (R×ac))(fr:FA)(O:Lo):Option (List R×ac):=o.bind fun a=>(fr O a.2).bind fun r=>some (a.1::r.1,r.2)
def xE (x:R)(o:Option (List R×ac)):Option (List R×ac):=o.bind fun r=>some (x::r.1,r.2)
theorem fm {fa fr}:ae fa fr O U=A1 (fa O U) fr O:=rfl
theorem eK {fr}:A1 (some (x,U)) fr O=xE x (fr O U):=rfl
theorem eJ {xs}:xE x (some (xs,U))=some (x::xs,U):=rfl
def L4 (o:Option (List R×ac))(g:List R->ac->Option (R×ac)):Option (R×ac):=o.bind fun a=>g a.1 a.2
theorem u4 {g fa}:dQ g fa O U=L4 (fa O U) g:=rfl
theorem pW {g xs}:L4 (some (xs,U)) g=g xs U:=rfl
def QY (o:Option (R×ac)):Option (Bool×ac):=o.bind fun a=>match a.1 with|.v (.bl b)=>some (b,a.2)|_=>none
theorem Dp {fa}:fB fa O U=QY (fa O U):=rfl
theorem Do {b}:QY (some (.v (.bl b),U))=some (b,U):=rfl
def AS (o:Option (R×ac)):Option (Bool×ac):=o.bind fun a=>(AO a.1 a.2).bind fun b=>some (b,a.2)
theorem PY {fa}:j5 fa O U=AS (fa O U):=rfl
theorem OB {b}:AS (some (.v (.bl b),U))=some (b,U):=rfl
theorem OA {xs}:AS (some (.v (.tup xs),U))=some (!xs.isEmpty,U):=rfl
def Hb (o:Option (Bool×ac))(u:FT)(O:Lo):Option (Bool×ac):=o.bind fun c=>if c.1=true then u O c.2 else some (false,c.2)
def LO (o:Option (Bool×ac))(u:FT)(O:Lo):Option (Bool×ac):=o.bind fun c=>if c.1=true then some (true,c.2) else u O c.2
def G3 (o:Option (Bool×ac)):Option (Bool×ac):=o.bind fun c=>some (!c.1,c.2)
theorem OD {t u}:k8 t u O U=Hb (t O U) u O:=rfl
theorem NQ {b u}:Hb (some (b,U)) u O=if b=true then u O U else some (false,U):=rfl
theorem KJ {t u}:v5 t u O U=LO (t O U) u O:=rfl
theorem FY {b u}:LO (some (b,U)) u O=if b=true then some (true,U) else u O U:=rfl
theorem OC {t}:tW t O U=G3 (t O U):=rfl
theorem NP {b}:G3 (some (b,U))=some (!b,U):=rfl
def A3 (o:Option (R×ac))(fb:FE)(O:Lo):Option (R×ac):=o.bind fun a=>match a.1 with|.v (.bl c)=>if c=true then fb O a.2 else some (.v (.bl false),a.2)|_=>none
def GZ (o:Option (R×ac))(fb:FE)(O:Lo):Option (R×ac):=o.bind fun a=>match a.1 with|.v (.bl c)=>if c=true then some (.v (.bl true),a.2) else fb O a.2|_=>none
def AX (o:Option (R×ac)):Option (R×ac):=o.bind fun a=>match a.1 with|.v (.bl c)=>some (.v (.bl (!c)),a.2)|_=>none
theorem Qw {fa fb}:Dc fa fb O U=A3 (fa O U) fb O:=rfl
theorem OY {c fb}:A3 (some (.v (.bl c),U)) fb O=if c=true then fb O U else some (.v (.bl false),U):=rfl
theorem H9 {fa fb}:Oz fa fb O U=GZ (fa O U) fb O:=rfl
theorem P5 {c fb}:GZ (some (.v (.bl c),U)) fb O=if c=true then some (.v (.bl true),U) else fb O U:=rfl
theorem P7 {fa}:pR fa O U=AX (fa O U):=rfl
theorem OM {c}:AX (some (.v (.bl c),U))=some (.v (.bl (!c)),U):=rfl
def LU (o:Option (Bool×ac))(fa fb:FE)(O:Lo):Option (R×ac):=o.bind fun c=>if c.1=true then fa O c.2 else fb O c.2
theorem Ru {t fa fb}:FU t fa fb O U=LU (t O U) fa fb O:=rfl
theorem Qj {c fa fb}:LU (some (c,U)) fa fb O=if c=true then fa O U else fb O U:=rfl
def xB (o:Option (List R×ac)):Option (R×ac):=o.bind fun a=>(vals a.1).bind fun ds=>if ds.length<=sizeLine then some (.v (.tup ds),a.2) else none
def xC (o:Option (List R×ac)):Option (R×ac):=o.bind fun a=>(vals a.1).bind fun ds=>if ds.length<=sizeLine then some (.p a.2.length,a.2++[.lst ds]) else none
theorem De {fa}:du fa O U=xB (fa O U):=rfl
def yD {rs ds}(h:vals rs=some ds)(hl:ds.length<=sizeLine):xB (some (rs,U))=some (.v (.tup ds),U):=by simp [xB,h,hl]
theorem KO {fa}:cN fa O U=xC (fa O U):=rfl
def F2 {rs ds}(h:vals rs=some ds)(hl:ds.length<=sizeLine):xC (some (rs,U))=some (.p U.length,U++[.lst ds]):=by simp [xC,h,hl]
def tV (o:Option (R×ac)):Option (R×ac):=o.bind fun a=>(D1 a.1 a.2).bind fun b=>some (.v b.1,b.2)
theorem Ia {fa}:bP fa O U=tV (fa O U):=rfl
theorem Dj:tV (some (.v d,U))=some (.v d,U):=rfl
def KW {n xs}(h:U[n]?=some (.lst xs)):tV (some (.p n,U))=some (.v (.fl xs),U.set n (.fz xs)):=by simp [tV,D1,h]
def mK (o:Option (List R×ac))(f:MF)(n:Nat):Option (R×ac):=o.bind fun a=>(vals a.1).bind fun ds=>if ds.length=n then (f ds).bind fun d=>some (.v d,a.2) else none
theorem yH {f n fa}:aL f n fa O U=mK (fa O U) f n:=rfl
def Dm {f:MF}{n rs ds}(h:vals rs=some ds)(hl:ds.length=n)(hf:f ds=some d):mK (some (rs,U)) f n=some (.v d,U):=by simp [mK,h,hl,hf]
theorem F0:aT O U=some (.nx O U):=rfl
def LM (o:Option oJ)(b:FS):Option oJ:=o.bind fun o=>match o with|.nx O' U'=>b O' U'|o=>some o
theorem lK {a b}:aB a b O U=LM (a O U) b:=rfl
theorem hV {b}:LM (some (.nx O U)) b=b O U:=rfl
theorem OJ {b}:LM (some (.rt x U)) b=some (.rt x U):=rfl
theorem OI {b}:LM (some (.bk O U)) b=some (.bk O U):=rfl
theorem N1:sm O U=some (.bk O U):=rfl
def AZ (o:Option (R×ac))(O:Lo):Option oJ:=o.bind fun a=>some (.nx O a.2)
theorem F3 {f}:cC f O U=AZ (f O U) O:=rfl
theorem Dk:AZ (some (x,U)) O=some (.nx O U):=rfl
def GY (o:Option (R×ac)):Option oJ:=o.bind fun a=>some (.rt a.1 a.2)
theorem pS {f}:bD f O U=GY (f O U):=rfl
theorem FZ:GY (some (x,U))=some (.rt x U):=rfl
def tU (o:Option (Bool×ac))(a b:FS)(O:Lo):Option oJ:=o.bind fun c=>if c.1=true then a O c.2 else b O c.2
theorem pU {t a b}:gm t a b O U=tU (t O U) a b O:=rfl
theorem KS {a b}:tU (some (true,U)) a b O=a O U:=rfl
theorem KU {a b}:tU (some (false,U)) a b O=b O U:=rfl
def GX (o:Option (R×ac))(i:Nat)(O:Lo):Option oJ:=o.bind fun a=>some (.nx (O.set i (some a.1)) a.2)
theorem j7 {i f}:aK i f O U=GX (f O U) i O:=rfl
theorem mw {i}:GX (some (x,U)) i O=some (.nx (O.set i (some x)) U):=rfl
def G7 (o:Option (List D×ac))(g:FG)(b:FS)(O:Lo):Option oJ:=o.bind fun a=>dC g b a.1 O a.2
theorem pV {i g b}:i7 i g b O U=G7 (i O U) g b O:=Eq.trans rfl rfl
theorem mx {xs g b}:G7 (some (xs,U)) g b O=dC g b xs O U:=Eq.trans rfl rfl
def AV (o:Option (R×ac)):Option (List D×ac):=o.bind fun a=>match a.1 with|.v (.fl xs)=>some (xs,a.2)|.v (.tup xs)=>some (xs,a.2)|_=>none
theorem yF {f}:cw f O U=AV (tV (f O U)):=rfl
theorem Dh {xs}:AV (some (.v (.fl xs),U))=some (xs,U):=rfl
theorem Dg {xs}:AV (some (.v (.tup xs),U))=some (xs,U):=rfl
def LN (o:Option (R×ac)):Option (List D×ac):=o.bind fun a=>match a.1 with|.v (.int j)=>if -(2 ^ 62)<=j/\j < 2 ^ 62 then some ((List.range j.toNat).map fun i=>.int (i:Nat),a.2) else none|_=>none
theorem Rg {f}:Al f O U=LN (f O U):=Eq.trans rfl rfl
def wZ {j:Int}(h : -(2 ^ 62)<=j/\j < 2 ^ 62):LN (some (.v (.int j),U))=some ((List.range j.toNat).map fun i=>.int (i:Nat),U):=by
 show (if -(2 ^ 62)<=j/\j < 2 ^ 62 then _ else _)=_
 rw [if_pos h]
def rX (o:Option (List D×ac))(ix:List Nat)(k:Nat)(g:FG)(c:FT)(f:FE)(O:Lo):Option (R×ac):=o.bind fun a=>if a.1.length<=sizeLine then
 (cx g c f a.1 (dR k ix O) a.2).bind fun r=>some (.p r.2.length,r.2++[.lst r.1]) else none
theorem F4 {ix k i g c f}:eI ix k i g c f O U=rX (i O U) ix k g c f O:=Eq.trans rfl rfl
def u2 {xs:List D}{ix k g c f r}(hl:xs.length<=sizeLine)(h:cx g c f xs (dR k ix O) U=some (r,U1)):rX (some (xs,U)) ix k g c f O=some (.p U1.length,U1++[.lst r]):=by simp [rX,h,hl]
theorem PM:jo O U=some (true,U):=rfl
def LL (o:Option (R×ac))(fl fh:FO)(O:Lo):Option (R×ac):=o.bind fun a=>(fl O a.2).bind fun l=>(fh O l.2).bind fun h=>Hq a.1 l.1 h.1 h.2
def GR (x:R)(o:Option (Option Int×ac))(fh:FO)(O:Lo):Option (R×ac):=o.bind fun l=>(fh O l.2).bind fun h=>Hq x l.1 h.1 h.2
def GQ (x:R)(l:Option Int)(o:Option (Option Int×ac)):Option (R×ac):=o.bind fun h=>Hq x l h.1 h.2
theorem Rf {fa fl fh}:Am fa fl fh O U=LL (fa O U) fl fh O:=rfl
theorem P4 {fl fh}:LL (some (x,U)) fl fh O=GR x (fl O U) fh O:=rfl
theorem P3 {l fh}:GR x (some (l,U)) fh O=GQ x l (fh O U):=rfl
theorem P2 {l h}:GQ x l (some (h,U))=Hq x l h U:=rfl
theorem P0 {xs l h}:Hq (.v (.tup xs)) l h U=some (.v (.tup (mz xs l h)),U):=rfl
def QX (o:Option (R×ac)):Option (Option Int×ac):=o.bind fun a=>match a.1 with|.v (.int i)=>some (some i,a.2)|_=>none
theorem Rn:eB O U=some (none,U):=rfl
theorem Rm {f}:d8 f O U=QX (f O U):=rfl
theorem P6 {i}:QX (some (.v (.int i),U))=some (some i,U):=rfl
def zf (o:Option (R×ac))(g:R->List R->ac->Option (R×ac))(ga:FA)(O:Lo):Option (R×ac):=o.bind fun a=>if j0 a.1 a.2=true then (ga O a.2).bind fun b=>g a.1 b.1 b.2 else none
def oV (x:R)(o:Option (List R×ac))(g:R->List R->ac->Option (R×ac)):Option (R×ac):=o.bind fun b=>g x b.1 b.2
theorem NV {g fa ga}:yC g fa ga O U=zf (fa O U) g ga O:=rfl
def KN {g ga n xs}(h:U[n]?=some (.lst xs)):zf (some (.p n,U)) g ga O=oV (.p n) (ga O U) g:=by simp [zf,j0,h,oV]
theorem KM {g xs}:oV x (some (xs,U)) g=g x xs U:=rfl
def K5 {n xs}(h:U[n]?=some (.lst xs))(hl:xs.length < sizeLine):kq (.p n) [.v d] U=some (.v .non,U.set n (.lst (xs++[d]))):=by simp [kq,h,hl]
variable {i j:Int}{b c:Bool}{xs:List D}
theorem PZ:iU (.v (.int i)) (.v (.int j)) U=some (.v (.int (i - j)),U):=rfl
theorem Rp:Ng (.v (.int i)) (.v (.int j)) U=some (.v (.bl (decide (i < j))),U):=rfl
theorem Rr:HP (.v (.int i)) (.v (.int j)) U=some (.v (.bl (decide (i<=j))),U):=rfl
theorem Rv:Nq (.v (.int i)) (.v (.int j)) U=some (.v (.bl (decide (j < i))),U):=rfl
def pT (h:0 < j):bO (.v (.int i)) (.v (.int j)) U=some (.v (.int (i % j)),U):=by simp [bO,wT,h]
def K1 (h:0 < j)(h2:j < 1073741824):fI (.v (.int i)) (.v (.int j)) U=some (.v (.int (i / j)),U):=by simp [fI,wT,h,h2]
def jk (h : -(2 ^ 64) < i/\i < 2 ^ 64):mV (.v (.int i)) (.v (.int j)) U=some (.v (.int (i * j)),U):=by
 show (if (decide (-(2 ^ 64) < i/\i < 2 ^ 64) || decide (-(2 ^ 64) < j/\j < 2 ^ 64))=true then _ else _)=_
 rw [if_pos (by rw [Bool.or_eq_true];exact .inl (zaK h))]
def w4 (h:0<=j/\j<=1000000/\i.natAbs < 2 ^ 64):iL (.v (.int i)) (.v (.int j)) U=some (.v (.int (i ^ j.toNat)),U):=by simp [iL,wT,h]
theorem P8:n9 (.v (.int i)) U=some (.v (.int (-i)),U):=rfl
theorem KL:fS true (.v (.bl b)) (.v (.bl c)) U=some (.v (.bl (!(b == c))),U):=rfl
def w5 (h:mI xs i=some d):bh (.v (.tup xs)) (.v (.int i)) U=some (.v d,U):=by simp [bh,dJ,h]
def FX {n}(h:U[n]?=some (.lst xs)):ze [.p n] U=some (.v (.tup xs),U):=by simp [ze,dJ,h]
theorem w6 {k:Nat}:b7 k x O U=some (O.set k (some x),U):=rfl
def tu {Z:Type}{xs:List Z}{i:Int}{a:Z}(h0:0<=i)(h:xs[i.toNat]?=some a):mI xs i=some a:=by unfold mI D0;have hl:=(zat.mp h).1;rw [if_pos h0,if_pos (by omega)];simpa using h
def eZ (o:Option oJ):Option D:=o.bind fin
theorem KZ:eZ (some (.rt (.v d) U))=some d:=rfl
end
theorem gq {n:Nat}(xs:Th):okDs n (xs.map D.int)=true:=by
 induction xs with
 |nil=>cases n <;> rfl
 |cons x xs ih=>cases n <;> simpa [okDs,dL] using ih
theorem kO (xs ys:Th):eqDs (xs.map D.int) (ys.map D.int)=decide (xs=ys):=by
 induction xs generalizing ys with
 |nil=>cases ys <;> simp [cZ,eM,gd,gf]
 |cons x xs ih =>
  cases ys with
  |nil=>simp [cZ,eM,gd,gf]
  |cons y ys=>simp [cZ,eM,gd,gf,sQ,xa,xb,sR,ih ys];rfl
def Lk (o:Option (Lo×ac))(b:FS):Option oJ:=o.bind fun a=>b a.1 a.2
theorem qz {O:Lo}{U:ac}{b:FS}:Lk (some (O,U)) b=b O U:=rfl
def yo {g:FG}{b:FS}(I:Nat->Lo->ac->Prop){xs:List D}{O:Lo}{U:ac}(h0:I 0 O U)
  (hs:∀(i:Nat) x O U,xs[i]?=some x->I i O U->∃O' U',Lk (g (.v x) O U) b=some (.nx O' U')/\I (i+1) O' U') :
  ∃O' U',dC g b xs O U=some (.nx O' U')/\I xs.length O' U':=by
 have key:∀(n:Nat) (ys:List D) (i:Nat) O U,ys.length=n->xs.drop i=ys->i<=xs.length->I i O U->∃O' U',dC g b ys O U=some (.nx O' U')/\I xs.length O' U':=by
  intro n
  induction n with
  |zero =>
   intro ys i O U hn hd hi h;have:ys=[]:=zcM hn;subst this
   have:i=xs.length:=by
    have:=congrArg List.length hd;simp at this;omega
   subst this;exact ⟨O,U,rfl,h⟩
  |succ n ih =>
   intro ys i O U hn hd hi h
   cases ys with
   |nil=>simp at hn
   |cons y ys =>
    have hlt:i < xs.length:=by
     have:=congrArg List.length hd;simp at this;omega
    have hc:=zbe hlt;rw [hd] at hc
    injection hc with h1 h2
    obtain ⟨O',U',e0,h'⟩:=hs i y O U (by rw [h1];exact zao hlt) h;obtain ⟨⟨O1,U1⟩,e1,e2⟩:=zab.mp e0;obtain ⟨O2,U2,e3,h3⟩:=ih ys (i+1) O' U' (by simpa using hn) h2.symm hlt h';exact ⟨O2,U2,by simp only [dC,e1,e2,zar];exact e3,h3⟩
 exact key xs.length xs 0 O U rfl (by simp) (zbd _) h0
theorem vg {g:FG}{c:FT}{f:FE}{U:ac}(B:Lo->Prop)(p:D->Bool)(e:D->D):∀{xs:List D} {O:Lo},B O ->
  (∀x∈xs,∀O,B O->∃O1,g (.v x) O U=some (O1,U)/\B O1/\c O1 U=some (p x,U)/\(p x=true->f O1 U=some (.v (e x),U)))->cx g c f xs O U=some ((xs.filter p).map e,U)
 |[],_,_,_=>rfl
 |x::xs,O,hB,h=>by
  obtain ⟨O1,e1,hB1,e2,e3⟩:=h x (zan) O hB;have ih:=vg B p e (xs:=xs) hB1 fun y hy=>h y (zaj _ hy);simp only [cx,e1,zar,e2]
  cases hp:p x with
  |true=>simp [e3 hp,ih,hp]
  |false=>simp [ih,hp]
section
variable {O:Lo}{U:ac}{d:D}
def xF (o:Option (List R×ac))(f:MF)(n:Nat):Option (R×ac):=o.bind fun a=>(iB a.1 a.2).bind fun ds=>if ds.length=n then (f ds).bind fun d=>if cS d=true then some (.v d,a.2) else none else none
theorem N0 {f n fa}:dY f n fa O U=xF (fa O U) f n:=rfl
end
section
variable {O:Lo}{U:ac}{x y:R}{d e:D}{n:Nat}{xs ys:List D}{i j:Int}{b c:Bool}
def O0 (o:Option aq)(n:Nat)(g:R->List R->ac->Option (R×ac))(ga:FA)(O:Lo)(U:ac):Option (R×ac):=match o with|some (.lst _)=>oV (.p n) (ga O U) g|some (.fz _)=>oV (.p n) (ga O U) g|_=>none
theorem P9 {g ga}:zf (some (.p n,U)) g ga O=O0 U[n]? n g ga O U:=by
 cases h:U[n]? with
 |none=>simp [zf,j0,O0,h]
 |some c=>cases c <;> simp [zf,j0,O0,oV,h]
theorem Qa {g ga}:O0 (some (.lst xs)) n g ga O U=oV (.p n) (ga O U) g:=rfl
def N8 (o:Option aq)(n:Nat)(d:D)(U:ac):Option (R×ac):=match o with|some (.lst xs)=>if xs.length < sizeLine then some (.v .non,U.set n (.lst (xs++[d]))) else none|_=>none
theorem OW:kq (.p n) [.v d] U=N8 U[n]? n d U:=rfl
theorem OX:N8 (some (.lst xs)) n d U=if xs.length < sizeLine then some (.v .non,U.set n (.lst (xs++[d]))) else none:=rfl
def Qz (o:Option aq):Option (List D):=match o with|some (.lst xs)=>some xs|some (.fz xs)=>some xs|_=>none
theorem Qg:dJ (.v (.tup xs)) U=some xs:=rfl
theorem Qi:dJ (.v (.fl xs)) U=some xs:=rfl
theorem Qh:dJ (.p n) U=Qz U[n]?:=rfl
theorem KQ:Qz (some (.lst xs))=some xs:=rfl
def LS (o:Option (List D))(i:Int)(U:ac):Option (R×ac):=o.bind fun xs=>(mI xs i).bind fun d=>some (.v d,U)
def G6 (o:Option D)(U:ac):Option (R×ac):=o.bind fun d=>some (.v d,U)
theorem Rt:bh x (.v (.int i)) U=LS (dJ x U) i U:=rfl
theorem Qf:LS (some xs) i U=G6 (mI xs i) U:=rfl
theorem Qe:G6 (some d) U=some (.v d,U):=rfl
theorem Qu {a:D}{l:List D}:mI (a::l) 0=some a:=tu (by decide) rfl
theorem Qt {a b:D}{l:List D}:mI (a::b::l) 1=some b:=tu (by decide) rfl
theorem Qs {a b c:D}{l:List D}:mI (a::b::c::l) 2=some c:=tu (by decide) rfl
def G5 (o:Option (List D))(U:ac):Option (R×ac):=o.bind fun xs=>some (.v (.int xs.length),U)
theorem Qd:fP [x] U=G5 (dJ x U) U:=rfl
theorem ON:G5 (some xs) U=some (.v (.int xs.length),U):=rfl
def LR (o:Option (List D))(U:ac):Option (R×ac):=o.bind fun xs=>some (.p U.length,U++[.lst xs])
theorem Rq:pI [x] U=LR (dJ x U) U:=rfl
theorem Qc:LR (some xs) U=some (.p U.length,U++[.lst xs]):=rfl
def RB (o:Option aq):Option D:=match o with|some (.lst xs)=>some (.fl xs)|some (.fz xs)=>some (.fl xs)|_=>none
theorem PN:nD (.v d) U=some d:=rfl
theorem Dd:nD (.p n) U=RB U[n]?:=rfl
theorem PP:RB (some (.lst xs))=some (.fl xs):=rfl
def IB (o p:Option D)(neg:Bool)(U:ac):Option (R×ac):=o.bind fun a=>p.bind fun b=>if (dL 60 a && dL 60 b)=true then some (.v (.bl (if neg then !iO a b else iO a b)),U) else none
theorem K0:fS b x y U=IB (nD x U) (nD y U) b U:=rfl
theorem Qq:IB (some d) (some e) false U=if (dL 60 d && dL 60 e)=true then some (.v (.bl (iO d e)),U) else none:=rfl
theorem Qp:IB (some d) (some e) true U=if (dL 60 d && dL 60 e)=true then some (.v (.bl (!iO d e)),U) else none:=rfl
theorem Ke:dL n (.int i)=true:=by cases n <;> rfl
theorem Nc:dL n (.bl b)=true:=by cases n <;> rfl
theorem Qx:iO (.int i) (.int j)=(i == j):=rfl
def Gd (o:Option aq):Option D:=match o with|some (.lst xs)=>some (.fl xs)|some (.fz xs)=>some (.fl xs)|some (.dct kvs)=>some (.fd (kvs.map (·.1)) (kvs.map (·.2)))|some (.fzd kvs)=>some (.fd (kvs.map (·.1)) (kvs.map (·.2)))|_=>none
theorem NW:eZ (some (.rt (.p n) U))=Gd U[n]?:=by
 cases h:U[n]? with
 |none=>simp [eZ,fin,D1,Gd,h]
 |some c=>cases c <;> simp [eZ,fin,D1,Gd,h]
theorem OQ:Gd (some (.lst xs))=some (.fl xs):=rfl
theorem OP:eZ (some (.nx O U))=some .non:=rfl
def O1z (o:Option aq)(n:Nat)(U:ac):Option (R×ac):=match o with|some (.lst xs)=>some (.v (.fl xs),U.set n (.fz xs))|some (.fz xs)=>some (.v (.fl xs),U)|some (.dct kvs)=>some (.v (.fd (kvs.map (·.1)) (kvs.map (·.2))),U.set n (.fzd kvs))|some (.fzd kvs)=>some (.v (.fd (kvs.map (·.1)) (kvs.map (·.2))),U)|_=>none
theorem Qn:tV (some (.p n,U))=O1z U[n]? n U:=by
 cases h:U[n]? with
 |none=>simp [tV,D1,O1z,h]
 |some c=>cases c <;> simp [tV,D1,O1z,h]
theorem Qo:O1z (some (.lst xs)) n U=some (.v (.fl xs),U.set n (.fz xs)):=rfl
def L3 (o:Option D)(xs:List R)(U:ac):Option (List D):=o.bind fun d=>(iB xs U).bind fun ds=>some (d::ds)
def Ha (d:D)(o:Option (List D)):Option (List D):=o.bind fun ds=>some (d::ds)
theorem KI:iB [] U=some []:=rfl
theorem NN {rs}:iB (x::rs) U=L3 (O3 x U) rs U:=rfl
theorem KH {rs}:L3 (some d) rs U=Ha d (iB rs U):=rfl
theorem KG {ds}:Ha d (some ds)=some (d::ds):=rfl
def RC (o:Option aq):Option D:=match o with|some (.lst xs)=>some (.fl xs)|some (.fz xs)=>some (.fl xs)|some (.dct kvs)=>some (.fd (kvs.map (·.1)) (kvs.map (·.2)))|some (.fzd kvs)=>some (.fd (kvs.map (·.1)) (kvs.map (·.2)))|_=>none
theorem K2:O3 (.v d) U=some d:=rfl
theorem K3:O3 (.p n) U=RC U[n]?:=rfl
theorem K4:RC (some (.lst xs))=some (.fl xs):=rfl
def LG (o:Option (List D))(f:MF)(n:Nat)(U:ac):Option (R×ac):=o.bind fun ds=>if ds.length=n then (f ds).bind fun d=>some (.v d,U) else none
def LH (o:Option D)(U:ac):Option (R×ac):=o.bind fun d=>some (.v d,U)
theorem Rz {rs f n}:mK (some (rs,U)) f n=LG (vals rs) f n U:=rfl
theorem Ry {f:MF}{ds:List D}:LG (some ds) f n U=if ds.length=n then LH (f ds) U else none:=rfl
theorem Rx:LH (some d) U=some (.v d,U):=rfl
def IA (d:D)(o:Option (List D)):Option (List D):=o.bind fun ds=>some (d::ds)
theorem PU:vals []=some []:=rfl
def PR {rs}:vals (.v d::rs)=IA d (vals rs):=by unfold IA;cases h:vals rs <;> simp [vals,h]
theorem PQ {ds}:IA d (some ds)=some (d::ds):=rfl
def GI (o:Option (List D))(f:MF)(n:Nat)(U:ac):Option (R×ac):=o.bind fun ds=>if ds.length=n then (f ds).bind fun d=>if cS d=true then some (.v d,U) else none else none
def GK (o:Option D)(U:ac):Option (R×ac):=o.bind fun d=>if cS d=true then some (.v d,U) else none
theorem Rj {rs f n}:xF (some (rs,U)) f n=GI (iB rs U) f n U:=rfl
theorem Ri {f:MF}{ds:List D}:GI (some ds) f n U=if ds.length=n then GK (f ds) U else none:=rfl
theorem Rh:GK (some d) U=if cS d=true then some (.v d,U) else none:=rfl
def LK (o:Option (List D))(U:ac):Option (R×ac):=o.bind fun ds=>if ds.length<=sizeLine then some (.v (.tup ds),U) else none
theorem Re {rs}:xB (some (rs,U))=LK (vals rs) U:=rfl
theorem PX {ds}:LK (some ds) U=if ds.length<=sizeLine then some (.v (.tup ds),U) else none:=rfl
def LQ (o:Option (List D))(U:ac):Option (R×ac):=o.bind fun ds=>if ds.length<=sizeLine then some (.p U.length,U++[.lst ds]) else none
theorem Ro {rs}:xC (some (rs,U))=LQ (vals rs) U:=rfl
theorem Qb {ds}:LQ (some ds) U=if ds.length<=sizeLine then some (.p U.length,U++[.lst ds]) else none:=rfl
def G9 (o:Option (R×ac))(g:FG)(O:Lo):Option oJ:=o.bind fun a=>(g a.1 O a.2).bind fun b=>some (.nx b.1 b.2)
def A2 (o:Option (Lo×ac)):Option oJ:=o.bind fun b=>some (.nx b.1 b.2)
theorem Qv {f g}:pe f g O U=G9 (f O U) g O:=rfl
theorem OV {g}:G9 (some (x,U)) g O=A2 (g x O U):=rfl
theorem OU:A2 (some (O,U))=some (.nx O U):=rfl
theorem Qk {g}:qX n g (.v (.tup xs)) O U=if xs.length=n then g (xs.map .v) O U else none:=rfl
theorem Qm:eG [] O U=some (O,U):=rfl
def LV (o:Option (Lo×ac))(r:Ij)(ds:List R):Option (Lo×ac):=o.bind fun a=>r ds a.1 a.2
theorem Rw {g r ds}:aN g r (x::ds) O U=LV (g x O U) r ds:=rfl
theorem Ql {r ds}:LV (some (O,U)) r ds=r ds O U:=rfl
theorem P1 {l h}:Hq (.v (.fl xs)) l h U=some (.p U.length,U++[.lst (mz xs l h)]):=rfl
theorem N3:cO (.v (.int i)) (.v (.int j)) U=some (.v (.int (i+j)),U):=rfl
theorem N2:cO (.v (.tup xs)) (.v (.tup ys)) U=if xs.length+ys.length<=sizeLine then some (.v (.tup (xs++ys)),U) else none:=by
 cases xs with
 |nil=>simp [cO]
 |cons x xs=>simp [cO,Gk]
def GM (o:Option (R×ac))(fi:FE)(dv:D)(O:Lo):Option (Lo×ac):=o.bind fun o=>(fi O o.2).bind fun i=>(wu o.1 i.1 dv i.2).bind fun U'=>some (O,U')
def AU (x:R)(o:Option (R×ac))(dv:D)(O:Lo):Option (Lo×ac):=o.bind fun i=>(wu x i.1 dv i.2).bind fun U'=>some (O,U')
def AT (o:Option ac)(O:Lo):Option (Lo×ac):=o.bind fun U'=>some (O,U')
theorem OH {fo fi}:qx fo fi (.v d) O U=GM (fo O U) fi d O:=rfl
theorem OG {fi}:GM (some (x,U)) fi d O=AU x (fi O U) d O:=rfl
theorem OF:AU x (some (y,U)) d O=AT (wu x y d U) O:=rfl
theorem OE:AT (some U) O=some (O,U):=rfl
def N7 (o:Option aq)(n:Nat)(i:R)(dv:D)(U:ac):Option ac:=match o with
  |some (.lst xs)=>(match i with|.v (.int k)=>(D0 xs.length k).bind fun j=>some (U.set n (.lst (xs.set j dv)))|_=>none)
  |some (.dct kvs)=>if kvs.length < sizeLine then (lg i).bind fun k=>some (U.set n (.dct (hG kvs k dv))) else none
  |_=>none
theorem OK:wu (.p n) x d U=N7 U[n]? n x d U:=rfl
def LZ (o:Option (List D×ac)):Option (R×ac):=o.bind fun r=>some (.p r.2.length,r.2++[.lst r.1])
theorem NZ {ix k g c f}:rX (some (xs,U)) ix k g c f O=if xs.length<=sizeLine then LZ (cx g c f xs (dR k ix O) U) else none:=Eq.trans rfl rfl
theorem Qr {r:List D}:LZ (some (r,U))=some (.p U.length,U++[.lst r]):=rfl
theorem OT:dR 1 [] O=[none]:=rfl
theorem OS {i:Nat}:dR 1 [i] O=[none,(O[i]?).join]:=rfl
theorem OR {i j:Nat}:dR 1 [i,j] O=[none,(O[i]?).join,(O[j]?).join]:=rfl
theorem Rs {x:Option R}:(some x).join=x:=rfl
theorem F1:kW (.p n) U=Qz U[n]?:=rfl
def xG (o:Option (List R×ac))(f:MC)(n:Nat):Option (R×ac):=o.bind fun a=>(iB a.1 a.2).bind fun ds=>if ds.length=n then (f ds).bind fun c=>if rc c=true then some (.p a.2.length,a.2++[c]) else none else none
def GJ (o:Option (List D))(f:MC)(n:Nat)(U:ac):Option (R×ac):=o.bind fun ds=>if ds.length=n then (f ds).bind fun c=>if rc c=true then some (.p U.length,U++[c]) else none else none
def GL (o:Option aq)(U:ac):Option (R×ac):=o.bind fun c=>if rc c=true then some (.p U.length,U++[c]) else none
theorem u3 {f:MC}{fa}:bZ f n fa O U=xG (fa O U) f n:=rfl
theorem NU {f:MC}{rs}:xG (some (rs,U)) f n=GJ (iB rs U) f n U:=rfl
theorem NT {f:MC}{ds:List D}:GJ (some ds) f n U=if ds.length=n then GL (f ds) U else none:=rfl
theorem NS {k:aq}:GL (some k) U=if rc k=true then some (.p U.length,U++[k]) else none:=rfl
theorem KY:rc (.lst xs)=flatDs xs:=rfl
def pP (o:Option oJ):Option aq:=o.bind C9
def yQ (o:Option aq):Option aq:=match o with|some (.lst xs)=>some (.lst xs)|some (.dct kvs)=>some (.dct kvs)|_=>none
theorem NX:pP (some (.rt (.p n) U))=yQ U[n]?:=by
 cases h:U[n]? with
 |none=>simp [pP,C9,yQ,h]
 |some c=>cases c <;> simp [pP,C9,yQ,h]
theorem NY:yQ (some (.lst xs))=some (.lst xs):=rfl
theorem OO {ns:Th}:fX (ns.map D.int)=some ns:=by
 induction ns with
 |nil=>rfl
 |cons n ns ih=>simp [fX,ih]
def AW (o:Option aH)(kvs:List (aH×D))(n:Nat)(d:D)(U:ac):Option ac:=o.bind fun k=>some (U.set n (.dct (hG kvs k d)))
theorem OL {kvs}:N7 (some (.dct kvs)) n x d U=if kvs.length < sizeLine then AW (lg x) kvs n d U else none:=rfl
theorem NR {kvs k}:AW (some k) kvs n d U=some (U.set n (.dct (hG kvs k d))):=rfl
def Bc:2<=sizeLine:=by decide
def Sa:0<=sizeLine:=by decide
def R9:3<=sizeLine:=by decide
def i5 {n:Nat}(h:n < 4000):n < sizeLine:=zax h (by decide)
def eA {n:Nat}(h:n < 4000):n<=sizeLine:=zbD (i5 h)
end
theorem yn {Z:Type}{x y:Z}{l:List Z}:(x::l).set 0 y=y::l:=rfl
theorem ym {Z:Type}{x y:Z}{l:List Z}{n:Nat}:(x::l).set (n+1) y=x::l.set n y:=rfl
theorem Ou {Z:Type}{x:Z}{l:List Z}:(x::l)[0]?=some x:=rfl
theorem Ot {Z:Type}{x:Z}{l:List Z}{n:Nat}:(x::l)[n+1]?=l[n]?:=rfl
theorem Pt {Z:Type}{x:Z}{l:List Z}:(x::l).length=l.length+1:=rfl
theorem Os {Z:Type}:([]:List Z).length=0:=rfl
theorem Pv {Z:Type}{x:Z}{l r:List Z}:(x::l)++r=x::(l++r):=rfl
theorem Ov {Z:Type}{r:List Z} : []++r=r:=rfl
theorem Ps {Z β:Type}{f:Z->β}{x:Z}{l:List Z}:(x::l).map f=f x::l.map f:=rfl
theorem Oq {Z β:Type}{f:Z->β}:([]:List Z).map f=[]:=rfl
def Q8 {n:Nat}:0+n=n:=zci n
theorem Op:(!true)=false:=rfl
theorem Pu {Z:Type}{a b:Z}:(if false=true then a else b)=b:=rfl
section
variable {g:FG}{b:FS}{O:Lo}{U:ac}
def Ed (o:Option oJ)(g:FG)(b:FS)(xs:List D):Option oJ:=o.bind fun o=>match o with
  |.nx O' U'=>dC g b xs O' U'
  |.ct O' U'=>dC g b xs O' U'
  |.bk O' U'=>some (.nx O' U')
  |.rt d U'=>some (.rt d U')
theorem gr {x:D}{xs:List D}:dC g b (x::xs) O U=Ed (Lk (g (.v x) O U) b) g b xs:=by
 show (g (.v x) O U).bind _=_
 cases e:g (.v x) O U <;> rfl
theorem uI {xs}:Ed (some (.nx O U)) g b xs=dC g b xs O U:=rfl
theorem Q9 {xs}:Ed (some (.bk O U)) g b xs=some (.nx O U):=rfl
theorem Nh {xs d}:Ed (some (.rt d U)) g b xs=some (.rt d U):=rfl
theorem jU {Z Y:Type}(e:Z->D)(S:Y->Lo×ac)(P:Y->List Z->Prop):∀(as:List Z) (s:Y),P s as ->
  (∀s a r,P s (a::r)->∃s',Lk (g (.v (e a)) (S s).1 (S s).2) b=some (.nx (S s').1 (S s').2)/\P s' r) ->
  ∃s',dC g b (as.map e) (S s).1 (S s).2=some (.nx (S s').1 (S s').2)/\P s' []
 |[],s,h,_=>⟨s,rfl,h⟩
 |a::as,s,h,k=>by
  obtain ⟨s1,h1,h2⟩:=k s a as h;obtain ⟨s2,h3,h4⟩:=jU e S P as s1 h2 k;exact ⟨s2,by rw [zaf,gr,h1,uI,h3],h4⟩
def wH (n:Nat)(I:Nat->Lo->ac->Prop)(h0:I 0 O U)
  (hs:∀i < n,∀O U,I i O U->∃O' U',Lk (g (.v (.int (i:Int))) O U) b=some (.nx O' U')/\I (i+1) O' U') :
  ∃O' U',dC g b ((List.range n).map fun i=>.int ((i:Nat):Int)) O U=some (.nx O' U')/\I n O' U':=by
 obtain ⟨O',U',e,h⟩:=yo (g:=g) (b:=b) I (xs:=(List.range n).map fun i=>D.int ((i:Nat):Int)) h0 fun i x O U hx hI=>by
  rw [zaE] at hx;obtain ⟨k,hk,rfl⟩:=zaO.mp hx;obtain ⟨hl,hk⟩:=zat.mp hk;rw [zcX] at hk;subst hk;exact hs i (by simpa using hl) O U hI
 exact ⟨O',U',e,by simpa using h⟩
end
section
variable {O:Lo}{U:ac}{x y:R}{d:D}{n:Nat}{i:Int}
def R4 (o:Option aq):Option (List (aH×R)):=match o with|some (.dct kvs)=>some (kvs.map fun p=>(p.1,R.v p.2))|some (.fzd kvs)=>some (kvs.map fun p=>(p.1,R.v p.2))|some (.dr kvs)=>some kvs|some (.fzr kvs)=>some kvs|_=>none
def LY (o:Option (R×ac))(fk:FE)(O:Lo):Option (R×ac):=o.bind fun o=>(fk O o.2).bind fun k=>(sC o.1 k.2).bind fun kvs=>(lg k.1).bind fun key=>(lW kvs key).bind fun r=>some (r,k.2)
def xD (x:R)(o:Option (R×ac)):Option (R×ac):=o.bind fun k=>(sC x k.2).bind fun kvs=>(lg k.1).bind fun key=>(lW kvs key).bind fun r=>some (r,k.2)
def LX (o:Option (List (aH×R)))(y:R)(U:ac):Option (R×ac):=o.bind fun kvs=>(lg y).bind fun key=>(lW kvs key).bind fun r=>some (r,U)
def G8 (o:Option R)(U:ac):Option (R×ac):=o.bind fun r=>some (r,U)
theorem Lv {fo fk}:uZ fo fk O U=LY (fo O U) fk O:=rfl
theorem GD {fk}:LY (some (x,U)) fk O=xD x (fk O U):=rfl
theorem GC:xD x (some (y,U))=LX (sC x U) y U:=rfl
theorem QV:G8 (some x) U=some (x,U):=rfl
theorem Lu:sC (.p n) U=R4 U[n]?:=rfl
theorem QW:FW O U=some (.p U.length,U++[.dtr []]):=rfl
theorem QT:uT true .non (.v .non) U=some (.v (.bl false),U):=rfl
theorem QU:uT true .non (.v (.int i)) U=some (.v (.bl true),U):=rfl
def OZ (o:Option aq):Option (List (Th×R)):=match o with|some (.dtr kvs)=>some kvs|_=>none
def AQ (o:Option (List (Th×R)))(k:Th)(U:ac):Option (R×ac):=o.bind fun kvs=>(jB kvs k).bind fun d=>some (d,U)
def AR (x:R)(o:Option (R×ac)):Option (R×ac):=o.bind fun k=>match x,k.1 with
 |.p n,.v (.key ks)=>AQ (OZ k.2[n]?) ks k.2
 |_,_=>none
def LJ (o:Option (R×ac))(fk:FE)(O:Lo):Option (R×ac):=o.bind fun o=>AR o.1 (fk O o.2)
theorem RL {fo fk}:Da fo fk O U=LJ (fo O U) fk O:=rfl
theorem QS {fk}:LJ (some (x,U)) fk O=AR x (fk O U):=rfl
theorem QR {k}:AR (.p n) (some (.v (.key k),U))=AQ (OZ U[n]?) k U:=rfl
theorem Pa {kvs}:OZ (some (.dtr kvs))=some kvs:=rfl
theorem QQ {kvs k}:AQ (some kvs) k U=G8 (jB kvs k) U:=rfl
theorem Lr:qJ [.p n] U=(OZ U[n]?).bind fun kvs=>if kvs.length < 64/\(kvs.length < 2\/∀p∈kvs,p.1≠[]) then some (.p U.length,U++[.lst ((br (kvs.map (·.1))).map D.key)]) else none:=rfl
end
end HW
namespace LW
open HW
abbrev bv (i:Int):Option R:=some (.v (.int i))
abbrev bC (n:Nat):Option R:=some (.p n)
end LW
local macro_rules
 | `(tactic| push_cast [$xs,*] $[$loc]?) => do
  let ids : Array (Lean.TSyntax `term) := ("Bc Sa R9 yn ym Ou Ot Pt Os Pv Ov Ps Oq Q8 Op Pu uI Q9 Nh mv nP KP nQ j8 lL Rb PV jj u4 pW Dp Do PY OB OA OD NQ KJ FY OC NP Qw OY H9 P5 P7 OM Ru Qj De KO Ia Dj yH F0 lK hV OJ OI N1 F3 Dk pS FZ pU KS KU pV mx yF Dh Dg Rg PM NV KM PZ Rp Rr Rv P8 w6 KZ qz P9 Qa OW OX Qg Qi Qh KQ Rt Qf Qe Qu Qt Qs Qd ON Rq Qc PN Dd PP K0 Qq Qp Ke Nc Qx NW OQ Qn Qo KI NN KH KG K2 K3 K4 Rz Ry Rx PU PR PQ Re PX Ro Qb Qv OV OU Qk Qm Rw Ql N3 N2 F1 fm eK eJ j7 mw F4 Rf P4 P3 P2 P0 Rn Rm P6 N0 OP Rj Ri Rh P1 OH OG OF OE OK NZ Qr OT OS OR Rs u3 NU NT NS KY NX NY OO OL NR Lv GD GC QV Lu QW QT QU RL QS QR Pa QQ".splitOn " ").toArray.map fun n => ⟨(Lean.mkIdent (String.toName ("HW." ++ n))).raw⟩
  `(tactic| simp -implicitDefEqProofs only [$xs,*, $[$ids:term],*, Nat.reduceAdd, if_true, Bool.and_self] $[$loc]?)
namespace LW
open PyProof.Rows L2 HW
def kU (i:Nat):Stmt:=PySem.Challenge.pw_heldwhen_k31_tables_by_decided.main.body.getD i (.Pass ⟨0,0,0,0⟩)
noncomputable section
abbrev f7:Stmt:=L2.kM (kU 41) 0
def sj:ax ["self","shapes"] ["self","shapes"] (ai f7):=by ac_rfl
abbrev i4:Stmt:=L2.kM (kU 41) 1
def f8:ax ["self","telling","name","keys","turn"] ["self","telling"] (ai i4):=by ac_rfl
abbrev iZ:Stmt:=L2.kM (kU 41) 2
def si:ax ["self","name","row","low","high"] ["self","name","row","low","high"] (ai iZ):=by ac_rfl
abbrev gF:Stmt:=L2.kM (kU 41) 3
def pb:ax ["self","name","key","low","high"] ["self","name","key","low","high"] (ai gF):=by ac_rfl
abbrev ik:Stmt:=L2.kM (kU 41) 7
def qo:ax ["self","name"] ["self","name"] (ai ik):=by ac_rfl
abbrev fM:Stmt:=L2.kM (kU 41) 9
def jC:ax ["self","name","key","day","turn","at"] ["self","name","key","day","turn"] (ai fM):=by ac_rfl
abbrev jG:Stmt:=kU 9
def ua:ax ["word","one","other"] ["word","one","other"] (ai jG):=by ac_rfl
abbrev iV:Stmt:=kU 13
def o9:ax ["reach","number","passed"] ["reach","number"] (ai iV):=by ac_rfl
abbrev ig:Stmt:=kU 14
def ql:ax ["low","high"] ["low","high"] (ai ig):=by ac_rfl
abbrev jL:Stmt:=kU 15
def cz:ax ["one","other","word","in_one","in_other","first","last","one_borders","other_borders","edges","edge","here"] ["one","other","word"] (ai jL):=by ac_rfl
abbrev jI:Stmt:=kU 18
def g7:ax ["plot","turn","reach","step"] ["plot","turn"] (ai jI):=by ac_rfl
abbrev lq:Stmt:=kU 19
def wl:ax ["plot","day","turn"] ["plot","day","turn"] (ai lq):=by ac_rfl
abbrev iY:Stmt:=kU 27
def sg:ax ["plots"] ["plots"] (ai iY):=by ac_rfl
abbrev fA:Stmt:=kU 28
def fF:ax ["pairs","plots","row","plot","entries"] ["pairs"] (ai fA):=by ac_rfl
abbrev kA:Stmt:=kU 29
def zq:ax ["table","day","turn"] ["table","day","turn"] (ai kA):=by ac_rfl
abbrev jH:Stmt:=kU 31
def nG:ax ["shapes","name","shape"] ["shapes","name"] (ai jH):=by ac_rfl
abbrev gE:Stmt:=kU 32
def jN:ax ["numbers","width","many"] ["numbers","width"] (ai gE):=by ac_rfl
abbrev eR:Stmt:=kU 33
def mN:ax ["low","high"] ["low","high"] (ai eR):=by ac_rfl
abbrev lu:Stmt:=kU 34
def wm:ax ["telling"] ["telling"] (ai lu):=by ac_rfl
abbrev eQ:Stmt:=kU 35
def iH:ax ["shapes","telling","shape"] ["shapes","telling"] (ai eQ):=by ac_rfl
abbrev ij:Stmt:=kU 36
def qm:ax ["plot"] ["plot"] (ai ij):=by ac_rfl
abbrev lp:Stmt:=kU 37
def wj:ax ["plot","turn","reach"] ["plot","turn","reach"] (ai lp):=by ac_rfl
abbrev lm:Stmt:=kU 38
def dg:ax ["table","keys","telling","turn","said","days","plots","pairs","row","plot","word"] ["table","keys","telling","turn"] (ai lm):=by ac_rfl
abbrev lx:Stmt:=kU 40
def wn:ax ["telling","name","key","day"] ["telling","name","key","day"] (ai lx):=by ac_rfl
abbrev jK:Stmt:=kU 43
def ub:ax ["script","k"] ["script","k"] (ai jK):=by ac_rfl
abbrev jJ:Stmt:=kU 44
def jM:ax ["cell","k","number"] ["cell","k"] (ai jJ):=by ac_rfl
abbrev ff:Stmt:=kU 45
def bS:ax ["cell","number","word","place","shapes","k","width","name"] ["cell"] (ai ff):=by ac_rfl
abbrev ez:Stmt:=kU 46
def aV:ax ["cell","shapes","scale","number","name","keys","width","menu","row","low","high"] ["cell","shapes","scale"] (ai ez):=by ac_rfl
abbrev iX:Stmt:=kU 47
def sf:ax ["book","telling"] ["book","telling"] (ai iX):=by ac_rfl
abbrev g6:Stmt:=kU 48
def d7:ax ["cell","k","tellings","scale","number","turn","day","ends"] ["cell","k","tellings","scale"] (ai g6):=by ac_rfl
abbrev ii:Stmt:=kU 49
def im:ax ["tellings","name","keys","spoken","telling"] ["tellings","name","keys"] (ai ii):=by ac_rfl
abbrev iW:Stmt:=kU 50
def cH:ax ["book","shape","tellings","day","turn","name","keys","width","due","key","at"] ["book","shape","tellings","day","turn"] (ai iW):=by ac_rfl
abbrev wa:Stmt:=kU 51
def fN:ax ["script","shapes","scale","book","tellings","cell","now","shape","day","turn","table"] ["script"] (ai wa):=by ac_rfl
abbrev ko:FS:=(aB (l6 "Book" "shape_list" (af 0) (dQ pI (ae (af 1) ak)))
  (aB (l6 "Book" "tellings" (af 0) (cN ak))
  (l6 "Book" "tables_now" (af 0) (dQ nR (ae (eI [] 1 (cw (af 1)) (b7 0) jo (du (ae (ar bh (af 0) (fK (.int 0))) (ae (bP (cN ak)) ak)))) ak)))))
def cG:MW:=mO 2 (ko)
abbrev jp:FS:=(aB (gm (fB (ar (fS false) (af 0) (fK (.str "both"))))
  (bD (Dc (af 1) (af 2)))
  aT)
  (aB (gm (fB (ar (fS false) (af 0) (fK (.str "either"))))
  (bD (Oz (af 1) (af 2)))
  aT)
  (aB (gm (fB (ar (fS false) (af 0) (fK (.str "less"))))
  (bD (Dc (af 1) (pR (af 2))))
  aT)
  (aB (gm (fB (ar (fS false) (af 0) (fK (.str "just"))))
  (bD (ar (fS true) (af 1) (af 2)))
  aT)
  lz))))
def bH:MF:=fG 3 (jp)
abbrev kS:FS:=(aB (aK 2 (dQ fP (ae (eI [1] 1 (cw (ar bh (af 0) (fK (.int 1)))) (b7 0) (fB (ar HP (af 0) (af 1))) (af 0)) ak)))
  (bD (FU (fB (ar (fS false) (ar bO (af 2) (fK (.int 2))) (fK (.int 0)))) (ar bh (af 0) (fK (.int 0))) (pR (ar bh (af 0) (fK (.int 0)))))))
def eV:MF:=fG 3 (kS)
abbrev jq:FS:=(aB (gm (k8 (fB (oH (uT false .non) (af 0))) (fB (oH (uT false .non) (af 1))))
  (bD (fK (.tup [(.bl true),(.tup [])])))
  aT)
  (aB (gm (fB (oH (uT false .non) (af 0)))
  (bD (du (ae (fK (.bl true)) (ae (du (ae (af 1) ak)) ak))))
  aT)
  (aB (gm (fB (oH (uT false .non) (af 1)))
  (bD (du (ae (fK (.bl false)) (ae (du (ae (af 0) ak)) ak))))
  aT)
  (aB (gm (fB (ar HP (af 1) (af 0)))
  (bD (fK (.tup [(.bl false),(.tup [])])))
  aT)
  (bD (du (ae (fK (.bl false)) (ae (du (ae (af 0) (ae (af 1) ak))) ak))))))))
def cK:MF:=fG 2 (jq)
abbrev gc:FS:=(aB (gm (fB (ar Nq (ar bh (af 3) (fK (.int 0))) (af 1)))
  sm
  aT)
  (aK 2 (ar bh (af 3) (fK (.int 1)))))
abbrev lQ:FS:=(aB (aK 2 (ar bh (af 0) (fK (.int 0))))
  (aB (i7 (cw (ar bh (af 0) (fK (.int 1)))) (b7 3)
  gc)
  (bD (af 2))))
def gL:MF:=fG 4 (lQ)
abbrev vB:FS:=(aB (gm (fB (ar (fS false) (dQ fP (ae (af 0) ak)) (fK (.int 1))))
  (bD (ar bh (af 0) (fK (.int 0))))
  aT)
  lz)
def dk:MF:=fG 1 (vB)
abbrev eE:FS:=(gm (fB (ar (fS false) (ar bh (af 2) (fK (.int 0))) (af 1)))
  (bD (af 2))
  aT)
abbrev lP:FS:=(aB (i7 (cw (af 0)) (b7 2)
  eE)
  lz)
def bm:MF:=fG 3 (lP)
abbrev iw:FS:=(aB (aK 2 (dQ fP (ae (af 0) ak)))
  (gm (fB (ar (fS true) (af 2) (af 1)))
  lz
  aT))
def aW:MF:=fG 3 (iw)
abbrev fT:FS:=(gm (k8 (fB (oH (uT true .non) (af 0))) (k8 (fB (oH (uT true .non) (af 1))) (fB (ar HP (af 1) (af 0)))))
  lz
  aT)
def cR:MF:=fG 2 (fT)
abbrev gB:FS:=(bD (ar (fS false) (ar bh (af 0) (fK (.int 0))) (fK (.str "tell"))))
def bU:MF:=fG 1 (gB)
abbrev jw:FS:=(bD (FU (j5 (ar bh (af 0) (fK (.int 1)))) (ar bh (ar bh (ar bh (af 0) (fK (.int 1))) (oH n9 (fK (.int 1)))) (fK (.int 1))) (ar bh (af 0) (fK (.int 0)))))
def cM:MF:=fG 1 (jw)
abbrev ju:FS:=(aB (gm (fB (ar Ng (af 1) (dQ fP (ae (af 0) ak))))
  (bD (ar bh (af 0) (af 1)))
  aT)
  (bD (fK (.int 0))))
def cL:MF:=fG 2 (ju)
abbrev lR:FS:=(aB (aK 2 (ar bO (ar mV (ar cO (ar bO (af 0) (fK (.int 2147483629))) (fK (.int 1))) (fK (.int 1103515245))) (fK (.int 2147483629))))
  (aB (aK 2 (ar bO (ar cO (ar cO (ar mV (af 2) (af 2)) (ar mV (af 1) (fK (.int 69621)))) (fK (.int 12345))) (fK (.int 2147483587))))
  (bD (ar bO (ar mV (af 2) (af 2)) (fK (.int 2147483629))))))
def aR:MF:=fG 3 (lR)
abbrev dq (bt:Bool):FS:=(gm (fB (ar (fS false) (ar bh (af 4) (fK (.int 1))) (af 1)))
  (pe (fK (.bl true)) (qY (af 3) (wY (ar bh (af 4) (fK (.int 2))) eB (d8 (af 2)))))
  aT)
abbrev jr (bt:Bool):FS:=(aB (aK 3 FV)
  (aB (i7 (cw (af 0)) (b7 4)
  (dq bt))
  (bD (dQ zg (ae (af 3) ak)))))
def cJ (bt:Bool):MC:=wo 5 (jr bt)
abbrev jx:FS:=(aB (cC (dY bm 2 (ae (dP "Book" "shape_list" (af 0)) (ae (af 1) ak))))
  (bD (dQ pI (ae (uZ (dP "Book" "tables_now" (af 0)) (af 1)) ak))))
def bf:MW:=mO 2 (jx)
abbrev tt (bt:Bool):FS:=(aB (aK 3 (ar bh (af 0) (fK (.int 0))))
  (aB (aK 4 (ar bh (af 1) (fK (.int 0))))
  (aB (aK 5 (aL bH 3 (ae (bP (af 2)) (ae (bP (af 3)) (ae (bP (af 4)) ak)))))
  (aB (aK 6 (af 5))
  (aB (aK 7 (dQ pY (ae (eI [] 1 (cw (ar bh (af 0) (fK (.int 1)))) (b7 0) jo (du (ae (af 0) (ae (fK (.bl true)) ak)))) ak)))
  (aB (aK 8 (dQ pY (ae (eI [] 1 (cw (ar bh (af 1) (fK (.int 1)))) (b7 0) jo (du (ae (af 0) (ae (fK (.bl true)) ak)))) ak)))
  (aB (aK 9 (cN ak))
  (aB (i7 (cw (dQ (kB bt) (ae (ar (Lm bt) (dQ (wf bt) (ae (ar bh (af 0) (fK (.int 1))) ak)) (dQ (wf bt) (ae (ar bh (af 1) (fK (.int 1))) ak))) ak))) (b7 10)
  (aB (gm (fB (ar (Fz false) (af 10) (af 7)))
  (aK 3 (pR (af 3)))
  aT)
  (aB (gm (fB (ar (Fz false) (af 10) (af 8)))
  (aK 4 (pR (af 4)))
  aT)
  (aB (aK 11 (aL bH 3 (ae (bP (af 2)) (ae (bP (af 3)) (ae (bP (af 4)) ak)))))
  (aB (gm (fB (ar (fS true) (af 11) (af 6)))
  (cC (yC kq (af 9) (ae (af 10) ak)))
  aT)
  (aK 6 (af 11)))))))
  (bD (du (ae (af 5) (ae (dQ ze (ae (af 9) ak)) ak))))))))))))
def kI (bt:Bool):MF:=fG 12 (tt bt)
abbrev nu:FS:=(bD (aL eV 2 (ae (bP (aL gL 2 (ae (bP (af 0)) (ae (bP (af 2)) ak)))) (ae (bP (af 1)) ak))))
def eW:MF:=fG 3 (nu)
abbrev eD (bt:Bool):FS:=(cC (yC kq (pQ (af 1) (af 2) (cN ak)) (ae (af 3) ak)))
abbrev lO (bt:Bool):FS:=(aB (aK 1 FW)
  (aB (i7 (cw (af 0)) (qX 2 (aN (b7 2) (aN (b7 3) eG)))
  (eD bt))
  (aB (aK 4 (eI [1] 1 (cw (dQ qJ (ae (af 1) ak))) (b7 0) jo (du (ae (af 0) (ae (aL dk 1 (ae (bP (Da (af 1) (af 0))) ak)) ak)))))
  (bD (eI [] 1 (cw (af 4)) (b7 0) (fB (ar (fS true) (ar bh (af 0) (fK (.int 1))) (fK (.tup [(.tup [(.bl false),(.tup [])]),(.tup [])])))) (af 0))))))
def gK (bt:Bool):MC:=wo 5 (lO bt)
abbrev dU:FS:=(aB (aK 2 (dY bm 2 (ae (af 0) (ae (ar bh (af 1) (fK (.int 1))) ak))))
  (aB (cC (aL (uk aW) 2 (ae (bP (ar bh (af 1) (fK (.int 2)))) (ae (bP (FU (j5 (aL bU 1 (ae (bP (af 1)) ak))) (ar bh (af 2) (fK (.int 2))) (ar bh (af 2) (fK (.int 1))))) ak))))
  (cC (aL cR 2 (ae (bP (ar bh (af 1) (fK (.int 3)))) (ae (bP (ar bh (af 1) (fK (.int 4)))) ak))))))
def bq:MF:=fG 3 (dU)
abbrev kR:FS:=(aB (gm (fB (ar (fS false) (af 2) (aL cM 1 (ae (bP (af 0)) ak))))
  (bD (af 0))
  aT)
  (bD (du (ae (ar bh (af 0) (fK (.int 0))) (ae (ar cO (ar bh (af 0) (fK (.int 1))) (du (ae (du (ae (af 1) (ae (af 2) ak))) ak))) ak)))))
def iM:MF:=fG 3 (kR)
abbrev iQ:FS:=(aB (gm (v5 (fB (ar (fS true) (ar bh (af 0) (fK (.int 1))) (af 1))) (fB (ar (fS true) (Am (ar bh (af 0) (fK (.int 2))) eB (d8 (dQ fP (ae (af 2) ak)))) (af 2))))
  (bD (fK (.bl false)))
  aT)
  (bD (aL eV 2 (ae (bP (aL cK 2 (ae (bP (ar bh (af 0) (fK (.int 3)))) (ae (bP (ar bh (af 0) (fK (.int 4)))) ak)))) (ae (bP (af 3)) ak)))))
def eX:MF:=fG 4 (iQ)
abbrev gM:FS:=(aB (aK 6 (ar cO (fK (.int 1)) (ar bO (ar fI (aL aR 2 (ae (bP (af 0)) (ae (bP (ar cO (fK (.int 80)) (af 5))) ak))) (fK (.int 3))) (ar bh (cN (ae (fK (.int 3)) (ae (fK (.int 3)) (ae (fK (.int 8)) ak)))) (ar bO (ar fI (af 1) (fK (.int 256))) (fK (.int 3)))))))
  (aB (aK 7 (ar cO (ar cO (Db (af 2) eB (d8 (af 3))) (ar HQ (fK (.str "kmz")) (af 5))) (Db (af 2) (d8 (ar cO (af 3) (fK (.int 1)))) eB)))
  (cC (yC kq (af 4) (ae (du (ae (af 7) (ae (ar bO (ar fI (aL aR 2 (ae (bP (af 0)) (ae (bP (ar cO (fK (.int 90)) (af 5))) ak))) (fK (.int 3))) (ar cO (af 6) (fK (.int 1)))) (ae (af 6) ak)))) ak)))))
abbrev jt:FS:=(aB (aK 1 (aL aR 2 (ae (bP (af 0)) (ae (fK (.int 1)) ak))))
  (aB (aK 2 (ar qT (fK (.str "")) (eI [0] 1 (Al (ar cO (fK (.int 1)) (ar bO (af 1) (fK (.int 8))))) (b7 0) jo (ar HQ (fK (.str "abcdefghijklmnopqrstuvwxyz")) (ar bO (ar fI (aL aR 2 (ae (bP (af 1)) (ae (bP (ar cO (fK (.int 70)) (af 0))) ak))) (fK (.int 3))) (fK (.int 26)))))))
  (aB (aK 3 (ar bO (ar fI (af 1) (fK (.int 8))) (dQ zO (ae (af 2) ak))))
  (aB (aK 4 (cN ak))
  (aB (i7 (Al (ar cO (fK (.int 1)) (ar bO (ar fI (af 1) (fK (.int 64))) (fK (.int 3))))) (b7 5)
  gM)
  (bD (af 4)))))))
def dB:MF:=fG 8 (jt)
abbrev fu:FS:=(aB (aK 3 (aL aR 2 (ae (bP (af 0)) (ae (fK (.int 2)) ak))))
  (aB (pe (ar bh (af 1) (ar bO (af 3) (dQ fP (ae (af 1) ak)))) (qX 3 (aN (b7 4) (aN (b7 5) (aN (b7 6) eG)))))
  (aB (aK 7 (cN (ae (fK (.int 0)) (ae (fK (.int 1)) (ae (oH n9 (fK (.int 1))) (ae (ar bO (af 0) (ar iL (fK (.int 10)) (fK (.int 50)))) (ae (ar iU (fK (.int 0)) (ar bO (af 0) (ar iL (fK (.int 10)) (fK (.int 50))))) ak)))))))
  (aB (aK 8 (dQ CL (ae (eI [7,0] 1 (Al (af 6)) (b7 0) jo (ar bh (af 1) (ar bO (ar fI (aL aR 2 (ae (bP (af 2)) (ae (bP (ar cO (fK (.int 20)) (af 0))) ak))) (fK (.int 5))) (fK (.int 5))))) ak)))
  (aB (aK 9 (ar mV (ar iU (ar bO (ar fI (af 3) (fK (.int 8))) (fK (.int 12))) (fK (.int 3))) (af 2)))
  (aB (aK 10 (ar cO (af 9) (ar mV (ar cO (fK (.int 1)) (ar bO (ar fI (af 3) (fK (.int 96))) (fK (.int 6)))) (af 2))))
  (aB (gm (fB (ar (fS false) (ar bO (ar fI (af 3) (fK (.int 600))) (fK (.int 5))) (fK (.int 0))))
  (aK 9 (fK .non))
  aT)
  (aB (gm (fB (ar (fS false) (ar bO (ar fI (af 3) (fK (.int 3000))) (fK (.int 5))) (fK (.int 0))))
  (aK 10 (fK .non))
  aT)
  (aB (gm (fB (ar (fS false) (ar bO (ar fI (af 3) (fK (.int 15000))) (fK (.int 3))) (fK (.int 0))))
  (bD (du (ae (fK (.str "strike")) (ae (af 4) (ae (wY (af 8) eB (d8 (af 5))) (ae (af 9) (ae (af 10) ak)))))))
  aT)
  (bD (du (ae (fK (.str "tell")) (ae (af 4) (ae (af 8) (ae (af 9) (ae (af 10) ak))))))))))))))))
def cW:MF:=fG 11 (fu)
abbrev gO:FS:=(aB (aK 4 (aL aR 2 (ae (bP (af 0)) (ae (bP (ar cO (af 1) (fK (.int 41)))) ak))))
  (aB (aK 5 (ar iU (ar bO (af 4) (ar cO (dQ fP (ae (af 2) ak)) (fK (.int 3)))) (fK (.int 1))))
  (aB (aK 6 (ar iU (ar mV (ar iU (ar bO (ar fI (af 4) (fK (.int 70))) (fK (.int 16))) (fK (.int 4))) (af 3)) (ar bO (ar fI (af 4) (fK (.int 7000))) (fK (.int 2)))))
  (aB (gm (k8 (fB (ar (fS true) (af 2) (cN ak))) (fB (ar (fS false) (ar bO (ar fI (af 4) (fK (.int 14000))) (fK (.int 2))) (fK (.int 0)))))
  (aB (aK 7 (eI [] 1 (cw (Am (ar bh (af 2) (ar bO (ar fI (af 4) (fK (.int 28000))) (dQ fP (ae (af 2) ak)))) (d8 (fK (.int 3))) eB)) (b7 0) (fB (oH (uT true .non) (af 0))) (af 0)))
  (gm (fB (ar (fS true) (af 7) (cN ak)))
  (aK 6 (ar iU (ar bh (af 7) (fK (.int 0))) (ar bO (ar fI (af 4) (fK (.int 2000000))) (fK (.int 2)))))
  aT))
  aT)
  (bD (du (ae (af 6) (ae (af 5) ak))))))))
def dj:MF:=fG 8 (gO)
abbrev bV:FS:=(gm (j5 (aL (uk eX) 4 (ae (bP (ar bh (dP "Book" "tellings" (af 0)) (ar iU (af 5) (fK (.int 1))))) (ae (bP (af 1)) (ae (bP (af 2)) (ae (bP (af 3)) ak))))))
  (bD (af 5))
  aT)
abbrev gP:FS:=(aB (cC (aL (uk aW) 2 (ae (bP (af 2)) (ae (bP (ar bh (dY bm 2 (ae (dP "Book" "shape_list" (af 0)) (ae (af 1) ak))) (fK (.int 1)))) ak))))
  (aB (i7 (Ak (dQ oa (ae (af 4) (ae (dQ fP (ae (dP "Book" "tellings" (af 0)) ak)) ak))) (fK (.int 0)) (oH n9 (fK (.int 1)))) (b7 5)
  bV)
  (bD (fK .non))))
def bX:MW:=mO 6 (gP)
abbrev p9:FS:=(bD (eI [1,2] 2 (cw (af 0)) (qX 2 (aN (b7 0) (aN (b7 1) eG))) (j5 (aL eW 3 (ae (bP (af 1)) (ae (bP (af 2)) (ae (bP (af 3)) ak))))) (af 0)))
def bj:MC:=wo 3 (p9)
abbrev d9 (bt:Bool):FS:=(gm (fB (ar (D2 false) (Am (HZ (af 8)) eB (d8 (af 1))) (Am (HZ (af 4)) eB (d8 (af 1)))))
  (aB (aK 10 (FU (k8 (j5 (aL bU 1 (ae (bP (af 2)) ak))) (fB (ar (D2 false) (af 8) (af 4)))) (fK (.str "either")) (fK (.str "less"))))
  (cC (yC kq (af 7) (ae (du (ae (af 8) (ae (aL iM 3 (ae (bP (af 9)) (ae (bP (af 3)) (ae (bP (aL (kI bt) 3 (ae (bP (aL cM 1 (ae (bP (af 9)) ak))) (ae (bP (af 5)) (ae (bP (af 10)) ak))))) ak)))) ak))) ak))))
  (cC (yC kq (af 7) (ae (du (ae (af 8) (ae (af 9) ak))) ak))))
abbrev nt (bt:Bool):FS:=(aB (aK 4 (ar bh (af 2) (fK (.int 2))))
  (aB (aK 5 (aL cK 2 (ae (bP (ar bh (af 2) (fK (.int 3)))) (ae (bP (ar bh (af 2) (fK (.int 4)))) ak))))
  (aB (aK 6 (dQ rk (ae (af 0) ak)))
  (aB (gm (j5 (aL bU 1 (ae (bP (af 2)) ak)))
  (cC (Ao (af 6) (af 4) (fK (.tup [(.tup [(.bl false),(.tup [])]),(.tup [])]))))
  aT)
  (aB (aK 7 (cN ak))
  (aB (i7 (FQ (af 6)) (qX 2 (aN (b7 8) (aN (b7 9) eG)))
  (d9 bt))
  (bD (bZ (gK bt) 1 (ae (af 7) ak)))))))))
def eT (bt:Bool):MC:=wo 11 (nt bt)
abbrev kj (bt:Bool):FS:=(aB (cC (dY (uk bq) 2 (ae (dP "Book" "shape_list" (af 0)) (ae (af 1) ak))))
  (aB (aK 2 (ar bh (af 1) (fK (.int 1))))
  (aB (aK 3 (ar bh (dY bm 2 (ae (dP "Book" "shape_list" (af 0)) (ae (af 2) ak))) (fK (.int 1))))
  (aB (cC (yC kq (dP "Book" "tellings" (af 0)) (ae (af 1) ak)))
  (aB (aK 4 (dQ fP (ae (dP "Book" "tellings" (af 0)) ak)))
  (aB (pe (bP (bZ (eT bt) 4 (ae (uZ (dP "Book" "tables_now" (af 0)) (af 2)) (ae (af 3) (ae (af 1) (ae (af 4) ak)))))) (qx (dP "Book" "tables_now" (af 0)) (af 2)))
  (bD (af 4))))))))
def bR (bt:Bool):MW:=mO 5 (kj bt)
abbrev dN (bt:Bool):FS:=(aB (aK 10 (fZ "Book" "decided" bX 5 (af 0) (ae (af 5) (ae (af 9) (ae (af 3) (ae (af 4) ak))))))
  (gm (fB (oH (uT true .non) (af 10)))
  (aB (gm (v5 (fB (ar Ng (af 10) (fK (.int 1)))) (fB (ar Nq (af 10) (dQ oa (ae (af 4) (ae (dQ fP (ae (af 2) ak)) ak))))))
  (bD (fK (.bl false)))
  aT)
  (gm (fB (ar (fS false) (ar bh (ar bh (af 2) (ar iU (af 10) (fK (.int 1)))) (fK (.int 0))) (fK (.str "tell"))))
  (cC (yC kq (af 8) (ae (HZ (ar bh (ar bh (af 2) (ar iU (af 10) (fK (.int 1)))) (fK (.int 2)))) ak)))
  aT))
  aT))
abbrev kh (bt:Bool):FS:=(aB (pe (af 1) (qX 3 (aN (b7 5) (aN (b7 6) (aN (b7 7) eG)))))
  (aB (aK 8 (cN ak))
  (aB (i7 (cw (bZ (cJ bt) 3 (ae (af 2) (ae (af 5) (ae (af 6) ak))))) (b7 9)
  (dN bt))
  (bD (ar (fS false) (bZ (uk bj) 3 (ae (fZ "Book" "table" bf 2 (af 0) (ae (af 5) ak)) (ae (af 3) (ae (af 4) ak)))) (dQ t6 (ae (af 8) ak)))))))
def d3 (bt:Bool):MW:=mO 11 (kh bt)
abbrev ki (bt:Bool):FS:=(bD (fZ "Book" "take" (bR bt) 2 (af 0) (ae (du (ae (fK (.str "tell")) (ae (af 1) (ae (af 2) (ae (af 3) (ae (af 4) ak)))))) ak)))
def d6 (bt:Bool):MW:=mO 5 (ki bt)
abbrev iz (bt:Bool):FS:=(bD (fZ "Book" "take" (bR bt) 2 (af 0) (ae (du (ae (fK (.str "strike")) (ae (af 1) (ae (af 2) (ae (af 3) (ae (af 4) ak)))))) ak)))
def cV (bt:Bool):MW:=mO 5 (iz bt)
abbrev ie (bt:Bool):FS:=(aB (gm (fB (ar (fS false) (ar bh (af 1) (fK (.int 0))) (fK (.str "tell"))))
  (bD (fZ "Book" "tell" (d6 bt) 5 (af 0) (ae (ar bh (af 1) (fK (.int 1))) (ae (ar bh (af 1) (fK (.int 2))) (ae (ar bh (af 1) (fK (.int 3))) (ae (ar bh (af 1) (fK (.int 4))) ak))))))
  aT)
  (bD (fZ "Book" "strike" (cV bt) 5 (af 0) (ae (ar bh (af 1) (fK (.int 1))) (ae (ar bh (af 1) (fK (.int 2))) (ae (ar bh (af 1) (fK (.int 3))) (ae (ar bh (af 1) (fK (.int 4))) ak)))))))
def d5 (bt:Bool):MW:=mO 2 (ie bt)
abbrev kL (bt:Bool):FS:=(aB (cC (yC kq (af 4) (ae (aL cW 3 (ae (bP (af 5)) (ae (bP (af 1)) (ae (bP (af 2)) ak)))) ak)))
  (cC (j6 (d5 bt) 2 (ae (af 3) (ae (ar bh (af 4) (oH n9 (fK (.int 1)))) ak)))))
abbrev kK (bt:Bool):FS:=(aB (aK 7 (ar bh (af 1) (ar bO (aL aR 2 (ae (bP (af 5)) (ae (fK (.int 8)) ak))) (dQ fP (ae (af 1) ak)))))
  (aB (pe (dY (uk dj) 4 (ae (af 5) (ae (fK (.int 9)) (ae (af 4) (ae (af 2) ak))))) (qX 2 (aN (b7 8) (aN (b7 9) eG))))
  (aB (gm (tW (j5 (j6 (d3 bt) 5 (ae (af 3) (ae (af 7) (ae (af 4) (ae (af 8) (ae (af 9) ak))))))))
  (bD (fK (.bl false)))
  aT)
  (aB (aK 10 (fZ "Book" "table" bf 2 (af 3) (ae (ar bh (af 7) (fK (.int 0))) ak)))
  (aB (gm (fB (ar (fS true) (bZ (uk bj) 3 (ae (af 10) (ae (af 8) (ae (af 6) ak)))) (bZ (uk bj) 3 (ae (af 10) (ae (af 8) (ae (ar cO (ar cO (af 6) (fK (.int 1))) (ar bO (af 5) (ar iL (fK (.int 10)) (fK (.int 40))))) ak))))))
  (bD (fK (.bl false)))
  aT)
  (gm (v5 (fB (ar (fS true) (bZ (uk bj) 3 (ae (af 10) (ae (af 8) (ae (fK (.int 0)) ak)))) (cN ak))) (fB (ar (fS true) (bZ (uk bj) 3 (ae (af 10) (ae (af 8) (ae (ar iU (fK (.int 0)) (ar bO (af 5) (ar iL (fK (.int 10)) (fK (.int 40))))) ak)))) (cN ak))))
  (bD (fK (.bl false)))
  aT))))))
abbrev DN (bt:Bool):FS:=(aB (aK 1 (aL dB 1 (ae (bP (aL cL 2 (ae (bP (af 0)) (ae (fK (.int 0)) ak)))) ak)))
  (aB (aK 2 (ar bh (cN (ae (fK (.int 1)) (ae (fK (.int 1)) (ae (ar iL (fK (.int 10)) (fK (.int 40))) ak)))) (ar bO (aL cL 2 (ae (bP (af 0)) (ae (fK (.int 0)) ak))) (fK (.int 3)))))
  (aB (aK 3 (nj "Book" cG 2 (ae (af 1) ak)))
  (aB (aK 4 (cN ak))
  (aB (i7 (cw (Am (af 0) eB (d8 (fK (.int 30))))) (b7 5)
  (kL bt))
  (aB (aK 6 (dQ fP (ae (af 4) ak)))
  (aB (i7 (cw (ar vD (cN (ae (fK (.int 0)) ak)) (Am (af 0) eB (d8 (fK (.int 63)))))) (b7 5)
  (kK bt))
  (bD (fK (.bl true))))))))))
def uG (bt:Bool):MF:=fG 11 (DN bt)
def zs:Tn:=["list","dict","len","min","range","set","sorted","tuple"]
def O4 (mg:Td)(l:Tn):Prop:=∀(i:Nat) (x:Str),l[i]?=some x->mg x=none
def Il {mg:Td}:O4 mg []:=fun i x e=>by simp at e
theorem gX {mg:Td}{x:Str}{l:Tn}(h:mg x=none)(t:O4 mg l):O4 mg (x::l):=fun i y e=>by
 cases i with
 |zero=>cases e;exact h
 |succ i=>exact t i y e
def Zs (mg:Td):Prop:=O4 mg zs
structure CF (K:zac)(mg:Td)(C:Addr):Prop where
 n:ot K mg "Book" C
 a_shape_list:e7 K C "shape_list"
 a_tellings:e7 K C "tellings"
 a_tables_now:e7 K C "tables_now"
 mks:PySem.W.makesIn K C=true
 kp:PySem.W.keepIn K (.ref C)=true
section
variable {P:Program}{w:World}{K:zac}{mg:Td}{base:Heap}{qC:Addr}(cf:CF K mg qC)
include cf
set_option maxHeartbeats 4000000
theorem uQ (z:Zs mg)(d:jz K qC "__init__" "Book.__init__" f7 ["self","shapes"])  : ee P w K mg base 1 "__init__" qC ["self","shapes"] cG :=
 HM (k:=0) d sj fun f cdv A outer s H E hr =>
  (ap (Bq cf.n cf.a_shape_list (ag 0) (BU rfl (z 0 _ rfl) (ah (ag 1) am)))
  (ap (Bq cf.n cf.a_tellings (ag 0) (fW am))
  (ay (Bq cf.n cf.a_tables_now (ag 0) (EQ rfl rfl (z 1 _ rfl) (ah (io [] ["shape"] [] rfl (show aP (ai f7) _ ["shape"] [] by ac_rfl) (fY (ag 1)) (fun cl C s₂ H₂ fp=>⟨(dO 0 (show (["shape"]:Tn).Nodup by decide)),rg,(dF (ah (ba (ag 0) aj) (ah (bg (fW am)) am)))⟩)) am))))))
theorem uP (z:Zs mg)(d:jz K qC "take" "Book.take" i4 ["self","telling"])(fQ:bn P w K mg base 2 "check_telling" ["shapes","telling"] bq)(m8:gS P w K mg base 3 "told_on" ["table","keys","telling","turn"] (eT (!HS.bt w)))(bJ:bn P w K mg base 1 "shape_of" ["shapes","name"] bm):ee P w K mg base 4 "take" qC ["self","telling"] (bR (!HS.bt w)) :=
 HM (k:=3) d f8 fun f cdv A outer s H E hr =>
  (ap (dW (g9 (me fQ) (hr.mono (by decide)) (ah (jP cf.n cf.a_shape_list (ag 0)) (ah (ag 1) am))))
  (ap (aJ 2 f8.nd (ba (ag 1) aj))
  (ap (aJ 3 f8.nd (ba (g9 bJ (hr.mono (by decide)) (ah (jP cf.n cf.a_shape_list (ag 0)) (ah (ag 2) am))) aj))
  (ap (dW (nH (jP cf.n cf.a_tellings (ag 0)) (ah (ag 1) am)))
  (ap (aJ 4 f8.nd (iK rfl (z 2 _ rfl) (ah (jP cf.n cf.a_tellings (ag 0)) am)))
  (ap (ud (bg (fg m8 (hr.mono (by decide)) (ah (HH hr.units (jP cf.n cf.a_tables_now (ag 0)) (ag 2)) (ah (ag 3) (ah (ag 1) (ah (ag 4) am)))))) (PD hr.units (jP cf.n cf.a_tables_now (ag 0)) (ag 2)))
  (ay (aX (ag 4)))))))))
theorem uO (z:Zs mg)(d:jz K qC "tell" "Book.tell" iZ ["self","name","row","low","high"])(Jab:ee P w K mg base 4 "take" qC ["self","telling"] (bR (!HS.bt w))):ee P w K mg base 5 "tell" qC ["self","name","row","low","high"] (d6 (!HS.bt w)) :=
 HM (k:=4) d si fun f cdv A outer s H E hr =>
  (ay (aX (i8 cf.n Jab (hr.mono (by decide)) (ag 0) (ah (dF (ah fV (ah (ag 1) (ah (ag 2) (ah (ag 3) (ah (ag 4) am)))))) am))))
theorem qw (z:Zs mg)(d:jz K qC "strike" "Book.strike" gF ["self","name","key","low","high"])(Jab:ee P w K mg base 4 "take" qC ["self","telling"] (bR (!HS.bt w))):ee P w K mg base 5 "strike" qC ["self","name","key","low","high"] (cV (!HS.bt w)) :=
 HM (k:=4) d pb fun f cdv A outer s H E hr =>
  (ay (aX (i8 cf.n Jab (hr.mono (by decide)) (ag 0) (ah (dF (ah fV (ah (ag 1) (ah (ag 2) (ah (ag 3) (ah (ag 4) am)))))) am))))
theorem sJ (z:Zs mg)(d:jz K qC "table" "Book.table" ik ["self","name"])(bJ:bn P w K mg base 1 "shape_of" ["shapes","name"] bm):ee P w K mg base 2 "table" qC ["self","name"] bf :=
 HM (k:=1) d qo fun f cdv A outer s H E hr =>
  (ap (dW (g9 bJ (hr.mono (by decide)) (ah (jP cf.n cf.a_shape_list (ag 0)) (ah (ag 1) am))))
  (ay (aX (BU rfl (z 0 _ rfl) (ah (HH hr.units (jP cf.n cf.a_tables_now (ag 0)) (ag 1)) am)))))
theorem pJ (z:Zs mg)(d:jz K qC "decided" "Book.decided" fM ["self","name","key","day","turn"])(cY:bn P w K mg base 1 "check_width" ["numbers","width"] aW)(ng:bn P w K mg base 2 "decides" ["telling","name","key","day"] eX)(bJ:bn P w K mg base 1 "shape_of" ["shapes","name"] bm):ee P w K mg base 3 "decided" qC ["self","name","key","day","turn"] bX :=
 HM (k:=2) d jC fun f cdv A outer s H E hr =>
  (ap (dW (aE (me cY) (hr.mono (by decide)) (ah (bg (ag 2)) (ah (bg (ba (g9 bJ (hr.mono (by decide)) (ah (jP cf.n cf.a_shape_list (ag 0)) (ah (ag 1) am))) aj)) am))))
  (ap (k9 rfl (Pz rfl (z 4 _ rfl) (HF rfl rfl (z 3 _ rfl) (ah (ag 4) (ah (iK rfl (z 2 _ rfl) (ah (jP cf.n cf.a_tellings (ag 0)) am)) am))) aj (qM aj)) (dO 5 jC.nd)
  (ay (dh (oX (aE (me ng) (hr.mono (by decide)) (ah (bg (ba (jP cf.n cf.a_tellings (ag 0)) (lf (ag 5) aj))) (ah (bg (ag 1)) (ah (bg (ag 2)) (ah (bg (ag 3)) am))))))
  (ay (aX (ag 5)))
  bF)) PassesOwn.never)
  (ay (aX BS))))
theorem wL (z:Zs mg)(d:bM K mg "truth_by" jG ["word","one","other"])  : bn P w K mg base 1 "truth_by" ["word","one","other"] bH :=
 okP (k:=0) d ua fun f cdv A outer s H E hr =>
  (ap (dh (ll hr.units (ag 0) fV)
  (ay (aX (HI (ag 1) (BR (ag 2)))))
  bF)
  (ap (dh (ll hr.units (ag 0) fV)
  (ay (aX (Pq (ag 1) (BR (ag 2)))))
  bF)
  (ap (dh (ll hr.units (ag 0) fV)
  (ay (aX (HI (ag 1) (BR (xW (ag 2))))))
  bF)
  (ap (dh (ll hr.units (ag 0) fV)
  (ay (aX (Pr hr.units (ag 1) (ag 2))))
  bF)
  (ay i6)))))
theorem zW (z:Zs mg)(d:bM K mg "lies_in" iV ["reach","number"])  : bn P w K mg base 1 "lies_in" ["reach","number"] eV :=
 okP (k:=0) d o9 fun f cdv A outer s H E hr =>
  (ap (aJ 2 o9.nd (iK rfl (z 2 _ rfl) (ah (io [1] ["edge"] ["number"] rfl (show aP (ai iV) _ ["edge"] ["number"] by ac_rfl) (fY (ba (ag 0) aj)) (fun cl C s₂ H₂ fp=>⟨(dO 0 (show (["edge","number"]:Tn).Nodup by decide)),(yB (ID (ag 0) (ag 1))),(ag 0)⟩)) am)))
  (ay (aX (EN (ll hr.units (bY (ag 2) aj) aj) (ba (ag 0) aj) (xW (ba (ag 0) aj))))))
theorem sF (z:Zs mg)(d:bM K mg "stretch_of" ig ["low","high"])(Jaj:iA K mg "NO_NUMBERS" (.tup [(.bl false),(.tup [])]))(Jaf:iA K mg "ALL_NUMBERS" (.tup [(.bl true),(.tup [])])):bn P w K mg base 1 "stretch_of" ["low","high"] cK :=
 okP (k:=0) d ql fun f cdv A outer s H E hr =>
  (ap (dh (IC (tI (xK (ag 0)) (rM (xK (ag 1)))))
  (ay (aX (kE Jaf)))
  bF)
  (ap (dh (xK (ag 0))
  (ay (aX (dF (ah n8 (ah (dF (ah (ag 1) am)) am)))))
  bF)
  (ap (dh (xK (ag 1))
  (ay (aX (dF (ah n8 (ah (dF (ah (ag 0) am)) am)))))
  bF)
  (ap (dh (ID (ag 1) (ag 0))
  (ay (aX (kE Jaj)))
  bF)
  (ay (aX (dF (ah n8 (ah (dF (ah (ag 0) (ah (ag 1) am))) am)))))))))
theorem Fq (z:Zs mg)(d:bM K mg "blend" jL ["one","other","word"])(je:bn P w K mg base 1 "truth_by" ["word","one","other"] bH):bn P w K mg base 2 "blend" ["one","other","word"] (kI (!HS.bt w)) :=
 okP (k:=1) d cz fun f cdv A outer s H E hr =>
  (ap (aJ 3 cz.nd (ba (ag 0) aj))
  (ap (aJ 4 cz.nd (ba (ag 1) aj))
  (ap (aJ 5 cz.nd (aE je (hr.mono (by decide)) (ah (bg (ag 2)) (ah (bg (ag 3)) (ah (bg (ag 4)) am)))))
  (ap (aJ 6 cz.nd (ag 5))
  (ap (aJ 7 cz.nd (BV rfl rfl (z 1 _ rfl) (ah (io [] ["edge"] [] rfl (show aP (ai jL) _ ["edge"] [] by ac_rfl) (fY (ba (ag 0) aj)) (fun cl C s₂ H₂ fp=>⟨(dO 0 (show (["edge"]:Tn).Nodup by decide)),rg,(dF (ah (ag 0) (ah n8 am)))⟩)) am)))
  (ap (aJ 8 cz.nd (BV rfl rfl (z 1 _ rfl) (ah (io [] ["edge"] [] rfl (show aP (ai jL) _ ["edge"] [] by ac_rfl) (fY (ba (ag 1) aj)) (fun cl C s₂ H₂ fp=>⟨(dO 0 (show (["edge"]:Tn).Nodup by decide)),rg,(dF (ah (ag 0) (ah n8 am)))⟩)) am)))
  (ap (aJ 9 cz.nd (fW am))
  (ap (k9 rfl (fY (BQ rfl rfl (z 6 _ rfl) (ah (MX (HE rfl rfl (z 5 _ rfl) (ah (ba (ag 0) aj) am)) (HE rfl rfl (z 5 _ rfl) (ah (ba (ag 1) aj) am))) am))) (dO 10 cz.nd)
  (ap (dh (L9 hr.units (ag 10) (ag 7))
  (ay (aJ 3 cz.nd (xW (ag 3))))
  bF)
  (ap (dh (L9 hr.units (ag 10) (ag 8))
  (ay (aJ 4 cz.nd (xW (ag 4))))
  bF)
  (ap (aJ 11 cz.nd (aE je (hr.mono (by decide)) (ah (bg (ag 2)) (ah (bg (ag 3)) (ah (bg (ag 4)) am)))))
  (ap (dh (qj hr.units (ag 11) (ag 6))
  (ay (dW (nH (ag 9) (ah (ag 10) am))))
  bF)
  (ay (aJ 6 cz.nd (ag 11))))))) PassesOwn.never)
  (ay (aX (dF (ah (ag 5) (ah (EM rfl (z 7 _ rfl) (ah (ag 9) am)) am)))))))))))))
theorem wO (z:Zs mg)(d:bM K mg "reach_at" jI ["plot","turn"])  : bn P w K mg base 1 "reach_at" ["plot","turn"] gL :=
 okP (k:=0) d g7 fun f cdv A outer s H E hr =>
  (ap (aJ 2 g7.nd (ba (ag 0) aj))
  (ap (k9 rfl (fY (ba (ag 0) aj)) (dO 3 g7.nd)
  (ap (dh (Ma (ba (ag 3) aj) (ag 1))
  (ay Eu)
  bF)
  (ay (aJ 2 g7.nd (ba (ag 3) aj)))) PassesOwn.never)
  (ay (aX (ag 2)))))
theorem zX (z:Zs mg)(d:bM K mg "lies_at" lq ["plot","day","turn"])(gz:bn P w K mg base 1 "lies_in" ["reach","number"] eV)(lH:bn P w K mg base 1 "reach_at" ["plot","turn"] gL):bn P w K mg base 2 "lies_at" ["plot","day","turn"] eW :=
 okP (k:=1) d wl fun f cdv A outer s H E hr =>
  (ay (aX (aE gz (hr.mono (by decide)) (ah (bg (aE lH (hr.mono (by decide)) (ah (bg (ag 0)) (ah (bg (ag 2)) am)))) (ah (bg (ag 1)) am)))))
theorem uN (z:Zs mg)(d:bM K mg "all_spots" iY ["plots"])  : bn P w K mg base 1 "all_spots" ["plots"] dk :=
 okP (k:=0) d sg fun f cdv A outer s H E hr =>
  (ap (dh (ll hr.units (iK rfl (z 2 _ rfl) (ah (ag 0) am)) aj)
  (ay (aX (ba (ag 0) aj)))
  bF)
  (ay i6))
theorem wM (z:Zs mg)(d:bM K mg "table_of" fA ["pairs"])(j3:bn P w K mg base 1 "all_spots" ["plots"] dk)(Jac:iA K mg "NO_SPOTS" (.tup [(.tup [(.bl false),(.tup [])]),(.tup [])])):gS P w K mg base 2 "table_of" ["pairs"] (gK (!HS.bt w)) :=
 okN (k:=1) d fF fun f cdv A outer s H E hr =>
  (ap (aJ 1 fF.nd MV)
  (ap (k9 rfl (fY (ag 0)) (Ag rfl (da (dO 2 fF.nd) (da (dO 3 fF.nd) nh)))
  (ay (dW (nH (JD hr.units (ag 1) (ag 2) (fW am)) (ah (ag 3) am)))) PassesOwn.never)
  (ap (sk 4 [1] ["row"] ["plots"] rfl (show aP (ai fA) _ ["row"] ["plots"] by ac_rfl) fF.nd (fY (zw rfl rfl (z 6 _ rfl) (ah (ag 1) am))) (fun cl C s₂ H₂ fp=>⟨(dO 0 (show (["row","plots"]:Tn).Nodup by decide)),rg,(dF (ah (ag 0) (ah (aE j3 (hr.mono (by decide)) (ah (bg (MR hr.units (ag 1) (ag 0))) am)) am)))⟩))
  (ay (aX (io [] ["entry"] [] rfl (show aP (ai fA) _ ["entry"] [] by ac_rfl) (fY (ag 4)) (fun cl C s₂ H₂ fp=>⟨(dO 0 (show (["entry"]:Tn).Nodup by decide)),(yB (qj hr.units (ba (ag 0) aj) (kE Jac))),(ag 0)⟩)))))))
theorem CM (z:Zs mg)(d:bM K mg "cut_at" kA ["table","day","turn"])(nc:bn P w K mg base 2 "lies_at" ["plot","day","turn"] eW):gS P w K mg base 3 "cut_at" ["table","day","turn"] bj :=
 okN (k:=2) d zq fun f cdv A outer s H E hr =>
  (ay (aX (io [1,2] ["row","plot"] ["day","turn"] rfl (show aP (ai kA) _ ["row","plot"] ["day","turn"] by ac_rfl) (fY (ag 0)) (fun cl C s₂ H₂ fp=>⟨(Ag rfl (da (dO 0 (show (["row","plot","day","turn"]:Tn).Nodup by decide)) (da (dO 1 (show (["row","plot","day","turn"]:Tn).Nodup by decide)) nh))),(yB (oX (aE nc (hr.mono (by decide)) (ah (bg (ag 1)) (ah (bg (ag 2)) (ah (bg (ag 3)) am)))))),(ag 0)⟩))))
theorem wN (z:Zs mg)(d:bM K mg "shape_of" jH ["shapes","name"])  : bn P w K mg base 1 "shape_of" ["shapes","name"] bm :=
 okP (k:=0) d nG fun f cdv A outer s H E hr =>
  (ap (k9 rfl (fY (ag 0)) (dO 2 nG.nd)
  (ay (dh (ll hr.units (ba (ag 2) aj) (ag 1))
  (ay (aX (ag 2)))
  bF)) PassesOwn.never)
  (ay i6))
theorem qv (z:Zs mg)(d:bM K mg "check_width" gE ["numbers","width"])  : bn P w K mg base 1 "check_width" ["numbers","width"] aW :=
 okP (k:=0) d jN fun f cdv A outer s H E hr =>
  (ap (aJ 2 jN.nd (iK rfl (z 2 _ rfl) (ah (ag 0) am)))
  (ay (dh (qj hr.units (ag 2) (ag 1))
  (ay i6)
  bF)))
theorem og (z:Zs mg)(d:bM K mg "check_stretch" eR ["low","high"])  : bn P w K mg base 1 "check_stretch" ["low","high"] cR :=
 okP (k:=0) d mN fun f cdv A outer s H E hr =>
  (ay (dh (IC (tI (rY (ag 0)) (tI (rY (ag 1)) (rM (ID (ag 1) (ag 0))))))
  (ay i6)
  bF))
theorem zY (z:Zs mg)(d:bM K mg "is_tell" lu ["telling"])  : bn P w K mg base 1 "is_tell" ["telling"] bU :=
 okP (k:=0) d wm fun f cdv A outer s H E hr =>
  (ay (aX (MT hr.units (ba (ag 0) aj) fV)))
theorem oe (z:Zs mg)(d:bM K mg "check_telling" eQ ["shapes","telling"])(bJ:bn P w K mg base 1 "shape_of" ["shapes","name"] bm)(cY:bn P w K mg base 1 "check_width" ["numbers","width"] aW)(fR:bn P w K mg base 1 "check_stretch" ["low","high"] cR)(eY:bn P w K mg base 1 "is_tell" ["telling"] bU):bn P w K mg base 2 "check_telling" ["shapes","telling"] bq :=
 okP (k:=1) d iH fun f cdv A outer s H E hr =>
  (ap (aJ 2 iH.nd (g9 bJ (hr.mono (by decide)) (ah (ag 0) (ah (ba (ag 1) aj) am))))
  (ap (dW (aE (me cY) (hr.mono (by decide)) (ah (bg (ba (ag 1) aj)) (ah (bg (EN (oX (aE eY (hr.mono (by decide)) (ah (bg (ag 1)) am))) (ba (ag 2) aj) (ba (ag 2) aj))) am))))
  (ay (dW (aE fR (hr.mono (by decide)) (ah (bg (ba (ag 1) aj)) (ah (bg (ba (ag 1) aj)) am)))))))
theorem sI (z:Zs mg)(d:bM K mg "last_reach" ij ["plot"])  : bn P w K mg base 1 "last_reach" ["plot"] cM :=
 okP (k:=0) d qm fun f cdv A outer s H E hr =>
  (ay (aX (EN (oX (ba (ag 0) aj)) (ba (ba (ba (ag 0) aj) (qM aj)) aj) (ba (ag 0) aj))))
theorem zV (z:Zs mg)(d:bM K mg "stepped" lp ["plot","turn","reach"])(dE:bn P w K mg base 1 "last_reach" ["plot"] cM):bn P w K mg base 2 "stepped" ["plot","turn","reach"] iM :=
 okP (k:=1) d wj fun f cdv A outer s H E hr =>
  (ap (dh (ll hr.units (ag 2) (aE dE (hr.mono (by decide)) (ah (bg (ag 0)) am)))
  (ay (aX (ag 0)))
  bF)
  (ay (aX (dF (ah (ba (ag 0) aj) (ah (cq (ba (ag 0) aj) (dF (ah (dF (ah (ag 1) (ah (ag 2) am))) am))) am))))))
theorem zU (z:Zs mg)(d:bM K mg "told_on" lm ["table","keys","telling","turn"])(dD:bn P w K mg base 1 "stretch_of" ["low","high"] cK)(eY:bn P w K mg base 1 "is_tell" ["telling"] bU)(lG:gS P w K mg base 2 "table_of" ["pairs"] (gK (!HS.bt w)))(m9:bn P w K mg base 2 "stepped" ["plot","turn","reach"] iM)(sO:bn P w K mg base 2 "blend" ["one","other","word"] (kI (!HS.bt w)))(dE:bn P w K mg base 1 "last_reach" ["plot"] cM)(Jac:iA K mg "NO_SPOTS" (.tup [(.tup [(.bl false),(.tup [])]),(.tup [])])):gS P w K mg base 3 "told_on" ["table","keys","telling","turn"] (eT (!HS.bt w)) :=
 okN (k:=2) d dg fun f cdv A outer s H E hr =>
  (ap (aJ 4 dg.nd (ba (ag 2) aj))
  (ap (aJ 5 dg.nd (aE dD (hr.mono (by decide)) (ah (bg (ba (ag 2) aj)) (ah (bg (ba (ag 2) aj)) am))))
  (ap (aJ 6 dg.nd (EO hr.units rfl rfl (z 1 _ rfl) (ah (ag 0) am)))
  (ap (dh (oX (aE eY (hr.mono (by decide)) (ah (bg (ag 2)) am)))
  (ay (dW (MS hr.units (ag 6) (ag 4) (kE Jac))))
  bF)
  (ap (aJ 7 dg.nd (fW am))
  (ap (IT rfl (FB (ag 6)) (Ag rfl (da (dO 8 dg.nd) (da (dO 9 dg.nd) nh)))
  (ay (dh (Hc hr.units (zy (JJ (ag 8)) qq (n6 (ag 1))) (zy (JJ (ag 4)) qq (n6 (ag 1))))
  (ap (aJ 10 dg.nd (EN (IC (tI (oX (aE eY (hr.mono (by decide)) (ah (bg (ag 2)) am))) (rM (Hc hr.units (ag 8) (ag 4))))) fV fV))
  (ay (dW (nH (ag 7) (ah (dF (ah (ag 8) (ah (aE m9 (hr.mono (by decide)) (ah (bg (ag 9)) (ah (bg (ag 3)) (ah (bg (aE sO (hr.mono (by decide)) (ah (bg (aE dE (hr.mono (by decide)) (ah (bg (ag 9)) am))) (ah (bg (ag 5)) (ah (bg (ag 10)) am))))) am)))) am))) am)))))
  (ay (dW (nH (ag 7) (ah (dF (ah (ag 8) (ah (ag 9) am))) am)))))) PassesOwn.never)
  (ay (aX (fg lG (hr.mono (by decide)) (ah (ag 7) am))))))))))
theorem zZ (z:Zs mg)(d:bM K mg "decides" lx ["telling","name","key","day"])(gz:bn P w K mg base 1 "lies_in" ["reach","number"] eV)(dD:bn P w K mg base 1 "stretch_of" ["low","high"] cK):bn P w K mg base 2 "decides" ["telling","name","key","day"] eX :=
 okP (k:=1) d wn fun f cdv A outer s H E hr =>
  (ap (dh (IC (Ip (qj hr.units (ba (ag 0) aj) (ag 1)) (AJ (qj hr.units (zy (ba (ag 0) aj) qq (n6 (iK rfl (z 2 _ rfl) (ah (ag 2) am)))) (ag 2)))))
  (ay (aX n8))
  bF)
  (ay (aX (aE gz (hr.mono (by decide)) (ah (bg (aE dD (hr.mono (by decide)) (ah (bg (ba (ag 0) aj)) (ah (bg (ba (ag 0) aj)) am)))) (ah (bg (ag 3)) am))))))
theorem wR (z:Zs mg)(d:bM K mg "_law_cell" jK ["script","k"])  : bn P w K mg base 1 "_law_cell" ["script","k"] cL :=
 okP (k:=0) d ub fun f cdv A outer s H E hr =>
  (ap (dh (L7 (ag 1) (iK rfl (z 2 _ rfl) (ah (ag 0) am)))
  (ay (aX (ba (ag 0) (ag 1))))
  bF)
  (ay (aX aj)))
theorem wQ (z:Zs mg)(d:bM K mg "_law_stir" jJ ["cell","k"])  : bn P w K mg base 1 "_law_stir" ["cell","k"] aR :=
 okP (k:=0) d jM fun f cdv A outer s H E hr =>
  (ap (aJ 2 jM.nd (bY (pq (cq (bY (ag 0) aj) aj) aj) aj))
  (ap (aJ 2 jM.nd (bY (cq (cq (pq (ag 2) (ag 2)) (pq (ag 1) aj)) aj) aj))
  (ay (aX (bY (pq (ag 2) (ag 2)) aj)))))
theorem sH (z:Zs mg)(d:bM K mg "_law_shapes" ff ["cell"])(bc:bn P w K mg base 1 "_law_stir" ["cell","k"] aR):bn P w K mg base 2 "_law_shapes" ["cell"] dB :=
 okP (k:=1) d bS fun f cdv A outer s H E hr =>
  (ap (aJ 1 bS.nd (aE bc (hr.mono (by decide)) (ah (bg (ag 0)) (ah aj am))))
  (ap (aJ 2 bS.nd (JG fV (io [0] ["k"] ["cell"] rfl (show aP (ai ff) _ ["k"] ["cell"] by ac_rfl) (Ku rfl (z 4 _ rfl) (cq aj (bY (ag 1) aj))) (fun cl C s₂ H₂ fp=>⟨(dO 0 (show (["k","cell"]:Tn).Nodup by decide)),rg,(HG fV (bY (fH (aE bc (hr.mono (by decide)) (ah (bg (ag 1)) (ah (bg (cq aj (ag 0))) am))) aj) aj))⟩))))
  (ap (aJ 3 bS.nd (bY (fH (ag 1) aj) (JE rfl (z 2 _ rfl) (ah (ag 2) am))))
  (ap (aJ 4 bS.nd (fW am))
  (ap (k9 rfl (Ku rfl (z 4 _ rfl) (cq aj (bY (fH (ag 1) aj) aj))) (dO 5 bS.nd)
  (ap (aJ 6 bS.nd (cq aj (bY (fH (aE bc (hr.mono (by decide)) (ah (bg (ag 0)) (ah (bg (cq aj (ag 5))) am))) aj) (ba (fW (ah aj (ah aj (ah aj am)))) (bY (fH (ag 1) aj) aj)))))
  (ap (aJ 7 bS.nd (cq (cq (HB (ag 2) qq (n6 (ag 3))) (HG fV (ag 5))) (HB (ag 2) (n6 (cq (ag 3) aj)) qq)))
  (ay (dW (nH (ag 4) (ah (dF (ah (ag 7) (ah (bY (fH (aE bc (hr.mono (by decide)) (ah (bg (ag 0)) (ah (bg (cq aj (ag 5))) am))) aj) (cq (ag 6) aj)) (ah (ag 6) am)))) am)))))) PassesOwn.never)
  (ay (aX (ag 4))))))))
theorem qu (z:Zs mg)(d:bM K mg "_law_telling" ez ["cell","shapes","scale"])(bc:bn P w K mg base 1 "_law_stir" ["cell","k"] aR):bn P w K mg base 2 "_law_telling" ["cell","shapes","scale"] cW :=
 okP (k:=1) d aV fun f cdv A outer s H E hr =>
  (ap (aJ 3 aV.nd (aE bc (hr.mono (by decide)) (ah (bg (ag 0)) (ah aj am))))
  (ap (ud (ba (ag 1) (bY (ag 3) (iK rfl (z 2 _ rfl) (ah (ag 1) am)))) (Ag rfl (da (dO 4 aV.nd) (da (dO 5 aV.nd) (da (dO 6 aV.nd) nh)))))
  (ap (aJ 7 aV.nd (fW (ah aj (ah aj (ah (qM aj) (ah (bY (ag 0) (ul aj aj)) (ah (lf aj (bY (ag 0) (ul aj aj))) am)))))))
  (ap (aJ 8 aV.nd (JF rfl (z 7 _ rfl) (ah (io [7,0] ["k"] ["menu","cell"] rfl (show aP (ai ez) _ ["k"] ["menu","cell"] by ac_rfl) (Ku rfl (z 4 _ rfl) (ag 6)) (fun cl C s₂ H₂ fp=>⟨(dO 0 (show (["k","menu","cell"]:Tn).Nodup by decide)),rg,(ba (ag 1) (bY (fH (aE bc (hr.mono (by decide)) (ah (bg (ag 2)) (ah (bg (cq aj (ag 0))) am))) aj) aj))⟩)) am)))
  (ap (aJ 9 aV.nd (pq (lf (bY (fH (ag 3) aj) aj) aj) (ag 2)))
  (ap (aJ 10 aV.nd (cq (ag 9) (pq (cq aj (bY (fH (ag 3) aj) aj)) (ag 2))))
  (ap (dh (ll hr.units (bY (fH (ag 3) aj) aj) aj)
  (ay (aJ 9 aV.nd BS))
  bF)
  (ap (dh (ll hr.units (bY (fH (ag 3) aj) aj) aj)
  (ay (aJ 10 aV.nd BS))
  bF)
  (ap (dh (ll hr.units (bY (fH (ag 3) aj) aj) aj)
  (ay (aX (dF (ah fV (ah (ag 4) (ah (HC (ag 8) qq (n6 (ag 5))) (ah (ag 9) (ah (ag 10) am))))))))
  bF)
  (ay (aX (dF (ah fV (ah (ag 4) (ah (ag 8) (ah (ag 9) (ah (ag 10) am)))))))))))))))))
theorem uM (z:Zs mg)(d:bM K mg "_law_asked" iX ["book","telling"])(Jag:ee P w K mg base 5 "strike" qC ["self","name","key","low","high"] (cV (!HS.bt w)))(Jam:ee P w K mg base 5 "tell" qC ["self","name","row","low","high"] (d6 (!HS.bt w))):nV P w K mg base 6 "_law_asked" ["book","telling"] (d5 (!HS.bt w)) :=
 okW (k:=5) d sf fun f cdv A outer s H E hr =>
  (ap (dh (ll hr.units (ba (ag 1) aj) fV)
  (ay (aX (i8 cf.n Jam (hr.mono (by decide)) (ag 0) (ah (ba (ag 1) aj) (ah (ba (ag 1) aj) (ah (ba (ag 1) aj) (ah (ba (ag 1) aj) am)))))))
  bF)
  (ay (aX (i8 cf.n Jag (hr.mono (by decide)) (ag 0) (ah (ba (ag 1) aj) (ah (ba (ag 1) aj) (ah (ba (ag 1) aj) (ah (ba (ag 1) aj) am))))))))
theorem wP (z:Zs mg)(d:bM K mg "_law_when" g6 ["cell","k","tellings","scale"])(bc:bn P w K mg base 1 "_law_stir" ["cell","k"] aR):bn P w K mg base 2 "_law_when" ["cell","k","tellings","scale"] dj :=
 okP (k:=1) d d7 fun f cdv A outer s H E hr =>
  (ap (aJ 4 d7.nd (aE bc (hr.mono (by decide)) (ah (bg (ag 0)) (ah (bg (cq (ag 1) aj)) am))))
  (ap (aJ 5 d7.nd (lf (bY (ag 4) (cq (iK rfl (z 2 _ rfl) (ah (ag 2) am)) aj)) aj))
  (ap (aJ 6 d7.nd (lf (pq (lf (bY (fH (ag 4) aj) aj) aj) (ag 3)) (bY (fH (ag 4) aj) aj)))
  (ap (dh (IC (tI (qj hr.units (ag 2) (fW am)) (rM (ll hr.units (bY (fH (ag 4) aj) aj) aj))))
  (ap (sk 7 [] ["end"] [] rfl (show aP (ai g6) _ ["end"] [] by ac_rfl) d7.nd (fY (zy (ba (ag 2) (bY (fH (ag 4) aj) (iK rfl (z 2 _ rfl) (ah (ag 2) am)))) (n6 aj) qq)) (fun cl C s₂ H₂ fp=>⟨(dO 0 (show (["end"]:Tn).Nodup by decide)),(yB (rY (ag 0))),(ag 0)⟩))
  (ay (dh (qj hr.units (ag 7) (fW am))
  (ay (aJ 6 d7.nd (lf (ba (ag 7) aj) (bY (fH (ag 4) aj) aj))))
  bF)))
  bF)
  (ay (aX (dF (ah (ag 6) (ah (ag 5) am)))))))))
theorem sG (z:Zs mg)(d:bM K mg "_law_spoken" ii ["tellings","name","keys"])  : gS P w K mg base 1 "_law_spoken" ["tellings","name","keys"] (cJ (!HS.bt w)) :=
 okN (k:=0) d im fun f cdv A outer s H E hr =>
  (ap (aJ 3 im.nd MU)
  (ap (k9 rfl (fY (ag 0)) (dO 4 im.nd)
  (ay (dh (ll hr.units (ba (ag 4) aj) (ag 1))
  (ay (ud n8 (Nu hr.units (ag 3) (HC (ba (ag 4) aj) qq (n6 (ag 2))))))
  bF)) PassesOwn.never)
  (ay (aX (zv rfl rfl (z 6 _ rfl) (ah (ag 3) am))))))
theorem uL (z:Zs mg)(d:bM K mg "_law_right" iW ["book","shape","tellings","day","turn"])(jf:gS P w K mg base 1 "_law_spoken" ["tellings","name","keys"] (cJ (!HS.bt w)))(Jad:ee P w K mg base 3 "decided" qC ["self","name","key","day","turn"] bX)(eF:gS P w K mg base 3 "cut_at" ["table","day","turn"] bj)(Jaa:ee P w K mg base 2 "table" qC ["self","name"] bf):nV P w K mg base 4 "_law_right" ["book","shape","tellings","day","turn"] (d3 (!HS.bt w)) :=
 okW (k:=3) d cH fun f cdv A outer s H E hr =>
  (ap (ud (ag 1) (Ag rfl (da (dO 5 cH.nd) (da (dO 6 cH.nd) (da (dO 7 cH.nd) nh)))))
  (ap (aJ 8 cH.nd (fW am))
  (ap (k9 rfl (fY (fg jf (hr.mono (by decide)) (ah (ag 2) (ah (ag 5) (ah (ag 6) am))))) (dO 9 cH.nd)
  (ap (aJ 10 cH.nd (i8 cf.n Jad (hr.mono (by decide)) (ag 0) (ah (ag 5) (ah (ag 9) (ah (ag 3) (ah (ag 4) am))))))
  (ay (dh (rY (ag 10))
  (ap (dh (IC (Ip (L7 (ag 10) aj) (AJ (Ma (ag 10) (HF rfl rfl (z 3 _ rfl) (ah (ag 4) (ah (iK rfl (z 2 _ rfl) (ah (ag 2) am)) am)))))))
  (ay (aX n8))
  bF)
  (ay (dh (ll hr.units (ba (ba (ag 2) (lf (ag 10) aj)) aj) fV)
  (ay (dW (nH (ag 8) (ah (JJ (ba (ba (ag 2) (lf (ag 10) aj)) aj)) am))))
  bF)))
  bF))) PassesOwn.never)
  (ay (aX (MT hr.units (fg (jY eF) (hr.mono (by decide)) (ah (i8 cf.n Jaa (hr.mono (by decide)) (ag 0) (ah (ag 5) am)) (ah (ag 3) (ah (ag 4) am)))) (zx rfl (z 6 _ rfl) (ah (ag 8) am))))))))
theorem Nl {f:Addr}(z:Zs mg)(F:oK K "law" "law" wa f fd)(jg:bn P w K mg base 2 "_law_shapes" ["cell"] dB)(Jan:ee P w K mg base 1 "__init__" qC ["self","shapes"] cG)(jh:bn P w K mg base 1 "_law_cell" ["script","k"] cL)(j2:nV P w K mg base 6 "_law_asked" ["book","telling"] (d5 (!HS.bt w)))(lI:bn P w K mg base 2 "_law_when" ["cell","k","tellings","scale"] dj)(Jaa:ee P w K mg base 2 "table" qC ["self","name"] bf)(iu:bn P w K mg base 2 "_law_telling" ["cell","shapes","scale"] cW)(j1:nV P w K mg base 4 "_law_right" ["book","shape","tellings","day","turn"] (d3 (!HS.bt w)))(eF:gS P w K mg base 3 "cut_at" ["table","day","turn"] bj)(bc:bn P w K mg base 1 "_law_stir" ["cell","k"] aR):cF P w K mg base kT 7 f fd ["script"] (AF K 1 (uG (!HS.bt w))) :=
 KF (k:=6) F fN fun cdv A outer s H E hr =>
  (ap (aJ 1 fN.nd (aE jg (hr.mono (by decide)) (ah (bg (aE jh (hr.mono (by decide)) (ah (bg (ag 0)) (ah aj am)))) am)))
  (ap (aJ 2 fN.nd (ba (fW (ah aj (ah aj (ah (ul aj aj) am)))) (bY (aE jh (hr.mono (by decide)) (ah (bg (ag 0)) (ah aj am))) aj)))
  (ap (aJ 3 fN.nd (su cf.n cf.mks cf.kp Jan (hr.mono (by decide)) (ah (ag 1) am)))
  (ap (aJ 4 fN.nd (fW am))
  (ap (k9 rfl (fY (zy (ag 0) qq (n6 aj))) (dO 5 fN.nd)
  (ap (dW (nH (ag 4) (ah (aE iu (hr.mono (by decide)) (ah (bg (ag 5)) (ah (bg (ag 1)) (ah (bg (ag 2)) am)))) am)))
  (ay (dW (oB j2 (hr.mono (by decide)) (ah (ag 3) (ah (ba (ag 4) (qM aj)) am)))))) PassesOwn.never)
  (ap (aJ 6 fN.nd (iK rfl (z 2 _ rfl) (ah (ag 4) am)))
  (ap (k9 rfl (fY (JI (fW (ah aj am)) (zy (ag 0) qq (n6 aj)))) (dO 5 fN.nd)
  (ap (aJ 7 fN.nd (ba (ag 1) (bY (aE bc (hr.mono (by decide)) (ah (bg (ag 5)) (ah aj am))) (iK rfl (z 2 _ rfl) (ah (ag 1) am)))))
  (ap (ud (g9 (me lI) (hr.mono (by decide)) (ah (ag 5) (ah aj (ah (ag 4) (ah (ag 2) am))))) (Ag rfl (da (dO 8 fN.nd) (da (dO 9 fN.nd) nh))))
  (ap (dh (L6 (oX (oB j1 (hr.mono (by decide)) (ah (ag 3) (ah (ag 7) (ah (ag 4) (ah (ag 8) (ah (ag 9) am))))))))
  (ay (aX n8))
  bF)
  (ap (aJ 10 fN.nd (i8 cf.n Jaa (hr.mono (by decide)) (ag 3) (ah (ba (ag 7) aj) am)))
  (ap (dh (qj hr.units (fg (jY eF) (hr.mono (by decide)) (ah (ag 10) (ah (ag 8) (ah (ag 6) am)))) (fg (jY eF) (hr.mono (by decide)) (ah (ag 10) (ah (ag 8) (ah (cq (cq (ag 6) aj) (bY (ag 5) (ul aj aj))) am)))))
  (ay (aX n8))
  bF)
  (ay (dh (IC (Ip (qj hr.units (fg (jY eF) (hr.mono (by decide)) (ah (ag 10) (ah (ag 8) (ah aj am)))) (fW am)) (AJ (qj hr.units (fg (jY eF) (hr.mono (by decide)) (ah (ag 10) (ah (ag 8) (ah (lf aj (bY (ag 5) (ul aj aj))) am)))) (fW am)))))
  (ay (aX n8))
  bF))))))) PassesOwn.never)
  (ay (aX n8)))))))))
end
set_option maxHeartbeats 4000000 in
def Lb {l:PySem.W.OpenLaw}{w:World}{K:zac}{h:Heap}{mg:Td}{fa qC:Addr}(X:K.In h)(G:h.Ns mainGlobals mg)(hfa:mg "law" = some (.ref fa))
  (aC:PySem.W.nsIn K mainGlobals "Book" = some (some (.ref qC))) (pg:PySem.W.plainGet K qC Str.empty=true) (hd:PySem.W.hasDictIn K qC=true) (po:PySem.W.plainOver K qC=true) (sa:PySem.W.findIn K (.ref qC) "__setattr__" = some (some (.builtin "object.__setattr__"))) (mk:PySem.W.makesIn K qC=true) (kc:PySem.W.keepIn K (.ref qC)=true)
  (n_shape_list:PySem.W.findIn K (.ref qC) "shape_list" = some none)
  (n_tellings:PySem.W.findIn K (.ref qC) "tellings" = some none)
  (n_tables_now:PySem.W.findIn K (.ref qC) "tables_now" = some none)
  (a0:Ii K qC "__init__" "Book.__init__" f7)
  (a1:Ii K qC "take" "Book.take" i4)
  (a2:Ii K qC "tell" "Book.tell" iZ)
  (a3:Ii K qC "strike" "Book.strike" gF)
  (a4:Ii K qC "table" "Book.table" ik)
  (a5:Ii K qC "decided" "Book.decided" fM)
  (a6:FK K "truth_by" jG)
  (a7:FK K "lies_in" iV)
  (a8:FK K "stretch_of" ig)
  (a9:FK K "blend" jL)
  (a10:FK K "reach_at" jI)
  (a11:FK K "lies_at" lq)
  (a12:FK K "all_spots" iY)
  (a13:FK K "table_of" fA)
  (a14:FK K "cut_at" kA)
  (a15:FK K "shape_of" jH)
  (a16:FK K "check_width" gE)
  (a17:FK K "check_stretch" eR)
  (a18:FK K "is_tell" lu)
  (a19:FK K "check_telling" eQ)
  (a20:FK K "last_reach" ij)
  (a21:FK K "stepped" lp)
  (a22:FK K "told_on" lm)
  (a23:FK K "decides" lx)
  (a24:FK K "_law_cell" jK)
  (a25:FK K "_law_stir" jJ)
  (a26:FK K "_law_shapes" ff)
  (a27:FK K "_law_telling" ez)
  (a28:FK K "_law_asked" iX)
  (a29:FK K "_law_when" g6)
  (a30:FK K "_law_spoken" ii)
  (a31:FK K "_law_right" iW)
  (a32:FK K "law" wa)
  {Jay:Addr} {Jbg:Nat} {Jbh:Array (Tg)} {Jat:Addr} {Ja5:Nat} {Ja6:Array (Tg)} {Jav:Addr} {Jbb:Nat} {Jbc:Array (Tg)} {Jas:Addr} {Ja1:Nat} {Ja2:Array (Tg)} {Jba:Addr} {Jbx:Nat} {Jby:Array (Tg)} {Jaz:Addr} {Jbi:Nat} {Jbj:Array (Tg)} {Ja0:Addr} {Jbk:Nat} {Jbl:Array (Tg)} {Jau:Addr} {Ja7:Nat} {Ja8:Array (Tg)} (Jao:PySem.W.nsIn K mainGlobals "NO_NUMBERS" = some (some (.ref Jay))) (Jap:K.lookup Jay=some ⟨.type "tuple",none,.seq ([(.bool false),(.ref Jat)]:Te).toArray Jbg,Jbh⟩) (Jah:K.lookup Jat=some ⟨.type "tuple",none,.seq ([]:Te).toArray Ja5,Ja6⟩) (Jak:PySem.W.nsIn K mainGlobals "ALL_NUMBERS" = some (some (.ref Jav))) (Jal:K.lookup Jav=some ⟨.type "tuple",none,.seq ([(.bool true),(.ref Jas)]:Te).toArray Jbb,Jbc⟩) (Jae:K.lookup Jas=some ⟨.type "tuple",none,.seq ([]:Te).toArray Ja1,Ja2⟩) (Jaw:PySem.W.nsIn K mainGlobals "NO_SPOTS" = some (some (.ref Jba))) (Jax:K.lookup Jba=some ⟨.type "tuple",none,.seq ([(.ref Ja0),(.ref Jaz)]:Te).toArray Jbx,Jby⟩) (Jaq:K.lookup Jaz=some ⟨.type "tuple",none,.seq ([]:Te).toArray Jbi,Jbj⟩) (Jar:K.lookup Ja0=some ⟨.type "tuple",none,.seq ([(.bool false),(.ref Jau)]:Te).toArray Jbk,Jbl⟩) (Jai:K.lookup Jau=some ⟨.type "tuple",none,.seq ([]:Te).toArray Ja7,Ja8⟩) (z0:PySem.W.nsIn K mainGlobals "list" = some none) (z1:PySem.W.nsIn K mainGlobals "dict" = some none) (z2:PySem.W.nsIn K mainGlobals "len" = some none) (z3:PySem.W.nsIn K mainGlobals "min" = some none) (z4:PySem.W.nsIn K mainGlobals "range" = some none) (z5:PySem.W.nsIn K mainGlobals "set" = some none) (z6:PySem.W.nsIn K mainGlobals "sorted" = some none) (z7:PySem.W.nsIn K mainGlobals "tuple" = some none) :
  ∃fd:FuncData,(∀(s:Shared) (v:Value),BindsTo s fd ⟨[v],[]⟩ [("script",v)])/\∀base:Heap,K.In base->base.Ns mainGlobals mg->cF l.prog w K mg base kT 7 fa fd ["script"] (fun vs H Q E=>∀b,AF K 1 (uG b) vs H Q E):=by
 have z:Zs mg:=(gX (zbv X G z0) (gX (zbv X G z1) (gX (zbv X G z2) (gX (zbv X G z3) (gX (zbv X G z4) (gX (zbv X G z5) (gX (zbv X G z6) (gX (zbv X G z7) Il))))))));have Jaj:iA K mg "NO_NUMBERS" (.tup [(.bl false),(.tup [])]):=p0 (zcl X G Jao) (j9 Jap (show 2<=sizeLine by decide) (fJ DB (fJ (j9 Jah (show 0<=sizeLine by decide) hZ) hZ)));have Jaf:iA K mg "ALL_NUMBERS" (.tup [(.bl true),(.tup [])]):=p0 (zcl X G Jak) (j9 Jal (show 2<=sizeLine by decide) (fJ DB (fJ (j9 Jae (show 0<=sizeLine by decide) hZ) hZ)));have Jac:iA K mg "NO_SPOTS" (.tup [(.tup [(.bl false),(.tup [])]),(.tup [])]):=p0 (zcl X G Jaw) (j9 Jax (show 2<=sizeLine by decide) (fJ (j9 Jar (show 2<=sizeLine by decide) (fJ DB (fJ (j9 Jai (show 0<=sizeLine by decide) hZ) hZ))) (fJ (j9 Jaq (show 0<=sizeLine by decide) hZ) hZ)));have cf:CF K mg qC:=⟨⟨aC,zcl X G aC,⟨pg,hd,po,sa⟩⟩,n_shape_list,n_tellings,n_tables_now,mk,kc⟩;have Jbr:=a0.at_ (ps:=["self","shapes"]) (fun _ _ _ _ _ _=>xv fun _ _=>rfl);have Jbs:=a1.at_ (ps:=["self","telling"]) (fun _ _ _ _ _ _=>xv fun _ _=>rfl);have Jbt:=a2.at_ (ps:=["self","name","row","low","high"]) (fun _ _ _ _ _ _=>Oi fun _ _ _ _ _=>rfl);have Jbd:=a3.at_ (ps:=["self","name","key","low","high"]) (fun _ _ _ _ _ _=>Oi fun _ _ _ _ _=>rfl);have Jbm:=a4.at_ (ps:=["self","name"]) (fun _ _ _ _ _ _=>xv fun _ _=>rfl);have Ja9:=a5.at_ (ps:=["self","name","key","day","turn"]) (fun _ _ _ _ _ _=>Oi fun _ _ _ _ _=>rfl);have Jbz:=a6.at_ (ps:=["word","one","other"]) X G (fun _ _ _ _ _ _=>GG fun _ _ _=>rfl);have Jb6:=a7.at_ (ps:=["reach","number"]) X G (fun _ _ _ _ _ _=>xv fun _ _=>rfl);have Jbn:=a8.at_ (ps:=["low","high"]) X G (fun _ _ _ _ _ _=>xv fun _ _=>rfl);have Jcd:=a9.at_ (ps:=["one","other","word"]) X G (fun _ _ _ _ _ _=>GG fun _ _ _=>rfl);have Jb0:=a10.at_ (ps:=["plot","turn"]) X G (fun _ _ _ _ _ _=>xv fun _ _=>rfl);have Jb7:=a11.at_ (ps:=["plot","day","turn"]) X G (fun _ _ _ _ _ _=>GG fun _ _ _=>rfl);have Jbu:=a12.at_ (ps:=["plots"]) X G (fun _ _ _ _ _ _=>Iq fun _=>rfl);have Jb1:=a13.at_ (ps:=["pairs"]) X G (fun _ _ _ _ _ _=>Iq fun _=>rfl);have Jcc:=a14.at_ (ps:=["table","day","turn"]) X G (fun _ _ _ _ _ _=>GG fun _ _ _=>rfl);have Jb2:=a15.at_ (ps:=["shapes","name"]) X G (fun _ _ _ _ _ _=>xv fun _ _=>rfl);have Jbe:=a16.at_ (ps:=["numbers","width"]) X G (fun _ _ _ _ _ _=>xv fun _ _=>rfl);have Ja3:=a17.at_ (ps:=["low","high"]) X G (fun _ _ _ _ _ _=>xv fun _ _=>rfl);have Jb8:=a18.at_ (ps:=["telling"]) X G (fun _ _ _ _ _ _=>Iq fun _=>rfl);have Ja4:=a19.at_ (ps:=["shapes","telling"]) X G (fun _ _ _ _ _ _=>xv fun _ _=>rfl);have Jbo:=a20.at_ (ps:=["plot"]) X G (fun _ _ _ _ _ _=>Iq fun _=>rfl);have Jb9:=a21.at_ (ps:=["plot","turn","reach"]) X G (fun _ _ _ _ _ _=>GG fun _ _ _=>rfl);have Jca:=a22.at_ (ps:=["table","keys","telling","turn"]) X G (fun _ _ _ _ _ _=>Oj fun _ _ _ _=>rfl);have Jcb:=a23.at_ (ps:=["telling","name","key","day"]) X G (fun _ _ _ _ _ _=>Oj fun _ _ _ _=>rfl);have Jb3:=a24.at_ (ps:=["script","k"]) X G (fun _ _ _ _ _ _=>xv fun _ _=>rfl);have Jb4:=a25.at_ (ps:=["cell","k"]) X G (fun _ _ _ _ _ _=>xv fun _ _=>rfl);have Jbp:=a26.at_ (ps:=["cell"]) X G (fun _ _ _ _ _ _=>Iq fun _=>rfl);have Jbf:=a27.at_ (ps:=["cell","shapes","scale"]) X G (fun _ _ _ _ _ _=>GG fun _ _ _=>rfl);have Jbv:=a28.at_ (ps:=["book","telling"]) X G (fun _ _ _ _ _ _=>xv fun _ _=>rfl);have Jb5:=a29.at_ (ps:=["cell","k","tellings","scale"]) X G (fun _ _ _ _ _ _=>Oj fun _ _ _ _=>rfl);have Jbq:=a30.at_ (ps:=["tellings","name","keys"]) X G (fun _ _ _ _ _ _=>GG fun _ _ _=>rfl);have Jbw:=a31.at_ (ps:=["book","shape","tellings","day","turn"]) X G (fun _ _ _ _ _ _=>Oi fun _ _ _ _ _=>rfl);obtain ⟨fdL,FL,bL⟩:=a32.law (ps:=["script"]) X G hfa (fun _ _ _ _ _ _=>Iq fun _=>rfl);refine ⟨fdL,fun s v=>bL s [v] rfl,fun base _ _=>?_⟩;have Jan:=uQ (P:=l.prog) (w:=w) (base:=base) cf z Jbr
 have je:=wL (P:=l.prog) (w:=w) (base:=base) cf z Jbz
 have gz:=zW (P:=l.prog) (w:=w) (base:=base) cf z Jb6;have dD:=sF (P:=l.prog) (w:=w) (base:=base) cf z Jbn Jaj Jaf;have lH:=wO (P:=l.prog) (w:=w) (base:=base) cf z Jb0;have j3:=uN (P:=l.prog) (w:=w) (base:=base) cf z Jbu;have bJ:=wN (P:=l.prog) (w:=w) (base:=base) cf z Jb2;have cY:=qv (P:=l.prog) (w:=w) (base:=base) cf z Jbe;have fR:=og (P:=l.prog) (w:=w) (base:=base) cf z Ja3;have eY:=zY (P:=l.prog) (w:=w) (base:=base) cf z Jb8;have dE:=sI (P:=l.prog) (w:=w) (base:=base) cf z Jbo;have jh:=wR (P:=l.prog) (w:=w) (base:=base) cf z Jb3;have bc:=wQ (P:=l.prog) (w:=w) (base:=base) cf z Jb4;have jf:=sG (P:=l.prog) (w:=w) (base:=base) cf z Jbq;have Jaa:=sJ (P:=l.prog) (w:=w) (base:=base) cf z Jbm bJ;have sO:=Fq (P:=l.prog) (w:=w) (base:=base) cf z Jcd je;have nc:=zX (P:=l.prog) (w:=w) (base:=base) cf z Jb7 gz lH;have lG:=wM (P:=l.prog) (w:=w) (base:=base) cf z Jb1 j3 Jac;have fQ:=oe (P:=l.prog) (w:=w) (base:=base) cf z Ja4 bJ cY fR eY;have m9:=zV (P:=l.prog) (w:=w) (base:=base) cf z Jb9 dE;have ng:=zZ (P:=l.prog) (w:=w) (base:=base) cf z Jcb gz dD;have jg:=sH (P:=l.prog) (w:=w) (base:=base) cf z Jbp bc;have iu:=qu (P:=l.prog) (w:=w) (base:=base) cf z Jbf bc;have lI:=wP (P:=l.prog) (w:=w) (base:=base) cf z Jb5 bc;have Jad:=pJ (P:=l.prog) (w:=w) (base:=base) cf z Ja9 cY ng bJ;have eF:=CM (P:=l.prog) (w:=w) (base:=base) cf z Jcc nc;have m8:=zU (P:=l.prog) (w:=w) (base:=base) cf z Jca dD eY lG m9 sO dE Jac;have Jab:=uP (P:=l.prog) (w:=w) (base:=base) cf z Jbs fQ m8 bJ;have j1:=uL (P:=l.prog) (w:=w) (base:=base) cf z Jbw jf Jad eF Jaa;have Jam:=uO (P:=l.prog) (w:=w) (base:=base) cf z Jbt Jab;have Jag:=qw (P:=l.prog) (w:=w) (base:=base) cf z Jbd Jab;have j2:=uM (P:=l.prog) (w:=w) (base:=base) cf z Jbv Jag Jam;exact (Nl (P:=l.prog) (w:=w) (base:=base) cf z FL jg Jan jh j2 lI Jaa iu j1 eF bc).imp fun _ _ _ _ h=>h _
end
end LW
namespace LW
open HW
theorem tO (a0 a1:R)(U:ac):cG [a0,a1] U=(ko [some a0,some a1] U).bind sP:=rfl
theorem tN (bt:Bool)(a0 a1:R)(U:ac):bR bt [a0,a1] U=(kj bt [some a0,some a1,none,none,none] U).bind sP:=rfl
theorem tM (bt:Bool)(a0 a1 a2 a3 a4:R)(U:ac):d6 bt [a0,a1,a2,a3,a4] U=(ki bt [some a0,some a1,some a2,some a3,some a4] U).bind sP:=rfl
theorem qi (bt:Bool)(a0 a1 a2 a3 a4:R)(U:ac):cV bt [a0,a1,a2,a3,a4] U=(iz bt [some a0,some a1,some a2,some a3,some a4] U).bind sP:=rfl
theorem rW (a0 a1:R)(U:ac):bf [a0,a1] U=(jx [some a0,some a1] U).bind sP:=rfl
theorem oR (a0 a1 a2 a3 a4:R)(U:ac):bX [a0,a1,a2,a3,a4] U=(gP [some a0,some a1,some a2,some a3,some a4,none] U).bind sP:=rfl
theorem oQ (a0 a1 a2:D):bH [a0,a1,a2]=eZ (jp [some (.v a0),some (.v a1),some (.v a2)] []):=rfl
theorem y0 (a0 a1:D):eV [a0,a1]=eZ (kS [some (.v a0),some (.v a1),none] []):=rfl
theorem rR (a0 a1:D):cK [a0,a1]=eZ (jq [some (.v a0),some (.v a1)] []):=rfl
theorem D7 (bt:Bool)(a0 a1 a2:D):kI bt [a0,a1,a2]=eZ (tt bt [some (.v a0),some (.v a1),some (.v a2),none,none,none,none,none,none,none,none,none] []):=rfl
theorem vS (a0 a1:D):gL [a0,a1]=eZ (lQ [some (.v a0),some (.v a1),none,none] []):=rfl
theorem y4 (a0 a1 a2:D):eW [a0,a1,a2]=eZ (nu [some (.v a0),some (.v a1),some (.v a2)] []):=rfl
theorem vQ (bt:Bool)(a0:D):gK bt [a0]=pP (lO bt [some (.v a0),none,none,none,none] []):=rfl
theorem AM (a0 a1 a2:D):bj [a0,a1,a2]=pP (p9 [some (.v a0),some (.v a1),some (.v a2)] []):=rfl
theorem vR (a0 a1:D):bm [a0,a1]=eZ (lP [some (.v a0),some (.v a1),none] []):=rfl
theorem qh (a0 a1:D):aW [a0,a1]=eZ (iw [some (.v a0),some (.v a1),none] []):=rfl
theorem nZ (a0 a1:D):cR [a0,a1]=eZ (fT [some (.v a0),some (.v a1)] []):=rfl
theorem qE (a0:D):bU [a0]=eZ (gB [some (.v a0)] []):=rfl
theorem nY (a0 a1:D):bq [a0,a1]=eZ (dU [some (.v a0),some (.v a1),none] []):=rfl
theorem rV (a0:D):cM [a0]=eZ (jw [some (.v a0)] []):=rfl
theorem yZ (a0 a1 a2:D):iM [a0,a1,a2]=eZ (kR [some (.v a0),some (.v a1),some (.v a2)] []):=rfl
theorem yY (bt:Bool)(a0 a1 a2 a3:D):eT bt [a0,a1,a2,a3]=pP (nt bt [some (.v a0),some (.v a1),some (.v a2),some (.v a3),none,none,none,none,none,none,none] []):=rfl
theorem y6 (a0 a1 a2 a3:D):eX [a0,a1,a2,a3]=eZ (iQ [some (.v a0),some (.v a1),some (.v a2),some (.v a3)] []):=rfl
theorem vV (a0 a1:D):cL [a0,a1]=eZ (ju [some (.v a0),some (.v a1)] []):=rfl
theorem vU (a0 a1:D):aR [a0,a1]=eZ (lR [some (.v a0),some (.v a1),none] []):=rfl
theorem rT (a0:D):dB [a0]=eZ (jt [some (.v a0),none,none,none,none,none,none,none] []):=rfl
theorem qg (a0 a1 a2:D):cW [a0,a1,a2]=eZ (fu [some (.v a0),some (.v a1),some (.v a2),none,none,none,none,none,none,none,none] []):=rfl
theorem tL (bt:Bool)(a0 a1:R)(U:ac):d5 bt [a0,a1] U=(ie bt [some a0,some a1] U).bind sP:=rfl
theorem vT (a0 a1 a2 a3:D):dj [a0,a1,a2,a3]=eZ (gO [some (.v a0),some (.v a1),some (.v a2),some (.v a3),none,none,none,none] []):=rfl
theorem rS (bt:Bool)(a0 a1 a2:D):cJ bt [a0,a1,a2]=pP (jr bt [some (.v a0),some (.v a1),some (.v a2),none,none] []):=rfl
theorem tK (bt:Bool)(a0 a1 a2 a3 a4:R)(U:ac):d3 bt [a0,a1,a2,a3,a4] U=(kh bt [some a0,some a1,some a2,some a3,some a4,none,none,none,none,none,none] U).bind sP:=rfl
theorem LB (bt:Bool)(a0:D):uG bt [a0]=eZ (DN bt [some (.v a0),none,none,none,none,none,none,none,none,none,none] []):=rfl
abbrev Rc:=Bool×Th
abbrev rD (r:Rc):D:=.tup [.bl r.1,.tup (r.2.map .int)]
abbrev sD (p:Int×Rc):D:=.tup [.int p.1,rD p.2]
def ip {n:Nat}{xs:List D}(h:okDs n xs=true):dL (n+1) (.tup xs)=true:=by simpa [dL] using h
def Co {n:Nat}{xs:List D}(h:okDs n xs=true):dL (n+1) (.fl xs)=true:=by simpa [dL] using h
def cE {n:Nat}{x:D}{xs:List D}(h:dL n x=true)(h':okDs n xs=true):okDs n (x::xs)=true:=by simp [okDs,h,h']
theorem l8 {n:Nat}:okDs n []=true:=by cases n <;> rfl
def wA {n:Nat}(r:Rc):dL (n+2) (rD r)=true:=ip (cE Nc (cE (ip (gq _)) l8))
def Kc {n:Nat}(p:Int×Rc):dL (n+3) (sD p)=true:=ip (cE Ke (cE (wA _) l8))
theorem sv {Z:Type}{n:Nat}{f:Z->D}(h:∀a,dL n (f a)=true):∀xs:List Z,okDs n (xs.map f)=true
 |[]=>l8
 |x::xs=>cE (h x) (sv h xs)
abbrev pD (g:Rc)(qs:List (Int×Rc)):D:=.tup [rD g,.tup (qs.map sD)]
def Kd {n:Nat}(g:Rc)(qs:List (Int×Rc)):dL (n+5) (pD g qs)=true:=ip (cE (wA _) (cE (ip (sv (fun p=>Kc p) qs)) l8))
def HL (r:Rc):dL 60 (rD r)=true:=wA r
def Nb (g:Rc)(qs:List (Int×Rc)):dL 60 (pD g qs)=true:=Kd g qs
def yK (r s:Rc):iO (rD r) (rD s)=decide (r=s):=by obtain ⟨a,xs⟩:=r;obtain ⟨b,ys⟩:=s;simp only [rD,sQ,xa,xb,sR,cZ,eM,gd,gf,kO,zcC,Prod.mk.injEq];cases a <;> cases b <;> simp
def N4 (p q:Int×Rc):iO (sD p) (sD q)=decide (p=q):=by obtain ⟨a,r⟩:=p;obtain ⟨b,s⟩:=q;have:=yK r s;simp only [sD,sQ,xa,xb,sR,cZ,eM,gd,gf,zcC,Prod.mk.injEq,zc8] at this ⊢;rw [this];congr 1
theorem yI {Z:Type}[DecidableEq Z]{f:Z->D}(h:∀a b,iO (f a) (f b)=decide (a=b)):∀xs ys:List Z,eqDs (xs.map f) (ys.map f)=decide (xs=ys)
 |[],[]=>by simp [cZ,eM,gd,gf]
 |[],_::_=>by simp [cZ,eM,gd,gf]
 |_::_,[]=>by simp [cZ,eM,gd,gf]
 |x::xs,y::ys=>by simp only [zaf,cZ,eM,gd,gf,h,yI h xs ys,List.cons.injEq,zc8]
def N5 (g h:Rc)(ps qs:List (Int×Rc)):iO (pD g ps) (pD h qs)=decide (g=h/\ps=qs):=by
 show (iO (rD g) (rD h) && (eqDs (ps.map sD) (qs.map sD) && true))=_
 rw [yK,yI N4,zcC,zc8]
theorem pN:∀xs:Th,flatDs (xs.map .int)=true
 |[]=>rfl
 |x::xs=>by simp [flatDs,cS,pN xs]
def yA (r:Rc):cS (rD r)=true:=by simp [rD,cS,flatDs,pN]
theorem uX:∀ps:List (Int×Rc),flatDs (ps.map sD)=true
 |[]=>rfl
 |p::ps=>by
  show ((true && (cS (rD p.2) && true)) && flatDs (ps.map sD))=true
  rw [yA,uX ps];rfl
def FN (g:Rc)(ps:List (Int×Rc)):cS (pD g ps)=true:=by have:=yA g;simp only [pD,cS,flatDs,uX,zcC] at *;exact this
abbrev Up (ps:List (Int×Rc)):Prop:=ps.Pairwise fun a b=>a.1 < b.1
def O9:Rc->List (Int×Rc)->Prop
 |_,[]=>True
 |g,p::ps=>p.2≠g/\O9 p.2 ps
def ra:Rc->List (Int×Rc)->Int->Rc
 |g,[],_=>g
 |g,p::ps,t=>if t < p.1 then g else ra p.2 ps t
def qc {Z:Type}{f:Z->D}{xs:List Z}{k:Nat}{a:Z}(h:xs[k]?=some a):L2.mI (xs.map f) (k:Int)=some (f a):=tu (by omega) (by simp [h])
def lst:Rc->List (Int×Rc)->Rc
 |g,[]=>g
 |_,p::ps=>lst p.2 ps
theorem zn {Z:Type}{x y:Z}{l:List Z}:(x::l).set 0 y=y::l:=rfl
theorem sets {Z:Type}{x y:Z}{l:List Z}{n:Nat}:(x::l).set (n+1) y=x::l.set n y:=rfl
theorem small {n m:Nat}(h:n<=m)(hm:m<=10000:=by decide):n < sizeLine:=by have:sizeLine=2 ^ 24:=rfl;omega
theorem PC {Z:Type}{x:Z}{l:List Z}:(x::l)[0]?=some x:=rfl
structure Lq where
 p:Bool
 q:Bool
 last:Bool
 out:Th
def aZ (w:Bool->Bool->Bool)(a b:Th)(s:Lq)(e:Int):Lq :=
 let p:=if a.contains e then !s.p else s.p
 let q:=if b.contains e then !s.q else s.q
 ⟨p,q,w p q,if w p q != s.last then s.out++[e] else s.out⟩
def iP (w:Bool->Bool->Bool)(a b:Th)(p q:Bool)(es:Th):Lq:=es.foldl (aZ w a b) ⟨p,q,w p q,[]⟩
def b9 (a b:Th):Th:=gN (HS.aG (HS.aG [] a) (HS.aG [] b))
def lY (e:Int):D:=.tup [.int e,.bl true]
theorem nK:∀(a:Th),mU (a.map lY)=some (a.map fun e=>(.inl e,.bl true))
 |[]=>rfl
 |e::a=>by have ih:=nK a;simp only [zaf,lY] at ih ⊢;simp only [mU,ih,zbp]
def ET (kvs:List (L2.aH×D))(k x:L2.aH)(v:D):((hG kvs k v).any fun kv=>decide (kv.1=x))=((kvs.any fun kv=>decide (kv.1=x)) || decide (k=x)):=by
 unfold hG;split
 ·rename_i h;have hm:((kvs.map fun kv=>if kv.1=k then (kv.1,v) else kv).any fun kv=>decide (kv.1=x))=kvs.any fun kv=>decide (kv.1=x):=by rw [zcL];congr 1;funext kv;simp only [Function.comp];split <;> rfl
  rw [hm];by_cases e:k=x
  ·subst e;rw [h];rfl
  ·simp [e]
 ·rw [List.any_append];simp
theorem pr (x:L2.aH):∀(ps kvs:List (L2.aH×D)),((aU kvs ps).any fun kv=>decide (kv.1=x))=((kvs.any fun kv=>decide (kv.1=x)) || ps.any fun kv=>decide (kv.1=x))
 |[],kvs=>by simp [aU]
 |p::ps,kvs=>by have ih:=pr x ps (hG kvs p.1 p.2);simp only [aU,zbl] at ih ⊢;rw [ih,ET,zbA,Bool.or_assoc]
theorem Ap (a:Th)(e:Int):((aU [] (a.map fun e=>((.inl e:L2.aH),D.bl true))).any fun kv=>decide (kv.1=.inl e))=a.contains e:=by
 rw [pr];simp only [List.any_nil,Bool.false_or,zcL];induction a with
 |nil=>rfl
 |cons x a ih =>
  rw [zbA,ih,List.contains_cons];congr 1;simp only [Function.comp];by_cases h:x=e
  ·subst h;simp
  ·have h':¬ e=x:=fun z=>h z.symm;simp [h,h']
theorem p5 {a:Th}{U:ac}{O:Lo}:cx (b7 0) jo (du (ae (af 0) (ae (fK (.bl true)) ak))) (a.map .int) (dR 1 [] O) U=some (a.map lY,U):=by
 have:=vg (g:=b7 0) (c:=jo) (f:=du (ae (af 0) (ae (fK (.bl true)) ak))) (U:=U) (fun O=>∃x,O=[x]) (fun _=>true) (fun d=>.tup [d,.bl true]) (xs:=a.map .int) (O:=dR 1 [] O) ⟨none,rfl⟩ (by intro x hx O hO;obtain ⟨y,rfl⟩:=hO;refine ⟨[some (.v x)],rfl,⟨_,rfl⟩,rfl,fun _=>?_⟩;simp only [De,fm,mv,eK,KP,jj,eJ];exact yD rfl (show 2<=sizeLine by decide))
 rw [this,zcP.mpr (fun _ _=>rfl),zbj];rfl
abbrev DH:FS:=(aB (gm (fB (ar (Fz false) (af 10) (af 7)))
  (aK 3 (pR (af 3)))
  aT)
  (aB (gm (fB (ar (Fz false) (af 10) (af 8)))
  (aK 4 (pR (af 4)))
  aT)
  (aB (aK 11 (aL bH 3 (ae (bP (af 2)) (ae (bP (af 3)) (ae (bP (af 4)) ak)))))
  (aB (gm (fB (ar (fS true) (af 11) (af 6)))
  (cC (yC kq (af 9) (ae (af 10) ak)))
  aT)
  (aK 6 (af 11))))))
theorem R0 {Z:Type}{x y:Z}{l:List Z}:(x::y::l)[1]?=some y:=rfl
theorem RY {Z:Type}{x y z u:Z}{l:List Z}:(x::y::z::u::l)[3]?=some u:=rfl
theorem PB {Z:Type}{x y z u v:Z}{l:List Z}:(x::y::z::u::v::l)[4]?=some v:=rfl
def Cy (a b:Th):(HS.aG (HS.aG [] a) (HS.aG [] b)).length<=a.length+b.length:=by have h1:=HS.kH (HS.aG [] b) (HS.aG [] a);have h2:=HS.kH b [];have h3:=HS.kH a [];simp only [zbk] at h2 h3;omega
theorem qW:∀(es:Th),fX (es.map .int)=some es
 |[]=>rfl
 |e::es=>by simp [fX,qW es]
def yE {bt:Bool}{es:Th}{U:ac}(hl:es.length < 4000):wf bt [.v (.tup (es.map .int))] U=some (.s bt (HS.aG [] es),U):=by simp only [wf,dJ,qW,zar,if_pos hl]
def H9 {bt:Bool}{xs ys:Th}{U:ac}(hl:xs.length+ys.length < 64):Lm bt (.s bt xs) (.s bt ys) U=some (.s bt (HS.aG xs ys),U):=by simp only [Lm,hl,and_self,if_true]
def Df {bt:Bool}{es:Th}{U:ac}(hl:es.length < 64):kB bt [.s bt es] U=some (.p U.length,U++[.lst ((gN es).map .int)]):=by simp only [kB,hl,and_self,if_true]
def yG {n:Nat}{a:Th}{U:ac}(h:U[n]?=some (.lst (a.map lY))):pY [.p n] U=some (.p U.length,U++[.dct (aU [] (a.map fun e=>(.inl e,.bl true)))]):=by simp only [pY,h,nK,zar]
def Di {n:Nat}{a:Th}{e:Int}{U:ac}(h:U[n]?=some (.dct (aU [] (a.map fun e=>(.inl e,.bl true))))):Fz false (.v (.int e)) (.p n) U=some (.v (.bl (a.contains e)),U):=by simp only [Fz,h,zas,if_false,Ap]
theorem LD (w:Bool->Bool->Bool)(wd:Str)(hw:∀(x y:Bool) (U:ac),mK (some ([.v (.str wd),.v (.bl x),.v (.bl y)],U)) bH 3=some (.v (.bl (w x y)),U))
  (a b:Th) (s:Lq) (e:Int) (x0 x1 x5 x10 x11:Option R) (c0 c2 c5:aq) (hs:s.out.length < 64) :
  Lk (b7 10 (.v (.int e)) [x0,x1,some (.v (.str wd)),some (.v (.bl s.p)),some (.v (.bl s.q)),x5,some (.v (.bl s.last)),bC 1,bC 3,bC 4,x10,x11] [c0,.dct (aU [] (a.map fun e=>(.inl e,.bl true))),c2,.dct (aU [] (b.map fun e=>(.inl e,.bl true))),.lst (s.out.map .int),c5]) DH
   = some (.nx [x0,x1,some (.v (.str wd)),some (.v (.bl (aZ w a b s e).p)),some (.v (.bl (aZ w a b s e).q)),x5,some (.v (.bl (aZ w a b s e).last)),bC 1,bC 3,bC 4,bv e,some (.v (.bl (aZ w a b s e).last))] [c0,.dct (aU [] (a.map fun e=>(.inl e,.bl true))),c2,.dct (aU [] (b.map fun e=>(.inl e,.bl true))),.lst ((aZ w a b s e).out.map .int),c5]):=by
 rw [w6,qz];simp only [zn,sets,DH,lK,pU,Dp,nQ,nP,mv,j8,lL,Di (n:=1) (a:=a) R0,Do]
 have T1:tU (some (a.contains e,[c0,.dct (aU [] (a.map fun e=>(.inl e,.bl true))),c2,.dct (aU [] (b.map fun e=>(.inl e,.bl true))),.lst (s.out.map .int),c5])) (aK 3 (pR (af 3))) aT [x0,x1,some (.v (.str wd)),some (.v (.bl s.p)),some (.v (.bl s.q)),x5,some (.v (.bl s.last)),bC 1,bC 3,bC 4,bv e,x11]
   = some (.nx [x0,x1,some (.v (.str wd)),some (.v (.bl (aZ w a b s e).p)),some (.v (.bl s.q)),x5,some (.v (.bl s.last)),bC 1,bC 3,bC 4,bv e,x11] [c0,.dct (aU [] (a.map fun e=>(.inl e,.bl true))),c2,.dct (aU [] (b.map fun e=>(.inl e,.bl true))),.lst (s.out.map .int),c5]):=by
  unfold aZ;cases a.contains e <;> rfl
 rw [T1];simp only [hV,lK,pU,Dp,nQ,nP,mv,j8,lL,Di (n:=3) (a:=b) RY,Do]
 have T2:tU (some (b.contains e,[c0,.dct (aU [] (a.map fun e=>(.inl e,.bl true))),c2,.dct (aU [] (b.map fun e=>(.inl e,.bl true))),.lst (s.out.map .int),c5])) (aK 4 (pR (af 4))) aT [x0,x1,some (.v (.str wd)),some (.v (.bl (aZ w a b s e).p)),some (.v (.bl s.q)),x5,some (.v (.bl s.last)),bC 1,bC 3,bC 4,bv e,x11]
   = some (.nx [x0,x1,some (.v (.str wd)),some (.v (.bl (aZ w a b s e).p)),some (.v (.bl (aZ w a b s e).q)),x5,some (.v (.bl s.last)),bC 1,bC 3,bC 4,bv e,x11] [c0,.dct (aU [] (a.map fun e=>(.inl e,.bl true))),c2,.dct (aU [] (b.map fun e=>(.inl e,.bl true))),.lst (s.out.map .int),c5]):=by
  unfold aZ;cases b.contains e <;> rfl
 rw [T2];simp only [hV,lK,j7,yH,fm,Ia,nP,mv,Dj,eK,jj,eJ,hw,mw,zn,sets,pU,Dp,nQ,j8,lL,KL,Do];have e1:(aZ w a b s e).last=w (aZ w a b s e).p (aZ w a b s e).q:=rfl
 have e2:(aZ w a b s e).out=if w (aZ w a b s e).p (aZ w a b s e).q != s.last then s.out++[e] else s.out:=rfl
 rw [e1,e2];generalize w (aZ w a b s e).p (aZ w a b s e).q=here
 by_cases hc:here=s.last
 ·have c1:(!(here == s.last))=false:=by simp [hc]
  have c2:(here != s.last)=false:=by simp [hc]
  rw [c1,c2];simp only [KU,F0,hV,j7,nP,mv,mw,zn,sets,zas,if_false]
 ·have c1:(!(here == s.last))=true:=by simp [hc]
  have c2:(here != s.last)=true:=by simp [hc]
  rw [c1,c2];simp only [KS,F3,NV,nP,mv,KN (n:=4) (xs:=s.out.map .int) PB,fm,eK,jj,eJ,KM,K5 (n:=4) (xs:=s.out.map .int) PB (by rw [zag];exact small (m:=64) (by omega)),Dk,hV,j7,mw,zn,sets,if_true,zaR,zaf,za6]
theorem RZ {Z:Type}{x y z:Z}{l:List Z}:(x::y::z::l)[2]?=some z:=rfl
theorem vq (w:Bool->Bool->Bool)(a b:Th):∀(es:Th) (s:Lq),(es.foldl (aZ w a b) s).out.length<=s.out.length+es.length
 |[],s=>by simp
 |e::es,s=>by
  have h1:=vq w a b es (aZ w a b s e);have h2:(aZ w a b s e).out.length<=s.out.length+1:=by
   have:(aZ w a b s e).out=if w (aZ w a b s e).p (aZ w a b s e).q != s.last then s.out++[e] else s.out:=rfl
   rw [this];split <;> simp
  simp only [zbl,zaB];omega
set_option maxHeartbeats 4000000 in
def DJ (bt:Bool)(w:Bool->Bool->Bool)(wd:Str)(hw:∀(x y:Bool) (U:ac),mK (some ([.v (.str wd),.v (.bl x),.v (.bl y)],U)) bH 3=some (.v (.bl (w x y)),U))
  (p q:Bool) (a b:Th) (hl:a.length+b.length < 64) :
  kI bt [.tup [.bl p,.tup (a.map .int)],.tup [.bl q,.tup (b.map .int)],.str wd]=some (.tup [.bl (w p q),.tup ((iP w a b p q (b9 a b)).out.map .int)]):=by
 rw [D7];have i0:∀(x:Bool) (es:Th),L2.mI [D.bl x,.tup (es.map .int)] 0=some (.bl x):=fun _ _=>rfl;have i1:∀(x:Bool) (es:Th),L2.mI [D.bl x,.tup (es.map .int)] 1=some (.tup (es.map .int)):=fun _ _=>rfl
 have la:(a.map D.int).length<=sizeLine:=by rw [zag];exact zbD (small (m:=64) (by omega))
 have lb:(b.map D.int).length<=sizeLine:=by rw [zag];exact zbD (small (m:=64) (by omega))
 have ml:=Cy a b;have ma:=HS.kH a [];have mb:=HS.kH b [];simp only [zbk] at ma mb
 simp only [tt,lK,j7,nQ,mv,nP,j8,KP,lL,w5 (i0 _ _),mw,zn,sets,hV,yH,fm,Ia,Dj,eK,jj,eJ,hw,
  u4,F4,yF,w5 (i1 _ _),Dg,u2 (U1:=[]) la p5,zbk,za3,pW,yG (n:=0) (a:=a) PC,zaB,zbZ,zci]
 rw [u2 (U1:=[.lst (a.map lY),.dct (aU [] (a.map fun e=>(.inl e,.bl true)))]) lb p5]
 simp only [zaB,zbk,zci,Nat.reduceAdd,zbZ,za3,eK,jj,eJ,pW,yG (n:=2) (a:=b) RZ,mw,zn,sets,hV,lK,j7,KO,F2 (rs:=[]) (ds:=[]) rfl (by decide),
  pV,yF,u4,fm,nQ,mv,nP,j8,KP,lL,w5 (i1 _ _),yE (es:=a) (show a.length < 4000 by omega),yE (es:=b) (show b.length < 4000 by omega),H9 (xs:=HS.aG [] a) (ys:=HS.aG [] b) (show (HS.aG [] a).length+(HS.aG [] b).length < 64 by omega),
  Df (es:=HS.aG (HS.aG [] a) (HS.aG [] b)) (show (HS.aG (HS.aG [] a) (HS.aG [] b)).length < 64 by omega)]
 rw [KW (n:=5) (xs:=(gN (HS.aG (HS.aG [] a) (HS.aG [] b))).map .int) rfl,Dh,mx]
 have hul:(b9 a b).length < 64:=by unfold b9;rw [(dX _).length_eq];omega
 obtain ⟨O',U',el,x10,x11,rfl,rfl⟩:=yo (g:=b7 10) (b:=DH) (xs:=(b9 a b).map .int)
  (O:=[some (.v (.tup [.bl p,.tup (a.map .int)])),some (.v (.tup [.bl q,.tup (b.map .int)])),some (.v (.str wd)),some (.v (.bl p)),some (.v (.bl q)),some (.v (.bl (w p q))),some (.v (.bl (w p q))),bC 1,bC 3,bC 4,none,none])
  (U:=[.lst (a.map lY),.dct (aU [] (a.map fun e=>(.inl e,.bl true))),.lst (b.map lY),.dct (aU [] (b.map fun e=>(.inl e,.bl true))),.lst [],.fz ((b9 a b).map .int)])
  (fun i O U=>∃x10 x11,O=[some (.v (.tup [.bl p,.tup (a.map .int)])),some (.v (.tup [.bl q,.tup (b.map .int)])),some (.v (.str wd)),some (.v (.bl (iP w a b p q ((b9 a b).take i)).p)),some (.v (.bl (iP w a b p q ((b9 a b).take i)).q)),some (.v (.bl (w p q))),some (.v (.bl (iP w a b p q ((b9 a b).take i)).last)),bC 1,bC 3,bC 4,x10,x11] /\
   U=[.lst (a.map lY),.dct (aU [] (a.map fun e=>(.inl e,.bl true))),.lst (b.map lY),.dct (aU [] (b.map fun e=>(.inl e,.bl true))),.lst ((iP w a b p q ((b9 a b).take i)).out.map .int),.fz ((b9 a b).map .int)])
  ⟨none,none,rfl,rfl⟩ (by
   rintro i x O U hx ⟨x10,x11,rfl,rfl⟩;rw [zaE] at hx;obtain ⟨e,he,rfl⟩:=zaO.mp hx;have hil:=(zat.mp he).1
   have ht:(b9 a b).take (i+1)=(b9 a b).take i++[e]:=by rw [List.take_succ,he];rfl
   have hb:iP w a b p q ((b9 a b).take (i+1))=aZ w a b (iP w a b p q ((b9 a b).take i)) e:=by unfold iP;rw [ht,List.foldl_append];rfl
   have hol:(iP w a b p q ((b9 a b).take i)).out.length < 64:=by
    have:=vq w a b ((b9 a b).take i) ⟨p,q,w p q,[]⟩
    simp only [zbk,zbr,zci] at this
    unfold iP;omega
   rw [hb]
   exact ⟨_,_,LD w wd hw a b _ e _ _ _ _ _ _ _ _ hol,_,_,rfl,rfl⟩)
 have el':=el;rw [zag,List.take_length] at el';refine (congrArg (fun o=>eZ (LM o _)) el').trans ?_;simp only [hV,pS,De,fm,nP,mv,eK,u4,jj,eJ,pW,FX (n:=4) (xs:=(iP w a b p q (b9 a b)).out.map .int) PB];rw [yD (ds:=[.bl (w p q),.tup ((iP w a b p q (b9 a b)).out.map .int)]) rfl (show 2<=sizeLine by decide),FZ,KZ]
theorem E5 {xs ys:Th}(h1:xs.Nodup)(h2:ys.Nodup)(h:∀z,z∈xs ↔ z∈ys):xs.Perm ys:=by
 induction xs generalizing ys with
 |nil =>
  cases ys with
  |nil=>exact .refl _
  |cons y ys=>exact absurd ((h y).mpr (by simp)) (by simp)
 |cons x xs ih =>
  obtain ⟨hx,hn⟩:=zaL.mp h1;have hy:x∈ys:=(h x).mp (by simp);have hp:ys.Perm (x::ys.erase x):=List.perm_cons_erase hy;refine (List.Perm.cons x (ih hn (h2.erase x) fun z=>?_)).trans hp.symm;rw [h2.mem_erase_iff,←h z,zak];constructor
  ·intro hz;exact ⟨fun e=>hx (e ▸ hz),.inr hz⟩
  ·rintro ⟨h1,h2|h2⟩
   ·exact absurd h2 h1
   ·exact h2
def B4 (xs:Th)(k z:Int):z∈HS.cI xs k ↔ z∈xs\/z=k:=by
 unfold HS.cI;split
 ·rename_i h;exact ⟨.inl,fun q=>q.elim id fun e=>e ▸ h⟩
 ·simp
theorem oF (z:Int):∀(ns xs:Th),z∈HS.aG xs ns ↔ z∈xs\/z∈ns
 |[],xs=>by simp [HS.aG]
 |n::ns,xs=>by have ih:=oF z ns (HS.cI xs n);simp only [HS.aG,zbl] at ih ⊢;rw [ih,B4,zak,or_assoc]
theorem mW:∀(ns xs:Th),xs.Nodup->(HS.aG xs ns).Nodup
 |[],xs,h=>h
 |n::ns,xs,h=>mW ns _ (HS.px h)
def iE (a b:Th):(b9 a b).Nodup/\(b9 a b).Pairwise (·<=·)/\∀z,z∈b9 a b ↔ z∈a\/z∈b:=by unfold b9;refine ⟨(dX _).nodup_iff.mpr (mW _ _ (mW _ _ zcx)),jd _,fun z=>?_⟩;rw [(dX _).mem_iff,oF,oF,oF];simp
theorem Lz {l:Th}(h1:l.Nodup)(h2:l.Pairwise (·<=·)):l.Pairwise (· < ·):=by
 induction l with
 |nil=>exact .nil
 |cons x l ih =>
  obtain ⟨a,b⟩:=zaL.mp h1;obtain ⟨c,d⟩:=zaM.mp h2;refine zaM.mpr ⟨fun y hy=>?_,ih b d⟩;have:=c y hy;have:x≠y:=fun e=>a (e ▸ hy);omega
def tJ (a b:Th):(b9 a b).Pairwise (· < ·):=Lz (iE a b).1 (iE a b).2.1
def tG (r:Rc)(n:Int):Nat:=(r.2.filter fun e=>decide (e<=n)).length
def jW (r:Rc)(n:Int):Bool:=if tG r n % 2=0 then r.1 else !r.1
def xo (b:Bool)(n:Nat):Bool:=if n % 2=0 then b else !b
def rL (b:Bool)(n:Nat):xo b (n+1) = !(xo b n):=by
 unfold xo;by_cases h:n % 2=0
 ·rw [if_pos h,if_neg (by omega)]
 ·rw [if_neg h,if_pos (by omega),Bool.not_not]
def vN (b:Bool)(n:Nat):xo (!b) n = !(xo b n):=by unfold xo;split <;> simp
def W (w:Bool->Bool->Bool)(r s:Rc):Rc:=(w r.1 s.1,(iP w r.2 s.2 r.1 s.1 (b9 r.2 s.2)).out)
def Ge (bt:Bool)(w:Bool->Bool->Bool)(wd:Str)(hw:∀x y:Bool,bH [.str wd,.bl x,.bl y]=some (.bl (w x y)))(r s:Rc)(hl:r.2.length+s.2.length < 64):kI bt [rD r,rD s,.str wd]=some (rD (W w r s)) :=
 DJ bt w wd (fun x y U=>Dm (ds:=[.str wd,.bl x,.bl y]) rfl rfl (hw x y)) r.1 s.1 r.2 s.2 hl
theorem yR (w:Bool->Bool->Bool)(a b:Th):∀(es:Th) (s:Lq),s.last=w s.p s.q ->
  (es.foldl (aZ w a b) s).p=xo s.p (es.filter fun e=>a.contains e).length/\(es.foldl (aZ w a b) s).q=xo s.q (es.filter fun e=>b.contains e).length /\
  (es.foldl (aZ w a b) s).last=w (es.foldl (aZ w a b) s).p (es.foldl (aZ w a b) s).q/\∃l,(es.foldl (aZ w a b) s).out=s.out++l/\l.Sublist es/\(es.foldl (aZ w a b) s).last=xo s.last l.length
 |[],s,h=>⟨rfl,rfl,h,[],by simp,List.Sublist.refl _,rfl⟩
 |e::es,s,h=>by
  obtain ⟨h1,h2,h3,l,h4,h5,h6⟩:=yR w a b es (aZ w a b s e) rfl;rw [zbl];refine ⟨?_,?_,h3,?_⟩
  ·rw [h1]
   have:(aZ w a b s e).p=if a.contains e then !s.p else s.p:=rfl
   rw [this]
   by_cases c:a.contains e=true
   ·rw [if_pos c,zbJ (by simpa using c),zaB,rL,vN]
   ·rw [if_neg c,zb3 (by simpa using c)]
  ·rw [h2]
   have:(aZ w a b s e).q=if b.contains e then !s.q else s.q:=rfl
   rw [this]
   by_cases c:b.contains e=true
   ·rw [if_pos c,zbJ (by simpa using c),zaB,rL,vN]
   ·rw [if_neg c,zb3 (by simpa using c)]
  ·have ho:(aZ w a b s e).out=if (aZ w a b s e).last != s.last then s.out++[e] else s.out:=rfl
   by_cases c:(aZ w a b s e).last=s.last
   ·have c':((aZ w a b s e).last != s.last)=false:=by rw [c];simp
    rw [c',if_neg (by decide)] at ho;rw [ho] at h4;refine ⟨l,h4,h5.cons e,?_⟩;rw [h6,c]
   ·have c':((aZ w a b s e).last != s.last)=true:=by simpa using c
    rw [c',if_pos rfl] at ho;rw [ho] at h4;refine ⟨e::l,by rw [h4];simp,h5.cons₂ e,?_⟩;rw [h6,zaB,rL,←vN]
    congr 1
    generalize (aZ w a b s e).last=x at c;generalize s.last=y at c;cases x <;> cases y <;> simp_all
theorem t7 (t:Int):∀(Uz:Th),Uz.Pairwise (· < ·)->Uz=Uz.filter (fun e=>decide (e<=t))++Uz.filter (fun e=>!decide (e<=t))
 |[],_=>rfl
 |u::Uz,h=>by
  obtain ⟨h1,h2⟩:=zaM.mp h;by_cases c:u<=t
  ·rw [zbJ (by simpa using c),zb3 (by simpa using c),zbZ,←t7 t Uz h2]
  ·have e1:(u::Uz).filter (fun e=>decide (e<=t))=[]:=zcd.mpr fun x hx=>by
    rcases zak.mp hx with rfl|hx
    ·simpa using c
    ·have:=h1 x hx;simp;omega
   have e2:(u::Uz).filter (fun e=>!decide (e<=t))=u::Uz:=zcP.mpr fun x hx=>by
    rcases zak.mp hx with rfl|hx
    ·simpa using c
    ·have:=h1 x hx;simp;omega
   rw [e1,e2,za3]
def xw {a:Th}(h:a.Pairwise (· < ·)):a.Nodup:=h.imp fun h=>by omega
def K9 {a Uz:Th}(ha:a.Nodup)(hU:Uz.Nodup)(hs:∀e∈a,e∈Uz)(t:Int):((Uz.filter fun e=>decide (e<=t)).filter fun e=>a.contains e).length=(a.filter fun e=>decide (e<=t)).length:=by
 refine (E5 ((hU.filter _).filter _) (ha.filter _) fun z=>?_).length_eq;simp only [zbz,List.contains_iff_mem,decide_eq_true_eq];constructor
 ·rintro ⟨⟨_,h1⟩,h2⟩;exact ⟨h2,h1⟩
 ·rintro ⟨h1,h2⟩;exact ⟨⟨hs z h1,h2⟩,h1⟩
def Ie (w:Bool->Bool->Bool)(r s:Rc):(W w r s).2.Sublist (b9 r.2 s.2):=by
 obtain ⟨_,_,_,l,h4,h5,_⟩:=yR w r.2 s.2 (b9 r.2 s.2) ⟨r.1,s.1,w r.1 s.1,[]⟩ rfl
 show ((b9 r.2 s.2).foldl (aZ w r.2 s.2) ⟨r.1,s.1,w r.1 s.1,[]⟩).out.Sublist _
 rw [h4,za3];exact h5
def Oa (w:Bool->Bool->Bool)(r s:Rc):(W w r s).2.Pairwise (· < ·):=(tJ _ _).sublist (Ie w r s)
def Py (w:Bool->Bool->Bool)(r s:Rc)(hr:r.2.Pairwise (· < ·))(hs:s.2.Pairwise (· < ·))(t:Int):jW (W w r s) t=w (jW r t) (jW s t):=by
 obtain ⟨un,us,um⟩:=iE r.2 s.2;have uu:=tJ r.2 s.2;obtain ⟨Uz,hU⟩:∃Uz,Uz=b9 r.2 s.2:=⟨_,rfl⟩;obtain ⟨a1,a2,a3,l1,a4,a5,a6⟩:=yR w r.2 s.2 (Uz.filter fun e=>decide (e<=t)) ⟨r.1,s.1,w r.1 s.1,[]⟩ rfl;obtain ⟨_,_,_,l2,b4,b5,_⟩:=yR w r.2 s.2 (Uz.filter fun e=>!decide (e<=t)) _ a3;have ho:(W w r s).2=l1++l2:=by
  show ((b9 r.2 s.2).foldl (aZ w r.2 s.2) ⟨r.1,s.1,w r.1 s.1,[]⟩).out=_
  rw [←hU,t7 t Uz (hU ▸ uu),List.foldl_append,b4,a4,za3]
 have c1:l1.filter (fun e=>decide (e<=t))=l1:=zcP.mpr fun x hx=>(zbz.mp (a5.subset hx)).2;have c2:l2.filter (fun e=>decide (e<=t))=[]:=zcd.mpr fun x hx=>by have:=(zbz.mp (b5.subset hx)).2;simpa using this
 have e1:jW (W w r s) t=xo (w r.1 s.1) l1.length:=by unfold jW tG xo;rw [ho,List.filter_append,c1,c2,za2];rfl
 have e2:∀(x:Rc),x.2.Pairwise (· < ·)->(∀e∈x.2,e∈Uz)->jW x t=xo x.1 ((Uz.filter fun e=>decide (e<=t)).filter fun e=>x.2.contains e).length:=fun x hx hm=>by unfold jW tG xo;rw [K9 (xw hx) (hU ▸ un) hm t]
 rw [e1,e2 r hr fun e he=>hU ▸ (um e).mpr (.inl he),e2 s hs fun e he=>hU ▸ (um e).mpr (.inr he),←a1,←a2];exact a6.symm.trans a3
def lv:Bool->List Int->Int->Bool
 |b,[],_=>b
 |b,x::xs,d=>if d < x then b else lv (!b) xs d
abbrev vH (r:Rc)(d:Int):Bool:=lv r.1 r.2 d
structure Pf (g:Rc)(qs:List (Int×Rc)):Prop where
 gu:g.2.Pairwise (· < ·)
 up:Up qs
 dif:O9 g qs
 ru:∀q∈qs,q.2.2.Pairwise (· < ·)
theorem Ht:∀{qs:List (Int×Rc)} {g:Rc} {t:Int},ra g qs t=g\/∃q∈qs,ra g qs t=q.2
 |[],_,_=>.inl rfl
 |q::qs,g,t=>by
  rw [ra];by_cases z:t < q.1
  ·rw [if_pos z];exact .inl rfl
  ·rw [if_neg z];rcases Ht (qs:=qs) (g:=q.2) (t:=t) with h|⟨p,hp,h⟩
   ·exact .inr ⟨q,zan,h⟩
   ·exact .inr ⟨p,zaj _ hp,h⟩
def Pf.at {g qs}(p:Pf g qs)(t:Int):(ra g qs t).2.Pairwise (· < ·):=by
 rcases Ht (qs:=qs) (g:=g) (t:=t) with h|⟨q,hq,h⟩
 ·rw [h];exact p.gu
 ·rw [h];exact p.ru q hq
def li (b:Bool):Int:=if b=true then 1 else 0
def al:Int->List Int->Int->Int
 |_,[],_=>0
 |s,x::xs,e=>(if x=e then s else 0)+al (-s) xs e
def cn:List Rc->Int->Int
 |[],_=>0
 |r::rs,d=>li (vH r d)+cn rs d
def c0:List Rc->Int
 |[]=>0
 |r::rs=>li r.1+c0 rs
abbrev An (rs:List Rc)(d:Int):Bool:=rs.any fun r=>vH r d
abbrev A0 (rs:List Rc):Bool:=rs.any (·.1)
def wk (h:Int->Bool):Bool->List Int->Th
 |_,[]=>[]
 |s,e::es=>if h e=s then wk h s es else e::wk h (h e) es
structure Se (rs:List Rc)(es:Th):Prop where
 up:es.Pairwise (· < ·)
 all:∀x,x∈es ↔ ∃r∈rs,x∈r.2
abbrev Un (rs:List Rc)(es:Th):Rc:=(A0 rs,wk (An rs) (A0 rs) es)
def dG {Z:Type}{l:List Z}{i:Nat}{a:Z}(h:l[i]?=some a):i < l.length:=(zat.mp h).1
def wI {Z:Type}{cs:List Z}{c:Z}:(cs++[c])[cs.length]?=some c:=by simp
def Mp:1<=sizeLine:=by decide
def iG {U:ac}{c c':aq}:(U++[c]).set U.length c'=U++[c']:=by simp
abbrev NO:Rc:=(false,[])
abbrev Pl:=Rc×List (Int×Rc)
abbrev jQ (p:Pl):D:=pD p.1 p.2
structure BP (ES TS:Th)(p:Pl):Prop where
 pf:Pf p.1 p.2
 ge:∀e∈p.1.2,e∈ES
 re:∀q∈p.2,∀e∈q.2.2,e∈ES
 te:∀q∈p.2,q.1∈TS
theorem vf {Z:Type}{c:FT}{f:FE}{rest:Lo}{U:ac}(ea eb:Z->D)(p:Z->Bool)(out:Z->D):∀(T:List Z) (x0 x1:Option R),(∀a∈T,c (some (.v (ea a))::some (.v (eb a))::rest) U=some (p a,U))->(∀a∈T,p a=true->f (some (.v (ea a))::some (.v (eb a))::rest) U=some (.v (out a),U)) ->
  cx (qX 2 (aN (b7 0) (aN (b7 1) eG))) c f (T.map fun a=>.tup [ea a,eb a]) (x0::x1::rest) U=some ((T.filter p).map out,U)
 |[],_,_,_,_=>rfl
 |e::T,x0,x1,h,h'=>by
  have h1:=h e zan;have ih:=vf ea eb p out T (some (.v (ea e))) (some (.v (eb e))) (fun b hb=>h b (zaj _ hb)) (fun b hb=>h' b (zaj _ hb));have hg:qX 2 (aN (b7 0) (aN (b7 1) eG)) (.v (.tup [ea e,eb e])) (x0::x1::rest) U=some (some (.v (ea e))::some (.v (eb e))::rest,U):=rfl
  cases hp:p e with
  |true =>
   have h2:=h' e zan hp;simp only [zaf,cx,hg,zar,h1,hp,if_true,h2,ih,zbN]
  |false=>simp only [zaf,cx,hg,zar,h1,hp,zas,if_false,ih,zbN]
open L2
section
variable {κ:Type}[DecidableEq κ]
theorem ja:∀(l m:List κ),l.Nodup->(∀x∈l,x∈m)->l.length<=m.length
 |[],_,_,_=>zbd _
 |x::l,m,hn,h=>by
  obtain ⟨h1,h2⟩:=zaL.mp hn;have hx:=h x zan;have:=ja l (m.erase x) h2 fun y hy=>(List.mem_erase_of_ne (fun e=>by subst e;exact h1 hy)).mpr (h y (zaj _ hy));rw [List.length_erase_of_mem hx] at this
  have:0 < m.length:=List.length_pos_of_mem hx;simp only [zaB];omega
abbrev Hl (κ:Type):=List (κ×Nat×List D)
abbrev kvs (l:Hl κ):List (κ×R):=l.map fun p=>(p.1,R.p p.2.1)
def cQ:Hl κ->κ->Nat->D->Hl κ
 |[],k,a,d=>[(k,a,[d])]
 |p::l,k,a,d=>if p.1=k then (p.1,p.2.1,p.2.2++[d])::l else p::cQ l k a d
def cont:Hl κ->κ->List D
 |[],_=>[]
 |p::l,k=>if p.1=k then p.2.2 else cont l k
def adr:Hl κ->κ->Option Nat
 |[],_=>none
 |p::l,k=>if p.1=k then some p.2.1 else adr l k
theorem nr (k x:κ)(a:Nat)(d:D):∀l:Hl κ,cont (cQ l k a d) x=cont l x++(if k=x then [d] else [])
 |[]=>by by_cases q:k=x <;> simp [cQ,cont,q]
 |p::l=>by
  have ih:=nr k x a d l;rw [cQ];by_cases q:p.1=k
  ·rw [if_pos q,cont,cont];by_cases z:p.1=x
   ·rw [if_pos z,if_pos z,if_pos (q.symm.trans z)]
   ·rw [if_neg z,if_neg z,if_neg (fun w=>z (q.trans w)),za2]
  ·rw [if_neg q,cont,cont];by_cases z:p.1=x
   ·rw [if_pos z,if_pos z,if_neg (fun w=>q (z.trans w.symm)),za2]
   ·rw [if_neg z,if_neg z,ih]
theorem lC (k x:κ)(a:Nat)(d:D):∀l:Hl κ,x∈(cQ l k a d).map (·.1) ↔ x∈l.map (·.1)\/x=k
 |[]=>by simp [cQ]
 |p::l=>by
  have ih:=lC k x a d l;rw [cQ];by_cases q:p.1=k
  ·rw [if_pos q];simp only [zaf,zak];constructor
   ·exact .inl
   ·rintro (h|h)
    ·exact h
    ·exact .inl (h.trans q.symm)
  ·rw [if_neg q];simp only [zaf,zak,ih,or_assoc]
theorem uv (k:κ)(a:Nat)(d:D):∀l:Hl κ,(l.map (·.1)).Nodup->((cQ l k a d).map (·.1)).Nodup
 |[],_=>by simp [cQ]
 |p::l,h=>by
  rw [zaf,zaL] at h;rw [cQ];by_cases q:p.1=k
  ·rw [if_pos q,zaf,zaL];exact h
  ·rw [if_neg q,zaf,zaL];refine ⟨fun z=>?_,uv k a d l h.2⟩;rcases (lC k p.1 a d l).mp z with z|z
   ·exact h.1 z
   ·exact q z
theorem uw (k:κ)(a:Nat)(d:D):∀l:Hl κ,(cQ l k a d).length<=l.length+1
 |[]=>by simp [cQ]
 |p::l=>by
  have ih:=uw k a d l;rw [cQ];split
  ·simp
  ·simp only [zaB];omega
theorem mD {k:κ}:∀{l:Hl κ},adr l k=none ↔ k∉l.map (·.1)
 |[]=>by simp [adr]
 |p::l=>by
  have ih:=mD (k:=k) (l:=l);rw [adr];by_cases q:p.1=k
  ·rw [if_pos q];simp [q]
  ·rw [if_neg q,ih,zaf,zak,not_or];exact ⟨fun h=>⟨fun z=>q z.symm,h⟩,fun h=>h.2⟩
theorem jy {k:κ}{a:Nat}:∀{l:Hl κ},adr l k=some a->(k,a,cont l k)∈l
 |[],h=>by cases h
 |p::l,h=>by
  rw [adr] at h;rw [cont];by_cases q:p.1=k
  ·rw [if_pos q] at h ⊢
   cases h;rw [←q];exact zan
  ·rw [if_neg q] at h ⊢;exact zaj _ (jy h)
structure HD (C:List (κ×R)->aq)(n:Nat)(U:ac)(l:Hl κ):Prop where
 dict:U[n]?=some (C (kvs l))
 nd:(n::l.map fun p=>p.2.1).Nodup
 cell:∀p∈l,U[p.2.1]?=some (.lst p.2.2)
theorem yu {k:κ}{a b:Nat}{d:D}:∀{l:Hl κ},k∈l.map (·.1)->kvs (cQ l k b d)=kvs l/\(cQ l k b d).map (fun p=>p.2.1)=l.map fun p=>p.2.1
 |[],h=>by cases h
 |p::l,h=>by
  rw [cQ];by_cases q:p.1=k
  ·rw [if_pos q];exact ⟨rfl,rfl⟩
  ·rw [if_neg q];have:=yu (a:=a) (b:=b) (d:=d) (l:=l) (by
    rw [zaf] at h;rcases zak.mp h with w|w
    ·exact absurd w.symm q
    ·exact w)
   exact ⟨congrArg (_ :: ·) this.1,congrArg (_ :: ·) this.2⟩
theorem xZ {k:κ}{b:Nat}{d:D}:∀{l:Hl κ} {p},(l.map (·.1)).Nodup->p∈cQ l k b d->k∈l.map (·.1)->(p∈l/\p.1≠k)\/(p.1=k/\adr l k=some p.2.1/\p.2.2=cont l k++[d])
 |[],p,_,_,h=>by cases h
 |q::l,p,nd,hp,h=>by
  rw [zaf,zaL] at nd;rw [cQ] at hp;rw [adr,cont];by_cases z:q.1=k
  ·rw [if_pos z] at hp ⊢;rw [if_pos z];rcases zak.mp hp with rfl|hp
   ·exact .inr ⟨z,rfl,rfl⟩
   ·exact .inl ⟨zaj _ hp,fun w=>nd.1 (by rw [z,←w];exact za1 hp)⟩
  ·rw [if_neg z] at hp ⊢;rw [if_neg z];rcases zak.mp hp with rfl|hp
   ·exact .inl ⟨zan,z⟩
   ·rcases xZ nd.2 hp (by
     rw [zaf] at h;rcases zak.mp h with w|w
     ·exact absurd w.symm z
     ·exact w) with w|w
    ·exact .inl ⟨zaj _ w.1,w.2⟩
    ·exact .inr w
theorem qN {k:κ}{b:Nat}{d:D}:∀{l:Hl κ},k∉l.map (·.1)->cQ l k b d=l++[(k,b,[d])]
 |[],_=>rfl
 |p::l,h=>by rw [zaf,zak,not_or] at h;rw [cQ,if_neg (fun z=>h.1 z.symm),qN h.2];rfl
variable {C:List (κ×R)->aq}{n:Nat}{U:ac}{l:Hl κ}
def HD.lt (h:HD C n U l):n < U.length:=dG h.dict
def HD.adr (h:HD C n U l){k:κ}{a:Nat}(e:adr l k=some a):U[a]?=some (.lst (cont l k)):=h.cell _ (jy e)
def HD.adrN (h:HD C n U l){k:κ}{a:Nat}(e:LW.adr l k=some a):a≠n:=fun z=>by subst z;exact (zaL.mp h.nd).1 (zaJ.mpr ⟨_,jy e,rfl⟩)
def HD.old (h:HD C n U l)(nk:(l.map (·.1)).Nodup){k:κ}{a:Nat}(e:LW.adr l k=some a)(d:D)(b:Nat):HD C n ((U++[aq.lst []]).set a (.lst (cont l k++[d]))) (cQ l k b d):=by
 have hk:k∈l.map (·.1):=by refine Classical.byContradiction fun z=>?_;rw [mD.mpr z] at e;cases e
 have la:=dG (h.adr e);obtain ⟨k1,k2⟩:=yu (a:=a) (b:=b) (d:=d) hk;refine ⟨?_,by rw [k2];exact h.nd,fun p hp=>?_⟩
 ·rw [zaz (h.adrN e),zai h.lt,k1];exact h.dict
 ·rcases xZ nk hp hk with ⟨w,w2⟩|⟨w1,w2,w3⟩
  ·have:a≠p.2.1:=fun z=>by
    have m1:=jy e;have:=(zaL.mp h.nd).2;obtain ⟨i,hi,e1⟩:=zbf m1;obtain ⟨j,hj,e2⟩:=zbf w;have hij:i=j:=(zbK (xs:=l.map fun p=>p.2.1) (h₀:=by simpa using hi) (h₁:=by simpa using hj) this).mp (by rw [zb0,zb0,e1,e2];exact z);subst hij;rw [e1] at e2;exact w2 (by rw [←e2])
   have hc:=h.cell p w;rw [zaz this,zai (dG hc)];exact hc
  ·rw [e] at w2
   cases w2;rw [w3,zaT (by simp;omega)]
def HD.new (h:HD C n U l){k:κ}(hk:k∉l.map (·.1))(d:D):HD C n (((U++[aq.lst []]).set n (C (kvs l++[(k,.p U.length)]))).set U.length (.lst [d])) (cQ l k U.length d):=by
 have hn:=h.lt;rw [qN hk];refine ⟨?_,?_,fun p hp=>?_⟩
 ·rw [zaz (by omega),zaT (by simp;omega)];simp [kvs]
 ·rw [zaR,←zbZ,zbc];refine ⟨h.nd,by simp,fun x hx y hy=>?_⟩;simp only [zaf,za6,zau] at hy;subst hy;rcases zak.mp hx with rfl|hx
  ·omega
  ·obtain ⟨p,hp,rfl⟩:=zaJ.mp hx;have:=dG (h.cell p hp);omega
 ·rcases zaU.mp hp with hp|hp
  ·have hc:=h.cell p hp;have:=dG hc;have pn:n≠p.2.1:=fun z=>(zaL.mp h.nd).1 (by rw [z];exact za1 (f:=fun p:κ×Nat×List D=>p.2.1) hp);rw [zaz (by omega),zaz pn,zai this];exact hc
  ·rw [zau] at hp;subst hp;rw [zaT (by simp)]
end
abbrev tC (l:List (Th×R)):aq:=.dtr l
abbrev En:=Th×Pl
abbrev c9 (e:En):D:=.tup [.key e.1,jQ e.2]
theorem rO (k:Th):∀l:Hl (Th),jB (kvs l) k=(adr l k).map R.p
 |[]=>rfl
 |p::l=>by
  have ih:=rO k l;unfold jB at ih ⊢;rw [adr];simp only [kvs,zaf];by_cases q:p.1=k
  ·rw [zca (by simp [q]),if_pos q];rfl
  ·rw [zcb (by simp [q]),if_neg q];exact ih
theorem Bm {fo fk:FE}{O:Lo}{U:ac}{n a:Nat}{k:Th}{l:Hl (Th)}(ho:fo O U=some (.p n,U))(hk:fk O U=some (.v (.key k),U))(h:HD tC n U l)(e:adr l k=some a)(hl:l.length < 1000):pQ fo fk (cN ak) O U=some (.p a,U++[.lst []]):=by
 have h1:hX U n=some (kvs l):=by simp only [hX,h.dict]
 have h2:hX (U++[aq.lst []]) n=some (kvs l):=by simp only [hX,zai h.lt,h.dict]
 have hL:cN ak O U=some (.p U.length,U++[aq.lst []]):=rfl;have hl':(kvs l).length < 1000:=by simpa using hl
 have hv:=rO k l;rw [e,zbp] at hv;simp only [pQ,ho,zar,h1,zct,if_true,hk,hL,h2,hl',hv]
theorem Bn {fo fk:FE}{O:Lo}{U:ac}{n:Nat}{k:Th}{l:Hl (Th)}(ho:fo O U=some (.p n,U))(hk:fk O U=some (.v (.key k),U))(h:HD tC n U l)(e:adr l k=none)(hl:l.length < 1000):pQ fo fk (cN ak) O U=some (.p U.length,(U++[aq.lst []]).set n (tC (kvs l++[(k,.p U.length)]))):=by
 have h1:hX U n=some (kvs l):=by simp only [hX,h.dict]
 have h2:hX (U++[aq.lst []]) n=some (kvs l):=by simp only [hX,zai h.lt,h.dict]
 have hL:cN ak O U=some (.p U.length,U++[aq.lst []]):=rfl;have hl':(kvs l).length < 1000:=by simpa using hl
 have hv:=rO k l;rw [e,Option.map_none] at hv;simp only [pQ,ho,zar,h1,zct,if_true,hk,hL,h2,hl',hv]
structure TB (U:ac)(l:Hl (Th))(N:Nat):Prop where
 hd:HD tC 0 U l
 nk:(l.map (·.1)).Nodup
 ln:l.length<=N
 cl:∀k,(cont l k).length<=N
theorem Ee (bt:Bool){x0 x4:Option R}{e:En}{U:ac}{l:Hl (Th)}{N:Nat}(h:TB U l N)(hN:N < 900) :
  ∃U' b,eD bt [x0,bC 0,some (.v (.key e.1)),some (.v (jQ e.2)),x4] U=some (.nx [x0,bC 0,some (.v (.key e.1)),some (.v (jQ e.2)),x4] U')/\TB U' (cQ l e.1 b (jQ e.2)) (N+1):=by
 have zc:(cont l e.1).length < sizeLine:=i5 (by have:=h.cl e.1;omega);have z0:(0:Nat) < sizeLine:=i5 (by omega)
 have hl:l.length < 1000:=by have:=h.ln;omega
 have lt:=h.hd.lt
 have sb:∀(U':ac) (b:Nat),HD tC 0 U' (cQ l e.1 b (jQ e.2))->TB U' (cQ l e.1 b (jQ e.2)) (N+1):=fun U' b hh=>⟨hh,uv _ _ _ _ h.nk,by have:=uw e.1 b (jQ e.2) l;have:=h.ln;omega,fun k=>by
  rw [nr,zaD];have:=h.cl k;split
  ·simp;omega
  ·simp;omega⟩
 cases q:adr l e.1 with
 |some a =>
  have ga:=h.hd.adr q
  have g2:(U++[aq.lst []])[a]?=some (.lst (cont l e.1)):=by rw [zai (dG ga)];exact ga
  have hs:=Bm (fo:=af 1) (fk:=af 2) (O:=[x0,bC 0,some (.v (.key e.1)),some (.v (jQ e.2)),x4]) rfl rfl h.hd q hl;refine ⟨_,0,?_,sb _ 0 (h.hd.old h.nk q (jQ e.2) 0)⟩;push_cast [eD,hs,g2,zc]
 |none =>
  have hs:=Bn (fo:=af 1) (fk:=af 2) (O:=[x0,bC 0,some (.v (.key e.1)),some (.v (jQ e.2)),x4]) rfl rfl h.hd q hl
  have g2:((U++[aq.lst []]).set 0 (tC (kvs l++[(e.1,.p U.length)])))[U.length]?=some (.lst []):=by
   rw [zaz (by omega)];exact wI
  refine ⟨_,U.length,?_,sb _ _ (h.hd.new (mD.mp q) (jQ e.2))⟩;push_cast [eD,hs,g2,z0,za3]
theorem xJ (bt:Bool){x0 x4:Option R}:∀(es:List En) {U:ac} {l:Hl (Th)} {N:Nat} (x2 x3:Option R),TB U l N->N+es.length < 900 ->
  ∃U' l' y2 y3,dC (qX 2 (aN (b7 2) (aN (b7 3) eG))) (eD bt) (es.map c9) [x0,bC 0,x2,x3,x4] U=some (.nx [x0,bC 0,y2,y3,x4] U')/\TB U' l' (N+es.length) /\
   (∀x,cont l' x=cont l x++(es.filter fun e=>decide (e.1=x)).map fun e=>jQ e.2)/\(∀x,x∈l'.map (·.1) ↔ x∈l.map (·.1)\/x∈es.map (·.1))
 |[],U,l,N,x2,x3,h,_=>⟨U,l,x2,x3,rfl,h,fun x=>by simp,fun x=>by simp⟩
 |e::es,U,l,N,x2,x3,h,hN=>by
  rw [zaB] at hN;obtain ⟨U1,b,e1,h1⟩:=Ee bt (x0:=x0) (x4:=x4) (e:=e) h (by omega);obtain ⟨U2,l2,y2,y3,e2,h2,c2,k2⟩:=xJ bt (x0:=x0) (x4:=x4) es (some (.v (.key e.1))) (some (.v (jQ e.2))) h1 (by omega);refine ⟨U2,l2,y2,y3,?_,by rw [zaB,show N+(es.length+1)=N+1+es.length by omega];exact h2,fun x=>?_,fun x=>?_⟩
  ·rw [zaf,gr]
   have hg:qX 2 (aN (b7 2) (aN (b7 3) eG)) (.v (c9 e)) [x0,bC 0,x2,x3,x4] U=some ([x0,bC 0,some (.v (.key e.1)),some (.v (jQ e.2)),x4],U):=rfl;rw [hg,qz,e1,uI];exact e2
  ·rw [c2,nr,zbb,zbN]
   by_cases z:e.1=x <;> simp [z]
  ·rw [k2,lC,zaf,zak,or_assoc]
abbrev fE (bt:Bool):FE:=du (ae (af 0) (ae (aL dk 1 (ae (bP (Da (af 1) (af 0))) ak)) ak))
theorem u6 (bt:Bool){l:Hl (Th)}(F:List Int->Pl)(hnd:(0::l.map fun p=>p.2.1).Nodup)(nk:(l.map (·.1)).Nodup):∀(rows:Ta) (U:ac) (x0:Option R),rows.Nodup->(∀r∈rows,dk [.fl (cont l r)]=some (jQ (F r)))->U[0]?=some (tC (kvs l))->(∀r∈rows,∃a,adr l r=some a/\U[a]?=some (.lst (cont l r))) ->
  ∃U',cx (b7 0) jo (fE bt) (rows.map D.key) [x0,bC 0] U=some (rows.map fun r=>c9 (r,F r),U')
 |[],U,x0,_,_,_,_=>⟨U,rfl⟩
 |r::rows,U,x0,hr,hF,h0,hc=>by
  obtain ⟨n1,n2⟩:=zaL.mp hr;obtain ⟨a,ea,ga⟩:=hc r zan
  have a0:a≠0:=fun z=>by
   subst z;exact (zaL.mp hnd).1 (zaJ.mpr ⟨_,jy ea,rfl⟩)
  have hF0:=hF r zan
  obtain ⟨U',e⟩:=u6 bt F hnd nk rows (U.set a (.fz (cont l r))) (some (.v (.key r))) n2 (fun x hx=>hF x (zaj _ hx)) (by rw [zaz a0];exact h0) (fun x hx=>by
   obtain ⟨b,eb,gb⟩:=hc x (zaj _ hx);refine ⟨b,eb,?_⟩
   have:a≠b:=fun z=>by
    subst z;have m1:=jy ea;have m2:=jy eb;obtain ⟨i,hi,e1⟩:=zbf m1;obtain ⟨j,hj,e2⟩:=zbf m2;have hij:i=j:=(zbK (xs:=l.map fun p=>p.2.1) (h₀:=by simpa using hi) (h₁:=by simpa using hj) (zaL.mp hnd).2).mp (by rw [zb0,zb0,e1,e2]);subst hij;rw [e1] at e2;exact n1 (by have:=congrArg Prod.fst e2;simp only at this;rw [this];exact hx)
   rw [zaz this];exact gb)
  refine ⟨U',?_⟩;have hv:=rO r l;rw [ea,zbp] at hv;rw [zaf,cx];push_cast [zar,h0,tC,hv,ga,hF0,e]
theorem kg {Z:Type}{c:FT}{f:FE}{U:ac}{rest:Lo}(e out:Z->D)(p:Z->Bool):∀(xs:List Z) (x0:Option R),(∀a∈xs,c (some (.v (e a))::rest) U=some (p a,U))->(∀a∈xs,p a=true->f (some (.v (e a))::rest) U=some (.v (out a),U))->cx (b7 0) c f (xs.map e) (x0::rest) U=some ((xs.filter p).map out,U)
 |[],_,_,_=>rfl
 |a::xs,x0,h,h'=>by
  have h1:=h a zan;have ih:=kg e out p xs (some (.v (e a))) (fun b hb=>h b (zaj _ hb)) (fun b hb=>h' b (zaj _ hb))
  cases hp:p a with
  |true =>
   have h2:=h' a zan hp;simp only [zaf,cx,b7,zcv,zar,h1,hp,if_true,h2,ih,zbN]
  |false=>simp only [zaf,cx,b7,zcv,zar,h1,hp,zas,if_false,ih,zbN]
abbrev CB (T:List En):aq:=.lst (T.map c9)
abbrev Oc:D:=.tup [.tup [.bl false,.tup []],.tup []]
theorem Kf:dL 60 Oc=true:=rfl
abbrev vK:Pl:=(NO,[])
def Lp (e:En):Bool:=!decide (e.2=vK)
def K6 (p:Pl):iO (jQ p) Oc=decide (p=vK) :=
 (N5 p.1 NO p.2 []).trans (decide_eq_decide.mpr ⟨fun h=>Prod.ext h.1 h.2,fun h=>by rw [h];exact ⟨rfl,rfl⟩⟩)
abbrev jV (p:Pl)(t d:Int):Bool:=vH (ra p.1 p.2 t) d
theorem CG (t d:Int):jV vK t d=false:=rfl
theorem Cn (p:Pl):dk [.fl [jQ p]]=some (jQ p):=rfl
theorem lJ {Z β:Type}[DecidableEq β]{f:Z->β}:∀{es:List Z} {e:Z},(es.map f).Nodup->e∈es->(es.filter fun x=>decide (f x=f e))=[e]
 |[],_,_,h=>nomatch h
 |x::es,e,nd,h=>by
  obtain ⟨n1,n2⟩:=zaL.mp nd;rcases zak.mp h with rfl|h
  ·rw [zbJ (by simp)];congr 1;refine zcd.mpr fun y hy=>?_;simp only [decide_eq_true_eq];exact fun z=>n1 (z ▸ za1 hy)
  ·rw [zb3 (by simp only [decide_eq_true_eq];exact fun z=>n1 (z ▸ za1 h))];exact lJ n2 h
def A5 (bt:Bool){w:Nat}{es:List En}(hn:es.length<=40)(nd:(es.map (·.1)).Nodup)(hrw:∀e∈es,e.1.length=w):∃T:List En,gK bt [.fl (es.map c9)]=some (.lst (T.map c9))/\DT (T.map (·.1))/\∀e,e∈T ↔ e∈es/\e.2≠vK:=by
 rw [vQ];obtain ⟨U,l,y2,y3,e,tb,c,k⟩:=xJ bt (x0:=some (.v (.fl (es.map c9)))) (x4:=none) es (U:=[.dtr []]) (l:=[]) (N:=0) none none ⟨⟨rfl,by simp,fun _ h=>nomatch h⟩,by simp,by simp,fun k=>by simp [cont]⟩ (by omega);have k':∀x,x∈l.map (·.1) ↔ x∈es.map (·.1):=fun x=>by rw [k];simp
 have kl:l.length<=40:=by have:=ja (l.map (·.1)) (es.map (·.1)) tb.nk fun x hx=>(k' x).mp hx;rw [zag,zag] at this;omega
 have hF':∃F:List Int->Pl,∀e∈es,F e.1=e.2:=by
  have h:∀r,∃p:Pl,∀e∈es,e.1=r->e.2=p:=fun r=>by
   by_cases hr:∃e∈es,e.1=r
   ·obtain ⟨e,he,rfl⟩:=hr;refine ⟨e.2,fun x hx hz=>?_⟩;have h1:=lJ nd he;have h2:x∈es.filter fun y=>decide (y.1=e.1):=zbz.mpr ⟨hx,by simpa using hz⟩;rw [h1] at h2;rw [zau.mp h2]
   ·exact ⟨vK,fun e he hz=>absurd ⟨e,he,hz⟩ hr⟩
  exact ⟨fun r=>Classical.choose (h r),fun e he=>(Classical.choose_spec (h e.1) e he rfl).symm⟩
 obtain ⟨F,hF⟩:=hF';have hc:∀e∈es,cont l e.1=[jQ e.2]:=fun e he=>by
  rw [c]
  show []++_=_
  rw [za3,lJ nd he];rfl
 have rnd:(br (l.map (·.1))).Nodup:=(bI _).nodup_iff.mpr tb.nk;have rm:∀r,r∈br (l.map (·.1)) ↔ r∈es.map (·.1):=fun r=>by rw [(bI _).mem_iff];exact k' r
 have hA:∀r∈br (l.map (·.1)),dk [.fl (cont l r)]=some (jQ (F r)):=fun r hr=>by obtain ⟨e,he,rfl⟩:=zaJ.mp ((rm r).mp hr);rw [hc e he,hF e he];exact Cn _
 have few:(kvs l).length < 64/\((kvs l).length < 2\/∀p∈kvs l,p.1≠[]):=by
  refine ⟨by rw [zag];omega,?_⟩;have hw:∀x∈l.map (·.1),x.length=w:=fun x hx=>by obtain ⟨e,he,rfl⟩:=zaJ.mp ((k' x).mp hx);exact hrw e he
  by_cases z:w=0
  ·refine .inl ?_;have:=ja (l.map (·.1)) [[]] tb.nk fun x hx=>by
    have:=hw x hx;rw [z] at this
    rw [zbI.mp this];exact zan
   rw [zag] at this ⊢;simp at this;omega
  ·refine .inr fun p hp e=>?_;obtain ⟨q,hq,rfl⟩:=zaJ.mp hp;have:=hw q.1 (za1 hq);simp only at e;rw [e] at this
   simp at this;omega
 have g0:(U++[aq.fz ((br (l.map (·.1))).map D.key)])[0]?=some (tC (kvs l)):=by rw [zai tb.hd.lt];exact tb.hd.dict
 obtain ⟨U2,ce⟩:=u6 bt F tb.hd.nd tb.nk (br (l.map (·.1))) (U++[aq.fz ((br (l.map (·.1))).map D.key)]) none rnd hA g0 (fun r hr=>by
  cases q:adr l r with
  |none=>exact absurd ((bI _).mem_iff.mp hr) (mD.mp q)
  |some a=>exact ⟨a,rfl,by have:=tb.hd.adr q;rw [zai (dG this)];exact this⟩)
 have rl:(br (l.map (·.1))).length<=40:=by rw [(bI _).length_eq,zag];exact kl
 refine ⟨((br (l.map (·.1))).map fun r=>(r,F r)).filter Lp,?_,?_⟩
 ·have z1:(br (l.map (·.1))).length<=sizeLine:=eA (by omega);have cf:∀U:ac,cx (b7 0) (fB (ar (fS true) (ar bh (af 0) (fK (.int 1))) (fK (.tup [(.tup [(.bl false),(.tup [])]),(.tup [])])))) (af 0) ((br (l.map (·.1))).map fun r=>c9 (r,F r)) [none] U=some ((((br (l.map (·.1))).map fun r=>(r,F r)).filter Lp).map c9,U):=fun U=>by
   have:=kg (c:=fB (ar (fS true) (ar bh (af 0) (fK (.int 1))) (fK Oc))) (f:=af 0) (U:=U) (rest:=[]) c9 c9 Lp ((br (l.map (·.1))).map fun r=>(r,F r)) none (fun e _=>by push_cast [Nb,Kf,K6,Lp]) (fun e _ _=>by push_cast [HW.Bc])
   rw [zbj] at this
   exact this
  have km:(kvs l).map (·.1)=l.map (·.1):=by unfold kvs;rw [zbj];rfl
  have lk:(U++[aq.lst ((br (l.map (·.1))).map D.key)])[U.length]?=some (.lst ((br (l.map (·.1))).map D.key)):=wI;have hd0:U[0]?=some (.dtr (kvs l)):=tb.hd.dict;have sr:qJ [.p 0] U=some (.p U.length,U++[.lst ((br (l.map (·.1))).map D.key)]):=by rw [Lr,hd0,Pa,zar,if_pos few,km]
  have lk2:(U2++[aq.lst ((br (l.map (·.1))).map fun r=>c9 (r,F r))])[U2.length]?=some (.lst ((br (l.map (·.1))).map fun r=>c9 (r,F r))):=wI;push_cast [lO,e,sr,lk,iG,zag,z1,ce,lk2,cf,wI]
 ·refine ⟨?_,fun e=>?_⟩
  ·have h1:=jT tb.nk;have h2:((br (l.map (·.1))).map fun r=>(r,F r)).Pairwise fun x y=>HT2.jD x.1 y.1=true:=zbR.mpr h1;exact zbR.mpr (h2.sublist List.filter_sublist)
  ·rw [zbz,zaJ];constructor
   ·rintro ⟨⟨r,hr,rfl⟩,h2⟩;obtain ⟨e,he,rfl⟩:=zaJ.mp ((rm r).mp hr);rw [hF e he] at h2 ⊢;exact ⟨he,by simpa [Lp] using h2⟩
   ·rintro ⟨he,h2⟩;exact ⟨⟨e.1,(rm e.1).mpr (za1 he),by rw [hF e he]⟩,by simpa [Lp] using h2⟩
end LW
namespace HW
open L2
abbrev Tx (l:List Nat):Str:=⟨l.toArray⟩
def lj {l:List Nat}:(Tx l).length=l.length:=by simp [Str.length]
def LC {l r:List Nat}:(Tx l == Tx r)=(l == r):=by rw [Bool.eq_iff_iff,beq_iff_eq,beq_iff_eq];exact ⟨fun e=>by injection e with e;injection e,fun e=>by rw [e]⟩
section
variable {O:Lo}{U:ac}{a b l:List Nat}{c:Nat}{i:Int}{x:R}
def Bd:cO (.v (.str (Tx a))) (.v (.str (Tx b))) U=if a.length+b.length<=sizeLine then some (.v (.str (Tx (a++b))),U) else none:=by
 show (if (Tx a).length+(Tx b).length<=sizeLine then some (R.v (.str (Tx a++Tx b)),U) else none)=_
 rw [lj,lj];have:Tx a++Tx b=Tx (a++b):=by show Str.append _ _=_;simp [Str.append]
 rw [this]
theorem Hm (h:0<=i)(hl:l.length < 2 ^ 63)(hc:l[i.toNat]?=some c):HQ (.v (.str (Tx l))) (.v (.int i)) U=some (.v (.str (Tx [c])),U):=by
 have hi:=(zat.mp hc).1;have e:(Tx l).cps[i.toNat]?=some c:=by simpa using hc
 unfold HQ;dsimp only;rw [if_pos ⟨h,by omega,by rw [lj];omega⟩,e];rfl
def IL (h:l.length<=sizeLine):zO [.v (.str (Tx l))] U=some (.v (.int l.length),U):=by unfold zO;dsimp only;rw [lj,if_pos h]
def GP (o:Option (R×ac))(fl fh:FO)(O:Lo):Option (R×ac):=o.bind fun a=>(fl O a.2).bind fun l=>(fh O l.2).bind fun h=>Bi a.1 l.1 h.1 h.2
def GO (x:R)(o:Option (Option Int×ac))(fh:FO)(O:Lo):Option (R×ac):=o.bind fun l=>(fh O l.2).bind fun h=>Bi x l.1 h.1 h.2
def GN (x:R)(l:Option Int)(o:Option (Option Int×ac)):Option (R×ac):=o.bind fun h=>Bi x l h.1 h.2
theorem Mr {fa fl fh}:Db fa fl fh O U=GP (fa O U) fl fh O:=rfl
theorem IJ {fl fh}:GP (some (x,U)) fl fh O=GO x (fl O U) fh O:=rfl
theorem II {fh}{l:Option Int}:GO x (some (l,U)) fh O=GN x l (fh O U):=rfl
theorem IH {l h:Option Int}:GN x l (some (h,U))=Bi x l h U:=rfl
def Ep (l:List Nat)(n:Nat)(h:n<=l.length):Txt.slice (Tx l) (some (n:Int)) none=Tx (l.drop n):=by have:=PySem.StrLaws.sliceText_from (x:=Tx l) (i:=n) (by simpa using h);refine Eq.trans (show Txt.slice (Tx l) (some (n:Int)) none=PySem.StrLaws.sliceText (Tx l) (some (n:Int)) none from rfl) (this.trans ?_);simp only [Tx,zby];congr 2;exact List.take_of_length_le (by simp)
def Mv (l:List Nat)(n:Nat)(h:n<=l.length):Txt.slice (Tx l) none (some (n:Int))=Tx (l.take n):=by have:=PySem.StrLaws.sliceText_to (x:=Tx l) (j:=n) (by simpa using h);refine Eq.trans (show Txt.slice (Tx l) none (some (n:Int))=PySem.StrLaws.sliceText (Tx l) none (some (n:Int)) from rfl) (this.trans ?_);simp [Tx]
def Eg {n:Nat}(h:n<=l.length)(hl:l.length<=sizeLine):Bi (.v (.str (Tx l))) (some (n:Int)) none U=some (.v (.str (Tx (l.drop n))),U):=by unfold Bi;dsimp only;rw [lj,if_pos hl,Ep l n h]
def Mq {n:Nat}(h:n<=l.length)(hl:l.length<=sizeLine):Bi (.v (.str (Tx l))) none (some (n:Int)) U=some (.v (.str (Tx (l.take n))),U):=by unfold Bi;dsimp only;rw [lj,if_pos hl,Mv l n h]
def Ms {n:Nat}(h:∀c∈l,c < 1114112):dL n (.str (Tx l))=true:=by cases n <;> (show PyData.strOk (Tx l)=true;unfold PyData.strOk;simpa using h)
end
end HW
namespace LW
open HW
def dw (i:Int){j:Int}(h:0 < j):0<=i % j/\i % j < j:=⟨zc7 _ (by omega),zcW _ h⟩
def yp {cs:List aq}{c:aq}:(cs++[c])[cs.length]?=some c:=by simp
def gY (c k:Int)(hk:0<=k/\k < 1000):∃n:Int,aR [.int c,.int k]=some (.int n)/\0<=n/\n < 2147483629:=by have b1:=dw c (j:=2147483629) (by decide);have b2:=dw ((c % 2147483629+1) * 1103515245) (j:=2147483629) (by decide);obtain ⟨x,hx⟩:∃x,x=(c % 2147483629+1) * 1103515245 % 2147483629:=⟨_,rfl⟩;have b3:=dw (x * x+k * 69621+12345) (j:=2147483587) (by decide);refine ⟨_,?_,dw (((x * x+k * 69621+12345) % 2147483587) * ((x * x+k * 69621+12345) % 2147483587)) (j:=2147483629) (by decide)⟩;rw [vU];push_cast [lR,pT (i:=c) (j:=2147483629) (by decide),jk (i:=c % 2147483629+1) (j:=1103515245) (by omega),pT (i:=(c % 2147483629+1) * 1103515245) (j:=2147483629) (by decide),←hx,jk (i:=x) (j:=x) (by omega),jk (i:=k) (j:=69621) (by omega),pT (i:=x * x+k * 69621+12345) (j:=2147483587) (by decide),jk (i:=(x * x+k * 69621+12345) % 2147483587) (j:=(x * x+k * 69621+12345) % 2147483587) (by omega),pT (j:=2147483629) (by decide)]
theorem vb:∀(g:Rc) (l:List (Int×Rc)) (p:Int×Rc),O9 g l->p.2≠lst g l->O9 g (l++[p])
 |_,[],_,_,h=>⟨h,trivial⟩
 |_,q::l,p,hd,h=>⟨hd.1,vb q.2 l p hd.2 h⟩
abbrev bN (r:Th):D:=.tup (r.map .int)
abbrev Lj (e:En):D:=.tup [bN e.1,jQ e.2]
theorem gC:∀l:Th,unkDs (l.map D.int)=l.map .int
 |[]=>by simp only [za6,unkDs]
 |i::l=>by simp only [zaf,unkDs,eh,gC l]
def Iu (r:Rc):eh (rD r)=rD r:=by simp only [eh,unkDs,gC]
theorem xz:∀qs:List (Int×Rc),unkDs (qs.map sD)=qs.map sD
 |[]=>by simp only [za6,unkDs]
 |q::qs=>by simp only [zaf,unkDs,eh,Iu,xz qs,gC]
def Iv (e:En):eh (c9 e)=Lj e:=by simp only [c9,eh,unkDs,gC,xz]
theorem xA:∀es:List En,unkDs (es.map c9)=es.map Lj
 |[]=>by simp only [za6,unkDs]
 |e::es=>by rw [zaf,unkDs,Iv,xA es];rfl
def oD:Option Int->D
 |none=>.non
 |some i=>.int i
def st:Option Int->Option Int->Rc
 |none,none=>(true,[])
 |none,some h=>(true,[h])
 |some l,none=>(false,[l])
 |some l,some h=>(false,[l,h])
def Ab (lo hi:Option Int)(d:Int):Bool:=(match lo with|none=>true|some l=>decide (l<=d)) && (match hi with|none=>true|some h=>decide (d < h))
theorem o0 {lo hi:Option Int}(h:∀l r,lo=some l->hi=some r->l < r):cK [oD lo,oD hi]=some (rD (st lo hi)):=by
 rw [rR]
 cases lo with
 |none=>cases hi <;> rfl
 |some l =>
  cases hi with
  |none=>rfl
  |some r =>
   have:=h l r rfl rfl;have hz:decide (r<=l)=false:=zay (by omega);push_cast [jq,oD,hz,uT,st,rD,zaf,za6]
theorem Hn {lo hi:Option Int}(h:∀l r,lo=some l->hi=some r->l < r):(st lo hi).2.Pairwise (· < ·):=by cases lo <;> cases hi <;> simp [st];exact h _ _ rfl rfl
theorem CD {lo hi:Option Int}(h:∀l r,lo=some l->hi=some r->l < r)(d:Int):vH (st lo hi) d=Ab lo hi d:=by
 cases lo with
 |none =>
  cases hi with
  |none=>rfl
  |some r =>
   show (if d < r then true else !true)=(true && decide (d < r))
   by_cases c:d < r <;> simp [c]
 |some l =>
  cases hi with
  |none =>
   show (if d < l then false else !false)=(decide (l<=d) && true)
   by_cases c:d < l
   ·have:¬ l<=d:=by omega
    simp [c,this]
   ·have:l<=d:=by omega
    simp [c,this]
  |some r =>
   have:=h l r rfl rfl
   show (if d < l then false else if d < r then !false else !(!false))=(decide (l<=d) && decide (d < r))
   by_cases c:d < l
   ·have:¬ l<=d:=by omega
    simp [c,this]
   ·have h1:l<=d:=by omega
    by_cases e:d < r <;> simp [c,e,h1]
theorem uH:∀(g:Rc) (qs:List (Int×Rc)) (q:Int×Rc),qs.getLast?=some q->lst g qs=q.2
 |_,[],_,h=>by cases h
 |_,[p],q,h=>by cases h;rfl
 |_,p::p'::qs,q,h=>uH p.2 (p'::qs) q (by simpa using h)
def yS {Z:Type}(f:Z->D)(xs:List Z)(x:Z)(h:xs.getLast?=some x):L2.mI (xs.map f) (-1)=some (f x):=by
 have hne:xs≠[]:=fun z=>by rw [z] at h;cases h
 have hp:=zcO.mpr hne;have h1:(xs.map f)[(xs.length - 1)]?=some (f x):=by rw [zaE,←List.getLast?_eq_getElem?,h];rfl
 have h2:L2.D0 (xs.map f).length (-1)=some (xs.length - 1):=by unfold L2.D0;rw [zag,if_neg (by omega),if_pos (by omega)];congr 1;omega
 unfold L2.mI;rw [h2];exact h1
theorem yt (p:Pl):cM [jQ p]=some (rD (lst p.1 p.2)):=by
 obtain ⟨g,qs⟩:=p;rw [rV]
 cases hq:qs.getLast? with
 |none =>
  have:qs=[]:=List.getLast?_eq_none_iff.mp hq;subst this;rfl
 |some q =>
  have h1:=yS sD qs q hq;have hne:qs≠[]:=fun z=>by rw [z] at hq;cases hq
  have h2:(qs.map sD).isEmpty=false:=by
   cases qs with
   |nil=>exact absurd rfl hne
   |cons _ _=>rfl
  push_cast [jw,pD,h2,h1,sD,uH g qs q hq,zbW]
def DY (p:Pl)(t:Int)(r:Rc):Pl:=if r=lst p.1 p.2 then p else (p.1,p.2++[(t,r)])
def v9 (p:Pl)(t:Int)(r:Rc)(hn:p.2.length < 2000):iM [jQ p,.int t,rD r]=some (jQ (DY p t r)):=by
 have hl:=yt p;obtain ⟨g,qs⟩:=p;have hn:qs.length < 2000:=hn;rw [yZ];unfold DY;by_cases c:r=lst g qs
 ·have c':decide (r=lst g qs)=true:=zaK c;rw [if_pos c];push_cast [kR,hl,HL,yK,c']
 ·have c':decide (r=lst g qs)=false:=zay c;rw [if_neg c];have z:(qs.map sD).length+1<=sizeLine:=eA (by rw [zag];omega);push_cast [kR,hl,HL,yK,c',pD,Mp,z,zaR];simp only [jQ,pD,zaR,zaf,za6,sD]
theorem wt:∀(g:Rc) (qs:List (Int×Rc)) (t:Int),Up qs->(∀q∈qs,q.1<=t)->ra g qs t=lst g qs
 |_,[],_,_,_=>rfl
 |g,q::qs,t,hu,h=>by have:=h q zan;rw [ra,if_neg (by omega)];exact wt q.2 qs t (zaM.mp hu).2 fun x hx=>h x (zaj _ hx)
theorem xS:∀(g:Rc) (qs:List (Int×Rc)) (a:Int) (r:Rc) (t:Int),(∀q∈qs,q.1 < a)->ra g (qs++[(a,r)]) t=if t < a then ra g qs t else r
 |g,[],a,r,t,_=>rfl
 |g,q::qs,a,r,t,h=>by
  have h1:=h q zan;rw [zbZ,ra,ra,xS q.2 qs a r t fun x hx=>h x (zaj _ hx)];by_cases c:t < q.1
  ·rw [if_pos c,if_pos c,if_pos (by omega)]
  ·rw [if_neg c,if_neg c]
def Ei {p:Pl}{a:Int}{r:Rc}(hp:Pf p.1 p.2)(h:∀q∈p.2,q.1 < a)(t d:Int):vH (ra (DY p a r).1 (DY p a r).2 t) d=if t < a then vH (ra p.1 p.2 t) d else vH r d:=by
 unfold DY;by_cases c:r=lst p.1 p.2
 ·rw [if_pos c];by_cases z:t < a
  ·rw [if_pos z]
  ·rw [if_neg z,wt p.1 p.2 t hp.up fun q hq=>by have:=h q hq;omega,c]
 ·rw [if_neg c]
  show vH (ra p.1 (p.2++[(a,r)]) t) d=_
  rw [xS p.1 p.2 a r t h];by_cases z:t < a
  ·rw [if_pos z,if_pos z]
  ·rw [if_neg z,if_neg z]
def IM {ES TS:Th}{p:Pl}{a:Int}{r:Rc}(hp:BP ES TS p)(h:∀q∈p.2,q.1 < a)(hr:r.2.Pairwise (· < ·))(he:∀e∈r.2,e∈ES)(ha:a∈TS):BP ES TS (DY p a r):=by
 unfold DY;by_cases c:r=lst p.1 p.2
 ·rw [if_pos c];exact hp
 ·rw [if_neg c];have sp:∀q∈p.2++[(a,r)],q∈p.2\/q=(a,r):=fun q hq=>by
   rcases zaU.mp hq with z|z
   ·exact .inl z
   ·exact .inr (zau.mp z)
  refine ⟨⟨hp.pf.gu,?_,vb p.1 p.2 _ hp.pf.dif c,fun q hq=>?_⟩,hp.ge,fun q hq=>?_,fun q hq=>?_⟩
  ·exact List.pairwise_append.mpr ⟨hp.pf.up,zcy _ _,fun x hx y hy=>by rw [zau.mp hy];exact h x hx⟩
  ·rcases sp q hq with z|rfl
   ·exact hp.pf.ru q z
   ·exact hr
  ·rcases sp q hq with z|rfl
   ·exact hp.re q z
   ·exact he
  ·rcases sp q hq with z|rfl
   ·exact hp.te q z
   ·exact ha
theorem kJ:∀(es:Th) (b:Bool) (d:Int),es.Pairwise (· < ·)->jW (b,es) d=lv b es d
 |[],b,d,_=>by simp [jW,tG,lv]
 |e::es,b,d,h=>by
  obtain ⟨h1,h2⟩:=zaM.mp h;have ih:=kJ es (!b) d h2;rw [lv];by_cases c:d < e
  ·rw [if_pos c];have:((e::es).filter fun x=>decide (x<=d))=[]:=zcd.mpr fun x hx=>by
    rcases zak.mp hx with rfl|hx
    ·simp;omega
    ·have:=h1 x hx;simp;omega
   simp [jW,tG,this]
  ·rw [if_neg c,←ih];have:((e::es).filter fun x=>decide (x<=d))=e::es.filter fun x=>decide (x<=d):=zbJ (by simp;omega);have c1:tG (b,e::es) d=tG (!b,es) d+1:=by unfold tG;rw [this];rfl
   show (if tG (b,e::es) d % 2=0 then b else !b)=if tG (!b,es) d % 2=0 then !b else !!b
   rw [c1];generalize tG (!b,es) d=n;by_cases z:n % 2=0
   ·rw [if_neg (by omega),if_pos z]
   ·rw [if_pos (by omega),if_neg z,Bool.not_not]
def Ni (w:Bool->Bool->Bool)(r s:Rc)(hr:r.2.Pairwise (· < ·))(hs:s.2.Pairwise (· < ·))(d:Int):vH (W w r s) d=w (vH r d) (vH s d):=by have h:=Py w r s hr hs d;rw [show jW (W w r s) d=vH (W w r s) d from kJ _ _ d (Oa w r s),show jW r d=vH r d from kJ _ _ d hr,show jW s d=vH s d from kJ _ _ d hs] at h;exact h
abbrev Pc (a b:Bool):Bool:=a || b
abbrev Pb (a b:Bool):Bool:=a && !b
def k1:dL 60 (.str "both")=true:=by decide
def k2:dL 60 (.str "either")=true:=by decide
def k3:dL 60 (.str "less")=true:=by decide
def RW:iO (.str "either") (.str "both")=false:=by decide
def RV:iO (.str "either") (.str "either")=true:=by decide
def RU:iO (.str "less") (.str "both")=false:=by decide
def RT:iO (.str "less") (.str "either")=false:=by decide
def RS:iO (.str "less") (.str "less")=true:=by decide
def LF (x y:Bool):bH [.str "either",.bl x,.bl y]=some (.bl (Pc x y)):=by rw [oQ];cases x <;> push_cast [jp,k1,k2,RW,RV,Pc,Bool.true_or,Bool.false_or]
def GH (x y:Bool):bH [.str "less",.bl x,.bl y]=some (.bl (Pb x y)):=by rw [oQ];cases x <;> push_cast [jp,k1,k2,k3,RU,RT,RS,Pb,zcB,zcw]
def q5:iO (.str "tell") (.str "tell")=true:=by decide
def q6:iO (.str "strike") (.str "tell")=false:=by decide
def k5:dL 60 (.str "tell")=true:=by decide
def k6:dL 60 (.str "strike")=true:=by decide
structure Tl where
 tl:Bool
 said:Th
 lo:Option Int
 hi:Option Int
 nm:Str
abbrev c8 (x:Tl):D:=.key x.said
abbrev bW (x:Tl):D:=.tup [.str (if x.tl=true then "tell" else "strike"),.str x.nm,c8 x,oD x.lo,oD x.hi]
abbrev nF (x:Tl):D:=.tup [.str (if x.tl=true then "tell" else "strike"),.str x.nm,.tup (x.said.map .int),oD x.lo,oD x.hi]
abbrev Tl.Ok (x:Tl):Prop:=∀l r,x.lo=some l->x.hi=some r->l < r
def AE (x:Tl)(row:Th):Bool->Bool->Bool:=if x.tl=true/\row=x.said then Pc else Pb
def ir (x:Tl)(keys:Nat)(a:Int)(e:En):En:=if e.1.take keys=x.said.take keys then (e.1,DY e.2 a (W (AE x e.1) (lst e.2.1 e.2.2) (st x.lo x.hi))) else e
def xI (x:Tl):bU [bW x]=some (.bl x.tl):=by
 rw [qE];obtain ⟨b,s,lo,hi,nm⟩:=x;cases b
 ·push_cast [gB,zas,if_false,k5,k6,q6]
 ·push_cast [gB,if_true,k5,q5]
theorem pZ (r:Th)(k:Nat):mz (r.map D.int) none (some (k:Int))=(r.take k).map .int:=by
 unfold mz;have h1:HT.cP (r.map D.int).length 0 none=0:=rfl;have h2:HT.cP (r.map D.int).length (r.map D.int).length (some (k:Int))=min k (r.map D.int).length:=by exact HT.xP _ _ _
 rw [h1,h2,List.drop_zero,Nat.sub_zero,List.map_take,List.take_eq_take_iff.mpr];simp
theorem rQ (r:Th):oP (.v (.key r))=.v (.tup (r.map .int)):=rfl
def AL (l:Th):oP (.v (.tup (l.map .int)))=.v (.tup (l.map .int)):=by show R.v (.tup (unkDs (l.map .int)))=_;rw [gC]
theorem Dt {x y:R}{a b:Th}(hx:oP x=.v (.tup (a.map .int)))(hy:oP y=.v (.tup (b.map .int)))(U:ac):D2 false x y U=some (.v (.bl (decide (a=b))),U):=by
 have o:∀l:Th,dL 60 (.tup (l.map .int))=true:=fun l=>ip (gq l);have q:iO (.tup (a.map .int)) (.tup (b.map .int))=decide (a=b):=by simp only [iO];exact kO a b
 unfold D2;rw [hx,hy]
 show ((if (dL 60 (.tup (a.map .int)) && dL 60 (.tup (b.map .int)))=true then some (R.v (.bl (iO (.tup (a.map .int)) (.tup (b.map .int)))),yX U) else none).bind fun r=>some (r.1,U))=_
 rw [o,o,q];rfl
def Ds (a b:Th)(U:ac):D2 false (.v (.tup (a.map .int))) (.v (.tup (b.map .int))) U=some (.v (.bl (decide (a=b))),U):=Dt (AL a) (AL b) U
def Dr (a b:Th)(U:ac):D2 false (.v (.key a)) (.v (.key b)) U=some (.v (.bl (decide (a=b))),U):=Dt (rQ a) (rQ b) U
theorem rP (x:Tl):oP (.v (c8 x))=.v (.tup (x.said.map .int)):=rfl
section
variable {ES TS:Th}
theorem Cs (bt:Bool){x:Tl}(ho:x.Ok){keys:Nat}{a:Int}{e:En}(hp:BP ES TS e.2)(hE:ES.length<=18)(hT:TS.length<=60){x0 x6 x8 x9 x10:Option R}{kvs:List (Th×D)}{acc:List En}(hn:acc.length < 100) :
  ∃y10,d9 bt [x0,bv ((keys:Int)),some (.v (bW x)),bv a,some (.v (c8 x)),some (.v (rD (st x.lo x.hi))),x6,bC 1,some (.v (.key e.1)),some (.v (jQ e.2)),x10] [.fzt kvs,.lst (acc.map c9)] =
   some (.nx [x0,bv ((keys:Int)),some (.v (bW x)),bv a,some (.v (c8 x)),some (.v (rD (st x.lo x.hi))),x6,bC 1,some (.v (.key e.1)),some (.v (jQ e.2)),y10] [.fzt kvs,.lst ((acc++[ir x keys a e]).map c9)]):=by
 have hb:=hp.pf.ru
 have hl:(lst e.2.1 e.2.2).2.length<=18/\(lst e.2.1 e.2.2).2.Pairwise (· < ·)/\∀z∈(lst e.2.1 e.2.2).2,z∈ES:=by
  have key:∀(g:Rc) (qs:List (Int×Rc)),lst g qs=g\/∃q∈qs,lst g qs=q.2:=fun g qs=>by
   induction qs generalizing g with
   |nil=>exact .inl rfl
   |cons q qs ih =>
    rcases ih q.2 with h|⟨x,hx,h⟩
    ·exact .inr ⟨q,zan,h⟩
    ·exact .inr ⟨x,zaj _ hx,h⟩
  have fin:∀r:Rc,r.2.Pairwise (· < ·)->(∀z∈r.2,z∈ES)->r.2.length<=18/\r.2.Pairwise (· < ·)/\∀z∈r.2,z∈ES:=fun r h1 h2 =>
   ⟨zbg (ja _ _ (xw h1) h2) hE,h1,h2⟩
  rcases key e.2.1 e.2.2 with h|⟨q,hq,h⟩ <;> rw [h]
  ·exact fin _ hp.pf.gu hp.ge
  ·exact fin _ (hp.pf.ru q hq) (hp.re q hq)
 have hs2:(st x.lo x.hi).2.length<=2:=by cases x.lo <;> cases x.hi <;> simp [st]
 have hpn:e.2.2.length < 2000:=by
  have:=ja (e.2.2.map (·.1)) TS (xw (zbR.mpr hp.pf.up)) fun z hz=>by obtain ⟨q,hq,rfl⟩:=zaJ.mp hz;exact hp.te q hq
  rw [zag] at this;omega
 have ha:(acc.map c9).length < sizeLine:=i5 (by rw [zag];omega);have t1:=xI x;have la:=yt e.2;have ct:=fun (r:Th)=>pZ r keys;have ek:=fun U:ac=>Ds (e.1.take keys) (x.said.take keys) U;unfold ir
 by_cases c:e.1.take keys=x.said.take keys
 ·have c':decide (e.1.take keys=x.said.take keys)=true:=zaK c
  rw [if_pos c]
  have wd:∃wd:Str,(∀u v:Bool,bH [.str wd,.bl u,.bl v]=some (.bl (AE x e.1 u v)))/\(FU (k8 (j5 (aL bU 1 (ae (bP (af 2)) ak))) (fB (ar (D2 false) (af 8) (af 4)))) (fK (.str "either")) (fK (.str "less")))
    [x0,bv ((keys:Int)),some (.v (bW x)),bv a,some (.v (c8 x)),some (.v (rD (st x.lo x.hi))),x6,bC 1,some (.v (.key e.1)),some (.v (jQ e.2)),x10] [.fzt kvs,.lst (acc.map c9)]=some (.v (.str wd),[.fzt kvs,.lst (acc.map c9)]):=by
   unfold AE
   cases htl:x.tl with
   |false =>
    refine ⟨"less",fun u v=>by rw [if_neg (by simp)];exact GH u v,?_⟩;rw [htl] at t1;push_cast [t1]
   |true =>
    rw [htl] at t1;have ek2:=fun U:ac=>Dr e.1 x.said U;have sd:c8 x=.key x.said:=rfl
    by_cases z:e.1=x.said
    ·refine ⟨"either",fun u v=>by rw [if_pos ⟨rfl,z⟩];exact LF u v,?_⟩
     rw [zaK z] at ek2;push_cast [t1,sd,ek2]
    ·refine ⟨"less",fun u v=>by rw [if_neg (fun q=>z q.2)];exact GH u v,?_⟩
     rw [zay z] at ek2;push_cast [t1,sd,ek2]
  obtain ⟨wd,hw,hif⟩:=wd;have bl:=Ge bt (AE x e.1) wd hw (lst e.2.1 e.2.2) (st x.lo x.hi) (by omega);have sp:=v9 e.2 a (W (AE x e.1) (lst e.2.1 e.2.2) (st x.lo x.hi)) hpn;refine ⟨some (.v (.str wd)),?_⟩;rw [c'] at ek;unfold d9;generalize FU (k8 (j5 (aL bU 1 (ae (bP (af 2)) ak))) (fB (ar (D2 false) (af 8) (af 4)))) (fK (.str "either")) (fK (.str "less"))=F at hif ⊢;push_cast [HZ,zar,rQ,rP,ct,ek,hif,la,bl,sp,ha,zaR]
 ·have c':decide (e.1.take keys=x.said.take keys)=false:=zay c
  rw [c'] at ek;rw [if_neg c];refine ⟨x10,?_⟩;push_cast [d9,HZ,zar,rQ,rP,ct,ek,ha,zaR]
end
theorem jS (x:Tl)(keys:Nat)(a:Int)(e:En):(ir x keys a e).1=e.1:=by unfold ir;split <;> rfl
abbrev qe (e:En):Th×D:=(e.1,jQ e.2)
theorem qQ:∀T:List En,jR (T.map c9)=some (T.map qe)
 |[]=>rfl
 |e::T=>by
  rw [zaf,zaf];unfold jR
  show (jR (T.map c9)).map _=_
  rw [qQ T];rfl
theorem pv:∀(T:List En) (k0:List (Th×D)),(k0.map (·.1)++T.map (·.1)).Nodup->kF k0 (T.map qe)=k0++T.map qe
 |[],k0,_=>by simp [kF]
 |e::T,k0,nd=>by
  have hn:¬ (k0.any fun p=>decide (p.1=e.1))=true:=fun z=>by obtain ⟨p,hp,h⟩:=zbX.mp z;have h:p.1=e.1:=(by simpa using h);exact (zbc.mp nd).2.2 p.1 (za1 hp) e.1 (by simp) h
  show kF (l7 k0 e.1 (jQ e.2)) (T.map qe)=_
  unfold l7;rw [if_neg hn,pv T _ (by simpa using nd)];simp
theorem rN (k:Th):∀T:List En,(nX (T.map qe) k=none ↔ k∉T.map (·.1))
 |[]=>by simp [nX]
 |e::T=>by
  have ih:=rN k T;unfold nX at ih ⊢;rw [zaf];by_cases z:e.1=k
  ·rw [zca (by simpa using z)];simp [z]
  ·rw [zcb (by simpa using z),ih];simp [Ne.symm z]
def cj (x:Tl)(T:List En):List En:=if x.tl=true/\x.said∉T.map (·.1) then T++[(x.said,vK)] else T
theorem pO:∀es:List En,flatDs (es.map c9)=true
 |[]=>rfl
 |e::es=>by
  have h1:cS (c9 e)=true:=by
   have:=FN e.2.1 e.2.2
   show flatDs [.key e.1,jQ e.2]=true
   simp only [flatDs,cS] at this ⊢;simpa using this
  rw [zaf,flatDs,h1,pO es];rfl
section
variable {ES TS:Th}{w:Nat}{T:List En}
theorem Eb (bt:Bool){x:Tl}(ho:x.Ok){keys:Nat}{a:Int}(hb:∀e∈T,BP ES TS e.2)(hE:ES.length<=18)(hT:TS.length<=60)(hr:∀e∈T,e.1.length=w)(hs:x.tl=true->x.said.length=w)(nd:(T.map (·.1)).Nodup)(hn:T.length<=39) :
  ∃A:List En,eT bt [.fl (T.map c9),.int (keys:Int),bW x,.int a]=some (.lst (A.map c9))/\DT (A.map (·.1))/\∀e,e∈A ↔ e∈(cj x T).map (ir x keys a)/\e.2≠vK:=by
 have n0:BP ES TS vK:=⟨⟨.nil,.nil,trivial,fun _ h=>nomatch h⟩,(fun _ h=>nomatch h),(fun _ h=>nomatch h),fun _ h=>nomatch h⟩
 have eb:∀e∈cj x T,BP ES TS e.2/\e.1.length=w:=fun e he=>by
  unfold cj at he;split at he
  ·rename_i c
   rcases zaU.mp he with h|h
   ·exact ⟨hb e h,hr e h⟩
   ·rw [zau.mp h];exact ⟨n0,hs c.1⟩
  ·exact ⟨hb e he,hr e he⟩
 have en:((cj x T).map (·.1)).Nodup:=by
  unfold cj;split
  ·rename_i c
   rw [zaR,zbc]
   exact ⟨nd,by simp,fun p hp q hq=>by
    have hq:q=x.said:=by simpa using hq
    rw [hq];rintro rfl;exact c.2 hp⟩
  ·exact nd
 have el:(cj x T).length<=40:=by
  unfold cj;split
  ·rw [zaD];simp;omega
  ·omega
 obtain ⟨A,hA,hu,hm⟩:=A5 bt (w:=w) (es:=(cj x T).map (ir x keys a)) (by rw [zag];omega) (by rw [zbj,show ((fun e:En=>e.1) ∘ ir x keys a)=fun e=>e.1 from funext fun e=>jS x keys a e];exact en) (fun e he=>by
  obtain ⟨y,hy,rfl⟩:=zaJ.mp he
  rw [jS];exact (eb y hy).2)
 refine ⟨A,?_,hu,hm⟩;rw [yY];have se:=o0 ho;have t1:=xI x;have ix2:∀U:ac,bh (.v (bW x)) (.v (.int 2)) U=some (.v (c8 x),U):=fun U=>rfl;have ix3:∀U:ac,bh (.v (bW x)) (.v (.int 3)) U=some (.v (oD x.lo),U):=fun U=>rfl;have ix4:∀U:ac,bh (.v (bW x)) (.v (.int 4)) U=some (.v (oD x.hi),U):=fun U=>rfl
 have dt:rk [.v (.fl (T.map c9))] []=some (.p 0,[.dt (T.map qe)]):=by
  unfold rk
  show ((jR (T.map c9)).bind fun kvs=>if (T.map c9).length < 1000 then some (R.p 0,[aq.dt (kF [] kvs)]) else none)=_
  rw [qQ,zar,if_pos (by rw [zag];omega),pv T [] (by simpa using nd)];rfl
 have s4:(gm (j5 (aL bU 1 (ae (bP (af 2)) ak))) (cC (Ao (af 6) (af 4) (fK (.tup [(.tup [(.bl false),(.tup [])]),(.tup [])])))) aT)
   [some (.v (.fl (T.map c9))),bv ((keys:Int)),some (.v (bW x)),bv a,some (.v (c8 x)),some (.v (rD (st x.lo x.hi))),bC 0,none,none,none,none] [.dt (T.map qe)] =
   some (.nx [some (.v (.fl (T.map c9))),bv ((keys:Int)),some (.v (bW x)),bv a,some (.v (c8 x)),some (.v (rD (st x.lo x.hi))),bC 0,none,none,none,none] [.dt ((cj x T).map qe)]):=by
  cases htl:x.tl with
  |false =>
   rw [htl] at t1
   have:cj x T=T:=by unfold cj;rw [if_neg (by simp [htl])]
   rw [this];push_cast [t1]
  |true =>
   rw [htl] at t1;have sd:c8 x=.key x.said:=rfl
   have sT:(Ao (af 6) (af 4) (fK (.tup [(.tup [(.bl false),(.tup [])]),(.tup [])]))) [some (.v (.fl (T.map c9))),bv ((keys:Int)),some (.v (bW x)),bv a,some (.v (c8 x)),some (.v (rD (st x.lo x.hi))),bC 0,none,none,none,none] [.dt (T.map qe)] =
     (if (T.map qe).length < 1000 then some (match nX (T.map qe) x.said with|some r=>(.v r,[.dt (T.map qe)])|none=>(.v Oc,[.dt (T.map qe++[(x.said,Oc)])])) else none):=by rw [sd];rfl
   rw [if_pos (by rw [zag];omega)] at sT
   by_cases z:x.said∈T.map (·.1)
   ·have:cj x T=T:=by unfold cj;rw [if_neg (fun q=>q.2 z)]
    rw [this]
    cases hv:nX (T.map qe) x.said with
    |none=>exact absurd z ((rN _ _).mp hv)
    |some r =>
     rw [hv] at sT;push_cast [t1,sT]
   ·have:cj x T=T++[(x.said,vK)]:=by unfold cj;rw [if_pos ⟨htl,z⟩]
    rw [this,zaR];rw [(rN _ _).mpr z] at sT;push_cast [t1,sT];rfl
 obtain ⟨⟨acc,x8,x9,x10⟩,e,h1⟩:=jU (g:=qX 2 (aN (b7 8) (aN (b7 9) eG))) (b:=d9 bt) c9
  (fun s:List En×Option R×Option R×Option R=>([some (.v (.fl (T.map c9))),bv ((keys:Int)),some (.v (bW x)),bv a,some (.v (c8 x)),some (.v (rD (st x.lo x.hi))),bC 0,bC 1,s.2.1,s.2.2.1,s.2.2.2],[aq.fzt ((cj x T).map qe),.lst (s.1.map c9)]))
  (fun s rem=>s.1++rem.map (ir x keys a)=(cj x T).map (ir x keys a)/\∀e∈rem,e∈cj x T) (cj x T) ([],none,none,none) ⟨rfl,fun _ h=>h⟩ (by
   rintro ⟨acc,x8,x9,x10⟩ e rem ⟨h1,h2⟩
   have hacc:acc.length < 100:=by
    have:=congrArg List.length h1;simp at this;omega
   obtain ⟨y10,q⟩:=Cs bt ho (keys:=keys) (a:=a) (eb e (h2 e zan)).1 hE hT (x0:=some (.v (.fl (T.map c9)))) (x6:=some (.p 0)) (x8:=x8) (x9:=x9) (x10:=x10) (kvs:=(cj x T).map qe) hacc;refine ⟨(acc++[ir x keys a e],some (.v (.key e.1)),some (.v (jQ e.2)),y10),?_,by rw [zbb];exact h1,fun z hz=>h2 z (zaj _ hz)⟩;have hg:qX 2 (aN (b7 8) (aN (b7 9) eG)) (.v (c9 e)) [some (.v (.fl (T.map c9))),bv ((keys:Int)),some (.v (bW x)),bv a,some (.v (c8 x)),some (.v (rD (st x.lo x.hi))),bC 0,bC 1,x8,x9,x10] [aq.fzt ((cj x T).map qe),.lst (acc.map c9)]=some ([some (.v (.fl (T.map c9))),bv ((keys:Int)),some (.v (bW x)),bv a,some (.v (c8 x)),some (.v (rD (st x.lo x.hi))),bC 0,bC 1,some (.v (.key e.1)),some (.v (jQ e.2)),x10],[aq.fzt ((cj x T).map qe),.lst (acc.map c9)]):=rfl;rw [hg,qz]
   exact q)
 have h1:acc=(cj x T).map (ir x keys a):=by simpa using h1.1
 subst h1
 have fi:(FQ (af 6)) [some (.v (.fl (T.map c9))),bv ((keys:Int)),some (.v (bW x)),bv a,some (.v (c8 x)),some (.v (rD (st x.lo x.hi))),bC 0,bC 1,none,none,none] [.dt ((cj x T).map qe),.lst []]=some ((cj x T).map c9,[.fzt ((cj x T).map qe),.lst []]):=by
  show some ((((cj x T).map qe).map Px,_))=_
  rw [zbj];rfl
 have fl:=pO A;have e:dC (qX 2 (aN (b7 8) (aN (b7 9) eG))) (d9 bt) ((cj x T).map c9) [some (.v (.fl (T.map c9))),bv ((keys:Int)),some (.v (bW x)),bv a,some (.v (c8 x)),some (.v (rD (st x.lo x.hi))),bC 0,bC 1,none,none,none] [aq.fzt ((cj x T).map qe),.lst []]=_:=e;generalize hL:(gm (j5 (aL bU 1 (ae (bP (af 2)) ak))) (cC (Ao (af 6) (af 4) (fK (.tup [(.tup [(.bl false),(.tup [])]),(.tup [])])))) aT)=L at s4;rw [nt,hL];push_cast [ix2,ix3,ix4,se,dt,s4,fi,e,hA,fl]
end
abbrev cT (d t:Int)(es:List En):Ta:=(es.filter fun e=>jV e.2 t d).map (·.1)
theorem hJ:∀a:Th,HT2.jD a a=false
 |[]=>rfl
 |x::a=>by simp [HT2.jD,hJ a]
def pG {l:Ta}(h:DT l):l.Nodup:=h.imp fun {a b} h e=>by subst e;rw [hJ] at h;cases h
def jm (d t:Int)(l:List En)(r:Th):r∈cT d t l ↔ ∃e∈l,e.1=r/\jV e.2 t d=true:=by
 unfold cT;rw [zaJ];constructor
 ·rintro ⟨e,he,h1⟩;obtain ⟨h2,h3⟩:=zbz.mp he;exact ⟨e,h2,h1,h3⟩
 ·rintro ⟨e,he,h1,h2⟩;exact ⟨e,zbz.mpr ⟨he,h2⟩,h1⟩
section
variable {ES TS:Th}{T A:List En}{x:Tl}{keys:Nat}{a:Int}
def eL {e:En}:e∈cj x T ↔ e∈T\/(x.tl=true/\x.said∉T.map (·.1)/\e=(x.said,vK)):=by
 unfold cj;split
 ·rename_i c;rw [zaU,zau];exact or_congr Iff.rfl ⟨fun h=>⟨c.1,c.2,h⟩,fun h=>h.2.2⟩
 ·rename_i c;exact ⟨.inl,fun h=>h.resolve_right fun q=>c ⟨q.1,q.2.1⟩⟩
def yk (ho:x.Ok){e:En}(hp:Pf e.2.1 e.2.2)(h:∀q∈e.2.2,q.1 < a)(t d:Int):jV (ir x keys a e).2 t d=if e.1.take keys=x.said.take keys/\¬ t < a then AE x e.1 (jV e.2 t d) (Ab x.lo x.hi d) else jV e.2 t d:=by
 unfold ir;by_cases c:e.1.take keys=x.said.take keys
 ·rw [if_pos c]
  show vH (ra (DY e.2 a _).1 (DY e.2 a _).2 t) d=_
  rw [Ei hp h];by_cases z:t < a
  ·rw [if_pos z,if_neg (fun q=>q.2 z)]
  ·rw [if_neg z,if_pos ⟨c,z⟩];have hl:=wt e.2.1 e.2.2 t hp.up fun q hq=>(by have:=h q hq;omega);have hu:=hp.at t;rw [hl] at hu;rw [Ni _ _ _ hu (Hn ho),CD ho]
   show _=AE x e.1 (vH (ra e.2.1 e.2.2 t) d) _
   rw [hl]
 ·rw [if_neg c,if_neg (fun q=>c q.1)]
def Ea (ho:x.Ok)(hb:∀e∈T,BP ES TS e.2)(ha:∀e∈T,∀q∈e.2.2,q.1 < a)(hA:∀e,e∈A ↔ e∈(cj x T).map (ir x keys a)/\e.2≠vK)(t d:Int)(r:Th) :
  r∈cT d t A ↔ if t < a\/Ab x.lo x.hi d=false then r∈cT d t T else (r∈cT d t T/\r.take keys≠x.said.take keys)\/(x.tl=true/\r=x.said):=by
 have n0:Pf vK.1 vK.2:=⟨.nil,.nil,trivial,fun _ h=>nomatch h⟩
 have nl:∀{e:En},e∈cj x T->jV (ir x keys a e).2 t d=if e.1.take keys=x.said.take keys/\¬ t < a then AE x e.1 (jV e.2 t d) (Ab x.lo x.hi d) else jV e.2 t d:=fun {e} he=>by
  rcases eL.mp he with h|⟨_,_,rfl⟩
  ·exact yk ho (hb e h).pf (ha e h) t d
  ·exact yk ho n0 (fun q h=>by cases h) t d
 have h1:r∈cT d t A ↔ ∃e∈cj x T,e.1=r/\jV (ir x keys a e).2 t d=true:=by
  rw [jm];constructor
  ·rintro ⟨e,he,hr,hl⟩
   obtain ⟨y,hy,rfl⟩:=zaJ.mp ((hA e).mp he).1;exact ⟨y,hy,by rw [←hr,jS],hl⟩
  ·rintro ⟨y,hy,hr,hl⟩
   refine ⟨ir x keys a y,(hA _).mpr ⟨za1 hy,fun z=>?_⟩,by rw [jS];exact hr,hl⟩;rw [z,CG] at hl;cases hl
 rw [h1]
 have same:(∀b:Bool,∀row,AE x row b (Ab x.lo x.hi d)=b)\/t < a->((∃e∈cj x T,e.1=r/\jV (ir x keys a e).2 t d=true) ↔ r∈cT d t T):=fun hw=>by
  have eq:∀{e:En},e∈cj x T->jV (ir x keys a e).2 t d=jV e.2 t d:=fun {e} he=>by
   rw [nl he];split
   ·rename_i c
    rcases hw with hw|hw
    ·exact hw _ _
    ·exact absurd hw c.2
   ·rfl
  rw [jm];constructor
  ·rintro ⟨e,he,hr,hl⟩
   rw [eq he] at hl;rcases eL.mp he with h|⟨_,_,rfl⟩
   ·exact ⟨e,h,hr,hl⟩
   ·rw [show jV (x.said,vK).2 t d=false from CG t d] at hl;cases hl
  ·rintro ⟨e,he,hr,hl⟩
   have he':e∈cj x T:=eL.mpr (.inl he);exact ⟨e,he',hr,by rw [eq he'];exact hl⟩
 by_cases z:t < a\/Ab x.lo x.hi d=false
 ·rw [if_pos z]
  refine same ?_;rcases z with z|z
  ·exact .inr z
  ·refine .inl fun b row=>?_
   rw [z];unfold AE;split <;> simp
 ·rw [if_neg z]
  have z1:¬ t < a:=fun h=>z (.inl h)
  have z2:Ab x.lo x.hi d=true:=by cases q:Ab x.lo x.hi d with
   |true=>rfl
   |false=>exact absurd (.inr q) z
  rw [z2] at nl;constructor
  ·rintro ⟨e,he,rfl,hl⟩
   rw [nl he] at hl;split at hl
   ·rename_i c
    unfold AE at hl;split at hl
    ·rename_i q;exact .inr q
    ·simp at hl
   ·rename_i c
    have c:e.1.take keys≠x.said.take keys:=fun q=>c ⟨q,z1⟩;rcases eL.mp he with h|⟨_,_,rfl⟩
    ·exact .inl ⟨(jm d t T e.1).mpr ⟨e,h,rfl,hl⟩,c⟩
    ·exact absurd rfl c
  ·rintro (⟨h,c⟩|⟨htl,rfl⟩)
   ·obtain ⟨e,he,rfl,hl⟩:=(jm d t T r).mp h
    have he':e∈cj x T:=eL.mpr (.inl he);exact ⟨e,he',rfl,by rw [nl he',if_neg (fun q=>c q.1)];exact hl⟩
   ·have hx:∃e∈cj x T,e.1=x.said:=by
     by_cases q:x.said∈T.map (·.1)
     ·obtain ⟨e,he,h⟩:=zaJ.mp q
      exact ⟨e,eL.mpr (.inl he),h⟩
     ·exact ⟨_,eL.mpr (.inr ⟨htl,q,rfl⟩),rfl⟩
    obtain ⟨e,he,h⟩:=hx;refine ⟨e,he,h,?_⟩;rw [nl he,if_pos ⟨by rw [h],z1⟩];unfold AE;rw [if_pos ⟨htl,h⟩];simp
def Ec (ho:x.Ok)(hb:∀e∈T,BP ES TS e.2)(ha:∀e∈T,∀q∈e.2.2,q.1 < a)(hA:∀e,e∈A ↔ e∈(cj x T).map (ir x keys a)/\e.2≠vK)(hs:∀z∈(st x.lo x.hi).2,z∈ES)(haT:a∈TS):∀e∈A,BP ES TS e.2/\e.2≠vK:=fun e he=>by
 obtain ⟨h1,h2⟩:=(hA e).mp he;refine ⟨?_,h2⟩;obtain ⟨y,hy,rfl⟩:=zaJ.mp h1;have hy':BP ES TS y.2/\∀q∈y.2.2,q.1 < a:=by
  rcases eL.mp hy with h|⟨_,_,rfl⟩
  ·exact ⟨hb y h,ha y h⟩
  ·exact ⟨⟨⟨.nil,.nil,trivial,fun _ h=>nomatch h⟩,(fun _ h=>nomatch h),(fun _ h=>nomatch h),fun _ h=>nomatch h⟩,fun _ h=>nomatch h⟩
 unfold ir;split
 ·refine IM hy'.1 hy'.2 (Oa _ _ _) (fun z hz=>?_) haT;have:=(Ie _ _ _).subset hz;rcases ((iE _ _).2.2 z).mp this with h|h
  ·have key:∀(g:Rc) (qs:List (Int×Rc)),(∀w∈g.2,w∈ES)->(∀q∈qs,∀w∈q.2.2,w∈ES)->∀w∈(lst g qs).2,w∈ES:=fun g qs=>by
    induction qs generalizing g with
    |nil=>exact fun h _=>h
    |cons q qs ih=>exact fun _ h2=>ih q.2 (h2 q zan) fun p hp=>h2 p (zaj _ hp)
   exact key _ _ hy'.1.ge hy'.1.re z h
  ·exact hs z h
 ·exact hy'.1
end
def uf (g:Rc)(qs:List (Int×Rc))(t:Int):gL [pD g qs,.int t]=some (rD (ra g qs t)):=by
 rw [vS];push_cast [lQ,pD];generalize hA:R.v (D.tup [rD g,.tup (List.map sD qs)])=A;clear hA;have key:∀(qs:List (Int×Rc)) (g:Rc) (x3:Option R),∃x3',
   dC (b7 3) gc (qs.map sD) [some A,bv t,some (.v (rD g)),x3] []=some (.nx [some A,bv t,some (.v (rD (ra g qs t))),x3'] []):=by
  intro qs
  induction qs with
  |nil=>intro g x3;exact ⟨x3,rfl⟩
  |cons p ps ih =>
   intro g x3;rw [zaf,gr]
   by_cases e:t < p.1
   ·refine ⟨some (.v (sD p)),?_⟩
    have he:decide (t < p.1)=true:=zaK e;push_cast [gc,sD,he];rw [ra,if_pos e]
   ·obtain ⟨x',hh⟩:=ih p.2 (some (.v (sD p)))
    refine ⟨x',?_⟩;have he:decide (t < p.1)=false:=zay e;push_cast [gc,sD,he] at hh ⊢;rw [hh,ra,if_neg e]
 obtain ⟨x',h⟩:=key qs g none;rw [h];push_cast [HW.Bc]
def bT (i:Int){j:Int}(h:0 < j)(U:ac):bO (.v (.int i)) (.v (.int j)) U=some (.v (.int (i % j)),U):=pT h
def dH (i:Int){j:Int}(h:0 < j)(h2:j < 2 ^ 30)(U:ac):fI (.v (.int i)) (.v (.int j)) U=some (.v (.int (i / j)),U):=K1 (by omega) (by omega)
def B8 (l:Th)(i:Int)(h:0<=i/\i < (l.length:Int)):∃x∈l,L2.mI (l.map D.int) i=some (.int x):=by
 obtain ⟨j,rfl⟩:∃j:Nat,(j:Int)=i:=⟨i.toNat,zco h.1⟩;have hj:j < l.length:=by omega
 exact ⟨l[j],zbB hj,qc (zao hj)⟩
def md:List Nat:=[97,98,99,100,101,102,103,104,105,106,107,108,109,110,111,112,113,114,115,116,117,118,119,120,121,122]
def Iy:(Str.ofString "abcdefghijklmnopqrstuvwxyz")=Tx md:=by decide
def Iz:(Str.ofString "kmz")=Tx [107,109,122]:=by decide
def Kg:∀c∈md,c < 1000:=by decide
theorem CO:∀l:List Nat,Str.join ⟨#[]⟩ (l.map fun c=>Tx [c])=Tx l
 |[]=>rfl
 |[a]=>rfl
 |a::b::t=>by
  have ih:=CO (b::t);simp only [zaf] at ih ⊢;rw [Str.join,ih]
  ·exact Str.ext' (Array.toList_inj.mp (by
    show (([a].toArray++#[])++(b::t).toArray).toList=_
    simp))
  all_goals simp
theorem xH:∀l:List Nat,mL (l.map fun c=>D.str (Tx [c]))=some (l.map fun c=>Tx [c])
 |[]=>rfl
 |a::l=>by simp only [zaf,mL,xH l,zar]
theorem CN (l:List Nat)(hl:l.length<=40):JoinOk ⟨#[]⟩ (l.map fun c=>Tx [c])=true:=by
 unfold JoinOk Builtin.Str.tooLong;have h:∀(l:List Nat) (s:Nat),(l.map fun c=>Tx [c]).foldl (fun t w=>t+w.length+(⟨#[]⟩:Str).length) s=s+l.length:=by
  intro l;induction l with
  |nil=>intro s;simp
  |cons a l ih =>
   intro s;rw [zaf,zbl,ih,lj]
   show s+1+0+_=_
   rw [zaB];omega
 have h:=h l 0;rw [←List.foldl_toArray'] at h
 ·simp only [Bool.not_eq_true',decide_eq_false_iff_not,Nat.not_lt];refine zbg (Nat.le_of_eq h) ?_;have h4:(4000:Nat)<=sizeLine:=by decide
  omega
 ·rfl
def Fs {n:Nat}{U:ac}{l:List Nat}(h:U[n]?=some (.lst (l.map fun c=>D.str (Tx [c]))))(hl:l.length<=40):qT (.v (.str "")) (.p n) U=some (.v (.str (Tx l)),U):=by
 have e:(Str.ofString "")=⟨#[]⟩:=by decide
 show ((kW (.p n) U).bind fun ds=>(mL ds).bind fun ts=>if JoinOk (Str.ofString "") ts=true then some (R.v (.str (Txt.join (Str.ofString "") ts)),U) else none)=_
 rw [F1,h,KQ,zar,xH,zar,e,if_pos (CN l hl)];rw [show Txt.join ⟨#[]⟩ (l.map fun c=>Tx [c])=Tx l from (PySem.StrLaws.glued_eq_join _ _).trans (CO l)]
theorem p4 {Z:Type}{f:FE}{rest:Lo}{U:ac}(e:Z->D)(P:D->Prop):∀(xs:List Z) (x0:Option R),(∀a∈xs,∃d,P d/\f (some (.v (e a))::rest) U=some (.v d,U))->∃ds,cx (b7 0) jo f (xs.map e) (x0::rest) U=some (ds,U)/\ds.length=xs.length/\∀d∈ds,P d
 |[],_,_=>⟨[],rfl,rfl,fun _ h=>nomatch h⟩
 |a::xs,x0,h=>by
  obtain ⟨d,hd,h1⟩:=h a zan;obtain ⟨ds,ih,hl,hp⟩:=p4 e P xs (some (.v (e a))) fun b hb=>h b (zaj _ hb);refine ⟨d::ds,?_,by simp [hl],fun z hz=>?_⟩
  ·simp only [zaf,cx,b7,zcv,zar,jo,if_true,h1,ih]
  ·rcases zak.mp hz with rfl|hz
   ·exact hd
   ·exact hp z hz
theorem AK {Z:Type}(e:Z->D)(Q:Z->Prop):∀ds:List D,(∀d∈ds,∃a,Q a/\d=e a)->∃l:List Z,ds=l.map e/\∀a∈l,Q a
 |[],_=>⟨[],rfl,fun _ h=>nomatch h⟩
 |d::ds,h=>by obtain ⟨a,ha,rfl⟩:=h d zan;obtain ⟨l,rfl,hl⟩:=AK e Q ds fun x hx=>h x (zaj _ hx);exact ⟨a::l,rfl,fun x hx=>(zak.mp hx).elim (fun e=>e ▸ ha) (hl x)⟩
structure Sh where
 nm:Str
 ks:Nat
 w:Nat
abbrev df (s:Sh):D:=.tup [.str s.nm,.int (s.ks:Int),.int (s.w:Int)]
def okN (x:Str):Prop:=∃l:List Nat,x=Tx l/\∀c∈l,c < 1000
def okN.ok {x:Str}(h:okN x)(n:Nat):dL n (.str x)=true:=by obtain ⟨l,rfl,h⟩:=h;exact Ms fun c hc=>by have:=h c hc;omega
structure GS (shs:List Sh):Prop where
 pos:0 < shs.length
 le:shs.length<=3
 nd:(shs.map (·.nm)).Nodup
 ok:∀s∈shs,(s.ks<=s.w/\s.w<=8)/\okN s.nm
abbrev Cr (l:List Nat)(p c:Nat):List Nat:=l.take p++[c]++l.drop (p+1)
def Fj {l:List Nat}{p c d:Nat}(h:Tx (Cr l p c)=Tx (Cr l p d)):c=d:=by
 have h:=(LC (l:=Cr l p c) (r:=Cr l p d));rename_i h0;rw [h0] at h;have h:Cr l p c=Cr l p d:=by simpa using h
 have h:=List.append_cancel_right h;simpa using List.append_cancel_left h
def zj (cell:Int):∃shs:List Sh,GS shs/\dB [.int cell]=some (.fl (shs.map df)):=by
 rw [rT];obtain ⟨n,hn,hn0,hn1⟩:=gY cell 1 (by decide);have b8:=dw n (j:=8) (by decide);obtain ⟨m,hm⟩:∃m:Nat,(1+n % 8).toNat=m:=⟨_,rfl⟩;have hmi:(m:Int)=1+n % 8:=by omega
 obtain ⟨ds,hc,hl,hp⟩:=p4 (f:=ar HQ (fK (.str "abcdefghijklmnopqrstuvwxyz")) (ar bO (ar fI (aL aR 2 (ae (bP (af 1)) (ae (bP (ar cO (fK (.int 70)) (af 0))) ak))) (fK (.int 3))) (fK (.int 26)))) (rest:=[bv cell]) (U:=[]) (fun i:Nat=>D.int (i:Int)) (fun d=>∃c:Nat,c < 1000/\d=D.str (Tx [c])) (List.range m) none (fun k hk=>by
  have hk:=zbV.mp hk;obtain ⟨a,ha,ha0,ha1⟩:=gY cell (70+(k:Int)) (by omega);have b:=dw (a / 3) (j:=26) (by decide);have hlt:(a / 3 % 26).toNat < md.length:=by show _ < 26;omega
  have hx:=Hm (U:=[]) (l:=md) (i:=a / 3 % 26) (c:=md[(a / 3 % 26).toNat]) b.1 (by decide) (zao hlt);rw [←Iy] at hx;refine ⟨_,⟨_,Kg _ (zbB hlt),rfl⟩,?_⟩;push_cast [ha,dH a (j:=3) (by decide) (by decide),bT (a / 3) (j:=26) (by decide),hx])
 obtain ⟨l,rfl,hl2⟩:=AK (fun c:Nat=>D.str (Tx [c])) (· < 1000) ds hp;have hl:l.length=m:=by simpa using hl
 have z0:((List.range m).map fun i=>D.int (i:Nat)).length<=sizeLine:=eA (by simp;omega);have bp:=dw (n / 8) (j:=(m:Int)) (by omega);obtain ⟨p,hpi⟩:∃p:Nat,(p:Int)=n / 8 % (m:Int):=⟨(n / 8 % (m:Int)).toNat,by omega⟩;have hpl:p < l.length:=by omega
 have zl:l.length<=sizeLine:=eA (by omega);have jv:=Fs (n:=0) (U:=[aq.lst (l.map fun c=>D.str (Tx [c]))]) (l:=l) rfl (by omega);have lv:=IL (U:=[aq.lst (l.map fun c=>D.str (Tx [c]))]) zl;have b3:=dw (n / 64) (j:=3) (by decide);obtain ⟨q,hq⟩:∃q:Nat,(1+n / 64 % 3).toNat=q:=⟨_,rfl⟩;have hmi':(l.length:Int)=(m:Int):=by omega
 push_cast [jt,hn,bT n (j:=8) (by decide),wZ (j:=1+n % 8) (by omega),hm,z0,hc,zbk,za3,jv,lv,hmi',dH n (j:=8) (by decide) (by decide),bT (n / 8) (j:=(m:Int)) (by omega),←hpi,dH n (j:=64) (by decide) (by decide),bT (n / 64) (j:=3) (by decide),wZ (j:=1+n / 64 % 3) (by omega),hq];have b256:=dw (n / 256) (j:=3) (by decide);have to:=fun U=>Mq (U:=U) (l:=l) (n:=p) (by omega) zl;have fr:=fun U=>Eg (U:=U) (l:=l) (n:=p+1) (by omega) zl;have pc:(p:Int)+1=((p+1:Nat):Int):=by omega
 obtain ⟨O',U',e,shs,x5,x6,x7,rfl,⟨cs,rfl⟩,h1,h2,h3⟩:=wH (g:=b7 5) (b:=gM) (O:=[bv cell,bv n,some (.v (.str (Tx l))),bv ((p:Int)),bC 1,none,none,none]) (U:=[aq.lst (l.map fun c=>D.str (Tx [c])),.lst []]) q
  (fun i O U=>∃(shs:List Sh) (x5 x6 x7:Option R),O=[bv cell,bv n,some (.v (.str (Tx l))),bv ((p:Int)),bC 1,x5,x6,x7]/\(∃cs:List aq,U=.lst (l.map fun c=>D.str (Tx [c])) :: .lst (shs.map df)::cs)/\shs.length=i/\(∀s∈shs,((s.ks<=s.w/\s.w<=8)/\okN s.nm)/\∃k c,k < i/\[107,109,122][k]?=some c/\s.nm=Tx (Cr l p c))/\(shs.map (·.nm)).Nodup)
  ⟨[],none,none,none,rfl,⟨[],rfl⟩,rfl,(fun _ h=>nomatch h),.nil⟩ (by
   rintro i hi O U ⟨shs,x5,x6,x7,rfl,⟨cs,rfl⟩,h1,h2,h3⟩;have hi3:i < 3:=(by omega);obtain ⟨a,ha,ha0,ha1⟩:=gY cell (80+(i:Int)) (by omega);obtain ⟨b,hb,hb0,hb1⟩:=gY cell (90+(i:Int)) (by omega);obtain ⟨x,hx,hx1⟩:=B8 [3,3,8] (n / 256 % 3) b256;have hx0:0 < x/\x<=8:=(by simp at hx;omega);have hx1:L2.mI [D.int 3,.int 3,.int 8] (n / 256 % 3)=some (.int x):=hx1;have bw:=dw (a / 3) (j:=x) hx0.1;obtain ⟨w,hw⟩:∃w:Nat,(w:Int)=1+a / 3 % x:=⟨(1+a / 3 % x).toNat,by omega⟩;have bk:=dw (b / 3) (j:=(w:Int)+1) (by omega);obtain ⟨ks,hks⟩:∃ks:Nat,(ks:Int)=b / 3 % ((w:Int)+1):=⟨(b / 3 % ((w:Int)+1)).toNat,by omega⟩;have hc3:∃c,[107,109,122][i]?=some c/\c < 1000:=by have:i=0\/i=1\/i=2:=(by omega);rcases this with rfl|rfl|rfl <;> exact ⟨_,rfl,by decide⟩
   obtain ⟨c,hc,hc1⟩:=hc3;have kx:=fun U=>Hm (U:=U) (l:=[107,109,122]) (i:=(i:Int)) (c:=c) (by omega) (by decide) (by simpa using hc);rw [←Iz] at kx;have ad1:∀U:ac,cO (.v (.str (Tx (l.take p)))) (.v (.str (Tx [c]))) U=some (.v (.str (Tx (l.take p++[c]))),U):=fun U=>by rw [Bd,if_pos (eA (by simp;omega))]
   have ad2:∀U:ac,cO (.v (.str (Tx (l.take p++[c])))) (.v (.str (Tx (l.drop (p+1))))) U=some (.v (.str (Tx (Cr l p c))),U):=fun U=>by rw [Bd,if_pos (eA (by simp;omega))]
   have zs:(shs.map df).length < sizeLine:=i5 (by simp;omega);refine ⟨_,_,?_,shs++[⟨Tx (Cr l p c),ks,w⟩],bv ((i:Int)),bv ((w:Int)),some (.v (.str (Tx (Cr l p c)))),rfl,⟨cs++[.lst [.int 3,.int 3,.int 8]],rfl⟩,by simp [h1],fun s hs=>?_,?_⟩
   ·push_cast [gM,ha,hb,dH a (j:=3) (by decide) (by decide),dH b (j:=3) (by decide) (by decide),dH n (j:=256) (by decide) (by decide),bT (n / 256) (j:=3) (by decide),yp,hx1,bT (a / 3) (j:=x) hx0.1,←hw,Mr,IJ,II,IH,to,pc,fr,kx,ad1,ad2,bT (b / 3) (j:=(w:Int)+1) (by omega),←hks,zs,zaR]
   ·rcases zaU.mp hs with hs|hs
    ·obtain ⟨q1,k,c',q2,q3,q4⟩:=h2 s hs;exact ⟨q1,k,c',by omega,q3,q4⟩
    ·rw [zau.mp hs];refine ⟨⟨⟨?_,?_⟩,⟨_,rfl,fun z hz=>?_⟩⟩,i,c,by omega,hc,rfl⟩
     ·show ks<=w;omega
     ·show w<=8;omega
     ·rcases zaU.mp hz with hz|hz
      ·rcases zaU.mp hz with hz|hz
       ·exact hl2 z (List.mem_of_mem_take hz)
       ·rw [zau.mp hz];exact hc1
      ·exact hl2 z (List.mem_of_mem_drop hz)
   ·rw [zaR,zbc];refine ⟨h3,by simp,fun u hu v hv z=>?_⟩;have hv:v=Tx (Cr l p c):=(by simpa using hv);obtain ⟨s,hs,rfl⟩:=zaJ.mp hu;obtain ⟨_,k,c',q2,q3,q4⟩:=h2 s hs;rw [q4,hv] at z;have:=Fj z;subst this;have nd:([107,109,122]:List Nat).Nodup:=(by decide);have:=(List.getElem?_inj (by simp;omega) nd).mp (q3.trans hc.symm);omega)
 rw [e];push_cast [HW.Bc];exact ⟨shs,⟨by omega,by omega,h3,fun s hs=>(h2 s hs).1⟩,rfl⟩
def B9 {Z:Type}(f:Z->D)(xs:List Z)(i:Int)(hx:0 < xs.length):∃x∈xs,L2.mI (xs.map f) (i % (xs.length:Int))=some (f x):=by
 obtain ⟨j,hj⟩:∃j:Nat,(j:Int)=i % (xs.length:Int):=⟨(i % (xs.length:Int)).toNat,by rw [zco (zc7 _ (by omega))]⟩;have hlt:j < xs.length:=by have:=zcW i (b:=(xs.length:Int)) (by omega);omega
 exact ⟨xs[j],zbB hlt,by rw [←hj];exact qc (zao hlt)⟩
def EL (sc:Int):Th:=(List.range 18).map fun i:Nat=>((i:Int) - 3) * sc
def xr (sc:Int):(EL sc).length=18:=by simp [EL]
def DW {sc k:Int}(h1 : -3<=k)(h2:k<=14):k * sc∈EL sc:=zaJ.mpr ⟨(k+3).toNat,zbV.mpr (by omega),by rw [zco (by omega)];congr 1;omega⟩
structure GT (sc:Int)(shs:List Sh)(x:Tl):Prop where
 ok:x.Ok
 ed:∀z∈(st x.lo x.hi).2,z∈EL sc
 nm:okN x.nm
 sh:∃s∈shs,s.nm=x.nm/\x.said.length=if x.tl=true then s.w else s.ks
section
variable {O:Lo}{U:ac}{x:R}
def GW (o:Option (R×ac))(fl fh:FO)(O:Lo):Option (R×ac):=o.bind fun a=>(fl O a.2).bind fun l=>(fh O l.2).bind fun h=>Ho a.1 l.1 h.1 h.2
def GV (x:R)(o:Option (Option Int×ac))(fh:FO)(O:Lo):Option (R×ac):=o.bind fun l=>(fh O l.2).bind fun h=>Ho x l.1 h.1 h.2
def GU (x:R)(l:Option Int)(o:Option (Option Int×ac)):Option (R×ac):=o.bind fun h=>Ho x l h.1 h.2
theorem Q6 {fa:FE}{fl fh:FO}:wY fa fl fh O U=GW (fa O U) fl fh O:=rfl
theorem Q5 {fl fh:FO}:GW (some (x,U)) fl fh O=GV x (fl O U) fh O:=rfl
theorem Q4 {fh:FO}{l:Option Int}:GV x (some (l,U)) fh O=GU x l (fh O U):=rfl
theorem Q3 {l h:Option Int}:GU x l (some (h,U))=Ho x l h U:=rfl
theorem Q2 (r:Th)(k:Nat)(U:ac):Ho (.v (.key r)) none (some (k:Int)) U=some (.v (.key (r.take k)),U):=by
 have:Au r none (some (k:Int))=r.take k:=by unfold Au;have h1:HT.cP r.length 0 none=0:=rfl;have h2:HT.cP r.length r.length (some (k:Int))=min k r.length:=HT.xP _ _ _;rw [h1,h2,List.drop_zero,Nat.sub_zero,List.take_eq_take_iff.mpr];simp
 show some (R.v (.key (Au r none (some (k:Int)))),U)=_
 rw [this]
end
def v4 (c s:Int)(hs:0 < s){shs:List Sh}(g:GS shs):∃x:Tl,GT s shs x/\cW [.int c,.fl (shs.map df),.int s]=some (bW x):=by
 rw [qg];obtain ⟨n,hn,hn0,hn1⟩:=gY c 2 (by decide);obtain ⟨sh,hsh,a1⟩:=B9 df shs n g.pos;obtain ⟨⟨hk,hw⟩,hnm⟩:=g.ok sh hsh;have mS:=fun U=>bT n (j:=(shs.length:Int)) (by have:=g.pos;omega) U;obtain ⟨P,hP⟩:∃P:Int,P=10 ^ (50:Int).toNat:=⟨_,rfl⟩;have hpow:∀U:ac,iL (.v (.int 10)) (.v (.int 50)) U=some (.v (.int P),U):=fun U=>by rw [w4 (by decide),hP]
 have hP0:0 < P:=by rw [hP];exact Int.pow_pos (by decide)
 clear hP;have sz5:5<=sizeLine:=by decide
 obtain ⟨ds,hc,hl,hp⟩:=p4 (f:=ar bh (af 1) (ar bO (ar fI (aL aR 2 (ae (bP (af 2)) (ae (bP (ar cO (fK (.int 20)) (af 0))) ak))) (fK (.int 5))) (fK (.int 5)))) (rest:=[bC 0,bv c]) (U:=[aq.lst [.int 0,.int 1,.int (-1),.int (c % P),.int (0 - c % P)]]) (fun i:Nat=>D.int (i:Int)) (fun d=>∃i:Int,True/\d=D.int i) (List.range sh.w) none (fun k hk=>by have hk:=zbV.mp hk;obtain ⟨a,ha,ha0,ha1⟩:=gY c (20+(k:Int)) (by omega);have b:=dw (a / 5) (j:=5) (by decide);obtain ⟨x,-,hx⟩:=B8 [0,1,-1,c % P,0 - c % P] (a / 5 % 5) b;have hx:L2.mI [D.int 0,.int 1,.int (-1),.int (c % P),.int (0 - c % P)] (a / 5 % 5)=some (.int x):=hx;refine ⟨_,⟨x,trivial,rfl⟩,?_⟩;push_cast [ha,dH a (j:=5) (by decide) (by decide),bT (a / 5) (j:=5) (by decide),hx])
 obtain ⟨r,rfl,-⟩:=AK D.int (fun _=>True) ds hp;have hl:r.length=sh.w:=by simpa using hl
 have z0:(List.range sh.w).length<=sizeLine:=eA (by simp;omega);have b12:=dw (n / 8) (j:=12) (by decide);have b6:=dw (n / 96) (j:=6) (by decide);have m1:∀U:ac,mV (.v (.int (n / 8 % 12 - 3))) (.v (.int s)) U=some (.v (.int ((n / 8 % 12 - 3) * s)),U):=fun U=>jk (by omega);have m2:∀U:ac,mV (.v (.int (1+n / 96 % 6))) (.v (.int s)) U=some (.v (.int ((1+n / 96 % 6) * s)),U):=fun U=>jk (by omega);have hgt:0 < (1+n / 96 % 6) * s:=Int.mul_pos (by omega) hs;obtain ⟨lw,hlw⟩:∃lw,lw=(n / 8 % 12 - 3) * s:=⟨_,rfl⟩;obtain ⟨up,hup⟩:∃up,up=lw+(1+n / 96 % 6) * s:=⟨_,rfl⟩;have ct:=Q2 r sh.ks;have ev:∀(b1 b2 b3:Bool),(n / 600 % 5 == 0)=b1->(n / 3000 % 5 == 0)=b2->(n / 15000 % 3 == 0)=b3 ->
   eZ (fu [bv c,some (.v (.fl (shs.map df))),bv s,none,none,none,none,none,none,none,none] [])=some (bW ⟨!b3,if b3 then r.take sh.ks else r,if b1 then none else some lw,if b2 then none else some up,sh.nm⟩):=by
  intro b1 b2 b3 e1 e2 e3;cases b1 <;> cases b2 <;> cases b3 <;> push_cast [fu,hn,zag,mS,a1,hpow,bT c (j:=P) hP0,sz5,wZ (j:=(sh.w:Int)) (by omega),zby,z0,hc,CL,zar,dH n (j:=8) (by decide) (by decide),bT (n / 8) (j:=12) (by decide),m1,dH n (j:=96) (by decide) (by decide),bT (n / 96) (j:=6) (by decide),m2,←hlw,←hup,dH n (j:=600) (by decide) (by decide),bT (n / 600) (j:=5) (by decide),dH n (j:=3000) (by decide) (by decide),bT (n / 3000) (j:=5) (by decide),dH n (j:=15000) (by decide) (by decide),bT (n / 15000) (j:=3) (by decide),e1,e2,e3,Q6,Q5,Q4,Q3,ct,zas,if_false,zbn,zbW,oD] <;> rfl
 have m1':lw∈EL s:=by rw [hlw];exact DW (by omega) (by omega)
 have m2':up∈EL s:=by rw [hup,hlw,←Int.add_mul];exact DW (by omega) (by omega)
 have ed:∀lo hi:Option Int,(∀z,lo=some z->z∈EL s)->(∀z,hi=some z->z∈EL s)->∀z∈(st lo hi).2,z∈EL s:=fun lo hi h1 h2=>by
  cases lo <;> cases hi <;> simp [st] at h1 h2 ⊢
  ·exact h2
  ·exact h1
  ·exact ⟨h1,h2⟩
 refine ⟨_,⟨?_,ed _ _ (fun z hz=>?_) (fun z hz=>?_),hnm,sh,hsh,rfl,?_⟩,ev _ _ _ rfl rfl rfl⟩
 ·intro l u h1 h2;dsimp only at h1 h2;split at h1
  ·cases h1
  ·split at h2
   ·cases h2
   ·cases h1;cases h2;omega
 ·dsimp only at hz;split at hz
  ·cases hz
  ·cases hz;exact m1'
 ·dsimp only at hz;split at hz
  ·cases hz
  ·cases hz;exact m2'
 ·dsimp only
  cases (n / 15000 % 3 == 0)
  ·simpa using hl
  ·simp;omega
theorem yi (n:Nat)(x:Str):dL n (.str x)=PyData.strOk x:=by cases n <;> rfl
def Na {x:Tl}(h:okN x.nm)(n:Nat):dL (n+4) (nF x)=true:=by
 have o:∀(o:Option Int) (m:Nat),dL m (oD o)=true:=fun o m=>by cases o <;> cases m <;> rfl
 refine ip (cE ?_ (cE (h.ok _) (cE (ip (gq _)) (cE (o _ _) (cE (o _ _) l8)))));split
 ·exact (yi _ _).trans (by decide)
 ·exact (yi _ _).trans (by decide)
def Kb {xs:List Tl}(h:∀x∈xs,okN x.nm):dL 60 (.fl (xs.map nF))=true:=by
 have:∀xs:List Tl,(∀x∈xs,okN x.nm)->okDs 59 (xs.map nF)=true:=by
  intro xs;induction xs with
  |nil=>intro _;rfl
  |cons x xs ih=>intro h;exact cE (Na (h x zan) 55) (ih fun y hy=>h y (zaj _ hy))
 exact Co (this xs h)
theorem D5 (c s:Int){xs:List Tl}(hx:∀x∈xs,okN x.nm):∃d t:Int,dj [.int c,.int 9,.fl (xs.map nF),.int s]=some (.tup [.int d,.int t]):=by
 rw [vT];obtain ⟨n,hn,hn0,hn1⟩:=gY c (9+41) (by decide);have b16:=dw (n / 70) (j:=16) (by decide);have m1:∀U:ac,mV (.v (.int (n / 70 % 16 - 4))) (.v (.int s)) U=some (.v (.int ((n / 70 % 16 - 4) * s)),U):=fun U=>jk (by omega);have md3:=fun U=>bT n (j:=(xs.length:Int)+3) (by omega) U;have okx:=Kb hx;have ok0:dL 60 (.fl [])=true:=rfl;by_cases hT:xs=[]
 ·have e0:iO (.fl (xs.map nF)) (.fl [])=true:=by rw [hT];rfl
  push_cast [gO,hn,zag,md3,dH n (j:=70) (by decide) (by decide),bT (n / 70) (j:=16) (by decide),m1,dH n (j:=7000) (by decide) (by decide),bT (n / 7000) (j:=2) (by decide),okx,ok0,e0,zbn];exact ⟨_,_,rfl⟩
 ·have e0:iO (.fl (xs.map nF)) (.fl [])=false:=by
   cases xs with
   |nil=>exact absurd rfl hT
   |cons e T=>rfl
  cases q:(n / 14000 % 2 == 0) with
  |false =>
   push_cast [gO,hn,zag,md3,dH n (j:=70) (by decide) (by decide),bT (n / 70) (j:=16) (by decide),m1,dH n (j:=7000) (by decide) (by decide),bT (n / 7000) (j:=2) (by decide),okx,ok0,e0,zbW,dH n (j:=14000) (by decide) (by decide),bT (n / 14000) (j:=2) (by decide),q];exact ⟨_,_,rfl⟩
  |true =>
   have hpos:=zcO.mpr hT;obtain ⟨x,hxm,a1⟩:=B9 nF xs (n / 28000) hpos;have mT:=fun U=>bT (n / 28000) (j:=(xs.length:Int)) (by omega) U;obtain ⟨es,hes⟩:∃es:Th,es=x.lo.toList++x.hi.toList:=⟨_,rfl⟩;have cu:mz [D.str (if x.tl=true then "tell" else "strike"),.str x.nm,.tup (x.said.map .int),oD x.lo,oD x.hi] (some 3) none=[oD x.lo,oD x.hi]:=rfl
   have hc:∀U:ac,cx (b7 0) (fB (oH (uT true .non) (af 0))) (af 0) [oD x.lo,oD x.hi] [none] U=some (es.map .int,U):=fun U=>by
    rw [hes];cases x.lo <;> cases x.hi <;> rfl
   have oke:dL 60 (.fl (es.map .int))=true:=Co (gq _)
   have fin:∀(es:Th) (t d:Int) (x7:R) (k:Nat) (U:ac),dL 60 (.fl (es.map .int))=true->U[k]?=some (.lst (es.map .int))->∃d' U',(gm (fB (ar (fS true) (af 7) (cN ak))) (aK 6 (ar iU (ar bh (af 7) (fK (.int 0))) (ar bO (ar fI (af 4) (fK (.int 2000000))) (fK (.int 2))))) aT)
     [bv c,bv 9,some (.v (.fl (xs.map nF))),bv s,bv n,bv t,bv d,bC k] U=some (.nx [bv c,bv 9,some (.v (.fl (xs.map nF))),bv s,bv n,bv t,bv d',bC k] U'):=by
    intro es t d x7 k U oke hk
    have hk':(U++[aq.lst []])[k]?=some (.lst (es.map .int)):=by rw [zai (dG hk)];exact hk
    cases es with
    |nil =>
     have e1:iO (.fl []) (.fl [])=true:=rfl;refine ⟨d,U++[aq.lst []],?_⟩;push_cast [hk',yp,oke,ok0,e1,zbn]
    |cons i es =>
     have e1:iO (.fl ((i::es).map .int)) (.fl [])=false:=rfl;refine ⟨i - n / 2000000 % 2,U++[aq.lst []],?_⟩;rw [zaf] at hk' oke e1;push_cast [hk',yp,oke,ok0,e1,zbW,dH n (j:=2000000) (by decide) (by decide),bT (n / 2000000) (j:=2) (by decide)]
   generalize hL:(gm (fB (ar (fS true) (af 7) (cN ak))) (aK 6 (ar iU (ar bh (af 7) (fK (.int 0))) (ar bO (ar fI (af 4) (fK (.int 2000000))) (fK (.int 2))))) aT)=L at fin;obtain ⟨d',U',hf⟩:=fin es (n % ((xs.length:Int)+3) - 1) ((n / 70 % 16 - 4) * s - n / 7000 % 2) (.p 1) 1 [aq.lst [],aq.lst (es.map .int)] oke rfl;refine ⟨d',n % ((xs.length:Int)+3) - 1,?_⟩;rw [gO,hL];push_cast [hn,zag,md3,dH n (j:=70) (by decide) (by decide),bT (n / 70) (j:=16) (by decide),m1,dH n (j:=7000) (by decide) (by decide),bT (n / 7000) (j:=2) (by decide),okx,ok0,e0,zbW,dH n (j:=14000) (by decide) (by decide),bT (n / 14000) (j:=2) (by decide),q,dH n (j:=28000) (by decide) (by decide),mT,a1,cu,hc,hf]
def yr (r:Rc)(n:Int)(hl:r.2.length<=100):eV [rD r,.int n]=some (.bl (jW r n)):=by
 rw [y0];have z:(r.2.map D.int).length<=sizeLine:=eA (by rw [zag];omega);have cm:cx (b7 0) (fB (ar HP (af 0) (af 1))) (af 0) (r.2.map .int) [none,bv n] []=some ((r.2.filter fun e=>decide (e<=n)).map .int,[]) :=
  kg (c:=fB (ar HP (af 0) (af 1))) (f:=af 0) (U:=[]) (rest:=[bv n]) D.int D.int (fun e=>decide (e<=n)) r.2 none (fun e _=>by push_cast [HW.Bc]) (fun e _ _=>by push_cast [HW.Bc])
 have e2:(((tG r n:Int) % 2) == 0)=decide (tG r n % 2=0):=by
  by_cases c:tG r n % 2=0
  ·rw [zaK c];simp;omega
  ·rw [zay c];simp;omega
 have hcn:((r.2.filter fun e=>decide (e<=n)).map D.int).length=tG r n:=by rw [zag];rfl
 unfold jW;by_cases c:tG r n % 2=0
 ·rw [zaK c] at e2;rw [if_pos c];push_cast [kS,rD,z,cm,za3,zbk,hcn,bT (tG r n:Int) (j:=2) (by decide),e2]
 ·rw [zay c] at e2;rw [if_neg c];push_cast [kS,rD,z,cm,za3,zbk,hcn,bT (tG r n:Int) (j:=2) (by decide),e2]
def vI (nm:Str)(key:Th)(d:Int)(x:Tl):Bool:=x.nm == nm && (decide (x.said.take key.length=key) && Ab x.lo x.hi d)
def F5 (a b:Th):iO (.tup (a.map .int)) (.tup (b.map .int))=decide (a=b):=by simp only [iO];exact kO a b
def yh (a:Th):dL 60 (.tup (a.map .int))=true:=ip (gq a)
theorem jl (a b:Str):iO (.str a) (.str b)=(a == b):=rfl
theorem xh {x:Tl}(ho:x.Ok)(hn:okN x.nm){nm:Str}(hm:okN nm)(key:Th)(d:Int):eX [nF x,.str nm,.tup (key.map .int),.int d]=some (.bl (vI nm key d x)):=by
 rw [y6];have se:=o0 ho;have h2:(st x.lo x.hi).2.length<=100:=by cases x.lo <;> cases x.hi <;> simp [st]
 have li:=yr (st x.lo x.hi) d h2;rw [show jW (st x.lo x.hi) d=Ab x.lo x.hi d from (kJ _ _ d (Hn ho)).trans (CD ho d)] at li;have ct:=pZ x.said key.length;have o1:=hn.ok 60;have o2:=hm.ok 60;have e3:=F5 (x.said.take key.length) key;have ok1:=yh (x.said.take key.length);have ok2:=yh key;unfold vI;have ix4:∀U:ac,bh (.v (nF x)) (.v (.int 4)) U=some (.v (oD x.hi),U):=fun U=>rfl;have ix3:∀U:ac,bh (.v (nF x)) (.v (.int 3)) U=some (.v (oD x.lo),U):=fun U=>rfl;have ix2:∀U:ac,bh (.v (nF x)) (.v (.int 2)) U=some (.v (.tup (x.said.map .int)),U):=fun U=>rfl;have ix1:∀U:ac,bh (.v (nF x)) (.v (.int 1)) U=some (.v (.str x.nm),U):=fun U=>rfl
 cases c1:(x.nm == nm) with
 |false=>push_cast [iQ,ix1,o1,o2,jl,c1,zbW,zcw]
 |true =>
  cases c2:decide (x.said.take key.length=key) with
  |false =>
   rw [c2] at e3;push_cast [iQ,ix1,ix2,o1,o2,jl,c1,zbn,zag,ct,ok1,ok2,e3,zbW,zcB,zcw]
  |true =>
   rw [c2] at e3;push_cast [iQ,ix1,ix2,ix3,ix4,o1,o2,jl,c1,zbn,zag,ct,ok1,ok2,e3,zcB,se,li]
def mH (h:Nat->Bool):Nat->Option Nat
 |0=>none
 |n+1=>if h n=true then some (n+1) else mH h n
def Aq:Option Nat->D
 |none=>.non
 |some n=>.int (n:Int)
def hits (nm:Str)(key:Th)(d:Int)(xs:List Tl)(i:Nat):Bool:=match xs[i]? with|some x=>vI nm key d x|none=>false
def c6 (t:Int)(n:Nat):Nat:=min t.toNat n
open L2
def vM (xs:List Tl)(nm:Str)(ks:Nat)(r:Th)(d t:Int):Prop:=∃m x,mH (hits nm (r.take ks) d xs) (c6 t xs.length)=some (m+1)/\xs[m]?=some x/\x.tl=true/\x.said=r
theorem rh {h h':Nat->Bool}:∀n:Nat,(∀i,i < n->h i=h' i)->mH h n=mH h' n
 |0,_=>rfl
 |n+1,e=>by
  have ih:=rh n fun i hi=>e i (by omega)
  show (if h n=true then _ else _)=if h' n=true then _ else _
  rw [e n (by omega),ih]
theorem kP {h:Nat->Bool}:∀(n:Nat) {k:Nat},mH h n=some k->∃m,k=m+1/\m < n/\h m=true
 |0,_,e=>by cases e
 |n+1,k,e=>by
  have e:(if h n=true then some (n+1) else mH h n)=some k:=e;split at e
  ·rename_i c
   cases e;exact ⟨n,rfl,by omega,c⟩
  ·obtain ⟨m,h1,h2,h3⟩:=kP n e;exact ⟨m,h1,by omega,h3⟩
section
variable {xs:List Tl}{x:Tl}{nm:Str}{ks w:Nat}{T A:List En}{d t:Int}{r:Th}
def C0 (key:Th){i:Nat}(h:i < xs.length):hits nm key d (xs++[x]) i=hits nm key d xs i:=by unfold hits;rw [zai h]
def C1 (key:Th):hits nm key d (xs++[x]) xs.length=vI nm key d x:=by
 unfold hits;have:(xs++[x])[xs.length]?=some x:=by simp
 rw [this]
def yM (key:Th){n:Nat}(h:n<=xs.length):mH (hits nm key d (xs++[x])) n=mH (hits nm key d xs) n:=rh n fun i hi=>C0 key (by omega)
def rK (h:t < (xs.length:Int)+1):vM (xs++[x]) nm ks r d t ↔ vM xs nm ks r d t:=by
 have hu:c6 t (xs++[x]).length=c6 t xs.length:=by unfold c6;rw [zaD];simp;omega
 have hl:c6 t xs.length<=xs.length:=zcD _ _;unfold vM;rw [hu,yM _ hl];constructor
 ·rintro ⟨m,y,h1,h2,h3⟩;obtain ⟨m',e,hm,-⟩:=kP _ h1;rw [zai (by omega)] at h2;exact ⟨m,y,h1,h2,h3⟩
 ·rintro ⟨m,y,h1,h2,h3⟩;exact ⟨m,y,h1,by rw [zai (dG h2)];exact h2,h3⟩
def vG (h:¬ t < (xs.length:Int)+1):vM (xs++[x]) nm ks r d t ↔ if vI nm (r.take ks) d x=true then x.tl=true/\x.said=r else vM xs nm ks r d t:=by
 have hu:c6 t (xs++[x]).length=xs.length+1:=by unfold c6;rw [zaD];simp;omega
 have hu2:c6 t xs.length=xs.length:=by unfold c6;omega
 unfold vM;rw [hu,hu2,show mH (hits nm (r.take ks) d (xs++[x])) (xs.length+1)=if hits nm (r.take ks) d (xs++[x]) xs.length=true then some (xs.length+1) else mH (hits nm (r.take ks) d (xs++[x])) xs.length from rfl,C1,yM _ (zam _)];by_cases c:vI nm (r.take ks) d x=true
 ·rw [if_pos c,if_pos c];have g:(xs++[x])[xs.length]?=some x:=by simp
  constructor
  ·rintro ⟨m,y,h1,h2,h3⟩;have:m=xs.length:=(by simpa using h1.symm);subst this;rw [g] at h2;cases h2;exact h3
  ·rintro h3;exact ⟨xs.length,x,rfl,g,h3⟩
 ·rw [if_neg c,if_neg c];constructor
  ·rintro ⟨m,y,h1,h2,h3⟩;obtain ⟨m',e,hm,-⟩:=kP _ h1;rw [zai (by omega)] at h2;exact ⟨m,y,h1,h2,h3⟩
  ·rintro ⟨m,y,h1,h2,h3⟩;exact ⟨m,y,h1,by rw [zai (dG h2)];exact h2,h3⟩
def zo (hn:x.nm≠nm):vM (xs++[x]) nm ks r d t ↔ vM xs nm ks r d t:=by
 by_cases h:t < (xs.length:Int)+1
 ·exact rK h
 ·rw [vG h,if_neg];unfold vI;rw [show (x.nm == nm)=false by simpa using hn];simp
def Bo (hn:x.nm=nm)(hk:ks<=w)(hr:r.length=w)(hc:r∈cT d t A ↔ if t < (xs.length:Int)+1\/Ab x.lo x.hi d=false then r∈cT d t T else (r∈cT d t T/\r.take ks≠x.said.take ks)\/(x.tl=true/\r=x.said))
  (hT:r∈cT d t T ↔ vM xs nm ks r d t):r∈cT d t A ↔ vM (xs++[x]) nm ks r d t:=by
 rw [hc]
 by_cases h:t < (xs.length:Int)+1
 ·rw [if_pos (.inl h),rK h];exact hT
 ·rw [vG h]
  have kl:(r.take ks).length=ks:=by rw [zbr];omega
  have hh:vI nm (r.take ks) d x=(decide (x.said.take ks=r.take ks) && Ab x.lo x.hi d):=by
   unfold vI;rw [kl,hn,zc3,zcB]
  rw [hh]
  cases q:Ab x.lo x.hi d with
  |false=>rw [if_pos (.inr rfl),if_neg (by simp)];exact hT
  |true =>
   rw [if_neg (by simp [h])]
   by_cases c:x.said.take ks=r.take ks
   ·rw [if_pos (by simp [c])]
    constructor
    ·rintro (⟨_,z⟩|⟨h1,h2⟩)
     ·exact absurd c.symm z
     ·exact ⟨h1,h2.symm⟩
    ·rintro ⟨h1,h2⟩
     exact .inr ⟨h1,h2.symm⟩
   ·rw [if_neg (by simp [c])]
    constructor
    ·rintro (⟨z,_⟩|⟨h1,h2⟩)
     ·exact hT.mp z
     ·exact absurd (by rw [h2]) c
    ·exact fun z=>.inl ⟨hT.mpr z,fun e=>c e.symm⟩
end
end LW
namespace LW
open HW
section
variable {O:Lo}{U:ac}{n:Nat}
def vp (o:Option aq)(c f:Str)(U:ac):Option (R×ac):=match o with|some (.ob c' fs)=>if c'=c then (fs.lookup f).bind fun d=>some (d,U) else none|_=>none
def AY (o:Option (R×ac))(c f:Str):Option (R×ac):=o.bind fun o=>match o.1 with|.p n=>vp o.2[n]? c f o.2|_=>none
theorem jA {c f:Str}{fo:FE}:dP c f fo O U=AY (fo O U) c f:=by
 unfold dP AY;refine congrArg _ (funext fun o=>?_);unfold wB
 cases o.1 with
 |p n =>
  dsimp only
  cases e:o.2[n]? with
  |none=>rfl
  |some c' =>
   cases c' with
   |ob c' fs =>
    show (if c'=c then some fs else none).bind _=if c'=c then _ else none
    split <;> rfl
   |_=>rfl
 |_=>rfl
theorem fL {c f:Str}:AY (some (.p n,U)) c f=vp U[n]? c f U:=rfl
abbrev AC (a b c:Nat):List (Str×R):=[("shape_list",.p a),("tellings",.p b),("tables_now",.p c)]
def RQ:(("tellings" : Str) == "shape_list")=false:=by decide
def RP:(("tables_now" : Str) == "shape_list")=false:=by decide
def RO:(("tables_now" : Str) == "tellings")=false:=by decide
def O2z {a b c:Nat}:vp (some (.ob "Book" (AC a b c))) "Book" "shape_list" U=some (.p a,U):=by simp [vp,zba]
def N9 {a b c:Nat}:vp (some (.ob "Book" (AC a b c))) "Book" "tellings" U=some (.p b,U):=by simp [vp,zba,RQ]
def QA {a b c:Nat}:vp (some (.ob "Book" (AC a b c))) "Book" "tables_now" U=some (.p c,U):=by simp [vp,zba,RP,RO]
def lN {nm:Str}{w:MW}{fo:FE}{fa:FA}{rs:List R}{U1:ac}{a b c s:Nat}(ho:fo O U=some (.p s,U))(hs:U[s]?=some (.ob "Book" (AC a b c)))(h1:(nm == "shape_list")=false)(h2:(nm == "tellings")=false)(h3:(nm == "tables_now")=false)(ha:fa O U=some (rs,U1))(hl:rs.length+1=n):fZ "Book" nm w n fo fa O U=w (.p s::rs) U1:=by simp [fZ,ho,wB,hs,zba,h1,h2,h3,ha,hl]
def L1 (o:Option (List R×ac))(f:MW)(n:Nat):Option (R×ac):=o.bind fun a=>if a.1.length=n then f a.1 a.2 else none
theorem Lw {f:MW}{fa:FA}:j6 f n fa O U=L1 (fa O U) f n:=rfl
theorem GF {f:MW}{rs:List R}:L1 (some (rs,U)) f n=if rs.length=n then f rs U else none:=rfl
end
def mM {a b:FS}{O O1:Lo}{U U1:ac}(ha:a O U=some (.nx O1 U1)):aB a b O U=b O1 U1:=by rw [lK,ha,hV]
theorem kN {shs:List Sh}(g:GS shs){s t:Sh}(hs:s∈shs)(ht:t∈shs)(e:s.nm=t.nm):s=t:=by obtain ⟨i,hi,rfl⟩:=zbf hs;obtain ⟨j,hj,rfl⟩:=zbf ht;have:i=j:=(zbK (xs:=shs.map (·.nm)) (h₀:=by simpa using hi) (h₁:=by simpa using hj) g.nd).mp (by simpa using e);subst this;rfl
def l4 {shs:List Sh}(g:GS shs){s:Sh}(hs:s∈shs):bm [.fl (shs.map df),.str s.nm]=some (df s):=by
 rw [vR];have key:∀(l:List Sh) (x2:Option R),(∀t∈l,t∈shs)->s∈l->dC (b7 2) eE (l.map df) [some (.v (.fl (shs.map df))),some (.v (.str s.nm)),x2] []=some (.rt (.v (df s)) []):=by
  intro l;induction l with
  |nil=>intro _ _ h;cases h
  |cons t l ih =>
   intro x2 hl hm;have o1:=(g.ok t (hl t zan)).2.ok 60;have o2:=(g.ok s hs).2.ok 60;rw [zaf,gr]
   cases c:(t.nm == s.nm) with
   |true =>
    have:=kN g (hl t zan) hs (by simpa using c);subst this;push_cast [eE,o1,jl,c]
   |false =>
    have hm:s∈l:=(zak.mp hm).resolve_left fun e=>(by rw [e] at c;simp at c);have e:eE [some (.v (.fl (shs.map df))),some (.v (.str s.nm)),some (.v (df t))] []=some (.nx [some (.v (.fl (shs.map df))),some (.v (.str s.nm)),some (.v (df t))] []):=by push_cast [eE,o1,o2,jl,c]
    simp only [w6,qz,yn,ym];rw [e,uI];exact ih _ (fun t ht=>hl t (zaj _ ht)) hm
 have k:=key shs none (fun _ h=>h) hs;push_cast [lP];rw [k];push_cast [HW.Bc]
def tH (key:Th){k:Nat}(h:key.length=k):aW [.tup (key.map .int),.int (k:Int)]=some .non:=by
 rw [qh];have e:((key.length:Int) == (k:Int))=true:=by rw [h];exact zc3 _
 push_cast [iw,zag,e,zbn]
def oM (key:Th){k:Nat}(h:key.length=k):uk aW [.tup (key.map .int),.int (k:Int)]=some .non/\uk aW [.key key,.int (k:Int)]=some .non:=by
 have e1:unkDs [.tup (key.map .int),.int (k:Int)]=[.tup (key.map .int),.int (k:Int)]:=by simp only [unkDs,eh,gC]
 have e2:unkDs [.key key,.int (k:Int)]=[.tup (key.map .int),.int (k:Int)]:=by simp only [unkDs,eh]
 exact ⟨(congrArg aW e1).trans (tH key h),(congrArg aW e2).trans (tH key h)⟩
theorem sW {lo hi:Option Int}(h:∀l r,lo=some l->hi=some r->l < r):cR [oD lo,oD hi]=some .non:=by
 rw [nZ]
 cases lo with
 |none=>cases hi <;> rfl
 |some l =>
  cases hi with
  |none=>rfl
  |some r =>
   have:=h l r rfl rfl;have hz:decide (r<=l)=false:=zay (by omega);push_cast [fT,oD,hz]
def L5 (x:Tl):bU [nF x]=some (.bl x.tl):=by
 rw [qE];obtain ⟨b,s,lo,hi,nm⟩:=x;cases b
 ·push_cast [gB,zas,if_false,k5,k6,q6]
 ·push_cast [gB,if_true,k5,q5]
theorem DG {sc:Int}{shs:List Sh}(g:GS shs){x:Tl}(h:GT sc shs x):bq [.fl (shs.map df),nF x]=some .non:=by
 rw [nY];obtain ⟨s,hs,hn,hl⟩:=h.sh;have se:=l4 g hs;rw [hn] at se;have ix4:∀U:ac,bh (.v (nF x)) (.v (.int 4)) U=some (.v (oD x.hi),U):=fun U=>rfl;have ix3:∀U:ac,bh (.v (nF x)) (.v (.int 3)) U=some (.v (oD x.lo),U):=fun U=>rfl;have ix2:∀U:ac,bh (.v (nF x)) (.v (.int 2)) U=some (.v (.tup (x.said.map .int)),U):=fun U=>rfl;have ix1:∀U:ac,bh (.v (nF x)) (.v (.int 1)) U=some (.v (.str x.nm),U):=fun U=>rfl;have te:=L5 x;have ch:=sW h.ok;have fl:cS (df s)=true:=rfl
 cases ht:x.tl with
 |true =>
  rw [ht] at te hl;have w:=(oM x.said hl).1;rw [if_pos rfl] at w;push_cast [dU,ix1,ix2,ix3,ix4,se,fl,te,w,ch]
 |false =>
  rw [ht] at te hl;have w:=(oM x.said hl).1;rw [if_neg (by simp)] at w;push_cast [dU,ix1,ix2,ix3,ix4,se,fl,te,w,ch]
open L2
structure Bk (U:ac)(s a b c:Nat)(shs:List Sh)(xs:List Tl)(kv:List (aH×D)):Prop where
 ob:U[s]?=some (.ob "Book" (AC a b c))
 sl:U[a]?=some (.lst (shs.map df))
 tl:U[b]?=some (.lst (xs.map bW))
 tb:U[c]?=some (.dct kv)
 ab:a≠b
section
variable {U:ac}{s a b c:Nat}{shs:List Sh}{xs:List Tl}{kv:List (aH×D)}{sc:Int}
def Bk.app (h:Bk U s a b c shs xs kv)(cs:List aq):Bk (U++cs) s a b c shs xs kv:=by
 have f:∀{i:Nat} {x:aq},U[i]?=some x->(U++cs)[i]?=some x:=fun {i x} e=>by rw [zai (dG e)];exact e
 exact ⟨f h.ob,f h.sl,f h.tl,f h.tb,h.ab⟩
def vP (x:Tl):eh (bW x)=nF x:=by
 have o:∀o:Option Int,eh (oD o)=oD o:=fun o=>by cases o <;> simp only [oD,eh]
 simp only [bW,nF,c8,eh,unkDs,o]
theorem xx:∀xs:List Tl,unkDs (xs.map bW)=xs.map nF
 |[]=>by simp only [za6,unkDs]
 |x::xs=>by rw [zaf,unkDs,vP,xx xs];rfl
def Ir (s:Sh):eh (df s)=df s:=by simp only [df,eh,unkDs]
theorem xy:∀l:List Sh,unkDs (l.map df)=l.map df
 |[]=>by simp only [za6,unkDs]
 |s::l=>by rw [zaf,unkDs,Ir,xy l]
def wq (n:Nat):(List.range (n+1)).map (fun k=>D.int (((n+1:Nat):Int)+(k:Nat) * (-1)))=.int ((n+1:Nat):Int)::(List.range n).map (fun k=>D.int ((n:Int)+(k:Nat) * (-1))):=by
 rw [List.range_succ_eq_map,zaf,zbj];refine congr (congrArg List.cons ?_) (zcQ fun k _=>?_)
 ·simp
 ·show D.int (((n+1:Nat):Int)+((k+1:Nat):Int) * (-1))=_
  congr 1;omega
theorem vd (h:Bk U s a b c shs xs kv)(hx:∀x∈xs,GT sc shs x){nm:Str}(hm:okN nm)(key:Th)(d t:Int):∀(n:Nat) (x5:Option R),n<=xs.length->∃y5,dC (b7 5) bV ((List.range n).map fun k=>D.int ((n:Int)+(k:Nat) * (-1))) [bC s,some (.v (.str nm)),some (.v (.key key)),bv d,bv t,x5] U =
  match mH (hits nm key d xs) n with
  |some m=>some (.rt (.v (.int (m:Int))) U)
  |none=>some (.nx [bC s,some (.v (.str nm)),some (.v (.key key)),bv d,bv t,y5] U)
 |0,x5,_=>⟨x5,rfl⟩
 |n+1,x5,hn=>by
  have hg:xs[n]?=some xs[n]:=zao (by omega);have gx:=hx _ (zbB (show n < xs.length by omega));have a1:=qc (f:=bW) hg;generalize xs[n]=x at hg gx a1
  have hh:hits nm key d xs n=vI nm key d x:=by unfold hits;rw [hg]
  have de:=xh gx.ok gx.nm hm key d
  have uk':uk eX [bW x,.str nm,.key key,.int d]=some (.bl (vI nm key d x)):=by
   have e:unkDs [bW x,.str nm,.key key,.int d]=[nF x,.str nm,.tup (key.map .int),.int d]:=by
    rw [unkDs,vP];simp only [unkDs,eh,gC]
   exact (congrArg eX e).trans de
  have sb:((n+1:Nat):Int) - 1=(n:Int):=by omega
  have bo:∀x5:Option R,bV [bC s,some (.v (.str nm)),some (.v (.key key)),bv d,bv t,bv (((n+1:Nat):Int))] U=if vI nm key d x=true then some (.rt (.v (.int ((n+1:Nat):Int))) U) else some (.nx [bC s,some (.v (.str nm)),some (.v (.key key)),bv d,bv t,bv (((n+1:Nat):Int))] U):=fun _=>by
   cases q:vI nm key d x with
   |true =>
    rw [q] at uk';push_cast [bV,jA,fL,h.ob,N9,h.tl,sb,a1,uk']
   |false =>
    rw [q] at uk';push_cast [bV,jA,fL,h.ob,N9,h.tl,sb,a1,uk',zas,if_false]
  rw [wq,show mH (hits nm key d xs) (n+1)=if hits nm key d xs n=true then some (n+1) else mH (hits nm key d xs) n from rfl,hh];obtain ⟨y5,ih⟩:=vd h hx hm key d t n (some (.v (.int ((n+1:Nat):Int)))) (by omega);rw [gr];simp only [w6,qz,yn,ym];rw [bo none]
  cases q:vI nm key d x with
  |true =>
   refine ⟨none,?_⟩;simp only [if_true,Nh]
  |false =>
   refine ⟨y5,?_⟩;simp only [zas,if_false,uI];exact ih
theorem xi (g:GS shs)(h:Bk U s a b c shs xs kv)(hx:∀x∈xs,GT sc shs x){sh:Sh}(hs:sh∈shs)(key:Th)(hk:key.length=sh.ks)(d t:Int):bX [.p s,.v (.str sh.nm),.v (.key key),.v (.int d),.v (.int t)] U=some (.v (Aq (mH (hits sh.nm key d xs) (c6 t xs.length))),U):=by
 rw [oR];have se:=l4 g hs;have fl:cS (df sh)=true:=rfl;have wi:=(oM key hk).2;have mn:∀U:ac,oa [.v (.int t),.v (.int (xs.length:Int))] U=some (.v (.int (if (xs.length:Int) < t then (xs.length:Int) else t)),U):=fun U=>rfl;obtain ⟨i,hi⟩:∃i:Int,i=if (xs.length:Int) < t then (xs.length:Int) else t:=⟨_,rfl⟩
 have hu:c6 t xs.length=i.toNat:=by rw [hi];unfold c6;split <;> omega
 have sn:gZ i 0 (-1)=i.toNat:=by unfold gZ Builtin.Range.rangeSize;simp only [show (-(-1:Int))=1 from rfl,Int.ediv_one];split <;> (try split) <;> omega
 have fr:∀(O:Lo) (U':ac),Ak (dQ oa (ae (af 4) (ae (dQ fP (ae (dP "Book" "tellings" (af 0)) ak)) ak))) (fK (.int 0)) (oH n9 (fK (.int 1))) O U'=(dQ oa (ae (af 4) (ae (dQ fP (ae (dP "Book" "tellings" (af 0)) ak)) ak)) O U').bind fun a=>match a.1 with|.v (.int i)=>some ((List.range (gZ i 0 (-1))).map fun n=>.int (i+(n:Nat) * (-1)),a.2)|_=>none:=fun O U'=>by
  unfold Ak
  cases dQ oa (ae (af 4) (ae (dQ fP (ae (dP "Book" "tellings" (af 0)) ak)) ak)) O U' with
  |none=>rfl
  |some r =>
   obtain ⟨r,U2⟩:=r
   cases r with
   |v d=>cases d <;> rfl
   |_=>rfl
 have lst:(List.range (gZ i 0 (-1))).map (fun n=>D.int (i+(n:Nat) * (-1)))=(List.range (c6 t xs.length)).map fun k=>D.int ((c6 t xs.length:Int)+(k:Nat) * (-1)):=by
  rw [sn,hu];by_cases c:0<=i
  ·rw [show ((i.toNat:Nat):Int)=i from zco c]
  ·rw [show i.toNat=0 by omega];rfl
 obtain ⟨y5,lo⟩:=vd h hx ((g.ok sh hs).2) key d t (c6 t xs.length) none (zcD _ _);have mi:(dQ oa (ae (af 4) (ae (dQ fP (ae (dP "Book" "tellings" (af 0)) ak)) ak))) [bC s,some (.v (.str sh.nm)),some (.v (.key key)),bv d,bv t,none] U=some (.v (.int i),U):=by rw [hi];push_cast [jA,fL,h.ob,N9,h.tl,zag,mn]
 have r3:(Ak (dQ oa (ae (af 4) (ae (dQ fP (ae (dP "Book" "tellings" (af 0)) ak)) ak))) (fK (.int 0)) (oH n9 (fK (.int 1)))) [bC s,some (.v (.str sh.nm)),some (.v (.key key)),bv d,bv t,none] U=some ((List.range (c6 t xs.length)).map fun k=>D.int ((c6 t xs.length:Int)+(k:Nat) * (-1)),U):=by rw [fr,mi,zar,←lst]
 have fo:=lo;rw [←mx (g:=b7 5) (b:=bV),←r3,←pV] at fo;have s1:cC (aL (uk aW) 2 (ae (bP (af 2)) (ae (bP (ar bh (dY bm 2 (ae (dP "Book" "shape_list" (af 0)) (ae (af 1) ak))) (fK (.int 1)))) ak))) [bC s,some (.v (.str sh.nm)),some (.v (.key key)),bv d,bv t,none] U=some (.nx [bC s,some (.v (.str sh.nm)),some (.v (.key key)),bv d,bv t,none] U):=by push_cast [jA,fL,h.ob,O2z,h.sl,se,fl,wi]
 rw [gP,mM s1,lK,fo]
 cases mH (hits sh.nm key d xs) (c6 t xs.length) with
 |none=>push_cast [HW.Bc];rfl
 |some m=>rfl
end
def Ig (n:Nat):Th:=(List.range (n+1)).map fun i:Nat=>(i:Int)
def Gq (n:Nat):(Ig n).length=n+1:=by simp [Ig]
def oI {n:Nat}{q:Int}:q∈Ig n ↔ 0<=q/\q<=n:=by unfold Ig;rw [zaJ];exact ⟨fun h=>by obtain ⟨i,hi,rfl⟩:=h;have:=zbV.mp hi;omega,fun h=>⟨q.toNat,zbV.mpr (by omega),by omega⟩⟩
def BP.mono {ES TS ES' TS':Th}{p:Pl}(h:BP ES TS p)(h1:∀e∈ES,e∈ES')(h2:∀e∈TS,e∈TS'):BP ES' TS' p:=⟨h.pf,fun e he=>h1 e (h.ge e he),fun q hq e he=>h1 e (h.re q hq e he),fun q hq=>h2 _ (h.te q hq)⟩
structure kz (sc:Int)(sh:Sh)(xs:List Tl)(T:List En):Prop where
 bp:∀e∈T,BP (EL sc) (Ig xs.length) e.2
 rw:∀e∈T,e.1.length=sh.w
 up:DT (T.map (·.1))
 ln:T.length<=xs.length
 sem:∀(r:Th) (d t:Int),r.length=sh.w->(r∈cT d t T ↔ vM xs sh.nm sh.ks r d t)
def kz.more {sc:Int}{sh:Sh}{xs:List Tl}{T:List En}(h:kz sc sh xs T){x:Tl}(hx:x.nm≠sh.nm):kz sc sh (xs++[x]) T :=
 ⟨fun e he=>(h.bp e he).mono (fun z hz=>hz) (fun z hz=>by rw [oI] at hz ⊢;rw [zaD];simp;omega),h.rw,h.up,by have:=h.ln;rw [zaD];simp;omega,fun r d t hr=>by rw [zo hx];exact h.sem r d t hr⟩
def Af (bt:Bool){sc:Int}{sh:Sh}{xs:List Tl}{T:List En}(h:kz sc sh xs T)(hk:sh.ks<=sh.w){x:Tl}(hx:x.nm=sh.nm)(ho:x.Ok)(he:∀z∈(st x.lo x.hi).2,z∈EL sc)(hs:x.tl=true->x.said.length=sh.w)(hn:xs.length<=39) :
  ∃A:List En,eT bt [.fl (T.map c9),.int (sh.ks:Int),bW x,.int ((xs.length:Int)+1)]=some (.lst (A.map c9))/\kz sc sh (xs++[x]) A:=by
 obtain ⟨A,hA,hu,hm⟩:=Eb bt ho (keys:=sh.ks) (a:=(xs.length:Int)+1) h.bp (by rw [xr];omega) (by rw [Gq];omega) h.rw hs (pG h.up) (by have:=h.ln;omega)
 have te:∀e∈T,∀q∈e.2.2,q.1 < (xs.length:Int)+1:=fun e he q hq=>by
  have:=oI.mp ((h.bp e he).te q hq);omega
 have bp':∀e∈T,BP (EL sc) (Ig (xs++[x]).length) e.2:=fun e he=>(h.bp e he).mono (fun z hz=>hz) (fun z hz=>by rw [oI] at hz ⊢;rw [zaD];simp;omega);have bp:=Ec ho bp' te hm he (oI.mpr (by rw [zaD];simp;omega))
 have rw':∀e∈A,e.1.length=sh.w/\e.1∈(cj x T).map (·.1):=fun e he=>by
  obtain ⟨h1,-⟩:=(hm e).mp he;obtain ⟨y,hy,rfl⟩:=zaJ.mp h1;rw [jS];refine ⟨?_,za1 hy⟩;rcases eL.mp hy with h2|⟨h2,_,rfl⟩
  ·exact h.rw y h2
  ·exact hs h2
 refine ⟨A,hA,fun e he=>(bp e he).1,fun e he=>(rw' e he).1,hu,?_,fun r d t hr=>Bo hx hk hr (Ea ho h.bp te hm t d r) (h.sem r d t hr)⟩
 have:=ja (A.map (·.1)) ((cj x T).map (·.1)) (pG hu) fun z hz=>by obtain ⟨e,he,rfl⟩:=zaJ.mp hz;exact (rw' e he).2
 rw [zag,zag] at this
 have el:(cj x T).length<=T.length+1:=by
  unfold cj;split
  ·simp
  ·omega
 have:=h.ln;rw [zaD];simp;omega
def mG (shs:List Sh)(Ts:Str->List En):List (aH×D):=shs.map fun s=>(.inr (some s.nm),.fl ((Ts s.nm).map c9))
theorem xu {shs:List Sh}(Ts:Str->List En){s:Sh}(hs:s∈shs):lW ((mG shs Ts).map fun p=>(p.1,R.v p.2)) (.inr (some s.nm))=some (.v (.fl ((Ts s.nm).map c9))):=by
 unfold mG;induction shs with
 |nil=>cases hs
 |cons t l ih =>
  unfold lW at ih ⊢;rw [zaf,zaf];by_cases c:t.nm=s.nm
  ·rw [zca (by simp [c]),c];rfl
  ·rw [zcb (by simp [c])];exact ih ((zak.mp hs).resolve_left fun e=>c (by rw [e]))
def JN {shs:List Sh}(Ts:Str->List En){s:Sh}(hs:s∈shs)(A:List En):hG (mG shs Ts) (.inr (some s.nm)) (.fl (A.map c9))=mG shs fun nm=>if nm=s.nm then A else Ts nm:=by
 have h1:((mG shs Ts).any fun kv=>decide (kv.1=.inr (some s.nm)))=true:=zbX.mpr ⟨_,za1 hs,by simp⟩;unfold hG;rw [if_pos h1];unfold mG;rw [zbj];refine zcQ fun t _=>?_;simp only [Function.comp];by_cases c:t.nm=s.nm
 ·rw [if_pos (by rw [c]),if_pos c]
 ·rw [if_neg (by simpa using c),if_neg c]
section
variable {U:ac}{s a b c:Nat}{shs:List Sh}{xs:List Tl}{sc:Int}
theorem Ef (bt:Bool)(g:GS shs){Ts:Str->List En}(h:Bk U s a b c shs xs (mG shs Ts)){x:Tl}(gx:GT sc shs x)(hT:∀s∈shs,kz sc s xs (Ts s.nm))(hn:xs.length<=39) :
  ∃(r:D) (U':ac) (Ts':Str->List En),bR bt [.p s,.v (bW x)] U=some (.v r,U')/\Bk U' s a b c shs (xs++[x]) (mG shs Ts')/\(∀s∈shs,kz sc s (xs++[x]) (Ts' s.nm))/\∀i y,i≠b->i≠c->U[i]?=some y->U'[i]?=some y:=by
 obtain ⟨sh,hsh,hnm,hwd⟩:=gx.sh;obtain ⟨A,hA,gA⟩:=Af bt (hT sh hsh) (g.ok sh hsh).1.1 hnm.symm gx.ok gx.ed (fun e=>by rw [hwd,if_pos e]) hn
 have hsb:s≠b:=fun e=>by have h1:=h.ob;rw [e,h.tl] at h1;cases h1
 have hsc:s≠c:=fun e=>by have h1:=h.ob;rw [e,h.tb] at h1;cases h1
 have hac:a≠c:=fun e=>by have h1:=h.sl;rw [e,h.tb] at h1;cases h1
 have hbc:b≠c:=fun e=>by have h1:=h.tl;rw [e,h.tb] at h1;cases h1
 have lb:=dG h.tl;have lc:=dG h.tb;obtain ⟨ν,hν⟩:∃ν,ν=U.set b (.lst ((xs++[x]).map bW)):=⟨_,rfl⟩
 have n1:ν[s]?=some (.ob "Book" (AC a b c)):=by rw [hν,zaz (Ne.symm hsb)];exact h.ob
 have n2:ν[a]?=some (.lst (shs.map df)):=by rw [hν,zaz (Ne.symm h.ab)];exact h.sl
 have n3:ν[b]?=some (.lst ((xs++[x]).map bW)):=by rw [hν,zaT lb]
 have n4:ν[c]?=some (.dct (mG shs Ts)):=by rw [hν,zaz hbc];exact h.tb
 have len:ν.length=U.length:=by rw [hν];simp
 refine ⟨.int ((xs.length:Int)+1),(ν++[aq.fz (A.map c9)]).set c (.dct (mG shs fun nm=>if nm=sh.nm then A else Ts nm)),fun nm=>if nm=sh.nm then A else Ts nm,?_,?_,?_,?_⟩
 ·rw [tN]
  have ix1:∀U:ac,bh (.v (bW x)) (.v (.int 1)) U=some (.v (.str x.nm),U):=fun U=>rfl
  have ck:uk bq [.fl (shs.map df),bW x]=some .non:=by
   have e:unkDs [.fl (shs.map df),bW x]=[.fl (shs.map df),nF x]:=by
    rw [unkDs,unkDs,vP];simp only [unkDs,eh,xy]
   exact (congrArg bq e).trans (DG g gx)
  have se:=l4 g hsh;rw [hnm] at se;have fl:cS (df sh)=true:=rfl;have fln:cS .non=true:=rfl
  have e1:cC (dY (uk bq) 2 (ae (dP "Book" "shape_list" (af 0)) (ae (af 1) ak))) [bC s,some (.v (bW x)),none,none,none] U=some (.nx [bC s,some (.v (bW x)),none,none,none] U):=by
   push_cast [jA,fL,h.ob,O2z,h.sl,ck,fln]
  have e2:aK 2 (ar bh (af 1) (fK (.int 1))) [bC s,some (.v (bW x)),none,none,none] U=some (.nx [bC s,some (.v (bW x)),some (.v (.str x.nm)),none,none] U):=by
   push_cast [ix1]
  have e3:aK 3 (ar bh (dY bm 2 (ae (dP "Book" "shape_list" (af 0)) (ae (af 2) ak))) (fK (.int 1))) [bC s,some (.v (bW x)),some (.v (.str x.nm)),none,none] U=some (.nx [bC s,some (.v (bW x)),some (.v (.str x.nm)),bv ((sh.ks:Int)),none] U):=by
   push_cast [jA,fL,h.ob,O2z,h.sl,se,fl]
  have zl:(xs.map bW).length < sizeLine:=i5 (by rw [zag];omega)
  have e4:cC (yC kq (dP "Book" "tellings" (af 0)) (ae (af 1) ak)) [bC s,some (.v (bW x)),some (.v (.str x.nm)),bv ((sh.ks:Int)),none] U=some (.nx [bC s,some (.v (bW x)),some (.v (.str x.nm)),bv ((sh.ks:Int)),none] ν):=by
   rw [hν,zaR];push_cast [jA,fL,h.ob,N9,h.tl,zl]
  have ln1:(((xs++[x]).map bW).length:Int)=(xs.length:Int)+1:=by simp
  have e5:aK 4 (dQ fP (ae (dP "Book" "tellings" (af 0)) ak)) [bC s,some (.v (bW x)),some (.v (.str x.nm)),bv ((sh.ks:Int)),none] ν=some (.nx [bC s,some (.v (bW x)),some (.v (.str x.nm)),bv ((sh.ks:Int)),bv (((xs.length:Int)+1))] ν):=by
   push_cast [jA,fL,n1,N9,n3,ln1]
  have vr:=xu Ts hsh;rw [hnm] at vr
  have kv1:sC (.p c) ν=some ((mG shs Ts).map fun p=>(p.1,R.v p.2)):=by rw [Lu,n4];rfl
  have kf:lg (.v (.str x.nm))=some (.inr (some x.nm)):=rfl
  have fx:uZ (dP "Book" "tables_now" (af 0)) (af 2) [bC s,some (.v (bW x)),some (.v (.str x.nm)),bv ((sh.ks:Int)),bv (((xs.length:Int)+1))] ν=some (.v (.fl ((Ts sh.nm).map c9)),ν):=by
   have:dP "Book" "tables_now" (af 0) [bC s,some (.v (bW x)),some (.v (.str x.nm)),bv ((sh.ks:Int)),bv (((xs.length:Int)+1))] ν=some (.p c,ν):=by push_cast [jA,fL,n1,QA]
   rw [Lv,this,GD]
   show xD (.p c) (some (.v (.str x.nm),ν))=_
   rw [GC,kv1]
   show (lW _ (.inr (some x.nm))).bind _=_
   rw [vr,hnm];rfl
  have flA:=pO A
  have cA:(ν++[aq.fz (A.map c9)])[s]?=some (.ob "Book" (AC a b c)):=by rw [zai (dG n1)];exact n1
  have cB:(ν++[aq.fz (A.map c9)])[c]?=some (.dct (mG shs Ts)):=by rw [zai (dG n4)];exact n4
  have zk:(mG shs Ts).length < sizeLine:=i5 (by unfold mG;rw [zag];have:=g.le;omega);have pk:=JN Ts hsh A;rw [hnm] at pk;have st1:(ν++[aq.lst (A.map c9)]).set ν.length (.fz (A.map c9))=ν++[aq.fz (A.map c9)]:=iG;rw [hnm] at fx
  have e6:pe (bP (bZ (eT bt) 4 (ae (uZ (dP "Book" "tables_now" (af 0)) (af 2)) (ae (af 3) (ae (af 1) (ae (af 4) ak)))))) (qx (dP "Book" "tables_now" (af 0)) (af 2)) [bC s,some (.v (bW x)),some (.v (.str x.nm)),bv ((sh.ks:Int)),bv (((xs.length:Int)+1))] ν=some (.nx [bC s,some (.v (bW x)),some (.v (.str x.nm)),bv ((sh.ks:Int)),bv (((xs.length:Int)+1))] ((ν++[aq.fz (A.map c9)]).set c (.dct (mG shs fun nm=>if nm=sh.nm then A else Ts nm)))):=by
   rw [hnm] at hA;push_cast [fx,hA,flA,yp,st1,jA,fL,cA,QA,cB,zk,kf,pk,hnm]
  rw [kj,mM e1,mM e2,mM e3,mM e4,mM e5,mM e6];rfl
 ·have lcν:c < (ν++[aq.fz (A.map c9)]).length:=by rw [zaD,len];omega
  have f:∀{i:Nat} {y:aq},i≠c->ν[i]?=some y->((ν++[aq.fz (A.map c9)]).set c (.dct (mG shs fun nm=>if nm=sh.nm then A else Ts nm)))[i]?=some y:=fun {i y} hi e=>by
   rw [zaz (Ne.symm hi),zai (dG e)];exact e
  exact ⟨f hsc n1,f hac n2,f hbc n3,zaT lcν,h.ab⟩
 ·intro t ht
  dsimp only
  by_cases e:t.nm=sh.nm
  ·rw [if_pos e,kN g ht hsh e];exact gA
  ·rw [if_neg e];exact (hT t ht).more fun z=>e (z ▸ hnm ▸ rfl)
 ·intro i y hb hc e
  have:ν[i]?=some y:=by rw [hν,zaz (Ne.symm hb)];exact e
  rw [zaz (Ne.symm hc),zai (dG this)];exact this
end
theorem qV:∀ns:Th,fX (ns.map D.int)=some ns
 |[]=>rfl
 |n::ns=>by simp only [zaf,fX,qV ns,zbp]
theorem oU:∀rows:Ta,tT (rows.map bN)=some rows
 |[]=>rfl
 |r::rows=>by
  have:AN (bN r)=some r:=by unfold AN;exact qV r
  simp only [zaf,tT,this,oU rows,zar]
def yg {n:Nat}(rows:Ta):dL (n+3) (.fl (rows.map bN))=true:=Co (sv (fun r=>ip (gq r)) rows)
def yJ (a:Ta):iO (.fl (a.map bN)) (.fl (a.map bN))=true:=by
 have:∀l:Ta,eqDs (l.map bN) (l.map bN)=true:=by
  intro l;induction l with
  |nil=>rfl
  |cons x l ih=>simp only [zaf,eqDs,ih,zcC,bN,iO,kO,zaK]
 simp only [iO,this]
theorem xT:∀(g:Rc) (qs:List (Int×Rc)) (t:Int),ra g qs t=g\/∃q∈qs,ra g qs t=q.2
 |g,[],_=>.inl rfl
 |g,q::qs,t=>by
  rw [ra];split
  ·exact .inl rfl
  ·rcases xT q.2 qs t with h|⟨p,hp,h⟩
   ·exact .inr ⟨q,zan,h⟩
   ·exact .inr ⟨p,zaj _ hp,h⟩
def zN {ES TS:Th}(hE:ES.length<=18){p:Pl}(h:BP ES TS p)(d t:Int):eW [jQ p,.int d,.int t]=some (.bl (jV p t d)):=by
 have hl:(ra p.1 p.2 t).2.length<=100/\(ra p.1 p.2 t).2.Pairwise (· < ·):=by
  have fin:∀r:Rc,r.2.Pairwise (· < ·)->(∀z∈r.2,z∈ES)->r.2.length<=100/\r.2.Pairwise (· < ·):=fun r h1 h2 =>
   ⟨by have:=ja _ _ (xw h1) h2;omega,h1⟩
  rcases xT p.1 p.2 t with e|⟨q,hq,e⟩ <;> rw [e]
  ·exact fin _ h.pf.gu h.ge
  ·exact fin _ (h.pf.ru q hq) (h.re q hq)
 rw [y4];have h1:=uf p.1 p.2 t;have h2:=yr (ra p.1 p.2 t) d hl.1;rw [show jW (ra p.1 p.2 t) d=jV p t d from kJ _ _ d hl.2] at h2;push_cast [nu,h1,h2]
def Dz {ES TS:Th}(hE:ES.length<=18){es:List En}(hb:∀e∈es,BP ES TS e.2)(hn:es.length < 64)(d t:Int):uk bj [.fl (es.map c9),.int d,.int t]=some (.lst ((cT d t es).map bN)):=by
 have eu:unkDs [.fl (es.map c9),.int d,.int t]=[.fl (es.map Lj),.int d,.int t]:=by simp only [unkDs,eh,xA]
 refine (congrArg bj eu).trans ?_;rw [AM];have z1:(es.map Lj).length<=sizeLine:=eA (by rw [zag];omega);have cm0:=vf (c:=j5 (aL eW 3 (ae (bP (af 1)) (ae (bP (af 2)) (ae (bP (af 3)) ak))))) (f:=af 0) (rest:=[bv d,bv t]) (U:=[]) (fun e:En=>bN e.1) (fun e=>jQ e.2) (fun e=>jV e.2 t d) (fun e=>bN e.1) es none none (fun e he=>by have h1:=zN hE (hb e he) d t;push_cast [h1]) (fun e _ _=>by push_cast [HW.Bc])
 have cm:cx (qX 2 (aN (b7 0) (aN (b7 1) eG))) (j5 (aL eW 3 (ae (bP (af 1)) (ae (bP (af 2)) (ae (bP (af 3)) ak))))) (af 0) (es.map Lj) (dR 2 [1,2] [some (.v (.fl (es.map Lj))),bv d,bv t]) []=some ((cT d t es).map bN,[]):=by rw [cT,zbj];exact cm0
 push_cast [p9,z1,cm]
def nq {T:List En}(h:DT (T.map (·.1)))(d t:Int):DT (cT d t T):=List.Pairwise.sublist (List.filter_sublist.map _) h
def mP (kvs:List (Th×D))(k:Th)(v:D):(l7 kvs k v).map (·.1)=if k∈kvs.map (·.1) then kvs.map (·.1) else kvs.map (·.1)++[k]:=by
 unfold l7;by_cases c:k∈kvs.map (·.1)
 ·have:(kvs.any fun p=>decide (p.1=k))=true:=by
   obtain ⟨p,hp,e⟩:=zaJ.mp c;exact zbX.mpr ⟨p,hp,by simpa using e⟩
  rw [if_pos this,if_pos c,zbj];refine zcQ fun p _=>?_;simp only [Function.comp];split <;> rfl
 ·have:¬ (kvs.any fun p=>decide (p.1=k))=true:=fun z=>by
   obtain ⟨p,hp,e⟩:=zbX.mp z;exact c (zaJ.mpr ⟨p,hp,by simpa using e⟩)
  rw [if_neg this,if_neg c];simp
theorem ni:∀ks:Ta,flatDs (ks.map D.key)=true
 |[]=>rfl
 |k::ks=>by rw [zaf,flatDs,ni ks];rfl
theorem zh (bt:Bool){sc:Int}{shs:List Sh}(g:GS shs){sh:Sh}(hsh:sh∈shs){xs:List Tl}(hx:∀x∈xs,GT sc shs x)(hn:xs.length<=60):∃keys:Ta,cJ bt [.fl (xs.map bW),.str sh.nm,.int (sh.ks:Int)]=some (.lst (keys.map D.key))/\keys.Nodup/\keys.length<=xs.length/\∀k,k∈keys ↔ ∃x∈xs,x.nm=sh.nm/\x.said.take sh.ks=k:=by
 rw [rS];have o2:=(g.ok sh hsh).2.ok 60;obtain ⟨⟨kvs,x4⟩,e,h1,h2,h3⟩:=jU (g:=b7 4) (b:=dq bt) bW
  (fun s:List (Th×D)×Option R=>([some (.v (.fl (xs.map bW))),some (.v (.str sh.nm)),bv ((sh.ks:Int)),bC 0,s.2],[aq.dt s.1]))
  (fun s rem=>(∀k,(k∈s.1.map (·.1)\/∃x∈rem,x.nm=sh.nm/\x.said.take sh.ks=k) ↔ ∃x∈xs,x.nm=sh.nm/\x.said.take sh.ks=k)/\(s.1.map (·.1)).Nodup/\(s.1.length+rem.length<=xs.length/\∀x∈rem,x∈xs)) xs ([],none) ⟨fun k=>by simp,.nil,by simp,fun _ h=>h⟩ (by
   rintro ⟨kvs,x4⟩ x rem ⟨h1,h2,h3,h4⟩;have hxm:=h4 x zan;have o1:=(hx x hxm).nm.ok 60;have h3:kvs.length+(rem.length+1)<=xs.length:=h3;have hz:kvs.length < 1000:=(by omega);have h1:∀k,(k∈kvs.map (·.1)\/∃y∈x::rem,y.nm=sh.nm/\y.said.take sh.ks=k) ↔ ∃x∈xs,x.nm=sh.nm/\x.said.take sh.ks=k:=h1;have hg:b7 4 (.v (bW x)) [some (.v (.fl (xs.map bW))),some (.v (.str sh.nm)),bv ((sh.ks:Int)),bC 0,x4] [aq.dt kvs]=some ([some (.v (.fl (xs.map bW))),some (.v (.str sh.nm)),bv ((sh.ks:Int)),bC 0,some (.v (bW x))],[aq.dt kvs]):=rfl;have ix1:∀U:ac,bh (.v (bW x)) (.v (.int 1)) U=some (.v (.str x.nm),U):=fun U=>rfl;have ix2:∀U:ac,bh (.v (bW x)) (.v (.int 2)) U=some (.v (.key x.said),U):=fun U=>rfl
   cases c:(x.nm == sh.nm) with
   |false =>
    refine ⟨(kvs,some (.v (bW x))),?_,fun k=>?_,h2,by show kvs.length+rem.length<=_;omega,fun y hy=>h4 y (zaj _ hy)⟩
    ·rw [hg,qz];push_cast [dq,ix1,o1,o2,jl,c]
    ·rw [←h1 k];have:¬ x.nm=sh.nm:=(by simpa using c);simp [this]
   |true =>
    have ce:x.nm=sh.nm:=(by simpa using c);have s4:=fun U=>Q2 x.said sh.ks U;have gs:qY (af 3) (wY (ar bh (af 4) (fK (.int 2))) eB (d8 (af 2))) (.v (.bl true)) [some (.v (.fl (xs.map bW))),some (.v (.str sh.nm)),bv ((sh.ks:Int)),bC 0,some (.v (bW x))] [aq.dt kvs]=some ([some (.v (.fl (xs.map bW))),some (.v (.str sh.nm)),bv ((sh.ks:Int)),bC 0,some (.v (bW x))],[aq.dt (l7 kvs (x.said.take sh.ks) (.bl true))]):=by
     have i1:wY (ar bh (af 4) (fK (.int 2))) eB (d8 (af 2)) [some (.v (.fl (xs.map bW))),some (.v (.str sh.nm)),bv ((sh.ks:Int)),bC 0,some (.v (bW x))] [aq.dt kvs]=some (.v (.key (x.said.take sh.ks)),[aq.dt kvs]):=by push_cast [Q6,Q5,Q4,Q3,ix2,s4]
     unfold qY
     show ((some ((R.p 0),[aq.dt kvs]):Option (R×ac)).bind fun o=>_)=_
     rw [zar];dsimp only;rw [i1,zar];dsimp only
     show (some kvs:Option (List (Th×D))).bind _=_
     rw [zar,if_pos hz];rfl
    refine ⟨(l7 kvs (x.said.take sh.ks) (.bl true),some (.v (bW x))),?_,fun k=>?_,?_,?_,fun y hy=>h4 y (zaj _ hy)⟩
    ·rw [hg,qz];push_cast [dq,ix1,o1,o2,jl,c,gs]
    ·rw [←h1 k]
     show (k∈(l7 kvs (x.said.take sh.ks) (.bl true)).map (·.1)\/_) ↔ _
     rw [mP];have m1:(∃y∈x::rem,y.nm=sh.nm/\y.said.take sh.ks=k) ↔ x.said.take sh.ks=k\/∃y∈rem,y.nm=sh.nm/\y.said.take sh.ks=k:=by simp [ce]
     rw [m1];split
     ·rename_i q;constructor
      ·rintro (h|h)
       ·exact .inl h
       ·exact .inr (.inr h)
      ·rintro (h|h|h)
       ·exact .inl h
       ·exact .inl (h ▸ q)
       ·exact .inr h
     ·rw [zaU,zau,or_assoc,eq_comm (a:=k)]
    ·show ((l7 kvs (x.said.take sh.ks) (.bl true)).map (·.1)).Nodup
     rw [mP];split
     ·exact h2
     ·rename_i q;rw [zbc];exact ⟨h2,by simp,fun a ha b hb=>by rw [zau.mp hb];rintro rfl;exact q ha⟩
    ·show (l7 kvs (x.said.take sh.ks) (.bl true)).length+rem.length<=_
     have:=congrArg List.length (mP kvs (x.said.take sh.ks) (.bl true));rw [zag] at this
     rw [this];split <;> simp <;> omega)
 have h1:∀k,(k∈kvs.map (·.1)\/∃x∈([]:List Tl),x.nm=sh.nm/\x.said.take sh.ks=k) ↔ ∃x∈xs,x.nm=sh.nm/\x.said.take sh.ks=k:=h1;have h1:∀k,k∈kvs.map (·.1) ↔ ∃x∈xs,x.nm=sh.nm/\x.said.take sh.ks=k:=fun k=>by rw [←h1 k];simp
 have h2:(kvs.map (·.1)).Nodup:=h2;have h3:kvs.length<=xs.length:=h3.1;have kl:∀k∈kvs.map (·.1),k.length=sh.ks:=fun k hk=>by obtain ⟨x,hxm,hn,rfl⟩:=(h1 k).mp hk;obtain ⟨s',hs',hn',hw'⟩:=(hx x hxm).sh;have:=kN g hs' hsh (hn'.trans hn);subst this;have:=(g.ok s' hsh).1;rw [zbr,hw'];split <;> omega
 have few:kvs.length < 64/\(kvs.length < 2\/∀p∈kvs,p.1≠[]):=by
  refine ⟨by omega,?_⟩;by_cases z:sh.ks=0
  ·refine .inl ?_;have:=ja (kvs.map (·.1)) [[]] h2 fun k hk=>by
    have:=kl k hk;rw [z] at this
    rw [zbI.mp this];exact zan
   rw [zag] at this
   simp at this;omega
  ·refine .inr fun p hp e=>?_;have:=kl p.1 (za1 hp);rw [e] at this
   simp at this;omega
 have fl:=ni (br (kvs.map (·.1)));have st':zg [.p 0] [aq.dt kvs]=some (.p 1,[aq.dt kvs,.lst ((br (kvs.map (·.1))).map D.key)]):=by unfold zg;dsimp only;rw [show xf [aq.dt kvs] 0=some kvs from rfl,zar,if_pos few];rfl
 refine ⟨br (kvs.map (·.1)),?_,(bI _).nodup_iff.mpr h2,by rw [(bI _).length_eq,zag];exact h3,fun k=>by rw [(bI _).mem_iff];exact h1 k⟩;have dn:∀O:Lo,FV O []=some (.p 0,[aq.dt []]):=fun O=>rfl;have e:dC (b7 4) (dq bt) (xs.map bW) [some (.v (.fl (xs.map bW))),some (.v (.str sh.nm)),bv ((sh.ks:Int)),bC 0,none] [aq.dt []]=_:=e;push_cast [jr,dn];rw [e];push_cast [st']
def iI (xs:List Tl):Option Nat->Option (Th)
 |none=>none
 |some k=>match xs[k - 1]? with|some x=>if x.tl=true then some x.said else none|none=>none
section
variable {U:ac}{s a b c lt:Nat}{shs:List Sh}{xs:List Tl}{kv:List (aH×D)}{sc d t:Int}{sh:Sh}
abbrev ss (s:Nat)(sh:Sh)(lt:Nat)(d t:Int)(x8 x9 x10:Option R):Lo:=[bC s,some (.v (df sh)),bC lt,bv d,bv t,some (.v (.str sh.nm)),bv ((sh.ks:Int)),bv ((sh.w:Int)),x8,x9,x10]
theorem wp (bt:Bool)(g:GS shs)(hs:sh∈shs)(h:Bk U s a b c shs xs kv)(hx:∀x∈xs,GT sc shs x)(hl:U[lt]?=some (.lst (xs.map bW))){n:Nat}{D:Ta}(hD:U[n]?=some (.lst (D.map bN)))(hn:D.length < 100)(key:Th)(hk:key.length=sh.ks)(x10:Option R) :
  ∃y10,dN bt (ss s sh lt d t (some (.p n)) (some (.v (.key key))) x10) U=some (.nx (ss s sh lt d t (some (.p n)) (some (.v (.key key))) y10) (match iI xs (mH (hits sh.nm key d xs) (c6 t xs.length)) with|some r=>U.set n (.lst ((D++[r]).map bN))|none=>U)):=by
 have hd:=xi g h hx hs key hk d t;have m7:=lN (nm:="decided") (w:=bX) (n:=5) (fo:=af 0) (fa:=ae (af 5) (ae (af 9) (ae (af 3) (ae (af 4) ak)))) (O:=ss s sh lt d t (some (.p n)) (some (.v (.key key))) x10) (U:=U) (s:=s) (rs:=[.v (.str sh.nm),.v (.key key),.v (.int d),.v (.int t)]) (U1:=U) rfl h.ob (by decide) (by decide) (by decide) rfl rfl;refine ⟨some (.v (Aq (mH (hits sh.nm key d xs) (c6 t xs.length)))),?_⟩
 have e1:aK 10 (fZ "Book" "decided" bX 5 (af 0) (ae (af 5) (ae (af 9) (ae (af 3) (ae (af 4) ak))))) (ss s sh lt d t (some (.p n)) (some (.v (.key key))) x10) U=some (.nx (ss s sh lt d t (some (.p n)) (some (.v (.key key))) (some (.v (Aq (mH (hits sh.nm key d xs) (c6 t xs.length)))))) U):=by
  rw [j7,m7,hd];rfl
 rw [dN,mM e1]
 cases ho:mH (hits sh.nm key d xs) (c6 t xs.length) with
 |none=>push_cast [Aq,iI]
 |some k =>
  obtain ⟨m,rfl,hm,hh⟩:=kP _ ho;have hu:c6 t xs.length<=xs.length:=zcD _ _;have hg:xs[m]?=some xs[m]:=zao (by omega);have a1:=qc (f:=bW) hg;generalize hxx:xs[m]=x at hg a1;have mn:∀U:ac,oa [.v (.int t),.v (.int (xs.length:Int))] U=some (.v (.int (if (xs.length:Int) < t then (xs.length:Int) else t)),U):=fun U=>rfl;have c1:decide (((m+1:Nat):Int) < 1)=false:=zay (by omega)
  have c2:decide ((if (xs.length:Int) < t then (xs.length:Int) else t) < ((m+1:Nat):Int))=false:=zay (by
   have:m < min t.toNat xs.length:=hm
   split <;> omega)
  have sb:((m+1:Nat):Int) - 1=(m:Int):=by omega
  have ix2:∀U:ac,bh (.v (bW x)) (.v (.int 2)) U=some (.v (c8 x),U):=fun U=>rfl
  have ro:iI xs (some (m+1))=if x.tl=true then some x.said else none:=by
   show (match xs[m+1 - 1]? with|some x=>if x.tl=true then some x.said else none|none=>none)=_
   rw [zcY,hg]
  rw [ro];have zl:D.length < sizeLine:=i5 (by omega);have us:=rP x
  cases ht:x.tl with
  |true =>
   have ix0:∀U:ac,bh (.v (bW x)) (.v (.int 0)) U=some (.v (.str "tell"),U):=fun U=>by
    show some (R.v (.str (if x.tl=true then "tell" else "strike")),U)=_
    rw [if_pos ht]
   push_cast [Aq,c1,zag,hl,mn,c2,sb,a1,ix0,ix2,k5,q5,hD,HZ,zar,us,zl,zaR]
  |false =>
   have ix0:∀U:ac,bh (.v (bW x)) (.v (.int 0)) U=some (.v (.str "strike"),U):=fun U=>by
    show some (R.v (.str (if x.tl=true then "tell" else "strike")),U)=_
    rw [if_neg (by simp [ht])]
   push_cast [Aq,c1,zag,hl,mn,c2,sb,a1,ix0,k5,k6,q6,zas,if_false]
theorem lA (bt:Bool)(g:GS shs)(hs:sh∈shs)(h:Bk U s a b c shs xs kv)(hx:∀x∈xs,GT sc shs x)(hl:U[lt]?=some (.lst (xs.map bW)))(L:aq):∀(keys:Ta) (D:Ta) (x9 x10:Option R),D.length+keys.length < 100->(∀k∈keys,k.length=sh.ks)->∃y9 y10,
  dC (b7 9) (dN bt) (keys.map .key) (ss s sh lt d t (some (.p U.length)) x9 x10) (U++[.lst (D.map bN),L])=some (.nx (ss s sh lt d t (some (.p U.length)) y9 y10) (U++[.lst ((D++keys.filterMap fun k=>iI xs (mH (hits sh.nm k d xs) (c6 t xs.length))).map bN),L]))
 |[],D,x9,x10,_,_=>⟨x9,x10,by simp only [za6,List.filterMap_nil,za2];rfl⟩
 |k::keys,D,x9,x10,hn,hk=>by
  rw [zaB] at hn;have h1:=h.app [.lst (D.map bN),L]
  have hl1:(U++[aq.lst (D.map bN),L])[lt]?=some (.lst (xs.map bW)):=by rw [zai (dG hl)];exact hl
  have hD:(U++[aq.lst (D.map bN),L])[U.length]?=some (.lst (D.map bN)):=by simp
  obtain ⟨y10,e⟩:=wp (d:=d) (t:=t) bt g hs h1 hx hl1 hD (by omega) k (hk k zan) x10
  have st':∀X:aq,(U++[aq.lst (D.map bN),L]).set U.length X=U++[X,L]:=fun X=>by simp
  rw [zaf,gr];have hg:b7 9 (.v (.key k)) (ss s sh lt d t (some (.p U.length)) x9 x10) (U++[aq.lst (D.map bN),L])=some (ss s sh lt d t (some (.p U.length)) (some (.v (.key k))) x10,U++[aq.lst (D.map bN),L]):=rfl;rw [hg,qz,e,uI]
  cases q:iI xs (mH (hits sh.nm k d xs) (c6 t xs.length)) with
  |none =>
   obtain ⟨z9,z10,e2⟩:=lA bt g hs h hx hl L keys D (some (.v (.key k))) y10 (by omega) fun x hx=>hk x (zaj _ hx);refine ⟨z9,z10,?_⟩;rw [zbY (f:=fun k=>iI xs (mH (hits sh.nm k d xs) (c6 t xs.length))) q];exact e2
  |some r =>
   obtain ⟨z9,z10,e2⟩:=lA bt g hs h hx hl L keys (D++[r]) (some (.v (.key k))) y10 (by simp;omega) fun x hx=>hk x (zaj _ hx);refine ⟨z9,z10,?_⟩;rw [zbu (f:=fun k=>iI xs (mH (hits sh.nm k d xs) (c6 t xs.length))) q];dsimp only;rw [st'];rw [zbb] at e2;exact e2
theorem qG (g:GS shs)(hs:sh∈shs){Ts:Str->List En}(h:Bk U s a b c shs xs (mG shs Ts)):bf [.p s,.v (.str sh.nm)] U=some (.p U.length,U++[.lst ((Ts sh.nm).map c9)]):=by
 rw [rW];have se:=l4 g hs;have fl:cS (df sh)=true:=rfl;have vr:=xu Ts hs;have kv1:sC (.p c) U=some ((mG shs Ts).map fun p=>(p.1,R.v p.2)):=by rw [Lu,h.tb];rfl
 have fx:uZ (dP "Book" "tables_now" (af 0)) (af 1) [bC s,some (.v (.str sh.nm))] U=some (.v (.fl ((Ts sh.nm).map c9)),U):=by
  have:dP "Book" "tables_now" (af 0) [bC s,some (.v (.str sh.nm))] U=some (.p c,U):=by push_cast [jA,fL,h.ob,QA]
  rw [Lv,this,GD]
  show xD (.p c) (some (.v (.str sh.nm),U))=_
  rw [GC,kv1]
  show (lW _ (.inr (some sh.nm))).bind _=_
  rw [vr];rfl
 have e1:cC (dY bm 2 (ae (dP "Book" "shape_list" (af 0)) (ae (af 1) ak))) [bC s,some (.v (.str sh.nm))] U=some (.nx [bC s,some (.v (.str sh.nm))] U):=by push_cast [jA,fL,h.ob,O2z,h.sl,se,fl]
 rw [jx,mM e1];push_cast [pS,u4,fm,fx,eK,jj,eJ,pW];rfl
def Dv (g:GS shs)(hs:sh∈shs)(hx:∀x∈xs,GT sc shs x){keys:Ta}(nd:keys.Nodup)(hk:∀k,k∈keys ↔ ∃x∈xs,x.nm=sh.nm/\x.said.take sh.ks=k) :
  (∀r,r∈(keys.filterMap fun k=>iI xs (mH (hits sh.nm k d xs) (c6 t xs.length))) ↔ r.length=sh.w/\vM xs sh.nm sh.ks r d t)/\(keys.filterMap fun k=>iI xs (mH (hits sh.nm k d xs) (c6 t xs.length))).Nodup:=by
 have kl:∀k∈keys,k.length=sh.ks:=fun k hk'=>by
  obtain ⟨x,hxm,hn,rfl⟩:=(hk k).mp hk';obtain ⟨s',hs',hn',hw'⟩:=(hx x hxm).sh;have:=kN g hs' hs (hn'.trans hn);subst this;have:=(g.ok s' hs).1;rw [zbr,hw'];split <;> omega
 have key:∀k∈keys,∀r,iI xs (mH (hits sh.nm k d xs) (c6 t xs.length))=some r->r.take sh.ks=k/\r.length=sh.w/\vM xs sh.nm sh.ks r d t:=fun k hk' r e=>by
  cases ho:mH (hits sh.nm k d xs) (c6 t xs.length) with
  |none=>rw [ho] at e;cases e
  |some z =>
   obtain ⟨m,rfl,hm,hh⟩:=kP _ ho;rw [ho] at e;unfold iI at e;dsimp only at e;rw [zcY] at e;unfold hits at hh
   cases hg:xs[m]? with
   |none=>rw [hg] at e;cases e
   |some x =>
    rw [hg] at e hh;dsimp only at e hh;split at e
    ·rename_i ht
     cases e;unfold vI at hh;rw [za4,za4,decide_eq_true_eq,kl k hk'] at hh;obtain ⟨h1,h2,-⟩:=hh
     have h1:x.nm=sh.nm:=by simpa using h1
     obtain ⟨s',hs',hn',hw'⟩:=(hx x (zaH hg)).sh;have:=kN g hs' hs (hn'.trans h1);subst this;rw [if_pos ht] at hw';refine ⟨h2,hw',m,x,?_,hg,ht,rfl⟩;rw [h2];exact ho
    ·cases e
 refine ⟨fun r=>?_,?_⟩
 ·rw [zcU]
  constructor
  ·rintro ⟨k,hk',e⟩
   exact (key k hk' r e).2
  ·rintro ⟨hr,m,x,h1,h2,h3,h4⟩
   obtain ⟨m',e',hm,hh⟩:=kP _ h1
   have e':m=m':=by omega
   subst e';unfold hits at hh;rw [h2] at hh;dsimp only at hh;unfold vI at hh;rw [za4,za4,decide_eq_true_eq] at hh
   have hn:x.nm=sh.nm:=by simpa using hh.1
   refine ⟨r.take sh.ks,(hk _).mpr ⟨x,zaH h2,hn,by rw [h4]⟩,?_⟩;rw [h1];unfold iI;dsimp only;rw [zcY,h2];dsimp only;rw [if_pos h3,h4]
 ·have nd':=List.Pairwise.and_mem.mp nd
  refine List.Pairwise.filterMap _ ?_ nd';intro a a' haa r hr r' hr' e;obtain ⟨ha,ha',hne⟩:=haa;subst e;exact hne ((key a ha r hr).1.symm.trans (key a' ha' r hr').1)
def NM {w:Nat}{L:Ta}(hn:L.length < 64)(hr:∀r∈L,r.length=w)(nd:L.Nodup):L.Nodup/\L.length < 64/\(L.length < 2\/∀k∈L,k≠[]):=by
 refine ⟨nd,hn,?_⟩;by_cases z:w=0
 ·refine .inl ?_;have:=ja L [[]] nd fun x hx=>by
   have:=hr x hx;rw [z] at this
   rw [zbI.mp this];exact zan
  simp at this;omega
 ·refine .inr fun k hk e=>?_;have:=hr k hk;rw [e] at this
  simp at this;omega
def Bt (bt:Bool)(g:GS shs)(hs:sh∈shs){Ts:Str->List En}(h:Bk U s a b c shs xs (mG shs Ts))(hx:∀x∈xs,GT sc shs x)(hT:kz sc sh xs (Ts sh.nm))(hn:xs.length<=40)(hl:U[lt]?=some (.lst (xs.map bW))):∃cs,d3 bt [.p s,.v (df sh),.p lt,.v (.int d),.v (.int t)] U=some (.v (.bl true),U++cs):=by
 rw [tK];obtain ⟨keys,hsp,knd,kln,hk⟩:=zh bt g hs hx (by omega);obtain ⟨hm,hnd⟩:=Dv (d:=d) (t:=t) g hs hx knd hk;obtain ⟨D,hD⟩:∃D,D=keys.filterMap fun k=>iI xs (mH (hits sh.nm k d xs) (c6 t xs.length)):=⟨_,rfl⟩;rw [←hD] at hm hnd;have kl:∀k∈keys,k.length=sh.ks:=fun k hk'=>by obtain ⟨x,hxm,hn,rfl⟩:=(hk k).mp hk';obtain ⟨s',hs',hn',hw'⟩:=(hx x hxm).sh;have:=kN g hs' hs (hn'.trans hn);subst this;have:=(g.ok s' hs).1;rw [zbr,hw'];split <;> omega
 obtain ⟨y9,y10,lo⟩:=lA (d:=d) (t:=t) bt g hs h hx hl (.fz (keys.map .key)) keys [] none none (by simp;omega) kl;rw [za3,←hD] at lo;have Dl:D.length<=keys.length:=by rw [hD];exact List.length_filterMap_le _ _
 have cD:cT d t (Ts sh.nm)=br D:=by
  refine l9 (nq hT.up d t) (jT hnd) (((List.perm_ext_iff_of_nodup (pG (nq hT.up d t)) hnd).mpr fun r=>?_).trans (bI D).symm);rw [hm r];constructor
  ·intro q;obtain ⟨e,he,rfl,-⟩:=(jm d t _ r).mp q;exact ⟨hT.rw e he,(hT.sem _ d t (hT.rw e he)).mp q⟩
  ·rintro ⟨h1,h2⟩;exact (hT.sem r d t h1).mpr h2
 have fl:=ni keys;have e1:pe (af 1) (qX 3 (aN (b7 5) (aN (b7 6) (aN (b7 7) eG)))) [bC s,some (.v (df sh)),bC lt,bv d,bv t,none,none,none,none,none,none] U=some (.nx (ss s sh lt d t none none none) U):=by push_cast [HW.Bc]
 have e2:aK 8 (cN ak) (ss s sh lt d t none none none) U=some (.nx (ss s sh lt d t (some (.p U.length)) none none) (U++[.lst []])):=by push_cast [HW.Bc]
 have hl1:(U++[aq.lst []])[lt]?=some (.lst (xs.map bW)):=by rw [zai (dG hl)];exact hl
 have e3:i7 (cw (bZ (cJ bt) 3 (ae (af 2) (ae (af 5) (ae (af 6) ak))))) (b7 9) (dN bt) (ss s sh lt d t (some (.p U.length)) none none) (U++[.lst []])=some (.nx (ss s sh lt d t (some (.p U.length)) y9 y10) (U++[.lst (D.map bN),.fz (keys.map .key)])):=by
  have:cw (bZ (cJ bt) 3 (ae (af 2) (ae (af 5) (ae (af 6) ak)))) (ss s sh lt d t (some (.p U.length)) none none) (U++[.lst []])=some (keys.map .key,U++[.lst [],.fz (keys.map .key)]):=by have st':(U++[aq.lst []]++[aq.lst (keys.map HW.D.key)]).set (U++[aq.lst []]).length (.fz (keys.map .key))=U++[aq.lst []]++[.fz (keys.map .key)]:=iG;rw [show U++[aq.lst [],aq.fz (keys.map HW.D.key)]=U++[aq.lst []]++[.fz (keys.map .key)] by simp];generalize U++[aq.lst []]=ν at hl1 st' ⊢;push_cast [hl1,hsp,fl,yp,st']
  rw [pV,this,mx];exact lo
 obtain ⟨ν,hν⟩:∃ν,ν=U++[.lst (D.map bN),.fz (keys.map .key)]:=⟨_,rfl⟩;have b2:Bk ν s a b c shs xs (mG shs Ts):=by rw [hν];exact h.app _
 have tg:=qG g hs b2;have m7:=lN (nm:="table") (w:=bf) (n:=2) (fo:=af 0) (fa:=ae (af 5) ak) (O:=ss s sh lt d t (some (.p U.length)) y9 y10) (U:=ν) (s:=s) (rs:=[.v (.str sh.nm)]) (U1:=ν) rfl b2.ob (by decide) (by decide) (by decide) rfl rfl;have ce:=Dz (ES:=EL sc) (TS:=Ig xs.length) (by rw [xr];omega) hT.bp (by have:=hT.ln;omega) d t;have fr:∀l:Ta,flatDs (l.map bN)=true:=by
  intro l;induction l with
  |nil=>rfl
  |cons r l ih =>
   have h1:∀ns:Th,flatDs (ns.map HW.D.int)=true:=fun ns=>by
    induction ns with
    |nil=>rfl
    |cons n ns ih=>rw [zaf,flatDs,ih];rfl
   rw [zaf,flatDs,ih]
   show (flatDs (r.map HW.D.int) && true)=true
   rw [h1];rfl
 have f1:=fr (cT d t (Ts sh.nm));have c1:(bZ (uk bj) 3 (ae (fZ "Book" "table" bf 2 (af 0) (ae (af 5) ak)) (ae (af 3) (ae (af 4) ak)))) (ss s sh lt d t (some (.p U.length)) y9 y10) ν=some (.p (ν.length+1),ν++[.lst ((Ts sh.nm).map c9),.lst ((cT d t (Ts sh.nm)).map bN)]):=by rw [u3,fm,m7,tg];push_cast [yp,ce,f1];simp
 have few:=NM (w:=sh.w) (L:=D) (by omega) (fun r hr=>((hm r).mp hr).1) hnd;have gD:∀cs:List aq,(ν++cs)[U.length]?=some (.lst (D.map bN)):=fun cs=>by rw [hν];simp
 have c2:∀cs:List aq,t6 [.p U.length] (ν++cs)=some (.p (ν++cs).length,ν++cs++[.lst ((br D).map bN)]):=fun cs=>by unfold t6 wg;dsimp only;rw [gD cs];dsimp only;rw [zar,oU,zar,if_pos few]
 have okr:∀l:Ta,dL 60 (.fl (l.map bN))=true:=fun l=>yg l;have eqr:=yJ (br D);refine ⟨[.lst (D.map bN),.fz (keys.map .key)]++[.lst ((Ts sh.nm).map c9),.lst ((cT d t (Ts sh.nm)).map bN)]++[.lst ((br D).map bN)],?_⟩;rw [kh,mM e1,mM e2,mM e3,←hν];have o1:∀cs:List aq,(ν++[aq.lst ((Ts sh.nm).map c9),.lst ((cT d t (Ts sh.nm)).map bN)]++cs)[ν.length+1]?=some (.lst ((br D).map bN)):=fun cs=>by rw [cD];simp
 have fin:bD (ar (fS false) (bZ (uk bj) 3 (ae (fZ "Book" "table" bf 2 (af 0) (ae (af 5) ak)) (ae (af 3) (ae (af 4) ak)))) (dQ t6 (ae (af 8) ak))) (ss s sh lt d t (some (.p U.length)) y9 y10) ν=some (.rt (.v (.bl true)) (ν++[aq.lst ((Ts sh.nm).map c9),.lst ((cT d t (Ts sh.nm)).map bN)]++[.lst ((br D).map bN)])):=by rw [pS,nQ,c1,j8];have v8:dQ t6 (ae (af 8) ak) (ss s sh lt d t (some (.p U.length)) y9 y10) (ν++[aq.lst ((Ts sh.nm).map c9),.lst ((cT d t (Ts sh.nm)).map bN)])=_:=c2 _;rw [v8,lL];push_cast [o1,yp,okr,eqr]
 rw [fin,hν]
 show some (R.v (.bl true),_)=_
 simp only [zbb]
end
def Gb (ns:Th)(k:Nat):∃c,cL [.fl (ns.map .int),.int (k:Int)]=some (.int c):=by
 rw [vV];by_cases h:k < ns.length
 ·have c0:decide ((k:Int) < (ns.length:Int))=true:=zaK (by omega);have c1:L2.mI (ns.map D.int) (k:Int)=some (.int ns[k]):=qc (zao h);exact ⟨ns[k],by push_cast [ju,zag,c0,c1]⟩
 ·have c0:decide ((k:Int) < (ns.length:Int))=false:=zay (by omega);exact ⟨0,by push_cast [ju,zag,c0]⟩
theorem rA (x0:Option R)(U:ac):∀(l:List Sh) (x0:Option R) (U:ac),cx (b7 0) jo (du (ae (ar bh (af 0) (fK (.int 0))) (ae (bP (cN ak)) ak))) (l.map df) [x0] U=some (l.map fun s=>.tup [.str s.nm,.fl []],U++List.replicate l.length (aq.fz []))
 |[],x0,U=>by simp only [za6,zbk,List.replicate_zero,za2];rfl
 |s::l,x0,U=>by
  have h1:(du (ae (ar bh (af 0) (fK (.int 0))) (ae (bP (cN ak)) ak))) [some (.v (df s))] U=some (.v (.tup [.str s.nm,.fl []]),U++[aq.fz []]):=by have st1:(U++[aq.lst []]).set U.length (.fz [])=U++[aq.fz []]:=iG;push_cast [yp,st1]
  have ih:=rA x0 U l (some (.v (df s))) (U++[aq.fz []]);simp only [zaf,cx,b7,zcv,zar,jo,if_true,h1,ih];simp [List.replicate_succ]
theorem uz:∀l:List Sh,mR (l.map fun s=>.tup [.str s.nm,.fl []])=some (l.map fun s=>(.inr (some s.nm),.fl []))
 |[]=>rfl
 |s::l=>by rw [zaf,mR,uz l];rfl
theorem xX:∀(l:List Sh) (k0:List (aH×D)),(k0.map (·.1)++l.map fun s=>(.inr (some s.nm):aH)).Nodup->aU k0 (l.map fun s=>((.inr (some s.nm):aH),D.fl []))=k0++l.map fun s=>(.inr (some s.nm),D.fl [])
 |[],k0,_=>by simp [aU]
 |s::l,k0,nd=>by
  have hn:¬ (k0.any fun p=>decide (p.1=.inr (some s.nm)))=true:=fun z=>by obtain ⟨p,hp,h⟩:=zbX.mp z;have h:p.1=.inr (some s.nm):=(by simpa using h);exact (zbc.mp nd).2.2 p.1 (za1 hp) _ (by simp) h
  show aU (hG k0 (.inr (some s.nm)) (.fl [])) (l.map _)=_
  unfold hG;rw [if_neg hn,xX l _ (by simpa using nd)];simp
theorem Fy {shs:List Sh}(g:GS shs)(L0:aq):∃c cs,cG [.p 1,.v (.fl (shs.map df))] [L0,.ob "Book" []]=some (.v .non,[L0,.ob "Book" (AC 2 3 c),.lst (shs.map df),.lst []]++cs)/\([L0,.ob "Book" (AC 2 3 c),.lst (shs.map df),.lst []]++cs)[c]?=some (.dct (mG shs fun _=>[])):=by
 have e1:l6 "Book" "shape_list" (af 0) (dQ pI (ae (af 1) ak)) [bC 1,some (.v (.fl (shs.map df)))] [L0,.ob "Book" []]=some (.nx [bC 1,some (.v (.fl (shs.map df)))] [L0,.ob "Book" [("shape_list",.p 2)],.lst (shs.map df)]):=rfl;have e2:l6 "Book" "tellings" (af 0) (cN ak) [bC 1,some (.v (.fl (shs.map df)))] [L0,.ob "Book" [("shape_list",.p 2)],.lst (shs.map df)]=some (.nx [bC 1,some (.v (.fl (shs.map df)))] [L0,.ob "Book" [("shape_list",.p 2),("tellings",.p 3)],.lst (shs.map df),.lst []]):=by rfl
 obtain ⟨ν,hν⟩:∃ν:ac,ν=[L0,.ob "Book" [("shape_list",.p 2),("tellings",.p 3)],.lst (shs.map df),.lst []]:=⟨_,rfl⟩;have cr:=rA none [] shs none ν;have z0:shs.length<=sizeLine:=eA (by have:=g.le;omega);obtain ⟨cs,hcs⟩:∃cs:List aq,cs=List.replicate shs.length (aq.fz [])++[.lst (shs.map fun s=>.tup [.str s.nm,.fl []])]:=⟨_,rfl⟩;have nd:(([]:List (aH×D)).map (·.1)++shs.map fun s=>(.inr (some s.nm):aH)).Nodup:=by
  have:(shs.map fun s=>(.inr (some s.nm):aH))=(shs.map (·.nm)).map fun n=>.inr (some n):=by rw [zbj];rfl
  rw [za6,za3,this];exact List.Pairwise.map _ (fun a b h e=>h (by simpa using e)) g.nd
 have pu:=xX shs [] nd;rw [za3] at pu;have dS:nR [.p (ν++List.replicate shs.length (aq.fz [])).length] (ν++cs)=some (.p (ν++cs).length,ν++cs++[.dct (mG shs fun _=>[])]):=by unfold nR;rw [hcs,←zbb];dsimp only;rw [wI];dsimp only;rw [uz,zar,pu];rfl
 have ev:dQ nR (ae (eI [] 1 (cw (af 1)) (b7 0) jo (du (ae (ar bh (af 0) (fK (.int 0))) (ae (bP (cN ak)) ak)))) ak) [bC 1,some (.v (.fl (shs.map df)))] ν=some (.p (ν++cs).length,ν++cs++[.dct (mG shs fun _=>[])]):=by
  have:eI [] 1 (cw (af 1)) (b7 0) jo (du (ae (ar bh (af 0) (fK (.int 0))) (ae (bP (cN ak)) ak))) [bC 1,some (.v (.fl (shs.map df)))] ν=some (.p (ν++List.replicate shs.length (aq.fz [])).length,ν++cs):=by rw [hcs,←zbb];push_cast [zag,z0,cr]
  rw [u4,fm,this,eK,jj,eJ,pW,dS]
 refine ⟨(ν++cs).length,cs++[.dct (mG shs fun _=>[])],?_,?_⟩
 ·rw [tO];have e3:l6 "Book" "tables_now" (af 0) (dQ nR (ae (eI [] 1 (cw (af 1)) (b7 0) jo (du (ae (ar bh (af 0) (fK (.int 0))) (ae (bP (cN ak)) ak)))) ak)) [bC 1,some (.v (.fl (shs.map df)))] ν=some (.nx [bC 1,some (.v (.fl (shs.map df)))] ([L0,.ob "Book" (AC 2 3 (ν++cs).length),.lst (shs.map df),.lst []]++(cs++[.dct (mG shs fun _=>[])]))):=by unfold l6;rw [ev];subst hν;rfl
  rw [ko,mM e1,mM e2,←hν,e3];rfl
 ·rw [←zbb];have:([L0,.ob "Book" (AC 2 3 (ν++cs).length),.lst (shs.map df),.lst []]++cs).length=(ν++cs).length:=by rw [zaD,zaD,hν];rfl
  rw [←this];exact wI
section
variable {U U':ac}{s a b c:Nat}{r:D}
theorem DO (bt:Bool){x:Tl}(hs:U[s]?=some (.ob "Book" (AC a b c)))(h:bR bt [.p s,.v (bW x)] U=some (.v r,U')):d5 bt [.p s,.v (bW x)] U=some (.v r,U'):=by
 rw [tL];obtain ⟨tl,said,lo,hi,nm⟩:=x;have sz5:5<=sizeLine:=by decide
 have ix4:∀U:ac,bh (.v (bW ⟨tl,said,lo,hi,nm⟩)) (.v (.int 4)) U=some (.v (oD hi),U):=fun U=>rfl;have ix3:∀U:ac,bh (.v (bW ⟨tl,said,lo,hi,nm⟩)) (.v (.int 3)) U=some (.v (oD lo),U):=fun U=>rfl;have ix2:∀U:ac,bh (.v (bW ⟨tl,said,lo,hi,nm⟩)) (.v (.int 2)) U=some (.v (c8 ⟨tl,said,lo,hi,nm⟩),U):=fun U=>rfl;have ix1:∀U:ac,bh (.v (bW ⟨tl,said,lo,hi,nm⟩)) (.v (.int 1)) U=some (.v (.str nm),U):=fun U=>rfl;have fa:(ae (ar bh (af 1) (fK (.int 1))) (ae (ar bh (af 1) (fK (.int 2))) (ae (ar bh (af 1) (fK (.int 3))) (ae (ar bh (af 1) (fK (.int 4))) ak)))) [bC s,some (.v (bW ⟨tl,said,lo,hi,nm⟩))] U=some ([.v (.str nm),.v (c8 ⟨tl,said,lo,hi,nm⟩),.v (oD lo),.v (oD hi)],U):=by push_cast [ix1,ix2,ix3,ix4]
 cases tl with
 |true =>
  have m1:=lN (nm:="tell") (w:=d6 bt) (n:=5) (fo:=af 0) (O:=[bC s,some (.v (bW ⟨true,said,lo,hi,nm⟩))]) (s:=s) rfl hs (by decide) (by decide) (by decide) fa rfl;have m2:=lN (nm:="take") (w:=bR bt) (n:=2) (fo:=af 0) (fa:=ae (du (ae (fK (.str "tell")) (ae (af 1) (ae (af 2) (ae (af 3) (ae (af 4) ak)))))) ak) (O:=[bC s,some (.v (.str nm)),some (.v (c8 ⟨true,said,lo,hi,nm⟩)),some (.v (oD lo)),some (.v (oD hi))]) (U:=U) (U1:=U) (s:=s) (rs:=[.v (bW ⟨true,said,lo,hi,nm⟩)]) rfl hs (by decide) (by decide) (by decide) (by push_cast [sz5];rfl) rfl;have w1:d6 bt [.p s,.v (.str nm),.v (c8 ⟨true,said,lo,hi,nm⟩),.v (oD lo),.v (oD hi)] U=some (.v r,U'):=by rw [tM,ki,pS,m2,h];rfl
  have ix0:∀U:ac,bh (.v (bW ⟨true,said,lo,hi,nm⟩)) (.v (.int 0)) U=some (.v (.str "tell"),U):=fun U=>rfl;rw [ie];push_cast [ix0,k5,q5];rw [m1,w1];rfl
 |false =>
  have m1:=lN (nm:="strike") (w:=cV bt) (n:=5) (fo:=af 0) (O:=[bC s,some (.v (bW ⟨false,said,lo,hi,nm⟩))]) (s:=s) rfl hs (by decide) (by decide) (by decide) fa rfl;have m2:=lN (nm:="take") (w:=bR bt) (n:=2) (fo:=af 0) (fa:=ae (du (ae (fK (.str "strike")) (ae (af 1) (ae (af 2) (ae (af 3) (ae (af 4) ak)))))) ak) (O:=[bC s,some (.v (.str nm)),some (.v (c8 ⟨false,said,lo,hi,nm⟩)),some (.v (oD lo)),some (.v (oD hi))]) (U:=U) (U1:=U) (s:=s) (rs:=[.v (bW ⟨false,said,lo,hi,nm⟩)]) rfl hs (by decide) (by decide) (by decide) (by push_cast [sz5];rfl) rfl;have w1:cV bt [.p s,.v (.str nm),.v (c8 ⟨false,said,lo,hi,nm⟩),.v (oD lo),.v (oD hi)] U=some (.v r,U'):=by rw [qi,iz,pS,m2,h];rfl
  have ix0:∀U:ac,bh (.v (bW ⟨false,said,lo,hi,nm⟩)) (.v (.int 0)) U=some (.v (.str "strike"),U):=fun U=>rfl;rw [ie];push_cast [ix0,k5,k6,q6];rw [m1,w1];rfl
end
abbrev rl (ns:Th)(shs:List Sh)(sc:Int)(lt:Nat)(x5 x6 x7 x8 x9 x10:Option R):Lo:=[some (.v (.fl (ns.map .int))),some (.v (.fl (shs.map df))),bv sc,bC 1,bC lt,x5,x6,x7,x8,x9,x10]
structure nB (sc:Int)(shs:List Sh)(c lt:Nat)(U:ac)(xs:List Tl)(Ts:Str->List En):Prop where
 bk:Bk U 1 2 3 c shs xs (mG shs Ts)
 lw:U[lt]?=some (.lst (xs.map bW))
 gt:∀x∈xs,GT sc shs x
 ok:∀s∈shs,kz sc s xs (Ts s.nm)
section
variable {shs:List Sh}{c lt:Nat}{U:ac}{xs:List Tl}{Ts:Str->List En}{ns:Th}{sc:Int}
def nB.app (h:nB sc shs c lt U xs Ts)(cs:List aq):nB sc shs c lt (U++cs) xs Ts :=
 ⟨h.bk.app cs,by rw [zai (dG h.lw)];exact h.lw,h.gt,h.ok⟩
def zQ (bt:Bool)(g:GS shs)(hs:0 < sc)(hl:lt≠1/\lt≠2/\lt≠3/\lt≠c)(h:nB sc shs c lt U xs Ts)(hn:xs.length<=39)(cell:Int)(x6 x7 x8 x9 x10:Option R):∃x U' Ts',kL bt (rl ns shs sc lt (some (.v (.int cell))) x6 x7 x8 x9 x10) U=some (.nx (rl ns shs sc lt (some (.v (.int cell))) x6 x7 x8 x9 x10) U')/\nB sc shs c lt U' (xs++[x]) Ts':=by
 obtain ⟨x,gx,ht⟩:=v4 cell sc hs g;obtain ⟨U1,hU1⟩:∃U1,U1=U.set lt (.lst ((xs++[x]).map bW)):=⟨_,rfl⟩;have f:∀{i:Nat} {y:aq},lt≠i->U[i]?=some y->U1[i]?=some y:=fun {i y} hi e=>by rw [hU1,zaz hi];exact e
 have b1:Bk U1 1 2 3 c shs xs (mG shs Ts):=⟨f hl.1 h.bk.ob,f hl.2.1 h.bk.sl,f hl.2.2.1 h.bk.tl,f hl.2.2.2 h.bk.tb,h.bk.ab⟩;have l1:U1[lt]?=some (.lst ((xs++[x]).map bW)):=by rw [hU1,zaT (dG h.lw)]
 obtain ⟨r,U2,Ts',e2,b2,t2,k2⟩:=Ef bt g b1 gx h.ok hn;have e2:=DO bt b1.ob e2;have l2:=k2 lt _ hl.2.2.1 hl.2.2.2 l1;have zl:(xs.map bW).length < sizeLine:=i5 (by rw [zag];omega);have al:=yS bW (xs++[x]) x (by simp);refine ⟨x,U2,Ts',?_,⟨b2,l2,fun y hy=>?_,t2⟩⟩
 ·have s1:cC (yC kq (af 4) (ae (aL cW 3 (ae (bP (af 5)) (ae (bP (af 1)) (ae (bP (af 2)) ak)))) ak)) (rl ns shs sc lt (some (.v (.int cell))) x6 x7 x8 x9 x10) U=some (.nx (rl ns shs sc lt (some (.v (.int cell))) x6 x7 x8 x9 x10) U1):=by
   rw [hU1,zaR];push_cast [ht,h.lw,zl]
  have s2:cC (j6 (d5 bt) 2 (ae (af 3) (ae (ar bh (af 4) (oH n9 (fK (.int 1)))) ak))) (rl ns shs sc lt (some (.v (.int cell))) x6 x7 x8 x9 x10) U1=some (.nx (rl ns shs sc lt (some (.v (.int cell))) x6 x7 x8 x9 x10) U2):=by
   push_cast [l1,al,Lw,GF,e2]
  rw [kL,mM s1,s2]
 ·rcases zaU.mp hy with hy|hy
  ·exact h.gt y hy
  ·rw [zau.mp hy];exact gx
def rq {sh:Sh}{T:List En}(h:kz sc sh xs T)(d:Int){t:Int}(ht:t<=0):cT d t T=[]:=by
 refine List.eq_nil_iff_forall_not_mem.mpr fun r q=>?_;obtain ⟨e,he,rfl,-⟩:=(jm d t _ r).mp q;obtain ⟨m,x,h1,-⟩:=(h.sem _ d t (h.rw e he)).mp q;have:c6 t xs.length=0:=by unfold c6;omega
 rw [this] at h1;cases h1
def Dy {sh:Sh}{T:List En}(h:kz sc sh xs T)(d:Int){t:Int}(ht:(xs.length:Int)<=t):cT d t T=cT d (xs.length:Int) T:=by
 refine l9 (nq h.up d t) (nq h.up d _) ((List.perm_ext_iff_of_nodup (pG (nq h.up d t)) (pG (nq h.up d _))).mpr fun r=>?_);have key:∀{u:Int} {r:Th},r∈cT d u T->r.length=sh.w:=fun {u r} q=>by obtain ⟨e,he,rfl,-⟩:=(jm d u _ r).mp q;exact h.rw e he
 have u1:c6 t xs.length=c6 (xs.length:Int) xs.length:=by unfold c6;omega
 have two:vM xs sh.nm sh.ks r d t ↔ vM xs sh.nm sh.ks r d (xs.length:Int):=by unfold vM;rw [u1]
 constructor
 ·intro q;have:=key q;exact (h.sem r d _ this).mpr (two.mp ((h.sem r d t this).mp q))
 ·intro q;have:=key q;exact (h.sem r d t this).mpr (two.mpr ((h.sem r d _ this).mp q))
theorem Aj:∀l:Ta,flatDs (l.map bN)=true:=by
 intro l;induction l with
 |nil=>rfl
 |cons r l ih =>
  have h1:∀ns:Th,flatDs (ns.map HW.D.int)=true:=fun ns=>by
   induction ns with
   |nil=>rfl
   |cons n ns ih=>rw [zaf,flatDs,ih];rfl
  rw [zaf,flatDs,ih]
  show (flatDs (r.map HW.D.int) && true)=true
  rw [h1];rfl
theorem zP (bt:Bool)(g:GS shs)(h:nB sc shs c lt U xs Ts)(hn:xs.length<=40)(cell:Int)(x7 x8 x9 x10:Option R):∃U' y7 y8 y9 y10,kK bt (rl ns shs sc lt (some (.v (.int cell))) (some (.v (.int (xs.length:Int)))) x7 x8 x9 x10) U=some (.nx (rl ns shs sc lt (some (.v (.int cell))) (some (.v (.int (xs.length:Int)))) y7 y8 y9 y10) U')/\nB sc shs c lt U' xs Ts:=by
 obtain ⟨n,hn1,-,-⟩:=gY cell 8 (by decide);obtain ⟨sh,hsh,a1⟩:=B9 df shs n g.pos;have mS:=fun U=>bT n (j:=(shs.length:Int)) (by have:=g.pos;omega) U;obtain ⟨d,t,hw⟩:=D5 cell sc (xs:=xs) fun x hx=>(h.gt x hx).nm;have hu:uk dj [.int cell,.int 9,.fl (xs.map bW),.int sc]=some (.tup [.int d,.int t]):=by
  have e:unkDs [.int cell,.int 9,.fl (xs.map bW),.int sc]=[.int cell,.int 9,.fl (xs.map nF),.int sc]:=by simp only [unkDs,eh,xx]
  exact (congrArg dj e).trans hw
 have fl2:cS (.tup [.int d,.int t])=true:=rfl;have gT:=h.ok sh hsh;obtain ⟨cs1,e3⟩:=Bt (d:=d) (t:=t) bt g hsh h.bk h.gt gT hn h.lw;have h1:=h.app cs1;have tg:=qG g hsh h1.bk;obtain ⟨P,hP⟩:∃P:Int,P=10 ^ (40:Int).toNat:=⟨_,rfl⟩;have hpow:∀U:ac,iL (.v (.int 10)) (.v (.int 40)) U=some (.v (.int P),U):=fun U=>by rw [w4 (by decide),hP]
 have hP0:0 < P:=by rw [hP];exact Int.pow_pos (by decide)
 clear hP;have bz:=dw cell (j:=P) hP0;obtain ⟨T,hT⟩:∃T,T=Ts sh.nm:=⟨_,rfl⟩;rw [←hT] at gT tg;have ce:=fun u:Int=>Dz (ES:=EL sc) (TS:=Ig xs.length) (by rw [xr];omega) gT.bp (by have:=gT.ln;omega) d u;obtain ⟨ν,hν⟩:∃ν,ν=U++cs1:=⟨_,rfl⟩;rw [←hν] at e3 h1 tg;have k0:∀cs:List aq,(ν++[CB T]++cs)[ν.length]?=some (.lst (T.map c9)):=fun cs=>by simp
 have call:∀(O:Lo) (fd ft:FE) (cs:List aq) (u:Int),(∀Y:ac,af 10 O Y=some (.p ν.length,Y))->(∀Y:ac,fd O Y=some (.v (.int d),Y))->(∀Y:ac,ft O Y=some (.v (.int u),Y)) ->
   bZ (uk bj) 3 (ae (af 10) (ae fd (ae ft ak))) O (ν++[CB T]++cs)=some (.p (ν++[CB T]++cs).length,ν++[CB T]++cs++[.lst ((cT d u T).map bN)]):=by
  intro O fd ft cs u h0 h1 h2;have f1:=Aj (cT d u T);simp only [u3,fm,h0,h1,h2,eK,eJ,jj,NU,NN,KI,KH,KG,K2,K3,k0 cs,K4,NT,zaB,zbk,zci,Nat.reduceAdd,if_true,ce u,NS,KY,f1]
 obtain ⟨O,hO⟩:∃O:Lo,O=rl ns shs sc lt (some (.v (.int cell))) (some (.v (.int (xs.length:Int)))) (some (.v (df sh))) (some (.v (.int d))) (some (.v (.int t))) (some (.p ν.length)):=⟨_,rfl⟩;have v10:∀Y:ac,af 10 O Y=some (.p ν.length,Y):=fun Y=>by rw [hO];rfl
 have v8:∀Y:ac,af 8 O Y=some (.v (.int d),Y):=fun Y=>by rw [hO];rfl
 have v6:∀Y:ac,af 6 O Y=some (.v (.int (xs.length:Int)),Y):=fun Y=>by rw [hO];rfl
 have vt:∀Y:ac,(ar cO (ar cO (af 6) (fK (.int 1))) (ar bO (af 5) (ar iL (fK (.int 10)) (fK (.int 40))))) O Y=some (.v (.int ((xs.length:Int)+1+cell % P)),Y):=fun Y=>by rw [hO];push_cast [hpow,bT cell (j:=P) hP0]
 have vz:∀Y:ac,fK (.int 0) O Y=some (.v (.int 0),Y):=fun Y=>rfl;have vn:∀Y:ac,(ar iU (fK (.int 0)) (ar bO (af 5) (ar iL (fK (.int 10)) (fK (.int 40))))) O Y=some (.v (.int (0 - cell % P)),Y):=fun Y=>by rw [hO];push_cast [hpow,bT cell (j:=P) hP0]
 have okr:∀l:Ta,dL 60 (.fl (l.map bN))=true:=fun l=>yg l;have ok0:dL 60 (.fl [])=true:=rfl;have eqr:=yJ (cT d (xs.length:Int) T);have cl:=Dy gT d (t:=(xs.length:Int)+1+cell % P) (by omega);have c0:=rq gT d (t:=0) (Int.le_refl _);have cn:=rq gT d (t:=0 - cell % P) (by omega);have s1:aK 7 (ar bh (af 1) (ar bO (aL aR 2 (ae (bP (af 5)) (ae (fK (.int 8)) ak))) (dQ fP (ae (af 1) ak)))) (rl ns shs sc lt (some (.v (.int cell))) (some (.v (.int (xs.length:Int)))) x7 x8 x9 x10) U=some (.nx (rl ns shs sc lt (some (.v (.int cell))) (some (.v (.int (xs.length:Int)))) (some (.v (df sh))) x8 x9 x10) U):=by push_cast [hn1,zag,mS,a1]
 have s2:pe (dY (uk dj) 4 (ae (af 5) (ae (fK (.int 9)) (ae (af 4) (ae (af 2) ak))))) (qX 2 (aN (b7 8) (aN (b7 9) eG))) (rl ns shs sc lt (some (.v (.int cell))) (some (.v (.int (xs.length:Int)))) (some (.v (df sh))) x8 x9 x10) U=some (.nx (rl ns shs sc lt (some (.v (.int cell))) (some (.v (.int (xs.length:Int)))) (some (.v (df sh))) (some (.v (.int d))) (some (.v (.int t))) x10) U):=by push_cast [h.lw,hu,fl2]
 have s3:gm (tW (j5 (j6 (d3 bt) 5 (ae (af 3) (ae (af 7) (ae (af 4) (ae (af 8) (ae (af 9) ak)))))))) (bD (fK (.bl false))) aT (rl ns shs sc lt (some (.v (.int cell))) (some (.v (.int (xs.length:Int)))) (some (.v (df sh))) (some (.v (.int d))) (some (.v (.int t))) x10) U=some (.nx (rl ns shs sc lt (some (.v (.int cell))) (some (.v (.int (xs.length:Int)))) (some (.v (df sh))) (some (.v (.int d))) (some (.v (.int t))) x10) ν):=by push_cast [Lw,GF,e3]
 have m4:=lN (nm:="table") (w:=bf) (n:=2) (fo:=af 3) (fa:=ae (ar bh (af 7) (fK (.int 0))) ak) (O:=rl ns shs sc lt (some (.v (.int cell))) (some (.v (.int (xs.length:Int)))) (some (.v (df sh))) (some (.v (.int d))) (some (.v (.int t))) x10) (U:=ν) (s:=1) (rs:=[.v (.str sh.nm)]) (U1:=ν) rfl h1.bk.ob (by decide) (by decide) (by decide) rfl rfl;have s4:aK 10 (fZ "Book" "table" bf 2 (af 3) (ae (ar bh (af 7) (fK (.int 0))) ak)) (rl ns shs sc lt (some (.v (.int cell))) (some (.v (.int (xs.length:Int)))) (some (.v (df sh))) (some (.v (.int d))) (some (.v (.int t))) x10) ν=some (.nx O (ν++[.lst (T.map c9)]++[])):=by rw [j7,m4,tg,hO,za2];rfl
 have ca:=call O (af 8) (af 6) [] (xs.length:Int) v10 v8 v6;have cb:=call O (af 8) (ar cO (ar cO (af 6) (fK (.int 1))) (ar bO (af 5) (ar iL (fK (.int 10)) (fK (.int 40))))) [.lst ((cT d (xs.length:Int) T).map bN)] ((xs.length:Int)+1+cell % P) v10 v8 vt;rw [cl] at cb;obtain ⟨R1,hR1⟩:∃R1:aq,R1=.lst ((cT d (xs.length:Int) T).map bN):=⟨_,rfl⟩;have s5:gm (fB (ar (fS true) (bZ (uk bj) 3 (ae (af 10) (ae (af 8) (ae (af 6) ak)))) (bZ (uk bj) 3 (ae (af 10) (ae (af 8) (ae (ar cO (ar cO (af 6) (fK (.int 1))) (ar bO (af 5) (ar iL (fK (.int 10)) (fK (.int 40))))) ak)))))) (bD (fK (.bl false))) aT O (ν++[.lst (T.map c9)]++[])=some (.nx O (ν++[.lst (T.map c9)]++[R1,R1])):=by
  rw [pU,Dp,nQ,ca,j8,show ν++[CB T]++[]++[aq.lst ((cT d (xs.length:Int) T).map bN)]=ν++[CB T]++[.lst ((cT d (xs.length:Int) T).map bN)] by simp,cb,lL,K0,Dd,Dd,yp];have g1:(ν++[CB T]++[aq.lst ((cT d (xs.length:Int) T).map bN)]++[aq.lst ((cT d (xs.length:Int) T).map bN)])[(ν++[CB T]++[]).length]?=some (.lst ((cT d (xs.length:Int) T).map bN)):=by simp
  rw [g1];push_cast [okr,eqr,zbn];rw [hR1];simp
 have cc:=call O (af 8) (fK (.int 0)) [R1,R1] 0 v10 v8 vz;rw [c0] at cc;have cd:=call O (af 8) (ar iU (fK (.int 0)) (ar bO (af 5) (ar iL (fK (.int 10)) (fK (.int 40))))) [R1,R1,.lst [],.lst []] (0 - cell % P) v10 v8 vn;rw [cn] at cd;obtain ⟨κ,hκ⟩:∃κ,κ=ν++[CB T]++[R1,R1]:=⟨_,rfl⟩;have cd':bZ (uk bj) 3 (ae (af 10) (ae (af 8) (ae (ar iU (fK (.int 0)) (ar bO (af 5) (ar iL (fK (.int 10)) (fK (.int 40))))) ak))) O (κ++[aq.lst []]++[aq.lst []])=some (.p (κ++[aq.lst []]++[aq.lst []]).length,κ++[aq.lst []]++[aq.lst []]++[.lst []]):=by
  have e:κ++[aq.lst []]++[aq.lst []]=ν++[CB T]++[R1,R1,.lst [],.lst []]:=by rw [hκ];simp
  rw [e];exact cd
 rw [←hκ] at cc;have ne0:∀(f:FE) (Y:ac),f O Y=some (.p Y.length,Y++[.lst []])->fB (ar (fS true) f (cN ak)) O Y=some (false,Y++[.lst []]++[.lst []]):=by
  intro f Y hf;have g1:(Y++[aq.lst []]++[aq.lst []])[Y.length]?=some (.lst []):=by simp
  have e0:iO (.fl []) (.fl [])=true:=rfl;push_cast [Dp,nQ,hf,j8,g1,yp,ok0,e0,zbn]
 have s6:gm (v5 (fB (ar (fS true) (bZ (uk bj) 3 (ae (af 10) (ae (af 8) (ae (fK (.int 0)) ak)))) (cN ak))) (fB (ar (fS true) (bZ (uk bj) 3 (ae (af 10) (ae (af 8) (ae (ar iU (fK (.int 0)) (ar bO (af 5) (ar iL (fK (.int 10)) (fK (.int 40))))) ak)))) (cN ak)))) (bD (fK (.bl false))) aT O κ=some (.nx O (κ++[aq.lst []]++[aq.lst []]++[aq.lst []]++[aq.lst []])):=by rw [pU,KJ,ne0 _ κ cc,FY];simp only [zas,if_false];rw [ne0 _ _ cd'];rfl
 refine ⟨κ++[aq.lst []]++[aq.lst []]++[aq.lst []]++[aq.lst []],some (.v (df sh)),bv d,bv t,bC ν.length,?_,?_⟩
 ·rw [kK,mM s1,mM s2,mM s3,mM s4,mM s5,←hκ,s6,hO]
 ·have e:κ++[aq.lst []]++[aq.lst []]++[aq.lst []]++[aq.lst []]=ν++([CB T]++[R1,R1]++[aq.lst []]++[aq.lst []]++[aq.lst []]++[aq.lst []]):=by rw [hκ];simp
  rw [e];exact h1.app _
end
theorem CJ (bt:Bool)(ns:Th)(hl:ns.length<=63):uG bt [.fl (ns.map .int)]=some (.bl true):=by
 rw [LB];obtain ⟨c0,hc0⟩:=Gb ns 0;have hc0:cL [.fl (ns.map .int),.int 0]=some (.int c0):=hc0;obtain ⟨shs,g,hsh⟩:=zj c0;obtain ⟨P,hP⟩:∃P:Int,P=10 ^ (40:Int).toNat:=⟨_,rfl⟩;have hpow:∀U:ac,iL (.v (.int 10)) (.v (.int 40)) U=some (.v (.int P),U):=fun U=>by rw [w4 (by decide),hP]
 have hP0:0 < P:=by rw [hP];exact Int.pow_pos (by decide)
 clear hP;obtain ⟨sc,hsm,hsc⟩:=B8 [1,1,P] (c0 % 3) (dw c0 (j:=3) (by decide));have hs0:0 < sc:=by
  rcases zak.mp hsm with rfl|h
  ·decide
  ·rcases zak.mp h with rfl|h
   ·decide
   ·rw [zau.mp h];exact hP0
 have hsc:L2.mI [D.int 1,.int 1,.int P] (c0 % 3)=some (.int sc):=hsc;obtain ⟨c,cs,hi,hd⟩:=Fy g (.lst [.int 1,.int 1,.int P]);obtain ⟨U0,hU0⟩:∃U0:ac,U0=[.lst [.int 1,.int 1,.int P],.ob "Book" (AC 2 3 c),.lst (shs.map df),.lst []]++cs:=⟨_,rfl⟩;rw [←hU0] at hi hd;have l0:4<=U0.length:=by rw [hU0];simp
 have b0:Bk U0 1 2 3 c shs [] (mG shs fun _=>[]):=⟨by rw [hU0];rfl,by rw [hU0];rfl,by rw [hU0];rfl,hd,by decide⟩;have lc:=dG hd;have g0:nB sc shs c U0.length (U0++[.lst []]) [] fun _=>[]:=⟨b0.app _,wI,(fun _ h=>nomatch h),fun s _=>⟨(fun _ h=>nomatch h),(fun _ h=>nomatch h),.nil,zam _,fun r d t _=>⟨(fun h=>nomatch h),fun ⟨m,x,_,h2,_⟩=>by cases h2⟩⟩⟩;have hlt:U0.length≠1/\U0.length≠2/\U0.length≠3/\U0.length≠c:=by omega
 have cut:∀k:Nat,mz (ns.map D.int) none (some (k:Int))=(ns.take k).map .int:=fun k=>pZ ns k;have cut30:mz (ns.map D.int) none (some 30)=(ns.take 30).map .int:=cut 30;have cut63:mz (ns.map D.int) none (some 63)=(ns.take 63).map .int:=cut 63;obtain ⟨⟨xs,U1,Ts,x5⟩,e1,h1,hx1⟩:=jU (g:=b7 5) (b:=kL bt) D.int
  (fun s:List Tl×ac×(Str->List En)×Option R=>(rl ns shs sc U0.length s.2.2.2 none none none none none,s.2.1))
  (fun s rem=>nB sc shs c U0.length s.2.1 s.1 s.2.2.1/\s.1.length+rem.length<=40) (ns.take 30) ([],U0++[.lst []]++[.fz ((ns.take 30).map .int)],fun _=>[],none) ⟨g0.app _,by simp;omega⟩ (by rintro ⟨xs,U,Ts,x5⟩ cell rem ⟨h,hn⟩;have hn:xs.length+(rem.length+1)<=40:=hn;have h:nB sc shs c U0.length U xs Ts:=h;obtain ⟨x,U',Ts',e,h'⟩:=zQ (ns:=ns) bt g hs0 hlt h (by omega) cell none none none none none;refine ⟨(xs++[x],U',Ts',some (.v (.int cell))),?_,h',by simp;omega⟩;have hg:b7 5 (.v (D.int cell)) (rl ns shs sc U0.length x5 none none none none none) U=some (rl ns shs sc U0.length (some (.v (.int cell))) none none none none none,U):=rfl;rw [hg,qz];exact e)
 have h1:nB sc shs c U0.length U1 xs Ts:=h1;have hx1:xs.length<=40:=hx1;have e1:dC (b7 5) (kL bt) ((ns.take 30).map .int) (rl ns shs sc U0.length none none none none none none) (U0++[.lst []]++[.fz ((ns.take 30).map .int)])=some (.nx (rl ns shs sc U0.length x5 none none none none none) U1):=e1;obtain ⟨⟨U2,y5,y7,y8,y9,y10⟩,e2,h2⟩:=jU (g:=b7 5) (b:=kK bt) D.int
  (fun s:ac×Option R×Option R×Option R×Option R×Option R=>(rl ns shs sc U0.length s.2.1 (some (.v (.int (xs.length:Int)))) s.2.2.1 s.2.2.2.1 s.2.2.2.2.1 s.2.2.2.2.2,s.1))
  (fun s rem=>nB sc shs c U0.length s.1 xs Ts) (0::ns.take 63) (U1++[.lst [.int 0],.lst ((ns.take 63).map .int),.fz ((0::ns.take 63).map .int)],x5,none,none,none,none) (h1.app _) (by rintro ⟨U,x5,x7,x8,x9,x10⟩ cell rem h;have h:nB sc shs c U0.length U xs Ts:=h;obtain ⟨U',y7,y8,y9,y10,e,h'⟩:=zP (ns:=ns) (sc:=sc) bt g h hx1 cell x7 x8 x9 x10;refine ⟨(U',bv cell,y7,y8,y9,y10),?_,h'⟩;have hg:b7 5 (.v (D.int cell)) (rl ns shs sc U0.length x5 (some (.v (.int (xs.length:Int)))) x7 x8 x9 x10) U=some (rl ns shs sc U0.length (some (.v (.int cell))) (some (.v (.int (xs.length:Int)))) x7 x8 x9 x10,U):=rfl;rw [hg,qz];exact e)
 have e2:dC (b7 5) (kK bt) ((0::ns.take 63).map .int) (rl ns shs sc U0.length x5 (some (.v (.int (xs.length:Int)))) none none none none) (U1++[.lst [.int 0],.lst ((ns.take 63).map .int),.fz ((0::ns.take 63).map .int)])=some (.nx (rl ns shs sc U0.length y5 (some (.v (.int (xs.length:Int)))) y7 y8 y9 y10) U2):=e2;have s1:aK 1 (aL dB 1 (ae (bP (aL cL 2 (ae (bP (af 0)) (ae (fK (.int 0)) ak)))) ak)) [some (.v (.fl (ns.map .int))),none,none,none,none,none,none,none,none,none,none] []=some (.nx [some (.v (.fl (ns.map .int))),some (.v (.fl (shs.map df))),none,none,none,none,none,none,none,none,none] []):=by push_cast [hc0,hsh]
 have s2:aK 2 (ar bh (cN (ae (fK (.int 1)) (ae (fK (.int 1)) (ae (ar iL (fK (.int 10)) (fK (.int 40))) ak)))) (ar bO (aL cL 2 (ae (bP (af 0)) (ae (fK (.int 0)) ak))) (fK (.int 3)))) [some (.v (.fl (ns.map .int))),some (.v (.fl (shs.map df))),none,none,none,none,none,none,none,none,none] []=some (.nx [some (.v (.fl (ns.map .int))),some (.v (.fl (shs.map df))),bv sc,none,none,none,none,none,none,none,none] [.lst [.int 1,.int 1,.int P]]):=by push_cast [hc0,hpow,bT c0 (j:=3) (by decide),hsc]
 have s3:aK 3 (nj "Book" cG 2 (ae (af 1) ak)) [some (.v (.fl (ns.map .int))),some (.v (.fl (shs.map df))),bv sc,none,none,none,none,none,none,none,none] [.lst [.int 1,.int 1,.int P]]=some (.nx [some (.v (.fl (ns.map .int))),some (.v (.fl (shs.map df))),bv sc,bC 1,none,none,none,none,none,none,none] U0):=by
  have:nj "Book" cG 2 (ae (af 1) ak) [some (.v (.fl (ns.map .int))),some (.v (.fl (shs.map df))),bv sc,none,none,none,none,none,none,none,none] [.lst [.int 1,.int 1,.int P]]=(cG [.p 1,.v (.fl (shs.map df))] [.lst [.int 1,.int 1,.int P],.ob "Book" []]).bind fun r=>match r.1 with|.v .non=>some (.p 1,r.2)|_=>none:=rfl
  rw [j7,this,hi];rfl
 have s4:aK 4 (cN ak) [some (.v (.fl (ns.map .int))),some (.v (.fl (shs.map df))),bv sc,bC 1,none,none,none,none,none,none,none] U0=some (.nx (rl ns shs sc U0.length none none none none none none) (U0++[.lst []])):=by push_cast [HW.Bc]
 have se1:(U0++[aq.lst []]++[aq.lst ((ns.take 30).map .int)]).set (U0++[aq.lst []]).length (.fz ((ns.take 30).map .int))=U0++[aq.lst []]++[.fz ((ns.take 30).map .int)]:=iG;have s5:i7 (cw (Am (af 0) eB (d8 (fK (.int 30))))) (b7 5) (kL bt) (rl ns shs sc U0.length none none none none none none) (U0++[.lst []])=some (.nx (rl ns shs sc U0.length x5 none none none none none) U1):=by
  have:cw (Am (af 0) eB (d8 (fK (.int 30)))) (rl ns shs sc U0.length none none none none none none) (U0++[.lst []])=some ((ns.take 30).map .int,U0++[.lst []]++[.fz ((ns.take 30).map .int)]):=by generalize U0++[aq.lst []]=ν at se1 ⊢;push_cast [cut30,yp,se1]
  rw [pV,this,mx];exact e1
 have s5b:aK 6 (dQ fP (ae (af 4) ak)) (rl ns shs sc U0.length x5 none none none none none) U1=some (.nx (rl ns shs sc U0.length x5 (some (.v (.int (xs.length:Int)))) none none none none) U1):=by push_cast [h1.lw,zag]
 have s6:i7 (cw (ar vD (cN (ae (fK (.int 0)) ak)) (Am (af 0) eB (d8 (fK (.int 63)))))) (b7 5) (kK bt) (rl ns shs sc U0.length x5 (some (.v (.int (xs.length:Int)))) none none none none) U1=some (.nx (rl ns shs sc U0.length y5 (some (.v (.int (xs.length:Int)))) y7 y8 y9 y10) U2):=by
  have g1:(U1++[aq.lst [.int 0]]++[aq.lst ((ns.take 63).map .int)])[U1.length]?=some (.lst [.int 0]):=by rw [zai (by simp)];exact yp
  have aF:vD (.p U1.length) (.p (U1++[aq.lst [.int 0]]).length) (U1++[aq.lst [.int 0]]++[aq.lst ((ns.take 63).map .int)])=some (.p (U1++[aq.lst [.int 0]]++[aq.lst ((ns.take 63).map .int)]).length,U1++[aq.lst [.int 0]]++[aq.lst ((ns.take 63).map .int)]++[.lst ((0::ns.take 63).map .int)]):=by unfold vD wg;dsimp only;rw [g1,yp];dsimp only;rw [zar,zar,if_pos (eA (by simp;omega))];rfl
  have se2:(U1++[aq.lst [.int 0]]++[aq.lst ((ns.take 63).map .int)]++[aq.lst ((0::ns.take 63).map .int)]).set (U1++[aq.lst [.int 0]]++[aq.lst ((ns.take 63).map .int)]).length (.fz ((0::ns.take 63).map .int))=U1++[aq.lst [.int 0]]++[aq.lst ((ns.take 63).map .int)]++[.fz ((0::ns.take 63).map .int)]:=iG;have this:cw (ar vD (cN (ae (fK (.int 0)) ak)) (Am (af 0) eB (d8 (fK (.int 63))))) (rl ns shs sc U0.length x5 (some (.v (.int (xs.length:Int)))) none none none none) U1=some ((0::ns.take 63).map .int,U1++[aq.lst [.int 0]]++[aq.lst ((ns.take 63).map .int)]++[.fz ((0::ns.take 63).map .int)]):=by generalize hz:(0::ns.take 63).map D.int=zs at aF se2 ⊢;push_cast [Mp,cut63,aF,yp,se2]
  rw [pV,this,mx];have:U1++[aq.lst [.int 0]]++[aq.lst ((ns.take 63).map .int)]++[.fz ((0::ns.take 63).map .int)]=U1++[.lst [.int 0],.lst ((ns.take 63).map .int),.fz ((0::ns.take 63).map .int)]:=by simp
  rw [this];exact e2
 rw [DN,mM s1,mM s2,mM s3,mM s4,mM s5,mM s5b,mM s6];rfl
end LW
structure PySem.W.Fast:Prop where
 (tw10028022076020269228 tw10082471641251139190 tw10107762342975796797 tw10274246522874728196 tw10296229376498716880 tw10399146104130596484 tw1061356626149262620 tw10627958270397261415 tw11191980910520947925 tw11243250093581343923 tw11320505933729364840 tw11416086815802965874 tw11656462276538184260 tw11663209692518883028 tw11719833003447643239 tw11899906152537433474 tw11933056821178097475 tw12279083799217061645 tw12495899952950943169 tw12617428530648101639 tw1267914964946196511 tw12700878216876955141 tw1300444699025957251 tw13030261134874426562 tw13086694222037621310 tw13285286029884154649 tw13410098154323213805 tw13501171251133409205 tw13549856999646243711 tw14139750024497425019 tw14185507445762983926 tw14203962802802800102 tw14443846751862612298 tw14501526416427964574 tw14699859261253596085 tw14713266080858709228 tw14775605484258866396 tw14831445144863781856 tw14869788217744170224 tw15033321555800435724 tw15099370030685710312 tw15456542211347226221 tw15799535714342103486 tw15916386339270631612 tw15931012530889181301 tw16010970918872295960 tw16081108262531715358 tw16180745322788129667 tw16244612845071012713 tw16336919041567346469 tw16393728956845977270 tw16702731545420853650 tw16757638038573957538 tw17022996699486277318 tw17195678727071512048 tw17201695655342596811 tw17432364398167730708 tw17511088454179679959 tw17528630704529360059 tw17560530418282139600 tw17570230854780385345 tw17591614025726947685 tw17671509366661322867 tw17871998753693809742 tw17911080324517415169 tw17953351885439870396 tw18013474149188623293 tw18378293247307380271 tw2013745208342238195 tw20426922255772209 tw2044649477927576094 tw2140881560156964592 tw2222355178859915928 tw225524016811106352 tw2308745612301610039 tw2338451585150679908 tw2677634012567318810 tw2722788174168295109 tw2843323375393139296 tw3166054512125034676 tw3676017145228749825 tw3691492086775274529 tw4223634036327027601 tw4433625800978446837 tw4539332233310329822 tw4554978251938346075 tw5027141953631400171 tw5056046123731885257 tw5070637881310756358 tw5253233862247231614 tw5526161149487945268 tw5647381129461149942 tw5659919159126832217 tw577231823689771800 tw5836882182523916436 tw5907614278359640647 tw5924871414598424814 tw6190100360558137183 tw6225791613293527275 tw6375412885253139828 tw648533719532190469 tw6542816320413289877 tw6812187741002069380 tw6970832715527198107 tw699079280664747637 tw7030363724914402675 tw7383053980173025678 tw7635795003438402453 tw7982558153573843580 tw8090769155819123972 tw8454740637490262409 tw8684519595113979977 tw8775830125320460820 tw8832820227805490470 tw9282587840848350206 tw9724586588797573583 tw9832290909773502225:True)
open PySem.W PyProof.Rows
set_option maxRecDepth 100000 in
set_option maxHeartbeats 0 in
theorem PySem.Challenge.cw_heldwhen_k31_tables_by_decided_holds : PySem.Challenge.rw_heldwhen_k31_tables_by_decided.Holds := by
 w_on; o_law; k_head; (case hw => w_witness2)
 k_fill
 refine L2.AI (l := PySem.Challenge.rw_heldwhen_k31_tables_by_decided) (n := 63) (k := 7) (x := "script") (CX := L2.kT) (sp := fun K => (fun vs H Q E => ∀ b, HW.AF K 1 (LW.uG b) vs H Q E)) rfl (by decide) rfl ⟨rfl, by decide, by decide⟩ (fun w h Yz => PySem.W.kIn_of Yz) ?F (fun K H a ns hl hOz hS => fun b => HW.Ki hOz hS (LW.CJ b ns hl)) fun _ _ _ _ z => z
 case F =>
  intro w mg fa h KX G hmg
  refine' LW.Lb KX G hmg ?aC ?pg ?hd ?po ?sa ?mk ?kc ?n_shape_list ?n_tellings ?n_tables_now ?a0 ?a1 ?a2 ?a3 ?a4 ?a5 ?a6 ?a7 ?a8 ?a9 ?a10 ?a11 ?a12 ?a13 ?a14 ?a15 ?a16 ?a17 ?a18 ?a19 ?a20 ?a21 ?a22 ?a23 ?a24 ?a25 ?a26 ?a27 ?a28 ?a29 ?a30 ?a31 ?a32 ?Jao ?Jap ?Jah ?Jak ?Jal ?Jae ?Jaw ?Jax ?Jaq ?Jar ?Jai ?z0 ?z1 ?z2 ?z3 ?z4 ?z5 ?z6 ?z7
  (case aC | pg | hd | po | sa | mk | kc | n_shape_list | n_tellings | n_tables_now => k_is)
  (case a0 | a1 | a2 | a3 | a4 | a5 => exact ⟨_, by k_is, by k_is, _, _, _, _, _, _, _, _, _, by k_is, by k_is, by k_is⟩)
  (case a6 | a7 | a8 | a9 | a10 | a11 | a12 | a13 | a14 | a15 | a16 | a17 | a18 | a19 | a20 | a21 | a22 | a23 | a24 | a25 | a26 | a27 | a28 | a29 | a30 | a31 | a32 => exact ⟨_, by k_is, _, _, _, _, _, _, _, _, _, by k_is, by k_is, by k_is⟩)
  (case Jao | Jap | Jah | Jak | Jal | Jae | Jaw | Jax | Jaq | Jar | Jai | z0 | z1 | z2 | z3 | z4 | z5 | z6 | z7 => k_is)
