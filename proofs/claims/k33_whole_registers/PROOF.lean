import PyProof.Rows.All
import Wide.All
import OpenK.AllK
import Wide.FinOn
import Lean
import PyProof.EqAt
import PyProof.EqKinds
import PyProof.TupleCall
import PyProof.IsiH_tuple
import PyProof.NsDelKeeps
import PyProof.FString4
import PyProof.ExcBaseAll.ValueError
import PyProof.ForAny
import KE.KIsAll
import KE.KSortTup
import KE.KLam
import KE.KNestM
import PyProof.StrWalks
import PyProof.SliceStr2
import PyProof.StrBlockI
import KE.KIntText
import PyProof.StrCalls2
import PyProof.StrLawsTight
import PyProof.Rows.FStrParts
import PyProof.Rows.StrInSeq3
import PyProof.TupleKey
import PyProof.IsRules
import PyProof.SumWalkG
import PyProof.EnumFor
import PyProof.EnumStmt
import PyProof.EnumMake
import PyProof.StrBlock2
import PyProof.ZipIter
import PyProof.ListNew
import PyProof.DictIter
import PyProof.DictFindH
import PyProof.ListRange
import PyProof.TupleOfGen
import PyProof.LongRange
import PyProof.DictValues
import KE.KDictList
import KE.KEqDict
import PySem.Challenge.RW_heldwhen_k33_whole_registers
local macro_rules | `(tactic| exists $t) => `(tactic| with_unfolding_all exact $t)
local macro_rules | `(tactic| decide) => `(tactic| decide +kernel)
local macro_rules | `(tactic| ac_rfl) => `(tactic| (constructor <;> first | rfl | decide +kernel))
local macro_rules | `({$x:term,$xs:term,*}) => `(⟨$x,$xs,*⟩)
local macro_rules | `(∅) => `(by first|omega|decide +kernel|simp)
local macro_rules | `(‹$x›) => `(by simpa using $x)
local macro_rules | `(tactic| let ⟨$xs,*⟩ := $e) => do
  let rec go (n : Nat) (s : Lean.Syntax) : Lean.MacroM (Lean.TSyntax `rcasesPat) := match n with
    | 0 => Lean.Macro.throwUnsupported
    | n+1 => match s with
      | `(term| ⟨$ys,*⟩) => do
        let zs ← ys.getElems.mapM fun y => do let z ← go n y.raw; `(Lean.Parser.Tactic.rcasesPatLo| $z:rcasesPat)
        `(rcasesPat| ⟨$zs,*⟩)
      | `(term| _) => `(rcasesPat| _)
      | s => `(rcasesPat| $(⟨s⟩):ident)
  let zs ← xs.getElems.mapM fun y => do let z ← go 9 y.raw; `(Lean.Parser.Tactic.rcasesPatLo| $z:rcasesPat)
  `(tactic| obtain ⟨$zs,*⟩ := $e)
local macro_rules | `(tactic| rwa [$rs,*] $[$l:location]?) => do
  let ys ← rs.getElems.mapM fun r => `(Lean.Parser.Tactic.simpLemma| $(⟨r.raw[1]⟩):term)
  `(tactic| simp only [$ys,*] $[$l]?)
set_option Elab.async false
set_option linter.all false
set_option genSizeOf false
set_option genInjectivity false
set_option maxRecDepth 100000
noncomputable section
open PySem PySem.Spec SetTable Builtin.List
abbrev T5.{u}:=@List.{u}
abbrev UE.{u}:=@Option.{u}
abbrev A1:=Shared
abbrev A3:=Value
abbrev A4:=Addr
abbrev A8:=Bool
abbrev A9:=Program
abbrev AD.{u}:=@Array.{u}
abbrev AI:=Heap
abbrev AL:=Around
abbrev AM:=World
abbrev AR:=Expr
abbrev AU:=Stmt
abbrev B0:=Obj
def A5:=@if_neg
def A7:=@if_pos
def AJ:=@absurd
def AQ:=@congrArg
namespace Y0
open PyProof.Rows
def AB:=@wpAny_bind
def AS:=@Option.bind_eq_some_iff
abbrev AP:=PySem.W.Frag
def AN:=@wpAny_pure
def AY:=@Heap.get?_push_of_some
def AZ:=@List.map_cons
def Az:=@List.length_map
def BB:=@List.mem_cons_self
def BF:=@List.mem_cons_of_mem
def BK:=@List.getElem?_append_left
def BI:=@Heap.get?_push_size
def B4:=@Heap.lt_size
def BA:=@List.mem_cons
def B3:=@Nat.le_refl
def Bl:=@List.getElem?_eq_getElem
def Bc:=@Bool.false_eq_true
def BJ:=@Option.bind_some
def BG:=@Nat.ne_of_lt
def C3:=@List.getElem?_eq_some_iff
def BH:=@List.mem_map
def CB:=@Array.getElem?_eq_getElem
def Bd:=@List.size_toArray
def Bi:=@wpAny_setState_of
def Bp:=@List.length_append
def Bm:=@List.mem_singleton
def Bf:=@decide_eq_false
def C1:=@Nat.lt_of_lt_of_le
def CV:=@Heap.get?_update_other
def CP:=@List.getElem?_set_ne
def C0:=@List.length_cons
def CU:=@List.mem_of_getElem?
def D2:=@List.mem_append_right
def Bg:=@wpAny_holding
def CG:=@List.getElem?_map
def C5:=@wpAny_call_entry
def By:=@List.nodup_cons
def CN:=@wpAny_newObj_type
def Bs:=@decide_eq_true
def DY:=@Option.map_eq_some_iff
def D0:=@List.pairwise_cons
def DS:=@Array.length_toList
def C4:=@Nat.lt_irrefl
def Dw:=@Heap.get?_update_self
def FW:=@List.getElem?_append_right
def Dv:=@Around.under_plainId
def D7:=@List.mem_append
def D6:=@List.map_append
def FV:=@List.getElem?_set_self
def DN:=@codeAny_builtin
def DV:=@List.not_mem_nil
def CK:=@sizeLine_eq
def CS:=@List.map_nil
def CY:=@List.map_map
def Er:=@List.mem_map_of_mem
def DZ:=@List.append_nil
def EA:=@List.append_assoc
def Eo:=@Bool.false_ne_true
def HI:=@Array.getD_eq_getD_getElem?
def Em:=@PySem.W.mg_none_of
def E9:=@List.lookup_cons
def HH:=@List.getD_eq_getElem?_getD
def GV:=@wpAny_callSpecial?_slot
def D4:=@Nat.ne_of_gt
def Cy:=@Nat.zero_le
def Du:=@Heap.size_push
def E8:=@List.foldl_cons
def E7:=@List.nil_append
def DL:=@Nat.le_trans
def Ek:=@Bool.and_eq_true
def G6:=@List.getElem_of_mem
def GU:=@Array.getElem?_toList
def F9:=@List.nodup_append
def Gu:=@List.filter_cons_of_pos
def F8:=@List.length_take
def E6:=@Bool.not_true
def F7:=@List.mem_filter
def F6:=@PySem.W.kia_one
def zbp:=@List.filter_cons_of_neg
def G5:=@wpAny_askSetting
def GR:=@List.pairwise_map
def GQ:=@wpAny_dictEntries
def zbt:=@List.pairwise_iff_getElem
def zbu:=@List.drop_eq_getElem_cons
def G3:=@Option.map_some
def F5:=@plainId_quiet
def G0:=@List.mem_range
def Dt:=@wpAny_mono
def Gs:=@Int.toNat_natCast
def FU:=@wpAny_typeOf
def GB:=@List.any_cons
def HF:=@List.getElem_mem
def HC:=@wpAny_isInstance
def HB:=@List.any_eq_true
def Gz:=@List.getElem_map
def GA:=@Nat.le_of_lt
def G8:=@codeAny_mono
def zbI:=@List.getElem?_take_of_lt
def Gy:=@List.length_nil
def zbK:=@List.filterMap_cons_some
def zbL:=@Nat.lt_succ_of_lt
def zbM:=@wpAny_pyIter_slot
def zbN:=@List.length_eq_zero_iff
def zbO:=@List.getElem?_cons_zero
def zbP:=@List.getElem_inj
def Gx:=@wpAny_fieldsOf
def Gw:=@wpAny_setField
def zbS:=@List.filter_cons
def G7:=@Nat.le_succ
def zbU:=@List.find?_cons_of_neg
def zbV:=@wpAny_isOneOf_itemiter
def zbW:=@builtinLookup_eq_fast
def zbX:=@wpAny_notOrdered_dict
def Gv:=@wpAny_attempt
def zbZ:=@wpAny_truthy_bool
def GC:=@wpAny_rule
def zb1:=@List.mem_of_mem_take
def zb2:=@Nat.lt_succ_self
def zb3:=@Option.isSome_iff_exists
def HG:=@Nat.lt_trans
def zb5:=@List.cons_append
def zb6:=@Option.getD_some
def zb7:=@List.map_congr_left
def zb8:=@List.getElem?_replicate
def zb9:=@Bool.true_and
def zca:=@wpAny_Call_Name_kw
def zcb:=@List.find?_cons
def zcc:=@wpAny_dictEpoch
def zcd:=@wpAny_typeNameOfWhole_itemiter
def zce:=@wpAny_setField_rec
def zcf:=@List.set_cons_zero
def zcg:=@PySem.W.cellsFrom_some
def Gq:=@wpAny_field
def zci:=@List.find?_cons_of_pos
def zcj:=@List.filter_eq_nil_iff
def zck:=@wpAny_pyIter_list
def zcl:=@wpAny_seqItems
def zcm:=@List.getElem?_eq_none
def zcn:=@Nat.zero_add
def zco:=@Bool.not_false
def zcp:=@List.mem_append_left
def zcq:=@Array.mem_toList_iff
def zcr:=@Array.getElem_toList
def zcs:=@beq_self_eq_true
def zct:=@Array.getElem?_eq_some_iff
def zcu:=@PySem.W.mg_of
def zcv:=@List.filterMap_cons
def zcw:=@List.length_pos_iff
def zcx:=@List.filter_eq_self
def zcy:=@wpAny_specialOf
def zcz:=@wpAny_passesOwn
def zcA:=@typeLookup_type
def zcB:=@Option.isSome_some
def zcC:=@Int.emod_lt_of_pos
def zcD:=@List.filterMap_cons_none
def zcE:=@List.nodup_nil
def zcF:=@List.pairwise_singleton
def zcG:=@wpAny_Call_method
def zcH:=@List.drop_of_length_le
def zcI:=@Array.getElem?_eq_none
def zcJ:=@Bool.and_true
def zcK:=@List.length_drop
def zcL:=@wpAny_forIn_list
def zcM:=@List.ext_getElem
def zcN:=@List.take_eq_take_iff
def zcO:=@Nat.lt_or_ge
def zcP:=@List.mem_iff_getElem
def zcQ:=@codeAny_of_tree
def zcR:=@codeAny_call_builtin
def zcS:=@wpAny_updateSeq
def zcT:=@Int.emod_nonneg
def zcU:=@List.any_map
def zcV:=@List.map_eq_cons_iff
def zcW:=@List.eq_nil_of_length_eq_zero
def zcX:=@PySem.W.plainGet_of
def zcY:=@Int.toNat_of_nonneg
def zcZ:=@Bool.false_and
def zc0:=@Array.size_map
def zc1:=@List.drop_zero
def zc2:=@PySem.W.callWith_K
def zc3:=@List.getElem_range
def zc4:=@wpAny_newList
def zc5:=@Array.toList_push
def zc6:=@PySem.W.kitx_list
def zc7:=@Nat.mod_lt
def zc8:=@Nat.min_le_right
def zc9:=@List.nodup_range
def zda:=@Heap.size_update
def zdb:=@Nat.sub_zero
def zdc:=@wpAny_execs_nil
def zdd:=@List.of_mem_zip
def zde:=@List.find?_some
def zdf:=@Bool.eq_iff_iff
def zdg:=@Bool.decide_and
def zdh:=@wpAny_of_eq
end Y0
open Y0
namespace Y1z
abbrev Ta:=T5 (T5 Int)
abbrev Tb:=A3->A1->Prop
abbrev Tc:=T5 (A4×B0)
abbrev Td:=Str->UE A3
abbrev Te:=T5 A3
abbrev Tf:=T5 A4
abbrev Tg:=UE A3
abbrev Th:=T5 Int
abbrev Ti:=AD A3
abbrev Tj:=T5 AR
abbrev Tk:=T5 AU
abbrev Tn:=T5 Str
end Y1z
open Y1z
namespace L2
open PyProof.Rows
section
variable {prog:A9}{w:AM}{A:AL}{E:Tb}{s:A1}
def mv {Q:Int->A1->Prop}(h:Q 0xFCA86420 {s with toks:=s.toks+1}):wpAny (model prog w) A (pyHash .none) Q E s:=by
 have hT:s.TypeIs .none "NoneType":=rfl
 show wpAny _ _ (pyHashByItsType .none) _ _ s
 unfold pyHashByItsType;refine AB (wpAny_cRoomFor_byValue rfl ?_);refine AB (zcy hT F.slot_NoneType_hash.lookup ?_);rw[A5 ∅];refine AB (zcy hT F.slot_NoneType_hash.lookup ?_);rw[A5 ∅]
 show wpAny _ _ (callSpecialIfBoundUnlessNone? .none "__hash__" _ >>= _) Q E s
 refine AB (wpAny_callSpecialIfBoundUnlessNone?_slot hT F.slot_NoneType_hash
  (C5 F.slot_NoneType_hash hT F.entry_NoneType_hash
   (show wpAny _ _ (do ret (←mkInt 0xFCA86420)) _ _ s from wpAny_ret_mkInt ?_) (F.args_NoneType_hash_1 _)))
 show wpAny _ _ (if (decide (-(2:Int) ^ 63<=0xFCA86420)&&decide ((0xFCA86420:Int)<2 ^ 63))=true then _ else _) Q E _
 rw[A7 ∅];exact AN h
def mw {Q:A8->A1->Prop}(h:Q true s):wpAny (model prog w) A (eqBool .none .none) Q E s:=by unfold eqBool;refine Bg ?_;rw[A7 ∅];exact AB (GC (AN h))
end
abbrev aI:=Sum Int (UE Str)
noncomputable def ou:aI->A3->A8
 |.inl k,v=>Value.isInt k v
 |.inr (some x),v=>Value.isStrOf x v
 |.inr none,v=>v == .none
noncomputable def Ri (w:AM):aI->Int
 |.inl k=>hashInt k
 |.inr (some x)=>hashStr w x
 |.inr none=>0xFCA86420
theorem bD:∀{k:aI} {v:A3},ou k v=true->(∃i t,k=Sum.inl i/\v=Value.int i t)\/(∃x t,k=Sum.inr (some x)/\v=Value.str x t)\/(k=Sum.inr none/\v=Value.none)
 |.inl i,v,h=>by let⟨t,e⟩:=Value.isInt_shape (k:=i) (v:=v) h;exact .inl {i,t,rfl,e}
 |.inr (some x),v,h=>by let⟨t,e⟩:=Value.isStrOf_shape (x:=x) (v:=v) h;exact .inr (.inl {x,t,rfl,e})
 |.inr none,v,h=>.inr (.inr {rfl,eq_of_beq h})
def JBq (i:Int)(t:Tok):ou (.inl i) (.int i t)=true:=by simp[ou,Value.isInt]
def JBo (x:Str)(t:Tok):ou (.inr (some x)) (.str x t)=true:=by simp[ou,Value.isStrOf]
def JBp:ou (.inr none) .none=true:=by simp[ou]
def Mi (a b:Int):decide ((Sum.inl a:aI)=Sum.inl b)=(a == b):=by
 by_cases e:a=b
 ·subst e;simp
 ·have h:¬ (Sum.inl a:aI)=Sum.inl b:=λq=>e (Sum.inl.inj q);rw[Bf h];exact(beq_eq_false_iff_ne.mpr e).symm
def Mf (a b:Str):decide ((Sum.inr (some a):aI)=Sum.inr (some b))=decide (a=b):=by
 by_cases e:a=b
 ·subst e;simp
 ·have h:¬ (Sum.inr (some a):aI)=Sum.inr (some b):=λq=>e (Option.some.inj (Sum.inr.inj q));rw[Bf h,Bf e]
noncomputable def bB (prog:A9)(w:AM):PySem.KeyKind prog w aI where
 is:=ou
 hash:=Ri w
 inj:=λv a b ha hb=>by
  rcases bD ha with⟨i,t,rfl,rfl⟩|⟨x,t,rfl,rfl⟩|⟨rfl,rfl⟩
  ·rcases bD hb with⟨j,u,rfl,e⟩|⟨y,u,rfl,e⟩|⟨rfl,e⟩
   ·injection e with e1 _;rw[e1]
   ·exact nomatch e
   ·exact nomatch e
  ·rcases bD hb with⟨j,u,rfl,e⟩|⟨y,u,rfl,e⟩|⟨rfl,e⟩
   ·exact nomatch e
   ·injection e with e1 _;rw[e1]
   ·exact nomatch e
  ·rcases bD hb with⟨j,u,rfl,e⟩|⟨y,u,rfl,e⟩|⟨rfl,e⟩
   ·exact nomatch e
   ·exact nomatch e
   ·rfl
 byValue:=λk v h=>by
  rcases bD h with⟨i,t,rfl,rfl⟩|⟨x,t,rfl,rfl⟩|⟨rfl,rfl⟩ <;> rfl
 pyHash:=λhv h=>by
  rcases bD hv with⟨i,t,rfl,rfl⟩|⟨x,t,rfl,rfl⟩|⟨rfl,rfl⟩
  ·exact wpAny_pyHash_int h
  ·exact wpAny_pyHash_str h
  ·exact mv h
 eqBool:=λhu hv h=>by
  rcases bD hu with⟨i,t,rfl,rfl⟩|⟨x,t,rfl,rfl⟩|⟨rfl,rfl⟩
  ·rcases bD hv with⟨j,u,rfl,rfl⟩|⟨y,u,rfl,rfl⟩|⟨rfl,rfl⟩
   ·rw[Mi] at h;exact wpAny_eqBool_int h
   ·exact SeqAt.EqAt.int_str i t y u _ _ _ _ ‹h›
   ·exact SeqAt.EqAt.int_none i t _ _ _ _ ‹h›
  ·rcases bD hv with⟨j,u,rfl,rfl⟩|⟨y,u,rfl,rfl⟩|⟨rfl,rfl⟩
   ·exact SeqAt.EqAt.str_int x t j u _ _ _ _ ‹h›
   ·rw[Mf] at h;exact wpAny_eqBool_str h
   ·exact SeqAt.EqAt.str_none x t _ _ _ _ ‹h›
  ·rcases bD hv with⟨j,u,rfl,rfl⟩|⟨y,u,rfl,rfl⟩|⟨rfl,rfl⟩
   ·exact SeqAt.EqAt.none_int j u _ _ _ _ ‹h›
   ·exact SeqAt.EqAt.none_str y u _ _ _ _ ‹h›
   ·exact mw ‹h›
 «strs»:=λk x t v h=>by
  rcases bD h with⟨i,u,rfl,e⟩|⟨y,u,rfl,e⟩|⟨rfl,e⟩
  ·exact nomatch e
  ·injection e with e1 _
   subst e1;cases v <;> rfl
  ·exact nomatch e
def v4 (prog:A9)(w:AM)(i:Int)(t:Tok):(bB prog w).is (.inl i) (.int i t)=true:=JBq i t
def v3 (prog:A9)(w:AM)(x:Str)(t:Tok):(bB prog w).is (.inr (some x)) (.str x t)=true:=JBo x t
set_option genInjectivity true in
inductive V where
 |non|bl (b:Bool)|int (i:Int)|str (x:Str)|byt (b:Array UInt8)|flt (b:UInt64)|ref (a:Addr)|ty (n:String)
 deriving DecidableEq
def be:V->A3->Prop
 |.non,u=>u=Value.none
 |.bl b,u=>u=Value.bool b
 |.int i,u=>∃t,u=Value.int i t
 |.str x,u=>∃t,u=Value.str x t
 |.byt b,u=>∃t,u=Value.bytes b t
 |.flt b,u=>∃t,u=Value.float b t
 |.ref a,u=>u=Value.ref a
 |.ty n,u=>u=Value.type n
abbrev aR:T5 V->T5 A3->Prop:=Paired be
def aR.length {xs:T5 V}{us:Te}(r:aR xs us):xs.length=us.length:=Paired.length r
theorem aR.get:∀{xs:T5 V} {us:Te} {i:Nat} {x:V},aR xs us->xs[i]?=some x->∃u,us[i]?=some u/\be x u
 |_,_,_,_,.nil,e=>by simp at e
 |_,_,0,_,.cons r _,e=>by simp at e;subst e;exact{_,rfl,r}
 |_,_,i+1,x,.cons _ t,e=>by let⟨u,h1,h2⟩:=aR.get (i:=i) (x:=x) t ‹e›;exact{u,by simpa using h1,h2}
theorem aR.set {x:V}{u:A3}(r:be x u):∀{xs:T5 V} {us:Te} (i:Nat),aR xs us->aR (xs.set i x) (us.set i u)
 |_,_,_,.nil=>.nil
 |_,_,0,.cons _ t=>.cons r t
 |_,_,i+1,.cons q t=>.cons q (aR.set r i t)
theorem aR.append:∀{xs ys:T5 V} {us ws:Te},aR xs us->aR ys ws->aR (xs++ys) (us++ws)
 |_,_,_,_,.nil,s=>s
 |_,_,_,_,.cons r t,s=>.cons r (aR.append t s)
theorem aR.take:∀{xs:T5 V} {us:Te} (n:Nat),aR xs us->aR (xs.take n) (us.take n)
 |_,_,0,_=>.nil
 |_,_,_+1,.nil=>.nil
 |_,_,n+1,.cons r t=>.cons r (aR.take n t)
theorem aR.drop:∀{xs:T5 V} {us:Te} (n:Nat),aR xs us->aR (xs.drop n) (us.drop n)
 |_,_,0,r=>r
 |_,_,_+1,.nil=>.nil
 |_,_,n+1,.cons _ t=>aR.drop n t
def lG:UE V->UE A3->Prop
 |some v,some u=>be v u
 |none,none=>True
 |_,_=>False
def KV {κ:Type}:T5 (κ×V)->T5 (κ×A3)->Prop:=Paired λ(p:κ×V) (q:κ×A3)=>p.1=q.1/\be p.2 q.2
noncomputable def kV:aI->V
 |.inl i=>.int i
 |.inr (some x)=>.str x
 |.inr none=>.non
inductive HO where
 |lst (xs:List V)
 |tup (xs:List V)
 |dK (A6:List (aI×V))|dT (A6:List (List aI×V))
 |set (S:Int->Bool) (n:Nat)
 |ins (C dx:Addr) (fs:List (Str×V))
 |own (x:Addr)
 |xd (fs:List (Str×V))
 |met (f x:Addr)
 |rng (lo hi:Int)
 |frz (o:Obj) (u:HO)
 |tbl (ps:Ti)
 |ext (φ:Heap->Prop)
abbrev Hp:=A4->UE HO
noncomputable def upd (H:Hp)(a:A4)(o:HO):Hp:=λb=>if b=a then some o else H b
def bz {H:Hp}{a:A4}{o:HO}:upd H a o a=some o:=by unfold upd;rw[A7 rfl]
def aB {H:Hp}{a b:A4}{o:HO}(h:b≠a):upd H a o b=H b:=by unfold upd;rw[A5 h]
def DW {H:Hp}{a b:A4}{o u:HO}(h:H a=some o)(h':H b=some u)(d:o≠u):a≠b:=by intro e;subst e;rw[h] at h';exact d (Option.some.inj h')
def gY {H:Hp}{a b:A4}{o:HO}(h:H a=some o)(h':H b=none):a≠b:=by intro e;subst e;rw[h] at h';cases h'
def kU (h:AI)(a:A4)(items:Ti):Prop:=IsTup h a items/\∀o,h.get? a=some o->o.dict=none
def kU.new (h:AI)(items:Ti):kU (h.push {cls:=.type "tuple",data:=.seq items}) h.objs.size items:={IsTup.new _ _,λo e=>by rw[BI _ rfl] at e;cases e;rfl}
section
variable (P:A9)(w:AM)
def bo (H:Hp)(h:AI)(a:A4):HO->Prop
 |.lst xs=>xs.length<=sizeLine/\∃(its:Te) (n:Nat),aR xs its/\h.get? a=some {cls:=.type "list",data:=.seq its.toArray n}
 |.tup xs=>xs.length<=sizeLine/\∃its:Te,aR xs its/\kU h a its.toArray
 |.dK A6=>A6.length<=sizeLine/\(a == sysModules)=false/\∃vs,KV A6 vs/\h.DictOf (bB P w) a vs
 |.dT A6=>A6.length<=sizeLine/\(a == sysModules)=false/\∃xs:T5 (T5 aI×A4×A3),
   Paired (λ(p:T5 aI×V) (q:T5 aI×A4×A3)=>p.1=q.1/\H q.2.1=some (.tup (p.1.map kV))/\be p.2 q.2.2) A6 xs /\
   ∃o es ep,h.get? a=some o/\o.ExactDict/\o.data=.dict es ep/\es.toList=xs.map (entryOfKey (tupleKind (bB P w)))/\(xs.map (·.1)).Nodup
 |.set S n=>h.SetOf (intKind P w) a S n
 |.ins C dx fs=>H dx=some (.own a)/\fs.length<=1000/\dx≠a/\h.get? a=some (PySem.W.instObj C dx) /\
   ∃mA,h.Ns1 dx mA/\(∀f,lG (fs.lookup f) (mA f))/\PySem.Within mA (fs.map (·.1))
 |.own _=>∃o,h.get? a=some o
 |.xd fs=>∃mA,h.Ns1 a mA/\∀f,lG (fs.lookup f) (mA f)
 |.rng lo hi=>∃t u v,h.get? a=some {cls:=.type "range",data:=.fields #[.int lo t,.int hi u,.int 1 v]}
 |.frz o u=>h.get? a=some o/\bo H h a u
 |.tbl ps=>h.get? a=some {cls:=.none,data:=.fields ps}
 |.met f x=>h.get? a=some (PySem.W.methodObj (.ref f) (.ref x))
 |.ext φ=>φ h/\(∃o,h.get? a=some o)/\∀h1 h2:AI,φ h1->(∀o,h1.get? a=some o->h2.get? a=some o)->φ h2
def jg (H:Hp)(h:AI):Prop:=∀a o,H a=some o->bo P w H h a o
end
section
variable {P:A9}{w:AM}{H H':Hp}{h h':AI}{a:A4}{o:HO}
theorem bo.lt (x:bo P w H h a o):a<h.objs.size:=by
 cases o with
 |lst xs=>let⟨_,_,_,_,e⟩:=x;exact B4 e
 |tup xs=>let⟨_,_,_,p⟩:=x;exact p.1.lt
 |dK A6=>let⟨_,_,_,_,o,_,_,e,_⟩:=x;exact B4 e
 |dT A6=>let⟨_,_,_,_,o,_,_,e,_⟩:=x;exact B4 e
 |set S n=>let⟨o,_,_,_,e,_⟩:=x;exact B4 e
 |ins C dx fs=>let⟨_,_,_,e,_⟩:=x;exact B4 e
 |own y=>let⟨_,e⟩:=x;exact B4 e
 |xd fs=>let⟨_,⟨_,_,_,e,_⟩,_⟩:=x;exact B4 e
 |rng lo hi=>let⟨_,_,_,e⟩:=x;exact B4 e
 |frz ob u=>let⟨e,_⟩:=x;exact B4 e
 |tbl ps=>exact B4 (show h.get? a=some _ from x)
 |met f y=>exact B4 (show h.get? a=some _ from x)
 |ext φ=>let⟨_,⟨_,e⟩,_⟩:=x;exact B4 e
theorem Paired.mapP {Z β:Type}{F G:Z->β->Prop}{l₁:T5 Z}{l₂:T5 β}(h:Paired F l₁ l₂)(f:∀a b,F a b->G a b):Paired G l₁ l₂:=by
 induction h with
 |nil=>exact .nil
 |cons r t ih=>exact .cons (f _ _ r) ih
theorem bo.stay (x:bo P w H h a o)(k:∀b u,(b=a\/H b=some (.own a))->h.get? b=some u->h'.get? b=some u)
  (ho:∀b,H b=some (.own a)->H' b=some (.own a)) (ht:∀b xs,H b=some (.tup xs)->H' b=some (.tup xs)):bo P w H' h' a o:=by
 induction o with
 |lst xs=>let⟨z,its,n,r,e⟩:=x;exact{z,its,n,r,k _ _ (.inl rfl) e}
 |tup xs=>let⟨z,its,r,⟨ob,e,c⟩,dn⟩:=x;exact{z,its,r,{ob,k _ _ (.inl rfl) e,c},λo q=>by rw[k _ _ (.inl rfl) e] at q;cases q;exact dn _ e}
 |dK A6=>let⟨z,y,vs,r,ob,es,ep,e,c⟩:=x;exact{z,y,vs,r,ob,es,ep,k _ _ (.inl rfl) e,c}
 |dT A6=>
  let⟨z,y,xs,r,ob,es,ep,e,c⟩:=x;exact{z,y,xs,Paired.mapP r λp q z=>{z.1,ht _ _ z.2.1,z.2.2},ob,es,ep,k _ _ (.inl rfl) e,c}
 |set S n=>let⟨ob,es,ep,t,e,c⟩:=x;exact{ob,es,ep,t,k _ _ (.inl rfl) e,c}
 |ins C dx fs=>
  let⟨d,z,ne,e,mA,⟨od,es,ep,e2,c⟩,r⟩:=x;exact{ho _ d,z,ne,k _ _ (.inl rfl) e,mA,{od,es,ep,k _ _ (.inr d) e2,c},r}
 |own y=>let⟨ob,e⟩:=x;exact{ob,k _ _ (.inl rfl) e}
 |xd fs=>let⟨mA,⟨od,es,ep,e,c⟩,r⟩:=x;exact{mA,{od,es,ep,k _ _ (.inl rfl) e,c},r}
 |rng lo hi=>let⟨t,u,v,e⟩:=x;exact{t,u,v,k _ _ (.inl rfl) e}
 |frz ob u ih=>let⟨e,q⟩:=x;exact{k _ _ (.inl rfl) e,ih q}
 |tbl ps=>
  have e:h.get? a=some {cls:=.none,data:=.fields ps}:=x
  show h'.get? a=some {cls:=.none,data:=.fields ps}
  exact k a _ (.inl rfl) e
 |met f y=>
  have e:h.get? a=some (PySem.W.methodObj (.ref f) (.ref y)):=x
  show h'.get? a=some (PySem.W.methodObj (.ref f) (.ref y))
  exact k a _ (.inl rfl) e
 |ext φ=>let⟨p,⟨o,e⟩,st⟩:=x;exact{st _ _ p λo q=>k _ _ (.inl rfl) q,{o,k _ _ (.inl rfl) e},st}
def jg.lt (x:jg P w H h)(e:H a=some o):a<h.objs.size:=(x a o e).lt
theorem jg.fresh (x:jg P w H h)(e:h.objs.size<=a):H a=none:=by
 cases q:H a with
 |none=>rfl
 |some u=>exact AJ (C1 (x.lt q) e) (C4 _)
def jg.kept (x:jg P w H h)(k:∀b u,h.get? b=some u->h'.get? b=some u):jg P w H h':=λa o e=>
 (x a o e).stay (λb u _ q=>k b u q) (λ_ q=>q) λ_ _ q=>q
def jg.laid (x:jg P w H h)(k:∀b u,h.get? b=some u->h'.get? b=some u)(hp:h.objs.size<=a)(new:bo P w (upd H a o) h' a o):jg P w (upd H a o) h':=λb u e=>by
 have hn:=x.fresh hp;by_cases hb:b=a
 ·subst hb;rw[bz] at e;cases e;exact new
 ·rw[aB hb] at e;exact(x b u e).stay (λc v _ q=>k c v q) (λc q=>by rw[aB (gY q hn)];exact q) λc xs q=>by rw[aB (gY q hn)];exact q
end
def Rd (H:Hp)(a:A4)(u:HO):Prop:=H a=some u\/∃o,H a=some (.frz o u)
def Rd.ok {H:Hp}{h:AI}{a:A4}{u:HO}(r:Rd H a u)(x:jg P w H h):bo P w H h a u:=by
 rcases r with r|⟨o,r⟩
 ·exact x a u r
 ·let⟨_,q⟩:=x a _ r;exact q
def PZ:UE HO->Prop
 |some (.lst _)=>True
 |some (.dK _)=>True
 |some (.dT _)=>True
 |some (.set _ _)=>True
 |some (.ins _ _ _)=>True
 |some (.ext _)=>True
 |_=>False
section
variable {P:A9}{w:AM}{H:Hp}{h h':AI}{x e:A4}{o':HO}
def jg.write (ok:jg P w H h)(mu:PZ (H x))(he:e=x\/H e=some (.own x))(k:∀b u,b≠e->h.get? b=some u->h'.get? b=some u)(heo:∃u,h'.get? e=some u)
  (new:bo P w (upd H x o') h' x o'):jg P w (upd H x o') h':=λb u q=>by
 have nown:∀c y,H c=some (.own y)->c≠x:=λc y r z=>by subst z;rw[r] at mu;exact mu
 have ntup:∀c xs,H c=some (.tup xs)->c≠x:=λc xs r z=>by subst z;rw[r] at mu;exact mu
 by_cases hb:b=x
 ·subst hb;rw[bz] at q;cases q;exact new
 ·rw[aB hb] at q
  by_cases K2:b=e
  ·have q':H b=some (.own x):=by
    rcases he with z|z
    ·exact AJ (K2.trans z) hb
    ·rw[K2];exact z
   rw[q] at q';cases q';let⟨v,hv⟩:=heo;exact{v,by rw[K2];exact hv}
  ·refine(ok b u q).stay (λc v hc r=>k c v ?_ r) (λc r=>by rw[aB (nown c b r)];exact r) λc xs r=>by rw[aB (ntup c xs r)];exact r
   rcases hc with rfl|hc
   ·exact K2
   ·rintro rfl
    rcases he with z|z
    ·exact nown c b hc z
    ·rw[hc] at z;cases z;exact hb rfl
end
structure Un (fs ex:Tf)(H H':Hp)(h h':Heap):Prop where
 keep:∀b o,h.get? b=some o->H b=none->b∉fs->b∉ex->h'.get? b=some o
 slot:∀b o,h.get? b=some o->H b=none->b∈fs->b∉ex->∃sl,h'.get? b=some {o with slots:=sl}
 free:∀b o,h.get? b=some o->H b=none->b∉ex->H' b=none
 there:∀b o,h.get? b=some o->b∉ex->∃o',h'.get? b=some o'
 tups:∀b xs,H b=some (.tup xs)->H' b=some (.tup xs)
 frzs:∀b o u,H b=some (.frz o u)->H' b=some (.frz o u)
 tbls:∀b ps,H b=some (.tbl ps)->∃more,H' b=some (.tbl (ps++more))
section
variable {fs ex:Tf}{H H1:Hp}{h h1 h':AI}{a x e:A4}{o:HO}
def Un.any (u:Un fs ex H H1 h h1){b:A4}{ob:B0}(q:h.get? b=some ob)(n:H b=none)(hx:b∉ex):∃sl,h1.get? b=some {ob with slots:=sl}:=by
 by_cases hb:b∈fs
 ·exact u.slot b ob q n hb hx
 ·exact{ob.slots,u.keep b ob q n hb hx}
def Un.kept (k:∀b u,h.get? b=some u->h'.get? b=some u):Un fs ex H H h h' :=
 {λb ob q _ _ _=>k b ob q,λb ob q _ _ _=>{ob.slots,k b ob q},λ_ _ _ n _=>n,λb ob q _=>{ob,k b ob q},λ_ _ q=>q,λ_ _ _ q=>q,λ_ ps q=>{#[],by rw[q];simp}}
def Un.refl:Un fs ex H H h h:=Un.kept λ_ _ q=>q
def Un.laid (k:∀b u,h.get? b=some u->h'.get? b=some u)(hp:h.objs.size<=a)(hn:H a=none):Un fs ex H (upd H a o) h h' where
 keep:=λb u q _ _ _=>k b u q
 slot:=λb u q _ _ _=>{u.slots,k b u q}
 free:=λb u q n _=>by rw[aB (BG (C1 (B4 q) hp))];exact n
 there:=λb u q _=>{u,k b u q}
 tups:=λb xs q=>by rw[aB (gY q hn)];exact q
 frzs:=λb u xs q=>by rw[aB (gY q hn)];exact q
 tbls:=λb ps q=>{#[],by rw[aB (gY q hn),q];simp}
def Un.write (mu:PZ (H x))(he:e=x\/H e=some (.own x))(k:∀b u,b≠e->h.get? b=some u->h'.get? b=some u)(heo:∃u,h'.get? e=some u):Un fs ex H (upd H x o) h h':=by
 have hx:∀b,H b=none->b≠x:=λb n z=>by subst z;rw[n] at mu;exact mu
 have hb:∀b,H b=none->b≠e:=λb n z=>by
  subst z;rcases he with r|r
  ·exact hx b n r
  ·rw[n] at r;cases r
 have hm:∀b u,H b=some u->¬ PZ (some u)->b≠x:=λb u q nm z=>by subst z;rw[q] at mu;exact nm mu
 refine{λb u q n _ _=>k b u (hb b n) q,λb u q n _ _=>{u.slots,k b u (hb b n) q},λb u q n _=>by rw[aB (hx b n)];exact n,λb u q _=>?_,
  λb xs q=>by rw[aB (hm b _ q λz=>z)];exact q,λb u xs q=>by rw[aB (hm b _ q λz=>z)];exact q,λb ps q=>{#[],by rw[aB (hm b _ q λz=>z),q];simp}}
 by_cases K2:b=e
 ·subst K2;exact heo
 ·exact{u,k b u K2 q}
end
noncomputable def P7 (h:AI)(H:Hp):Tf:=(List.range h.objs.size).filter λa=>(H a).isSome
noncomputable def uC (h:AI)(H:Hp):AI:=PySem.W.hideAll h (P7 h H)
def JBv (h:AI)(H:Hp):(uC h H).objs.size=h.objs.size:=PySem.W.hideAll_size _ _
def JEb {h:AI}{H:Hp}{b:A4}{o:B0}(e:h.get? b=some o)(n:H b=none):(uC h H).get? b=some o :=
 PySem.W.hideAll_get _ e λhm=>by have q:(H b).isSome=true:=(F7.mp hm).2;rw[n] at q;simp at q
theorem JGt {h:AI}{H:Hp}{b:A4}{o:B0}(e:(uC h H).get? b=some o):h.get? b=some o/\H b=none:=by
 have e':h.get? b=some o:=PySem.W.of_hideAll (P7 h H) e;refine{e',?_}
 cases q:H b with
 |none=>rfl
 |some x=>
  have hm:b∈P7 h H:=F7.mpr {G0.mpr (B4 e'),by simp[q]};have z:(uC h H).get? b=none:=PySem.W.hideAll_none (P7 h H) hm;rw[z] at e;cases e
noncomputable def Iq (g h:AI)(L:A4):Tc:=(List.range h.objs.size).filterMap λa=>if a=L\/(g.get? a).isSome=true then none else (h.get? a).map λo=>(a,o)
noncomputable def rest (g h:AI)(L d:A4):Tc:=(Iq g h L).filter λp=>decide (p.1≠d)
structure Mod (K:AP)(mg:Td)(base:Heap):Prop where
 kin:K.In base
 glob:base.Ns mainGlobals mg
 blt:∃mb,base.Ns builtinsNs mb/\∀x:Str,x≠"__name__"->mb x=bootBuiltins x
 nolimit:base.NoLimit
structure Cx where
 prog:Program
 w:World
 K:AP
 mg:Td
 base:Heap
 A:Around
 N:Tn
 s₀:Shared
 H₀:Hp
 env:Env
 outer:List Env
 stack:List Env
 ex:Tf
 fn:Str->Bool
 calm:Bool
 pn:Tc
 xe:Tb
noncomputable def Bt (l:T5 Env):Tf:=l.filterMap (·.frame)
abbrev Cx.fs (X:Cx):Tf:=Bt X.outer
def PX (sc:Scope)(x:Str):Prop:=sc.names.lookup x=some .local\/sc.names.lookup x=some .cell\/sc.names.lookup x=some .free
def IB (sc:Scope)(x:Str):Prop:=sc.names.lookup x=some .local\/sc.names.lookup x=some .cell
def SA (env:Env)(h:AI)(m:Td)(x:Str)(u:A3):Prop :=
 (env.kindOf x=some .local/\m x=some u)\/((env.kindOf x=some .cell\/env.kindOf x=some .free)/\∃c,env.cells.lookup x=some c/\h.IsCell c (some u))
structure Cx.Ok (X:Cx):Prop where
 mod:Mod X.K X.mg X.base
 kind:X.env.scope.kind=.function
 glob:X.env.globals=mainGlobals
 blt:X.env.builtins=builtinsNs
 above:X.s₀.heap.objs.size<=X.env.locals
 inj:∀x y c,X.env.cells.lookup x=some c->X.env.cells.lookup y=some c->x=y
 has:∀x,(X.env.kindOf x=some .cell\/X.env.kindOf x=some .free)->∃c,X.env.cells.lookup x=some c
 cab:∀x c,X.fn x=true->X.env.cells.lookup x=some c->X.s₀.heap.objs.size<=c
 hd:X.calm=true->X.A.handled=none
 frames:X.A.frames=some X.stack
 stk:X.stack=X.outer\/(X.stack=X.env::X.outer/\X.env.frame=some X.env.locals)
 exf:∀b∈X.ex,b≠X.env.locals/\∀x c,X.env.cells.lookup x=some c->c≠b
 bs:∀b o,X.base.get? b=some o->X.s₀.heap.get? b=some o/\X.H₀ b=none
 bsz:X.base.objs.size<=X.s₀.heap.objs.size
 noex:∀b o,X.base.get? b=some o->b∉X.ex
 exfs:∀b∈X.ex,b∉X.fs
 funs:X.s₀.heap.FunFrames X.base X.outer
 frf:∀b∈X.fs,X.H₀ b=none
structure aD (X:Cx)(A2:Tc)(Y:List (Option V))(H:Hp)(s:Shared):Prop where
 ok:X.Ok
 os:s.os=X.s₀.os
 bare:AllBare s.gens
 base:Un X.fs X.ex X.H₀ H X.s₀.heap s.heap
 loc:∃m,s.heap.Ns X.env.locals m/\∀(i:Nat) (x:Str) (v:V),X.N[i]?=some x->Y[i]?=some (some v)->PX X.env.scope x->∃u,be v u/\SA X.env s.heap m x u
 cell:∀x c,X.env.cells.lookup x=some c->∃v,s.heap.IsCell c v
 free:H X.env.locals=none
 freeC:∀x c,X.env.cells.lookup x=some c->H c=none
 pin:∀p∈X.pn++A2,s.heap.get? p.1=some p.2/\H p.1=none/\p.1≠X.env.locals/\p.1∉X.fs/\∀v,p.2.data≠.cell v
 hok:jg X.prog X.w H s.heap
 len:Y.length=X.N.length
section
variable {X:Cx}{A2:Tc}{Y:T5 (UE V)}{H H':Hp}{s:A1}{h':AI}
def Cx.Ok.nofr (ok:X.Ok){b:A4}{o:B0}(e:X.base.get? b=some o):b∉X.fs:=λhb=>by have:=(ok.funs.mem hb).1;rw[e] at this;cases this
def aD.bs (I:aD X A2 Y H s):∀b o,X.base.get? b=some o->s.heap.get? b=some o/\H b=none:=λb o e=>
 {I.base.keep b o (I.ok.bs b o e).1 (I.ok.bs b o e).2 (I.ok.nofr e) (I.ok.noex b o e),I.base.free b o (I.ok.bs b o e).1 (I.ok.bs b o e).2 (I.ok.noex b o e)}
def aD.bk (I:aD X A2 Y H s):∀b o,X.base.get? b=some o->s.heap.get? b=some o:=λb o e=>(I.bs b o e).1
def aD.mod (I:aD X A2 Y H s):Mod X.K X.mg X.base:=I.ok.mod
def aD.kIn (I:aD X A2 Y H s):X.K.In s.heap:=I.ok.mod.kin.keeps I.bk
def aD.lt (I:aD X A2 Y H s):X.env.locals<s.heap.objs.size:=let ⟨_,hn,_⟩:=I.loc;hn.lt
def aD.sz (I:aD X A2 Y H s):X.s₀.heap.objs.size<=s.heap.objs.size:=DL I.ok.above (GA I.lt)
def aD.nofs (I:aD X A2 Y H s){a:A4}(h:s.heap.objs.size<=a):a∉X.fs:=λhb=>by let⟨_,o,ho,_⟩:=I.ok.funs.mem hb;exact AJ (C1 (B4 ho) (DL I.sz h)) (C4 _)
def aD.cne (I:aD X A2 Y H s):∀x c,X.env.cells.lookup x=some c->c≠X.env.locals:=λx c e z=>by let⟨v,o,ho,hd⟩:=I.cell x c e;let⟨m,⟨o',es,ep,Bq,Fn,_⟩,_⟩:=I.loc;rw[z,Bq] at ho;cases ho;rw[Fn] at hd;cases hd
def aD.funs (I:aD X A2 Y H s):s.heap.FunFrames X.base X.outer:=by
 have all:∀(l:T5 Env),(∀b∈Bt l,b∈X.fs)->X.s₀.heap.FunFrames X.base l->s.heap.FunFrames X.base l:=by
  intro l;induction l with
  |nil=>intro _ _;trivial
  |cons env r ih=>
   intro hs hl;let⟨hk,⟨L,o,hf,hn,ho,hd⟩,hr⟩:=hl;have hL:L∈X.fs:=hs L (by unfold Bt;rw[zcv,hf];exact BB);let⟨sl,e⟩:=I.base.slot L o ho (I.ok.frf L hL) hL λz=>I.ok.exfs L z hL;exact{hk,{L,_,hf,hn,e,hd},ih (λb hb=>hs b (by unfold Bt;rw[zcv,hf];exact BF _ hb)) hr}
 exact all X.outer (λ_ hb=>hb) I.ok.funs
def aD.stack (I:aD X A2 Y H s):s.heap.FunFrames X.base X.stack:=by
 rcases I.ok.stk with e|⟨e,hf⟩
 ·rw[e];exact I.funs
 ·rw[e];let⟨m,hn,_⟩:=I.loc;refine .cons (by rw[I.ok.kind];decide) hf hn ?_ I.funs;exact Heap.get?_none_of_le (DL I.ok.bsz I.ok.above)
def aD.stkSub (I:aD X A2 Y H s):∀b∈Bt X.stack,b∈X.env.locals::X.fs:=λb hb=>by
 rcases I.ok.stk with e|⟨e,hf⟩
 ·rw[e] at hb;exact BF _ hb
 ·rw[e] at hb;unfold Bt at hb;rw[zcv,hf] at hb;exact hb
def aD.stkFree (I:aD X A2 Y H s):∀b∈Bt X.stack,H b=none:=λb hb=>by
 rcases BA.mp (I.stkSub b hb) with e|hb
 ·rw[e];exact I.free
 ·let⟨_,o,ho,_⟩:=I.ok.funs.mem hb;exact I.base.free b o ho (I.ok.frf b hb) λz=>I.ok.exfs b z hb
def aD.step {g':AD GenState}{t':Nat}{d':Drawn}{ch:Tf}(I:aD X A2 Y H s)
  (GN:∀b∈ch,(b∈X.ex\/X.s₀.heap.objs.size<=b)/\b≠X.env.locals/\(∀x c,X.env.cells.lookup x=some c->c≠b)/\∀p∈X.pn++A2,p.1≠b)
  (keep:∀b o,b≠X.env.locals->b∉X.fs->b∉ch->s.heap.get? b=some o->H b=none->h'.get? b=some o)
  (slot:∀b o,b≠X.env.locals->b∈X.fs->b∉ch->s.heap.get? b=some o->H b=none->∃sl,h'.get? b=some {o with slots:=sl}) (free:∀b o,b∉ch->s.heap.get? b=some o->H b=none->H' b=none)
  (there:∀b o,b∉ch->s.heap.get? b=some o->∃o',h'.get? b=some o')
  (tups:∀b xs,H b=some (.tup xs)->H' b=some (.tup xs)) (frzs:∀b o u,H b=some (.frz o u)->H' b=some (.frz o u)) (tbls:∀b ps,H b=some (.tbl ps)->∃more,H' b=some (.tbl (ps++more)))
  (ns:∀m,s.heap.Ns X.env.locals m->h'.Ns X.env.locals m) (hok:jg X.prog X.w H' h') (hg:AllBare g') :
  aD X A2 Y H' {s with heap:=h',gens:=g',drawn:=d',toks:=t'}:=by
 have neL:∀b o,X.s₀.heap.get? b=some o->b≠X.env.locals:=λb o e=>BG (C1 (B4 e) I.ok.above)
 have neC:∀b o,X.s₀.heap.get? b=some o->b∉X.ex->b∉ch:=λb o e hx hb=>by
  rcases (GN b hb).1 with z|z
  ·exact hx z
  ·exact AJ (C1 (B4 e) z) (C4 _)
 have cellK:∀x c,X.env.cells.lookup x=some c->∀v,s.heap.IsCell c v->h'.IsCell c v:=λx c e v ⟨o,ho,hd⟩=>by
  have nch:c∉ch:=λz=>(GN c z).2.2.1 x c e rfl
  by_cases hc:c∈X.fs
  ·let⟨sl,q⟩:=slot c o (I.cne x c e) hc nch ho (I.freeC x c e)
   exact{_,q,hd}
  ·exact{o,keep c o (I.cne x c e) hc nch ho (I.freeC x c e),hd}
 refine{I.ok,I.os,hg,{λb o e n hb hx=>?_,λb o e n hb hx=>?_,λb o e n hx=>?_,λb o e hx=>?_,λb xs e=>tups b xs (I.base.tups b xs e),λb o xs e=>frzs b o xs (I.base.frzs b o xs e),λb ps e=>?_},?_,λx c e=>?_,?_,λx c e=>?_,λp hp=>?_,hok,I.len}
 ·exact keep b o (neL b o e) hb (neC b o e hx) (I.base.keep b o e n hb hx) (I.base.free b o e n hx)
 ·let⟨sl,e1⟩:=I.base.slot b o e n hb hx
  let⟨sl',e2⟩:=slot b _ (neL b o e) hb (neC b o e hx) e1 (I.base.free b o e n hx);exact{sl',e2}
 ·let⟨o',e1⟩:=I.base.there b o e hx
  exact free b o' (neC b o e hx) e1 (I.base.free b o e n hx)
 ·let⟨o',e1⟩:=I.base.there b o e hx
  exact there b o' (neC b o e hx) e1
 ·let⟨m1,e1⟩:=I.base.tbls b ps e
  let⟨m2,e2⟩:=tbls b _ e1;exact{m1++m2,by rw[e2,Array.append_assoc]}
 ·let⟨m,hn,hl⟩:=I.loc
  refine{m,ns m hn,λi x v e1 e2 e3=>?_};let⟨u,r,l⟩:=hl i x v e1 e2 e3;refine{u,r,?_};rcases l with l|⟨k,c,e,z⟩
  ·exact .inl l
  ·exact .inr {k,c,e,cellK x c e _ z}
 ·let⟨v,z⟩:=I.cell x c e
  exact{v,cellK x c e v z}
 ·let⟨m,⟨o,_,_,ho,_⟩,_⟩:=I.loc
  exact free _ o (λz=>(GN _ z).2.1 rfl) ho I.free
 ·let⟨v,o,ho,hd⟩:=I.cell x c e
  exact free c o (λz=>(GN c z).2.2.1 x c e rfl) ho (I.freeC x c e)
 ·let⟨e,n,ne,nf,d⟩:=I.pin p hp
  have nch:p.1∉ch:=λz=>(GN p.1 z).2.2.2 p hp rfl;exact{keep p.1 p.2 ne nf nch e n,free p.1 p.2 nch e n,ne,nf,d}
def aD.un {t':Nat}(I:aD X A2 Y H s)(u:Un X.fs [] H H' s.heap h')(hok:jg X.prog X.w H' h'):aD X A2 Y H' {s with heap:=h',toks:=t'}:=by let⟨m,⟨o,es,ep,ho,r⟩,_⟩:=id I.loc;let⟨sl,hL⟩:=u.any ho I.free ∅;exact I.step (g':=s.gens) (d':=s.drawn) (ch:=[]) (λ_ z=>nomatch z) (λb o _ hb _ e n=>u.keep b o e n hb ∅) (λb o _ hb _ e n=>u.slot b o e n hb ∅) (λb o _ e n=>u.free b o e n ∅) (λb o _ e=>u.there b o e ∅) u.tups u.frzs u.tbls (λm' hm=>by let⟨o',BE,Gn,Bq,r'⟩:=hm;rw[ho] at Bq;cases Bq;exact{_,BE,Gn,hL,r'}) hok I.bare
def aD.call {g':AD GenState}{t':Nat}{d':Drawn}{ch:Tf}(I:aD X A2 Y H s)(u:Un (Bt X.stack) ch H H' s.heap h')(hok:jg X.prog X.w H' h')(hg:AllBare g')
  (GN:∀b∈ch,(b∈X.ex\/X.s₀.heap.objs.size<=b)/\b≠X.env.locals/\(∀x c,X.env.cells.lookup x=some c->c≠b)/\∀p∈X.pn++A2,p.1≠b) :
  aD X A2 Y H' {s with heap:=h',gens:=g',drawn:=d',toks:=t'}:=by
 let⟨m,⟨o,es,ep,ho,r⟩,_⟩:=id I.loc;let⟨sl,hL⟩:=u.any ho I.free λz=>(GN _ z).2.1 rfl
 exact I.step (ch:=ch) GN (λb o hL hb hc e n=>u.keep b o e n (λz=>(BA.mp (I.stkSub b z)).elim hL hb) hc) (λb o _ _ hc e n=>u.any e n hc) (λb o hc e n=>u.free b o e n hc) (λb o hc e=>u.there b o e hc) u.tups u.frzs u.tbls (λm' hm=>by
  let⟨o',BE,Gn,Bq,r'⟩:=hm;rw[ho] at Bq;cases Bq
  exact{_,BE,Gn,hL,r'}) hok hg
def aD.turned {t':Nat}{it:A4}(I:aD X A2 Y H s)(k:∀b o,b≠it->s.heap.get? b=some o->h'.get? b=some o)(hn:H it=none)(hL:it≠X.env.locals)
  (h1:it∈X.ex\/X.s₀.heap.objs.size<=it) (h2:∀x c,X.env.cells.lookup x=some c->c≠it) (h3:∀p∈X.pn++A2,p.1≠it):aD X A2 Y H {s with heap:=h',toks:=t'}:=by
 have nit:∀b u,H b=some u->b≠it:=λb u e z=>by rw[z,hn] at e;cases e
 refine I.step (g':=s.gens) (d':=s.drawn) (ch:=[it]) (λb hb=>?_) (λb o _ _ hc e _=>k b o (λz=>hc (by simp[z])) e) (λb o _ _ hc e _=>{o.slots,k b o (λz=>hc (by simp[z])) e}) (λ_ _ _ _ n=>n)
  (λb o hc e=>{o,k b o (λz=>hc (by simp[z])) e}) (λ_ _ e=>e) (λ_ _ _ e=>e) (λb ps e=>{#[],by rw[e];simp}) (λm hm=>?_) (λb u e=>?_) I.bare
 ·have e:b=it:=by simpa using hb
  subst e;exact{h1,hL,h2,h3}
 ·let⟨o,es,ep,ho,r⟩:=hm
  exact{o,es,ep,k _ o (Ne.symm hL) ho,r}
 ·refine(I.hok b u e).stay (λc v hc q=>k c v ?_ q) (λ_ q=>q) λ_ _ q=>q
  rcases hc with z|z
  ·rw[z];exact nit b u e
  ·exact nit c _ z
def aD.tok (I:aD X A2 Y H s)(t:Nat):aD X A2 Y H {s with toks:=t}:=I.un (h':=s.heap) (t':=t) Un.refl I.hok
def aD.kept {t':Nat}(I:aD X A2 Y H s)(k:∀b u,s.heap.get? b=some u->h'.get? b=some u):aD X A2 Y H {s with heap:=h',toks:=t'}:=I.un (Un.kept k) (I.hok.kept k)
def aD.laid {a:A4}{o:HO}{t':Nat}(I:aD X A2 Y H s)(k:∀b u,s.heap.get? b=some u->h'.get? b=some u)(hp:s.heap.objs.size<=a)(new:bo X.prog X.w (upd H a o) h' a o) :
  aD X A2 Y (upd H a o) {s with heap:=h',toks:=t'}:=I.un (Un.laid k hp (I.hok.fresh hp)) (I.hok.laid k hp new)
def aD.write {x e:A4}{o:HO}{t':Nat}(I:aD X A2 Y H s)(mu:PZ (H x))(he:e=x\/H e=some (.own x))(k:∀b u,b≠e->s.heap.get? b=some u->h'.get? b=some u)(heo:∃u,h'.get? e=some u)
  (new:bo X.prog X.w (upd H x o) h' x o):aD X A2 Y (upd H x o) {s with heap:=h',toks:=t'}:=I.un (Un.write mu he k heo) (I.hok.write mu he k heo new)
def aD.pins_of {HJ:Tc}(I:aD X A2 Y H s)(h:∀p∈HJ,s.heap.get? p.1=some p.2/\H p.1=none/\p.1≠X.env.locals/\p.1∉X.fs/\∀v,p.2.data≠.cell v):aD X HJ Y H s :=
 {I.ok,I.os,I.bare,I.base,I.loc,I.cell,I.free,I.freeC,λp hp=>(D7.mp hp).elim (λz=>I.pin p (zcp _ z)) (h p),I.hok,I.len}
def vZ {N:Tn}(hN:N.Nodup){i j:Nat}{x:Str}(a:N[i]?=some x)(b:N[j]?=some x):i=j:=by let⟨h1,e1⟩:=C3.mp a;let⟨h2,e2⟩:=C3.mp b;exact(zbP hN).mp (e1.trans e2.symm)
def sm {M:Model}{A:AL}{E:Tb}{i:Nat}{x:Str}{v:V}{u:A3}{Q:Unit->A1->Prop}(I:aD X A2 Y H s)(hN:X.N.Nodup)(hi:X.N[i]?=some x)(hx:IB X.env.scope x)(r:be v u)
  (h:∀s',aD X A2 (Y.set i (some v)) H s'->(∃a,Heap.SameBut a s.heap s'.heap/\(a=X.env.locals\/X.env.cells.lookup x=some a))->Q () s') (hf:X.fn x=true\/X.env.scope.names.lookup x=some .local:=by first|exact .inl rfl|exact .inr rfl|assumption):wpAny M A (storeName X.env x u) Q E s:=by
 let⟨m,hn,hl⟩:=id I.loc
 have hcls:(X.env.scope.kind == .class || (X.env.scope.kind == .module&&X.env.locals != X.env.globals))=false:=by rw[I.ok.kind];rfl
 have hiY:i<Y.length:=by rw[I.len];exact(C3.mp hi).1
 have cne:=I.cne
 have tracked:∀{a:A4} {h':AI},(∃o,s.heap.get? a=some o/\H a=none)->Heap.SameBut a s.heap h'->jg X.prog X.w H h':=λ{a h'} ha hs b ob e=>by
  let⟨_,_,E3⟩:=ha;refine(I.hok b ob e).stay (λc w' hc q=>(hs.2 c ?_).trans q) (λ_ q=>q) λ_ _ q=>q;rintro rfl;rcases hc with rfl|hc
  ·rw[E3] at e;cases e
  ·rw[E3] at hc;cases hc
 rcases hx with hk|hk
 ·refine wpAny_storeName_local hk hn (λh' Fe hs=>?_) hcls
  let⟨oL,_,_,Dp,_⟩:=id hn;refine h _ {I.ok,I.os,I.bare,{λb o e n hb hx=>?_,λb o e n hb hx=>?_,I.base.free,λb o e hx=>?_,I.base.tups,I.base.frzs,I.base.tbls},{_,Fe,λj y v' e1 e2 e3=>?_},λy c e=>?_,I.free,I.freeC,λp hp=>?_,tracked {oL,Dp,I.free} hs,by simpa using I.len} {_,hs,.inl rfl}
  ·exact(hs.2 b (BG (C1 (B4 e) I.ok.above))).trans (I.base.keep b o e n hb hx)
  ·let⟨sl,e1⟩:=I.base.slot b o e n hb hx
   exact{sl,(hs.2 b (BG (C1 (B4 e) I.ok.above))).trans e1}
  ·let⟨o',e1⟩:=I.base.there b o e hx
   exact{o',(hs.2 b (BG (C1 (B4 e) I.ok.above))).trans e1}
  ·by_cases hj:j=i
   ·subst hj
    rw[hi] at e1;cases e1;rw[FV hiY] at e2;cases e2;exact{u,r,.inl {hk,by simp}}
   ·rw[CP (Ne.symm hj)] at e2
    let⟨u',r',q⟩:=hl j y v' e1 e2 e3;refine{u',r',?_};rcases q with⟨k,e⟩|⟨k,c,e,z⟩
    ·refine .inl {k,?_}
     have:y≠x:=λe=>hj (vZ hN e1 (e ▸ hi));simp[this,e]
    ·exact .inr {k,c,e,z.sameBut hs (cne y c e)}
  ·let⟨w',z⟩:=I.cell y c e
   exact{w',z.sameBut hs (cne y c e)}
  ·let⟨e,n,ne,nf,d⟩:=I.pin p hp
   exact{(hs.2 p.1 ne).trans e,n,ne,nf,d}
 ·have hfn:X.fn x=true:=by
   rcases hf with z|z
   ·exact z
   ·rw[z] at hk;cases hk
  let⟨c,hc⟩:=I.ok.has x (.inl hk);let⟨w',z⟩:=I.cell x c hc;refine wpAny_storeName_cell I.ok.kind hk hc z (λh' GO hs=>?_);let⟨oc,hoc,hocd⟩:=id z;refine h {s with heap:=h'} {I.ok,I.os,I.bare,{λb o e n hb hx=>?_,λb o e n hb hx=>?_,I.base.free,λb o e hx=>?_,I.base.tups,I.base.frzs,I.base.tbls},{m,hn.sameBut hs (Ne.symm (cne x c hc)),λj y v' e1 e2 e3=>?_},λy c' e=>?_,I.free,I.freeC,λp hp=>?_,tracked {oc,hoc,I.freeC x c hc} hs,by simpa using I.len} {c,hs,.inr hc}
  ·exact(hs.2 b (BG (C1 (B4 e) (I.ok.cab x c hfn hc)))).trans (I.base.keep b o e n hb hx)
  ·let⟨sl,e1⟩:=I.base.slot b o e n hb hx
   exact{sl,(hs.2 b (BG (C1 (B4 e) (I.ok.cab x c hfn hc)))).trans e1}
  ·let⟨o',e1⟩:=I.base.there b o e hx
   exact{o',(hs.2 b (BG (C1 (B4 e) (I.ok.cab x c hfn hc)))).trans e1}
  ·by_cases hj:j=i
   ·subst hj
    rw[hi] at e1;cases e1;rw[FV hiY] at e2;cases e2;exact{u,r,.inr {.inl hk,c,hc,GO}}
   ·rw[CP (Ne.symm hj)] at e2
    let⟨u',r',q⟩:=hl j y v' e1 e2 e3;refine{u',r',?_};rcases q with q|⟨k,c',e,z'⟩
    ·exact .inl q
    ·refine .inr {k,c',e,z'.sameBut hs ?_}
     rintro rfl;exact hj (vZ hN e1 (I.ok.inj _ _ _ e hc ▸ hi))
  ·by_cases hcc:c'=c
   ·subst hcc;exact{_,GO}
   ·let⟨w2,z2⟩:=I.cell y c' e
    exact{w2,z2.sameBut hs hcc}
  ·let⟨e,n,ne,nf,d⟩:=I.pin p hp
   refine{(hs.2 p.1 ?_).trans e,n,ne,nf,d};intro q;rw[q,hoc] at e;have q':oc=p.2:=Option.some.inj e;exact d w' (by rw[←q'];exact hocd)
def dj {M:Model}{A:AL}{E:Tb}{i:Nat}{x:Str}{v:V}{u:A3}{Q:Unit->A1->Prop}(I:aD X A2 Y H s)(hN:X.N.Nodup)(hi:X.N[i]?=some x)(hx:IB X.env.scope x)(r:be v u)
  (h:∀s',aD X A2 (Y.set i (some v)) H s'->Q () s') (hf:X.fn x=true\/X.env.scope.names.lookup x=some .local:=by first|exact .inl rfl|exact .inr rfl|assumption):wpAny M A (storeName X.env x u) Q E s :=
 sm I hN hi hx r (λs' I' _=>h s' I') hf
def aD.call' {s':A1}{ch:Tf}(I:aD X A2 Y H s)(ho:s'.os=s.os)(u:Un (Bt X.stack) ch H H' s.heap s'.heap)(hok:jg X.prog X.w H' s'.heap)(hg:AllBare s'.gens)
  (GN:∀b∈ch,(b∈X.ex\/X.s₀.heap.objs.size<=b)/\b≠X.env.locals/\(∀x c,X.env.cells.lookup x=some c->c≠b)/\∀p∈X.pn++A2,p.1≠b):aD X A2 Y H' s':=by
 let⟨h',g',d',t',o'⟩:=s';have e:o'=s.os:=ho;subst e;exact I.call (g':=g') (t':=t') (d':=d') u hok hg GN
end
abbrev XK:=A3->UE A4->Hp->Prop
abbrev St:=T5 (UE V)
abbrev VK:=V->Hp->Prop
abbrev TE:=St->Hp->VK->Prop
abbrev TT:=St->Hp->(A8->Hp->Prop)->Prop
abbrev TA:=St->Hp->(T5 V->Hp->Prop)->Prop
structure gO where
 nx:St->Hp->Prop
 rt:VK
 bk:St->Hp->Prop:=λ_ _=>False
 ct:St->Hp->Prop:=λ_ _=>False
abbrev TS:=gO->St->Hp->Prop
def EP (X:Cx)(A2:Tc)(Y:St)(Q:VK)(u:A3)(s':A1):Prop:=∃v H',aD X A2 Y H' s'/\be v u/\Q v H'
def TP (X:Cx)(A2:Tc)(Y:St)(Q:A8->Hp->Prop)(b:A8)(s':A1):Prop:=∃H',aD X A2 Y H' s'/\Q b H'
def JAt (X:Cx)(A2:Tc)(Y:St)(Q:T5 V->Hp->Prop)(us:Te)(s':A1):Prop:=∃vs H',aD X A2 Y H' s'/\aR vs us/\Q vs H'
def SP (X:Cx)(A2:Tc)(D:gO)(f:Flow)(s':A1):Prop :=
 match f with
 |.next=>∃Y' H',aD X A2 Y' H' s'/\D.nx Y' H'
 |.brk=>∃Y' H',aD X A2 Y' H' s'/\D.bk Y' H'
 |.cont=>∃Y' H',aD X A2 Y' H' s'/\D.ct Y' H'
 |.ret u=>∃v Y' H',aD X A2 Y' H' s'/\be v u/\D.rt v H'
def PE (X:Cx)(e:AR)(t:TE):Prop :=
 ∀(A2:Tc) (s:A1) (Y:St) (H:Hp) (Q:VK),aD X A2 Y H s->t Y H Q->wpAny (model X.prog X.w) X.A (eval e X.env) (EP X A2 Y Q) X.xe s
def PT (X:Cx)(e:AR)(t:TT):Prop :=
 ∀(A2:Tc) (s:A1) (Y:St) (H:Hp) (Q:A8->Hp->Prop),aD X A2 Y H s->t Y H Q->wpAny (model X.prog X.w) X.A (isTrue e X.env (eval e X.env)) (TP X A2 Y Q) X.xe s
def PW (X:Cx)(e:AR)(t:TT):Prop :=
 ∀(whole:Sem A3) (A2:Tc) (s:A1) (Y:St) (H:Hp) (Q:A8->Hp->Prop),aD X A2 Y H s->t Y H Q->wpAny (model X.prog X.w) X.A (isTrue e X.env whole) (TP X A2 Y Q) X.xe s
def PW.pt {t:TT}(h:PW X e t):PT X e t:=h _
def PA (X:Cx)(es:Tj)(t:TA):Prop :=
 ∀(pos:Pos) (A2:Tc) (s:A1) (Y:St) (H:Hp) (Q:T5 V->Hp->Prop),aD X A2 Y H s->t Y H Q->wpAny (model X.prog X.w) X.A (spliced (backTo pos (starEach es X.env))) (JAt X A2 Y Q) X.xe s
def PS (X:Cx)(st:AU)(t:TS):Prop :=
 ∀(A2:Tc) (s:A1) (Y:St) (H:Hp) (D:gO),aD X A2 Y H s->t D Y H->wpAny (model X.prog X.w) X.A (exec st X.env) (SP X A2 D) X.xe s
def oZ (X:Cx)(st:Tk)(t:TS):Prop :=
 ∀(A2:Tc) (s:A1) (Y:St) (H:Hp) (D:gO),aD X A2 Y H s->t D Y H->wpAny (model X.prog X.w) X.A (execs st X.env) (SP X A2 D) X.xe s
def da {Z:Type}{t:Sem Z}{Q Q':Z->A1->Prop}{M:Model}{E:Tb}{s:A1}(h:wpAny M A t Q E s)(hQ:∀a s,Q a s->Q' a s):wpAny M A t Q' E s:=Dt h hQ λ_ _ x=>x
section
variable {X:Cx}
def Kr (i:Nat):TE:=λY H Q=>∃v,Y[i]?=some (some v)/\Q v H
def tC (v:V):TE:=λ_ H Q=>Q v H
def DD {i:Nat}{x:Str}(hN:X.N[i]?=some x)(hv:PX X.env.scope x)(hd:(x == ("__debug__" : Str))=false:=by decide)(Eg:(x == ("__classdict__" : Str))=false:=by decide):PE X (.Name x pos) (Kr i):=by
 intro A2 s Y H Q I h;let⟨v,e,h⟩:=h;let⟨m,hn,hl⟩:=I.loc;let⟨u,r,l⟩:=hl i x v hN e hv;have fin:EP X A2 Y Q u s:={v,H,I,r,h};rcases l with⟨hk,hm⟩|⟨hk,c,hc,Hg⟩
 ·exact wpAny_Name (wpAny_loadName_local I.ok.kind hk hn hm fin) hd
 ·rcases hk with hk|hk
  ·exact wpAny_Name (wpAny_loadName_cell I.ok.kind hk hc Hg fin) hd
  ·exact wpAny_Name (wpAny_loadName_free I.ok.kind hk hc Hg fin Eg) hd
def LO {i j pos}:PE X (.Constant (.int i) j pos) (tC (.int i)):=λ_ _ _ H _ I h=>wpAny_Constant_int {.int i,H,I.tok _,{_,rfl},h}
def OQ {b j pos}:PE X (.Constant (.bool b) j pos) (tC (.bl b)):=λ_ _ _ H _ I h=>Constant_bool {.bl b,H,I,rfl,h}
def ud {j pos}:PE X (.Constant .none j pos) (tC .non):=λ_ _ _ H _ I h=>Constant_none {.non,H,I,rfl,h}
def LK {x j pos}:PE X (.Constant (.str x) j pos) (tC (.str x)):=λ_ _ _ H _ I h=>Calls.Constant_str {.str x,H,I.tok _,{_,rfl},h}
def Gl (X:Cx)(x:Str):Prop:=X.env.kindOf x=some .globalImplicit
def uo {E:Tb}{s:A1}{H:Hp}{x:Str}{u:A3}{pos:Pos}{Q:Tb}(I:aD X A2 Y H s)(hg:Gl X x)(hm:X.mg x=some u)(h:Q u s)
  (hd:(x == ("__debug__" : Str))=false:=by decide):wpAny (model X.prog X.w) X.A (eval (.Name x pos) X.env) Q E s :=
 Calls.Name_function_global I.ok.kind hg (Calls.loadGlobal_global (by rw[I.ok.glob];exact I.mod.glob.keeps I.bk) hm h) hd
def qv {E:Tb}{s:A1}{H:Hp}{x:Str}{u:A3}{pos:Pos}{Q:Tb}(I:aD X A2 Y H s)(hg:Gl X x)(hm:X.mg x=none)(hv:bootBuiltins x=some u)(h:Q u s)
  (hn:x≠"__name__":=by decide) (hd:(x == ("__debug__" : Str))=false:=by decide):wpAny (model X.prog X.w) X.A (eval (.Name x pos) X.env) Q E s:=by
 let⟨mb,h1,h2⟩:=I.mod.blt;exact Calls.Name_function_global I.ok.kind hg (Calls.loadGlobal_builtin (by rw[I.ok.glob];exact I.mod.glob.keeps I.bk) hm (by rw[I.ok.blt];exact h1.keeps I.bk) ((h2 x hn).trans hv) h) hd
def JE6 {x:Str}{v:V}{u:A3}(hg:Gl X x)(hm:X.mg x=some u)(r:be v u)(hd:(x == ("__debug__" : Str))=false:=by decide):PE X (.Name x pos) (tC v) :=
 λ_ _ _ H _ I h=>uo I hg hm {v,H,I,r,h} hd
def JE7 {x:Str}{v:V}{u:A3}(hg:Gl X x)(hm:X.mg x=none)(hv:bootBuiltins x=some u)(r:be v u)(hn:x≠"__name__":=by decide)(hd:(x == ("__debug__" : Str))=false:=by decide):PE X (.Name x pos) (tC v) :=
 λ_ _ _ H _ I h=>qv I hg hm hv {v,H,I,r,h} hn hd
variable {a b:AR}{ta tb:TE}{pos:Pos}
def tB (t:TE):TT:=λY H Q=>t Y H λx H1=>∃c,x=.bl c/\Q c H1
variable {tA tB':TT}{rest:Tj}
def N4 (t u:TT):TT:=λY H Q=>t Y H λc H1=>if c=true then u Y H1 Q else Q false H1
def SX (t u:TT):TT:=λY H Q=>t Y H λc H1=>if c=true then Q true H1 else u Y H1 Q
def N0 (t:TT):TT:=λY H Q=>t Y H λc H1=>Q (!c) H1
theorem JFh (ha:PT X a tA):PW X (.BoolOp .And [a] pos) tA:=by
 intro wh A2 s Y H Q I h;refine isTrue_and (da (ha A2 s Y H Q I h) λc s1 e=>?_)
 cases c with
 |true=>exact isTrue_and_nil e
 |false=>exact e
theorem Lx (ha:PT X a tA):PW X (.BoolOp .Or [a] pos) tA:=by
 intro wh A2 s Y H Q I h;refine isTrue_or (da (ha A2 s Y H Q I h) λc s1 e=>?_)
 cases c with
 |false=>exact isTrue_or_nil e
 |true=>exact e
theorem Ly (ha:PT X a tA)(hb:PW X (.BoolOp .And (b::rest) pos) tB'):PW X (.BoolOp .And (a::b::rest) pos) (N4 tA tB'):=by
 intro wh A2 s Y H Q I h;refine isTrue_and (da (ha A2 s Y H _ I h) λc s1 hh=>?_);let⟨H1,I1,q1⟩:=hh
 cases c with
 |true=>exact hb wh A2 s1 Y H1 Q I1 q1
 |false=>exact{H1,I1,q1}
theorem OL (ha:PT X a tA)(hb:PW X (.BoolOp .Or (b::rest) pos) tB'):PW X (.BoolOp .Or (a::b::rest) pos) (SX tA tB'):=by
 intro wh A2 s Y H Q I h;refine isTrue_or (da (ha A2 s Y H _ I h) λc s1 hh=>?_);let⟨H1,I1,q1⟩:=hh
 cases c with
 |true=>exact{H1,I1,q1}
 |false=>exact hb wh A2 s1 Y H1 Q I1 q1
def LC (ha:PT X a tA):PT X (.UnaryOp .Not a pos) (N0 tA):=by intro A2 s Y H Q I h;exact isTrue_not (ha A2 s Y H (λc H1=>Q (!c) H1) I h)
def Jz (ta tb:TE):TE:=λY H Q=>ta Y H λx H1=>∃c,x=.bl c/\if c=true then tb Y H1 Q else Q (.bl false) H1
def NZ (ta tb:TE):TE:=λY H Q=>ta Y H λx H1=>∃c,x=.bl c/\if c=true then Q (.bl true) H1 else tb Y H1 Q
def Ju (ta:TE):TE:=λY H Q=>ta Y H λx H1=>∃c,x=.bl c/\Q (.bl (!c)) H1
def LL {op}{t:TE}(h:PE X a t):PE X (.BoolOp op [a] pos) t:=λA2 s Y H Q I hw=>BoolOp_one (h A2 s Y H Q I hw)
theorem LQ (ha:PE X a ta)(hb:PE X (.BoolOp .And (b::rest) pos) tb):PE X (.BoolOp .And (a::b::rest) pos) (Jz ta tb):=by
 intro A2 s Y H Q I h;refine BoolOp_and (da (ha A2 s Y H _ I h) λv s1 hh=>?_);let⟨x,H1,I1,r1,q1⟩:=hh;let⟨c,rfl,q1⟩:=q1;cases r1;refine zbZ ?_
 cases c with
 |true=>exact hb A2 s1 Y H1 Q I1 q1
 |false=>exact{.bl false,H1,I1,rfl,q1}
theorem OO (ha:PE X a ta)(hb:PE X (.BoolOp .Or (b::rest) pos) tb):PE X (.BoolOp .Or (a::b::rest) pos) (NZ ta tb):=by
 intro A2 s Y H Q I h;refine BoolOp_or (da (ha A2 s Y H _ I h) λv s1 hh=>?_);let⟨x,H1,I1,r1,q1⟩:=hh;let⟨c,rfl,q1⟩:=q1;cases r1;refine zbZ ?_
 cases c with
 |false=>exact hb A2 s1 Y H1 Q I1 q1
 |true=>exact{.bl true,H1,I1,rfl,q1}
def LM (ha:PE X a ta):PE X (.UnaryOp .Not a pos) (Ju ta):=by intro A2 s Y H Q I h;refine UnaryOp_ (da (ha A2 s Y H _ I h) λv s1 hh=>?_);let⟨x,H1,I1,r1,q1⟩:=hh;let⟨c,rfl,q1⟩:=q1;cases r1;exact not_of (zbZ {.bl (!c),H1,I1,rfl,q1})
def SY (t:TT)(ta tb:TE):TE:=λY H Q=>t Y H λc H1=>if c=true then ta Y H1 Q else tb Y H1 Q
theorem JC1 {c:AR}(hc:PT X c tA)(ha:PE X a ta)(hb:PE X b tb):PE X (.IfExp c a b pos) (SY tA ta tb):=by
 intro A2 s Y H Q I h;refine wpAny_IfExp (da (hc A2 s Y H _ I h) λd s1 hh=>?_);let⟨H1,I1,q1⟩:=hh
 cases d with
 |true=>exact ha A2 s1 Y H1 Q I1 q1
 |false=>exact hb A2 s1 Y H1 Q I1 q1
end
def jV (K:AP)(H:Hp)(a:A4)(xs:T5 V):Prop :=
 Rd H a (.lst xs) \/
  ∃(o:B0) (its:Ti) (n:Nat),K.lookup a=some o/\o.cls=.type "list"/\(o.dict=none/\o.slots = #[])/\o.data=.seq its n/\its.size<=sizeLine/\aR xs its.toList
def gM (K:AP)(H:Hp)(a:A4)(xs:T5 V):Prop :=
 Rd H a (.tup xs) \/
  ∃(o:B0) (its:Ti) (n:Nat),K.lookup a=some o/\o.cls=.type "tuple"/\o.dict=none/\o.data=.seq its n/\its.size<=sizeLine/\aR xs its.toList
noncomputable def Sw:A3->UE V
 |.none=>some .non
 |.bool b=>some (.bl b)
 |.int i _=>some (.int i)
 |.str x _=>some (.str x)
 |.bytes b _=>some (.byt b)
 |.float b _=>some (.flt b)
 |.ref a=>some (.ref a)
 |.type n=>some (.ty n)
 |_=>none
theorem be.abs {x:V}{u:A3}(r:be x u):Sw u=some x:=by
 cases x with
 |non=>cases r;rfl
 |bl _=>cases r;rfl
 |int _=>let⟨t,rfl⟩:=r;rfl
 |str _=>let⟨t,rfl⟩:=r;rfl
 |byt _=>let⟨t,rfl⟩:=r;rfl
 |flt _=>let⟨t,rfl⟩:=r;rfl
 |ref _=>cases r;rfl
 |ty _=>cases r;rfl
def be.inj {x y:V}{u:A3}(r:be x u)(q:be y u):x=y:=Option.some.inj (r.abs.symm.trans q.abs)
theorem aR.inj {xs ys:T5 V}{us:Te}(h:aR xs us):aR ys us->xs=ys:=by
 induction h generalizing ys with
 |nil=>intro q;cases q;rfl
 |cons r t ih=>intro q;cases q with|cons r' t'=>rw[r.inj r',ih t']
section
variable {X:Cx}{A2:Tc}{Y:St}{H:Hp}{s:A1}{a:A4}{xs ys:T5 V}
def gM.of {K:AP}(h:H a=some (.tup xs)):gM K H a xs:=.inl (.inl h)
def aD.list (I:aD X A2 Y H s)(h:jV X.K H a xs):∃its:Te,aR xs its/\PlainL s.heap a its.toArray/\xs.length<=sizeLine:=by
 rcases h with h|⟨o,its,n,hk,hc,hd,hs,hz,r⟩
 ·let⟨z,its,n,r,e⟩:=h.ok I.hok;exact{its,r,{_,n,e,rfl,rfl,rfl},z}
 ·refine{its.toList,r,{o,n,I.kIn a o hk,hc,hd.1,by simpa using hs},?_};have e:=r.length;rwa[DS] at e;omega
def aD.tuple (I:aD X A2 Y H s)(h:gM X.K H a xs):∃its:Te,aR xs its/\IsTup s.heap a its.toArray/\xs.length<=sizeLine:=by
 rcases h with h|⟨o,its,n,hk,hc,hn,hs,hz,r⟩
 ·let⟨z,its,r,p⟩:=h.ok I.hok;exact{its,r,p.1,z}
 ·refine{its.toList,r,{o,I.kIn a o hk,hc,n,by simpa using hs},?_};have e:=r.length;rwa[DS] at e;omega
def aD.list_inj (I:aD X A2 Y H s)(h:jV X.K H a xs)(h':jV X.K H a ys):xs=ys:=by
 let⟨its,r,⟨o,n,e,_,_,d⟩,_⟩:=I.list h;let⟨its',r',⟨o',n',e',_,_,d'⟩,_⟩:=I.list h';rw[e] at e';cases e';rw[d] at d';injection d' with d1 _
 have:its=its':=by simpa using AQ Array.toList d1
 subst this;exact r.inj r'
def aD.tuple_inj (I:aD X A2 Y H s)(h:gM X.K H a xs)(h':gM X.K H a ys):xs=ys:=by
 let⟨its,r,⟨o,e,_,n,d⟩,_⟩:=I.tuple h;let⟨its',r',⟨o',e',_,n',d'⟩,_⟩:=I.tuple h';rw[e] at e';cases e';rw[d] at d';injection d' with d1 _
 have:its=its':=by simpa using AQ Array.toList d1
 subst this;exact r.inj r'
end
abbrev Cx.wish (X:Cx)(E:Tb):Cx:={X with xe:=E}
abbrev Cx.nox (X:Cx):Cx:=X.wish λ_ _=>False
def Cx.Ok.wish {X:Cx}(ok:X.Ok)(E:Tb):(X.wish E).Ok :=
 {ok.mod,ok.kind,ok.glob,ok.blt,ok.above,ok.inj,ok.has,ok.cab,ok.hd,ok.frames,ok.stk,ok.exf,ok.bs,ok.bsz,ok.noex,ok.exfs,ok.funs,ok.frf}
def Cx.Ok.unwish {X:Cx}{E:Tb}(ok:(X.wish E).Ok):X.Ok :=
 {ok.mod,ok.kind,ok.glob,ok.blt,ok.above,ok.inj,ok.has,ok.cab,ok.hd,ok.frames,ok.stk,ok.exf,ok.bs,ok.bsz,ok.noex,ok.exfs,ok.funs,ok.frf}
section
variable {X:Cx}{A2:Tc}{Y:St}{H:Hp}{s:A1}{E:Tb}
def aD.wish (I:aD X A2 Y H s)(E:Tb):aD (X.wish E) A2 Y H s:={I.ok.wish E,I.os,I.bare,I.base,I.loc,I.cell,I.free,I.freeC,I.pin,I.hok,I.len}
def aD.unwish (I:aD (X.wish E) A2 Y H s):aD X A2 Y H s:={I.ok.unwish,I.os,I.bare,I.base,I.loc,I.cell,I.free,I.freeC,I.pin,I.hok,I.len}
theorem SP.unwish {D:gO}{f:Flow}{s':A1}(h:SP (X.wish E) A2 D f s'):SP X A2 D f s':=by
 cases f with
 |next=>let⟨Y',H',I,q⟩:=h;exact{Y',H',I.unwish,q}
 |brk=>let⟨Y',H',I,q⟩:=h;exact{Y',H',I.unwish,q}
 |cont=>let⟨Y',H',I,q⟩:=h;exact{Y',H',I.unwish,q}
 |ret u=>let⟨v,Y',H',I,r,q⟩:=h;exact{v,Y',H',I.unwish,r,q}
def oZ.nox {st:Tk}{t:TS}(h:oZ X.nox st t):oZ X st t:=λA2 s Y H D I hw=>
 Dt (h A2 s Y H D (I.wish _) hw) (λ_ _ q=>q.unwish) λ_ _ z=>False.elim z
end
section
variable {X:Cx}{st:AU}{rest:Tk}{t u:TS}{e:AR}{te:TE}{pos:Pos}
def Jv:TS:=λD Y H=>D.nx Y H
def NX (t u:TS):TS:=λD Y H=>t {D with nx:=u D} Y H
def JFk:oZ X [] Jv:=λ_ _ Y H _ I h=>zdc {Y,H,I,h}
theorem JDi (h1:PS X st t)(h2:oZ X rest u):oZ X (st::rest) (NX t u):=by
 intro A2 s Y H D I h;refine wpAny_execs_cons (da (h1 A2 s Y H {D with nx:=u D} I h) λf s1 q=>?_)
 cases f with
 |next=>
  let⟨Y',H',I',q⟩:=q;exact h2 A2 s1 Y' H' D I' q
 |ret v=>exact q
 |brk=>exact q
 |cont=>exact q
theorem JFj (h1:PS X st t):oZ X [st] t:=by
 intro A2 s Y H D I h;refine wpAny_execs_cons (da (h1 A2 s Y H D I h) λf s1 q=>?_)
 cases f with
 |next=>exact zdc q
 |ret v=>exact q
 |brk=>exact q
 |cont=>exact q
def aD.quiet {H:Hp}{s:A1}(I:aD X A2 Y H s):interactive X.env=false:=by simp[interactive,I.ok.kind]
def Jy (te:TE):TS:=λD Y H=>te Y H λ_ H1=>D.nx Y H1
def JFl (he:PE X e te)(hs:swapsWith e none pos.line X.env=pure false:=by rfl):PS X (.Expr e pos) (Jy te):=by intro A2 s Y H D I h;exact wpAny_Expr_any (da (he A2 s Y H _ I h) λv s1 ⟨x,H1,I1,r1,q1⟩=>{Y,H1,I1,q1}) I.quiet hs
def NY (te:TE):TS:=λD Y H=>te Y H D.rt
def LF (he:PE X e te):PS X (.Return (some e) pos) (NY te):=by intro A2 s Y H D I h;exact wpAny_Return_some (da (he A2 s Y H _ I h) λv s1 ⟨x,H1,I1,r1,q1⟩=>{x,Y,H1,I1,r1,q1})
def N2 (c:TT)(t u:TS):TS:=λD Y H=>c Y H λb H1=>if b=true then t D Y H1 else u D Y H1
theorem OM {c:AR}{a b:Tk}{tc:TT}(hc:PT X c tc)(ha:oZ X a t)(hb:oZ X b u):PS X (.If c a b pos) (N2 tc t u):=by
 intro A2 s Y H D I h;refine wpAny_If (da (hc A2 s Y H _ I h) λd s1 hh=>?_);let⟨H1,I1,q1⟩:=hh
 cases d with
 |true=>exact ha A2 s1 Y H1 D I1 q1
 |false=>exact hb A2 s1 Y H1 D I1 q1
end
abbrev TG:=V->St->Hp->(St->Hp->Prop)->Prop
abbrev FP:=T5 V->St->Hp->(St->Hp->Prop)->Prop
def PG (X:Cx)(target:AR)(t:TG):Prop :=
 ∀(A2:Tc) (s:A1) (Y:St) (H:Hp) (v:V) (u:A3) (Q:St->Hp->Prop),aD X A2 Y H s->be v u->t v Y H Q ->
  wpAny (model X.prog X.w) X.A (assign target X.env u) (λ_ s'=>∃Y' H',aD X A2 Y' H' s'/\Q Y' H') X.xe s
def FQ (X:Cx)(ts:Tj)(t:FP):Prop :=
 ∀(A2:Tc) (s:A1) (Y:St) (H:Hp) (vs:T5 V) (us:Te) (Q:St->Hp->Prop),aD X A2 Y H s->aR vs us->t vs Y H Q ->
  wpAny (model X.prog X.w) X.A (assignInOrder ((assignEach ts X.env).map (·.2)) us) (λ_ s'=>∃Y' H',aD X A2 Y' H' s'/\Q Y' H') X.xe s
abbrev Ix:=V->V->V->Hp->(Hp->Prop)->Prop
def u2 (X:Cx)(t:Ix):Prop :=
 ∀(A2:Tc) (s:A1) (Y:St) (H:Hp) (o i v:V) (ov iv u:A3) (Q:Hp->Prop),aD X A2 Y H s->be o ov->be i iv->be v u->t o i v H Q ->
  wpAny (model X.prog X.w) X.A (setItem ov iv u) (λ_ s'=>∃H',aD X A2 Y H' s'/\Q H') X.xe s
section
variable {X:Cx}{pos:Pos}
def sP (i:Nat):TG:=λv Y H Q=>Q (Y.set i (some v)) H
def JFq {i:Nat}{x:Str}(hN:X.N.Nodup)(hi:X.N[i]?=some x)(hx:IB X.env.scope x)(hf:X.fn x=true\/X.env.scope.names.lookup x=some .local:=by first|exact .inl rfl|exact .inr rfl|assumption):PG X (.Name x pos) (sP i):=by intro A2 s Y H v u Q I r h;exact wpAny_assign_Name (dj I hN hi hx r (λs' I'=>{_,H,I',h}) hf)
noncomputable def Ps:FP:=λvs Y H Q=>vs=[]/\Q Y H
noncomputable def J1 (t:TG)(u:FP):FP:=λvs Y H Q=>∃v r,vs=v::r/\t v Y H λY' H'=>u r Y' H' Q
def JFp:FQ X [] Ps:=by intro A2 s Y H vs us Q I r h;let⟨e,h⟩:=h;subst e;cases r;exact assignInOrder_nil {Y,H,I,h}
theorem JCz {e:AR}{es:Tj}{t:TG}{u:FP}(h1:PG X e t)(h2:FQ X es u)
  (hs:(assignEach (e::es) X.env).map (·.2)=assign e X.env::(assignEach es X.env).map (·.2):=by rfl):FQ X (e::es) (J1 t u):=by
 intro A2 s Y H vs us Q I r h;let⟨v,vr,e1,h⟩:=h;subst e1
 cases r with
 |cons r rr=>
  rw[hs];refine assignInOrder_cons (da (h1 A2 s Y H _ _ _ I r h) λ_ s1 hh=>?_);let⟨Y1,H1,I1,q1⟩:=hh;exact h2 A2 s1 Y1 H1 _ _ Q I1 rr q1
def Pr (K:AP)(n:Nat)(t:FP):TG:=λv Y H Q=>∃a xs,v=.ref a/\gM K H a xs/\xs.length=n/\t xs Y H Q
def LI {es:Tj}{k:Nat}{t:FP}{n:Nat}(hc:X.calm=true)(h:FQ X es t)
  (hn:(assignEach es X.env).length=n:=by rfl) (CL:(assignEach es X.env).findIdx? (·.1)=none:=by rfl):PG X (.Tuple es k pos) (Pr X.K n t):=by
 intro A2 s Y H v u Q I r hw;let⟨a,xs,e1,hq,hl,hw⟩:=hw;subst e1;cases r;let⟨its,rv,ht,hz⟩:=I.tuple hq;refine assign_Tuple_tuple (I.ok.hd hc) ht (by simp[hn,←hl,rv.length]) CL λh' hx=>?_;have I1:aD X A2 Y H {s with heap:=h'}:=I.kept (t':=s.toks) λb o e=>hx b o (BG (B4 e)) e;exact h A2 _ Y H xs _ Q I1 ‹rv› hw
def rV (to ti:TE)(t:Ix):TG:=λv Y H Q=>to Y H λo H1=>ti Y H1 λi H2=>t o i v H2 λH3=>Q Y H3
def DC {o i:AR}{to ti:TE}{t:Ix}(ho:PE X o to)(hi:PE X i ti)(hs:u2 X t)
  (ha:∀v,assign (.Subscript o i pos) X.env v=(do
   let ov ←holding [v] (eval o X.env)
   let iv ←holding [v,ov] (eval i X.env)
   standAt pos
   holding [v,ov,iv] (setItem ov iv v)
   release [v,ov,iv] []):=by intro _;rfl):PG X (.Subscript o i pos) (rV to ti t):=by
 intro A2 s Y H v u Q I r h;rw[ha];refine AB (Bg (da (ho A2 s Y H _ I h) λov s1 hh=>?_));let⟨x,H1,I1,r1,q1⟩:=hh;refine AB (Bg (da (hi A2 s1 Y H1 _ I1 q1) λiv s2 hh=>?_));let⟨y,H2,I2,r2,q2⟩:=hh;refine AB (wpAny_standAt (AB (Bg (da (hs A2 s2 Y H2 x y v ov iv u _ I2 r1 r2 r q2) λ_ s3 hh=>?_))));let⟨H3,I3,q3⟩:=hh;exact wpAny_release {Y,H3,I3,q3}
def Cs (te:TE)(g:TG):TS:=λD Y H=>te Y H λx H1=>g x Y H1 D.nx
def LH {tg e:AR}{te:TE}{g:TG}(he:PE X e te)(hg:PG X tg g)(hs:swapsWithSole [tg] e pos.line X.env=pure false:=by rfl)(hw:swappedStores [tg] e X.env=pure none:=by rfl)
  (h1:(assignEach [tg] X.env).map (·.2)=[assign tg X.env]:=by rfl):PS X (.Assign [tg] e pos) (Cs te g):=by
 intro A2 s Y H D I h;refine wpAny_Assign_stores (da (he A2 s Y H _ I h) λv s1 hh=>?_) hs hw;let⟨x,H1,I1,r1,q1⟩:=hh;rw[h1];exact da (hg A2 s1 Y H1 x v _ I1 r1 q1) λ_ s2 q=>q
def LD {i:Nat}{x:Str}{te:TE}{pos':Pos}(hN:X.N.Nodup)(hi:X.N[i]?=some x)(hx:IB X.env.scope x)(he:PE X e te)(hs:swapsWith e (some (.Name x pos')) pos.line X.env=pure false:=by rfl)(hf:X.fn x=true\/X.env.scope.names.lookup x=some .local:=by first|exact .inl rfl|exact .inr rfl|assumption) :
  PS X (.Assign [.Name x pos'] e pos) (Cs te (sP i)):=by
 intro A2 s Y H D I h;refine wpAny_Assign_Name (da (he A2 s Y H _ I h) λv s1 hh=>?_) hs;let⟨y,H1,I1,r1,q1⟩:=hh;exact dj I1 hN hi hx r1 (λs2 I2=>{_,H1,I2,q1}) hf
end
structure It where
 go:Nat->Hp->Prop
 yld:Nat->Hp->V->Hp->Prop
 stop:Nat->Hp->Prop
def ng (X:Cx)(A2:Tc)(H:Hp)(b:A4):Prop :=
 H b=none/\b≠X.env.locals/\b∉X.fs/\(b∈X.ex\/X.s₀.heap.objs.size<=b)/\(∀x c,X.env.cells.lookup x=some c->c≠b)/\∀p∈X.pn++A2,p.1≠b
def aD.fpOk {H H':Hp}{s:A1}{b:A4}(I:aD X A2 Y H s)(hb:s.heap.objs.size<=b)(hn:H' b=none):ng X A2 H' b:=by
 refine{hn,D4 (C1 I.lt hb),I.nofs hb,.inr (DL I.sz hb),λx c e z=>?_,λp hp z=>?_}
 ·let⟨v,q⟩:=I.cell x c e;exact AJ (C1 q.lt (by rw[z];exact hb)) (C4 _)
 ·exact AJ (C1 (B4 (I.pin p hp).1) (by rw[z];exact hb)) (C4 _)
structure BQ (P:Program)(w:World)(K:AP)(tg:Expr)(J:It)(fp:Tf)(it:Addr)(tn:Nat->Heap->Prop):Prop where
 mem:it∈fp
 obj:∀i h,tn i h->∀b∈fp,∃o,h.get? b=some o/\∀v,o.data≠.cell v
 keep:∀i h h',tn i h->(∀b∈fp,∀o,h.get? b=some o->h'.get? b=some o)->tn i h'
 item:∀(X:Cx),X.prog=P->X.w=w->X.K=K->X.calm=true->∀(i:Nat) (A2:Tc) (s:Shared) (Y:St) (H:Hp) (E:Tb),aD X A2 Y H s->(∀b∈fp,ng X A2 H b)->tn i s.heap->J.go i H ->
  wpAny (model P w) X.A (pyNext (.ref it)) (λr s1=>∃u,r=some u /\
   wpAny (model P w) X.A (letOwnedTupleGo tg (.ref it) u) (λ_ s2=>∃x H',aD X A2 Y H' s2/\be x u/\J.yld i H x H'/\tn (i+1) s2.heap/\∀b∈fp,H' b=none) E s1) E s
 done:∀(X:Cx),X.prog=P->X.w=w->X.K=K->X.calm=true->∀(i:Nat) (A2:Tc) (s:Shared) (Y:St) (H:Hp) (E:Tb),aD X A2 Y H s->(∀b∈fp,ng X A2 H b)->tn i s.heap->J.stop i H ->
  wpAny (model P w) X.A (pyNext (.ref it)) (λr s1=>r=none/\aD X A2 Y H s1) E s
 self:∀(A:Around) (i:Nat) (s:Shared) (Q:Tb) (E:Tb),tn i s.heap->Q (.ref it) s->wpAny (model P w) A (pyIter (.ref it)) Q E s
abbrev TI:=St->Hp->(It->Hp->Prop)->Prop
def Ua (X:Cx)(A2:Tc)(Y:St)(tg:AR)(R:It->Hp->Prop)(itv:A3)(s2:A1):Prop :=
 ∃(it:A4) (fp:Tf) (tn:Nat->AI->Prop) (J:It) (H':Hp),itv=.ref it/\aD X A2 Y H' s2/\BQ X.prog X.w X.K tg J fp it tn/\tn 0 s2.heap/\(∀b∈fp,ng X A2 H' b)/\R J H'
def PI (X:Cx)(tg iter:AR)(wi:TI):Prop :=
 ∀(A2:Tc) (s:A1) (Y:St) (H:Hp) (R:It->Hp->Prop),aD X A2 Y H s->wi Y H R ->
  wpAny (model X.prog X.w) X.A (eval iter X.env) (λv s1=>wpAny (model X.prog X.w) X.A (pyIter v) (Ua X A2 Y tg R) X.xe s1) X.xe s
def Ey {M : Model} {A : AL} {E : Tb} {s : A1} {tg : AR} {it : A4} {u : A3} {o : B0} {n : String} {vs : Ti} {Q : Unit -> A1 -> Prop} (ho : s.heap.get? it = some o) (hc : o.cls = .type n) (hd : o.data = .fields vs)
    (hn : ["enumerate", "zip", "dict_itemiterator", "dict_reverseitemiterator", "odict_iterator", "itertools.zip_longest", "itertools.pairwise"].contains n = false) (hQ : Q () s) : wpAny M A (letOwnedTupleGo tg (.ref it) u) Q E s := by
  unfold letOwnedTupleGo
  cases tg <;> first
    | exact AN hQ
    | (cases u <;> first
        | exact AN hQ
        | (refine AB (wpAny_load ho ?_)
           rw[hc, hd]
           show wpAny M A (if (["enumerate", "zip", "dict_itemiterator", "dict_reverseitemiterator", "odict_iterator", "itertools.zip_longest", "itertools.pairwise"].contains n&&vs[0]? == some (rawInt _)) = true then _ else _) Q E s
           rw[A5 (by intro h; rw[hn, zcZ] at h; cases h)]
           exact AN hQ))
def SE (K:AP)(a:A4):It :=
 {λi H=>∃xs x,jV K H a xs/\xs[i]?=some x,λi H x H'=>H'=H/\∀xs,jV K H a xs->xs[i]?=some x,λi H=>∃xs,jV K H a xs/\xs.length<=i}
def SD (K:AP)(a:A4):It :=
 {λi H=>∃xs x,gM K H a xs/\xs[i]?=some x,λi H x H'=>H'=H/\∀xs,gM K H a xs->xs[i]?=some x,λi H=>∃xs,gM K H a xs/\xs.length<=i}
def QT (lo:Int)(n:Nat):It:={λi _=>i<n,λi H x H'=>H'=H/\x=.int (lo+i),λi _=>n<=i}
def JAm {K:AP}{tg:AR}(a it:A4):BQ P w K tg (SE K a) [it] it (λi h=>h.IsListIter it a i) where
 mem:=by simp
 obj:=λi h st b hb=>by
  have e:b=it:=by simpa using hb
  subst e;let⟨o,e,c,d⟩:=st;exact{o,e,λv z=>by rw[d] at z;cases z}
 keep:=λi h h' st k=>st.at λo e=>k it ∅ o e
 item:=by intro X hP hw hK hc i A2 s Y H E I hf st hg;subst hP hw hK;let⟨xs,x,hq,hx⟩:=hg;let⟨its,rv,p,hz⟩:=I.list hq;let⟨u,hu,ru⟩:=rv.get hx;let⟨f0,f1,f2,f3,f4,f5⟩:=hf it ∅;refine wpAny_pyNext_list_item st p.isList (x:=u) ‹hu› λh' CI sb=>?_;have I1:aD X A2 Y H {s with heap:=h'}:=I.turned (t':=s.toks) (λb o hb e=>(sb.2 b hb).trans e) f0 f1 f3 f4 f5;let⟨o,e,c,d⟩:=id CI;exact{u,rfl,Ey (s:={s with heap:=h'}) e c d ∅ {x,H,I1,ru,{rfl,λys hy=>by rw[I.list_inj hy hq];exact hx},CI,λb hb=>(hf b hb).1}}
 done:=by intro X hP hw hK hc i A2 s Y H E I hf st hg;subst hP hw hK;let⟨xs,hq,hx⟩:=hg;let⟨its,rv,p,hz⟩:=I.list hq;let⟨f0,f1,f2,f3,f4,f5⟩:=hf it ∅;have hl:=rv.length;exact wpAny_pyNext_list_end (I.ok.hd hc) st p.isList (by simp;omega) λh' eb=>{rfl,I.turned (t':=s.toks) (λb o hb e=>eb b o hb e) f0 f1 f3 f4 f5}
 self:=λ_ _ _ _ _ st h=>wpAny_pyIter_listiter st h
def xz {K:AP}{tg:AR}(a it:A4):BQ P w K tg (SD K a) [it] it (λi h=>h.IsTupleIter it a i) where
 mem:=by simp
 obj:=λi h st b hb=>by
  have e:b=it:=by simpa using hb
  subst e;let⟨o,e,c,d⟩:=st;exact{o,e,λv z=>by rw[d] at z;cases z}
 keep:=λi h h' st k=>st.at λo e=>k it ∅ o e
 item:=by intro X hP hw hK hc i A2 s Y H E I hf st hg;subst hP hw hK;let⟨xs,x,hq,hx⟩:=hg;let⟨its,rv,p,hz⟩:=I.tuple hq;let⟨u,hu,ru⟩:=rv.get hx;let⟨f0,f1,f2,f3,f4,f5⟩:=hf it ∅;refine wpAny_pyNext_tuple_item st (show s.heap.IsTuple a its.toArray from p) (x:=u) ‹hu› λh' CI sb=>?_;have I1:aD X A2 Y H {s with heap:=h'}:=I.turned (t':=s.toks) (λb o hb e=>(sb.2 b hb).trans e) f0 f1 f3 f4 f5;let⟨o,e,c,d⟩:=id CI;exact{u,rfl,Ey (s:={s with heap:=h'}) e c d ∅ {x,H,I1,ru,{rfl,λys hy=>by rw[I.tuple_inj hy hq];exact hx},CI,λb hb=>(hf b hb).1}}
 done:=by intro X hP hw hK hc i A2 s Y H E I hf st hg;subst hP hw hK;let⟨xs,hq,hx⟩:=hg;let⟨its,rv,p,hz⟩:=I.tuple hq;let⟨f0,f1,f2,f3,f4,f5⟩:=hf it ∅;have hl:=rv.length;exact wpAny_pyNext_tuple_end (I.ok.hd hc) st (show s.heap.IsTuple a its.toArray from p) (by simp;omega) λh' eb=>{rfl,I.turned (t':=s.toks) (λb o hb e=>eb b o hb e) f0 f1 f3 f4 f5}
 self:=λ_ _ _ _ _ st h=>wpAny_pyIter_tupleiter st h
def xA {w:AM}{K:AP}{tg:AR}(it:A4)(lo:Int)(n:Nat):BQ P w K tg (QT lo n) [it] it (λi h=>IsRangeIter h it (lo+(i:Nat)*1) ((n:Int)-(i:Nat)) 1) where
 mem:=by simp
 obj:=λi h st b hb=>by
  have e:b=it:=by simpa using hb
  subst e;exact{_,st,λv z=>by
   have z':Data.fields _=Data.cell v:=z
   cases z'}
 keep:=λi h h' st k=>k it ∅ _ st
 item:=by intro X hP hw hK hc i A2 s Y H E I hf st hg;subst hP hw hK;obtain⟨f0,f1,f2,f3,f4,f5⟩:=hf it ∅;have W:=Walks.range (prog:=X.prog) (w:=X.w) (I.ok.hd hc) it lo 1 n;refine W.item i s _ _ hg st λv h' tk hv CI kk=>?_;obtain⟨t,rfl⟩:=hv;have I1:aD X A2 Y H {s with heap:=h',toks:=tk}:=I.turned (λb o hb e=>kk b o ‹hb› e) f0 f1 f3 f4 f5;refine{_,rfl,Ey (s:={s with heap:=h',toks:=tk}) (n:="range_iterator") CI rfl rfl ∅ {.int (lo+i),H,I1,{t,?_},{rfl,rfl},CI,λb hb=>(hf b hb).1}};rw[Int.mul_one]
 done:=by intro X hP hw hK hc i A2 s Y H E I hf st hg;subst hP hw hK;let⟨f0,f1,f2,f3,f4,f5⟩:=hf it ∅;exact wpAny_pyNext_range_end (I.ok.hd hc) st (by have:n<=i:=hg;omega) λh' eb=>{rfl,I.turned (t':=s.toks) (λb o hb e=>eb b o hb e) f0 f1 f3 f4 f5}
 self:=λ_ _ _ _ _ st h=>wpAny_pyIter_rangeiter st h
section
variable {X:Cx}{tg:AR}
def JB7 {H:Hp}{s:A1}{R:It->Hp->Prop}{E:Tb}{lo hi:Int}{t u v:Tok}{tk:Nat}(I:aD X A2 Y H s)(h1 : -(2 ^ 62)<=lo)(h2:lo<2 ^ 62)(h3 : -(2 ^ 62)<=hi)(h4:hi<2 ^ 62)
  (q:R (QT lo (hi-lo).toNat) H):wpAny (model X.prog X.w) X.A (pyIter (.ref s.heap.objs.size)) (Ua X A2 Y tg R) E {s with heap:=s.heap.push {cls:=.type "range",data:=.fields #[.int lo t,.int hi u,.int 1 v]},toks:=tk}:=by
 refine wpAny_pyIter_range (IsRange.new ..) (small_one h1 h2 h3 h4) ?_;have I1:aD X A2 Y H {s with heap:=s.heap.push {cls:=.type "range",data:=.fields #[.int lo t,.int hi u,.int 1 v]},toks:=tk}:=I.kept λb o e=>AY _ e
 refine{(s.heap.push {cls:=.type "range",data:=.fields #[.int lo t,.int hi u,.int 1 v]}).objs.size,[(s.heap.push {cls:=.type "range",data:=.fields #[.int lo t,.int hi u,.int 1 v]}).objs.size],_,_,H,rfl,
  I1.kept (t':=tk) λb o e=>AY _ e,xA _ lo (hi-lo).toNat,?_,λb hb=>?_,q}
 ·have e1:lo+((0:Nat):Int)*1=lo:=by simp
  have e2:(((hi-lo).toNat:Nat):Int)-((0:Nat):Int)=Builtin.Range.rangeSize lo hi 1:=by rw[rangeSize_one];split <;> omega
  show IsRangeIter _ _ (lo+((0:Nat):Int)*1) ((((hi-lo).toNat:Nat):Int)-((0:Nat):Int)) 1
  rw[e1,e2];exact BI _ rfl
 ·have e:b=(s.heap.push {cls:=.type "range",data:=.fields #[.int lo t,.int hi u,.int 1 v]}).objs.size:=by simpa using hb
  subst e;exact I1.fpOk (B3 _) (I1.hok.fresh (B3 _))
def J0 (ta:TA):TI:=λY H R=>ta Y H λvs H1=>∃j:Int,vs=[.int j]/\-(2 ^ 62)<=j/\j<2 ^ 62/\R (QT 0 j.toNat) H1
theorem JA1 {a:AR}{ta:TA}{p pos:Pos}(hg:Gl X "range")(hm:X.mg "range" = none)(ha:PA X [a] ta)(hs:starEach [a] X.env=[(false,eval a X.env)]:=by rfl):PI X tg (.Call (.Name "range" p) [a] [] pos) (J0 ta):=by
 intro A2 s Y H R I h;refine Call_ (qv I hg hm boot_range (PyProof.Rows.callWith_type1 (da (ha pos A2 s Y H _ I h) λus s1 hh=>?_) hs rfl));let⟨vs,H1,I1,r1,q1⟩:=hh;let⟨j,e,q1,q2,q⟩:=q1;subst e
 cases r1 with
 |cons r rr=>
  cases rr;let⟨t,rfl⟩:=r;exact call_range_1 (JB7 I1 ∅ ∅ q1 q2 ‹q›)
def Kt (wi:TI)(g:TG)(tb:TS):TS:=λD Y H=>wi Y H λJ H1=>∃W:Nat->Nat->St->Hp->Prop,(∃m,W 0 m Y H1)/\∀i m Y H,W i m Y H ->
 (J.stop i H/\D.nx Y H)\/(J.go i H/\∃N:St->Hp->Prop,(∀Y' H',N Y' H'->∃m',m'<m/\W (i+1) m' Y' H')/\∀x H',J.yld i H x H'->g x Y H' λY2 H2=>tb {D with nx:=N,ct:=N,bk:=D.nx} Y2 H2)
noncomputable def lU (fp:Tf)(h:AI):Tc:=fp.filterMap λb=>(h.get? b).map λo=>(b,o)
def fA {fp:Tf}{h:AI}{b:A4}{o:B0}(hb:b∈fp)(e:h.get? b=some o):(b,o)∈lU fp h:=List.mem_filterMap.mpr {b,hb,by rw[e];rfl}
theorem sH {fp:Tf}{h:AI}{p:A4×B0}(hp:p∈lU fp h):p.1∈fp/\h.get? p.1=some p.2:=by
 let⟨b,hb,e⟩:=List.mem_filterMap.mp hp
 cases q:h.get? b with
 |none=>rw[q] at e;cases e
 |some o=>
  rw[q] at e;have e':(b,o)=p:=Option.some.inj e;subst e';exact{hb,q}
def aD.pinned {H:Hp}{s:A1}{fp:Tf}(I:aD X A2 Y H s)(hf:∀b∈fp,ng X A2 H b)(ho:∀b∈fp,∃o,s.heap.get? b=some o/\∀v,o.data≠.cell v):aD X (A2++lU fp s.heap) Y H s :=
 I.pins_of λp hp=>(D7.mp hp).elim (λz=>I.pin p (D2 _ z)) λz=>by let⟨hb,e⟩:=sH z;let⟨f0,f1,f2,_⟩:=hf p.1 hb;let⟨o,e',d⟩:=ho p.1 hb;rw[e] at e';cases e';exact{e,f0,f1,f2,d}
def aD.unpinned {A2 pl:Tc}{H:Hp}{s:A1}(I:aD X (A2++pl) Y H s):aD X A2 Y H s:=I.pins_of λp hp=>I.pin p (D2 _ (zcp _ hp))
def Ds {iter:AR}{body:Tk}{wi:TI}{g:TG}{tb:TS}{pos:Pos}(hp:PassesOwn (model X.prog X.w) X.A X.env X.xe)(hc:X.calm=true)(hi:PI X tg iter wi)(hg:PG X tg g)(hb:oZ X body tb)
  (hs:∀x,foldedSetIterable iter X.env x=pure x:=by intro _;rfl):PS X (.For tg iter body [] pos) (Kt wi g tb):=by
 intro A2 s Y H D I h;refine wpAny_For (da (hi A2 s Y H _ I h) λv s1 h1=>da h1 λitv s2 h2=>?_) hs;let⟨it,fp,tn,J,H2,e,I2,T,st2,f2,W,⟨m0,w0⟩,turn⟩:=h2;subst e;have stat:∀{H':Hp},(∀b∈fp,H' b=none)->∀b∈fp,ng X A2 H' b:=λhn b hb=>{hn b hb,(f2 b hb).2};refine codeAny_forLoop_any (λn s'=>∃i Y' H',aD X A2 Y' H' s'/\tn i s'.heap/\(∀b∈fp,H' b=none)/\W i n Y' H') ?_ m0 {0,Y,H2,I2,st2,λb hb=>(f2 b hb).1,w0};rintro n s3 ⟨i,Y3,H3,I3,st3,fr3,w3⟩;rcases turn i n Y3 H3 w3 with⟨stop,qn⟩|⟨go,N,hN,step⟩
 ·refine zcz hp (da (T.done X rfl rfl rfl hc i A2 s3 Y3 H3 X.xe I3 (stat fr3) st3 stop) λr s4 hh=>?_)
  let⟨hr,I4⟩:=hh;subst hr;exact zdc {Y3,H3,I4,qn}
 ·refine zcz hp (da (T.item X rfl rfl rfl hc i A2 s3 Y3 H3 X.xe I3 (stat fr3) st3 go) λr s4 hh=>?_)
  let⟨u,hr,h4⟩:=hh;subst hr;refine zcz hp (da h4 λ_ s5 hh=>?_);let⟨x,H5,I5,r5,y5,GX,fr5⟩:=hh;have I5':=I5.pinned (stat fr5) (T.obj _ _ GX);refine zcz hp (da (hg _ s5 Y3 H5 x u _ I5' r5 (step x H5 y5)) λ_ s6 hh=>?_);let⟨Y6,H6,I6,q6⟩:=hh;refine zcz hp (da (hb _ s6 Y6 H6 _ I6 q6) λf s7 q7=>?_)
  have again:∀{Y7:St} {H7:Hp},aD X (A2++lU fp s5.heap) Y7 H7 s7->N Y7 H7->∃m,m<n/\∃i Y' H',aD X A2 Y' H' s7/\tn i s7.heap/\(∀b∈fp,H' b=none)/\W i m Y' H':=λ{Y7 H7} I7 n7=>by
   let⟨m',hm,w7⟩:=hN Y7 H7 n7;refine{m',hm,i+1,Y7,H7,I7.unpinned,T.keep _ _ _ GX λb hb o e=>(I7.pin (b,o) (D2 _ (D2 _ (fA hb e)))).1,λb hb=>?_,w7};let⟨o,e,d⟩:=T.obj _ _ GX b hb;exact(I7.pin (b,o) (D2 _ (D2 _ (fA hb e)))).2.1
  cases f with
  |next=>let⟨Y7,H7,I7,n7⟩:=q7;exact again I7 n7
  |cont=>let⟨Y7,H7,I7,n7⟩:=q7;exact again I7 n7
  |brk=>let⟨Y7,H7,I7,q7⟩:=q7;exact{Y7,H7,I7.unpinned,q7}
  |ret v=>let⟨x7,Y7,H7,I7,r7,q7⟩:=q7;exact{x7,Y7,H7,I7.unpinned,r7,q7}
end
abbrev R2:=V->V->Hp->VK->Prop
def kR (X:Cx)(f:A3->A3->Sem A3)(r:R2):Prop :=
 ∀(A2:Tc) (s:A1) (Y:St) (H:Hp) (x y:V) (v u:A3) (Q:VK),aD X A2 Y H s->be x v->be y u->r x y H Q ->
  wpAny (model X.prog X.w) X.A (f v u) (EP X A2 Y Q) X.xe s
def Sx (X:Cx)(f:A3->Sem A3)(r:V->Hp->VK->Prop):Prop :=
 ∀(A2:Tc) (s:A1) (Y:St) (H:Hp) (x:V) (v:A3) (Q:VK),aD X A2 Y H s->be x v->r x H Q ->
  wpAny (model X.prog X.w) X.A (f v) (EP X A2 Y Q) X.xe s
def fm (X:Cx)(f:A3)(r:T5 V->Hp->VK->Prop):Prop :=
 ∀(A2:Tc) (s:A1) (Y:St) (H:Hp) (xs:T5 V) (us:Te) (Q:VK),aD X A2 Y H s->aR xs us->r xs H Q ->
  wpAny (model X.prog X.w) X.A (call f us) (EP X A2 Y Q) X.xe s
def Sy (X:Cx)(r:V->Hp->(A8->Hp->Prop)->Prop):Prop :=
 ∀(A2:Tc) (s:A1) (Y:St) (H:Hp) (x:V) (v:A3) (Q:A8->Hp->Prop),aD X A2 Y H s->be x v->r x H Q ->
  wpAny (model X.prog X.w) X.A (truthy v) (TP X A2 Y Q) X.xe s
def Ks (r:R2)(ta tb:TE):TE:=λY H Q=>ta Y H λx H1=>tb Y H1 λy H2=>r x y H2 Q
def SW (r:V->Hp->VK->Prop)(ta:TE):TE:=λY H Q=>ta Y H λx H1=>r x H1 Q
def rI (C:Int->Int->Prop)(g:Int->Int->V):R2:=λx y H Q=>∃i j,x=.int i/\y=.int j/\C i j/\Q (g i j) H
def AT (g:Int->Int->V):R2:=λx y H Q=>∃i j,x=.int i/\y=.int j/\Q (g i j) H
def rU (g:Int->V):V->Hp->VK->Prop:=λx H Q=>∃i,x=.int i/\Q (g i) H
section
variable {X:Cx}{a b:AR}{ta tb:TE}{pos:Pos}
def Im (ha:PE X a ta)(hb:PE X b tb){s:A1}{H:Hp}{R:V->V->Hp->Prop}(I:aD X A2 Y H s)
  (h:ta Y H λx H1=>tb Y H1 λy H2=>R x y H2) {Q:Tb} {f:A3->A3->Sem A3}
  (hf:∀v u s2 x y H2,aD X A2 Y H2 s2->be x v->be y u->R x y H2->wpAny (model X.prog X.w) X.A (f v u) Q X.xe s2) :
  wpAny (model X.prog X.w) X.A (eval a X.env) (λv s₁=>wpAny (model X.prog X.w) X.A (eval b X.env) (λu s₂=>wpAny (model X.prog X.w) X.A (f v u) Q X.xe s₂) X.xe s₁) X.xe s:=by
 refine da (ha A2 s Y H _ I h) λv s1 hh=>?_;let⟨x,H1,I1,r1,q1⟩:=hh;refine da (hb A2 s1 Y H1 _ I1 q1) λu s2 hh=>?_;let⟨y,H2,I2,r2,q2⟩:=hh;exact hf v u s2 x y H2 I2 r1 r2 q2
def om {op:Operator}{r:R2}(ho:kR X (binaryOp op) r)(ha:PE X a ta)(hb:PE X b tb):PE X (.BinOp a op b pos) (Ks r ta tb):=by intro A2 s Y H Q I h;exact wpAny_BinOp (Im ha hb I h λv u s2 x y H2 I2 rx ry q=>ho A2 s2 Y H2 x y v u Q I2 rx ry q)
def ON {op:UnaryOp}{r:V->Hp->VK->Prop}(ho:Sx X (unaryOp op) r)(ha:PE X a ta):PE X (.UnaryOp op a pos) (SW r ta):=by intro A2 s Y H Q I h;exact UnaryOp_ (da (ha A2 s Y H _ I h) λv s1 ⟨x,H1,I1,r1,q1⟩=>ho A2 s1 Y H1 x v Q I1 r1 q1)
def Qb {f:A3->A3->Sem A3}{C:Int->Int->Prop}{g:Int->Int->Int}
  (rule:∀(i j:Int) (t u:Tok) (s:A1) (Q:Tb) (E:Tb),C i j->Q (.int (g i j) s.toks) {s with toks:=s.toks+1}->wpAny (model X.prog X.w) X.A (f (.int i t) (.int j u)) Q E s) :
  kR X f (rI C λi j=>.int (g i j)):=by
 intro A2 s Y H x y v u Q I rx ry h;let⟨i,j,rfl,rfl,hc,q⟩:=h;let⟨t,rfl⟩:=rx;let⟨t',rfl⟩:=ry;exact rule i j t t' s _ _ hc {.int (g i j),H,I.tok _,{_,rfl},q}
def OT {f:A3->A3->Sem A3}{g:Int->Int->Int}
  (rule:∀(i j:Int) (t u:Tok) (s:A1) (Q:Tb) (E:Tb),Q (.int (g i j) s.toks) {s with toks:=s.toks+1}->wpAny (model X.prog X.w) X.A (f (.int i t) (.int j u)) Q E s) :
  kR X f (AT λi j=>.int (g i j)):=by
 intro A2 s Y H x y v u Q I rx ry h;let⟨i,j,rfl,rfl,q⟩:=h;let⟨t,rfl⟩:=rx;let⟨t',rfl⟩:=ry;exact rule i j t t' s _ _ {.int (g i j),H,I.tok _,{_,rfl},q}
def L1 {f:A3->A3->Sem A3}{g:Int->Int->A8}
  (rule:∀(i j:Int) (t u:Tok) (s:A1) (Q:Tb) (E:Tb),Q (.bool (g i j)) s->wpAny (model X.prog X.w) X.A (f (.int i t) (.int j u)) Q E s) :
  kR X f (AT λi j=>.bl (g i j)):=by
 intro A2 s Y H x y v u Q I rx ry h;let⟨i,j,rfl,rfl,q⟩:=h;let⟨t,rfl⟩:=rx;let⟨t',rfl⟩:=ry;exact rule i j t t' s _ _ {.bl (g i j),H,I,rfl,q}
def M8 (i j:Int):Prop:=0<j/\j<1073741824
def M7 (i j:Int):Prop:=0<=j/\j<=1000000/\i.natAbs<2 ^ 64
def FD (i j:Int):Prop:=(-(2 ^ 64)<i/\i<2 ^ 64)\/(-(2 ^ 64)<j/\j<2 ^ 64)
def FD.ok {i j:Int}(h:FD i j):IntMulOk i j:=by
 rcases h with⟨h1,h2⟩|⟨h1,h2⟩
 ·exact .of_left (intBits_le_64 h1 h2)
 ·exact .of_right (intBits_le_64 h1 h2)
def LZ:kR X (binaryOp .Add) (AT λi j=>.int (i+j)):=OT λ_ _ _ _ _ _ _ q=>add_int q
def LR:kR X (binaryOp .Sub) (AT λi j=>.int (i-j)):=OT λ_ _ _ _ _ _ _ q=>sub_int q
def LU:kR X (binaryOp .Mult) (rI FD λi j=>.int (i*j)):=Qb λ_ _ _ _ _ _ _ hc q=>mul_int q hc.ok
def JGp:kR X (binaryOp .FloorDiv) (rI M8 λi j=>.int (i / j)):=Qb λi j _ _ _ _ _ hc q=>by have h1:(0:Int)<j:=hc.1;have h2:j<1073741824:=hc.2;exact floordiv_int ∅ (by rw[Int.fdiv_eq_ediv_of_nonneg i ∅];exact q) (.inl (PyProof.noPylong_small ∅))
def LV:kR X (binaryOp .Mod) (rI (λ_ j=>0<j) λi j=>.int (i%j)):=Qb λi j _ _ _ _ _ hc q=>by have h1:(0:Int)<j:=hc;exact mod_int' ∅ (by rw[Int.fmod_eq_emod_of_nonneg i ∅];exact q)
def LS:kR X (binaryOp .Pow) (rI M7 λi j=>.int (i ^ j.toNat)):=Qb λ_ _ _ _ _ _ _ hc q=>pow_int_small hc.1 hc.2.1 hc.2.2 q
def Uh {f:A3->Sem A3}{g:Int->Int}
  (rule:∀(i:Int) (t:Tok) (s:A1) (Q:Tb) (E:Tb),Q (.int (g i) s.toks) {s with toks:=s.toks+1}->wpAny (model X.prog X.w) X.A (f (.int i t)) Q E s) :
  Sx X f (rU λi=>.int (g i)):=by
 intro A2 s Y H x v Q I rx h;let⟨i,rfl,q⟩:=h;let⟨t,rfl⟩:=rx;exact rule i t s _ _ {.int (g i),H,I.tok _,{_,rfl},q}
def Kk:Sx X (unaryOp .USub) (rU λi=>.int (-i)):=Uh λ_ _ _ _ _ q=>neg_int q
end
section
variable {X:Cx}{a b c:AR}{ta tb:TE}{pos:Pos}
def ED {H:Hp}{s:A1}{Q:VK}{k k':A8}(I:aD X A2 Y H s)(q:Q (.bl k) H)(e:k=k'):EP X A2 Y Q (.bool k') s:=by subst e;exact{.bl k,H,I,rfl,q}
def JV:kR X (compareOp .Lt) (AT λi j=>.bl (decide (i<j))):=L1 λ_ _ _ _ _ _ _ q=>lt_int q
def OR:kR X (compareOp .LtE) (AT λi j=>.bl (decide (i<=j))):=L1 λ_ _ _ _ _ _ _ q=>le_int q
def OS:kR X (compareOp .Gt) (AT λi j=>.bl (decide (j<i))):=L1 λ_ _ _ _ _ _ _ q=>gt_int q
def LX:kR X (compareOp .Is) (λx y H Q=>y=.non/\Q (.bl (decide (x=.non))) H):=by
 intro A2 s Y H x y v u Q I rx ry h;let⟨rfl,q⟩:=h;cases ry;refine is_none_gen (ED I q ?_)
 cases x <;> first
  |(cases rx;rfl)
  |(let⟨t,rfl⟩:=rx;rfl)
def JGo:kR X (compareOp .IsNot) (λx y H Q=>y=.non/\Q (.bl (!decide (x=.non))) H):=by
 intro A2 s Y H x y v u Q I rx ry h;let⟨rfl,q⟩:=h;cases ry;refine isnot_none_gen (ED I q ?_)
 cases x <;> first
  |(cases rx;rfl)
  |(let⟨t,rfl⟩:=rx;rfl)
def kR.or {f:A3->A3->Sem A3}{r r':R2}(h:kR X f r)(h':kR X f r'):kR X f (λx y H Q=>r x y H Q\/r' x y H Q):=by
 intro A2 s Y H x y v u Q I rx ry q;rcases q with q|q
 ·exact h A2 s Y H x y v u Q I rx ry q
 ·exact h' A2 s Y H x y v u Q I rx ry q
def f6 (b:AR){op:CmpOp}(h:op≠.In:=by decide)(h2:op≠.NotIn:=by decide):behindInMarks op b=false:=by
 have e1:(op == CmpOp.In)=false:=by cases op <;> first|rfl|exact AJ rfl h
 have e2:(op == CmpOp.NotIn)=false:=by cases op <;> first|rfl|exact AJ rfl h2
 cases b <;> simp[behindInMarks,e1,e2]
def ph {op:CmpOp}{r:R2}(ho:kR X (compareOp op) r)(ha:PE X a ta)(hb:PE X b tb)(hm:behindInMarks op b=false):PE X (.Compare a [op] [b] pos) (Ks r ta tb):=by intro A2 s Y H Q I h;exact wpAny_Compare1 (Im ha hb I h λv u s2 x y H2 I2 rx ry q=>ho A2 s2 Y H2 x y v u Q I2 rx ry q) hm
def Jr (t:TE):TT:=λY H Q=>t Y H λx H'=>∃k,x=.bl k/\Q k H'
def zF {op:CmpOp}{r:R2}(ho:kR X (compareOp op) r)(ha:PE X a ta)(hb:PE X b tb)(hm:behindInMarks op b=false):PT X (.Compare a [op] [b] pos) (Jr (Ks r ta tb)):=by intro A2 s Y H Q I h;refine wpAny_isTrue_Compare1 (da (ha A2 s Y H _ I h) λv s1 hh=>?_) hm;let⟨x,H1,I1,r1,q1⟩:=hh;refine da (hb A2 s1 Y H1 _ I1 q1) λu s2 hh=>?_;let⟨y,H2,I2,r2,q2⟩:=hh;refine da (ho A2 s2 Y H2 x y v u _ I2 r1 r2 q2) λc s3 hh=>?_;let⟨z,H3,I3,r3,k,e,q3⟩:=hh;subst e;cases r3;exact zbZ {H3,I3,q3}
def Iw (K:AP)(x:V)(H:Hp)(k:A8):Prop :=
 match x with
 |.non=>k=false
 |.bl b=>k=b
 |.int i=>k=(i != 0)
 |.str y=>y.length<=sizeLine/\k=((y.length:Int) != 0)
 |.byt y=>y.size<=sizeLine/\k=((y.size:Int) != 0)
 |.ref p=>(∃xs,jV K H p xs/\k = !xs.isEmpty)\/(∃xs,gM K H p xs/\k = !xs.isEmpty)\/∃A6,H p=some (.dK A6)/\k = !A6.isEmpty
 |_=>False
def yt {κ:Type}{A6:T5 (κ×V)}{vs:T5 (κ×A3)}(r:KV A6 vs):(!vs.isEmpty) = !A6.isEmpty:=by cases r <;> rfl
def qA {xs:T5 V}{its:Te}(r:aR xs its):(!its.toArray.isEmpty) = !xs.isEmpty:=by cases r <;> simp
def lV:(sizeLine:Nat)<2 ^ 63:=by rw[CK];decide
theorem xC:Sy X (λx H Q=>∃k,Iw X.K x H k/\Q k H):=by
 intro A2 s Y H x v Q I rx h;let⟨k,e,q⟩:=h;have hl:=lV;have hs:sizeLine=16777216:=CK
 cases x with
 |non=>
  cases rx;have e':k=false:=e;subst e';exact truthy_none {H,I,q}
 |bl b=>
  cases rx;have e':k=b:=e;subst e';exact zbZ {H,I,q}
 |int i=>
  let⟨t,rfl⟩:=rx;have e':k=(i != 0):=e;subst e';exact PySem.P.truthy_int {H,I,q}
 |str y=>
  let⟨t,rfl⟩:=rx;obtain⟨hy,e'⟩:y.length<=sizeLine/\k=((y.length:Int) != 0):=e;subst e';exact PySem.P.truthy_str ∅ {H,I.tok _,q}
 |byt y=>
  let⟨t,rfl⟩:=rx;obtain⟨hy,e'⟩:y.size<=sizeLine/\k=((y.size:Int) != 0):=e;subst e';exact PySem.W.truthy_bytes ∅ {H,I.tok _,q}
 |ref p=>
  cases rx;have e':(∃xs,jV X.K H p xs/\k = !xs.isEmpty)\/(∃xs,gM X.K H p xs/\k = !xs.isEmpty)\/∃A6,H p=some (.dK A6)/\k = !A6.isEmpty:=e;rcases e' with⟨xs,hx,e'⟩|⟨xs,hx,e'⟩|⟨A6,hx,e'⟩
  ·subst e';let⟨its,r,pl,hz⟩:=I.list hx;have hlen:=r.length;exact wpAny_truthy_list pl.isList (by rwa[Bd];omega) {H,I.tok _,by rw[qA r];exact q}
  ·subst e';let⟨its,r,pl,hz⟩:=I.tuple hx;have hlen:=r.length;exact truthy_tuple pl (by rwa[Bd];omega) {H,I.tok _,by rw[qA r];exact q}
  ·subst e';obtain⟨hz,hS,vs,r,m⟩:A6.length<=sizeLine/\(p == sysModules)=false/\∃vs,KV A6 vs/\s.heap.DictOf (bB X.prog X.w) p vs:=I.hok p _ hx;have hlen:A6.length=vs.length:=Paired.length r;exact wpAny_truthy_dict hS m ∅ {H,I.tok _,by rw[yt r];exact q}
 |_=>exact(show False from e).elim
def JDh (ha:PE X a ta)(he:∀whole,isTrue a X.env whole=(do let v ←whole;standAt a.pos;holding [v] (truthy v))) :
  PT X a (λY H Q=>ta Y H λx H'=>∃k,Iw X.K x H' k/\Q k H'):=by
 intro A2 s Y H Q I h;exact isTrue_plain (da (ha A2 s Y H _ I h) λv s1 ⟨x,H1,I1,r1,q1⟩=>xC A2 s1 Y H1 x v Q I1 r1 q1) (he _)
def xW:kR X (binaryOp .Add) (λx y H Q=>∃i j,x=.str i/\y=.str j/\i.length+j.length<=sizeLine/\Q (.str (i++j)) H):=by intro A2 s Y H x y v u Q I rx ry h;let⟨i,j,rfl,rfl,hz,q⟩:=h;let⟨t,rfl⟩:=rx;let⟨t',rfl⟩:=ry;exact add_str (λt' tk=>{.str (i++j),H,I.tok _,{_,rfl},q}) hz
def xl (b:AR):Prop:=∀o i,subscripted b false o i=operate [o,i] (getItem o i)
def vT (ha:PE X a ta)(hb:PE X b tb)(hs:xl b) :
  PE X (.Subscript a b pos) (Ks (λx y H Q=>∃z i c,x=.str z/\y=.int i/\0<=i/\i<2 ^ 63/\i<z.length/\z.cps[i.toNat]?=some c/\Q (.str ⟨#[c]⟩) H) ta tb):=by
 intro A2 s Y H Q I h;refine Subscript_ (Im ha hb I h λv u s2 x y H2 I2 rx ry q=>?_);let⟨z,i,c,rfl,rfl,h0,h63,h1,hc,q⟩:=q;let⟨t,rfl⟩:=rx;let⟨t',rfl⟩:=ry;have e:seqIndex? i z.length=some i.toNat:=PySem.StrLaws.seqIndex_nonneg h0 h1
 exact tail_any (typeIs_str s2 z t) slot_str_getitem.lookup (getItem_str (c:=c) (by
  have e1:decide (i < -(2 ^ 63:Int))=false:=Bf ∅;have e2:decide (i >= 2 ^ 63)=false:=Bf ∅
  rw[e1,e2] <;> rfl) (by rw[e];exact hc) {.str ⟨#[c]⟩,H2,I2.tok _,{_,rfl},q}) (hs _ _)
theorem ij {x:V}{us:Te}(r:aR [x] us):∃u,us=[u]/\be x u:=by
 cases r with
 |cons r1 r2=>cases r2;exact{_,rfl,r1}
theorem Nn {x y:V}{us:Te}(r:aR [x,y] us):∃u w',us=[u,w']/\be x u/\be y w':=by
 cases r with
 |cons r1 r2=>
  cases r2 with
  |cons r3 r4=>cases r4;exact{_,_,rfl,r1,r3}
def JBe (hc:X.calm=true):fm X (.builtin "max") (λxs H Q=>∃i j,xs=[.int i,.int j]/\Q (.int (if j>i then j else i)) H):=by
 intro A2 s Y H xs us Q I r h;let⟨i,j,rfl,q⟩:=h;let⟨u,w',rfl,⟨t,rfl⟩,⟨t',rfl⟩⟩:=Nn r;refine max_two_ints (I.ok.hd hc) λh' tk k=>{_,H,I.kept k,?_,q};by_cases hj:j>i
 ·rw[A7 hj,A7 hj];exact{_,rfl}
 ·rw[A5 hj,A5 hj];exact{_,rfl}
end
structure yS (h:Heap)(x dx C:Addr)(mA:Td):Prop where
 obj:h.get? x=some (PySem.W.instObj C dx)
 ns:h.Ns1 dx mA
 ne:dx≠x
def JAj {h:AI}{dx:A4}{mA:Td}(n:h.Ns1 dx mA):∃od,h.get? dx=some od/\∀name,PySem.W.lookIn name od=some (mA name):=by
 let⟨o,es,ep,ho,hd,hk,_,hm⟩:=n;refine{o,ho,λname=>?_};have e:=hm name;unfold nsFind findBy at e;rw[←Array.find?_toList] at e;unfold PySem.W.lookIn;rw[hd];dsimp only;split
 ·rename_i y q;rw[q] at e;exact AQ some e
 ·rename_i q;rw[q] at e;have a:es.toList.any (·.refKey)=false:=by rw[List.any_eq_false];intro y hy;let⟨z,t,BN⟩:=hk y (zcq.mp hy);simp[DictEntry.refKey,BN]
  have a':¬ es.toList.any (·.refKey)=true:=by rw[a];exact Eo
  rw[A5 a'];exact AQ some e
def yS.look {h:AI}{x dx C:A4}{mA:Td}(I:yS h x dx C mA):∃od,PySem.W.InstAt h x (PySem.W.instObj C dx) C (some od)/\∀name,PySem.W.lookIn name od=some (mA name) :=
 let ⟨od,ho,hl⟩:=JAj I.ns
 {od,{I.obj,rfl,rfl,ho},hl}
section
variable {prog:A9}{w:AM}{A:AL}{E:Tb}{s:A1}{K:AP}{x dx C f:A4}{mA:Td}{name:Str}{v:A3}
def JGd {expr:A8}{Q:Tb}(X:K.In s.heap)(I:yS s.heap x dx C mA)(hg:PySem.W.plainGet K C name=true)(hh:PySem.W.hasDictIn K C=true)
  (ha:PySem.W.findIn K (.ref C) name=some none) (hv:mA name=some v) (hv':PySem.W.handedIn v=true) (h:Q v {s with toks:=s.toks+1}) :
  wpAny (model prog w) A (getAttr (.ref x) name expr) Q E s:=by
 let⟨od,J,hl⟩:=I.look;exact PySem.W.get_value X J (zcX hg).1 (PySem.W.findObj_own hh ha rfl (by rw[hl,hv])) hv' h
def JEc {pl:Sem A8}{Q:A3×T5 A3->A1->Prop}(X:K.In s.heap)(I:yS s.heap x dx C mA)(hg:PySem.W.plainGet K C name=true)
  (hf:PySem.W.findIn K (.ref C) name=some (some (.ref f))) (ht:PySem.W.isFn K (.ref f)=true) (hv:mA name=none) (h:Q (.ref f,[.ref x]) s) :
  wpAny (model prog w) A (getMethod (.ref x) name pl) Q E s:=by
 let⟨od,J,hl⟩:=I.look;exact PySem.W.method_fn X J (zcX hg).1 (zcX hg).2 hf (beq_iff_eq.mp ht) (by show(PySem.W.lookIn name od).map (·.isSome)=some false;rw[hl,hv];rfl) h
def JFy {ns:Tn}{Q:Unit->A1->Prop}(X:K.In s.heap)(I:yS s.heap x dx C mA)
  (hs:PySem.W.findIn K (.ref C) "__setattr__" = some (some (.builtin "object.__setattr__"))) (hp:PySem.W.plainOver K C=true) (ht:PySem.W.takerIn K C name=some none) (hh:PySem.W.hasDictIn K C=true)
  (hw:PySem.Within mA ns) (hsz:ns.length<=sizeLine)
  (h:∀h',yS h' x dx C (λy=>if y=name then some v else mA y)->Heap.SameBut dx s.heap h'->Q () {s with heap:=h',toks:=s.toks+2}) :
  wpAny (model prog w) A (setAttr (.ref x) name v) Q E s:=by
 let⟨od,J,hl⟩:=I.look;refine PySem.W.set_plain X J hs (PySem.W.osa_open (s:={s with toks:=s.toks+1}) (r:=none) X J hp ht λb=>?_);let⟨cd,hc,Fn⟩:=PySem.W.any_some hh;have hx:s.heap.get? x=some {.ref C,some dx,.plain,#[]}:=I.obj;refine AB (AN (AB (AB (wpAny_loadPart hx (AB (PySem.W.Looks.here (s:={s with toks:=s.toks+1}) (PySem.W.looks_clsIn X hc) ?_))))));rw[Fn];refine AN (a:=some dx) (AB (AN (AB ?_)));refine wpAny_nsSet1 (s:={s with toks:=s.toks+1}) I.ns λh' hn2 hs2=>?_;let⟨oD,esD,epD,hoD,hdD,hcD⟩:=hn2.count (PySem.Within.cons name v hw);refine AB (wpAny_lookBehind hoD (by rw[hdD];exact pastItsLine_dict (DL hcD (by rw[C0];omega))) ?_);exact AN (h _ {(hs2.2 _ (Ne.symm I.ne)).trans I.obj,hn2,I.ne} hs2)
def JCs {R:Result->A1->Prop}{vs:Te}{kw:T5 (Str×A3)}(X:K.In s.heap)(hm:PySem.W.makesIn K C=true)
  (hi:PySem.W.findIn K (.ref C) "__init__" = some (some (.ref f))) (hf:PySem.W.typeIn K (.ref f)=some (.type "function"))
  (h:codeAny (model prog w) (A.under (.builtin "type.__call__" {.ref C::vs,kw})) (.call (.ref f) {.ref (s.heap.objs.size+1)::vs,kw}) (PySem.W.InitBack (s.heap.objs.size+1) R)
   {s with heap:=(s.heap.push PySem.W.emptyDict).push (PySem.W.instObj C s.heap.objs.size)}) :
  codeAny (model prog w) A (.call (.ref C) {vs,kw}) R s:=by
 let⟨hh,g,d,t,os⟩:=s;exact PySem.W.make_core (PySem.W.makes_of X hm) (PySem.W.looks_findIn X hi) (λself=>PySem.W.bind_fn X self hf) (.inl rfl) h
end
noncomputable def ju (f:Str)(v:V):T5 (Str×V)->T5 (Str×V)
 |[]=>[(f,v)]
 |(g,x)::r=>if g=f then (g,v)::r else (g,x)::ju f v r
theorem oq (f g:Str)(v:V):∀fs:T5 (Str×V),(ju f v fs).lookup g=if g=f then some v else fs.lookup g
 |[]=>by
  show List.lookup g [(f,v)]=_
  by_cases h:g=f
  ·have hb:(g == f)=true:=beq_iff_eq.mpr h;rwa[List.lookup,hb,A7 h]
  ·have hb:(g == f)=false:=beq_eq_false_iff_ne.mpr h;rwa[List.lookup,hb,A5 h]
 |(k,x)::r=>by
  have ih:=oq f g v r;rw[show ju f v ((k,x)::r)=(if k=f then (k,v)::r else (k,x)::ju f v r) from rfl];by_cases hk:k=f
  ·rw[A7 hk];by_cases h:g=k
   ·have hb:(g == k)=true:=beq_iff_eq.mpr h;rwa[List.lookup,hb,A7 (h.trans hk)]
   ·have hb:(g == k)=false:=beq_eq_false_iff_ne.mpr h;rwa[List.lookup,hb,A5 (λe:g=f=>h (e.trans hk.symm))]
  ·rw[A5 hk];by_cases h:g=k
   ·have hb:(g == k)=true:=beq_iff_eq.mpr h;rwa[List.lookup,hb,A5 (λe:g=f=>hk (h.symm.trans e))]
   ·have hb:(g == k)=false:=beq_eq_false_iff_ne.mpr h;rwa[List.lookup,hb];exact ih
theorem nL (f:Str)(v:V):∀fs:T5 (Str×V),f∈(ju f v fs).map (·.1)/\∀g,g∈fs.map (·.1)->g∈(ju f v fs).map (·.1)
 |[]=>{by simp[ju],λg h=>by simp at h}
 |(k,x)::r=>by
  let⟨i1,i2⟩:=nL f v r;rw[show ju f v ((k,x)::r)=(if k=f then (k,v)::r else (k,x)::ju f v r) from rfl];by_cases hk:k=f
  ·rw[A7 hk];subst hk;exact{by simp,λg h=>by simpa using h}
  ·rw[A5 hk];refine{?_,λg h=>?_}
   ·rw[AZ];exact BF _ i1
   ·rw[AZ] at h ⊢;rcases BA.mp h with e|e
    ·exact BA.mpr (.inl e)
    ·exact BF _ (i2 g e)
theorem ot (f:Str)(v:V):∀fs:T5 (Str×V),(ju f v fs).length<=fs.length+1
 |[]=>by simp[ju]
 |(k,x)::r=>by
  have ih:=ot f v r;rw[show ju f v ((k,x)::r)=(if k=f then (k,v)::r else (k,x)::ju f v r) from rfl];by_cases hk:k=f
  ·rw[A7 hk,C0,C0];omega
  ·rw[A5 hk,C0,C0];omega
theorem lG.some_of {v:V}{o:Tg}(r:lG (some v) o):∃u,o=some u/\be v u:=by
 cases o with
 |none=>exact(show False from r).elim
 |some u=>exact{u,rfl,r}
theorem lG.none_of {o:Tg}(r:lG none o):o=none:=by
 cases o with
 |none=>rfl
 |some u=>exact(show False from r).elim
theorem JBw {v:V}{u:A3}(r:be v u):PySem.W.handedIn u=true:=by
 cases v with
 |non=>cases(show u=Value.none from r);rfl
 |bl b=>cases(show u=Value.bool b from r);rfl
 |int i=>let⟨t,e⟩:=(show ∃t,u=Value.int i t from r);cases e;rfl
 |str x=>let⟨t,e⟩:=(show ∃t,u=Value.str x t from r);cases e;rfl
 |byt b=>let⟨t,e⟩:=(show ∃t,u=Value.bytes b t from r);cases e;rfl
 |flt b=>let⟨t,e⟩:=(show ∃t,u=Value.float b t from r);cases e;rfl
 |ref a=>cases(show u=Value.ref a from r);rfl
 |ty n=>cases(show u=Value.type n from r);rfl
section
variable {P:A9}{w:AM}{H:Hp}{h:AI}{a C dx:A4}{fs:T5 (Str×V)}
def uB (hok:jg P w H h)(e:H a=some (.ins C dx fs)):∃mA,yS h a dx C mA/\(∀f,lG (fs.lookup f) (mA f))/\PySem.Within mA (fs.map (·.1))/\fs.length<=1000/\H dx=some (.own a):=by let⟨d,z,ne,ob,mA,n,r,q⟩:=(show bo P w H h a (.ins C dx fs) from hok a _ e);exact{mA,{ob,n,ne},r,q,z,d}
end
structure IG (K:AP)(C:Addr):Prop where
 pg:PySem.W.plainGet K C Str.empty=true
 hd:PySem.W.hasDictIn K C=true
 po:PySem.W.plainOver K C=true
 sa:PySem.W.findIn K (.ref C) "__setattr__" = some (some (.builtin "object.__setattr__"))
def IG.get {K:AP}{C:A4}(c:IG K C)(f:Str):PySem.W.plainGet K C f=true:=c.pg
def fG (K:AP)(C:A4)(f:Str):Prop:=PySem.W.findIn K (.ref C) f=some none
def fG.taker {K:AP}{C:A4}{f:Str}(n:fG K C f):PySem.W.takerIn K C f=some none:=by unfold PySem.W.takerIn;rw[show PySem.W.findIn K (.ref C) f=some none from n];rfl
structure IA (K:AP)(C:Addr)(m:Str)(f:Addr):Prop where
 at_:PySem.W.findIn K (.ref C) m=some (some (.ref f))
 fn:PySem.W.isFn K (.ref f)=true
 kp:PySem.W.keepIn K (.ref f)=true
section
variable {X:Cx}{A2:Tc}{Y:St}{H:Hp}{s:A1}{a C dx:A4}{fs:T5 (Str×V)}{f:Str}{v:V}{A:AL}{E:Tb}
def yx {b:A8}{Q:Tb}(I:aD X A2 Y H s)(e:H a=some (.ins C dx fs))(c:IG X.K C)(n:fG X.K C f)(l:fs.lookup f=some v)
  (h:∀u s',aD X A2 Y H s'->be v u->Q u s'):wpAny (model X.prog X.w) A (getAttr (.ref a) f b) Q E s:=by
 let⟨mA,Ozz,r,_,_,_⟩:=uB I.hok e;let⟨u,hu,ru⟩:=lG.some_of (v:=v) (o:=mA f) (by rw[←l];exact r f);exact JGd I.kIn Ozz (c.get f) c.hd n hu (JBw ru) (h u _ (I.tok _) ru)
def yw {m:Str}{g:A4}{pl:Sem A8}{Q:A3×T5 A3->A1->Prop}(I:aD X A2 Y H s)(e:H a=some (.ins C dx fs))(c:IG X.K C)(k:IA X.K C m g)(l:fs.lookup m=none)
  (h:Q (.ref g,[.ref a]) s):wpAny (model X.prog X.w) A (getMethod (.ref a) m pl) Q E s:=by
 let⟨mA,Ozz,r,_,_,_⟩:=uB I.hok e;have hn:mA m=none:=lG.none_of (by rw[←l];exact r m);exact JEc I.kIn Ozz (c.get m) k.at_ k.fn hn h
def xK {y:V}{u:A3}{Q:Unit->A1->Prop}(I:aD X A2 Y H s)(e:H a=some (.ins C dx fs))(c:IG X.K C)(n:fG X.K C f)(hl:fs.length<1000)(ry:be y u)
  (h:∀s',aD X A2 Y (upd H a (.ins C dx (ju f y fs))) s'->Q () s'):wpAny (model X.prog X.w) A (setAttr (.ref a) f u) Q E s:=by
 let⟨mA,Ozz,r,wi,_,ho⟩:=uB I.hok e
 have hz:(fs.map (·.1)).length<=sizeLine:=by rw[Az,CK];omega
 refine JFy I.kIn Ozz c.sa c.po n.taker c.hd wi hz λh' O'z sb=>h _ ?_;have hd:∃o,h'.get? dx=some o:=let ⟨o,_,_,e',_⟩:=O'z.ns;{o,e'};refine I.write (x:=a) (e:=dx) (by rw[e];exact True.intro) (.inr ho) (λb q hb z=>(sb.2 b hb).trans z) hd ?_;refine{by rw[aB Ozz.ne];exact ho,?_,Ozz.ne,O'z.obj,_,O'z.ns,λg=>?_,λg hg=>?_}
 ·have:=ot f y fs;omega
 ·show lG ((ju f y fs).lookup g) (if g=f then some u else mA g)
  rw[oq]
  by_cases q:g=f
  ·rw[A7 q,A7 q];exact ry
  ·rw[A5 q,A5 q];exact r g
 ·by_cases q:g=f
  ·rw[q];exact(nL f y fs).1
  ·refine(nL f y fs).2 g (wi g λz=>hg ?_)
   show(if g=f then some u else mA g)=none
   rw[A5 q];exact z
def aD.made (I:aD X A2 Y H s):aD X A2 Y (upd (upd H s.heap.objs.size (.own (s.heap.objs.size+1))) (s.heap.objs.size+1) (.ins C s.heap.objs.size []))
  {s with heap:=(s.heap.push PySem.W.emptyDict).push (PySem.W.instObj C s.heap.objs.size)}:=by
 have e1:(s.heap.push PySem.W.emptyDict).get? s.heap.objs.size=some PySem.W.emptyDict:=BI s.heap rfl
 have e2:((s.heap.push PySem.W.emptyDict).push (PySem.W.instObj C s.heap.objs.size)).get? (s.heap.objs.size+1)=some (PySem.W.instObj C s.heap.objs.size):=by
  have:=BI (s.heap.push PySem.W.emptyDict) (o:=PySem.W.instObj C s.heap.objs.size) rfl
  (rw[Du] at this;assumption)
 have e3:(s.heap.push PySem.W.emptyDict).Ns s.heap.objs.size (λ_=>none):={PySem.W.emptyDict,#[],_,e1,rfl,(λe he=>AJ he ∅),λ_=>rfl};have I1:=I.laid (a:=s.heap.objs.size) (o:=.own (s.heap.objs.size+1)) (h':=s.heap.push PySem.W.emptyDict) (t':=s.toks) (λb u q=>AY _ q) (B3 _) {_,e1};refine I1.laid (a:=s.heap.objs.size+1) (o:=.ins C s.heap.objs.size []) (t':=s.toks) (λb u q=>AY _ q) (Nat.le_of_eq (Du _ _)) ?_;have ne:s.heap.objs.size≠s.heap.objs.size+1:=BG (zb2 _);refine{by rw[aB ne,bz],Cy _,ne,e2,λ_=>none,(Heap.Ns1.of_empty e3).at λo q=>AY _ q,λ_=>True.intro,λy hy=>AJ rfl hy}
def JHd {prog:A9}{w:AM}{env:Env}{e:AR}{f:Str}{pos:Pos}{s:A1}{Q:Tb}(hb:attributeBase e f env (eval e env)=eval e env)
  (h:wpAny (model prog w) A (eval e env) (λo s₁=>wpAny (model prog w) A (getAttr o f true) Q E s₁) E s):wpAny (model prog w) A (eval (.Attribute e f pos) env) Q E s :=
 Attribute_any_ h (by rw[arm_eval_Attribute,hb])
end
def N3 (K:AP)(ta:TE)(f:Str):TE:=λY H Q=>ta Y H λx H1=>∃a C dx fs v,x=.ref a/\H1 a=some (.ins C dx fs)/\IG K C/\fG K C f/\fs.lookup f=some v/\Q v H1
def Of (K:AP)(ta tv:TE)(f:Str):TS:=λD Y H=>tv Y H λy H1=>ta Y H1 λx H2=>∃a C dx fs,x=.ref a/\H2 a=some (.ins C dx fs)/\IG K C/\fG K C f/\fs.length<1000 /\
 D.nx Y (upd H2 a (.ins C dx (ju f y fs)))
section
variable {X:Cx}{o e value:AR}{f:Str}{pos pos':Pos}{ta tv:TE}
def LP (he:PE X e ta)(hb:attributeBase e f X.env (eval e X.env)=eval e X.env):PE X (.Attribute e f pos) (N3 X.K ta f):=by intro A2 s Y H Q I h;refine JHd hb (da (he A2 s Y H _ I h) λu s1 hh=>?_);let⟨x,H1,I1,rx,a,C,dx,fs,v,ex,ea,c,n,l,q⟩:=hh;subst ex;obtain rfl:u=Value.ref a:=rx;exact yx I1 ea c n l λu' s2 I2 ru=>{v,H1,I2,ru,q}
def LG (ha:PE X o ta)(hv:PE X value tv)(hs:swapsWith value (some (.Attribute o f pos')) pos.line X.env=pure false):PS X (.Assign [.Attribute o f pos'] value pos) (Of X.K ta tv f):=by intro A2 s Y H D I h;refine plainObj_wpAny_Assign_Attribute (da (hv A2 s Y H _ I h) λu s1 hh=>?_) hs;let⟨y,H1,I1,ry,q⟩:=hh;refine da (ha A2 s1 Y H1 _ I1 q) λov s2 hh=>?_;let⟨x,H2,I2,rx,a,C,dx,fs,ex,ea,c,n,l,q2⟩:=hh;subst ex;obtain rfl:ov=Value.ref a:=rx;exact xK I2 ea c n l ry λs3 I3=>{Y,_,I3,q2}
end
structure bK (k:Nat)(A:Around):Prop where
 hd:A.handled=none
 dp:A.depth+3*k+5<recursionLimit
 un:A.units+16*k+200<cLine
def bK.mono {j k:Nat}(r:bK k A)(h:j<=k):bK j A:={r.hd,by have:=r.dp;omega,by have:=r.un;omega}
def bK.deeper {k:Nat}{A:AL}(r:bK (k+1) A)(env:Env):bK k (A.deeper env) :=
 {r.hd,by have:=r.dp;show A.depth+1+3*k+5<_;omega,by have:=r.un;show A.units+3+16*k+200<_;omega}
def yd {A:AL}{C:A4}{us:Te}{kw:T5 (Str×A3)}:(A.under (.builtin "type.__call__" {.ref C::us,kw})).depth=A.depth+1:=by first|rfl|simp[Around.under,Code.weight,Code.isCreation,Code.isGuard,Code.isCaller,Code.frames,Code.isFrame,guardIds]
def yc {A:AL}{C:A4}{us:Te}{kw:T5 (Str×A3)}:(A.under (.builtin "type.__call__" {.ref C::us,kw})).units=A.units+1:=by first|rfl|simp[Around.under,Code.cUnits,Code.frames,Code.isFrame]
def bK.make {k:Nat}{A:AL}(r:bK (k+1) A)(C:A4)(us:Te)(kw:T5 (Str×A3)):bK k (A.under (.builtin "type.__call__" {.ref C::us,kw})) :=
 {r.hd,by have:=r.dp;rw[yd];omega,by have:=r.un;rw[yc];omega}
def bK.depth {k:Nat}{A:AL}(r:bK k A):A.depth<recursionLimit:=by have:=r.dp;omega
def bK.units {k:Nat}{A:AL}(r:bK k A):A.units+64<cLine:=by have:=r.un;omega
def AG:TA:=λ_ H Q=>Q [] H
def pT (ta:TE)(tr:TA):TA:=λY H Q=>ta Y H λx H1=>tr Y H1 λxs H2=>Q (x::xs) H2
section
variable {X:Cx}{e:AR}{es:Tj}{te:TE}{t:TA}{pos:Pos}
def qp:PA X [] AG:=λ_ _ _ _ H Q I h=>Calls.spliced_nil {[],H,I,.nil,h}
def lf (ha:PE X e te)(hr:PA X es t)(hs:starEach (e::es) X.env=(false,eval e X.env)::starEach es X.env:=by rfl):PA X (e::es) (pT te t):=by
 intro pos A2 s Y H Q I h;rw[hs]
 show wpAny _ _ (spliced ((false,eval e X.env)::backTo pos (starEach es X.env))) _ _ s
 refine Calls.spliced_cons (da (ha A2 s Y H _ I h) λu s1 hh=>?_);let⟨x,H1,I1,r1,q1⟩:=hh;exact da (hr pos A2 s1 Y H1 _ I1 q1) λus s2 ⟨xs,H2,I2,r2,q2⟩=>{x::xs,H2,I2,.cons r1 r2,q2}
def NW (t:TA):TE:=λY H Q=>t Y H λxs H1=>xs.length<=sizeLine/\∀p,H1 p=none->Q (.ref p) (upd H1 p (.tup xs))
def N1 (t:TA):TE:=λY H Q=>t Y H λxs H1=>xs.length<=sizeLine/\∀p,H1 p=none->Q (.ref p) (upd H1 p (.lst xs))
def LJ {x1}(h:PA X es t):PE X (.Tuple es x1 pos) (NW t):=by intro A2 s Y H Q I hq;refine wpAny_Tuple_spliced (da (h pos A2 s Y H _ I hq) λus s1 hh=>?_);let⟨xs,H1,I1,r,z,q⟩:=hh;refine{by rw[←r.length];exact z,?_};have hf:H1 s1.heap.objs.size=none:=I1.hok.fresh (B3 _);refine{.ref s1.heap.objs.size,upd H1 s1.heap.objs.size (.tup xs),I1.laid (t':=s1.toks) (λb u e=>AY _ e) (B3 _) ?_,rfl,q _ hf};exact{z,us,r,kU.new _ _}
def LN (h:PA X es t):PE X (.List es pos) (N1 t):=by intro A2 s Y H Q I hq;refine wpAny_List_spliced (da (h pos A2 s Y H _ I hq) λus s1 hh=>?_);let⟨xs,H1,I1,r,z,q⟩:=hh;refine{by rw[←r.length];exact z,?_};have hf:H1 s1.heap.objs.size=none:=I1.hok.fresh (B3 _);refine{.ref s1.heap.objs.size,upd H1 s1.heap.objs.size (.lst xs),I1.laid (t':=s1.toks) (λb u e=>AY _ e) (B3 _) ?_,rfl,q _ hf};exact{z,us,0,r,BI _ rfl}
end
abbrev Sp:=T5 V->Hp->VK->XK->Prop
abbrev Aw:=T5 Env->Hp->A1->XK->Tb
structure yU (P:Program)(w:World)(K:AP)(mg:Td)(base:Heap)(A:Around)(outer:List Env)(s:Shared)(H:Hp):Prop where
 frames:A.frames=some outer
 mod:Mod K mg base
 bs:∀b o,base.get? b=some o->s.heap.get? b=some o/\H b=none
 bsz:base.objs.size<=s.heap.objs.size
 funs:s.heap.FunFrames base outer
 frf:∀b∈Bt outer,H b=none
 hok:jg P w H s.heap
 bare:AllBare s.gens
def CE (outer:T5 Env)(P:A9)(w:AM)(H:Hp)(s:A1)(Q:VK)(u:A3)(s':A1):Prop :=
 ∃v H',s'.os=s.os/\AllBare s'.gens/\Un (Bt outer) [] H H' s.heap s'.heap/\jg P w H' s'.heap/\be v u/\Q v H'
def JCh (CX:Aw)(outer:T5 Env)(P:A9)(w:AM)(H:Hp)(s:A1)(Q:VK)(E:XK)(r:Result)(s':A1):Prop :=
 match r with
 |.ok (.ret u)=>CE outer P w H s Q u s'
 |.ok _=>False
 |.error e=>CX outer H s E e s'
structure cC (P:Program)(w:World)(K:AP)(mg:Td)(base:Heap)(CX:Aw)(k:Nat)(f:Addr)(fd:FuncData)(ps:Tn)(sp:Sp):Prop where
 len:∀vs H Q E,sp vs H Q E->vs.length=ps.length
 run:∀(A:Around) (outer:List Env) (s:Shared) (H:Hp) (args:Args) (us:Te) (vs:List V) (Q:VK) (E:XK),bK k A->yU P w K mg base A outer s H->BindsTo s fd args (ps.zip us)->aR vs us->sp vs H Q E ->
  codeAny (model P w) A (.call (.ref f) args) (JCh CX outer P w H s Q E) s
def cC.imp {P:A9}{w:AM}{K:AP}{mg:Td}{base:AI}{CX:Aw}{k:Nat}{f:A4}{fd:FuncData}{ps:Tn}{sp sp':Sp}(F:cC P w K mg base CX k f fd ps sp)
  (h:∀vs H Q E,sp' vs H Q E->sp vs H Q E):cC P w K mg base CX k f fd ps sp' :=
 {λvs H Q E q=>F.len vs H Q E (h _ _ _ _ q),λA outer s H args us vs Q E hr he hb hv hs=>F.run A outer s H args us vs Q E hr he hb hv (h _ _ _ _ hs)}
def yU.make {K:AP}{mg:Td}{base:AI}{outer:T5 Env}{s:A1}{H:Hp}(e:yU P w K mg base A outer s H)(C:A4)(us:Te)(kw:T5 (Str×A3)) :
  yU P w K mg base (A.under (.builtin "type.__call__" {.ref C::us,kw})) outer s H:={by first|exact e.frames|(simpa[Around.under,Code.envs,Code.isFrame,pushEnvs] using e.frames),e.mod,e.bs,e.bsz,e.funs,e.frf,e.hok,e.bare}
section
variable {X:Cx}{A2:Tc}{Y:St}{H:Hp}{s s':A1}
def aD.env0 (I:aD X A2 Y H s):yU X.prog X.w X.K X.mg X.base X.A X.stack s H :=
 {I.ok.frames,I.ok.mod,I.bs,DL I.ok.bsz I.sz,I.stack,I.stkFree,I.hok,I.bare}
def aD.after {Q:VK}{u:A3}(I:aD X A2 Y H s)(h:CE X.stack X.prog X.w H s Q u s'):EP X A2 Y Q u s':=by let⟨v,H',os,bare,un,hok,r,q⟩:=h;let⟨hh,g,d,t,Hn⟩:=s';obtain rfl:Hn=s.os:=os;exact{v,H',I.call (h':=hh) (g':=g) (d':=d) (t':=t) (ch:=[]) un hok bare (λb z=>AJ z ∅),r,q}
end
def vj (sp:Sp)(Cw:T5 V)(E:XK)(t:TA):TE:=λY H Q=>t Y H λvs H1=>sp (vs++Cw) H1 Q E
def Jw (C:A4)(m:Str)(sp:Sp)(Cw:T5 V)(E:XK)(ta:TE)(t:TA):TE:=λY H Q=>ta Y H λx H1=>∃a dx fs,x=.ref a/\H1 a=some (.ins C dx fs)/\fs.lookup m=none /\
 t Y H1 λvs H2=>sp (x::(vs++Cw)) H2 Q E
def Jx (C:A4)(sp:Sp)(Cw:T5 V)(E:XK)(t:TA):TE:=λY H Q=>t Y H λvs H1=>∀x dx,H1 x=none->H1 dx=none->dx≠x ->
 sp (.ref x::(vs++Cw)) (upd (upd H1 dx (.own x)) x (.ins C dx [])) (λv H2=>v=.non/\Q (.ref x) H2) E
def gr (K:AP)(fd:FuncData)(ps:Tn)(ds:Te):Prop :=
 ∀(s:A1) (us:Te),K.In s.heap->(us++ds).length=ps.length->BindsTo s fd {us,[]} (ps.zip (us++ds))
def gr.all {K:AP}{ps:Tn}(h:∀us:Te,us.length=ps.length->bindArgs fd {us,[]}=pure (ps.zip us)):gr K fd ps []:=λs us _ hl=>by rw[DZ] at hl ⊢;exact .of_eq (h us hl)
def n6 (CX:Aw)(X:Cx)(E:XK):Prop:=∀(A2:Tc) (Y:St) (H:Hp) (s:A1) (e:A3) (s':A1),aD X A2 Y H s->CX X.stack H s E e s'->X.xe e s'
section
variable {X:Cx}{CX:Aw}{k:Nat}{f C:A4}{fd:FuncData}{ps:Tn}{sp:Sp}{Cw:T5 V}{ds:Te}{E:XK}{x m:Str}{p pos apos:Pos}{e o:AR}{es:Tj}{ta:TE}{t:TA}
theorem CQ {A2:Tc}{Y:St}{H:Hp}{s:A1}{Q:VK}{us:Te}{vs:T5 V}(F:cC X.prog X.w X.K X.mg X.base CX k f fd ps sp)(hr:bK k X.A)(hb:gr X.K fd ps ds)(hd:aR Cw ds)(hx:n6 CX X E)
  (I:aD X A2 Y H s) (r:aR vs us) (h:sp (vs++Cw) H Q E):wpAny (model X.prog X.w) X.A (call (.ref f) us) (EP X A2 Y Q) X.xe s:=by
 have r2:aR (vs++Cw) (us++ds):=r.append hd
 have hl:(us++ds).length=ps.length:=by rw[←r2.length];exact F.len _ _ _ _ h
 refine wpAny_call (G8 (F.run X.A X.stack s H {us,[]} (us++ds) (vs++Cw) Q E hr I.env0 (hb s us I.kIn hl) r2 h) λr s' hq=>?_)
 cases r with
 |error e=>exact hx A2 Y H s e s' I hq
 |ok fl=>
  cases fl with
  |ret u=>exact I.after hq
  |next=>exact False.elim hq
  |brk=>exact False.elim hq
  |cont=>exact False.elim hq
def pi (F:cC X.prog X.w X.K X.mg X.base CX k f fd ps sp)(hr:bK k X.A)(hg:Gl X x)(hm:X.mg x=some (.ref f))(hk:PySem.W.keepIn X.K (.ref f)=true)(hb:gr X.K fd ps ds)(hd:aR Cw ds)(hx:n6 CX X E)
  (ha:PA X (e::es) t) (Be:(x == ("__debug__" : Str))=false:=by decide) (he:starEach (e::es) X.env=(false,eval e X.env)::starEach es X.env:=by rfl) (hpl:(backTo pos (starEach es X.env)).any (·.1)=false:=by rfl) :
  PE X (.Call (.Name x p) (e::es) [] pos) (vj sp Cw E t):=by
 intro A2 s Y H Q I h;refine zca (uo I hg hm ?_ Be);refine zc2 (h₀:=X.base) I.ok.mod.kin hk (da (ha pos A2 s Y H _ I h) λus s1 hh=>?_) he hpl;let⟨vs,H1,I1,r,q⟩:=hh;refine{I1.kIn,?_};exact CQ F hr hb hd hx I1 r q
def JE4 {pl:Sem A8}(he:PE X o ta)(c:IG X.K C)(hm:IA X.K C m f)(F:cC X.prog X.w X.K X.mg X.base CX k f fd ps sp)(hr:bK k X.A)(hb:gr X.K fd ps ds)(hd:aR Cw ds)(hx:n6 CX X E)(ha:PA X (e::es) t)
  (CL:starEach (e::es) X.env=(false,eval e X.env)::starEach es X.env:=by rfl) (hpl:(backTo pos (starEach es X.env)).any (·.1)=false:=by rfl)
  (ht:eval (.Call (.Attribute o m apos) (e::es) [] pos) X.env=(do
   let ov ←eval o X.env
   standAt apos.atName
   let (f,first) ←holding [ov] (getMethod ov m pl)
   callWith pos f first (backTo pos (starEach (e::es) X.env)) (backToKw pos (keywordEach [] X.env))):=by rfl) :
  PE X (.Call (.Attribute o m apos) (e::es) [] pos) (Jw C m sp Cw E ta t):=by
 intro A2 s Y H Q I h;refine PySem.W.methodCall_KW (pl:=pl) (da (he A2 s Y H _ I h) λu s1 hh=>?_) ht;let⟨x,H1,I1,rx,a,dx,fs,ex,ea,l,q⟩:=hh;subst ex;obtain rfl:u=Value.ref a:=rx;refine yw I1 ea c hm l ?_;refine zc2 (first:=[.ref a]) (h₀:=X.base) I.ok.mod.kin hm.kp (da (ha pos A2 s1 Y H1 _ I1 q) λus s2 hh=>?_) CL hpl;let⟨vs,H2,I2,r,q2⟩:=hh;refine{I2.kIn,?_};exact CQ (us:=.ref a::us) (vs:=.ref a::vs) F hr hb hd hx I2 (.cons rfl r) q2
structure Mk (K:AP)(C f:Addr):Prop where
 makes:PySem.W.makesIn K C=true
 init:PySem.W.findIn K (.ref C) "__init__" = some (some (.ref f))
 fn:PySem.W.isFn K (.ref f)=true
 kp:PySem.W.keepIn K (.ref C)=true
theorem JCg {A2:Tc}{Y:St}{H:Hp}{s:A1}{Q:VK}{us:Te}{vs:T5 V}(M:Mk X.K C f)(F:cC X.prog X.w X.K X.mg X.base CX k f fd ps sp)(hr:bK (k+1) X.A)(hb:gr X.K fd ps ds)(hd:aR Cw ds)
  (hx:n6 CX X E) (I:aD X A2 Y H s) (r:aR vs us)
  (h:∀x dx,H x=none->H dx=none->dx≠x->sp (.ref x::(vs++Cw)) (upd (upd H dx (.own x)) x (.ins C dx [])) (λv H2=>v=.non/\Q (.ref x) H2) E) :
  wpAny (model X.prog X.w) X.A (call (.ref C) us) (EP X A2 Y Q) X.xe s:=by
 have hq:=h (s.heap.objs.size+1) s.heap.objs.size (I.hok.fresh (G7 _)) (I.hok.fresh (B3 _)) (BG (zb2 _));have I2:=aD.made (C:=C) I;have r2:aR (V.ref (s.heap.objs.size+1)::(vs++Cw)) (Value.ref (s.heap.objs.size+1)::(us++ds)):=.cons rfl (r.append hd)
 have hl:(Value.ref (s.heap.objs.size+1)::us++ds).length=ps.length:=by
  have e:=r2.length;rw[F.len _ _ _ _ hq] at e;exact e.symm
 refine wpAny_call (JCs (f:=f) I.kIn M.makes M.init (beq_iff_eq.mp M.fn) (G8 (F.run _ X.stack _ _ {Value.ref (s.heap.objs.size+1)::us,[]} (Value.ref (s.heap.objs.size+1)::(us++ds)) _ _ E (hr.make C us [])
  (I2.env0.make C us []) (hb _ (Value.ref (s.heap.objs.size+1)::us) I2.kIn hl) r2 hq) λr s' Ga=>?_))
 cases r with
 |error e=>exact hx A2 Y _ _ e s' I2 Ga
 |ok fl=>
  cases fl with
  |ret u=>
   let⟨v,H',I3,rv,ev,q3⟩:=I2.after Ga;subst ev;exact{rv,{V.ref (s.heap.objs.size+1),H',I3,rfl,q3}}
  |next=>exact False.elim Ga
  |brk=>exact False.elim Ga
  |cont=>exact False.elim Ga
def JE5 (M:Mk X.K C f)(F:cC X.prog X.w X.K X.mg X.base CX k f fd ps sp)(hr:bK (k+1) X.A)(hg:Gl X x)(hm:X.mg x=some (.ref C))(hb:gr X.K fd ps ds)(hd:aR Cw ds)(hx:n6 CX X E)
  (ha:PA X (e::es) t) (Be:(x == ("__debug__" : Str))=false:=by decide) (he:starEach (e::es) X.env=(false,eval e X.env)::starEach es X.env:=by rfl) (hpl:(backTo pos (starEach es X.env)).any (·.1)=false:=by rfl) :
  PE X (.Call (.Name x p) (e::es) [] pos) (Jx C sp Cw E t):=by
 intro A2 s Y H Q I h;refine zca (uo I hg hm ?_ Be);refine zc2 (h₀:=X.base) I.ok.mod.kin M.kp (da (ha pos A2 s Y H _ I h) λus s1 hh=>?_) he hpl;let⟨vs,H1,I1,r,q⟩:=hh;refine{I1.kIn,?_};exact JCg M F hr hb hd hx I1 r q
end
structure az (N P:Tn)(sc:Scope):Prop where
 kind:sc.kind=.function
 co:sc.isCoroutine=false
 gen:sc.isGenerator=false
 nd:N.Nodup
 pre:N.take P.length=P
 par:∀x∈P,sc.names.lookup x=some .local\/sc.names.lookup x=some .cell
 nofree:∀y∈sc.names,y.2≠.free
theorem tz {kindOf:Str->UE NameKind}{x:Str}:∀{binds:T5 (Str×A3)} {m:Td},(∀v,(x,v)∉binds)->bindL kindOf binds m x=m x
 |[],_,_=>rfl
 |(n,v)::r,m,h=>by
  unfold bindL;rw[tz λw hw=>h w (BF _ hw)];split
  ·have:x≠n:=by rintro rfl;exact h v BB
   simp[this]
  ·rfl
theorem tE {kindOf:Str->UE NameKind}{x:Str}:∀{binds:T5 (Str×A3)} {m:Td},(∀v,(x,v)∉binds)->bindC kindOf binds m x=m x
 |[],_,_=>rfl
 |(n,v)::r,m,h=>by
  unfold bindC;rw[tE λw hw=>h w (BF _ hw)];split
  ·rfl
  ·have:x≠n:=by rintro rfl;exact h v BB
   simp[this]
theorem tD {kindOf:Str->UE NameKind}{x:Str}{v:A3}:∀{P:Tn} {vs:Te} {i:Nat} {m:Td},P.Nodup->P[i]?=some x->vs[i]?=some v->kindOf x=some .local ->
  bindL kindOf (P.zip vs) m x=some v
 |[],_,_,_,_,h,_,_=>by simp at h
 |_::_,[],_,_,_,_,h,_=>by simp at h
 |p::P,w::vs,0,m,nd,h1,h2,hk=>by
  simp at h1 h2;subst h1;subst h2
  show bindL kindOf ((p,w)::P.zip vs) m p=_
  unfold bindL;rw[tz λv hv=>(By.mp nd).1 (zdd hv).1,A7 hk];simp
 |p::P,w::vs,i+1,m,nd,h1,h2,hk=>by
  show bindL kindOf ((p,w)::P.zip vs) m x=_
  unfold bindL;exact tD (i:=i) (By.mp nd).2 ‹h1› ‹h2› hk
theorem tF {kindOf:Str->UE NameKind}{x:Str}{v:A3}:∀{P:Tn} {vs:Te} {i:Nat} {m:Td},P.Nodup->P[i]?=some x->vs[i]?=some v->kindOf x≠some .local ->
  bindC kindOf (P.zip vs) m x=some v
 |[],_,_,_,_,h,_,_=>by simp at h
 |_::_,[],_,_,_,_,h,_=>by simp at h
 |p::P,w::vs,0,m,nd,h1,h2,hk=>by
  simp at h1 h2;subst h1;subst h2
  show bindC kindOf ((p,w)::P.zip vs) m p=_
  unfold bindC;rw[tE λv hv=>(By.mp nd).1 (zdd hv).1,A5 hk];simp
 |p::P,w::vs,i+1,m,nd,h1,h2,hk=>by
  show bindC kindOf ((p,w)::P.zip vs) m x=_
  unfold bindC;exact tF (i:=i) (By.mp nd).2 ‹h1› ‹h2› hk
noncomputable def fO (N:Tn)(vs:T5 V):St:=vs.map some++List.replicate (N.length-vs.length) none
noncomputable def jX (CX:Aw)(P:A9)(w:AM)(K:AP)(mg:Td)(base:AI)(N:Tn)(qual:Str)(scope:Scope)(f:A4)(cd:A3)(A:AL)(outer:T5 Env)(s:A1)(H:Hp)(E:XK):Cx where
 prog:=P
 w:=w
 K:=K
 mg:=mg
 base:=base
 A:=A.deeper (envOfC qual scope s.heap.objs.size f cd)
 N:=N
 s₀:=s
 H₀:=H
 env:=envOfC qual scope s.heap.objs.size f cd
 outer:=outer
 stack:=envOfC qual scope s.heap.objs.size f cd::outer
 ex:=[]
 calm:=true
 fn:=λ_=>true
 pn:=[]
 xe:=λe s'=>wpAny (model P w) (A.deeper (envOfC qual scope s.heap.objs.size f cd)) (leaving (envOfC qual scope s.heap.objs.size f cd) e) (λ_ GY=>CX outer H s E e GY) (λe' GY=>CX outer H s E e' GY) s'
def w4 {sc:Scope}{n:Nat}{x:Str}(h:sc.names.lookup x=some .cell):∃c,(cellsFrom n sc.names []).lookup x=some c:=by have q:=zcg sc.names n [] (.inl h);exact zb3.mp q
def JBu {CX:Aw}{P:A9}{w:AM}{K:AP}{mg:Td}{base:AI}{N ps:Tn}{qual:Str}{scope:Scope}{f:A4}{cd:A3}{A:AL}{outer:T5 Env}{s s1:A1}{H:Hp}{E:XK}{us:Te}{vs:T5 V}
  (S:az N ps scope) (hd:A.handled=none) (e0:yU P w K mg base A outer s H) (hl:vs.length=ps.length) (r:aR vs us)
  (x:InCallC s s.heap.objs.size (bindL (envOfC qual scope s.heap.objs.size f cd).kindOf (ps.zip us) λ_=>none) (cellsFrom (s.heap.objs.size+1) scope.names []) (bindC (envOfC qual scope s.heap.objs.size f cd).kindOf (ps.zip us) λ_=>none) s1) :
  aD (jX CX P w K mg base N qual scope f cd A outer s H E) [] (fO N vs) H s1:=by
 have hpl:ps.length<=N.length:=by have:=AQ List.length S.pre;rw[F8] at this;omega
 let⟨h1,tk,rfl,hk⟩:=x.done;have noA:∀b:A4,b∉(jX CX P w K mg base N qual scope f cd A outer s H E).ex:=λb z=>AJ (show b∈([]:Tf) from z) ∅
 refine{{e0.mod,S.kind,rfl,rfl,B3 _,λy z c h1 h2=>?_,λy hy=>?_,λy c _ h=>?_,λ_=>hd,Around.frames_deeper e0.frames,.inr {rfl,rfl},λb z=>AJ z (noA b),e0.bs,e0.bsz,λb _ _=>noA b,λb z=>AJ z (noA b),e0.funs,e0.frf},
  rfl,e0.bare,Un.kept hk,{_,x.toInCall.ns,λi y v h1 h2 h3=>?_},λy c h=>{_,x.cell y c h},e0.hok.fresh (B3 _),λy c h=>?_,λp hp=>AJ (show p∈([]:Tc) from hp) ∅,e0.hok.kept hk,?_}
 ·exact name_of_addr x.apart (PySem.mem_of_lookup h1) (PySem.mem_of_lookup h2)
 ·have hy:scope.names.lookup y=some .cell\/scope.names.lookup y=some .free:=hy
  rcases hy with hy|hy
  ·exact w4 hy
  ·exact AJ rfl (S.nofree _ (PySem.mem_of_lookup hy))
 ·exact GA (x.above y c (PySem.mem_of_lookup h))
 ·have hi:i<vs.length:=by
   unfold fO at h2
   by_cases hi:i<vs.length
   ·exact hi
   ·rw[FW ‹hi›] at h2
    rw[zb8] at h2;split at h2 <;> cases h2
  have ha:vs[i]?=some v:=by
   unfold fO at h2;rw[BK ‹hi›,CG] at h2
   cases e:vs[i]? with
   |none=>rw[e] at h2;cases h2
   |some a=>rw[e] at h2;cases h2;rfl
  let⟨u,hu,rv⟩:=r.get ha
  have hp:ps[i]?=some y:=by
   rw[←S.pre,zbI ∅];exact h1
  have ndP:ps.Nodup:=by rw[←S.pre];exact S.nd.sublist (List.take_sublist _ _)
  refine{u,rv,?_};rcases S.par y (CU hp) with k|k
  ·exact .inl {k,tD ndP hp hu k}
  ·let⟨c,e⟩:=w4 (n:=s.heap.objs.size+1) k
   refine .inr {.inl k,c,e,?_};have q:=x.cell y c e;rw[tF ndP hp hu (by show scope.names.lookup y≠_;rw[k];decide)] at q;exact q
 ·exact e0.hok.fresh (GA (x.above y c (PySem.mem_of_lookup h)))
 ·unfold fO
  show _=N.length
  rw[Bp,Az,List.length_replicate];omega
theorem Pt {CX:Aw}{P:A9}{w:AM}{K:AP}{mg:Td}{base:AI}{k:Nat}{f:A4}{name qual:Str}{params:Arguments}{body:Tk}{scope:Scope}{dV kV doc pm AX ct oc:A3}{an od:UE A4}
  {GF:AD (Tg)} {N ps:Tn} {sp:Sp} (lk:K.lookup f=some {oc,od,.func (PySem.W.fnOf name qual params body scope dV kV doc pm an AX ct),GF}) (Eg:PySem.W.codeIn K AX qual=true) (S:az N ps scope)
  (len:∀vs H Q E,sp vs H Q E->vs.length=ps.length)
  (Ay:∀(A:AL) (outer:T5 Env) (s:A1) (H:Hp) (vs:T5 V) (Q:VK) (E:XK),bK k (A.deeper (envOfC qual scope s.heap.objs.size f AX))->sp vs H Q E ->
   ∃t,oZ (jX CX P w K mg base N qual scope f AX A outer s H E) body t/\t {nx:=λ_ H'=>Q .non H',rt:=Q} (fO N vs) H) :
  cC P w K mg base CX (k+1) f (PySem.W.fnOf name qual params body scope dV kV doc pm an AX ct) ps sp:=by
 refine{len,λA outer s H args us vs Q E hr e0 hb r Ew=>?_};have hl:=len _ _ _ _ Ew;have KX:K.In s.heap:=e0.mod.kin.keeps λb o e=>(e0.bs b o e).1;have lim:s.heap.NoLimit:=e0.mod.nolimit.keeps λb o e=>(e0.bs b o e).1
 have hkind:∀y∈ps.zip us,scope.names.lookup y.1=some .local\/(scope.names.lookup y.1=some .cell/\((cellsFrom (s.heap.objs.size+1) scope.names []).lookup y.1).isSome=true):=λ⟨n,v⟩ hy=>by
  rcases S.par n (zdd hy).1 with q|q
  ·exact .inl q
  ·exact .inr {q,zcg _ _ _ (.inl q)}
 refine codeAny_call_function hr.depth (KX _ _ lk) rfl S.co S.gen rfl (PySem.W.codeRec_of KX Eg) (hb _ _ _ _ ?_);refine wpAny_newFunctionEnv_cells S.kind hkind λenv he s1 x=>?_;subst he;refine{lim.keeps x.toInCall.keep,codeAny_func ?_};let⟨t,ht,hq⟩:=Ay A outer s H vs Q E (hr.deeper _) Ew;have I:aD (jX CX P w K mg base N qual scope f AX A outer s H E) [] (fO N vs) H s1:=JBu S hr.hd e0 hl r x;refine Dt (ht [] s1 (fO N vs) H _ I hq) (λfl s' hs=>?_) λe s' hs=>hs
 have fin:∀{Y':St} {H':Hp} {v:V} {u:A3},aD (jX CX P w K mg base N qual scope f AX A outer s H E) [] Y' H' s'->be v u->Q v H'->CE outer P w H s Q u s' :=
  λ{Y' H' v u} J rv q=>{v,H',J.os,J.bare,J.base,J.hok,rv,q}
 cases fl with
 |ret u=>
  let⟨v,Y',H',J,rv,q⟩:=hs;exact fin J rv q
 |next=>
  let⟨Y',H',J,q⟩:=hs;exact fin (v:=V.non) (u:=Value.none) J rfl q
 |brk=>
  let⟨_,_,_,q⟩:=hs;exact False.elim q
 |cont=>
  let⟨_,_,_,q⟩:=hs;exact False.elim q
section
variable {X:Cx}{x:Str}{p pos:Pos}{e:AR}{es:Tj}{t:TA}{id T:String}{r:T5 V->Hp->VK->Prop}
def Na (r:T5 V->Hp->VK->Prop)(t:TA):TE:=λY H Q=>t Y H λvs H1=>r vs H1 Q
def fU (hc:fm X (.builtin id) r)(hg:Gl X x)(hm:X.mg x=none)(hv:bootBuiltins x=some (.builtin id))(ha:PA X (e::es) t)(hn:x≠"__name__":=by decide)(Be:(x == ("__debug__" : Str))=false:=by decide)
  (he:starEach (e::es) X.env=(false,eval e X.env)::starEach es X.env:=by rfl) (hpl:(backTo pos (starEach es X.env)).any (·.1)=false:=by rfl):PE X (.Call (.Name x p) (e::es) [] pos) (Na r t):=by
 intro A2 s Y H Q I h;refine zca (qv I hg hm hv ?_ hn Be);exact PyProof.Rows.callWith_builtin1 (da (ha pos A2 s Y H _ I h) λus s1 ⟨vs,H1,I1,r1,q1⟩=>hc A2 s1 Y H1 vs us Q I1 r1 q1) he hpl
def eA (hc:fm X (.type T) r)(hg:Gl X x)(hm:X.mg x=none)(hv:bootBuiltins x=some (.type T))(ha:PA X (e::es) t)(hn:x≠"__name__":=by decide)(Be:(x == ("__debug__" : Str))=false:=by decide)
  (he:starEach (e::es) X.env=(false,eval e X.env)::starEach es X.env:=by rfl) (hpl:(backTo pos (starEach es X.env)).any (·.1)=false:=by rfl):PE X (.Call (.Name x p) (e::es) [] pos) (Na r t):=by
 intro A2 s Y H Q I h;refine zca (qv I hg hm hv ?_ hn Be);exact PyProof.Rows.callWith_type1 (da (ha pos A2 s Y H _ I h) λus s1 ⟨vs,H1,I1,r1,q1⟩=>hc A2 s1 Y H1 vs us Q I1 r1 q1) he hpl
end
end L2
namespace HT
open PyProof.Rows
section
variable {prog:A9}{w:AM}{A:AL}{E:Tb}{s:A1}
def Ij {t b:A4}{vs ws:Te}{Q:Tb}(ht:IsTup s.heap t vs.toArray)(hb:IsTup s.heap b ws.toArray)(hv:vs≠[])
  (h1:ws=[]->Q (.ref t) s) (h2:ws≠[]->Q (.ref s.heap.objs.size) {s with heap:=s.heap.push {cls:=.type "tuple",data:=.seq (vs++ws).toArray}})
  (hsz:vs.length+ws.length<=sizeLine):wpAny (model prog w) A (binaryOp .Add (.ref t) (.ref b)) Q E s:=by
 let⟨⟨cls,dd,data,sl⟩,ho,hc,n,hd⟩:=id ht;let⟨⟨cls2,dd2,data2,sl2⟩,F0,hc2,n2,hd2⟩:=id hb;simp only at hc hd hc2 hd2;subst hc hd hc2 hd2
 have e:vs.toArray++ws.toArray=(vs++ws).toArray:=by simp
 by_cases hw:ws=[]
 ·exact concat_meets {_,ho,rfl} {_,F0,rfl} noFill_tuple_add seq_tuple_add PySem.F.slot_tuple_add PySem.F.entry_tuple_add (PySem.F.args_tuple_add_2 _ _)
   (tuple_addW1 t b vs.toArray ws.toArray n n2 dd dd2 sl sl2 ‹hv› (by simp[hw])) {ho,F0,h1 hw}
 ·refine concat_meets {_,ho,rfl} {_,F0,rfl} noFill_tuple_add seq_tuple_add PySem.F.slot_tuple_add PySem.F.entry_tuple_add (PySem.F.args_tuple_add_2 _ _)
   (tuple_addW2 t b vs.toArray ws.toArray n n2 dd dd2 sl sl2 ‹hv› ‹hw› (by rw[Bd,Bd];exact hsz)) {ho,F0,?_}
  rw[e];exact h2 hw
noncomputable def cG (n d:Nat):UE Int->Nat
 |none=>d
 |some v=>if v<0 then (v+(n:Int)).toNat else min v.toNat n
def ua (n d k:Nat):cG n d (some (k:Int))=min k n:=by
 show(if (k:Int)<0 then ((k:Int)+(n:Int)).toNat else min (k:Int).toNat n)=min k n
 rw[A5 ∅,Gs]
theorem KG (n d:Nat)(hd:d<=n)(o:UE Int):cG n d o<=n:=by
 cases o with
 |none=>exact hd
 |some v=>
  show(if v<0 then (v+(n:Int)).toNat else min v.toNat n)<=n
  by_cases hv:v<0
  ·rw[A7 hv];omega
  ·rw[A5 hv];exact zc8 _ _
def Ao (v:Int)(n d:Nat):(if v<0 then max (v+(n:Int)) 0 else min v (n:Int))=((cG n d (some v):Nat):Int):=by
 show(if v<0 then max (v+(n:Int)) 0 else min v (n:Int))=(((if v<0 then (v+(n:Int)).toNat else min v.toNat n):Nat):Int)
 by_cases hv:v<0
 ·rwa[A7 hv];omega
 ·rwa[A5 hv];omega
def yP (lo hi:UE Int)(n:Nat):Builtin.Slice.sliceAdjust lo hi 1 (n:Int)=(((cG n 0 lo:Nat):Int),((cG n n hi:Nat):Int)):=by
 have h1:¬ ((1:Int)<0):=by omega
 unfold Builtin.Slice.sliceAdjust;rwa[h1,if_false];refine Prod.ext ?_ ?_
 ·cases lo with
  |none=>rfl
  |some v=>exact Ao v n 0
 ·cases hi with
  |none=>rfl
  |some v=>exact Ao v n n
def xT (i j:Nat):Builtin.Slice.slicePlaces (i:Int) (j:Int) 1=j-i:=by
 unfold Builtin.Slice.slicePlaces;have h1:(1:Int)>0:=by omega
 rwa[h1,if_true,Int.ediv_one];split <;> omega
theorem pY {v:A3}{o:UE Int}{Q:UE Int->A1->Prop}(p:IsPart v o)(h:Q o s):wpAny (model prog w) A (Builtin.Slice.slicePartIndex v) Q E s:=by
 cases p with
 |none=>exact slicePart_none h
 |int i t=>exact slicePart_int h
def i5 {sl:A4}{vl vu:A3}{lo hi:UE Int}{n:Nat}{Q:Int×Int×Nat->A1->Prop}(hs:s.heap.IsSliceOf sl vl vu .none)(pl:IsPart vl lo)(pu:IsPart vu hi)
  (h:Q (((cG n 0 lo:Nat):Int),1,cG n n hi-cG n 0 lo) s):wpAny (model prog w) A (Builtin.Slice.sliceApplied (.ref sl) (pure (n:Int))) Q E s:=by
 let⟨os,Il,K1,hds⟩:=id hs;unfold Builtin.Slice.sliceApplied Builtin.Slice.sliceFields;refine AB (AB (Gq Il hds (x:=vl) rfl (AB (Gq Il hds (x:=vu) rfl (AB (Gq Il hds (x:=.none) rfl (AN ?_)))))));refine AB (slicePart_none ?_)
 show wpAny _ _ (if ((1:Int) == 0)=true then _ else _) _ _ s
 rw[A5 ∅];refine AB (pY pl (AB (pY pu (AB (AN ?_)))))
 show wpAny _ _ (match Builtin.Slice.sliceAdjust lo hi 1 (n:Int) with|(lo,hi)=>pure (lo,(1:Int),Builtin.Slice.slicePlaces lo hi 1)) _ _ s
 rw[yP lo hi n]
 show wpAny _ _ (pure (((cG n 0 lo:Nat):Int),(1:Int),Builtin.Slice.slicePlaces ((cG n 0 lo:Nat):Int) ((cG n n hi:Nat):Int) 1)) _ _ s
 rw[xT];exact AN h
def JDo (xs:Ti)(i k:Nat):((List.range k).filterMap λ(m:Nat)=>xs[((i:Int)+(m:Int)*1).toNat]?).toArray=((xs.toList.drop i).take k).toArray:=by
 have e:(λ(m:Nat)=>xs[((i:Int)+(m:Int)*1).toNat]?)=λm=>xs[i+m]?:=by
  funext m;have:((i:Int)+(m:Int)*1).toNat=i+m:=by omega
  rw[this]
 rw[e];have:=pick_run xs i k;rw[List.filterMap_map] at this
 have e2:((λx=>xs[x]?) ∘ λx=>i+x)=λm=>xs[i+m]?:=rfl;rw[e2] at this
 rw[this]
def mR {t sl:A4}{items:Ti}{vl vu:A3}{lo hi:UE Int}{Q:Tb}(ht:IsTup s.heap t items)(hs:s.heap.IsSliceOf sl vl vu .none)(pl:IsPart vl lo)(pu:IsPart vu hi)
  (hw:¬ (cG items.size 0 lo=0/\cG items.size items.size hi=items.size))
  (h:Q (.ref s.heap.objs.size) {s with heap:=s.heap.push {cls:=.type "tuple",data:=.seq ((items.toList.drop (cG items.size 0 lo)).take (cG items.size items.size hi-cG items.size 0 lo)).toArray}})
  (hsz:items.size<=sizeLine):wpAny (model prog w) A (getItem (.ref t) (.ref sl)) Q E s:=by
 have E0:sizeOk (.seq ((items.toList.drop (cG items.size 0 lo)).take (cG items.size items.size hi-cG items.size 0 lo)).toArray):=by
  show((items.toList.drop (cG items.size 0 lo)).take (cG items.size items.size hi-cG items.size 0 lo)).toArray.size<=sizeLine
  rw[Bd,F8,zcK,DS];omega
 have hj:cG items.size items.size hi<=items.size:=KG _ _ (B3 _) hi;obtain⟨os,Il,K1,hds⟩:=id hs;have hTs:s.TypeIs (.ref sl) "slice":={os,Il,K1};unfold getItem
 try with_reducible refine Bg ?_
 first|refine AB (AN ?_)|skip
 refine AB (wpAny_sequenceKey ht.typeIs ∅ ?_)
 refine AB (GV (name:=Str.ofString "__getitem__") ht.typeIs PyProof.Rows.slot_tuple_getitem
  (C5 PyProof.Rows.slot_tuple_getitem ht.typeIs entry_tuple_getitem ?_ (args_tuple_getitem _ _)))
 show wpAny _ _ (Builtin.Tuple.tupleItemsOf (.ref t) >>= _) _ _ s
 refine AB (tupleItemsOf_ ht ?_);refine AB (FU hTs ?_);rw[A7 ∅];refine AB (i5 hs pl pu ?_)
 have F1:¬ ((((cG items.size 0 lo:Nat):Int) == 0&&(1:Int) == 1&&(cG items.size items.size hi-cG items.size 0 lo) == items.size)=true):=by
  intro q;rw[Ek,Ek] at q;have q1:((cG items.size 0 lo:Nat):Int)=0:=eq_of_beq q.1.1;have q2:cG items.size items.size hi-cG items.size 0 lo=items.size:=eq_of_beq q.2;exact hw {by omega,by omega}
 show wpAny _ _ (if (((cG items.size 0 lo:Nat):Int) == 0&&(1:Int) == 1&&(cG items.size items.size hi-cG items.size 0 lo) == items.size)=true then _ else _) _ _ s
 rw[A5 F1,JDo]
 first
  |exact AB (m:=Builtin.Tuple.tupleExact _) (CN (AN {_,rfl,AN h}) E0)
  |exact AB (m:=Builtin.Tuple.tupleExact _) (CN (AB (AN (AN {_,rfl,AN h}))) E0)
  |exact AB (AB (m:=Builtin.Tuple.tupleExact _) (CN (AN (AN {_,rfl,AN h})) E0))
  |exact AB (AB (m:=Builtin.Tuple.tupleExact _) (CN (AN {_,rfl,AN h}) E0))
end
end HT
namespace L2
open PyProof.Rows
abbrev TO:=St->Hp->(UE Int->Hp->Prop)->Prop
def PO (X:Cx)(e:UE AR)(t:TO):Prop :=
 ∀(A2:Tc) (s:A1) (Y:St) (H:Hp) (Q:UE Int->Hp->Prop),aD X A2 Y H s->t Y H Q ->
  wpAny (model X.prog X.w) X.A (evalPart e X.env) (λu s'=>∃o H',aD X A2 Y H' s'/\IsPart u o/\Q o H') X.xe s
def zo:TO:=λ_ H Q=>Q none H
def Jt (t:TE):TO:=λY H Q=>t Y H λx H1=>∃i,x=.int i/\Q (some i) H1
section
variable {X:Cx}{e:AR}{te:TE}{lo hi:UE AR}{tl th:TO}{pos p2:Pos}
def JFn:PO X none zo:=by intro A2 s Y H Q I h;rw[evalPart_none];exact AN {none,H,I,.none,h}
def JFm (h:PE X e te):PO X (some e) (Jt te):=by intro A2 s Y H Q I hw;rw[evalPart_some];refine da (h A2 s Y H _ I hw) λu s1 hh=>?_;let⟨x,H1,I1,r1,q1⟩:=hh;let⟨i,rfl,q⟩:=q1;let⟨t,rfl⟩:=r1;exact{some i,H1,I1,.int i t,q}
def BV (X:Cx)(r:V->UE Int->UE Int->Hp->VK->Prop):Prop :=
 ∀(A2:Tc) (s:A1) (Y:St) (H:Hp) (x:V) (v vl vu:A3) (lo hi:UE Int) (sl:A4) (Q:VK),aD X A2 Y H s->be x v->s.heap.IsSliceOf sl vl vu .none->IsPart vl lo->IsPart vu hi->r x lo hi H Q ->
  ∃T id,typeLookup (.type T) "__getitem__" = pure (some (.builtin id))/\s.TypeIs v T/\wpAny (model X.prog X.w) X.A (getItem v (.ref sl)) (EP X A2 Y Q) X.xe s
def BV.or {r r':V->UE Int->UE Int->Hp->VK->Prop}(h:BV X r)(h':BV X r'):BV X (λx lo hi H Q=>r x lo hi H Q\/r' x lo hi H Q):=by
 intro A2 s Y H x v vl vu lo hi sl Q I rx hs pl pu q;rcases q with q|q
 ·exact h A2 s Y H x v vl vu lo hi sl Q I rx hs pl pu q
 ·exact h' A2 s Y H x v vl vu lo hi sl Q I rx hs pl pu q
def P9 (r:V->UE Int->UE Int->Hp->VK->Prop)(te:TE)(tl th:TO):TE:=λY H Q=>te Y H λx H1=>tl Y H1 λl H2=>th Y H2 λu H3=>r x l u H3 Q
def ql {r:V->UE Int->UE Int->Hp->VK->Prop}(hr:BV X r)(he:PE X e te)(hl:PO X lo tl)(hu:PO X hi th):PE X (.Subscript e (.Slice lo hi none p2) pos) (P9 r te tl th):=by
 intro A2 s Y H Q I h;refine Subscript_ (da (he A2 s Y H _ I h) λv s1 hh=>?_);obtain⟨x,H1,I1,r1,q1⟩:=hh;refine wpAny_Slice (da (hl A2 s1 Y H1 _ I1 q1) λvl s2 hh=>?_);obtain⟨l,H2,I2,pl,q2⟩:=hh;refine da (hu A2 s2 Y H2 _ I2 q2) λvu s3 hh=>?_;obtain⟨u,H3,I3,pu,q3⟩:=hh;rw[evalPart_none];refine AN ?_;have I4:aD X A2 Y H3 {s3 with heap:=s3.heap.push {cls:=.type "slice",data:=.fields #[vl,vu,.none]}}:=I3.kept (t':=s3.toks) λb ob q=>AY _ q;obtain⟨T,id,hT,ht,hg⟩:=hr A2 {s3 with heap:=s3.heap.push {cls:=.type "slice",data:=.fields #[vl,vu,.none]}} Y H3 x v vl vu l u s3.heap.objs.size Q I4 r1 (Heap.IsSliceOf.new ..) pl pu q3
 show wpAny (model X.prog X.w) X.A (subscriptTail e (.Slice lo hi none p2) v (.ref s3.heap.objs.size)) (EP X A2 Y Q) X.xe {s3 with heap:=s3.heap.push {cls:=.type "slice",data:=.fields #[vl,vu,.none]}}
 exact tail_any (ops:=[.ref s3.heap.objs.size,v]) ht hT hg (by with_unfolding_all rfl)
noncomputable def oY (xs:T5 V)(lo hi:UE Int):T5 V:=(xs.drop (HT.cG xs.length 0 lo)).take (HT.cG xs.length xs.length hi-HT.cG xs.length 0 lo)
def oB (xs:T5 V)(lo hi:UE Int):(oY xs lo hi).length<=xs.length:=by unfold oY;rw[F8,zcK];omega
def Op (K:AP):V->UE Int->UE Int->Hp->VK->Prop:=λx lo hi H Q=>∃a xs,x=.ref a/\gM K H a xs /\
 ¬ (HT.cG xs.length 0 lo=0/\HT.cG xs.length xs.length hi=xs.length)/\∀p,H p=none->Q (.ref p) (upd H p (.tup (oY xs lo hi)))
def KA:BV X (Op X.K):=by
 intro A2 s Y H x v vl vu lo hi sl Q I rx hs pl pu h;let⟨a,xs,rfl,hx,hw,q⟩:=h;cases rx;let⟨its,r,ht,hz⟩:=I.tuple hx;have hlen:its.toArray.size=xs.length:=by rw[Bd];exact r.length.symm
 refine{"tuple",_,PyProof.Rows.slot_tuple_getitem.lookup,ht.typeIs,?_};refine HT.mR ht hs pl pu (by rw[hlen];exact hw) ?_ (by rw[hlen];exact hz);rw[hlen];refine{.ref s.heap.objs.size,_,I.laid (t':=s.toks) (o:=.tup (oY xs lo hi)) (λb ob q=>AY _ q) (B3 _) ?_,rfl,q _ (I.hok.fresh (B3 _))};exact{DL (oB xs lo hi) hz,_,(r.drop (HT.cG xs.length 0 lo)).take (HT.cG xs.length xs.length hi-HT.cG xs.length 0 lo),kU.new _ _}
def JK (K:AP):R2:=λx y H Q=>∃a b xs ys,x=.ref a/\y=.ref b/\gM K H a xs/\gM K H b ys/\xs≠[]/\xs.length+ys.length<=sizeLine /\
 (ys=[]->Q (.ref a) H)/\(ys≠[]->∀p,H p=none->Q (.ref p) (upd H p (.tup (xs++ys))))
theorem aR.nil_iff {xs:T5 V}{us:Te}(r:aR xs us):us=[] ↔ xs=[]:=by
 cases r with
 |nil=>simp
 |cons _ _=>simp
def JGq:kR X (binaryOp .Add) (JK X.K):=by intro A2 s Y H x y v u Q I rx ry h;let⟨a,b,xs,ys,rfl,rfl,ha,hb,hx,hz,q1,q2⟩:=h;cases rx;cases ry;let⟨its,r1,p1,_⟩:=I.tuple ha;let⟨DA,r2,p2,_⟩:=I.tuple hb;refine HT.Ij p1 p2 (λz=>hx (r1.nil_iff.mp z)) (λz=>{.ref a,H,I,rfl,q1 (r2.nil_iff.mp z)}) (λz=>?_) (by rw[←r1.length,←r2.length];exact hz);refine{.ref s.heap.objs.size,_,I.laid (t':=s.toks) (o:=.tup (xs++ys)) (λb ob q=>AY _ q) (B3 _) ?_,rfl,q2 (λw=>z (r2.nil_iff.mpr w)) _ (I.hok.fresh (B3 _))};exact{by rw[Bp];exact hz,_,r1.append r2,kU.new _ _}
end
noncomputable def FJ (n:Nat)(i:Int):UE Nat:=if 0<=i then (if i<n then some i.toNat else none) else if -(n:Int)<=i then some (i+n).toNat else none
noncomputable def m6 {Z:Type}(xs:T5 Z)(i:Int):UE Z:=(FJ xs.length i).bind λj=>xs[j]?
def zX {n:Nat}{i:Int}{j:Nat}(h:FJ n i=some j):seqIndex? i n=some j/\j<n/\-(n:Int)<=i/\i<n:=by
 unfold FJ at h;by_cases h0:0<=i
 ·rw[A7 h0] at h;by_cases h1:i<n
  ·rw[A7 h1] at h;have e:i.toNat=j:=Option.some.inj h;exact{by rw[seqIndex_of h0 h1,e],by omega,by omega,h1}
  ·rw[A5 h1] at h;cases h
 ·rw[A5 h0] at h;by_cases h1 : -(n:Int)<=i
  ·rw[A7 h1] at h;have e:(i+n).toNat=j:=Option.some.inj h;exact{by rw[seqIndex_neg ∅ h1,e],by omega,h1,by omega}
  ·rw[A5 h1] at h;cases h
theorem uY {Z:Type}{xs:T5 Z}{i:Int}{v:Z}(h:m6 xs i=some v):∃j,seqIndex? i xs.length=some j/\xs[j]?=some v/\j<xs.length/\-(xs.length:Int)<=i/\i<xs.length:=by
 unfold m6 at h
 cases e:FJ xs.length i with
 |none=>rw[e] at h;cases h
 |some j=>
  rw[e] at h;let⟨h1,h2,h3,h4⟩:=zX e;exact{j,h1,h,h2,h3,h4}
def Au (b:AR):Prop:=∀o i,subscripted b false o i=operate [o,i] (getItem o i)
def ID (X:Cx)(r:R2):Prop :=
 ∀(value slice:AR) (A2:Tc) (s:A1) (Y:St) (H:Hp) (x y:V) (v u:A3) (Q:VK),aD X A2 Y H s->be x v->be y u->r x y H Q ->
  subscripted slice false v u=operate [v,u] (getItem v u)->wpAny (model X.prog X.w) X.A (subscriptTail value slice v u) (EP X A2 Y Q) X.xe s
def Ub (X:Cx)(id:String)(r:V->T5 V->Hp->VK->Prop):Prop :=
 ∀(A2:Tc) (s:A1) (Y:St) (H:Hp) (x:V) (xs:T5 V) (v:A3) (us:Te) (Q:VK),aD X A2 Y H s->be x v->aR xs us->r x xs H Q ->
  wpAny (model X.prog X.w) X.A (call (.builtin id) (v::us)) (EP X A2 Y Q) X.xe s
section
variable {X:Cx}{a b:AR}{ta tb:TE}{pos:Pos}
def ID.or {r r':R2}(h:ID X r)(h':ID X r'):ID X (λx y H Q=>r x y H Q\/r' x y H Q):=by
 intro value slice A2 s Y H x y v u Q I rx ry q hs;rcases q with q|q
 ·exact h value slice A2 s Y H x y v u Q I rx ry q hs
 ·exact h' value slice A2 s Y H x y v u Q I rx ry q hs
def OP {r:R2}(hr:ID X r)(ha:PE X a ta)(hb:PE X b tb)(hs:Au b):PE X (.Subscript a b pos) (Ks r ta tb):=by intro A2 s Y H Q I h;exact Subscript_ (Im ha hb I h λv u s2 x y H2 I2 rx ry q=>hr a b A2 s2 Y H2 x y v u Q I2 rx ry q (hs _ _))
def Ow (K:AP):R2:=λx y H Q=>∃p xs i v,x=.ref p/\y=.int i/\jV K H p xs/\m6 xs i=some v/\Q v H
def Ou (K:AP):R2:=λx y H Q=>∃p xs i v,x=.ref p/\y=.int i/\gM K H p xs/\m6 xs i=some v/\Q v H
def Ov:R2:=λx y H Q=>∃z i c,x=.str z/\y=.int i/\z.length<=sizeLine/\m6 z.cps.toList i=some c/\Q (.str ⟨#[c]⟩) H
def JG3:ID X (Ow X.K):=by
 intro value slice A2 s Y H x y v u Q I rx ry h hs;let⟨p,xs,i,z,rfl,rfl,hq,he,q⟩:=h;cases rx;let⟨t,rfl⟩:=ry;let⟨its,r,pl,hz⟩:=I.list hq;let⟨j,h1,h2,h3,h4,h5⟩:=uY he;let⟨w,ew,Dx⟩:=r.get h2;have hl:=r.length;have hn:=lV;have fin:EP X A2 Y Q w s:={z,H,I,Dx,q};by_cases h0:0<=i
 ·have hj:i.toNat=j:=by
   rw[seqIndex_of h0 h5] at h1;exact Option.some.inj h1
  exact item_listR pl.isList h0 ∅ (by rw[hj];simpa using ew) fin hs
 ·have hj:(i+(its.toArray.size:Int)).toNat=j:=by
   rw[seqIndex_neg ∅ h4] at h1;rw[Bd,←hl];exact Option.some.inj h1
  exact subscriptTail_builtinR (x:=w) pl.isList.typeIs slot_list_getitem.lookup
   (wpAny_getItem_list_neg (Q:=λr s'=>r=w/\EP X A2 Y Q r s') pl.isList ∅ (by rw[Bd] <;> omega) ∅ (by rw[hj];simpa using ew) {rfl,fin}) hs
def Mj:ID X (Ou X.K):=by
 intro value slice A2 s Y H x y v u Q I rx ry h hs;let⟨p,xs,i,z,rfl,rfl,hq,he,q⟩:=h;cases rx;let⟨t,rfl⟩:=ry;let⟨its,r,pl,hz⟩:=I.tuple hq;let⟨j,h1,h2,h3,h4,h5⟩:=uY he;let⟨w,ew,Dx⟩:=r.get h2;have hl:=r.length;have hn:=lV;have fin:EP X A2 Y Q w s:={z,H,I,Dx,q};exact subscriptTail_builtinR (x:=w) pl.typeIs slot_tuple_getitem.lookup
  (getItem_tuple (j:=j) (Q:=λr s'=>r=w/\EP X A2 Y Q r s') pl ∅ ∅ (by rw[Bd,←hl];exact h1) ‹ew› {rfl,fin}) hs
def Ml:ID X Ov:=by
 intro value slice A2 s Y H x y v u Q I rx ry h hs;let⟨z,i,c,rfl,rfl,hz,he,q⟩:=h;let⟨t,rfl⟩:=rx;let⟨t',rfl⟩:=ry;let⟨j,h1,h2,h3,h4,h5⟩:=uY he;have hl:z.cps.toList.length=z.length:=by simp[Str.length]
 rw[hl] at h1 h4 h5;have hn:=lV;exact tail_any (typeIs_str s z t) slot_str_getitem.lookup (getItem_str (c:=c) (by have e1:decide (i < -(2 ^ 63:Int))=false:=Bf ∅;have e2:decide (i >= 2 ^ 63)=false:=Bf ∅;rw[e1,e2,Bool.or_false]) (by rw[h1];simpa using h2) {.str ⟨#[c]⟩,H,I.tok _,{_,rfl},q}) hs
def S8 (K:AP):R2:=λx y H Q=>Ow K x y H Q\/Ou K x y H Q\/Ov x y H Q
def Mm:ID X (S8 X.K):=JG3.or (Mj.or Ml)
def yb (its:Te)(n j:Nat)(u:A3):Obj.mapSeq (·.setIfInBounds j u) {cls:=.type "list",data:=.seq its.toArray n}={cls:=.type "list",data:=.seq (its.set j u).toArray n}:=by simp[Obj.mapSeq]
def aD.lst {H:Hp}{s:A1}{p:A4}{xs:T5 V}(I:aD X A2 Y H s)(h:H p=some (.lst xs)) :
  ∃(its:Te) (n:Nat),aR xs its/\s.heap.get? p=some {cls:=.type "list",data:=.seq its.toArray n}/\xs.length<=sizeLine:=by
 let⟨z,its,n,r,e⟩:=I.hok p _ h;exact{its,n,r,e,z}
def aD.lstUpd {H:Hp}{s:A1}{p:A4}{xs ys:T5 V}{its its':Te}{n n':Nat}{f:B0->B0}(I:aD X A2 Y H s)(h:H p=some (.lst xs))
  (ho:s.heap.get? p=some {cls:=.type "list",data:=.seq its.toArray n}) (hf:f {cls:=.type "list",data:=.seq its.toArray n}={cls:=.type "list",data:=.seq its'.toArray n'}) (r:aR ys its') (hz:ys.length<=sizeLine) (t:Nat) :
  aD X A2 Y (upd H p (.lst ys)) {s with heap:=s.heap.update p f,toks:=t}:=by
 have e:(s.heap.update p f).get? p=some {cls:=.type "list",data:=.seq its'.toArray n'}:=by
  rw[Dw f ho (by rw[hf] <;> rfl),hf]
 refine I.write (x:=p) (e:=p) (by rw[h];trivial) (.inl rfl) (λb u hb q=>(CV _ _ (Ne.symm hb)).trans q) {_,e} ?_;exact{hz,its',n',r,e}
def Db:V->V->V->Hp->(Hp->Prop)->Prop:=λo i v H Q=>∃p xs k j,o=.ref p/\i=.int k/\H p=some (.lst xs)/\FJ xs.length k=some j/\Q (upd H p (.lst (xs.set j v)))
def JCa:u2 X Db:=by
 intro A2 s Y H o i v ov iv u Q I ro ri rv h;let⟨p,xs,k,j,rfl,rfl,hp,hj,q⟩:=h;cases ro;let⟨t,rfl⟩:=ri;let⟨its,n,r,ho,hz⟩:=I.lst hp;let⟨h1,h2,h3,h4⟩:=zX hj;have hl:=r.length;have hn:=lV;have I':aD X A2 Y (upd H p (.lst (xs.set j v))) {s with heap:=s.heap.update p (Obj.mapSeq (·.setIfInBounds j u))} :=
  I.lstUpd hp ho (yb its n j u) (r.set rv j) (by rw[List.length_set];exact hz) s.toks
 by_cases h0:0<=k
 ·have hk:k.toNat=j:=by
   rw[seqIndex_of h0 h4] at h1;exact Option.some.inj h1
  exact PySem.W.ki_setAt ho h0 ∅ (by rw[Bd,←hl];exact h4) (by rw[hk];exact{_,I',q})
 ·have hk:(k+(its.toArray.size:Int)).toNat=j:=by
   rw[seqIndex_neg ∅ h3] at h1;rw[Bd,←hl];exact Option.some.inj h1
  exact PySem.W.ki_setBack ho ∅ (by rw[Bd,←hl];exact h3) ∅ (by rw[hk];exact{_,I',q})
def tZ (lo hi:UE Int)(n:Nat):(sliceBounds lo hi none n).1=((HT.cG n 0 lo:Nat):Int)/\(sliceBounds lo hi none n).2.1=((HT.cG n n hi:Nat):Int)/\(sliceBounds lo hi none n).2.2=1:=by
 refine{?_,?_,rfl}
 ·cases lo with
  |none=>simp[sliceBounds,HT.cG]
  |some i=>
   rwa[sliceBounds,HT.cG,Option.getD_none,show(1:Int)>0 by decide,if_true];by_cases h:i<0
   ·rwa[h,if_true] <;> omega
   ·rwa[h,if_false] <;> omega
 ·cases hi with
  |none=>simp[sliceBounds,HT.cG]
  |some i=>
   rwa[sliceBounds,HT.cG,Option.getD_none,show(1:Int)>0 by decide,if_true];by_cases h:i<0
   ·rwa[h,if_true] <;> omega
   ·rwa[h,if_false] <;> omega
def rF (its:Te)(lo hi:UE Int):slicePick its.toArray lo hi none=((its.drop (HT.cG its.length 0 lo)).take (HT.cG its.length its.length hi-HT.cG its.length 0 lo)).toArray:=by let⟨h1,h2,h3⟩:=tZ lo hi its.toArray.size;unfold slicePick;rw[h1,h2,h3];rwa[sliceRange_one,pick_run,Bd] <;> rfl
def Os (K:AP):V->UE Int->UE Int->Hp->VK->Prop:=λx lo hi H Q=>∃a xs,x=.ref a/\jV K H a xs/\∀p,H p=none->Q (.ref p) (upd H p (.lst (oY xs lo hi)))
def JFv:BV X (Os X.K):=by intro A2 s Y H x v vl vu lo hi sl Q I rx hs pl pu h;obtain⟨a,xs,rfl,hx,q⟩:=h;cases rx;obtain⟨its,r,ht,hz⟩:=I.list hx;have hlen:=r.length;refine{"list",_,slot_list_getitem.lookup,ht.isList.typeIs,?_};refine wpAny_getItem_list_slice ht.isList hs pl pu .none ∅ ?_ (by rw[Bd] <;> omega);rw[rF,←hlen];refine{.ref s.heap.objs.size,_,I.laid (t':=s.toks) (o:=.lst (oY xs lo hi)) (λb ob q=>AY _ q) (B3 _) ?_,rfl,q _ (I.hok.fresh (B3 _))};exact{DL (oB xs lo hi) hz,_,0,(r.drop (HT.cG xs.length 0 lo)).take (HT.cG xs.length xs.length hi-HT.cG xs.length 0 lo),BI _ rfl}
noncomputable def mU:V->A8
 |.non=>true
 |.bl _=>true
 |.int _=>true
 |.str _=>true
 |_=>false
noncomputable def J5:V->V->A8
 |.non,.non=>true
 |.bl a,.bl b=>a == b
 |.bl a,.int b=>(if a then 1 else 0) == b
 |.int a,.bl b=>a == (if b then 1 else 0)
 |.int a,.int b=>a == b
 |.str a,.str b=>a == b
 |_,_=>false
theorem MS {s:A1}{y x:V}{u v:A3}(ry:be y u)(rx:be x v)(fy:mU y=true)(fx:mU x=true):SeqAt.EqAt A s u v (J5 y x):=by
 cases y with
 |non=>
  cases ry
  cases x with
  |non=>cases rx;exact SeqAt.EqAt.same _
  |bl b=>cases rx;exact SeqAt.EqAt.none_bool b
  |int b=>let⟨t,rfl⟩:=rx;exact SeqAt.EqAt.none_int b t
  |str b=>let⟨t,rfl⟩:=rx;exact SeqAt.EqAt.none_str b t
  |_=>exact AJ (show false=true from fx) Eo
 |bl a=>
  cases ry
  cases x with
  |non=>cases rx;exact SeqAt.EqAt.bool_none a
  |bl b=>cases rx;exact SeqAt.EqAt.bool_bool a b
  |int b=>let⟨t,rfl⟩:=rx;exact SeqAt.EqAt.bool_int a b t
  |str b=>let⟨t,rfl⟩:=rx;exact SeqAt.EqAt.bool_str a b t
  |_=>exact AJ (show false=true from fx) Eo
 |int a=>
  let⟨t',rfl⟩:=ry
  cases x with
  |non=>cases rx;exact SeqAt.EqAt.int_none a t'
  |bl b=>cases rx;exact SeqAt.EqAt.int_bool a t' b
  |int b=>let⟨t,rfl⟩:=rx;exact SeqAt.EqAt.int_int a t' b t
  |str b=>let⟨t,rfl⟩:=rx;exact SeqAt.EqAt.int_str a t' b t
  |_=>exact AJ (show false=true from fx) Eo
 |str a=>
  let⟨t',rfl⟩:=ry
  cases x with
  |non=>cases rx;exact SeqAt.EqAt.str_none a t'
  |bl b=>cases rx;exact SeqAt.EqAt.str_bool a t' b
  |int b=>let⟨t,rfl⟩:=rx;exact SeqAt.EqAt.str_int a t' b t
  |str b=>let⟨t,rfl⟩:=rx;exact SeqAt.EqAt.str_str a t' b t
  |_=>exact AJ (show false=true from fx) Eo
 |_=>exact AJ (show false=true from fy) Eo
noncomputable def Ic (x:V)(u:A3):A8:=match u with
 |.none=>J5 .non x
 |.bool b=>J5 (.bl b) x
 |.int i _=>J5 (.int i) x
 |.str z _=>J5 (.str z) x
 |_=>false
theorem E1 {x y:V}{u:A3}(r:be y u)(f:mU y=true):Ic x u=J5 y x:=by
 cases y with
 |non=>cases r;rfl
 |bl b=>cases r;rfl
 |int i=>let⟨t,rfl⟩:=r;rfl
 |str z=>let⟨t,rfl⟩:=r;rfl
 |_=>exact AJ (show false=true from f) Eo
theorem u0 {x:V}:∀{xs:T5 V} {us:Te},aR xs us->xs.all mU=true->us.any (Ic x)=xs.any λy=>J5 y x
 |_,_,.nil,_=>rfl
 |y::xs,u::us,.cons r t,f=>by rw[List.all_cons,Ek] at f;rw[GB,GB,E1 r f.1,u0 t f.2]
theorem qq {s:A1}{x:V}{v:A3}(rx:be x v)(fx:mU x=true):∀{xs:T5 V} {us:Te},aR xs us->xs.all mU=true->∀u∈us,SeqAt.EqAt A s u v (Ic x u)
 |_,_,.nil,_=>λu hu=>by cases hu
 |y::xs,u::us,.cons r t,f=>λu' hu=>by
  rw[List.all_cons,Ek] at f;rcases BA.mp hu with rfl|hu
  ·rw[E1 r f.1];exact MS r rx f.1 fx
  ·exact qq rx fx t f.2 u' hu
noncomputable def Qi (x:V)(xs:T5 V):A8:=xs.any λy=>J5 y x
def Q7 (K:AP)(neg:A8):R2:=λx y H Q=>∃p xs,y=.ref p/\(jV K H p xs\/gM K H p xs)/\mU x=true/\xs.all mU=true/\Q (.bl (if neg then !Qi x xs else Qi x xs)) H
def JAe:kR X (compareOp .In) (Q7 X.K false):=by
 intro A2 s Y H x y v u Q I rx ry h;let⟨p,xs,rfl,hq,fx,fs,q⟩:=h;cases ry;rcases hq with hq|hq
 ·let⟨its,r,pl,hz⟩:=I.list hq;refine SeqAt.in_listAt (Ic x) pl.isList (λw hw=>qq rx fx r fs w ‹hw›) {.bl _,H,I,rfl,?_};rw[show its.toArray.any (Ic x)=its.any (Ic x) by simp,u0 r fs];exact q
 ·let⟨its,r,pl,hz⟩:=I.tuple hq;refine SeqAt.in_tupleAt (Ic x) pl (λw hw=>qq rx fx r fs w ‹hw›) {.bl _,H,I,rfl,?_};rw[show its.toArray.any (Ic x)=its.any (Ic x) by simp,u0 r fs];exact q
def uV:fm X (.builtin "len") (λxs H Q=>∃p ys,xs=[.ref p]/\(jV X.K H p ys\/gM X.K H p ys)/\Q (.int ys.length) H):=by
 intro A2 s Y H xs us Q I r h;let⟨p,ys,rfl,hq,q⟩:=h;let⟨u,rfl,rx⟩:=ij r;cases rx;have hn:=lV;rcases hq with hq|hq
 ·let⟨its,r',pl,hz⟩:=I.list hq;have hlen:=r'.length;exact Calls.call_len_list pl.isList (by rwa[Bd] <;> omega) {.int ys.length,H,I.tok _,{s.toks+1,by rw[Bd,hlen]},q}
 ·let⟨its,r',pl,hz⟩:=I.tuple hq;have hlen:=r'.length;exact len_tuple pl (by rwa[Bd] <;> omega) {.int ys.length,H,I.tok _,{s.toks+1,by rw[Bd,hlen]},q}
def uU:fm X (.builtin "len") (λxs H Q=>∃z,xs=[.str z]/\z.length<=sizeLine/\Q (.int z.length) H):=by intro A2 s Y H xs us Q I r h;obtain⟨z,rfl,hz,q⟩:=h;obtain⟨u,rfl,t,rfl⟩:=ij r;have hn:=lV;exact len_str ∅ {.int z.length,H,I.tok _,{_,rfl},q}
def uT:fm X (.type "list") (λxs H Q=>∃p ys,xs=[.ref p]/\(jV X.K H p ys\/gM X.K H p ys)/\∀l,H l=none->Q (.ref l) (upd H l (.lst ys))):=by
 intro A2 s Y H xs us Q I r h;let⟨p,ys,rfl,hq,q⟩:=h;let⟨u,rfl,rx⟩:=ij r;cases rx;have fin:∀(its:Te),aR ys its->ys.length<=sizeLine->∀(h':AI) (c':Nat),(∀b o',s.heap.get? b=some o'->h'.get? b=some o') ->
   h'.get? s.heap.objs.size=some {cls:=.type "list",dict:=none,data:=.seq its.toArray c',slots:=#[]}->EP X A2 Y Q (.ref s.heap.objs.size) {s with heap:=h'}:=λits r' hz h' c' kp e=>
  {.ref s.heap.objs.size,_,I.laid (t':=s.toks) kp (B3 _) (show bo X.prog X.w _ h' _ (.lst ys) from{hz,its,c',r',e}),rfl,q _ (I.hok.fresh (B3 _))}
 rcases hq with hq|hq
 ·let⟨its,r',pl,hz⟩:=I.list hq;have hlen:=r'.length;let⟨o,ho,hc,n,hd⟩:=pl.isList;exact call_list_seq p (.inl rfl) ho hc hd (λh' c' kp e=>fin its r' hz h' c' kp e) (by rwa[Bd] <;> omega)
 ·let⟨its,r',pl,hz⟩:=I.tuple hq;have hlen:=r'.length;let⟨o,ho,hc,n,hd⟩:=pl;exact call_list_seq p (.inr rfl) ho hc hd (λh' c' kp e=>fin its r' hz h' c' kp e) (by rwa[Bd] <;> omega)
def lJ:fm X (.type "tuple") (λxs H Q=>∃p ys,xs=[.ref p]/\((jV X.K H p ys/\∀l,H l=none->Q (.ref l) (upd H l (.tup ys)))\/(gM X.K H p ys/\Q (.ref p) H))):=by
 intro A2 s Y H xs us Q I r h;let⟨p,ys,rfl,h⟩:=h;let⟨u,rfl,rx⟩:=ij r;cases rx;rcases h with⟨hq,q⟩|⟨hq,q⟩
 ·obtain⟨its,r',pl,hz⟩:=I.list hq;have hlen:=r'.length;refine call_tuple_list pl.isList (λh' kp=>?_) (by rwa[Bd] <;> omega);have I1:aD X A2 Y H {s with heap:=h'}:=I.kept (t':=s.toks) kp;have I2:aD X A2 Y (upd H h'.objs.size (.tup ys)) {s with heap:=h'.push {cls:=.type "tuple",data:=.seq its.toArray}} :=
   I1.laid (t':=s.toks) (λb o e=>AY _ e) (B3 _) (show bo X.prog X.w _ _ _ (.tup ys) from{hz,its,r',kU.new _ _})
  exact{.ref h'.objs.size,_,I2,rfl,q _ (I1.hok.fresh (B3 _))}
 ·let⟨its,r',pl,hz⟩:=I.tuple hq;exact call_tuple_same pl {.ref p,H,I,rfl,q}
def QY (K:AP)(T:String)(x:V)(H:Hp):Prop:=match x with
 |.str _=>T = "str"
 |.int _=>T = "int"
 |.ref p=>(T = "list"/\∃xs,jV K H p xs)\/(T = "tuple"/\∃o,K.lookup p=some o/\o.cls=.type "tuple"/\o.dict=none) \/
   (T = "dict"/\((∃A6,H p=some (.dK A6))\/∃A6,H p=some (.dT A6)))\/(T = "set"/\∃S n,H p=some (.set S n))
 |_=>False
theorem Kl {H:Hp}{s:A1}{T:String}{x:V}{v:A3}(I:aD X A2 Y H s)(r:be x v)(ty:QY X.K T x H) :
  s.TypeIs v T/\∀a,v=.ref a->∃ob,s.heap.get? a=some ob/\ob.dict=none:=by
 cases x with
 |str z=>
  obtain⟨t,rfl⟩:=r;cases(show T = "str" from ty);exact{typeIs_str s z t,λ_ e=>nomatch e}
 |int i=>
  obtain⟨t,rfl⟩:=r;cases(show T = "int" from ty);exact{typeIs_int s i t,λ_ e=>nomatch e}
 |ref p=>
  cases r;rcases ty with⟨rfl,xs,hq⟩|⟨rfl,o,hk,hc,hd⟩|⟨rfl,hk⟩|⟨rfl,S,n,hk⟩
  ·let⟨its,_,pl,_⟩:=I.list hq
   refine{pl.isList.typeIs,λa e=>?_};cases e;let⟨o,n,e,c,hd,_⟩:=pl;exact{o,e,hd}
  ·refine{{o,I.kIn p o hk,hc},λa e=>?_}
   cases e;exact{o,I.kIn _ o hk,hd}
  ·have z:∃o,s.heap.get? p=some o/\o.ExactDict:=by
    rcases hk with⟨A6,hk⟩|⟨A6,hk⟩
    ·let⟨_,_,_,_,o,_,_,e,ex,_⟩:=I.hok p _ hk
     exact{o,e,ex}
    ·let⟨_,_,_,_,o,_,_,e,ex,_⟩:=I.hok p _ hk
     exact{o,e,ex}
   let⟨o,e,ex⟩:=z;refine{{o,e,ex.1},λa e2=>?_};cases e2;exact{o,e,ex.2.1}
  ·let⟨o,_,_,_,e,ex,_⟩:=I.hok p _ hk
   refine{{o,e,ex.1},λa e2=>?_};cases e2;exact{o,e,ex.2.1}
 |_=>exact False.elim ty
def Q0 (K:AP)(T:String)(r:V->T5 V->Hp->VK->Prop)(to:TE)(t:TA):TE:=λY H Q=>to Y H λx H1=>QY K T x H1/\t Y H1 λxs H2=>r x xs H2 Q
variable {o e:AR}{es:Tj}{to:TE}{t:TA}{name:Str}{apos AW:Pos}{T id:String}{r:V->T5 V->Hp->VK->Prop}
def JU (pa:PlainAttrs T)(slot:Slot T name id)(hty:typeOf (.builtin id)=pure (.type "method_descriptor"))(hm:Ub X id r)(ho:PE X o to)(ha:PA X (e::es) t)
  (Bb:attributeBase o name X.env (eval o X.env)=eval o X.env:=by rfl)
  (Fi:((backTo AW (starEach (e::es) X.env)).all (λx=>!x.1)&&(backToKw AW (keywordEach [] X.env)).all (λx=>x.1.isSome)
   && decide ((e::es).length+([]:T5 Keyword).length+(if ([]:T5 Keyword).isEmpty then 0 else 1)<30))=true:=by rfl)
  (BL:(apos.endLine == AW.line)=true:=by rfl) (hs:starEach (e::es) X.env=(false,eval e X.env)::starEach es X.env:=by rfl) (C7:(backTo AW (starEach es X.env)).any (·.1)=false:=by rfl) :
  PE X (.Call (.Attribute o name apos) (e::es) [] AW) (Q0 X.K T r to t):=by
 intro A2 s Y H Q I h;refine wpAny_Call_method_late Bb Fi BL rfl (da (ho A2 s Y H _ I h) λv s1 hh=>?_);let⟨x,H1,I1,r1,ty,q1⟩:=hh;let⟨h1,h2⟩:=Kl I1 r1 ty;refine{T,id,pa,slot,hty,h1,h2,?_};have hA:=ha AW A2 s1 Y H1 _ I1 q1;rw[hs] at hA ⊢;refine Calls.callWith_builtin (by show(false || (backTo AW (starEach es X.env)).any (·.1))=false;rw[C7] <;> rfl) (Calls.evalArgs_plain ?_);exact da hA λus s2 ⟨vs,H2,I2,r2,q2⟩=>hm A2 s2 Y H2 x vs v us Q I2 r1 r2 q2
end
def UA (X:Cx)(id:String)(r:V->T5 V->Hp->VK->Prop):Prop :=
 ∀(A2:Tc) (s:A1) (Y:St) (H:Hp) (x:V) (xs:T5 V) (v:A3) (us:Te) (Q:VK),aD X A2 Y H s->be x v->aR xs us->r x xs H Q ->
  wpAny (model X.prog X.w) X.A (call (.builtin id) (v::us)) (EP X A2 Y Q) X.xe s
def aR.one {x:V}{us:Te}(h:aR [x] us):∃u,us=[u]/\be x u:=by cases h with|cons r t=>cases t;exact{_,rfl,r}
section
variable {X:Cx}{A2:Tc}{Y:St}{H:Hp}{s:A1}{l:A4}{xs ys:T5 V}
def aD.lset {its its':Te}{n:Nat}{f:AD A3->Ti}{t':Nat}(I:aD X A2 Y H s)(hH:H l=some (.lst xs))
  (e:s.heap.get? l=some {cls:=.type "list",data:=.seq its.toArray n}) (hf:f its.toArray=its'.toArray) (hv:aR ys its') (hz:ys.length<=sizeLine) :
  aD X A2 Y (upd H l (.lst ys)) {s with heap:=s.heap.update l (Obj.mapSeq f),toks:=t'}:=by
 have q:=PySem.IsL.update e f;rw[hf] at q;refine I.write (x:=l) (e:=l) (by rw[hH];exact trivial) (.inl rfl) (λb' u hb hu=>(CV s.heap (Obj.mapSeq f) (Ne.symm hb)).trans hu) {_,q} ?_;exact{hz,its',_,hv,q}
def aD.lnew {its:Te}{t':Nat}(I:aD X A2 Y H s)(hv:aR ys its)(hz:ys.length<=sizeLine) :
  aD X A2 Y (upd H s.heap.objs.size (.lst ys)) {s with heap:=s.heap.push {cls:=.type "list",data:=.seq its.toArray},toks:=t'} :=
 I.laid (λ_ _ q=>AY _ q) (B3 _) {hz,its,0,hv,BI _ rfl}
def aD.fresh (I:aD X A2 Y H s):H s.heap.objs.size=none:=I.hok.fresh (B3 _)
def aD.lstM (I:aD X A2 Y H s)(hH:H l=some (.lst xs)):xs.length<=sizeLine/\∃(its:Te) (n:Nat),aR xs its/\xs.length=its.length/\s.heap.get? l=some {cls:=.type "list",data:=.seq its.toArray n}:=by obtain⟨z,its,n,r,e⟩:=I.hok l _ hH;exact{z,its,n,r,r.length,e}
end
section
variable {X:Cx}
def zA:V->T5 V->Hp->VK->Prop:=λx vs H Q=>∃l xs y,x=.ref l/\vs=[y]/\H l=some (.lst xs)/\xs.length<sizeLine/\Q .non (upd H l (.lst (xs++[y])))
def JAi:UA X "list.append" zA:=by intro A2 s Y H x vs v us Q I rx rv h;obtain⟨l,xs,y,rfl,rfl,hH,hz,q⟩:=h;cases rx;obtain⟨u,rfl,ru⟩:=rv.one;obtain⟨z,its,n,r,hl,e⟩:=I.lstM hH;refine call_meets F.slot_list_append {_,e,rfl} F.entry_list_append (F.args_list_append_2 _ _) (PySem.list_append l its.toArray n u (by rw[Bd];omega)) {e,?_};refine{.non,_,I.lset (its':=its++[u]) hH e ∅ (r.append (.cons ru .nil)) ?_,rfl,q};rw[Bp,List.length_singleton];omega
def Oy:R2:=λx y H Q=>∃l b xs zs,x=.ref l/\y=.ref b/\H l=some (.lst xs)/\H b=some (.lst zs)/\xs.length+zs.length<=sizeLine/\∀p,H p=none->Q (.ref p) (upd H p (.lst (xs++zs)))
def LY:kR X (binaryOp .Add) Oy:=by
 intro A2 s Y H x y v u Q I rx ry h;let⟨l,b,xs,zs,rfl,rfl,hH,hB,hz,q⟩:=h;cases rx;cases ry;let⟨z,its,n,r,hl,e⟩:=I.lstM hH;let⟨z2,DA,n2,r2,Hc,e2⟩:=I.lstM hB;refine PySem.P.add_list e e2 ?_ (by rw[Bd,Bd];omega);have ea:its.toArray++DA.toArray=(its++DA).toArray:=by simp
 rw[ea];exact{.ref _,_,I.lnew (t':=s.toks) (r.append r2) (by rw[Bp];omega),rfl,q _ I.fresh}
end
section
variable {κ:Type}[DecidableEq κ]
noncomputable def c9 (A6:T5 (κ×V))(k:κ):UE V:=(A6.find? λkv=>decide (kv.1=k)).map (·.2)
noncomputable def eF (A6:T5 (κ×V))(k:κ)(v:V):T5 (κ×V) :=
 if (A6.any λkv=>decide (kv.1=k))=true then A6.map (λkv=>if kv.1=k then (kv.1,v) else kv) else A6++[(k,v)]
def mz {p:κ×V}{r:T5 (κ×V)}{k:κ}(e:p.1=k):c9 (p::r) k=some p.2:=by simp[c9,zcb,e]
def iZ {p:κ×V}{r:T5 (κ×V)}{k:κ}(e:¬ p.1=k):c9 (p::r) k=c9 r k:=by simp[c9,zcb,e]
theorem pI (k:κ):∀A6:T5 (κ×V),(A6.any λkv=>decide (kv.1=k))=(c9 A6 k).isSome
 |[]=>rfl
 |p::r=>by
  rw[GB];by_cases e:p.1=k
  ·rwa[mz e,Bs e,Bool.true_or,zcB]
  ·rw[iZ e,Bf e,Bool.false_or];exact pI k r
def kA (A6:T5 (κ×V))(k:κ)(v:V):(eF A6 k v).length<=A6.length+1:=by
 unfold eF;split
 ·rw[Az];omega
 ·rw[Bp,C0,Gy];omega
def Do {A6:T5 (κ×V)}{k:κ}(v:V)(h:c9 A6 k=none):eF A6 k v=A6++[(k,v)]:=by unfold eF;rw[pI,h];exact A5 ∅
theorem lG.isSome_eq {o:UE V}{u:Tg}(r:lG o u):o.isSome=u.isSome:=by
 cases o with
 |none=>cases u with
  |none=>rfl
  |some _=>exact(show False from r).elim
 |some _=>cases u with
  |none=>exact(show False from r).elim
  |some _=>rfl
theorem KV.val {A6:T5 (κ×V)}{vs:T5 (κ×A3)}(r:KV A6 vs)(k:κ):lG (c9 A6 k) (valueAt vs k):=by
 unfold KV at r;induction r with
 |nil=>exact True.intro
 | @cons p q ps qs h t ih=>
  let⟨h1,h2⟩:=h;by_cases e:p.1=k
  ·have e':q.1=k:=h1.symm.trans e;have b:valueAt (q::qs) k=some q.2:=(by simp[valueAt,zcb,e']);rw[mz e,b];exact h2
  ·have e':¬ q.1=k:=λz=>e (h1.trans z);have b:valueAt (q::qs) k=valueAt qs k:=(by simp[valueAt,zcb,e']);rw[iZ e,b];exact ih
theorem KV.any {A6:T5 (κ×V)}{vs:T5 (κ×A3)}(r:KV A6 vs)(k:κ):(A6.any λkv=>decide (kv.1=k))=vs.any λkv=>decide (kv.1=k):=by
 unfold KV at r;induction r with
 |nil=>rfl
 |cons h t ih=>rw[GB,GB,ih,h.1]
theorem KV.repl {A6:T5 (κ×V)}{vs:T5 (κ×A3)}(r:KV A6 vs)(k:κ){y:V}{u:A3}(ry:be y u) :
  KV (A6.map λkv=>if kv.1=k then (kv.1,y) else kv) (vs.map λkv=>if kv.1=k then (kv.1,u) else kv):=by
 unfold KV at r ⊢
 induction r with
 |nil=>exact .nil
 | @cons p q ps qs h t ih=>
  rw[AZ,AZ];refine .cons ?_ ih;let⟨h1,h2⟩:=h
  by_cases e:p.1=k
  ·rw[A7 e,A7 (h1.symm.trans e)];exact{h1,ry}
  ·rw[A5 e,A5 (λz=>e (h1.trans z))];exact{h1,h2}
def KV.put {A6:T5 (κ×V)}{vs:T5 (κ×A3)}(r:KV A6 vs)(k:κ){y:V}{u:A3}(ry:be y u):KV (eF A6 k y) (stored vs k u):=by
 unfold eF stored;rw[r.any k];by_cases e:(vs.any λkv=>decide (kv.1=k))=true
 ·rw[A7 e,A7 e];exact r.repl k ry
 ·rw[A5 e,A5 e];exact Paired.snoc r {rfl,ry}
def KV.length {A6:T5 (κ×V)}{vs:T5 (κ×A3)}(r:KV A6 vs):A6.length=vs.length:=Paired.length r
end
theorem wp {k:aI}{u:A3}(r:be (kV k) u):(bB P w).is k u=true:=by
 cases k with
 |inl i=>let⟨t,e⟩:=(show ∃t,u=Value.int i t from r);subst e;exact v4 P w i t
 |inr o=>cases o with
  |some x=>let⟨t,e⟩:=(show ∃t,u=Value.str x t from r);subst e;exact v3 P w x t
  |none=>have e:u=Value.none:=r;subst e;exact JBp
theorem sK :∀{ks:T5 aI} {us:Te},aR (ks.map kV) us->ItemsAre (bB P w) ks us
 |[],_,r=>by rw[CS] at r;cases r;exact .nil
 |k::ks,_,r=>by
  rw[AZ] at r
  cases r with
  |cons h t=>exact .cons (wp h) (sK t)
abbrev KT (H:Hp):T5 (T5 aI×V)->T5 (T5 aI×A4×A3)->Prop:=Paired λp q=>p.1=q.1/\H q.2.1=some (.tup (p.1.map kV))/\be p.2 q.2.2
theorem KT.val {H:Hp}{A6:T5 (T5 aI×V)}{xs:T5 (T5 aI×A4×A3)}(r:KT H A6 xs)(k:T5 aI):lG (c9 A6 k) ((atKey xs k).map (·.2)):=by
 induction r with
 |nil=>exact True.intro
 | @cons p q ps qs h t ih=>
  let⟨h1,_,h2⟩:=h;by_cases e:p.1=k
  ·have e':q.1=k:=h1.symm.trans e;have b:atKey (q::qs) k=some q.2:=(by simp[atKey,zcb,e']);rw[mz e,b];exact h2
  ·have e':¬ q.1=k:=λz=>e (h1.trans z);have b:atKey (q::qs) k=atKey qs k:=(by simp[atKey,zcb,e']);rw[iZ e,b];exact ih
theorem KT.repl {H:Hp}{A6:T5 (T5 aI×V)}{xs:T5 (T5 aI×A4×A3)}(r:KT H A6 xs)(k:T5 aI){y:V}{u:A3}(ry:be y u) :
  KT H (A6.map λkv=>if kv.1=k then (kv.1,y) else kv) (xs.map (putAt k u)):=by
 induction r with
 |nil=>exact .nil
 | @cons p q ps qs h t ih=>
  rw[AZ,AZ];refine .cons ?_ ih;let⟨h1,h2,h3⟩:=h;unfold putAt
  by_cases e:p.1=k
  ·rw[A7 e,A7 (h1.symm.trans e)];exact{h1,h2,ry}
  ·rw[A5 e,A5 (λz=>e (h1.trans z))];exact{h1,h2,h3}
def KT.put {H:Hp}{A6:T5 (T5 aI×V)}{xs:T5 (T5 aI×A4×A3)}(r:KT H A6 xs)(k:T5 aI){b:A4}{y:V}{u:A3}(hb:H b=some (.tup (k.map kV)))(ry:be y u) :
  KT H (eF A6 k y) (storedH xs k b u):=by
 have e:(A6.any λkv=>decide (kv.1=k))=(atKey xs k).isSome:=by
  rw[pI,(r.val k).isSome_eq,Option.isSome_map]
 unfold eF storedH;rw[e]
 by_cases q:(atKey xs k).isSome=true
 ·rw[A7 q,A7 q];exact r.repl k ry
 ·rw[A5 q,A5 q];exact Paired.snoc r {rfl,hb,ry}
def KT.keeps {H H':Hp}{A6:T5 (T5 aI×V)}{xs:T5 (T5 aI×A4×A3)}(r:KT H A6 xs)(ht:∀b ys,H b=some (.tup ys)->H' b=some (.tup ys)):KT H' A6 xs :=
 Paired.mapP r λ_ _ z=>{z.1,ht _ _ z.2.1,z.2.2}
section
variable {P:A9}{w:AM}{H:Hp}{h:AI}{a:A4}
def JD {u:HO}(ok:jg P w H h)(e:Rd H a u):bo P w H h a u:=e.ok ok
def wQ {A6:T5 (aI×V)}(ok:jg P w H h)(e:Rd H a (.dK A6)):A6.length<=sizeLine/\(a == sysModules)=false/\∃vs,KV A6 vs/\h.DictOf (bB P w) a vs :=
 show bo P w H h a (.dK A6) from JD ok e
def PN {A6:T5 (aI×V)}(ok:jg P w H h)(e:H a=some (.dK A6)):A6.length<=sizeLine/\(a == sysModules)=false/\∃vs,KV A6 vs/\h.DictOf (bB P w) a vs:=wQ ok (.inl e)
def lY {ks:T5 aI}(ok:jg P w H h)(e:H a=some (.tup (ks.map kV))):(tupleKind (bB P w)).is h ks a:=by let⟨_,its,r,⟨o,h1,h2,n,h3⟩,_⟩:=(show bo P w H h a (.tup (ks.map kV)) from ok a _ e);exact{o,its.toArray,n,h1,h2,h3,by simpa using sK r}
def wP {A6:T5 (T5 aI×V)}(ok:jg P w H h)(e:Rd H a (.dT A6)):A6.length<=sizeLine/\(a == sysModules)=false /\
  ∃xs,KT H A6 xs/\h.DictOfH (tupleKind (bB P w)) a xs:=by
 let⟨z,y,xs,r,o,es,ep,h1,h2,h3,h4,h5⟩:=(show bo P w H h a (.dT A6) from JD ok e);refine{z,y,xs,r,o,es,ep,h1,h2,h3,h4,λx hx=>?_,h5}
 have all:∀{l:T5 (T5 aI×V)} {m:T5 (T5 aI×A4×A3)},KT H l m->∀x∈m,(tupleKind (bB P w)).is h x.1 x.2.1:=by
  intro l m q
  induction q with
  |nil=>intro x hx;exact nomatch hx
  | @cons p q ps qs hq t ih=>
   intro x hx;rcases BA.mp hx with e|hx
   ·subst e
    exact lY ok (by rw[←hq.1];exact hq.2.1)
   ·exact ih x hx
 exact all r x hx
def Al {A6:T5 (T5 aI×V)}(ok:jg P w H h)(e:H a=some (.dT A6)):A6.length<=sizeLine/\(a == sysModules)=false /\
  ∃xs,KT H A6 xs/\h.DictOfH (tupleKind (bB P w)) a xs:=wP ok (.inl e)
end
def IF (H:Hp)(a:A4)(y:V)(r:UE V):Prop :=
 (∃A6 k,Rd H a (.dK A6)/\y=kV k/\r=c9 A6 k)\/∃A6 k b,Rd H a (.dT A6)/\y=.ref b/\H b=some (.tup (k.map kV))/\r=c9 A6 k
def yV (H:Hp)(a:A4)(y v:V)(H':Hp):Prop :=
 (∃A6 k,H a=some (.dK A6)/\y=kV k/\A6.length<sizeLine/\H'=upd H a (.dK (eF A6 k v))) \/
 ∃A6 k b,H a=some (.dT A6)/\y=.ref b/\H b=some (.tup (k.map kV))/\A6.length<sizeLine/\H'=upd H a (.dT (eF A6 k v))
def yV.k {H:Hp}{a:A4}{A6:T5 (aI×V)}{k:aI}{v:V}(e:H a=some (.dK A6))(hl:A6.length<sizeLine):yV H a (kV k) v (upd H a (.dK (eF A6 k v))):=.inl {A6,k,e,rfl,hl,rfl}
def yV.t {H:Hp}{a b:A4}{A6:T5 (T5 aI×V)}{k:T5 aI}{v:V}(e:H a=some (.dT A6))(eb:H b=some (.tup (k.map kV)))(hl:A6.length<sizeLine) :
  yV H a (.ref b) v (upd H a (.dT (eF A6 k v))):=.inr {A6,k,b,e,rfl,eb,hl,rfl}
section
variable {X:Cx}{A2:Tc}{Y:St}{H:Hp}{s:A1}{a:A4}{y v:V}{u r:A3}{o:UE V}{A:AL}{E:Tb}
def aD.big (I:aD X A2 Y H s):sysModules<s.heap.objs.size:=by have h:mainGlobals<s.heap.objs.size:=(I.mod.glob.keeps I.bk).lt;exact HG ∅ h
def JBa {Q:Tb}(hu:A.units+1<cLine)(I:aD X A2 Y H s)(g:IF H a y (some v))(ry:be y u)(h:∀w' s',aD X A2 Y H s'->be v w'->Q w' s') :
  wpAny (model X.prog X.w) A (getItem (.ref a) u) Q E s:=by
 rcases g with⟨A6,k,e,ey,l⟩|⟨A6,k,b,e,ey,eb,l⟩
 ·subst ey
  let⟨z,hd,vs,rel,dd⟩:=wQ I.hok e;let⟨w',hw,Dx⟩:=lG.some_of (v:=v) (o:=valueAt vs k) (by rw[l];exact rel.val k);exact wpAny_getItem_of (wp ry) dd.mapOf hw (h w' _ (I.tok _) Dx)
 ·subst ey
  cases(show u=Value.ref b from ry);let⟨z,hd,xs,rel,dd⟩:=wP I.hok e;let⟨w',hw,Dx⟩:=lG.some_of (v:=v) (o:=(atKey xs k).map (·.2)) (by rw[l];exact rel.val k);let⟨p,hp,hp2⟩:=DY.mp hw;refine wpAny_getItem_heap (tupleKind_room_in1 hu) (lY I.hok eb) dd hp ?_;rw[hp2];exact h w' _ (I.tok _) Dx
def So {Q:Tb}(hu:A.units+1<cLine)(I:aD X A2 Y H s)(g:IF H a y o)(ry:be y u)(h:∀s',aD X A2 Y H s'->Q (.bool o.isSome) s') :
  wpAny (model X.prog X.w) A (compareOp .In u (.ref a)) Q E s:=by
 rcases g with⟨A6,k,e,ey,l⟩|⟨A6,k,b,e,ey,eb,l⟩
 ·subst ey
  let⟨z,hd,vs,rel,dd⟩:=wQ I.hok e;refine wpAny_in_of (wp ry) hd dd.mapOf ?_;rw[←(rel.val k).isSome_eq,←l];exact h _ (I.tok _)
 ·subst ey
  cases(show u=Value.ref b from ry);let⟨z,hd,xs,rel,dd⟩:=wP I.hok e;refine wpAny_in_heap (tupleKind_room_in1 hu) (lY I.hok eb) hd dd ?_;have q:=(rel.val k).isSome_eq;rw[Option.isSome_map] at q;rw[←q,←l];exact h _ (I.tok _)
def pB {h':AI}{t':Nat}{ob:HO}(I:aD X A2 Y H s)(mu:PZ (H a))(hs:Heap.SameBut a s.heap h')(he:∃q,h'.get? a=some q)(new:bo X.prog X.w (upd H a ob) h' a ob) :
  aD X A2 Y (upd H a ob) {s with heap:=h',toks:=t'} :=
 I.write (x:=a) (e:=a) mu (.inl rfl) (λb q hb z=>(hs.2 b hb).trans z) he new
def MU {H':Hp}{h':AI}{A6:T5 (aI×V)}{vs:T5 (aI×A3)}(z:A6.length<=sizeLine)(hd:(a == sysModules)=false)(rel:KV A6 vs)(dd:h'.DictOf (bB P w) a vs) :
  bo P w H' h' a (.dK A6):={z,hd,vs,rel,dd}
def s9 {H':Hp}{Q:Unit->A1->Prop}(hu:A.units+1<cLine)(I:aD X A2 Y H s)(g:yV H a y v H')(ry:be y u)(rv:be v r)(h:∀s',aD X A2 Y H' s'->Q () s') :
  wpAny (model X.prog X.w) A (setItem (.ref a) u r) Q E s:=by
 rcases g with⟨A6,k,e,ey,l,eH⟩|⟨A6,k,b,e,ey,eb,l,eH⟩
 ·subst ey eH
  let⟨z,hd,vs,rel,dd⟩:=PN I.hok e
  have hz:vs.length<=sizeLine:=by rw[←rel.length];exact z
  have hl:(eF A6 k v).length<=sizeLine:=by have:=kA A6 k v;omega
  refine wpAny_setItem_pairs (hsz:=hz) (wp ry) dd λh' Hi hs=>h _ ?_;have he:∃q,h'.get? a=some q:=let ⟨q,_,_,hq,_⟩:=Hi;{q,hq};exact pB I (by rw[e];exact True.intro) hs he (MU hl hd (rel.put k rv) Hi)
 ·subst ey eH
  cases(show u=Value.ref b from ry);let⟨z,hd,xs,rel,dd⟩:=Al I.hok e
  have hz:xs.length<=sizeLine:=by rw[←Paired.length rel];exact z
  have hl:(eF A6 k v).length<=sizeLine:=by have:=kA A6 k v;omega
  refine wpAny_setItem_heap (hsz:=hz) (tupleKind_room_in1 hu) (lY I.hok eb) dd λh' Hi hs=>h _ ?_;let⟨q,es,ep,hq,h2,h3,h4,_,h5⟩:=Hi;refine pB I (by rw[e];exact True.intro) hs {q,hq} {hl,hd,_,(rel.put k eb rv).keeps λc ys ec=>?_,q,es,ep,hq,h2,h3,h4,h5};rw[aB (DW ec e (λz=>nomatch z))];exact ec
end
def Iz (i:AR):Prop:=∀ov iv,subscripted i false ov iv=operate [ov,iv] (getItem ov iv)
def JEl {prog:A9}{w:AM}{A:AL}{E:Tb}{s:A1}{env:Env}{value slice:AR}{pos:Pos}{T id:String}{Q:Tb}
  (hl:typeLookup (.type T) "__getitem__" = pure (some (.builtin id))) (hs:Iz slice)
  (h:wpAny (model prog w) A (eval value env) (λo s₁=>wpAny (model prog w) A (eval slice env) (λi s₂=>s₂.TypeIs o T/\wpAny (model prog w) A (getItem o i) Q E s₂) E s₁) E s) :
  wpAny (model prog w) A (eval (.Subscript value slice pos) env) Q E s:=by
 refine Subscript_ (Dt h (λo s₁ h₁=>Dt h₁ (λi s₂ h₂=>?_) λ_ _ x=>x) λ_ _ x=>x);let⟨hT,h₂⟩:=h₂;unfold subscriptTail;refine AB ?_;rw[getitemInPython_of_ne hT.not_modules];refine AB (zcy hT hl ?_)
 have fin:wpAny (model prog w) A (subscripted slice false o i) (λr s₃=>wpAny (model prog w) A (letTemporaryGo value o r >>=λ_=>pure r) Q E s₃) E s₂:=by
  rw[hs o i];exact wpAny_operating (Dt h₂ (λr s₃ h₃=>AB (wpAny_letTemporaryGo (AN h₃))) λ_ _ x=>x)
 first
  |exact AN (AB fin)
  |exact AB (AN (AB fin))
  |exact AB fin
def wS {H:Hp}{s:A1}{a:A4}{y:V}{o:UE V}(I:aD X A2 Y H s)(g:IF H a y o):s.TypeIs (.ref a) "dict":=by
 rcases g with⟨A6,k,e,_,_⟩|⟨A6,k,b,e,_,_,_⟩
 ·let⟨_,_,vs,_,dd⟩:=wQ I.hok e;exact dd.typeIs
 ·let⟨_,_,xs,_,dd⟩:=wP I.hok e;exact dd.typeIs
def Cq (td ty:TE):TE:=λY H Q=>td Y H λx H1=>ty Y H1 λy H2=>∃a v,x=.ref a/\IF H2 a y (some v)/\Q v H2
section
variable {X:Cx}{o i:AR}{pos:Pos}{td ty:TE}
def zJ (hu:X.A.units+1<cLine)(ho:PE X o td)(hi:PE X i ty)(hs:Iz i):PE X (.Subscript o i pos) (Cq td ty):=by intro A2 s Y H Q I h;refine JEl PySem.F.slot_dict_getitem.lookup hs (da (ho A2 s Y H _ I h) λu s1 hh=>?_);let⟨x,H1,I1,rx,q1⟩:=hh;refine da (hi A2 s1 Y H1 _ I1 q1) λiv s2 hh=>?_;let⟨y,H2,I2,ry,a,v,ex,g,q2⟩:=hh;subst ex;obtain rfl:u=Value.ref a:=rx;exact{wS I2 g,JBa hu I2 g ry λw' s3 I3 Dx=>{v,H2,I3,Dx,q2}}
end
def JDu {H:Hp}(h:AI)(hb:sysModules<h.objs.size):bo P w H (h.push {cls:=.type "dict",data:=.dict #[]}) h.objs.size (.dT []) :=
 {Cy _,beq_eq_false_iff_ne.mpr (Ne.symm (BG hb)),[],.nil,_,#[],0,BI _ rfl,{rfl,rfl,rfl},rfl,rfl,zcE}
def xE:TE:=λ_ H Q=>∀p,H p=none->Q (.ref p) (upd H p (.dT []))
section
variable {X:Cx}{pos:Pos}
def vU:PE X (.Dict [] [] pos) xE:=λA2 s Y H Q I h=>
 wpAny_Dict_empty {.ref s.heap.objs.size,_,I.laid (a:=s.heap.objs.size) (o:=.dT []) (t':=s.toks) (λ_ _ q=>AY _ q) (B3 _) (JDu s.heap I.big),rfl,h _ (I.hok.fresh (B3 _))}
end
structure M1 (X:Cx)(o:Expr)(m:Str)(apos:Pos)(e:Expr)(AW:Pos):Prop where
 base:attributeBase o m X.env (eval o X.env)=eval o X.env
 few:((backTo AW (starEach [e] X.env)).all (λx=>!x.1)&&(backToKw AW (keywordEach [] X.env)).all (λx=>x.1.isSome)
  && decide (([e]:Tj).length+([]:List Keyword).length+(if ([]:List Keyword).isEmpty then 0 else 1)<30))=true
 line:(apos.endLine == AW.line)=true
 trees:backTo AW (starEach [e] X.env)=[(false,eval e X.env)]
structure M2 (X:Cx)(o:Expr)(m:Str)(apos:Pos)(e f:Expr)(AW:Pos):Prop where
 base:attributeBase o m X.env (eval o X.env)=eval o X.env
 few:((backTo AW (starEach [e,f] X.env)).all (λx=>!x.1)&&(backToKw AW (keywordEach [] X.env)).all (λx=>x.1.isSome)
  && decide (([e,f]:Tj).length+([]:List Keyword).length+(if ([]:List Keyword).isEmpty then 0 else 1)<30))=true
 line:(apos.endLine == AW.line)=true
 trees:backTo AW (starEach [e,f] X.env)=[(false,eval e X.env),(false,eval f X.env)]
def SG (H:Hp)(a:A4):Prop:=(∃A6,Rd H a (.dK A6))\/∃A6,Rd H a (.dT A6)
def uA {H:Hp}{s:A1}{a:A4}(I:aD X A2 Y H s)(d:SG H a) :
  s.TypeIs (.ref a) "dict"/\(∀b,Value.ref a=.ref b->∃ob,s.heap.get? b=some ob/\ob.dict=none)/\(a == sysModules)=false:=by
 rcases d with⟨A6,e⟩|⟨A6,e⟩
 ·let⟨_,hd,vs,_,dd⟩:=wQ I.hok e
  refine{dd.typeIs,λb q=>?_,hd};cases q;let⟨ob,_,_,h1,h2,_⟩:=dd;exact{ob,h1,h2.2.1}
 ·let⟨_,hd,xs,_,dd⟩:=wP I.hok e
  refine{dd.typeIs,λb q=>?_,hd};cases q;let⟨ob,_,_,h1,h2,_⟩:=dd;exact{ob,h1,h2.2.1}
end L2
namespace Att
open PySem.W PySem.Calls PyProof.Rows
theorem oW {P:Params}{h:AI}:∀(ns:Th) (vs:Te),WellAll P h vs (ns.map WData.int)->IntsAre vs ns:=by
 intro ns;induction ns with
 |nil=>
  intro vs w;rw[CS] at w;cases w;exact .nil
 |cons n ns ih=>
  intro vs w;rw[AZ] at w
  cases w with
  |cons a b=>
   cases a;exact .cons _ _ (ih _ b)
theorem JAq {l:OpenLaw}{n:Nat}(hn:l.most=some n){P:Params}{h:AI}{args:T5 WData}{vals:Te}
  (Gd:l.row.toRowW.claim.pre args=true) (Hq:WellAll P h vals args) :
  ∃a vs ns,vals=[Value.ref a]/\args=[WData.list (ns.map WData.int)]/\h.get? a=some {cls:=.type "list",data:=.seq vs.toArray}/\IntsAre vs ns/\ns.length<=n:=by
 have CZ:WShape.hasAll [] args [.list .int]=true:=(pre_splitW Gd).1;have hc:l.pre.holds [] {args:=args}=true:=(pre_splitW Gd).2;let⟨d,r,rfl,h1,h2⟩:=hasAllW_cons CZ;obtain rfl:=hasAllW_nil h2;let⟨xs,rfl,h3⟩:=hasW_list h1;let⟨ns,rfl⟩:=items_int h3
 have hlen:ns.length<=n:=by
  unfold OpenLaw.pre at hc
  have h4:(WTm.not (.lt (.lit (.int (n:Int))) (.len (.arg 0)))).holds [] {args:=[.list (ns.map .int)]}=true:=by
   have h4:=(holds_andW hc).1;rw[hn] at h4;exact h4
  have h5:=condW_of h4 (w_not (w_lt w_lit (w_len_list (w_arg rfl))));rw[Az] at h5;refine Nat.le_of_not_lt λq=>?_
  have q':(n:Int)<((ns.length:Nat):Int):=by omega
  first
   |(rw[Bs q'] at h5;exact AJ h5 ∅)
   |(simp at h5;omega)
 cases Hq with
 |cons w1 w2=>
  cases w2
  cases w1 with
  |list ho CM=>exact{_,_,ns,rfl,rfl,ho,oW ns _ CM,hlen}
def JAy (l:OpenLaw)(args:T5 WData):l.row.toRowW.claim.post args (.bool true) args=true :=
 postW_of (r:=l.row.toRowW) (X:=(true == true))
  (show WShape.has [] (.bool true) .bool=true by first|rfl|decide|simp[WShape.has,WShape.arms,WShape.armsAll])
  (show(WTm.eq .res (.lit (.bool true))).value [] {args:=args,res:=some (.bool true),after:=args}=some (.bool (true == true)) from w_eq_bool (w_res rfl) w_lit) rfl
def attach_call {l:OpenLaw}{n:Nat}{q:A9}{loose:Tn}{XP:(Td)->AI->Prop}{YP:AM->AI->Prop}{d:DefRec}
  (hn:l.most=some n) (hdf:d.params.defaults=[])
  (call:∀(w:AM) (s₀ s₁:A1) (mg mb:Td) (fa:A4) (o:B0) (pm cd doc:A3) (a:A4) (vs:Te) (ns:Th),
   Ground q loose [] XP w s₀ mg mb s₁.heap->YP w s₁.heap ->
   s₁.heap.get? fa=some o->o.data=.func (docDef d.name d.params d.body d.scope pm cd doc)->s₁.heap.CodeRec cd d.name->mg d.name=some (.ref fa) ->
   s₁.heap.get? a=some {cls:=.type "list",data:=.seq vs.toArray}->IntsAre vs ns->ns.length<=n->s₁.gens = #[] ->
   codeAny (model l.prog w) callerA (.call (.ref fa) {[.ref a],[]}) (λr s'=>r=.ok (.ret (.bool true))/\OldK s₁.heap s'.heap/\s'.os=s₁.os/\AllBare s'.gens) s₁) :
  WalkO q loose XP YP l.row.toRowW d [] (λf vs=>PySem.call f vs):=by
 intro w s₀ s₁ mg mb G Yz fa o pm cd doc dV kV ho hd Eg hD hmg hg args vals as Gd hlay hrd Hq hlo;obtain rfl:dV=.none:=Dflts.none hD hdf;obtain rfl:kV=.none:=Dflts.noKw hD;let⟨a,vs,ns,rfl,rfl,Io,hints,hlen⟩:=JAq hn Gd Hq;refine enter_call (G8 (call w s₀ s₁ mg mb fa o pm cd doc a vs ns G Yz ho (fd_plain hd) Eg hmg Io hints hlen hg) λr s' hq=>?_);let⟨rfl,h2,h3,h4⟩:=hq;exact{.inl {.bool true,.bool true,[],rfl,λ_=>rfl,.bool true,JAy l _,λ_=>{List.Pairwise.nil,λ_ hm=>(nomatch hm)}},h2,h3,h4}
end Att
namespace L2
open PyProof.Rows
theorem c7:∀{vs:Te} {ns:Th},IntsAre vs ns->aR (ns.map V.int) vs
 |_,_,.nil=>.nil
 |_,_,.cons n t h=>.cons {t,rfl} (c7 h)
def Fy (H:Hp):Prop:=∀b,H b=none\/∃o xs,H b=some (.frz o (.lst xs))
theorem JCx {P:A9}{w:AM}{K:AP}{mg mb:Td}{CX:Aw}{k:Nat}{fa a:A4}{fd:FuncData}{x:Str}{sp:Sp}{s₁:A1}{vs:Te}{ns:Th}
  (KX:K.In s₁.heap) (hns:s₁.heap.Ns mainGlobals mg) (hb:s₁.heap.Ns builtinsNs mb) (hbb:∀x:Str,x≠"__name__"->mb x=bootBuiltins x) (hlim:s₁.heap.NoLimit) (hg:s₁.gens = #[])
  (ha:s₁.heap.get? a=some {cls:=.type "list",data:=.seq vs.toArray}) (hi:IntsAre vs ns) (hl:ns.length<=sizeLine) (hr:bK k callerA)
  (F:∀base:AI,K.In base->base.Ns mainGlobals mg->cC P w K mg base CX k fa fd [x] sp) (hbind:∀(s:A1) (u:A3),BindsTo s fd {[u],[]} [(x,u)])
  (Ew:∀H:Hp,Fy H->jV K H a (ns.map V.int)->sp [.ref a] H (λv _=>v=.bl true) λ_ _ _=>False)
  (hCX:∀H e s',CX [] H s₁ (λ_ _ _=>False) e s'->False) :
  codeAny (model P w) callerA (.call (.ref fa) {[.ref a],[]}) (λr s'=>r=.ok (.ret (.bool true))/\OldK s₁.heap s'.heap/\s'.os=s₁.os/\AllBare s'.gens) s₁:=by
 have rv:=c7 hi;have lenV:=hi.length
 have core:∀H:Hp,Fy H->jV K H a (ns.map V.int)->jg P w H s₁.heap->(∀b,H b≠none->b=a)->(H a≠none->K.lookup a=none) ->
   codeAny (model P w) callerA (.call (.ref fa) {[.ref a],[]}) (λr s'=>r=.ok (.ret (.bool true))/\OldK s₁.heap s'.heap/\s'.os=s₁.os/\AllBare s'.gens) s₁:=by
  intro H E5 hS hok hA hK;have base_of:∀{b:A4} {o:B0},s₁.heap.get? b=some o->H b=none->(uC s₁.heap H).get? b=some o:=λe n=>JEb e n
  have noA:∀{b:A4} {o:B0} {es:AD DictEntry} {ep:Nat},s₁.heap.get? b=some o->o.data=.dict es ep->H b=none:=λ{b o es ep} e d=>by
   cases q:H b with
   |none=>rfl
   |some u=>
    have e':b=a:=hA b (by rw[q];simp);subst e';rw[ha] at e;cases e;have d':Data.seq vs.toArray _=Data.dict es ep:=d;cases d'
  have nsK:∀{b:A4} {m:Td},s₁.heap.Ns b m->(uC s₁.heap H).Ns b m:=λ{b m} ⟨o,es,ep,e,d,r⟩=>{o,es,ep,base_of e (noA e d),d,r}
  have hKb:K.In (uC s₁.heap H):=λb o e=>base_of (KX b o e) (by
   cases q:H b with
   |none=>rfl
   |some u=>
    have e':b=a:=hA b (by rw[q];simp);subst e'
    rw[hK (by rw[q];simp)] at e;cases e)
  have hM:Mod K mg (uC s₁.heap H):={hKb,nsK hns,{mb,nsK hb,hbb},let ⟨mc,h1,h2⟩:=hlim;{mc,nsK h1,h2}};have e0:yU P w K mg (uC s₁.heap H) callerA [] s₁ H:={rfl,hM,λb o e=>JGt e,Nat.le_of_eq (JBv _ _),trivial,λb hb=>AJ (show b∈([]:Tf) from hb) ∅,hok,.of_eq hg};refine G8 ((F _ hKb (nsK hns)).run callerA [] s₁ H {[.ref a],[]} [.ref a] [.ref a] _ _ hr e0 (hbind s₁ (.ref a)) (.cons rfl .nil) (Ew H E5 hS)) λr s' h=>?_
  cases r with
  |error e=>exact(hCX H e s' h).elim
  |ok fl=>
   cases fl with
   |next=>exact False.elim h
   |brk=>exact False.elim h
   |cont=>exact False.elim h
   |ret u=>
    let⟨v,H',os,bare,un,hok',r',q⟩:=h;have q':v=.bl true:=q;subst q';obtain rfl:u=Value.bool true:=r';refine{rfl,OldK.of_keep λb o e=>?_,os,bare}
    cases q:H b with
    |none=>exact un.keep b o e q (by intro z;exact AJ (show b∈([]:Tf) from z) ∅) ∅
    |some u=>
     rcases E5 b with z|⟨ob,xs,z⟩
     ·rw[q] at z;cases z
     ·have z2:=un.frzs b ob _ z
      let⟨e1,_⟩:=hok b _ z;let⟨e2,_⟩:=hok' b _ z2;rw[e] at e1;cases e1;exact e2
 cases hk:K.lookup a with
 |some o=>
  have e:=KX a o hk;rw[ha] at e;cases e;refine core (λ_=>none) (λ_=>.inl rfl) (.inr {_,vs.toArray,_,hk,rfl,{rfl,rfl},rfl,by rw[Bd,lenV];exact hl,by simpa using rv}) (λb u z=>by have z':(none:UE HO)=some u:=z;cases z') (λb z=>AJ rfl z) λz=>AJ rfl z
 |none=>
  refine core (λb=>if b=a then some (.frz {cls:=.type "list",data:=.seq vs.toArray} (.lst (ns.map V.int))) else none) (λb=>?_) (.inl (.inr {{cls:=.type "list",data:=.seq vs.toArray},A7 rfl})) (λb u z=>?_) (λb z=>?_) λ_=>hk
  ·by_cases hb:b=a
   ·exact .inr {_,_,A7 hb}
   ·exact .inl (A5 hb)
  ·by_cases hb:b=a
   ·have z':=(A7 hb).symm.trans z
    cases z';subst hb;exact{ha,by rw[Az];exact hl,vs,_,rv,ha}
   ·have z':=(A5 hb).symm.trans z
    cases z'
  ·by_cases hb:b=a
   ·exact hb
   ·exact AJ (A5 hb) z
def JEo {l:PySem.W.OpenLaw}{n k:Nat}{q:A9}{loose:Tn}{XP:(Td)->AI->Prop}{YP:AM->AI->Prop}{d:DefRec}{K:Params->AP}{CX:AM->Aw}{sp:AM->Sp}{x:Str}
  (hn:l.most=some n) (hn2:n<=sizeLine) (hdf:d.params.defaults=[]) (hr:bK k callerA)
  (hY:∀(w:AM) (h:AI),YP w h->(K w.params).In h)
  (F:∀(w:AM) (mg:Td) (fa:A4) (h:AI),(K w.params).In h->h.Ns mainGlobals mg->mg d.name=some (.ref fa) ->
   ∃fd:FuncData,(∀(s:A1) (u:A3),BindsTo s fd {[u],[]} [(x,u)]) /\
    ∀base:AI,(K w.params).In base->base.Ns mainGlobals mg->cC l.prog w (K w.params) mg base (CX w) k fa fd [x] (sp w))
  (Ew:∀(w:AM) (H:Hp) (a:A4) (ns:Th),ns.length<=n->Fy H->jV (K w.params) H a (ns.map V.int)->sp w [.ref a] H (λv _=>v=.bl true) λ_ _ _=>False)
  (hCX:∀(w:AM) (H:Hp) (s:A1) (e:A3) (s':A1),CX w [] H s (λ_ _ _=>False) e s'->False) :
  PySem.W.WalkO q loose XP YP l.row.toRowW d [] (λf vs=>PySem.call f vs):=by
 refine Att.attach_call hn hdf λw s₀ s₁ mg mb fa o pm cd doc a vs ns G Yz ho hd Eg hmg Io hints hlen hg=>?_;have KX:=hY w _ Yz;let⟨fd,hb,hF⟩:=F w mg fa _ KX G.T.g hmg;exact JCx KX G.T.g G.T.b G.T.builtins G.T.nolimit hg Io hints (DL hlen hn2) hr hF hb (λH E5 hS=>Ew w H a ns hlen E5 hS) λH e s'=>hCX w H s₁ e s'
def BY {l:PySem.W.OpenLaw}{n k:Nat}{q:A9}{loose:Tn}{XP:(Td)->AI->Prop}{YP:AM->AI->Prop}{d:DefRec}{K:Params->AP}{CX:Aw}{sp:AP->Sp}{x:Str}
  (hn:l.most=some n) (hn2:n<=sizeLine) (hdf:d.params.defaults=[]) (hr:bK k callerA)
  (hY:∀(w:AM) (h:AI),YP w h->(K w.params).In h)
  (F:∀(w:AM) (mg:Td) (fa:A4) (h:AI),(K w.params).In h->h.Ns mainGlobals mg->mg d.name=some (.ref fa) ->
   ∃fd:FuncData,(∀(s:A1) (u:A3),BindsTo s fd {[u],[]} [(x,u)]) /\
    ∀base:AI,(K w.params).In base->base.Ns mainGlobals mg->cC l.prog w (K w.params) mg base CX k fa fd [x] (sp (K w.params)))
  (Ew:∀(K:AP) (H:Hp) (a:A4) (ns:Th),ns.length<=n->Fy H->jV K H a (ns.map V.int)->sp K [.ref a] H (λv _=>v=.bl true) λ_ _ _=>False)
  (hCX:∀(H:Hp) (s:A1) (e:A3) (s':A1),CX [] H s (λ_ _ _=>False) e s'->False) :
  PySem.W.WalkO q loose XP YP l.row.toRowW d [] (λf vs=>PySem.call f vs) :=
 JEo (K:=K) (CX:=λ_=>CX) (sp:=λw=>sp (K w.params)) hn hn2 hdf hr hY F (λw H a ns h1 h2 h3=>Ew (K w.params) H a ns h1 h2 h3) λ_ H s e s'=>hCX H s e s'
noncomputable def mQ (s:AU)(j:Nat):AU:=match s with
 |.ClassDef _ _ _ body _ _ _ _ _ _ _=>body.getD j (.Pass {0,0,0,0})
 |_=>.Pass {0,0,0,0}
noncomputable def gK (s:AU):Arguments:=match s with
 |.FunctionDef _ a _ _ _ _ _ _ _ _=>a
 |_=>{posonlyargs:=[],args:=[],vararg:=none,kwonlyargs:=[],kw_defaults:=[],kwarg:=none,defaults:=[]}
noncomputable def bx (s:AU):Tk:=match s with
 |.FunctionDef _ _ b _ _ _ _ _ _ _=>b
 |_=>[]
noncomputable def ai (s:AU):Scope:=match s with
 |.FunctionDef _ _ _ _ _ _ sc _ _ _=>sc
 |_=>{kind:=.function,names:=[],isGenerator:=false,isCoroutine:=false}
abbrev lB:Aw:=λ_ _ _ _ _ _=>False
abbrev JDp:XK:=λ_ _ _=>False
def sE:n6 lB X JDp:=λ_ _ _ _ _ _ _ h=>h.elim
structure pF (K:AP)(x qual:Str)(st:Stmt)(f:Addr)(fd:FuncData):Prop where
 ex:∃(oc:Value) (od:Option Addr) (kV doc pm:Value) (an:Option Addr) (AX ct:Value) (GF:Array (Tg)),
  fd=PySem.W.fnOf x qual (gK st) (bx st) (ai st) .none kV doc pm an AX ct/\K.lookup f=some {oc,od,.func fd,GF}/\PySem.W.codeIn K AX qual=true
 kp:PySem.W.keepIn K (.ref f)=true
section
variable {P:A9}{w:AM}{K:AP}{mg:Td}{base:AI}
def pF.ok {x qual:Str}{st:AU}{f:A4}{fd:FuncData}{N ps:Tn}{k:Nat}{sp:Sp}(F:pF K x qual st f fd)(S:az N ps (ai st))(len:∀vs H Q E,sp vs H Q E->vs.length=ps.length)
  (Ay:∀(AX:A3) (A:AL) (outer:T5 Env) (s:A1) (H:Hp) (vs:T5 V) (Q:VK) (E:XK),bK k (A.deeper (envOfC qual (ai st) s.heap.objs.size f AX))->sp vs H Q E ->
   ∃t,oZ (jX lB P w K mg base N qual (ai st) f AX A outer s H E).nox (bx st) t/\t {nx:=λ_ H'=>Q .non H',rt:=Q} (fO N vs) H):cC P w K mg base lB (k+1) f fd ps sp:=by
 let⟨oc,od,kV,doc,pm,an,AX,ct,GF,rfl,lk,Eg⟩:=F.ex;refine Pt lk Eg S len λA outer s H vs Q E hr Ew=>?_;let⟨t,h,q⟩:=Ay AX A outer s H vs Q E hr Ew;exact{t,h.nox,q}
def pF.binds {x qual:Str}{st:AU}{f:A4}{fd:FuncData}{ps:Tn}(F:pF K x qual st f fd)
  (h:∀(kV doc pm:A3) (an:UE A4) (AX ct:A3) (us:Te),us.length=ps.length->bindArgs (PySem.W.fnOf x qual (gK st) (bx st) (ai st) .none kV doc pm an AX ct) {us,[]}=pure (ps.zip us)):gr K fd ps []:=by
 let⟨oc,od,kV,doc,pm,an,AX,ct,GF,rfl,lk,Eg⟩:=F.ex;exact .all (h kV doc pm an AX ct)
def yy {x qual:Str}{st:AU}{f:A4}{oc:A3}{od an:UE A4}{GF:AD (Tg)}{kV doc pm AX ct:A3}(l:K.lookup f=some {oc,od,.func (PySem.W.fnOf x qual (gK st) (bx st) (ai st) .none kV doc pm an AX ct),GF})
  (c:PySem.W.codeIn K AX qual=true) (k:PySem.W.keepIn K (.ref f)=true):pF K x qual st f (PySem.W.fnOf x qual (gK st) (bx st) (ai st) .none kV doc pm an AX ct):={{oc,od,kV,doc,pm,an,AX,ct,GF,rfl,l,c},k}
end
section
variable {X:Cx}
def pv (i:Nat){x:Str}{pos:Pos}(hN:X.N[i]?=some x:=by rfl)(hv:PX X.env.scope x:=by first|exact Or.inl rfl|exact Or.inr (Or.inl rfl)|exact Or.inr (Or.inr rfl))(hd:(x == ("__debug__" : Str))=false:=by decide)
  (Eg:(x == ("__classdict__" : Str))=false:=by decide):PE X (.Name x pos) (Kr i):=DD hN hv hd Eg
end
end L2
namespace HS
theorem JE1 (xs:AD Nat)(j:Nat)(hs:xs.toList.Pairwise (·<·)):∀(fuel lo hi:Nat),hi-lo<=fuel->lo<=hi->hi<=xs.size ->
  (∀i (h:i<xs.size),i<lo->xs[i]<j)->(∀i (h:i<xs.size),hi<=i->j<=xs[i]) ->
  SetTable.below.go xs j fuel lo hi<=xs.size/\(∀i (h:i<xs.size),i<SetTable.below.go xs j fuel lo hi->xs[i]<j)/\(∀i (h:i<xs.size),SetTable.below.go xs j fuel lo hi<=i->j<=xs[i]):=by
 intro fuel
 have mono:∀i k (hi:i<xs.size) (hk:k<xs.size),i<=k->xs[i]<=xs[k]:=λi k hi hk h=>by
  rcases zcO i k with h|h
  ·have:=zbt.mp hs i k ‹hi› ‹hk› h
   simp at this;omega
  ·have:i=k:=by omega
   subst this;omega
 induction fuel with
 |zero=>
  intro lo hi hf hle hsz h1 h2
  have:lo=hi:=by omega
  subst this;exact{hsz,h1,h2}
 |succ fuel ih=>
  intro lo hi hf hle hsz h1 h2;unfold SetTable.below.go
  by_cases An:lo<hi
  ·rw[A7 An]
   dsimp only
   have hm:(lo+hi) / 2<xs.size:=by omega
   have hg:xs.getD ((lo+hi) / 2) j=xs[(lo+hi) / 2]:=by simp[Array.getD,hm]
   rw[hg];split
   ·rename_i hc
    exact ih _ _ ∅ ∅ hsz (λi h Cm=>Nat.lt_of_le_of_lt (mono i _ h hm ∅) hc) h2
   ·rename_i hc
    exact ih _ _ ∅ ∅ ∅ h1 (λi h Cm=>DL ∅ (mono _ i hm h Cm))
  ·rw[A5 An]
   have:lo=hi:=by omega
   subst this;exact{hsz,h1,h2}
def xb {xs:AD Nat}(j:Nat)(hs:xs.toList.Pairwise (·<·)) :
  SetTable.below xs j<=xs.size/\(∀i (h:i<xs.size),i<SetTable.below xs j->xs[i]<j)/\(∀i (h:i<xs.size),SetTable.below xs j<=i->j<=xs[i]) :=
 JE1 xs j hs xs.size 0 xs.size ∅ ∅ ∅ (λ_ _ h=>by omega) (λ_ h h'=>by omega)
def tH (t:SetTable):Prop:=t.plain=true->t.place.toList.Pairwise (·<·)
def mP {xs:AD Nat}{j:Nat}(hs:xs.toList.Pairwise (·<·))(hn:xs[SetTable.below xs j]?≠some j):(insertAt xs (SetTable.below xs j) j).toList.Pairwise (·<·):=by
 let⟨b1,b2,b3⟩:=xb j hs;rw[toList_insertAt];generalize SetTable.below xs j=p at *;rw[List.pairwise_append];refine{hs.sublist (List.take_sublist _ _),D0.mpr {λy hy=>?_,hs.sublist (List.drop_sublist _ _)},λx hx y hy=>?_}
 ·let⟨i,hi,rfl⟩:=zcP.mp hy;rwa[zcK,DS] at hi;rw[List.getElem_drop,zcr];have h1:=b3 (p+i) ∅ ∅;rcases Nat.lt_or_eq_of_le h1 with h|h
  ·exact h
  ·exfalso;rcases Nat.eq_zero_or_pos i with rfl|hi0
   ·exact hn (by rw[CB ∅];rwa[Nat.add_zero] at h;rw[←h])
   ·have h2:=b3 p ∅ ∅;have h3:=zbt.mp hs p (p+i) (by simp;omega) (by simp;omega) ∅;rwa[zcr] at h3;omega
 ·let⟨i,hi,rfl⟩:=zcP.mp hx;rwa[F8,DS] at hi;rw[List.getElem_take,zcr];have h1:=b2 i ∅ ∅;rcases BA.mp hy with rfl|hy
  ·exact h1
  ·let⟨k,hk,rfl⟩:=zcP.mp hy;rwa[zcK,DS] at hk;rw[List.getElem_drop,zcr];have:=b3 (p+k) ∅ ∅;omega
theorem qh (t:SetTable)(hashAt:Nat->Int)(h:Int):∀(fuel:Nat) (p:Probe),(∀d,p.dummy=some d->t.place[SetTable.below t.place d]?≠some d) ->
  ∀j dm,probe.go t hashAt h fuel p=some (.empty j dm)->t.place[SetTable.below t.place j]?≠some j/\∀d,dm=some d->t.place[SetTable.below t.place d]?≠some d
 |0,_,_,_,_,e=>by simp[probe.go] at e
 |fuel+1,p,hp,j,dm,e=>by
  unfold probe.go at e
  have adv:∀q:Probe,(t.advance q).dummy=q.dummy:=λq=>by
   unfold advance;split <;> rfl
  split at e
  ·rename_i hs
   cases e;refine{?_,hp};intro hq;unfold SetTable.slot at hs;simp[hq] at hs
  ·rename_i hs
   refine qh t hashAt h fuel _ (λd hd=>?_) j dm e;rw[adv] at hd;cases hd;intro hq;unfold SetTable.slot at hs;simp[hq] at hs
  ·split at e
   ·cases e
   ·exact qh t hashAt h fuel _ (λd hd=>hp d (by (rw[adv] at hd;assumption))) j dm e
def rW {t:SetTable}{h:Int}{j:Nat}{b:A8}(e:t.freeSlot h=some (j,b)):t.place[SetTable.below t.place j]?≠some j:=by
 unfold freeSlot at e;split at e
 ·rename_i j' dm hp
  cases e;let⟨h1,h2⟩:=qh t _ h _ _ (by intro d hd;simp[probeStart] at hd) _ _ hp
  cases dm with
  |none=>exact h1
  |some d=>exact h2 d rfl
 ·cases e
def fH (t:SetTable)(n:Nat):tH (t.standIn n):=λh=>by simp[standIn] at h
def uq {t:SetTable}(es:AD (Int×A3))(h:Int)(x:A3)(r:tH t):tH (layNew t es h x).2.1/\(layNew t es h x).2.1.led=t.led:=by
 unfold layNew;split
 ·rename_i slot wd hf;dsimp only;unfold orStandIn;split
  ·refine{λhp=>?_,rfl};exact mP (r hp) (rW hf)
  ·exact{fH _ _,rfl}
 ·exact{fH _ _,rfl}
def lX {mask finger moves:Nat}{led plain:A8}{hs:AD Int}{t':SetTable}{o:AD Nat}(e:laid mask finger moves led plain hs=some (t',o)):t'.place.toList.Pairwise (·<·)/\t'.led=led:=by
 unfold laid at e;rwa[bind,Option.bind,pure] at e;split at e
 ·cases e
 ·cases e;refine{?_,rfl};rw[GR,List.pairwise_filterMap];refine List.Pairwise.imp ?_ (List.pairwise_lt_range);intro a b hab x hx y hy;rwa[DY] at hx hy;let⟨_,_,rfl⟩:=hx;let⟨_,_,rfl⟩:=hy;exact hab
def p8 (t:SetTable)(es:AD (Int×A3))(wanted:Nat):tH (relayAll t es wanted).2.1/\(relayAll t es wanted).2.1.led=t.led:=by
 unfold relayAll;split
 ·rename_i t' order h;dsimp only;split
  ·exact{λ_=>(lX h).1,(lX h).2}
  ·exact{fH _ _,rfl}
 ·exact{fH _ _,rfl}
open PyProof.Rows
noncomputable def val (e:Int×A3):Int:=match e.2 with|.int n _=>n|_=>0
def M4 (e:Int×A3):Prop:=∃n t,e=(hashInt n,.int n t)
structure cZ (led:Bool)(es:Array (Int×Value))(t:SetTable)(xs:Th):Prop where
 el:∀e∈es.toList,M4 e
 pm:(es.toList.map val).Perm xs
 nd:xs.Nodup
 bd:es.size<scanBound
 ft:t.fits es.size=true
 rs:tH t
 ld:t.led=led
structure mq (led:Bool)(es:Array (Int×Value))(t:SetTable):Prop where
 bd:es.size<scanBound
 ft:t.fits es.size=true
 rs:tH t
 ld:t.led=led
def cZ.w {led:A8}{es:AD (Int×A3)}{t:SetTable}{xs:Th}(g:cZ led es t xs):mq led es t:={g.bd,g.ft,g.rs,g.ld}
def df (led:A8)(o:B0)(xs:Th):Prop:=∃es ep t,o.ExactSet/\o.data=.set es ep t/\cZ led es t xs
def df.len {led:A8}{es:AD (Int×A3)}{t:SetTable}{xs:Th}(g:cZ led es t xs):es.size=xs.length:=by have:=g.pm.length_eq;simpa using this
def J6 {prog:A9}{l:T5 (Int×A3)}(h:∀e∈l,M4 e):ElemsOf (intKind prog w) l:=λe he=>by let⟨n,t,rfl⟩:=h e he;exact{{n,intKind_is _ _ _ _,rfl},rfl}
def Ep {prog:A9}{e:Int×A3}(h:M4 e)(k:Int):(intKind prog w).is k e.2=true ↔ val e=k:=by let⟨n,t,rfl⟩:=h;simp[intKind,Value.isInt,val]
section
variable {prog:A9}{w:AM}{A:AL}{E:Tb}{s:A1}
noncomputable def cJ (xs:Th)(k:Int):Th:=if k∈xs then xs else xs++[k]
def qi {xs:Th}{k:Int}(h:xs.Nodup):(cJ xs k).Nodup:=by
 unfold cJ;split
 ·exact h
 ·rename_i hk;rw[F9];exact{h,by simp,λa ha b hb=>by simp at hb;subst hb;exact λe=>hk (e ▸ ha)}
def dj {a:A4}{o:B0}{es BE:AD (Int×A3)}{ep:Nat}{t t':SetTable}{Q:Unit->A1->Prop}(ho:s.heap.get? a=some o)(hx:o.ExactSet)(hd:o.data=.set es ep t)
  (hb:BE.size<scanBound)
  (h:∀h',Heap.SameBut a s.heap h'->h'.get? a=some {o with data:=.set BE (ep+1) t'}->Q () {s with heap:=h'}):wpAny (model prog w) A (storeSet a BE t') Q E s:=by
 refine wpAny_storeSet_of ho hd (h _ (Heap.SameBut.update s.heap a _) ?_) (fits_of_scanBound hb);have q:=Dw (Obj.putSet BE t') ho (by rw[putSet_of BE t' hd];rfl)
 (rw[putSet_of BE t' hd] at q;assumption)
def zZ {g:A8->Sem Unit}(hg:g=λb=>match b with|true=>rule "set.scan.the-table-gave-way" | false=>pure ()){b:A8}{Q:Unit->A1->Prop}(h:Q () s):wpAny (model prog w) A (g b) Q E s:=by
 subst hg;cases b
 ·exact AN h
 ·exact GC h
theorem Fw {a:A4}{led:A8}{o:B0}{xs:Th}{k:Int}{tk:Tok}{Q:A8->A1->Prop}(ho:s.heap.get? a=some o)(hS:df led o xs)(HZ:xs.length+1<scanBound)
  (h:∀h' o' b,Heap.SameBut a s.heap h'->h'.get? a=some o'->df led o' (cJ xs k)->Q b {s with heap:=h'}) :
  wpAny (model prog w) A (setAddHashed a (.int k tk) (hashInt k)) Q E s:=by
 let⟨es,ep,t,hx,hd,G⟩:=hS;have hlen:=df.len G;unfold setAddHashed setAddHashedIn;refine Bg (AB (Bi ho hd G.ft ?_));dsimp only;rw[byScan_of (knd:=intKind prog w) (x:=.int k tk) rfl G.bd (J6 G.el),A7 rfl];unfold setAddByScan;refine AB (AB (GC (AB ?_)));refine wpAny_setScan_of (knd:=intKind prog w) (k:=k) (intKind_is _ _ _ _) ho hd G.ft (J6 G.el) ?_
 cases hr:List.findIdx? (λe=>(intKind prog w).is k e.2) es.toList with
 |some j=>
  let⟨hj,hpj,_⟩:=List.findIdx?_eq_some_iff_getElem.mp hr
  have Ck:k∈xs:=by
   refine G.pm.mem_iff.mp (BH.mpr {_,HF hj,?_});exact(Ep (G.el _ (HF hj)) k).mp hpj
  dsimp only;refine AN (AN ?_);have:=h s.heap o false (Heap.SameBut.refl a s.heap) ho
  unfold cJ at this
  rw[A7 Ck] at this
  have e:s={s with heap:=s.heap}:=by cases s;rfl
  rw[e];exact this {es,ep,t,hx,hd,G}
 |none=>
  have Ii:k∉xs:=λhk=>by
   let⟨e,he,hv⟩:=BH.mp (G.pm.mem_iff.mpr hk);have:=List.findIdx?_eq_none_iff.mp hr e he;rw[(Ep (G.el e he) k).mpr hv] at this;cases this
  dsimp only;have p1:=layNew_perm t es (hashInt k) (.int k tk);have f1:=layNew_fits t es (hashInt k) (.int k tk);have r1:=uq es (hashInt k) (.int k tk) G.rs;generalize hL:layNew t es (hashInt k) (.int k tk)=L at p1 f1 r1;let⟨Bj,t1,wd,gv⟩:=L;have hL':layNew t es ((intKind prog w).hash k) (.int k tk)=(Bj,t1,wd,gv):=hL
  try rw[hL']
  dsimp only at p1 f1 r1 ⊢;rw[zc5] at p1
  have G1:cZ led Bj t1 (cJ xs k):=by
   have hm:(Bj.toList.map val).Perm (xs++[k]):=by
    refine(p1.map val).trans ?_;rw[D6];exact G.pm.append (List.Perm.refl _)
   have hsz:Bj.size=xs.length+1:=by have:=hm.length_eq;simpa using this
   refine{λe he=>?_,?_,qi G.nd,by omega,f1,r1.1,r1.2.trans G.ld}
   ·rcases D7.mp (p1.mem_iff.mp he) with he|he
    ·exact G.el e he
    ·rw[Bm] at he;exact{k,tk,he}
   ·unfold cJ;rw[A5 Ii];exact hm
  refine AB (zZ rfl ?_)
  have tail:∀t2,t2=t1->wpAny (model prog w) A (do
    storeSet a Bj t2
    if (!wd&&t2.tooFull)=true then do
      (match (relayAll t2 Bj (grown Bj.size)).2.2 with|true=>rule "set.scan.the-table-gave-way" | false=>pure ())
      storeSet a (relayAll t2 Bj (grown Bj.size)).1 (relayAll t2 Bj (grown Bj.size)).2.1
      pure (some true)
     else pure (some true)) (λr s'=>wpAny (model prog w) A (match r with|some added=>pure added|none=>setAddHashedIn a (.int k tk) ((intKind prog w).hash k) 99999) Q E s') E s:=by
   intro t2 ht2;subst ht2;refine AB (dj ho hx hd G1.bd λh1 b1 g1=>?_);split
   ·have p2:=relayAll_perm t2 Bj (grown Bj.size)
    have f2:=relayAll_fits t2 Bj (grown Bj.size);have r2:=p8 t2 Bj (grown Bj.size);generalize relayAll t2 Bj (grown Bj.size)=Rl at p2 f2 r2 ⊢;let⟨es2,t3,gv2⟩:=Rl;dsimp only at p2 f2 r2 ⊢
    have hsz:es2.size=Bj.size:=by have:=p2.length_eq;simpa using this
    refine AB (zZ (g:=λb=>match b with|true=>rule "set.scan.the-table-gave-way" | false=>pure ()) rfl ?_);refine AB (dj (s:={s with heap:=h1}) g1 hx rfl (by rw[hsz];exact G1.bd) λh2 b2 g2=>AN (AN ?_));refine h h2 _ true (b1.trans b2) g2 {es2,_,t3,hx,rfl,λe he=>G1.el e (p2.mem_iff.mp he),(p2.map val).trans G1.pm,G1.nd,by rw[hsz];exact G1.bd,f2,r2.1,r2.2.trans G1.ld}
   ·exact AN (AN (h h1 _ true b1 g1 {Bj,_,t2,hx,rfl,G1}))
  split
  ·refine AB ?_
   rw[hashByValue_scannable 8 (x:=.int k tk) rfl];exact AN (tail _ rfl)
  ·exact AB (AN (tail _ rfl))
end
def vm:isSubtype (.type "tuple") (.type "set")=pure false:=by rw[isSubtype_type];kernel_rfl
def vn:isSubtype (.type "tuple") (.type "frozenset")=pure false:=by rw[isSubtype_type];kernel_rfl
def qj (xs:Th)(k:Int):(cJ xs k).length<=xs.length+1:=by unfold cJ;split <;> simp
noncomputable def aL (xs:Th)(ns:Th):Th:=ns.foldl cJ xs
abbrev bf (led:A8):B0:={cls:=.type "set",dict:=none,data:=.set #[] 0 (.fresh 0 0 led)}
def jE (led:A8):df led (bf led) [] :=
 {#[],0,_,{rfl,rfl,rfl},rfl,{λ_ h=>by simp at h,List.Perm.refl _,zcE,by decide,by rfl,λ_=>List.Pairwise.nil,rfl}}
section
variable {prog:A9}{w:AM}{A:AL}{R:Result->A1->Prop}{I:A4}{fp wr:Tf}{G:AD GenState->AD GenState->Prop}{n:Nat}{P:Nat->A3->Prop}{St:Nat->A1->Prop}
theorem oe (W:WalksS prog w A.in1 I fp wr G n P St)(S:A4)(Bh:S∉fp){led:A8}(ms:Th)(hms:ms.length=n)(Hr:∀i v,P i v->∃t,v=.int (ms.getD i 0) t) :
  ∀(k i:Nat) (s:A1) (o:B0) (xs:Th),n-i=k->i<=n->St i s->s.heap.get? S=some o->df led o xs->xs.length+k+1<scanBound ->
   (∀s' o',Moved (S::wr) G s s'->s'.heap.get? S=some o'->df led o' (aL xs (ms.drop i))->R (.ok (.ret .none)) s') ->
   codeAny (model prog w) A (.builtin "set.update.loop" {[.ref S,.ref I],[]}) R s:=by
 have nw:S∉wr:=λh=>Bh (W.sub _ h);have up:∀b∈wr,b∈S::wr:=λb hb=>BF _ hb;intro k
 induction k with
 |zero=>
  intro i s o xs hk hi CL ho hS hb hR
  have Ck:i=n:=by omega
  subst Ck;refine DN F.entry_set_update_loop ?_;rw[Dv F.plain_set_update_loop _];refine(show wpAny _ A.in1 (pyNext (.ref I) >>= _) _ _ s from AB (W.done s _ _ CL λs' hm=>?_));refine(show wpAny _ A.in1 (ret Value.none) _ _ s' from AN (hR s' o (hm.mono up) (hm.heap S _ nw ho) ?_));rw[zcH ∅];exact hS
 |succ k ih=>
  intro i s o xs hk hi CL ho hS hb hR
  have An:i<n:=by omega
  refine DN F.entry_set_update_loop ?_;rw[Dv F.plain_set_update_loop _];refine(show wpAny _ A.in1 (pyNext (.ref I) >>= _) _ _ s from AB (W.item i s _ _ An CL λv s' hP Hv hm=>?_));let⟨t,rfl⟩:=Hr i v hP;have Bq:=hm.heap S _ nw ho;refine(show wpAny _ A.in1 (holding [Value.int (ms.getD i 0) t] (setAdd S (.int (ms.getD i 0) t)) >>= _) _ _ s' from AB (Bg ?_));unfold setAdd;refine Bg (AB ((intKind prog w).pyHash (k:=ms.getD i 0) (intKind_is _ _ _ _) ?_));refine Fw (s:={s' with toks:=s'.toks+1}) Bq hS ∅ λh' o' _ DB F0 F3=>?_
  have DH:ms.drop i=ms.getD i 0::ms.drop (i+1):=by
   have hl:i<ms.length:=by omega
   rw[zbu hl];simp[List.getD,hl]
  refine AN {F5 F.plain_set_update_loop _,ih (i+1) _ o' _ ∅ An (W.frame _ s' _ _ Hv (G7 _) λb hb o e=>?_) F0 F3 (by have:=qj xs (ms.getD i 0);omega) λs2 o2 hm2 q2 g2=>?_}
  ·rw[DB.2 b (λh:b=S=>Bh (h ▸ hb))];exact e
  ·refine hR s2 o2 (Moved.trans W.gtrans ((hm.mono up).then_heap (G7 _) λb o hb e=>?_) hm2) q2 (by rw[DH];exact g2)
   rw[DB.2 b (λh:b=S=>hb (by rw[h];exact BB))];exact e
end
section
variable {prog:A9}{w:AM}{A:AL}{E:Tb}{s:A1}
def L8 (a:A3){Q₁:Tb}(h:Q₁ (.ref s.heap.objs.size) {s with heap:=s.heap.push (bf (!w.params.followText "set-order"))}) :
  codeAny (model prog w) A (.call (.builtin "set.__new__") {[.type "set",a],[]}) (wants Q₁ E) s:=by
 refine zcQ (show wpAny _ A.in1 (do checkBuiltinCall "set.__new__" {[.type "set",a],[]};again (.builtin "set.__new__" {[.type "set",a],[]})) _ _ s from ?_);refine AB (zdh (F.newCall_set_1 a) (AN {F5 F.plain_set_new _,DN F.entry_set_new ?_}));rw[Dv F.plain_set_new _];have Hs:=sub_set_self;unfold Builtin.«set.__new__» Builtin.Frozenset.newClass;obtain⟨hp,g,d,tk,os⟩:=s;dsimp only;wp_walk;refine G5 (AN ?_);dsimp only;rwa[newObj];exact AB (wpAny_alloc (AN (AN h)))
set_option maxHeartbeats 3200000 in
theorem p0 {l:A4}{ol io:B0}{cn:String}{P:A8->AI->B0->Prop}{Q:Tb}(Ez:s.heap.get? l=some ol)(C8:ol.cls=.type cn)
  (hs1:isSubtype (.type cn) (.type "set")=pure false) (hs2:isSubtype (.type cn) (.type "frozenset")=pure false) (BC:(Value.type cn == Value.type "dict")=false)
  (hpy:∀(t:A1) (A':AL) (E':Tb) (Q':Tb),t.heap.get? l=some ol->Q' (.ref t.heap.objs.size) {t with heap:=t.heap.push io}->wpAny (model prog w) A' (pyIter (.ref l)) Q' E' t)
  (Ff:∀(led:A8) (R':Result->A1->Prop),l≠(s.heap.push (bf led)).objs.size->s.heap.objs.size∉[(s.heap.push (bf led)).objs.size,l] ->
   (∀s' o',Moved [s.heap.objs.size,(s.heap.push (bf led)).objs.size] (λa b=>b=a) {s with heap:=(s.heap.push (bf led)).push io} s'->s'.heap.get? s.heap.objs.size=some o'->P led s'.heap o'->R' (.ok (.ret .none)) s') ->
   codeAny (model prog w) A.in1.in1 (.builtin "set.update.loop" {[.ref s.heap.objs.size,.ref (s.heap.push (bf led)).objs.size],[]}) R' {s with heap:=(s.heap.push (bf led)).push io})
  (h:∀(h':AI) (tk:Nat) (o:B0),h'.get? s.heap.objs.size=some o->P (!w.params.followText "set-order") h' o ->
   (∀b o,s.heap.get? b=some o->h'.get? b=some o)->s.toks<=tk->Q (.ref s.heap.objs.size) {s with heap:=h',toks:=tk}) :
  wpAny (model prog w) A (call (.type "set") [.ref l]) Q E s:=by
 obtain⟨c,tl,hmro⟩:=F.called_set.mro;have hmade:=F.called_set.made;have Hs:=F.called_set.sub;refine wpAny_call (zcQ (show wpAny _ _ (callAny (.type "set") _) _ _ _ from ?_));refine AN {Code.quiet_builtin _ ∅,DN F.entry_type_call ?_};rw[Around.under_plain (weight_type_call_type "set" [.ref l] []) rfl];have h1:=F.called_set.notType;have h2:=F.called_set.canCreate;have hct:=F.typeCall_set_1 (.ref l)
 repeat (any_goals (first|assumption|wp_step))
 refine G8 (L8 (.ref l) (E:=E) (Q₁:=λobj s₁=>obj=.ref s.heap.objs.size/\s₁={s with heap:=s.heap.push (bf (!w.params.followText "set-order"))}) {rfl,rfl}) λr s₁ hr=>?_;generalize DG:(!w.params.followText "set-order")=led at *
 cases r with
 |error e=>exact hr
 |ok fl=>
  cases fl with
  |ret obj=>
   obtain⟨rfl,rfl⟩:=hr;have hS:(s.heap.push (bf led)).get? s.heap.objs.size=some (bf led):=BI _ rfl;have hT:Shared.TypeIs {s with heap:=s.heap.push (bf led)} (.ref s.heap.objs.size) "set":={_,hS,rfl};have hli:=F.called_set.init.lookup;have hbi:=F.called_set.init.bind (.ref s.heap.objs.size)
   repeat (any_goals (first|assumption|wp_step))
   refine G8 (zcR (R:=wants (λr s₂=>r=.none/\∃h' tk o,s₂={s with heap:=h',toks:=tk}/\h'.get? s.heap.objs.size=some o/\P led h' o /\
     (∀b o,s.heap.get? b=some o->h'.get? b=some o)/\s.toks<=tk) E) F.called_set.init.plain F.entry_set_init (check_set_init_1 hT ?_)) λr₂ s₂ Hz=>?_
   ·let⟨ocls,odict,odata,Hm⟩:=ol
    simp only at C8;subst C8;have hol':(s.heap.push (bf led)).get? l=some {cls:=.type cn,dict:=odict,data:=odata,slots:=Hm}:=AY _ Ez;unfold Builtin.«set.__init__» noKeywords Builtin.Frozenset.updateFrom;generalize hPI:pyIter=PI
    wp_walk;subst hPI
    refine hpy _ _ _ _ hol' (AB (wpAny_runValue ?_));have hlS:l<s.heap.objs.size:=B4 Ez
    refine Ff led _ (by rw[Du];exact BG (zbL hlS)) (by
     rw[Du];rwa[BA,DV,or_false,not_or]
     exact{BG (zb2 _),D4 hlS}) λs' o' hm Bq Fq=>?_
    let⟨h',g',d',Br,Hn⟩:=s';have eg:g'=s.gens:=hm.gens;have ed:d'=s.drawn:=hm.drawn;have eo:Hn=s.os:=hm.os;subst eg;subst ed;subst eo;refine(show wpAny _ _ _ _ _ _ from AN (show wpAny _ _ (ret Value.none) _ _ _ from AN {rfl,h',Br,o',rfl,Bq,Fq,λb o e=>?_,hm.toks}));have hbs:=B4 e;refine hm.heap b o ?_ (AY _ (AY _ e));rw[Du];rwa[BA,DV,or_false,not_or];exact{BG hbs,BG (zbL hbs)}
   ·cases r₂ with
    |error e=>exact Hz
    |ok fl₂=>
     cases fl₂ with
     |ret r=>
      let⟨rfl,h',tk,o,rfl,ho,Fq,C2,ht⟩:=Hz
      repeat (any_goals (first|assumption|wp_step))
      exact h _ _ o ho Fq C2 ht
     |_=>exact Hz.elim
  |_=>exact hr.elim
def JFx {l:A4}{its:Ti}{ns:Th}{Q:Tb}
  (hh:A.handled=none) (hl:s.heap.IsTuple l its) (hi:IntsAre its.toList ns) (hb:its.size+1<scanBound)
  (h:∀(h':AI) (tk:Nat) (o:B0),h'.get? s.heap.objs.size=some o->df (!w.params.followText "set-order") o (aL [] ns) ->
   (∀b o,s.heap.get? b=some o->h'.get? b=some o)->s.toks<=tk->Q (.ref s.heap.objs.size) {s with heap:=h',toks:=tk}) :
  wpAny (model prog w) A (call (.type "set") [.ref l]) Q E s:=by
 have hh3:A.in1.in1.in1.handled=none:=by simp[hh]
 have Ip:=hl;let⟨ol,Ez,C8,nl,hdl⟩:=hl;refine p0 (P:=λled _ o=>df led o (aL [] ns)) Ez C8 vm vn ∅ (λt A' E' Q' e q=>wpAny_pyIter_tuple {_,e,C8,nl,hdl} q) (λled R' Fd Bh k=>?_) h
 exact oe ((Walks.tuple hh3 _ l Fd its).toS) s.heap.objs.size Bh (led:=led) ns (by have:=IntsAre.length hi;simpa using this.symm)
  (λi v hv=>IntsAre.int_at hi i v (by rw[GU];exact hv)) (its.size-0) 0 _ (bf led) [] ∅ (Cy _)
  {{_,BI _ rfl,rfl,rfl},Ip.at λo e=>AY _ (AY _ e)} (AY _ (BI _ rfl)) (jE led) ‹hb› k
end
def br:Slot "set_iterator" "__next__" "set_iterator.__next__":=by
 refine .of (owner:="set_iterator") (n:="__next__") ?_ ∅ ∅ ∅ ?_ ?_
 ·rw[zcA,zbW];kernel_rfl
 ·first|exact .inl ∅|exact .inr ∅
 ·rw[isSubtype_type];kernel_rfl
def fM:entryFor table "set_iterator.__next__" = some Builtin.«set_iterator.__next__»:=entryFor_of_tree (by kernel_rfl)
def gL (a:A3):argsOk "set_iterator.__next__" {[a],[]}:=by unfold argsOk;kernel_rfl
def uJ:entryFor table "set.__iter__" = some Builtin.«frozenset.__iter__» :=
 entryFor_alias (id':="frozenset.__iter__") (by kernel_rfl) (by first|rfl|decide) ∅ (by kernel_rfl)
theorem l9 {Z:Type}:∀{l:T5 Z} {i:Nat} (h:i<l.length),(l[i]::l.eraseIdx i).Perm l
 |x::xs,0,_=>by simp
 |x::xs,i+1,h=>by rwa[List.getElem_cons_succ,List.eraseIdx_cons_succ];exact(List.Perm.swap _ _ _).trans ((l9 ‹h›).cons x)
section
variable {Z:Type}{M:Model}{A:AL}{E:Tb}{s:A1}
def JBb {src:Source}{n:Nat}{Q:Nat->A1->Prop}(hn:0<n)(h:∀i d,i<n->Q i {s with drawn:=d}):wpAny M A (choose src n) Q E s :=
 λ_ _ _=>{Nat.pos_iff_ne_zero.mp hn,h _ _ (zc7 _ hn)}
theorem JG9 (n:Nat):∀(xs:T5 Z) (s:A1) (Q:T5 Z->A1->Prop),xs.length=n->(∀ys d,ys.Perm xs->Q ys {s with drawn:=d})->wpAny M A (drawOrder n xs) Q E s:=by
 induction n with
 |zero=>
  intro xs s Q hl h;have e:xs=[]:=zbN.mp hl;subst e;exact AN (h [] s.drawn (List.Perm.refl _))
 |succ n ih=>
  intro xs s Q hl h
  cases xs with
  |nil=>cases hl
  |cons x xs=>
   unfold drawOrder;refine AB (JBb ∅ λi d hi=>?_);rw[Bl hi];dsimp only;refine AB (ih _ _ _ (by rw[List.length_eraseIdx_of_lt hi];simp at hl;simp;omega) λys d' hp=>AN ?_);exact h _ d' ((hp.cons _).trans (l9 hi))
end
abbrev bt (w:AM):A8:=w.params.followText "set-order"
noncomputable def kB (f:A3)(i:Nat)(a:A4)(n ep:Nat):B0:={cls:=.type "set_iterator",data:=.fields #[f,.int i 0,.ref a,.int n 0,.int ep 0]}
def El {s:A1}{I:A4}{f:A3}{i:Nat}{a:A4}{n ep:Nat}(h:s.heap.get? I=some (kB f i a n ep)):s.TypeIs (.ref I) "set_iterator":={_,h,rfl}
def JE2 {t:SetTable}(r:t.place.toList.Pairwise (·<·))(i:Nat)(hi:i<=t.place.size):SetTable.below t.place (if h:0<i then t.place[i-1]'∅+1 else 0)=i:=by
 let⟨b1,b2,b3⟩:=xb (if h:0<i then t.place[i-1]'∅+1 else 0) r;generalize hB:SetTable.below t.place (if h:0<i then t.place[i-1]'∅+1 else 0)=B at *;have lt:∀(x y:Nat) (hx:x<t.place.size) (hy:y<t.place.size),x<y->t.place[x]<t.place[y]:=λx y hx hy hxy=>by have:=zbt.mp r x y ‹hx› ‹hy› hxy;simpa using this
 rcases Nat.lt_trichotomy B i with h|h|h
 ·exfalso;have hp:0<i:=by omega
  rwa[hp,dite_true] at b3;have h1:=b3 B ∅ (B3 _);rcases zcO B (i-1) with h2|h2
  ·have:=lt B (i-1) ∅ ∅ h2;omega
  ·have:B=i-1:=by omega
   subst this;omega
 ·exact h
 ·exfalso;have h1:=b2 i ∅ h;by_cases hp:0<i
  ·rwa[hp,dite_true] at h1;have:=lt (i-1) i ∅ ∅ ∅;omega
  ·rwa[hp,dite_false] at h1;omega
section
variable {prog:A9}{w:AM}{A:AL}{E:Tb}{s:A1}
def xZ {led:A8}{a:A4}{o:B0}{es:AD (Int×A3)}{ep:Nat}{t:SetTable}{i:Nat}{Q:UE (A3×Nat)->A1->Prop}(hb:bt w=false)(hl:led=true)
  (ho:s.heap.get? a=some o) (hd:o.data=.set es ep t) (G:mq led es t) (D3:(!t.plain&&decide (es.size>1))=false) (hi:i<=es.size) (hp:t.place.size=es.size)
  (h:Q (if An:i<es.size then some (es[i].2,t.place[i]+1) else none) s) :
  wpAny (model prog w) A (setNext a (if h:0<i then t.place[i-1]'∅+1 else 0) i ep) Q E s:=by
 have r:t.place.toList.Pairwise (·<·):=by
  cases hpl:t.plain with
  |true=>exact G.rs hpl
  |false=>
   have h1:¬ es.size>1:=by simpa[hpl] using D3
   have:t.place.toList.length<=1:=by simp;omega
   match hq:t.place.toList,this with
   |[],_=>exact List.Pairwise.nil
   |[x],_=>exact zcF _ _
 unfold setNext;refine AB (Bi ho hd G.ft ?_);dsimp only;unfold setsByText;refine AB (AB (G5 (AN ?_)));dsimp only;rw[show((model prog w).w.params.followText "set-order")=false from hb];simp only[Bc,↓reduceIte];split
 ·rename_i hc
  have:(!t.plain&&decide (es.size>1))=true:=hc;rw[D3] at this;cases this
 ·refine AB (show wpAny _ _ (if (!t.led&&!es.isEmpty)=true then unsupported "set:maker-not-led" else pure ()) _ _ _ from ?_)
  rw[A5 (by rw[G.ld,hl];simp)];refine AN ?_;rw[JE2 r i ∅];refine AN ?_
  by_cases An:i<es.size
  ·have h2:i<t.place.size:=by omega
   rw[dif_pos An] at h;rw[CB An,CB h2];exact h
  ·rw[dif_neg An] at h
   rw[zcI ∅];exact h
theorem zG {Z:Type}(nx:Nat->Nat):∀(fuel k:Nat) (left:T5 Z) (out:AD Z),left.length=fuel->(pickOrder.go nx fuel k left out).toList.Perm (out.toList++left)
 |0,k,[],out,_=>by unfold pickOrder.go;simp
 |fuel+1,k,x::xs,out,hl=>by unfold pickOrder.go;have An:nx k%(x::xs).length<(x::xs).length:=zc7 _ ∅;generalize nx k%(x::xs).length=j at An;rw[Bl An];dsimp only;refine(zG nx fuel (k+1) _ _ (by rw[List.length_eraseIdx_of_lt An];simp at hl;simp;omega)).trans ?_;rw[zc5,EA];exact(List.Perm.refl _).append (l9 An)
def nD {Z:Type}(nx:Nat->Nat)(xs:AD Z):(pickOrder nx xs).toList.Perm xs.toList:=by have:=zG nx xs.size 0 xs.toList #[] ∅;simpa[pickOrder] using this
def JAg {led:A8}{a:A4}{o:B0}{es:AD (Int×A3)}{ep:Nat}{t:SetTable}{sl i:Nat}{Q:UE (A3×Nat)->A1->Prop}(hb:bt w=true)
  (ho:s.heap.get? a=some o) (hd:o.data=.set es ep t) (G:mq led es t)
  (h:Q (((pickOrder (w.params.setOrder a ep) es)[i]?).map λe=>(e.2,sl)) s) :
  wpAny (model prog w) A (setNext a sl i ep) Q E s:=by
 unfold setNext;refine AB (Bi ho hd G.ft ?_);dsimp only;unfold setsByText;refine AB (AB (G5 (AN ?_)));dsimp only;rw[show((model prog w).w.params.followText "set-order")=true from hb];simp only[bne_self_eq_false,Bc,↓reduceIte];unfold setWalk setsByText;refine AB (AB (Bi ho hd G.ft (AB (AB (G5 (AN ?_))))));dsimp only;rw[show((model prog w).w.params.followText "set-order")=true from hb];simp only[↓reduceIte];refine AB (G5 (AN (AN ?_)));exact h
end
section
variable {prog:A9}{w:AM}{A:AL}{E:Tb}{s:A1}
def Ak {M:Model}{E:Tb}{s:A1}{A:AL}{Q:Fin->A1->Prop}(hh:A.handled=none)
  (h:∀h' a,(∀b o,s.heap.get? b=some o->h'.get? b=some o)->Shared.TypeIs {s with heap:=h'} (.ref a) "StopIteration"->E (.ref a) {s with heap:=h'}) :
  wpAny M A (newExc (.type "StopIteration") [] >>=λe=>raiseNew e) Q E s:=by
 refine AB ?_;rwa[newExc,newTuple];refine AB (CN ?_ (by size_fits));refine AB (m:=firstArgMember _ _) (zdh (a:=Value.none) (by first|rfl|(rwa[firstArgMember];rfl)) ?_);refine CN ?_ (by size_fits);rwa[raiseNew];refine AB (wpAny_handled ?_);rw[hh];refine AB (AN (wpAny_throw (h _ _ (λb o e=>AY _ (AY _ e)) ?_)));exact{_,BI _ rfl,rfl}
def JG4 {led:A8}{I a:A4}{o:B0}{es:AD (Int×A3)}{ep:Nat}{t:SetTable}{i sl sl':Nat}{x:A3}{Q:UE A3->A1->Prop}
  (hI:s.heap.get? I=some (kB (.int sl 0) i a es.size ep)) (ho:s.heap.get? a=some o) (hd:o.data=.set es ep t) (G:mq led es t)
  (hnx:∀A' E' (Q':UE (A3×Nat)->A1->Prop),Q' (some (x,sl')) s->wpAny (model prog w) A' (setNext a sl i ep) Q' E' s)
  (h:∀h',h'.get? I=some (kB (.int sl' 0) (i+1) a es.size ep)->Heap.SameBut I s.heap h'->Q (some x) {s with heap:=h'}):wpAny (model prog w) A (pyNext (.ref I)) Q E s:=by
 unfold pyNext;refine AB (Gv (GV (name:=Str.ofString "__next__") (El hI) br (C5 br (El hI) fM ?_ (gL _))));unfold Builtin.«set_iterator.__next__»;refine AB (show wpAny _ _ (pure (Value.ref I,([]:Te))) _ _ _ from AN ?_);refine AB (Gx hI rfl ?_);dsimp only;unfold setEntries;refine AB (AB (Bi ho hd G.ft (AN ?_)));dsimp only;rw[A5 ∅];refine AB (show wpAny _ _ (setNext a sl i ep) _ _ _ from hnx _ _ _ ?_);dsimp only;refine AB (Gw hI rfl ∅ ?_);have h1:=Dw (Obj.mapFields (·.setIfInBounds 0 (rawInt (sl':Int)))) hI rfl;refine AB (Gw (s:={s with heap:=_}) h1 rfl ∅ ?_);have h2:=Dw (Obj.mapFields (·.setIfInBounds 1 (rawInt ((i:Int)+1)))) h1 rfl;refine AN {x,rfl,AN (h _ (h2.trans ?_) ((Heap.SameBut.update ..).trans (Heap.SameBut.update ..)))};rfl
def Ms {led:A8}{I a:A4}{o:B0}{es:AD (Int×A3)}{ep:Nat}{t:SetTable}{i sl:Nat}{Q:UE A3->A1->Prop}(hh:A.handled=none)
  (hI:s.heap.get? I=some (kB (.int sl 0) i a es.size ep)) (ho:s.heap.get? a=some o) (hd:o.data=.set es ep t) (G:mq led es t)
  (hnx:∀A' E' (Q':UE (A3×Nat)->A1->Prop),Q' none s->wpAny (model prog w) A' (setNext a sl i ep) Q' E' s)
  (h:∀h',(∀b o,b∉[I]->s.heap.get? b=some o->h'.get? b=some o)->Q none {s with heap:=h'}):wpAny (model prog w) A (pyNext (.ref I)) Q E s:=by
 unfold pyNext;refine AB (Gv (GV (name:=Str.ofString "__next__") (El hI) br (C5 br (El hI) fM ?_ (gL _))));unfold Builtin.«set_iterator.__next__»;refine AB (show wpAny _ _ (pure (Value.ref I,([]:Te))) _ _ _ from AN ?_);refine AB (Gx hI rfl ?_);dsimp only;unfold setEntries;refine AB (AB (Bi ho hd G.ft (AN ?_)));dsimp only;rw[A5 ∅];refine AB (show wpAny _ _ (setNext a sl i ep) _ _ _ from hnx _ _ _ ?_);dsimp only;refine AB (Gw hI rfl ∅ ?_);refine Ak (show A.in1.handled=none from hh) λh' b kp hT=>?_;refine AB (HC (T:="StopIteration") (b:=true) hT isSubtype_stop ?_);exact AN (h _ λb o hb e=>kp b o (by rw[CV _ _ (λq:I=b=>hb (by simp[q]))];exact e))
def JD6 {led:A8}{I a tp:A4}{o:B0}{es:AD (Int×A3)}{ep:Nat}{t:SetTable}{i:Nat}{pl:T5 Nat}{x:Int×A3}{p:Nat}{Q:UE A3->A1->Prop}
  (hI:s.heap.get? I=some (kB (.ref tp) i a es.size ep)) (htp:s.heap.get? tp=some {cls:=.type "tuple",data:=.seq (pl.map λi:Nat=>rawInt i).toArray})
  (ho:s.heap.get? a=some o) (hd:o.data=.set es ep t) (G:mq led es t) (hp:pl[i]?=some p) (hx:es[p]?=some x)
  (h:∀h',h'.get? I=some (kB (.ref tp) (i+1) a es.size ep)->Heap.SameBut I s.heap h'->Q (some x.2) {s with heap:=h'}):wpAny (model prog w) A (pyNext (.ref I)) Q E s:=by
 unfold pyNext;refine AB (Gv (GV (name:=Str.ofString "__next__") (El hI) br (C5 br (El hI) fM ?_ (gL _))));unfold Builtin.«set_iterator.__next__»;refine AB (show wpAny _ _ (pure (Value.ref I,([]:Te))) _ _ _ from AN ?_);refine AB (Gx hI rfl ?_);dsimp only;unfold setEntries;refine AB (AB (Bi ho hd G.ft (AN ?_)));dsimp only;rw[A5 ∅];refine AB (zcl htp rfl ?_);dsimp only
 have hq:(pl.map λi:Nat=>rawInt i).toArray[((i:Nat):Int).toNat]?=some (.int p 0):=by simp[hp,rawInt]
 rw[hq];dsimp only;unfold setNextDrawn;refine AB (AB (Bi ho hd G.ft ?_));dsimp only;rw[A5 ∅];rwa[Gs,hx];refine AN (AB (Gw hI rfl ∅ ?_));have h1:=Dw (Obj.mapFields (·.setIfInBounds 1 (rawInt ((i:Int)+1)))) hI rfl;exact AN {x.2,rfl,AN (h _ (h1.trans rfl) (Heap.SameBut.update ..))}
def JG5 {led:A8}{I a tp:A4}{o:B0}{es:AD (Int×A3)}{ep:Nat}{t:SetTable}{i:Nat}{pl:T5 Nat}{Q:UE A3->A1->Prop}(hh:A.handled=none)
  (hI:s.heap.get? I=some (kB (.ref tp) i a es.size ep)) (htp:s.heap.get? tp=some {cls:=.type "tuple",data:=.seq (pl.map λi:Nat=>rawInt i).toArray})
  (ho:s.heap.get? a=some o) (hd:o.data=.set es ep t) (G:mq led es t) (hp:pl.length<=i)
  (h:∀h',(∀b o,b∉[I]->s.heap.get? b=some o->h'.get? b=some o)->Q none {s with heap:=h'}):wpAny (model prog w) A (pyNext (.ref I)) Q E s:=by
 unfold pyNext;refine AB (Gv (GV (name:=Str.ofString "__next__") (El hI) br (C5 br (El hI) fM ?_ (gL _))));unfold Builtin.«set_iterator.__next__»;refine AB (show wpAny _ _ (pure (Value.ref I,([]:Te))) _ _ _ from AN ?_);refine AB (Gx hI rfl ?_);dsimp only;unfold setEntries;refine AB (AB (Bi ho hd G.ft (AN ?_)));dsimp only;rw[A5 ∅];refine AB (zcl htp rfl ?_);dsimp only
 have hq:(pl.map λi:Nat=>rawInt i).toArray[((i:Nat):Int).toNat]?=none:=by simp;omega
 rw[hq];dsimp only;refine AB (Gw hI rfl ∅ ?_);have h1:=Dw (Obj.mapFields (·.setIfInBounds 0 (rawInt 0))) hI rfl;refine AB (Gw (s:={s with heap:=_}) h1 rfl ∅ ?_);refine Ak (show A.in1.handled=none from hh) λh' b kp hT=>?_;refine AB (HC (T:="StopIteration") (b:=true) hT isSubtype_stop ?_);refine AN (h _ λb o hb e=>kp b o ?_);have ne:I≠b:=λq=>hb (by simp[q]);rw[CV _ _ ne,CV _ _ ne];exact e
end
def mE:Slot "set_iterator" "__iter__" "set_iterator.__iter__":=by
 refine .of (owner:="set_iterator") (n:="__iter__") ?_ ∅ ∅ ∅ ?_ ?_
 ·rw[zcA,zbW];kernel_rfl
 ·first|exact .inl ∅|exact .inr ∅
 ·rw[isSubtype_type];kernel_rfl
def uZ (a:A3):argsOk "set_iterator.__iter__" {[a],[]}:=by unfold argsOk;kernel_rfl
def rY:entryFor table "set_iterator.__iter__" = some Builtin.«dict_keyiterator.__iter__» :=
 entryFor_alias (id':="dict_keyiterator.__iter__") (by kernel_rfl) (by first|rfl|decide) ∅ (by kernel_rfl)
section
variable {prog:A9}{w:AM}{A:AL}{E:Tb}{s:A1}
def zr {I:A4}{f:A3}{i:Nat}{a:A4}{n ep:Nat}{Q:Tb}(hI:s.heap.get? I=some (kB f i a n ep))(h:Q (.ref I) s):wpAny (model prog w) A (pyIter (.ref I)) Q E s:=by refine zbM (El hI) mE (C5 mE (El hI) rY ?_ (uZ _));exact(show wpAny _ _ (ret (.ref I)) _ _ s from AN {_,rfl,"set_iterator",_,El hI,br.lookup,h})
end
variable  {prog:A9}{w:AM}
abbrev Nd (ord:T5 (Int×A3))(i:Nat)(x:A3):Prop:=(ord[i]?).map (·.2)=some x
def BX {A:AL}(hh:A.handled=none){led:A8}{I a:A4}(BC:a≠I){o:B0}{es:AD (Int×A3)}{ep:Nat}{t:SetTable}(hd:o.data=.set es ep t)(G:mq led es t)
  (ord:T5 (Int×A3)) (hl:ord.length=es.size) (sl:Nat->Nat)
  (hnx:∀i (s:A1) A' E' (Q':UE (A3×Nat)->A1->Prop),i<=es.size->s.heap.get? a=some o->Q' ((ord[i]?).map λe=>(e.2,sl (i+1))) s->wpAny (model prog w) A' (setNext a (sl i) i ep) Q' E' s) :
  Walks prog w A I [I,a] [I] ord.length (Nd ord) (λi h=>h.get? I=some (kB (.int (sl i) 0) i a es.size ep)/\h.get? a=some o) where
 sub:=λb hb=>by simp at hb;simp[hb]
 frame:=λ_ _ _ st hk=>{hk I ∅ _ st.1,hk a ∅ _ st.2}
 item:=λi s Q E hi st hQ=>by
  have hx:ord[i]?=some ord[i]:=Bl hi;refine JG4 (x:=ord[i].2) (sl':=sl (i+1)) st.1 st.2 hd G (λA' E' Q' q=>hnx i s A' E' Q' ∅ st.2 (by rw[hx];exact q)) λh' hI' hs=>?_;refine hQ _ h' s.toks (by simp[Nd,hx]) {hI',hs.extBut a o BC st.2} λb o hb e=>hs.extBut b o (λh=>hb (by simp[h])) e
 done:=λs Q E st hQ=>by
  refine Ms hh st.1 st.2 hd G (λA' E' Q' q=>hnx _ s A' E' Q' ∅ st.2 (by rw[zcm ∅];exact q)) λh' hk=>hQ h' s.toks hk
 self:=λ_ _ _ _ st hQ=>zr st.1 hQ
def Kf {A:AL}(hh:A.handled=none){led:A8}{I a tp:A4}(BC:a≠I)(hnt:tp≠I){o:B0}{es:AD (Int×A3)}{ep:Nat}{t:SetTable}(hd:o.data=.set es ep t)(G:mq led es t)
  (pl:T5 Nat) (hpl:∀p∈pl,p<es.size) :
  Walks prog w A I [I,a,tp] [I] pl.length (Nd (pl.filterMap (es[·]?))) (λi h=>h.get? I=some (kB (.ref tp) i a es.size ep)/\h.get? a=some o/\h.get? tp=some {cls:=.type "tuple",data:=.seq (pl.map λi:Nat=>rawInt i).toArray}) where
 sub:=λb hb=>by simp at hb;simp[hb]
 frame:=λ_ _ _ st hk=>{hk I ∅ _ st.1,hk a ∅ _ st.2.1,hk tp ∅ _ st.2.2}
 item:=λi s Q E hi st hQ=>by
  have hp:pl[i]?=some pl[i]:=Bl hi;have hx:es[pl[i]]?=some (es[pl[i]]'(hpl _ (HF hi))):=CB _
  have hmap:pl.filterMap (es[·]?)=pl.pmap (λp h=>es[p]'h) hpl:=by
   clear hQ st hp hx hi
   induction pl with
   |nil=>rfl
   |cons p ps ih=>rw[zbK (b:=es[p]'(hpl p ∅)) (CB _),ih (λq hq=>hpl q (by simp[hq]))];rfl
  refine JD6 st.1 st.2.2 st.2.1 hd G hp hx λh' hI' hs=>?_;refine hQ _ h' s.toks ?_ {hI',hs.extBut a o BC st.2.1,hs.extBut tp _ hnt st.2.2} λb o hb e=>hs.extBut b o (λh=>hb (by simp[h])) e;rw[hmap];simp[Nd,hp]
 done:=λs Q E st hQ=>JG5 hh st.1 st.2.2 st.2.1 hd G (B3 _) λh' hk=>hQ h' s.toks hk
 self:=λ_ _ _ _ st hQ=>zr st.1 hQ
def iz {es:AD (Int×A3)}{pl:T5 Nat}(h:pl.Perm (List.range es.size)):(pl.filterMap (es[·]?)).Perm es.toList :=
 (h.filterMap _).trans (by rw[filterMap_getElem?_range])
def yz {es:AD (Int×A3)}{pl:T5 Nat}(h:pl.Perm (List.range es.size)):(pl.filterMap (es[·]?)).length=pl.length:=by rw[(iz h).length_eq,h.length_eq];simp
noncomputable def pW (t:SetTable)(i:Nat):Nat:=if h:0<i/\i<=t.place.size then t.place[i-1]'∅+1 else 0
section
variable {prog:A9}{w:AM}{A:AL}{E:Tb}{s:A1}
def JD5 {a:A4}{o:B0}{es:AD (Int×A3)}{ep:Nat}{t:SetTable}{Q:Tb}(ho:s.heap.get? a=some o)(hx:o.ExactSet)(hd:o.data=.set es ep t)(G:mq (!bt w) es t)
  (h:∀(h':AI) (d:Drawn) (I:A4) (fp:Tf) (St:Nat->AI->Prop) (ord:T5 (Int×A3)),(∀A',A'.handled=none->Walks prog w A' I fp [I] ord.length (Nd ord) St)->St 0 h'->(∀b∈fp,b=a\/s.heap.objs.size<=b) ->
   (∀b o,s.heap.get? b=some o->h'.get? b=some o)->s.heap.objs.size<=I->ord.Perm es.toList->Q (.ref I) {s with heap:=h',drawn:=d}) :
  wpAny (model prog w) A (pyIter (.ref a)) Q E s:=by
 have An:=B4 ho;have hT:s.TypeIs (.ref a) "set":={o,ho,hx.1}
 have hpz:t.place.size=es.size:=by have:=G.ft;simp[fits] at this;exact this.1
 refine zbM hT F.slot_set_iter (C5 F.slot_set_iter hT uJ ?_ (F.args_set_iter_1 _));unfold Builtin.«frozenset.__iter__» Builtin.Frozenset.slot0 Builtin.Frozenset.sizeOf;refine AB (AB (show wpAny _ _ (pure (Value.ref a,([]:Te))) _ _ _ from AN (show wpAny _ _ (pure a) _ _ _ from AN ?_)));unfold setEntries;refine AB (AB (AB (Bi ho hd G.ft (AN (AN ?_)))));dsimp only;unfold setDrawn setsByText;refine AB (AB (Bi ho hd G.ft (AB (AB (G5 (AN (AN ?_)))))));dsimp only;split
 ·rename_i hc
  have D3:(!bt w&&(!t.plain&&decide (es.size>1)))=true:=hc;rwa[Ek] at D3;refine AB (JG9 es.size (List.range es.size) _ _ ∅ λpl d hp=>?_);unfold newTuple;refine AB (CN ?_ (show(pl.map λi:Nat=>rawInt i).toArray.size<=sizeLine by have:=fits_of_scanBound G.bd;rw[Bd,Az,hp.length_eq,List.length_range];exact this));unfold setEpoch;refine AB (AB (Bi (AY _ ho) hd G.ft (AN ?_)));unfold newFields;refine AB (CN (AN {_,rfl,"set_iterator",_,{_,BI _ rfl,rfl},br.lookup,?_}));have hz:(s.heap.push {cls:=.type "tuple",data:=.seq (pl.map λi:Nat=>rawInt i).toArray}).objs.size=s.heap.objs.size+1:=Du ..;refine h _ d _ [_,a,s.heap.objs.size] _ (pl.filterMap (es[·]?)) (λA' hA=>by rw[yz hp];exact Kf hA (I:=(s.heap.push {cls:=.type "tuple",data:=.seq (pl.map λi:Nat=>rawInt i).toArray}).objs.size) (tp:=s.heap.objs.size) (by rw[hz];exact BG (zbL An)) (by rw[hz];exact BG (zb2 _)) hd G pl (λp hp'=>by simpa using hp.mem_iff.mp hp')) ?_ ?_ ?_ ?_ (iz hp)
  ·exact{BI _ rfl,AY _ (AY _ ho),AY _ (BI _ rfl)}
  ·intro b hb
   rwa[BA,DV,or_false] at hb;rcases hb with rfl|rfl|rfl
   ·right;rw[hz];exact G7 _
   ·left;rfl
   ·right;exact B3 _
  ·exact λb o e=>AY _ (AY _ e)
  ·rw[hz];exact G7 _
 ·rename_i hc
  have D3:¬ (!bt w&&(!t.plain&&decide (es.size>1)))=true:=hc;refine AB (AN ?_);unfold setEpoch;refine AB (AB (Bi ho hd G.ft (AN ?_)));unfold newFields;refine AB (CN (AN {_,rfl,"set_iterator",_,{_,BI _ rfl,rfl},br.lookup,?_}));have kp:∀b o,s.heap.get? b=some o->(s.heap.push (kB (.int ((0:Nat):Int) 0) 0 a es.size ep)).get? b=some o:=λb o e=>AY _ e
  have fpo:∀b∈[s.heap.objs.size,a],b=a\/s.heap.objs.size<=b:=λb hb=>by
   rwa[BA,DV,or_false] at hb;rcases hb with rfl|rfl
   ·right;exact B3 _
   ·left;rfl
  cases hb:bt w with
  |true=>
   refine h _ s.drawn _ [s.heap.objs.size,a] _ (pickOrder (w.params.setOrder a ep) es).toList (λA' hA=>BX hA (BG An) hd G _ (by have:=(nD (w.params.setOrder a ep) es).length_eq;simpa using this) (λ_=>0) ?_) {BI _ rfl,kp _ _ ho} fpo kp (B3 _) (nD _ _);intro i s' A' E' Q' hi Bq q;exact JAg hb Bq hd G (by rw[GU] at q;exact q)
  |false=>
   rw[hb] at D3 G
   have Ee:(!t.plain&&decide (es.size>1))=false:=by simpa using D3
   refine h _ s.drawn _ [s.heap.objs.size,a] _ es.toList (λA' hA=>BX hA (BG An) hd G es.toList ∅ (pW t) ?_) {BI _ rfl,kp _ _ ho} fpo kp (B3 _) (List.Perm.refl _);intro i s' A' E' Q' hi Bq q
   have e1:pW t i=(if h:0<i then t.place[i-1]'∅+1 else 0):=by
    by_cases h0:0<i
    ·unfold pW;rw[dif_pos {h0,by omega},dif_pos h0]
    ·unfold pW;rw[dif_neg (λh=>h0 h.1),dif_neg h0]
   rw[e1];refine xZ hb rfl Bq hd G Ee hi hpz ?_
   by_cases An:i<es.size
   ·rw[dif_pos An]
    rw[GU,CB An] at q;rwa[G3] at q;unfold pW at q;rw[dif_pos {by omega,by omega}] at q;exact q
   ·rw[dif_neg An]
    rw[zcm (by simp;omega)] at q;exact q
def JHf {ord:T5 (Int×A3)}{acc:Ti}(h:ItemsOf (Nd ord) acc ord.length):acc.toList=ord.map (·.2):=by
 refine List.ext_getElem? λi=>?_;rw[CG,GU];rcases zcO i ord.length with hi|hi
 ·have hs:i<acc.size:=by rw[h.1];exact hi
  have:=h.2 i acc[i] (CB hs);rw[CB hs];exact this.symm
 ·rw[zcm hi,zcI (by rw[h.1];exact hi)];rfl
theorem JC4 {ord:T5 (Int×A3)}(h:∀e∈ord,M4 e):IntsAre (ord.map (·.2)) (ord.map val):=by
 induction ord with
 |nil=>exact .nil
 |cons e r ih=>
  let⟨n,t,rfl⟩:=h _ (BB ..);exact .cons n t (ih λe he=>h e (BF _ he))
def Ev {a : A4} {Q : A8 -> A1 -> Prop} (hT : s.TypeIs (.ref a) "set") (h : Q false s) : wpAny (model prog w) A (listLengthHint (.ref a)) Q E s := by
  unfold listLengthHint
  refine AB (zcy hT F.slot_set_len.lookup ?_)
  have Ew : splitId "set.__len__" = some ("set", "__len__") := by decide
  rwa[Ew]
  refine AB (HC hT sub_set_self ?_)
  simp only[E6, Bc, ↓reduceIte]
  refine (show wpAny _ _ (do let .ref _ ← typeOf (Value.ref a) | return false
                             let some k ← asInt? (← call (.builtin "len") [.ref a]) | unsupported "internal:len-gave-no-int"
                             return k != 0) _ _ _ from AB (FU hT (AN h)))
def tq {a:A4}{o:B0}{es:AD (Int×A3)}{ep:Nat}{t:SetTable}{Q:T5 A3->A1->Prop}(hh:A.handled=none)(ho:s.heap.get? a=some o)(hx:o.ExactSet)(hd:o.data=.set es ep t)(G:mq (!bt w) es t)
  (h:∀(ord:T5 (Int×A3)) (h':AI) (d:Drawn) (tk:Nat),ord.Perm es.toList->(∀b o,s.heap.get? b=some o->h'.get? b=some o)->s.toks<=tk->s.heap.objs.size<=h'.objs.size->Q (ord.map (·.2)) {s with heap:=h',drawn:=d,toks:=tk}) :
  wpAny (model prog w) A (collect (.ref a)) Q E s:=by
 have An:=B4 ho;unfold collect;refine AB (wpAny_runValue (DN F.entry_proto_collect ?_));rw[Dv F.plain_proto_collect _];refine(show wpAny _ A.in1 (newList [] >>=λl=>again (.builtin "list.__iadd__" {[l,.ref a],[]})) _ _ s from AB (CN ?_));refine AN {F5 F.plain_list_iadd _,DN F.entry_list_iadd ?_};rw[Dv F.plain_list_iadd _];refine(show wpAny _ A.in1 (listExtendWith (.ref s.heap.objs.size) (.ref a) (.ref s.heap.objs.size)) _ _ _ from ?_);unfold listExtendWith;have ho1:(s.heap.push {cls:=.type "list",data:=.seq ([]:Te).toArray}).get? a=some o:=AY _ ho;have hT:Shared.TypeIs {s with heap:=s.heap.push {cls:=.type "list",data:=.seq ([]:Te).toArray}} (.ref a) "set":={o,ho1,hx.1};refine AB (FU hT ?_)
 have h1:listSameRef (.ref s.heap.objs.size) (.ref a)=false:=by simp[listSameRef,D4 An]
 rwa[h1,show(Value.type "set" == Value.type "list")=false by decide,show(Value.type "set" == Value.type "tuple")=false by decide,Bool.or_false,Bc,if_false];refine AB (JD5 ho1 hx hd G λh1 d I fp St ord W st hfp kp hI Dm=>?_);have hTa:Shared.TypeIs {s with heap:=h1,drawn:=d} (.ref a) "set":={o,kp _ _ ho1,hx.1};refine AB (Bg (Ev hTa ?_))
 refine(show wpAny _ A.in1 (rule "list.extend.makes-room" >>=λ_=>listTouch (.ref s.heap.objs.size) >>=λ_=>
  again (.builtin "list.extend.loop" {[.ref s.heap.objs.size,.ref I,.ref s.heap.objs.size],[]})) _ _ _ from AB (GC (AB ?_)))
 have hL:h1.get? s.heap.objs.size=some {cls:=.type "list",data:=.seq ([]:Te).toArray}:=kp _ _ (BI _ rfl);have hsz:(s.heap.push {cls:=.type "list",data:=.seq ([]:Te).toArray}).objs.size=s.heap.objs.size+1:=Du ..
 have Bh:s.heap.objs.size∉fp:=λhm=>by
  rcases hfp _ hm with e|e
  ·exact C4 _ (e ▸ An)
  ·rw[hsz] at e;exact C4 _ e
 refine(show wpAny _ A.in1 (updateSeq s.heap.objs.size (·.push .none) >>=λ_=>updateSeq s.heap.objs.size (·.pop)) _ _ _ from AB (zcS hL rfl ?_));have hL2:=Dw (Obj.mapSeq (·.push Value.none)) hL rfl;refine zcS (s:={s with heap:=_,drawn:=d}) hL2 rfl ?_;have hL3:=Dw (Obj.mapSeq (·.pop)) hL2 rfl
 have oth:∀b o,b≠s.heap.objs.size->h1.get? b=some o->((h1.update s.heap.objs.size (Obj.mapSeq (·.push Value.none))).update s.heap.objs.size (Obj.mapSeq (·.pop))).get? b=some o :=
  λb o hb e=>(CV _ _ (Ne.symm hb)).trans ((CV _ _ (Ne.symm hb)).trans e)
 have W1:=W A.in1 (show A.in1.handled=none from hh)
 have Ez:ord.length=es.size:=by have:=Dm.length_eq;simpa using this
 refine AN {F5 F.plain_extend_loop _,codeAny_extend_loopS W1.toS (by rw[Ez];exact fits_of_scanBound G.bd) _ Bh _ ord.length 0 _ _ _ rfl (Cy _)
  (W1.frame 0 h1 _ st λb hb o e=>oth b o (λq=>Bh (q ▸ hb)) e) hL3 (ItemsOf.nil _) λs' acc c hm Fq DJ=>?_}
 refine(show wpAny _ A (load s.heap.objs.size >>= _) _ _ s' from AB (wpAny_load Fq ?_));dsimp only;let⟨h',g',d',Br,Hn⟩:=s';have eg:g'=s.gens:=hm.gens;have ed:d'=d:=hm.drawn;have eo:Hn=s.os:=hm.os;subst eg;subst ed;subst eo;refine AN ?_;rw[JHf DJ];refine h ord h' d' Br Dm (λb o e=>hm.heap b o (λhb=>?_) (oth b o (λq=>?_) (kp _ _ (AY _ e)))) hm.toks (GA (B4 Fq))
 ·have K3:=B4 e
  rwa[BA,DV,or_false] at hb;rcases hb with q|q
  ·exact C4 _ (q ▸ K3)
  ·rw[hsz,←q] at hI;exact C4 _ (C1 K3 (Nat.le_of_succ_le hI))
 ·exact C4 _ (q ▸ B4 e)
def wX {a:A4}{o:B0}{xs:Th}{Q:T5 A3->A1->Prop}(hh:A.handled=none)(ho:s.heap.get? a=some o)(hS:df (!bt w) o xs)
  (h:∀(vs:Te) (ns:Th) (h':AI) (d:Drawn) (tk:Nat),IntsAre vs ns->ns.Perm xs->(∀b o,s.heap.get? b=some o->h'.get? b=some o)->s.toks<=tk->s.heap.objs.size<=h'.objs.size->Q vs {s with heap:=h',drawn:=d,toks:=tk}) :
  wpAny (model prog w) A (collect (.ref a)) Q E s:=by
 let⟨es,ep,t,hx,hd,G⟩:=hS;exact tq hh ho hx hd G.w λord h' d tk Dm k1 k2 k3=>h _ _ h' d tk (JC4 λe he=>G.el e (Dm.mem_iff.mp he)) ((Dm.map val).trans G.pm) k1 k2 k3
def xI {a:A4}{o:B0}{xs:Th}{Q:Tb}(hh:A.handled=none)(ho:s.heap.get? a=some o)(hS:df (!bt w) o xs)(CJ:xs.length<64)
  (h:∀(out:Ti) (ns:Th) (h':AI) (d:Drawn) (tk:Nat) (l:A4) (c:Nat),IntsAre out.toList ns->ns.Perm xs->ns.Pairwise (·<=·)->(∀b o,s.heap.get? b=some o->h'.get? b=some o)->s.toks<=tk ->
   s.heap.objs.size<=l->h'.get? l=some (seqObj "list" out c)->Q (.ref l) {s with heap:=h',drawn:=d,toks:=tk}) :
  wpAny (model prog w) A (call (.builtin "sorted") [.ref a]) Q E s:=by
 refine Calls.call_function_entry kind_sorted plain_sorted entry_sorted (args_sorted1 _) ?_;unfold Builtin.«sorted»;refine AB (m:=checkCount "sorted" 1 1 _) (AN (AB (wX (show A.in1.handled=none from hh) ho hS λvs ns h' d tk hI hp kp ht hge=>?_)))
 have hvl:vs.length=xs.length:=by rw[IntsAre.length hI,hp.length_eq]
 refine AB (zc4 ?_ (by rw[hvl,CK];omega));have Dp:(h'.push (seqObj "list" vs.toArray 0)).get? h'.objs.size=some (seqObj "list" vs.toArray 0):=BI _ rfl;refine AB (Bg (C5 (s:={s with heap:=h'.push (seqObj "list" vs.toArray 0),drawn:=d,toks:=tk}) slot_list_sort {_,Dp,rfl} entry_list_sort (list_sort_tree Dp hI ∅ λout ns' a1 a2 a3=>{_,rfl,?_}) (args_list_sort _)))
 obtain⟨c,hc⟩:∃c,(sortedHeap (h'.push (seqObj "list" vs.toArray 0)) h'.objs.size vs out).get? h'.objs.size=some (seqObj "list" out c):=by
  unfold sortedHeap;obtain⟨e1,q1⟩:∃e1,((h'.push (seqObj "list" vs.toArray 0)).update h'.objs.size (Obj.mapSeq λ_=>#[])).get? h'.objs.size=some (seqObj "list" #[] e1):={_,get?_update_seq Dp (λ_=>#[])};exact{_,get?_update_seq (AY _ (AY _ q1)) (λ_=>out)}
 refine AN {_,rfl,h out ns' _ d tk h'.objs.size c a1 (a2.trans hp) a3 (λb o e=>?_) ht hge hc};have hb:=kp b o e;have ne:h'.objs.size≠b:=D4 (B4 hb);unfold sortedHeap;rw[CV _ _ ne];refine AY _ (AY _ ?_);rw[CV _ _ ne];exact AY _ hb
end
noncomputable def Cv (M i:Nat):Nat:=(i*5+1)%M
noncomputable def FH (M:Nat):Nat->Nat->Nat
 |0,i=>i
 |t+1,i=>FH M t (Cv M i)
theorem pj (M:Nat):∀s t i,FH M (s+t) i=FH M t (FH M s i)
 |0,t,i=>by rw[zcn];rfl
 |s+1,t,i=>by rw[Nat.succ_add];exact pj M s t _
noncomputable def cV:T5 Nat:=[7,15,31,63,127,255]
def JC5:∀m∈cV,FH (m+1) (m+1) 0=0:=by decide
def vW:∀m∈cV,∀j<m+1,∃t<m+1,FH (m+1) t 0=j:=by
 have:∀m∈cV,∀j<m+1,((List.range (m+1)).any λt=>FH (m+1) t 0 == j)=true:=by decide
 intro m hm j hj;let⟨t,ht,e⟩:=HB.mp (this m hm j hj);exact{t,by simpa using ht,by simpa using e}
def zK {m:Nat}(hm:m∈cV){i j:Nat}(hi:i<m+1)(hj:j<m+1):∃t<m+1,FH (m+1) t i=j:=by
 let⟨s,hs,rfl⟩:=vW m hm i hi;let⟨t,ht,rfl⟩:=vW m hm j hj;rcases zcO t s with h|h
 ·refine{m+1-s+t,by omega,?_};rw[←pj,show s+(m+1-s+t)=(m+1)+t by omega,pj,JC5 m hm]
 ·refine{t-s,by omega,?_};rw[←pj,show s+(t-s)=t by omega]
theorem qF (m:Nat)(owner:AD (UE Nat)):∀fuel i p r,layClean.free m owner fuel i p=some r->owner[r]?=some none
 |0,i,p,r,e=>by simp[layClean.free] at e
 |fuel+1,i,p,r,e=>by
  unfold layClean.free at e;split at e
  ·rename_i k hk
   cases e;have:=zde hk;rwa[Array.getD] at this
   split at this
   ·rename_i An;rw[CB An];simpa using this
   ·simp at this
  ·exact qF m owner fuel _ _ r e
noncomputable def iL (m:Nat):Nat->Nat->Nat->Nat×Nat
 |0,i,p=>(i,p)
 |t+1,i,p=>iL m t (leap m i p).1 (leap m i p).2
theorem sQ (m:Nat)(owner:AD (UE Nat)):∀fuel i p,layClean.free m owner fuel i p=none->∀t<fuel,owner[(iL m t i p).1]?≠some none
 |0,i,p,_,t,ht=>by omega
 |fuel+1,i,p,e,t,ht=>by
  unfold layClean.free at e;split at e
  ·cases e
  ·rename_i hk
   cases t with
   |zero=>
    intro hq;have h0:=List.find?_eq_none.mp hk 0 (by have:i<=runEnd m i:=(by unfold runEnd;split <;> omega);simp;omega)
    rwa[iL] at hq;let⟨An,hq⟩:=zct.mp hq;simp[Array.getD,An,hq] at h0
   |succ t=>exact sQ m owner fuel _ _ e t ∅
theorem xN (m:Nat):∀t i p,(iL m t i p).2=p / 32 ^ t
 |0,i,p=>by simp[iL]
 |t+1,i,p=>by unfold iL;rw[xN m t];rwa[leap];rw[Nat.div_div_eq_div_mul,Nat.pow_succ,Nat.mul_comm]
theorem p4 (m:Nat):∀s t i p,iL m (s+t) i p=iL m t (iL m s i p).1 (iL m s i p).2
 |0,t,i,p=>by rw[zcn];rfl
 |s+1,t,i,p=>by rw[Nat.succ_add];exact p4 m s t _ _
theorem nA (m:Nat):∀t i,(iL m t i 0).1=FH (m+1) t i
 |0,i=>rfl
 |t+1,i=>by
  have e:leap m i 0=(Cv (m+1) i,0):=by simp[leap,Cv]
  unfold iL FH;rw[e];exact nA m t _
theorem t0 (m:Nat):∀t i p,i<m+1->(iL m t i p).1<m+1
 |0,i,p,h=>h
 |t+1,i,p,h=>t0 m t _ _ (zc7 _ ∅)
theorem JGh {m:Nat}(hm:m∈cV){owner:AD (UE Nat)}(h:Int){j:Nat}(hj:j<m+1)(hf:owner[j]?=some none) :
  ∃r,layClean.free m owner (turns m) (bits h%(m+1)) (bits h)=some r/\owner[r]?=some none:=by
 cases e:layClean.free m owner (turns m) (bits h%(m+1)) (bits h) with
 |some r=>exact{r,rfl,qF m owner _ _ _ r e}
 |none=>
  exfalso
  have hn:=sQ m owner _ _ _ e
  have hb:bits h<2 ^ 64:=by
   unfold bits;have:=zcC h (show(0:Int)<2 ^ 64 by decide);have:=zcT h (show(2 ^ 64:Int)≠0 by decide);omega
  have hp:(iL m 13 (bits h%(m+1)) (bits h)).2=0:=by
   rw[xN];exact Nat.div_eq_of_lt (HG hb ∅)
  have hi:(iL m 13 (bits h%(m+1)) (bits h)).1<m+1:=t0 m _ _ _ (zc7 _ ∅);let⟨t,ht,e⟩:=zK hm hi hj;refine hn (13+t) (by unfold turns;omega) ?_;rw[p4,hp,nA,e];exact hf
noncomputable def f7 (M:Nat)(owner:AD (UE Nat)):T5 (Nat×Nat):=(List.range M).filterMap λj=>(owner.getD j none).map (j,·)
theorem Ab {Z β:Type}{f g:Z->UE β}:∀{l:T5 Z},(∀y∈l,g y=f y)->l.filterMap g=l.filterMap f
 |[],_=>rfl
 |x::l,h=>by have ih:=Ab (l:=l) λy hy=>h y (by simp[hy]);rwa[zcv,h x ∅,ih]
theorem EC {f g:Nat->UE (Nat×Nat)}{j:Nat}{v:Nat×Nat}(hf:f j=none)(hg:g j=some v)(hx:∀x,x≠j->g x=f x):∀{l:T5 Nat},l.Nodup->j∈l->(l.filterMap g).Perm (v::l.filterMap f)
 |[],_,h=>by simp at h
 |x::l,hn,h=>by
  let⟨h1,h2⟩:=By.mp hn;by_cases e:x=j
  ·subst e;have:l.filterMap g=l.filterMap f:=Ab λy hy=>hx y λz=>h1 (z ▸ hy);rw[zbK hg,zcD hf,this]
  ·have hj:j∈l:=by
    rcases BA.mp h with q|q
    ·exact AJ q.symm e
    ·exact q
   have ih:=EC hf hg hx h2 hj
   cases q:f x with
   |none=>rw[zcD (by rw[hx x e];exact q),zcD q];exact ih
   |some u=>
    rw[zbK (by rw[hx x e];exact q),zbK q];exact(ih.cons u).trans (.swap _ _ _)
def JCu {M k r:Nat}{owner:AD (UE Nat)}(hs:owner.size=M)(hr:owner[r]?=some none):(f7 M (owner.setIfInBounds r (some k))).Perm ((r,k)::f7 M owner):=by
 let⟨An,hq⟩:=zct.mp hr;refine EC (j:=r) (v:=(r,k)) ?_ ?_ ?_ zc9 (G0.mpr ∅)
 ·simp[Array.getD,An,hq]
 ·simp[Array.getD,An]
 ·intro x hx;rwa[Array.getD,Array.size_setIfInBounds];split
  ·rename_i h;have e:(owner.setIfInBounds r (some k))[x]'‹h›=owner[x]:=Array.getElem_setIfInBounds_ne _ (Ne.symm hx);exact AQ _ e
  ·rfl
def JAk {M:Nat}{owner:AD (UE Nat)}(hs:owner.size=M)(h:∀j<M,owner[j]?≠some none):(f7 M owner).length=M:=by
 have:∀l:T5 Nat,(∀j∈l,j<M)->(l.filterMap λj=>(owner.getD j none).map (j,·)).length=l.length:=by
  intro l;induction l with
  |nil=>intro _;rfl
  |cons x l ih=>
   intro hl;have hx:=hl x ∅;have An:x<owner.size:=by omega
   cases q:owner[x] with
   |none=>exact AJ (by rw[CB An,q]) (h x hx)
   |some v=>
    rw[zbK (b:=(x,v)) (by simp[Array.getD,An,q])];rw[C0,ih λj hj=>hl j (by simp[hj]),C0]
 have:=this (List.range M) ∅;simpa[f7] using this
theorem Aa {m:Nat}(hm:m∈cV):∀(hs:Th) (owner:AD (UE Nat)) (k:Nat),owner.size=m+1->((f7 (m+1) owner).map (·.2)).Perm (List.range k)->k+hs.length<=m+1 ->
  ∃Dg,(hs.foldl (init:=some (owner,k)) λacc h=>do
   let (owner,k) ←acc
   let j ←layClean.free m owner (turns m) (bits h%(m+1)) (bits h)
   pure (owner.setIfInBounds j (some k),k+1))=some (Dg,k+hs.length)/\Dg.size=m+1/\((f7 (m+1) Dg).map (·.2)).Perm (List.range (k+hs.length))
 |[],owner,k,h1,h2,h3=>{owner,by simp,h1,by simpa using h2}
 |h::hs,owner,k,h1,h2,h3=>by
  have hex:∃j,j<m+1/\owner[j]?=some none:=by
   refine Classical.byContradiction λhc=>?_;have:=JAk h1 λj hj q=>hc {j,hj,q};have h4:=h2.length_eq;simp at h4 h3;omega
  let⟨j,hj,hf⟩:=hex;let⟨r,e,hr⟩:=JGh hm h hj hf
  have ih:=Aa hm hs (owner.setIfInBounds r (some k)) (k+1) ‹h1› (by
   refine((JCu h1 hr).map (·.2)).trans ?_;rw[AZ,List.range_succ]
   exact(h2.cons k).trans (List.perm_append_singleton k _).symm) (by simp at h3;omega)
  let⟨o',e1,e2,e3⟩:=ih;refine{o',?_,e2,?_}
  ·rw[E8]
   rwa[bind,Option.bind,e,pure];rw[show k+(h::hs).length=k+1+hs.length by simp;omega];exact e1
  ·rw[show k+(h::hs).length=k+1+hs.length by simp;omega];exact e3
def JEw {m:Nat}(hm:m∈cV)(hs:AD Int)(hl:hs.size<=m+1):∃owner,layClean m hs=some owner/\owner.size=m+1/\((f7 (m+1) owner).map (·.2)).Perm (List.range hs.size):=by
 let⟨o,e1,e2,e3⟩:=Aa hm hs.toList (Array.replicate (m+1) none) 0 ∅ (by
  have:f7 (m+1) (Array.replicate (m+1) none)=[]:=by unfold f7;rw[List.filterMap_eq_nil_iff];intro j hj;simp at hj;simp[Array.getD,hj]
  rw[this];exact .refl _) ‹hl›
 refine{o,?_,e2,by simpa using e3};unfold layClean;rw[←Array.foldl_toList,e1];rfl
def zT {m finger moves:Nat}{led plain:A8}(hm:m∈cV)(hs:AD Int)(hl:hs.size<=m) :
  ∃t o,laid m finger moves led plain hs=some (t,o)/\o.toList.Perm (List.range hs.size)/\t.fits hs.size=true/\t.place.toList.Pairwise (·<·)/\t.led=led/\t.plain=plain/\t.mask=m/\t.dummies = #[]/\t.place.size=hs.size:=by
 let⟨owner,e,e2,e3⟩:=JEw hm hs ∅
 have hlen:(f7 (m+1) owner).length=hs.size:=by have:=e3.length_eq;simpa using this
 have Hb:laid m finger moves led plain hs=some (({mask:=m,place:=((f7 (m+1) owner).map (·.1)).toArray,dummies:=#[],finger,led,moves,plain}:SetTable),((f7 (m+1) owner).map (·.2)).toArray):=by
  unfold laid;rw[e];rfl
 refine{_,_,Hb,by simpa using e3,?_,(lX Hb).1,rfl,rfl,rfl,rfl,by simpa using hlen};simp[fits,SetTable.fill,hlen];omega
def xk:∀n<256,sizeAbove n-1∈cV/\n<sizeAbove n/\sizeAbove n<=256:=by decide
def cZ.perm {led:A8}{es:AD (Int×A3)}{t:SetTable}{xs ys:Th}(g:cZ led es t xs)(p:xs.Perm ys):cZ led es t ys :=
 {g.el,g.pm.trans p,p.nodup_iff.mp g.nd,g.bd,g.ft,g.rs,g.ld}
def cZ.place {led:A8}{es:AD (Int×A3)}{t:SetTable}{xs:Th}(g:cZ led es t xs):t.place.size=es.size/\t.fill<=t.mask:=by have:=g.ft;simp[fits] at this;exact this
section
variable {prog:A9}{w:AM}{A:AL}{E:Tb}{s:A1}
def v9 {led l' plain:A8}{es:AD (Int×A3)}{t:SetTable}{xs:Th}(G:cZ led es t xs){m finger moves:Nat}(hm:m∈cV)(hl:xs.length<=m)(Gj:l'=led) :
  ∃t' o,laid m finger moves l' plain (es.map (·.1))=some (t',o)/\cZ led (o.filterMap (es[·]?)) t' xs/\(o.filterMap (es[·]?)).size=es.size/\t'.mask=m/\t'.dummies = #[]:=by
 have hz:=df.len G;let⟨t',o,e,h1,h2,h3,h4,h5,h6,h7,h8⟩:=zT (finger:=finger) (moves:=moves) (led:=l') (plain:=plain) hm (es.map (·.1)) (by rw[zc0];omega);rw[zc0] at h1 h2 h8
 have hp:(o.filterMap (es[·]?)).toList.Perm es.toList:=by rw[Array.toList_filterMap];exact iz h1
 have hsz:(o.filterMap (es[·]?)).size=es.size:=by have:=hp.length_eq;(rw[DS,DS] at this;assumption)
 exact{t',o,e,{λx hx=>G.el x (hp.mem_iff.mp hx),(hp.map val).trans G.pm,G.nd,by rw[hsz];exact G.bd,by rw[hsz];exact h2,λ_=>h3,h4.trans Gj},hsz,h6,h7}
def JCj {led:A8}{a:A4}{o:B0}{es:AD (Int×A3)}{ep:Nat}{t:SetTable}{xs:Th}{wanted:Nat}{Q:Unit->A1->Prop}(ho:s.heap.get? a=some o)(hx:o.ExactSet)(hd:o.data=.set es ep t)(G:cZ led es t xs)(hw:wanted<256)(hl:xs.length<=wanted)
  (h:∀h' BE t',Heap.SameBut a s.heap h'->h'.get? a=some {o with data:=.set BE (ep+1) t'}->cZ led BE t' xs->t'.mask∈cV->wanted<=t'.mask->t'.dummies = #[]->Q () {s with heap:=h'}) :
  wpAny (model prog w) A (setRelay a wanted) Q E s:=by
 obtain⟨m1,m2,m3⟩:=xk wanted hw;unfold setRelay;refine AB (Bi ho hd G.ft ?_);dsimp only;rw[A5 (by rw[CK];omega)];obtain⟨t',ord,e,G',hsz,hm,hdm⟩:=v9 (l':=t.led) (plain:=t.plain) (finger:=t.finger) (moves:=t.movedTo (sizeAbove wanted-1)) G m1 ∅ G.ld;have e':t.relaid (es.map (·.1)) wanted=some (t',ord):=e;rw[e'];refine AB (show wpAny _ _ (if ((ord.filterMap (es[·]?)).size != es.size)=true then (do unsupported "internal:set-table-lost-an-element";pure (ord.filterMap (es[·]?),t')) else pure (ord.filterMap (es[·]?),t')) _ _ _ from ?_);rw[A5 (by simp[hsz])];refine AN (dj ho hx hd G'.bd λh' b1 g1=>?_);exact h h' _ t' b1 g1 G' (by rw[hm];exact m1) (by rw[hm];omega) hdm
def JF0 {led:A8}{a:A4}{o:B0}{es:AD (Int×A3)}{ep:Nat}{t:SetTable}{xs:Th}{more:Nat}{Q:Unit->A1->Prop}(ho:s.heap.get? a=some o)(hx:o.ExactSet)(hd:o.data=.set es ep t)(G:cZ led es t xs)(hw:xs.length+more<128)
  (h:∀h' BE Gn t',Heap.SameBut a s.heap h'->h'.get? a=some {o with data:=.set BE Gn t'}->cZ led BE t' xs->((t'=t/\(t.fill+more)*5<t.mask*3)\/(t'.mask∈cV/\xs.length+more<=t'.mask/\t'.dummies = #[]))->Q () {s with heap:=h'}) :
  wpAny (model prog w) A (setRoomFor a more) Q E s:=by
 have hz:=df.len G;have hpl:=G.place;unfold setRoomFor;refine AB (Bi ho hd G.ft ?_);dsimp only;unfold roomFor
 by_cases hc:(t.fill+more)*5 >= t.mask*3
 ·rw[A7 hc]
  dsimp only;refine JCj ho hx hd G ∅ ∅ λh' BE t' b g G' m1 m2 m3=>h h' BE _ t' b g G' (.inr {m1,by omega,m3})
 ·rw[A5 hc]
  dsimp only;refine AN ?_
  have e:s={s with heap:=s.heap}:=by cases s;rfl
  have hoo:s.heap.get? a=some {o with data:=.set es ep t}:=by rw[ho];let⟨c1,c2,c3,c4⟩:=o;simp only at hd;subst hd;rfl
  rw[e];exact h s.heap es ep t (Heap.SameBut.refl a s.heap) hoo G (.inl {rfl,by omega})
end
def JA0 {xs ys:Th}(p:xs.Perm ys)(k:Int):(cJ xs k).Perm (cJ ys k):=by
 unfold cJ;by_cases h:k∈xs
 ·rw[A7 h,A7 (p.mem_iff.mp h)];exact p
 ·rw[A5 h,A5 (λq=>h (p.mem_iff.mpr q))];exact p.append (.refl _)
def JAz (xs:Th)(a b:Int):(cJ (cJ xs a) b).Perm (cJ (cJ xs b) a):=by
 have h1:∀x k,k∈cJ xs x ↔ k∈xs\/k=x:=λx k=>by
  unfold cJ;split
  ·rename_i h;exact{.inl,λq=>q.elim id λe=>e ▸ h}
  ·simp
 by_cases ha:a∈xs
 ·by_cases hb:b∈xs
  ·simp[cJ,ha,hb]
  ·simp[cJ,ha,hb]
 ·by_cases hb:b∈xs
  ·simp[cJ,ha,hb]
  ·by_cases e:a=b
   ·subst e;exact .refl _
   ·have e1:cJ (cJ xs a) b=xs++([a]++[b]):=by
     have:b∉xs++[a]:=by simp[hb,Ne.symm e]
     rw[show cJ xs a=xs++[a] by simp[cJ,ha]];unfold cJ;rw[A5 this,EA]
    have e2:cJ (cJ xs b) a=xs++([b]++[a]):=by
     have:a∉xs++[b]:=by simp[ha,e]
     rw[show cJ xs b=xs++[b] by simp[cJ,hb]];unfold cJ;rw[A5 this,EA]
    rw[e1,e2];exact(List.Perm.refl xs).append (.swap _ _ _)
theorem sI:∀{ns:Th} {xs ys:Th},xs.Perm ys->(aL xs ns).Perm (aL ys ns)
 |[],_,_,p=>p
 |n::ns,_,_,p=>sI (ns:=ns) (JA0 p n)
theorem JDb {ns ms:Th}(p:ns.Perm ms):∀(xs:Th),(aL xs ns).Perm (aL xs ms):=by
 induction p with
 |nil=>exact λ_=>.refl _
 |cons x _ ih=>exact λxs=>ih _
 |swap x y l=>exact λxs=>sI (JAz xs y x)
 |trans _ _ h1 h2=>exact λxs=>(h1 xs).trans (h2 xs)
def zO {ns:Th}(h:ns.Nodup):(aL [] ns).Perm ns:=by
 have:∀{es acc:Th},(acc++es).Nodup->aL acc es=acc++es:=by
  intro es;induction es with
  |nil=>intro acc _;simp[aL]
  |cons e es ih=>
   intro acc h;have hn:e∉acc:=λhe=>by rw[F9] at h;exact h.2.2 e he e ∅ rfl
   have:=ih (acc:=acc++[e]) ‹h›;rwa[aL,E8,cJ,A5 hn] at this ⊢;rw[this];simp
 rw[this ‹h›];simp
theorem lh:∀(ns xs:Th),(aL xs ns).length<=xs.length+ns.length
 |[],xs=>by simp[aL]
 |n::ns,xs=>by have h1:=lh ns (cJ xs n);have h2:=qj xs n;rwa[aL,E8,C0] at h1 ⊢;omega
section
variable {prog:A9}{w:AM}{A:AL}{E:Tb}{s:A1}
def JGj {led:A8}{r:A4}{or oo:B0}{es eo:AD (Int×A3)}{ep eq:Nat}{ts to:SetTable}{ys:Th}{Q:Unit->A1->Prop}(hr:s.heap.get? r=some or)(EF:or.ExactSet)(D3:or.data=.set es ep ts)(Gr:cZ led es ts [])
  (hm:ts.mask∈cV) (hdm:ts.dummies = #[]) (hl:ys.length<=ts.mask) (Ef:oo.data=.set eo eq to) (Go:cZ led eo to ys)
  (h:∀h' o',Heap.SameBut r s.heap h'->h'.get? r=some o'->df led o' ys->Q () {s with heap:=h'}) {k:Sem Unit} :
  wpAny (model prog w) A (match ts.road to with
   |.slotForSlot=>storeSet r eo {to with finger:=ts.finger,led:=ts.led&&to.led,moves:=ts.moves,plain:=ts.plain&&to.plain}
   |.clean=>do
    let (es,t) ←(do
     let some (t,order):=laid ts.mask ts.finger ts.moves (led:=ts.led&&to.led) (plain:=ts.plain&&to.plain) (eo.map (·.1))|unsupported "internal:set-table-without-room"
     let BE:=order.filterMap (eo[·]?)
     if BE.size != eo.size then unsupported "internal:set-table-lost-an-element"
     pure (BE,t):Sem (AD (Int×A3)×SetTable))
    storeSet r es t
   |.oneByOne=>k) Q E s:=by
 have Fj:es.size=0:=df.len Gr
 have hpz:ts.place.size=0:=by rw[Gr.place.1,Fj]
 have Fh:ts.fill=0:=by unfold SetTable.fill;rw[hpz,hdm];rfl
 have DG:(ts.led&&to.led)=led:=by rw[Gr.ld,Go.ld];simp
 unfold road;rw[Fh];rwa[bne_self_eq_false,Bc,if_false]
 by_cases hc:(ts.mask == to.mask&&to.dummies.isEmpty)=true
 ·rw[A7 hc]
  refine dj hr EF D3 Go.bd λh' b g=>h h' _ b g {eo,_,_,EF,rfl,{Go.el,Go.pm,Go.nd,Go.bd,Go.ft,λhp=>?_,DG}};rwa[Ek] at hp;exact Go.rs hp.2
 ·rw[A5 hc]
  dsimp only;let⟨t',ord,e,G',hsz,F2,hdm'⟩:=v9 (l':=ts.led&&to.led) (plain:=ts.plain&&to.plain) (finger:=ts.finger) (moves:=ts.moves) Go hm hl DG;rw[e];dsimp only;rw[A5 (by simp[hsz])];refine AB (AN (dj hr EF D3 G'.bd λh' b g=>h h' _ b g {_,_,t',EF,rfl,G'}))
def JDc {sets:Tf}{Q:A8->A1->Prop}(h:∀a∈sets,∃o es ep t,s.heap.get? a=some o/\o.data=.set es ep t/\t.fits es.size=true/\∀e∈es.toList,M4 e)(hQ:Q true s):wpAny (model prog w) A (setsQuiet sets) Q E s:=by
 unfold setsQuiet;refine AB (zcL _ (λrest b s'=>b=(none,())/\s'=s/\∀a∈rest,a∈sets) _ ?_ ?_ _ _ {rfl,rfl,λa ha=>ha})
 ·rintro a rest b s' ⟨rfl,rfl,hs⟩;let⟨o,es,ep,t,ho,hd,hf,he⟩:=h a (hs a ∅);unfold setEntries;refine AB (AB (Bi ho hd hf (AN (AB ?_))));dsimp only;refine forIn_array_ _ (λrest b GY=>b=(none,())/\GY=s'/\∀e∈rest,M4 e) _ ?_ ?_ _ _ {rfl,rfl,he}
  ·rintro e rest' b GY ⟨rfl,rfl,hE⟩;let⟨n,tk,rfl⟩:=hE e ∅;exact AN {rfl,rfl,λe he=>hE e (by simp[he])}
  ·rintro b GY ⟨rfl,rfl,_⟩;exact AN {rfl,rfl,λa ha=>hs a (by simp[ha])}
 ·rintro b s' ⟨rfl,rfl,_⟩;exact AN hQ
def JA4 {led:A8}(DG:led = !bt w){r o:A4}(BC:r≠o){or oo:B0}{es eo:AD (Int×A3)}{ep eq:Nat}{ts to:SetTable}{xs ys:Th}{Q:AD (Int×A3)->A1->Prop}(hr:s.heap.get? r=some or)(EF:or.ExactSet)(D3:or.data=.set es ep ts)(Gr:cZ led es ts xs)
  (ho:s.heap.get? o=some oo) (Ef:oo.data=.set eo eq to) (Go:cZ led eo to ys)
  (h:∀ord h' o' d,ord.toList.Perm eo.toList->Heap.SameBut r s.heap h'->h'.get? r=some o'->df led o' xs->Q ord {s with heap:=h',drawn:=d}) :
  wpAny (model prog w) A (setWalkUnseen o [r] (some r)) Q E s:=by
 have hS:df led or xs:={es,ep,ts,EF,D3,Gr};have same:∀(ord:AD (Int×A3)) d,ord.toList.Perm eo.toList->Q ord {s with drawn:=d}:=λord d p=>h ord s.heap or d p (Heap.SameBut.refl r s.heap) hr hS;unfold setWalkUnseen;refine AB (Bi ho Ef Go.ft ?_);dsimp only;unfold setsByText;refine AB (AB (G5 (AN ?_)));dsimp only;have hbt:(model prog w).w.params.followText "set-order" = bt w:=rfl;rw[hbt]
 by_cases hc:(bt w || (to.led&&to.plain) || decide (eo.size<=1))=true
 ·rw[A7 hc]
  unfold setWalk setsByText;refine AB (Bi ho Ef Go.ft ?_);dsimp only;refine AB (AB (G5 (AN ?_)));dsimp only;rw[hbt]
  cases hb:bt w with
  |true=>
   simp only[↓reduceIte];exact AB (G5 (AN (same _ s.drawn (nD _ _))))
  |false=>
   simp only[Bc,↓reduceIte];rw[hb] at hc DG;split
   ·rename_i Ee
    have Ee:(!to.plain&&decide (eo.size>1))=true:=Ee;rwa[Ek,Bool.not_eq_true',decide_eq_true_eq] at Ee
    exfalso
    simp[Ee.1] at hc;omega
   ·refine AB (show wpAny _ _ (if (!to.led&&decide (eo.size>1))=true then unsupported "set:maker-not-led" else pure ()) _ _ _ from ?_)
    rw[A5 (by rw[Go.ld,DG];simp)];exact AN (AN (same eo s.drawn (.refl _)))
 ·rw[A5 hc]
  refine AB (JDc (λb hb=>?_) ?_)
  ·rwa[BA,DV,or_false] at hb
   rcases hb with rfl|rfl
   ·exact{oo,eo,eq,to,ho,Ef,Go.ft,Go.el}
   ·exact{or,es,ep,ts,hr,D3,Gr.ft,Gr.el}
  ·simp only[E6,Bc,↓reduceIte]
   refine AB (GC (AB (Bi hr D3 Gr.ft ?_)));dsimp only;split
   ·refine AB (dj hr EF D3 Gr.bd λh' b g=>AN ?_)
    refine h eo h' _ s.drawn (.refl _) b g {es,_,_,EF,rfl,{Gr.el,Gr.pm,Gr.nd,Gr.bd,Gr.ft,λhp=>?_,by rw[Gr.ld,Go.ld];simp}};rwa[Ek] at hp;exact Gr.rs hp.1
   ·exact AN (same eo s.drawn (.refl _))
def v5 {led:A8}(DG:led = !bt w){r o:A4}(BC:r≠o){or oo:B0}{es eo:AD (Int×A3)}{ep eq:Nat}{ts to:SetTable}{xs ys:Th}{each:Sem Unit}{Q:Unit->A1->Prop}(hr:s.heap.get? r=some or)(EF:or.ExactSet)(D3:or.data=.set es ep ts)(Gr:cZ led es ts xs)
  (Iu:xs=[]->ts.mask∈cV/\ts.dummies = #[])
  (ho:s.heap.get? o=some oo) (Ef:oo.data=.set eo eq to) (Go:cZ led eo to ys) (hz:xs.length+ys.length<128)
  (heach:∀(s':A1) (Q':Unit->A1->Prop),s'.heap.get? o=some oo->Q' () s'->wpAny (model prog w) A each Q' E s')
  (h:∀h' o' d,Heap.SameBut r s.heap h'->h'.get? r=some o'->df led o' (aL xs ys)->Q () {s with heap:=h',drawn:=d}) :
  wpAny (model prog w) A (setMerge r o each) Q E s:=by
 have HP:=df.len Go;unfold setMerge;rw[A5 ‹BC›];refine AB (Bi ho Ef Go.ft ?_);dsimp only
 by_cases K0:eo.isEmpty=true
 ·rw[A7 K0]
  have hy:ys=[]:=by
   have:eo.size=0:=by simpa[Array.isEmpty] using K0
   exact zcW ∅
  subst hy;exact AN (h s.heap or s.drawn (Heap.SameBut.refl r s.heap) hr {es,ep,ts,EF,D3,Gr})
 ·rw[A5 K0]
  refine AB (JF0 hr EF D3 Gr ∅ λh1 Bj ep1 t1 b1 g1 G1 c1=>?_)
  have ho1:h1.get? o=some oo:=by rw[b1.2 o (Ne.symm BC)];exact ho
  refine AB (Bi g1 rfl G1.ft ?_);dsimp only
  by_cases hx:xs=[]
  ·subst hx
   have hm:t1.mask∈cV/\t1.dummies = #[]/\ys.length<=t1.mask:=by
    rcases c1 with⟨rfl,q⟩|⟨m1,m2,m3⟩
    ·let⟨m1,m2⟩:=Iu rfl
     exact{m1,m2,by rwa[HP] at q;omega}
    ·exact{m1,m3,by simpa[HP] using m2}
   refine JGj (s:={s with heap:=h1}) g1 EF rfl G1 hm.1 hm.2.1 hm.2.2 Ef Go λh2 o2 b2 g2 S2=>?_;let⟨e2,q2,t2,x2,d2,G2⟩:=S2;exact h h2 o2 s.drawn (b1.trans b2) g2 {e2,q2,t2,x2,d2,cZ.perm G2 (zO Go.nd).symm}
  ·have Fh:(t1.fill != 0)=true:=by
    have h0:0<xs.length:=zcw.mpr hx;have:=G1.place.1;have:=df.len G1;refine bne_iff_ne.mpr ?_;unfold SetTable.fill;omega
   unfold road;rw[A7 Fh];dsimp only;refine AB (JA4 (s:={s with heap:=h1}) DG BC g1 EF rfl G1 ho1 Ef Go λord h2 o2 d hp b2 g2 S2=>?_)
   have F0:h2.get? o=some oo:=by rw[b2.2 o (Ne.symm BC)];exact ho1
   refine AB (forIn_array_ _ (λrest _ s'=>∃h3 o3 zs,s'={s with heap:=h3,drawn:=d}/\Heap.SameBut r s.heap h3/\h3.get? r=some o3/\df led o3 zs/\aL zs (rest.map val)=aL xs (ord.toList.map val)/\(∀e∈rest,M4 e)/\zs.length+rest.length<=127) _ ?_ ?_ _ _
    {h2,o2,xs,rfl,b1.trans b2,g2,S2,rfl,λe he=>Go.el e (hp.mem_iff.mp he),by have:=hp.length_eq;rwa[DS] at this ⊢;omega})
   ·rintro e rest b s' ⟨h3,o3,zs,rfl,b3,g3,S3,m3,e3,l3⟩
    let⟨n,tk,rfl⟩:=e3 e ∅
    have ho3:h3.get? o=some oo:=by rw[b3.2 o (Ne.symm BC)];exact ho
    dsimp only;refine AB (Bg (Fw (s:={s with heap:=h3,drawn:=d}) g3 S3 (by simp at l3;unfold scanBound;omega) λh4 o4 bb b4 g4 S4=>?_))
    have ho4:h4.get? o=some oo:=by rw[b4.2 o (Ne.symm BC)];exact ho3
    refine AB (heach _ _ ho4 (AB (Bi (s:={s with heap:=h4,drawn:=d}) ho4 Ef Go.ft ?_)));dsimp only;rw[A5 ∅];refine AN {h4,o4,cJ zs n,rfl,b3.trans b4,g4,S4,m3,λe he=>e3 e (by simp[he]),?_};have:=qj zs n;simp at l3;omega
   ·rintro b s' ⟨h3,o3,zs,rfl,b3,g3,S3,m3,_,_⟩
    have m3:zs=aL xs (ord.toList.map val):=m3;let⟨e4,q4,t4,x4,d4,G4⟩:=S3;refine AN (h h3 o3 d b3 g3 {e4,q4,t4,x4,d4,cZ.perm G4 ?_});rw[m3];exact JDb ((hp.map val).trans Go.pm) xs
end
def yH:entryFor table "set.__or__" = some Builtin.«frozenset.__or__» :=
 entryFor_alias (id':="frozenset.__or__") (by kernel_rfl) (by first|rfl|decide) ∅ (by kernel_rfl)
theorem JDa {xs ys:Th}(h:∀y∈ys,y∈xs):aL xs ys=xs:=by
 induction ys with
 |nil=>rfl
 |cons y ys ih=>
  have:cJ xs y=xs:=by unfold cJ;rw[A7 (h y ∅)]
  rwa[aL,E8,this];exact ih λz hz=>h z (by simp[hz])
section
variable {prog:A9}{w:AM}{A:AL}{E:Tb}{s:A1}
def n5 {a:A4}{Q:A8->A1->Prop}(hT:s.TypeIs (.ref a) "set")(h:Q true s):wpAny (model prog w) A (Builtin.Frozenset.isAnySet (.ref a)) Q E s:=by unfold Builtin.Frozenset.isAnySet;unfold orM;exact AB (HC hT sub_set_self (AN h))
def JHa {l:A4}{ol:B0}{xs:Th}{Q:Tb}(hl:s.heap.get? l=some ol)(Sl:df (!bt w) ol xs)(hz:xs.length<128)
  (h:∀h' d o',(∀b o,s.heap.get? b=some o->h'.get? b=some o)->h'.get? s.heap.objs.size=some o'->df (!bt w) o' xs->(xs=[]->o'=bf (!bt w))->Q (.ref s.heap.objs.size) {s with heap:=h',drawn:=d}) :
  wpAny (model prog w) A (Builtin.Frozenset.copyOf l) Q E s:=by
 obtain⟨eo,eq,to,hx,hd,Go⟩:=Sl;have An:=B4 hl;have hT:s.TypeIs (.ref l) "set":={ol,hl,hx.1};unfold Builtin.Frozenset.copyOf Builtin.Frozenset.baseOf;refine AB (AB (HC hT sub_set_self (AN ?_)));simp only[↓reduceIte];unfold newSet setsByText;refine AB (AB (AB (G5 (AN ?_))));dsimp only;refine CN ?_;refine AB (show wpAny _ _ (pure s.heap.objs.size) _ _ _ from AN ?_);have hS:(s.heap.push (bf (!bt w))).get? s.heap.objs.size=some (bf (!bt w)):=BI _ rfl
 by_cases hxs:xs=[]
 ·subst hxs
  have K0:eo.isEmpty=true:=by have:=df.len Go;simpa[Array.isEmpty] using this
  unfold setMerge;rw[A5 ‹D4 An›];refine AB (AB (Bi (AY _ hl) hd Go.ft ?_));dsimp only;rw[A7 K0];exact AN (AN (h _ s.drawn (bf (!bt w)) (λc u e=>AY _ e) hS (jE _) λ_=>rfl))
 ·let⟨fe,fp,ft,fx,fd,Gf⟩:=jE (!bt w)
  cases fd;refine AB (v5 (s:={s with heap:=s.heap.push (bf (!bt w))}) rfl (D4 An) hS fx rfl Gf (λ_=>{show(7:Nat)∈cV by decide,rfl}) (AY _ hl) hd Go ‹hz› (λs' Q' _ q=>AN q) λh' o' d b g S=>AN ?_)
  have hk:∀c u,s.heap.get? c=some u->h'.get? c=some u:=λc u e=>by
   rw[b.2 c (BG (B4 e))];exact AY _ e
  let⟨e4,q4,t4,x4,d4,G4⟩:=S;exact h h' d o' hk g {e4,q4,t4,x4,d4,cZ.perm G4 (zO Go.nd)} λz=>AJ z hxs
def i4 {l r:A4}{ol or:B0}{xs ys:Th}{Q:Tb}(hl:s.heap.get? l=some ol)(Sl:df (!bt w) ol xs)(hr:s.heap.get? r=some or)(Sr:df (!bt w) or ys)(hz:xs.length+ys.length<128)
  (h:∀h' d o',(∀b o,s.heap.get? b=some o->h'.get? b=some o)->h'.get? s.heap.objs.size=some o'->df (!bt w) o' (aL xs ys)->Q (.ref s.heap.objs.size) {s with heap:=h',drawn:=d}) :
  wpAny (model prog w) A (binaryOp .BitOr (.ref l) (.ref r)) Q E s:=by
 have hTl:s.TypeIs (.ref l) "set":=by obtain⟨_,_,_,hx,_⟩:=Sl;exact{ol,hl,hx.1}
 have hTr:s.TypeIs (.ref r) "set":=by obtain⟨_,_,_,hx,_⟩:=Sr;exact{or,hr,hx.1}
 refine wpAny_binaryOp_same hTl hTr F.fills_set_or F.slot_set_or (C5 F.slot_set_or hTl yH ?_ (F.args_set_or_2 _ _))
 refine(show wpAny _ _ (do
  let (self,other) ←Builtin.Frozenset.slot1 "__or__" {[.ref l,.ref r],[]}
  if !(←Builtin.Frozenset.isAnySet self <&&> Builtin.Frozenset.isAnySet other) then rule s!"frozenset.{"__or__"}.declined";return ←ret .notImplemented
  ret (←(do
   let result ←Builtin.Frozenset.copyOf (←Builtin.Frozenset.addrOf self)
   if other != .ref l then holding [result] (Builtin.Frozenset.updateFrom s!"frozenset.{"__or__"}" (←Builtin.Frozenset.addrOf result) other)
   return result:Sem A3))) _ _ _ from ?_)
 refine AB (show wpAny _ _ (pure (Value.ref l,Value.ref r)) _ _ _ from AN ?_);dsimp only;unfold andM;refine AB (AB (n5 hTl ?_));refine(show wpAny _ _ (Builtin.Frozenset.isAnySet (.ref r)) _ _ _ from n5 hTr ?_);simp only[E6,Bc,↓reduceIte];refine AB ?_;refine AB (show wpAny _ _ (pure l) _ _ _ from AN ?_);refine AB (JHa hl Sl ∅ λh1 d1 o1 k1 g1 S1 f1=>?_)
 have fin:∀h' d o',(∀b o,s.heap.get? b=some o->h'.get? b=some o)->h'.get? s.heap.objs.size=some o'->df (!bt w) o' (aL xs ys) ->
   wpAny (model prog w) A.in1 (pure (Value.ref s.heap.objs.size)) (λa s'=>wpAny (model prog w) A.in1 (ret a) (λfin s'=>∃v,fin=Fin.done (Flow.ret v)/\v≠Value.notImplemented/\Q v s') E s') E {s with heap:=h',drawn:=d} :=
  λh' d o' k g S=>AN (AN {_,rfl,by simp,h h' d o' k g S})
 by_cases hlr:r=l
 ·subst hlr
  rw[A5 ∅];refine fin h1 d1 o1 k1 g1 ?_;rw[hl] at hr;cases hr;let⟨e1,q1,t1,x1,d1',G1⟩:=Sl;let⟨e2,q2,t2,x2,d2,G2⟩:=Sr;rw[d1'] at d2;cases d2;rw[JDa λy hy=>(G1.pm.symm.trans G2.pm).mem_iff.mpr hy];exact S1
 ·rw[A7 ‹hlr›]
  have hr1:=k1 _ _ hr;have hrl:=B4 hr
  have hT1:Shared.TypeIs {s with heap:=h1,drawn:=d1} (.ref r) "set":=by obtain⟨_,_,_,hx,_⟩:=Sr;exact{or,hr1,hx.1}
  refine AB (show wpAny _ _ (pure s.heap.objs.size) _ _ _ from AN ?_);refine AB (Bg ?_);unfold Builtin.Frozenset.updateFrom;refine AB (n5 hT1 ?_);simp only[↓reduceIte];refine AB (show wpAny _ _ (pure r) _ _ _ from AN ?_);unfold Builtin.Frozenset.merge;let⟨eo,eq,to,hxo,Ef,Go⟩:=Sr;refine AB (wpAny_setEpoch_of hr1 Ef Go.ft ?_)
  have K0:xs=[]->∀e q t,o1.data=.set e q t->t.mask∈cV/\t.dummies = #[]:=λz e q t ed=>by
   rw[f1 z] at ed;cases ed;exact{show(7:Nat)∈cV by decide,rfl}
  let⟨e1,q1,t1,x1,dd1,G1⟩:=S1;refine v5 (s:={s with heap:=h1,drawn:=d1}) rfl (D4 hrl) g1 x1 dd1 G1 (λz=>K0 z _ _ _ dd1) hr1 Ef Go hz (λs' Q' q' z=>?_) λh' o' d b g S=>?_
  ·unfold Builtin.Frozenset.unchanged
   refine AB (wpAny_setEpoch_of q' Ef Go.ft ?_);rw[A5 ∅];exact AN z
  ·refine fin h' d o' (λc u e=>?_) g S
   rw[b.2 c (BG (B4 e))];exact k1 c u e
end
section
variable {prog:A9}{w:AM}{A:AL}{E:Tb}{s:A1}
set_option maxHeartbeats 3200000 in
def JFz {l:A4}{its:Ti}{ns:Th}{Q:Tb}
  (hh:A.handled=none) (hl:s.heap.IsList l its) (hi:IntsAre its.toList ns) (hb:its.size+1<scanBound)
  (h:∀(h':AI) (tk:Nat) (o:B0),h'.get? s.heap.objs.size=some o->df (!w.params.followText "set-order") o (aL [] ns) ->
   (∀b o,s.heap.get? b=some o->h'.get? b=some o)->s.toks<=tk->Q (.ref s.heap.objs.size) {s with heap:=h',toks:=tk}) :
  wpAny (model prog w) A (call (.type "set") [.ref l]) Q E s:=by
 have hh3:A.in1.in1.in1.handled=none:=by simp[hh]
 have Ip:=hl;let⟨ol,Ez,C8,nl,hdl⟩:=hl;refine p0 (P:=λled _ o=>df led o (aL [] ns)) Ez C8 F.sub_list_set F.sub_list_frozenset ∅ (λt A' E' Q' e q=>zck {_,e,C8,nl,hdl} q) (λled R' Fd Bh k=>?_) h
 exact oe ((Walks.list hh3 _ l Fd its).toS) s.heap.objs.size Bh (led:=led) ns (by have:=IntsAre.length hi;simpa using this.symm)
  (λi v hv=>IntsAre.int_at hi i v (by rw[GU];exact hv)) (its.size-0) 0 _ (bf led) [] ∅ (Cy _)
  {{_,BI _ rfl,rfl,rfl},(Ip.push _).push _} (AY _ (BI _ rfl)) (jE led) ‹hb› k
end
def uj:typeLookup (.type "list") "keys" = pure none:=by rw[zcA,zbW];kernel_rfl
section
variable {prog:A9}{w:AM}{A:AL}{E:Tb}{h:AI}{g:AD GenState}{d:Drawn}{t:Nat}{os:OsState}{a:A4}{its:Ti}{n:Nat}
set_option maxHeartbeats 2000000 in
def ya {tk:Tok}{Q:Fin->A1->Prop}(hh:A.handled=none)(hx:h.get? a=some {cls:=.type "list",data:=.seq its n})
  (hq:∀h' Br e,Heap.NewAttrErr h h' e (.ref a) "keys"->E (.ref e) {h',g,d,Br,os}) :
  wpAny (model prog w) A (Builtin.«object.__getattribute__» {[.ref a,.str "keys" tk],[]}) Q E {h,g,d,t,os}:=by
 have hT:(⟨h,g,d,t,os⟩:A1).TypeIs (.ref a) "list":={_,hx,rfl};have f4:=uj
 repeat (any_goals (first|assumption|wp_step))
 exact wpAny_raiseAttrError hh hq (attrMsg_fits ∅ (by size_fits))
def JGx {tk:Tok}{Q:Tb}(hh:A.handled=none)(hx:h.get? a=some {cls:=.type "list",data:=.seq its n})
  (hq:∀h' Br e,Heap.NewAttrErr h h' e (.ref a) "keys"->E (.ref e) {h',g,d,Br,os}) :
  wpAny (model prog w) A (getAttrBy (.ref a) (.str "keys" tk) false) Q E {h,g,d,t,os}:=by
 have hT:(⟨h,g,d,t,os⟩:A1).TypeIs (.ref a) "list":={_,hx,rfl};have f2:=F.slot_list_getattribute.lookup;have f3:=F.slot_list_getattribute.bind (.ref a)
 repeat (any_goals (first|assumption|wp_step))
 refine zcR F.slot_list_getattribute.plain F.entry_list_ga (F.slot_list_getattribute.check _ _ _ _ _ _ _ _ hT (F.args_list_getattribute_2 _ _) ?_);refine ya (show A.in1.handled=none from hh) hx λh' Br e EX=>?_;obtain⟨t',u',he⟩:=EX.there;have f1:=sub_AttributeError;have f5:typeLookup (.type "list") "__getattr__" = pure none:=am_miss_of_fast (by kernel_rfl);refine(show wpAny _ _ (getattributeRaised _ _ _ _ _ _ _) _ _ _ from ?_);unfold getattributeRaised
 repeat (any_goals (first|assumption|wp_step))
 exact hq _ _ _ EX
def JGu {Q:UE A3->A1->Prop}(hh:A.handled=none)(hx:h.get? a=some {cls:=.type "list",data:=.seq its n})
  (hq:∀h' Br,(∀c u,h.get? c=some u->h'.get? c=some u)->Q none {h',g,d,Br,os}) :
  wpAny (model prog w) A (getAttr? (.ref a) "keys") Q E {h,g,d,t,os}:=by
 unfold getAttr? getAttrBy?;refine AB (wpAny_mkText (AB (Gv (JGx hh hx λh' Br e EX=>?_))));obtain⟨t',u',he⟩:=EX.there;exact AB (HC (T:="AttributeError") {_,he,rfl} sub_AttributeError (AN (hq _ _ EX.keeps)))
end
def gJ:entryFor table "dict.update.loop" = some Builtin.«dict.update.loop»:=entryFor_of_tree (by kernel_rfl)
def cK:plainId "dict.update.loop" = true:=by decide
section
variable {prog:A9}{w:AM}{A:AL}{R:Result->A1->Prop}{I:A4}{fp wr:Tf}{n:Nat}{P:Nat->A3->Prop}{St:Nat->AI->Prop}
structure ic (h:Heap)(v key val:Value):Prop where
 ex:∃a o c,v=.ref a/\h.get? a=some o/\o.cls=.type "tuple"/\o.data=.seq #[key,val] c
def ic.keep {h h':AI}{v key val:A3}(p:ic h v key val)(k:∀a o,v=.ref a->h.get? a=some o->h'.get? a=some o):ic h' v key val:=by let⟨a,o,c,rfl,h1,h2,h3⟩:=p.ex;exact{a,o,c,rfl,k a o rfl h1,h2,h3}
noncomputable def putAll {K:Type}[DecidableEq K](A6:T5 (K×A3))(ps:T5 (K×A3)):T5 (K×A3):=ps.foldl (λa p=>stored a p.1 p.2) A6
theorem JA9 {K:Type}[DecidableEq K]{knd:KeyKind prog w K}(W:Walks prog w A.in1 I fp wr n P St)(S:A4)(Bh:S∉fp)(ps:T5 (K×A3))(DF:ps.length=n)(h₀:AI)
  (hP:∀i v,P i v->∃k x key,ps[i]?=some (k,x)/\knd.is k key=true/\ic h₀ v key x/\∀a,v=.ref a->a≠S/\a∉wr) :
  ∀(k i:Nat) (s:A1) (c:Int) (A6:T5 (K×A3)),n-i=k->i<=n->St i s.heap->(∀b o,b≠S->b∉wr->h₀.get? b=some o->s.heap.get? b=some o)->s.heap.DictOf knd S A6->A6.length+k<=sizeLine ->
   (∀h' tk,(∀b o,b≠S->b∉wr->s.heap.get? b=some o->h'.get? b=some o)->s.toks<=tk\/True->h'.DictOf knd S (putAll A6 (ps.drop i))->R (.ok (.ret .none)) {s with heap:=h',toks:=tk}) ->
   codeAny (model prog w) A (.builtin "dict.update.loop" {[.ref S,.ref I,.int c 0,.none],[]}) R s:=by
 have nw:S∉wr:=λh=>Bh (W.sub _ h);intro k
 induction k with
 |zero=>
  intro i s c A6 hk hi CL h0 hS hb hR
  have Ck:i=n:=by omega
  subst Ck;refine DN gJ ?_;rw[Dv cK _];refine(show wpAny _ A.in1 (pyNext (.ref I) >>= _) _ _ s from AB (W.done s _ _ CL λh' tk C2=>?_));refine(show wpAny _ A.in1 (do Builtin.Dict.addKeywords S [];ret Value.none) _ _ _ from AB (show wpAny _ _ (pure ()) _ _ _ from AN (AN ?_)));refine hR h' tk (λb o _ hb e=>C2 b o hb e) (.inr trivial) ?_;rw[zcH ∅];let⟨o,es,ep,ho,r⟩:=hS;exact{o,es,ep,C2 S o nw ho,r}
 |succ k ih=>
  intro i s c A6 hk hi CL h0 hS hb hR
  have An:i<n:=by omega
  refine DN gJ ?_;rw[Dv cK _];refine(show wpAny _ A.in1 (pyNext (.ref I) >>= _) _ _ s from AB (W.item i s _ _ An CL λv h1 tk1 hPv Ht Gk=>?_));let⟨kk,x,key,Gg,BN,FZ,K4⟩:=hP i v hPv;have Dl:ic h1 v key x:=FZ.keep λa o e q=>Gk a o (K4 a e).2 (h0 a o (K4 a e).1 (K4 a e).2 q);let⟨a,o,cc,rfl,ho,hc,hd⟩:=Dl.ex
  have hS1:h1.DictOf knd S A6:=by
   let⟨o,es,ep,ho,r⟩:=hS;exact{o,es,ep,Gk S o nw ho,r}
  refine AB (Bg (AB (wpAny_tryCatch ?_)));unfold Builtin.Dict.pairItems;refine AB (FU (T:="tuple") {o,ho,hc} ?_);rw[A7 ∅];refine AB (zcl ho hd (AN ?_));refine(show wpAny _ _ (holding [key,x] (dictSet S key x)) _ _ _ from Bg (wpAny_dictSet_pairs (s:={s with heap:=h1,toks:=tk1}) BN hS1 (λh2 F3 DB=>?_) ∅))
  have DH:ps.drop i=(kk,x)::ps.drop (i+1):=by
   let⟨hl,e⟩:=C3.mp Gg;rw[zbu hl,e]
  have hlen:(stored A6 kk x).length<=A6.length+1:=stored_length_le A6 kk x;refine AN {F5 cK _,ih (i+1) {s with heap:=h2,toks:=tk1+1} (c+1) _ ∅ An (W.frame _ h1 _ Ht λb hb o e=>?_) (λb o n1 n2 e=>?_) F3 ∅ λh' Br C2 ht hD=>?_}
  ·rw[DB.2 b (λh:b=S=>Bh (h ▸ hb))];exact e
  ·rw[DB.2 b n1];exact Gk b o n2 (h0 b o n1 n2 e)
  ·refine hR h' Br (λb o n1 n2 e=>C2 b o n1 n2 ?_) (.inr trivial) (by rw[DH];exact hD)
   show h2.get? b=some o
   rw[DB.2 b n1];exact Gk b o n2 e
end
def DX:mroOf (.type "dict")=pure [.type "dict",.type "object"]:=by rw[mroOf_type];kernel_rfl
def ui:typeLookup (.type "dict") "__new__" = pure (some (.builtin "dict.__new__")):=by rw[zcA,zbW];kernel_rfl
def vz:Slot "dict" "__init__" "dict.__init__":=by
 refine .of (owner:="dict") (n:="__init__") ?_ ∅ ∅ ∅ ?_ ?_
 ·rw[zcA,zbW];kernel_rfl
 ·first|exact .inl ∅|exact .inr ∅
 ·rw[isSubtype_type];kernel_rfl
def fX:TypeCalled "dict" "dict.__new__" "dict.__init__" :=
 {by decide,by decide,{_,_,DX},madeBy_type DX ui ∅,by decide,by rw[isSubtype_type];kernel_rfl,vz}
def xy (a:A3):checkTypeCall "dict" {[a],[]}=pure ():=by kernel_rfl
def JAh (a:A3):checkBuiltinCall "dict.__new__" {[.type "dict",a],[]}=pure ():=by kernel_rfl
def wM:entryFor table "dict.__new__" = some Builtin.«dict.__new__»:=entryFor_of_tree (by kernel_rfl)
def oj:plainId "dict.__new__" = true:=by decide
def uK:entryFor table "dict.__init__" = some Builtin.«dict.__init__»:=entryFor_of_tree (by kernel_rfl)
def pU:isSubtype (.type "dict") (.type "dict")=pure true:=by rw[isSubtype_type];kernel_rfl
def wb:builtinKind "dict.__init__" = some .slot:=by kernel_rfl
def tY:splitId "dict.__init__" = some ("dict","__init__"):=by kernel_rfl
def xJ:Manifest.signature? "dict.__init__" = some {.positional,"dict","dict",.self,[{"other",.posOnly,false},{"kwargs",.varKw,false}]}:=by kernel_rfl
section
variable {prog:A9}{w:AM}{A:AL}{E:Tb}{s:A1}
abbrev cx:B0:={cls:=.type "dict",dict:=none,data:=.dict #[]}
def JDw (a:A3){Q₁:Tb}(h:Q₁ (.ref s.heap.objs.size) {s with heap:=s.heap.push cx}) :
  codeAny (model prog w) A (.call (.builtin "dict.__new__") {[.type "dict",a],[]}) (wants Q₁ E) s:=by
 refine zcQ (show wpAny _ A.in1 (do checkBuiltinCall "dict.__new__" {[.type "dict",a],[]};again (.builtin "dict.__new__" {[.type "dict",a],[]})) _ _ s from ?_);refine AB (zdh (JAh a) (AN {F5 oj _,DN wM ?_}));rw[Dv oj _];have Hs:=pU;have hmro:=DX;unfold Builtin.«dict.__new__»;obtain⟨hp,g,d,tk,os⟩:=s;dsimp only
 repeat (any_goals (first|assumption|wp_step))
def uP {M:Model}{self a:A3}{Q:Unit->A1->Prop}(hT:s.TypeIs self "dict")(hQ:Q () s) :
  wpAny M A (checkBuiltinCall "dict.__init__" {[self,a],[]}) Q E s:=by
 rwa[checkBuiltinCall,wb,tY,xJ];refine AB (HC hT pU ?_);rwa[E6,Bc,if_false];unfold Bind.checkArgs;dsimp only;refine AB (m:=Bind.printed "dict" true _ _) (PyProof.Rows.printed_name ∅ ?_);refine AB (m:=Bind.printed "dict" false _ _) (PyProof.Rows.printed_name ∅ ?_)
 have hrn:(Manifest.Receiver.self == Manifest.Receiver.none)=false:=by decide
 have hn:(if (Manifest.Receiver.self == Manifest.Receiver.none)=true then [self,a].length else [self,a].length-1)=1:=by simp[hrn]
 rw[hn];rwa[CS]
 have hc:Bind.check ⟨.positional,"dict","dict",.self,[{"other",.posOnly,false},{"kwargs",.varKw,false}]⟩ "dict" "dict" 1 []=pure ():=by kernel_rfl
 rw[hc];exact wpAny_onRaise (AN hQ)
set_option maxHeartbeats 3200000 in
theorem sY {l:A4}{its:Ti}{c:Nat}{D:AI->Prop}{Q:Tb}(hh:A.handled=none)(hl:s.heap.get? l=some {cls:=.type "list",data:=.seq its c})
  (Ff:∀(h2:AI) (tk2:Nat) (R':Result->A1->Prop),(∀b o,(s.heap.push cx).get? b=some o->h2.get? b=some o)->l≠h2.objs.size->s.heap.objs.size∉[h2.objs.size,l]->h2.IsList l its->h2.get? s.heap.objs.size=some cx ->
   (∀h' Br,(∀b o,b≠s.heap.objs.size->b∉[h2.objs.size]->(h2.push {cls:=.type "list_iterator",data:=.fields #[.ref l,.int 0 0]}).get? b=some o->h'.get? b=some o)->D h'->R' (.ok (.ret .none)) {s with heap:=h',toks:=Br}) ->
   codeAny (model prog w) A.in1 (.builtin "dict.update.loop" {[.ref s.heap.objs.size,.ref h2.objs.size,.int 0 0,.none],[]}) R' {s with heap:=h2.push {cls:=.type "list_iterator",data:=.fields #[.ref l,.int 0 0]},toks:=tk2})
  (h:∀(h':AI) (tk:Nat),D h'->(∀b o,s.heap.get? b=some o->h'.get? b=some o)->Q (.ref s.heap.objs.size) {s with heap:=h',toks:=tk}) :
  wpAny (model prog w) A (call (.type "dict") [.ref l]) Q E s:=by
 obtain⟨cc,tl,hmro⟩:=fX.mro;have hmade:=fX.made;have Hs:=fX.sub;refine wpAny_call (zcQ (show wpAny _ _ (callAny (.type "dict") _) _ _ _ from ?_));refine AN {Code.quiet_builtin _ ∅,DN F.entry_type_call ?_};rw[Around.under_plain (weight_type_call_type "dict" [.ref l] []) rfl];have h1:=fX.notType;have h2:=fX.canCreate;have hct:=xy (.ref l)
 repeat (any_goals (first|assumption|wp_step))
 refine G8 (JDw (.ref l) (E:=E) (Q₁:=λobj s₁=>obj=.ref s.heap.objs.size/\s₁={s with heap:=s.heap.push cx}) {rfl,rfl}) λr s₁ hr=>?_
 cases r with
 |error e=>exact hr
 |ok fl=>
  cases fl with
  |ret obj=>
   obtain⟨rfl,rfl⟩:=hr;have hS:(s.heap.push cx).get? s.heap.objs.size=some cx:=BI _ rfl;have hT:Shared.TypeIs {s with heap:=s.heap.push cx} (.ref s.heap.objs.size) "dict":={_,hS,rfl};have hli:=fX.init.lookup;have hbi:=fX.init.bind (.ref s.heap.objs.size)
   repeat (any_goals (first|assumption|wp_step))
   refine G8 (zcR (R:=wants (λr s₂=>r=.none/\∃h' tk,s₂={s with heap:=h',toks:=tk}/\D h' /\
     (∀b o,s.heap.get? b=some o->h'.get? b=some o)) E) fX.init.plain uK (uP hT ?_)) λr₂ s₂ Hz=>?_
   ·have hlS:l<s.heap.objs.size:=B4 hl
    have hl1:(s.heap.push cx).get? l=some {cls:=.type "list",data:=.seq its c}:=AY _ hl;have hTl:Shared.TypeIs {s with heap:=s.heap.push cx} (.ref l) "list":={_,hl1,rfl};unfold Builtin.«dict.__init__» Builtin.Dict.selfAndRest Builtin.Dict.notOrdered;refine AB (AB ?_);rw[A7 ∅];refine AB (FU hT ?_);rw[A5 ∅];refine AN (AB (show wpAny _ _ (pure s.heap.objs.size) _ _ _ from AN (AN ?_)));refine(show wpAny _ _ (Builtin.Dict.updateFrom "dict.__init__" s.heap.objs.size (.ref l) [] .none) _ _ _ from ?_);unfold Builtin.Dict.updateFrom;refine AB (FU hTl ?_);rw[A7 ∅];refine AB (JGu (show A.in1.in1.handled=none from hh) hl1 λh2 tk2 Eu=>?_);rw[A7 (show(none:Tg).isNone=true from rfl)];have Hc:=Eu _ _ hl1;have F3:=Eu _ _ hS;have hl3:h2.IsList l its:={_,Hc,rfl,c,rfl};refine AB (GC (AB (zck hl3 ?_)));have hlI:l≠h2.objs.size:=BG (B4 Hc);have hSI:s.heap.objs.size≠h2.objs.size:=BG (B4 F3)
    have Bh:s.heap.objs.size∉[h2.objs.size,l]:=by
     rwa[BA,DV,or_false,not_or];exact{hSI,D4 hlS}
    refine AN {F5 cK _,Ff h2 tk2 _ Eu hlI Bh hl3 F3 λh' Br C2 hD=>?_};refine{rfl,h',Br,rfl,hD,λb o e=>C2 b o (BG (B4 e)) ?_ (AY _ (Eu _ _ (AY _ e)))};rwa[BA,DV,or_false];exact BG (B4 (Eu _ _ (AY _ e)))
   ·cases r₂ with
    |error e=>exact Hz
    |ok fl₂=>
     cases fl₂ with
     |ret r=>
      let⟨rfl,h',tk,rfl,Fq,C2⟩:=Hz
      repeat (any_goals (first|assumption|wp_step))
      exact h _ _ Fq C2
     |_=>exact Hz.elim
  |_=>exact hr.elim
def JDv {K:Type}[DecidableEq K]{knd:KeyKind prog w K}{l:A4}{its:Ti}{c:Nat}{ps:T5 (K×A3)}{Q:Tb}
  (hh:A.handled=none) (hl:s.heap.get? l=some {cls:=.type "list",data:=.seq its c}) (DF:ps.length=its.size) (hz:its.size<=sizeLine)
  (hP:∀(i:Nat) v,its[i]?=some v->∃k x key,ps[i]?=some (k,x)/\knd.is k key=true/\ic s.heap v key x)
  (h:∀(h':AI) (tk:Nat),h'.DictOf knd s.heap.objs.size (putAll [] ps)->(∀b o,s.heap.get? b=some o->h'.get? b=some o)->Q (.ref s.heap.objs.size) {s with heap:=h',toks:=tk}) :
  wpAny (model prog w) A (call (.type "dict") [.ref l]) Q E s:=by
 refine sY hh hl (λh2 tk2 R' Eu hlI Bh hl3 F3 kk=>?_) h
 refine JA9 (Walks.list (by simp[hh]) h2.objs.size l hlI its) s.heap.objs.size Bh ps DF s.heap (λi v hv=>?_) (its.size-0) 0 _ 0 [] ∅ (Cy _)
  {{_,BI _ rfl,rfl,rfl},hl3.push _} (λb o _ _ e=>AY _ (Eu _ _ (AY _ e)))
  {cx,#[],0,AY _ F3,{rfl,rfl,rfl},rfl,λe he=>by simp at he,.nil,zcE} ‹hz› λh' Br C2 _ hD=>kk h' Br C2 ‹hD›
 let⟨k,x,key,e1,e2,e3⟩:=hP i v hv;refine{k,x,key,e1,e2,e3,λa e=>?_};let⟨a',o',c',q1,q2,_,_⟩:=e3.ex;rw[q1] at e;cases e;refine{BG (B4 q2),?_};rwa[BA,DV,or_false];exact BG (B4 (Eu _ _ (AY _ q2)))
end
end HS
namespace L2
open PyProof.Rows
def m9 (H:Hp)(q:Str)(ps:Ti):Prop:=TriplesOk ps.toList/\∀pos cv,codeAmong pos ps.toList=some cv->∃c' oc vs t,cv=.ref c'/\H c'=some (.frz oc (.ext λ_=>True))/\oc.data=.fields vs/\vs[1]?=some (.str q t)
def m9.mono {H H':Hp}{q:Str}{ps:Ti}(g:m9 H q ps)(k:∀b o u,H b=some (.frz o u)->H' b=some (.frz o u)):m9 H' q ps :=
 {g.1,λpos cv e=>let ⟨c',oc,vs,t,e1,e2,r⟩:=g.2 pos cv e;{c',oc,vs,t,e1,k _ _ _ e2,r}}
structure Fz (x:Str)(caps:Tn)(sc:Scope)(cl:List (Str×Addr)):Prop where
 kind:sc.kind=.function
 co:sc.isCoroutine=false
 gen:sc.isGenerator=false
 nd:(x::caps).Nodup
 par:sc.names.lookup x=some .local
 nocell:∀y∈sc.names,y.2≠.cell
 free:∀y,sc.names.lookup y=some .free->∃c,cl.lookup y=some c
 inj:∀y z c,cl.lookup y=some c->cl.lookup z=some c->y=z
end L2
namespace HW
open L2
inductive D where
 |non|bl (b:Bool)|int (i:Int)|str (x:Str)
 |tup (xs:List D)|fl (xs:List D)|fd (ks:List aI) (ds:List D)|key (ks:Th)
structure P0 where
 qual:Str
 params:Arguments
 body:Expr
 scope:Scope
 x:Str
 caps:Tn
inductive R where
 |v (d:D)|p (n:Nat)|s (b:Bool) (xs:Th)|x (c:Str)|f (L:P0) (ds:List D)
inductive aw where
 |lst (xs:List D)|fz (xs:List D)|dct (A6:List (aI×D))|fzd (A6:List (aI×D))|dr (A6:List (aI×R))|lr (xs:List R)|dt (A6:List (Th×D))|tb (P:Nat) (q:Str)|ob (c:Str) (fs:List (Str×R))|tr (xs:List R)|fzr (A6:List (aI×R))|dtr (A6:List (Th×R))|fzt (A6:List (Th×D))|hk (A6:List (aI×D))
abbrev ac:=T5 aw
abbrev Lo:=T5 (UE R)
abbrev FE:=Lo->ac->UE (R×ac)
abbrev FT:=Lo->ac->UE (A8×ac)
abbrev FA:=Lo->ac->UE (T5 R×ac)
inductive pE where
 |nx (O:Lo) (U:ac)|rt (d:R) (U:ac)|bk (O:Lo) (U:ac)|ct (O:Lo) (U:ac)
abbrev FS:=Lo->ac->UE pE
def M6 (K:AP)(H:Hp)(a:A4)(vs:T5 V):Prop:=(∃o,H a=some (.frz o (.lst vs)))\/jV K (λ_=>none) a vs
mutual
def ak (K:AP)(H:Hp):D->V->Prop
 |.non,v=>v=.non
 |.bl b,v=>v=.bl b
 |.int i,v=>v=.int i
 |.str x,v=>v=.str x
 |.tup xs,v=>∃a vs,v=.ref a/\gM K H a vs/\RelDs K H xs vs
 |.fl xs,v=>∃a vs,v=.ref a/\M6 K H a vs/\RelDs K H xs vs
 |.fd ks ds,v=>∃a o es,v=.ref a/\H a=some (.frz o (.dK es))/\es.map (·.1)=ks/\RelDs K H ds (es.map (·.2))
 |.key ks,v=>∃a,v=.ref a/\H a=some (.tup (ks.map V.int))
def RelDs (K:AP)(H:Hp):T5 D->T5 V->Prop
 |[],vs=>vs=[]
 |x::xs,vs=>∃v r,vs=v::r/\ak K H x v/\RelDs K H xs r
end
structure IC (K:AP)(H:Hp)(L:P0)(ds:List D)(a:Addr)(cl:List (Str×Addr))(pm GP:Value)(c':Addr):Prop where
 fn:H a=some (.frz (PySem.W.kla_obj "<lambda>" L.qual L.params L.body L.scope cl pm c' GP) (.ext λ_=>True))
 code:∃oc vs t,H c'=some (.frz oc (.ext λ_=>True))/\oc.data=.fields vs/\vs[1]?=some (.str L.qual t)
 len:ds.length=L.caps.length
 cell:∀y c,cl.lookup y=some c->∃z o,H c=some (.frz o (.ext λ_=>True))/\o.data=.cell z
 cap:∀(i:Nat) y d,L.caps[i]?=some y->ds[i]?=some d->∃c o u vy,L.scope.names.lookup y=some .free/\cl.lookup y=some c/\H c=some (.frz o (.ext λ_=>True))/\o.data=.cell (some u)/\be vy u/\ak K H d vy
 sc:Fz L.x L.caps L.scope cl
def aq (K:AP)(m:Tf)(H:Hp):R->V->Prop
 |.v d,v=>ak K H d v
 |.p n,v=>∃a,v=.ref a/\m[n]?=some a
 |.s b xs,v=>∃a o,v=.ref a/\H a=some (.frz o (.ext λ_=>True))/\HS.df b o xs
 |.x c,v=>∃a vs C,v=.ref a/\H a=some (.frz {cls:=.ref C,dict:=none,data:=.fields vs,slots:=#[]} (.ext λ_=>True))/\PySem.W.nsIn K mainGlobals c=some (some (.ref C))
 |.f L ds,v=>∃a cl pm GP c',v=.ref a/\IC K H L ds a cl pm GP c'
def aW (K:AP)(m:Tf)(H:Hp):T5 R->T5 V->Prop
 |[],vs=>vs=[]
 |x::xs,vs=>∃v r,vs=v::r/\aq K m H x v/\aW K m H xs r
def ie (K:AP)(m:Tf)(H:Hp):aw->A4->Prop
 |.lst xs,a=>∃vs,H a=some (.lst vs)/\RelDs K H xs vs
 |.fz xs,a=>∃o vs,H a=some (.frz o (.lst vs))/\RelDs K H xs vs
 |.dct A6,a=>∃es,H a=some (.dK es)/\es.map (·.1)=A6.map (·.1)/\RelDs K H (A6.map (·.2)) (es.map (·.2))
 |.fzd A6,a=>∃o es,H a=some (.frz o (.dK es))/\es.map (·.1)=A6.map (·.1)/\RelDs K H (A6.map (·.2)) (es.map (·.2))
 |.dr A6,a=>∃es,H a=some (.dK es)/\es.map (·.1)=A6.map (·.1)/\aW K m H (A6.map (·.2)) (es.map (·.2))
 |.lr xs,a=>∃vs,H a=some (.lst vs)/\aW K m H xs vs
 |.tb P q,a=>a=P/\∃ps,H P=some (.tbl ps)/\m9 H q ps
 |.ob c fs,a=>∃C dx es,PySem.W.nsIn K mainGlobals c=some (some (.ref C))/\H a=some (.ins C dx es)/\es.map (·.1)=fs.map (·.1)/\aW K m H (fs.map (·.2)) (es.map (·.2))
 |.tr xs,a=>∃vs,H a=some (.tup vs)/\aW K m H xs vs
 |.fzr A6,a=>∃o es,H a=some (.frz o (.dK es))/\es.map (·.1)=A6.map (·.1)/\aW K m H (A6.map (·.2)) (es.map (·.2))
 |.dtr A6,a=>∃es,H a=some (.dT es)/\es.map (·.1)=A6.map (λp=>p.1.map Sum.inl)/\aW K m H (A6.map (·.2)) (es.map (·.2))
 |.dt A6,a=>∃es,H a=some (.dT es)/\es.map (·.1)=A6.map (λp=>p.1.map Sum.inl)/\RelDs K H (A6.map (·.2)) (es.map (·.2))
 |.fzt A6,a=>∃o es,H a=some (.frz o (.dT es))/\es.map (·.1)=A6.map (λp=>p.1.map Sum.inl)/\RelDs K H (A6.map (·.2)) (es.map (·.2))
 |.hk A6,a=>∃o es,H a=some (.frz o (.frz o (.dK es)))/\es.map (·.1)=A6.map (·.1)/\RelDs K H (A6.map (·.2)) (es.map (·.2))
structure aP (K:AP)(m:Tf)(H:Hp)(U:ac):Prop where
 nd:m.Nodup
 len:m.length=U.length
 cell:∀(i:Nat) c a,U[i]?=some c->m[i]?=some a->ie K m H c a
structure TF (H H':Hp):Prop where
 tup:∀a xs,H a=some (.tup xs)->H' a=some (.tup xs)
 frz:∀a o u,H a=some (.frz o u)->H' a=some (.frz o u)
structure dF (m:Tf)(H:Hp)(m':Tf)(H':Hp):Prop where
 ext:∃e,m'=m++e/\∀a∈e,H a=none
 tf:TF H H'
 keep:∀a o,H a=some o->a∉m->H' a=some o
 live:∀a,H' a=none->H a=none
def ff (K:AP)(m:Tf)(H:Hp)(O:Lo)(Y:St):Prop :=
 O.length=Y.length/\∀(i:Nat) d,O[i]?=some (some d)->∃v,Y[i]?=some (some v)/\aq K m H d v
section
variable {K:AP}{H H' H1 H2:Hp}
def TF.refl:TF H H:={λ_ _ h=>h,λ_ _ _ h=>h}
def TF.trans (a:TF H H1)(b:TF H1 H2):TF H H2:={λ_ _ h=>b.tup _ _ (a.tup _ _ h),λ_ _ _ h=>b.frz _ _ _ (a.frz _ _ _ h)}
def TF.of (h:∀a o,H a=some o->H' a=some o):TF H H':={λ_ _ e=>h _ _ e,λ_ _ _ e=>h _ _ e}
def gM.tf {a vs}(t:TF H H')(h:gM K H a vs):gM K H' a vs:=by
 rcases h with(h|⟨o,h⟩)|h
 ·exact .inl (.inl (t.tup _ _ h))
 ·exact .inl (.inr {o,t.frz _ _ _ h})
 ·exact .inr h
def M6.tf {a vs}(t:TF H H')(h:M6 K H a vs):M6 K H' a vs:=by
 rcases h with⟨o,h⟩|h
 ·exact .inl {o,t.frz _ _ _ h}
 ·exact .inr h
def M6.sq {a vs}(h:M6 K H a vs):jV K H a vs:=by
 rcases h with⟨o,h⟩|(h|⟨_,h⟩)|h
 ·exact .inl (.inr {o,h})
 ·cases h
 ·cases h
 ·exact .inr h
mutual
theorem ak.tf (t:TF H H'):∀(d:D) (v:V),ak K H d v->ak K H' d v
 |.non,_,h=>by simpa only[ak] using h
 |.bl _,_,h=>by simpa only[ak] using h
 |.int _,_,h=>by simpa only[ak] using h
 |.str _,_,h=>by simpa only[ak] using h
 |.tup xs,v,h=>by rwa[ak] at h ⊢;let⟨a,vs,e,s,r⟩:=h;exact{a,vs,e,gM.tf t s,RelDs.tf t xs vs r}
 |.fl xs,v,h=>by rwa[ak] at h ⊢;let⟨a,vs,e,s,r⟩:=h;exact{a,vs,e,s.tf t,RelDs.tf t xs vs r}
 |.fd ks ds,v,h=>by rwa[ak] at h ⊢;let⟨a,o,es,e,s,k,r⟩:=h;exact{a,o,es,e,t.frz _ _ _ s,k,RelDs.tf t ds _ r}
 |.key ks,v,h=>by rwa[ak] at h ⊢;let⟨a,e,q⟩:=h;exact{a,e,t.tup _ _ q}
theorem RelDs.tf (t:TF H H'):∀(ds:T5 D) (vs:T5 V),RelDs K H ds vs->RelDs K H' ds vs
 |[],_,h=>by simpa only[RelDs] using h
 |d::ds,vs,h=>by rwa[RelDs] at h ⊢;let⟨v,r,e,h1,h2⟩:=h;exact{v,r,e,ak.tf t d v h1,RelDs.tf t ds r h2}
end
def IC.tf {L ds a cl pm GP c'}(t:TF H H')(h:IC K H L ds a cl pm GP c'):IC K H' L ds a cl pm GP c':=by
 refine{t.frz _ _ _ h.fn,?_,h.len,λy c e=>?_,λi y d e1 e2=>?_,h.sc}
 ·let⟨oc,vs,u,e,r⟩:=h.code;exact{oc,vs,u,t.frz _ _ _ e,r}
 ·let⟨z,o,q,r⟩:=h.cell y c e;exact{z,o,t.frz _ _ _ q,r}
 ·let⟨c,o,u,vy,k1,k2,k3,k4,k5,k6⟩:=h.cap i y d e1 e2;exact{c,o,u,vy,k1,k2,t.frz _ _ _ k3,k4,k5,ak.tf t _ _ k6}
def dF.refl:dF m H m H:={{[],by simp},.refl,λ_ _ h _=>h,λ_ h=>h}
def dF.trans (x:dF m H m1 H1)(y:dF m1 H1 m2 H2):dF m H m2 H2:=by
 let⟨e1,rfl,f1⟩:=x.ext;let⟨e2,rfl,f2⟩:=y.ext;refine{{e1++e2,by simp,λa ha=>?_},x.tf.trans y.tf,λa o h n=>?_,λa h=>x.live a (y.live a h)}
 ·rcases D7.mp ha with h|h
  ·exact f1 a h
  ·exact x.live a (f2 a h)
 ·refine y.keep a o (x.keep a o h n) λz=>?_;rcases D7.mp z with z|z
  ·exact n z
  ·rw[f1 a z] at h;cases h
theorem aq.ext (x:dF m H m' H'){d:R}{v:V}(h:aq K m H d v):aq K m' H' d v:=by
 cases d with
 |v d=>exact ak.tf x.tf d v h
 |p n=>
  let⟨a,e,q⟩:=h;let⟨e1,rfl,_⟩:=x.ext;refine{a,e,?_};let⟨hl,hq⟩:=C3.mp q;rw[BK hl];exact q
 |s b xs=>
  let⟨a,o,e,q,r⟩:=h;exact{a,o,e,x.tf.frz _ _ _ q,r}
 |x c=>
  let⟨a,vs,C,e,q,r⟩:=h;exact{a,vs,C,e,x.tf.frz _ _ _ q,r}
 |f L ds=>
  let⟨a,cl,pm,GP,c',e,q⟩:=h;exact{a,cl,pm,GP,c',e,q.tf x.tf}
theorem aW.ext (x:dF m H m' H'):∀{ds:T5 R} {vs:T5 V},aW K m H ds vs->aW K m' H' ds vs
 |[],_,h=>h
 |_::_,_,⟨v,r,e,h1,h2⟩=>{v,r,e,h1.ext x,aW.ext x h2}
def ff.ext (x:dF m H m' H')(h:ff K m H O Y):ff K m' H' O Y :=
 {h.1,λi d e=>let ⟨v,q,r⟩:=h.2 i d e;{v,q,r.ext x}}
theorem aq.tfm (t:TF H H')(y:∃e,m'=m++e){d:R}{v:V}(h:aq K m H d v):aq K m' H' d v:=by
 cases d with
 |v d=>exact ak.tf t d v h
 |p n=>
  let⟨a,e,q⟩:=h;let⟨e1,rfl⟩:=y;refine{a,e,?_};let⟨hl,hq⟩:=C3.mp q;rw[BK hl];exact q
 |s b xs=>
  let⟨a,o,e,q,r⟩:=h;exact{a,o,e,t.frz _ _ _ q,r}
 |x c=>
  let⟨a,vs,C,e,q,r⟩:=h;exact{a,vs,C,e,t.frz _ _ _ q,r}
 |f L ds=>
  let⟨a,cl,pm,GP,c',e,q⟩:=h;exact{a,cl,pm,GP,c',e,q.tf t}
theorem aW.tfm (t:TF H H')(y:∃e,m'=m++e):∀{ds:T5 R} {vs:T5 V},aW K m H ds vs->aW K m' H' ds vs
 |[],_,h=>h
 |_::_,_,⟨v,r,e,h1,h2⟩=>{v,r,e,h1.tfm t y,aW.tfm t y h2}
theorem ie.same (s:∀a o,H a=some o->H' a=some o)(y:∃e,m'=m++e){c:aw}{a:A4}(h:ie K m H c a):ie K m' H' c a:=by
 cases c with
 |lst xs=>let⟨vs,e,r⟩:=h;exact{vs,s _ _ e,RelDs.tf (.of s) _ _ r}
 |fz xs=>let⟨o,vs,e,r⟩:=h;exact{o,vs,s _ _ e,RelDs.tf (.of s) _ _ r}
 |dct A6=>let⟨es,e,k,r⟩:=h;exact{es,s _ _ e,k,RelDs.tf (.of s) _ _ r}
 |fzd A6=>let⟨o,es,e,k,r⟩:=h;exact{o,es,s _ _ e,k,RelDs.tf (.of s) _ _ r}
 |fzt A6=>let⟨o,es,e,k,r⟩:=h;exact{o,es,s _ _ e,k,RelDs.tf (.of s) _ _ r}
 |hk A6=>let⟨o,es,e,k,r⟩:=h;exact{o,es,s _ _ e,k,RelDs.tf (.of s) _ _ r}
 |dr A6=>let⟨es,e,k,r⟩:=h;exact{es,s _ _ e,k,aW.tfm (.of s) y r}
 |lr xs=>let⟨vs,e,r⟩:=h;exact{vs,s _ _ e,aW.tfm (.of s) y r}
 |dt A6=>let⟨es,e,k,r⟩:=h;exact{es,s _ _ e,k,RelDs.tf (.of s) _ _ r}
 |tb P q=>let⟨e,ps,k,r⟩:=h;exact{e,ps,s _ _ k,r.mono λb o u g=>s _ _ g}
 |ob c fs=>let⟨C,dx,es,n,e,k,r⟩:=h;exact{C,dx,es,n,s _ _ e,k,aW.tfm (.of s) y r}
 |tr xs=>let⟨vs,e,r⟩:=h;exact{vs,s _ _ e,aW.tfm (.of s) y r}
 |fzr A6=>let⟨o,es,e,k,r⟩:=h;exact{o,es,s _ _ e,k,aW.tfm (.of s) y r}
 |dtr A6=>let⟨es,e,k,r⟩:=h;exact{es,s _ _ e,k,aW.tfm (.of s) y r}
theorem ie.some {c:aw}{a:A4}(h:ie K m H c a):∃o,H a=some o:=by
 cases c with
 |lst xs=>let⟨vs,e,r⟩:=h;exact{_,e}
 |fz xs=>let⟨o,vs,e,r⟩:=h;exact{_,e}
 |dct A6=>let⟨es,e,k,r⟩:=h;exact{_,e}
 |fzd A6=>let⟨o,es,e,k,r⟩:=h;exact{_,e}
 |fzt A6=>let⟨o,es,e,k,r⟩:=h;exact{_,e}
 |hk A6=>let⟨o,es,e,k,r⟩:=h;exact{_,e}
 |dr A6=>let⟨es,e,k,r⟩:=h;exact{_,e}
 |lr xs=>let⟨vs,e,r⟩:=h;exact{_,e}
 |dt A6=>let⟨es,e,k,r⟩:=h;exact{_,e}
 |tb P q=>let⟨e,ps,k,r⟩:=h;exact{_,e ▸ k}
 |ob c fs=>let⟨C,dx,es,n,e,k,r⟩:=h;exact{_,e}
 |tr xs=>let⟨vs,e,r⟩:=h;exact{_,e}
 |fzr A6=>let⟨o,es,e,k,r⟩:=h;exact{_,e}
 |dtr A6=>let⟨es,e,k,r⟩:=h;exact{_,e}
def aP.same (h:aP K m H U)(s:∀a o,H a=some o->H' a=some o):aP K m H' U :=
 {h.nd,h.len,λi c a e1 e2=>(h.cell i c a e1 e2).same s {[],by simp}}
def aP.mem (h:aP K m H U){a:A4}(ha:a∈m):∃o,H a=some o:=by
 let⟨i,hi,e⟩:=G6 ha;have Cm:i<U.length:=by rw[←h.len];exact hi
 exact(h.cell i U[i] a (Bl Cm) (by rw[←e];exact Bl hi)).some
def aP.fresh (h:aP K m H U){p:A4}(hp:H p=none):p∉m:=λz=>by let⟨o,e⟩:=h.mem z;rw[hp] at e;cases e
def aP.nil:aP K [] H []:={.nil,rfl,λi c a e=>by simp at e}
def cb {p:A4}{o:HO}(hp:H p=none):∀a u,H a=some u->upd H p o a=some u:=λa u e=>by unfold upd;rw[A5 (λz=>by rw[z,hp] at e;cases e)];exact e
def pK {p:A4}{o:HO}{a:A4}(h:upd H p o a=none):H a=none:=by
 unfold upd at h;split at h
 ·cases h
 ·exact h
def bP {p:A4}{o:HO}:upd H p o p=some o:=by unfold upd;rw[A7 rfl]
def dF.new {p:A4}{o:HO}(hp:H p=none):dF m H m (upd H p o) :=
 {{[],by simp},.of (cb hp),λa u e _=>cb hp a u e,λ_ h=>pK h}
def dF.newH {p:A4}{o:HO}(hp:H p=none):dF m H (m++[p]) (upd H p o) :=
 {{[p],rfl,λa h=>by rw[Bm.mp h];exact hp},.of (cb hp),λa u e _=>cb hp a u e,λ_ h=>pK h}
def aP.newH {p:A4}{o:HO}{c:aw}(h:aP K m H U)(hp:H p=none)(hc:ie K (m++[p]) (upd H p o) c p):aP K (m++[p]) (upd H p o) (U++[c]):=by
 refine{?_,by simp[h.len],λi c' a e1 e2=>?_}
 ·refine F9.mpr {h.nd,by simp,λa ha b hb=>?_};rw[Bm.mp hb];rintro rfl;exact h.fresh hp ha
 ·by_cases hi:i<m.length
  ·rw[BK hi] at e2;rw[BK (by rw[←h.len];exact hi)] at e1;exact(h.cell i c' a e1 e2).same (cb hp) {[p],rfl}
  ·rw[FW ∅] at e2;rw[FW (by have:=h.len;omega)] at e1;have hl:=h.len;have:i-m.length=0:=by
    cases q:i-m.length with
    |zero=>rfl
    |succ k=>rw[q] at e2;simp at e2
   have e3:i-U.length=0:=∅;rw[this] at e2;rw[e3] at e1;simp at e1 e2;subst e1 e2;exact hc
def dF.put {a:A4}{o o':HO}(ha:a∈m)(e:H a=some o)(ho:∀xs,o≠.tup xs)(hf:∀x u,o≠.frz x u):dF m H m (upd H a o'):=by
 have ne:∀b u,H b=some u->u≠o->b≠a:=λb u q n z=>by rw[z,e] at q;exact n (Option.some.inj q).symm
 refine{{[],by simp},{λb xs q=>?_,λb x u q=>?_},λb u q n=>?_,λb h=>pK h}
 ·unfold upd;rw[A5 (ne b _ q λz=>ho xs z.symm)];exact q
 ·unfold upd;rw[A5 (ne b _ q λz=>hf x u z.symm)];exact q
 ·unfold upd;rw[A5 (λz:b=a=>n (by rw[z];exact ha))];exact q
def aP.put {n:Nat}{a:A4}{o o':HO}{c:aw}(h:aP K m H U)(hn:m[n]?=some a)(e:H a=some o)(ho:∀xs,o≠.tup xs)(hf:∀x u,o≠.frz x u)(hc:ie K m (upd H a o') c a):aP K m (upd H a o') (U.set n c):=by
 have ha:a∈m:=CU hn;have x:dF m H m (upd H a o'):=.put ha e ho hf;refine{h.nd,by simp[h.len],λi c' b e1 e2=>?_};by_cases hi:i=n
 ·subst hi;rw[hn] at e2;cases e2;rw[FV (by have:=(C3.mp hn).1;have:=h.len;omega)] at e1;cases e1;exact hc
 ·rw[CP (Ne.symm hi)] at e1;have nb:b≠a:=by rintro rfl;let⟨h1,q1⟩:=C3.mp e2;let⟨h2,q2⟩:=C3.mp hn;exact hi ((zbP h.nd).mp (q1.trans q2.symm))
  have at':∀u,H b=some u->upd H a o' b=some u:=λu q=>by unfold upd;rw[A5 nb];exact q
  have z:=h.cell i c' b e1 e2
  cases c' with
  |lst xs=>let⟨vs,e,r⟩:=z;exact{vs,at' _ e,RelDs.tf x.tf _ _ r}
  |fz xs=>let⟨o,vs,e,r⟩:=z;exact{o,vs,at' _ e,RelDs.tf x.tf _ _ r}
  |dct A6=>let⟨es,e,k,r⟩:=z;exact{es,at' _ e,k,RelDs.tf x.tf _ _ r}
  |fzd A6=>let⟨o,es,e,k,r⟩:=z;exact{o,es,at' _ e,k,RelDs.tf x.tf _ _ r}
  |fzt A6=>let⟨o,es,e,k,r⟩:=z;exact{o,es,at' _ e,k,RelDs.tf x.tf _ _ r}
  |hk A6=>let⟨o,es,e,k,r⟩:=z;exact{o,es,at' _ e,k,RelDs.tf x.tf _ _ r}
  |dr A6=>let⟨es,e,k,r⟩:=z;exact{es,at' _ e,k,aW.tfm x.tf {[],by simp} r}
  |lr xs=>let⟨vs,e,r⟩:=z;exact{vs,at' _ e,aW.tfm x.tf {[],by simp} r}
  |dt A6=>let⟨es,e,k,r⟩:=z;exact{es,at' _ e,k,RelDs.tf x.tf _ _ r}
  |tb P q=>let⟨e,ps,k,r⟩:=z;subst e;exact{rfl,ps,at' _ k,r.mono x.tf.frz}
  |ob c fs=>let⟨C,dx,es,n,e,k,r⟩:=z;exact{C,dx,es,n,at' _ e,k,aW.tfm x.tf {[],by simp} r}
  |tr xs=>let⟨vs,e,r⟩:=z;exact{vs,at' _ e,aW.tfm x.tf {[],by simp} r}
  |fzr A6=>let⟨o,es,e,k,r⟩:=z;exact{o,es,at' _ e,k,aW.tfm x.tf {[],by simp} r}
  |dtr A6=>let⟨es,e,k,r⟩:=z;exact{es,at' _ e,k,aW.tfm x.tf {[],by simp} r}
end
def ay (K:AP)(f:FE):TE:=λY H Q=>∃O U m d U',ff K m H O Y/\aP K m H U/\f O U=some (d,U') /\
 ∀v H' m',dF m H m' H'->aP K m' H' U'->aq K m' H' d v->Q v H'
def gk (K:AP)(f:FT):TT:=λY H Q=>∃O U m b U',ff K m H O Y/\aP K m H U/\f O U=some (b,U') /\
 ∀H' m',dF m H m' H'->aP K m' H' U'->Q b H'
def ig (K:AP)(f:FA):TA:=λY H Q=>∃O U m ds U',ff K m H O Y/\aP K m H U/\f O U=some (ds,U') /\
 ∀vs H' m',dF m H m' H'->aP K m' H' U'->aW K m' H' ds vs->Q vs H'
def gO.of (K:AP)(m:Tf)(H:Hp)(D:gO):pE->Prop
 |.nx O U=>∀Y H' m',dF m H m' H'->aP K m' H' U->ff K m' H' O Y->D.nx Y H'
 |.bk O U=>∀Y H' m',dF m H m' H'->aP K m' H' U->ff K m' H' O Y->D.bk Y H'
 |.ct O U=>∀Y H' m',dF m H m' H'->aP K m' H' U->ff K m' H' O Y->D.ct Y H'
 |.rt d U=>∀v H' m',dF m H m' H'->aP K m' H' U->aq K m' H' d v->D.rt v H'
def fJ (K:AP)(f:FS):TS:=λD Y H=>∃O U m out,ff K m H O Y/\aP K m H U/\f O U=some out/\gO.of K m H D out
noncomputable def ae (i:Nat):FE:=λO U=>match O[i]? with|some (some d)=>some (d,U)|_=>none
noncomputable def fK (d:D):FE:=λ_ U=>some (.v d,U)
noncomputable def au (g:R->R->ac->UE (R×ac))(fa fb:FE):FE:=λO U=>(fa O U).bind λa=>(fb O a.2).bind λb=>g a.1 b.1 b.2
noncomputable def jZ (g:R->ac->UE (R×ac))(fa:FE):FE:=λO U=>(fa O U).bind λa=>g a.1 a.2
def rf (K:AP)(g:R->R->ac->UE (R×ac))(r:R2):Prop :=
 ∀m H U x y d U' v u Q,aP K m H U->aq K m H x v->aq K m H y u->g x y U=some (d,U')->(∀w H' m',dF m H m' H'->aP K m' H' U'->aq K m' H' d w->Q w H')->r v u H Q
def Uc (K:AP)(g:R->ac->UE (R×ac))(r:V->Hp->VK->Prop):Prop :=
 ∀m H U x d U' v Q,aP K m H U->aq K m H x v->g x U=some (d,U')->(∀w H' m',dF m H m' H'->aP K m' H' U'->aq K m' H' d w->Q w H')->r v H Q
def yT (K:AP)(g:T5 R->ac->UE (R×ac))(r:T5 V->Hp->VK->Prop):Prop :=
 ∀m H U xs d U' vs Q,aP K m H U->aW K m H xs vs->g xs U=some (d,U')->(∀w H' m',dF m H m' H'->aP K m' H' U'->aq K m' H' d w->Q w H')->r vs H Q
noncomputable def am:FA:=λ_ U=>some ([],U)
noncomputable def ag (fa:FE)(fr:FA):FA:=λO U=>(fa O U).bind λa=>(fr O a.2).bind λr=>some (a.1::r.1,r.2)
noncomputable def gp (g:T5 R->ac->UE (R×ac))(fa:FA):FE:=λO U=>(fa O U).bind λa=>g a.1 a.2
section
variable {K:AP}{Y:St}{H:Hp}{Q:VK}
def KM {i:Nat}(h:ay K (ae i) Y H Q):Kr i Y H Q:=by
 let⟨O,U,m,d,U',hl,hs,e,k⟩:=h;unfold ae at e;split at e
 ·rename_i d' q
  cases e;let⟨v,q1,q2⟩:=hl.2 i _ q;exact{v,q1,k v H m .refl hs q2}
 ·cases e
def kj {d:D}{v:V}(hv:∀m H,aq K m H (.v d) v)(h:ay K (fK d) Y H Q):tC v Y H Q:=by let⟨O,U,m,d',U',hl,hs,e,k⟩:=h;cases e;exact k v H m .refl hs (hv _ _)
def ip {g r fa fb}(hg:rf K g r)(h:ay K (au g fa fb) Y H Q):Ks r (ay K fa) (ay K fb) Y H Q:=by let⟨O,U,m,d,U',hl,hs,e,k⟩:=h;let⟨⟨x,U1⟩,e1,e⟩:=AS.mp e;let⟨⟨y,U2⟩,e2,e⟩:=AS.mp e;refine{O,U,m,x,U1,hl,hs,e1,λv H1 m1 x1 s1 r1=>?_};refine{O,U1,m1,y,U2,hl.ext x1,s1,e2,λu H2 m2 x2 s2 r2=>?_};exact hg m2 H2 U2 x y d U' v u Q s2 (r1.ext x2) r2 e λw H3 m3 x3 s3 r3=>k w H3 m3 ((x1.trans x2).trans x3) s3 r3
def Og {g r fa}(hg:Uc K g r)(h:ay K (jZ g fa) Y H Q):SW r (ay K fa) Y H Q:=by let⟨O,U,m,d,U',hl,hs,e,k⟩:=h;let⟨⟨x,U1⟩,e1,e⟩:=AS.mp e;refine{O,U,m,x,U1,hl,hs,e1,λv H1 m1 x1 s1 r1=>?_};exact hg m1 H1 U1 x d U' v Q s1 r1 e λw H3 m3 x3 s3 r3=>k w H3 m3 (x1.trans x3) s3 r3
def JHi {Q:T5 V->Hp->Prop}(h:ig K am Y H Q):AG Y H Q:=by let⟨O,U,m,ds,U',hl,hs,e,k⟩:=h;cases e;exact k [] H m .refl hs rfl
def JFb {fa fr}{Q:T5 V->Hp->Prop}(h:ig K (ag fa fr) Y H Q):pT (ay K fa) (ig K fr) Y H Q:=by let⟨O,U,m,ds,U',hl,hs,e,k⟩:=h;let⟨⟨x,U1⟩,e1,e⟩:=AS.mp e;let⟨⟨xs,U2⟩,e2,e⟩:=AS.mp e;cases e;refine{O,U,m,x,U1,hl,hs,e1,λv H1 m1 x1 s1 r1=>?_};refine{O,U1,m1,xs,U2,hl.ext x1,s1,e2,λvs H2 m2 x2 s2 r2=>?_};exact k (v::vs) H2 m2 (x1.trans x2) s2 {v,vs,rfl,r1.ext x2,r2}
def i8 {g r fa}(hg:yT K g r)(h:ay K (gp g fa) Y H Q):Na r (ig K fa) Y H Q:=by let⟨O,U,m,d,U',hl,hs,e,k⟩:=h;let⟨⟨xs,U1⟩,e1,e⟩:=AS.mp e;refine{O,U,m,xs,U1,hl,hs,e1,λvs H1 m1 x1 s1 r1=>?_};exact hg m1 H1 U1 xs d U' vs Q s1 r1 e λw H3 m3 x3 s3 r3=>k w H3 m3 (x1.trans x3) s3 r3
end
noncomputable def fB (fa:FE):FT:=λO U=>(fa O U).bind λa=>match a.1 with|.v (.bl b)=>some (b,a.2)|_=>none
noncomputable def B6:R->ac->UE A8
 |.v .non,_=>some false
 |.v (.bl b),_=>some b
 |.v (.int i),_=>some (i != 0)
 |.v (.str x),_=>if x.length<=sizeLine then some ((x.length:Int) != 0) else none
 |.v (.tup xs),_=>some (!xs.isEmpty)
 |.v (.fl xs),_=>some (!xs.isEmpty)
 |.v (.fd _ _),_=>none
 |.v (.key _),_=>none
 |.s _ _,_=>none
 |.x _,_=>none
 |.f _ _,_=>none
 |.p n,U=>match U[n]? with|some (.lst xs)=>some (!xs.isEmpty)|some (.fz xs)=>some (!xs.isEmpty)|some (.dct A6)=>some (!A6.isEmpty)|_=>none
noncomputable def dM (fa:FE):FT:=λO U=>(fa O U).bind λa=>(B6 a.1 a.2).bind λb=>some (b,a.2)
noncomputable def ik (t u:FT):FT:=λO U=>(t O U).bind λc=>if c.1=true then u O c.2 else some (false,c.2)
noncomputable def lO (t u:FT):FT:=λO U=>(t O U).bind λc=>if c.1=true then some (true,c.2) else u O c.2
noncomputable def et (t:FT):FT:=λO U=>(t O U).bind λc=>some (!c.1,c.2)
noncomputable def yB (fa fb:FE):FE:=λO U=>(fa O U).bind λa=>match a.1 with|.v (.bl c)=>if c=true then fb O a.2 else some (.v (.bl false),a.2)|_=>none
noncomputable def Pv (fa fb:FE):FE:=λO U=>(fa O U).bind λa=>match a.1 with|.v (.bl c)=>if c=true then some (.v (.bl true),a.2) else fb O a.2|_=>none
noncomputable def oX (fa:FE):FE:=λO U=>(fa O U).bind λa=>match a.1 with|.v (.bl c)=>some (.v (.bl (!c)),a.2)|_=>none
noncomputable def J3 (t:FT)(fa fb:FE):FE:=λO U=>(t O U).bind λc=>if c.1=true then fa O c.2 else fb O c.2
theorem RelDs.length {K:AP}{H:Hp}:∀{ds:T5 D} {vs:T5 V},RelDs K H ds vs->ds.length=vs.length
 |[],_,h=>by rwa[RelDs] at h;subst h;rfl
 |_::_,_,h=>by rwa[RelDs] at h;let⟨v,r,rfl,_,h2⟩:=h;simp[RelDs.length h2]
def RelDs.empty {K:AP}{H:Hp}{ds:T5 D}{vs:T5 V}(h:RelDs K H ds vs):ds.isEmpty=vs.isEmpty:=by have:=h.length;cases ds <;> cases vs <;> simp_all
section
variable {K:AP}{Y:St}{H:Hp}{Q:VK}{B:A8->Hp->Prop}
def Q3 {fa}(h:gk K (fB fa) Y H B):tB (ay K fa) Y H B:=by
 let⟨O,U,m,d,U',hl,hs,e,k⟩:=h;let⟨⟨x,U1⟩,e1,e⟩:=AS.mp e;split at e
 ·rename_i b q
  cases e;subst q;exact{O,U,m,_,U1,hl,hs,e1,λv H1 m1 x1 s1 r1=>{_,by simpa only[aq,ak] using r1,k H1 m1 x1 s1}}
 ·cases e
def zv {fa}(h:gk K (fB fa) Y H B):Jr (ay K fa) Y H B:=Q3 h
theorem xC {m:Tf}{U:ac}{x:R}{b:A8}{v:V}(s:aP K m H U)(r:aq K m H x v)(e:B6 x U=some b):Iw K v H b:=by
 cases x with
 |v d=>
  cases d with
  |non=>cases e;cases r;rfl
  |bl c=>cases e;rwa[aq,ak] at r;subst r;rfl
  |int i=>cases e;rwa[aq,ak] at r;subst r;rfl
  |str x=>
   rwa[aq,ak] at r;subst r
   delta B6 at e
   dsimp only at e;split at e
   ·rename_i z;cases e;exact{z,rfl}
   ·cases e
  |tup xs=>
   cases e;rwa[aq,ak] at r;let⟨a,vs,rfl,q,r⟩:=r;exact .inr (.inl {vs,q,by rw[r.empty]})
  |fl xs=>
   cases e;rwa[aq,ak] at r;let⟨a,vs,rfl,q,r⟩:=r;exact .inl {vs,q.sq,by rw[r.empty]}
  |fd ks ds=>cases e
  |key ks=>cases e
 |s b xs=>cases e
 |x _=>cases e
 |f _ _=>cases e
 |p n=>
  let⟨a,rfl,ha⟩:=r
  delta B6 at e
  dsimp only at e;split at e
  ·rename_i xs q
   cases e;let⟨vs,e,r⟩:=s.cell n _ a q ha;exact .inl {vs,.inl (.inl e),by rw[r.empty]}
  ·rename_i xs q
   cases e;let⟨o,vs,e,r⟩:=s.cell n _ a q ha;exact .inl {vs,.inl (.inr {o,e}),by rw[r.empty]}
  ·rename_i A6 q
   cases e;let⟨es,e,k,r⟩:=s.cell n _ a q ha;refine .inr (.inr {es,e,?_});have:=AQ List.length k;cases es <;> cases A6 <;> simp_all
  ·cases e
def KP {fa}(h:gk K (dM fa) Y H B):(λY H (Q:A8->Hp->Prop)=>ay K fa Y H λx H1=>∃k,Iw K x H1 k/\Q k H1) Y H B:=by let⟨O,U,m,d,U',hl,hs,e,k⟩:=h;let⟨⟨x,U1⟩,e1,e⟩:=AS.mp e;let⟨b,e2,e⟩:=AS.mp e;cases e;exact{O,U,m,x,_,hl,hs,e1,λv H1 m1 x1 s1 r1=>{_,xC s1 r1 e2,k H1 m1 x1 s1}}
theorem JF4 {t u}(h:gk K (ik t u) Y H B):N4 (gk K t) (gk K u) Y H B:=by
 let⟨O,U,m,d,U',hl,hs,e,k⟩:=h;let⟨⟨c,U1⟩,e1,e⟩:=AS.mp e;refine{O,U,m,c,U1,hl,hs,e1,λH1 m1 x1 s1=>?_}
 cases c with
 |true=>exact{O,U1,m1,d,U',hl.ext x1,s1,e,λH2 m2 x2 s2=>k H2 m2 (x1.trans x2) s2}
 |false=>cases e;exact k H1 m1 x1 s1
theorem KQ {t u}(h:gk K (lO t u) Y H B):SX (gk K t) (gk K u) Y H B:=by
 let⟨O,U,m,d,U',hl,hs,e,k⟩:=h;let⟨⟨c,U1⟩,e1,e⟩:=AS.mp e;refine{O,U,m,c,U1,hl,hs,e1,λH1 m1 x1 s1=>?_}
 cases c with
 |false=>exact{O,U1,m1,d,U',hl.ext x1,s1,e,λH2 m2 x2 s2=>k H2 m2 (x1.trans x2) s2}
 |true=>cases e;exact k H1 m1 x1 s1
def JF3 {t}(h:gk K (et t) Y H B):N0 (gk K t) Y H B:=by let⟨O,U,m,d,U',hl,hs,e,k⟩:=h;let⟨⟨c,U1⟩,e1,e⟩:=AS.mp e;cases e;exact{O,U,m,c,U1,hl,hs,e1,λH1 m1 x1 s1=>k H1 m1 x1 s1}
def Li {fa fb}(h:ay K (yB fa fb) Y H Q):Jz (ay K fa) (ay K fb) Y H Q:=by
 let⟨O,U,m,d,U',hl,hs,e,k⟩:=h;let⟨⟨x,U1⟩,e1,e⟩:=AS.mp e;split at e
 ·rename_i c q;subst q;refine{O,U,m,_,U1,hl,hs,e1,λv H1 m1 x1 s1 r1=>{c,by simpa only[aq,ak] using r1,?_}}
  cases c with
  |true=>exact{O,U1,m1,d,U',hl.ext x1,s1,e,λw H2 m2 x2 s2 r2=>k w H2 m2 (x1.trans x2) s2 r2}
  |false=>cases e;exact k _ H1 m1 x1 s1 (by rwa[aq,ak])
 ·cases e
def Oi {fa fb}(h:ay K (Pv fa fb) Y H Q):NZ (ay K fa) (ay K fb) Y H Q:=by
 let⟨O,U,m,d,U',hl,hs,e,k⟩:=h;let⟨⟨x,U1⟩,e1,e⟩:=AS.mp e;split at e
 ·rename_i c q;subst q;refine{O,U,m,_,U1,hl,hs,e1,λv H1 m1 x1 s1 r1=>{c,by simpa only[aq,ak] using r1,?_}}
  cases c with
  |false=>exact{O,U1,m1,d,U',hl.ext x1,s1,e,λw H2 m2 x2 s2 r2=>k w H2 m2 (x1.trans x2) s2 r2}
  |true=>cases e;exact k _ H1 m1 x1 s1 (by rwa[aq,ak])
 ·cases e
def JHh {fa}(h:ay K (oX fa) Y H Q):Ju (ay K fa) Y H Q:=by
 let⟨O,U,m,d,U',hl,hs,e,k⟩:=h;let⟨⟨x,U1⟩,e1,e⟩:=AS.mp e;split at e
 ·rename_i c q
  cases e;subst q;exact{O,U,m,_,U1,hl,hs,e1,λv H1 m1 x1 s1 r1=>{c,by simpa only[aq,ak] using r1,k _ H1 m1 x1 s1 (by rwa[aq,ak])}}
 ·cases e
theorem Ol {t fa fb}(h:ay K (J3 t fa fb) Y H Q):SY (gk K t) (ay K fa) (ay K fb) Y H Q:=by
 let⟨O,U,m,d,U',hl,hs,e,k⟩:=h;let⟨⟨c,U1⟩,e1,e⟩:=AS.mp e;refine{O,U,m,c,U1,hl,hs,e1,λH1 m1 x1 s1=>?_}
 cases c with
 |true=>exact{O,U1,m1,d,U',hl.ext x1,s1,e,λw H2 m2 x2 s2 r2=>k w H2 m2 (x1.trans x2) s2 r2}
 |false=>exact{O,U1,m1,d,U',hl.ext x1,s1,e,λw H2 m2 x2 s2 r2=>k w H2 m2 (x1.trans x2) s2 r2}
end
noncomputable def vals:T5 R->UE (T5 D)
 |[]=>some []
 |.v d::r=>(vals r).bind λds=>some (d::ds)
 |.p _::_=>none
 |.s _ _::_=>none
 |.x _::_=>none
 |.f _ _::_=>none
theorem my {K:AP}{m:Tf}{H:Hp}:∀{rs:T5 R} {ds:T5 D} {vs:T5 V},vals rs=some ds->aW K m H rs vs->RelDs K H ds vs
 |[],_,_,e,h=>by cases e;rwa[RelDs];exact h
 |.v d::r,_,_,e,⟨v,vs,rfl,h1,h2⟩=>by let⟨ds,e1,e⟩:=AS.mp e;cases e;rwa[RelDs];exact{v,vs,rfl,h1,my e1 h2}
 |.p _::_,_,_,e,_=>by cases e
 |.s _ _::_,_,_,e,_=>by cases e
 |.x _::_,_,_,e,_=>by cases e
 |.f _ _::_,_,_,e,_=>by cases e
noncomputable def cP (fa:FA):FE:=λO U=>(fa O U).bind λa=>(vals a.1).bind λds=>if ds.length<=sizeLine then some (.v (.tup ds),a.2) else none
noncomputable def dX (fa:FA):FE:=λO U=>(fa O U).bind λa=>(vals a.1).bind λds=>if ds.length<=sizeLine then some (.p a.2.length,a.2++[.lst ds]) else none
section
variable {K:AP}{m:Tf}{Y:St}{H:Hp}{Q:VK}{U:ac}
def lg {ds:T5 D}{vs:T5 V}{p:A4}(s:aP K m H U)(r:RelDs K H ds vs)(hp:H p=none):dF m H m (upd H p (.tup vs))/\aP K m (upd H p (.tup vs)) U/\aq K m (upd H p (.tup vs)) (.v (.tup ds)) (.ref p):=by refine{.new hp,s.same (cb hp),?_};rwa[aq,ak];exact{p,vs,rfl,.inl (.inl bP),RelDs.tf (.of (cb hp)) _ _ r}
def gE {ds:T5 D}{vs:T5 V}{p:A4}(s:aP K m H U)(r:RelDs K H ds vs)(hp:H p=none):dF m H (m++[p]) (upd H p (.lst vs))/\aP K (m++[p]) (upd H p (.lst vs)) (U++[.lst ds])/\aq K (m++[p]) (upd H p (.lst vs)) (.p U.length) (.ref p):=by refine{.newH hp,s.newH hp {vs,bP,RelDs.tf (.of (cb hp)) _ _ r},p,rfl,?_};rw[←s.len];simp
def KN {fa}(h:ay K (cP fa) Y H Q):NW (ig K fa) Y H Q:=by
 let⟨O,U,m,d,U',hl,hs,e,k⟩:=h;let⟨⟨xs,U1⟩,e1,e⟩:=AS.mp e;let⟨ds,e2,e⟩:=AS.mp e;split at e
 ·rename_i z
  cases e;refine{O,U,m,xs,_,hl,hs,e1,λvs H1 m1 x1 s1 r1=>?_};have r2:=my e2 r1;refine{by rw[←r2.length];exact z,λp hp=>?_};let⟨a,b,c⟩:=lg s1 r2 hp;exact k _ _ _ (x1.trans a) b c
 ·cases e
def JHj {fa}(h:ay K (dX fa) Y H Q):N1 (ig K fa) Y H Q:=by
 let⟨O,U,m,d,U',hl,hs,e,k⟩:=h;let⟨⟨xs,U1⟩,e1,e⟩:=AS.mp e;let⟨ds,e2,e⟩:=AS.mp e;split at e
 ·rename_i z
  cases e;refine{O,U,m,xs,_,hl,hs,e1,λvs H1 m1 x1 s1 r1=>?_};have r2:=my e2 r1;refine{by rw[←r2.length];exact z,λp hp=>?_};let⟨a,b,c⟩:=gE s1 r2 hp;exact k _ _ _ (x1.trans a) b c
 ·cases e
end
noncomputable def aQ:FS:=λO U=>some (.nx O U)
noncomputable def aE (a b:FS):FS:=λO U=>(a O U).bind λo=>match o with|.nx O' U'=>b O' U'|o=>some o
noncomputable def cS (f:FE):FS:=λO U=>(f O U).bind λa=>some (.nx O a.2)
noncomputable def bq (f:FE):FS:=λO U=>(f O U).bind λa=>some (.rt a.1 a.2)
noncomputable def fR (t:FT)(a b:FS):FS:=λO U=>(t O U).bind λc=>if c.1=true then a O c.2 else b O c.2
noncomputable def aV (i:Nat)(f:FE):FS:=λO U=>(f O U).bind λa=>some (.nx (O.set i (some a.1)) a.2)
section
variable {K:AP}{m m' m1:Tf}{Y:St}{H H' H1:Hp}{D:gO}{U:ac}{O:Lo}
theorem gO.of_ext {o:pE}(x:dF m H m1 H1)(h:gO.of K m H D o):gO.of K m1 H1 D o:=by
 cases o with
 |nx O U=>exact λY H' m' y=>h Y H' m' (x.trans y)
 |bk O U=>exact λY H' m' y=>h Y H' m' (x.trans y)
 |ct O U=>exact λY H' m' y=>h Y H' m' (x.trans y)
 |rt d U=>exact λY H' m' y=>h Y H' m' (x.trans y)
def ff.set {d:R}{v:V}(h:ff K m H O Y)(r:aq K m H d v)(i:Nat):ff K m H (O.set i (some d)) (Y.set i (some v)):=by
 refine{by simp[h.1],λj d' e=>?_};by_cases hj:j=i
 ·subst hj;by_cases hi:j<O.length
  ·rw[FV hi] at e
   cases e;exact{v,FV (by rw[←h.1];exact hi),r}
  ·rw[zcm (by simp;omega)] at e
   cases e
 ·rw[CP (Ne.symm hj)] at e;let⟨u,q1,q2⟩:=h.2 j d' e;exact{u,by rw[CP (Ne.symm hj)];exact q1,q2}
def JF9 (h:fJ K aQ D Y H):Jv D Y H:=by let⟨O,U,m,o,hl,hs,e,k⟩:=h;cases e;exact k Y H m .refl hs hl
theorem KW {a b}(h:fJ K (aE a b) D Y H):NX (fJ K a) (fJ K b) D Y H:=by
 let⟨O,U,m,o,hl,hs,e,k⟩:=h;let⟨o1,e1,e⟩:=AS.mp e;refine{O,U,m,o1,hl,hs,e1,?_}
 cases o1 with
 |nx O1 U1=>exact λY1 H1 m1 x1 s1 l1=>{O1,U1,m1,o,l1,s1,e,gO.of_ext x1 k}
 |bk O1 U1=>cases e;exact k
 |ct O1 U1=>cases e;exact k
 |rt d U1=>cases e;exact k
def JFa {f}(h:fJ K (cS f) D Y H):Jy (ay K f) D Y H:=by let⟨O,U,m,o,hl,hs,e,k⟩:=h;let⟨⟨x,U1⟩,e1,e⟩:=AS.mp e;cases e;exact{O,U,m,x,U1,hl,hs,e1,λv H1 m1 x1 s1 r1=>k Y H1 m1 x1 s1 (hl.ext x1)}
def KZ {f}(h:fJ K (bq f) D Y H):NY (ay K f) D Y H:=by let⟨O,U,m,o,hl,hs,e,k⟩:=h;let⟨⟨x,U1⟩,e1,e⟩:=AS.mp e;cases e;exact{O,U,m,x,U1,hl,hs,e1,k}
theorem JHl {t a b}(h:fJ K (fR t a b) D Y H):N2 (gk K t) (fJ K a) (fJ K b) D Y H:=by
 let⟨O,U,m,o,hl,hs,e,k⟩:=h;let⟨⟨c,U1⟩,e1,e⟩:=AS.mp e;refine{O,U,m,c,U1,hl,hs,e1,λH1 m1 x1 s1=>?_}
 cases c with
 |true=>exact{O,U1,m1,o,hl.ext x1,s1,e,gO.of_ext x1 k}
 |false=>exact{O,U1,m1,o,hl.ext x1,s1,e,gO.of_ext x1 k}
def CW {i f}(h:fJ K (aV i f) D Y H):Cs (ay K f) (sP i) D Y H:=by let⟨O,U,m,o,hl,hs,e,k⟩:=h;let⟨⟨x,U1⟩,e1,e⟩:=AS.mp e;cases e;exact{O,U,m,x,U1,hl,hs,e1,λv H1 m1 x1 s1 r1=>k _ H1 m1 x1 s1 ((hl.ext x1).set r1 i)}
end
abbrev FG:=R->Lo->ac->UE (Lo×ac)
def rK (K:AP)(g:FG):TG:=λv Y H Q=>∃O U m d O' U',ff K m H O Y/\aP K m H U/\aq K m H d v/\g d O U=some (O',U') /\
 ∀Y' H' m',dF m H m' H'->aP K m' H' U'->ff K m' H' O' Y'->Q Y' H'
abbrev J9:=T5 R->Lo->ac->UE (Lo×ac)
noncomputable def vI (K:AP)(g:J9):FP:=λvs Y H Q=>∃O U m ds O' U',ff K m H O Y/\aP K m H U/\aW K m H ds vs/\g ds O U=some (O',U') /\
 ∀Y' H' m',dF m H m' H'->aP K m' H' U'->ff K m' H' O' Y'->Q Y' H'
noncomputable def bE (i:Nat):FG:=λd O U=>some (O.set i (some d),U)
noncomputable def dI:J9:=λds O U=>match ds with|[]=>some (O,U)|_=>none
noncomputable def aK (g:FG)(r:J9):J9:=λds O U=>match ds with|[]=>none|d::ds=>(g d O U).bind λa=>r ds a.1 a.2
noncomputable def qE (n:Nat)(g:J9):FG:=λd O U=>match d with|.v (.tup xs)=>if xs.length=n then g (xs.map .v) O U else none|_=>none
noncomputable def oP (f:FE)(g:FG):FS:=λO U=>(f O U).bind λa=>(g a.1 O a.2).bind λb=>some (.nx b.1 b.2)
section
variable {K:AP}{m m1:Tf}{Y:St}{H H1:Hp}{D:gO}{U:ac}{O:Lo}{v:V}{Q:St->Hp->Prop}
def K9 {i}(h:rK K (bE i) v Y H Q):sP i v Y H Q:=by let⟨O,U,m,d,O',U',hl,hs,r,e,k⟩:=h;cases e;exact k _ H m .refl hs (hl.set r i)
theorem JB1 {vs}(h:vI K dI vs Y H Q):Ps vs Y H Q:=by
 let⟨O,U,m,ds,O',U',hl,hs,r,e,k⟩:=h
 cases ds with
 |nil=>cases e;exact{r,k Y H m .refl hs hl}
 |cons d ds=>cases e
theorem JAv {g r vs}(h:vI K (aK g r) vs Y H Q):J1 (rK K g) (vI K r) vs Y H Q:=by
 let⟨O,U,m,ds,O',U',hl,hs,rr,e,k⟩:=h
 cases ds with
 |nil=>cases e
 |cons d ds=>
  let⟨v,vr,rfl,r1,r2⟩:=rr;let⟨⟨O1,U1⟩,e1,e⟩:=AS.mp e;refine{v,vr,rfl,O,U,m,d,O1,U1,hl,hs,r1,e1,λY1 H1 m1 x1 s1 l1=>?_};exact{O1,U1,m1,ds,O',U',l1,s1,r2.ext x1,e,λY2 H2 m2 x2 s2 l2=>k Y2 H2 m2 (x1.trans x2) s2 l2}
theorem RelDs.rs:∀{ds:T5 HW.D} {vs:T5 V},RelDs K H ds vs->aW K m H (ds.map .v) vs
 |[],_,h=>by rwa[RelDs] at h;exact h
 |d::ds,_,h=>by rwa[RelDs] at h;let⟨v,r,rfl,h1,h2⟩:=h;exact{v,r,rfl,h1,RelDs.rs h2}
def K8 {n g}(h:rK K (qE n g) v Y H Q):Pr K n (vI K g) v Y H Q:=by
 let⟨O,U,m,d,O',U',hl,hs,r,e,k⟩:=h;unfold qE at e;split at e
 ·rename_i xs;split at e
  ·rename_i hn;rwa[aq,ak] at r;let⟨a,vs,rfl,q,rr⟩:=r;exact{a,vs,rfl,q,by rw[←rr.length];exact hn,O,U,m,_,O',U',hl,hs,rr.rs,e,k}
  ·cases e
 ·cases e
def Lh {f g}(h:fJ K (oP f g) D Y H):Cs (ay K f) (rK K g) D Y H:=by let⟨O,U,m,o,hl,hs,e,k⟩:=h;let⟨⟨x,U1⟩,e1,e⟩:=AS.mp e;let⟨⟨O2,U2⟩,e2,e⟩:=AS.mp e;cases e;exact{O,U,m,x,U1,hl,hs,e1,λv H1 m1 x1 s1 r1=>{O,U1,m1,x,O2,U2,hl.ext x1,s1,r1,e2,λY2 H2 m2 x2 s2 l2=>k Y2 H2 m2 (x1.trans x2) s2 l2}}
end
def gN:HO->Prop
 |.lst _=>True
 |.set _ _=>True
 |.dK _=>True
 |.dT _=>True
 |_=>False
def Qa (t:TE):TE:=λY H Q=>t Y H λv H1=>Q v H1\/∃a u,H1 a=some u/\gN u/\∀o,Q v (upd H1 a (.frz o u))
noncomputable def FM:R->ac->UE (D×ac)
 |.v d,U=>some (d,U)
 |.s _ _,_=>none
 |.x _,_=>none
 |.f _ _,_=>none
 |.p n,U=>match U[n]? with|some (.lst xs)=>some (.fl xs,U.set n (.fz xs))|some (.fz xs)=>some (.fl xs,U)|some (.dct A6)=>some (.fd (A6.map (·.1)) (A6.map (·.2)),U.set n (.fzd A6))|some (.fzd A6)=>some (.fd (A6.map (·.1)) (A6.map (·.2)),U)|_=>none
noncomputable def bJ (f:FE):FE:=λO U=>(f O U).bind λa=>(FM a.1 a.2).bind λb=>some (.v b.1,b.2)
section
variable {K:AP}{m:Tf}{Y:St}{H:Hp}{U:ac}{Q:VK}
theorem J2 {x:R}{d:D}{U':ac}{v:V}{B:Hp->Prop}(hs:aP K m H U)(r:aq K m H x v)(e:FM x U=some (d,U'))
  (k:∀H',dF m H m H'->aP K m H' U'->ak K H' d v->B H'):B H\/∃a u,H a=some u/\gN u/\∀o,B (upd H a (.frz o u)):=by
 cases x with
 |v d'=>cases e;exact .inl (k H .refl hs r)
 |s b xs=>cases e
 |x _=>cases e
 |f _ _=>cases e
 |p n=>
  let⟨a,rfl,ha⟩:=r;rwa[FM] at e;split at e
  ·rename_i xs q
   cases e;let⟨vs,ea,rr⟩:=hs.cell n _ a q ha;refine .inr {a,_,ea,trivial,λo=>?_};have x:dF m H m (upd H a (.frz o (.lst vs))):=.put (CU ha) ea ∅ ∅;refine k _ x (hs.put ha ea ∅ ∅ {o,vs,bP,RelDs.tf x.tf _ _ rr}) ?_;rwa[ak];exact{a,vs,rfl,.inl {o,bP},RelDs.tf x.tf _ _ rr}
  ·rename_i xs q
   cases e;let⟨o,vs,ea,rr⟩:=hs.cell n _ a q ha;refine .inl (k H .refl hs ?_);rwa[ak];exact{a,vs,rfl,.inl {o,ea},rr}
  ·rename_i A6 q
   cases e;let⟨es,ea,ke,rr⟩:=hs.cell n _ a q ha;refine .inr {a,_,ea,trivial,λo=>?_};have x:dF m H m (upd H a (.frz o (.dK es))):=.put (CU ha) ea ∅ ∅;refine k _ x (hs.put ha ea ∅ ∅ {o,es,bP,ke,RelDs.tf x.tf _ _ rr}) ?_;rwa[ak];exact{a,o,es,rfl,bP,ke,RelDs.tf x.tf _ _ rr}
  ·rename_i A6 q
   cases e;let⟨o,es,ea,ke,rr⟩:=hs.cell n _ a q ha;refine .inl (k H .refl hs ?_);rwa[ak];exact{a,o,es,rfl,ea,ke,rr}
  ·cases e
def JF {f}(h:ay K (bJ f) Y H Q):Qa (ay K f) Y H Q:=by let⟨O,U,m,d,U',hl,hs,e,k⟩:=h;let⟨⟨x,U1⟩,e1,e⟩:=AS.mp e;let⟨⟨d1,U2⟩,e2,e⟩:=AS.mp e;cases e;refine{O,U,m,x,U1,hl,hs,e1,λv H1 m1 x1 s1 r1=>?_};exact J2 (B:=λH'=>Q v H') s1 r1 e2 λH' y s2 r2=>k v H' m1 (x1.trans y) s2 r2
end
abbrev FI:=Lo->ac->UE (T5 D×ac)
structure IE (K:AP)(J:It)(xs:List D)(P:Hp->Prop):Prop where
 st:∀H H',TF H H'->P H->P H'
 stop:∀i H,P H->xs.length<=i->J.stop i H
 go:∀(i:Nat) d H,xs[i]?=some d->P H->J.go i H
 yld:∀(i:Nat) d H x H',xs[i]?=some d->P H->J.yld i H x H'->H'=H/\ak K H d x
def C6 (K:AP)(f:FI):TI:=λY H R=>∃O U m xs U',ff K m H O Y/\aP K m H U/\f O U=some (xs,U') /\
 ∀J P H' m',dF m H m' H'->aP K m' H' U'->IE K J xs P->P H'->R J H'
noncomputable def dU (g:FG)(b:FS):T5 D->Lo->ac->UE pE
 |[],O,U=>some (.nx O U)
 |x::xs,O,U=>(g (.v x) O U).bind λa=>(b a.1 a.2).bind λo=>match o with
  |.nx O' U'=>dU g b xs O' U'
  |.ct O' U'=>dU g b xs O' U'
  |.bk O' U'=>some (.nx O' U')
  |.rt d U'=>some (.rt d U')
noncomputable def ii (i:FI)(g:FG)(b:FS):FS:=λO U=>(i O U).bind λa=>dU g b a.1 O a.2
noncomputable def bH (f:FE):FI:=λO U=>(bJ f O U).bind λa=>match a.1 with|.v (.fl xs)=>some (xs,a.2)|.v (.tup xs)=>some (xs,a.2)|_=>none
def O4 (K:AP)(tl:TE):TI:=λY H R=>tl Y H λx H1=>∃a,x=.ref a/\(((∃xs,jV K H1 a xs)/\R (SE K a) H1)\/((∃xs,gM K H1 a xs)/\R (SD K a) H1))
noncomputable def yA (f:FE):FI:=λO U=>(f O U).bind λa=>match a.1 with|.v (.int j)=>if -(2 ^ 62)<=j/\j<2 ^ 62 then some ((List.range j.toNat).map λi=>.int (i:Nat),a.2) else none|_=>none
section
variable {K:AP}{m:Tf}{Y:St}{H:Hp}{U:ac}{R:It->Hp->Prop}
theorem RelDs.get:∀{ds:T5 D} {vs:T5 V} {i:Nat} {d:D},RelDs K H ds vs->ds[i]?=some d->∃v,vs[i]?=some v/\ak K H d v
 |[],_,_,_,_,e=>by simp at e
 |x::xs,vs,0,d,h,e=>by rwa[RelDs] at h;let⟨v,r,rfl,h1,h2⟩:=h;simp at e;subst e;exact{v,rfl,h1}
 |x::xs,vs,i+1,d,h,e=>by rwa[RelDs] at h;let⟨v,r,rfl,h1,h2⟩:=h;let⟨u,q1,q2⟩:=RelDs.get (i:=i) h2 ‹e›;exact{u,by simpa using q1,q2}
def Mp {a vs xs}(r0:RelDs K H xs vs):IE K (SE K a) xs (λH=>M6 K H a vs/\RelDs K H xs vs) where
 st:=λH H' t ⟨f,r⟩=>{f.tf t,RelDs.tf t _ _ r}
 stop:=λi H ⟨f,r⟩ hi=>{vs,f.sq,by rw[←r.length];exact hi}
 go:=λi d H e ⟨f,r⟩=>let ⟨v,q,_⟩:=r.get e;{vs,v,f.sq,q}
 yld:=λi d H x H' e ⟨f,r⟩ ⟨e1,e2⟩=>by let⟨v,q,rv⟩:=r.get e;have:=e2 vs f.sq;rw[q] at this;cases this;exact{e1,rv}
def Mn {a vs xs}(r0:RelDs K H xs vs):IE K (SD K a) xs (λH=>gM K H a vs/\RelDs K H xs vs) where
 st:=λH H' t ⟨f,r⟩=>{gM.tf t f,RelDs.tf t _ _ r}
 stop:=λi H ⟨f,r⟩ hi=>{vs,f,by rw[←r.length];exact hi}
 go:=λi d H e ⟨f,r⟩=>let ⟨v,q,_⟩:=r.get e;{vs,v,f,q}
 yld:=λi d H x H' e ⟨f,r⟩ ⟨e1,e2⟩=>by let⟨v,q,rv⟩:=r.get e;have:=e2 vs f;rw[q] at this;cases this;exact{e1,rv}
def Mo (lo:Int)(n:Nat):IE K (QT lo n) ((List.range n).map λk=>.int (lo+(k:Nat))) (λ_=>True) where
 st:=λ_ _ _ _=>trivial
 stop:=λi H _ hi=>by show n<=i;simpa using hi
 go:=λi d H e _=>by
  have:=(C3.mp e).1
  show i<n;simpa using this
 yld:=λi d H x H' e _ ⟨e1,e2⟩=>by
  have hi:=(C3.mp e).1;have Cm:i<n:=by simpa using hi
  refine{e1,?_};simp[Cm] at e;subst e e2;rwa[ak]
def JGb {f}(h:C6 K (bH f) Y H R):O4 K (Qa (ay K f)) Y H R:=by
 let⟨O,U,m,xs,U',hl,hs,e,k⟩:=h;let⟨⟨x,U1⟩,e1,e⟩:=AS.mp e;refine JF {O,U,m,x,U1,hl,hs,e1,λv H1 m1 x1 s1 r1=>?_};split at e
 ·rename_i ys q
  cases e;simp only at q;subst q;rwa[aq,ak] at r1;let⟨a,vs,rfl,f,r⟩:=r1;exact{a,rfl,.inl {{vs,f.sq},k _ _ H1 m1 x1 s1 (Mp r) {f,r}}}
 ·rename_i ys q
  cases e;simp only at q;subst q;rwa[aq,ak] at r1;let⟨a,vs,rfl,f,r⟩:=r1;exact{a,rfl,.inr {{vs,f},k _ _ H1 m1 x1 s1 (Mn r) {f,r}}}
 ·cases e
def JHm {f}(h:C6 K (yA f) Y H R):J0 (ig K (ag f am)) Y H R:=by
 let⟨O,U,m,xs,U',hl,hs,e,k⟩:=h;let⟨⟨x,U1⟩,e1,e⟩:=AS.mp e;refine{O,U,m,[x],U1,hl,hs,by simp[ag,am,e1],λvs H1 m1 x1 s1 r1=>?_};split at e
 ·rename_i j q;split at e
  ·rename_i z
   cases e;simp only at q;subst q;let⟨v,r,rfl,r1,r2⟩:=r1;have r2:r=[]:=r2;rwa[aq,ak] at r1;subst r1 r2;have:=Mo (K:=K) 0 j.toNat;rwa[Int.zero_add] at this
   exact{j,rfl,z.1,z.2,k _ _ H1 m1 x1 s1 this trivial}
  ·cases e
 ·cases e
end
end HW
namespace HW
variable {K:AP}
open L2
abbrev MF:=T5 D->UE D
def xn (H H':Hp):Prop:=∀a o,H a=some o->H' a=some o
noncomputable def BU (K:AP)(n:Nat)(f:MF):Sp:=λvs H Q _=>∃ds d,ds.length=n/\RelDs K H ds vs/\f ds=some d/\∀v H',xn H H'->ak K H' d v->Q v H'
noncomputable def fin:pE->UE D
 |.rt r U=>(FM r U).bind λa=>some a.1
 |.nx _ _=>some .non
 |_=>none
noncomputable def eM (k:Nat)(b:FS):MF:=λds=>(b (ds.map (λd=>some (.v d))++List.replicate (k-ds.length) none) []).bind fin
noncomputable def aJ (f:MF)(n:Nat)(fa:FA):FE:=λO U=>(fa O U).bind λa=>(vals a.1).bind λds=>if ds.length=n then (f ds).bind λd=>some (.v d,a.2) else none
section
variable {K:AP}{m:Tf}{Y:St}{H H':Hp}{U:ac}{Q:VK}
theorem xn.ext (s:xn H H'):dF m H m H':={{[],by simp},.of s,λa o e _=>s a o e,λa h=>by
 cases q:H a with
 |none=>rfl
 |some o=>rw[s a o q] at h;cases h}
def JFc {f n fa}{E:XK}(h:ay K (aJ f n fa) Y H Q):vj (BU K n f) [] E (ig K fa) Y H Q:=by
 let⟨O,U,m,d,U',hl,hs,e,k⟩:=h;let⟨⟨xs,U1⟩,e1,e⟩:=AS.mp e;let⟨ds,e2,e⟩:=AS.mp e;split at e
 ·rename_i hn;let⟨d1,e3,e⟩:=AS.mp e;cases e;refine{O,U,m,xs,_,hl,hs,e1,λvs H1 m1 x1 s1 r1=>?_};refine{ds,d1,hn,by simpa using my e2 r1,e3,λv H2 z r2=>?_};exact k v H2 m1 (x1.trans z.ext) (s1.same z) r2
 ·cases e
def sn {N:Tn}{ds:T5 D}{vs:T5 V}(r:RelDs K H ds vs):ff K [] H (ds.map (λd=>some (.v d))++List.replicate (N.length-ds.length) none) (L2.fO N vs):=by
 have hl:=r.length;unfold L2.fO;refine{by simp[hl],λi d e=>?_};by_cases hi:i<ds.length
 ·rw[BK ‹hi›,CG] at e
  cases q:ds[i]? with
  |none=>rw[q] at e;cases e
  |some d'=>
   rw[q] at e;cases e;let⟨v,q1,q2⟩:=r.get q;exact{v,by rw[BK (by simp;omega),CG,q1];rfl,q2}
 ·rw[FW ‹hi›,zb8] at e;split at e <;> cases e
noncomputable def G9 (Q:VK):VK:=λv H=>Q v H\/∃a u,H a=some u/\gN u/\∀o,Q v (upd H a (.frz o u))
def dF.sam (x:dF [] H m H'):xn H H':=λa o e=>x.keep a o e ∅
theorem KH {N:Tn}{b:FS}{ds:T5 D}{vs:T5 V}{d:D}{E:XK}(r:RelDs K H ds vs)(e:eM N.length b ds=some d)(k:∀v H',xn H H'->ak K H' d v->Q v H') :
  fJ K b {nx:=λ_ H'=>G9 Q .non H',rt:=G9 Q} (L2.fO N vs) H:=by
 let⟨o,e1,e⟩:=AS.mp e;refine{_,[],[],o,sn r,.nil,e1,?_}
 cases o with
 |nx O U=>
  cases e;exact λY H' m' x _ _=>.inl (k _ _ x.sam (by rwa[ak]))
 |bk O U=>cases e
 |ct O U=>cases e
 |rt q U=>
  let⟨⟨d1,U1⟩,e2,e⟩:=AS.mp e;cases e;intro v H' m' x s r';exact J2 (B:=λH'=>Q v H') s r' e2 λH2 y s2 r2=>k v H2 (x.trans y).sam r2
end
noncomputable def yu (C:Int->Int->A8)(f:Int->Int->D):R->R->ac->UE (R×ac)
 |.v (.int i),.v (.int j),U=>if C i j=true then some (.v (f i j),U) else none
 |_,_,_=>none
def gI {C:Int->Int->A8}{C':Int->Int->Prop}{f:Int->Int->D}{g:Int->Int->V}(hC:∀i j,C i j=true->C' i j)(hg:∀H i j,ak K H (f i j) (g i j)):rf K (yu C f) (rI C' g):=by
 intro m H U x y d U' v u Q s rx ry e k;unfold yu at e;split at e
 ·rename_i i j;split at e
  ·rename_i z
   cases e;rwa[aq,ak] at rx ry;subst rx ry;exact{i,j,rfl,rfl,hC i j z,k _ H m .refl s (hg H i j)}
  ·cases e
 ·cases e
def Ql {f:Int->Int->D}{g:Int->Int->V}(hg:∀H i j,ak K H (f i j) (g i j)):rf K (yu (λ_ _=>true) f) (AT g):=by
 intro m H U x y d U' v u Q s rx ry e k;unfold yu at e;split at e
 ·rename_i i j;split at e
  ·cases e;rwa[aq,ak] at rx ry;subst rx ry;exact{i,j,rfl,rfl,k _ H m .refl s (hg H i j)}
  ·cases e
 ·cases e
abbrev oM:=yu (λ_ _=>true) λi j=>.int (i-j)
abbrev nG:=yu (λi j=>decide (-(2 ^ 64)<i/\i<2 ^ 64) || decide (-(2 ^ 64)<j/\j<2 ^ 64)) λi j=>.int (i*j)
abbrev fV:=yu (λ_ j=>decide (0<j/\j<1073741824)) λi j=>.int (i / j)
abbrev cE:=yu (λ_ j=>decide (0<j)) λi j=>.int (i%j)
abbrev rN:=yu (λi j=>decide (0<=j/\j<=1000000/\i.natAbs<2 ^ 64)) λi j=>.int (i ^ j.toNat)
abbrev L9:=yu (λ_ _=>true) λi j=>.bl (decide (i<j))
abbrev JY:=yu (λ_ _=>true) λi j=>.bl (decide (i<=j))
abbrev Qk:=yu (λ_ _=>true) λi j=>.bl (decide (j<i))
noncomputable def uf:R->ac->UE (R×ac)
 |.v (.int i),U=>some (.v (.int (-i)),U)
 |_,_=>none
section
variable {K:AP}
def Dd {H:Hp}{i:Int}:ak K H (.int i) (.int i):=by rwa[ak]
def Q8 {H:Hp}{i:A8}:ak K H (.bl i) (.bl i):=by rwa[ak]
def O6:rf K oM (AT λi j=>.int (i-j)):=Ql λ_ _ _=>Dd
def Pa:rf K nG (rI FD λi j=>.int (i*j)):=gI (λi j h=>by simpa[FD] using h) λ_ _ _=>Dd
def Pn:rf K fV (rI M8 λi j=>.int (i / j)):=gI (λi j h=>by simpa[M8] using h) λ_ _ _=>Dd
def Pb:rf K cE (rI (λ_ j=>0<j) λi j=>.int (i%j)):=gI (λi j h=>by simpa using h) λ_ _ _=>Dd
def O8:rf K rN (rI M7 λi j=>.int (i ^ j.toNat)):=gI (λi j h=>by simpa[M7] using h) λ_ _ _=>Dd
def Pd:rf K L9 (AT λi j=>.bl (decide (i<j))):=Ql λ_ _ _=>Q8
def Rr:rf K JY (AT λi j=>.bl (decide (i<=j))):=Ql λ_ _ _=>Q8
def Rt:rf K Qk (AT λi j=>.bl (decide (j<i))):=Ql λ_ _ _=>Q8
def O9:Uc K uf (rU λi=>.int (-i)):=by
 intro m H U x d U' v Q s rx e k;unfold uf at e;split at e
 ·rename_i i
  cases e;rwa[aq,ak] at rx;subst rx;exact{i,rfl,k _ H m .refl s (by rwa[aq,ak])}
 ·cases e
end
noncomputable def Ir:R->R->ac->UE (R×ac)
 |.v (.int i),.v (.int j),U=>some (.v (.int (i+j)),U)
 |.v (.str x),.v (.str y),U=>if x.length+y.length<=sizeLine then some (.v (.str (x++y)),U) else none
 |.v (.tup xs),.v (.tup ys),U=>if xs≠[]/\xs.length+ys.length<=sizeLine then some (.v (.tup (xs++ys)),U) else none
 |.p a,.p b,U=>match U[a]?,U[b]? with|some (.lst xs),some (.lst ys)=>if xs.length+ys.length<=sizeLine then some (.p U.length,U++[.lst (xs++ys)]) else none|_,_=>none
 |_,_,_=>none
def OA:R2:=λx y H Q=>∃i j,x=.str i/\y=.str j/\i.length+j.length<=sizeLine/\Q (.str (i++j)) H
def Q5 (r r':R2):R2:=λx y H Q=>r x y H Q\/r' x y H Q
def JN (K:AP):R2:=Q5 (AT λi j=>.int (i+j)) (Q5 OA (Q5 (JK K) Oy))
theorem RelDs.append {K:AP}{H:Hp}:∀{xs ys:T5 D} {vs ws:T5 V},RelDs K H xs vs->RelDs K H ys ws->RelDs K H (xs++ys) (vs++ws)
 |[],_,_,_,h,h'=>by rwa[RelDs] at h;subst h;exact h'
 |x::xs,_,_,_,h,h'=>by
  rwa[RelDs] at h;let⟨v,r,rfl,h1,h2⟩:=h
  show RelDs K H (x::(xs++_)) _
  rwa[RelDs];exact{v,r++_,rfl,h1,RelDs.append h2 h'}
def RelDs.nil_iff {H:Hp}{xs:T5 D}{vs:T5 V}(h:RelDs K H xs vs):xs=[] ↔ vs=[]:=by have:=h.length;cases xs <;> cases vs <;> simp_all
def Pq :rf K Ir (JN K):=by
 intro m H U x y d U' v u Q s rx ry e k;unfold Ir at e;split at e
 ·cases e;rwa[aq,ak] at rx ry;subst rx ry;exact .inl {_,_,rfl,rfl,k _ H m .refl s (by rwa[aq,ak])}
 ·split at e
  ·rename_i z
   cases e;rwa[aq,ak] at rx ry;subst rx ry;exact .inr (.inl {_,_,rfl,rfl,z,k _ H m .refl s (by rwa[aq,ak])})
  ·cases e
 ·split at e
  ·rename_i z
   cases e;rwa[aq,ak] at rx ry;let⟨a,vs,rfl,qa,ra⟩:=rx;let⟨b,ws,rfl,qb,rb⟩:=ry;refine .inr (.inr (.inl {a,b,vs,ws,rfl,rfl,qa,qb,λh=>z.1 (ra.nil_iff.mpr h),by rw[←ra.length,←rb.length];exact z.2,λh=>?_,λh p hp=>?_}))
   ·refine k _ H m .refl s ?_;have:=rb.nil_iff.mpr h;subst this;rwa[aq,ak,DZ];exact{a,vs,rfl,qa,ra}
   ·let⟨x1,x2,x3⟩:=lg s (ra.append rb) hp;exact k _ _ _ x1 x2 x3
  ·cases e
 ·split at e
  ·rename_i xs ys qa qb;split at e
   ·rename_i z
    cases e;let⟨a',rfl,ha⟩:=rx;let⟨b',rfl,hb⟩:=ry;let⟨vs,ea,ra⟩:=s.cell _ _ a' qa ha;let⟨ws,eb,rb⟩:=s.cell _ _ b' qb hb;refine .inr (.inr (.inr {a',b',vs,ws,rfl,rfl,ea,eb,by rw[←ra.length,←rb.length];exact z,λp hp=>?_}));let⟨x1,x2,x3⟩:=gE s (ra.append rb) hp;exact k _ _ _ x1 x2 x3
   ·cases e
  ·cases e
 ·cases e
noncomputable def dL:R->ac->UE (T5 D)
 |.v (.tup xs),_=>some xs
 |.v (.fl xs),_=>some xs
 |.p n,U=>match U[n]? with|some (.lst xs)=>some xs|some (.fz xs)=>some xs|_=>none
 |_,_=>none
noncomputable def jW:R->ac->UE (T5 D)
 |.v (.fl xs),_=>some xs
 |.p n,U=>match U[n]? with|some (.lst xs)=>some xs|some (.fz xs)=>some xs|_=>none
 |_,_=>none
section
variable {K:AP}{m:Tf}{H:Hp}{U:ac}
def iP {x:R}{xs:T5 D}{v:V}(s:aP K m H U)(r:aq K m H x v)(e:jW x U=some xs):∃a vs,v=.ref a/\jV K H a vs/\RelDs K H xs vs:=by
 unfold jW at e;split at e
 ·cases e;rwa[aq,ak] at r;let⟨a,vs,rfl,q,r⟩:=r;exact{a,vs,rfl,q.sq,r}
 ·let⟨a,rfl,ha⟩:=r;split at e
  ·rename_i q
   cases e;let⟨vs,e,r⟩:=s.cell _ _ a q ha;exact{a,vs,rfl,.inl (.inl e),r}
  ·rename_i q
   cases e;let⟨o,vs,e,r⟩:=s.cell _ _ a q ha;exact{a,vs,rfl,.inl (.inr {o,e}),r}
  ·cases e
 ·cases e
theorem jd {x:R}{xs:T5 D}{v:V}(s:aP K m H U)(r:aq K m H x v)(e:dL x U=some xs):∃a vs,v=.ref a/\(jV K H a vs\/gM K H a vs)/\RelDs K H xs vs:=by
 cases x with
 |v d=>
  cases d with
  |tup ys=>
   cases e;rwa[aq,ak] at r;let⟨a,vs,rfl,q,r⟩:=r;exact{a,vs,rfl,.inr q,r}
  |fl ys=>let⟨a,vs,q1,q2,q3⟩:=iP s r (xs:=xs) e;exact{a,vs,q1,.inl q2,q3}
  |non=>cases e
  |bl _=>cases e
  |int _=>cases e
  |str _=>cases e
  |fd _ _=>cases e
  |key _=>cases e
 |p n=>let⟨a,vs,q1,q2,q3⟩:=iP s r (xs:=xs) e;exact{a,vs,q1,.inl q2,q3}
 |s _ _=>cases e
 |x _=>cases e
 |f _ _=>cases e
end
noncomputable def aZ:R->R->ac->UE (R×ac)
 |x,.v (.int i),U=>(dL x U).bind λxs=>(m6 xs i).bind λd=>some (.v d,U)
 |_,_,_=>none
noncomputable def gF:T5 R->ac->UE (R×ac)
 |[x],U=>(dL x U).bind λxs=>some (.v (.int xs.length),U)
 |_,_=>none
def JHe {H:Hp}{xs:T5 D}{vs:T5 V}{i:Int}{d:D}(r:RelDs K H xs vs)(e:m6 xs i=some d):∃v,m6 vs i=some v/\ak K H d v:=by let⟨j,e1,e2⟩:=AS.mp e;let⟨v,q1,q2⟩:=r.get e2;exact{v,by unfold m6;rw[←r.length,e1];exact q1,q2}
def Rs :rf K aZ (S8 K):=by
 intro m H U x y d U' v u Q s rx ry e k;unfold aZ at e;split at e
 ·rename_i i;let⟨xs,e1,e⟩:=AS.mp e;let⟨d1,e2,e⟩:=AS.mp e;cases e;rwa[aq,ak] at ry;subst ry;let⟨a,vs,rfl,q,r⟩:=jd s rx e1;let⟨w,q1,q2⟩:=JHe r e2;rcases q with q|q
  ·exact .inl {a,vs,i,w,rfl,rfl,q,q1,k _ H m .refl s q2}
  ·exact .inr (.inl {a,vs,i,w,rfl,rfl,q,q1,k _ H m .refl s q2})
 ·cases e
def Q6 (K:AP):T5 V->Hp->VK->Prop:=λxs H Q=>∃p ys,xs=[.ref p]/\(jV K H p ys\/gM K H p ys)/\Q (.int ys.length) H
def mI {m:Tf}{H:Hp}{x:R}{vs:T5 V}(r:aW K m H [x] vs):∃v,vs=[v]/\aq K m H x v:=by let⟨v,r,rfl,h1,h2⟩:=r;have h2:r=[]:=h2;subst h2;exact{v,rfl,h1}
def Pe :yT K gF (Q6 K):=by
 intro m H U xs d U' vs Q s r e k;unfold gF at e;split at e
 ·rename_i x;let⟨ys,e1,e⟩:=AS.mp e;cases e;let⟨v,rfl,r1⟩:=mI r;let⟨a,ws,rfl,q,r⟩:=jd s r1 e1;exact{a,ws,rfl,q,k _ H m .refl s (by rwa[aq,ak];rw[r.length])}
 ·cases e
noncomputable def qu:T5 R->ac->UE (R×ac)
 |[x],U=>(dL x U).bind λxs=>some (.p U.length,U++[.lst xs])
 |_,_=>none
def Ot (K:AP):T5 V->Hp->VK->Prop:=λxs H Q=>∃p ys,xs=[.ref p]/\(jV K H p ys\/gM K H p ys)/\∀l,H l=none->Q (.ref l) (upd H l (.lst ys))
def Mw :yT K qu (Ot K):=by
 intro m H U xs d U' vs Q s r e k;unfold qu at e;split at e
 ·rename_i x;let⟨ys,e1,e⟩:=AS.mp e;cases e;let⟨v,rfl,r1⟩:=mI r;let⟨a,ws,rfl,q,r⟩:=jd s r1 e1;refine{a,ws,rfl,q,λp hp=>?_};let⟨x1,x2,x3⟩:=gE s r hp;exact k _ _ _ x1 x2 x3
 ·cases e
noncomputable def AE:T5 R->ac->UE (R×ac)
 |[x],U=>(dL x U).bind λxs=>some (.v (.tup xs),U)
 |_,_=>none
def Oo (K:AP):T5 V->Hp->VK->Prop:=λxs H Q=>∃p ys,xs=[.ref p]/\((jV K H p ys/\∀l,H l=none->Q (.ref l) (upd H l (.tup ys)))\/(gM K H p ys/\Q (.ref p) H))
def O5 :yT K AE (Oo K):=by
 intro m H U xs d U' vs Q s r e k;unfold AE at e;split at e
 ·rename_i x;let⟨ys,e1,e⟩:=AS.mp e;cases e;let⟨v,rfl,r1⟩:=mI r;let⟨a,ws,rfl,q,r⟩:=jd s r1 e1;rcases q with q|q
  ·refine{a,ws,rfl,.inl {q,λp hp=>?_}};let⟨x1,x2,x3⟩:=lg s r hp;exact k _ _ _ x1 x2 x3
  ·refine{a,ws,rfl,.inr {q,k _ H m .refl s ?_}};rwa[aq,ak];exact{a,ws,rfl,q,r}
 ·cases e
noncomputable def lF:R->T5 R->ac->UE (R×ac)
 |.p n,[.v d],U=>match U[n]? with|some (.lst xs)=>if xs.length<sizeLine then some (.v .non,U.set n (.lst (xs++[d]))) else none|_=>none
 |_,_,_=>none
def Ue (K:AP)(g:R->T5 R->ac->UE (R×ac))(r:V->T5 V->Hp->VK->Prop):Prop :=
 ∀m H U x xs d U' v vs Q,aP K m H U->aq K m H x v->aW K m H xs vs->g x xs U=some (d,U')->(∀w H' m',dF m H m' H'->aP K m' H' U'->aq K m' H' d w->Q w H')->r v vs H Q
def Po :Ue K lF zA:=by
 intro m H U x xs d U' v vs Q s rx rs e k;unfold lF at e;split at e
 ·split at e
  ·rename_i ys q;split at e
   ·rename_i z
    cases e;let⟨a,rfl,ha⟩:=rx;let⟨w,rfl,Dx⟩:=mI rs;let⟨ws,ea,ra⟩:=s.cell _ _ a q ha;have x:dF m H m (upd H a (.lst (ws++[w]))):=.put (CU ha) ea ∅ ∅;refine{a,ws,w,rfl,rfl,ea,by rw[←ra.length];exact z,k _ _ m x (s.put ha ea ∅ ∅ {_,bP,?_}) (by rwa[aq,ak])};refine RelDs.tf x.tf _ _ (ra.append ?_);rwa[RelDs];exact{w,[],rfl,Dx,rfl}
   ·cases e
  ·cases e
 ·cases e
noncomputable def bS (g:FG)(c:FT)(f:FE):T5 D->Lo->ac->UE (T5 D×ac)
 |[],_,U=>some ([],U)
 |x::xs,O,U=>(g (.v x) O U).bind λa=>(c a.1 a.2).bind λb=>if b.1=true then (f a.1 b.2).bind λy=>match y.1 with
   |.v d=>(bS g c f xs a.1 y.2).bind λr=>some (d::r.1,r.2)
   |_=>none
  else bS g c f xs a.1 b.2
noncomputable def d6 (k:Nat)(ix:T5 Nat)(O:Lo):Lo:=List.replicate k none++ix.map λi=>(O[i]?).join
noncomputable def dY (ix:T5 Nat)(k:Nat)(i:FI)(g:FG)(c:FT)(f:FE):FE:=λO U=>(i O U).bind λa=>if a.1.length<=sizeLine then
 (bS g c f a.1 (d6 k ix O) a.2).bind λr=>some (.p r.2.length,r.2++[.lst r.1]) else none
noncomputable def gf:FT:=λ_ U=>some (true,U)
open PyProof.Rows
section
variable {X:Cx}
def PE.imp {t t':TE}(h:PE X e t)(k:∀{Y H Q},t' Y H Q->t Y H Q):PE X e t':=λA2 s Y H Q I q=>h A2 s Y H Q I (k q)
def PT.imp {t t':TT}(h:PT X e t)(k:∀{Y H Q},t' Y H Q->t Y H Q):PT X e t':=λA2 s Y H Q I q=>h A2 s Y H Q I (k q)
def PW.imp {t t':TT}(h:PW X e t)(k:∀{Y H Q},t' Y H Q->t Y H Q):PW X e t':=λwh A2 s Y H Q I q=>h wh A2 s Y H Q I (k q)
def PA.imp {e:Tj}{t t':TA}(h:PA X e t)(k:∀{Y H Q},t' Y H Q->t Y H Q):PA X e t':=λpos A2 s Y H Q I q=>h pos A2 s Y H Q I (k q)
def PS.imp {e:AU}{t t':TS}(h:PS X e t)(k:∀{D Y H},t' D Y H->t D Y H):PS X e t':=λA2 s Y H Q I q=>h A2 s Y H Q I (k q)
def oZ.imp {e:Tk}{t t':TS}(h:oZ X e t)(k:∀{D Y H},t' D Y H->t D Y H):oZ X e t':=λA2 s Y H Q I q=>h A2 s Y H Q I (k q)
def PI.imp {tg e:AR}{t t':TI}(h:PI X tg e t)(k:∀{Y H R},t' Y H R->t Y H R):PI X tg e t':=λA2 s Y H R I q=>h A2 s Y H R I (k q)
def PG.imp {t t':TG}(h:PG X e t)(k:∀{v Y H Q},t' v Y H Q->t v Y H Q):PG X e t':=λA2 s Y H v u Q I r q=>h A2 s Y H v u Q I r (k q)
def FQ.imp {e:Tj}{t t':FP}(h:FQ X e t)(k:∀{v Y H Q},t' v Y H Q->t v Y H Q):FQ X e t':=λA2 s Y H v u Q I r q=>h A2 s Y H v u Q I r (k q)
end
section
variable {P:A9}{w:AM}{H H0:Hp}{h h0:AI}{a:A4}{u:HO}{fs ex:Tf}
def gN.ne {b:A4}{v:HO}(e:H a=some u)(hu:gN u)(q:H b=some v)(n:¬ gN v):b≠a:=λz=>by rw[z,e] at q;cases q;exact n hu
def jg.frz (ok:jg P w H h)(e:H a=some u)(hu:gN u):∃o,jg P w (upd H a (.frz o u)) h:=by
 have ho:∃o,h.get? a=some o:=by
  have z:=ok a u e
  cases u with
  |lst xs=>let⟨_,_,_,_,q⟩:=z;exact{_,q}
  |set S n=>let⟨o,_,_,_,q,_⟩:=z;exact{_,q}
  |dK A6=>let⟨_,_,_,_,o,_,_,q,_⟩:=z;exact{_,q}
  |dT A6=>let⟨_,_,_,_,o,_,_,q,_⟩:=z;exact{_,q}
  |_=>exact hu.elim
 let⟨o,ho⟩:=ho;refine{o,λb v q=>?_};have own:∀c y,H c=some (.own y)->upd H a (.frz o u) c=some (.own y):=λc y r=>by rw[L2.aB (gN.ne e hu r λz=>z)];exact r
 have tup:∀c xs,H c=some (.tup xs)->upd H a (.frz o u) c=some (.tup xs):=λc xs r=>by rw[L2.aB (gN.ne e hu r λz=>z)];exact r
 by_cases hb:b=a
 ·subst hb;rw[L2.bz] at q;cases q;exact{ho,(ok b u e).stay (λc v _ q=>q) (λc r=>own c _ r) tup}
 ·rw[L2.aB hb] at q;exact(ok b v q).stay (λc v _ q=>q) (λc r=>own c _ r) tup
def Un.frz {o:B0}(un:Un fs ex H0 H h0 h)(e:H a=some u)(hu:gN u):Un fs ex H0 (upd H a (.frz o u)) h0 h where
 keep:=un.keep
 slot:=un.slot
 free:=λb ob q n hx=>by have z:=un.free b ob q n hx;rw[L2.aB (λy=>by rw[y,e] at z;cases z)];exact z
 there:=un.there
 tups:=λb xs q=>by rw[L2.aB (gN.ne e hu (un.tups b xs q) λz=>z)];exact un.tups b xs q
 frzs:=λb ob v q=>by rw[L2.aB (gN.ne e hu (un.frzs b ob v q) λz=>z)];exact un.frzs b ob v q
 tbls:=λb ps q=>by let⟨more,r⟩:=un.tbls b ps q;exact{more,by rw[L2.aB (gN.ne e hu r λz=>z)];exact r}
def aD.frz {s:A1}(I:aD X A2 Y H s)(e:H a=some u)(hu:gN u):∃o,aD X A2 Y (upd H a (.frz o u)) s:=by
 let⟨o,ok⟩:=jg.frz I.hok e hu;have nn:∀b,H b=none->upd H a (.frz o u) b=none:=λb z=>by rw[L2.aB (λy=>by rw[y,e] at z;cases z)];exact z
 refine{o,I.ok,I.os,I.bare,Un.frz I.base e hu,I.loc,I.cell,nn _ I.free,λx c q=>nn _ (I.freeC x c q),λp hp=>?_,ok,I.len};let⟨q1,q2,q3⟩:=I.pin p hp;exact{q1,nn _ q2,q3}
end
def xU {t:TE}(h:PE X e t):PE X e (Qa t):=λA2 s Y H Q I q=>by
 refine da (h A2 s Y H _ I q) λv s1 hh=>?_;let⟨x,H1,I1,r1,q1⟩:=hh;rcases q1 with q1|⟨a,u,e,hu,q1⟩
 ·exact{x,H1,I1,r1,q1}
 ·let⟨o,I2⟩:=aD.frz I1 e hu;exact{x,_,I2,r1,q1 o}
theorem cC.fz {mg:Td}{base:AI}{CX:Aw}{k:Nat}{f:A4}{ps:Tn}{sp:Sp}(F:cC P w K mg base CX k f fd ps sp) :
  cC P w K mg base CX k f fd ps (λvs H Q E=>sp vs H (G9 Q) E):=by
 refine{λvs H Q E h=>F.len vs H _ E h,λA outer s H args us vs Q E hr he hb hv hs=>?_};refine G8 (F.run A outer s H args us vs (G9 Q) E hr he hb hv hs) λr s' hq=>?_
 cases r with
 |error e=>exact hq
 |ok fl=>
  cases fl with
  |next=>exact hq
  |brk=>exact hq
  |cont=>exact hq
  |ret u=>
   let⟨v,H',os,bare,un,hok,rv,q⟩:=hq;rcases q with q|⟨a,u',e,hu,q⟩
   ·exact{v,H',os,bare,un,hok,rv,q}
   ·let⟨o,ok⟩:=jg.frz hok e hu
    exact{v,_,os,bare,Un.frz un e hu,ok,rv,q o}
def pF.okP {P:A9}{w:AM}{K:AP}{mg:Td}{base:AI}{x qual:Str}{st:AU}{f:A4}{fd:FuncData}{N ps:Tn}{k:Nat}{b:FS}(F:pF K x qual st f fd)(S:az N ps (ai st))
  (Ay:∀(AX:A3) (A:AL) (outer:T5 Env) (s:A1) (H:Hp) (E:XK),bK k (A.deeper (envOfC qual (ai st) s.heap.objs.size f AX))->oZ (jX lB P w K mg base N qual (ai st) f AX A outer s H E).nox (bx st) (fJ K b)) :
  cC P w K mg base lB (k+1) f fd ps (BU K ps.length (eM N.length b)):=by
 have G:cC P w K mg base lB (k+1) f fd ps (λvs H Q _=>vs.length=ps.length/\fJ K b {nx:=λ_ H'=>Q .non H',rt:=Q} (L2.fO N vs) H) :=
  L2.pF.ok F S (λvs H Q E h=>h.1) λAX A outer s H vs Q E hr h=>{_,Ay AX A outer s H E hr,h.2}
 refine(cC.fz G).imp λvs H Q E ⟨ds,d,hn,r,e,k⟩=>{by rw[←r.length];exact hn,KH (E:=E) r e k}
def JFo {X:Cx}{tg l:AR}{tl:TE}(hl:PE X l tl):PI X tg l (O4 X.K tl):=by
 intro A2 s Y H R I h;refine da (hl A2 s Y H _ I h) λv s1 hh=>?_;let⟨x,H1,I1,r1,q1⟩:=hh;let⟨a,e,q1⟩:=q1;subst e;cases r1;rcases q1 with⟨⟨xs,hq⟩,q⟩|⟨⟨xs,hq⟩,q⟩
 ·let⟨its,rv,p,hz⟩:=I1.list hq;refine zck p.isList ?_;refine{s1.heap.objs.size,[s1.heap.objs.size],_,_,H1,rfl,I1.kept (t':=s1.toks) λb o e=>AY _ e,JAm a _,{_,BI _ rfl,rfl,rfl},λb hb=>?_,q};have e:b=s1.heap.objs.size:=by simpa using hb
  subst e;exact I1.fpOk (B3 _) (I1.hok.fresh (B3 _))
 ·let⟨its,rv,p,hz⟩:=I1.tuple hq;refine wpAny_pyIter_tuple (show s1.heap.IsTuple a its.toArray from p) ?_;refine{s1.heap.objs.size,[s1.heap.objs.size],_,_,H1,rfl,I1.kept (t':=s1.toks) λb o e=>AY _ e,xz a _,{_,BI _ rfl,rfl,rfl},λb hb=>?_,q};have e:b=s1.heap.objs.size:=by simpa using hb
  subst e;exact I1.fpOk (B3 _) (I1.hok.fresh (B3 _))
theorem gU {env:Env}:∀{names:T5 (Str×NameKind)} {x:Str},
  (names.map λ(n,k)=>if (k == NameKind.free&&env.scope.kind == .function&&env.kindOf n == some .cell) then (n,NameKind.cell) else (n,k)).lookup x =
   (names.lookup x).map λk=>if (k == NameKind.free&&env.scope.kind == .function&&env.kindOf x == some .cell) then NameKind.cell else k
 |[],_=>rfl
 |(n,k)::r,x=>by
  have ih:=@gU env r x
  show List.lookup x ((if (k == NameKind.free&&env.scope.kind == .function&&env.kindOf n == some .cell)=true then (n,NameKind.cell) else (n,k))::_)=_
  cases hx:x == n with
  |true=>
   have:x=n:=eq_of_beq hx;subst this;rwa[E9,hx,G3]
   by_cases hc:(k == NameKind.free&&env.scope.kind == .function&&env.kindOf x == some .cell)=true
   ·simp[hc]
   ·simp[hc]
  |false=>
   by_cases hc:(k == NameKind.free&&env.scope.kind == .function&&env.kindOf n == some .cell)=true
   ·rw[A7 hc];rwa[E9,hx];exact ih
   ·rw[A5 hc];rwa[E9,hx];exact ih
theorem jK {env:Env}:∀(names:T5 (Str×NameKind)) (acc:T5 (Str×A4)),(∀x c,acc.lookup x=some c->env.cells.lookup x=some c) ->
  (∀y∈names,y.2=.free->∃c,env.cells.lookup y.1=some c) ->
  ∃cl:T5 (Str×A4),(forIn names acc λ(x:Str×NameKind) (r:T5 (Str×A4))=>(if (x.2 == NameKind.free)=true then do let a ←cellOf env x.1;pure (ForInStep.yield ((x.1,a)::r)) else pure (ForInStep.yield r):Sem (ForInStep (T5 (Str×A4)))))=pure cl /\
   (∀x c,cl.lookup x=some c->env.cells.lookup x=some c)/\(∀x c,acc.lookup x=some c->∃c',cl.lookup x=some c')/\∀y∈names,y.2=.free->∃c,cl.lookup y.1=some c
 |[],acc,h1,_=>{acc,rfl,h1,λx c e=>{c,e},λy hy=>by simp at hy}
 |(n,k)::r,acc,h1,h2=>by
  by_cases hk:k=.free
  ·subst hk
   let⟨c,hc⟩:=h2 (n,.free) BB rfl
   have step:∀x c',List.lookup x ((n,c)::acc)=some c'->env.cells.lookup x=some c':=λx c' e=>by
    rw[E9] at e
    cases hx:x == n with
    |true=>rw[hx] at e;have:x=n:=eq_of_beq hx;subst this;rw[hc];exact e
    |false=>rw[hx] at e;exact h1 x c' e
   let⟨cl,e,p1,p2,p3⟩:=jK r ((n,c)::acc) step λy hy=>h2 y (BF _ hy);have hn:∃c',List.lookup n ((n,c)::acc)=some c':={c,by rw[E9];simp};refine{cl,?_,p1,λx c' e'=>?_,λy hy hf=>?_}
   ·rw[List.forIn_cons]
    show((cellOf env n >>=λa=>pure (ForInStep.yield ((n,a)::acc))) >>= _)=_
    unfold cellOf;rw[hc];exact e
   ·cases hx:x == n with
    |true=>have:x=n:=eq_of_beq hx;subst this;let⟨c'',q⟩:=hn;exact p2 _ _ q
    |false=>exact p2 x c' (by rw[E9,hx];exact e')
   ·rcases BA.mp hy with rfl|hy
    ·let⟨c'',q⟩:=hn;exact p2 _ _ q
    ·exact p3 y hy hf
  ·let⟨cl,e,p1,p2,p3⟩:=jK r acc h1 λy hy=>h2 y (BF _ hy)
   have hb:(k == NameKind.free)=false:=by simpa using hk
   refine{cl,?_,p1,p2,λy hy hf=>?_}
   ·rw[List.forIn_cons]
    rwa[hb,Bc,if_false];exact e
   ·rcases BA.mp hy with rfl|hy
    ·exact AJ hf hk
    ·exact p3 y hy hf
def qR {env:Env}{scope:Scope}(h:∀y∈scope.names,y.2=.free->∃c,env.cells.lookup y.1=some c) :
  ∃cl,closureFor scope env=pure cl/\(∀x c,cl.lookup x=some c->env.cells.lookup x=some c)/\∀y∈scope.names,y.2=.free->∃c,cl.lookup y.1=some c:=by
 let⟨cl,e,p1,_,p3⟩:=jK (env:=env) scope.names [] (λx c e=>by simp at e) h;refine{cl,?_,p1,p3};unfold closureFor
 first
  |(show(forIn scope.names [] _ >>=λr=>pure r)=_;rw[e];rfl)
  |(rwa[bind_pure];exact e)
structure aO (osc scope:Scope)(own:Tn)(caps:Tn):Prop where
 kind:scope.kind=.function
 cell:∀y∈scope.names,y.2=.cell->scope.names.lookup y.1=some .cell
 loc:∀y∈scope.names,y.2=.local->scope.names.lookup y.1=some .local
 free:∀y∈scope.names,y.2=.free->osc.names.lookup y.1=some .cell\/osc.names.lookup y.1=some .free
 cap:∀y∈caps,(y,NameKind.free)∈scope.names/\scope.names.lookup y=some .free
 nd:(own++caps).Nodup
noncomputable def aT (X:Cx)(scope:Scope)(cl:T5 (Str×A4))(C:A4)(s₂:A1)(H₂:Hp)(fp:Tf)(N:Tn):Cx :=
 {X with N:=N,s₀:=s₂,H₀:=H₂,env:=compEnvC scope cl C X.env,outer:=X.stack,stack:=X.stack,ex:=fp,fn:=λx=>scope.names.lookup x == some .cell,pn:=[],xe:=λ_ _=>False}
def qt {names:T5 (Str×NameKind)}{x:Str}{k:NameKind}(h:names.lookup x=some k):(x,k)∈names:=PySem.mem_of_lookup h
structure P4 (X:Cx)(scope:Scope)(lo:Nat)(cl:List (Str×Addr)):Prop where
 src:∀x c,cl.lookup x=some c->(X.env.cells.lookup x=some c/\scope.names.lookup x≠some .cell)\/lo<c
 inj:∀x y c,cl.lookup x=some c->cl.lookup y=some c->x=y
 has:∀y∈scope.names,y.2=.free\/y.2=.cell->∃c,cl.lookup y.1=some c
 fr:∀y,scope.names.lookup y=some .free->∃c,cl.lookup y=some c/\X.env.cells.lookup y=some c
theorem qU {X:Cx}{scope:Scope}{own caps:Tn}(n:aO X.env.scope scope own caps){cl:T5 (Str×A4)}{C:A4}{x:Str}{k:NameKind}(h:(compEnvC scope cl C X.env).kindOf x=some k)(hk:k=.cell\/k=.free) :
  ∃k,(x,k)∈scope.names/\(k=.free\/k=.cell):=by
 have h':(relabel scope X.env).names.lookup x=some k:=h;unfold relabel at h';rw[gU] at h'
 cases q:scope.names.lookup x with
 |none=>rw[q] at h';cases h'
 |some k0=>
  rw[q,G3] at h';have m:=qt q;have h2:=Option.some.inj h'
  by_cases hf:k0=.free
  ·subst hf;exact{_,m,.inl rfl}
  ·have hb:(k0 == NameKind.free)=false:=by simpa using hf
   rwa[hb,zcZ,Bc,if_false] at h2;rcases hk with hk|hk
   ·exact{_,m,.inr (h2.trans hk)}
   ·exact AJ (h2.trans hk) hf
def yN {X:Cx}{scope:Scope}{cl:T5 (Str×A4)}{C:A4}{x:Str}(h:scope.names.lookup x=some .free) :
  (compEnvC scope cl C X.env).kindOf x=some .cell\/(compEnvC scope cl C X.env).kindOf x=some .free:=by
 show(relabel scope X.env).names.lookup x=some .cell\/(relabel scope X.env).names.lookup x=some .free
 unfold relabel;rw[gU,h];rwa[G3];split
 ·exact .inl rfl
 ·exact .inr rfl
def P4.ne {H:Hp}{lo b:Nat}{cl:T5 (Str×A4)}(B:P4 X scope lo cl)(f:ng X A2 H b)(hb:b<lo){x:Str}{c:A4}(e:cl.lookup x=some c):c≠b:=by
 rcases B.src x c e with⟨z,_⟩|z
 ·exact f.2.2.2.2.1 x c z
 ·exact Ne.symm (BG (HG hb z))
def JEz {X:Cx}{H₂:Hp}{s₂:A1}{scope:Scope}{own caps:Tn}{cl:T5 (Str×A4)}{C:A4}{fp:Tf}(I:aD X A2 Y H₂ s₂)(n:aO X.env.scope scope own caps)
  (B:P4 X scope s₂.heap.objs.size cl) (hC:s₂.heap.objs.size<=C) (hfs:∀b∈fp,b<s₂.heap.objs.size) (hf:∀b∈fp,ng X A2 H₂ b) :
  (aT X scope cl C s₂ H₂ fp (own++caps)).Ok:=by
 refine{I.ok.mod,n.kind,I.ok.glob,I.ok.blt,hC,B.inj,λx hx=>?_,λx c h _=>?_,I.ok.hd,I.ok.frames,.inl rfl,λb hb=>{BG (C1 (hfs b hb) hC),λx c e=>B.ne (hf b hb) (hfs b hb) e},
  I.bs,DL I.ok.bsz I.sz,λb o e hb=>?_,λb hb z=>?_,I.stack,I.stkFree}
 ·rcases hx with hx|hx
  ·let⟨k,m,hk⟩:=qU n hx (.inl rfl);exact B.has _ m hk
  ·let⟨k,m,hk⟩:=qU n hx (.inr rfl);exact B.has _ m hk
 ·rcases B.src x c (by assumption) with⟨_,z⟩|z
  ·exact AJ (eq_of_beq h) z
  ·exact GA z
 ·rcases (hf b hb).2.2.2.1 with z|z
  ·exact I.ok.noex b o e z
  ·exact AJ (C1 (C1 (B4 e) I.ok.bsz) z) (C4 _)
 ·rcases BA.mp (I.stkSub b z) with e|e
  ·exact(hf b hb).2.1 e
  ·exact(hf b hb).2.2.1 e
noncomputable def iE (own:L2.St)(ix:T5 Nat)(Y:L2.St):L2.St:=own++ix.map λi=>(Y[i]?).join
def xa {X:Cx}{H₂:Hp}{s₂:A1}{scope:Scope}{own caps:Tn}{ix:T5 Nat}{cl:T5 (Str×A4)}{C:A4}{fp:Tf}{h₁:AI}{tk:Nat}(I:aD X A2 Y H₂ s₂)(n:aO X.env.scope scope own caps)
  (B:P4 X scope s₂.heap.objs.size cl) (hC:s₂.heap.objs.size<=C) (hfs:∀b∈fp,b<s₂.heap.objs.size) (hf:∀b∈fp,ng X A2 H₂ b)
  (Ih:∀x c,cl.lookup x=some c->s₂.heap.objs.size<c->h₁.IsCell c none) (CR:ix.length=caps.length) (Dr:∀(j i:Nat) y,ix[j]?=some i->caps[j]?=some y->X.N[i]?=some y)
  (old:∀b o,s₂.heap.get? b=some o->h₁.get? b=some o) {m:Td} (hns:h₁.Ns C m) :
  aD (aT X scope cl C s₂ H₂ fp (own++caps)) [] (iE (own.map λ_=>none) ix Y) H₂ {s₂ with heap:=h₁,toks:=tk}:=by
 refine{JEz I n B hC hfs hf,rfl,I.bare,Un.kept old,{m,hns,λi x v e1 e2 hv=>?_},λx c e=>?_,I.hok.fresh hC,λx c e=>(B.src x c e).elim (λz=>I.freeC x c z.1) λz=>I.hok.fresh (GA z),λp hp=>?_,I.hok.kept old,?_}
 ·have e1:(own++caps)[i]?=some x:=e1
  unfold iE at e2
  by_cases hi:i<own.length
  ·rw[BK ‹hi›,CG] at e2
   cases q:own[i]? with
   |none=>rw[q] at e2;cases e2
   |some y=>rw[q] at e2;cases e2
  ·rw[FW ‹hi›] at e2
   rw[FW ∅] at e1;rwa[Az] at e2;generalize i-own.length=j at e1 e2;rw[CG] at e2
   cases q:ix[j]? with
   |none=>rw[q] at e2;cases e2
   |some i'=>
    rw[q] at e2;have e3:(Y[i']?).join=some v:=Option.some.inj e2
    have e4:Y[i']?=some (some v):=by
     cases z:Y[i']? with
     |none=>rw[z] at e3;cases e3
     |some w'=>rw[z] at e3;cases w' with
      |none=>cases e3
      |some _=>cases e3;rfl
    have hN:=Dr j i' x q e1;let⟨mm,hl⟩:=n.cap x (CU e1);have hk:X.env.kindOf x=some .cell\/X.env.kindOf x=some .free:=n.free _ mm rfl;let⟨m0,Ha,Ip⟩:=I.loc
    have vis:PX X.env.scope x:=by
     rcases hk with hk|hk
     ·exact .inr (.inl hk)
     ·exact .inr (.inr hk)
    let⟨u,r,l⟩:=Ip i' x v hN e4 vis;refine{u,r,.inr {yN hl,?_}};let⟨c,hc,hcx⟩:=B.fr x hl;rcases l with⟨l,_⟩|⟨_,c',GO,z⟩
    ·exfalso
     rcases hk with hk|hk <;> rw[hk] at l <;> cases l
    ·rw[GO] at hcx;cases hcx
     let⟨o,ho,hd⟩:=z;exact{_,hc,o,old _ _ ho,hd}
 ·rcases B.src x c e with⟨z,_⟩|z
  ·let⟨v,o,ho,hd⟩:=I.cell x c z
   exact{v,o,old _ _ ho,hd}
  ·exact{none,Ih x c e z}
 ·exact AJ (show p∈([]:Tc) from hp) ∅
 ·show(iE _ ix Y).length=(own++caps).length
  unfold iE;simp[CR]
def o0 (X:Cx)(ifs:Tj)(t:TT):Prop :=
 ∀(A2:Tc) (s:A1) (Y:L2.St) (H:Hp) (Q:A8->Hp->Prop),aD X A2 Y H s->t Y H Q ->
  wpAny (model X.prog X.w) X.A (forIn ifs true λc r=>if r=true then do let ok ←isTrue c X.env (eval c X.env);pure (ForInStep.yield ok) else pure (ForInStep.yield r)) (TP X A2 Y Q) X.xe s
def NV:TT:=λ_ H Q=>Q true H
def JDn:o0 X [] NV:=λA2 s Y H Q I h=>wpAny_tests_nil {H,I,h}
def JDm {c:AR}{t:TT}(h:PT X c t):o0 X [c] t:=λA2 s Y H Q I q=>wpAny_tests_one (h A2 s Y H Q I q)
theorem wW {prog:A9}{w:AM}{A:AL}{R:Result->A1->Prop}{s:A1}{elt target iter:AR}{ifs:Tj}{scope:Scope}{pos:Pos}{it acc:A3}{env:Env}(I:Nat->A1->Prop)
  (turn:∀n s,I n s->wpAny (model prog w) A (pyNext it) (λr s₁=>match r with
   |none=>R (.ok .next) s₁
   |some v=>wpAny (model prog w) A (letOwnedTupleGo target it v) (λ_ s₁'=>wpAny (model prog w) A (assign target env v) (λ_ s₂=>
     wpAny (model prog w) A (forIn ifs true λc r=>if r=true then do let ok ←isTrue c env (eval c env);pure (ForInStep.yield ok) else pure (ForInStep.yield r)) (λok s₃=>
      if ok=true then wpAny (model prog w) A (eval elt env) (λx s₄=>
       wpAny (model prog w) A (call (.builtin "list.append") [acc,x]) (λ_ s₅=>∃m,m<n/\I m s₅) (λ_ _=>False) s₄) (λ_ _=>False) s₃
      else ∃m,m<n/\I m s₃) (λ_ _=>False) s₂) (λ_ _=>False) s₁') (λ_ _=>False) s₁) (λ_ _=>False) s)
  (n:Nat) (h:I n s):codeAny (model prog w) A (.compLoop (.ListComp elt [{target,iter,ifs,0}] scope pos) 0 it acc env) R s:=by
 refine codeAny_loop rfl I (λn s hI=>?_) n h
 show wpAny _ A ((compTurn (.ListComp elt [{target,iter,ifs,0}] scope pos) 0 it acc env).onRaise (λx=>do noteFrame x env;theTreesLotGoes x)) _ _ s
 refine wpAny_noted ?_;rw[compTurn_list];refine AB (wpAny_standAt (AB (Dt (turn n s hI) (λr s₁ h₁=>?_) λ_ _ h'=>h'.elim)))
 cases r with
 |none=>exact AN h₁
 |some v=>
  refine AB (Dt h₁ (λ_ s₁' h₁'=>?_) λ_ _ h'=>h'.elim);refine AB (Dt h₁' (λ_ s₂ h₂=>AB (Dt h₂ (λok s₃ h₃=>?_) λ_ _ h'=>h'.elim)) λ_ _ h'=>h'.elim)
  cases ok with
  |false=>exact AN {rfl,h₃}
  |true=>
   exact AB (AB (Dt h₃ (λx s₄ h₄=>AB (Dt h₄ (λ_ s₅ h₅=>AN (AN {rfl,h₅})) λ_ _ h'=>h'.elim)) λ_ _ h'=>h'.elim))
def aD.adopt {X:Cx}{H:Hp}{s:A1}{a:A4}{o:HO}(I:aD X A2 Y H s)(f:ng X A2 H a)(hs:X.s₀.heap.objs.size<=a)(new:bo X.prog X.w (upd H a o) s.heap a o):aD X A2 Y (upd H a o) s:=by
 let⟨f0,f1,f2,f3,f4,f5⟩:=f;have ne:∀b u,H b=some u->b≠a:=λb u e z=>by rw[z,f0] at e;cases e
 refine{I.ok,I.os,I.bare,{I.base.keep,I.base.slot,λb ob q n EX=>?_,I.base.there,λb xs q=>?_,λb ob u q=>?_,λb ps q=>?_},I.loc,I.cell,?_,λx c q=>?_,λp hp=>?_,λb u q=>?_,I.len}
 ·rw[L2.aB (BG (C1 (B4 q) hs))];exact I.base.free b ob q n EX
 ·rw[L2.aB (ne _ _ (I.base.tups b xs q))];exact I.base.tups b xs q
 ·rw[L2.aB (ne _ _ (I.base.frzs b ob u q))];exact I.base.frzs b ob u q
 ·let⟨more,r⟩:=I.base.tbls b ps q;exact{more,by rw[L2.aB (ne _ _ r)];exact r}
 ·rw[L2.aB (Ne.symm f1)];exact I.free
 ·rw[L2.aB (f4 x c q)];exact I.freeC x c q
 ·let⟨q1,q2,q3⟩:=I.pin p hp;exact{q1,by rw[L2.aB (f5 p hp)];exact q2,q3}
 ·by_cases hb:b=a
  ·subst hb;rw[L2.bz] at q;cases q;exact new
  ·rw[L2.aB hb] at q;exact(I.hok b u q).stay (λc v _ q=>q) (λc r=>by rw[L2.aB (ne _ _ r)];exact r) λc xs r=>by rw[L2.aB (ne _ _ r)];exact r
def Cr (ix:T5 Nat)(own:Tn)(wi:TI)(g:TG)(tc:TT)(te:TE):TE:=λY H Q=>wi Y H λJ H1=>
 ∃W:Nat->Nat->T5 V->L2.St->Hp->Prop,(∃n,W 0 n [] (iE (own.map λ_=>none) ix Y) H1)/\∀i n ys τ H,W i n ys τ H ->
  (J.stop i H/\∀p,H p=none->Q (.ref p) (upd H p (.lst ys))) \/
  (J.go i H/\ys.length<sizeLine/\∀x H',J.yld i H x H'->g x τ H' λτ2 H2=>tc τ2 H2 λb H3=>if b=true then te τ2 H3 λy H4=>∃n',n'<n/\W (i+1) n' (ys++[y]) τ2 H4 else ∃n',n'<n/\W (i+1) n' ys τ2 H3)
theorem lz:∀(names:T5 (Str×NameKind)) (k:Nat) (acc:T5 (Str×A4)),cellsFrom k names acc=cellsFrom k names []++acc
 |[],_,_=>rfl
 |(x,d)::r,k,acc=>by
  unfold cellsFrom;split
  ·rw[lz r (k+1) ((x,k)::acc),lz r (k+1) [(x,k)],EA];rfl
  ·exact lz r k acc
theorem qS {x:Str}{c:A4}:∀(names:T5 (Str×NameKind)) (k:Nat) (acc:T5 (Str×A4)),(x,c)∈cellsFrom k names acc->(x,c)∈acc\/(x,NameKind.cell)∈names
 |[],_,_,h=>.inl h
 |(y,d)::r,k,acc,h=>by
  unfold cellsFrom at h;split at h
  ·rename_i hk;rcases qS r (k+1) _ h with h|h
   ·rcases BA.mp h with e|e
    ·cases e;rw[←eq_of_beq hk];exact .inr BB
    ·exact .inl e
   ·exact .inr (BF _ h)
  ·exact(qS r k acc h).imp id (BF _)
theorem jx {x:Str}:∀(a b:T5 (Str×A4)),(a++b).lookup x=(a.lookup x).or (b.lookup x)
 |[],_=>rfl
 |(y,c)::a,b=>by
  rw[zb5,E9,E9];split
  ·rfl
  ·exact jx a b
def JBi {X:Cx}{s₂ s₃:A1}{H₂:Hp}{E:Tb}{scope:Scope}{own caps:Tn}{cl:T5 (Str×A4)}{Q:Env->A1->Prop}(I:aD X A2 Y H₂ s₂)(n:aO X.env.scope scope own caps)(hs:s₂.heap.objs.size<s₃.heap.objs.size)
  (C8:∀x c,cl.lookup x=some c->X.env.cells.lookup x=some c) (DI:∀y∈scope.names,y.2=.free->∃c,cl.lookup y.1=some c)
  (hQ:∀(h₁:AI) (cl':T5 (Str×A4)) (m:Td),(∀b o,s₃.heap.get? b=some o->h₁.get? b=some o)->h₁.Ns s₃.heap.objs.size m->P4 X scope s₂.heap.objs.size cl'->(∀x c,cl'.lookup x=some c->s₂.heap.objs.size<c->h₁.IsCell c none) ->
   Q {compEnvC scope cl' s₃.heap.objs.size X.env with scope:=scope} {s₃ with heap:=h₁}) :
  wpAny (model X.prog X.w) X.A (newFunctionEnv scope X.env.globals cl [] X.env.qual none .none (some X.env)) Q E s₃:=by
 rwa[newFunctionEnv,zcB,if_true];refine AB (wpAny_alloc ?_);refine AB (wpAny_layCells _ (λname kind cells=>by cases hkc:kind == NameKind.cell <;> simp[hkc]) _ _ _ _ ?_);have ok:=cellsFrom_ok scope.names (s₃.heap.push {cls:=.type "dict",data:=.dict #[]}) (s₃.heap.objs.size+1) [] {λ_ _ hm=>(nomatch hm),List.Pairwise.nil} (by rw[Du];exact B3 _);have e1:=lz scope.names (s₃.heap.push {cls:=.type "dict",data:=.dict #[]}).objs.size cl;refine AN (hQ _ _ _ (λb o e=>pushCells_keeps _ _ b o (AY _ e)) ((Heap.Ns.new s₃.heap (.type "dict")).keeps (pushCells_keeps _ _)) ?_ ?_)
 all_goals
  rw[e1];generalize E5:cellsFrom (s₃.heap.push {cls:=.type "dict",data:=.dict #[]}).objs.size scope.names []=Ozz at ok e1;have own:∀{x c},Ozz.lookup x=some c->(pushCells (s₃.heap.push {cls:=.type "dict",data:=.dict #[]}) scope.names).IsCell c none/\s₂.heap.objs.size<c:=λ{x c} h=>{(ok.empty x c (PySem.mem_of_lookup h)).1,HG hs (ok.empty x c (PySem.mem_of_lookup h)).2}
  have ol:∀{x c},cl.lookup x=some c->c<s₂.heap.objs.size:=λ{x c} h=>by
   let⟨v,o,q,_⟩:=I.cell x c (C8 x c h);exact B4 q
  have spl:∀{x c},(Ozz++cl).lookup x=some c->Ozz.lookup x=some c\/(Ozz.lookup x=none/\cl.lookup x=some c):=λ{x c} h=>by
   rw[jx] at h
   cases q:Ozz.lookup x with
   |none=>rw[q] at h;exact .inr {rfl,h}
   |some d=>rw[q] at h;exact .inl h
 ·refine{λx c h=>?_,λx y c h1 h2=>?_,λy hy hk=>?_,λy hy=>?_}
  ·rcases spl h with h|⟨h1,h2⟩
   ·exact .inr (own h).2
   ·refine .inl {C8 x c h2,λz=>?_}
    have:=zcg scope.names (s₃.heap.push {cls:=.type "dict",data:=.dict #[]}).objs.size [] (.inl z);rw[E5,h1] at this;cases this
  ·rcases spl h1 with h1|⟨_,h1⟩ <;> rcases spl h2 with h2|⟨_,h2⟩
   ·exact PySem.name_of_addr ok.apart (PySem.mem_of_lookup h1) (PySem.mem_of_lookup h2)
   ·exact AJ (HG (own h1).2 (ol h2)) (C4 _)
   ·exact AJ (HG (own h2).2 (ol h1)) (C4 _)
   ·exact I.ok.inj x y c (C8 x c h1) (C8 y c h2)
  ·rw[jx]
   cases q:Ozz.lookup y.1 with
   |some d=>exact{d,rfl}
   |none=>
    rcases hk with hk|hk
    ·exact DI y hy hk
    ·have:=zcg scope.names (s₃.heap.push {cls:=.type "dict",data:=.dict #[]}).objs.size [] (.inl (n.cell y hy hk))
     rw[E5,q] at this;cases this
  ·let⟨c,hc⟩:=DI _ (qt hy) rfl
   refine{c,?_,C8 y c hc};rw[jx]
   cases q:Ozz.lookup y with
   |none=>exact hc
   |some d=>
    rw[←E5] at q;rcases qS _ _ _ (PySem.mem_of_lookup q) with z|z
    ·cases z
    ·have:=n.cell _ z rfl
     rw[hy] at this;cases this
 ·intro x c h hc
  rcases spl h with h|⟨_,h⟩
  ·exact(own h).1
  ·exact AJ (HG hc (ol h)) (C4 _)
def tw {X:Cx}{A2:Tc}{Y:L2.St}{s₂:A1}{H₂:Hp}{E:Tb}{elt tg iter:AR}{ifs:Tj}{scope:Scope}{pos:Pos}{own caps:Tn}{ix:T5 Nat}{g:TG}{tc:TT}{te:TE}{Q:VK}{cl:T5 (Str×A4)}
  {it:A4} {fp:Tf} {tn:Nat->AI->Prop} {J:It} {RR:A3->A4->Result->A1->Prop}
  (hc:X.calm=true) (I:aD X A2 Y H₂ s₂) (T:BQ X.prog X.w X.K tg J fp it tn) (st:tn 0 s₂.heap) (hf:∀b∈fp,ng X A2 H₂ b) (n:aO X.env.scope scope own caps)
  (C8:∀x c,cl.lookup x=some c->X.env.cells.lookup x=some c) (DI:∀y∈scope.names,y.2=.free->∃c,cl.lookup y.1=some c)
  (CR:ix.length=caps.length) (Dr:∀(j i:Nat) y,ix[j]?=some i->caps[j]?=some y->X.N[i]?=some y)
  (hg:∀cl C,PG (aT X scope cl C s₂ H₂ fp (own++caps)) tg g) (ht:∀cl C,o0 (aT X scope cl C s₂ H₂ fp (own++caps)) ifs tc) (he:∀cl C,PE (aT X scope cl C s₂ H₂ fp (own++caps)) elt te)
  (W:Nat->Nat->T5 V->L2.St->Hp->Prop) (hW0:∃n,W 0 n [] (iE (own.map λ_=>none) ix Y) H₂)
  (hW:∀i n ys τ H,W i n ys τ H->(J.stop i H/\∀p,H p=none->Q (.ref p) (upd H p (.lst ys))) \/
   (J.go i H/\ys.length<sizeLine/\∀x H',J.yld i H x H'->g x τ H' λτ2 H2=>tc τ2 H2 λb H3=>if b=true then te τ2 H3 λy H4=>∃n',n'<n/\W (i+1) n' (ys++[y]) τ2 H4 else ∃n',n'<n/\W (i+1) n' ys τ2 H3))
  (hRR:∀(D C:A4) (s':A1) m H' ys,s'.heap.Ns C m->aD X A2 Y (upd H' D (.lst ys)) s'->ng X A2 (upd H' D (.lst ys)) C->Q (.ref D) (upd H' D (.lst ys))->RR (.ref D) C (.ok .next) s') :
  wpAny (model X.prog X.w) X.A (newList []) (λacc s₃=>wpAny (model X.prog X.w) X.A (newFunctionEnv scope X.env.globals cl [] X.env.qual none .none (some X.env)) (λcenv s₄=>
   codeAny (model X.prog X.w) X.A (.compStart (.ListComp elt [{tg,iter,ifs,0}] scope pos) 0 (.ref it) acc {cenv with scope:=relabel scope X.env}) (RR acc cenv.locals) s₄) E s₃) E s₂:=by
 refine CN (JBi (s₂:=s₂) I n (by show s₂.heap.objs.size<(s₂.heap.push _).objs.size;rw[Du];exact zb2 _) C8 DI λh₁ cl m₁ kp1 Gh B Ih=>?_);dsimp only at Gh kp1 ⊢;generalize hH2:s₂.heap.push {cls:=.type "list",dict:=none,data:=.seq ([]:Te).toArray}=H2 at Gh kp1 ⊢
 have hC:H2.objs.size=s₂.heap.objs.size+1:=by rw[←hH2,Du]
 have below:∀b,b<s₂.heap.objs.size->b≠H2.objs.size/\b≠s₂.heap.objs.size:=λb hb=>{by rw[hC];exact BG (zbL hb),BG hb}
 have hDC:s₂.heap.objs.size≠H2.objs.size:=by rw[hC];exact BG (zb2 _)
 have old:∀b o,s₂.heap.get? b=some o->h₁.get? b=some o:=λb o e=>kp1 b o (hH2 ▸ AY _ e);have DJ:h₁.get? s₂.heap.objs.size=some {cls:=.type "list",data:=.seq ([]:Te).toArray}:=kp1 _ _ (hH2 ▸ BI _ rfl)
 have Gm:∀b∈fp,b<s₂.heap.objs.size:=λb hb=>by let⟨o,e,_⟩:=T.obj _ _ st b hb;exact B4 e
 have K6:s₂.heap.objs.size<=H2.objs.size:=by rw[hC];exact G7 _
 have hfC:∀b∈fp,b<H2.objs.size:=λb hb=>C1 (Gm b hb) K6;have st₁:tn 0 h₁:=T.keep 0 _ _ st λb _ o e=>old b o e;have I₀:=xa (tk:=s₂.toks) I n B K6 Gm hf Ih CR Dr old Gh;clear Gh kp1
 have cellD:∀x c,cl.lookup x=some c->c≠s₂.heap.objs.size:=λx c e=>by
  rcases B.src x c e with⟨z,_⟩|z
  ·let⟨v,o,q,_⟩:=I.cell x c z;exact BG (B4 q)
  ·exact Ne.symm (BG z)
 have stkD:∀b∈Bt X.stack,b<s₂.heap.objs.size:=λb hb=>by
  rcases BA.mp (I.stkSub b hb) with e|e
  ·rw[e];exact I.lt
  ·let⟨_,o,q,_⟩:=I.funs.mem e;exact B4 q
 have fpok:∀{ps:Tc} {H:Hp},(∀b∈fp,H b=none)->(∀p∈ps,p.1∉fp)->∀b∈fp,ng (aT X scope cl H2.objs.size s₂ H₂ fp (own++caps)) ps H b:=λ{ps H} hn hp b hb=>
  {hn b hb,BG (hfC b hb),λz=>by
   rcases BA.mp (I.stkSub b z) with e|e
   ·exact(hf b hb).2.1 e
   ·exact(hf b hb).2.2.1 e,.inl hb,λx c e=>B.ne (hf b hb) (Gm b hb) e,λp hp' z=>hp p (by simpa[aT] using hp') (z ▸ hb)}
 have Dfp:s₂.heap.objs.size∉fp:=λz=>C4 _ (Gm _ z)
 have pinD:∀{H:Hp} {h:AI} {its:Te} {k:Nat},H s₂.heap.objs.size=none->h.get? s₂.heap.objs.size=some {cls:=.type "list",data:=.seq its.toArray k} ->
   ∀p∈[((s₂.heap.objs.size,{cls:=.type "list",data:=.seq its.toArray k}):A4×B0)],h.get? p.1=some p.2/\H p.1=none/\p.1≠H2.objs.size/\p.1∉Bt X.stack/\∀v,p.2.data≠.cell v:=λ{H h its k} hn e p hp=>by
  rw[Bm.mp hp];exact{e,hn,hDC,λz=>C4 _ (stkD _ z),λv z=>by cases z}
 have dU:∀s₃:A1,s₃={s₂ with heap:=h₁} ->
   codeAny (model X.prog X.w) X.A (.compLoop (.ListComp elt [{tg,iter,ifs,0}] scope pos) 0 (.ref it) (.ref s₂.heap.objs.size) (compEnvC scope cl H2.objs.size X.env)) (RR (.ref s₂.heap.objs.size) H2.objs.size) s₃:=by
  rintro s₃ rfl;let⟨n0,hW0⟩:=hW0
  refine wW (λn s'=>∃i ys its k τ H,aD (aT X scope cl H2.objs.size s₂ H₂ fp (own++caps)) [(s₂.heap.objs.size,{cls:=.type "list",data:=.seq its.toArray k})] τ H s'/\tn i s'.heap/\(∀b∈fp,H b=none)/\aR ys its/\ys.length<=sizeLine/\W i n ys τ H) ?_ n0
   {0,[],[],0,_,H₂,I₀.pins_of (pinD (I.hok.fresh (B3 _)) DJ),st₁,λb hb=>(hf b hb).1,.nil,Cy _,hW0}
  rintro n s3 ⟨i,ys,its,k,τ,H,I3,st3,fr3,rv,hz,w3⟩;have hD3:=I3.pin _ (D2 _ BB)
  have pfp:∀p∈[((s₂.heap.objs.size,{cls:=.type "list",data:=.seq its.toArray k}):A4×B0)],p.1∉fp:=λp hp=>by rw[Bm.mp hp];exact Dfp
  rcases hW i n ys τ H w3 with⟨stop,q⟩|⟨go,An,step⟩
  ·refine da (T.done (aT X scope cl H2.objs.size s₂ H₂ fp (own++caps)) rfl rfl rfl hc i _ s3 τ H (λ_ _=>False) I3 (fpok fr3 pfp) st3 stop) λr s4 hh=>?_
   let⟨hr,I4⟩:=hh;subst hr;have hD4:=I4.pin _ (D2 _ BB);let⟨m,hm,_⟩:=id I4.loc;have IX:aD X A2 Y H s4:=I.call' (ch:=fp) I4.os I4.base I4.hok I4.bare λb hb=>{(hf b hb).2.2.2.1,(hf b hb).2.1,(hf b hb).2.2.2.2};have fD:ng X A2 H s₂.heap.objs.size:=I.fpOk (B3 _) hD4.2.1;have IY:=aD.adopt (o:=.lst ys) IX fD I.sz {hz,its,k,rv,hD4.1};exact hRR _ _ s4 m H ys hm IY (I.fpOk K6 (by rw[L2.aB (Ne.symm hDC)];exact I4.free)) (q _ hD4.2.1)
  ·refine da (T.item (aT X scope cl H2.objs.size s₂ H₂ fp (own++caps)) rfl rfl rfl hc i _ s3 τ H (λ_ _=>False) I3 (fpok fr3 pfp) st3 go) λr s4 hh=>?_
   let⟨u,hr,h4⟩:=hh;subst hr;refine da h4 λ_ s5 hh=>?_;let⟨x,H5,I5,r5,y5,GX,fr5⟩:=hh;have I5':=I5.pinned (fpok fr5 pfp) (T.obj _ _ GX);refine da (hg _ _ _ s5 τ H5 x u _ I5' r5 (step x H5 y5)) λ_ s6 hh=>?_;let⟨Y6,H6,I6,q6⟩:=hh;refine da (ht _ _ _ s6 Y6 H6 _ I6 q6) λok s7 hh=>?_;let⟨H7,I7,q7⟩:=hh;have memD:∀p∈lU fp s5.heap,p.1≠s₂.heap.objs.size:=λp hp z=>Dfp (z ▸ (sH hp).1)
   cases ok with
   |true=>
    refine da (he _ _ _ s7 Y6 H7 _ I7 q7) λu8 s8 hh=>?_;let⟨y,H8,I8,r8,n',Fe,w8⟩:=hh;have hD8:=I8.pin (s₂.heap.objs.size,_) (D2 _ (zcp _ BB));refine append_at (hsz:=by rw[Bd,←rv.length];exact hz) hD8.1 λh9 sb hD9=>?_;have I8':aD (aT X scope cl H2.objs.size s₂ H₂ fp (own++caps)) (lU fp s5.heap) Y6 H8 s8:=I8.pins_of λp hp=>I8.pin p (D2 _ (D2 _ hp))
    have I9:aD (aT X scope cl H2.objs.size s₂ H₂ fp (own++caps)) (lU fp s5.heap) Y6 H8 {s8 with heap:=h9}:=I8'.turned (t':=s8.toks) (it:=s₂.heap.objs.size) (λb o hb e=>sb.extBut b o hb e) hD8.2.1 hDC (.inr (B3 _))
     cellD λp hp=>memD p (by simpa[aT] using hp)
    have e9:(its.toArray.push u8)=(its++[u8]).toArray:=by simp
    rw[e9] at hD9;refine{n',Fe,i+1,ys++[y],its++[u8],k+1,Y6,H8,I9.pins_of (pinD hD8.2.1 hD9),T.keep _ _ _ GX λb hb o e=>(I9.pin (b,o) (D2 _ (fA hb e))).1,λb hb=>?_,rv.append (.cons r8 .nil),by rw[Bp];exact An,w8};let⟨o,e,d⟩:=T.obj _ _ GX b hb;exact(I9.pin (b,o) (D2 _ (fA hb e))).2.1
   |false=>
    let⟨n',Fe,w8⟩:=q7;have hD7:=I7.pin (s₂.heap.objs.size,_) (D2 _ (zcp _ BB));refine{n',Fe,i+1,ys,its,k,Y6,H7,I7.pins_of (pinD hD7.2.1 hD7.1),T.keep _ _ _ GX λb hb o e=>(I7.pin (b,o) (D2 _ (D2 _ (fA hb e)))).1,λb hb=>?_,rv,hz,w8};let⟨o,e,d⟩:=T.obj _ _ GX b hb;exact(I7.pin (b,o) (D2 _ (D2 _ (fA hb e)))).2.1
 exact codeAny_compStart_list (dU _ rfl) (T.self _ 0 _ _ _ st₁ (dU _ rfl))
def JC2 {X:Cx}{elt tg iter:AR}{ifs:Tj}{scope:Scope}{pos:Pos}{own caps:Tn}{ix:T5 Nat}{wi:TI}{g:TG}{tc:TT}{te:TE}(hc:X.calm=true)(n:aO X.env.scope scope own caps)
  (CR:ix.length=caps.length) (Dr:∀(j i:Nat) y,ix[j]?=some i->caps[j]?=some y->X.N[i]?=some y) (hi:PI X tg iter wi)
  (hb:∀cl C s₂ H₂ fp,PG (aT X scope cl C s₂ H₂ fp (own++caps)) tg g/\o0 (aT X scope cl C s₂ H₂ fp (own++caps)) ifs tc/\PE (aT X scope cl C s₂ H₂ fp (own++caps)) elt te)
  (hs:∀x,foldedSetIterable iter X.env x=pure x:=by intro _;rfl):PE X (.ListComp elt [{tg,iter,ifs,0}] scope pos) (Cr ix own wi g tc te):=by
 intro A2 s Y H Q I h;let⟨cl,Fo,C8,DI⟩:=qR (env:=X.env) (scope:=scope) λy hy hf=>I.ok.has y.1 (n.free y hy hf);rw[eval_ListComp];refine wpAny_comprehension_free (use:=none) rfl hs Fo n.kind n.loc (da (hi A2 s Y H _ I h) λv s1 h1=>da h1 λitv s2 h2=>?_);let⟨it,fp,tn,J,H2,e,I2,T,st2,f2,W,w0,turn⟩:=h2;subst e;refine tw (RR:=λacc C=>compPost (model X.prog X.w) X.A X.xe none (EP X A2 Y Q) acc C) hc I2 T st2 f2 n C8 DI CR Dr (λcl C=>(hb cl C s2 H2 fp).1) (λcl C=>(hb cl C s2 H2 fp).2.1) (λcl C=>(hb cl C s2 H2 fp).2.2) W w0 turn ?_;intro D C s' m H' ys hm IY fC q;refine{m,hm,λh' sb=>{.ref D,_,IY.turned (t':=s'.toks) (it:=C) (λb o hb e=>sb.extBut b o hb e) fC.1 fC.2.1 fC.2.2.2.1 fC.2.2.2.2.1 fC.2.2.2.2.2,rfl,q}}
def JDj {X:Cx}{elt tg iter:AR}{ifs:Tj}{scope:Scope}{pos D9 py:Pos}{own caps:Tn}{ix:T5 Nat}{wi:TI}{g:TG}{tc:TT}{te:TE}{i:Nat}{y:Str}(hc:X.calm=true)(n:aO X.env.scope scope own caps)
  (hN:X.N.Nodup) (hy:X.N[i]?=some y) (HP:IB X.env.scope y)
  (CR:ix.length=caps.length) (Dr:∀(j i:Nat) y,ix[j]?=some i->caps[j]?=some y->X.N[i]?=some y) (hi:PI X tg iter wi)
  (hb:∀cl C s₂ H₂ fp,PG (aT X scope cl C s₂ H₂ fp (own++caps)) tg g/\o0 (aT X scope cl C s₂ H₂ fp (own++caps)) ifs tc/\PE (aT X scope cl C s₂ H₂ fp (own++caps)) elt te)
  (hsw:swapsWith (.ListComp elt [{tg,iter,ifs,0}] scope pos) (some (.Name y py)) D9.line X.env=pure true)
  (hs:∀x,foldedSetIterable iter X.env x=pure x:=by intro _;rfl) (hf:X.fn y=true\/X.env.scope.names.lookup y=some .local:=by first|exact .inl rfl|exact .inr rfl|assumption) :
  PS X (.Assign [.Name y py] (.ListComp elt [{tg,iter,ifs,0}] scope pos) D9) (Cs (Cr ix own wi g tc te) (sP i)):=by
 intro A2 s Y H Zz I h;let⟨cl,Fo,C8,DI⟩:=qR (env:=X.env) (scope:=scope) λy hy hf=>I.ok.has y.1 (n.free y hy hf);rw[exec_Assign_Name_used _ _ _ _ hsw];refine AB (wpAny_standAt (AB ?_))
 show wpAny _ X.A (do let _ ←comprehension (.ListComp elt [{tg,iter,ifs,0}] scope pos) scope X.env _ (newList []) false (eval iter X.env) (some (assign (.Name y py) X.env))) _ _ s
 refine AB (Dt (wpAny_comprehension_free (use:=some (assign (.Name y py) X.env)) (Q:=λ_ s'=>SP X A2 Zz .next s') rfl hs Fo n.kind n.loc (da (hi A2 s Y H _ I h) λv s1 h1=>da h1 λitv s2 h2=>?_)) (λ_ s' hq=>AN (AN hq)) λ_ _ e=>e);let⟨it,fp,tn,J,H2,e,I2,T,st2,f2,W,w0,turn⟩:=h2;subst e;refine tw (Q:=λx H1=>sP i x Y H1 Zz.nx) (RR:=λacc C=>compPost (model X.prog X.w) X.A X.xe (some (assign (.Name y py) X.env)) (λ_ s'=>SP X A2 Zz .next s') acc C) hc I2 T st2 f2 n C8 DI CR Dr (λcl C=>(hb cl C s2 H2 fp).1) (λcl C=>(hb cl C s2 H2 fp).2.1) (λcl C=>(hb cl C s2 H2 fp).2.2) W w0 turn ?_;intro D C s' m H' ys hm IY fC q
 show wpAny _ X.A (assign (.Name y py) X.env (.ref D)) _ _ _
 refine wpAny_assign_Name (sm (v:=.ref D) IY hN hy HP rfl (λGY IZ hh=>?_) hf);let⟨a,sa,ha⟩:=hh
 have nC:C≠a:=by
  rcases ha with ha|ha
  ·rw[ha];exact fC.2.1
  ·exact Ne.symm (fC.2.2.2.2.1 _ _ ha)
 refine{m,hm.sameBut sa nC,λh' sb=>{_,_,IZ.turned (t':=GY.toks) (it:=C) (λb o hb e=>sb.extBut b o hb e) fC.1 fC.2.1 fC.2.2.2.1 fC.2.2.2.2.1 fC.2.2.2.2.2,q}}
section
variable {K:AP}{m:Tf}{Y:L2.St}{H:Hp}{Q:VK}{U:ac}
def KL {B:A8->Hp->Prop}(h:gk K gf Y H B):NV Y H B:=by let⟨O,U,m,d,U',hl,hs,e,k⟩:=h;cases e;exact k H m .refl hs
def JBh {O:Lo}{k:Nat}{ix:T5 Nat}{own:Tn}(hk:own.length=k)(h:ff K m H O Y):ff K m H (d6 k ix O) (iE (own.map λ_=>none) ix Y):=by
 subst hk;unfold d6 iE;refine{by simp,λi d e=>?_};by_cases hi:i<own.length
 ·rw[BK ‹hi›,zb8] at e;split at e <;> cases e
 ·rw[FW ‹hi›] at e;rw[FW ‹hi›];rwa[List.length_replicate,Az] at e ⊢;generalize i-own.length=j at e ⊢;rw[CG] at e ⊢
  cases q:ix[j]? with
  |none=>rw[q] at e;cases e
  |some i'=>
   rw[q] at e;have e3:(O[i']?).join=some d:=Option.some.inj e;have e4:O[i']?=some (some d):=by
    cases z:O[i']? with
    |none=>rw[z] at e3;cases e3
    |some w'=>rw[z] at e3;cases w' with
     |none=>cases e3
     |some _=>cases e3;rfl
   let⟨v,q1,q2⟩:=h.2 i' d e4;exact{v,by simp[q1],q2}
def zu {ix:T5 Nat}{k:Nat}{own:Tn}{fi:FI}{g:FG}{c:FT}{f:FE}(hk:own.length=k)(h:ay K (dY ix k fi g c f) Y H Q):Cr ix own (C6 K fi) (rK K g) (gk K c) (ay K f) Y H Q:=by
 let⟨O,U,m,d,U',hl,hs,e,kk⟩:=h;let⟨⟨xs,U1⟩,e1,e⟩:=AS.mp e;split at e
 ·rename_i hz;let⟨⟨r,Ur⟩,e2,e⟩:=AS.mp e;cases e;refine{O,U,m,xs,U1,hl,hs,e1,λJ P H1 m1 x1 s1 ok p1=>?_};refine{λi n ys τ H=>n=xs.length-i/\i<=xs.length/\ys.length<=i/\P H/\∃O U m ds r',ff K m H O τ/\aP K m H U/\RelDs K H ds ys/\bS g c f (xs.drop i) O U=some (r',Ur)/\r=ds++r' /\
   ∀v H' m',dF m H m' H'->aP K m' H' (Ur++[.lst r])->aq K m' H' (.p Ur.length) v->Q v H',
   {_,rfl,Cy _,B3 _,p1,_,U1,m1,[],r,JBh hk (hl.ext x1),s1,by rwa[RelDs],by simpa using e2,rfl,λv H' m' x2 s2 r2=>kk v H' m' (x1.trans x2) s2 r2},?_}
  rintro i n ys τ H ⟨rfl,hi,hy,p,O,U,m,ds,r',hl,hs,rs,e,er,kk⟩;by_cases An:i<xs.length
  ·have hx:xs[i]?=some xs[i]:=Bl An;rw[zbu An,bS] at e;let⟨⟨O1,U2⟩,q1,e⟩:=AS.mp e;let⟨⟨b,U3⟩,q2,e⟩:=AS.mp e;refine .inr {ok.go i _ H hx p,Nat.lt_of_le_of_lt hy (C1 An hz),λx H' y=>?_};let⟨rfl,rx⟩:=ok.yld i _ H x H' hx p y;refine{O,U,m,.v xs[i],O1,U2,hl,hs,rx,q1,λY1 H1 m1 x1 s1 l1=>?_};refine{O1,U2,m1,b,U3,l1,s1,q2,λH2 m2 x2 s2=>?_}
   cases b with
   |true=>
    rwa[if_true] at e ⊢;let⟨⟨y',U4⟩,q3,e⟩:=AS.mp e;refine{O1,U3,m2,y',U4,l1.ext x2,s2,q3,λw H3 m3 x3 s3 r3=>?_}
    cases y' with
    |p _=>cases e
    |s _ _=>cases e
    |x _=>cases e
    |f _ _=>cases e
    |v d1=>
     let⟨⟨r1,U5⟩,q4,e⟩:=AS.mp e;cases e;have x4:=(x1.trans x2).trans x3;refine{_,(by omega:xs.length-(i+1)<xs.length-i),rfl,An,by rw[Bp];exact Nat.succ_le_succ hy,ok.st _ _ x4.tf p,O1,U4,m3,ds++[d1],r1,l1.ext (x2.trans x3),s3,
      (RelDs.tf x4.tf _ _ rs).append (by rwa[RelDs];exact{w,[],rfl,r3,rfl}),q4,by rw[er,EA];rfl,λv H' m' x5 s5 r5=>kk v H' m' (x4.trans x5) s5 r5}
   |false=>
    rwa[Bc,if_false] at e ⊢;have x4:=x1.trans x2;exact{_,(by omega:xs.length-(i+1)<xs.length-i),rfl,An,Nat.le_succ_of_le hy,ok.st _ _ x4.tf p,O1,U3,m2,ds,r',l1.ext x2,s2,RelDs.tf x4.tf _ _ rs,e,er,λv H' m' x5 s5 r5=>kk v H' m' (x4.trans x5) s5 r5}
  ·have:i=xs.length:=by omega
   subst this;rw[List.drop_length,bS] at e;cases e;refine .inl {ok.stop _ H p (B3 _),λp hp=>?_};let⟨a1,a2,a3⟩:=gE hs rs hp;rw[DZ] at er;subst er;exact kk _ _ _ a1 a2 a3
 ·cases e
end
mutual
noncomputable def mC:D->PyData
 |.non=>.none
 |.bl b=>.bool b
 |.int i=>.int i
 |.str x=>.str x
 |.tup xs=>.tuple (toPys xs)
 |.fl xs=>.list (toPys xs)
 |.fd _ _=>.none
 |.key _=>.none
noncomputable def toPys:T5 D->T5 PyData
 |[]=>[]
 |x::xs=>mC x::toPys xs
end
mutual
noncomputable def d3:Nat->D->A8
 |_,.non=>true
 |_,.bl _=>true
 |_,.int _=>true
 |_,.str x=>PyData.strOk x
 |_,.fd _ _=>false
 |_,.key _=>false
 |0,.tup _=>false
 |0,.fl _=>false
 |n+1,.tup xs=>okDs n xs
 |n+1,.fl xs=>okDs n xs
noncomputable def okDs:Nat->T5 D->A8
 |_,[]=>true
 |n,x::xs=>d3 n x&&okDs n xs
end
mutual
noncomputable def jI:D->D->A8
 |.bl a,y=>match y with|.bl b=>a == b|.int j=>(if a then 1 else 0) == j|_=>false
 |.int i,y=>match y with|.bl b=>i == (if b then 1 else 0)|.int j=>i == j|_=>false
 |.str x,y=>match y with|.str z=>x == z|_=>false
 |.tup xs,y=>match y with|.tup ys=>eqDs xs ys|_=>false
 |.fl xs,y=>match y with|.fl ys=>eqDs xs ys|_=>false
 |_,y=>match y with|.non=>true|.fd _ _=>true|.key _=>true|_=>false
noncomputable def eqDs:T5 D->T5 D->A8
 |[],[]=>true
 |x::xs,y::ys=>jI x y&&eqDs xs ys
 |_,_=>false
end
theorem mZ (xs ys:T5 D):jI (.tup xs) (.tup ys)=eqDs xs ys:=rfl
theorem uI (xs ys:T5 D):jI (.fl xs) (.fl ys)=eqDs xs ys:=rfl
theorem yG (a b:A8):jI (.bl a) (.bl b)=(a == b):=rfl
theorem uH (i j:Int):jI (.int i) (.int j)=(i == j):=rfl
theorem e8:eqDs [] []=true:=rfl
theorem cz (x y:D)(xs ys:T5 D):eqDs (x::xs) (y::ys)=(jI x y&&eqDs xs ys):=rfl
theorem gG (y:D)(ys:T5 D):eqDs [] (y::ys)=false:=rfl
theorem gH (y:D)(ys:T5 D):eqDs (y::ys) []=false:=rfl
mutual
theorem yF:∀a b:D,PyData.eqv (mC a) (mC b)=jI a b
 |.non,b=>by cases b <;> rfl
 |.bl _,b=>by cases b <;> rfl
 |.int _,b=>by cases b <;> rfl
 |.str _,b=>by cases b <;> rfl
 |.tup xs,b=>by
  cases b with
  |tup ys=>exact eqDs_py xs ys
  |_=>rfl
 |.fl xs,b=>by
  cases b with
  |fl ys=>exact eqDs_py xs ys
  |_=>rfl
 |.fd _ _,b=>by cases b <;> rfl
 |.key _,b=>by cases b <;> rfl
theorem eqDs_py:∀a b:T5 D,PyData.eqvAll (toPys a) (toPys b)=eqDs a b
 |[],b=>by cases b <;> rfl
 |x::xs,b=>by
  cases b with
  |nil=>rfl
  |cons y ys=>rw[cz,←yF x y,←eqDs_py xs ys];rfl
end
mutual
theorem DR:∀(n:Nat) (d:D),d3 n d=true->(mC d).canLay0=true/\(mC d).depth<=n
 |_,.non,_=>by simp[mC,PyData.canLay0,PyData.depth]
 |_,.bl _,_=>by simp[mC,PyData.canLay0,PyData.depth]
 |_,.int _,_=>by simp[mC,PyData.canLay0,PyData.depth]
 |n,.str x,h=>by
  have h:PyData.strOk x=true:=by cases n <;> simpa[d3] using h
  simp[mC,PyData.canLay0,PyData.depth,h]
 |n,.fd _ _,h=>by cases n <;> simp[d3] at h
 |n,.key _,h=>by cases n <;> simp[d3] at h
 |0,.tup _,h=>by simp[d3] at h
 |0,.fl _,h=>by simp[d3] at h
 |n+1,.tup xs,h=>by let⟨a,b⟩:=okDs_py n xs (by simpa[d3] using h);rwa[mC,PyData.canLay0,PyData.depth];exact{a,by omega}
 |n+1,.fl xs,h=>by let⟨a,b⟩:=okDs_py n xs (by simpa[d3] using h);rwa[mC,PyData.canLay0,PyData.depth];exact{a,by omega}
theorem okDs_py:∀(n:Nat) (ds:T5 D),okDs n ds=true->PyData.canLayAll0 (toPys ds)=true/\PyData.depthAll (toPys ds)<=n
 |_,[],_=>by simp[toPys,PyData.canLayAll0,PyData.depthAll]
 |n,x::xs,h=>by
  have h':d3 n x=true/\okDs n xs=true:=by cases n <;> simpa[okDs] using h
  let⟨a1,b1⟩:=DR n x h'.1;let⟨a2,b2⟩:=okDs_py n xs h'.2;rwa[toPys,PyData.canLayAll0,PyData.depthAll,a1,a2,Bool.and_self,true_and];omega
end
def kY {d:D}(h:d3 60 d=true):SeqAt.shaped (mC d)=true:=by let⟨a,b⟩:=DR 60 d h;unfold SeqAt.shaped;rw[a,zb9];exact Bs ∅
section
variable {X:Cx}{A2:Tc}{Y:L2.St}{H:Hp}{s:A1}
mutual
theorem vG (I:aD X A2 Y H s):∀(k:Nat) (d:D) (v:V) (u:A3),d3 k d=true->ak X.K H d v->be v u->∃as,Reads s.heap u (mC d) as
 |_,.non,v,u,_,h,r=>by rwa[ak] at h;subst h;cases r;exact{_,.none}
 |_,.bl b,v,u,_,h,r=>by rwa[ak] at h;subst h;cases r;exact{_,.bool b}
 |_,.int i,v,u,_,h,r=>by rwa[ak] at h;subst h;let⟨t,rfl⟩:=r;exact{_,.int i t}
 |_,.str x,v,u,_,h,r=>by rwa[ak] at h;subst h;let⟨t,rfl⟩:=r;exact{_,.str x t}
 |_,.fd _ _,v,u,hk,h,r=>by simp[d3] at hk
 |_,.key _,v,u,hk,h,r=>by simp[d3] at hk
 |0,.tup xs,v,u,hk,h,r=>by simp[d3] at hk
 |0,.fl xs,v,u,hk,h,r=>by simp[d3] at hk
 |k+1,.tup xs,v,u,hk,h,r=>by rwa[ak] at h;let⟨a,vs,rfl,q,h⟩:=h;cases r;let⟨its,rv,⟨o,e,c,n,hd⟩,_⟩:=I.tuple q;let⟨as,ra⟩:=readss_of I k xs vs its (by simpa[d3] using hk) h rv;exact{_,.tuple e c hd ‹ra›}
 |k+1,.fl xs,v,u,hk,h,r=>by rwa[ak] at h;let⟨a,vs,rfl,q,h⟩:=h;cases r;let⟨its,rv,⟨o,n,e,c,_,hd⟩,_⟩:=I.list q.sq;let⟨as,ra⟩:=readss_of I k xs vs its (by simpa[d3] using hk) h rv;exact{_,.list e c hd ‹ra›}
theorem readss_of (I:aD X A2 Y H s):∀(k:Nat) (ds:T5 D) (vs:T5 V) (us:Te),okDs k ds=true->RelDs X.K H ds vs->aR vs us->∃as,ReadsAll s.heap us (toPys ds) as
 |_,[],vs,us,_,h,r=>by rwa[RelDs] at h;subst h;cases r;exact{_,.nil}
 |k,d::ds,vs,us,hk,h,r=>by
  have hk:d3 k d=true/\okDs k ds=true:=by cases k <;> simpa[okDs] using hk
  rwa[RelDs] at h;let⟨v,vr,rfl,h1,h2⟩:=h
  cases r with
  |cons r1 r2=>
   let⟨as,q1⟩:=vG I k d v _ hk.1 h1 r1;let⟨bs,q2⟩:=readss_of I k ds vr _ hk.2 h2 r2;exact{_,.cons q1 q2}
end
end
noncomputable def oa:R->ac->UE D
 |.v d,_=>some d
 |.p n,U=>match U[n]? with|some (.lst xs)=>some (.fl xs)|some (.fz xs)=>some (.fl xs)|_=>none
 |_,_=>none
noncomputable def gq (neg:A8):R->R->ac->UE (R×ac):=λx y U=>(oa x U).bind λa=>(oa y U).bind λb=>if (d3 60 a&&d3 60 b)=true then some (.v (.bl (if neg then !jI a b else jI a b)),U) else none
def GH (K:AP)(neg:A8):R2:=λv u H Q=>∃m U x y d,aP K m H U/\aq K m H x v/\aq K m H y u/\gq neg x y U=some (.v (.bl d),U)/\Q (.bl d) H
def HE {neg:A8}:rf K (gq neg) (GH K neg):=by
 intro m H U x y d U' v u Q s rx ry e k;have e0:=e;unfold gq at e;let⟨a,e1,e⟩:=AS.mp e;let⟨b,e2,e⟩:=AS.mp e;split at e
 ·cases e;exact{m,U,x,y,_,s,rx,ry,e0,k _ H m .refl s (by rwa[aq,ak])}
 ·cases e
theorem jh {X:Cx}{H:Hp}{s:A1}{m:Tf}{U:ac}{x:R}{d:D}{v:V}{u:A3}(I:aD X A2 Y H s)(S:aP X.K m H U)(r:aq X.K m H x v)(ru:be v u)(e:oa x U=some d)(hk:d3 60 d=true):∃as,Reads s.heap u (mC d) as:=by
 cases x with
 |v d'=>cases e;exact vG I 60 _ _ _ hk r ru
 |s _ _=>cases e
 |x _=>cases e
 |f _ _=>cases e
 |p n=>
  have hl:∃xs,d=.fl xs/\jW (.p n) U=some xs:=by
   rwa[oa] at e;split at e
   ·rename_i xs q;cases e;exact{xs,rfl,by simp[jW,q]}
   ·rename_i xs q;cases e;exact{xs,rfl,by simp[jW,q]}
   ·cases e
  let⟨xs,rfl,e2⟩:=hl;let⟨a,vs,rfl,q,rr⟩:=iP S r e2;cases ru;let⟨its,rv,⟨o,n',e,c,_,hd⟩,_⟩:=I.list q;let⟨as,ra⟩:=readss_of I 59 xs vs its (by simpa[d3] using hk) rr rv;exact{_,.list e c hd ‹ra›}
def xV {X:Cx}(hu:X.A.units+64<cLine):kR X (compareOp .Eq) (GH X.K false):=by
 intro A2 s Y H v u v' u' Q I rv ru q;let⟨m,U,x,y,d,S,rx,ry,e,q⟩:=q;unfold gq at e;let⟨a,e1,e⟩:=AS.mp e;let⟨b,e2,e⟩:=AS.mp e;split at e
 ·rename_i z;rw[Ek] at z;cases e;let⟨as,r1⟩:=jh I S rx rv e1 z.1;let⟨bs,r2⟩:=jh I S ry ru e2 z.2;exact eq_dataH r1 r2 (kY z.1) (kY z.2) hu {_,H,I,by rw[yF];rfl,q}
 ·cases e
def DM {X:Cx}(hu:X.A.units+64<cLine):kR X (compareOp .NotEq) (GH X.K true):=by
 intro A2 s Y H v u v' u' Q I rv ru q;let⟨m,U,x,y,d,S,rx,ry,e,q⟩:=q;unfold gq at e;let⟨a,e1,e⟩:=AS.mp e;let⟨b,e2,e⟩:=AS.mp e;split at e
 ·rename_i z;rw[Ek] at z;cases e;let⟨as,r1⟩:=jh I S rx rv e1 z.1;let⟨bs,r2⟩:=jh I S ry ru e2 z.2;exact ne_dataH r1 r2 (kY z.1) (kY z.2) hu {_,H,I,by rw[yF];rfl,q}
 ·cases e
noncomputable def rT (neg:A8)(c:D):R->ac->UE (R×ac):=λx U=>match c,x with
 |.non,.v .non=>some (.v (.bl (!neg)),U)
 |.bl b,.v (.bl a)=>some (.v (.bl (if neg then !(a == b) else a == b)),U)
 |_,_=>some (.v (.bl neg),U)
def GG (neg:A8)(c:V):R2:=λx y H Q=>y=c/\Q (.bl (if neg then !decide (x=c) else decide (x=c))) H
section
variable {X:Cx}
def vY:kR X (compareOp .Is) (GG false .non):=LX
def vX:kR X (compareOp .IsNot) (GG true .non):=JGo
end
def Mt {m:Tf}{H:Hp}{neg:A8}{c:D}{cv v:V}{x d:R}{U U':ac}(hc:(c=.non/\cv=.non)\/∃b,c=.bl b/\cv=.bl b)(r:aq K m H x v)(e:rT neg c x U=some (d,U')) :
  U'=U/\d=.v (.bl (if neg then !decide (v=cv) else decide (v=cv))):=by
 have fin:v≠cv->some (R.v (.bl neg),U)=some (d,U')->U'=U/\d=.v (.bl (if neg then !decide (v=cv) else decide (v=cv))):=λh e=>by
  cases e;cases neg <;> simp[h]
 have nn:∀d0,d0≠.non->ak K H d0 v->v≠.non:=λd0 h1 h2 z=>by
  subst z;cases d0 <;> rwa[ak] at h2 <;> first|exact h1 rfl|(let⟨_,_,_,h,_⟩:=h2;cases h;done)|(let⟨_,_,h,_⟩:=h2;cases h;done)|(let⟨_,h,_⟩:=h2;cases h;done)|cases h2
 have nb:∀d0 b,(∀a,d0≠.bl a)->ak K H d0 v->v≠.bl b:=λd0 b h1 h2 z=>by
  subst z;cases d0 <;> rwa[ak] at h2 <;> first|exact h1 _ rfl|(let⟨_,_,_,h,_⟩:=h2;cases h;done)|(let⟨_,_,h,_⟩:=h2;cases h;done)|(let⟨_,h,_⟩:=h2;cases h;done)|cases h2
 have np:∀n,aq K m H (.p n) v->v≠.non/\∀b,v≠.bl b:=λn ⟨a,e,_⟩=>{λz=>(by rw[e] at z;cases z),λb z=>(by rw[e] at z;cases z)};have ns:∀b' n,aq K m H (.s b' n) v->v≠.non/\∀b,v≠.bl b:=λb' n ⟨a,_,e,_⟩=>{λz=>(by rw[e] at z;cases z),λb z=>(by rw[e] at z;cases z)};have nx:∀c,aq K m H (.x c) v->v≠.non/\∀b,v≠.bl b:=λc ⟨a,_,_,e,_⟩=>{λz=>(by rw[e] at z;cases z),λb z=>(by rw[e] at z;cases z)};have nf:∀L ds,aq K m H (.f L ds) v->v≠.non/\∀b,v≠.bl b:=λL ds ⟨a,_,_,_,_,e,_⟩=>{λz=>(by rw[e] at z;cases z),λb z=>(by rw[e] at z;cases z)};rcases hc with⟨rfl,rfl⟩|⟨b,rfl,rfl⟩
 ·cases x with
  |v d0=>
   by_cases h0:d0=.non
   ·subst h0
    have r:v=.non:=by simpa only[aq,ak] using r
    subst r;cases e;cases neg <;> simp
   ·have:=nn d0 h0 r
    cases d0 <;> first|exact AJ rfl h0|exact fin this e
  |p n=>have:=(np n r).1;exact fin this e
  |s b' n=>have:=(ns b' n r).1;exact fin this e
  |x c=>have:=(nx c r).1;exact fin this e
  |f L ds=>have:=(nf L ds r).1;exact fin this e
 ·cases x with
  |v d0=>
   by_cases h0:∃a,d0=.bl a
   ·let⟨a,rfl⟩:=h0
    have r:v=.bl a:=by simpa only[aq,ak] using r
    subst r;cases e;cases neg <;> cases a <;> cases b <;> simp
   ·have:=nb d0 b (λa z=>h0 {a,z}) r
    cases d0 <;> first|exact AJ {_,rfl} h0|exact fin this e
  |p n=>have:=(np n r).2 b;exact fin this e
  |s b' n=>have:=(ns b' n r).2 b;exact fin this e
  |x c=>have:=(nx c r).2 b;exact fin this e
  |f L ds=>have:=(nf L ds r).2 b;exact fin this e
def JE {H:Hp}{Q:VK}{fa:FE}{neg:A8}{c:D}{cv:V}(hc:(c=.non/\cv=.non)\/∃b,c=.bl b/\cv=.bl b)(h:ay K (jZ (rT neg c) fa) Y H Q):Ks (GG neg cv) (ay K fa) (tC cv) Y H Q:=by let⟨O,U,m,d,U',hl,hs,e,k⟩:=h;let⟨⟨x,U1⟩,e1,e⟩:=AS.mp e;refine{O,U,m,x,U1,hl,hs,e1,λv H1 m1 x1 s1 r1=>{rfl,?_}};let⟨rfl,rfl⟩:=Mt hc r1 e;exact k _ H1 m1 x1 s1 (by rwa[aq,ak])
noncomputable def SS:R->ac->UE String
 |.v .non,_=>some "NoneType"
 |.v (.bl _),_=>some "bool"
 |.v (.int _),_=>some "int"
 |.v (.str _),_=>some "str"
 |.v (.tup _),_=>some "tuple"
 |.v (.fl _),_=>some "list"
 |.v (.fd _ _),_=>some "dict"
 |.v (.key _),_=>some "tuple"
 |.p n,U=>match U[n]? with|some (.lst _)=>some "list" | some (.fz _)=>some "list" | some (.dct _)=>some "dict" | _=>none
 |.s _ _,_=>none
 |.x _,_=>none
 |.f _ _,_=>none
noncomputable def kC (T:String):R->ac->UE (R×ac):=λx U=>(SS x U).bind λt=>some (.v (.bl (t == T || (t == "bool" && T == "int"))),U)
def qZ (K:AP)(T:String):Prop:=∀t∈["NoneType","bool","int","str","tuple","list","dict"],PySem.W.kitOne K (.type t) (.type T)=some (t == T || (t == "bool" && T == "int"))
def Ox (K:AP)(T:String):T5 V->Hp->VK->Prop:=λvs H Q=>∃m U x v d,vs=[v,.ty T]/\aP K m H U/\aq K m H x v/\kC T x U=some (.v (.bl d),U)/\Q (.bl d) H
def JEy {X : Cx} {T : String} (hT : qZ X.K T) : fm X (.builtin "isinstance") (Ox X.K T) := by
  intro A2 s Y H vs us Q I rv q
  obtain⟨m, U, x, v, d, rfl, S, rx, e, q⟩ := q
  obtain⟨t, e1, e⟩ := AS.mp e
  cases e
  cases rv with
  | cons r1 rr=>
    cases rr with
    | cons r2 rr=>
      cases rr
      cases r2
      have fin : ∀ tk, EP X A2 Y Q (.bool (t == T || (t == "bool" && T == "int"))) { s with toks := tk } :=λtk=> {.bl _, H, I.tok tk, rfl, q}
      cases x with
      | v d0=>
        cases d0 with
        | non => cases e1; have r : v = .non := by simpa only [aq, ak] using rx
                 subst r; cases r1; exact F6 PySem.W.kitx_none I.kIn True.intro (hT _ ∅) (λz=> nomatch z) fin
        | bl b => cases e1; have r : v = .bl b := by simpa only [aq, ak] using rx
                  subst r; cases r1; exact F6 PySem.W.kitx_bool I.kIn True.intro (hT _ ∅) (λz=> nomatch z) fin
        | int i => cases e1; have r : v = .int i := by simpa only [aq, ak] using rx
                   subst r; obtain⟨t, rfl⟩ := r1; exact F6 PySem.W.kitx_int I.kIn True.intro (hT _ ∅) (λz=> nomatch z) fin
        | str i => cases e1; have r : v = .str i := by simpa only [aq, ak] using rx
                   subst r; obtain⟨t, rfl⟩ := r1; exact F6 PySem.W.kitx_str I.kIn True.intro (hT _ ∅) (λz=> nomatch z) fin
        | tup xs=>
          cases e1
          rwa[aq, ak] at rx
          obtain⟨a, ws, rfl, q', _⟩ := rx
          cases r1
          obtain⟨its, _, ⟨o, h1, h2, _⟩, _⟩ := I.tuple q'
          exact F6 PySem.W.kitx_tuple I.kIn {o, h1, h2} (hT _ ∅) (λz=> nomatch z) fin
        | fl xs=>
          cases e1
          rwa[aq, ak] at rx
          obtain⟨a, ws, rfl, q', _⟩ := rx
          cases r1
          obtain⟨its, _, ⟨o, n, h1, h2, _⟩, _⟩ := I.list q'.sq
          exact F6 zc6 I.kIn {o, h1, h2} (hT _ ∅) (λz=> nomatch z) fin
        | fd ks ds=>
          cases e1
          rwa[aq, ak] at rx
          obtain⟨a, o', es, rfl, q', _⟩ := rx
          cases r1
          obtain⟨_, _, _, vs, _, p⟩ := (show bo X.prog X.w H s.heap a (.frz o' (.dK es)) from I.hok a _ q')
          obtain⟨o, BE, ep, h1, h2, _⟩ := p
          exact F6 PySem.W.kitx_dict I.kIn {o, h1, h2.1} (hT _ ∅) (λz=> nomatch z) fin
        | key ks=>
          cases e1
          rwa[aq, ak] at rx
          obtain⟨a, rfl, q'⟩ := rx
          cases r1
          obtain⟨its, _, ⟨o, h1, h2, _⟩, _⟩ := I.tuple (.inl (.inl q'))
          exact F6 PySem.W.kitx_tuple I.kIn {o, h1, h2} (hT _ ∅) (λz=> nomatch z) fin
      | s _ _=> cases e1
      | x _=> cases e1
      | f _ _=> cases e1
      | p n=>
        obtain⟨a, rfl, ha⟩ := rx
        cases r1
        delta SS at e1
        dsimp only at e1
        split at e1
        · rename_i xs z
          cases e1
          obtain⟨ws, q', _⟩ := S.cell n _ a z ha
          obtain⟨its, _, ⟨o, n, h1, h2, _⟩, _⟩ := I.list (.inl (.inl q'))
          exact F6 zc6 I.kIn {o, h1, h2} (hT _ ∅) (λz=> nomatch z) fin
        · rename_i xs z
          cases e1
          obtain⟨o', ws, q', _⟩ := S.cell n _ a z ha
          obtain⟨its, _, ⟨o, n, h1, h2, _⟩, _⟩ := I.list (.inl (.inr {o', q'}))
          exact F6 zc6 I.kIn {o, h1, h2} (hT _ ∅) (λz=> nomatch z) fin
        · rename_i A6 z
          cases e1
          obtain⟨es, q', _⟩ := S.cell n _ a z ha
          obtain⟨_, _, vs, _, p⟩ := (show bo X.prog X.w H s.heap a (.dK es) from I.hok a _ q')
          obtain⟨o, BE, ep, h1, h2, _⟩ := p
          exact F6 PySem.W.kitx_dict I.kIn {o, h1, h2.1} (hT _ ∅) (λz=> nomatch z) fin
        · cases e1
def JHk {H:Hp}{Q:VK}{fa:FE}{T:String}(h:ay K (jZ (kC T) fa) Y H Q):Na (Ox K T) (pT (ay K fa) (pT (tC (.ty T)) AG)) Y H Q:=by let⟨O,U,m,d,U',hl,hs,e,k⟩:=h;let⟨⟨x,U1⟩,e1,e⟩:=AS.mp e;have e0:=e;let⟨t,e2,e⟩:=AS.mp e;cases e;exact{O,U,m,x,_,hl,hs,e1,λv H1 m1 x1 s1 r1=>{m1,_,x,v,_,rfl,s1,r1,e0,k _ H1 m1 x1 s1 (by rwa[aq,ak])}}
noncomputable def mh:T5 D->UE (T5 A8)
 |[]=>some []
 |.bl b::r=>(mh r).bind λbs=>some (b::bs)
 |_::_=>none
noncomputable def Fv (any:A8):T5 R->ac->UE (R×ac)
 |[x],U=>(jW x U).bind λxs=>(mh xs).bind λbs=>some (.v (.bl (if any then bs.any id else bs.all id)),U)
 |_,_=>none
def Oz (K:AP)(any:A8):T5 V->Hp->VK->Prop:=λvs H Q=>∃(a:A4) (bs:T5 A8),vs=[.ref a]/\jV K H a (bs.map V.bl)/\Q (.bl (if any then bs.any id else bs.all id)) H
theorem tu {K:AP}{H:Hp}:∀{ds:T5 D} {bs:T5 A8} {vs:T5 V},mh ds=some bs->RelDs K H ds vs->vs=bs.map V.bl
 |[],_,_,e,h=>by cases e;rwa[RelDs] at h;exact h
 |.bl b::r,_,_,e,h=>by let⟨bs,e1,e⟩:=AS.mp e;cases e;rwa[RelDs] at h;let⟨v,vr,rfl,h1,h2⟩:=h;rwa[ak] at h1;subst h1;rw[tu e1 h2];rfl
 |.non::_,_,_,e,_=>by cases e
 |.int _::_,_,_,e,_=>by cases e
 |.str _::_,_,_,e,_=>by cases e
 |.tup _::_,_,_,e,_=>by cases e
 |.fl _::_,_,_,e,_=>by cases e
 |.fd _ _::_,_,_,e,_=>by cases e
 |.key _::_,_,_,e,_=>by cases e
def Pp {any:A8}:yT K (Fv any) (Oz K any):=by
 intro m H U xs d U' vs Q s r e k;unfold Fv at e;split at e
 ·rename_i x;let⟨ys,e1,e⟩:=AS.mp e;let⟨bs,e2,e⟩:=AS.mp e;cases e;let⟨v,rfl,r1⟩:=mI r;let⟨a,ws,rfl,q,r2⟩:=iP s r1 e1;rw[tu e2 r2] at q;exact{a,bs,rfl,q,k _ H m .refl s (by rwa[aq,ak])}
 ·cases e
def Fk {bs:T5 A8}{its:Te}(r:aR (bs.map V.bl) its):∀(i:Nat) v,its.toArray[i]?=some v->v=.bool (bs.getD i false)/\i<bs.length:=λi v e=>by
 have e:its[i]?=some v:=by simpa using e
 have hi:i<its.length:=(C3.mp e).1;have hl:=r.length;rw[Az] at hl;have hb:i<bs.length:=by omega
 let⟨u,q1,q2⟩:=aR.get (i:=i) (x:=.bl bs[i]) r (by simp[hb]);rw[e] at q1;cases q1;cases q2;simp[hb]
def JAw {bs:T5 A8}:((List.range bs.length).all λi=>bs.getD i false)=bs.all id:=by
 rw[zdf,List.all_eq_true,List.all_eq_true];constructor
 ·intro h x hx;let⟨i,hi,rfl⟩:=G6 hx;have:=h i (G0.mpr hi);simpa[hi] using this
 ·intro h i hi;have hi:=G0.mp hi;have:=h bs[i] (HF hi);simpa[hi] using this
theorem JBf {X:Cx}(hc:X.calm=true):fm X (.builtin "all") (Oz X.K false):=by
 intro A2 s Y H vs us Q I rv q;let⟨a,bs,rfl,q',q⟩:=q
 cases rv with
 |cons r1 rr=>
  cases rr;cases r1;let⟨its,rv,p,hz⟩:=I.list q';have An:a<s.heap.objs.size:=by let⟨o,n,e,_⟩:=p;exact B4 e
  refine call_all_walk (zck p.isList ?_);refine{_,_,_,_,_,_,λi=>bs.getD i false,rfl,Walks.list (A:=X.A.in1) (show X.A.in1.handled=none from I.ok.hd hc) s.heap.objs.size a (BG An) its.toArray,{{_,BI _ rfl,rfl,rfl},p.isList.push _},λi v s' Q' E' hv hq=>?_,λh' tk hk=>?_}
  ·rw[(Fk rv i v hv).1];exact zbZ hq
  ·have hl:its.toArray.size=bs.length:=by have:=rv.length;rw[Az] at this;simp[this]
   rw[hl,JAw];refine{.bl _,H,I.kept (t':=tk) λb o e=>hk b o ?_ (AY _ e),rfl,q};intro z;rw[Bm.mp z] at e;exact AJ (B4 e) (C4 _)
end HW
namespace HW
variable {K:AP}
open PyProof.Rows L2 HS
noncomputable def Bn (x:Int):T5 Int->Th
 |[]=>[x]
 |y::ys=>if x<=y then x::y::ys else y::Bn x ys
noncomputable def g8:T5 Int->Th
 |[]=>[]
 |x::xs=>Bn x (g8 xs)
theorem nO (x:Int):∀xs,(Bn x xs).Perm (x::xs)
 |[]=>.refl _
 |y::ys=>by
  unfold Bn;split
  ·exact .refl _
  ·exact((nO x ys).cons y).trans (.swap _ _ _)
theorem d9:∀xs,(g8 xs).Perm xs
 |[]=>.refl _
 |x::xs=>(nO x _).trans ((d9 xs).cons x)
theorem ow (x:Int):∀{xs:Th},xs.Pairwise (·<=·)->(Bn x xs).Pairwise (·<=·)
 |[],_=>zcF _ _
 |y::ys,h=>by
  unfold Bn;let⟨h1,h2⟩:=D0.mp h;split
  ·rename_i hxy;refine D0.mpr {λz hz=>?_,h};rcases BA.mp hz with rfl|hz
   ·exact hxy
   ·exact Int.le_trans hxy (h1 z hz)
  ·rename_i hxy;refine D0.mpr {λz hz=>?_,ow x h2};rcases BA.mp ((nO x ys).mem_iff.mp hz) with rfl|hz
   ·omega
   ·exact h1 z hz
theorem jz:∀xs,(g8 xs).Pairwise (·<=·)
 |[]=>.nil
 |x::xs=>ow x (jz xs)
theorem pV:∀{xs ys:Th},xs.Pairwise (·<=·)->ys.Pairwise (·<=·)->xs.Perm ys->xs=ys
 |[],ys,_,_,p=>(List.Perm.nil_eq p)
 |x::xs,[],_,_,p=>AJ p.length_eq ∅
 |x::xs,y::ys,hx,hy,p=>by
  let⟨EM,hx2⟩:=D0.mp hx;let⟨hy1,hy2⟩:=D0.mp hy;have e:x=y:=by
   have h1:x∈y::ys:=p.mem_iff.mp ∅;have h2:y∈x::xs:=p.mem_iff.mpr ∅;rcases BA.mp h1 with h|h
   ·exact h
   ·rcases BA.mp h2 with h'|h'
    ·exact h'.symm
    ·exact Int.le_antisymm (EM y h') (hy1 x h)
  subst e;rw[pV hx2 hy2 ((List.perm_cons _).mp p)]
def wu {xs ns:Th}(h:ns.Pairwise (·<=·))(p:ns.Perm xs):ns=g8 xs:=pV h (jz xs) (p.trans (d9 xs).symm)
theorem c7:∀{ns:Th} {its:Te},aR (ns.map V.int) its->IntsAre its ns
 |[],its,h=>by cases h;exact .nil
 |n::ns,its,h=>by
  cases h with
  |cons r t=>let⟨tk,rfl⟩:=r;exact .cons n tk (c7 t)
theorem nN:∀{ns:Th} {its:Te},IntsAre its ns->aR (ns.map V.int) its
 |_,_,.nil=>.nil
 |_,_,.cons n t h=>.cons {t,rfl} (nN h)
abbrev ca (o:B0):HO:=.frz o (.ext λ_=>True)
def Q4 (K:AP)(b:A8):T5 V->Hp->VK->Prop:=λvs H Q=>∃p ns,vs=[.ref p]/\gM K H p (ns.map V.int)/\ns.length<4000/\∀l o,H l=none->df b o (aL [] ns)->Q (.ref l) (upd H l (ca o))
def JBc {X:Cx}(hc:X.calm=true):fm X (.type "set") (Q4 X.K (!HS.bt X.w)):=by intro A2 s Y H vs us Q I r h;obtain⟨p,ns,rfl,hq,hn,q⟩:=h;obtain⟨u,rfl,rx⟩:=ij r;cases rx;obtain⟨its,r',pl,hz⟩:=I.tuple hq;have hI:=c7 r';have hl:its.length=ns.length:=IntsAre.length hI;obtain⟨o',Bq,GO,n',Fn⟩:=pl;refine JFx (its:=its.toArray) (ns:=ns) (I.ok.hd hc) {o',Bq,GO,n',Fn} ‹hI› (by simp[scanBound,hl];omega) λh' tk o ho hS kp ht=>?_;exact{.ref s.heap.objs.size,_,I.laid (t':=tk) kp (B3 _) (show bo X.prog X.w _ h' _ (ca o) from{ho,trivial,{o,ho},λ_ _ _ _=>trivial}),rfl,q _ _ (I.hok.fresh (B3 _)) hS}
def ub (b:A8):T5 V->Hp->VK->Prop:=λvs H Q=>∃p o xs,vs=[.ref p]/\H p=some (ca o)/\df b o xs/\xs.length<64/\∀l,H l=none->Q (.ref l) (upd H l (.lst ((g8 xs).map V.int)))
def aD.drw {H:Hp}{s:A1}(I:aD X A2 Y H s)(d:Drawn):aD X A2 Y H {s with drawn:=d} :=
 {I.ok,I.os,I.bare,I.base,I.loc,I.cell,I.free,I.freeC,I.pin,I.hok,I.len}
def uR {X:Cx}(hc:X.calm=true):fm X (.builtin "sorted") (ub (!HS.bt X.w)):=by
 intro A2 s Y H vs us Q I r h;let⟨p,o,xs,rfl,hp,hS,CJ,q⟩:=h;let⟨u,rfl,rx⟩:=ij r;cases rx;have ho:s.heap.get? p=some o:=(I.hok p _ hp).1;refine xI (I.ok.hd hc) ho hS CJ λout ns h' d tk l c a1 a2 a3 kp ht hl hL=>?_;have e:=wu a3 a2;subst e;have hlen:(g8 xs).length=xs.length:=(d9 xs).length_eq;have I1:aD X A2 Y (upd H l (.lst ((g8 xs).map V.int))) {s with heap:=h',toks:=tk} :=
  I.laid (t':=tk) kp hl (show bo X.prog X.w _ h' _ (.lst _) from{by rw[Az,hlen,CK];omega,out.toList,c,nN a1,by simpa[seqObj] using hL})
 exact{.ref l,_,aD.drw I1 d,rfl,q _ (I.hok.fresh hl)}
noncomputable def gm:T5 D->UE (Th)
 |[]=>some []
 |.int n::r=>(gm r).map (n :: ·)
 |_=>none
theorem mO:∀{ds:T5 D} {ns:Th},gm ds=some ns->ds=ns.map D.int
 |[],ns,e=>by cases e;rfl
 |d::r,ns,e=>by cases d <;> rwa[gm] at e <;> first|cases e|skip;let⟨ms,e1,rfl⟩:=DY.mp e;rw[mO e1];rfl
theorem mN {K:AP}{H:Hp}:∀{ns:Th} {vs:T5 V},RelDs K H (ns.map D.int) vs->vs=ns.map V.int
 |[],vs,h=>h
 |n::ns,vs,h=>by
  let⟨v,r,rfl,h1,h2⟩:=h;have h1:v=.int n:=by simpa only[ak] using h1
  rw[h1,mN h2];rfl
theorem mH {K:AP}{H:Hp}:∀{ns:Th},RelDs K H (ns.map D.int) (ns.map V.int)
 |[]=>rfl
 |n::ns=>{_,_,rfl,by rwa[ak],mH}
noncomputable def zq (b:A8):T5 R->ac->UE (R×ac)
 |[.s c xs],U=>if c=b/\xs.length<64 then some (.p U.length,U++[.lst ((g8 xs).map D.int)]) else none
 |_,_=>none
def JDx {b:A8}:yT K (zq b) (ub b):=by
 intro m H U xs d U' vs Q s r e k;unfold zq at e;split at e
 ·rename_i c ys;split at e
  ·rename_i hn;let⟨rfl,hn⟩:=hn;cases e;let⟨v,rfl,r1⟩:=mI r;let⟨a,o,rfl,q,hS⟩:=r1;refine{a,o,ys,rfl,q,hS,hn,λl hl=>k _ _ (m++[l]) (.newH hl) (s.newH hl {_,bz,mH}) {l,rfl,?_}};rw[←s.len];simp
  ·cases e
 ·cases e
noncomputable def D1:T5 R->ac->UE (R×ac)
 |[.v (.int i),.v (.int j)],U=>some (.v (.int (if j>i then j else i)),U)
 |_,_=>none
def Q2 {m:Tf}{H:Hp}{x y:R}{vs:T5 V}(r:aW K m H [x,y] vs):∃v w,vs=[v,w]/\aq K m H x v/\aq K m H y w:=by let⟨v,r,rfl,h1,h2⟩:=r;let⟨w,r,rfl,h2,h3⟩:=h2;have h3:r=[]:=h3;subst h3;exact{v,w,rfl,h1,h2}
def Pc :yT K D1 (λxs H Q=>∃i j,xs=[.int i,.int j]/\Q (.int (if j>i then j else i)) H):=by
 intro m H U xs d U' vs Q s r e k;unfold D1 at e;split at e
 ·cases e;let⟨v,w,rfl,r1,r2⟩:=Q2 r;rwa[aq,ak] at r1 r2;subst r1;subst r2;exact{_,_,rfl,k _ H m .refl s (by rwa[aq,ak])}
 ·cases e
def C9 (b:A8):R2:=λx y H Q=>∃p q o o' xs ys,x=.ref p/\y=.ref q/\H p=some (ca o)/\H q=some (ca o')/\df b o xs/\df b o' ys/\xs.length+ys.length<64/\∀l u,H l=none->df b u (aL xs ys)->Q (.ref l) (upd H l (ca u))
def JC6 {X:Cx}:kR X (binaryOp .BitOr) (C9 (!HS.bt X.w)):=by intro A2 s Y H x y v u Q I rx ry h;let⟨p,q,o,o',xs,ys,rfl,rfl,hp,hq,S1,S2,hz,k⟩:=h;cases rx;cases ry;refine i4 (I.hok p _ hp).1 S1 (I.hok q _ hq).1 S2 ∅ λh' d u kp g S=>?_;have I1:aD X A2 Y (upd H s.heap.objs.size (ca u)) {s with heap:=h',toks:=s.toks}:=I.laid (t':=s.toks) kp (B3 _) (show bo X.prog X.w _ h' _ (ca u) from{g,trivial,{u,g},λ_ _ _ _=>trivial});exact{.ref s.heap.objs.size,_,aD.drw I1 d,rfl,k _ _ (I.hok.fresh (B3 _)) S}
noncomputable def Nc (b:A8):R->R->ac->UE (R×ac)
 |.s c xs,.s c' ys,U=>if c=b/\c'=b/\xs.length+ys.length<64 then some (.s b (aL xs ys),U) else none
 |_,_,_=>none
def vD {H:Hp}{l:A4}{o:HO}(hl:H l=none):∀a o',H a=some o'->upd H l o a=some o':=λa o' e=>by rw[aB (λz=>by rw[z,hl] at e;cases e)];exact e
def Rq {b:A8}:rf K (Nc b) (C9 b):=by
 intro m H U x y d U' v u Q s rx ry e k;unfold Nc at e;split at e
 ·split at e
  ·rename_i hc;let⟨rfl,rfl,hz⟩:=hc;cases e;let⟨p,o,rfl,hp,S1⟩:=rx;let⟨q,o',rfl,hq,S2⟩:=ry;exact{p,q,o,o',_,_,rfl,rfl,hp,hq,S1,S2,hz,λl w hl S=>k _ _ m (.new hl) (s.same (vD hl)) {l,w,rfl,bz,S}}
  ·cases e
 ·cases e
def JI (K:AP)(b:A8):T5 V->Hp->VK->Prop:=λvs H Q=>∃p ns,vs=[.ref p]/\(jV K H p (ns.map V.int)\/gM K H p (ns.map V.int))/\ns.length<4000/\∀l o,H l=none->df b o (aL [] ns)->Q (.ref l) (upd H l (ca o))
def JBd {X:Cx}(hc:X.calm=true):fm X (.type "set") (JI X.K (!HS.bt X.w)):=by
 intro A2 s Y H vs us Q I r h;let⟨p,ns,rfl,hq,hn,q⟩:=h;rcases hq with hq|hq
 ·let⟨u,rfl,rx⟩:=ij r
  cases rx;let⟨its,r',pl,hz⟩:=I.list hq;have hI:=c7 r';have hl:its.length=ns.length:=IntsAre.length hI;refine JFz (its:=its.toArray) (ns:=ns) (I.ok.hd hc) pl.isList ‹hI› (by simp[scanBound,hl];omega) λh' tk o ho hS kp ht=>?_;exact{.ref s.heap.objs.size,_,I.laid (t':=tk) kp (B3 _) (show bo X.prog X.w _ h' _ (ca o) from{ho,trivial,{o,ho},λ_ _ _ _=>trivial}),rfl,q _ _ (I.hok.fresh (B3 _)) hS}
 ·exact JBc hc A2 s Y H _ us Q I r {p,ns,rfl,hq,hn,q}
noncomputable def xL (b:A8):T5 R->ac->UE (R×ac)
 |[x],U=>(dL x U).bind λds=>(gm ds).bind λns=>if ns.length<4000 then some (.s b (aL [] ns),U) else none
 |_,_=>none
def Mv {b:A8}:yT K (xL b) (JI K b):=by
 intro m H U xs d U' vs Q s r e k;unfold xL at e;split at e
 ·let⟨ds,e0,e⟩:=AS.mp e;let⟨ns,e1,e⟩:=AS.mp e;split at e
  ·rename_i hn
   cases e;let⟨v,rfl,r1⟩:=mI r;let⟨a,ws,rfl,q,rr⟩:=jd s r1 e0;rw[mO e1] at rr;rw[mN rr] at q;exact{a,ns,rfl,q,hn,λl o hl hS=>k _ _ m (.new hl) (s.same (vD hl)) {l,o,rfl,bz,hS}}
  ·cases e
 ·cases e
def vK (K:AP)(b:A8):T5 V->Hp->VK->Prop:=λvs H Q=>ub b vs H Q\/∃p ns,vs=[.ref p]/\jV K H p (ns.map V.int)/\ns.length<64/\∀l,H l=none->Q (.ref l) (upd H l (.lst ((g8 ns).map V.int)))
def uS {X:Cx}(hc:X.calm=true):fm X (.builtin "sorted") (vK X.K (!HS.bt X.w)):=by
 intro A2 s Y H vs us Q I r h;rcases h with h|⟨p,ns,rfl,hq,CJ,q⟩
 ·exact uR hc A2 s Y H vs us Q I r h
 ·let⟨u,rfl,rx⟩:=ij r
  cases rx;obtain⟨its,r',pl,hz⟩:=I.list hq;have hI:=c7 r';have hl:its.length=ns.length:=IntsAre.length hI;refine sorted_ints (vs:=its) (ns:=ns) pl.isList hI ∅ λout ns' a1 a2 a3=>?_;have e:=wu a3 a2;subst e;have hlen:(g8 ns).length=ns.length:=(d9 ns).length_eq;have hsz:((s.heap.push (seqObj "list" #[] 0)).update s.heap.objs.size (Obj.mapSeq (·++its.toArray))).objs.size=s.heap.objs.size+1:=by rw[zda,size_push']
  have Dp:(((s.heap.push (seqObj "list" #[] 0)).update s.heap.objs.size (Obj.mapSeq (·++its.toArray))).push (seqObj "list" its.toArray 0)).get? (s.heap.objs.size+1)=some (seqObj "list" its.toArray 0):=by rw[←hsz];exact BI _ rfl
  obtain⟨c,hcx⟩:∃c,(sortedAll s.heap its out).get? (s.heap.objs.size+1)=some (seqObj "list" out c):=by unfold sortedAll sortedHeap;obtain⟨e1,q1⟩:∃e1,((((s.heap.push (seqObj "list" #[] 0)).update s.heap.objs.size (Obj.mapSeq (·++its.toArray))).push (seqObj "list" its.toArray 0)).update (s.heap.objs.size+1) (Obj.mapSeq λ_=>#[])).get? (s.heap.objs.size+1)=some (seqObj "list" #[] e1):={_,get?_update_seq Dp (λ_=>#[])};exact{_,get?_update_seq (AY _ (AY _ q1)) (λ_=>out)}
  have kp:∀b o,s.heap.get? b=some o->(sortedAll s.heap its out).get? b=some o:=λb o e=>by have hb:=B4 e;have n1:s.heap.objs.size+1≠b:=D4 (zbL hb);have n0:s.heap.objs.size≠b:=D4 hb;unfold sortedAll sortedHeap;rw[CV _ _ n1];refine AY _ (AY _ ?_);rw[CV _ _ n1];refine AY _ ?_;rw[CV _ _ n0];exact AY _ e
  exact{.ref (s.heap.objs.size+1),_,I.laid (t':=s.toks) kp (G7 _) (show bo X.prog X.w _ _ _ (.lst _) from{by rw[Az,hlen,CK];omega,out.toList,c,nN a1,by simpa[seqObj] using hcx}),rfl,q _ (I.hok.fresh (G7 _))}
noncomputable def kX (b:A8):T5 R->ac->UE (R×ac)
 |[.s c xs],U=>if c=b/\xs.length<64 then some (.p U.length,U++[.lst ((g8 xs).map D.int)]) else none
 |[x],U=>(jW x U).bind λds=>(gm ds).bind λns=>if ns.length<64 then some (.p U.length,U++[.lst ((g8 ns).map D.int)]) else none
 |_,_=>none
def JBy {b:A8}:yT K (kX b) (vK K b):=by
 intro m H U xs d U' vs Q s r e k;unfold kX at e;split at e
 ·exact .inl (JDx m H U _ d U' vs Q s r e k)
 ·rename_i x _;let⟨ds,e0,e⟩:=AS.mp e;let⟨ns,e1,e⟩:=AS.mp e;split at e
  ·rename_i hn
   cases e;let⟨v,rfl,r1⟩:=mI r;let⟨a,ws,rfl,q,rr⟩:=iP s r1 e0;rw[mO e1] at rr;rw[mN rr] at q;refine .inr {a,ns,rfl,q,hn,λl hl=>k _ _ (m++[l]) (.newH hl) (s.newH hl {_,bz,mH}) {l,rfl,?_}};rw[←s.len];simp
  ·cases e
 ·cases e
noncomputable def Qj (neg:A8):R->R->ac->UE (R×ac)
 |.v (.int i),y,U=>(dL y U).bind λds=>(gm ds).bind λns=>some (.v (.bl (if neg then !ns.contains i else ns.contains i)),U)
 |_,_,_=>none
theorem ww {i:Int}:∀{ns:Th},Qi (.int i) (ns.map V.int)=ns.contains i
 |[]=>rfl
 |n::ns=>by
  have ih:=ww (i:=i) (ns:=ns);unfold Qi at ih ⊢;rw[AZ,GB,ih,List.contains_cons]
  show(n == i || ns.contains i)=_
  rw[show(n == i)=(i == n) from zdf.mpr {λh=>beq_iff_eq.mpr (beq_iff_eq.mp h).symm,λh=>beq_iff_eq.mpr (beq_iff_eq.mp h).symm}]
theorem sS:∀{ns:Th},(ns.map V.int).all mU=true
 |[]=>rfl
 |n::ns=>by rw[AZ,List.all_cons,sS];rfl
def Pj {neg:A8}:rf K (Qj neg) (Q7 K neg):=by
 intro m H U x y d U' v u Q s rx ry e k;unfold Qj at e;split at e
 ·let⟨ds,e0,e⟩:=AS.mp e;let⟨ns,e1,e⟩:=AS.mp e;cases e;rwa[aq,ak] at rx;subst rx;let⟨a,ws,rfl,q,rr⟩:=jd s ry e0;rw[mO e1] at rr;rw[mN rr] at q;refine{a,ns.map V.int,rfl,q,rfl,sS,k _ H m .refl s ?_};rwa[aq,ak,ww]
 ·cases e
def u1 (K:AP)(H:Hp):T5 V->T5 (aI×V)->Prop:=Paired λv kv=>∃t,v=.ref t/\gM K H t [kV kv.1,kv.2]
noncomputable def rM (A6 ps:T5 (aI×V)):T5 (aI×V):=ps.foldl (λa p=>eF a p.1 p.2) A6
theorem vQ:∀(ps A6:T5 (aI×V)),(rM A6 ps).length<=A6.length+ps.length
 |[],A6=>by simp[rM]
 |p::ps,A6=>by have h1:=vQ ps (eF A6 p.1 p.2);have h2:=kA A6 p.1 p.2;rwa[rM,E8,C0] at h1 ⊢;omega
theorem vP:∀{ps:T5 (aI×V)} {qs:T5 (aI×A3)} {A6:T5 (aI×V)} {vs:T5 (aI×A3)},KV A6 vs->KV ps qs->KV (rM A6 ps) (HS.putAll vs qs)
 |_,_,_,_,r,.nil=>r
 |p::ps,q::qs,_,_,r,.cons e t=>by let⟨e1,e2⟩:=e;rwa[rM,HS.putAll,E8];rw[←e1];exact vP (ps:=ps) (qs:=qs) (KV.put r p.1 e2) t
def JC3 {X : Cx} {H : Hp} {s : A1} (I : aD X A2 Y H s) : ∀ {ws : T5 V} {A6 : T5 (aI × V)} {its : Te}, u1 X.K H ws A6 -> aR ws its ->
    ∃ ps : T5 (aI × A3), KV A6 ps /\ ps.length = its.length /\ ∀ (i : Nat) v, its[i]? = some v -> ∃ k x key, ps[i]? = some (k, x) /\ (bB X.prog X.w).is k key = true /\ ic s.heap v key x := by
  intro ws A6 its p v
  induction p generalizing its with
  | nil=> cases v; exact{[], .nil, rfl,λi v e=> by simp at e}
  | @cons _ kv _ _ hp tp ih=>
   obtain⟨k, y⟩ := kv
   cases v with
   | cons hv tv=>
    obtain⟨ps, a1, a2, a3⟩ := ih tv
    obtain⟨t, rfl, hs⟩ := hp
    cases hv
    obtain⟨js, r, ⟨o, ho, hc, n, hd⟩, _⟩ := I.tuple hs
    cases r with
    | cons r1 rr=>
      cases rr with
      | cons r2 rr=>
        cases rr
        rename_i key x
        refine{(k, x) :: ps, .cons {rfl, r2} a1, by simp[a2],λi v e=> ?_}
        cases i with
        | zero=> simp at e; subst e; exact{k, x, key, rfl, wp r1, {t, o, n, rfl, ho, hc, hd}}
        | succ i=> simpa using a3 i v ‹e›
def Df (K:AP):T5 V->Hp->VK->Prop:=λvs H Q=>∃p ws A6,vs=[.ref p]/\H p=some (.lst ws)/\u1 K H ws A6/\∀l,H l=none->Q (.ref l) (upd H l (.dK (rM [] A6)))
def tt {X:Cx}(hc:X.calm=true):fm X (.type "dict") (Df X.K):=by
 intro A2 s Y H vs us Q I r h;let⟨p,ws,A6,rfl,hH,hp,q⟩:=h;let⟨u,rfl,rx⟩:=ij r;cases rx;let⟨z,its,n,rv,hl,e⟩:=I.lstM hH;let⟨ps,a1,a2,a3⟩:=JC3 I hp rv;have hk:A6.length=its.length:=by have:=Paired.length a1;omega
 refine JDv (knd:=bB X.prog X.w) (ps:=ps) (I.ok.hd hc) e ‹a2› (by simp;omega) (λi v hv=>a3 i v ‹hv›) λh' tk hD kp=>?_;have hz:(rM [] A6).length<=sizeLine:=by have:=vQ A6 [];simp at this;omega
 exact{.ref s.heap.objs.size,_,I.laid (t':=tk) kp (B3 _) (show bo X.prog X.w _ h' _ (.dK _) from{hz,beq_eq_false_iff_ne.mpr (D4 I.big),_,vP .nil a1,hD}),rfl,q _ (I.hok.fresh (B3 _))}
noncomputable def nF:T5 D->UE (T5 (aI×D))
 |[]=>some []
 |.tup [.int i,d]::r=>(nF r).map ((.inl i,d) :: ·)
 |_=>none
noncomputable def ir (A6:T5 (aI×D))(k:aI)(v:D):T5 (aI×D):=if (A6.any λkv=>decide (kv.1=k))=true then A6.map (λkv=>if kv.1=k then (kv.1,v) else kv) else A6++[(k,v)]
noncomputable def aX (A6 ps:T5 (aI×D)):T5 (aI×D):=ps.foldl (λa p=>ir a p.1 p.2) A6
def KD (K:AP)(H:Hp)(A6:T5 (aI×D))(es:T5 (aI×V)):Prop:=es.map (·.1)=A6.map (·.1)/\RelDs K H (A6.map (·.2)) (es.map (·.2))
def KD.nil {H:Hp}:KD K H [] []:={rfl,rfl}
def KD.any {H:Hp}{A6:T5 (aI×D)}{es:T5 (aI×V)}(r:KD K H A6 es)(k:aI):(es.any λkv=>decide (kv.1=k))=(A6.any λkv=>decide (kv.1=k)):=by
 have h1:∀{β:Type} (l:T5 (aI×β)),(l.any λkv=>decide (kv.1=k))=((l.map (·.1)).any λx=>decide (x=k)):=λl=>by rw[zcU];rfl
 rw[h1,h1,r.1]
def KD.cons {K:AP}{H:Hp}{k k':aI}{d:D}{v:V}{A6:T5 (aI×D)}{es:T5 (aI×V)}:KD K H ((k,d)::A6) ((k',v)::es) ↔ k'=k/\ak K H d v/\KD K H A6 es:=by
 constructor
 ·rintro⟨h1,h2⟩;rwa[AZ,List.cons.injEq] at h1;let⟨w,r,e,h3,h4⟩:=h2;rwa[AZ,List.cons.injEq] at e;let⟨rfl,rfl⟩:=e;exact{h1.1,h3,h1.2,h4}
 ·rintro⟨rfl,h1,h2,h3⟩;exact{by simp[h2],{_,_,rfl,h1,h3}}
theorem KD.repl {K:AP}{H:Hp}{k:aI}{d:D}{v:V}(rd:ak K H d v):∀{A6:T5 (aI×D)} {es:T5 (aI×V)},KD K H A6 es->KD K H (A6.map λkv=>if kv.1=k then (kv.1,d) else kv) (es.map λkv=>if kv.1=k then (kv.1,v) else kv)
 |[],[],_=>.nil
 |[],e::es,h=>by have:=h.1;simp at this
 |q::A6,[],h=>by have:=h.1;simp at this
 |(a,x)::A6,(b,y)::es,h=>by
  let⟨rfl,h1,h2⟩:=KD.cons.mp h;have ih:=KD.repl (k:=k) rd h2;rw[AZ,AZ];by_cases e:b=k
  ·rw[A7 e,A7 e];exact KD.cons.mpr {rfl,rd,ih}
  ·rw[A5 e,A5 e];exact KD.cons.mpr {rfl,h1,ih}
theorem KD.snoc {K:AP}{H:Hp}{k:aI}{d:D}{v:V}(rd:ak K H d v):∀{A6:T5 (aI×D)} {es:T5 (aI×V)},KD K H A6 es->KD K H (A6++[(k,d)]) (es++[(k,v)])
 |[],[],_=>KD.cons.mpr {rfl,rd,.nil}
 |[],e::es,h=>by have:=h.1;simp at this
 |q::A6,[],h=>by have:=h.1;simp at this
 |(a,x)::A6,(b,y)::es,h=>by let⟨rfl,h1,h2⟩:=KD.cons.mp h;exact KD.cons.mpr {rfl,h1,KD.snoc rd h2}
def KD.put {H:Hp}{k:aI}{d:D}{v:V}{A6:T5 (aI×D)}{es:T5 (aI×V)}(r:KD K H A6 es)(rd:ak K H d v):KD K H (ir A6 k d) (eF es k v):=by
 unfold ir eF;rw[r.any k];split
 ·exact r.repl rd
 ·exact r.snoc rd
theorem KD.putAll {K:AP}{H:Hp}:∀{ps:T5 (aI×D)} {qs:T5 (aI×V)} {A6:T5 (aI×D)} {es:T5 (aI×V)},KD K H A6 es->KD K H ps qs->KD K H (aX A6 ps) (rM es qs)
 |[],[],_,_,r,_=>r
 |[],e::es,_,_,_,h=>by have:=h.1;simp at this
 |q::A6,[],_,_,_,h=>by have:=h.1;simp at this
 |(a,x)::ps,(b,y)::qs,_,_,r,h=>by let⟨rfl,h1,h2⟩:=KD.cons.mp h;exact KD.putAll (ps:=ps) (qs:=qs) (r.put h1) h2
theorem sF {K:AP}{H:Hp}:∀{ds:T5 D} {ws:T5 V} {A6:T5 (aI×D)},nF ds=some A6->RelDs K H ds ws->∃qs,u1 K H ws qs/\KD K H A6 qs
 |[],ws,A6,e,r=>by cases e;have r:ws=[]:=r;subst r;exact{[],.nil,.nil}
 |d::ds,ws,A6,e,r=>by
  let⟨v,FX,rfl,r1,r2⟩:=r;unfold nF at e;split at e
  ·cases e;rename_i h;cases h
  ·rename_i i x r' h
   cases h;let⟨ks,e1,rfl⟩:=DY.mp e;let⟨qs,p1,p2⟩:=sF e1 r2;rwa[ak] at r1;let⟨a,vs,rfl,hq,hr⟩:=r1;let⟨v1,t1,rfl,h1,hr⟩:=hr;let⟨v2,t2,rfl,h2,hr⟩:=hr;have hr:t2=[]:=hr;subst hr;have h1:v1=.int i:=(by simpa only[ak] using h1);subst h1;exact{(.inl i,v2)::qs,.cons {a,rfl,hq} p1,KD.cons.mpr {rfl,h2,p2}}
  ·cases e
noncomputable def qN:T5 R->ac->UE (R×ac)
 |[.p n],U=>match U[n]? with
  |some (.lst ds)=>(nF ds).bind λA6=>some (.p U.length,U++[.dct (aX [] A6)])
  |_=>none
 |_,_=>none
def Mz {K:AP}:yT K qN (Df K):=by
 intro m H U xs d U' vs Q s r e k;unfold qN at e;split at e
 ·rename_i n;split at e
  ·rename_i ds hn;let⟨A6,e1,e⟩:=AS.mp e;cases e;let⟨v,rfl,r1⟩:=mI r;let⟨a,rfl,ha⟩:=r1;let⟨ws,ea,ra⟩:=s.cell _ _ a hn ha;let⟨qs,p1,p2⟩:=sF e1 ra;refine{a,ws,qs,rfl,ea,p1,λl hl=>?_};have x:dF m H (m++[l]) (upd H l (.dK (rM [] qs))):=.newH hl;have hk:=KD.putAll (K:=K) (H:=H) .nil p2;refine k _ _ (m++[l]) x (s.newH hl {_,bz,hk.1,RelDs.tf x.tf _ _ hk.2}) {l,rfl,?_};rw[←s.len];simp
  ·cases e
 ·cases e
def zy (neg:A8):R2:=λx y H Q=>∃p A6 k,y=.ref p/\x=kV k/\Rd H p (.dK A6)/\Q (.bl (if neg then !(c9 A6 k).isSome else (c9 A6 k).isSome)) H
def JAf {X:Cx}(hu:X.A.units+64<cLine):kR X (compareOp .In) (zy false):=by intro A2 s Y H x y v u Q I rx ry h;let⟨p,A6,k,rfl,rfl,hR,q⟩:=h;cases ry;exact So ∅ I (.inl {A6,k,hR,rfl,rfl}) rx λs' I'=>{.bl _,H,I',rfl,q}
theorem nq (k:aI):∀(es:T5 (aI×V)),(c9 es k).isSome=es.any λkv=>decide (kv.1=k)
 |[]=>rfl
 |(a,v)::es=>by
  have ih:=nq k es;unfold c9 at ih ⊢;by_cases e:a=k
  ·simp[e]
  ·simpa[e] using ih
noncomputable def Hw (neg:A8):R->R->ac->UE (R×ac)
 |.v (.int i),.p n,U=>match U[n]? with
  |some (.dct A6)=>some (.v (.bl (if neg then !(A6.any λkv=>decide (kv.1=.inl i)) else A6.any λkv=>decide (kv.1=.inl i))),U)
  |some (.fzd A6)=>some (.v (.bl (if neg then !(A6.any λkv=>decide (kv.1=.inl i)) else A6.any λkv=>decide (kv.1=.inl i))),U)
  |_=>Qj neg (.v (.int i)) (.p n) U
 |x,y,U=>Qj neg x y U
def Pi {K:AP}{neg:A8}:rf K (Hw neg) (λx y H Q=>Q7 K neg x y H Q\/zy neg x y H Q):=by
 intro m H U x y d U' v u Q s rx ry e k;unfold Hw at e;split at e
 ·rename_i i n;split at e
  ·rename_i A6 hn
   cases e;rwa[aq,ak] at rx;subst rx;let⟨a,rfl,ha⟩:=ry;let⟨es,ea,e1,e2⟩:=s.cell _ _ a hn ha;refine .inr {a,es,.inl i,rfl,rfl,.inl ea,k _ H m .refl s ?_};have hv:=(nq (.inl i) es).trans (KD.any (K:=K) (H:=H) {e1,e2} (.inl i));rw[hv];rwa[aq,ak]
  ·rename_i A6 hn
   cases e;rwa[aq,ak] at rx;subst rx;let⟨a,rfl,ha⟩:=ry;let⟨o,es,ea,e1,e2⟩:=s.cell _ _ a hn ha;refine .inr {a,es,.inl i,rfl,rfl,.inr {o,ea},k _ H m .refl s ?_};have hv:=(nq (.inl i) es).trans (KD.any (K:=K) (H:=H) {e1,e2} (.inl i));rw[hv];rwa[aq,ak]
  ·exact .inl (Pj m H U _ _ d U' v u Q s rx ry e k)
 ·exact .inl (Pj m H U _ _ d U' v u Q s rx ry e k)
end HW
namespace HW
open PyProof.Rows L2
mutual
noncomputable def cY:D->A8
 |.tup xs=>flatDs xs
 |.fl _=>false
 |.fd _ _=>false
 |_=>true
noncomputable def flatDs:T5 D->A8
 |[]=>true
 |x::xs=>cY x&&flatDs xs
end
noncomputable def QP:R->ac->UE D
 |.v d,_=>some d
 |.p n,U=>match U[n]? with
  |some (.lst xs)=>some (.fl xs)|some (.fz xs)=>some (.fl xs)
  |some (.dct A6)=>some (.fd (A6.map (·.1)) (A6.map (·.2)))|some (.fzd A6)=>some (.fd (A6.map (·.1)) (A6.map (·.2)))
  |_=>none
 |.s _ _,_=>none
 |.x _,_=>none
 |.f _ _,_=>none
noncomputable def iY:T5 R->ac->UE (T5 D)
 |[],_=>some []
 |x::xs,U=>(QP x U).bind λd=>(iY xs U).bind λds=>some (d::ds)
noncomputable def ee (f:MF)(n:Nat)(fa:FA):FE:=λO U=>(fa O U).bind λa=>(iY a.1 a.2).bind λds=>if ds.length=n then (f ds).bind λd=>if cY d=true then some (.v d,a.2) else none else none
abbrev MC:=T5 D->UE aw
noncomputable def sU:aw->A8
 |.lst xs=>flatDs xs
 |.dct A6=>flatDs (A6.map (·.2))
 |_=>false
noncomputable def EE:pE->UE aw
 |.rt (.p n) U=>match U[n]? with|some (.lst xs)=>some (.lst xs)|some (.dct A6)=>some (.dct A6)|_=>none
 |_=>none
noncomputable def xQ (k:Nat)(b:FS):MC:=λds=>(b (ds.map (λd=>some (.v d))++List.replicate (k-ds.length) none) []).bind EE
noncomputable def gc (f:MC)(n:Nat)(fa:FA):FE:=λO U=>(fa O U).bind λa=>(iY a.1 a.2).bind λds=>if ds.length=n then (f ds).bind λc=>if sU c=true then some (.p a.2.length,a.2++[c]) else none else none
section
variable {P:A9}{w:AM}{H H0:Hp}{h h0:AI}{a:A4}{u:HO}{o:B0}{fs ex:Tf}
def jg.thaw (ok:jg P w H h)(e:H a=some (.frz o u))(hu:gN u):jg P w (upd H a u) h:=by
 have ne:∀c v,H c=some v->v≠.frz o u->c≠a:=λc v q n z=>by rw[z,e] at q;exact n (Option.some.inj q).symm
 have own:∀c y,H c=some (.own y)->upd H a u c=some (.own y):=λc y r=>by rw[L2.aB (ne c _ r ∅)];exact r
 have tup:∀c xs,H c=some (.tup xs)->upd H a u c=some (.tup xs):=λc xs r=>by rw[L2.aB (ne c _ r ∅)];exact r
 intro b v q;by_cases hb:b=a
 ·subst hb;rw[L2.bz] at q;cases q;exact(ok b _ e).2.stay (λc v _ q=>q) (λc r=>own c _ r) tup
 ·rw[L2.aB hb] at q;exact(ok b v q).stay (λc v _ q=>q) (λc r=>own c _ r) tup
def Un.thaw (un:Un fs ex (upd H0 a (.frz o u)) H h0 h)(e:H0 a=some u)(hu:gN u):Un fs ex H0 (upd H a u) h0 h:=by
 have nn:∀b,H0 b=none->b≠a:=λb z y=>by rw[y,e] at z;cases z
 have nf:∀b v,H0 b=some v->¬ gN v->b≠a:=λb v q n=>gN.ne e hu q n;refine{λb ob q n hb hx=>un.keep b ob q (by rw[L2.aB (nn b n)];exact n) hb hx,λb ob q n hb hx=>un.slot b ob q (by rw[L2.aB (nn b n)];exact n) hb hx,λb ob q n hx=>?_,un.there,λb xs q=>?_,λb ob v q=>?_,λb ps q=>?_}
 ·rw[L2.aB (nn b n)];exact un.free b ob q (by rw[L2.aB (nn b n)];exact n) hx
 ·have hb:=nf b _ q λz=>z;rw[L2.aB hb];exact un.tups b xs (by rw[L2.aB hb];exact q)
 ·have hb:=nf b _ q λz=>z;rw[L2.aB hb];exact un.frzs b ob v (by rw[L2.aB hb];exact q)
 ·have hb:=nf b _ q λz=>z;let⟨more,r⟩:=un.tbls b ps (by rw[L2.aB hb];exact q);exact{more,by rw[L2.aB hb];exact r}
end
noncomputable def bor (sp:Sp):Sp:=λvs H Q E=>sp vs H Q E\/∃a u,H a=some u/\gN u/\∀o,sp vs (upd H a (.frz o u)) (λv H2=>Q v (upd H2 a u)) E
noncomputable def borN:Nat->Sp->Sp
 |0,sp=>sp
 |n+1,sp=>bor (borN n sp)
def cC.bor {K:AP}{mg:Td}{base:AI}{k:Nat}{f:A4}{ps:Tn}{sp:Sp}(F:cC P w K mg base lB k f fd ps sp) :
  cC P w K mg base lB k f fd ps (HW.bor sp):=by
 refine{λvs H Q E h=>?_,λA outer s H args us vs Q E hr he hb hv hs=>?_}
 ·rcases h with h|⟨a,u,e,hu,h⟩
  ·exact F.len vs H Q E h
  ·exact F.len _ _ _ _ (h {cls:=.none,data:=.fields #[]})
 ·rcases hs with hs|⟨a,u,e,hu,hs⟩
  ·exact F.run A outer s H args us vs Q E hr he hb hv hs
  ·let⟨o,ok⟩:=jg.frz he.hok e hu
   have nn:∀b,H b=none->upd H a (.frz o u) b=none:=λb z=>by rw[L2.aB (λy=>by rw[y,e] at z;cases z)];exact z
   refine G8 (F.run A outer s (upd H a (.frz o u)) args us vs _ E hr {he.frames,he.mod,λb ob q=>{(he.bs b ob q).1,nn b (he.bs b ob q).2},he.bsz,he.funs,λb hb=>nn b (he.frf b hb),ok,he.bare} hb hv (hs o)) λr s' hq=>?_
   cases r with
   |error e=>exact hq
   |ok fl=>
    cases fl with
    |next=>exact hq
    |brk=>exact hq
    |cont=>exact hq
    |ret x=>
     let⟨v,H',os,bare,un,hok,rv,q⟩:=hq;exact{v,_,os,bare,Un.thaw un e hu,jg.thaw hok (un.frzs a o u L2.bz) hu,rv,q}
theorem cC.borN {K:AP}{mg:Td}{base:AI}{k:Nat}{f:A4}{ps:Tn}{sp:Sp}(F:cC P w K mg base lB k f fd ps sp) :
  ∀n,cC P w K mg base lB k f fd ps (HW.borN n sp)
 |0=>F
 |n+1=>cC.bor (cC.borN F n)
noncomputable def q9 (H H2:Hp):Hp:=λb=>match H b with|some u=>some u|none=>H2 b
def Cz (H H1:Hp):Prop:=∀b,H1 b=H b\/∃u o,H b=some u/\gN u/\H1 b=some (.frz o u)
section
variable {K:AP}{H H1 H2:Hp}
def Cz.refl:Cz H H:=λ_=>.inl rfl
def Cz.upd {a:A4}{u:HO}{o:B0}(c:Cz H H1)(e:H1 a=some u)(hu:gN u):Cz H (upd H1 a (.frz o u)):=λb=>by
 by_cases hb:b=a
 ·subst hb;rw[L2.bz];rcases c b with z|⟨u',o',_,_,z⟩
  ·exact .inr {u,o,by rw[←z,e],hu,rfl}
  ·rw[e] at z;cases z;exact hu.elim
 ·rw[L2.aB hb];exact c b
def Cz.trans (c:Cz H H1)(c':Cz H1 H2):Cz H H2:=λb=>by
 rcases c' b with z|⟨u,o,z1,z2,z3⟩
 ·rw[z];exact c b
 ·rcases c b with y|⟨u',o',_,_,y⟩
  ·exact .inr {u,o,by rw[←y,z1],z2,z3}
  ·rw[z1] at y;cases y;exact z2.elim
def Cz.tf (c:Cz H H1):TF H H1:=by
 refine{λa xs e=>?_,λa o u e=>?_}
 ·rcases c a with z|⟨u,o,z1,z2,z3⟩
  ·rw[z,e]
  ·rw[e] at z1;cases z1;exact z2.elim
 ·rcases c a with z|⟨u',o',z1,z2,z3⟩
  ·rw[z,e]
  ·rw[e] at z1;cases z1;exact z2.elim
theorem JE9 (s:xn H H2):q9 H H2=H2:=by
 funext b;unfold q9
 cases e:H b with
 |none=>rfl
 |some u=>exact(s b u e).symm
def o8:xn H (q9 H H2):=λa o e=>by unfold q9;rw[e]
def JE8 {a:A4}{u v:HO}(e:H a=some u):upd (q9 (upd H a v) H2) a u=q9 H H2:=by
 funext b;by_cases hb:b=a
 ·subst hb;rw[L2.bz];unfold q9;rw[e]
 ·rw[L2.aB hb];unfold q9;rw[L2.aB hb]
def JHg {a:A4}{xs:T5 V}(c:Cz H H1)(s:xn H1 H2)(h:gM K H2 a xs):gM K (q9 H H2) a xs:=by
 have back:∀v,¬ gN v->(∀o u,v=.frz o u->¬ gN u)->H2 a=some v->q9 H H2 a=some v:=λv nf nz e=>by
  unfold q9
  cases q:H a with
  |none=>exact e
  |some u=>
   rcases c a with z|⟨u',o',z1,z2,z3⟩
   ·rw[q] at z;rw[s a u z] at e;exact e
   ·rw[s a _ z3] at e
    cases e;exact AJ z2 (nz o' u' rfl)
 rcases h with(h|⟨o,h⟩)|h
 ·exact .inl (.inl (back _ (λz=>z) (λ_ _ z=>by cases z) h))
 ·exact .inl (.inr {o,back _ (λz=>z) (λo u z=>by cases z;exact λz=>z) h})
 ·exact .inr h
theorem JEs {a:A4}{xs:T5 V}(c:Cz H H1)(s:xn H1 H2)(e:H2 a=some (.tup xs)):q9 H H2 a=some (.tup xs):=by
 unfold q9
 cases q:H a with
 |none=>exact e
 |some u=>
  rcases c a with z|⟨u',o',z1,z2,z3⟩
  ·rw[q] at z;rw[s a u z] at e;exact e
  ·rw[s a _ z3] at e
   cases e
mutual
theorem wD (c:Cz H H1)(s:xn H1 H2):∀(d:D) (v:V),cY d=true->ak K H2 d v->ak K (q9 H H2) d v
 |.non,_,_,h=>by simpa only[ak] using h
 |.bl _,_,_,h=>by simpa only[ak] using h
 |.int _,_,_,h=>by simpa only[ak] using h
 |.str _,_,_,h=>by simpa only[ak] using h
 |.tup xs,v,f,h=>by rwa[ak] at h ⊢;let⟨a,vs,e,q,r⟩:=h;exact{a,vs,e,JHg c s q,flats_ovr c s xs vs (by simpa only[cY] using f) r}
 |.fl _,_,f,_=>by simp[cY] at f
 |.fd _ _,_,f,_=>by simp[cY] at f
 |.key _,_,_,h=>by rwa[ak] at h ⊢;let⟨a,e,q⟩:=h;exact{a,e,JEs c s q}
theorem flats_ovr (c:Cz H H1)(s:xn H1 H2):∀(ds:T5 D) (vs:T5 V),flatDs ds=true->RelDs K H2 ds vs->RelDs K (q9 H H2) ds vs
 |[],_,_,h=>by simpa only[RelDs] using h
 |d::ds,vs,f,h=>by
  rwa[RelDs] at h ⊢;let⟨v,r,e,h1,h2⟩:=h;have f':cY d=true/\flatDs ds=true:=by simpa[flatDs] using f
  exact{v,r,e,wD c s d v f'.1 h1,flats_ovr c s ds r f'.2 h2}
end
end
noncomputable def AH (K:AP)(n:Nat)(f:T5 D->UE (Hp->V->Hp->Prop)):Sp:=λvs H Q _=>∃ds P,ds.length=n/\RelDs K H ds vs/\f ds=some P/\∀v H',xn H H'->P H v H'->Q v H'
section
variable {K:AP}{m:Tf}{Y:L2.St}{H H0:Hp}{U:ac}{Q:VK}
theorem Mc {n:Nat}{f:T5 D->UE (Hp->V->Hp->Prop)}{P:Hp->V->Hp->Prop}{E:XK}(hs:aP K m H0 U):∀(rs:T5 R) (vs vsP:T5 V) (ds dsP:T5 D) (H1:Hp) (Q:VK),Cz H0 H1->RelDs K H1 dsP vsP->aW K m H0 rs vs->iY rs U=some ds ->
  f (dsP++ds)=some P->(dsP++ds).length=n->(∀v H2 Ej,Cz H1 Ej->xn Ej H2->P Ej v H2->Q v (q9 H1 H2))->borN rs.length (AH K n f) (vsP++vs) H1 Q E
 |[],vs,vsP,ds,dsP,H1,Q,c,rp,rr,ev,ef,el,k=>by
  cases ev;have rr:vs=[]:=rr;subst rr;rw[DZ] at ef el ⊢;exact{dsP,P,el,rp,ef,λv H' s p=>by have:=k v H' H1 .refl s p;(rw[JE9 s] at this;assumption)}
 |r::rs,vs,vsP,ds,dsP,H1,Q,c,rp,rr,ev,ef,el,k=>by
  let⟨v,ws,rfl,r1,r2⟩:=rr;let⟨d,e1,ev⟩:=AS.mp ev;let⟨es,e2,ev⟩:=AS.mp ev;cases ev
  have app:∀{Z:Type} (a:T5 Z) (x:Z) (b:T5 Z),a++x::b=a++[x]++b:=λa x b=>by simp
  rw[app] at ef el ⊢
  have go:∀(Ej:Hp) (Q':VK),Cz H1 Ej->ak K Ej d v->(∀v H2 Fu,Cz Ej Fu->xn Fu H2->P Fu v H2->Q' v (q9 Ej H2))->borN rs.length (AH K n f) (vsP++[v]++ws) Ej Q' E:=λEj Q' c' rd k'=>
   Mc hs rs ws (vsP++[v]) es (dsP++[d]) Ej Q' (c.trans c') (RelDs.append (RelDs.tf c'.tf _ _ rp) (by rwa[RelDs];exact{_,_,rfl,rd,rfl})) r2 e2 ef el k'
  cases r with
  |v d'=>
   cases e1;exact .inl (go H1 Q .refl (ak.tf c.tf _ _ r1) k)
  |s _ _=>cases e1
  |x _=>cases e1
  |f _ _=>cases e1
  |p i=>
   let⟨a,rfl,ha⟩:=r1;have e1:(match U[i]? with|some (.lst xs)=>some (D.fl xs)|some (.fz xs)=>some (D.fl xs)|some (.dct A6)=>some (D.fd (A6.map (·.1)) (A6.map (·.2)))|some (.fzd A6)=>some (D.fd (A6.map (·.1)) (A6.map (·.2)))|_=>none)=some d:=e1
   have lent:∀u,gN u->H0 a=some u->(∀H3 o,H3 a=some (.frz o u)->TF H0 H3->ak K H3 d (.ref a))->borN (rs.length+1) (AH K n f) (vsP++[V.ref a]++ws) H1 Q E:=λu hu e0 rd=>by
    rcases c a with z|⟨u',o',z1,z2,z3⟩
    ·rw[e0] at z
     refine .inr {a,u,z,hu,λo=>?_};have c1:Cz H1 (upd H1 a (.frz o u)):=Cz.refl.upd z hu
     exact go _ _ c1 (rd _ o L2.bz (c.tf.trans c1.tf)) λv H2 Fu c2 s2 p=>by
      rw[JE8 z];exact k v H2 Fu (c1.trans c2) s2 p
    ·rw[e0] at z1;cases z1
     exact .inl (go H1 Q .refl (rd _ o' z3 c.tf) k)
   have known:∀o u,H0 a=some (.frz o u)->ak K H1 d (.ref a)->borN (rs.length+1) (AH K n f) (vsP++[V.ref a]++ws) H1 Q E:=λo u e0 rd=>.inl (go H1 Q .refl rd k);split at e1
   ·rename_i xs q
    cases e1;let⟨FX,ea,ra⟩:=hs.cell _ _ a q ha
    exact lent (.lst FX) trivial ea λH3 o e3 t=>by rwa[ak];exact{a,FX,rfl,.inl {o,e3},RelDs.tf t _ _ ra}
   ·rename_i xs q
    cases e1;let⟨o,FX,ea,ra⟩:=hs.cell _ _ a q ha;exact known o _ ea (by rwa[ak];exact{a,FX,rfl,.inl {o,c.tf.frz _ _ _ ea},RelDs.tf c.tf _ _ ra})
   ·rename_i A6 q
    cases e1;let⟨BE,ea,e1,e2⟩:=hs.cell _ _ a q ha
    exact lent (.dK BE) trivial ea λH3 o e3 t=>by rwa[ak];exact{a,o,BE,rfl,e3,e1,RelDs.tf t _ _ e2}
   ·rename_i A6 q
    cases e1;let⟨o,BE,ea,e1,e2⟩:=hs.cell _ _ a q ha;exact known o _ ea (by rwa[ak];exact{a,o,BE,rfl,c.tf.frz _ _ _ ea,e1,RelDs.tf c.tf _ _ e2})
   ·cases e1
noncomputable def pX (K:AP)(f:MF):T5 D->UE (Hp->V->Hp->Prop):=λds=>(f ds).map λd _ v H'=>ak K H' d v
noncomputable def cX (K:AP)(f:MC):T5 D->UE (Hp->V->Hp->Prop):=λds=>(f ds).map λc H v H'=>∃a,v=.ref a/\H a=none/\ie K [] H' c a
def Oc {n:Nat}{f:MF}{vs:T5 V}{E:XK}(h:AH K n (pX K f) vs H Q E):BU K n f vs H Q E:=by let⟨ds,P,el,r,ef,k⟩:=h;let⟨d,e,rfl⟩:=DY.mp ef;exact{ds,d,el,r,e,k}
theorem xq:∀{rs:T5 R} {ds:T5 D},iY rs U=some ds->rs.length=ds.length
 |[],_,h=>by cases h;rfl
 |r::rs,ds,h=>by let⟨d,_,h⟩:=AS.mp h;let⟨es,e2,h⟩:=AS.mp h;cases h;simp[xq e2]
def JB4 {f n fa}{E:XK}(h:ay K (ee f n fa) Y H Q):vj (borN n (AH K n (pX K f))) [] E (ig K fa) Y H Q:=by
 let⟨O,U,m,d,U',hl,hs,e,k⟩:=h;let⟨⟨xs,U1⟩,e1,e⟩:=AS.mp e;let⟨ds,e2,e⟩:=AS.mp e;split at e
 ·rename_i hn;let⟨d1,e3,e⟩:=AS.mp e;split at e
  ·rename_i hf
   cases e;refine{O,U,m,xs,_,hl,hs,e1,λvs H1 m1 x1 s1 r1=>?_};have hx:xs.length=n:=(xq e2).trans hn
   show borN n (AH K n (pX K f)) (vs++[]) H1 Q E
   rw[DZ,←hx];refine Mc (dsP:=[]) (vsP:=[]) (P:=λ_ v H'=>ak K H' d1 v) s1 xs vs ds H1 Q .refl rfl r1 e2 ?_ (by simp[hn,hx]) λv H2 Ej c s p=>?_
   ·rw[E7];unfold pX;rw[e3];rfl
   ·exact k v _ m1 (x1.trans (xn.ext o8)) (s1.same o8) (wD c s _ _ hf p)
  ·cases e
 ·cases e
def JB5 {f n fa}{E:XK}(h:ay K (gc f n fa) Y H Q):vj (borN n (AH K n (cX K f))) [] E (ig K fa) Y H Q:=by
 let⟨O,U,m,d,U',hl,hs,e,k⟩:=h;let⟨⟨xs,U1⟩,e1,e⟩:=AS.mp e;let⟨ds,e2,e⟩:=AS.mp e;split at e
 ·rename_i hn;let⟨c1,e3,e⟩:=AS.mp e;split at e
  ·rename_i hf
   cases e;refine{O,U,m,xs,_,hl,hs,e1,λvs H1 m1 x1 s1 r1=>?_};have hx:xs.length=n:=(xq e2).trans hn
   show borN n (AH K n (cX K f)) (vs++[]) H1 Q E
   rw[DZ,←hx];refine Mc (dsP:=[]) (vsP:=[]) (P:=λH v H'=>∃a,v=.ref a/\H a=none/\ie K [] H' c1 a) s1 xs vs ds H1 Q .refl rfl r1 e2 ?_ (by simp[hn,hx]) λv H2 Ej c s p=>?_
   ·rw[E7];unfold cX;rw[e3];rfl
   ·let⟨a,rfl,ha,hc⟩:=p;have h1a:H1 a=none:=by
     rcases c a with z|⟨u,o,_,_,z⟩
     ·rw[←z,ha]
     ·rw[ha] at z;cases z
    have at':∀u,H2 a=some u->q9 H1 H2 a=some u:=λu q=>(by unfold q9;rw[h1a];exact q);have GO:ie K (m1++[a]) (q9 H1 H2) c1 a:=by
     cases c1 with
     |lst xs=>let⟨vs,q,r⟩:=hc;exact{vs,at' _ q,flats_ovr c s _ _ hf r}
     |dct A6=>let⟨es,q,q2,r⟩:=hc;exact{es,at' _ q,q2,flats_ovr c s _ _ hf r}
     |fz xs=>cases hf
     |fzt A6=>cases hf
     |hk A6=>cases hf
     |fzd A6=>cases hf
     |dr A6=>cases hf
     |lr xs=>cases hf
     |dt A6=>cases hf
     |tb _ _=>cases hf
     |ob _ _=>cases hf
     |tr _=>cases hf
     |fzr _=>cases hf
     |dtr _=>cases hf
    have Fe:a∉m1:=s1.fresh h1a;have ext:dF m1 H1 (m1++[a]) (q9 H1 H2):=by have z:=xn.ext (m:=m1) (o8 (H:=H1) (H2:=H2));exact{{[a],rfl,λb hb=>by rw[Bm.mp hb];exact h1a},z.tf,z.keep,z.live}
    have srel:aP K (m1++[a]) (q9 H1 H2) (U1++[c1]):=by
     have s1':=s1.same (o8 (H:=H1) (H2:=H2));refine{F9.mpr {s1.nd,by simp,λb hb b' hb'=>?_},by simp[s1.len],λi c' b q1 q2=>?_}
     ·rw[Bm.mp hb'];rintro rfl;exact Fe hb
     ·by_cases hi:i<m1.length
      ·rw[BK hi] at q2;rw[BK (by rw[←s1.len];exact hi)] at q1;exact(s1'.cell i c' b q1 q2).same (λ_ _ z=>z) {[a],rfl}
      ·have hl:=s1.len;rw[FW ∅] at q2;rw[FW ∅] at q1;have z:i-m1.length=0:=by
        cases q:i-m1.length with
        |zero=>rfl
        |succ k=>rw[q] at q2;simp at q2
       have z':i-U1.length=0:=∅;rw[z] at q2;rw[z'] at q1;simp at q1 q2;subst q1 q2;exact GO
    exact k _ _ (m1++[a]) (x1.trans ext) srel {a,rfl,by rw[←s1.len];simp}
  ·cases e
 ·cases e
end
theorem pF.okN {P:A9}{w:AM}{K:AP}{mg:Td}{base:AI}{x qual:Str}{st:AU}{f:A4}{fd:FuncData}{N ps:Tn}{k:Nat}{b:FS}(F:pF K x qual st f fd)(S:az N ps (ai st))
  (Ay:∀(AX:A3) (A:AL) (outer:T5 Env) (s:A1) (H:Hp) (E:XK),bK k (A.deeper (envOfC qual (ai st) s.heap.objs.size f AX))->oZ (jX lB P w K mg base N qual (ai st) f AX A outer s H E).nox (bx st) (fJ K b)) :
  cC P w K mg base lB (k+1) f fd ps (AH K ps.length (cX K (xQ N.length b))):=by
 have G:cC P w K mg base lB (k+1) f fd ps (λvs H Q _=>vs.length=ps.length/\fJ K b {nx:=λ_ H'=>Q .non H',rt:=Q} (L2.fO N vs) H) :=
  L2.pF.ok F S (λvs H Q E h=>h.1) λAX A outer s H vs Q E hr h=>{_,Ay AX A outer s H E hr,h.2}
 refine G.imp λvs H Q E hh=>?_;let⟨ds,P',hn,r,e,k⟩:=hh;refine{by rw[←r.length];exact hn,?_};let⟨c,ec,rfl⟩:=DY.mp e;let⟨o,e1,e2⟩:=AS.mp ec;refine{_,[],[],o,sn r,.nil,e1,?_}
 cases o with
 |nx O U=>cases e2
 |bk O U=>cases e2
 |ct O U=>cases e2
 |rt d U=>
  cases d with
  |v d=>cases e2
  |s b xs=>cases e2
  |x _=>cases e2
  |f _ _=>cases e2
  |p n=>
   intro v H' m' x s' r';let⟨a,rfl,ha⟩:=r';unfold EE at e2;have cell:∀c',U[n]?=some c'->ie K m' H' c' a:=λc' q=>s'.cell n c' a q ha
   have free:H a=none:=by
    let⟨e,rfl,f⟩:=x.ext;exact f a ‹CU ha›
   simp only at e2;split at e2
   ·rename_i xs q;cases e2;exact k _ _ x.sam {a,rfl,free,cell _ q}
   ·rename_i A6 q;cases e2;exact k _ _ x.sam {a,rfl,free,cell _ q}
   ·cases e2
end HW
namespace HW
variable {K:AP}
open PyProof.Rows L2
def JM (K:AP):R2:=λx y H Q=>∃a b ys,x=.ref a/\y=.ref b/\gM K H a []/\gM K H b ys/\ys.length<=sizeLine/\Q (.ref b) H
def JGs {X:Cx}:kR X (binaryOp .Add) (JM X.K):=by
 intro A2 s Y H x y v u Q I rx ry h;let⟨a,b,ys,rfl,rfl,ha,hb,hz,q⟩:=h;cases rx;cases ry;let⟨its,r1,p1,_⟩:=I.tuple ha;let⟨DA,r2,p2,_⟩:=I.tuple hb;cases r1;let⟨⟨cls,dd,data,sl⟩,ho,hc,n,hd⟩:=id p1;let⟨⟨cls2,dd2,data2,sl2⟩,F0,hc2,n2,hd2⟩:=id p2;simp only at hc hd hc2 hd2;subst hc hd hc2 hd2;exact concat_meets {_,ho,rfl} {_,F0,rfl} noFill_tuple_add seq_tuple_add PySem.F.slot_tuple_add PySem.F.entry_tuple_add (PySem.F.args_tuple_add_2 _ _)
  (tuple_addW0 a b #[] DA.toArray n n2 dd dd2 sl sl2 ∅) {ho,F0,{.ref b,H,I,rfl,q}}
noncomputable def dO:R->R->ac->UE (R×ac)
 |.v (.tup []),.v (.tup ys),U=>if ys.length<=sizeLine then some (.v (.tup ys),U) else none
 |x,y,U=>Ir x y U
def MA :rf K dO (λx y H Q=>JN K x y H Q\/JM K x y H Q):=by
 intro m H U x y d U' v u Q s rx ry e k;unfold dO at e;split at e
 ·split at e
  ·rename_i z
   cases e;have ry':=ry;rwa[aq,ak] at rx ry;let⟨a,vs,rfl,qa,ra⟩:=rx;let⟨b,ws,rfl,qb,rb⟩:=ry;have ra:vs=[]:=(by simpa only[RelDs] using ra);subst ra;exact .inr {a,b,ws,rfl,rfl,qa,qb,by rw[←rb.length];exact z,k _ H m .refl s ry'}
  ·cases e
 ·exact .inl (Pq m H U _ _ d U' v u Q s rx ry e k)
def Dc:V->V->V->Hp->(Hp->Prop)->Prop:=λo i v H Q=>∃p A6 k,o=.ref p/\i=kV k/\H p=some (.dK A6)/\A6.length<sizeLine/\Q (upd H p (.dK (eF A6 k v)))
def JCb {X:Cx}(hu:X.A.units+1<cLine):u2 X Dc:=by intro A2 s Y H o i v ov iv u Q I ro ri rv h;let⟨p,A6,k,rfl,rfl,hp,hl,q⟩:=h;cases ro;exact s9 hu I (yV.k hp hl) ri rv λs' I'=>{_,I',q}
def u2.or {t u:Ix}(h:u2 X t)(h':u2 X u):u2 X (λo i v H Q=>t o i v H Q\/u o i v H Q):=λA2 s Y H o i v ov iv z Q I ro ri rv q=>by
 rcases q with q|q
 ·exact h A2 s Y H o i v ov iv z Q I ro ri rv q
 ·exact h' A2 s Y H o i v ov iv z Q I ro ri rv q
noncomputable def lH:R->UE aI
 |.v (.int i)=>some (.inl i)
 |.v (.str x)=>some (.inr (some x))
 |.v .non=>some (.inr none)
 |_=>none
noncomputable def xS (o i:R)(dv:D)(U:ac):UE ac:=match o with
 |.p n=>match U[n]? with
  |some (.lst xs)=>(match i with|.v (.int k)=>(FJ xs.length k).bind λj=>some (U.set n (.lst (xs.set j dv)))|_=>none)
  |some (.dct A6)=>if A6.length<sizeLine then (lH i).bind λk=>some (U.set n (.dct (ir A6 k dv))) else none
  |_=>none
 |_=>none
noncomputable def rV (fo fi:FE):FG:=λd O U=>match d with|.v dv=>(fo O U).bind λo=>(fi O o.2).bind λi=>(xS o.1 i.1 dv i.2).bind λU'=>some (O,U')|_=>none
theorem RelDs.setAt {K:AP}{H:Hp}{d:D}{v:V}(h:ak K H d v):∀{ds:T5 D} {vs:T5 V} (j:Nat),RelDs K H ds vs->RelDs K H (ds.set j d) (vs.set j v)
 |[],vs,j,r=>by have r:vs=[]:=r;subst r;exact rfl
 |_::_,_,0,⟨v',r,e,h1,h2⟩=>by subst e;exact{v,r,rfl,h,h2}
 |_::_,_,j+1,⟨v',r,e,h1,h2⟩=>by subst e;exact{v',_,rfl,h1,RelDs.setAt h j h2}
def zV {m:Tf}{H:Hp}{x:R}{v:V}{k:aI}(r:aq K m H x v)(e:lH x=some k):v=kV k:=by
 unfold lH at e;split at e
 ·cases e;simpa only[aq,ak,kV] using r
 ·cases e;simpa only[aq,ak,kV] using r
 ·cases e;simpa only[aq,ak,kV] using r
 ·cases e
def Lz {K:AP}{m:Tf}{H:Hp}{U U':ac}{o i:R}{dv:D}{vo vi v:V}{Q:Hp->Prop}(s:aP K m H U)(ro:aq K m H o vo)(ri:aq K m H i vi)(rv:ak K H dv v)(e:xS o i dv U=some U')
  (k:∀H',dF m H m H'->aP K m H' U'->Q H'):Db vo vi v H Q\/Dc vo vi v H Q:=by
 unfold xS at e;split at e
 ·rename_i n
  split at e
  ·rename_i xs q
   split at e
   ·rename_i j
    let⟨w,e1,e⟩:=AS.mp e;cases e;let⟨a,rfl,ha⟩:=ro
    have ri:vi=.int j:=by simpa only[aq,ak] using ri
    subst ri;let⟨ws,ea,ra⟩:=s.cell _ _ a q ha;have x:dF m H m (upd H a (.lst (ws.set w v))):=.put (CU ha) ea ∅ ∅;exact .inl {a,ws,j,w,rfl,rfl,ea,by rw[←ra.length];exact e1,k _ x (s.put ha ea ∅ ∅ {_,bP,RelDs.tf x.tf _ _ (RelDs.setAt rv w ra)})}
   ·cases e
  ·rename_i A6 q
   split at e
   ·rename_i hl
    let⟨w,e1,e⟩:=AS.mp e;cases e;let⟨a,rfl,ha⟩:=ro;let⟨es,ea,q1,q2⟩:=s.cell _ _ a q ha;have kd:KD K H A6 es:={q1,q2};have kd':=kd.put (k:=w) rv;have x:dF m H m (upd H a (.dK (eF es w v))):=.put (CU ha) ea ∅ ∅;exact .inr {a,es,w,rfl,zV ri e1,ea,by have:=AQ List.length q1;simp at this;omega,k _ x (s.put ha ea ∅ ∅ {_,bP,kd'.1,RelDs.tf x.tf _ _ kd'.2})}
   ·cases e
  ·cases e
 ·cases e
def JGc {fo fi:FE}{v:V}{H:Hp}{Q:L2.St->Hp->Prop}(h:rK K (rV fo fi) v Y H Q):L2.rV (ay K fo) (ay K fi) (λo i v H Q=>Db o i v H Q\/Dc o i v H Q) v Y H Q:=by
 let⟨O,U,m,d,O',U',hl,hs,r,e,k⟩:=h;unfold rV at e;split at e
 ·rename_i dv;let⟨⟨o,U1⟩,e1,e⟩:=AS.mp e;let⟨⟨i,U2⟩,e2,e⟩:=AS.mp e;let⟨U3,e3,e⟩:=AS.mp e;cases e;refine{O,U,m,o,U1,hl,hs,e1,λvo H1 m1 x1 s1 r1=>?_};refine{O,U1,m1,i,U2,hl.ext x1,s1,e2,λvi H2 m2 x2 s2 r2=>?_};exact Lz s2 (r1.ext x2) r2 (ak.tf (x1.tf.trans x2.tf) _ _ r) e3 λH3 x3 s3=>k Y H3 m2 ((x1.trans x2).trans x3) s3 (hl.ext ((x1.trans x2).trans x3))
 ·cases e
noncomputable def Sv (lt:Int->Int->A8)(ns:Th):Int:=ns.getD (argBest (λi j=>lt (ns.getD i 0) (ns.getD j 0)) (ns.length-1)) 0
end HW
namespace HS
open PyProof.Rows L2
section
variable {prog:A9}{w:AM}{A:AL}{E:Tb}{s:A1}
def Bo {a:A4}{Q:A8->A1->Prop}(hT:s.TypeIs (.ref a) "dict")(h:Q false s):wpAny (model prog w) A (listLengthHint (.ref a)) Q E s:=PySem.W.kdl_hint_dict hT h
end
end HS
namespace HW
open PyProof.Rows L2 HS
noncomputable def Hu:T5 aI->UE (Th)
 |[]=>some []
 |.inl n::r=>(Hu r).map (n :: ·)
 |_=>none
end HW
namespace HW
variable {K:AP}
open PyProof.Rows L2
def iW (K:AP)(mg:Td)(x:Str)(d:D):Prop:=∃u v,mg x=some u/\be v u/\∀H,ak K H d v
def IH (K:AP)(d:D)(v:V)(u:A3):Prop:=be v u/\∀H,ak K H d v
def Ax (K:AP)(ds:T5 D)(vs:T5 V)(us:Te):Prop:=aR vs us/\∀H,RelDs K H ds vs
def iD :Ax K [] [] []:={.nil,λ_=>rfl}
def fW {d:D}{v:V}{u:A3}{ds:T5 D}{vs:T5 V}{us:Te}(h:IH K d v u)(h':Ax K ds vs us):Ax K (d::ds) (v::vs) (u::us) :=
 {.cons h.1 h'.1,λH=>by rwa[RelDs];exact{_,_,rfl,h.2 H,h'.2 H}}
def Fc {b:A8}:IH K (.bl b) (.bl b) (.bool b):={rfl,λH=>by rwa[ak]}
def kK {K:AP}{a:A4}{us:Te}{n:Nat}{sl:AD (Tg)}{ds:T5 D}{vs:T5 V}(h:K.lookup a=some {.type "tuple",none,.seq us.toArray n,sl})(hz:us.length<=sizeLine)(r:Ax K ds vs us):IH K (.tup ds) (.ref a) (.ref a) :=
 {rfl,λH=>by rwa[ak];exact{a,vs,rfl,.inr {_,us.toArray,n,h,rfl,rfl,rfl,by simpa using hz,by simpa using r.1},r.2 H}}
def qO {mg:Td}{x:Str}{u:A3}{d:D}{v:V}(hm:mg x=some u)(r:IH K d v u):iW K mg x d:={u,v,hm,r.1,r.2}
def Cu (i j c:Int):Prop:=c≠0/\-(2 ^ 30)<c/\c<2 ^ 30
instance {i j c:Int}:Decidable (Cu i j c):=by unfold Cu;infer_instance
end HW
namespace L2
open PyProof.Rows
section
variable {X:Cx}{A2:Tc}{Y:St}{H:Hp}{s:A1}{h':AI}
def aD.turnedL {t':Nat}{its:Tf}(I:aD X A2 Y H s)(k:∀b o,b∉its->s.heap.get? b=some o->h'.get? b=some o)
  (hf:∀it∈its,H it=none/\it≠X.env.locals/\(it∈X.ex\/X.s₀.heap.objs.size<=it)/\(∀x c,X.env.cells.lookup x=some c->c≠it)/\∀p∈X.pn++A2,p.1≠it):aD X A2 Y H {s with heap:=h',toks:=t'}:=by
 have nit:∀b u,H b=some u->b∉its:=λb u e z=>by rw[(hf b z).1] at e;cases e
 refine I.step (g':=s.gens) (d':=s.drawn) (ch:=its) (λb hb=>?_) (λb o _ _ hc e _=>k b o hc e) (λb o _ _ hc e _=>{o.slots,k b o hc e}) (λ_ _ _ _ n=>n)
  (λb o hc e=>{o,k b o hc e}) (λ_ _ e=>e) (λ_ _ _ e=>e) (λb ps e=>{#[],by rw[e];simp}) (λm hm=>?_) (λb u e=>?_) I.bare
 ·let⟨_,hL,h1,h2,h3⟩:=hf b hb
  exact{h1,hL,h2,h3}
 ·let⟨o,es,ep,ho,r⟩:=hm
  exact{o,es,ep,k _ o (λz=>(hf _ z).2.1 rfl) ho,r}
 ·refine(I.hok b u e).stay (λc v hc q=>k c v ?_ q) (λ_ q=>q) λ_ _ q=>q
  rcases hc with z|z
  ·rw[z];exact nit b u e
  ·exact nit c _ z
end
def JFi {h:AI}{o:B0}{b:A4}(hb:b<h.objs.size):(h.push o).get? b=h.get? b:=by unfold Heap.get? Heap.push;simp[Array.getElem?_push,BG hb]
end L2
namespace HW
open PyProof.Rows L2
structure J8 (K:AP)(J:It)(xs:List D)(P:Hp->Prop):Prop where
 st:∀H H',TF H H'->P H->P H'
 stop:∀i H,P H->xs.length<=i->J.stop i H
 go:∀(i:Nat) d H,xs[i]?=some d->P H->J.go i H
 yld:∀(i:Nat) d H x H',xs[i]?=some d->P H->J.yld i H x H'->(∀a o,H a=some o->H' a=some o)/\ak K H' d x
def GD (K:AP)(f:FI):TI:=λY H R=>∃O U m xs U',ff K m H O Y/\aP K m H U/\f O U=some (xs,U') /\
 ∀J P H' m',dF m H m' H'->aP K m' H' U'->J8 K J xs P->P H'->R J H'
def wI {m:Tf}{H H':Hp}(s:∀a o,H a=some o->H' a=some o):dF m H m H' :=
 {{[],by simp,λ_ z=>nomatch z},{λa xs e=>s _ _ e,λa o x e=>s _ _ e},λa o e _=>s _ _ e,λa e=>by
  cases q:H a with
  |none=>rfl
  |some o=>rw[s _ _ q] at e;cases e}
section
variable {K:AP}{m:Tf}{Y:L2.St}{H:Hp}{U:ac}{D:gO}
def zt {fi g b}(h:fJ K (ii fi g b) D Y H):Kt (GD K fi) (rK K g) (fJ K b) D Y H:=by
 let⟨O,U,m,o,hl,hs,e,k⟩:=h;let⟨⟨xs,U1⟩,e1,e⟩:=AS.mp e;refine{O,U,m,xs,U1,hl,hs,e1,λJ P H1 m1 x1 s1 ok p1=>?_};refine{λi n Y H=>n=xs.length-i/\i<=xs.length/\P H/\∃O U m,ff K m H O Y/\aP K m H U/\dU g b (xs.drop i) O U=some o/\gO.of K m H D o,
  {_,rfl,Cy _,p1,O,U1,m1,ff.ext x1 hl,s1,by simpa using e,gO.of_ext x1 k},?_}
 rintro i n Y H ⟨rfl,hi,p,O,U,m,hl,hs,e,k⟩;by_cases An:i<xs.length
 ·have hx:xs[i]?=some xs[i]:=Bl An;rw[zbu An,dU] at e;let⟨⟨O1,U1⟩,e1,e⟩:=AS.mp e;let⟨o1,e2,e⟩:=AS.mp e;refine .inr {ok.go i _ H hx p,λY H=>i+1<=xs.length/\P H/\∃O U m,ff K m H O Y/\aP K m H U/\dU g b (xs.drop (i+1)) O U=some o/\gO.of K m H D o,
   λY' H' z=>{xs.length-(i+1),by omega,rfl,z},λx H' y=>?_}
  let⟨xe,rx⟩:=ok.yld i _ H x H' hx p y;have x0:dF m H m H':=wI xe;refine{O,U,m,.v xs[i],O1,U1,ff.ext x0 hl,hs.same xe,rx,e1,λY1 H1 m1 x1 s1 l1=>?_};have x1:=x0.trans x1;refine{O1,U1,m1,o1,l1,s1,e2,?_}
  cases o1 with
  |nx O2 U2=>exact λY2 H2 m2 x2 s2 l2=>{An,ok.st _ _ (x1.trans x2).tf p,O2,U2,m2,l2,s2,e,gO.of_ext (x1.trans x2) k}
  |ct O2 U2=>exact λY2 H2 m2 x2 s2 l2=>{An,ok.st _ _ (x1.trans x2).tf p,O2,U2,m2,l2,s2,e,gO.of_ext (x1.trans x2) k}
  |bk O2 U2=>cases e;exact λY2 H2 m2 x2 s2 l2=>k Y2 H2 m2 (x1.trans x2) s2 l2
  |rt d U2=>cases e;exact λv H2 m2 x2 s2 l2=>k v H2 m2 (x1.trans x2) s2 l2
 ·have:i=xs.length:=by omega
  subst this;rw[List.drop_length,dU] at e;cases e;exact .inl {ok.stop _ H p (B3 _),k Y H m .refl hs hl}
def La {fi g b}(h:fJ K (ii fi g b) D Y H):Kt (C6 K fi) (rK K g) (fJ K b) D Y H :=
 let ⟨O,U,m,xs,U',hl,hs,e,k⟩:=zt h
 {O,U,m,xs,U',hl,hs,e,λJ P H' m' x s ok p=>k J P H' m' x s {ok.st,ok.stop,ok.go,λi d H x H' e p y=>by let⟨rfl,r⟩:=ok.yld i d H x H' e p y;exact{λ_ _ z=>z,r}} p}
end
def p6 {H:Hp}{T:A4}{o':HO}(h:H T=none)(a:A4)(o:HO)(e:H a=some o):upd H T o' a=some o:=by
 have ne:a≠T:=λz=>by rw[z,h] at e;cases e
 rw[aB ne];exact e
end HW
namespace HS
open PyProof.Rows
end HS
namespace HW
open PyProof.Rows L2 HS
end HW
namespace HS
open PyProof.Rows
end HS
namespace HW
open PyProof.Rows L2 HS
end HW
namespace HX
abbrev eO (C:A3)(vs:Ti):B0:={cls:=C,dict:=none,data:=.fields vs,slots:=#[]}
structure Fl (G:Addr->Prop)(h:Heap)(e:Addr)(C fl:Value):Prop where
 is:∃vs T ts c,¬ G e/\¬ G T/\T≠e/\h.get? e=some (eO C vs)/\vs[1]?=some (.ref T)/\h.get? T=some (eO c ts)/\ts[3]?=some fl
 all:∀b,G b->∃o,h.get? b=some o
end HX
namespace HW
open PyProof.Rows L2
abbrev JAa (K:AP)(c:Str)(C:A4):Prop:=PySem.W.nsIn K mainGlobals c=some (some (.ref C))
structure UB (K:AP)(D:Addr):Prop where
 dc:PySem.W.hasDictIn K D=true
 ga:PySem.W.findIn K (.ref D) "__getattribute__" = some (some (.builtin "BaseException.__getattribute__"))
 gn:PySem.W.findIn K (.ref D) "__getattr__" = some none
 fi:PySem.W.findIn K (.ref D) "__class__" = some (some (.builtin "object.__class__"))
 mr:PySem.W.mroIn K D (.type "object")=some true
 mb:PySem.W.mroIn K D (.type "BaseException")=some true
 gt:PySem.W.specialIn K (.builtin "object.__class__") "__get__" = some (some (.builtin "getset_descriptor.__get__"))
 tk:PySem.W.takesIn K (.builtin "object.__class__")=some true
end HW
namespace HW
open L2
end HW
namespace HX
end HX
namespace HW
open PyProof.Rows L2
def Oq:V->UE Int->UE Int->Hp->VK->Prop:=λx lo hi H Q=>∃z,x=.str z/\z.length<=sizeLine/\Q (.str (Txt.slice z lo hi)) H
theorem KB:BV X Oq:=by
 intro A2 s Y H x v vl vu lo hi sl Q I rx hs pl pu h;obtain⟨z,rfl,hz,q⟩:=h;obtain⟨t,rfl⟩:=rx;refine{"str",_,PySem.F.slot_str_getitem.lookup,typeIs_str _ _ _,?_};have fin:∀(l u:UE (Int×Tok)),lo=l.map (·.1)->hi=u.map (·.1)->s.heap.IsSlice sl l u none->wpAny (model X.prog X.w) X.A (getItem (.str z t) (.ref sl)) (EP X A2 Y Q) X.xe s:=λl u e1 e2 hS=>by subst e1 e2;refine wpAny_getItem_str_slice (l:=l) (u:=u) (st:=none) hS rfl ?_;exact post_val_or_str {DL (Txt.slice_le z _ _) hz,λt' k=>{.str _,H,I.tok k,{_,rfl},q}}
 cases pl with
 |none=>
  cases pu with
  |none=>exact fin none none rfl rfl hs
  |int j tj=>exact fin none (some (j,tj)) rfl rfl hs
 |int i ti=>
  cases pu with
  |none=>exact fin (some (i,ti)) none rfl rfl hs
  |int j tj=>exact fin (some (i,ti)) (some (j,tj)) rfl rfl hs
section
variable {K:AP}{H:Hp}{Q:VK}
noncomputable def CD (x:R)(lo hi:UE Int)(U:ac):UE (R×ac):=match x with
 |.v (.str z)=>if z.length<=sizeLine then some (.v (.str (Txt.slice z lo hi)),U) else none
 |_=>none
noncomputable def JZ:R->R->ac->UE (R×ac)
 |.v (.str z),.v (.int i),U=>if 0<=i/\i<2 ^ 63/\i<z.length then (z.cps[i.toNat]?).bind λc=>some (.v (.str ⟨#[c]⟩),U) else none
 |_,_,_=>none
def Ph:rf K JZ (λx y H Q=>∃z i c,x=.str z/\y=.int i/\0<=i/\i<2 ^ 63/\i<z.length/\z.cps[i.toNat]?=some c/\Q (.str ⟨#[c]⟩) H):=by
 intro m H U x y d U' v u Q s rx ry e k;unfold JZ at e;split at e
 ·rename_i z i;split at e
  ·rename_i c;let⟨c',e1,e⟩:=AS.mp e;cases e;rwa[aq,ak] at rx ry;subst rx ry;exact{z,i,c',rfl,rfl,c.1,c.2.1,c.2.2,e1,k _ H m .refl s (by rwa[aq,ak])}
  ·cases e
 ·cases e
noncomputable def Ba:T5 R->ac->UE (R×ac)
 |[.v (.str z)],U=>if z.length<=sizeLine then some (.v (.int z.length),U) else none
 |_,_=>none
def Mx:yT K Ba (λxs H Q=>∃z,xs=[.str z]/\z.length<=sizeLine/\Q (.int z.length) H):=by
 intro m H U xs d U' vs Q s r e k;unfold Ba at e;split at e
 ·rename_i z;split at e
  ·rename_i hz
   cases e;let⟨v,rfl,r1⟩:=mI r;rwa[aq,ak] at r1;subst r1;exact{z,rfl,hz,k _ H m .refl s (by rwa[aq,ak])}
  ·cases e
 ·cases e
end
theorem pR:∀{its:Te} {ts:Tn},aR (ts.map V.str) its->∃l:T5 (Str×Tok),its=strValues l/\l.map (·.1)=ts
 |its,[],r=>by
  have:=r.length
  cases its with
  |nil=>exact{[],rfl,rfl}
  |cons a b=>simp at this
 |its,x::ts,r=>by
  cases r with
  |cons r1 r2=>
   let⟨l,e1,e2⟩:=pR r2;let⟨t,rfl⟩:=r1;exact{(x,t)::l,by rw[e1];rfl,by rw[AZ,e2]}
def JJ (K:AP):V->T5 V->Hp->VK->Prop:=λx ys H Q=>∃a p ts,x=.str a/\ys=[.ref p]/\jV K H p (ts.map V.str)/\JoinOk a ts=true/\Q (.str (Txt.join a ts)) H
def JGw {X:Cx}:Ub X "str.join" (JJ X.K):=by intro A2 s Y H x xs v us Q I rx rv h;obtain⟨a,p,ts,rfl,rfl,hq,hok,q⟩:=h;obtain⟨t,rfl⟩:=rx;obtain⟨u,rfl,ru⟩:=ij rv;cases ru;obtain⟨its,r',pl,hz⟩:=I.list hq;obtain⟨l,rfl,e2⟩:=pR r';exact SC.join pl.isList e2 hok λt' k=>{.str _,H,I.tok k,{_,rfl},q}
structure Ud (K:AP)(g:R->R->ac->Option (R×ac))(r:V->List V->Hp->VK->Prop):Prop where
 str:∀{x y U z},g x y U=some z->∃a,x=.v (.str a)
 go:∀{m H U x y d U' v u} {Q:VK},aP K m H U->aq K m H x v->aq K m H y u->g x y U=some (d,U')->(∀w H' m',dF m H m' H'->aP K m' H' U'->aq K m' H' d w->Q w H')->r v [u] H Q
section
variable {K:AP}{Y:L2.St}{H:Hp}{Q:VK}
def Lg {g r fa fb}(hg:Ud K g r)(h:ay K (au g fa fb) Y H Q):Q0 K "str" r (ay K fa) (pT (ay K fb) AG) Y H Q:=by obtain⟨O,U,m,d,U',hl,hs,e,k⟩:=h;obtain⟨⟨x,U1⟩,e1,e⟩:=AS.mp e;obtain⟨⟨y,U2⟩,e2,e⟩:=AS.mp e;obtain⟨a,hx⟩:=hg.str e;simp only at hx;subst hx;refine{O,U,m,_,U1,hl,hs,e1,λv H1 m1 x1 s1 r1=>?_};have r1':=r1;rwa[aq,ak] at r1';subst r1';refine{rfl,O,U1,m1,_,_,hl.ext x1,s1,e2,λu H2 m2 x2 s2 r2=>?_};exact hg.go s2 (r1.ext x2) r2 e λw H3 m3 x3 s3 r3=>k w H3 m3 ((x1.trans x2).trans x3) s3 r3
noncomputable def nt:T5 D->UE (Tn)
 |[]=>some []
 |.str x::r=>(nt r).bind λl=>some (x::l)
 |_=>none
theorem sj:∀{ds:T5 D} {ts:Tn} {vs:T5 V},nt ds=some ts->RelDs K H ds vs->vs=ts.map V.str
 |[],ts,vs,e,r=>by cases e;rwa[RelDs] at r;exact r
 |d::ds,ts,vs,e,r=>by
  cases d with
  |str x=>
   let⟨l,e1,e2⟩:=AS.mp e;cases e2;rwa[RelDs] at r;let⟨v,r',rfl,h1,h2⟩:=r;rwa[ak] at h1;rw[h1,sj e1 h2];rfl
  |non=>cases e
  |bl _=>cases e
  |int _=>cases e
  |tup _=>cases e
  |fl _=>cases e
  |fd _ _=>cases e
  |key _=>cases e
noncomputable def sJ:R->R->ac->UE (R×ac)
 |.v (.str a),y,U=>(jW y U).bind λds=>(nt ds).bind λts=>if JoinOk a ts=true then some (.v (.str (Txt.join a ts)),U) else none
 |_,_,_=>none
def My:Ud K sJ (JJ K) where
 str:=λ{x y U z} e=>by
  unfold sJ at e;split at e
  ·exact{_,rfl}
  ·cases e
 go:=λ{m H U x y d U' v u Q} s rx ry e k=>by
  unfold sJ at e;split at e
  ·rename_i a;let⟨ds,e1,e⟩:=AS.mp e;let⟨ts,e2,e⟩:=AS.mp e;split at e
   ·rename_i hok
    cases e;rwa[aq,ak] at rx;subst rx;let⟨p,vs,rfl,q,rr⟩:=iP s ry e1;rw[sj e2 rr] at q;exact{a,p,ts,rfl,rfl,q,hok,k _ H m .refl s (by rwa[aq,ak])}
   ·cases e
  ·cases e
end
end HW
namespace HS
open PyProof.Rows
def QS (xs:AD Keyed)(lo hi:Nat):Prop:=∀i j,lo<=i->i<=j->j<hi->K xs i<=K xs j
def pE (lo hi:Nat)(xs ys:AD Keyed):Prop:=∀k,¬ (lo<=k/\k<hi)->ys[k]?=xs[k]?
structure SB (a₀:Array Keyed)(st:SortSt):Prop where
 perm:(arrOf st).Perm a₀
 kind:kindOf st=oneType'
 ok:failedOf st=none
structure UG (a₀:Array Keyed)(lo hi:Nat)(st CI:SortSt):Prop where
 b:SB a₀ CI
 pend:pendingOf CI=pendingOf st
 out:pE lo hi (arrOf st) (arrOf CI)
section
def IK (xs:AD Keyed):Prop:=∀i,i<xs.size->∃t q,xs[i]?=some (.int (K xs i) t,q)
end
noncomputable def kk (p:Keyed):Int:=numOf p.1
def Le (x y:Keyed):Prop:=kk x<=kk y
structure Mg (A B Ozz:List Keyed)(ia ib:Nat):Prop where
 perm:(Ozz++A.drop ia++B.drop ib).Perm (A++B)
 srt:Ozz.Pairwise Le
 toA:∀x∈Ozz,∀y∈A.drop ia,Le x y
 toB:∀x∈Ozz,∀y∈B.drop ib,Le x y
 len:Ozz.length=ia+ib
structure T9 (st CI:SortSt):Prop where
 kind:kindOf CI=kindOf st
 arr:arrOf CI=arrOf st
 pend:pendingOf CI=pendingOf st
 ok:failedOf CI=failedOf st
section
structure UH (a b:Array Keyed):Prop where
 ka:IK a
 kb:IK b
 sa:QS a 0 a.size
 sb:QS b 0 b.size
 na:0<a.size
 nb:0<b.size
end
structure Mh (A B Ozz:List Keyed)(na nb:Nat):Prop where
 perm:(A.take na++B.take nb++Ozz).Perm (A++B)
 srt:Ozz.Pairwise Le
 toA:∀x∈A.take na,∀y∈Ozz,Le x y
 toB:∀x∈B.take nb,∀y∈Ozz,Le x y
structure Wb (xs ys:Array Keyed)(lo hi:Nat):Prop where
 perm:ys.Perm xs
 out:pE lo hi xs ys
 src:∀q,lo<=q->q<hi->∃r,lo<=r/\r<hi/\K ys q=K xs r
 srt:QS ys lo hi
def PY (xs:AD Keyed):T5 (Nat×Nat×Nat)->Nat->Nat->Prop
 |[],b,e=>b=e
 |(a,n,_)::r,b,e=>a=b/\0<n/\QS xs a (a+n)/\PY xs r (b+n) e
structure Sz (a₀:Array Keyed)(st:SortSt)(lo:Nat):Prop where
 b:SB a₀ st
 r:PY (arrOf st) (pendingOf st).toList 0 lo
open L2
end HS
namespace HW
open PyProof.Rows L2 HS
end HW
namespace HS
open PyProof.Rows
end HS
namespace HW
open PyProof.Rows L2 HS
end HW
namespace HW
open PyProof.Rows L2
def KR (K:AP)(m:Tf)(H:Hp)(A6:T5 (aI×R))(es:T5 (aI×V)):Prop:=es.map (·.1)=A6.map (·.1)/\aW K m H (A6.map (·.2)) (es.map (·.2))
noncomputable def mB (A6:T5 (aI×R))(k:aI):UE R:=(A6.find? λkv=>decide (kv.1=k)).map (·.2)
section
variable {K:AP}{m:Tf}{H:Hp}
def KR.cons {k k':aI}{d:R}{v:V}{A6:T5 (aI×R)}{es:T5 (aI×V)}:KR K m H ((k,d)::A6) ((k',v)::es) ↔ k'=k/\aq K m H d v/\KR K m H A6 es:=by
 constructor
 ·rintro⟨h1,h2⟩;rwa[AZ,List.cons.injEq] at h1;let⟨w,r,e,h3,h4⟩:=h2;rwa[AZ,List.cons.injEq] at e;let⟨rfl,rfl⟩:=e;exact{h1.1,h3,h1.2,h4}
 ·rintro⟨rfl,h1,h2,h3⟩;exact{by simp[h2],{_,_,rfl,h1,h3}}
theorem KR.val:∀{A6:T5 (aI×R)} {es:T5 (aI×V)} (k:aI),KR K m H A6 es->(mB A6 k=none/\c9 es k=none)\/∃d v,mB A6 k=some d/\c9 es k=some v/\aq K m H d v
 |[],es,k,h=>by
  have:es=[]:=by simpa using h.1
  subst this;exact .inl {rfl,rfl}
 |(a,d)::A6,[],k,h=>by have:=h.1;simp at this
 |(a,d)::A6,(b,v)::es,k,h=>by
  let⟨rfl,h1,h2⟩:=KR.cons.mp h;by_cases e:b=k
  ·refine .inr {d,v,?_,?_,h1}
   ·simp[mB,e]
   ·simp[c9,e]
  ·have ih:=KR.val k h2;have e1:mB ((b,d)::A6) k=mB A6 k:=(by simp[mB,e]);have e2:c9 ((b,v)::es) k=c9 es k:=iZ e;rw[e1,e2];exact ih
end
noncomputable def ur (x:R)(U:ac):UE (T5 (aI×R)):=match x with
 |.v (.fd ks ds)=>if ks.length=ds.length then some (ks.zip (ds.map R.v)) else none
 |.p n=>match U[n]? with|some (.dct A6)=>some (A6.map λp=>(p.1,R.v p.2))|some (.fzd A6)=>some (A6.map λp=>(p.1,R.v p.2))|some (.dr A6)=>some A6|some (.fzr A6)=>some A6|_=>none
 |_=>none
theorem o9 {K:AP}{m:Tf}{H:Hp}:∀{ds:T5 D} {vs:T5 V},RelDs K H ds vs->aW K m H (ds.map R.v) vs
 |[],_,h=>h
 |_::_,_,⟨v,r,e,h1,h2⟩=>{v,r,e,h1,o9 h2}
def JGz {K:AP}{m:Tf}{H:Hp}{U:ac}{x:R}{v:V}{A6:T5 (aI×R)}(s:aP K m H U)(r:aq K m H x v)(e:ur x U=some A6):∃a es,v=.ref a/\Rd H a (.dK es)/\KR K m H A6 es:=by
 unfold ur at e;split at e
 ·rename_i ks ds;split at e
  ·rename_i hl
   cases e;rwa[aq,ak] at r;let⟨a,o,es,rfl,ea,e1,e2⟩:=r;refine{a,es,rfl,.inr {o,ea},?_,?_}
   ·rw[List.map_fst_zip (by simp[hl]),e1]
   ·rw[List.map_snd_zip (by simp[hl])];exact o9 e2
  ·cases e
 ·rename_i n;let⟨a,rfl,ha⟩:=r;split at e
  ·rename_i kv q
   cases e;let⟨es,ea,e1,e2⟩:=s.cell _ _ a q ha;refine{a,es,rfl,.inl ea,by simp[e1,Function.comp_def],?_};have:=o9 (m:=m) e2;simpa[Function.comp_def] using this
  ·rename_i kv q
   cases e;let⟨o,es,ea,e1,e2⟩:=s.cell _ _ a q ha;refine{a,es,rfl,.inr {o,ea},by simp[e1,Function.comp_def],?_};have:=o9 (m:=m) e2;simpa[Function.comp_def] using this
  ·rename_i kv q
   cases e;let⟨es,ea,e1,e2⟩:=s.cell _ _ a q ha;exact{a,es,rfl,.inl ea,e1,e2}
  ·rename_i kv q
   cases e;let⟨o,es,ea,e1,e2⟩:=s.cell _ _ a q ha;exact{a,es,rfl,.inr {o,ea},e1,e2}
  ·cases e
 ·cases e
noncomputable def wH (fo fk:FE):FE:=λO U=>(fo O U).bind λo=>(fk O o.2).bind λk=>(ur o.1 k.2).bind λA6=>(lH k.1).bind λkey=>(mB A6 key).bind λr=>some (r,k.2)
def Lf {K:AP}{H:Hp}{Q:VK}{fo fk}(h:ay K (wH fo fk) Y H Q):Cq (ay K fo) (ay K fk) Y H Q:=by
 let⟨O,U,m,d,U',hl,hs,e,kk⟩:=h;let⟨⟨o,U1⟩,e1,e⟩:=AS.mp e;let⟨⟨k,U2⟩,e2,e⟩:=AS.mp e;let⟨A6,e4,e⟩:=AS.mp e;let⟨key,e5,e⟩:=AS.mp e;let⟨r,e6,e⟩:=AS.mp e;cases e;refine{O,U,m,o,U1,hl,hs,e1,λvo H1 m1 x1 s1 r1=>?_};refine{O,U1,m1,k,U2,hl.ext x1,s1,e2,λvk H2 m2 x2 s2 r2=>?_};let⟨a,es,rfl,hR,hK⟩:=JGz s2 (r1.ext x2) e4;have hk:=zV r2 e5;rcases KR.val key hK with⟨n1,n2⟩|⟨dd,vv,n1,n2,n3⟩
 ·rw[n1] at e6;cases e6
 ·rw[n1] at e6;cases e6;exact{a,vv,rfl,.inl {es,key,hR,hk,n2.symm},kk _ H2 m2 (x1.trans x2) s2 n3}
end HW
namespace DK
open PySem.W PyProof.Rows
section
variable {r:Nat->Int}{n:Nat}{s:A1}{cmp:Nat->Nat->(A8->A1->Prop)->A1->Prop}
abbrev key (r:Nat->Int)(p:AD Nat)(k:Nat):Int:=r (p.getD k 0)
def Up (r:Nat->Int)(p:AD Nat)(a:Nat):Prop:=∀i j,i<j->j<a->key r p i<key r p j
def Dn (r:Nat->Int)(p:AD Nat)(a:Nat):Prop:=∀i j,i<j->j<a->key r p j<key r p i
structure Pm (n:Nat)(p:Array Nat):Prop where
 pm:p.toList.Perm (List.range n)
def Pm.size {p:AD Nat}(h:Pm n p):p.size=n:=by have:=h.pm.length_eq;simpa using this
def Pm.lt {p:AD Nat}(h:Pm n p){k:Nat}(hk:k<n):p.getD k 0<n:=by
 have hs:=h.size;have hm:p.getD k 0∈p.toList:=by have:p[k]?=some p[k]:=CB ∅;rw[HI,this,zb6];simp
 have:=h.pm.mem_iff.mp hm;simpa using this
def Pm.inj {p:AD Nat}(h:Pm n p){i j:Nat}(hi:i<n)(hj:j<n)(e:p.getD i 0=p.getD j 0):i=j:=by
 have hs:=h.size;have nd:p.toList.Nodup:=h.pm.nodup_iff.mpr zc9;have ei:p[i]?=some p[i]:=CB ∅;have ej:p[j]?=some p[j]:=CB ∅;rw[HI,HI,ei,ej,zb6,zb6] at e;have e':p.toList[i]'(by simpa using(by omega:i<p.size))=p.toList[j]'(by simpa using(by omega:j<p.size)):=by simpa using e
 exact(zbP nd).mp e'
structure Rk (r:Nat->Int)(n:Nat)(s:Shared)(cmp:Nat->Nat->(Bool->Shared->Prop)->Shared->Prop):Prop where
 inj:∀i j,i<n->j<n->r i=r j->i=j
 ask:∀i j,i<n->j<n->∀C:Bool->Shared->Prop,C (decide (r i<r j)) s->cmp i j C s
def Rk.ne (R:Rk r n s cmp){p:AD Nat}(h:Pm n p){i j:Nat}(hi:i<n)(hj:j<n)(ne:i≠j):key r p i≠key r p j:=λe=>ne (h.inj hi hj (R.inj _ _ (h.lt hi) (h.lt hj) e))
theorem yO (R:Rk r n s cmp){p:AD Nat}(h:Pm n p){Q:Nat->A1->Prop}:∀(f a:Nat),1<=a->a+f<=n->Up r p a->(∀m,a<=m->m<=a+f->Up r p m->(m=a+f\/key r p m<key r p (m-1))->Q m s)->(kas_asc p f a).kasWp cmp Q s
 |0,a,_,_,hu,k=>k a (B3 _) (B3 _) hu (.inl rfl)
 |f+1,a,h1,h2,hu,k=>by
  refine R.ask _ _ (h.lt ∅) (h.lt ∅) _ ?_;by_cases hc:key r p a<key r p (a-1)
  ·have hd:decide (r (p.getD a 0)<r (p.getD (a-1) 0))=true:=Bs hc;rw[hd];exact k a (B3 _) ∅ hu (.inr hc)
  ·have hd:decide (r (p.getD a 0)<r (p.getD (a-1) 0))=false:=Bf hc;rw[hd];have BC:=R.ne h (show a<n by omega) (show a-1<n by omega) ∅;refine yO R h f (a+1) ∅ ∅ (λi j E2 hj=>?_) λm m1 m2 m3 m4=>k m ∅ ∅ m3 (by rcases m4 with q|q;exact .inl ∅;exact .inr q);by_cases hja:j=a
   ·subst hja;have:key r p i<=key r p (j-1):=by
     by_cases hi:i=j-1
     ·rw[hi];exact Int.le_refl _
     ·exact Int.le_of_lt (hu i (j-1) ∅ ∅)
    omega
   ·exact hu i j E2 ∅
theorem Am (R:Rk r n s cmp){p:AD Nat}(h:Pm n p){Q:AD Nat×Nat×Nat->A1->Prop}:∀(f a:Nat),1<=a->a+f<=n->Dn r p a->(∀m,a<=m->m<=a+f->Dn r p m->Q (p,m,0) s)->(kas_desc f p a 0).kasWp cmp Q s
 |0,a,_,_,hu,k=>k a (B3 _) (B3 _) hu
 |f+1,a,h1,h2,hu,k=>by
  refine R.ask _ _ (h.lt ∅) (h.lt ∅) _ ?_;have BC:=R.ne h (show a<n by omega) (show a-1<n by omega) ∅;by_cases hc:key r p a<key r p (a-1)
  ·have hd:decide (r (p.getD a 0)<r (p.getD (a-1) 0))=true:=Bs hc;rw[hd];refine Am R h f (a+1) ∅ ∅ (λi j E2 hj=>?_) λm m1 m2 m3=>k m ∅ ∅ m3;by_cases hja:j=a
   ·subst hja;have:key r p (j-1)<=key r p i:=by
     by_cases hi:i=j-1
     ·rw[hi];exact Int.le_refl _
     ·exact Int.le_of_lt (hu i (j-1) ∅ ∅)
    omega
   ·exact hu i j E2 ∅
  ·have hd:decide (r (p.getD a 0)<r (p.getD (a-1) 0))=false:=Bf hc;rw[hd];refine R.ask _ _ (h.lt ∅) (h.lt ∅) _ ?_;have hd2:decide (r (p.getD (a-1) 0)<r (p.getD a 0))=true:=Bs (show key r p (a-1)<key r p a by omega);rw[hd2];exact k a (B3 _) ∅ hu
def CT {p:AD Nat}(h:Pm n p){m k:Nat}(hm:m<=n)(hk:k<m):(kas_rev p 0 m).getD k 0=p.getD (m-1-k) 0:=by
 have hs:=h.size;have:=getElem?_mirror_all (xs:=p) (i:=0) (j:=m) ∅ k;rw[A7 ∅] at this
 unfold kas_rev;rw[HI,this,HI];congr 2;omega
def KJ {p:AD Nat}(h:Pm n p){m:Nat}:Pm n (kas_rev p 0 m):=⟨(Array.perm_iff_toList_perm.mp (mirror_perm p 0 m _)).trans h.pm⟩
def JCn (R:Rk r n s cmp){p:AD Nat}(h:Pm n p){Q:Nat×AD Nat->A1->Prop}{a:Nat}(h1:1<=a)(h2:a<=n)(hd:Dn r p a)(k:∀m p',Pm n p'->Up r p' m->1<=m->m<=n->Q (m,p') s):(kas_tail3 a n p).kasWp cmp Q s:=by unfold kas_tail3;rw[KasT.kasWp_bind];have hr:=KJ h (m:=a);refine yO R hr (n-a) a h1 ∅ (λi j E2 hj=>?_) λm m1 m2 m3 _=>k m _ hr m3 ∅ ∅;unfold key;rw[CT h h2 ∅,CT h h2 ∅];exact hd (a-1-j) (a-1-i) ∅ ∅
def JEt (R:Rk r n s cmp){p:AD Nat}(h:Pm n p)(hn:1<=n){Q:Nat×AD Nat->A1->Prop}(k:∀m p',Pm n p'->Up r p' m->1<=m->m<=n->Q (m,p') s):(kas_count n p).kasWp cmp Q s:=by
 unfold kas_count;rw[KasT.kasWp_bind];refine yO R h (n-1) 1 (B3 _) ∅ (λi j E2 hj=>by omega) λm m1 m2 m3 m4=>?_;by_cases hm:m=n
 ·subst hm;rw[A7 ∅];exact k m p h m3 hn (B3 _)
 ·rw[A5 ‹hm›];by_cases hm1:m>1
  ·rw[A7 hm1];refine R.ask _ _ (h.lt ∅) (h.lt ∅) _ ?_;have hd:decide (r (p.getD 0 0)<r (p.getD (m-1) 0))=true:=Bs (m3 0 (m-1) ∅ ∅);rw[hd];exact k m p h m3 ∅ ∅
  ·rw[A5 hm1];have F2:m=1:=∅;subst F2;have An:key r p 1<key r p 0:=by
    rcases m4 with q|q
    ·omega
    ·exact q
   unfold kas_descPart;rw[KasT.kasWp_bind];refine Am R h (n-(1+1)) (1+1) ∅ ∅ (λi j E2 hj=>?_) λm' q1 q2 q3=>?_
   ·have hj1:j=1:=by omega
    have hi0:i=0:=∅;subst hj1 hi0;exact An
   ·show KasT.kasWp cmp (if (0:Nat)>0 then _ else _) Q s
    rw[A5 ∅];exact JCn R h (show 1<=m' by omega) (show m'<=n by omega) q3 k
theorem qk (R:Rk r n s cmp){p:AD Nat}(h:Pm n p){Q:Nat->A1->Prop}{k:Nat}(hk:k<n):∀(f l u:Nat),l<=u->u<=k->u-l<=f->(∀i<l,key r p i<key r p k)->(∀i,u<=i->i<k->key r p k<key r p i)->Up r p k ->
  (∀x,x<=k->(∀i<x,key r p i<key r p k)->(∀i,x<=i->i<k->key r p k<key r p i)->Q x s)->(kas_place p k f l u).kasWp cmp Q s
 |0,l,u,h1,h2,h3,hl,hu,_,kk=>kk l ∅ hl (λi h4 h5=>hu i ∅ h5)
 |f+1,l,u,h1,h2,h3,hl,hu,up,kk=>by
  unfold kas_place
  by_cases hlu:l >= u
  ·rw[A7 hlu]
   exact kk l ∅ hl (λi h4 h5=>hu i ∅ h5)
  ·rw[A5 hlu]
   refine R.ask _ _ (h.lt hk) (h.lt ∅) _ ?_;have BC:=R.ne h hk (show(l+u) / 2<n by omega) ∅
   by_cases hc:key r p k<key r p ((l+u) / 2)
   ·have hd:decide (r (p.getD k 0)<r (p.getD ((l+u) / 2) 0))=true:=Bs hc
    rw[hd];refine qk R h hk f l ((l+u) / 2) ∅ ∅ ∅ hl (λi h4 h5=>?_) up kk
    by_cases hi:i=(l+u) / 2
    ·rw[hi];exact hc
    ·have:=up ((l+u) / 2) i ∅ h5
     omega
   ·have hd:decide (r (p.getD k 0)<r (p.getD ((l+u) / 2) 0))=false:=Bf hc
    rw[hd];refine qk R h hk f ((l+u) / 2+1) u ∅ h2 ∅ (λi hi=>?_) hu up kk
    by_cases Cm:i=(l+u) / 2
    ·rw[Cm];omega
    ·have:=up i ((l+u) / 2) ∅ ∅
     omega
def MX {p:AD Nat}(h:Pm n p){k l i:Nat}(hk:k<n)(hl:l<=k):(bubble p k (k-l)).getD i 0=if i=l then p.getD k 0 else if l<i/\i<=k then p.getD (i-1) 0 else p.getD i 0:=by
 have hs:=h.size;have:=getElem?_bubble (xs:=p) (src:=k) ∅ (k-l) ∅ i;rw[show k-(k-l)=l by omega] at this
 rwa[HI];rw[this];split
 ·rfl
 ·split <;> rfl
theorem Fp (R:Rk r n s cmp){Q:AD Nat->A1->Prop}:∀(f:Nat) (p:AD Nat) (k:Nat),Pm n p->Up r p k->k+f=n->(∀p',Pm n p'->Up r p' n->Q p' s)->(kas_bin f p k).kasWp cmp Q s
 |0,p,k,h,hu,hk,kk=>kk p h (by rw[←hk];exact hu)
 |f+1,p,k,h,hu,hk,kk=>by
  unfold kas_bin;rw[KasT.kasWp_bind];refine qk R h ∅ k 0 k ∅ (B3 _) ∅ (λi hi=>by omega) (λi h4 h5=>by omega) hu λl l1 l2 l3=>?_;refine Fp R f (bubble p k (k-l)) (k+1) ⟨(Array.perm_iff_toList_perm.mp (bubble_perm p k _)).trans h.pm⟩ (λi j E2 hj=>?_) ∅ kk;have b:=λi=>MX h (k:=k) (l:=l) (i:=i) ∅ l1
  show r _<r _
  rw[b i,b j];by_cases hi:i=l
  ·rw[A7 hi,A5 ∅,A7 ∅];exact l3 (j-1) ∅ ∅
  ·rw[A5 hi];by_cases hj':j=l
   ·rw[A7 hj',A5 ∅];exact l2 i ∅
   ·rw[A5 hj'];by_cases h6:l<i/\i<=k
    ·rw[A7 h6,A7 ∅];exact hu (i-1) (j-1) ∅ ∅
    ·rw[A5 h6];by_cases h7:l<j/\j<=k
     ·rw[A7 h7];by_cases h8:i=j-1
      ·omega
      ·exact hu i (j-1) ∅ ∅
     ·rw[A5 h7];exact hu i j E2 ∅
def Gc (R:Rk r n s cmp)(hn:1<=n){Q:AD Nat->A1->Prop}(k:∀p,Pm n p->Up r p n->Q p s):(kas_sort n).kasWp cmp Q s:=by
 unfold kas_sort;rw[KasT.kasWp_bind];refine JEt R (p:=(List.range n).toArray) ⟨by simp⟩ hn λm p h hu h1 h2=>?_
 show KasT.kasWp cmp (if m<n then kas_bin (n-max m 1) p (max m 1) else .ret p) Q s
 rw[Nat.max_eq_left h1];by_cases hm:m<n
 ·rw[A7 hm];exact Fp R (n-m) p m h hu ∅ k
 ·rw[A5 hm];have:m=n:=by omega
  subst this;exact k p h hu
end
noncomputable def jy:T5 Int->T5 Int->A8
 |[],[]=>false
 |[],_::_=>true
 |_::_,[]=>false
 |x::xs,y::ys=>if x=y then jy xs ys else decide (x<y)
theorem iu:∀a,jy a a=false
 |[]=>rfl
 |x::xs=>by simp[jy,iu xs]
theorem pw:∀a b,jy a b=true\/a=b\/jy b a=true
 |[],[]=>.inr (.inl rfl)
 |[],_::_=>.inl rfl
 |_::_,[]=>.inr (.inr rfl)
 |x::xs,y::ys=>by
  by_cases e:x=y
  ·subst e;rcases pw xs ys with h|h|h
   ·exact .inl (by simp[jy,h])
   ·exact .inr (.inl (by rw[h]))
   ·exact .inr (.inr (by simp[jy,h]))
  ·by_cases hl:x<y
   ·exact .inl (by simp[jy,e,hl])
   ·exact .inr (.inr (by simp[jy,Ne.symm e];omega))
theorem gP:∀a b c,jy a b=true->jy b c=true->jy a c=true
 |[],[],_,h,_=>by cases h
 |[],_::_,[],_,h=>by cases h
 |[],_::_,_::_,_,_=>rfl
 |_::_,[],_,h,_=>by cases h
 |_::_,_::_,[],_,h=>by cases h
 |x::xs,y::ys,z::zs,h,g=>by
  rwa[jy] at h g ⊢;by_cases e1:x=y
  ·subst e1;rw[A7 rfl] at h;by_cases e2:x=z
   ·subst e2;rw[A7 rfl] at g ⊢;exact gP xs ys zs h g
   ·rw[A5 e2] at g ⊢;exact g
  ·rw[A5 e1] at h;have h1:x<y:=of_decide_eq_true h;by_cases e2:y=z
   ·subst e2;rw[A5 e1];exact h
   ·rw[A5 e2] at g;have h2:y<z:=of_decide_eq_true g;rw[A5 ∅];exact Bs ∅
noncomputable def oR (L:Ta)(i:Nat):Int:=((L.filter λk=>jy k (L.getD i [])).length:Nat)
theorem sV {L:Ta}{a b:Th}(h:jy a b=true)(hm:a∈L):(L.filter λk=>jy k a).length<(L.filter λk=>jy k b).length:=by
 have sub:∀M:Ta,(M.filter λk=>jy k a).length<=(M.filter λk=>jy k b).length:=λM=>by
  induction M with
  |nil=>simp
  |cons x xs ih=>
   rwa[zbS]
   cases hx:jy x a with
   |true=>rw[gP x a b hx h];simp;exact ih
   |false=>cases jy x b <;> simp <;> omega
 induction L with
 |nil=>simp at hm
 |cons x xs ih=>
  rwa[zbS];rcases BA.mp hm with rfl|hm
  ·rw[iu,h];have:=sub xs;simp;omega
  ·have:=ih hm
   cases hx:jy x a with
   |true=>rw[gP x a b hx h];simp;exact this
   |false=>cases jy x b <;> simp <;> omega
def wz {L:Ta}{i:Nat}(h:i<L.length):L.getD i []∈L:=by rw[HH,Bl h,zb6];exact HF h
def pd {L:Ta}{i j:Nat}(hi:i<L.length)(hj:j<L.length):decide (oR L i<oR L j)=jy (L.getD i []) (L.getD j []):=by
 rcases pw (L.getD i []) (L.getD j []) with h|h|h
 ·rw[h];refine Bs ?_;have:=sV h (wz hi);unfold oR;omega
 ·have hr:oR L i=oR L j:=by unfold oR;rw[h]
  rw[hr,h,iu];exact Bf ∅
 ·have:=sV h (wz hj);have hn:jy (L.getD i []) (L.getD j [])=false:=by
   cases q:jy (L.getD i []) (L.getD j []) with
   |false=>rfl
   |true=>have:=gP _ _ _ q h;rw[iu] at this;cases this
  rw[hn];refine Bf ?_;unfold oR;omega
def JB6 {L:Ta}(nd:L.Nodup){i j:Nat}(hi:i<L.length)(hj:j<L.length)(e:oR L i=oR L j):i=j:=by
 have h1:=pd hi hj;have h2:=pd hj hi;rw[Bf ∅] at h1 h2;rcases pw (L.getD i []) (L.getD j []) with h|h|h
 ·rw[h] at h1;cases h1
 ·rwa[HH,Bl hi,Bl hj,zb6] at h;exact(zbP nd).mp h
 ·rw[h] at h2;cases h2
section
variable {prog:A9}{w:AM}{A:AL}{E:Tb}{s:A1}
def JCv {b:A8}{Q:A8->A1->Prop}:∀{xs ys:Te} {ns ms:Th} (i:Nat),IntsAre xs ns->IntsAre ys ms->Q (jy ns ms) s->KatLex prog w A b (decide (xs.length<ys.length)) Q (xs.zip ys) i s:=by
  intro xs ys ns ms i r;induction r generalizing ys ms i with
  |nil=>intro q h;cases q <;> exact h
  |cons n t r ih=>
   rename_i xs ns;intro q h
   cases q with
   |nil=>exact h
   |cons m u q=>
    rename_i ys ms
    show KatLex prog w A b _ Q ((.int n t,.int m u)::xs.zip ys) i s
    refine kat_cons (wpAny_eqBool_int ?_);by_cases e:n=m
    · subst e
      rw[zcs];refine kat_yes ?_;have hd:decide ((Value.int n t::xs).length<(Value.int n u::ys).length)=decide (xs.length<ys.length):=∅;rw[hd];exact ih (i+1) q (by simpa[jy] using h)
    · rw[show(n == m)=false by simpa using e]
      refine kat_no ?_;have h':Q (decide (n<m)) s:=by simpa[jy,e] using h
      cases(b&&i == 0) with
      |true=>exact oneLt_int h'
      |false=>first|exact kat_one _ _ (lt_int h')|exact kat_one _ _ (lt_int (boolBack_bool h'))
def aY (h:AI):T5 A3->T5 (Th)->Prop
 |[],[]=>True
 |v::vs,L::Ls=>(∃a o its n,v=.ref a/\h.get? a=some o/\o.cls=.type "tuple"/\o.data=.seq its n/\IntsAre its.toList L)/\aY h vs Ls
 |_,_=>False
theorem aY.len {h:AI}:∀{vs:Te} {L:Ta},aY h vs L->vs.length=L.length
 |[],[],_=>rfl
 |[],_::_,h=>h.elim
 |_::_,[],h=>h.elim
 |_::vs,_::L,h=>by simp[aY.len h.2]
theorem aY.at {h:AI}:∀{vs:Te} {L:Ta},aY h vs L->∀i,i<L.length->∃a o its n,vs.getD i .none=.ref a/\h.get? a=some o/\o.cls=.type "tuple"/\o.data=.seq its n/\IntsAre its.toList (L.getD i [])
 |[],[],_,i,hi=>by simp at hi
 |[],_::_,h,_,_=>h.elim
 |_::_,[],h,_,_=>h.elim
 |v::vs,x::L,h,0,_=>h.1
 |v::vs,x::L,h,i+1,hi=>aY.at h.2 i ‹hi›
theorem aY.keep {h h':AI}(k:∀b o,h.get? b=some o->h'.get? b=some o):∀{vs:Te} {L:Ta},aY h vs L->aY h' vs L
 |[],[],_=>trivial
 |[],_::_,h=>h.elim
 |_::_,[],h=>h.elim
 |_::vs,_::L,h=>by let⟨⟨a,o,its,n,e,g,r⟩,t⟩:=h;exact{{a,o,its,n,e,k _ _ g,r},aY.keep k t}
theorem aY.keepNe {h h':AI}{a:A4}(k:∀b o,h.get? b=some o->b≠a->h'.get? b=some o):∀{vs:Te} {L:Ta},aY h vs L->(∀v∈vs,v≠.ref a)->aY h' vs L
 |[],[],_,_=>trivial
 |[],_::_,h,_=>h.elim
 |_::_,[],h,_=>h.elim
 |v::vs,_::L,h,hn=>by let⟨⟨b,o,its,n,e,g,r⟩,t⟩:=h;exact{{b,o,its,n,e,k _ _ g λz=>hn v ∅ (by rw[e,z]),r},aY.keepNe k t λu hu=>hn u (by simp[hu])}
theorem aY.firsts {h:AI}:∀{vs:Te} {L:Ta},aY h vs L->(∀x∈L,x≠[])->∃fs,KatTups h vs fs/\fs.length=L.length/\∀f∈fs,∃n t,f=.int n t
 |[],[],_,_=>{[],trivial,rfl,by simp}
 |[],_::_,h,_=>h.elim
 |_::_,[],h,_=>h.elim
 |v::vs,x::L,h,hn=>by
  let⟨⟨a,o,its,n,e,g,c,d,r⟩,t⟩:=h;let⟨fs,q1,q2,q3⟩:=aY.firsts t λy hy=>hn y (by simp[hy]);have hx:=hn x ∅;generalize hits:its.toList=il at r
  cases r with
  |nil=>exact AJ rfl hx
  |cons m tk r'=>
   have h0:its[0]?=some (.int m tk):=(by rw[←GU,hits];rfl);exact{.int m tk::fs,by subst e;exact KatTups.cons g c d h0 q1,by simp[q2],λf hf=>by
    rcases BA.mp hf with rfl|hf
    ·exact{m,tk,rfl}
    ·exact q3 f hf}
def p9 {Z:Type}:∀(l:T5 Z) (d:Z),l=(List.range l.length).map λi=>l.getD i d:=λl d=>by refine zcM ∅ λk h1 h2=>?_;rwa[Gz,zc3];rw[HH,Bl h1];rfl
def su {a:A4}{vs:Te}{L:Ta}{n:Nat}{P:PySem.Fin->A1->Prop}(ho:s.heap.get? a=some (seqObj "list" vs.toArray n))(hT:aY s.heap vs L)(nd:L.Nodup)(CJ:L.length<64)(BC:2<=L.length->∀x∈L,x≠[])
  (hna:∀v∈vs,v≠.ref a)
  (h:∀(out:Ti) (L':Ta),(∃is:T5 Nat,out.toList=is.map (λi=>vs.getD i .none)/\L'=is.map (λi=>L.getD i [])/\∀i∈is,i<L.length)->L'.Perm L->L'.Pairwise (λx y=>jy x y=true)->P (.done (.ret .none)) {s with heap:=sortedHeap s.heap a vs out}):wpAny (model prog w) A (Builtin.«list.sort» {[.ref a],[]}) P E s:=by
 have hl:=hT.len;rw[list_sort_plain];have ha:a<s.heap.objs.size:=B4 ho
 have hz:vs.length<=sizeLine:=by rw[CK];omega
 refine AB (listItems_at ho rfl (AB (listUpdate_at ho rfl ?_ ‹hz› ∅)));obtain⟨c1,o1⟩:∃c1,(s.heap.update a (Obj.mapSeq λ_=>#[])).get? a=some (seqObj "list" #[] c1):={_,get?_update_seq ho (λ_=>#[])};refine AB (seqEpoch_at o1 rfl (AB (wpAny_newTuple (AB (zc4 (Bg ?_) (Cy _))) ‹hz›)))
 have o6:(((s.heap.update a (Obj.mapSeq λ_=>#[])).push (seqObj "tuple" vs.toArray 0)).push (seqObj "list" #[] 0)).get? a=some (seqObj "list" #[] c1):=by
  rw[Heap.get?_push_ne _ _ _ (by rw[size_push',zda];exact BG (zbL ha)),Heap.get?_push_ne _ _ _ (by rw[zda];exact BG ha)];exact o1
 show wpAny (model prog w) A _ P E {s with heap:=((s.heap.update a (Obj.mapSeq λ_=>#[])).push (seqObj "tuple" vs.toArray 0)).push (seqObj "list" #[] 0)}
 dsimp only
 by_cases h2:vs.toArray.size<2
 ·rw[A7 h2,A7 h2]
  refine AB (AN (AB (AN ?_)));dsimp only
  have hm:Array.map (λx=>x.snd) (arrOf (SortSt.mk' general' (vs.toArray.zip vs.toArray) #[] 7 none))=vs.toArray:=by
   show Array.map (λx=>x.snd) (vs.toArray.zip vs.toArray)=vs.toArray
   apply Array.ext
   ·simp
   ·intro i h1 h3;simp
  rw[hm];refine AB (seqEpoch_at o6 rfl (AB (listUpdate_at o6 rfl ?_ ∅ (by rw[Bd];omega))))
  show wpAny (model prog w) A (if (c1 != c1)=true then _ else _) P E _
  rwa[bne_self_eq_false,Bc,if_false];refine AN (h vs.toArray L {List.range L.length,by rw[←hl];simpa using p9 vs .none,p9 L [],λi hi=>by simpa using hi} (List.Perm.refl _) ?_)
  have:L.length<2:=by simp at h2;omega
  match L,this with
  |[],_=>exact .nil
  |[x],_=>simp
 ·rw[A5 h2,A5 h2]
  have hb2:2<=L.length:=by simp at h2;omega
  have keep:∀b o,s.heap.get? b=some o->b≠a->(((s.heap.update a (Obj.mapSeq λ_=>#[])).push (seqObj "tuple" vs.toArray 0)).push (seqObj "list" #[] 0)).get? b=some o:=λb o e ne=>
   AY _ (AY _ (by rw[CV _ _ (Ne.symm ne)];exact e))
  have hT1:aY (((s.heap.update a (Obj.mapSeq λ_=>#[])).push (seqObj "tuple" vs.toArray 0)).push (seqObj "list" #[] 0)) vs L:=hT.keepNe keep hna;obtain⟨fs,q1,q2,q3⟩:=hT1.firsts (BC hb2);refine AB (kat_kind (T:=.type "int") q1 ∅ (λv hv=>?_) ∅ ?_)
  ·let⟨m,tk,rfl⟩:=q3 v hv
   exact .now
  refine AB (Dt (kat_run (ks:=vs) (vs:=vs) (Q:=λCI s'=>∃p:AD Nat,p.size=vs.length/\arrOf CI=p.map (kas_item (vs.toArray.zip vs.toArray))/\failedOf CI=none/\s'={s with heap:=((s.heap.update a (Obj.mapSeq λ_=>#[])).push (seqObj "tuple" vs.toArray 0)).push (seqObj "list" #[] 0)}/\Pm L.length p/\Up (oR L) p L.length)
   (G:=λp s'=>s'={s with heap:=((s.heap.update a (Obj.mapSeq λ_=>#[])).push (seqObj "tuple" vs.toArray 0)).push (seqObj "list" #[] 0)}/\Pm L.length p/\Up (oR L) p L.length)
   rfl ∅ ∅ (λp' CI s' a1 a2 a3 a4=>{p',a1,a2,a3,a4}) ?_) ?_ λ_ _ e=>e)
  ·rw[hl]
   refine Gc (r:=oR L) (n:=L.length) {λi j hi hj e=>JB6 nd hi hj e,λi j hi hj C hC=>?_} ∅ λp hp hu=>{rfl,hp,hu};obtain⟨x,ox,ix,nx,e1,e2,e3,e4,e5⟩:=hT1.at i hi;obtain⟨y,oy,iy,ny,f1,f2,f3,f4,f5⟩:=hT1.at j hj;unfold kas_ask;rw[e1,f1];refine kat_lt e2 e4 f2 f4 ?_;rw[pd hi hj] at hC;have:=JCv (prog:=prog) (w:=w) (A:=A) (b:=(Value.type "int" != Value.type "tuple")) 0 e5 f5 hC;simpa using this
  ·rintro⟨⟨⟩,CI⟩ s' ⟨p,hp,har,hf,rfl,Ge,hup⟩
   dsimp only;have Ii:=kat_snds (ks:=vs) (vs:=vs) rfl har;rw[Ii]
   have hsz:(List.toArray (p.toList.map λi=>vs.getD i Value.none)).size<=sizeLine+1:=by rw[Bd,Az,DS,hp];omega
   refine AB (seqEpoch_at o6 rfl (AB (listUpdate_at o6 rfl ?_ ∅ hsz)));rw[hf];rwa[bne_self_eq_false,Bc,if_false]
   have An:∀i∈p.toList,i<L.length:=λi hi=>by have:=Ge.pm.mem_iff.mp hi;simpa using this
   refine AN (h _ (p.toList.map λi=>L.getD i []) {p.toList,by simp,rfl,An} ?_ ?_)
   ·have:=Ge.pm.map λi=>L.getD i []
    refine this.trans (List.Perm.of_eq ?_);refine zcM ∅ λk h1 h2=>?_;rwa[Gz,zc3];rw[HH,Bl ‹h1›];rfl
   ·rw[GR,zbt]
    intro i j hi hj E2;have hsz2:=Ge.size
    have Cm:i<p.size:=by simpa using hi
    have hj':j<p.size:=by simpa using hj
    have hk:=hup i j E2 ∅;unfold key at hk
    have gi:p.getD i 0=p[i]:=by rw[HI,CB Cm];rfl
    have gj:p.getD j 0=p[j]:=by rw[HI,CB hj'];rfl
    rw[gi,gj] at hk;have:=pd (L:=L) (i:=p[i]) (j:=p[j]) (An _ ∅) (An _ ∅)
    rw[Bs hk] at this
    simpa using this.symm
end
end DK
namespace HK
open PyProof.Rows L2
def DE (h:AI)(d:A4)(es:AD DictEntry)(ep:Nat):Prop:=∃ob,h.get? d=some ob/\ob.ExactDict/\ob.data=.dict es ep
section
variable {prog:A9}{w:AM}{A:AL}{E:Tb}{s:A1}{d it:A4}{es:AD DictEntry}{ep i:Nat}
def DE.ty (m:DE s.heap d es ep):s.TypeIs (.ref d) "dict":=let ⟨ob,g,x,_⟩:=m;{ob,g,x.1}
def DE.at {h h':AI}(m:DE h d es ep)(k:∀ob,h.get? d=some ob->h'.get? d=some ob):DE h' d es ep:=let ⟨ob,g,r⟩:=m;{ob,k _ g,r}
def O1z {Q:Tb}(nd:(d == sysModules)=false)(m:DE s.heap d es ep)
  (fin:Q (.ref s.heap.objs.size) {s with heap:=s.heap.push {cls:=.type "dict_keyiterator",data:=.fields #[.ref d,.int 0 0,.int es.size 0,.int ep 0]}}):wpAny (model prog w) A (pyIter (.ref d)) Q E s:=by
 obtain⟨ob,g,x,dt⟩:=id m;refine zbM m.ty F.slot_dict_iter (C5 F.slot_dict_iter m.ty F.entry_dict_iter ?_ (F.args_dict_iter_1 _));unfold Builtin.«dict.__iter__» Builtin.Dict.dictSlotNone;refine AB (AB (zbX m.ty ?_));refine(show wpAny _ _ (pure (Value.ref d)) _ _ s from AN (show wpAny _ _ (Builtin.Dict.showsAll d >>= _) _ _ s from ?_));unfold Builtin.Dict.showsAll;rw[A5 (show ¬ (d == sysModules)=true by rw[nd];decide)];refine AB (AN (AB (GQ g dt (AB (zcc g dt (AB (CN (AN {_,rfl,"dict_keyiterator",_,{_,BI _ rfl,rfl},F.slot_dict_keyiterator_next.lookup,?_}))))))));simpa[rawInt] using fin
noncomputable def nv:String->Builtin:=(show{f:String->Builtin // f "dict_keyiterator.__next__" = Builtin.«dict_keyiterator.__next__»} from{_,rfl}).1
def WK (prog:A9)(w:AM)(T id:String)(b:Nat):Prop:=Slot T (Str.ofString "__next__") id/\entryFor table id=some (nv id)/\(∀a,argsOk id {pos:=[a]})/\(if Builtin.Dict_items.ownsTuple T=true then 2 else 0)=b /\
 ∀(A:AL) (E:Tb) (s:A1) (it:A4),s.TypeIs (.ref it) T->(∀(Q:String->A1->Prop),Q T s->wpAny (model prog w) A (typeNameOfWhole (.ref it)) Q E s) /\
 ∀(l:T5 String) (Q:A8->A1->Prop),Q (l.any λt=>[Value.type T,.type "object"].contains (.type t)) s->wpAny (model prog w) A (Builtin.Dict_items.isOneOf (.ref it) l) Q E s
def wk:WK prog w "dict_keyiterator" "dict_keyiterator.__next__" 0:={F.slot_dict_keyiterator_next,F.entry_dict_keyiterator_next,F.args_dict_keyiterator_next_1,by decide,λ_ _ _ _ y=>{λ_=>wpAny_typeNameOfWhole_keyiter y,λ_ _=>wpAny_isOneOf_keyiter y}}
def Ea {T n:String}{b:Nat}{oi:B0}{vs:Ti}{Q:UE A3->A1->Prop}(W:WK prog w T n b)(hh:A.handled=none)(gi:s.heap.get? it=some oi)(ci:oi.cls=.type T)(di:oi.data=.fields vs)(hv:(vs.toList.drop b).take 4=[.ref d,.int es.size 0,.int es.size 0,.int ep 0])(m:DE s.heap d es ep)
  (fin:∀h',Heap.ExtBut it s.heap h'->Q none {s with heap:=h'}):wpAny (model prog w) A (pyNext (.ref it)) Q E s:=by
 let⟨sl,en,ar,hb,W⟩:=W
 have hz:b<vs.size:=by have:=AQ List.length hv;simp at this;omega
 obtain⟨ob,g,x,dt⟩:=id m;have ty:s.TypeIs (.ref it) T:={_,gi,ci};unfold pyNext;refine AB (Gv (GV (name:=Str.ofString "__next__") ty sl (C5 sl ty en ?_ (ar _))));refine AB (AN (AB (AB ?_)));refine AB ((W _ _ _ _ ty).1 _ (AN (AB (Gx gi di ?_))));rw[hb,hv];refine(show wpAny _ _ (if (Value.ref d == Value.none)=true then _ else _) _ _ s from ?_);rw[A5 (show ¬ ((Value.ref d == Value.none)=true) by exact Eo)];refine AB (AN (AB (GQ g dt ?_)));rw[A5 (show ¬ _ by simp)];refine AB (AN (AB (zcc g dt ?_)));rw[A5 (show ¬ _ by simp)];refine AN ?_;rwa[show ¬ ((es.size:Int)<0) by omega,if_false,Gs,zcI (B3 es.size)];refine AB (AB ((W _ _ _ _ ty).1 _ (AN ?_)));rw[hb];refine(show wpAny _ _ (setField (.ref it) b .none >>= _) _ _ s from AB (Gw gi di hz ?_));refine(show wpAny _ _ (newExc (.type "StopIteration") [] >>= _) _ _ _ from AB ?_);rwa[newExc,newTuple];refine AB (CN (AB (m:=firstArgMember _ _) (zdh (a:=Value.none) (by first|rfl|(rwa[firstArgMember];rfl)) (CN ?_ (by size_fits)))) (by size_fits));rwa[raiseNew];refine AB (wpAny_handled ?_);rw[show A.in1.handled=none by exact hh];refine AB (AN (wpAny_throw (AB ?_)));exact HC (T:="StopIteration") (b:=true) {_,BI _ rfl,rfl} isSubtype_stop (AN (fin _ (((Heap.SameBut.update ..).extBut.push _).push _)))
def JX {T n:String}{f:DictEntry->A3}{oi:B0}{e:DictEntry}{Q:UE A3->A1->Prop}(W:WK prog w T n 0)(hT:(T = "dict_keyiterator"/\f=(·.key))\/T = "dict_valueiterator"/\f=(·.val))(gi:s.heap.get? it=some oi)(ci:oi.cls=.type T)(di:oi.data=.fields #[.ref d,.int i 0,.int es.size 0,.int ep 0])(m:DE s.heap d es ep)(ge:es[i]?=some e)
  (fin:∀h' o',h'.get? it=some o'->o'.cls=.type T->o'.data=.fields #[.ref d,.int (i+1:Nat) 0,.int es.size 0,.int ep 0]->Heap.SameBut it s.heap h'->Q (some (f e)) {s with heap:=h'}):wpAny (model prog w) A (pyNext (.ref it)) Q E s:=by
 obtain⟨sl,en,ar,hb,W⟩:=W;obtain⟨ob,g,x,dt⟩:=id m;have ty:s.TypeIs (.ref it) T:={_,gi,ci};unfold pyNext;refine AB (Gv (GV (name:=Str.ofString "__next__") ty sl (C5 sl ty en ?_ (ar _))));refine AB (AN (AB (AB ?_)));refine AB ((W _ _ _ _ ty).1 _ (AN (AB (Gx gi di ?_))));rw[hb];refine(show wpAny _ _ (if (Value.ref d == Value.none)=true then _ else _) _ _ s from ?_);rw[A5 (show ¬ ((Value.ref d == Value.none)=true) by exact Eo)];refine AB (AN (AB (GQ g dt ?_)));rw[A5 (show ¬ _ by simp)];refine AB (AN (AB (zcc g dt ?_)));rw[A5 (show ¬ _ by simp)];refine AN ?_;rwa[show ¬ ((i:Int)<0) by omega,if_false,Gs,ge];refine AB (AB ((W _ _ _ _ ty).1 _ (AN (AB ((W _ _ _ _ ty).2 _ _ ?_)))));have fi:=fin _ _ (Dw (Obj.mapFields (·.setIfInBounds 1 (rawInt ((i:Int)+1)))) gi (Obj.isFreed_of_fields (Obj.data_mapFields di _))) ((Obj.cls_mapFields ..).trans ci) (by rw[Obj.data_mapFields di];simp[rawInt]) (Heap.SameBut.update ..);have ty':Shared.TypeIs {s with heap:=s.heap.update it (Obj.mapFields (·.setIfInBounds 1 (rawInt ((i:Int)+1))))} (.ref it) T:={_,Dw _ gi (Obj.isFreed_of_fields (Obj.data_mapFields di _)),(Obj.cls_mapFields ..).trans ci};rw[hb];rcases hT with⟨rfl,rfl⟩|⟨rfl,rfl⟩ <;> refine(show wpAny _ _ (setField (.ref it) 1 (rawInt ((i:Int)+1)) >>= _) _ _ s from AB (Gw gi di ∅ (AB (Bg (AB ((W _ _ _ _ ty').2 _ _ ?_))))))
 ·exact(show wpAny _ _ (pure e.key) _ _ _ from AN (AN {_,rfl,AN fi}))
 ·exact AB ((W _ _ _ _ ty').2 _ _ (show wpAny _ _ (pure e.val) _ _ _ from AN (AN {_,rfl,AN fi})))
def Ke (hh:A.handled=none)(I d:A4)(ne:d≠I)(es:AD DictEntry)(ep:Nat):Walks prog w A I [I,d] [I] es.size (λi v=>∃e,es[i]?=some e/\v=e.key) (λi h=>h.IsKeyIter I d i es.size ep/\DE h d es ep) where
 sub:=λb z=>by simp at z;simp[z]
 frame:=λ_ _ _ q z=>{q.1.at λo e=>z I ∅ o e,q.2.at λo e=>z d ∅ o e}
 item:=λi s Q E hi q fin=>by let⟨⟨o,g,c,r⟩,m⟩:=q;refine JX wk (.inl {rfl,rfl}) g c r m (CB hi) λh' o' g c r sb=>fin _ h' s.toks {_,CB hi,rfl} {{o',g,c,r},m.at λo e=>sb.extBut d o ne e} λb o hb e=>sb.extBut b o (λz=>hb (by simp[z])) e
 done:=λs Q E q fin=>by let⟨⟨o,g,c,r⟩,m⟩:=q;exact Ea wk hh g c r rfl m λh' eb=>fin h' s.toks λb o hb e=>eb b o (λz=>hb (by simp[z])) e
 self:=λ_ _ _ _ q fin=>wpAny_pyIter_keyiter q.1 fin
end
open DK
section
variable {prog:A9}{w:AM}{A:AL}{E:Tb}{s:A1}
def JG0 {es:AD DictEntry}{vs:Te}(hl:vs.length=es.size)(h:∀(i:Nat) v,vs[i]?=some v->∃e,es[i]?=some e/\v=e.key):vs=es.toList.map (·.key):=by
 refine zcM ‹hl› λi h1 h2=>?_;let⟨e,g,q⟩:=h i vs[i] (Bl h1);have hi:i<es.size:=by simpa using h2
 rw[CB hi] at g;cases g;rw[q];simp
def wY {x a:A4}{ox io:B0}{cn:String}{n:Nat}{P:Nat->A3->Prop}{St:A4->Nat->AI->Prop}{vs:Te}{Q:T5 A3->A1->Prop}
  (hx:s.heap.get? x=some ox) (hc:ox.cls=.type cn) (An:a<s.heap.objs.size) (hcn:cn = "dict"\/cn = "dict_values") (hif:io.isFreed=false) (hz:n<=sizeLine)
  (hit:∀(t:A1) (A':AL) (E':Tb) (Q':Tb),(∀b o,s.heap.get? b=some o->t.heap.get? b=some o)->Q' (.ref t.heap.objs.size) {t with heap:=t.heap.push io}->wpAny (model prog w) A' (pyIter (.ref x)) Q' E' t)
  (hhint:∀(t:A1) (A':AL) (E':Tb) (Q':A8->A1->Prop),t.TypeIs (.ref x) cn->Q' false t->wpAny (model prog w) A' (listLengthHint (.ref x)) Q' E' t)
  (W:∀I,a≠I->Walks prog w A.in1 I [I,a] [I] n P (St I)) (hSt:∀I h1,h1.get? I=some io->(∀b o,s.heap.get? b=some o->h1.get? b=some o)->St I 0 h1)
  (hv:∀l:Te,l.length=n->(∀(i:Nat) v,l[i]?=some v->P i v)->l=vs)
  (h:∀(h':AI) (tk:Nat),(∀b o,s.heap.get? b=some o->h'.get? b=some o)->s.toks<=tk->s.heap.objs.size<=h'.objs.size->Q vs {s with heap:=h',toks:=tk}) :
  wpAny (model prog w) A (collect (.ref x)) Q E s:=by
 unfold collect;refine AB (wpAny_runValue (DN F.entry_proto_collect ?_));rw[Dv F.plain_proto_collect _];refine(show wpAny _ A.in1 (newList [] >>=λl=>again (.builtin "list.__iadd__" {[l,.ref x],[]})) _ _ s from AB (CN ?_));refine AN {F5 F.plain_list_iadd _,DN F.entry_list_iadd ?_};rw[Dv F.plain_list_iadd _];refine(show wpAny _ A.in1 (listExtendWith (.ref s.heap.objs.size) (.ref x) (.ref s.heap.objs.size)) _ _ _ from ?_);unfold listExtendWith;have hT:Shared.TypeIs {s with heap:=s.heap.push {cls:=.type "list",data:=.seq ([]:Te).toArray}} (.ref x) cn:={ox,AY _ hx,hc};refine AB (FU hT ?_)
 have h1:listSameRef (.ref s.heap.objs.size) (.ref x)=false:=by simp[listSameRef,D4 (B4 hx)]
 rwa[h1,show(Value.type cn == Value.type "list")=false by rcases hcn with rfl|rfl <;> rfl,show(Value.type cn == Value.type "tuple")=false by rcases hcn with rfl|rfl <;> rfl,Bool.or_false,Bc,if_false];refine AB (hit _ _ _ _ (λb o e=>AY _ e) ?_);have hsz:(s.heap.push {cls:=.type "list",data:=.seq ([]:Te).toArray}).objs.size=s.heap.objs.size+1:=Du ..;generalize hI:(s.heap.push {cls:=.type "list",data:=.seq ([]:Te).toArray}).objs.size=I at *;have kp:∀b o,(s.heap.push {cls:=.type "list",data:=.seq ([]:Te).toArray}).get? b=some o->((s.heap.push {cls:=.type "list",data:=.seq ([]:Te).toArray}).push io).get? b=some o:=λb o e=>AY _ e;generalize hh1:(s.heap.push {cls:=.type "list",data:=.seq ([]:Te).toArray}).push io=h1 at *;have hIt:=hSt I h1 (by rw[←hh1,←hI];exact BI _ hif) λb o e=>kp _ _ (AY _ e);have hTa:Shared.TypeIs {s with heap:=h1} (.ref x) cn:={ox,kp _ _ (AY _ hx),hc};refine AB (Bg (hhint _ _ _ _ hTa ?_));dsimp only;rw[A7]
 case hc=>rcases hcn with rfl|rfl <;> rfl
 refine(show wpAny _ A.in1 (rule "list.extend.makes-room" >>=λ_=>listTouch (.ref s.heap.objs.size) >>=λ_=>
  again (.builtin "list.extend.loop" {[.ref s.heap.objs.size,.ref I,.ref s.heap.objs.size],[]})) _ _ _ from AB (GC (AB ?_)))
 have hL:h1.get? s.heap.objs.size=some {cls:=.type "list",data:=.seq ([]:Te).toArray}:=kp _ _ (BI _ rfl)
 have Bh:s.heap.objs.size∉[I,a]:=λhm=>by
  rwa[BA,DV,or_false] at hm;rcases hm with e|e
  ·rw[hsz] at e;omega
  ·exact C4 _ (e ▸ An)
 refine(show wpAny _ A.in1 (updateSeq s.heap.objs.size (·.push .none) >>=λ_=>updateSeq s.heap.objs.size (·.pop)) _ _ _ from AB (zcS hL rfl ?_));have hL2:=Dw (Obj.mapSeq (·.push Value.none)) hL rfl;refine zcS (s:={s with heap:=_}) hL2 rfl ?_;have hL3:=Dw (Obj.mapSeq (·.pop)) hL2 rfl
 have oth:∀b o,b≠s.heap.objs.size->h1.get? b=some o->((h1.update s.heap.objs.size (Obj.mapSeq (·.push Value.none))).update s.heap.objs.size (Obj.mapSeq (·.pop))).get? b=some o :=
  λb o hb e=>(CV _ _ (Ne.symm hb)).trans ((CV _ _ (Ne.symm hb)).trans e)
 have W1:=W I (by rw[hsz];exact BG (zbL An))
 refine AN {F5 F.plain_extend_loop _,codeAny_extend_loopS W1.toS hz _ Bh _ n 0 _ _ _ rfl (Cy _)
  (W1.frame 0 h1 _ hIt λb hb o e=>oth b o (λq=>Bh (q ▸ hb)) e) hL3 (ItemsOf.nil _) λs' acc c F2 Fq DJ=>?_}
 refine(show wpAny _ A (load s.heap.objs.size >>= _) _ _ s' from AB (wpAny_load Fq ?_));dsimp only;let⟨h',g',d',Br,Hn⟩:=s';have eg:g'=s.gens:=F2.gens;have ed:d'=s.drawn:=F2.drawn;have eo:Hn=s.os:=F2.os;subst eg;subst ed;subst eo;refine AN ?_;have hk:acc.toList=vs:=hv _ (by rw[←DJ.1];simp) λi v hv=>DJ.2 i v ‹hv›;rw[hk];refine h h' Br (λb o e=>F2.heap b o (λhb=>?_) (oth b o (λq=>?_) (kp _ _ (AY _ e)))) F2.toks (GA (B4 Fq))
 ·have K3:=B4 e
  rwa[BA,DV,or_false] at hb;rcases hb with q|q
  ·exact C4 _ (q ▸ K3)
  ·rw[q,hsz] at K3;exact AJ K3 (Nat.not_lt.mpr (G7 _))
 ·exact C4 _ (q ▸ B4 e)
def JEv {a:A4}{es:AD DictEntry}{ep:Nat}{Q:T5 A3->A1->Prop}(hh:A.handled=none)(hd:(a == sysModules)=false)(hm:DE s.heap a es ep)(hz:es.size<=sizeLine)
  (h:∀(h':AI) (tk:Nat),(∀b o,s.heap.get? b=some o->h'.get? b=some o)->s.toks<=tk->s.heap.objs.size<=h'.objs.size->Q (es.toList.map (·.key)) {s with heap:=h',toks:=tk}) :
  wpAny (model prog w) A (collect (.ref a)) Q E s:=by
 let⟨o,ho,hx,hdat⟩:=id hm
 exact wY ho hx.1 (B4 ho) (.inl rfl) rfl hz (λt _ _ _ k q=>O1z hd (hm.at λ_ e=>k _ _ e) q) (λt _ _ _ hT q=>HS.Bo hT q)
  (λI ne=>Ke (show A.in1.handled=none from hh) I a ne es ep) (λI h1 e k=>{{_,e,rfl,rfl},hm.at λ_ e=>k _ _ e}) (λl=>JG0) h
def zp {x:A4}{vs:Te}{L:Ta}{Q:Tb}(hT:aY s.heap vs L)(nd:L.Nodup)(CJ:L.length<64)(BC:2<=L.length->∀x∈L,x≠[])
  (hcol:∀(Q':T5 A3->A1->Prop),(∀(h':AI) (tk:Nat),(∀b o,s.heap.get? b=some o->h'.get? b=some o)->s.toks<=tk->s.heap.objs.size<=h'.objs.size->Q' vs {s with heap:=h',toks:=tk})->wpAny (model prog w) A.in1 (collect (.ref x)) Q' E s)
  (h:∀(is:T5 Nat) (h':AI) (tk:Nat) (l:A4) (c:Nat),(∀i∈is,i<L.length)->(is.map λi=>L.getD i []).Perm L->(is.map λi=>L.getD i []).Pairwise (λx y=>jy x y=true)->(∀b o,s.heap.get? b=some o->h'.get? b=some o)->s.toks<=tk ->
   s.heap.objs.size<=l->h'.get? l=some (seqObj "list" (is.map λi=>vs.getD i .none).toArray c)->Q (.ref l) {s with heap:=h',toks:=tk}) :
  wpAny (model prog w) A (call (.builtin "sorted") [.ref x]) Q E s:=by
 have hvl:vs.length=L.length:=hT.len;refine Calls.call_function_entry kind_sorted plain_sorted entry_sorted (args_sorted1 _) ?_;unfold Builtin.«sorted»;refine AB (m:=checkCount "sorted" 1 1 _) (AN (AB (hcol _ λh' tk kp ht hge=>?_)));refine AB (zc4 ?_ (by rw[hvl,CK];omega));have Dp:(h'.push (seqObj "list" vs.toArray 0)).get? h'.objs.size=some (seqObj "list" vs.toArray 0):=BI _ rfl;have Hh:aY (h'.push (seqObj "list" vs.toArray 0)) vs L:=hT.keep λb o e=>AY _ (kp b o e)
 have hna:∀v∈vs,v≠.ref h'.objs.size:=λv hv e=>by
  let⟨i,hi,rfl⟩:=G6 hv;let⟨b,o,its,n,q1,q2,_⟩:=hT.at i ∅;rw[HH,Bl hi] at q1;rwa[zb6] at q1;rw[e] at q1;cases q1;exact AJ (B4 (kp _ _ q2)) (C4 _)
 refine AB (Bg (C5 (s:={s with heap:=h'.push (seqObj "list" vs.toArray 0),toks:=tk}) slot_list_sort {_,Dp,rfl} entry_list_sort (su (s:={s with heap:=h'.push (seqObj "list" vs.toArray 0),toks:=tk}) Dp Hh nd CJ BC hna λout L' ⟨is,a1,a2,a3⟩ a4 a5=>{_,rfl,?_}) (args_list_sort _)))
 obtain⟨c,hc⟩:∃c,(sortedHeap (h'.push (seqObj "list" vs.toArray 0)) h'.objs.size vs out).get? h'.objs.size=some (seqObj "list" out c):=by
  unfold sortedHeap;obtain⟨e1,q1⟩:∃e1,((h'.push (seqObj "list" vs.toArray 0)).update h'.objs.size (Obj.mapSeq λ_=>#[])).get? h'.objs.size=some (seqObj "list" #[] e1):={_,get?_update_seq Dp (λ_=>#[])};exact{_,get?_update_seq (AY _ (AY _ q1)) (λ_=>out)}
 have ho:out=(is.map λi=>vs.getD i .none).toArray:=by rw[←a1]
 subst a2;rw[ho] at hc;refine AN {_,rfl,h is _ tk h'.objs.size c a3 a4 a5 (λb o e=>?_) ht hge (by rw[ho];exact hc)};have hb:=kp b o e;have ne:h'.objs.size≠b:=D4 (B4 hb);unfold sortedHeap;rw[CV _ _ ne];refine AY _ (AY _ ?_);rw[CV _ _ ne];exact AY _ hb
def JFu {a:A4}{es:AD DictEntry}{ep:Nat}{L:Ta}{Q:Tb}(hh:A.handled=none)(hd:(a == sysModules)=false)(hm:DE s.heap a es ep)(hT:aY s.heap (es.toList.map (·.key)) L)(nd:L.Nodup)(CJ:L.length<64)(BC:2<=L.length->∀x∈L,x≠[])
  (h:∀(is:T5 Nat) (h':AI) (tk:Nat) (l:A4) (c:Nat),(∀i∈is,i<L.length)->(is.map λi=>L.getD i []).Perm L->(is.map λi=>L.getD i []).Pairwise (λx y=>jy x y=true)->(∀b o,s.heap.get? b=some o->h'.get? b=some o)->s.toks<=tk ->
   s.heap.objs.size<=l->h'.get? l=some (seqObj "list" (is.map λi=>(es.toList.map (·.key)).getD i .none).toArray c)->Q (.ref l) {s with heap:=h',toks:=tk}) :
  wpAny (model prog w) A (call (.builtin "sorted") [.ref a]) Q E s:=by
 have Fj:es.size=L.length:=by simpa using hT.len
 exact zp hT nd CJ BC (λQ' k=>JEv (show A.in1.handled=none from hh) hd hm (by rw[Fj,CK];omega) k) h
end
end HK
namespace HW
variable {K:AP}
open PyProof.Rows L2 HS DK HK
noncomputable def yg (k:Th):T5 (Th)->Ta
 |[]=>[k]
 |x::l=>if jy k x=true then k::x::l else x::yg k l
noncomputable def bj:T5 (Th)->Ta
 |[]=>[]
 |k::l=>yg k (bj l)
theorem nJ (k:Th):∀l,(yg k l).Perm (k::l)
 |[]=>.refl _
 |x::l=>by
  unfold yg;split
  ·exact .refl _
  ·exact((nJ k l).cons x).trans (.swap k x l)
theorem bR:∀l,(bj l).Perm l
 |[]=>.refl _
 |k::l=>(nJ k _).trans ((bR l).cons k)
abbrev BR (l:Ta):Prop:=l.Pairwise λx y=>jy x y=true
theorem zR {k:Th}:∀{l:Ta},BR l->k∉l->BR (yg k l)
 |[],_,_=>by simp[yg]
 |x::l,h,hk=>by
  let⟨h1,h2⟩:=D0.mp h;unfold yg;split
  ·rename_i c;refine D0.mpr {λy hy=>?_,h};rcases BA.mp hy with rfl|hy
   ·exact c
   ·exact gP _ _ _ c (h1 y hy)
  ·rename_i c;refine D0.mpr {λy hy=>?_,zR h2 λz=>hk (BF _ z)};rcases BA.mp ((nJ k l).mem_iff.mp hy) with rfl|hy
   ·rcases pw x y with q|q|q
    ·exact q
    ·exact AJ BB (q ▸ hk)
    ·exact AJ q c
   ·exact h1 y hy
theorem g6:∀{l:Ta},l.Nodup->BR (bj l)
 |[],_=>.nil
 |k::l,h=>by let⟨h1,h2⟩:=By.mp h;exact zR (g6 h2) λz=>h1 ((bR l).mem_iff.mp z)
theorem ll:∀{a b:Ta},BR a->BR b->a.Perm b->a=b
 |[],b,_,_,p=>by rw[List.nil_perm.mp p]
 |x::a,[],_,_,p=>by simpa using p.length_eq
 |x::a,y::b,ha,hb,p=>by
  let⟨a1,a2⟩:=D0.mp ha;let⟨b1,b2⟩:=D0.mp hb;have e:x=y:=by
   rcases BA.mp (p.mem_iff.mp BB) with h|h
   ·exact h
   ·rcases BA.mp (p.mem_iff.mpr BB) with h'|h'
    ·exact h'.symm
    ·have q:=gP _ _ _ (b1 x h) (a1 y h');rw[iu] at q;cases q
  subst e;rw[ll a2 b2 ((List.perm_cons x).mp p)]
noncomputable def Ec:T5 R->ac->UE (R×ac)
 |[x],U=>(jW x U).bind λxs=>(gm xs).bind λns=>some (.v (.key ns),U)
 |_,_=>none
theorem Es {K:AP}{H:Hp}:∀{xs:T5 D} {ns:Th} {vs:T5 V},gm xs=some ns->RelDs K H xs vs->vs=ns.map V.int
 |[],ns,vs,e,r=>by cases e;exact r
 |.int n::xs,ns,vs,e,r=>by rwa[gm] at e;let⟨ms,e1,rfl⟩:=DY.mp e;let⟨v,r',rfl,h1,h2⟩:=r;rwa[ak] at h1;subst h1;rw[Es e1 h2];rfl
 |.non::_,_,_,e,_=>by cases e
 |.bl _::_,_,_,e,_=>by cases e
 |.str _::_,_,_,e,_=>by cases e
 |.tup _::_,_,_,e,_=>by cases e
 |.fl _::_,_,_,e,_=>by cases e
 |.fd _ _::_,_,_,e,_=>by cases e
 |.key _::_,_,_,e,_=>by cases e
def Pg :yT K Ec (Oo K):=by
 intro m H U xs d U' vs Q s r e k;unfold Ec at e;split at e
 ·rename_i x;let⟨ys,e1,e⟩:=AS.mp e;let⟨ns,e2,e⟩:=AS.mp e;cases e;let⟨v,rfl,r1⟩:=mI r;let⟨a,ws,rfl,q,r⟩:=iP s r1 e1;refine{a,ws,rfl,.inl {q,λp hp=>?_}};let⟨x1,x2,x3⟩:=lg s r hp;refine k _ _ _ x1 x2 ?_;rwa[aq,ak];exact{p,rfl,by rw[bP,Es e2 r]}
 ·cases e
theorem kZ {K:AP}{H:Hp}:∀(ns:Th),RelDs K H (ns.map D.int) (ns.map V.int)
 |[]=>rfl
 |n::ns=>{_,_,rfl,by rwa[ak],kZ ns}
abbrev kk (k:Th):T5 aI:=k.map Sum.inl
theorem qw {a b:Th}(h:kk a=kk b):a=b:=by
 induction a generalizing b with
 |nil=>cases b with
  |nil=>rfl
  |cons y b=>cases h
 |cons x a ih=>cases b with
  |nil=>cases h
  |cons y b=>
   rwa[kk,AZ,List.cons.injEq,Sum.inl.injEq] at h;rw[h.1,ih h.2]
def wa (k:Th):(kk k).map kV=k.map V.int:=by rw[CY];rfl
def iX (K:AP)(H:Hp)(A6:T5 (Th×D))(es:T5 (T5 aI×V)):Prop:=es.map (·.1)=A6.map (λp=>kk p.1)/\RelDs K H (A6.map (·.2)) (es.map (·.2))
noncomputable def HM:FE:=λ_ U=>some (.p U.length,U++[.dt []])
def Lc {H:Hp}{Q:VK}(h:ay K HM Y H Q):xE Y H Q:=by let⟨O,U,m,d,U',hl,hs,e,k⟩:=h;cases e;intro p hp;refine k _ _ (m++[p]) (.newH hp) (hs.newH hp {[],bP,rfl,rfl}) {p,rfl,?_};rw[←hs.len];simp
noncomputable def lL (A6:T5 (Th×D))(k:Th):UE D:=(A6.find? λp=>decide (p.1=k)).map (·.2)
noncomputable def fT (A6:T5 (Th×D))(k:Th)(d:D):T5 (Th×D) :=
 if (A6.any λp=>decide (p.1=k))=true then A6.map (λp=>if p.1=k then (p.1,d) else p) else A6++[(k,d)]
theorem iX.val {K:AP}{H:Hp}(k:Th):∀{A6:T5 (Th×D)} {es:T5 (T5 aI×V)},iX K H A6 es->(lL A6 k=none/\c9 es (kk k)=none)\/∃d v,lL A6 k=some d/\c9 es (kk k)=some v/\ak K H d v
 |[],[],_=>.inl {rfl,rfl}
 |[],_::_,h=>by have:=h.1;simp at this
 |_::_,[],h=>by have:=h.1;simp at this
 |p::A6,e::es,⟨h1,h2⟩=>by
  rwa[AZ,List.cons.injEq] at h1;let⟨v,r,q,r1,r2⟩:=h2;rwa[AZ,List.cons.injEq] at q;let⟨q1,q2⟩:=q;by_cases c:p.1=k
  ·refine .inr {p.2,e.2,?_,?_,by rw[q1];exact r1}
   ·unfold lL;rw[zci ‹c›];rfl
   ·exact mz (by rw[h1.1,c])
  ·have ih:=iX.val k (A6:=A6) (es:=es) {h1.2,by rw[q2];exact r2};have n1:lL (p::A6) k=lL A6 k:=(by unfold lL;rw[zbU ‹c›]);have n2:c9 (e::es) (kk k)=c9 es (kk k):=iZ λz=>c (qw (h1.1.symm.trans z));rw[n1,n2];exact ih
def iX.any {H:Hp}{A6:T5 (Th×D)}{es:T5 (T5 aI×V)}(r:iX K H A6 es)(k:Th):(es.any λe=>decide (e.1=kk k))=(A6.any λp=>decide (p.1=k)):=by
 have h1:(es.any λe=>decide (e.1=kk k))=((es.map (·.1)).any λx=>decide (x=kk k)):=by rw[zcU];rfl
 rw[h1,r.1,zcU];congr 1;funext p;rwa[Function.comp];by_cases c:p.1=k
 ·rw[Bs c,Bs (by rw[c])]
 ·rw[Bf c,Bf λz=>c (qw z)]
def iX.cons {K:AP}{H:Hp}{k:Th}{k':T5 aI}{d:D}{v:V}{A6:T5 (Th×D)}{es:T5 (T5 aI×V)}:iX K H ((k,d)::A6) ((k',v)::es) ↔ k'=kk k/\ak K H d v/\iX K H A6 es:=by
 constructor
 ·rintro⟨h1,h2⟩;rwa[AZ,List.cons.injEq] at h1;let⟨w,r,e,h3,h4⟩:=h2;rwa[AZ,List.cons.injEq] at e;let⟨rfl,rfl⟩:=e;exact{h1.1,h3,h1.2,h4}
 ·rintro⟨rfl,h1,h2,h3⟩;exact{by rw[AZ,AZ,h2],{_,_,rfl,h1,h3}}
theorem iX.repl {K:AP}{H:Hp}{k:Th}{d:D}{v:V}(rd:ak K H d v):∀{A6:T5 (Th×D)} {es:T5 (T5 aI×V)},iX K H A6 es->iX K H (A6.map λp=>if p.1=k then (p.1,d) else p) (es.map λe=>if e.1=kk k then (e.1,v) else e)
 |[],[],_=>{rfl,rfl}
 |[],_::_,h=>by have:=h.1;simp at this
 |_::_,[],h=>by have:=h.1;simp at this
 |(p,x)::A6,(e,y)::es,h=>by
  let⟨rfl,h2,h3⟩:=iX.cons.mp h;have ih:=iX.repl (k:=k) rd h3;rw[AZ,AZ];by_cases c:p=k
  ·have c':kk p=kk k:=by rw[c]
   rw[A7 c,A7 c'];exact iX.cons.mpr {rfl,rd,ih}
  ·have c':¬ kk p=kk k:=λz=>c (qw z);rw[A5 c,A5 c'];exact iX.cons.mpr {rfl,h2,ih}
def iX.snoc {H:Hp}{k:Th}{d:D}{v:V}(rd:ak K H d v){A6:T5 (Th×D)}{es:T5 (T5 aI×V)}(h:iX K H A6 es):iX K H (A6++[(k,d)]) (es++[(kk k,v)]):=by refine{by simp[h.1],?_};rw[D6,D6];exact RelDs.append h.2 {_,_,rfl,rd,rfl}
def iX.put {H:Hp}{k:Th}{d:D}{v:V}{A6:T5 (Th×D)}{es:T5 (T5 aI×V)}(r:iX K H A6 es)(rd:ak K H d v):iX K H (fT A6 k d) (eF es (kk k) v):=by
 unfold fT eF;rw[r.any k];split
 ·exact r.repl rd
 ·exact r.snoc rd
def JH:V->V->V->Hp->(Hp->Prop)->Prop:=λo i v H Q=>∃p A6 k b,o=.ref p/\i=.ref b/\H p=some (.dT A6)/\H b=some (.tup (k.map kV))/\A6.length<sizeLine/\Q (upd H p (.dT (eF A6 k v)))
def JAo {X:Cx}(hu:X.A.units+1<cLine):u2 X JH:=by intro A2 s Y H o i v ov iv u Q I ro ri rv h;let⟨p,A6,k,b,rfl,rfl,hp,hb,hl,q⟩:=h;cases ro;exact s9 hu I (yV.t hp hb hl) ri rv λs' I'=>{_,I',q}
noncomputable def uN (U:ac)(n:Nat):UE (T5 (Th×D)):=match U[n]? with|some (.dt A6)=>some A6|_=>none
def sX {m:Tf}{H:Hp}{U:ac}{n:Nat}{a:A4}{A6:T5 (Th×D)}(s:aP K m H U)(ha:m[n]?=some a)(e:uN U n=some A6):∃es,H a=some (.dT es)/\iX K H A6 es:=by
 unfold uN at e;split at e
 ·rename_i q
  cases e;let⟨es,ea,e1,e2⟩:=s.cell _ _ a q ha;exact{es,ea,e1,e2}
 ·cases e
noncomputable def sO (fo fi:FE):FG:=λd O U=>match d with
 |.v dv=>(fo O U).bind λo=>(fi O o.2).bind λi=>match o.1,i.1 with
  |.p n,.v (.key ks)=>(uN i.2 n).bind λA6=>if A6.length<1000 then some (O,i.2.set n (.dt (fT A6 ks dv))) else none
  |_,_=>none
 |_=>none
def JB2 {fo fi:FE}{v:V}{H:Hp}{Q:L2.St->Hp->Prop}(h:rK K (sO fo fi) v Y H Q):L2.rV (ay K fo) (ay K fi) JH v Y H Q:=by
 let⟨O,U,m,d,O',U',hl,hs,r,e,k⟩:=h;unfold sO at e;split at e
 ·rename_i dv;let⟨⟨o,U1⟩,e1,e⟩:=AS.mp e;let⟨⟨i,U2⟩,e2,e⟩:=AS.mp e;dsimp only at e;split at e
  ·rename_i n ks e0;let⟨A6,e3,e⟩:=AS.mp e;split at e
   ·rename_i h1000
    cases e;refine{O,U,m,_,U1,hl,hs,e1,λvo H1 m1 x1 s1 r1=>?_};refine{O,U1,m1,_,U2,hl.ext x1,s1,e2,λvi H2 m2 x2 s2 r2=>?_};let⟨a,rfl,ha⟩:=r1.ext x2;rwa[aq,ak] at r2;let⟨b,rfl,hb⟩:=r2;let⟨es,ea,kd⟩:=sX s2 ha e3;have rv:ak K H2 dv v:=ak.tf (x1.tf.trans x2.tf) _ _ r;have kd':=kd.put (k:=ks) rv;have x:dF m2 H2 m2 (upd H2 a (.dT (eF es (kk ks) v))):=.put (CU ha) ea ∅ ∅;have s3:=s2.put (c:=.dt (fT A6 ks dv)) ha ea ∅ ∅ {_,bP,kd'.1,RelDs.tf x.tf _ _ kd'.2};refine{a,es,kk ks,b,rfl,rfl,ea,by rw[wa];exact hb,?_,k Y _ m2 ((x1.trans x2).trans x) s3 (hl.ext ((x1.trans x2).trans x))};have:=AQ List.length kd.1;rwa[Az] at this
    rw[this,CK];omega
   ·cases e
  ·cases e
 ·cases e
def jf (H:Hp):T5 A4->T5 (Th)->Prop
 |[],[]=>True
 |a::as,k::ks=>H a=some (.tup (k.map V.int))/\jf H as ks
 |_,_=>False
theorem jf.at {H:Hp}:∀{as:Tf} {ks:Ta},jf H as ks->∀i,i<ks.length->H (as.getD i 0)=some (.tup ((ks.getD i []).map V.int))
 |[],[],_,i,hi=>by simp at hi
 |[],_::_,h,_,_=>h.elim
 |_::_,[],h,_,_=>h.elim
 |_::_,_::_,h,0,_=>h.1
 |_::_,_::_,h,i+1,hi=>jf.at h.2 i ‹hi›
theorem jf.pick {H:Hp}{as:Tf}{ks:Ta}(h:jf H as ks):∀(is:T5 Nat),(∀i∈is,i<ks.length)->jf H (is.map λi=>as.getD i 0) (is.map λi=>ks.getD i [])
 |[],_=>trivial
 |i::is,hi=>{h.at i (hi i BB),jf.pick h is λj hj=>hi j (BF _ hj)}
theorem jf.rels {K:AP}{H:Hp}:∀{as:Tf} {ks:Ta},jf H as ks->RelDs K H (ks.map D.key) (as.map V.ref)
 |[],[],_=>rfl
 |[],_::_,h=>h.elim
 |_::_,[],h=>h.elim
 |_::_,_::_,h=>{_,_,rfl,by rwa[ak];exact{_,rfl,h.1},jf.rels h.2}
def vJ:T5 V->Hp->VK->Prop:=λvs H Q=>∃p A6 L,vs=[.ref p]/\H p=some (.dT A6)/\A6.map (·.1)=L.map kk/\L.length<64/\(2<=L.length->∀x∈L,x≠[]) /\
 ∀as,jf H as (bj L)->∀l,H l=none->Q (.ref l) (upd H l (.lst (as.map V.ref)))
theorem uQ {X:Cx}(hc:X.calm=true):fm X (.builtin "sorted") vJ:=by
 intro A2 s Y H vs us Q I r h;let⟨p,A6,L,rfl,hp,hk,CJ,BC,q⟩:=h;let⟨u,rfl,rx⟩:=ij r;cases rx;let⟨hz,hs,xs,kt,o,es,ep,g,hx,hd,he,hn⟩:=(show bo X.prog X.w H s.heap p (.dT A6) from I.hok p _ hp);have key:∀{ks:T5 (T5 aI×V)} {ys:T5 (T5 aI×A4×A3)} {L:Ta},Paired (λ(p:T5 aI×V) (q:T5 aI×A4×A3)=>p.1=q.1/\H q.2.1=some (.tup (p.1.map kV))/\be p.2 q.2.2) ks ys->ks.map (·.1)=L.map kk ->
   jf H (ys.map (·.2.1)) L/\aY s.heap (ys.map λy=>.ref y.2.1) L/\ys.map (·.1)=L.map kk:=by
  intro ks ys L kt
  induction kt generalizing L with
  |nil=>intro e;cases L with
   |nil=>exact{trivial,trivial,rfl}
   |cons _ _=>cases e
  | @cons a b ps qs h1 h2 ih=>
   intro e
   cases L with
   |nil=>cases e
   |cons k L=>
    rwa[AZ,List.cons.injEq] at e;let⟨i1,i2,i3⟩:=ih e.2
    have hb:H b.2.1=some (.tup (k.map V.int)):=by rw[h1.2.1,e.1,wa]
    let⟨_,its,rv,⟨ob,g1,g2,n,g3⟩,_⟩:=(show bo X.prog X.w H s.heap b.2.1 (.tup (k.map V.int)) from I.hok _ _ hb);exact{{hb,i1},{{b.2.1,ob,its.toArray,n,rfl,g1,g2,g3,by simpa using c7 rv},i2},by simp only[AZ,i3,←h1.1,e.1]}
 let⟨pa,ta,ka⟩:=key kt hk;have Hd:es.toList.map (·.key)=xs.map λy=>.ref y.2.1:=by rw[he,CY];rfl
 have nd:L.Nodup:=by rw[ka] at hn;exact(GR.mp hn).imp λh e=>h (by rw[e])
 refine JFu (I.ok.hd hc) hs {o,g,hx,hd} (by rw[Hd];exact ta) nd CJ BC λis h' tk l c i1 i2 i3 kp ht hl hL=>?_;have hpk:=pa.pick is i1;have heq:(is.map λi=>L.getD i [])=bj L:=ll i3 (g6 nd) (i2.trans (bR L).symm);rw[heq] at hpk;have hlen:is.length=L.length:=by simpa using i2.length_eq
 refine{.ref l,_,I.laid (t':=tk) kp hl (show bo X.prog X.w _ h' _ (.lst ((is.map λi=>(xs.map (·.2.1)).getD i 0).map V.ref)) from{by rw[Az,Az,hlen,CK];omega,(is.map λi=>(es.toList.map (·.key)).getD i .none),c,?_,by simpa[seqObj] using hL}),rfl,q _ hpk _ (I.hok.fresh hl)};rw[Hd];have hxl:xs.length=L.length:=by simpa using AQ List.length ka
 clear hpk heq i2 i3 hL hlen;induction is with
 |nil=>exact .nil
 |cons i is ih=>
  have hi:i<xs.length:=by rw[hxl];exact i1 i BB
  refine .cons ?_ (ih λj hj=>i1 j (BF _ hj))
  show _=Value.ref _
  simp[HH,Bl hi]
def yr {X:Cx}{H:Hp}{s:A1}(I:aD X A2 Y H s){b:A4}{zs:T5 V}(h:jV X.K H b zs):∃(its:Te) (n:Nat),aR zs its/\s.heap.get? b=some {cls:=.type "list",data:=.seq its.toArray n}:=by
 rcases h with h|⟨o,its,n,hk,hc,hd,hs,hz,r⟩
 ·let⟨z,its,n,r,e⟩:=h.ok I.hok;exact{its,n,r,e}
 ·refine{its.toList,n,r,?_};have e:=I.kIn b o hk;let⟨c,d,dt,sl⟩:=o;simp only at hc hd hs;let⟨hd,hl⟩:=hd;subst hc hd hs hl;simpa using e
def JL (K:AP):R2:=λx y H Q=>∃l b xs zs,x=.ref l/\y=.ref b/\jV K H l xs/\jV K H b zs/\xs.length+zs.length<=sizeLine/\∀p,H p=none->Q (.ref p) (upd H p (.lst (xs++zs)))
def JGr {X:Cx}:kR X (binaryOp .Add) (JL X.K):=by intro A2 s Y H x y v u Q I rx ry h;let⟨l,b,xs,zs,rfl,rfl,hH,hB,hz,q⟩:=h;cases rx;cases ry;let⟨its,n,r,e⟩:=yr I hH;let⟨DA,n2,r2,e2⟩:=yr I hB;have l1:=r.length;have l2:=r2.length;refine PySem.P.add_list e e2 ?_ (by rw[Bd,Bd];omega);rw[show its.toArray++DA.toArray=(its++DA).toArray by simp];exact{.ref _,_,I.lnew (t':=s.toks) (r.append r2) (by rw[Bp];omega),rfl,q _ I.fresh}
noncomputable def xM:R->ac->UE (T5 D)
 |.p a,U=>(match U[a]? with|some (.lst xs)=>some xs|some (.fz xs)=>some xs|_=>none)
 |.v (.fl xs),_=>some xs
 |_,_=>none
theorem o7 {m:Tf}{H:Hp}{U:ac}(s:aP K m H U){x:R}{v:V}{xs:T5 D}(e:xM x U=some xs)(r:aq K m H x v):∃a vs,v=.ref a/\jV K H a vs/\RelDs K H xs vs:=by
 refine iP s r ?_;rw[←e]
 cases x with
 |v d=>cases d <;> rfl
 |_=>rfl
noncomputable def xj (x y:R)(U:ac):UE (R×ac):=(xM x U).bind λxs=>(xM y U).bind λys=>if xs.length+ys.length<=sizeLine then some (.p U.length,U++[.lst (xs++ys)]) else none
def MB :rf K xj (JL K):=by
 intro m H U x y d U' v u Q s rx ry e k;unfold xj at e;let⟨xs,e1,e⟩:=AS.mp e;let⟨ys,e2,e⟩:=AS.mp e;split at e
 ·rename_i hz
  cases e;let⟨b,vs,rfl,ea,r1⟩:=o7 s e1 rx;let⟨c,ws,rfl,f,r2⟩:=o7 s e2 ry;refine{b,c,vs,ws,rfl,rfl,ea,f,by rw[←r1.length,←r2.length];exact hz,λp hp=>?_};let⟨x1,x2,x3⟩:=gE s (r1.append r2) hp;exact k _ _ _ x1 x2 x3
 ·cases e
end HW
namespace PySem
section
variable {prog:A9}{w:AM}{K:Type}[DecidableEq K]{knd:HeapKind prog w K}{A:AL}{E:Tb}{s:A1}
def rO {d a:A4}{xs:T5 (K×A4×A3)}{k:K}{dflt:A3}{Q:Tb}(hu:knd.room A)(BN:knd.is s.heap k a)(hm:s.heap.DictOfH knd d xs)
  (h1:∀v,(atKey xs k).map (·.2)=some v->Q v {s with toks:=s.toks+knd.draws k})
  (h2:atKey xs k=none->∀h',h'.DictOfH knd d (storedH xs k a dflt)->Heap.SameBut d s.heap h'->Q dflt {s with heap:=h',toks:=s.toks+knd.draws k})
  (hsz:xs.length<=sizeLine) :
  wpAny (model prog w) A (dictSetDefault d (.ref a) dflt) Q E s:=by
 let⟨o,es,ep,ho,hc,hd,he,He,hn⟩:=hm;unfold dictSetDefault
 try with_reducible refine Bg ?_
 refine AB (knd.pyHash hu BN ?_);refine AB (wpAny_dictFind_heap (s:={s with toks:=s.toks+knd.draws k}) hu BN ho hd he He hn ?_ ?_)
 ·intro F1
  have hnot:k∉xs.map (·.1):=not_mem_keys_of_get F1
  refine AB (GC (AB (wpAny_updateDictKeys (hz:=by have e:=size_of_entries he;omega) (s:={s with toks:=s.toks+knd.draws k}) ho hd (AN (h2 (atKey_none_of_get F1) _ {_,_,ep+1,Dw _ ho (Obj.isFreed_of_dict (Obj.data_mapDictKeys hd _)),
   hc.mapDictKeys _,Obj.data_mapDictKeys hd _,?_,?_,?_} (Heap.SameBut.update ..))))))
  ·rw[storedH_new (atKey_none_of_get F1)]
   simp[he,entryOfKey]
  ·rw[storedH_new (atKey_none_of_get F1)]
   intro x hx;rcases D7.mp hx with hx|hx
   ·exact knd.keeps (He x hx) ho hd (Heap.SameBut.update ..)
   ·rwa[Bm] at hx
    subst hx;exact knd.keeps BN ho hd (Heap.SameBut.update ..)
  ·rw[storedH_new (atKey_none_of_get F1)]
   rw[D6,F9];refine{hn,by simp,?_};intro x hx y hy;rwa[AZ,CS,Bm] at hy;subst hy;exact λe=>hnot (e ▸ hx)
 ·intro j p hj
  refine AB (GQ (s:={s with toks:=s.toks+knd.draws k}) ho hd ?_);rw[entry_at he j,hj];exact AB (GC (AN (h1 _ (by rw[atKey_of_get hn hj];rfl))))
def lD (knd:HeapKind prog w K){k:K}{a:A4}(d:A4)(hd:(d == sysModules)=false)(dflt:A3) :
  MeetsIn prog w (Builtin.«dict.setdefault» {[.ref d,.ref a,dflt],[]}) (λA R s=>knd.room A.in1/\knd.is s.heap k a/\∃xs,s.heap.DictOfH knd d xs/\xs.length<=sizeLine /\
   (∀v,(atKey xs k).map (·.2)=some v->R (.ok (.ret v)) {s with toks:=s.toks+knd.draws k}) /\
   (atKey xs k=none->∀h',h'.DictOfH knd d (storedH xs k a dflt)->Heap.SameBut d s.heap h'->R (.ok (.ret dflt)) {s with heap:=h',toks:=s.toks+knd.draws k})) :=
 .of_wp λA R s hh=>by
  let⟨hu,BN,xs,hm,hz,h1,h2⟩:=hh;unfold Builtin.«dict.setdefault»;refine AB ?_;unfold Builtin.Dict.keyAndDefault;refine AB (zbX hm.typeIs ?_)
  show wpAny _ _ (pure (d,Value.ref a,some dflt)) _ _ s
  refine AN ?_
  show wpAny _ _ (if (d == sysModules)=true then _ else (dictSetDefault d (.ref a) dflt >>= _)) _ _ s
  rw[A5 (by rw[hd];exact Eo)];exact AB (rO (hsz:=hz) hu BN hm (λv hv=>AN {v,rfl,h1 v hv}) λhn h' F2 Hy=>AN {dflt,rfl,h2 hn h' F2 Hy})
end
end PySem
namespace HW
variable {K:AP}
open PyProof.Rows L2
def Cp (td ty tx:TE):TE:=λY H Q=>td Y H λx H1=>∃a,x=.ref a/\SG H1 a/\ty Y H1 λy H2=>tx Y H2 λz H3=>∃A6 k b,H3 a=some (.dT A6)/\y=.ref b/\H3 b=some (.tup (k.map kV))/\A6.length<sizeLine /\
 (∀v,c9 A6 k=some v->Q v H3)/\(c9 A6 k=none->Q z (upd H3 a (.dT (A6++[(k,z)]))))
def zI {X:Cx}(hu:X.A.units+1<cLine){o e f:AR}{apos AW:Pos}{td ty tx:TE}(ho:PE X o td)(he:PE X e ty)(hf:PE X f tx)(m:M2 X o "setdefault" apos e f AW):PE X (.Call (.Attribute o "setdefault" apos) [e,f] [] AW) (Cp td ty tx):=by
 intro A2 s Y H Q I h;refine zcG m.base m.few m.line PySem.F.plainAttrs_dict PySem.F.slot_dict_setdefault PySem.F.type_dict_setdefault (da (ho A2 s Y H _ I h) λu s1 hh=>?_);let⟨x,H1,I1,rx,a,ex,d,q1⟩:=hh;subst ex;obtain rfl:u=Value.ref a:=rx;let⟨t1,t2,_⟩:=uA I1 d;refine{t1,t2,?_};rw[m.trees];refine Calls.callWith_builtin rfl (Calls.evalArgs_plain (Calls.spliced_cons (da (he A2 s1 Y H1 _ I1 q1) λiv s2 hh=>?_)));let⟨y,H2,I2,ry,q2⟩:=hh;refine Calls.spliced_cons (da (hf A2 s2 Y H2 _ I2 q2) λfv s3 hh=>Calls.spliced_nil ?_);let⟨z,H3,I3,rz,A6,k,b,ea,ey,eb,hz,qa,qb⟩:=hh;subst ey;cases(show iv=Value.ref b from ry);let⟨zz,hd,xs,rel,dd⟩:=Al I3.hok ea;have hxz:xs.length<=sizeLine:=by rw[←Paired.length rel];exact zz
 refine call_meetsIn PySem.F.slot_dict_setdefault dd.typeIs PySem.F.entry_dict_setdefault (PySem.F.args_dict_setdefault_3 _ _ _) (lD (tupleKind (bB X.prog X.w)) (k:=k) a hd fv) {tupleKind_room_in1 hu,lY I3.hok eb,xs,dd,hxz,λv hv=>?_,λhn h' Hi hs=>?_}
 ·have r:=rel.val k;rw[hv] at r
  cases q:c9 A6 k with
  |none=>rw[q] at r;exact r.elim
  |some v'=>rw[q] at r;exact{v',H3,I3.tok _,r,qa v' q}
 ·have r:=rel.val k;rw[hn] at r
  cases q:c9 A6 k with
  |some v'=>rw[q] at r;exact r.elim
  |none=>
   have rp:=rel.put k eb rz;rw[Do _ q] at rp;let⟨q',es,ep,hq,h2,h3,h4,_,h5⟩:=Hi;refine{z,_,pB (ob:=.dT (A6++[(k,z)])) I3 (by rw[ea];exact True.intro) hs {q',hq} {by rw[Bp];exact hz,hd,_,rp.keeps λc ys ec=>?_,q',es,ep,hq,h2,h3,h4,h5},rz,qb q};rw[aB (DW ec ea (λz=>nomatch z))];exact ec
def oG (K:AP)(m:Tf)(H:Hp)(A6:T5 (Th×R))(es:T5 (T5 aI×V)):Prop:=es.map (·.1)=A6.map (λp=>kk p.1)/\aW K m H (A6.map (·.2)) (es.map (·.2))
noncomputable def jT (A6:T5 (Th×R))(k:Th):UE R:=(A6.find? λp=>decide (p.1=k)).map (·.2)
section
variable {K:AP}{m m':Tf}{H H':Hp}
def oG.nil:oG K m H [] []:={rfl,rfl}
def oG.cons {k:Th}{k':T5 aI}{d:R}{v:V}{A6:T5 (Th×R)}{es:T5 (T5 aI×V)}:oG K m H ((k,d)::A6) ((k',v)::es) ↔ k'=kk k/\aq K m H d v/\oG K m H A6 es:=by
 constructor
 ·rintro⟨h1,h2⟩;rwa[AZ,List.cons.injEq] at h1;let⟨w,r,e,h3,h4⟩:=h2;rwa[AZ,List.cons.injEq] at e;let⟨rfl,rfl⟩:=e;exact{h1.1,h3,h1.2,h4}
 ·rintro⟨rfl,h1,h2,h3⟩;exact{by simp[h2],{_,_,rfl,h1,h3}}
theorem oG.snoc {k:Th}{d:R}{v:V}(rd:aq K m H d v):∀{A6:T5 (Th×R)} {es:T5 (T5 aI×V)},oG K m H A6 es->oG K m H (A6++[(k,d)]) (es++[(kk k,v)])
 |[],[],_=>oG.cons.mpr {rfl,rd,.nil}
 |[],e::es,h=>by have:=h.1;simp at this
 |q::A6,[],h=>by have:=h.1;simp at this
 |(a,x)::A6,(b,y)::es,h=>by let⟨rfl,h1,h2⟩:=oG.cons.mp h;exact oG.cons.mpr {rfl,h1,oG.snoc rd h2}
theorem oG.val:∀{A6:T5 (Th×R)} {es:T5 (T5 aI×V)} (k:Th),oG K m H A6 es->(jT A6 k=none/\c9 es (kk k)=none)\/∃d v,jT A6 k=some d/\c9 es (kk k)=some v/\aq K m H d v
 |[],es,k,h=>by
  have:es=[]:=by simpa using h.1
  subst this;exact .inl {rfl,rfl}
 |(a,d)::A6,[],k,h=>by have:=h.1;simp at this
 |(a,d)::A6,(b,v)::es,k,h=>by
  let⟨rfl,h1,h2⟩:=oG.cons.mp h;by_cases e:a=k
  ·refine .inr {d,v,?_,?_,h1}
   ·simp[jT,e]
   ·simp[c9,e]
  ·have ih:=oG.val k h2;have e1:jT ((a,d)::A6) k=jT A6 k:=(by simp[jT,e]);have e2:c9 ((kk a,v)::es) (kk k)=c9 es (kk k):=iZ λz=>e (qw z);rw[e1,e2];exact ih
def oG.ext (x:dF m H m' H'){A6:T5 (Th×R)}{es:T5 (T5 aI×V)}(h:oG K m H A6 es):oG K m' H' A6 es:={h.1,aW.ext x h.2}
def oG.len {A6:T5 (Th×R)}{es:T5 (T5 aI×V)}(h:oG K m H A6 es):es.length=A6.length:=by simpa using AQ List.length h.1
end
noncomputable def iC (U:ac)(n:Nat):UE (T5 (Th×R)):=match U[n]? with|some (.dtr A6)=>some A6|_=>none
def uM {m:Tf}{H:Hp}{U:ac}{n:Nat}{a:A4}{A6:T5 (Th×R)}(s:aP K m H U)(ha:m[n]?=some a)(e:iC U n=some A6):U[n]?=some (.dtr A6)/\∃es,H a=some (.dT es)/\oG K m H A6 es:=by
 unfold iC at e;split at e
 ·rename_i q
  cases e;let⟨es,ea,e1,e2⟩:=s.cell _ _ a q ha;exact{q,es,ea,e1,e2}
 ·cases e
noncomputable def HN:FE:=λ_ U=>some (.p U.length,U++[.dtr []])
def Ld {H:Hp}{Q:VK}(h:ay K HN Y H Q):xE Y H Q:=by let⟨O,U,m,d,U',hl,hs,e,k⟩:=h;cases e;intro p hp;have x:dF m H (m++[p]) (upd H p (.dT [])):=.newH hp;exact k _ _ (m++[p]) x (hs.newH hp {[],bP,rfl,rfl}) {p,rfl,by rw[←hs.len];simp}
noncomputable def qJ (fo fk fx:FE):FE:=λO U=>(fo O U).bind λo=>match o.1 with
 |.p n=>if (iC o.2 n).isSome=true then (fk O o.2).bind λk=>match k.1 with
  |.v (.key ks)=>(fx O k.2).bind λx=>(iC x.2 n).bind λA6=>if A6.length<1000 then some (match jT A6 ks with|some r=>(r,x.2)|none=>(x.1,x.2.set n (.dtr (A6++[(ks,x.1)])))) else none
  |_=>none
  else none
 |_=>none
def JF7 {H:Hp}{Q:VK}{fo fk fx}(h:ay K (qJ fo fk fx) Y H Q):Cp (ay K fo) (ay K fk) (ay K fx) Y H Q:=by
 let⟨O,U,m,d,U',hl,hs,e,kc⟩:=h;let⟨⟨o,U1⟩,e1,e⟩:=AS.mp e;split at e
 ·rename_i n hn;simp only at hn;subst hn;split at e
  ·rename_i h0;let⟨⟨k,U2⟩,e2,e⟩:=AS.mp e;split at e
   ·rename_i ks GL;simp only at GL;subst GL;let⟨⟨x,U3⟩,e3,e⟩:=AS.mp e;let⟨A6,e4,e⟩:=AS.mp e;split at e
    ·rename_i An;refine{O,U,m,_,U1,hl,hs,e1,λvo H1 m1 x1 s1 r1=>?_};let⟨kvs0,e0⟩:=zb3.mp h0;let⟨a,rfl,ha⟩:=r1;let⟨_,es,hR,hK⟩:=uM s1 ha e0;refine{a,rfl,.inr {es,.inl hR},?_};refine{O,U1,m1,_,U2,hl.ext x1,s1,e2,λvk H2 m2 x2 s2 r2=>?_};refine{O,U2,m2,x,U3,hl.ext (x1.trans x2),s2,e3,λvx H3 m3 x3 s3 r3=>?_};have x13:=(x1.trans x2).trans x3;have K5:m3[n]?=some a:=by let⟨a',ea',q⟩:=aq.ext (x2.trans x3) (show aq K m1 H1 (.p n) (.ref a) from{a,rfl,ha});cases ea';exact q
     let⟨q3,BE,Fs,F4⟩:=uM s3 K5 e4;have Hk:=r2.ext x3;rwa[aq,ak] at Hk;let⟨b,rfl,hb⟩:=Hk;refine{BE,kk ks,b,Fs,rfl,by rw[wa];exact hb,?_,λv hv=>?_,λhv=>?_}
     ·rw[F4.len];exact C1 An (by rw[CK];omega)
     ·rcases oG.val ks F4 with⟨n1,n2⟩|⟨dd,vv,n1,n2,n3⟩
      ·rw[n2] at hv;cases hv
      ·rw[n2] at hv;cases hv;rwa[n1] at e;cases e;exact kc _ H3 m3 x13 s3 n3
     ·rcases oG.val ks F4 with⟨n1,n2⟩|⟨dd,vv,n1,n2,n3⟩
      ·rwa[n1] at e
       cases e;have y:dF m3 H3 m3 (upd H3 a (.dT (BE++[(kk ks,vx)]))):=.put (CU K5) Fs ∅ ∅;have kr:=oG.snoc (k:=ks) (r3.ext y) (F4.ext y);exact kc _ _ m3 (x13.trans y) (s3.put K5 Fs ∅ ∅ {_,bP,kr.1,kr.2}) (r3.ext y)
      ·rw[n2] at hv;cases hv
    ·cases e
   ·cases e
  ·cases e
 ·cases e
noncomputable def EH (fo fk:FE):FE:=λO U=>(fo O U).bind λo=>(fk O o.2).bind λk=>match o.1,k.1 with
 |.p n,.v (.key ks)=>(iC k.2 n).bind λA6=>(jT A6 ks).bind λd=>some (d,k.2)
 |_,_=>none
def KO {H:Hp}{Q:VK}{fo fk}(h:ay K (EH fo fk) Y H Q):Cq (ay K fo) (ay K fk) Y H Q:=by
 let⟨O,U,m,d,U',hl,hs,e,kk'⟩:=h;let⟨⟨o,U1⟩,e1,e⟩:=AS.mp e;let⟨⟨k,U2⟩,e2,e⟩:=AS.mp e;dsimp only at e;split at e
 ·rename_i n ks e0;let⟨A6,e3,e⟩:=AS.mp e;let⟨dd,e4,e⟩:=AS.mp e;cases e;refine{O,U,m,_,U1,hl,hs,e1,λvo H1 m1 x1 s1 r1=>?_};refine{O,U1,m1,_,_,hl.ext x1,s1,e2,λvk H2 m2 x2 s2 r2=>?_};let⟨a,rfl,ha⟩:=r1.ext x2;rwa[aq,ak] at r2;let⟨b,rfl,hb⟩:=r2;let⟨_,es,ea,kd⟩:=uM s2 ha e3;rcases oG.val ks kd with⟨n1,n2⟩|⟨d',v',n1,n2,n3⟩
  ·rw[n1] at e4;cases e4
  ·rw[n1] at e4;cases e4;exact{a,v',rfl,.inr {es,kk ks,b,.inl ea,rfl,by rw[wa];exact hb,n2.symm},kk' _ H2 m2 (x1.trans x2) s2 n3}
 ·cases e
noncomputable def so:T5 R->ac->UE (R×ac)
 |[.p n],U=>(iC U n).bind λA6=>if A6.length<64/\(A6.length<2\/∀p∈A6,p.1≠[]) then some (.p U.length,U++[.lst ((bj (A6.map (·.1))).map D.key)]) else none
 |_,_=>none
def JGe {K:AP}:yT K so vJ:=by
 intro m H U xs d U' vs Q s r e k;unfold so at e;split at e
 ·rename_i n;let⟨A6,e1,e⟩:=AS.mp e;split at e
  ·rename_i hc
   cases e;let⟨v,rfl,r1⟩:=mI r;let⟨a,rfl,ha⟩:=r1;let⟨_,es,ea,kd⟩:=uM s ha e1;refine{a,es,A6.map (·.1),rfl,ea,by rw[kd.1,CY];rfl,by simpa using hc.1,λh2 x hx=>?_,λas pa l hl=>?_}
   ·rw[Az] at h2;let⟨p,hp,rfl⟩:=BH.mp hx;rcases hc.2 with h|h
    ·omega
    ·exact h p hp
   ·let⟨x1,x2,x3⟩:=gE s (pa.rels (K:=K)) hl;exact k _ _ _ x1 x2 x3
  ·cases e
 ·cases e
mutual
noncomputable def eG:D->D
 |.tup xs=>.tup (unkDs xs)
 |.fl xs=>.fl (unkDs xs)
 |.key ks=>.tup (ks.map D.int)
 |.fd ks ds=>.fd ks ds
 |.non=>.non
 |.bl b=>.bl b
 |.int i=>.int i
 |.str x=>.str x
noncomputable def unkDs:T5 D->T5 D
 |[]=>[]
 |x::xs=>eG x::unkDs xs
end
theorem r6:∀xs:T5 D,unkDs xs=xs.map eG
 |[]=>by rwa[unkDs,CS]
 |x::xs=>by rwa[unkDs,AZ,r6 xs]
section
variable {K:AP}{H:Hp}
mutual
theorem ak.unk:∀(d:D) (v:V),ak K H d v->ak K H (eG d) v
 |.non,_,h=>by simpa only[eG] using h
 |.bl _,_,h=>by simpa only[eG] using h
 |.int _,_,h=>by simpa only[eG] using h
 |.str _,_,h=>by simpa only[eG] using h
 |.fd _ _,_,h=>by simpa only[eG] using h
 |.tup xs,v,h=>by rwa[eG,ak] at h ⊢;let⟨a,vs,e,s,r⟩:=h;exact{a,vs,e,s,RelDs.unk xs vs r}
 |.fl xs,v,h=>by rwa[eG,ak] at h ⊢;let⟨a,vs,e,s,r⟩:=h;exact{a,vs,e,s,RelDs.unk xs vs r}
 |.key ks,v,h=>by rwa[eG,ak] at h ⊢;let⟨a,e,q⟩:=h;exact{a,_,e,.inl (.inl q),kZ ks}
theorem RelDs.unk:∀(ds:T5 D) (vs:T5 V),RelDs K H ds vs->RelDs K H (unkDs ds) vs
 |[],_,h=>by simpa only[unkDs] using h
 |d::ds,vs,h=>by rwa[unkDs,RelDs] at h ⊢;let⟨v,r,e,h1,h2⟩:=h;exact{v,r,e,ak.unk d v h1,RelDs.unk ds r h2}
end
end
noncomputable def uk {Z:Type}(f:T5 D->Z):T5 D->Z:=λds=>f (unkDs ds)
def r9 (ds:T5 D):(unkDs ds).length=ds.length:=by rw[r6,Az]
def Ob {n:Nat}{f:MF}{vs:T5 V}{H:Hp}{Q:VK}{E:XK}(h:BU K n (uk f) vs H Q E):BU K n f vs H Q E:=by let⟨ds,d,hl,r,e,k⟩:=h;exact{unkDs ds,d,(r9 ds).trans hl,RelDs.unk ds vs r,e,k}
def Kz {n:Nat}{f:T5 D->UE aw}{vs:T5 V}{H:Hp}{Q:VK}{E:XK}(h:AH K n (cX K (uk f)) vs H Q E):AH K n (cX K f) vs H Q E:=by let⟨ds,P,hl,r,e,k⟩:=h;exact{unkDs ds,P,(r9 ds).trans hl,RelDs.unk ds vs r,e,k}
noncomputable def rh:R->R
 |.v d=>.v (eG d)
 |x=>x
noncomputable def Nq:aw->aw
 |.lst xs=>.lst (unkDs xs)
 |.fz xs=>.fz (unkDs xs)
 |c=>c
noncomputable def AA (U:ac):ac:=U.map Nq
theorem ie.unk {m:Tf}{H:Hp}{c:aw}{a:A4}(h:ie K m H c a):ie K m H (Nq c) a:=by
 cases c with
 |lst xs=>let⟨vs,e,r⟩:=h;exact{vs,e,RelDs.unk xs vs r}
 |fz xs=>let⟨o,vs,e,r⟩:=h;exact{o,vs,e,RelDs.unk xs vs r}
 |_=>exact h
def aP.unk {m:Tf}{H:Hp}{U:ac}(s:aP K m H U):aP K m H (AA U) :=
 {s.nd,by rw[s.len,AA,Az],λi c a e1 e2=>by rw[AA,CG] at e1;let⟨c',q1,q2⟩:=DY.mp e1;subst q2;exact(s.cell i c' a q1 e2).unk}
theorem aq.unk {m:Tf}{H:Hp}{x:R}{v:V}(h:aq K m H x v):aq K m H (rh x) v:=by
 cases x with
 |v d=>exact ak.unk d v h
 |_=>exact h
noncomputable def FN (neg:A8):R->R->ac->UE (R×ac):=λx y U=>(gq neg (rh x) (rh y) (AA U)).bind λr=>some (r.1,U)
def Pk {neg:A8}:rf K (FN neg) (GH K neg):=by
 intro m H U x y d U' v u Q s rx ry e k;let⟨⟨r,U1⟩,e1,e⟩:=AS.mp e;cases e;have e0:=e1;unfold gq at e1;let⟨a,q1,e1⟩:=AS.mp e1;let⟨b,q2,e1⟩:=AS.mp e1;split at e1
 ·cases e1;exact{m,AA U,rh x,rh y,_,s.unk,rx.unk,ry.unk,e0,k _ H m .refl s (by rwa[aq,ak])}
 ·cases e1
end HW
namespace L2
open PyProof.Rows
noncomputable def Ie (o:B0):Nat:=match o.data with|.dict _ ep=>ep|_=>0
end L2
namespace HW
open PyProof.Rows L2
end HW
namespace HW
abbrev M3 (h:AI)(z TI TO T:A4)(fl:A8):Prop :=
 h.get? z=some {cls:=.type "zip",dict:=none,data:=.fields #[rawInt T,.bool fl,.bool false,.ref TI,.ref TO],slots:=#[]}
open L2 PyProof.Rows
structure UF (h:Heap)(S z TI TO i1 i2 l1 l2:Addr)(xs ys:Ti)(k:Nat):Prop where
 st:(k=0/\IsZip h z TI TO .none/\IsPair h TO .none .none)\/∃T fl oT,M3 h z TI TO T fl/\h.get? T=some oT/\T∉[S,z,TO,i1,i2]
 ti:IsPair h TI (.ref i1) (.ref i2)
 h1:h.IsListIter i1 l1 k
 h2:h.IsListIter i2 l2 k
 l1:h.IsList l1 xs
 l2:h.IsList l2 ys
 to:∃o,h.get? TO=some o
end HW
namespace HK
open PyProof.Rows L2
def JDt:entryFor table "dict_itemiterator.__iter__" = some Builtin.«dict_keyiterator.__iter__»:=entryFor_alias (id':="dict_keyiterator.__iter__") (by kernel_rfl) rfl ∅ (by kernel_rfl)
section
variable {prog:A9}{w:AM}{A:AL}{E:Tb}{s:A1}{d it v:A4}{es:AD DictEntry}{ep i:Nat}{ok ov:A3}
def Mr {Q:Tb}(nd:(d == sysModules)=false)(m:DE s.heap d es ep)
  (fin:Q (.ref s.heap.objs.size) {s with heap:=s.heap.push {cls:=.type "dict_items",data:=.fields #[.ref d]}}):wpAny (model prog w) A (call (.builtin "dict.items") [.ref d]) Q E s:=by
 refine C5 F.slot_dict_items m.ty F.entry_dict_items ?_ (F.args_dict_items_1 _);unfold Builtin.«dict.items» Builtin.Dict.noArgs;refine AB (AB (zbX m.ty (show wpAny _ _ (pure d) _ _ s from AN (show wpAny _ _ (Builtin.Dict.showsAll d >>= _) _ _ s from ?_))));unfold Builtin.Dict.showsAll;rw[A5 (show ¬ (d == sysModules)=true by rw[nd];decide)];exact AB (AN (AB (CN (AN {_,rfl,fin}))))
def O3 {Q:Tb}(y:s.heap.IsItemsView v d)(m:DE s.heap d es ep)
  (fin:Q (.ref s.heap.objs.size) {s with heap:=s.heap.push {cls:=.type "dict_itemiterator",data:=.fields #[.none,.bool false,.ref d,.int 0 0,.int es.size 0,.int ep 0,.none,.none]}}):wpAny (model prog w) A (pyIter (.ref v)) Q E s:=by
 obtain⟨ob,g,x,dt⟩:=id m;obtain⟨oy,gy,cy,dy⟩:=id y;refine zbM y.typeIs F.slot_dict_items_iter (C5 F.slot_dict_items_iter y.typeIs F.entry_dict_items_iter ?_ (F.args_dict_items_iter_1 _));unfold Builtin.«dict_items.__iter__» Builtin.Dict_items.dictOf Builtin.Dict_items.newIterator;refine AB (AN (AB (AB (Gq gy dy (x:=.ref d) rfl (AN (AB (AB (GQ g dt (AB (zcc g dt ?_))))))))));rwa[show Builtin.Dict_items.ownsTuple "dict_itemiterator" = true by decide,if_true];refine CN (AN {_,rfl,"dict_itemiterator",_,{_,BI _ rfl,rfl},F.slot_dict_itemiterator_next.lookup,?_}) (by simp[sizeOk,Builtin.Dict_items.ownedTupleFields,CK]);simpa[rawInt,Builtin.Dict_items.ownedTupleFields] using fin
def O2z {n:Nat}{Q:Tb}(k:IsItemIter s.heap it d i n ep ok ov)(h:Q (.ref it) s):wpAny (model prog w) A (pyIter (.ref it)) Q E s:=by
 have ty:s.TypeIs (.ref it) "dict_itemiterator":={_,k,rfl};refine zbM ty F.slot_dict_itemiterator_iter (C5 F.slot_dict_itemiterator_iter ty JDt ?_ (F.args_dict_itemiterator_iter_1 _))
 show wpAny _ _ (ret (.ref it)) _ _ s
 exact AN {_,rfl,"dict_itemiterator",_,ty,F.slot_dict_itemiterator_next.lookup,h}
def OW {e:DictEntry}{Q:UE A3->A1->Prop}(k:IsItemIter s.heap it d i es.size ep ok ov)(m:DE s.heap d es ep)(ge:es[i]?=some e)
  (fin:∀h',IsItemIterOut h' it d (i+1) es.size ep e.key e.val s.heap.objs.size->h'.get? s.heap.objs.size=some {cls:=.type "tuple",data:=.seq #[e.key,e.val]}->h'.objs.size=s.heap.objs.size+1 ->
   (∀b o,b≠it->s.heap.get? b=some o->h'.get? b=some o)->Q (some (.ref s.heap.objs.size)) {s with heap:=h'}):wpAny (model prog w) A (pyNext (.ref it)) Q E s:=by
 obtain⟨hp,gs,dr,tk,os⟩:=s;obtain⟨ob,g,x,dt⟩:=id m;have ty:Shared.TypeIs ⟨hp,gs,dr,tk,os⟩ (.ref it) "dict_itemiterator":={_,k,rfl};have lt:=B4 k;unfold pyNext;refine AB (Gv (GV (name:=Str.ofString "__next__") ty F.slot_dict_itemiterator_next (C5 F.slot_dict_itemiterator_next ty F.entry_dict_itemiterator_next ?_ (F.args_dict_itemiterator_next_1 _))));refine AB (AN (AB (AB ?_)))
 first|refine AB (zcd ty (AN (AB (Gx k rfl ?_))))|refine AB (wpAny_typeNameOf_itemiter ty (AN (AB (Gx k rfl ?_))))
 rwa[show Builtin.Dict_items.ownsTuple "dict_itemiterator" = true by decide,if_true];refine(show wpAny _ _ (if (Value.ref d == Value.none)=true then _ else _) _ _ _ from ?_);rw[A5 (show ¬ ((Value.ref d == Value.none)=true) by exact Eo)];refine AB (AN (AB (GQ g dt ?_)));rw[A5 (show ¬ _ by simp)];refine AB (AN (AB (zcc g dt ?_)));rw[A5 (show ¬ _ by simp)];refine AN ?_;rwa[show ¬ ((i:Int)<0) by omega,if_false,Gs,ge];refine AB ?_
 first|refine AB (zcd ty (AN (AB (zbV ty ?_))))|refine AB (wpAny_typeNameOf_itemiter ty (AN (AB (zbV ty ?_))))
 refine(show wpAny _ _ (setField (.ref it) 3 (rawInt ((i:Int)+1)) >>= _) _ _ _ from AB (zce k ∅ λh₁ k₁ c₁=>?_));have c₁:Heap.SameBut it hp h₁:=c₁
 have k₁:IsItemIter h₁ it d (i+1) es.size ep ok ov:=by
  unfold IsItemIter;rw[show((i+1:Nat):Int)=(i:Int)+1 by omega];simpa[rawInt] using k₁
 refine AB (Bg (AB (zbV (s:={h₁,gs,dr,tk,os}) {_,k₁,rfl} (AB (zbV (s:={h₁,gs,dr,tk,os}) {_,k₁,rfl} ?_)))));refine(show wpAny _ _ (Builtin.Dict_items.pairFromOwner (.ref it) 6 e.key e.val) _ _ _ from ?_);unfold Builtin.Dict_items.pairFromOwner;refine AB (wpAny_newTuple ?_);have kk:∀b o,b≠it->hp.get? b=some o->(h₁.push {cls:=.type "tuple",data:=.seq #[e.key,e.val]}).get? b=some o:=λb o hb q=>AY _ (c₁.extBut b o hb q);have k₂:IsItemIter (h₁.push {cls:=.type "tuple",data:=.seq #[e.key,e.val]}) it d (i+1) es.size ep ok ov:=AY _ k₁
 have gt:(h₁.push {cls:=.type "tuple",data:=.seq #[e.key,e.val]}).get? hp.objs.size=some {cls:=.type "tuple",data:=.seq #[e.key,e.val]}:=by rw[←c₁.1];exact BI _ rfl
 have sz:(h₁.push {cls:=.type "tuple",data:=.seq #[e.key,e.val]}).objs.size=hp.objs.size+1:=by rw[Du,c₁.1]
 refine(show wpAny _ _ (Builtin.Dict_items.ownedTupleIsFree (.ref it) >>= _) _ _ {h₁.push {cls:=.type "tuple",data:=.seq #[e.key,e.val]},gs,dr,tk,os} from ?_);rw[c₁.1];generalize h₁.push {cls:=.type "tuple",data:=.seq #[e.key,e.val]}=h₂ at kk k₂ gt sz;clear k₁ c₁;unfold Builtin.Dict_items.ownedTupleIsFree;refine AB (AB (Gq k₂ rfl (x:=.none) rfl (AN ?_)));rwa[if_true];refine AB (Gq k₂ rfl (x:=ok) rfl (AB (Gq k₂ rfl (x:=ov) rfl ?_)))
 have key:∀h₃,Heap.SameBut it h₂ h₃->h₃.get? hp.objs.size=some {cls:=.type "tuple",data:=.seq #[e.key,e.val]}/\h₃.objs.size=hp.objs.size+1/\∀b o,b≠it->hp.get? b=some o->h₃.get? b=some o:=λh₃ c=>
  {c.extBut _ _ (D4 lt) gt,c.1.trans sz,λb o hb q=>c.extBut b o hb (kk b o hb q)}
 refine AB (zce k₂ ∅ λh₃ k₃ c₃=>?_);have k₃:IsItemIter h₃ it d (i+1) es.size ep e.key ov:=k₃;refine AB (zce k₃ ∅ λh₄ k₄ c₄=>?_);have k₄:IsItemIter h₄ it d (i+1) es.size ep e.key e.val:=k₄;refine AB (zce k₄ ∅ λh₅ k₅ c₅=>?_);have k₅:IsItemIterOut h₅ it d (i+1) es.size ep e.key e.val hp.objs.size:=k₅;refine AB (zce k₅ ∅ λh₆ k₆ c₆=>?_);have k₆:IsItemIterOut h₆ it d (i+1) es.size ep e.key e.val hp.objs.size:=k₆;let⟨a1,a2,a3⟩:=key h₆ (((Heap.SameBut.trans c₃ c₄).trans c₅).trans c₆);exact AB (wpAny_letGo (AN (AN {_,rfl,AN (fin h₆ k₆ a1 a2 a3)})))
def wi:WK prog w "dict_itemiterator" "dict_itemiterator.__next__" 2:={F.slot_dict_itemiterator_next,F.entry_dict_itemiterator_next,F.args_dict_itemiterator_next_1,by decide,λ_ _ _ _ y=>{λ_=>zcd y,λ_ _=>zbV y}}
def OY {Q:UE A3->A1->Prop}(hh:A.handled=none)(k:IsItemIter s.heap it d es.size es.size ep ok ov)(m:DE s.heap d es ep)
  (fin:∀h',Heap.ExtBut it s.heap h'->Q none {s with heap:=h'}):wpAny (model prog w) A (pyNext (.ref it)) Q E s:=Ea wi hh k rfl rfl rfl m fin
end
end HK
namespace L2
open PyProof.Rows HK
def SF (a:A4)(o:B0)(es:T5 (T5 aI×V)):It :=
 {λi H=>H a=some (.frz o (.dT es))/\i<es.length,λi H v H'=>∃T b kv,es[i]?=some kv/\v=.ref T/\H T=none/\H b=some (.tup (kv.1.map kV))/\H'=upd H T (.tup [.ref b,kv.2]),λi H=>H a=some (.frz o (.dT es))/\es.length<=i}
noncomputable def wO (o:B0):AD DictEntry:=match o.data with|.dict es _=>es|_=>#[]
def EB {H:Hp}{h:AI}{a:A4}{o:B0}{es:T5 (T5 aI×V)}(ok:jg P w H h)(e:H a=some (.frz o (.dT es))) :
  (a == sysModules)=false/\DE h a (wO o) (Ie o)/\(wO o).size=es.length/\∀(i:Nat) kv,es[i]?=some kv->∃b u,be kv.2 u/\H b=some (.tup (kv.1.map kV))/\∃en,(wO o)[i]?=some en/\en.key=.ref b/\en.val=u:=by
 let⟨q1,_,q3,xs,q4,o',BE,ep,r1,r2,r3,r4,r5⟩:=(show bo P w H h a (.frz o (.dT es)) from ok a _ e);have z:=q1.symm.trans r1;cases z
 have e1:wO o=BE:=by unfold wO;rw[r3]
 have e2:Ie o=ep:=by unfold Ie;rw[r3]
 rw[e1,e2];refine{q3,{o,r1,r2,r3},?_,λi kv hi=>?_}
 ·rw[←DS,r4,Az,←Paired.length q4]
 ·have key:∀{es:T5 (T5 aI×V)} {xs:T5 (T5 aI×A4×A3)} {i:Nat} {kv},Paired (λ(p:T5 aI×V) (q:T5 aI×A4×A3)=>p.1=q.1/\H q.2.1=some (.tup (p.1.map kV))/\be p.2 q.2.2) es xs->es[i]?=some kv->∃x,xs[i]?=some x/\H x.2.1=some (.tup (kv.1.map kV))/\be kv.2 x.2.2:=by
   intro es xs i kv p
   induction p generalizing i with
   |nil=>intro z;simp at z
   |cons r t ih=>
    intro z
    cases i with
    |zero=>rwa[zbO,Option.some.injEq] at z;subst z;exact{_,rfl,r.2.1,r.2.2}
    |succ i=>let⟨x,h1,h2⟩:=ih ‹z›;exact{x,by simpa using h1,h2}
  let⟨x,h1,h2,h3⟩:=key q4 hi;refine{x.2.1,x.2.2,h3,h2,entryOfKey (tupleKind (bB P w)) x,?_,rfl,rfl};rw[←GU,r4,CG,h1];rfl
def xB {K:AP}{elts:Tj}{x1}(a it:A4)(o:B0)(es:T5 (T5 aI×V)):BQ P w K (.Tuple elts x1 pos) (SF a o es) [it] it (λi h=>i<=(wO o).size/\∃ok ov,IsItemIter h it a i (wO o).size (Ie o) ok ov) where
 mem:=by simp
 obj:=λi h st b hb=>by
  have e:b=it:=by simpa using hb
  subst e;let⟨_,ok,ov,q⟩:=st;exact{_,q,λv z=>by
   have z':Data.fields _=Data.cell v:=z
   cases z'}
 keep:=λi h h' st k=>by let⟨z,ok,ov,q⟩:=st;exact{z,ok,ov,k it ∅ _ q}
 item:=by
  intro X hP hw hK hc i A2 s Y H E I hf st hg;subst hP hw hK;obtain⟨hq,hi⟩:=hg;obtain⟨_,ok,ov,st⟩:=st;obtain⟨hd,de,hsz,at_⟩:=EB I.hok hq;have hx:es[i]?=some es[i]:=Bl hi;obtain⟨b,u,ru,hb,en,g1,g2,g3⟩:=at_ i _ hx;have ilt:it<s.heap.objs.size:=B4 st;have nT:H s.heap.objs.size=none:=I.hok.fresh (B3 _);refine OW st de g1 λh1 o1 hT hsz1 kk=>{_,rfl,wpAny_letOwnedTupleGo_items o1 λh2 he2 sb=>?_};rw[g2,g3] at hT;have tup:bo X.prog X.w (upd H s.heap.objs.size (.tup [.ref b,es[i].2])) (s.heap.push {cls:=.type "tuple",data:=.seq #[.ref b,u]}) s.heap.objs.size (.tup [.ref b,es[i].2]) :=
   {(by decide:2<=sizeLine),[.ref b,u],.cons rfl (.cons ru .nil),kU.new _ _}
  have I1:=I.laid (t':=s.toks) (λb o q=>AY _ q) (B3 _) tup;have Hh:h2.get? s.heap.objs.size=some {cls:=.type "tuple",data:=.seq #[.ref b,u]}:=(sb.2 _ (D4 ilt)).trans hT;have I2:aD X A2 Y (upd H s.heap.objs.size (.tup [.ref b,es[i].2])) {s with heap:=h2,toks:=s.toks}:=by
   refine aD.turnedL (s:={s with heap:=s.heap.push {cls:=.type "tuple",data:=.seq #[.ref b,u]}}) (its:=[it]) I1 (λc o hc q=>?_) λc hc=>?_
   ·have hc1:c≠it:=λz=>hc (by simp[z]);by_cases hcT:c=s.heap.objs.size
    ·subst hcT;have q:(s.heap.push {cls:=.type "tuple",data:=.seq #[.ref b,u]}).get? s.heap.objs.size=some o:=q;rw[BI _ rfl] at q;cases q;exact Hh
    ·have q:(s.heap.push {cls:=.type "tuple",data:=.seq #[.ref b,u]}).get? c=some o:=q;have An:c<s.heap.objs.size:=by have h0:=B4 q;rw[Du] at h0;exact Nat.lt_of_le_of_ne (Nat.le_of_lt_succ h0) hcT
     have q0:s.heap.get? c=some o:=(by rw[←q];exact(JFi An).symm);exact(sb.2 c hc1).trans (kk c o hc1 q0)
   ·let⟨f0,f1,f2,f3,f4,f5⟩:=hf c hc;have hcT:c≠s.heap.objs.size:=by have z:c=it:=‹hc›;rw[z];exact BG ilt
    exact{by rw[aB hcT];exact f0,f1,f3,f4,f5}
  refine{.ref s.heap.objs.size,_,I2,rfl,{_,b,_,hx,rfl,nT,hb,rfl},{by rw[hsz];exact hi,_,_,he2},λc hc=>?_};have hcT:c≠s.heap.objs.size:=by have z:c=it:=‹hc›;rw[z];exact BG ilt
  rw[aB hcT];exact(hf c hc).1
 done:=by
  intro X hP hw hK hc i A2 s Y H E I hf st hg;subst hP hw hK;let⟨hq,hi⟩:=hg;let⟨z,ok,ov,st⟩:=st;let⟨hd,de,hsz,_⟩:=EB I.hok hq;let⟨f0,f1,f2,f3,f4,f5⟩:=hf it ∅;have Cm:i=(wO o).size:=by omega
  rw[Cm] at st;exact OY (I.ok.hd hc) st de λh' eb=>{rfl,I.turned (t':=s.toks) (λb o hb e=>eb b o hb e) f0 f1 f3 f4 f5}
 self:=λ_ _ _ _ _ st h=>by let⟨_,ok,ov,st⟩:=st;exact O2z st h
def Et (tl:TE):TI:=λY H R=>tl Y H λx H1=>∃a o es,x=.ref a/\H1 a=some (.frz o (.dT es))/\R (SF a o es) H1
def JCy {X:Cx}{elts:Tj}{x1}{pt apos AW:Pos}{o:AR}{tl:TE}(hl:PE X o tl)(Bb:attributeBase o "items" X.env (eval o X.env)=eval o X.env)(BL:(apos.endLine == AW.line)=true) :
  PI X (.Tuple elts x1 pt) (.Call (.Attribute o "items" apos) [] [] AW) (Et tl):=by
 intro A2 s Y H R I h;refine zcG Bb rfl BL PySem.F.plainAttrs_dict PySem.F.slot_dict_items PySem.F.type_dict_items (da (hl A2 s Y H _ I h) λu s1 hh=>?_);obtain⟨x,H1,I1,rx,a,o,es,ex,hq,q⟩:=hh;subst ex;obtain rfl:u=Value.ref a:=rx;obtain⟨t1,t2,_⟩:=uA I1 (.inr {es,.inr {o,hq}});refine{t1,t2,Calls.callWith_builtin rfl (PySem.evalArgs_none ?_)};obtain⟨hd,de,hsz,at_⟩:=EB I1.hok hq;refine Mr hd de ?_;refine O3 (v:=s1.heap.objs.size) (d:=a) {_,BI _ rfl,rfl,rfl} (de.at λob g=>AY _ g) ?_;have I2:aD X A2 Y H1 {s1 with heap:=s1.heap.push {cls:=.type "dict_items",data:=.fields #[.ref a]}}:=I1.kept (t':=s1.toks) λb o e=>AY _ e;refine{_,[_],_,_,H1,rfl,I2.kept (t':=s1.toks) λb o e=>AY _ e,xB a _ o es,{Cy _,_,_,BI _ rfl},λb hb=>?_,q};have e:=Bm.mp hb;rw[e];exact I2.fpOk (B3 _) (I2.hok.fresh (B3 _))
end L2
namespace HW
variable {K:AP}
open PyProof.Rows L2
noncomputable def Tp:R->ac->UE (T5 (Th×D)×ac)
 |.p n,U=>match U[n]? with|some (.dt A6)=>some (A6,U.set n (.fzt A6))|some (.fzt A6)=>some (A6,U)|_=>none
 |_,_=>none
abbrev Rj (p:Th×D):D:=.tup [.key p.1,p.2]
noncomputable def HL (f:FE):FI:=λO U=>(f O U).bind λa=>(Tp a.1 a.2).bind λb=>some (b.1.map Rj,b.2)
def iX.tf {H H':Hp}{A6:T5 (Th×D)}{es:T5 (T5 aI×V)}(t:TF H H')(h:iX K H A6 es):iX K H' A6 es:={h.1,RelDs.tf t _ _ h.2}
theorem iX.at {H:Hp}{A6:T5 (Th×D)}{es:T5 (T5 aI×V)}(h:iX K H A6 es){i:Nat}{p:Th×D}(e:A6[i]?=some p):∃v,es[i]?=some (kk p.1,v)/\ak K H p.2 v:=by
 let⟨v,q,r⟩:=h.2.get (i:=i) (d:=p.2) (by rw[CG,e];rfl);have k1:(es.map (·.1))[i]?=some (kk p.1):=by rw[h.1,CG,e];rfl
 rw[CG] at q k1
 cases z:es[i]? with
 |none=>rw[z] at q;cases q
 |some y=>
  rw[z] at q k1;have q:=Option.some.inj q;have k1:=Option.some.inj k1;exact{v,AQ some (Prod.ext k1 q),r}
def Ei {a:A4}{o:B0}{es:T5 (T5 aI×V)}{A6:T5 (Th×D)}:J8 K (SF a o es) (A6.map Rj) (λH=>H a=some (.frz o (.dT es))/\iX K H A6 es) where
 st:=λH H' t p=>{t.frz _ _ _ p.1,p.2.tf t}
 stop:=λi H p hi=>{p.1,by have:=AQ List.length p.2.1;simp at this hi;omega}
 go:=λi d H e p=>{p.1,by
  have h1:=(C3.mp e).1;have:=AQ List.length p.2.1;simp at this h1;omega}
 yld:=λi d H x H' e p y=>by let⟨T,b,kv,e1,e2,e3,e4,e5⟩:=y;rw[CG] at e;let⟨q,hq,hd⟩:=DY.mp e;let⟨v,z,r⟩:=p.2.at hq;rw[e1] at z;cases z;subst e2 e5 hd;refine{p6 e3,?_};rwa[ak];refine{T,[.ref b,v],rfl,gM.of bz,?_};rwa[RelDs,ak];exact{_,_,rfl,{b,rfl,by rw[p6 e3 b _ e4,wa]},_,_,rfl,ak.tf (wI (m:=[]) (p6 e3)).tf _ _ r,rfl}
theorem K7 {H:Hp}{R:It->Hp->Prop}{f}(h:GD K (HL f) Y H R):Et (Qa (ay K f)) Y H R:=by
 let⟨O,U,m,xs,U',hl,hs,e,k⟩:=h;let⟨⟨x,U1⟩,e1,e⟩:=AS.mp e;let⟨⟨A6,U2⟩,e2,e⟩:=AS.mp e;cases e;refine{O,U,m,x,U1,hl,hs,e1,λv H1 m1 x1 s1 r1=>?_}
 cases x with
 |p n=>
  let⟨a,rfl,ha⟩:=r1;rwa[Tp] at e2;split at e2
  ·rename_i A6 q
   cases e2;let⟨es,ea,ke,rr⟩:=s1.cell n _ a q ha;refine .inr {a,_,ea,trivial,λo=>?_};have x:dF m1 H1 m1 (upd H1 a (.frz o (.dT es))):=.put (CU ha) ea ∅ ∅;exact{a,o,es,rfl,bP,k _ _ _ m1 (x1.trans x) (s1.put ha ea ∅ ∅ {o,es,bP,ke,RelDs.tf x.tf _ _ rr}) Ei {bP,ke,RelDs.tf x.tf _ _ rr}}
  ·rename_i A6 q
   cases e2;let⟨o,es,ea,ke,rr⟩:=s1.cell n _ a q ha;exact .inl {a,o,es,rfl,ea,k _ _ _ m1 x1 s1 Ei {ea,ke,rr}}
  ·cases e2
 |_=>cases e2
end HW
namespace HS
open PyProof.Rows
def P1 (S:A4)(wr:Tf)(h h':AI):Prop:=∀b o,b≠S->b∉wr->h.get? b=some o->h'.get? b=some o
noncomputable def LB {K:Type}[DecidableEq K](xs ps:T5 (K×A4×A3)):T5 (K×A4×A3):=ps.foldl (λa p=>storedH a p.1 p.2.1 p.2.2) xs
def vp {K:Type}[DecidableEq K]{xs:T5 (K×A4×A3)}{k:K}{a:A4}{v:A3}{x:K×A4×A3}(h:x∈storedH xs k a v):(∃y∈xs,y.1=x.1/\y.2.1=x.2.1)\/(x.1=k/\x.2.1=a):=by
 unfold storedH at h;split at h
 ·let⟨y,hy,rfl⟩:=BH.mp h;refine .inl {y,hy,?_};unfold putAt;split <;> exact{rfl,rfl}
 ·rcases D7.mp h with h|h
  ·exact .inl {x,h,rfl,rfl}
  ·rw[Bm.mp h];exact .inr {rfl,rfl}
def vq {K:Type}[DecidableEq K](xs:T5 (K×A4×A3))(k:K)(a:A4)(v:A3):(storedH xs k a v).length<=xs.length+1:=by unfold storedH;split <;> simp
section
variable {prog:A9}{w:AM}{A:AL}{E:Tb}{s:A1}{R:Result->A1->Prop}{I:A4}{fp wr:Tf}{n:Nat}{P:Nat->A3->Prop}{St:Nat->AI->Prop}
theorem yI {K:Type}[DecidableEq K]{knd:HeapKind prog w K}(W:Walks prog w A.in1 I fp wr n P St)(S:A4)(Bh:S∉fp)(HZ:knd.room A.in1)(ps:T5 (K×A4×A3))(DF:ps.length=n)(h₀:AI)
  (hP:∀i v,P i v->∃p,ps[i]?=some p/\ic h₀ v (.ref p.2.1) p.2.2/\(∀h,P1 S wr h₀ h->knd.is h p.1 p.2.1)/\∀a,v=.ref a->a≠S/\a∉wr) :
  ∀(k i:Nat) (s:A1) (c:Int) (xs:T5 (K×A4×A3)),n-i=k->i<=n->St i s.heap->P1 S wr h₀ s.heap->s.heap.DictOfH knd S xs->(∀x∈xs,∀h,P1 S wr h₀ h->knd.is h x.1 x.2.1)->xs.length+k<=sizeLine ->
   (∀h' tk,P1 S wr s.heap h'->h'.DictOfH knd S (LB xs (ps.drop i))->R (.ok (.ret .none)) {s with heap:=h',toks:=tk}) ->
   codeAny (model prog w) A (.builtin "dict.update.loop" {[.ref S,.ref I,.int c 0,.none],[]}) R s:=by
 have nw:S∉wr:=λh=>Bh (W.sub _ h);intro k
 induction k with
 |zero=>
  intro i s c xs hk hi CL h0 hS ha hb hR
  have Ck:i=n:=by omega
  subst Ck;refine DN gJ ?_;rw[Dv cK _];refine(show wpAny _ A.in1 (pyNext (.ref I) >>= _) _ _ s from AB (W.done s _ _ CL λh' tk C2=>?_));refine(show wpAny _ A.in1 (do Builtin.Dict.addKeywords S [];ret Value.none) _ _ _ from AB (show wpAny _ _ (pure ()) _ _ _ from AN (AN ?_)));refine hR h' tk (λb o _ hb e=>C2 b o hb e) ?_;rw[zcH ∅];let⟨o,es,ep,ho,r1,r2,r3,r4,r5⟩:=hS;exact{o,es,ep,C2 S o nw ho,r1,r2,r3,λx hx=>ha x hx h' λb o n1 n2 e=>C2 b o n2 (h0 b o n1 n2 e),r5}
 |succ k ih=>
  intro i s c xs hk hi CL h0 hS ha hb hR
  have An:i<n:=by omega
  refine DN gJ ?_;rw[Dv cK _];refine(show wpAny _ A.in1 (pyNext (.ref I) >>= _) _ _ s from AB (W.item i s _ _ An CL λv h1 tk1 hPv Ht Gk=>?_));let⟨p,Gg,FZ,BN,K4⟩:=hP i v hPv;have h01:P1 S wr h₀ h1:=λb o n1 n2 e=>Gk b o n2 (h0 b o n1 n2 e);have Dl:ic h1 v (.ref p.2.1) p.2.2:=FZ.keep λa o e q=>Gk a o (K4 a e).2 (h0 a o (K4 a e).1 (K4 a e).2 q);let⟨a,o,cc,rfl,ho,hc,hd⟩:=Dl.ex
  have hS1:h1.DictOfH knd S xs:=by
   let⟨o,es,ep,ho,r1,r2,r3,r4,r5⟩:=hS;exact{o,es,ep,Gk S o nw ho,r1,r2,r3,λx hx=>ha x hx h1 h01,r5}
  refine AB (Bg (AB (wpAny_tryCatch ?_)));unfold Builtin.Dict.pairItems;refine AB (FU (T:="tuple") {o,ho,hc} ?_);rw[A7 ∅];refine AB (zcl ho hd (AN ?_));refine(show wpAny _ _ (holding [.ref p.2.1,p.2.2] (dictSet S (.ref p.2.1) p.2.2)) _ _ _ from Bg (wpAny_dictSet_heap (s:={s with heap:=h1,toks:=tk1}) HZ (BN h1 h01) hS1 (λh2 F3 DB=>?_) ∅))
  have DH:ps.drop i=p::ps.drop (i+1):=by
   let⟨hl,e⟩:=C3.mp Gg;rw[zbu hl,e]
  have hlen:=vq xs p.1 p.2.1 p.2.2;refine AN {F5 cK _,ih (i+1) {s with heap:=h2,toks:=tk1+knd.draws p.1} (c+1) _ ∅ An (W.frame _ h1 _ Ht λb hb o e=>?_) (λb o n1 n2 e=>?_) F3 (λx hx=>?_) ∅ λh' Br C2 hD=>?_}
  ·rw[DB.2 b (λh:b=S=>Bh (h ▸ hb))];exact e
  ·rw[DB.2 b n1];exact h01 b o n1 n2 e
  ·rcases vp hx with⟨y,hy,e1,e2⟩|⟨e1,e2⟩
   ·rw[←e1,←e2];exact ha y hy
   ·rw[e1,e2];exact BN
  ·refine hR h' Br (λb o n1 n2 e=>C2 b o n1 n2 ?_) (by rw[DH];exact hD)
   show h2.get? b=some o
   rw[DB.2 b n1];exact Gk b o n2 e
def JA8 {K:Type}[DecidableEq K]{kn:KeyKind prog w K}{l:A4}{its:Ti}{c:Nat}{ps:T5 (T5 K×A4×A3)}{Q:Tb}
  (hu:A.units+32<cLine) (hh:A.handled=none) (hl:s.heap.get? l=some {cls:=.type "list",data:=.seq its c}) (DF:ps.length=its.size) (hz:its.size<=sizeLine)
  (hP:∀(i:Nat) v,its[i]?=some v->∃p,ps[i]?=some p/\ic s.heap v (.ref p.2.1) p.2.2/\(tupleKind kn).is s.heap p.1 p.2.1)
  (h:∀(h':AI) (tk:Nat),h'.DictOfH (tupleKind kn) s.heap.objs.size (LB [] ps)->(∀b o,s.heap.get? b=some o->h'.get? b=some o)->Q (.ref s.heap.objs.size) {s with heap:=h',toks:=tk}) :
  wpAny (model prog w) A (call (.type "dict") [.ref l]) Q E s:=by
 refine sY hh hl (λh2 tk2 R' Eu hlI Bh hl3 F3 kk=>?_) h
 refine yI (Walks.list (by simp[hh]) h2.objs.size l hlI its) s.heap.objs.size Bh (show _<cLine by show A.units+1+1<cLine;omega) ps DF s.heap (λi v hv=>?_) (its.size-0) 0 _ 0 [] ∅ (Cy _)
  {{_,BI _ rfl,rfl,rfl},hl3.push _} (λb o _ _ e=>AY _ (Eu _ _ (AY _ e)))
  {cx,#[],0,AY _ F3,{rfl,rfl,rfl},rfl,rfl,λe he=>by simp at he,zcE} (λx hx=>nomatch hx) ‹hz› λh' Br C2 hD=>kk h' Br C2 ‹hD›
 let⟨p,e1,e3,e2⟩:=hP i v hv;refine{p,e1,e3,λh kp=>?_,λa e=>?_}
 ·let⟨o,items,n,g1,g2,g3,g4⟩:=e2
  refine{o,items,n,kp _ _ (BG (B4 g1)) ?_ g1,g2,g3,g4};rwa[BA,DV,or_false];exact BG (B4 (Eu _ _ (AY _ g1)))
 let⟨a',o',c',q1,q2,_,_⟩:=e3.ex;rw[q1] at e;cases e;refine{BG (B4 q2),?_};rwa[BA,DV,or_false];exact BG (B4 (Eu _ _ (AY _ q2)))
end
end HS
namespace HW
open PyProof.Rows L2 HS
def yR (K:AP)(H:Hp):T5 V->T5 (T5 aI×V)->Prop:=Paired λv kv=>∃t b,v=.ref t/\gM K H t [.ref b,kv.2]/\H b=some (.tup (kv.1.map kV))
noncomputable def vO (A6 ps:T5 (T5 aI×V)):T5 (T5 aI×V):=ps.foldl (λa p=>eF a p.1 p.2) A6
def JDg {Z:Type}[DecidableEq Z](A6:T5 (Z×V))(k:Z)(v:V):(eF A6 k v).length<=A6.length+1:=by unfold eF;split <;> simp
theorem vN:∀(ps A6:T5 (T5 aI×V)),(vO A6 ps).length<=A6.length+ps.length
 |[],_=>by simp[vO]
 |p::ps,A6=>by
  have:=vN ps (eF A6 p.1 p.2);have:=JDg A6 p.1 p.2
  show(vO (eF A6 p.1 p.2) ps).length<=_
  rw[C0];omega
theorem JDe {H:Hp}{ps:T5 (T5 aI×V)}{qs:T5 (T5 aI×A4×A3)}(r:KT H ps qs):∀{A6:T5 (T5 aI×V)} {xs:T5 (T5 aI×A4×A3)},KT H A6 xs->KT H (vO A6 ps) (LB xs qs):=by
 induction r with
 |nil=>intro A6 xs h;exact h
 | @cons a b _ _ h t ih=>
  intro A6 xs q;have:=KT.put q _ h.2.1 h.2.2;refine ih (show KT H (eF A6 a.1 a.2) (storedH xs b.1 b.2.1 b.2.2) from ?_);rw[←h.1];exact this
theorem JAd {X:Cx}{H:Hp}{s:A1}(I:aD X A2 Y H s){ws:T5 V}{A6:T5 (T5 aI×V)}(p:yR X.K H ws A6):∀{its:Te},aR ws its ->
  ∃ps:T5 (T5 aI×A4×A3),KT H A6 ps/\ps.length=its.length/\∀(i:Nat) v,its[i]?=some v->∃p,ps[i]?=some p/\ic s.heap v (.ref p.2.1) p.2.2/\(tupleKind (bB X.prog X.w)).is s.heap p.1 p.2.1:=by
 induction p with
 |nil=>intro its v;cases v;exact{[],.nil,rfl,λi v e=>by simp at e}
 | @cons _ kv _ _ hp tp ih=>
  intro its v
  cases v with
  |cons hv tv=>
   let⟨ps,a1,a2,a3⟩:=ih tv;let⟨t,b,rfl,hs,hb⟩:=hp;cases hv;let⟨js,r,⟨o,ho,hc,n,hd⟩,_⟩:=I.tuple hs
   cases r with
   |cons r1 rr=>
    cases rr with
    |cons r2 rr=>
     cases rr;cases r1
     rename_i x
     refine{(kv.1,b,x)::ps,.cons {rfl,hb,r2} a1,by simp[a2],λi v e=>?_}
     cases i with
     |zero=>simp at e;subst e;exact{_,rfl,{t,o,n,rfl,ho,hc,hd},lY I.hok hb}
     |succ i=>simpa using a3 i v ‹e›
def De (K:AP):T5 V->Hp->VK->Prop:=λvs H Q=>∃p ws A6,vs=[.ref p]/\jV K H p ws/\yR K H ws A6/\ws.length<=sizeLine/\∀l,H l=none->Q (.ref l) (upd H l (.dT (vO [] A6)))
def yL {X:Cx}(hu:X.A.units+64<cLine)(hc:X.calm=true):fm X (.type "dict") (De X.K):=by
 intro A2 s Y H vs us Q I r h;let⟨p,ws,A6,rfl,hH,hp,hws,q⟩:=h;let⟨u,rfl,rx⟩:=ij r;cases rx;let⟨its,n,rv,e⟩:=yr I hH;let⟨ps,a1,a2,a3⟩:=JAd I hp rv;have hk:A6.length=its.length:=by have:=Paired.length a1;omega
 have hi:=rv.length;refine JA8 (kn:=bB X.prog X.w) (ps:=ps) ∅ (I.ok.hd hc) e ‹a2› (by simp;omega) (λi v hv=>a3 i v ‹hv›) λh' tk hD kp=>?_;have hz:(vO [] A6).length<=sizeLine:=by have:=vN A6 [];simp at this;omega
 let⟨o,es,ep,g1,g2,g3,g4,_,g5⟩:=hD;have fr:=I.hok.fresh (B3 s.heap.objs.size);refine{.ref s.heap.objs.size,_,I.laid (t':=tk) kp (B3 _) (show bo X.prog X.w _ h' _ (.dT _) from{hz,beq_eq_false_iff_ne.mpr (D4 I.big),_,(JDe a1 .nil).keeps λb ys eb=>?_,o,es,ep,g1,g2,g3,g4,g5}),rfl,q _ fr};rw[aB (λz=>by rw[z,fr] at eb;cases eb)];exact eb
noncomputable def ky:T5 D->UE (T5 (Th×D))
 |[]=>some []
 |d::r=>match d with|.tup [.key k,x]=>(ky r).map ((k,x) :: ·)|_=>none
noncomputable def k9 (A6 ps:T5 (Th×D)):T5 (Th×D):=ps.foldl (λa p=>fT a p.1 p.2) A6
noncomputable def sZ:T5 R->ac->UE (R×ac)
 |[x],U=>(xM x U).bind λds=>(ky ds).bind λA6=>if ds.length<1000 then some (.p U.length,U++[.dt (k9 [] A6)]) else none
 |_,_=>none
theorem qm {K:AP}{H:Hp}:∀{ds:T5 D} {ws:T5 V} {A6:T5 (Th×D)},ky ds=some A6->RelDs K H ds ws->∃qs,yR K H ws qs/\∀{k0 e0},iX K H k0 e0->iX K H (k9 k0 A6) (vO e0 qs)
 |[],ws,A6,e,r=>by cases e;have r:ws=[]:=r;subst r;exact{[],.nil,λh=>h}
 |d::ds,ws,A6,e,r=>by
  let⟨v,FX,rfl,r1,r2⟩:=r;unfold ky at e;split at e
  ·rename_i k x;let⟨ks,e1,rfl⟩:=DY.mp e;let⟨qs,p1,p2⟩:=qm e1 r2;rwa[ak] at r1;let⟨a,vs,rfl,hq,hr⟩:=r1;let⟨v1,t1,rfl,h1,hr⟩:=hr;let⟨v2,t2,rfl,h2,hr⟩:=hr;have hr:t2=[]:=hr;subst hr;rwa[ak] at h1;let⟨b,rfl,hb⟩:=h1;exact{(kk k,v2)::qs,.cons {a,b,rfl,hq,by rw[wa];exact hb} p1,λh=>p2 (h.put h2)}
  ·cases e
def JGf {K:AP}:yT K sZ (De K):=by
 intro m H U xs d U' vs Q s r e k;unfold sZ at e;split at e
 ·let⟨ds,e0,e⟩:=AS.mp e;let⟨A6,e1,e⟩:=AS.mp e;split at e
  ·rename_i An
   cases e;let⟨v,rfl,r1⟩:=mI r;let⟨a,ws,rfl,ea,ra⟩:=o7 s e0 r1;let⟨qs,p1,p2⟩:=qm e1 ra;refine{a,ws,qs,rfl,ea,p1,by rw[←ra.length,CK];omega,λl hl=>?_};have x:dF m H (m++[l]) (upd H l (.dT (vO [] qs))):=.newH hl;have hk:=p2 (k0:=[]) (e0:=[]) {rfl,rfl};refine k _ _ (m++[l]) x (s.newH hl {_,bz,hk.1,RelDs.tf x.tf _ _ hk.2}) {l,rfl,?_};rw[←s.len];simp
  ·cases e
 ·cases e
noncomputable def Bw (fo fk fx:FE):FE:=λO U=>(fo O U).bind λo=>match o.1 with
 |.p n=>if (uN o.2 n).isSome=true then (fk O o.2).bind λk=>match k.1 with
  |.v (.key ks)=>(fx O k.2).bind λx=>match x.1 with
   |.v d=>(uN x.2 n).bind λA6=>if A6.length<1000 then some (match lL A6 ks with|some r=>(.v r,x.2)|none=>(.v d,x.2.set n (.dt (A6++[(ks,d)])))) else none
   |_=>none
  |_=>none
  else none
 |_=>none
def KY {K:AP}{H:Hp}{Q:VK}{fo fk fx}(h:ay K (Bw fo fk fx) Y H Q):Cp (ay K fo) (ay K fk) (ay K fx) Y H Q:=by
 let⟨O,U,m,d,U',hl,hs,e,kc⟩:=h;let⟨⟨o,U1⟩,e1,e⟩:=AS.mp e;split at e
 ·rename_i n hn;simp only at hn;subst hn;split at e
  ·rename_i h0;let⟨⟨k,U2⟩,e2,e⟩:=AS.mp e;split at e
   ·rename_i ks GL;simp only at GL;subst GL;let⟨⟨x,U3⟩,e3,e⟩:=AS.mp e;split at e
    ·rename_i dx hx;simp only at hx;subst hx;let⟨A6,e4,e⟩:=AS.mp e;split at e
     ·rename_i An;refine{O,U,m,_,U1,hl,hs,e1,λvo H1 m1 x1 s1 r1=>?_};let⟨kvs0,e0⟩:=zb3.mp h0;let⟨a,rfl,ha⟩:=r1;let⟨es,hR,hK⟩:=sX s1 ha e0;refine{a,rfl,.inr {es,.inl hR},?_};refine{O,U1,m1,_,U2,hl.ext x1,s1,e2,λvk H2 m2 x2 s2 r2=>?_};refine{O,U2,m2,_,U3,hl.ext (x1.trans x2),s2,e3,λvx H3 m3 x3 s3 r3=>?_};have x13:=(x1.trans x2).trans x3;have K5:m3[n]?=some a:=by let⟨a',ea',q⟩:=aq.ext (x2.trans x3) (show aq K m1 H1 (.p n) (.ref a) from{a,rfl,ha});cases ea';exact q
      let⟨BE,Fs,F4⟩:=sX s3 K5 e4;have Hk:=r2.ext x3;rwa[aq,ak] at Hk;let⟨b,rfl,hb⟩:=Hk;refine{BE,kk ks,b,Fs,rfl,by rw[wa];exact hb,?_,λv hv=>?_,λhv=>?_}
      ·have:=AQ List.length F4.1;simp at this
       rw[this];exact C1 An (by rw[CK];omega)
      ·rcases iX.val ks F4 with⟨n1,n2⟩|⟨dd,vv,n1,n2,n3⟩
       ·rw[n2] at hv;cases hv
       ·rw[n2] at hv;cases hv;rwa[n1] at e;cases e;exact kc _ H3 m3 x13 s3 n3
      ·rcases iX.val ks F4 with⟨n1,n2⟩|⟨dd,vv,n1,n2,n3⟩
       ·rwa[n1] at e
        cases e;have y:dF m3 H3 m3 (upd H3 a (.dT (BE++[(kk ks,vx)]))):=.put (CU K5) Fs ∅ ∅;have kr:=iX.snoc (k:=ks) (ak.tf y.tf _ _ r3) (F4.tf y.tf);exact kc _ _ m3 (x13.trans y) (s3.put K5 Fs ∅ ∅ {_,bP,kr.1,kr.2}) (ak.tf y.tf _ _ r3)
       ·rw[n2] at hv;cases hv
     ·cases e
    ·cases e
   ·cases e
  ·cases e
 ·cases e
end HW
namespace HS
open PyProof.Rows
def JCf {m:Nat}(hm:m∈cV)(h:Int){j:Nat}(hj:j<m+1):∃t,t<turns m/\(iL m t (bits h%(m+1)) (bits h)).1=j:=by
 have hb:bits h<2 ^ 64:=by unfold bits;have:=zcC h (show(0:Int)<2 ^ 64 by decide);have:=zcT h (show(2 ^ 64:Int)≠0 by decide);omega
 have hp:(iL m 13 (bits h%(m+1)) (bits h)).2=0:=by rw[xN];exact Nat.div_eq_of_lt (HG hb ∅)
 have hi:(iL m 13 (bits h%(m+1)) (bits h)).1<m+1:=t0 m _ _ _ (zc7 _ ∅);let⟨t,ht,e⟩:=zK hm hi hj;refine{13+t,by unfold turns;omega,?_};rw[p4,hp,nA,e]
noncomputable def db (t:SetTable):Nat->Probe->Probe
 |0,p=>p
 |n+1,p=>db t n (t.advance p)
theorem qY (t:SetTable):∀(a b:Nat) (p:Probe),db t (a+b) p=db t b (db t a p)
 |0,b,p=>by rw[zcn];rfl
 |a+1,b,p=>by rw[Nat.succ_add];exact qY t a b _
def tG (t:SetTable)(n:Nat)(p:Probe):db t (n+1) p=t.advance (db t n p):=qY t n 1 p
noncomputable def fr (m i p:Nat):Probe:={j:=i,more:=runEnd m i-i,i:=i,perturb:=p,dummy:=none}
theorem As (t:SetTable)(i pb:Nat):∀(k j:Nat),db t (k+1) {j:=j,more:=k,i:=i,perturb:=pb,dummy:=none}=fr t.mask (leap t.mask i pb).1 (leap t.mask i pb).2
 |0,j=>by
  show db t 1 _=_
  unfold db db advance;rw[A5 ∅];rfl
 |k+1,j=>by
  have e:t.advance {j:=j,more:=k+1,i:=i,perturb:=pb,dummy:=none}={j:=j+1,more:=k,i:=i,perturb:=pb,dummy:=none}:=by unfold advance;rw[A7 ∅];rfl
  show db t (k+1) (t.advance _)=_
  rw[e];exact As t i pb k (j+1)
def KI (m i:Nat):runEnd m i-i<=9:=by unfold runEnd;split <;> omega
theorem xi (t:SetTable):∀(k i p:Nat),∃n,n<=10*k/\db t n (fr t.mask i p)=fr t.mask (iL t.mask k i p).1 (iL t.mask k i p).2
 |0,i,p=>{0,by omega,rfl}
 |k+1,i,p=>by let⟨n,h1,h2⟩:=xi t k (leap t.mask i p).1 (leap t.mask i p).2;have:=KI t.mask i;refine{(runEnd t.mask i-i+1)+n,by omega,?_};rw[qY];unfold fr at h2 ⊢;rw[As t i p (runEnd t.mask i-i) i];exact h2
def JCq (t:SetTable)(h:Int):t.probeStart h=fr t.mask (bits h%(t.mask+1)) (bits h):=rfl
theorem zY (j:Nat):SetTable.has #[] j=false:=rfl
def jq (t:SetTable)(hd:t.dummies = #[])(j:Nat):(t.slot j=.empty/\t.place[SetTable.below t.place j]?≠some j)\/(t.slot j=.live (SetTable.below t.place j)/\t.place[SetTable.below t.place j]?=some j):=by
 unfold SetTable.slot;by_cases c:t.place[SetTable.below t.place j]?=some j
 ·right;exact{by simp[c],c}
 ·left;refine{?_,c};have:(t.place[SetTable.below t.place j]? == some j)=false:=by simpa using c
  rwa[this,hd,zY,Bc,if_false]
def JF1 (t:SetTable)(hf:t.place.size<=t.mask):∃j,j<t.mask+1/\j∉t.place.toList:=by
 apply Classical.byContradiction;intro hn;have CM:∀j∈List.range (t.mask+1),j∈t.place.toList:=λj hj=>Classical.byContradiction λc=>hn {j,G0.mp hj,c};have key:∀(l m:T5 Nat),l.Nodup->(∀x∈l,x∈m)->l.length<=m.length:=by
  intro l;induction l with
  |nil=>intro m _ _;exact Cy _
  |cons x l ih=>
   intro m hn h;let⟨h1,h2⟩:=By.mp hn;have hx:=h x BB;have:=ih (m.erase x) h2 λy hy=>(List.mem_erase_of_ne (λe=>by subst e;exact h1 hy)).mpr (h y (BF _ hy));rw[List.length_erase_of_mem hx] at this
   have:0<m.length:=List.length_pos_of_mem hx;rwa[C0];omega
 have:=key _ _ zc9 CM;rw[List.length_range,DS] at this
 omega
def MT {t:SetTable}(hm:t.mask∈cV)(hd:t.dummies = #[])(hf:t.place.size<=t.mask)(h:Int):∃N,N<10*turns t.mask/\t.slot (db t N (t.probeStart h)).j=.empty:=by
 let⟨j,h1,h2⟩:=JF1 t hf;let⟨k,k1,k2⟩:=JCf hm h h1;let⟨n,n1,n2⟩:=xi t k (bits h%(t.mask+1)) (bits h);refine{n,by omega,?_};rw[JCq,n2,k2];rcases jq t hd (fr t.mask j (iL t.mask k (bits h%(t.mask+1)) (bits h)).2).j with c|c
 ·exact c.1
 ·exfalso;exact h2 (by have:=Array.mem_of_getElem? c.2;rw[zcq];exact this)
def JBj (t:SetTable)(p:Probe):(t.advance p).dummy=p.dummy:=by unfold advance;split <;> rfl
theorem qX (t:SetTable):∀(n:Nat) (p:Probe),(db t n p).dummy=p.dummy
 |0,_=>rfl
 |n+1,p=>(qX t n _).trans (JBj t p)
theorem Ex {t:SetTable}(hashAt:Nat->Int)(h:Int)(hd:t.dummies = #[]){N:Nat}{p:Probe}(hp:p.dummy=none)(hE:t.slot (db t N p).j=.empty):∀(f m:Nat),m<=N->N-m<f ->
  (∃j,probe.go t hashAt h f (db t m p)=some (.empty j none)/\t.slot j=.empty) \/
  (∃n i,m<=n/\n<N/\probe.go t hashAt h f (db t m p)=some (.candidate (db t n p).j i (db t (n+1) p))/\t.slot (db t n p).j=.live i/\hashAt i=h)
 |0,m,_,h2=>by omega
 |f+1,m,h1,h2=>by
  unfold probe.go;rcases jq t hd (db t m p).j with⟨c,_⟩|⟨c,c'⟩
  ·rw[c]
   exact .inl {_,by rw[qX,hp],c}
  ·rw[c]
   have hmN:m<N:=by
    rcases zcO m N with z|z
    ·exact z
    ·have:m=N:=by omega
     subst this;rw[hE] at c;cases c
   by_cases q:hashAt (SetTable.below t.place (db t m p).j)=h
   ·right
    refine{m,_,B3 _,hmN,?_,c,q};rwa[q,zcs,if_true];rw[tG]
   ·have q':(hashAt (SetTable.below t.place (db t m p).j) == h)=false:=by simpa using q
    rwa[q',Bc,if_false];rw[←tG];rcases Ex hashAt h hd hp hE f (m+1) hmN ∅ with z|⟨n,i,z1,z2,z3⟩
    ·exact .inl z
    ·exact .inr {n,i,by omega,z2,z3}
section
variable {prog:A9}{w:AM}{A:AL}{E:Tb}{s:A1}
abbrev oH (prog:A9)(w:AM)(h:AI)(ks:Th)(a:A4):Prop:=IsTupleKey (intKind prog w) h ks a
theorem items_int {prog:A9}{ks:Th}{vs:Te}(h:ItemsAre (intKind prog w) ks vs):∀v∈vs,∃n t,v=.int n t:=by
 induction h with
 |nil=>intro v hv;simp at hv
 | @cons k v' ks vs h1 _ ih=>
  intro v hv;rcases BA.mp hv with rfl|hv
  ·cases v with
   |int n t=>exact{n,t,rfl}
   |_=>simp[intKind,Value.isInt] at h1
  ·exact ih v hv
def wZ {ks:Th}{a:A4}{Q:A8->A1->Prop}(hk:oH prog w s.heap ks a)(h:Q false s):wpAny (model prog w) A (ofAClassStatement 8 (.ref a)) Q E s:=by
 have hT:=hk.typeIs;let⟨o,items,n,ho,_,hd,hi⟩:=hk;have CM:=items_int hi;unfold ofAClassStatement;refine AB (FU hT ?_);dsimp only;rw[A7 ∅];refine AB (AN ?_);rwa[E6,Bc,if_false];refine AB (zcl ho hd ?_);dsimp only;refine AB ?_;rw[←Array.forIn_toList];refine zcL _ (λrest r s'=>r.1=none/\s'=s/\∀v∈rest,∃n t,v=Value.int n t) _ ?_ ?_ _ _ {rfl,rfl,CM}
 ·rintro v rest r s' ⟨hr,rfl,hv⟩;let⟨m,t,rfl⟩:=hv v BB;refine AB (show wpAny _ _ (pure false) _ _ _ from AN ?_);rwa[Bc,if_false];exact AN {rfl,rfl,λu hu=>hv u (BF _ hu)}
 ·rintro⟨r1,r2⟩ s' ⟨hr,rfl,_⟩;simp only at hr;subst hr;exact AN h
def JA3 {ks:Th}{a:A4}{Q:A8->A1->Prop}(hk:oH prog w s.heap ks a)(h:Q true s):wpAny (model prog w) A (hashByValue 8 (.ref a)) Q E s:=by
 have hT:=hk.typeIs;let⟨o,items,n,ho,_,hd,hi⟩:=hk;have CM:=items_int hi;unfold hashByValue;refine AB (zcy hT F.slot_tuple_hash.lookup ?_);dsimp only;refine AB (zcl ho hd ?_);refine AB ?_
 show wpAny _ _ (forIn items _ _) _ _ s
 rw[←Array.forIn_toList];refine zcL _ (λrest r s'=>r.1=none/\s'=s/\∀v∈rest,∃n t,v=Value.int n t) _ ?_ ?_ _ _ {rfl,rfl,CM}
 ·rintro v rest r s' ⟨hr,rfl,hv⟩;let⟨m,t,rfl⟩:=hv v BB;refine AB (show wpAny _ _ (pure true) _ _ _ from AN ?_);rwa[E6,Bc,if_false];exact AN {rfl,rfl,λu hu=>hv u (BF _ hu)}
 ·rintro⟨r1,r2⟩ s' ⟨hr,rfl,_⟩;simp only at hr;subst hr;exact AN h
def JA5 {ks:Th}{a:A4}{ys:Te}{Q:A8->A1->Prop}(hk:oH prog w s.heap ks a)(hy:∀y∈ys,∃b ls,y=.ref b/\oH prog w s.heap ls b)(h:Q false s):wpAny (model prog w) A (searchCouldBeSeen (.ref a) ys) Q E s:=by
 unfold searchCouldBeSeen;refine AB ?_;refine zcL _ (λrest r s'=>r.1=none/\s'=s/\∀y∈rest,∃b ls,y=Value.ref b/\oH prog w s.heap ls b) _ ?_ ?_ _ _ {rfl,rfl,hy}
 ·rintro y rest r s' ⟨hr,rfl,hv⟩;let⟨b,ls,rfl,hb⟩:=hv y BB;have nx:∀r':UE A8×Unit,r'.1=none->r'.1=none/\s'=s'/\∀y∈rest,∃b ls,y=Value.ref b/\oH prog w s'.heap ls b:=λr' e=>{e,rfl,λu hu=>hv u (BF _ hu)};dsimp only;split
  ·exact AN (nx _ rfl)
  ·refine AB (wpAny_eqIsQuiet_tuple hk ?_);rwa[E6,Bc,if_false];refine AB (wpAny_eqIsQuiet_tuple hb ?_);rwa[E6,Bc,if_false];refine AB (wZ hk ?_);rwa[Bc,if_false];refine AB (wZ hb ?_);rwa[Bc,if_false];exact AN (nx _ rfl)
 ·rintro⟨r1,r2⟩ s' ⟨hr,rfl,_⟩;simp only at hr;subst hr;exact AN h
structure rZ (prog:Program)(w:World)(led:Bool)(h:Heap)(es:Array (Int×Value))(t:SetTable)(vs:Te):Prop where
 W:mq led es t
 ms:t.mask∈cV
 dm:t.dummies = #[]
 pl:t.plain=true
 lo:t.place.size*5<t.mask*3
 pm:(es.toList.map (·.2)).Perm vs
 el:∀e∈es.toList,∃b ls,e.2=.ref b/\oH prog w h ls b
def Mu {t:SetTable}{HA:Nat->Int}{h:Int}(hd:t.dummies = #[]){N:Nat}{p:Probe}(hp:p.dummy=none)(hE:t.slot (db t N p).j=.empty){f m:Nat}(h1:m<=N)(h2:N-m<f){met:Met}(e:probe.go t HA h f (db t m p)=some met) :
  (∃j,met=.empty j none/\t.slot j=.empty)\/(∃n i,m<=n/\n<N/\met=.candidate (db t n p).j i (db t (n+1) p)/\t.slot (db t n p).j=.live i):=by
 rcases Ex HA h hd hp hE f m h1 h2 with⟨j,e',hj⟩|⟨n,i,n1,n2,e',hl,hq⟩
 ·rw[e'] at e;cases e;exact .inl {j,rfl,hj}
 ·rw[e'] at e;cases e;exact .inr {n,i,n1,n2,rfl,hl}
def JG8 {t:SetTable}{HA:Nat->Int}{h:Int}(hd:t.dummies = #[]){N:Nat}{p:Probe}(hp:p.dummy=none)(hE:t.slot (db t N p).j=.empty){f m:Nat}(h1:m<=N)(h2:N-m<f):∃met,probe.go t HA h f (db t m p)=some met:=by
 rcases Ex HA h hd hp hE f m h1 h2 with⟨j,e',hj⟩|⟨n,i,n1,n2,e',hl,hq⟩
 ·exact{_,e'}
 ·exact{_,e'}
def JC8:∀m∈cV,(m%2 == 0)=false:=by decide
theorem vA {S a:A4}{led:A8}{o:B0}{es:AD (Int×A3)}{ep:Nat}{t:SetTable}{vs:Te}{ks:Th}{hv:Int}{Q:SetFound->A1->Prop}(hu:A.units<cLine)(ho:s.heap.get? S=some o)(hd:o.data=.set es ep t)(T:rZ prog w led s.heap es t vs)(ha:oH prog w s.heap ks a)
  (BC:∀b ls,Value.ref b∈vs->oH prog w s.heap ls b->ls≠ks) {N:Nat} (hE:t.slot (db t N (t.probeStart hv)).j=.empty) (hN:N<10*turns t.mask) (h:∀j,t.slot j=.empty->Q (.free j false) s) :
  ∀(fuel m:Nat) (stand:UE Probe),m<=N->N-m<fuel->stand.getD (t.probeStart hv)=db t m (t.probeStart hv)->wpAny (model prog w) A (setSearchFrom S (.ref a) hv true fuel stand) Q E s
 |0,m,_,_,h2,_=>by omega
 |fuel+1,m,stand,h1,h2,h3=>by
  have hsz:t.place.size=es.size:=by have:=T.W.ft;simp[fits] at this;exact this.1
  unfold setSearchFrom;refine AB (Bi ho hd T.W.ft ?_);dsimp only;rw[A5 (by unfold gaveWay;rw[JC8 _ T.ms];exact Eo),h3];split
  ·rename_i met hm
   unfold probe at hm;rcases Mu T.dm (p:=t.probeStart hv) rfl hE h1 ∅ hm with⟨j,rfl,hj⟩|⟨n,i,n1,n2,rfl,hl⟩
   ·exact AN (h j hj)
   ·dsimp only
    have hi:i<es.size:=by
     rcases jq t T.dm (db t n (t.probeStart hv)).j with⟨c,_⟩|⟨c,c'⟩
     ·rw[c] at hl;cases hl
     ·rw[c] at hl
      cases hl;rw[←hsz];exact(zct.mp c').1
    have hel:=T.el es[i] ∅;let⟨b,ls,hb,hB⟩:=hel
    have Fj:es[i]?=some (es[i].1,.ref b):=by rw[CB hi,←hb]
    have hvs:Value.ref b∈vs:=T.pm.mem_iff.mp (BH.mpr {es[i],by simp,hb})
    have rest:wpAny (model prog w) A (match es[i]? with
     |some (fst,y)=>do
      let equal ←holding [y] (eqBool y (Value.ref a))
      let __x ←setState S
      match __x with
       |(BE,fst,t')=>
        if (true&&equal)=true then pure (SetFound.there none)
        else match t'.sameMemory t.moves t.mask with
         |some same=>do
          let still ←match if same=true then t'.slot (db t n (t.probeStart hv)).j else SetTable.Slot.empty with
           |SetTable.Slot.live i'=>match BE[i']? with
            |some (fst,y')=>do
             let __do_lift ←isSame y' y
             pure (if __do_lift=true then some i' else none)
            |none=>pure none
           |_=>pure none
          match still with
           |none=>do
            rule "set.search.anew"
            setSearchFrom S (Value.ref a) hv true fuel none
           |some i'=>if equal=true then pure (SetFound.there (some i')) else setSearchFrom S (Value.ref a) hv true fuel (some (db t (n+1) (t.probeStart hv)))
         |_=>unsupported "set.changed-during-lookup:is-the-new-block-at-the-old-address"
     |_=>unsupported "internal:set-entry") Q E s:=by
     rw[Fj];dsimp only;refine AB (Bg (wpAny_eqBool_tuple hu hB ha ?_));rw[Bf (BC b ls hvs hB)];refine AB (Bi ho hd T.W.ft ?_);dsimp only;rw[A5 ∅]
     have hsm:t.sameMemory t.moves t.mask=some true:=by unfold sameMemory;rw[A7 ∅]
     rw[hsm];dsimp only;rw[A7 rfl,hl];dsimp only;rw[Fj];dsimp only;refine AB (wpAny_isSame_ref_self (AB (AN ?_)));rw[A7 ∅];dsimp only;rw[A5 ∅];exact vA hu ho hd T ha BC hE hN h fuel (n+1) _ n2 ∅ rfl
    split
    ·refine AB (JA5 ha (λy hy=>?_) ?_)
     ·let⟨e,he,rfl⟩:=BH.mp hy
      have:e∈es.toList:=by have:=zcq.mp he;rw[Array.mem_filter] at this;exact zcq.mpr this.1
      let⟨b',ls',e1,e2⟩:=T.el e this;exact{b',ls',e1,e2}
     ·rwa[Bc,if_false]
      exact rest
    ·exact rest
  ·rename_i hm
   exfalso
   unfold probe at hm;exact(JG8 (f:=10*turns t.mask) T.dm (p:=t.probeStart hv) rfl hE h1 ∅).elim λmet e=>hm met e
def oH.same {h h':AI}{ks:Th}{a S:A4}{o:B0}{es:AD (Int×A3)}{ep:Nat}{t:SetTable}(x:oH prog w h ks a)(ho:h.get? S=some o)(hd:o.data=.set es ep t)(hs:Heap.SameBut S h h'):oH prog w h' ks a:=by
 let⟨o',items,n,Bq,hc,Fn,hi⟩:=x;have BC:a≠S:=by rintro rfl;obtain rfl:o'=o:=Option.some.inj (Bq.symm.trans ho);rw[hd] at Fn;exact nomatch Fn
 exact{o',items,n,(hs.2 a BC).trans Bq,hc,Fn,hi}
def JF2 {led:A8}{S:A4}{o:B0}{es:AD (Int×A3)}{ep:Nat}{t:SetTable}{vs:Te}{wanted:Nat}{Q:Unit->A1->Prop}(ho:s.heap.get? S=some o)(hx:o.ExactSet)(hd:o.data=.set es ep t)(G:mq led es t)(hpl:t.plain=true)(Ge:(es.toList.map (·.2)).Perm vs)(hel:∀e∈es.toList,∃b ls,e.2=.ref b/\oH prog w s.heap ls b)(hw:wanted<256)(hl:vs.length*4<=wanted)
  (h:∀h' BE t',Heap.SameBut S s.heap h'->h'.get? S=some {o with data:=.set BE (ep+1) t'}->rZ prog w led h' BE t' vs->Q () {s with heap:=h'}) :
  wpAny (model prog w) A (setRelay S wanted) Q E s:=by
 let⟨m1,m2,m3⟩:=xk wanted hw;have m7:7<=sizeAbove wanted-1:=(by decide:∀m∈cV,7<=m) _ m1
 have hlen:es.size=vs.length:=by have:=Ge.length_eq;simpa using this
 unfold setRelay;refine AB (Bi ho hd G.ft ?_);dsimp only;rw[A5 (by rw[CK];omega)];let⟨t',ord,e,q1,q2,q3,q4,q5,q6,q7,q8⟩:=zT (finger:=t.finger) (moves:=t.movedTo (sizeAbove wanted-1)) (led:=t.led) (plain:=t.plain) m1 (es.map (·.1)) (by rw[zc0];omega);rw[zc0] at q1 q2 q8
 have hp:(ord.filterMap (es[·]?)).toList.Perm es.toList:=by rw[Array.toList_filterMap];exact iz q1
 have hsz:(ord.filterMap (es[·]?)).size=es.size:=by have:=hp.length_eq;(rw[DS,DS] at this;assumption)
 have e':t.relaid (es.map (·.1)) wanted=some (t',ord):=e;rw[e'];refine AB (show wpAny _ _ (if ((ord.filterMap (es[·]?)).size != es.size)=true then (do unsupported "internal:set-table-lost-an-element";pure (ord.filterMap (es[·]?),t')) else pure (ord.filterMap (es[·]?),t')) _ _ _ from ?_);rw[A5 (by simp[hsz])];refine AN (dj ho hx hd (by rw[hsz];exact G.bd) λh' b1 g1=>?_);refine h h' _ t' b1 g1 {{by rw[hsz];exact G.bd,by rw[hsz];exact q2,λ_=>q3,q4.trans G.ld},by rw[q6];exact m1,q7,q5.trans hpl,by rw[q8,q6];omega,(hp.map _).trans Ge,λx EX=>?_};obtain⟨b,ls,e1,e2⟩:=hel x (hp.mem_iff.mp EX);exact{b,ls,e1,e2.same ho hd b1}
def PU {S a:A4}{led:A8}{o:B0}{es:AD (Int×A3)}{ep:Nat}{t:SetTable}{vs:Te}{ks:Th}{hv:Int}{Q:A8->A1->Prop}(hu:A.units<cLine)(ho:s.heap.get? S=some o)(hx:o.ExactSet)(hd:o.data=.set es ep t)(T:rZ prog w led s.heap es t vs)(ha:oH prog w s.heap ks a)
  (BC:∀b ls,Value.ref b∈vs->oH prog w s.heap ls b->ls≠ks) (hl:vs.length<63)
  (h:∀h' BE Gn t',Heap.SameBut S s.heap h'->h'.get? S=some {o with data:=.set BE Gn t'}->rZ prog w led h' BE t' (vs++[.ref a])->Q true {s with heap:=h'}) :
  wpAny (model prog w) A (setAddHashed S (.ref a) hv) Q E s:=by
 have hlen:es.size=vs.length:=by have:=T.pm.length_eq;simpa using this
 have hsz:t.place.size=es.size:=by have:=T.W.ft;simp[fits] at this;exact this.1
 have hlo:=T.lo;let⟨N,hN,hE⟩:=MT T.ms T.dm ∅ hv
 have DB:10*turns t.mask<=2700:=by
  have:∀m∈cV,10*turns m<=2700:=by decide
  exact this _ T.ms
 unfold setAddHashed setAddHashedIn;refine Bg (AB (Bi ho hd T.W.ft ?_));dsimp only;rw[A5 (by unfold byScan Value.scannable;simp)];unfold setSearch;refine AB (vA hu ho hd T ha BC hE hN (λj hj=>?_) 100000 0 none (Cy _) ∅ rfl);dsimp only;refine AB (Bi ho hd T.W.ft ?_)
 have E3:t.place[SetTable.below t.place j]?≠some j:=by
  rcases jq t T.dm j with⟨_,c⟩|⟨c,_⟩
  ·exact c
  ·rw[c] at hj;cases hj
 have hput:t.put j=({t with place:=insertAt t.place (SetTable.below t.place j) j},SetTable.below t.place j):=by
  unfold put;rw[T.dm,zY];rwa[Bc,if_false]
 dsimp only;rw[hput];dsimp only;rw[T.pl,A7 rfl];refine AB (JA3 ha ?_);rw[A7 rfl];have pe:=insertAt_perm es (SetTable.below t.place j) (hv,Value.ref a);rw[zc5] at pe;have pp:=insertAt_perm t.place (SetTable.below t.place j) j
 have s1:(insertAt es (SetTable.below t.place j) (hv,Value.ref a)).size=es.size+1:=by have:=pe.length_eq;simpa using this
 have s2:(insertAt t.place (SetTable.below t.place j) j).size=t.place.size+1:=by have:=pp.length_eq;simpa using this
 generalize hes1:insertAt es (SetTable.below t.place j) (hv,Value.ref a)=Bj at *
 have G1:mq led Bj {t with place:=insertAt t.place (SetTable.below t.place j) j,plain:=true}:=by
  refine{by rw[s1];unfold scanBound;omega,?_,λ_=>mP (T.W.rs T.pl) E3,T.W.ld};rwa[fits,SetTable.fill,s1,s2,T.dm];simp;omega
 have pm1:(Bj.toList.map (·.2)).Perm (vs++[.ref a]):=by
  refine(pe.map (·.2)).trans ?_;rw[D6];exact T.pm.append (List.Perm.refl _)
 have el1:∀e∈Bj.toList,∃b ls,e.2=.ref b/\oH prog w s.heap ls b:=λe he=>by
  rcases D7.mp (pe.mem_iff.mp he) with he|he
  ·exact T.el e he
  ·rw[Bm] at he;subst he;exact{a,ks,rfl,ha}
 refine AB (dj ho hx hd G1.bd λh1 b1 g1=>?_)
 have el2:∀e∈Bj.toList,∃b ls,e.2=.ref b/\oH prog w h1 ls b:=λe he=>by
  let⟨b,ls,e1,e2⟩:=el1 e he;exact{b,ls,e1,e2.same ho hd b1}
 split
 ·have hgr:grown (es.size+1)=(es.size+1)*4:=by unfold grown;rw[A5 ∅]
  rw[hgr];refine AB (JF2 (s:={s with heap:=h1}) g1 hx rfl G1 rfl pm1 el2 ∅ (by simp;omega) λh2 es2 t2 b2 g2 T2=>AN ?_);exact h h2 es2 _ t2 (b1.trans b2) g2 T2
 ·rename_i Hf
  refine AN (h h1 Bj _ _ b1 g1 {G1,T.ms,T.dm,rfl,?_,pm1,el2});rwa[zco,zb9,tooFull,SetTable.fill,T.dm,decide_eq_true_eq] at Hf;rwa[Array.size_empty,Nat.add_zero] at Hf
  show(insertAt t.place (SetTable.below t.place j) j).size*5<t.mask*3
  omega
end
def yQ (prog:A9)(w:AM)(led:A8)(h:AI)(o:B0)(vs:Te):Prop:=∃es ep t,o.ExactSet/\o.data=.set es ep t/\rZ prog w led h es t vs
def wB {prog:A9}(led:A8)(h:AI):yQ prog w led h (bf led) [] :=
 {#[],0,_,{rfl,rfl,rfl},rfl,{{by decide,by rfl,λ_=>List.Pairwise.nil,rfl},(show 7∈cV by decide),rfl,rfl,(show 0*5<7*3 by decide),List.Perm.refl _,λ_ h=>by simp at h}}
section
variable {prog:A9}{w:AM}{A:AL}{R:Result->A1->Prop}{I:A4}{fp wr:Tf}{G:AD GenState->AD GenState->Prop}{n:Nat}{P:Nat->A3->Prop}{St:Nat->A1->Prop}
def oH.keep {h h':AI}{ks:Th}{a:A4}(x:oH prog w h ks a)(k:∀o,h.get? a=some o->h'.get? a=some o):oH prog w h' ks a:=by let⟨o,items,n,ho,r⟩:=x;exact{o,items,n,k _ ho,r}
def rZ.keep {led:A8}{h h':AI}{es:AD (Int×A3)}{t:SetTable}{vs:Te}(T:rZ prog w led h es t vs)(k:∀b,Value.ref b∈vs->∀o,h.get? b=some o->h'.get? b=some o):rZ prog w led h' es t vs :=
 {T.W,T.ms,T.dm,T.pl,T.lo,T.pm,λe he=>by let⟨b,ls,e1,e2⟩:=T.el e he;exact{b,ls,e1,e2.keep (k b (T.pm.mem_iff.mp (BH.mpr {e,he,e1})))}}
theorem tN (W:WalksS prog w A.in1 I fp wr G n P St)(hu:A.in1.units<cLine)(S:A4)(Bh:S∉fp){led:A8}(ps:T5 (A4×Th))(hms:ps.length=n)(Hr:∀i v,P i v->∃p,ps[i]?=some p/\v=.ref p.1)(nd:(ps.map (·.2)).Nodup)(hb:ps.length<64) :
  ∀(k i:Nat) (s:A1) (o:B0),n-i=k->i<=n->St i s->s.heap.get? S=some o->yQ prog w led s.heap o ((ps.take i).map λp=>Value.ref p.1)->(∀p∈ps,oH prog w s.heap p.2 p.1/\p.1∉S::wr) ->
   (∀s' o',Moved (S::wr) G s s'->s'.heap.get? S=some o'->yQ prog w led s'.heap o' (ps.map λp=>Value.ref p.1)->R (.ok (.ret .none)) s') ->
   codeAny (model prog w) A (.builtin "set.update.loop" {[.ref S,.ref I],[]}) R s:=by
 have nw:S∉wr:=λh=>Bh (W.sub _ h);have up:∀b∈wr,b∈S::wr:=λb hb=>BF _ hb
 have av:∀{i:Nat} {b:A4},Value.ref b∈(ps.take i).map (λp=>Value.ref p.1)->∃p∈ps,p.1=b:=λh=>by
  let⟨p,hp,e⟩:=BH.mp h;exact{p,zb1 hp,by cases e;rfl}
 intro k
 induction k with
 |zero=>
  intro i s o hk hi CL ho hS DF hR
  have Ck:i=n:=by omega
  subst Ck;refine DN F.entry_set_update_loop ?_;rw[Dv F.plain_set_update_loop _];refine(show wpAny _ A.in1 (pyNext (.ref I) >>= _) _ _ s from AB (W.done s _ _ CL λs' hm=>?_));refine(show wpAny _ A.in1 (ret Value.none) _ _ s' from AN (hR s' o (hm.mono up) (hm.heap S _ nw ho) ?_));rw[List.take_of_length_le ∅] at hS;let⟨es,ep,t,x1,x2,T⟩:=hS;refine{es,ep,t,x1,x2,T.keep λb hb o e=>hm.heap b o (λz=>?_) e};let⟨p,hp,e'⟩:=BH.mp hb;cases e';exact(DF p hp).2 (up _ z)
 |succ k ih=>
  intro i s o hk hi CL ho hS DF hR
  have An:i<n:=by omega
  refine DN F.entry_set_update_loop ?_;rw[Dv F.plain_set_update_loop _];refine(show wpAny _ A.in1 (pyNext (.ref I) >>= _) _ _ s from AB (W.item i s _ _ An CL λv s' hP Hv hm=>?_));let⟨p,Gg,rfl⟩:=Hr i v hP;have Ge:p∈ps:=CU Gg;have Bq:=hm.heap S _ nw ho;have Gb:∀p∈ps,oH prog w s'.heap p.2 p.1/\p.1∉S::wr:=λp hp=>{(DF p hp).1.keep λo e=>hm.heap _ _ (λz=>(DF p hp).2 (up _ z)) e,(DF p hp).2};let⟨es,ep,t,x1,x2,T0⟩:=hS
  have T:rZ prog w led s'.heap es t ((ps.take i).map λp=>Value.ref p.1):=T0.keep λb hb o e=>by
   let⟨q,hq,rfl⟩:=av hb;exact hm.heap _ _ (λz=>(DF q hq).2 (up _ z)) e
  refine(show wpAny _ A.in1 (holding [Value.ref p.1] (setAdd S (.ref p.1)) >>= _) _ _ s' from AB (Bg ?_));unfold setAdd;refine Bg (AB (wpAny_pyHash_tuple hu (Gb p Ge).1 ?_))
  have BC:∀b ls,Value.ref b∈(ps.take i).map (λp=>Value.ref p.1)->oH prog w s'.heap ls b->ls≠p.2:=λb ls hb' hB e=>by
   let⟨q,hq,eq⟩:=BH.mp hb';cases eq;have h1:=(Gb q (zb1 hq)).1;have h2:ls=q.2:=IsTupleKey.inj hB h1;let⟨j,hj,ej⟩:=G6 hq;rw[F8] at hj;rw[List.getElem_take] at ej
   have Cm:i<ps.length:=by omega
   have:=(C3.mp Gg).2;refine(zbt.mp nd) j i (by rw[Az];omega) (by rw[Az];omega) ∅ ?_;rw[Gz,Gz,ej,this,←h2,e]
  refine PU (s:={s' with toks:=s'.toks+(p.2.length+1)}) hu Bq x1 x2 T (Gb p Ge).1 BC (by rw[Az,F8];omega) λh' BE Gn t' DB F0 T2=>?_
  have hk2:(ps.take (i+1)).map (λp=>Value.ref p.1)=(ps.take i).map (λp=>Value.ref p.1)++[.ref p.1]:=by
   rw[List.take_add_one,Gg];simp
  have hps2:∀p∈ps,oH prog w h' p.2 p.1/\p.1∉S::wr:=λq hq=>{(Gb q hq).1.keep λo e=>by rw[DB.2 q.1 (λz:q.1=S=>(DF q hq).2 (by rw[z];exact BB))];exact e,(DF q hq).2};refine AN {F5 F.plain_set_update_loop _,ih (i+1) _ _ ∅ An (W.frame _ s' _ _ Hv (Nat.le_add_right _ _) λb hb o e=>?_) F0 {BE,Gn,t',x1,rfl,by rw[hk2];exact T2} hps2 λs2 o2 hm2 q2 g2=>?_}
  ·rw[DB.2 b (λh:b=S=>Bh (h ▸ hb))];exact e
  ·refine hR s2 o2 (Moved.trans W.gtrans ((hm.mono up).then_heap (Nat.le_add_right _ _) λb o hb e=>?_) hm2) q2 g2
   rw[DB.2 b (λh:b=S=>hb (by rw[h];exact BB))];exact e
end
section
variable {prog:A9}{w:AM}{A:AL}{E:Tb}{s:A1}
set_option maxHeartbeats 3200000 in
def JB9 {l:A4}{its:Ti}{ps:T5 (A4×Th)}{Q:Tb}
  (hh:A.handled=none) (hu:A.in1.in1.in1.units<cLine) (hl:s.heap.IsList l its) (hi:its.toList=ps.map λp=>Value.ref p.1) (hp:∀p∈ps,oH prog w s.heap p.2 p.1) (nd:(ps.map (·.2)).Nodup) (hb:ps.length<64)
  (h:∀(h':AI) (tk:Nat) (o:B0),h'.get? s.heap.objs.size=some o->yQ prog w (!w.params.followText "set-order") h' o (ps.map λp=>Value.ref p.1) ->
   (∀b o,s.heap.get? b=some o->h'.get? b=some o)->s.toks<=tk->Q (.ref s.heap.objs.size) {s with heap:=h',toks:=tk}) :
  wpAny (model prog w) A (call (.type "set") [.ref l]) Q E s:=by
 have hh3:A.in1.in1.in1.handled=none:=by simp[hh]
 have Ip:=hl;let⟨ol,Ez,C8,nl,hdl⟩:=hl;refine p0 (P:=λled h o=>yQ prog w led h o (ps.map λp=>Value.ref p.1)) Ez C8 F.sub_list_set F.sub_list_frozenset ∅ (λt A' E' Q' e q=>zck {_,e,C8,nl,hdl} q) (λled R' Fd Bh k=>?_) h
 have hsz:its.size=ps.length:=by have:=AQ List.length hi;simpa using this
 refine tN ((Walks.list hh3 _ l Fd its).toS) hu s.heap.objs.size Bh (led:=led) ps hsz.symm
  (λi v hv=>by
   have:its.toList[i]?=some v:=by rw[GU];exact hv
   rw[hi,CG] at this
   let⟨p,e1,e2⟩:=DY.mp this
   exact{p,e1,e2.symm}) nd hb (its.size-0) 0 _ (bf led) ∅ (Cy _)
  {{_,BI _ rfl,rfl,rfl},(Ip.push _).push _} (AY _ (BI _ rfl)) (wB led _) (λp hp'=>?_) k
 let⟨op,itp,np,q1,q2,q3,q4⟩:=hp p hp';have:=B4 q1;refine{{op,itp,np,AY _ (AY _ q1),q2,q3,q4},λz=>?_};rwa[BA,DV,or_false,Du] at z
 rcases z with z|z <;> rw[z] at this
 ·exact C4 _ this
 ·exact AJ this (Nat.not_lt.mpr (G7 _))
theorem JAc {Z β:Type}{f:Z->β}{l1 l2:T5 β}(p:l1.Perm l2):∀zs:T5 Z,zs.map f=l2->∃zs':T5 Z,zs'.Perm zs/\zs'.map f=l1:=by
 induction p with
 |nil=>intro zs e;exact{[],by rw[List.map_eq_nil_iff.mp e],rfl}
 |cons x _ ih=>
  intro zs e;let⟨z,zs',rfl,rfl,e2⟩:=zcV.mp e;let⟨ws,h1,h2⟩:=ih zs' e2;exact{z::ws,h1.cons z,by rw[AZ,h2]}
 |swap x y l=>
  intro zs e;let⟨z,zs',rfl,rfl,e2⟩:=zcV.mp e;let⟨z2,zs2,rfl,rfl,e3⟩:=zcV.mp e2;exact{z2::z::zs2,List.Perm.swap z z2 zs2,by rw[AZ,AZ,e3]}
 |trans _ _ ih1 ih2=>
  intro zs e;let⟨ws,h1,h2⟩:=ih2 zs e;let⟨us,h3,h4⟩:=ih1 ws h2;exact{us,h3.trans h1,h4}
def Iy (led:A8)(o:B0)(ps:T5 (A4×Th)):Prop:=∃es ep t,o.ExactSet/\o.data=.set es ep t/\mq led es t/\(es.toList.map (·.2)).Perm (ps.map λp=>Value.ref p.1)
def yQ.o {led:A8}{h:AI}{o:B0}{ps:T5 (A4×Th)}(x:yQ prog w led h o (ps.map λp=>Value.ref p.1)):Iy led o ps:=by let⟨es,ep,t,h1,h2,T⟩:=x;exact{es,ep,t,h1,h2,T.W,T.pm}
abbrev MZ (h:AI)(p:A4×Th):Prop:=∃o its n,h.get? p.1=some o/\o.cls=.type "tuple"/\o.data=.seq its n/\IntsAre its.toList p.2
theorem y9 {h:AI}:∀{ps:T5 (A4×Th)},(∀p∈ps,MZ h p)->DK.aY h (ps.map λp=>Value.ref p.1) (ps.map (·.2))
 |[],_=>trivial
 |p::ps,hp=>by let⟨o,its,n,r⟩:=hp p BB;exact{{p.1,o,its,n,rfl,r},y9 λq hq=>hp q (BF _ hq)}
def vw {a:A4}{o:B0}{ps:T5 (A4×Th)}{Q:Tb}(hh:A.handled=none)(ho:s.heap.get? a=some o)(hS:Iy (!bt w) o ps)(DF:∀p∈ps,MZ s.heap p)(nd:(ps.map (·.2)).Nodup)(CJ:ps.length<64)(BC:2<=ps.length->∀p∈ps,p.2≠[])
  (h:∀(qs:T5 (A4×Th)) (h':AI) (d:Drawn) (tk:Nat) (l:A4) (c:Nat),(∀q∈qs,q∈ps)->(qs.map (·.2)).Perm (ps.map (·.2))->(qs.map (·.2)).Pairwise (λx y=>DK.jy x y=true)->(∀b o,s.heap.get? b=some o->h'.get? b=some o)->s.toks<=tk ->
   s.heap.objs.size<=l->h'.get? l=some (seqObj "list" (qs.map λq=>Value.ref q.1).toArray c)->Q (.ref l) {s with heap:=h',drawn:=d,toks:=tk}) :
  wpAny (model prog w) A (call (.builtin "sorted") [.ref a]) Q E s:=by
 obtain⟨es,ep,t,hx,hd,G,pm⟩:=hS;refine Calls.call_function_entry kind_sorted plain_sorted entry_sorted (args_sorted1 _) ?_;unfold Builtin.«sorted»;refine AB (m:=checkCount "sorted" 1 1 _) (AN (AB (tq (show A.in1.handled=none from hh) ho hx hd G λord h' d tk Dm kp ht hge=>?_)));obtain⟨rs,r1,r2⟩:=JAc ((Dm.map (·.2)).trans pm) ps rfl;have Hk:ord.map (·.2)=rs.map λp=>Value.ref p.1:=r2.symm;rw[Hk];have hrl:rs.length=ps.length:=r1.length_eq;have Dq:∀q∈rs,q∈ps:=λq hq=>r1.mem_iff.mp hq;have hT0:DK.aY s.heap (rs.map λp=>Value.ref p.1) (rs.map (·.2)):=y9 λq hq=>DF q (Dq q hq);have nd':(rs.map (·.2)).Nodup:=(r1.map (·.2)).nodup_iff.mpr nd;refine AB (zc4 ?_ (by rw[Az,CK];omega));generalize hvs:(rs.map λp=>Value.ref p.1)=vs at *
 have hvl:vs.length=rs.length:=by rw[←hvs,Az]
 have Dp:(h'.push (seqObj "list" vs.toArray 0)).get? h'.objs.size=some (seqObj "list" vs.toArray 0):=BI _ rfl;have Hh:DK.aY (h'.push (seqObj "list" vs.toArray 0)) vs (rs.map (·.2)):=hT0.keep λb o e=>AY _ (kp b o e)
 have hna:∀v∈vs,v≠.ref h'.objs.size:=λv hv e=>by
  rw[←hvs] at hv;let⟨p,hp,rfl⟩:=BH.mp hv;let⟨op,itp,np,q1,_⟩:=DF p (Dq p hp)
  injection e with e
  have:=B4 (kp _ _ q1)
  rw[e] at this
  exact AJ this (C4 _)
 refine AB (Bg (C5 (s:={s with heap:=h'.push (seqObj "list" vs.toArray 0),drawn:=d,toks:=tk}) slot_list_sort {_,Dp,rfl} entry_list_sort (DK.su (s:={s with heap:=h'.push (seqObj "list" vs.toArray 0),drawn:=d,toks:=tk}) Dp Hh nd' (by rw[Az];omega) (λh2 x EX=>by
  let⟨p,hp,rfl⟩:=BH.mp EX;rw[Az] at h2
  exact BC ∅ p (Dq p hp)) hna λout L' ⟨is,a1,a2,a3⟩ a4 a5=>{_,rfl,?_}) (args_list_sort _)))
 obtain⟨c,hc⟩:∃c,(sortedHeap (h'.push (seqObj "list" vs.toArray 0)) h'.objs.size vs out).get? h'.objs.size=some (seqObj "list" out c):=by
  unfold sortedHeap;obtain⟨e1,q1⟩:∃e1,((h'.push (seqObj "list" vs.toArray 0)).update h'.objs.size (Obj.mapSeq λ_=>#[])).get? h'.objs.size=some (seqObj "list" #[] e1):={_,get?_update_seq Dp (λ_=>#[])};exact{_,get?_update_seq (AY _ (AY _ q1)) (λ_=>out)}
 have b1:out.toList=(is.map λi=>rs.getD i (0,[])).map λq=>Value.ref q.1:=by
  rw[a1,CY];refine zb7 λi hi=>?_
  have Cm:i<rs.length:=by have:=a3 i hi;(rw[Az] at this;assumption)
  rw[←hvs];simp[List.getD,Cm]
 have b2:L'=(is.map λi=>rs.getD i (0,[])).map (·.2):=by
  rw[a2,CY];refine zb7 λi hi=>?_
  have Cm:i<rs.length:=by have:=a3 i hi;(rw[Az] at this;assumption)
  simp[List.getD,Cm]
 have Bq:out=((is.map λi=>rs.getD i (0,[])).map λq=>Value.ref q.1).toArray:=by rw[←b1]
 rw[b2] at a4 a5;refine AN {_,rfl,h (is.map λi=>rs.getD i (0,[])) _ d tk h'.objs.size c (λq hq=>?_) (a4.trans (r1.map (·.2))) a5 (λb o e=>?_) ht hge (by rw[←Bq];exact hc)}
 ·let⟨i,hi,rfl⟩:=BH.mp hq
  have Cm:i<rs.length:=by have:=a3 i hi;(rw[Az] at this;assumption)
  refine Dq _ ?_;simp[List.getD,Cm]
 ·have hb:=kp b o e
  have ne:h'.objs.size≠b:=D4 (B4 hb);unfold sortedHeap;rw[CV _ _ ne];refine AY _ (AY _ ?_);rw[CV _ _ ne];exact AY _ hb
end
end HS
namespace HW
open PyProof.Rows L2 HS DK
theorem wq {prog:A9}:∀{its:Te} {ks:Th},IntsAre its ks->ItemsAre (intKind prog w) ks its
 |_,_,.nil=>.nil
 |_,_,.cons n t h=>.cons (intKind_is _ _ _ _) (wq h)
abbrev Fx (K:AP)(H:Hp)(ps:T5 (A4×Th)):Prop:=∀q∈ps,gM K H q.1 (q.2.map V.int)
def aD.tupA {X:Cx}{H:Hp}{s:A1}(I:aD X A2 Y H s){p:A4×Th}(h:gM X.K H p.1 (p.2.map V.int)):MZ s.heap p:=by let⟨its,r',⟨o',Bq,GO,n',Fn⟩,hz⟩:=I.tuple h;exact{o',its.toArray,n',Bq,GO,Fn,by simpa using c7 r'}
def Da (K:AP)(b:A8):T5 V->Hp->VK->Prop:=λvs H Q=>∃(p:A4) (ps:T5 (A4×Th)),vs=[.ref p]/\jV K H p (ps.map λq=>V.ref q.1)/\Fx K H ps/\(ps.map (·.2)).Nodup/\ps.length<64/\∀l o,H l=none->Iy b o ps->Q (.ref l) (upd H l (ca o))
theorem sy:∀{ps:T5 (A4×Th)} {its:Te},aR (ps.map λq=>V.ref q.1) its->its=ps.map λq=>Value.ref q.1
 |[],its,h=>by cases h;rfl
 |p::ps,its,h=>by
  cases h with
  |cons h1 h2=>rw[sy h2];rw[show _=Value.ref p.1 from h1];rfl
theorem pH:∀(ps:T5 (A4×Th)),aR (ps.map λq=>V.ref q.1) (ps.map λq=>Value.ref q.1)
 |[]=>.nil
 |p::ps=>.cons rfl (pH ps)
def yK {X:Cx}(hc:X.calm=true)(hu:X.A.units+64<cLine):fm X (.type "set") (Da X.K (!HS.bt X.w)):=by
 intro A2 s Y H vs us Q I r h;let⟨p,ps,rfl,hq,hT,nd,CJ,q⟩:=h;let⟨u,rfl,rx⟩:=ij r;cases rx;let⟨its,r',pl,hz⟩:=I.list hq;have hi:=sy r';refine JB9 (its:=its.toArray) (ps:=ps) (I.ok.hd hc) (by rwa[Around.in1_units];omega) pl.isList ‹hi› (λq Ga=>?_) nd CJ λh' tk o ho hS kp ht=>?_
 ·let⟨o,itq,n,q1,q2,q3,q4⟩:=aD.tupA I (hT q Ga);exact{o,itq,n,q1,q2,q3,wq q4}
 ·exact{.ref s.heap.objs.size,_,I.laid (t':=tk) kp (B3 _) (show bo X.prog X.w _ h' _ (ca o) from{ho,trivial,{o,ho},λ_ _ _ _=>trivial}),rfl,q _ _ (I.hok.fresh (B3 _)) hS.o}
def zx (K:AP)(b:A8):T5 V->Hp->VK->Prop:=λvs H Q=>∃(p:A4) (o:B0) (ps:T5 (A4×Th)),vs=[.ref p]/\H p=some (ca o)/\Iy b o ps/\Fx K H ps/\(ps.map (·.2)).Nodup/\ps.length<64/\(2<=ps.length->∀p∈ps,p.2≠[]) /\
 ∀(l:A4) (qs:T5 (A4×Th)),H l=none->(∀q∈qs,q∈ps)->qs.map (·.2)=bj (ps.map (·.2))->Q (.ref l) (upd H l (.lst (qs.map λq=>V.ref q.1)))
def w5 {X:Cx}(hc:X.calm=true):fm X (.builtin "sorted") (zx X.K (!HS.bt X.w)):=by
 intro A2 s Y H vs us Q I r h;let⟨p,o,ps,rfl,hp,hS,hT,nd,CJ,BC,q⟩:=h;let⟨u,rfl,rx⟩:=ij r;cases rx;have ho:s.heap.get? p=some o:=(I.hok p _ hp).1;refine vw (I.ok.hd hc) ho hS (λq hq=>aD.tupA I (hT q hq)) nd CJ BC λqs h' d tk l c a1 a2 a3 kp ht hl hL=>?_;have e:qs.map (·.2)=bj (ps.map (·.2)):=ll a3 (g6 nd) (a2.trans (bR _).symm);have hlen:qs.length=ps.length:=by have:=a2.length_eq;simpa using this
 have I1:aD X A2 Y (upd H l (.lst (qs.map λq=>V.ref q.1))) {s with heap:=h',toks:=tk} :=
  I.laid (t':=tk) kp hl (show bo X.prog X.w _ h' _ (.lst _) from{by rw[Az,hlen,CK];omega,_,c,pH qs,by simpa[seqObj] using hL})
 exact{.ref l,_,aD.drw I1 d,rfl,q _ qs (I.hok.fresh hl) a1 e}
noncomputable def B5:D->UE (Th)
 |.tup xs=>gm xs
 |.key ks=>some ks
 |_=>none
noncomputable def si:T5 D->UE (Ta)
 |[]=>some []
 |d::r=>(B5 d).bind λk=>(si r).bind λks=>some (k::ks)
abbrev kT (ks:Th):D:=.tup (ks.map .int)
def JEd {K:AP}{H:Hp}{d:D}{ks:Th}{v:V}(e:B5 d=some ks)(r:ak K H d v):∃a,v=.ref a/\gM K H a (ks.map V.int):=by
 unfold B5 at e;split at e
 ·rwa[ak] at r;let⟨a,vs,rfl,h1,h2⟩:=r;rw[Es e h2] at h1;exact{a,rfl,h1}
 ·cases e;rwa[ak] at r;let⟨a,rfl,h⟩:=r;exact{a,rfl,.inl (.inl h)}
 ·cases e
theorem pO {K:AP}{H:Hp}:∀{ds:T5 D} {L:Ta} {vs:T5 V},si ds=some L->RelDs K H ds vs->∃ps:T5 (A4×Th),vs=ps.map (λq=>V.ref q.1)/\ps.map (·.2)=L/\Fx K H ps
 |[],L,vs,e,r=>by cases e;rwa[RelDs] at r;subst r;exact{[],rfl,rfl,λ_ h=>nomatch h}
 |d::ds,L,vs,e,r=>by
  let⟨k,e1,e⟩:=AS.mp e;let⟨ks,e2,e⟩:=AS.mp e;cases e;rwa[RelDs] at r;let⟨v,vr,rfl,r1,r2⟩:=r;let⟨a,rfl,h1⟩:=JEd e1 r1;let⟨ps,rfl,rfl,h2⟩:=pO e2 r2;exact{(a,k)::ps,rfl,rfl,λq hq=>by
   rcases BA.mp hq with rfl|hq
   ·exact h1
   ·exact h2 q hq}
theorem zW {K:AP}{H:Hp}:∀{qs:T5 (A4×Th)},Fx K H qs->RelDs K H ((qs.map (·.2)).map kT) (qs.map λq=>V.ref q.1)
 |[],_=>by rwa[CS,RelDs]
 |q::qs,h=>by rwa[AZ,RelDs,ak];exact{_,_,rfl,{q.1,_,rfl,h q BB,mH},zW λp hp=>h p (BF _ hp)}
noncomputable def Q1 (x:R)(U:ac):UE (R×ac):=(xM x U).bind λds=>(si ds).bind λL=>if L.Nodup/\L.length<64/\(L.length<2\/∀k∈L,k≠[]) then some (.p U.length,U++[.lst ((bj L).map kT)]) else none
noncomputable def Qm (fa:FE):FE:=λO U=>(fa O U).bind λa=>Q1 a.1 a.2
def On {K:AP}{H:Hp}{Q:VK}{fa:FE}{b:A8}(h:ay K (Qm fa) Y H Q):Na (zx K b) (pT (Na (Da K b) (pT (ay K fa) AG)) AG) Y H Q:=by
 let⟨O,U,m,d,U',hl,hs,e,kk'⟩:=h;let⟨⟨x,U1⟩,e1,e⟩:=AS.mp e;let⟨ds,e2,e⟩:=AS.mp e;let⟨L,e3,e⟩:=AS.mp e;split at e
 ·rename_i hc;let⟨nd,CJ,BC⟩:=hc;cases e;refine{O,U,m,x,U1,hl,hs,e1,λv H1 m1 x1 s1 r1=>?_};let⟨a,vs,rfl,q1,q2⟩:=o7 s1 e2 r1;let⟨ps,rfl,rfl,hT⟩:=pO e3 q2;have h64':ps.length<64:=by simpa using CJ
  refine{a,ps,rfl,q1,hT,nd,h64',λl o Gj E5=>?_};have x2:dF m1 H1 m1 (upd H1 l (ca o)):=dF.new Gj;have s2:aP K m1 (upd H1 l (ca o)) U1:=s1.same (cb Gj);have Hh:Fx K (upd H1 l (ca o)) ps:=λq hq=>gM.tf (.of (cb Gj)) (hT q hq);refine{l,o,ps,rfl,bP,E5,Hh,nd,h64',λh2 p hp=>?_,λl2 qs Hc hm hq=>?_}
  ·rcases BC with z|z
   ·rw[Az] at z;omega
   ·exact z _ (BH.mpr {p,hp,rfl})
  ·let⟨x3,s3,r3⟩:=gE s2 (zW λq Ga=>Hh q (hm q Ga)) Hc;rw[hq] at s3;exact kk' _ _ _ (x1.trans (x2.trans x3)) s3 r3
 ·cases e
end HW
namespace HK
open PyProof.Rows L2 HS DK
end HK
namespace HW
open PyProof.Rows L2 HS DK HK
def oE (K:AP)(H:Hp):T5 V->T5 (Th)->Prop:=Paired λv k=>∃t,v=.ref t/\gM K H t (k.map V.int)
theorem vf {K:AP}{H:Hp}:∀{ps:T5 (A4×Th)},(∀q∈ps,gM K H q.1 (q.2.map V.int))->oE K H (ps.map λq=>V.ref q.1) (ps.map (·.2))
 |[],_=>.nil
 |q::ps,h=>.cons {q.1,rfl,h q BB} (vf λr hr=>h r (BF _ hr))
theorem oE.rels {K:AP}{H:Hp}{ws:T5 V}{L:Ta}(t:oE K H ws L):RelDs K H (L.map λk=>.tup (k.map D.int)) ws:=by
 induction t with
 |nil=>rfl
 |cons h _ ih=>
  let⟨t,rfl,hs⟩:=h;exact{_,_,rfl,by rwa[ak];exact{t,_,rfl,hs,kZ _},ih}
noncomputable def Ng (f:FE):FE:=λO U=>(f O U).bind λa=>some (rh a.1,a.2)
def Om {K:AP}{H:Hp}{Q:VK}{f}(h:ay K (Ng f) Y H Q):ay K f Y H Q:=by let⟨O,U,m,d,U',hl,hs,e,k⟩:=h;let⟨⟨x,U1⟩,e1,e⟩:=AS.mp e;cases e;exact{O,U,m,_,_,hl,hs,e1,λv H' m' x1 s1 r1=>k v H' m' x1 s1 r1.unk}
end HW
namespace HK
open PyProof.Rows L2 DK
def JDs:entryFor table "dict_valueiterator.__iter__" = some Builtin.«dict_keyiterator.__iter__»:=entryFor_alias (id':="dict_keyiterator.__iter__") (by kernel_rfl) rfl ∅ (by kernel_rfl)
section
variable {prog:A9}{w:AM}{A:AL}{E:Tb}{s:A1}{d it v:A4}{es:AD DictEntry}{ep i:Nat}
def JEp {Q:Tb}(nd:(d == sysModules)=false)(m:DE s.heap d es ep)
  (fin:Q (.ref s.heap.objs.size) {s with heap:=s.heap.push {cls:=.type "dict_values",data:=.fields #[.ref d]}}):wpAny (model prog w) A (call (.builtin "dict.values") [.ref d]) Q E s:=by
 refine C5 F.slot_dict_values m.ty F.entry_dict_values ?_ (F.args_dict_values_1 _);refine AB ?_;unfold Builtin.Dict.noArgs;refine AB (zbX m.ty ?_)
 show wpAny _ _ (pure d) _ _ s
 refine AN ?_
 show wpAny _ _ (Builtin.Dict.showsAll d >>= _) _ _ s
 unfold Builtin.Dict.showsAll;rw[A5 (show ¬ (d == sysModules)=true by rw[nd];decide)];exact AB (AN (AB (CN (AN {_,rfl,fin}))))
def O0 {Q:Tb}(y:s.heap.IsValuesView v d)(m:DE s.heap d es ep)
  (fin:Q (.ref s.heap.objs.size) {s with heap:=s.heap.push {cls:=.type "dict_valueiterator",data:=.fields #[.ref d,.int 0 0,.int es.size 0,.int ep 0]}}):wpAny (model prog w) A (pyIter (.ref v)) Q E s:=by
 obtain⟨ob,g,x,dt⟩:=id m;obtain⟨oy,gy,cy,dy⟩:=id y;refine zbM y.typeIs F.slot_dict_values_iter (C5 F.slot_dict_values_iter y.typeIs F.entry_dict_values_iter ?_ (F.args_dict_values_iter_1 _));unfold Builtin.«dict_values.__iter__» Builtin.Dict_items.dictOf Builtin.Dict_items.newIterator;refine AB (AN (AB (AB (Gq gy dy (x:=.ref d) rfl (AN (AB (AB (GQ g dt (AB (zcc g dt ?_))))))))));rwa[show Builtin.Dict_items.ownsTuple "dict_valueiterator" = false by decide,Bc,if_false];refine CN (AN {_,rfl,"dict_valueiterator",_,{_,BI _ rfl,rfl},F.slot_dict_valueiterator_next.lookup,?_});simpa[rawInt] using fin
def Mq {n:Nat}{Q:Tb}(k:s.heap.IsValIter it d i n ep)(h:Q (.ref it) s):wpAny (model prog w) A (pyIter (.ref it)) Q E s:=by
 have ty:=k.typeIs;refine zbM ty F.slot_dict_valueiterator_iter (C5 F.slot_dict_valueiterator_iter ty JDs ?_ (F.args_dict_valueiterator_iter_1 _))
 show wpAny _ _ (ret (.ref it)) _ _ s
 exact AN {_,rfl,"dict_valueiterator",_,ty,F.slot_dict_valueiterator_next.lookup,h}
def wv:WK prog w "dict_valueiterator" "dict_valueiterator.__next__" 0:={F.slot_dict_valueiterator_next,F.entry_dict_valueiterator_next,F.args_dict_valueiterator_next_1,by decide,λ_ _ _ _ y=>{λ_=>wpAny_typeNameOfWhole_valiter y,λ_ _=>wpAny_isOneOf_valiter y}}
def Kd (hh:A.handled=none)(I d:A4)(ne:d≠I)(es:AD DictEntry)(ep:Nat):Walks prog w A I [I,d] [I] es.size (λi v=>∃e,es[i]?=some e/\v=e.val) (λi h=>h.IsValIter I d i es.size ep/\DE h d es ep) where
 sub:=λb z=>by simp at z;simp[z]
 frame:=λ_ _ _ q z=>{let ⟨o,ho,r⟩:=q.1;{o,z I ∅ o ho,r},q.2.at λo e=>z d ∅ o e}
 item:=λi s Q E hi q fin=>by let⟨⟨o,g,c,r⟩,m⟩:=q;refine JX wv (.inr {rfl,rfl}) g c r m (CB hi) λh' o' g c r sb=>fin _ h' s.toks {_,CB hi,rfl} {{o',g,c,r},m.at λo e=>sb.extBut d o ne e} λb o hb e=>sb.extBut b o (λz=>hb (by simp[z])) e
 done:=λs Q E q fin=>by let⟨⟨o,g,c,r⟩,m⟩:=q;exact Ea wv hh g c r rfl m λh' eb=>fin h' s.toks λb o hb e=>eb b o (λz=>hb (by simp[z])) e
 self:=λ_ _ _ _ q fin=>Mq q.1 fin
def JEq {es:AD DictEntry}{vs:Te}(hl:vs.length=es.size)(h:∀(i:Nat) v,vs[i]?=some v->∃e,es[i]?=some e/\v=e.val):vs=es.toList.map (·.val):=by
 refine zcM ‹hl› λi h1 h2=>?_;let⟨e,g,q⟩:=h i vs[i] (Bl h1);have hi:i<es.size:=by simpa using h2
 rw[CB hi] at g;cases g;rw[q];simp
def JEu {a y:A4}{es:AD DictEntry}{ep:Nat}{Q:T5 A3->A1->Prop}(hh:A.handled=none)(hd:(a == sysModules)=false)(hy:s.heap.IsValuesView y a)(hm:DE s.heap a es ep)(hz:es.size<=sizeLine)
  (h:∀(h':AI) (tk:Nat),(∀b o,s.heap.get? b=some o->h'.get? b=some o)->s.toks<=tk->s.heap.objs.size<=h'.objs.size->Q (es.toList.map (·.val)) {s with heap:=h',toks:=tk}) :
  wpAny (model prog w) A (collect (.ref y)) Q E s:=by
 let⟨o,ho,hx,hdat⟩:=id hm;let⟨oy,gy,cy,dy⟩:=id hy
 exact wY gy cy (B4 ho) (.inr rfl) rfl hz (λt _ _ _ k q=>O0 {oy,k _ _ gy,cy,dy} (hm.at λ_ e=>k _ _ e) q) (λt _ _ _ hT q=>PySem.W.kdl_hint_values hT q)
  (λI ne=>Kd (show A.in1.handled=none from hh) I a ne es ep) (λI h1 e k=>{{_,e,rfl,rfl},hm.at λ_ e=>k _ _ e}) (λl=>JEq) h
def JFt {a y:A4}{es:AD DictEntry}{ep:Nat}{L:Ta}{Q:Tb}(hh:A.handled=none)(hd:(a == sysModules)=false)(hy:s.heap.IsValuesView y a)(hm:DE s.heap a es ep)(hT:aY s.heap (es.toList.map (·.val)) L)(nd:L.Nodup)(CJ:L.length<64)(BC:2<=L.length->∀x∈L,x≠[])
  (h:∀(is:T5 Nat) (h':AI) (tk:Nat) (l:A4) (c:Nat),(∀i∈is,i<L.length)->(is.map λi=>L.getD i []).Perm L->(is.map λi=>L.getD i []).Pairwise (λx y=>jy x y=true)->(∀b o,s.heap.get? b=some o->h'.get? b=some o)->s.toks<=tk ->
   s.heap.objs.size<=l->h'.get? l=some (seqObj "list" (is.map λi=>(es.toList.map (·.val)).getD i .none).toArray c)->Q (.ref l) {s with heap:=h',toks:=tk}) :
  wpAny (model prog w) A (call (.builtin "sorted") [.ref y]) Q E s:=by
 have Fj:es.size=L.length:=by simpa using hT.len
 exact zp hT nd CJ BC (λQ' k=>JEu (show A.in1.handled=none from hh) hd hy hm (by rw[Fj,CK];omega) k) h
end
end HK
namespace PySem
theorem nV {Z β:Type}(f:Z->β):∀(xs:T5 Z) (i:Nat),(xs.map f).eraseIdx i=(xs.eraseIdx i).map f
 |[],_=>rfl
 |_::_,0=>rfl
 |x::xs,i+1=>by show f x::(xs.map f).eraseIdx i=f x::_;rw[nV f xs i]
section
variable {prog:A9}{w:AM}{K:Type}[DecidableEq K]{knd:HeapKind prog w K}{A:AL}{E:Tb}{s:A1}
def yj {d a:A4}{xs:T5 (K×A4×A3)}{k:K}{Q:UE DictEntry->A1->Prop}(hu:knd.room A)(BN:knd.is s.heap k a)(hm:s.heap.DictOfH knd d xs)
  (Ck:k∈xs.map (·.1))
  (h1:∀i x h',xs[i]?=some x->x.1=k->h'.DictOfH knd d (xs.eraseIdx i)->Heap.SameBut d s.heap h'->Q (some (entryOfKey knd x)) {s with heap:=h',toks:=s.toks+knd.draws k})
  (hsz:xs.length<=sizeLine) :
  wpAny (model prog w) A (Builtin.Dict.takeOut d (.ref a)) Q E s:=by
 let⟨o,es,ep,ho,hc,hd,he,He,hn⟩:=hm;unfold Builtin.Dict.takeOut
 try with_reducible refine Bg ?_
 refine AB (knd.pyHash hu BN ?_);refine AB (wpAny_dictFind_heap (s:={s with toks:=s.toks+knd.draws k}) hu BN ho hd he He hn ?_ ?_)
 ·intro F1
  exact AJ Ck (not_mem_keys_of_get F1)
 ·intro j p hj
  have ej:es[j]?=some (entryOfKey knd (k,p)):=by rw[←GU,he,CG,hj];rfl
  refine(show wpAny _ _ (dictEntries d (keyPart (.ref a)) >>= _) _ _ _ from AB (GQ (s:={s with toks:=s.toks+knd.draws k}) ho hd ?_));rw[ej];have hjl:j<xs.length:=(C3.mp hj).1
  have Fj:es.size=xs.length:=by rw[←DS,he,Az]
  refine(show wpAny _ _ (updateDictKeys d (·.eraseIdxIfInBounds j) (keyPart (.ref a)) >>= _) _ _ _ from AB (wpAny_updateDictKeys (hz:=?_) (s:={s with toks:=s.toks+knd.draws k}) ho hd (AN (h1 j (k,p) _ hj rfl {_,_,ep+1,Dw _ ho (Obj.isFreed_of_dict (Obj.data_mapDictKeys hd _)),
   hc.mapDictKeys _,Obj.data_mapDictKeys hd _,?_,?_,?_} (Heap.SameBut.update ..)))))
  ·have:(es.eraseIdxIfInBounds j).toList=es.toList.eraseIdx j:=by
    rw[Array.eraseIdxIfInBounds];split
    ·simp
    ·rename_i q;exact AJ ∅ q
   rw[this,he,nV]
  ·intro x hx
   exact knd.keeps (He x (List.mem_of_mem_eraseIdx hx)) ho hd (Heap.SameBut.update ..)
  ·rw[←nV (λx:K×A4×A3=>x.1)]
   exact hn.sublist (List.eraseIdx_sublist _ _)
  ·have:(es.eraseIdxIfInBounds j).size<=es.size:=by
    rw[Array.eraseIdxIfInBounds];split <;> simp
   omega
def uv (knd:HeapKind prog w K){k:K}{a:A4}(d:A4)(hd:(d == sysModules)=false) :
  MeetsIn prog w (Builtin.«dict.pop» {[.ref d,.ref a],[]}) (λA R s=>knd.room A.in1/\knd.is s.heap k a/\∃xs,s.heap.DictOfH knd d xs/\xs.length<=sizeLine/\k∈xs.map (·.1) /\
   (∀i x h',xs[i]?=some x->x.1=k->h'.DictOfH knd d (xs.eraseIdx i)->Heap.SameBut d s.heap h'->R (.ok (.ret x.2.2)) {s with heap:=h',toks:=s.toks+knd.draws k})) :=
 .of_wp λA R s hh=>by
  let⟨hu,BN,xs,hm,hz,Ck,h1⟩:=hh;let⟨o,es,ep,ho,hc,hdd,he,He,hn⟩:=id hm;unfold Builtin.«dict.pop»;refine AB ?_;unfold Builtin.Dict.keyAndDefault;refine AB (zbX hm.typeIs ?_)
  show wpAny _ _ (pure (d,Value.ref a,none)) _ _ s
  refine AN ?_;refine(show wpAny _ _ (dictEntries d >>= _) _ _ s from AB (GQ ho hdd (AB (AN ?_))))
  have BC:es.isEmpty=false:=by
   have hl:es.size=xs.length:=by rw[←DS,he,Az]
   have:xs≠[]:=λz=>by rw[z] at Ck;cases Ck
   have:=zcw.mpr this
   cases z:es.isEmpty with
   |false=>rfl
   |true=>rw[Array.isEmpty_iff.mp z] at hl;simp at hl;omega
  rw[BC];refine(show wpAny _ _ (Builtin.Dict.takeOut d (.ref a) >>= _) _ _ s from AB (yj hu BN hm Ck (λi x h' hx hk F2 Hy=>?_) hz));refine(show wpAny _ _ (letGo [(entryOfKey knd x).key] [(entryOfKey knd x).val] >>= _) _ _ _ from AB (wpAny_letGo (AN {_,rfl,h1 i x h' hx hk F2 Hy})))
end
end PySem
namespace HW
open PyProof.Rows L2 HK DK
def Co (K:AP)(td:TE):TE:=λY H Q=>td Y H λx H1=>∃a A6 L,x=.ref a/\H1 a=some (.dT A6)/\oE K H1 (A6.map (·.2)) L/\L.Nodup/\L.length<64/\(2<=L.length->∀x∈L,x≠[])/\∀FX,oE K H1 FX (bj L)->∀l,H1 l=none->Q (.ref l) (upd H1 l (.lst FX))
def JC0 {X:Cx}(hc:X.calm=true){o:AR}{td:TE}{apos AW p pos:Pos}(hg:Gl X "sorted")(hm:X.mg "sorted" = none)(ho:PE X o td)(Bb:attributeBase o "values" X.env (eval o X.env)=eval o X.env)(BL:(apos.endLine == AW.line)=true)
  (he:starEach [.Call (.Attribute o "values" apos) [] [] AW] X.env=(false,eval (.Call (.Attribute o "values" apos) [] [] AW) X.env)::starEach [] X.env):PE X (.Call (.Name "sorted" p) [.Call (.Attribute o "values" apos) [] [] AW] [] pos) (Co X.K td):=by
 intro A2 s Y H Q I h;refine zca (qv I hg hm (by decide:bootBuiltins "sorted" = some (.builtin "sorted")) ?_ ∅ ∅);refine PyProof.Rows.callWith_builtin1 ?_ he rfl;rw[he]
 show wpAny _ _ (spliced ((false,eval (.Call (.Attribute o "values" apos) [] [] AW) X.env)::backTo pos (starEach [] X.env))) _ _ s
 refine Calls.spliced_cons (zcG Bb rfl BL PySem.F.plainAttrs_dict PySem.F.slot_dict_values PySem.F.type_dict_values (da (ho A2 s Y H _ I h) λu s1 hh=>?_));obtain⟨x,H1,I1,rx,a,A6,L,ex,hq,hk,nd,CJ,BC,q⟩:=hh;subst ex;obtain rfl:u=Value.ref a:=rx;obtain⟨t1,t2,_⟩:=uA I1 (.inr {A6,.inl hq});refine{t1,t2,Calls.callWith_builtin rfl (PySem.evalArgs_none ?_)};obtain⟨hz,hs,xs,kt,ob,es,ep,g,hx,hd,hee,He,hn⟩:=Al I1.hok hq;have de:DE s1.heap a es ep:={ob,g,hx,hd};refine JEp hs de ?_;refine(show wpAny _ _ (spliced []) _ _ _ from Calls.spliced_nil ?_);have I2:aD X A2 Y H1 {s1 with heap:=s1.heap.push {cls:=.type "dict_values",data:=.fields #[.ref a]}}:=I1.kept (t':=s1.toks) λb o e=>AY _ e
 have HV:es.toList.map (·.val)=xs.map λy=>y.2.2:=by rw[hee,CY];rfl
 have rv:aR (A6.map (·.2)) (es.toList.map (·.val)):=by
  rw[HV];clear hq hk nd CJ BC q hz hee HV hn He
  induction kt with
  |nil=>exact .nil
  |cons r _ ih=>exact .cons r.2.2 ih
 have key:∀{ws:T5 V} {L:Ta},oE X.K H1 ws L->∀{its:Te},aR ws its->aY (s1.heap.push {cls:=.type "dict_values",data:=.fields #[.ref a]}) its L:=by
  intro ws L t
  induction t with
  |nil=>intro its v;cases v;exact trivial
  |cons h _ ih=>
   intro its v
   cases v with
   |cons hv tv=>
    let⟨t,rfl,hs⟩:=h;cases hv;let⟨js,rj,⟨ob,g1,g2,n,g3⟩,_⟩:=I2.tuple hs;exact{{t,ob,js.toArray,n,rfl,g1,g2,g3,by simpa using c7 rj},ih tv}
 have Hq:(A6.map (·.2)).length=L.length:=Paired.length hk;have hil:=rv.length;generalize hws:A6.map (·.2)=ws at *;generalize hits:es.toList.map (·.val)=its at *;refine JFt (s:={s1 with heap:=s1.heap.push {cls:=.type "dict_values",data:=.fields #[.ref a]}}) (I1.ok.hd hc) hs (y:=s1.heap.objs.size) {_,BI _ rfl,rfl,rfl} (de.at λob g=>AY _ g) (by rw[hits];exact key hk rv) nd CJ BC λis h' tk l c i1 i2 i3 kp ht hl hL=>?_;rw[hits] at hL;have heq:(is.map λi=>L.getD i [])=bj L:=ll i3 (g6 nd) (i2.trans (bR L).symm)
 have hlen:is.length=L.length:=by simpa using i2.length_eq
 have at_:∀{ws:T5 V} {L:Ta},oE X.K H1 ws L->∀i,i<L.length->∃t,ws.getD i .non=.ref t/\gM X.K H1 t ((L.getD i []).map V.int):=by
  intro ws L t
  induction t with
  |nil=>intro i hi;simp at hi
  |cons h _ ih=>
   intro i hi
   cases i with
   |zero=>simpa using h
   |succ i=>simpa using ih i ‹hi›
 have pick:∀is:T5 Nat,(∀i∈is,i<L.length)->oE X.K H1 (is.map λi=>ws.getD i .non) (is.map λi=>L.getD i [])/\aR (is.map λi=>ws.getD i .non) (is.map λi=>its.getD i .none):=by
  intro is
  induction is with
  |nil=>intro _;exact{.nil,.nil}
  |cons i is ih=>
   intro hi;let⟨a,b⟩:=ih λj hj=>hi j (BF _ hj);have h0:=hi i BB;refine{.cons (at_ hk i h0) a,.cons ?_ b}
   have hw:i<ws.length:=by omega
   let⟨u,q1,q2⟩:=rv.get (Bl hw)
   show L2.be (ws.getD i .non) (its.getD i .none)
   rw[HH,HH,Bl hw,q1];exact q2
 let⟨p1,p2⟩:=pick is i1;rw[heq] at p1;exact{.ref l,_,I2.laid (t':=tk) kp hl (show bo X.prog X.w _ h' _ (.lst (is.map λi=>ws.getD i .non)) from{by rw[Az,hlen,CK];omega,_,c,p2,by simpa[seqObj] using hL}),rfl,q _ p1 _ (I2.hok.fresh hl)}
noncomputable def wF (fa:FE):FE:=λO U=>(fa O U).bind λa=>match a.1 with
 |.p n=>(uN a.2 n).bind λA6=>(si (unkDs (A6.map (·.2)))).bind λL=>if L.Nodup/\L.length<64/\(L.length<2\/∀k∈L,k≠[]) then some (.p a.2.length,a.2++[.lst ((bj L).map λk=>.tup (k.map D.int))]) else none
 |_=>none
def JF5 {K:AP}{H:Hp}{Q:VK}{fa:FE}(h:ay K (wF fa) Y H Q):Co K (ay K fa) Y H Q:=by
 let⟨O,U,m,d,U',hl,hs,e,k⟩:=h;let⟨⟨x,U1⟩,e1,e⟩:=AS.mp e;split at e
 ·rename_i n hn;simp only at hn;subst hn;let⟨A6,e2,e⟩:=AS.mp e;let⟨L,e3,e⟩:=AS.mp e;split at e
  ·rename_i hc
   cases e;refine{O,U,m,_,U1,hl,hs,e1,λv H1 m1 x1 s1 r1=>?_};let⟨a,rfl,ha⟩:=r1;let⟨es,hR,hK⟩:=sX s1 ha e2;let⟨ps,e4,rfl,hT⟩:=pO e3 (RelDs.unk _ _ hK.2);refine{a,es,_,rfl,hR,by rw[e4];exact vf hT,hc.1,hc.2.1,λh2=>hc.2.2.resolve_left ∅,λFX tv l hl=>?_};let⟨y1,y2,y3⟩:=gE s1 tv.rels hl;exact k _ _ _ (x1.trans y1) y2 y3
  ·cases e
 ·cases e
def Js (td ty:TE):TE:=λY H Q=>td Y H λx H1=>∃a,x=.ref a/\SG H1 a/\ty Y H1 λy H2=>∃A6 k b,H2 a=some (.dT A6)/\y=.ref b/\H2 b=some (.tup (k.map kV))/\k∈A6.map (·.1) /\
 ∀i v,A6[i]?=some (k,v)->(A6.map (·.1)).Nodup->Q v (upd H2 a (.dT (A6.eraseIdx i)))
def JFs {X:Cx}(hu:X.A.units+1<cLine){o e:AR}{apos AW:Pos}{td ty:TE}(ho:PE X o td)(he:PE X e ty)(m:M1 X o "pop" apos e AW):PE X (.Call (.Attribute o "pop" apos) [e] [] AW) (Js td ty):=by
 intro A2 s Y H Q I h;refine zcG m.base m.few m.line PySem.F.plainAttrs_dict PySem.F.slot_dict_pop PySem.F.type_dict_pop (da (ho A2 s Y H _ I h) λu s1 hh=>?_);let⟨x,H1,I1,rx,a,ex,d,q1⟩:=hh;subst ex;obtain rfl:u=Value.ref a:=rx;let⟨t1,t2,_⟩:=uA I1 d;refine{t1,t2,?_};rw[m.trees];refine Calls.callWith_builtin rfl (Calls.evalArgs_plain (Calls.spliced_cons (da (he A2 s1 Y H1 _ I1 q1) λiv s2 hh=>Calls.spliced_nil ?_)));let⟨y,H2,I2,ry,A6,k,b,ea,ey,eb,Ck,qa⟩:=hh;subst ey;cases(show iv=Value.ref b from ry);let⟨zz,hd,xs,rel,dd⟩:=Al I2.hok ea;have hxz:xs.length<=sizeLine:=by rw[←Paired.length rel];exact zz
 have at1:∀{ps:T5 (T5 aI×V)} {ys:T5 (T5 aI×A4×A3)},KT H2 ps ys->ps.map (·.1)=ys.map (·.1)/\∀(i:Nat) (y:T5 aI×A4×A3),ys[i]?=some y->∃v,ps[i]?=some (y.1,v)/\be v y.2.2:=by
  intro ps ys kt;induction kt with
  |nil=>exact{rfl,λi y z=>by simp at z}
  | @cons p q ps ys r _ ih=>
   refine{by rwa[AZ,ih.1,r.1],λi y z=>?_}
   cases i with
   |zero=>
    rwa[zbO,Option.some.injEq] at z;subst z;exact{p.2,by rwa[zbO];rw[←r.1],r.2.2}
   |succ i=>simpa using ih.2 i y ‹z›
 have er:∀{ps:T5 (T5 aI×V)} {ys:T5 (T5 aI×A4×A3)},KT H2 ps ys->∀i,KT H2 (ps.eraseIdx i) (ys.eraseIdx i):=by
  intro ps ys kt;induction kt with
  |nil=>intro i;exact .nil
  |cons r t ih=>
   intro i
   cases i with
   |zero=>exact t
   |succ i=>exact .cons r (ih i)
 refine call_meetsIn PySem.F.slot_dict_pop dd.typeIs PySem.F.entry_dict_pop (PySem.F.args_dict_pop_2 _ _) (uv (tupleKind (bB X.prog X.w)) (k:=k) a hd) {tupleKind_room_in1 hu,lY I2.hok eb,xs,dd,hxz,by rw[←(at1 rel).1];exact Ck,λi y h' hy hk Hi hs=>?_};let⟨v,hv,rv⟩:=(at1 rel).2 i y hy;rw[hk] at hv;have rp:=er rel i;let⟨q',es,ep,hq,h2,h3,h4,_,h5⟩:=Hi;refine{v,_,pB (ob:=.dT (A6.eraseIdx i)) I2 (by rw[ea];exact True.intro) hs {q',hq} {DL (by rw[List.length_eraseIdx];split <;> omega) zz,hd,_,KT.keeps rp λc ys ec=>?_,q',es,ep,hq,h2,h3,h4,h5},rv,qa i v hv (by rw[(at1 rel).1];exact(let ⟨_,_,_,_,_,_,_,_,z⟩:=dd;z))};rw[aB (DW ec ea (λz=>nomatch z))];exact ec
theorem wK {Z β:Type}[DecidableEq Z]:∀{l:T5 (Z×β)} {i:Nat} {k:Z} {v:β},(l.map (·.1)).Nodup->l[i]?=some (k,v)->l.eraseIdx i=l.filter λp=>!decide (p.1=k)
 |[],_,_,_,_,h=>by simp at h
 |p::l,0,k,v,nd,h=>by
  rwa[zbO,Option.some.injEq] at h;subst h;let⟨n1,n2⟩:=By.mp nd;rw[zbp ∅]
  show l=_
  symm;refine zcx.mpr λq hq=>?_;have:q.1≠k:=λe=>n1 (BH.mpr {q,hq,e});simpa using this
 |p::l,i+1,k,v,nd,h=>by
  let⟨n1,n2⟩:=By.mp nd;have h:l[i]?=some (k,v):=by simpa using h
  have:p.1≠k:=λe=>n1 (BH.mpr {_,CU h,e.symm});rw[Gu ‹this›]
  show p::l.eraseIdx i=_
  rw[wK n2 h]
theorem yW:∀{l:T5 (T5 aI×V)} {i:Nat} {k:T5 aI} {v:V},(l.map (·.1)).Nodup->l[i]?=some (k,v)->c9 l k=some v
 |[],_,_,_,_,h=>by simp at h
 |p::l,0,k,v,nd,h=>by rwa[zbO,Option.some.injEq] at h;subst h;simp[c9]
 |p::l,i+1,k,v,nd,h=>by
  let⟨n1,n2⟩:=By.mp nd;have h:l[i]?=some (k,v):=by simpa using h
  have:p.1≠k:=λe=>n1 (BH.mpr {_,CU h,e.symm});have ih:=yW n2 h;unfold c9 at ih ⊢;rw[zbU ‹this›];exact ih
theorem iX.del {K:AP}{H:Hp}(k:Th):∀{A6:T5 (Th×D)} {es:T5 (T5 aI×V)},iX K H A6 es->iX K H (A6.filter λp=>!decide (p.1=k)) (es.filter λp=>!decide (p.1=kk k))
 |[],[],h=>h
 |[],e::es,h=>by have:=h.1;simp at this
 |q::A6,[],h=>by have:=h.1;simp at this
 |(a,x)::A6,(b,y)::es,h=>by
  let⟨rfl,h1,h2⟩:=iX.cons.mp h;have ih:=iX.del k h2;by_cases c:a=k
  ·rw[zbp (by simp[c]),zbp (by simp[c])];exact ih
  ·have c':kk a≠kk k:=λe=>c (qw e);rw[Gu (by simp[c]),Gu (by simp[c'])];exact iX.cons.mpr {rfl,h1,ih}
noncomputable def wG (fo fk:FE):FE:=λO U=>(fo O U).bind λo=>match o.1 with
 |.p n=>if (uN o.2 n).isSome=true then (fk O o.2).bind λk=>match k.1 with
  |.v (.key ks)=>(uN k.2 n).bind λA6=>(lL A6 ks).bind λd=>some (.v d,k.2.set n (.dt (A6.filter λp=>!decide (p.1=ks))))
  |_=>none
  else none
 |_=>none
def JF8 {K:AP}{H:Hp}{Q:VK}{fo fk}(h:ay K (wG fo fk) Y H Q):Js (ay K fo) (ay K fk) Y H Q:=by
 let⟨O,U,m,d,U',hl,hs,e,kc⟩:=h;let⟨⟨o,U1⟩,e1,e⟩:=AS.mp e;split at e
 ·rename_i n hn;simp only at hn;subst hn;split at e
  ·rename_i h0;let⟨⟨k,U2⟩,e2,e⟩:=AS.mp e;split at e
   ·rename_i ks GL;simp only at GL;subst GL;let⟨A6,e4,e⟩:=AS.mp e;let⟨dv,e5,e⟩:=AS.mp e;cases e;refine{O,U,m,_,U1,hl,hs,e1,λvo H1 m1 x1 s1 r1=>?_};let⟨kvs0,e0⟩:=zb3.mp h0;let⟨a,rfl,ha⟩:=r1;let⟨es,hR,hK⟩:=sX s1 ha e0;refine{a,rfl,.inr {es,.inl hR},?_};refine{O,U1,m1,_,U2,hl.ext x1,s1,e2,λvk H2 m2 x2 s2 r2=>?_};have x12:=x1.trans x2;have ha2:m2[n]?=some a:=by let⟨a',ea',q⟩:=aq.ext x2 (show aq K m1 H1 (.p n) (.ref a) from{a,rfl,ha});cases ea';exact q
    let⟨BE,Fs,F4⟩:=sX s2 ha2 e4;rwa[aq,ak] at r2;let⟨b,rfl,hb⟩:=r2;rcases iX.val ks F4 with⟨n1,n2⟩|⟨dd,vv,n1,n2,n3⟩
    ·rw[n1] at e5;cases e5
    ·rw[n1] at e5;cases e5;have Ck:kk ks∈BE.map (·.1):=by unfold c9 at n2;let⟨p,hp,_⟩:=DY.mp n2;exact BH.mpr {p,List.mem_of_find?_eq_some hp,by simpa using zde hp}
     refine{BE,kk ks,b,Fs,rfl,by rw[wa];exact hb,Ck,λi v hv nd=>?_};have ev:=(yW nd hv).symm.trans n2;cases ev;rw[wK nd hv];have y:dF m2 H2 m2 (upd H2 a (.dT (BE.filter λp=>!decide (p.1=kk ks)))):=.put (CU ha2) Fs ∅ ∅;have kr:=iX.del ks (iX.tf y.tf F4);exact kc _ _ m2 (x12.trans y) (s2.put ha2 Fs ∅ ∅ {_,bP,kr.1,kr.2}) (ak.tf y.tf _ _ n3)
   ·cases e
  ·cases e
 ·cases e
end HW
namespace HS
open PyProof.Rows
def P3 (t:SetTable)(h:Int)(j:Nat):Prop:=∃n,(db t n (t.probeStart h)).j=j/\∀k<n,t.slot (db t k (t.probeStart h)).j≠.empty
def SJ (es:AD (Int×A3))(t:SetTable):Prop:=∀(i:Nat) (e:Int×A3) (j:Nat),es[i]?=some e->t.place[i]?=some j->P3 t e.1 j
section
variable {prog:A9}{w:AM}
structure Uy (prog:Program)(w:World)(TH:List Int->Int)(led:Bool)(h:Heap)(es:Array (Int×Value))(t:SetTable)(vs:Te):Prop where
 T:rZ prog w led h es t vs
 ch:SJ es t
 hh:∀e∈es.toList,∃b ls,e.2=.ref b/\oH prog w h ls b/\e.1=TH ls
end
end HS
namespace HW
open PyProof.Rows L2 HS DK
noncomputable def Uw (acc:Ta)(k:Th):Ta:=if k∈acc then acc else acc++[k]
noncomputable def dd (L:Ta):Ta:=L.foldl Uw []
end HW
namespace HW
open PyProof.Rows L2
open Classical in
noncomputable def Us (cl:T5 (Str×A4))(H:Hp):Hp:=λb=>if (∃y,cl.lookup y=some b) then none else H b
structure Uz (P:Addr)(q:Str)(H H':Hp):Prop where
 keep:∀b o,b≠P->H b=some o->H' b=some o
 tab:∃ps,H' P=some (.tbl ps)/\m9 H' q ps
structure SH (K:AP)(x:Str)(st:Stmt)(f:Addr)(fd:FuncData)(c:Addr):Prop where
 ex:∃(oc:Value) (od:Option Addr) (kV doc pm:Value) (an:Option Addr) (ct:Value) (GF:Array (Tg)),
  fd=PySem.W.fnOf x x (gK st) (bx st) (ai st) .none kV doc pm an (.ref c) ct/\K.lookup f=some {oc,od,.func fd,GF}/\PySem.W.codeIn K (.ref c) x=true
 kp:PySem.W.keepIn K (.ref f)=true
section
variable {K:AP}{m:Tf}{H:Hp}
theorem aW.length:∀{ds:T5 R} {vs:T5 V},aW K m H ds vs->ds.length=vs.length
 |[],_,h=>by cases(show _=[] from h);rfl
 |_::_,_,⟨v,r,e,h1,h2⟩=>by subst e;simp[aW.length h2]
theorem aW.get:∀{ds:T5 R} {vs:T5 V} {i:Nat} {d:R},aW K m H ds vs->ds[i]?=some d->∃v,vs[i]?=some v/\aq K m H d v
 |[],_,_,_,_,e=>by simp at e
 |_::_,_,0,_,⟨v,r,e,h1,h2⟩,q=>by subst e;simp at q;subst q;exact{v,rfl,h1}
 |_::_,_,i+1,_,⟨v,r,e,h1,h2⟩,q=>by subst e;simp at q;let⟨w,a,b⟩:=aW.get h2 q;exact{w,by simpa using a,b}
end
abbrev MW:=T5 R->ac->UE (R×ac)
noncomputable def wE:pE->UE (R×ac)
 |.rt r U=>some (r,U)
 |.nx _ U=>some (.v .non,U)
 |_=>none
noncomputable def oQ (k:Nat)(b:FS):MW:=λrs U=>(b (rs.map some++List.replicate (k-rs.length) none) U).bind wE
noncomputable def Nb (K:AP)(n:Nat)(f:MW):Sp:=λvs H Q _=>∃U m rs d U',rs.length=n/\aP K m H U/\aW K m H rs vs/\f rs U=some (d,U') /\
 ∀v H' m',dF m H m' H'->aP K m' H' U'->aq K m' H' d v->Q v H'
def JCp {K:AP}{m:Tf}{H:Hp}{N:Tn}{rs:T5 R}{vs:T5 V}(r:aW K m H rs vs):ff K m H (rs.map some++List.replicate (N.length-rs.length) none) (L2.fO N vs):=by
 have hl:=r.length;refine{by simp[L2.fO,hl],λi d e=>?_};by_cases hi:i<rs.length
 ·rw[BK ‹hi›,CG] at e
  cases q:rs[i]? with
  |none=>rw[q] at e;cases e
  |some x=>
   rw[q] at e;cases e;let⟨v,q1,q2⟩:=r.get q;refine{v,?_,q2};unfold L2.fO;rw[BK (by simp;omega),CG,q1];rfl
 ·rw[FW ‹hi›,zb8] at e;split at e <;> cases e
theorem pF.okW {P:A9}{w:AM}{K:AP}{mg:Td}{base:AI}{x qual:Str}{st:AU}{f:A4}{fd:FuncData}{N ps:Tn}{k:Nat}{b:FS}(F:pF K x qual st f fd)(S:az N ps (ai st))
  (Ay:∀(AX:A3) (A:AL) (outer:T5 Env) (s:A1) (H:Hp) (E:XK),bK k (A.deeper (envOfC qual (ai st) s.heap.objs.size f AX))->oZ (jX lB P w K mg base N qual (ai st) f AX A outer s H E).nox (bx st) (fJ K b)) :
  cC P w K mg base lB (k+1) f fd ps (Nb K ps.length (oQ N.length b)):=by
 have G:cC P w K mg base lB (k+1) f fd ps (λvs H Q _=>vs.length=ps.length/\fJ K b {nx:=λ_ H'=>Q .non H',rt:=Q} (L2.fO N vs) H) :=
  L2.pF.ok F S (λvs H Q E h=>h.1) λAX A outer s H vs Q E hr h=>{_,Ay AX A outer s H E hr,h.2}
 refine G.imp λvs H Q E hh=>?_;let⟨U,m,rs,d,U',hn,hs,r,e,k⟩:=hh;refine{by rw[←r.length];exact hn,?_};let⟨o,e1,e⟩:=AS.mp e;refine{_,U,m,o,JCp r,hs,e1,?_}
 cases o with
 |nx O U1=>cases e;exact λY H' m' x1 s1 _=>k _ H' m' x1 s1 (by rwa[aq,ak])
 |rt d U1=>cases e;exact λv H' m' x1 s1 r1=>k _ H' m' x1 s1 r1
 |bk O U1=>cases e
 |ct O U1=>cases e
noncomputable def jF (f:MW)(n:Nat)(fa:FA):FE:=λO U=>(fa O U).bind λa=>if a.1.length=n then f a.1 a.2 else none
structure o5 (K:AP)(mg:Td)(c:Str)(C:Addr):Prop where
 ns:PySem.W.nsIn K mainGlobals c=some (some (.ref C))
 mg:mg c=some (.ref C)
 cl:IG K C
noncomputable def xY (c:Str)(U:ac)(x:R):UE (T5 (Str×R)):=match x with
 |.p n=>(match U[n]? with|some (.ob c' fs)=>if c'=c then some fs else none|_=>none)
 |_=>none
noncomputable def zD (f:Str)(v:R):T5 (Str×R)->T5 (Str×R)
 |[]=>[(f,v)]
 |(g,x)::r=>if g=f then (g,v)::r else (g,x)::zD f v r
def FR (K:AP)(m:Tf)(H:Hp)(fs:T5 (Str×R))(es:T5 (Str×V)):Prop:=es.map (·.1)=fs.map (·.1)/\aW K m H (fs.map (·.2)) (es.map (·.2))
section
variable {K:AP}{m m':Tf}{H H':Hp}
def FR.cons {k k':Str}{d:R}{v:V}{fs:T5 (Str×R)}{es:T5 (Str×V)}:FR K m H ((k,d)::fs) ((k',v)::es) ↔ k'=k/\aq K m H d v/\FR K m H fs es:=by
 constructor
 ·rintro⟨h1,h2⟩;rwa[AZ,List.cons.injEq] at h1;let⟨w,r,e,h3,h4⟩:=h2;rwa[AZ,List.cons.injEq] at e;let⟨rfl,rfl⟩:=e;exact{h1.1,h3,h1.2,h4}
 ·rintro⟨rfl,h1,h2,h3⟩;exact{by simp[h2],{_,_,rfl,h1,h3}}
theorem FR.look:∀{fs:T5 (Str×R)} {es:T5 (Str×V)} (f:Str),FR K m H fs es->(fs.lookup f=none/\es.lookup f=none)\/∃d v,fs.lookup f=some d/\es.lookup f=some v/\aq K m H d v
 |[],es,f,h=>by
  have:es=[]:=by simpa using h.1
  subst this;exact .inl {rfl,rfl}
 |(a,d)::fs,[],f,h=>by have:=h.1;simp at this
 |(a,d)::fs,(b,v)::es,f,h=>by
  let⟨rfl,h1,h2⟩:=FR.cons.mp h;rwa[E9]
  cases q:f == b with
  |true=>exact .inr {d,v,rfl,rfl,h1}
  |false=>exact FR.look f h2
theorem FR.put {f:Str}{d:R}{v:V}(rd:aq K m H d v):∀{fs:T5 (Str×R)} {es:T5 (Str×V)},FR K m H fs es->FR K m H (zD f d fs) (ju f v es)
 |[],es,h=>by
  have:es=[]:=by simpa using h.1
  subst this;exact FR.cons.mpr {rfl,rd,rfl,rfl}
 |(a,x)::fs,[],h=>by have:=h.1;simp at this
 |(a,x)::fs,(b,y)::es,h=>by
  let⟨rfl,h1,h2⟩:=FR.cons.mp h;unfold zD ju;by_cases q:b=f
  ·rw[A7 q,A7 q];exact FR.cons.mpr {rfl,rd,h2}
  ·rw[A5 q,A5 q];exact FR.cons.mpr {rfl,h1,FR.put rd h2}
def FR.ext (x:dF m H m' H'){fs:T5 (Str×R)}{es:T5 (Str×V)}(h:FR K m H fs es):FR K m' H' fs es:={h.1,aW.ext x h.2}
def FR.len {fs:T5 (Str×R)}{es:T5 (Str×V)}(h:FR K m H fs es):es.length=fs.length:=by simpa using AQ List.length h.1
def DT {mg:Td}{c:Str}{C:A4}{U:ac}{x:R}{v:V}{fs:T5 (Str×R)}(N:o5 K mg c C)(s:aP K m H U)(r:aq K m H x v)(e:xY c U x=some fs) :
  ∃n a dx es,x=.p n/\m[n]?=some a/\v=.ref a/\H a=some (.ins C dx es)/\FR K m H fs es:=by
 unfold xY at e;split at e
 ·rename_i n
  split at e
  ·rename_i c' gs q
   split at e
   ·rename_i hc
    cases e;subst hc;let⟨a,rfl,ha⟩:=r;let⟨C',dx,es,h1,h2,h3,h4⟩:=s.cell _ _ a q ha;rw[N.ns] at h1;cases h1;exact{n,a,dx,es,rfl,ha,rfl,h2,h3,h4}
   ·cases e
  ·cases e
 ·cases e
end
noncomputable def hG (c f:Str)(fo:FE):FE:=λO U=>(fo O U).bind λo=>(xY c o.2 o.1).bind λfs=>(fs.lookup f).bind λd=>some (d,o.2)
noncomputable def mG (c f:Str)(fo fv:FE):FS:=λO U=>(fv O U).bind λv=>(fo O v.2).bind λo=>(xY c o.2 o.1).bind λfs=>if fs.length<1000 then (match o.1 with|.p n=>some (.nx O (o.2.set n (.ob c (zD f v.1 fs))))|_=>none) else none
noncomputable def iA (c nm:Str)(f:MW)(n:Nat)(fo:FE)(fa:FA):FE:=λO U=>(fo O U).bind λo=>(xY c o.2 o.1).bind λfs=>if (fs.lookup nm).isNone=true then (fa O o.2).bind λa=>if a.1.length+1=n then f (o.1::a.1) a.2 else none else none
section
variable {K:AP}{Y:L2.St}{H:Hp}{Q:VK}{mg:Td}{c:Str}{C:A4}
def JB3 {f:MW}{n:Nat}{fa}{E:XK}(h:ay K (jF f n fa) Y H Q):vj (Nb K n f) [] E (ig K fa) Y H Q:=by
 let⟨O,U,m,d,U',hl,hs,e,k⟩:=h;let⟨⟨xs,U1⟩,e1,e⟩:=AS.mp e;split at e
 ·rename_i hn;refine{O,U,m,xs,U1,hl,hs,e1,λvs H1 m1 x1 s1 r1=>?_};exact{U1,m1,xs,d,U',hn,s1,by rw[DZ];exact r1,e,λv H' m' x2 s2 r2=>k v H' m' (x1.trans x2) s2 r2}
 ·cases e
def Lb {f:Str}{fo}(N:o5 K mg c C)(hf:fG K C f)(h:ay K (hG c f fo) Y H Q):N3 K (ay K fo) f Y H Q:=by
 let⟨O,U,m,d,U',hl,hs,e,k⟩:=h;let⟨⟨o,U1⟩,e1,e⟩:=AS.mp e;let⟨fs,e2,e⟩:=AS.mp e;let⟨d',e3,e⟩:=AS.mp e;cases e;refine{O,U,m,o,U1,hl,hs,e1,λv H1 m1 x1 s1 r1=>?_};let⟨n,a,dx,es,rfl,ha,rfl,ea,fr⟩:=DT N s1 r1 e2;rcases fr.look f with⟨z,_⟩|⟨d0,v0,z1,z2,z3⟩
 ·rw[z] at e3;cases e3
 ·rw[z1] at e3;cases e3;exact{a,C,dx,es,v0,rfl,ea,N.cl,hf,z2,k _ H1 m1 x1 s1 z3}
def JF6 {f:Str}{fo fv}{D:gO}(N:o5 K mg c C)(hf:fG K C f)(h:fJ K (mG c f fo fv) D Y H):Of K (ay K fo) (ay K fv) f D Y H:=by
 let⟨O,U,m,o,hl,hs,e,k⟩:=h;let⟨⟨v,U1⟩,e1,e⟩:=AS.mp e;let⟨⟨ob,U2⟩,e2,e⟩:=AS.mp e;let⟨fs,e3,e⟩:=AS.mp e;split at e
 ·rename_i An;refine{O,U,m,v,U1,hl,hs,e1,λy H1 m1 x1 s1 r1=>?_};refine{O,U1,m1,ob,U2,hl.ext x1,s1,e2,λvo H2 m2 x2 s2 r2=>?_};let⟨n,a,dx,es,rfl,ha,rfl,ea,fr⟩:=DT N s2 r2 e3;dsimp only at e;cases e;have x:dF m2 H2 m2 (upd H2 a (.ins C dx (ju f y es))):=.put (CU ha) ea ∅ ∅;refine{a,C,dx,es,rfl,ea,N.cl,hf,by rw[fr.len];exact An,?_};have x3:=(x1.trans x2).trans x;have fr2:=(FR.put (f:=f) (r1.ext x2) fr).ext x;exact k _ _ m2 x3 (s2.put ha ea ∅ ∅ {C,dx,_,N.ns,bP,fr2.1,fr2.2}) (hl.ext x3)
 ·cases e
def JGa {nm:Str}{f:MW}{n:Nat}{fo fa}{E:XK}(N:o5 K mg c C)(h:ay K (iA c nm f n fo fa) Y H Q):Jw C nm (Nb K n f) [] E (ay K fo) (ig K fa) Y H Q:=by
 let⟨O,U,m,d,U',hl,hs,e,k⟩:=h;let⟨⟨o,U1⟩,e1,e⟩:=AS.mp e;let⟨fs,e2,e⟩:=AS.mp e;split at e
 ·rename_i F1;let⟨⟨xs,U2⟩,e3,e⟩:=AS.mp e;split at e
  ·rename_i hn;refine{O,U,m,o,U1,hl,hs,e1,λv H1 m1 x1 s1 r1=>?_};let⟨i,a,dx,es,rfl,ha,rfl,ea,fr⟩:=DT N s1 r1 e2;have hlook:es.lookup nm=none:=by
    rcases fr.look nm with⟨_,z⟩|⟨d0,v0,z1,z2,z3⟩
    ·exact z
    ·rw[z1] at F1;cases F1
   refine{a,dx,es,rfl,ea,hlook,?_};refine{O,U1,m1,xs,U2,hl.ext x1,s1,e3,λvs H2 m2 x2 s2 r2=>?_};exact{U2,m2,.p i::xs,d,U',by simpa using hn,s2,{_,_,rfl,r1.ext x2,by rw[DZ];exact r2},e,λv H' m' x3 s3 r3=>k v H' m' ((x1.trans x2).trans x3) s3 r3}
  ·cases e
 ·cases e
end
open HS
noncomputable def nR (c:Str)(f:MW)(n:Nat)(fa:FA):FE:=λO U=>(fa O U).bind λa=>if a.1.length+1=n then (f (.p a.2.length::a.1) (a.2++[.ob c []])).bind λr=>match r.1 with|.v .non=>some (.p a.2.length,r.2)|_=>none else none
def JB0 {K:AP}{mg:Td}{c:Str}{C:A4}{H:Hp}{Q:VK}{f:MW}{n:Nat}{fa:FA}{E:XK}(N:o5 K mg c C)(h:ay K (nR c f n fa) Y H Q):Jx C (Nb K n f) [] E (ig K fa) Y H Q:=by
 let⟨O,U,m,d,U',hl,hs,e,k⟩:=h;let⟨⟨xs,U0⟩,e0,e⟩:=AS.mp e;dsimp only at e;split at e
 ·rename_i hn;let⟨⟨r,U1⟩,e1,e⟩:=AS.mp e;dsimp only at e;split at e
  ·cases e;refine{O,U,m,xs,U0,hl,hs,e0,λvs H1 m1 x1 s1 r1=>?_};intro x dx hx hdx BC;have y1:dF m1 H1 m1 (upd H1 dx (.own x)):=.new hdx;have t1:=s1.same (cb hdx (o:=HO.own x));have EM:upd H1 dx (.own x) x=none:=(by unfold upd;rw[A5 (Ne.symm BC)];exact hx);have y2:dF m1 (upd H1 dx (.own x)) (m1++[x]) (upd (upd H1 dx (.own x)) x (.ins C dx [])):=.newH EM;have s2:=t1.newH (c:=.ob c []) EM {C,dx,[],N.ns,bP,rfl,rfl};have hp:(m1++[x])[U0.length]?=some x:=(by rw[←s1.len];simp);refine{_,_,.p U0.length::xs,_,_,by simpa using hn,s2,{_,_,rfl,{x,rfl,hp},by rw[DZ];exact r1.ext (y1.trans y2)},e1,λv H' m' x3 s3 r3=>?_};refine{by simpa only[aq,ak] using r3,k _ H' m' ((x1.trans (y1.trans y2)).trans x3) s3 ?_};exact aq.ext x3 (show aq K (m1++[x]) _ (.p U0.length) (.ref x) from{x,rfl,hp})
  ·cases e
 ·cases e
noncomputable def nE:T5 D->UE (T5 (aI×D))
 |[]=>some []
 |.tup [.str i,d]::r=>(nE r).map ((.inr (some i),d) :: ·)
 |_=>none
theorem qo {K:AP}{H:Hp}:∀{ds:T5 D} {ws:T5 V} {A6:T5 (aI×D)},nE ds=some A6->RelDs K H ds ws->∃qs,u1 K H ws qs/\KD K H A6 qs
 |[],ws,A6,e,r=>by cases e;have r:ws=[]:=r;subst r;exact{[],.nil,.nil}
 |d::ds,ws,A6,e,r=>by
  let⟨v,FX,rfl,r1,r2⟩:=r;unfold nE at e;split at e
  ·cases e;rename_i h;cases h
  ·rename_i i x r' h
   cases h;let⟨ks,e1,rfl⟩:=DY.mp e;let⟨qs,p1,p2⟩:=qo e1 r2;rwa[ak] at r1;let⟨a,vs,rfl,hq,hr⟩:=r1;let⟨v1,t1,rfl,h1,hr⟩:=hr;let⟨v2,t2,rfl,h2,hr⟩:=hr;have hr:t2=[]:=hr;subst hr;have h1:v1=.str i:=(by simpa only[ak] using h1);subst h1;exact{(.inr (some i),v2)::qs,.cons {a,rfl,hq} p1,KD.cons.mpr {rfl,h2,p2}}
  ·cases e
noncomputable def oA:T5 R->ac->UE (R×ac)
 |[.p n],U=>match U[n]? with
  |some (.lst ds)=>(nE ds).bind λA6=>some (.p U.length,U++[.dct (aX [] A6)])
  |_=>none
 |_,_=>none
def JGg {K:AP}:yT K oA (Df K):=by
 intro m H U xs d U' vs Q s r e k;unfold oA at e;split at e
 ·rename_i n;split at e
  ·rename_i ds hn;let⟨A6,e1,e⟩:=AS.mp e;cases e;let⟨v,rfl,r1⟩:=mI r;let⟨a,rfl,ha⟩:=r1;let⟨ws,ea,ra⟩:=s.cell _ _ a hn ha;let⟨qs,p1,p2⟩:=qo e1 ra;refine{a,ws,qs,rfl,ea,p1,λl hl=>?_};have x:dF m H (m++[l]) (upd H l (.dK (rM [] qs))):=.newH hl;have hk:=KD.putAll (K:=K) (H:=H) .nil p2;refine k _ _ (m++[l]) x (s.newH hl {_,bz,hk.1,RelDs.tf x.tf _ _ hk.2}) {l,rfl,?_};rw[←s.len];simp
  ·cases e
 ·cases e
end HW
namespace HW
variable {K:AP}
open PyProof.Rows L2
abbrev nh (e:AR)(es:Tj)(X:Cx):Prop:=starEach (e::es) X.env=(false,eval e X.env)::starEach es X.env
noncomputable def nM:AR->A8
 |.Starred ..=>true
 |_=>false
def aA {es:Tj}{env:Env}(h:nM e=false):starEach (e::es) env=(false,eval e env)::starEach es env:=by cases e <;> first|rfl|(simp[nM] at h)
theorem aH {env:Env}{pos:Pos}:∀{es:Tj},es.any nM=false->(backTo pos (starEach es env)).any (·.1)=false
 |[],_=>rfl
 |e::es,h=>by rw[GB,Bool.or_eq_false_iff] at h;rw[aA h.1];have ih:=aH (env:=env) (pos:=pos) h.2;unfold backTo at ih ⊢;rw[AZ,GB,ih];rfl
def xg {es:Tj}{env:Env}(h:nM e=false):(assignEach (e::es) env).map (·.2)=assign e env::(assignEach es env).map (·.2):=by cases e <;> first|rfl|(simp[nM] at h)
def lE {prog:A9}{w:AM}{A:AL}{E:Tb}{s:A1}{t sl:A4}{items:Ti}{vl vu:A3}{lo hi:UE Int}{Q:Tb}(ht:IsTup s.heap t items)(hs:s.heap.IsSliceOf sl vl vu .none)(pl:IsPart vl lo)(pu:IsPart vu hi)
  (hw:HT.cG items.size 0 lo=0/\HT.cG items.size items.size hi=items.size)
  (h:Q (.ref t) s):wpAny (model prog w) A (getItem (.ref t) (.ref sl)) Q E s:=by
 obtain⟨os,Il,K1,hds⟩:=id hs;have hTs:s.TypeIs (.ref sl) "slice":={os,Il,K1};unfold getItem
 try with_reducible refine Bg ?_
 first|refine AB (AN ?_)|skip
 refine AB (wpAny_sequenceKey ht.typeIs ∅ ?_)
 refine AB (GV (name:=Str.ofString "__getitem__") ht.typeIs PyProof.Rows.slot_tuple_getitem
  (C5 PyProof.Rows.slot_tuple_getitem ht.typeIs entry_tuple_getitem ?_ (args_tuple_getitem _ _)))
 show wpAny _ _ (Builtin.Tuple.tupleItemsOf (.ref t) >>= _) _ _ s
 refine AB (tupleItemsOf_ ht ?_);refine AB (FU hTs ?_);rw[A7 ∅];refine AB (HT.i5 hs pl pu ?_)
 have hyes:((((HT.cG items.size 0 lo:Nat):Int) == 0&&(1:Int) == 1&&(HT.cG items.size items.size hi-HT.cG items.size 0 lo) == items.size)=true):=by
  rw[hw.1,hw.2];simp
 show wpAny _ _ (if (((HT.cG items.size 0 lo:Nat):Int) == 0&&(1:Int) == 1&&(HT.cG items.size items.size hi-HT.cG items.size 0 lo) == items.size)=true then _ else _) _ _ s
 rw[A7 hyes];refine AB (m:=Builtin.Tuple.tupleIsExact (.ref t)) (AB (FU ht.typeIs (AN ?_)));rw[A7 ∅];refine AB (GC ?_)
 first
  |exact AN {_,rfl,AN h}
  |exact AB (AN (AN {_,rfl,AN h}))
  |exact AB (AN {_,rfl,AN h})
noncomputable def md (xs:T5 D)(lo hi:UE Int):T5 D:=(xs.drop (HT.cG xs.length 0 lo)).take (HT.cG xs.length xs.length hi-HT.cG xs.length 0 lo)
def Lj (K:AP):V->UE Int->UE Int->Hp->VK->Prop:=λx lo hi H Q=>Os K x lo hi H Q\/Op K x lo hi H Q \/
 ∃a xs,x=.ref a/\gM K H a xs/\(HT.cG xs.length 0 lo=0/\HT.cG xs.length xs.length hi=xs.length)/\Q (.ref a) H
def JB8 {X:Cx}:BV X (λx lo hi H Q=>∃a xs,x=.ref a/\gM X.K H a xs/\(HT.cG xs.length 0 lo=0/\HT.cG xs.length xs.length hi=xs.length)/\Q (.ref a) H):=by
 intro A2 s Y H x v vl vu lo hi sl Q I rx hs pl pu h;let⟨a,xs,rfl,hx,hw,q⟩:=h;cases rx;let⟨its,r,ht,hz⟩:=I.tuple hx;have hlen:its.toArray.size=xs.length:=by rw[Bd];exact r.length.symm
 refine{"tuple",_,PyProof.Rows.slot_tuple_getitem.lookup,ht.typeIs,?_};exact lE ht hs pl pu (by rw[hlen];exact hw) {.ref a,H,I,rfl,q}
def CC {X:Cx}:BV X (Lj X.K):=BV.or JFv (BV.or KA JB8)
abbrev FO:=Lo->ac->UE (UE Int×ac)
def vH (K:AP)(f:FO):TO:=λY H Q=>∃O U m o U',ff K m H O Y/\aP K m H U/\f O U=some (o,U')/\∀H' m',dF m H m' H'->aP K m' H' U'->Q o H'
noncomputable def fg:FO:=λ_ U=>some (none,U)
noncomputable def eN (f:FE):FO:=λO U=>(f O U).bind λa=>match a.1 with|.v (.int i)=>some (some i,a.2)|_=>none
noncomputable def JC (x:R)(lo hi:UE Int)(U:ac):UE (R×ac):=match x with
 |.v (.tup xs)=>some (.v (.tup (md xs lo hi)),U)
 |x=>(jW x U).bind λxs=>some (.p U.length,U++[.lst (md xs lo hi)])
noncomputable def Bv (fa:FE)(fl fh:FO):FE:=λO U=>(fa O U).bind λa=>(fl O a.2).bind λl=>(fh O l.2).bind λh=>JC a.1 l.1 h.1 h.2
theorem RelDs.drop {K:AP}{H:Hp}:∀{xs:T5 D} {vs:T5 V} (n:Nat),RelDs K H xs vs->RelDs K H (xs.drop n) (vs.drop n)
 |_,_,0,h=>h
 |[],_,n+1,h=>by rwa[RelDs] at h;subst h;rwa[List.drop_nil,RelDs]
 |x::xs,_,n+1,h=>by rwa[RelDs] at h;let⟨v,r,rfl,_,h2⟩:=h;exact RelDs.drop n h2
theorem RelDs.take {K:AP}{H:Hp}:∀{xs:T5 D} {vs:T5 V} (n:Nat),RelDs K H xs vs->RelDs K H (xs.take n) (vs.take n)
 |_,_,0,h=>by rwa[List.take_zero,RelDs]
 |[],_,n+1,h=>by rwa[RelDs] at h;subst h;rwa[List.take_nil,RelDs]
 |x::xs,_,n+1,h=>by rwa[RelDs] at h;let⟨v,r,rfl,h1,h2⟩:=h;rwa[List.take_succ_cons,RelDs];exact{v,_,rfl,h1,RelDs.take n h2}
def RelDs.cut {H:Hp}{xs:T5 D}{vs:T5 V}{lo hi:UE Int}(h:RelDs K H xs vs):RelDs K H (md xs lo hi) (oY vs lo hi):=by unfold md oY;rw[h.length];exact(h.drop _).take _
section
variable {K:AP}{Y:L2.St}{H:Hp}{Q:VK}
def JCm {Q:UE Int->Hp->Prop}(h:vH K fg Y H Q):zo Y H Q:=by let⟨O,U,m,o,U',hl,hs,e,k⟩:=h;cases e;exact k H m .refl hs
def JCl {f}{Q:UE Int->Hp->Prop}(h:vH K (eN f) Y H Q):Jt (ay K f) Y H Q:=by
 let⟨O,U,m,o,U',hl,hs,e,k⟩:=h;let⟨⟨x,U1⟩,e1,e⟩:=AS.mp e;split at e
 ·rename_i i q
  cases e;simp only at q;subst q;exact{O,U,m,_,U1,hl,hs,e1,λv H1 m1 x1 s1 r1=>{i,by simpa only[aq,ak] using r1,k H1 m1 x1 s1}}
 ·cases e
theorem Oe {m:Tf}{U U':ac}{x d:R}{v:V}{lo hi:UE Int}(s:aP K m H U)(r:aq K m H x v)(e:JC x lo hi U=some (d,U'))(k:∀w H' m',dF m H m' H'->aP K m' H' U'->aq K m' H' d w->Q w H'):Lj K v lo hi H Q:=by
 have lst:∀xs,jW x U=some xs->(some (R.p U.length,U++[aw.lst (md xs lo hi)]):UE (R×ac))=some (d,U')->Lj K v lo hi H Q:=λxs e1 e2=>by cases e2;let⟨a,vs,rfl,q,rr⟩:=iP s r e1;refine .inl {a,vs,rfl,q,λp hp=>?_};let⟨x1,x2,x3⟩:=gE s (rr.cut (lo:=lo) (hi:=hi)) hp;exact k _ _ _ x1 x2 x3
 have gen:(jW x U).bind (λxs=>some (R.p U.length,U++[aw.lst (md xs lo hi)]))=some (d,U')->Lj K v lo hi H Q:=λe=>by let⟨xs,e1,e⟩:=AS.mp e;exact lst xs e1 e
 cases x with
 |p n=>exact gen e
 |s _ n=>exact gen e
 |x n=>exact gen e
 |f L ds=>exact gen e
 |v d0=>
  cases d0 with
  |tup xs=>
   cases e;rwa[aq,ak] at r;let⟨a,vs,rfl,q,rr⟩:=r;by_cases hw:HT.cG vs.length 0 lo=0/\HT.cG vs.length vs.length hi=vs.length
   ·refine .inr (.inr {a,vs,rfl,q,hw,k _ H m .refl s ?_});rwa[aq,ak];refine{a,vs,rfl,q,?_};have:=rr.cut (lo:=lo) (hi:=hi);unfold oY at this
    rw[hw.1,hw.2] at this
    simpa using this
   ·refine .inr (.inl {a,vs,rfl,q,hw,λp hp=>?_});let⟨x1,x2,x3⟩:=lg s (rr.cut (lo:=lo) (hi:=hi)) hp;exact k _ _ _ x1 x2 x3
  |non=>exact gen e
  |bl _=>exact gen e
  |int _=>exact gen e
  |str _=>exact gen e
  |fl _=>exact gen e
  |fd _ _=>exact gen e
  |key _=>exact gen e
def Oh {fa fl fh}(h:ay K (Bv fa fl fh) Y H Q):P9 (Lj K) (ay K fa) (vH K fl) (vH K fh) Y H Q:=by let⟨O,U,m,d,U',hl,hs,e,k⟩:=h;let⟨⟨x,U1⟩,e1,e⟩:=AS.mp e;let⟨⟨l,U2⟩,e2,e⟩:=AS.mp e;let⟨⟨u,U3⟩,e3,e⟩:=AS.mp e;refine{O,U,m,x,U1,hl,hs,e1,λv H1 m1 x1 s1 r1=>?_};refine{O,U1,m1,l,U2,hl.ext x1,s1,e2,λH2 m2 x2 s2=>?_};refine{O,U2,m2,u,U3,hl.ext (x1.trans x2),s2,e3,λH3 m3 x3 s3=>?_};exact Oe s3 (r1.ext (x2.trans x3)) e λw H4 m4 x4 s4 r4=>k w H4 m4 (((x1.trans x2).trans x3).trans x4) s4 r4
noncomputable def BD (xs:Th)(lo hi:UE Int):Th:=(xs.drop (HT.cG xs.length 0 lo)).take (HT.cG xs.length xs.length hi-HT.cG xs.length 0 lo)
def Fb (xs:Th)(lo hi:UE Int):oY (xs.map V.int) lo hi=(BD xs lo hi).map V.int:=by unfold oY BD;rw[Az,List.map_take,List.map_drop]
noncomputable def JB (x:R)(lo hi:UE Int)(U:ac):UE (R×ac):=match x with
 |.v (.key ks)=>some (.v (.key (BD ks lo hi)),U)
 |_=>none
noncomputable def Bu (fa:FE)(fl fh:FO):FE:=λO U=>(fa O U).bind λa=>(fl O a.2).bind λl=>(fh O l.2).bind λh=>JB a.1 l.1 h.1 h.2
def KE {m:Tf}{U U':ac}{x d:R}{v:V}{lo hi:UE Int}(s:aP K m H U)(r:aq K m H x v)(e:JB x lo hi U=some (d,U'))(k:∀w H' m',dF m H m' H'->aP K m' H' U'->aq K m' H' d w->Q w H'):Lj K v lo hi H Q:=by
 unfold JB at e;split at e
 ·rename_i ks
  cases e;rwa[aq,ak] at r;let⟨a,rfl,q⟩:=r;by_cases hw:HT.cG (ks.map V.int).length 0 lo=0/\HT.cG (ks.map V.int).length (ks.map V.int).length hi=(ks.map V.int).length
  ·refine .inr (.inr {a,_,rfl,.inl (.inl q),hw,k _ H m .refl s ?_});rwa[aq,ak];refine{a,rfl,?_};rw[q,←Fb];unfold oY;rw[hw.1,hw.2,zc1,zdb,List.take_length]
  ·refine .inr (.inl {a,_,rfl,.inl (.inl q),hw,λp hp=>?_});let⟨x1,x2,x3⟩:=lg s ((kZ ks).cut (lo:=lo) (hi:=hi)) hp;refine k _ _ _ x1 x2 ?_;rwa[aq,ak];exact{p,rfl,by rw[bP,Fb]}
 ·cases e
def KU {fa fl fh}(h:ay K (Bu fa fl fh) Y H Q):P9 (Lj K) (ay K fa) (vH K fl) (vH K fh) Y H Q:=by let⟨O,U,m,d,U',hl,hs,e,k⟩:=h;let⟨⟨x,U1⟩,e1,e⟩:=AS.mp e;let⟨⟨l,U2⟩,e2,e⟩:=AS.mp e;let⟨⟨u,U3⟩,e3,e⟩:=AS.mp e;refine{O,U,m,x,U1,hl,hs,e1,λv H1 m1 x1 s1 r1=>?_};refine{O,U1,m1,l,U2,hl.ext x1,s1,e2,λH2 m2 x2 s2=>?_};refine{O,U2,m2,u,U3,hl.ext (x1.trans x2),s2,e3,λH3 m3 x3 s3=>?_};exact KE s3 (r1.ext (x2.trans x3)) e λw H4 m4 x4 s4 r4=>k w H4 m4 (((x1.trans x2).trans x3).trans x4) s4 r4
noncomputable def EI (fa:FE)(fl fh:FO):FE:=λO U=>(fa O U).bind λa=>(fl O a.2).bind λl=>(fh O l.2).bind λh=>CD a.1 l.1 h.1 h.2
def KC {x:R}{lo hi:UE Int}{U U':ac}{d:R}(e:CD x lo hi U=some (d,U')):∃z,x=.v (.str z)/\z.length<=sizeLine/\d=.v (.str (Txt.slice z lo hi))/\U'=U:=by
 unfold CD at e;split at e
 ·split at e
  ·rename_i hz
   cases e;exact{_,rfl,hz,rfl,rfl}
  ·cases e
 ·cases e
def KS {fa fl fh}(h:ay K (EI fa fl fh) Y H Q):P9 Oq (ay K fa) (vH K fl) (vH K fh) Y H Q:=by let⟨O,U,m,d,U',hl,hs,e,k⟩:=h;let⟨⟨x,U1⟩,e1,e⟩:=AS.mp e;let⟨⟨l,U2⟩,e2,e⟩:=AS.mp e;let⟨⟨u,U3⟩,e3,e⟩:=AS.mp e;refine{O,U,m,x,U1,hl,hs,e1,λv H1 m1 x1 s1 r1=>?_};refine{O,U1,m1,l,U2,hl.ext x1,s1,e2,λH2 m2 x2 s2=>?_};refine{O,U2,m2,u,U3,hl.ext (x1.trans x2),s2,e3,λH3 m3 x3 s3=>?_};let⟨z,rfl,hz,rfl,rfl⟩:=KC e;rwa[aq,ak] at r1;exact{z,r1,hz,k _ H3 m3 ((x1.trans x2).trans x3) s3 (by rwa[aq,ak])}
end
def PO.imp {e:UE AR}{t t':TO}(h:PO X e t)(k:∀{Y H Q},t' Y H Q->t Y H Q):PO X e t':=λA2 s Y H Q I q=>h A2 s Y H Q I (k q)
noncomputable def lS:FS:=λ_ _=>none
namespace R
section
variable {X:Cx}{a b e:AR}{es:Tj}{fa fb:FE}{ga:FA}{pos p:Pos}{x:Str}
def aj {i j}:PE X (.Constant (.int i) j pos) (ay X.K (fK (.int i))):=PE.imp LO (kj λ_ _=>by rwa[aq,ak])
def vM (ha:PE X a (ay X.K fa)):PE X (.UnaryOp .USub a pos) (ay X.K (jZ uf fa)):=PE.imp (ON Kk ha) (Og O9)
def oS (ha:PE X a (ay X.K fa)):PO X (some a) (vH X.K (eN fa)):=PO.imp (JFm ha) JCl
def Lv {k:Nat}{f:A4}{fd:FuncData}{ps:Tn}{n:Nat}{mf:MF}(F:cC X.prog X.w X.K X.mg X.base lB k f fd ps (BU X.K n mf))(hr:bK k X.A)(hg:Gl X x)(hm:X.mg x=some (.ref f))(hk:PySem.W.keepIn X.K (.ref f)=true)(hb:gr X.K fd ps [])
  (ha:PA X (e::es) (ig X.K ga)) (Be:(x == ("__debug__" : Str))=false:=by decide) (he:nh e es X:=by exact aA rfl) (hpl:(backTo pos (starEach es X.env)).any (·.1)=false:=by exact aH rfl) :
  PE X (.Call (.Name x p) (e::es) [] pos) (ay X.K (aJ mf n ga)):=PE.imp (pi F hr hg hm hk hb .nil sE ha Be he hpl) JFc
def k7 {d:D}(h:iW X.K X.mg x d)(hg:Gl X x:=by rfl)(hd:(x == ("__debug__" : Str))=false:=by decide):PE X (.Name x pos) (ay X.K (fK d)):=by obtain⟨u,v,hm,r,rd⟩:=h;exact PE.imp (JE6 hg hm r hd) (kj λ_ H=>rd H)
def pS {op:CmpOp}{r:R2}{g:R->R->ac->UE (R×ac)}(ho:kR X (compareOp op) r)(hg:rf X.K g r)(ha:PE X a (ay X.K fa))(hb:PE X b (ay X.K fb))(hm:behindInMarks op b=false):PT X (.Compare a [op] [b] pos) (gk X.K (fB (au g fa fb))) :=
 PT.imp (zF ho ha hb hm) λh=>by let⟨O,U,m,d,U',hl,hs,e,k⟩:=zv h;exact ip hg {O,U,m,d,U',hl,hs,e,k}
def NT {op:CmpOp}{neg:A8}{c:D}{cv:V}(hc:(c=.non/\cv=.non)\/∃b,c=.bl b/\cv=.bl b)(ho:kR X (compareOp op) (GG neg cv))(ha:PE X a (ay X.K fa))(hb:PE X b (tC cv))(hm:behindInMarks op b=false):PT X (.Compare a [op] [b] pos) (gk X.K (fB (jZ (rT neg c) fa))) :=
 PT.imp (zF ho ha hb hm) λh=>by let⟨O,U,m,d,U',hl,hs,e,k⟩:=zv h;exact JE hc {O,U,m,d,U',hl,hs,e,k}
variable {ta:FT}
variable {st:AU}{c tg iter:AR}
def jt:PS X st (fJ X.K lS):=λA2 s Y H D I h=>by let⟨O,U,m,out,hl,hs,e,k⟩:=h;cases e
variable {g:FG}{fi:FI}
def o0.imp {ifs:Tj}{t t':TT}(h:o0 X ifs t)(k:∀{Y H Q},t' Y H Q->t Y H Q):o0 X ifs t':=λA2 s Y H Q I q=>h A2 s Y H Q I (k q)
def gX {ifs:Tj}{scope:Scope}(ix:T5 Nat)(own caps:Tn)(hc:X.calm=true)(n:aO X.env.scope scope own caps)(hi:PI X tg iter (C6 X.K fi))
  (hb:∀cl C s₂ H₂ fp,PG (aT X scope cl C s₂ H₂ fp (own++caps)) tg (rK X.K g)/\o0 (aT X scope cl C s₂ H₂ fp (own++caps)) ifs (gk X.K ta)/\PE (aT X scope cl C s₂ H₂ fp (own++caps)) e (ay X.K fa))
  (CR:ix.map (λi=>X.N[i]?)=caps.map some:=by rfl)
  (hs:∀x,foldedSetIterable iter X.env x=pure x:=by intro _;rfl):PE X (.ListComp e [{tg,iter,ifs,0}] scope pos) (ay X.K (dY ix own.length fi g ta fa)):=by
 refine PE.imp (JC2 (ix:=ix) hc n ‹AQ List.length CR› (λj i y h1 h2=>?_) hi hb hs) (zu rfl);have:=AQ (λl=>l[j]?) CR
 rwa[CG,h1,h2,G3] at this
 exact Option.some.inj this
def p7 (i:Nat){py D9:Pos}{ifs:Tj}{scope:Scope}(ix:T5 Nat)(own caps:Tn)(hc:X.calm=true)(n:aO X.env.scope scope own caps)(hN:X.N.Nodup)(hi:PI X tg iter (C6 X.K fi))
  (hb:∀cl C s₂ H₂ fp,PG (aT X scope cl C s₂ H₂ fp (own++caps)) tg (rK X.K g)/\o0 (aT X scope cl C s₂ H₂ fp (own++caps)) ifs (gk X.K ta)/\PE (aT X scope cl C s₂ H₂ fp (own++caps)) e (ay X.K fa))
  (hsw:swapsWith (.ListComp e [{tg,iter,ifs,0}] scope pos) (some (.Name x py)) D9.line X.env=pure true:=by rfl)
  (hy:X.N[i]?=some x:=by rfl) (HP:IB X.env.scope x:=by first|exact Or.inl rfl|exact Or.inr rfl)
  (CR:ix.map (λi=>X.N[i]?)=caps.map some:=by rfl)
  (hs:∀x,foldedSetIterable iter X.env x=pure x:=by intro _;rfl) (hf:X.fn x=true\/X.env.scope.names.lookup x=some .local:=by first|exact .inl rfl|exact .inr rfl) :
  PS X (.Assign [.Name x py] (.ListComp e [{tg,iter,ifs,0}] scope pos) D9) (fJ X.K (aV i (dY ix own.length fi g ta fa))):=by
 refine PS.imp (JDj (i:=i) (ix:=ix) hc n hN hy HP ‹AQ List.length CR› (λj i y h1 h2=>?_) hi hb hsw hs hf) λh=>?_
 ·have:=AQ (λl=>l[j]?) CR
  rwa[CG,h1,h2,G3] at this
  exact Option.some.inj this
 ·have h':=CW h
  let⟨O,U,m,d,U',hl,hs,e,k⟩:=h';exact zu rfl {O,U,m,d,U',hl,hs,e,k}
end
end R
noncomputable def kD (x:R)(U:ac):A8:=match x with|.v (.fl _)=>true|.p n=>(match U[n]? with|some (.lst _)=>true|some (.fz _)=>true|_=>false)|_=>false
noncomputable def Bx (g:R->T5 R->ac->UE (R×ac))(fa:FE)(ga:FA):FE:=λO U=>(fa O U).bind λa=>if kD a.1 a.2=true then (ga O a.2).bind λb=>g a.1 b.1 b.2 else none
def JD9 {m:Tf}{H:Hp}{U:ac}{x:R}{v:V}(s:aP K m H U)(r:aq K m H x v)(e:kD x U=true):QY K "list" v H:=by
 have:∃xs,jW x U=some xs:=by
  cases x with
  |v d=>cases d <;> simp_all[kD,jW]
  |s _ _=>simp[kD] at e
  |x _=>simp[kD] at e
  |f _ _=>simp[kD] at e
  |p n=>
   rwa[kD] at e;rwa[jW];split at e
   ·rename_i xs q;exact{xs,by first|rfl|rw[q]}
   ·rename_i xs q;exact{xs,by first|rfl|rw[q]}
   ·cases e
 let⟨xs,e⟩:=this;let⟨a,vs,rfl,q,_⟩:=iP s r e;exact .inl {rfl,vs,q}
def Oj {H:Hp}{Q:VK}{g r fa ga}(hg:Ue K g r)(h:ay K (Bx g fa ga) Y H Q):Q0 K "list" r (ay K fa) (ig K ga) Y H Q:=by
 let⟨O,U,m,d,U',hl,hs,e,k⟩:=h;let⟨⟨x,U1⟩,e1,e⟩:=AS.mp e;split at e
 ·rename_i hx;let⟨⟨ys,U2⟩,e2,e⟩:=AS.mp e;refine{O,U,m,x,U1,hl,hs,e1,λv H1 m1 x1 s1 r1=>{JD9 s1 r1 hx,?_}};refine{O,U1,m1,ys,U2,hl.ext x1,s1,e2,λvs H2 m2 x2 s2 r2=>?_};exact hg m2 H2 U2 x ys d U' v vs Q s2 (r1.ext x2) r2 e λw H3 m3 x3 s3 r3=>k w H3 m3 ((x1.trans x2).trans x3) s3 r3
 ·cases e
structure bA (K:AP)(mg:Td)(x:Str)(st:Stmt)(ps:Tn):Prop where
 ex:∃f fd,pF K x x st f fd/\gr K fd ps []/\mg x=some (.ref f)
structure SI (K:AP)(mg:Td)(x:Str)(st:Stmt)(ps:Tn)(c:Addr):Prop where
 ex:∃f fd,SH K x st f fd c/\gr K fd ps []/\mg x=some (.ref f)
def bm (P:A9)(w:AM)(K:AP)(mg:Td)(base:AI)(k:Nat)(x:Str)(ps:Tn)(mf:MF):Prop :=
 ∃f fd,cC P w K mg base lB k f fd ps (BU K ps.length mf)/\PySem.W.keepIn K (.ref f)=true/\gr K fd ps []/\mg x=some (.ref f)
def iH (P:A9)(w:AM)(K:AP)(mg:Td)(base:AI)(k:Nat)(x:Str)(ps:Tn)(mf:MC):Prop :=
 ∃f fd,cC P w K mg base lB k f fd ps (AH K ps.length (cX K mf))/\PySem.W.keepIn K (.ref f)=true/\gr K fd ps []/\mg x=some (.ref f)
def ut {mg:Td}{base:AI}{k:Nat}{x:Str}{ps:Tn}{mf:MF}(h:bm P w K mg base k x ps mf):bm P w K mg base k x ps (uk mf) :=
 let ⟨f,fd,F,r⟩:=h
 {f,fd,F.imp λ_ _ _ _ z=>Ob z,r}
def JD1 {mg:Td}{base:AI}{k:Nat}{x:Str}{ps:Tn}{mf:MC}(h:iH P w K mg base k x ps mf):iH P w K mg base k x ps (uk mf) :=
 let ⟨f,fd,F,r⟩:=h
 {f,fd,F.imp λ_ _ _ _ z=>Kz z,r}
def oF (P:A9)(w:AM)(K:AP)(mg:Td)(base:AI)(k:Nat)(x:Str)(ps:Tn)(mf:MW):Prop :=
 ∃f fd,cC P w K mg base lB k f fd ps (Nb K ps.length mf)/\PySem.W.keepIn K (.ref f)=true/\gr K fd ps []/\mg x=some (.ref f)
structure kS (K:AP)(C:Addr)(nm qual:Str)(st:Stmt)(ps:Tn):Prop where
 ex:∃f fd,pF K nm qual st f fd/\gr K fd ps []/\IA K C nm f
def fj (P:A9)(w:AM)(K:AP)(mg:Td)(base:AI)(k:Nat)(nm:Str)(C:A4)(ps:Tn)(mf:MW):Prop :=
 ∃f fd,cC P w K mg base lB k f fd ps (Nb K ps.length mf)/\gr K fd ps []/\IA K C nm f
namespace R
def okP {P:A9}{w:AM}{K:AP}{mg:Td}{base:AI}{x:Str}{st:AU}{N ps:Tn}{k:Nat}{b:FS}(d:bA K mg x st ps)(S:az N ps (ai st))
  (Ay:∀(f:A4) (AX:A3) (A:AL) (outer:T5 Env) (s:A1) (H:Hp) (E:XK),bK k (A.deeper (envOfC x (ai st) s.heap.objs.size f AX))->oZ (jX lB P w K mg base N x (ai st) f AX A outer s H E).nox (bx st) (fJ K b)) :
  bm P w K mg base (k+1) x ps (eM N.length b):=by
 let⟨f,fd,F,B,M⟩:=d.ex;exact{f,fd,pF.okP F S (Ay f),F.kp,B,M}
def aG {X:Cx}{k:Nat}{x:Str}{ps:Tn}{mf:MF}{e:AR}{es:Tj}{ga:FA}{p pos:Pos}{n:Nat}(F:bm X.prog X.w X.K X.mg X.base k x ps mf)(hr:bK k X.A)(ha:PA X (e::es) (ig X.K ga))(hg:Gl X x:=by rfl)(hn:ps.length=n:=by rfl)
  (Be:(x == ("__debug__" : Str))=false:=by decide) (he:nh e es X:=by exact aA rfl) (hpl:(backTo pos (starEach es X.env)).any (·.1)=false:=by exact aH rfl) :
  PE X (.Call (.Name x p) (e::es) [] pos) (ay X.K (aJ mf n ga)):=by
 subst hn;let⟨f,fd,F,kp,B,M⟩:=F;exact Lv F hr hg M kp B ha Be he hpl
def iq {X:Cx}{k:Nat}{x:Str}{ps:Tn}{mf:MF}{e:AR}{es:Tj}{ga:FA}{p pos:Pos}{n:Nat}(F:bm X.prog X.w X.K X.mg X.base k x ps mf)(hr:bK k X.A)(ha:PA X (e::es) (ig X.K ga))(hg:Gl X x:=by rfl)(hn:ps.length=n:=by rfl)
  (Be:(x == ("__debug__" : Str))=false:=by decide) (he:nh e es X:=by exact aA rfl) (hpl:(backTo pos (starEach es X.env)).any (·.1)=false:=by exact aH rfl) :
  PE X (.Call (.Name x p) (e::es) [] pos) (ay X.K (ee mf n ga)):=by
 subst hn;let⟨f,fd,F,kp,B,M⟩:=F;exact PE.imp (pi (cC.borN (F.imp λ_ _ _ _ h=>Oc h) ps.length) hr hg M kp B .nil sE ha Be he hpl) JB4
def okN {P:A9}{w:AM}{K:AP}{mg:Td}{base:AI}{x:Str}{st:AU}{N ps:Tn}{k:Nat}{b:FS}(d:bA K mg x st ps)(S:az N ps (ai st))
  (Ay:∀(f:A4) (AX:A3) (A:AL) (outer:T5 Env) (s:A1) (H:Hp) (E:XK),bK k (A.deeper (envOfC x (ai st) s.heap.objs.size f AX))->oZ (jX lB P w K mg base N x (ai st) f AX A outer s H E).nox (bx st) (fJ K b)) :
  iH P w K mg base (k+1) x ps (xQ N.length b):=by
 let⟨f,fd,F,B,M⟩:=d.ex;exact{f,fd,pF.okN F S (Ay f),F.kp,B,M}
def k8 {X:Cx}{k:Nat}{x:Str}{ps:Tn}{mf:MC}{e:AR}{es:Tj}{ga:FA}{p pos:Pos}{n:Nat}(F:iH X.prog X.w X.K X.mg X.base k x ps mf)(hr:bK k X.A)(ha:PA X (e::es) (ig X.K ga))(hg:Gl X x:=by rfl)(hn:ps.length=n:=by rfl)
  (Be:(x == ("__debug__" : Str))=false:=by decide) (he:nh e es X:=by exact aA rfl) (hpl:(backTo pos (starEach es X.env)).any (·.1)=false:=by exact aH rfl) :
  PE X (.Call (.Name x p) (e::es) [] pos) (ay X.K (gc mf n ga)):=by
 subst hn;let⟨f,fd,F,kp,B,M⟩:=F;exact PE.imp (pi (cC.borN F ps.length) hr hg M kp B .nil sE ha Be he hpl) JB5
def okW {P:A9}{w:AM}{K:AP}{mg:Td}{base:AI}{x:Str}{st:AU}{N ps:Tn}{k:Nat}{b:FS}(d:bA K mg x st ps)(S:az N ps (ai st))
  (Ay:∀(f:A4) (AX:A3) (A:AL) (outer:T5 Env) (s:A1) (H:Hp) (E:XK),bK k (A.deeper (envOfC x (ai st) s.heap.objs.size f AX))->oZ (jX lB P w K mg base N x (ai st) f AX A outer s H E).nox (bx st) (fJ K b)) :
  oF P w K mg base (k+1) x ps (oQ N.length b):=by
 let⟨f,fd,F,B,M⟩:=d.ex;exact{f,fd,pF.okW F S (Ay f),F.kp,B,M}
def L7 {P:A9}{w:AM}{K:AP}{mg:Td}{base:AI}{nm qual:Str}{C:A4}{st:AU}{N ps:Tn}{k:Nat}{b:FS}(d:kS K C nm qual st ps)(S:az N ps (ai st))
  (Ay:∀(f:A4) (AX:A3) (A:AL) (outer:T5 Env) (s:A1) (H:Hp) (E:XK),bK k (A.deeper (envOfC qual (ai st) s.heap.objs.size f AX))->oZ (jX lB P w K mg base N qual (ai st) f AX A outer s H E).nox (bx st) (fJ K b)) :
  fj P w K mg base (k+1) nm C ps (oQ N.length b):=by
 let⟨f,fd,F,B,M⟩:=d.ex;exact{f,fd,pF.okW F S (Ay f),B,M}
def mJ {X:Cx}{k:Nat}{x:Str}{ps:Tn}{mf:MW}{e:AR}{es:Tj}{ga:FA}{p pos:Pos}{n:Nat}(F:oF X.prog X.w X.K X.mg X.base k x ps mf)(hr:bK k X.A)(ha:PA X (e::es) (ig X.K ga))(hg:Gl X x:=by rfl)(hn:ps.length=n:=by rfl)
  (Be:(x == ("__debug__" : Str))=false:=by decide) (he:nh e es X:=by exact aA rfl) (hpl:(backTo pos (starEach es X.env)).any (·.1)=false:=by exact aH rfl) :
  PE X (.Call (.Name x p) (e::es) [] pos) (ay X.K (jF mf n ga)):=by
 subst hn;let⟨f,fd,F,kp,B,M⟩:=F;exact PE.imp (pi F hr hg M kp B .nil sE ha Be he hpl) JB3
def ko {X:Cx}{k:Nat}{c nm:Str}{C:A4}{ps:Tn}{mf:MW}{o e:AR}{es:Tj}{fo:FE}{ga:FA}{apos pos:Pos}{n:Nat}{pl:Sem A8}(N:o5 X.K X.mg c C)(F:fj X.prog X.w X.K X.mg X.base k nm C ps mf)(hr:bK k X.A)(ho:PE X o (ay X.K fo))(ha:PA X (e::es) (ig X.K ga))(hn:ps.length=n:=by rfl)
  (he:nh e es X:=by exact aA rfl) (hpl:(backTo pos (starEach es X.env)).any (·.1)=false:=by exact aH rfl)
  (ht:eval (.Call (.Attribute o nm apos) (e::es) [] pos) X.env=(do
   let ov ←eval o X.env
   standAt apos.atName
   let (mth,first) ←holding [ov] (getMethod ov nm pl)
   callWith pos mth first (backTo pos (starEach (e::es) X.env)) (backToKw pos (keywordEach [] X.env))):=by rfl) :
  PE X (.Call (.Attribute o nm apos) (e::es) [] pos) (ay X.K (iA c nm mf n fo ga)):=by
 subst hn;let⟨f,fd,F,B,M⟩:=F;exact PE.imp (JE4 ho N.cl M F hr B .nil sE ha he hpl ht) (JGa N)
def uc {X:Cx}{k:Nat}{c:Str}{C:A4}{ps:Tn}{mf:MW}{e:AR}{es:Tj}{ga:FA}{p pos:Pos}{n:Nat}(N:o5 X.K X.mg c C)(hk:PySem.W.makesIn X.K C=true)(hp:PySem.W.keepIn X.K (.ref C)=true)(F:fj X.prog X.w X.K X.mg X.base k "__init__" C ps mf)(hr:bK (k+1) X.A)(ha:PA X (e::es) (ig X.K ga))(hg:Gl X c:=by rfl)(hn:ps.length=n:=by rfl)
  (Be:(c == ("__debug__" : Str))=false:=by decide) (he:nh e es X:=by exact aA rfl) (hpl:(backTo pos (starEach es X.env)).any (·.1)=false:=by exact aH rfl):PE X (.Call (.Name c p) (e::es) [] pos) (ay X.K (nR c mf n ga)):=by
 subst hn;let⟨f,fd,F,B,M⟩:=F;exact PE.imp (JE5 {hk,M.at_,M.fn,hp} F hr hg N.mg B .nil sE ha Be he hpl) (JB0 N)
end R
def mM {K:AP}{T:String}(h1:PySem.W.kitOne K (.type "NoneType") (.type T)=some ("NoneType" == T || ("NoneType" == "bool" && T == "int")))
  (h2:PySem.W.kitOne K (.type "bool") (.type T)=some ("bool" == T || ("bool" == "bool" && T == "int"))) (h3:PySem.W.kitOne K (.type "int") (.type T)=some ("int" == T || ("int" == "bool" && T == "int")))
  (h4:PySem.W.kitOne K (.type "str") (.type T)=some ("str" == T || ("str" == "bool" && T == "int"))) (h5:PySem.W.kitOne K (.type "tuple") (.type T)=some ("tuple" == T || ("tuple" == "bool" && T == "int")))
  (h6:PySem.W.kitOne K (.type "list") (.type T)=some ("list" == T || ("list" == "bool" && T == "int"))) (h7:PySem.W.kitOne K (.type "dict") (.type T)=some ("dict" == T || ("dict" == "bool" && T == "int"))):qZ K T:=λt ht=>by
 rwa[BA,DV,or_false] at ht;rcases ht with rfl|rfl|rfl|rfl|rfl|rfl|rfl <;> assumption
def JBn :qZ K "int":=mM rfl rfl rfl rfl rfl rfl rfl
def qx :qZ K "bool":=mM rfl rfl rfl rfl rfl rfl rfl
def dz :qZ K "tuple":=mM rfl rfl rfl rfl rfl rfl rfl
def yi :qZ K "list":=mM rfl rfl rfl rfl rfl rfl rfl
def JBg:bootBuiltins "int" = some (.type "int"):=by decide
def qT:bootBuiltins "bool" = some (.type "bool"):=by decide
def dA:bootBuiltins "tuple" = some (.type "tuple"):=by decide
def yM:bootBuiltins "list" = some (.type "list"):=by decide
def Md {H:Hp}{a:A4}{ns:Th}{mf:MF}(E5:Fy H)(hS:jV K H a (ns.map V.int))(h:mf [.fl (ns.map .int)]=some (.bl true)):BU K 1 mf [.ref a] H (λv _=>v=.bl true) λ_ _ _=>False:=by
 refine{_,_,rfl,?_,h,λv H' _ r=>by simpa only[ak] using r};have rInts:∀{ns:Th},RelDs K H (ns.map .int) (ns.map V.int):=λ{ns}=>by
  induction ns with
  |nil=>rwa[CS,RelDs]
  |cons n ns ih=>rwa[AZ,RelDs];exact{_,_,rfl,by rwa[ak],ih}
 rwa[RelDs];refine{_,_,rfl,?_,rfl};rwa[ak];refine{a,_,rfl,?_,rInts};rcases hS with(hS|⟨o,hS⟩)|hS
 ·rcases E5 a with z|⟨o,xs,z⟩ <;> rw[hS] at z <;> cases z
 ·exact .inl {o,hS}
 ·exact .inr (.inr hS)
namespace R
end R
@[irreducible] def ZE (X:Cx)(e:AR)(t:TE):Prop:=L2.PE X e t
@[irreducible] def ZT (X:Cx)(e:AR)(t:TT):Prop:=L2.PT X e t
@[irreducible] def ZW (X:Cx)(e:AR)(t:TT):Prop:=L2.PW X e t
@[irreducible] def ZA (X:Cx)(e:Tj)(t:TA):Prop:=L2.PA X e t
@[irreducible] def ZS (X:Cx)(e:AU)(t:TS):Prop:=L2.PS X e t
@[irreducible] def BO (X:Cx)(e:Tk)(t:TS):Prop:=L2.oZ X e t
@[irreducible] def ZG (X:Cx)(e:AR)(t:TG):Prop:=L2.PG X e t
@[irreducible] def QR (X:Cx)(e:Tj)(t:FP):Prop:=L2.FQ X e t
@[irreducible] def ZO (X:Cx)(e:UE AR)(t:TO):Prop:=L2.PO X e t
@[irreducible] def Iv (X:Cx)(e:Tj)(t:TT):Prop:=HW.o0 X e t
@[irreducible] def ZI (X:Cx)(tg iter:AR)(t:TI):Prop:=L2.PI X tg iter t
section
variable {X:Cx}{a b e:AR}{es:Tj}{fa fb:FE}{ga:FA}{pos p p2:Pos}{x:Str}
def af (i:Nat)(hN:X.N[i]?=some x:=by rfl)(hv:PX X.env.scope x:=by first|exact Or.inl rfl|exact Or.inr (Or.inl rfl)|exact Or.inr (Or.inr rfl))(hd:(x == ("__debug__" : Str))=false:=by decide)
  (Eg:(x == ("__classdict__" : Str))=false:=by decide):ZE X (.Name x pos) (ay X.K (ae i)):=by
 exists PE.imp (DD hN hv hd Eg) KM
def aj {i j}:ZE X (.Constant (.int i) j pos) (ay X.K (fK (.int i))):=by exists R.aj
def iM {i j}:ZE X (.Constant (.bool i) j pos) (ay X.K (fK (.bl i))):=by exists PE.imp OQ (kj λ_ _=>by rwa[aq,ak])
def gl {i j}:ZE X (.Constant (.str i) j pos) (ay X.K (fK (.str i))):=by exists PE.imp LK (kj λ_ _=>by rwa[aq,ak])
def JR {j}:ZE X (.Constant .none j pos) (ay X.K (fK .non)):=by exists PE.imp ud (kj λ_ _=>by rwa[aq,ak])
def cj (ha:ZE X a (ay X.K fa))(hb:ZE X b (ay X.K fb)):ZE X (.BinOp a .Add b pos) (ay X.K (au dO fa fb)):=by exists PE.imp (om ((LZ.or (xW.or (JGq.or LY))).or JGs) ha hb) (ip MA)
def qc (ha:ZE X a (ay X.K fa))(hb:ZE X b (ay X.K fb)):ZE X (.BinOp a .Sub b pos) (ay X.K (au oM fa fb)):=by exists PE.imp (om LR ha hb) (ip O6)
def qd (ha:ZE X a (ay X.K fa))(hb:ZE X b (ay X.K fb)):ZE X (.BinOp a .Mult b pos) (ay X.K (au nG fa fb)):=by exists PE.imp (om LU ha hb) (ip Pa)
def fS (ha:ZE X a (ay X.K fa))(hb:ZE X b (ay X.K fb)):ZE X (.BinOp a .FloorDiv b pos) (ay X.K (au fV fa fb)):=by exists PE.imp (om JGp ha hb) (ip Pn)
def bV (ha:ZE X a (ay X.K fa))(hb:ZE X b (ay X.K fb)):ZE X (.BinOp a .Mod b pos) (ay X.K (au cE fa fb)):=by exists PE.imp (om LV ha hb) (ip Pb)
def Di (ha:ZE X a (ay X.K fa))(hb:ZE X b (ay X.K fb)):ZE X (.BinOp a .Pow b pos) (ay X.K (au rN fa fb)):=by exists PE.imp (om LS ha hb) (ip O8)
def OI (ha:ZE X a (ay X.K fa))(hb:ZE X b (ay X.K fb)):ZE X (.BinOp a .BitOr b pos) (ay X.K (au (Nc (!HS.bt X.w)) fa fb)):=by exists PE.imp (om JC6 ha hb) (ip Rq)
def vM (ha:ZE X a (ay X.K fa)):ZE X (.UnaryOp .USub a pos) (ay X.K (jZ uf fa)):=by exists R.vM ha
def vL (ha:ZE X a (ay X.K fa)):ZE X (.UnaryOp .Not a pos) (ay X.K (oX fa)):=by exists PE.imp (LM ha) JHh
def Ra (ha:ZE X a (ay X.K fa))(hb:ZE X b (ay X.K fb)):ZE X (.Compare a [.Lt] [b] pos) (ay X.K (au L9 fa fb)):=by exists PE.imp (ph JV ha hb (f6 _)) (ip Pd)
def Lu (hu:X.A.units+64<cLine)(ha:ZE X a (ay X.K fa))(hb:ZE X b (ay X.K fb)):ZE X (.Compare a [.Eq] [b] pos) (ay X.K (au (gq false) fa fb)):=by exists PE.imp (ph (xV hu) ha hb (f6 _)) (ip HE)
def Q9 (hu:X.A.units+64<cLine)(ha:ZE X a (ay X.K fa))(hb:ZE X b (ay X.K fb)):ZE X (.Compare a [.NotEq] [b] pos) (ay X.K (au (gq true) fa fb)):=by exists PE.imp (ph (DM hu) ha hb (f6 _)) (ip HE)
def OF {j}(ha:ZE X a (ay X.K fa)):ZE X (.Compare a [.Is] [.Constant .none j p] pos) (ay X.K (jZ (rT false .non) fa)):=by exists PE.imp (ph vY ha ud (f6 _)) (JE (.inl {rfl,rfl}))
def zB {rest:Tj}(ha:ZE X a (ay X.K fa))(hb:ZE X (.BoolOp .And (b::rest) pos) (ay X.K fb)):ZE X (.BoolOp .And (a::b::rest) pos) (ay X.K (yB fa fb)):=by exists PE.imp (LQ ha hb) Li
def OD {rest:Tj}(ha:ZE X a (ay X.K fa))(hb:ZE X (.BoolOp .Or (b::rest) pos) (ay X.K fb)):ZE X (.BoolOp .Or (a::b::rest) pos) (ay X.K (Pv fa fb)):=by exists PE.imp (OO ha hb) Oi
def sA {op}(ha:ZE X a (ay X.K fa)):ZE X (.BoolOp op [a] pos) (ay X.K fa):=by exists LL ha
def ap:ZA X [] (ig X.K am):=by exists PA.imp qp JHi
def ah (ha:ZE X e (ay X.K fa))(hr:ZA X es (ig X.K ga))(hs:nh e es X:=by exact aA rfl):ZA X (e::es) (ig X.K (ag fa ga)):=by exists PA.imp (lf ha hr hs) JFb
def cH {x1}(h:ZA X es (ig X.K ga)):ZE X (.Tuple es x1 pos) (ay X.K (cP ga)):=by exists PE.imp (LJ h) KN
def i9 (h:ZA X es (ig X.K ga)):ZE X (.List es pos) (ay X.K (dX ga)):=by exists PE.imp (LN h) JHj
def bu (ha:ZE X a (ay X.K fa)):ZE X a (ay X.K (bJ fa)):=by exists PE.imp (xU ha) JF
def aM (ha:ZE X a (ay X.K fa))(hb:ZE X b (ay X.K fb))(hs:Au b:=by intro _ _;rfl):ZE X (.Subscript a b pos) (ay X.K (au aZ fa fb)):=by exists PE.imp (OP Mm ha hb hs) (ip Rs)
def rL:ZO X none (vH X.K fg):=by exists PO.imp JFn JCm
def oS (ha:ZE X a (ay X.K fa)):ZO X (some a) (vH X.K (eN fa)):=by exists R.oS ha
def JP {lo hi:UE AR}{fl fh:FO}(ha:ZE X a (ay X.K fa))(hl:ZO X lo (vH X.K fl))(hh:ZO X hi (vH X.K fh)):ZE X (.Subscript a (.Slice lo hi none p2) pos) (ay X.K (Bu fa fl fh)):=by exists PE.imp (ql CC ha hl hh) KU
def AV {lo hi:UE AR}{fl fh:FO}(ha:ZE X a (ay X.K fa))(hl:ZO X lo (vH X.K fl))(hh:ZO X hi (vH X.K fh)):ZE X (.Subscript a (.Slice lo hi none p2) pos) (ay X.K (Bv fa fl fh)):=by exists PE.imp (ql CC ha hl hh) Oh
def gW (hg:Gl X "len")(hm:X.mg "len" = none)(ha:ZA X (e::es) (ig X.K ga))(he:nh e es X:=by exact aA rfl)(hpl:(backTo pos (starEach es X.env)).any (·.1)=false:=by exact aH rfl) :
  ZE X (.Call (.Name "len" p) (e::es) [] pos) (ay X.K (gp gF ga)):=by
 exists PE.imp (fU uV hg hm PySem.boot_len ha (he:=he) (hpl:=hpl)) (i8 Pe)
def JQ (hc:X.calm=true)(hg:Gl X "set")(hm:X.mg "set" = none)(ha:ZA X (e::es) (ig X.K ga))(he:nh e es X:=by exact aA rfl)(hpl:(backTo pos (starEach es X.env)).any (·.1)=false:=by exact aH rfl) :
  ZE X (.Call (.Name "set" p) (e::es) [] pos) (ay X.K (gp (xL (!HS.bt X.w)) ga)):=by
 exists PE.imp (eA (JBd hc) hg hm ∅ ha (he:=he) (hpl:=hpl)) (i8 Mv)
def JDd (hc:X.calm=true)(hg:Gl X "sorted")(hm:X.mg "sorted" = none)(ha:ZA X (e::es) (ig X.K ga))(he:nh e es X:=by exact aA rfl)(hpl:(backTo pos (starEach es X.env)).any (·.1)=false:=by exact aH rfl) :
  ZE X (.Call (.Name "sorted" p) (e::es) [] pos) (ay X.K (gp (kX (!HS.bt X.w)) ga)):=by
 exists PE.imp (fU (uS hc) hg hm ∅ ha (he:=he) (hpl:=hpl)) (i8 JBy)
def Dk (hc:X.calm=true)(hg:Gl X "dict")(hm:X.mg "dict" = none)(ha:ZA X (e::es) (ig X.K ga))(he:nh e es X:=by exact aA rfl)(hpl:(backTo pos (starEach es X.env)).any (·.1)=false:=by exact aH rfl) :
  ZE X (.Call (.Name "dict" p) (e::es) [] pos) (ay X.K (gp qN ga)):=by
 exists PE.imp (eA (tt hc) hg hm ∅ ha (he:=he) (hpl:=hpl)) (i8 Mz)
def OE (hc:X.calm=true)(hg:Gl X "max")(hm:X.mg "max" = none)(ha:ZA X (e::es) (ig X.K ga))(he:nh e es X:=by exact aA rfl)(hpl:(backTo pos (starEach es X.env)).any (·.1)=false:=by exact aH rfl) :
  ZE X (.Call (.Name "max" p) (e::es) [] pos) (ay X.K (gp D1 ga)):=by
 exists PE.imp (fU (JBe hc) hg hm ∅ ha (he:=he) (hpl:=hpl)) (i8 Pc)
def k7 {d:D}(h:iW X.K X.mg x d)(hg:Gl X x:=by rfl)(hd:(x == ("__debug__" : Str))=false:=by decide):ZE X (.Name x pos) (ay X.K (fK d)):=by exists R.k7 h hg hd
def JFe (hg:Gl X "tuple")(hm:X.mg "tuple" = none)(ha:ZA X (e::es) (ig X.K ga))(he:nh e es X:=by exact aA rfl)(hpl:(backTo pos (starEach es X.env)).any (·.1)=false:=by exact aH rfl) :
  ZE X (.Call (.Name "tuple" p) (e::es) [] pos) (ay X.K (gp AE ga)):=by
 exists PE.imp (eA lJ hg hm ∅ ha (he:=he) (hpl:=hpl)) (i8 O5)
def Dj (hg:Gl X "list")(hm:X.mg "list" = none)(ha:ZA X (e::es) (ig X.K ga))(he:nh e es X:=by exact aA rfl)(hpl:(backTo pos (starEach es X.env)).any (·.1)=false:=by exact aH rfl) :
  ZE X (.Call (.Name "list" p) (e::es) [] pos) (ay X.K (gp qu ga)):=by
 exists PE.imp (eA uT hg hm ∅ ha (he:=he) (hpl:=hpl)) (i8 Mw)
def OJ (hc:X.calm=true)(hg:Gl X "all")(hm:X.mg "all" = none)(ha:ZA X (e::es) (ig X.K ga))(he:nh e es X:=by exact aA rfl)(hpl:(backTo pos (starEach es X.env)).any (·.1)=false:=by exact aH rfl) :
  ZE X (.Call (.Name "all" p) (e::es) [] pos) (ay X.K (gp (Fv false) ga)):=by
 exists PE.imp (fU (JBf hc) hg hm PyProof.Rows.boot_all ha (he:=he) (hpl:=hpl)) (i8 Pp)
def kq {T:String}{y:Str}(hT:qZ X.K T)(hg:Gl X "isinstance")(hm:X.mg "isinstance" = none)(hgT:Gl X y)(hmT:X.mg y=none)(hvT:bootBuiltins y=some (.type T))(ha:ZE X e (ay X.K fa))(hn:y≠"__name__":=by decide)(Be:(y == ("__debug__" : Str))=false:=by decide)
  (he:starEach (e::[.Name y p2]) X.env=(false,eval e X.env)::starEach [.Name y p2] X.env:=by exact aA rfl) (hpl:(backTo pos (starEach [.Name y p2] X.env)).any (·.1)=false:=by rfl) :
  ZE X (.Call (.Name "isinstance" p) [e,.Name y p2] [] pos) (ay X.K (jZ (kC T) fa)):=by
 exists PE.imp (fU (JEy hT) hg hm ∅ (lf ha (lf (JE7 (v:=.ty T) hgT hmT hvT rfl hn Be) qp rfl) he) (he:=he) (hpl:=hpl)) JHk
def dG (ha:ZE X a (ay X.K fa))(he:∀whole,isTrue a X.env whole=(do let v ←whole;standAt a.pos;holding [v] (truthy v)):=by intro _;rfl):ZT X a (gk X.K (dM fa)):=by exists PT.imp (JDh ha he) KP
def NS (ha:ZE X a (ay X.K fa))(hb:ZE X b (ay X.K fb)):ZT X (.Compare a [.Lt] [b] pos) (gk X.K (fB (au L9 fa fb))):=by exists R.pS JV Pd ha hb (f6 _)
def Cn (ha:ZE X a (ay X.K fa))(hb:ZE X b (ay X.K fb)):ZT X (.Compare a [.LtE] [b] pos) (gk X.K (fB (au JY fa fb))):=by exists R.pS OR Rr ha hb (f6 _)
def QZ (ha:ZE X a (ay X.K fa))(hb:ZE X b (ay X.K fb)):ZT X (.Compare a [.Gt] [b] pos) (gk X.K (fB (au Qk fa fb))):=by exists R.pS OS Rt ha hb (f6 _)
def lC (hu:X.A.units+64<cLine)(ha:ZE X a (ay X.K fa))(hb:ZE X b (ay X.K fb)):ZT X (.Compare a [.Eq] [b] pos) (gk X.K (fB (au (gq false) fa fb))):=by exists R.pS (xV hu) HE ha hb (f6 _)
def rE (hu:X.A.units+64<cLine)(ha:ZE X a (ay X.K fa))(hb:ZE X b (ay X.K fb)):ZT X (.Compare a [.NotEq] [b] pos) (gk X.K (fB (au (gq true) fa fb))):=by exists R.pS (DM hu) HE ha hb (f6 _)
def NU (hu:X.A.units+64<cLine)(ha:ZE X a (ay X.K fa))(hb:ZE X b (ay X.K fb))(hm:behindInMarks .In b=false:=by rfl):ZT X (.Compare a [.In] [b] pos) (gk X.K (fB (au (Hw false) fa fb))):=by exists R.pS (JAe.or (JAf hu)) Pi ha hb hm
def zn {j}(ha:ZE X a (ay X.K fa)):ZT X (.Compare a [.Is] [.Constant .none j p] pos) (gk X.K (fB (jZ (rT false .non) fa))):=by exists R.NT (.inl {rfl,rfl}) vY ha ud (f6 _)
def tX {j}(ha:ZE X a (ay X.K fa)):ZT X (.Compare a [.IsNot] [.Constant .none j p] pos) (gk X.K (fB (jZ (rT true .non) fa))):=by exists R.NT (.inl {rfl,rfl}) vX ha ud (f6 _)
variable {ta tb:FT}{rest:Tj}
def gh (ha:ZT X a (gk X.K ta)):ZT X (.UnaryOp .Not a pos) (gk X.K (et ta)):=by exists PT.imp (LC ha) JF3
def n9 (ha:ZT X a (gk X.K ta))(hb:ZW X (.BoolOp .And (b::rest) pos) (gk X.K tb)):ZW X (.BoolOp .And (a::b::rest) pos) (gk X.K (ik ta tb)):=by exists PW.imp (Ly ha hb) JF4
def oI (ha:ZT X a (gk X.K ta))(hb:ZW X (.BoolOp .Or (b::rest) pos) (gk X.K tb)):ZW X (.BoolOp .Or (a::b::rest) pos) (gk X.K (lO ta tb)):=by exists PW.imp (OL ha hb) KQ
def lK (ha:ZT X a (gk X.K ta)):ZW X (.BoolOp .And [a] pos) (gk X.K ta):=by exists JFh ha
def pG (ha:ZT X a (gk X.K ta)):ZW X (.BoolOp .Or [a] pos) (gk X.K ta):=by exists Lx ha
def zm (h:ZW X a (gk X.K ta)):ZT X a (gk X.K ta):=by exists h.pt
def Lr {c:AR}(hc:ZT X c (gk X.K ta))(ha:ZE X a (ay X.K fa))(hb:ZE X b (ay X.K fb)):ZE X (.IfExp c a b pos) (ay X.K (J3 ta fa fb)):=by exists PE.imp (JC1 hc ha hb) Ol
variable {st:AU}{sts aa bb:Tk}{sa sb:FS}{c tg iter:AR}
def bn:BO X [] (fJ X.K aQ):=by exists oZ.imp JFk JF9
def ao (h1:ZS X st (fJ X.K sa))(h2:BO X sts (fJ X.K sb)):BO X (st::sts) (fJ X.K (aE sa sb)):=by exists oZ.imp (JDi h1 h2) KW
def ax (h1:ZS X st (fJ X.K sa)):BO X [st] (fJ X.K sa):=by exists JFj h1
def jt:ZS X st (fJ X.K lS):=by exists R.jt
def eL (he:ZE X e (ay X.K fa))(hs:swapsWith e none pos.line X.env=pure false:=by rfl):ZS X (.Expr e pos) (fJ X.K (cS fa)):=by exists PS.imp (JFl he hs) JFa
def aN (he:ZE X e (ay X.K fa)):ZS X (.Return (some e) pos) (fJ X.K (bq fa)):=by exists PS.imp (LF he) KZ
def b9 (hc:ZT X c (gk X.K ta))(ha:BO X aa (fJ X.K sa))(hb:BO X bb (fJ X.K sb)):ZS X (.If c aa bb pos) (fJ X.K (fR ta sa sb)):=by exists PS.imp (OM hc ha hb) JHl
def aU (i:Nat){pos':Pos}(hN:X.N.Nodup)(he:ZE X e (ay X.K fa))(hi:X.N[i]?=some x:=by rfl)(hx:IB X.env.scope x:=by first|exact Or.inl rfl|exact Or.inr rfl)(hs:swapsWith e (some (.Name x pos')) pos.line X.env=pure false:=by rfl)(hf:X.fn x=true\/X.env.scope.names.lookup x=some .local:=by first|exact .inl rfl|exact .inr rfl) :
  ZS X (.Assign [.Name x pos'] e pos) (fJ X.K (aV i fa)):=by
 exists PS.imp (LD hN hi hx he hs hf) CW
variable {g:FG}{gs:J9}{fi:FI}
def cO (i:Nat)(hN:X.N.Nodup)(hi:X.N[i]?=some x:=by rfl)(hx:IB X.env.scope x:=by first|exact Or.inl rfl|exact Or.inr rfl)(hf:X.fn x=true\/X.env.scope.names.lookup x=some .local:=by first|exact .inl rfl|exact .inr rfl):ZG X (.Name x pos) (rK X.K (bE i)):=by exists PG.imp (JFq hN hi hx hf) K9
def kH:QR X [] (vI X.K dI):=by exists FQ.imp JFp JB1
def bY (h1:ZG X e (rK X.K g))(h2:QR X es (vI X.K gs))(hs:(assignEach (e::es) X.env).map (·.2)=assign e X.env::(assignEach es X.env).map (·.2):=by exact xg rfl):QR X (e::es) (vI X.K (aK g gs)):=by exists FQ.imp (JCz h1 h2 hs) JAv
def wA {k n:Nat}(hc:X.calm=true)(h:QR X es (vI X.K gs))(hn:(assignEach es X.env).length=n:=by rfl)(CL:(assignEach es X.env).findIdx? (·.1)=none:=by rfl):ZG X (.Tuple es k pos) (rK X.K (qE n gs)):=by exists PG.imp (LI hc h hn CL) K8
def Rp (hu : X.A.units + 64 < cLine) (ha : ZE X a (ay X.K fa)) (hb : ZE X b (ay X.K fb)) (hq : ∀ v, assign (.Subscript a b pos) X.env v = (do
      let ov ← holding [v] (eval a X.env)
      let iv ← holding [v, ov] (eval b X.env)
      standAt pos
      holding [v, ov, iv] (setItem ov iv v)
      release [v, ov, iv] []) := by intro _; rfl) : ZG X (.Subscript a b pos) (rK X.K (rV fa fb)) := by
  exists PG.imp (DC ha hb (u2.or JCa (JCb ∅)) hq) JGc
def dW (ha:ZE X a (ay X.K fa)):ZI X tg a (C6 X.K (bH fa)):=by exists PI.imp (JFo (xU ha)) JGb
def Hx (hg:Gl X "range")(hm:X.mg "range" = none)(ha:ZE X a (ay X.K fa))(hs:starEach [a] X.env=[(false,eval a X.env)]:=by exact aA rfl):ZI X tg (.Call (.Name "range" p) [a] [] pos) (C6 X.K (yA fa)):=by exists PI.imp (JA1 hg hm (ah ha ap hs) hs) JHm
def KF (hc:X.calm=true)(hi:ZI X tg iter (GD X.K fi))(hg:ZG X tg (rK X.K g))(hb:BO X aa (fJ X.K sa))(hp:PassesOwn (model X.prog X.w) X.A X.env X.xe)(hs:∀x,foldedSetIterable iter X.env x=pure x:=by intro _;rfl):ZS X (.For tg iter aa [] pos) (fJ X.K (ii fi g sa)):=by exists PS.imp (Ds hp hc hi hg hb hs) zt
def i7 (hc:X.calm=true)(hi:ZI X tg iter (C6 X.K fi))(hg:ZG X tg (rK X.K g))(hb:BO X aa (fJ X.K sa))(hp:PassesOwn (model X.prog X.w) X.A X.env X.xe)(hs:∀x,foldedSetIterable iter X.env x=pure x:=by intro _;rfl):ZS X (.For tg iter aa [] pos) (fJ X.K (ii fi g sa)):=by exists PS.imp (Ds hp hc hi hg hb hs) La
def sw (he:ZE X e (ay X.K fa))(hg:ZG X tg (rK X.K g))(hs:swapsWithSole [tg] e pos.line X.env=pure false:=by rfl)(hw:swappedStores [tg] e X.env=pure none:=by rfl)(h1:(assignEach [tg] X.env).map (·.2)=[assign tg X.env]:=by rfl):ZS X (.Assign [tg] e pos) (fJ X.K (oP fa g)):=by exists PS.imp (LH he hg hs hw h1) Lh
def mV:Iv X [] (gk X.K gf):=by exists R.o0.imp JDn KL
def EG (h:ZT X c (gk X.K ta)):Iv X [c] (gk X.K ta):=by exists JDm h
def gX {ifs:Tj}{scope:Scope}(ix:T5 Nat)(own caps:Tn)(hc:X.calm=true)(n:aO X.env.scope scope own caps)(hi:ZI X tg iter (C6 X.K fi))
  (hb:∀cl C s₂ H₂ fp,ZG (aT X scope cl C s₂ H₂ fp (own++caps)) tg (rK X.K g)/\Iv (aT X scope cl C s₂ H₂ fp (own++caps)) ifs (gk X.K ta)/\ZE (aT X scope cl C s₂ H₂ fp (own++caps)) e (ay X.K fa))
  (CR:ix.map (λi=>X.N[i]?)=caps.map some:=by rfl)
  (hs:∀x,foldedSetIterable iter X.env x=pure x:=by intro _;rfl):ZE X (.ListComp e [{tg,iter,ifs,0}] scope pos) (ay X.K (dY ix own.length fi g ta fa)):=by
 exists R.gX ix own caps hc n hi hb CR hs
def p7 (i:Nat){py D9:Pos}{ifs:Tj}{scope:Scope}(ix:T5 Nat)(own caps:Tn)(hc:X.calm=true)(n:aO X.env.scope scope own caps)(hN:X.N.Nodup)(hi:ZI X tg iter (C6 X.K fi))
  (hb:∀cl C s₂ H₂ fp,ZG (aT X scope cl C s₂ H₂ fp (own++caps)) tg (rK X.K g)/\Iv (aT X scope cl C s₂ H₂ fp (own++caps)) ifs (gk X.K ta)/\ZE (aT X scope cl C s₂ H₂ fp (own++caps)) e (ay X.K fa))
  (hsw:swapsWith (.ListComp e [{tg,iter,ifs,0}] scope pos) (some (.Name x py)) D9.line X.env=pure true:=by rfl)
  (hy:X.N[i]?=some x:=by rfl) (HP:IB X.env.scope x:=by first|exact Or.inl rfl|exact Or.inr rfl)
  (CR:ix.map (λi=>X.N[i]?)=caps.map some:=by rfl)
  (hs:∀x,foldedSetIterable iter X.env x=pure x:=by intro _;rfl) (hf:X.fn x=true\/X.env.scope.names.lookup x=some .local:=by first|exact .inl rfl|exact .inr rfl) :
  ZS X (.Assign [.Name x py] (.ListComp e [{tg,iter,ifs,0}] scope pos) D9) (fJ X.K (aV i (dY ix own.length fi g ta fa))):=by
 exists R.p7 i ix own caps hc n hN hi hb hsw hy HP CR hs hf
end
def okP {P:A9}{w:AM}{K:AP}{mg:Td}{base:AI}{x:Str}{st:AU}{N ps:Tn}{k:Nat}{b:FS}(d:bA K mg x st ps)(S:az N ps (ai st))
  (Ay:∀(f:A4) (AX:A3) (A:AL) (outer:T5 Env) (s:A1) (H:Hp) (E:XK),bK k (A.deeper (envOfC x (ai st) s.heap.objs.size f AX))->BO (jX lB P w K mg base N x (ai st) f AX A outer s H E).nox (bx st) (fJ K b)) :
  bm P w K mg base (k+1) x ps (eM N.length b):=by
 exists R.okP d S Ay
def aG {X:Cx}{k:Nat}{x:Str}{ps:Tn}{mf:MF}{e:AR}{es:Tj}{ga:FA}{p pos:Pos}{n:Nat}(F:bm X.prog X.w X.K X.mg X.base k x ps mf)(hr:bK k X.A)(ha:ZA X (e::es) (ig X.K ga))(hg:Gl X x:=by rfl)(hn:ps.length=n:=by rfl)
  (Be:(x == ("__debug__" : Str))=false:=by decide) (he:nh e es X:=by exact aA rfl) (hpl:(backTo pos (starEach es X.env)).any (·.1)=false:=by exact aH rfl) :
  ZE X (.Call (.Name x p) (e::es) [] pos) (ay X.K (aJ mf n ga)):=by
 exists R.aG F hr ha hg hn Be he hpl
def iq {X:Cx}{k:Nat}{x:Str}{ps:Tn}{mf:MF}{e:AR}{es:Tj}{ga:FA}{p pos:Pos}{n:Nat}(F:bm X.prog X.w X.K X.mg X.base k x ps mf)(hr:bK k X.A)(ha:ZA X (e::es) (ig X.K ga))(hg:Gl X x:=by rfl)(hn:ps.length=n:=by rfl)
  (Be:(x == ("__debug__" : Str))=false:=by decide) (he:nh e es X:=by exact aA rfl) (hpl:(backTo pos (starEach es X.env)).any (·.1)=false:=by exact aH rfl) :
  ZE X (.Call (.Name x p) (e::es) [] pos) (ay X.K (ee mf n ga)):=by
 exists R.iq F hr ha hg hn Be he hpl
def okN {P:A9}{w:AM}{K:AP}{mg:Td}{base:AI}{x:Str}{st:AU}{N ps:Tn}{k:Nat}{b:FS}(d:bA K mg x st ps)(S:az N ps (ai st))
  (Ay:∀(f:A4) (AX:A3) (A:AL) (outer:T5 Env) (s:A1) (H:Hp) (E:XK),bK k (A.deeper (envOfC x (ai st) s.heap.objs.size f AX))->BO (jX lB P w K mg base N x (ai st) f AX A outer s H E).nox (bx st) (fJ K b)) :
  iH P w K mg base (k+1) x ps (xQ N.length b):=by
 exists R.okN d S Ay
def k8 {X:Cx}{k:Nat}{x:Str}{ps:Tn}{mf:MC}{e:AR}{es:Tj}{ga:FA}{p pos:Pos}{n:Nat}(F:iH X.prog X.w X.K X.mg X.base k x ps mf)(hr:bK k X.A)(ha:ZA X (e::es) (ig X.K ga))(hg:Gl X x:=by rfl)(hn:ps.length=n:=by rfl)
  (Be:(x == ("__debug__" : Str))=false:=by decide) (he:nh e es X:=by exact aA rfl) (hpl:(backTo pos (starEach es X.env)).any (·.1)=false:=by exact aH rfl) :
  ZE X (.Call (.Name x p) (e::es) [] pos) (ay X.K (gc mf n ga)):=by
 exists R.k8 F hr ha hg hn Be he hpl
def okW {P:A9}{w:AM}{K:AP}{mg:Td}{base:AI}{x:Str}{st:AU}{N ps:Tn}{k:Nat}{b:FS}(d:bA K mg x st ps)(S:az N ps (ai st))
  (Ay:∀(f:A4) (AX:A3) (A:AL) (outer:T5 Env) (s:A1) (H:Hp) (E:XK),bK k (A.deeper (envOfC x (ai st) s.heap.objs.size f AX))->BO (jX lB P w K mg base N x (ai st) f AX A outer s H E).nox (bx st) (fJ K b)) :
  oF P w K mg base (k+1) x ps (oQ N.length b):=by
 exists R.okW d S Ay
def L7 {P:A9}{w:AM}{K:AP}{mg:Td}{base:AI}{nm qual:Str}{C:A4}{st:AU}{N ps:Tn}{k:Nat}{b:FS}(d:kS K C nm qual st ps)(S:az N ps (ai st))
  (Ay:∀(f:A4) (AX:A3) (A:AL) (outer:T5 Env) (s:A1) (H:Hp) (E:XK),bK k (A.deeper (envOfC qual (ai st) s.heap.objs.size f AX))->BO (jX lB P w K mg base N qual (ai st) f AX A outer s H E).nox (bx st) (fJ K b)) :
  fj P w K mg base (k+1) nm C ps (oQ N.length b):=by
 exists R.L7 d S Ay
def mJ {X:Cx}{k:Nat}{x:Str}{ps:Tn}{mf:MW}{e:AR}{es:Tj}{ga:FA}{p pos:Pos}{n:Nat}(F:oF X.prog X.w X.K X.mg X.base k x ps mf)(hr:bK k X.A)(ha:ZA X (e::es) (ig X.K ga))(hg:Gl X x:=by rfl)(hn:ps.length=n:=by rfl)
  (Be:(x == ("__debug__" : Str))=false:=by decide) (he:nh e es X:=by exact aA rfl) (hpl:(backTo pos (starEach es X.env)).any (·.1)=false:=by exact aH rfl) :
  ZE X (.Call (.Name x p) (e::es) [] pos) (ay X.K (jF mf n ga)):=by
 exists R.mJ F hr ha hg hn Be he hpl
def ko {X:Cx}{k:Nat}{c nm:Str}{C:A4}{ps:Tn}{mf:MW}{o e:AR}{es:Tj}{fo:FE}{ga:FA}{apos pos:Pos}{n:Nat}{pl:Sem A8}(N:o5 X.K X.mg c C)(F:fj X.prog X.w X.K X.mg X.base k nm C ps mf)(hr:bK k X.A)(ho:ZE X o (ay X.K fo))(ha:ZA X (e::es) (ig X.K ga))(hn:ps.length=n:=by rfl)
  (he:nh e es X:=by exact aA rfl) (hpl:(backTo pos (starEach es X.env)).any (·.1)=false:=by exact aH rfl)
  (ht:eval (.Call (.Attribute o nm apos) (e::es) [] pos) X.env=(do
   let ov ←eval o X.env
   standAt apos.atName
   let (mth,first) ←holding [ov] (getMethod ov nm pl)
   callWith pos mth first (backTo pos (starEach (e::es) X.env)) (backToKw pos (keywordEach [] X.env))):=by rfl) :
  ZE X (.Call (.Attribute o nm apos) (e::es) [] pos) (ay X.K (iA c nm mf n fo ga)):=by
 exists R.ko N F hr ho ha hn he hpl ht
def uc {X:Cx}{k:Nat}{c:Str}{C:A4}{ps:Tn}{mf:MW}{e:AR}{es:Tj}{ga:FA}{p pos:Pos}{n:Nat}(N:o5 X.K X.mg c C)(hk:PySem.W.makesIn X.K C=true)(hp:PySem.W.keepIn X.K (.ref C)=true)(F:fj X.prog X.w X.K X.mg X.base k "__init__" C ps mf)(hr:bK (k+1) X.A)(ha:ZA X (e::es) (ig X.K ga))(hg:Gl X c:=by rfl)(hn:ps.length=n:=by rfl)
  (Be:(c == ("__debug__" : Str))=false:=by decide) (he:nh e es X:=by exact aA rfl) (hpl:(backTo pos (starEach es X.env)).any (·.1)=false:=by exact aH rfl):ZE X (.Call (.Name c p) (e::es) [] pos) (ay X.K (nR c mf n ga)):=by
 exists R.uc N hk hp F hr ha hg hn Be he hpl
def JFg {X:Cx}{es:Tj}{ga:FA}{p pos:Pos}(hc:X.calm=true)(hg:Gl X "dict")(hm:X.mg "dict" = none)(ha:ZA X (e::es) (ig X.K ga))(he:nh e es X:=by exact aA rfl)(hpl:(backTo pos (starEach es X.env)).any (·.1)=false:=by exact aH rfl) :
  ZE X (.Call (.Name "dict" p) (e::es) [] pos) (ay X.K (gp oA ga)):=by
 exists PE.imp (eA (tt hc) hg hm ∅ ha (he:=he) (hpl:=hpl)) (i8 JGg)
def oh {X:Cx}{c f:Str}{C:A4}{o:AR}{fo:FE}(N:o5 X.K X.mg c C)(hf:fG X.K C f)(ho:ZE X o (ay X.K fo))(hb:attributeBase o f X.env (eval o X.env)=eval o X.env:=by rfl):ZE X (.Attribute o f pos) (ay X.K (hG c f fo)):=by exists PE.imp (LP ho hb) (Lb N hf)
def CO {X:Cx}{c f:Str}{C:A4}{o e:AR}{fo fv:FE}{pos pos':Pos}(N:o5 X.K X.mg c C)(hf:fG X.K C f)(ho:ZE X o (ay X.K fo))(hv:ZE X e (ay X.K fv))(hs:swapsWith e (some (.Attribute o f pos')) pos.line X.env=pure false:=by rfl):ZS X (.Assign [.Attribute o f pos'] e pos) (fJ X.K (mG c f fo fv)):=by exists PS.imp (LG ho hv hs) (JF6 N hf)
def JO {X:Cx}{a:AR}{fa:FE}{p2 pos:Pos}{lo hi:UE AR}{fl fh:FO}(ha:ZE X a (ay X.K fa))(hl:ZO X lo (vH X.K fl))(hh:ZO X hi (vH X.K fh)):ZE X (.Subscript a (.Slice lo hi none p2) pos) (ay X.K (EI fa fl fh)):=by exists PE.imp (ql KB ha hl hh) KS
def JS {X:Cx}{a b:AR}{fa fb:FE}(ha:ZE X a (ay X.K fa))(hb:ZE X b (ay X.K fb))(hs:xl b:=by intro _ _;rfl):ZE X (.Subscript a b pos) (ay X.K (au JZ fa fb)):=by exists PE.imp (vT ha hb hs) (ip Ph)
def Ln {X:Cx}{es:Tj}{ga:FA}{p pos:Pos}(hg:Gl X "len")(hm:X.mg "len" = none)(ha:ZA X (e::es) (ig X.K ga))(he:nh e es X:=by exact aA rfl)(hpl:(backTo pos (starEach es X.env)).any (·.1)=false:=by exact aH rfl) :
  ZE X (.Call (.Name "len" p) (e::es) [] pos) (ay X.K (gp Ba ga)):=by
 exists PE.imp (fU uU hg hm PySem.boot_len ha (he:=he) (hpl:=hpl)) (i8 Mx)
def Lq {X:Cx}{e o:AR}{fa fb:FE}{apos AW:Pos}(ho:ZE X o (ay X.K fa))(hb:ZE X e (ay X.K fb))(Bb:attributeBase o "join" X.env (eval o X.env)=eval o X.env:=by rfl)
  (Fi:((backTo AW (starEach [e] X.env)).all (λx=>!x.1)&&(backToKw AW (keywordEach [] X.env)).all (λx=>x.1.isSome)
   && decide ([e].length+([]:T5 Keyword).length+(if ([]:T5 Keyword).isEmpty then 0 else 1)<30))=true:=by rfl)
  (BL:(apos.endLine == AW.line)=true:=by rfl) (hs:starEach [e] X.env=(false,eval e X.env)::starEach [] X.env:=by exact aA rfl) (C7:(backTo AW (starEach [] X.env)).any (·.1)=false:=by exact aH rfl) :
  ZE X (.Call (.Attribute o "join" apos) [e] [] AW) (ay X.K (au sJ fa fb)):=by
 exists PE.imp (JU PySem.F.plainAttrs_str PySem.F.slot_str_join PySem.F.type_str_join JGw ho (lf hb qp hs) Bb Fi BL hs C7) (Lg My)
def JT {X:Cx}{a b:AR}{fa fb:FE}(hu:X.A.units+64<cLine)(ha:ZE X a (ay X.K fa))(hb:ZE X b (ay X.K fb))(hs:Iz b:=by intro _ _;rfl):ZE X (.Subscript a b pos) (ay X.K (wH fa fb)):=by exists PE.imp (zJ ∅ ha hb hs) Lf
def Lp {X:Cx}{es:Tj}{ga:FA}{p pos:Pos}(hg:Gl X "tuple")(hm:X.mg "tuple" = none)(ha:ZA X (e::es) (ig X.K ga))(he:nh e es X:=by exact aA rfl)(hpl:(backTo pos (starEach es X.env)).any (·.1)=false:=by exact aH rfl):ZE X (.Call (.Name "tuple" p) (e::es) [] pos) (ay X.K (gp Ec ga)):=by exists PE.imp (eA lJ hg hm ∅ ha (he:=he) (hpl:=hpl)) (i8 Pg)
def OG {X:Cx}:ZE X (.Dict [] [] pos) (ay X.K HM):=by exists PE.imp vU Lc
def O7 {X : Cx} {a b : AR} {fa fb : FE} {pos : Pos} (hu : X.A.units + 64 < cLine) (ha : ZE X a (ay X.K fa)) (hb : ZE X b (ay X.K fb)) (hq : ∀ v, assign (.Subscript a b pos) X.env v = (do
      let ov ← holding [v] (eval a X.env)
      let iv ← holding [v, ov] (eval b X.env)
      standAt pos
      holding [v, ov, iv] (setItem ov iv v)
      release [v, ov, iv] []) := by intro _; rfl) : ZG X (.Subscript a b pos) (rK X.K (sO fa fb)) := by
  exists PG.imp (DC ha hb (JAo ∅) hq) JB2
def Rb {X:Cx}{fa:FE}{p pos p2 pos2:Pos}(hc:X.calm=true)(hu:X.A.units+64<cLine)(hg:Gl X "sorted")(hm:X.mg "sorted" = none)(hg2:Gl X "set")(hm2:X.mg "set" = none)(ha:ZE X e (ay X.K fa))(hs:nM e=false:=by rfl) :
  ZE X (.Call (.Name "sorted" p) [.Call (.Name "set" p2) [e] [] pos2] [] pos) (ay X.K (Qm fa)):=by
 exists PE.imp (fU (w5 hc) hg hm ∅ (lf (eA (yK hc hu) hg2 hm2 ∅ (lf ha qp (aA hs)) (he:=aA hs)) qp)) On
def Lw {X:Cx}{a b:AR}{fa fb:FE}(ha:ZE X a (ay X.K fa))(hb:ZE X b (ay X.K fb)):ZE X (.BinOp a .Add b pos) (ay X.K (au xj fa fb)):=by exists PE.imp (om JGr ha hb) (ip MB)
def Ll {X:Cx}{o e f:AR}{fa fb fc:FE}{apos AW:Pos}(hu:X.A.units+64<cLine)(ho:ZE X o (ay X.K fa))(he:ZE X e (ay X.K fb))(hf:ZE X f (ay X.K fc))(m:M2 X o "setdefault" apos e f AW:=by exact{rfl,rfl,rfl,rfl}) :
  ZE X (.Call (.Attribute o "setdefault" apos) [e,f] [] AW) (ay X.K (qJ fa fb fc)):=by
 exists PE.imp (zI ∅ ho he hf m) JF7
def OH {X:Cx}:ZE X (.Dict [] [] pos) (ay X.K HN):=by exists PE.imp vU Ld
def OB {X:Cx}{a b:AR}{fa fb:FE}(hu:X.A.units+64<cLine)(ha:ZE X a (ay X.K fa))(hb:ZE X b (ay X.K fb))(hs:Iz b:=by intro _ _;rfl):ZE X (.Subscript a b pos) (ay X.K (EH fa fb)):=by exists PE.imp (zJ ∅ ha hb hs) KO
def JAx {X:Cx}{es:Tj}{ga:FA}{p pos:Pos}(hc:X.calm=true)(hg:Gl X "sorted")(hm:X.mg "sorted" = none)(ha:ZA X (e::es) (ig X.K ga))(he:nh e es X:=by exact aA rfl)(hpl:(backTo pos (starEach es X.env)).any (·.1)=false:=by exact aH rfl) :
  ZE X (.Call (.Name "sorted" p) (e::es) [] pos) (ay X.K (gp so ga)):=by
 exists PE.imp (fU (uQ hc) hg hm ∅ ha (he:=he) (hpl:=hpl)) (i8 JGe)
def JG7 {X:Cx}{elts:Tj}{x1}{pt apos AW:Pos}{o:AR}{fa:FE}(ho:ZE X o (ay X.K fa))(Bb:attributeBase o "items" X.env (eval o X.env)=eval o X.env:=by rfl)(BL:(apos.endLine == AW.line)=true:=by rfl):ZI X (.Tuple elts x1 pt) (.Call (.Attribute o "items" apos) [] [] AW) (GD X.K (HL fa)):=by exists PI.imp (JCy (xU ho) Bb BL) K7
def JFf {X:Cx}{es:Tj}{ga:FA}{p pos:Pos}(hu:X.A.units+64<cLine)(hc:X.calm=true)(hg:Gl X "dict")(hm:X.mg "dict" = none)(ha:ZA X (e::es) (ig X.K ga))(he:nh e es X:=by exact aA rfl)(hpl:(backTo pos (starEach es X.env)).any (·.1)=false:=by exact aH rfl) :
  ZE X (.Call (.Name "dict" p) (e::es) [] pos) (ay X.K (gp sZ ga)):=by
 exists PE.imp (eA (yL hu hc) hg hm ∅ ha (he:=he) (hpl:=hpl)) (i8 JGf)
def Lm {X:Cx}{o e:AR}{fa fb:FE}{apos AW:Pos}(hu:X.A.units+64<cLine)(ho:ZE X o (ay X.K fa))(he:ZE X e (ay X.K fb))(m:M1 X o "pop" apos e AW:=by exact{rfl,rfl,rfl,rfl}) :
  ZE X (.Call (.Attribute o "pop" apos) [e] [] AW) (ay X.K (wG fa fb)):=by
 exists PE.imp (JFs ∅ ho he m) JF8
def Lk {X:Cx}{o:AR}{fa:FE}{apos AW p pos:Pos}(hc:X.calm=true)(hg:Gl X "sorted")(hm:X.mg "sorted" = none)(ho:ZE X o (ay X.K fa))(hb:attributeBase o "values" X.env (eval o X.env)=eval o X.env:=by rfl)(hl:(apos.endLine == AW.line)=true:=by rfl) :
  ZE X (.Call (.Name "sorted" p) [.Call (.Attribute o "values" apos) [] [] AW] [] pos) (ay X.K (wF fa)):=by
 exists PE.imp (JC0 hc hg hm ho hb hl (aA rfl)) JF5
def OC {X:Cx}{o e f:AR}{fa fb fc:FE}{apos AW:Pos}(hu:X.A.units+64<cLine)(ho:ZE X o (ay X.K fa))(he:ZE X e (ay X.K fb))(hf:ZE X f (ay X.K fc))(m:M2 X o "setdefault" apos e f AW:=by exact{rfl,rfl,rfl,rfl}) :
  ZE X (.Call (.Attribute o "setdefault" apos) [e,f] [] AW) (ay X.K (Bw fa fb fc)):=by
 exists PE.imp (zI ∅ ho he hf m) KY
def OK {X:Cx}{a:AR}{fa:FE}(ha:ZE X a (ay X.K fa)):ZE X a (ay X.K (Ng fa)):=by exists PE.imp ha Om
def Jq {X:Cx}{a b:AR}{fa fb:FE}(hu:X.A.units+64<cLine)(ha:ZE X a (ay X.K fa))(hb:ZE X b (ay X.K fb)):ZT X (.Compare a [.Eq] [b] pos) (gk X.K (fB (au (FN false) fa fb))):=by exists R.pS (xV hu) Pk ha hb (f6 _)
section
variable {X:Cx}{e o:AR}{es:Tj}{fa:FE}{ga:FA}{apos AW:Pos}
def qe (ho:ZE X o (ay X.K fa))(ha:ZA X (e::es) (ig X.K ga))(Bb:attributeBase o "append" X.env (eval o X.env)=eval o X.env:=by rfl)
  (Fi:((backTo AW (starEach (e::es) X.env)).all (λx=>!x.1)&&(backToKw AW (keywordEach [] X.env)).all (λx=>x.1.isSome)
   && decide ((e::es).length+([]:T5 Keyword).length+(if ([]:T5 Keyword).isEmpty then 0 else 1)<30))=true:=by rfl)
  (BL:(apos.endLine == AW.line)=true:=by rfl) (hs:nh e es X:=by exact aA rfl) (C7:(backTo AW (starEach es X.env)).any (·.1)=false:=by exact aH rfl) :
  ZE X (.Call (.Attribute o "append" apos) (e::es) [] AW) (ay X.K (Bx lF fa ga)):=by
 exists PE.imp (JU PySem.F.plainAttrs_list PySem.F.slot_list_append PySem.F.type_list_append JAi ho ha Bb Fi BL hs C7) (Oj Po)
end
def MD {P:A9}{w:AM}{K:AP}{mg:Td}{base:AI}{x qual:Str}{st:AU}{f:A4}{fd:FuncData}{N ps:Tn}{k:Nat}{b:FS}(F:pF K x qual st f fd)(S:az N ps (ai st))
  (Ay:∀(AX:A3) (A:AL) (outer:T5 Env) (s:A1) (H:Hp) (E:XK),bK k (A.deeper (envOfC qual (ai st) s.heap.objs.size f AX))->BO (jX lB P w K mg base N qual (ai st) f AX A outer s H E).nox (bx st) (fJ K b)) :
  cC P w K mg base lB (k+1) f fd ps (BU K ps.length (eM N.length b)):=by
 exists pF.okP F S Ay
def Ug {P:T5 A3->Prop}(h:P []):∀us:Te,us.length=0->P us:=λus e=>by rw[zbN.mp e];exact h
theorem No {P:T5 A3->Prop}{n:Nat}(h:∀a us,us.length=n->P (a::us)):∀us:Te,us.length=n+1->P us:=λus e=>by
 cases us with
 |nil=>cases e
 |cons a us=>exact h a us (Nat.succ.inj e)
def BZ {P:T5 A3->Prop}(h:∀a,P [a]):∀us:Te,us.length=1->P us:=No λa=>Ug (P:=λus=>P (a::us)) (h a)
def yY {P:T5 A3->Prop}(h:∀a b,P [a,b]):∀us:Te,us.length=2->P us:=No λa=>BZ (P:=λus=>P (a::us)) (h a)
def Kg {P:T5 A3->Prop}(h:∀a b c,P [a,b,c]):∀us:Te,us.length=3->P us:=No λa=>yY (P:=λus=>P (a::us)) (h a)
def QX {P:T5 A3->Prop}(h:∀a b c d,P [a,b,c,d]):∀us:Te,us.length=4->P us:=No λa=>Kg (P:=λus=>P (a::us)) (h a)
def P5 {P:T5 A3->Prop}(h:∀a b c d e,P [a,b,c,d,e]):∀us:Te,us.length=5->P us:=No λa=>QX (P:=λus=>P (a::us)) (h a)
section
variable {K:AP}{h:AI}{mg:Td}{x:Str}{st:AU}{ps:Tn}
def FK (K:AP)(x:Str)(st:AU):Prop:=∃f:A4,PySem.W.nsIn K mainGlobals x=some (some (.ref f))/\∃(oc:A3) (od:UE A4) (kV dc pm:A3) (an:UE A4) (cd ct:A3) (sl:AD (Tg)),
 K.lookup f=some {oc,od,.func (PySem.W.fnOf x x (gK st) (bx st) (ai st) .none kV dc pm an cd ct),sl}/\PySem.W.codeIn K cd x=true/\PySem.W.keepIn K (.ref f)=true
abbrev Ka (x:Str)(st:AU)(ps:Tn):Prop:=∀(kV doc pm:A3) (an:UE A4) (AX ct:A3) (us:Te),us.length=ps.length->bindArgs (PySem.W.fnOf x x (gK st) (bx st) (ai st) .none kV doc pm an AX ct) {us,[]}=pure (ps.zip us)
def FK.at_ (a:FK K x st)(X:K.In h)(G:h.Ns mainGlobals mg)(hb:Ka x st ps):bA K mg x st ps:=by let⟨f,a,oc,od,kV,dc,pm,an,cd,ct,sl,l,c,k⟩:=a;have F:=yy l c k;exact{_,_,F,F.binds hb,zcu X G a}
def M5 (K:AP)(C:A4)(nm qual:Str)(st:AU):Prop:=∃f:A4,PySem.W.findIn K (.ref C) nm=some (some (.ref f))/\PySem.W.isFn K (.ref f)=true/\∃(oc:A3) (od:UE A4) (kV dc pm:A3) (an:UE A4) (cd ct:A3) (sl:AD (Tg)),
 K.lookup f=some {oc,od,.func (PySem.W.fnOf nm qual (gK st) (bx st) (ai st) .none kV dc pm an cd ct),sl}/\PySem.W.codeIn K cd qual=true/\PySem.W.keepIn K (.ref f)=true
def M5.at_ {C:A4}{nm qual:Str}(a:M5 K C nm qual st)(hb:∀(kV doc pm:A3) (an:UE A4) (AX ct:A3) (us:Te),us.length=ps.length->bindArgs (PySem.W.fnOf nm qual (gK st) (bx st) (ai st) .none kV doc pm an AX ct) {us,[]}=pure (ps.zip us)):kS K C nm qual st ps:=by let⟨f,a,i,oc,od,kV,dc,pm,an,cd,ct,sl,l,c,k⟩:=a;have F:=yy l c k;exact{_,_,F,F.binds hb,{a,i,k}}
def FK.law {fa:A4}(a:FK K x st)(X:K.In h)(G:h.Ns mainGlobals mg)(e:mg x=some (.ref fa))(hb:Ka x st ps):∃fd,pF K x x st fa fd/\∀(s:A1) (us:Te),us.length=ps.length->BindsTo s fd {us,[]} (ps.zip us):=by let⟨f,a,oc,od,kV,dc,pm,an,cd,ct,sl,l,c,k⟩:=a;have:=e.symm.trans (zcu X G a);cases this;exact{_,yy l c k,λs us hl=>.of_eq (hb _ _ _ _ _ _ us hl)}
end
end HW
namespace HW
open L2
section
variable {O:Lo}{U U1:ac}{x y:R}{d:D}
theorem jU {O:Lo}:ae 0 (some x::O) U=some (x,U):=rfl
def lI {i:Nat}{o:UE R}{O:Lo}:ae (i+1) (o::O) U=ae i O U:=by simp[ae]
theorem MJ:fK d O U=some (.v d,U):=rfl
noncomputable def NE (o:UE (R×ac))(g:R->R->ac->UE (R×ac))(fb:FE)(O:Lo):UE (R×ac):=o.bind λa=>(fb O a.2).bind λb=>g a.1 b.1 b.2
noncomputable def Jf (x:R)(o:UE (R×ac))(g:R->R->ac->UE (R×ac)):UE (R×ac):=o.bind λb=>g x b.1 b.2
theorem oz {g fa fb}:au g fa fb O U=NE (fa O U) g fb O:=rfl
theorem kI {g fb}:NE (some (x,U)) g fb O=Jf x (fb O U) g:=rfl
theorem l8 {g}:Jf x (some (y,U)) g=g x y U:=rfl
noncomputable def Ny (o:UE (R×ac))(g:R->ac->UE (R×ac)):UE (R×ac):=o.bind λa=>g a.1 a.2
def Tr {g fa}:jZ g fa O U=Ny (fa O U) g:=rfl
def RE {g}:Ny (some (x,U)) g=g x U:=rfl
theorem jG:am O U=some ([],U):=rfl
noncomputable def Ch (o:UE (R×ac))(fr:FA)(O:Lo):UE (T5 R×ac):=o.bind λa=>(fr O a.2).bind λr=>some (a.1::r.1,r.2)
noncomputable def ze (x:R)(o:UE (T5 R×ac)):UE (T5 R×ac):=o.bind λr=>some (x::r.1,r.2)
theorem dE {fa fr}:ag fa fr O U=Ch (fa O U) fr O:=rfl
theorem eZ {fr}:Ch (some (x,U)) fr O=ze x (fr O U):=rfl
theorem eY {xs}:ze x (some (xs,U))=some (x::xs,U):=rfl
noncomputable def NQ (o:UE (T5 R×ac))(g:T5 R->ac->UE (R×ac)):UE (R×ac):=o.bind λa=>g a.1 a.2
theorem sW {g fa}:gp g fa O U=NQ (fa O U) g:=rfl
theorem nU {g xs}:NQ (some (xs,U)) g=g xs U:=rfl
noncomputable def SV (o:UE (R×ac)):UE (A8×ac):=o.bind λa=>match a.1 with|.v (.bl b)=>some (b,a.2)|_=>none
theorem MR {fa}:fB fa O U=SV (fa O U):=rfl
theorem EY {b}:SV (some (.v (.bl b),U))=some (b,U):=rfl
noncomputable def B9 (o:UE (R×ac)):UE (A8×ac):=o.bind λa=>(B6 a.1 a.2).bind λb=>some (b,a.2)
def yC {fa}:dM fa O U=B9 (fa O U):=rfl
def Qo {b}:B9 (some (.v (.bl b),U))=some (b,U):=rfl
def Qn {xs}:B9 (some (.v (.tup xs),U))=some (!xs.isEmpty,U):=rfl
noncomputable def Jn (o:UE (A8×ac))(u:FT)(O:Lo):UE (A8×ac):=o.bind λc=>if c.1=true then u O c.2 else some (false,c.2)
noncomputable def ND (o:UE (A8×ac))(u:FT)(O:Lo):UE (A8×ac):=o.bind λc=>if c.1=true then some (true,c.2) else u O c.2
noncomputable def Jg (o:UE (A8×ac)):UE (A8×ac):=o.bind λc=>some (!c.1,c.2)
def Qq {t u}:ik t u O U=Jn (t O U) u O:=rfl
def Px {b u}:Jn (some (b,U)) u O=if b=true then u O U else some (false,U):=rfl
def EK {t u}:lO t u O U=ND (t O U) u O:=rfl
def Qp {b u}:ND (some (b,U)) u O=if b=true then some (true,U) else u O U:=rfl
def uE {t}:et t O U=Jg (t O U):=rfl
def Pw {b}:Jg (some (b,U))=some (!b,U):=rfl
noncomputable def Ci (o:UE (R×ac))(fb:FE)(O:Lo):UE (R×ac):=o.bind λa=>match a.1 with|.v (.bl c)=>if c=true then fb O a.2 else some (.v (.bl false),a.2)|_=>none
noncomputable def Je (o:UE (R×ac))(fb:FE)(O:Lo):UE (R×ac):=o.bind λa=>match a.1 with|.v (.bl c)=>if c=true then some (.v (.bl true),a.2) else fb O a.2|_=>none
noncomputable def Ce (o:UE (R×ac)):UE (R×ac):=o.bind λa=>match a.1 with|.v (.bl c)=>some (.v (.bl (!c)),a.2)|_=>none
def Sk {fa fb}:yB fa fb O U=Ci (fa O U) fb O:=rfl
def QJ {c fb}:Ci (some (.v (.bl c),U)) fb O=if c=true then fb O U else some (.v (.bl false),U):=rfl
def J4 {fa fb}:Pv fa fb O U=Je (fa O U) fb O:=rfl
def RM {c fb}:Je (some (.v (.bl c),U)) fb O=if c=true then some (.v (.bl true),U) else fb O U:=rfl
def RO {fa}:oX fa O U=Ce (fa O U):=rfl
def Qy {c}:Ce (some (.v (.bl c),U))=some (.v (.bl (!c)),U):=rfl
noncomputable def NI (o:UE (A8×ac))(fa fb:FE)(O:Lo):UE (R×ac):=o.bind λc=>if c.1=true then fa O c.2 else fb O c.2
def TW {t fa fb}:J3 t fa fb O U=NI (t O U) fa fb O:=rfl
def R1 {c fa fb}:NI (some (c,U)) fa fb O=if c=true then fa O U else fb O U:=rfl
noncomputable def za (o:UE (T5 R×ac)):UE (R×ac):=o.bind λa=>(vals a.1).bind λds=>if ds.length<=sizeLine then some (.v (.tup ds),a.2) else none
noncomputable def zb (o:UE (T5 R×ac)):UE (R×ac):=o.bind λa=>(vals a.1).bind λds=>if ds.length<=sizeLine then some (.p a.2.length,a.2++[.lst ds]) else none
theorem EJ {fa}:cP fa O U=za (fa O U):=rfl
def Ad {rs ds}(h:vals rs=some ds)(hl:ds.length<=sizeLine):za (some (rs,U))=some (.v (.tup ds),U):=by simp[za,h,hl]
theorem MI {fa}:dX fa O U=zb (fa O U):=rfl
def JGl {rs ds}(h:vals rs=some ds)(hl:ds.length<=sizeLine):zb (some (rs,U))=some (.p U.length,U++[.lst ds]):=by simp[zb,h,hl]
noncomputable def vh (o:UE (R×ac)):UE (R×ac):=o.bind λa=>(FM a.1 a.2).bind λb=>some (.v b.1,b.2)
theorem Ag {fa}:bJ fa O U=vh (fa O U):=rfl
theorem ET:vh (some (.v d,U))=some (.v d,U):=rfl
def MM {n xs}(h:U[n]?=some (.lst xs)):vh (some (.p n,U))=some (.v (.fl xs),U.set n (.fz xs)):=by simp[vh,FM,h]
noncomputable def nr (o:UE (T5 R×ac))(f:MF)(n:Nat):UE (R×ac):=o.bind λa=>(vals a.1).bind λds=>if ds.length=n then (f ds).bind λd=>some (.v d,a.2) else none
theorem pA {f n fa}:aJ f n fa O U=nr (fa O U) f n:=rfl
def JD0 {f:MF}{n rs ds}(h:vals rs=some ds)(hl:ds.length=n)(hf:f ds=some d):nr (some (rs,U)) f n=some (.v d,U):=by simp[nr,h,hl,hf]
theorem HR:aQ O U=some (.nx O U):=rfl
noncomputable def P8 (o:UE pE)(b:FS):UE pE:=o.bind λo=>match o with|.nx O' U'=>b O' U'|o=>some o
theorem l7 {a b}:aE a b O U=P8 (a O U) b:=rfl
theorem iB {b}:P8 (some (.nx O U)) b=b O U:=rfl
def Qv {b}:P8 (some (.rt x U)) b=some (.rt x U):=rfl
noncomputable def Cg (o:UE (R×ac))(O:Lo):UE pE:=o.bind λa=>some (.nx O a.2)
theorem H9 {f}:cS f O U=Cg (f O U) O:=rfl
def EU:Cg (some (x,U)) O=some (.nx O U):=rfl
noncomputable def Jd (o:UE (R×ac)):UE pE:=o.bind λa=>some (.rt a.1 a.2)
theorem qK {f}:bq f O U=Jd (f O U):=rfl
def HQ:Jd (some (x,U))=some (.rt x U):=rfl
noncomputable def vg (o:UE (A8×ac))(a b:FS)(O:Lo):UE pE:=o.bind λc=>if c.1=true then a O c.2 else b O c.2
theorem kJ {t a b}:fR t a b O U=vg (t O U) a b O:=rfl
theorem yE {a b}:vg (some (true,U)) a b O=a O U:=rfl
theorem ML {a b}:vg (some (false,U)) a b O=b O U:=rfl
noncomputable def Jc (o:UE (R×ac))(i:Nat)(O:Lo):UE pE:=o.bind λa=>some (.nx (O.set i (some a.1)) a.2)
theorem nS {i f}:aV i f O U=Jc (f O U) i O:=rfl
theorem mW {i}:Jc (some (x,U)) i O=some (.nx (O.set i (some x)) U):=rfl
noncomputable def Jj (o:UE (T5 D×ac))(g:FG)(b:FS)(O:Lo):UE pE:=o.bind λa=>dU g b a.1 O a.2
def qM {i g b}:ii i g b O U=Jj (i O U) g b O:=Eq.trans rfl rfl
def mX {xs g b}:Jj (some (xs,U)) g b O=dU g b xs O U:=Eq.trans rfl rfl
noncomputable def Cc (o:UE (R×ac)):UE (T5 D×ac):=o.bind λa=>match a.1 with|.v (.fl xs)=>some (xs,a.2)|.v (.tup xs)=>some (xs,a.2)|_=>none
theorem Af {f}:bH f O U=Cc (vh (f O U)):=rfl
def EQ {xs}:Cc (some (.v (.fl xs),U))=some (xs,U):=rfl
theorem EO {xs}:Cc (some (.v (.tup xs),U))=some (xs,U):=rfl
noncomputable def NC (o:UE (R×ac)):UE (T5 D×ac):=o.bind λa=>match a.1 with|.v (.int j)=>if -(2 ^ 62)<=j/\j<2 ^ 62 then some ((List.range j.toNat).map λi=>.int (i:Nat),a.2) else none|_=>none
def Py {f}:yA f O U=NC (f O U):=Eq.trans rfl rfl
def uF {j:Int}(h : -(2 ^ 62)<=j/\j<2 ^ 62):NC (some (.v (.int j),U))=some ((List.range j.toNat).map λi=>.int (i:Nat),U):=by
 show(if -(2 ^ 62)<=j/\j<2 ^ 62 then _ else _)=_
 rw[A7 h]
noncomputable def tW (o:UE (T5 D×ac))(ix:T5 Nat)(k:Nat)(g:FG)(c:FT)(f:FE)(O:Lo):UE (R×ac):=o.bind λa=>if a.1.length<=sizeLine then
 (bS g c f a.1 (d6 k ix O) a.2).bind λr=>some (.p r.2.length,r.2++[.lst r.1]) else none
theorem Ia {ix k i g c f}:dY ix k i g c f O U=tW (i O U) ix k g c f O:=Eq.trans rfl rfl
def wJ {xs:T5 D}{ix k g c f r}(hl:xs.length<=sizeLine)(h:bS g c f xs (d6 k ix O) U=some (r,U1)):tW (some (xs,U)) ix k g c f O=some (.p U1.length,U1++[.lst r]):=by simp[tW,h,hl]
def Ru:gf O U=some (true,U):=rfl
noncomputable def NB (o:UE (R×ac))(fl fh:FO)(O:Lo):UE (R×ac):=o.bind λa=>(fl O a.2).bind λl=>(fh O l.2).bind λh=>JC a.1 l.1 h.1 h.2
noncomputable def IW (x:R)(o:UE (UE Int×ac))(fh:FO)(O:Lo):UE (R×ac):=o.bind λl=>(fh O l.2).bind λh=>JC x l.1 h.1 h.2
noncomputable def IV (x:R)(l:UE Int)(o:UE (UE Int×ac)):UE (R×ac):=o.bind λh=>JC x l h.1 h.2
def Tu {fa fl fh}:Bv fa fl fh O U=NB (fa O U) fl fh O:=rfl
def RL {fl fh}:NB (some (x,U)) fl fh O=IW x (fl O U) fh O:=rfl
def RK {l fh}:IW x (some (l,U)) fh O=IV x l (fh O U):=rfl
def RJ {l h}:IV x l (some (h,U))=JC x l h U:=rfl
def RH {xs l h}:JC (.v (.tup xs)) l h U=some (.v (.tup (md xs l h)),U):=rfl
noncomputable def SU (o:UE (R×ac)):UE (UE Int×ac):=o.bind λa=>match a.1 with|.v (.int i)=>some (some i,a.2)|_=>none
def TD:fg O U=some (none,U):=rfl
def TC {f}:eN f O U=SU (f O U):=rfl
def RN {i}:SU (some (.v (.int i),U))=some (some i,U):=rfl
noncomputable def AF (o:UE (R×ac))(g:R->T5 R->ac->UE (R×ac))(ga:FA)(O:Lo):UE (R×ac):=o.bind λa=>if kD a.1 a.2=true then (ga O a.2).bind λb=>g a.1 b.1 b.2 else none
noncomputable def pP (x:R)(o:UE (T5 R×ac))(g:R->T5 R->ac->UE (R×ac)):UE (R×ac):=o.bind λb=>g x b.1 b.2
theorem PB {g fa ga}:Bx g fa ga O U=AF (fa O U) g ga O:=rfl
def MH {g ga n xs}(h:U[n]?=some (.lst xs)):AF (some (.p n,U)) g ga O=pP (.p n) (ga O U) g:=by simp[AF,kD,h,pP]
theorem MG {g xs}:pP x (some (xs,U)) g=g x xs U:=rfl
def MQ {n xs}(h:U[n]?=some (.lst xs))(hl:xs.length<sizeLine):lF (.p n) [.v d] U=some (.v .non,U.set n (.lst (xs++[d]))):=by simp[lF,h,hl]
variable {i j:Int}{b c:A8}{xs:T5 D}
def RG:oM (.v (.int i)) (.v (.int j)) U=some (.v (.int (i-j)),U):=rfl
def TN:L9 (.v (.int i)) (.v (.int j)) U=some (.v (.bl (decide (i<j))),U):=rfl
def TR:JY (.v (.int i)) (.v (.int j)) U=some (.v (.bl (decide (i<=j))),U):=rfl
def TX:Qk (.v (.int i)) (.v (.int j)) U=some (.v (.bl (decide (j<i))),U):=rfl
def qL (h:0<j):cE (.v (.int i)) (.v (.int j)) U=some (.v (.int (i%j)),U):=by simp[cE,yu,h]
def MO (h:0<j)(h2:j<1073741824):fV (.v (.int i)) (.v (.int j)) U=some (.v (.int (i / j)),U):=by simp[fV,yu,h,h2]
def jH (h : -(2 ^ 64)<i/\i<2 ^ 64):nG (.v (.int i)) (.v (.int j)) U=some (.v (.int (i*j)),U):=by
 show(if (decide (-(2 ^ 64)<i/\i<2 ^ 64) || decide (-(2 ^ 64)<j/\j<2 ^ 64))=true then _ else _)=_
 rw[A7 (by rw[Bool.or_eq_true];exact .inl (Bs h))]
def EN (h:0<=j/\j<=1000000/\i.natAbs<2 ^ 64):rN (.v (.int i)) (.v (.int j)) U=some (.v (.int (i ^ j.toNat)),U):=by simp[rN,yu,h]
def RP:uf (.v (.int i)) U=some (.v (.int (-i)),U):=rfl
theorem ME:gq true (.v (.bl b)) (.v (.bl c)) U=some (.v (.bl (!(b == c))),U):=rfl
def JGm:gF [.v (.tup xs)] U=some (.v (.int xs.length),U):=rfl
def JGn:gF [.v (.fl xs)] U=some (.v (.int xs.length),U):=rfl
def yD (h:m6 xs i=some d):aZ (.v (.tup xs)) (.v (.int i)) U=some (.v d,U):=by simp[aZ,dL,h]
def JGk {n}(h:U[n]?=some (.lst xs)):AE [.p n] U=some (.v (.tup xs),U):=by simp[AE,dL,h]
theorem uG {k:Nat}:bE k x O U=some (O.set k (some x),U):=rfl
def uX {Z:Type}{xs:T5 Z}{i:Int}{a:Z}(h0:0<=i)(h:xs[i.toNat]?=some a):m6 xs i=some a:=by unfold m6 FJ;have hl:=(C3.mp h).1;rw[A7 h0,A7 ∅];simpa using h
noncomputable def eX (o:UE pE):UE D:=o.bind fin
def MN:eX (some (.rt (.v d) U))=some d:=rfl
end
theorem ja {n:Nat}(xs:Th):okDs n (xs.map D.int)=true:=by
 induction xs with
 |nil=>cases n <;> rfl
 |cons x xs ih=>cases n <;> simpa[okDs,d3] using ih
theorem nW (xs ys:Th):eqDs (xs.map D.int) (ys.map D.int)=decide (xs=ys):=by
 induction xs generalizing ys with
 |nil=>cases ys <;> simp[cz,e8,gG,gH]
 |cons x xs ih=>
  cases ys with
  |nil=>simp[cz,e8,gG,gH]
  |cons y ys=>simp[cz,e8,gG,gH,mZ,uI,yG,uH,ih ys];rfl
noncomputable def M9 (o:UE (Lo×ac))(b:FS):UE pE:=o.bind λa=>b a.1 a.2
theorem rX {O:Lo}{U:ac}{b:FS}:M9 (some (O,U)) b=b O U:=rfl
def zQ {g:FG}{b:FS}(I:Nat->Lo->ac->Prop){xs:T5 D}{O:Lo}{U:ac}(h0:I 0 O U)
  (hs:∀(i:Nat) x O U,xs[i]?=some x->I i O U->∃O' U',M9 (g (.v x) O U) b=some (.nx O' U')/\I (i+1) O' U') :
  ∃O' U',dU g b xs O U=some (.nx O' U')/\I xs.length O' U':=by
 have key:∀(n:Nat) (ys:T5 D) (i:Nat) O U,ys.length=n->xs.drop i=ys->i<=xs.length->I i O U->∃O' U',dU g b ys O U=some (.nx O' U')/\I xs.length O' U':=by
  intro n
  induction n with
  |zero=>
   intro ys i O U hn hd hi h;have:ys=[]:=zcW hn;subst this
   have:i=xs.length:=by
    have:=AQ List.length hd;simp at this;omega
   subst this;exact{O,U,rfl,h}
  |succ n ih=>
   intro ys i O U hn hd hi h
   cases ys with
   |nil=>simp at hn
   |cons y ys=>
    have An:i<xs.length:=by
     have:=AQ List.length hd;simp at this;omega
    have hc:=zbu An;rw[hd] at hc
    injection hc with h1 h2
    let⟨O',U',e0,h'⟩:=hs i y O U (by rw[h1];exact Bl An) h;let⟨⟨O1,U1⟩,e1,e2⟩:=AS.mp e0;let⟨O2,U2,e3,h3⟩:=ih ys (i+1) O' U' ‹hn› h2.symm An h';exact{O2,U2,by rwa[dU,e1,e2,BJ];exact e3,h3}
 exact key xs.length xs 0 O U rfl ∅ (Cy _) h0
theorem wV {g:FG}{c:FT}{f:FE}{U:ac}(B:Lo->Prop)(p:D->A8)(e:D->D):∀{xs:T5 D} {O:Lo},B O ->
  (∀x∈xs,∀O,B O->∃O1,g (.v x) O U=some (O1,U)/\B O1/\c O1 U=some (p x,U)/\(p x=true->f O1 U=some (.v (e x),U)))->bS g c f xs O U=some ((xs.filter p).map e,U)
 |[],_,_,_=>rfl
 |x::xs,O,hB,h=>by
  let⟨O1,e1,hB1,e2,e3⟩:=h x (BB) O hB;have ih:=wV B p e (xs:=xs) hB1 λy hy=>h y (BF _ hy);rwa[bS,e1,BJ,e2]
  cases hp:p x with
  |true=>simp[e3 hp,ih,hp]
  |false=>simp[ih,hp]
section
variable {O:Lo}{U:ac}{d:D}
noncomputable def zf (o:UE (T5 R×ac))(f:MF)(n:Nat):UE (R×ac):=o.bind λa=>(iY a.1 a.2).bind λds=>if ds.length=n then (f ds).bind λd=>if cY d=true then some (.v d,a.2) else none else none
def EV {f n fa}:ee f n fa O U=zf (fa O U) f n:=rfl
end
section
variable {O:Lo}{U:ac}{x y:R}{d e:D}{n:Nat}{xs ys:T5 D}{i j:Int}{b c:A8}
noncomputable def QN (o:UE aw)(n:Nat)(g:R->T5 R->ac->UE (R×ac))(ga:FA)(O:Lo)(U:ac):UE (R×ac):=match o with|some (.lst _)=>pP (.p n) (ga O U) g|some (.fz _)=>pP (.p n) (ga O U) g|_=>none
theorem RQ {g ga}:AF (some (.p n,U)) g ga O=QN U[n]? n g ga O U:=by
 cases h:U[n]? with
 |none=>simp[AF,kD,QN,h]
 |some c=>cases c <;> simp[AF,kD,QN,pP,h]
def RS {g ga}:QN (some (.lst xs)) n g ga O U=pP (.p n) (ga O U) g:=rfl
noncomputable def PQ (o:UE aw)(n:Nat)(d:D)(U:ac):UE (R×ac):=match o with|some (.lst xs)=>if xs.length<sizeLine then some (.v .non,U.set n (.lst (xs++[d]))) else none|_=>none
def QH:lF (.p n) [.v d] U=PQ U[n]? n d U:=rfl
def QI:PQ (some (.lst xs)) n d U=if xs.length<sizeLine then some (.v .non,U.set n (.lst (xs++[d]))) else none:=rfl
noncomputable def Sq (o:UE aw):UE (T5 D):=match o with|some (.lst xs)=>some xs|some (.fz xs)=>some xs|_=>none
def RY:dL (.v (.tup xs)) U=some xs:=rfl
def R0:dL (.v (.fl xs)) U=some xs:=rfl
def RZ:dL (.p n) U=Sq U[n]?:=rfl
def MK:Sq (some (.lst xs))=some xs:=rfl
noncomputable def NH (o:UE (T5 D))(i:Int)(U:ac):UE (R×ac):=o.bind λxs=>(m6 xs i).bind λd=>some (.v d,U)
noncomputable def Ji (o:UE D)(U:ac):UE (R×ac):=o.bind λd=>some (.v d,U)
def TV:aZ x (.v (.int i)) U=NH (dL x U) i U:=rfl
def RX:NH (some xs) i U=Ji (m6 xs i) U:=rfl
def RW:Ji (some d) U=some (.v d,U):=rfl
def Sf {a:D}{l:T5 D}:m6 (a::l) 0=some a:=uX ∅ rfl
def Se {a b:D}{l:T5 D}:m6 (a::b::l) 1=some b:=uX ∅ rfl
def Sd {a b c:D}{l:T5 D}:m6 (a::b::c::l) 2=some c:=uX ∅ rfl
noncomputable def Jh (o:UE (T5 D))(U:ac):UE (R×ac):=o.bind λxs=>some (.v (.int xs.length),U)
def RV:gF [x] U=Jh (dL x U) U:=rfl
def Qz:Jh (some xs) U=some (.v (.int xs.length),U):=rfl
noncomputable def NG (o:UE (T5 D))(U:ac):UE (R×ac):=o.bind λxs=>some (.p U.length,U++[.lst xs])
def TQ:qu [x] U=NG (dL x U) U:=rfl
def RU:NG (some xs) U=some (.p U.length,U++[.lst xs]):=rfl
noncomputable def T6 (o:UE aw):UE D:=match o with|some (.lst xs)=>some (.fl xs)|some (.fz xs)=>some (.fl xs)|_=>none
def Rv:oa (.v d) U=some d:=rfl
def Rw:oa (.p n) U=T6 U[n]?:=rfl
def Rx:T6 (some (.lst xs))=some (.fl xs):=rfl
noncomputable def Kq (o p:UE D)(neg:A8)(U:ac):UE (R×ac):=o.bind λa=>p.bind λb=>if (d3 60 a&&d3 60 b)=true then some (.v (.bl (if neg then !jI a b else jI a b)),U) else none
def Sa:gq b x y U=Kq (oa x U) (oa y U) b U:=rfl
def Sb:Kq (some d) (some e) false U=if (d3 60 d&&d3 60 e)=true then some (.v (.bl (jI d e)),U) else none:=rfl
def R9:Kq (some d) (some e) true U=if (d3 60 d&&d3 60 e)=true then some (.v (.bl (!jI d e)),U) else none:=rfl
def L6:d3 n (.int i)=true:=by cases n <;> rfl
def OV:d3 n (.bl b)=true:=by cases n <;> rfl
def Sn:jI (.int i) (.int j)=(i == j):=rfl
noncomputable def Ik (o:UE aw):UE D:=match o with|some (.lst xs)=>some (.fl xs)|some (.fz xs)=>some (.fl xs)|some (.dct A6)=>some (.fd (A6.map (·.1)) (A6.map (·.2)))|some (.fzd A6)=>some (.fd (A6.map (·.1)) (A6.map (·.2)))|_=>none
theorem PC:eX (some (.rt (.p n) U))=Ik U[n]?:=by
 cases h:U[n]? with
 |none=>simp[eX,fin,FM,Ik,h]
 |some c=>cases c <;> simp[eX,fin,FM,Ik,h]
def QC:Ik (some (.lst xs))=some (.fl xs):=rfl
def QB:eX (some (.nx O U))=some .non:=rfl
noncomputable def QO (o:UE aw)(n:Nat)(U:ac):UE (R×ac):=match o with|some (.lst xs)=>some (.v (.fl xs),U.set n (.fz xs))|some (.fz xs)=>some (.v (.fl xs),U)|some (.dct A6)=>some (.v (.fd (A6.map (·.1)) (A6.map (·.2))),U.set n (.fzd A6))|some (.fzd A6)=>some (.v (.fd (A6.map (·.1)) (A6.map (·.2))),U)|_=>none
theorem R6:vh (some (.p n,U))=QO U[n]? n U:=by
 cases h:U[n]? with
 |none=>simp[vh,FM,QO,h]
 |some c=>cases c <;> simp[vh,FM,QO,h]
def R7:QO (some (.lst xs)) n U=some (.v (.fl xs),U.set n (.fz xs)):=rfl
noncomputable def NP (o:UE D)(xs:T5 R)(U:ac):UE (T5 D):=o.bind λd=>(iY xs U).bind λds=>some (d::ds)
noncomputable def Jm (d:D)(o:UE (T5 D)):UE (T5 D):=o.bind λds=>some (d::ds)
def RD:iY [] U=some []:=rfl
def Tq {rs}:iY (x::rs) U=NP (QP x U) rs U:=rfl
def RC {rs}:NP (some d) rs U=Jm d (iY rs U):=rfl
def RB {ds}:Jm d (some ds)=some (d::ds):=rfl
noncomputable def T7 (o:UE aw):UE D:=match o with|some (.lst xs)=>some (.fl xs)|some (.fz xs)=>some (.fl xs)|some (.dct A6)=>some (.fd (A6.map (·.1)) (A6.map (·.2)))|some (.fzd A6)=>some (.fd (A6.map (·.1)) (A6.map (·.2)))|_=>none
def Sg:QP (.v d) U=some d:=rfl
def Si:QP (.p n) U=T7 U[n]?:=rfl
def Sj:T7 (some (.lst xs))=some (.fl xs):=rfl
noncomputable def Nw (o:UE (T5 D))(f:MF)(n:Nat)(U:ac):UE (R×ac):=o.bind λds=>if ds.length=n then (f ds).bind λd=>some (.v d,U) else none
noncomputable def Nx (o:UE D)(U:ac):UE (R×ac):=o.bind λd=>some (.v d,U)
def T4 {rs f n}:nr (some (rs,U)) f n=Nw (vals rs) f n U:=rfl
def T3 {f:MF}{ds:T5 D}:Nw (some ds) f n U=if ds.length=n then Nx (f ds) U else none:=rfl
def TZ:Nx (some d) U=some (.v d,U):=rfl
noncomputable def Ko (d:D)(o:UE (T5 D)):UE (T5 D):=o.bind λds=>some (d::ds)
def RA:vals []=some []:=rfl
def Rz {rs}:vals (.v d::rs)=Ko d (vals rs):=by unfold Ko;cases h:vals rs <;> simp[vals,h]
def Ry {ds}:Ko d (some ds)=some (d::ds):=rfl
noncomputable def IM (o:UE (T5 D))(f:MF)(n:Nat)(U:ac):UE (R×ac):=o.bind λds=>if ds.length=n then (f ds).bind λd=>if cY d=true then some (.v d,U) else none else none
noncomputable def IP (o:UE D)(U:ac):UE (R×ac):=o.bind λd=>if cY d=true then some (.v d,U) else none
def Tz {rs f n}:zf (some (rs,U)) f n=IM (iY rs U) f n U:=rfl
def Tw {f:MF}{ds:T5 D}:IM (some ds) f n U=if ds.length=n then IP (f ds) U else none:=rfl
def Tv:IP (some d) U=if cY d=true then some (.v d,U) else none:=rfl
noncomputable def NA (o:UE (T5 D))(U:ac):UE (R×ac):=o.bind λds=>if ds.length<=sizeLine then some (.v (.tup ds),U) else none
def Tt {rs}:za (some (rs,U))=NA (vals rs) U:=rfl
def RF {ds}:NA (some ds) U=if ds.length<=sizeLine then some (.v (.tup ds),U) else none:=rfl
noncomputable def NF (o:UE (T5 D))(U:ac):UE (R×ac):=o.bind λds=>if ds.length<=sizeLine then some (.p U.length,U++[.lst ds]) else none
def TM {rs}:zb (some (rs,U))=NF (vals rs) U:=rfl
def RT {ds}:NF (some ds) U=if ds.length<=sizeLine then some (.p U.length,U++[.lst ds]) else none:=rfl
noncomputable def Jl (o:UE (R×ac))(g:FG)(O:Lo):UE pE:=o.bind λa=>(g a.1 O a.2).bind λb=>some (.nx b.1 b.2)
noncomputable def pQ (o:UE (Lo×ac)):UE pE:=o.bind λb=>some (.nx b.1 b.2)
def MP {f g}:oP f g O U=Jl (f O U) g O:=rfl
def Ib {g}:Jl (some (x,U)) g O=pQ (g x O U):=rfl
def QG:pQ (some (O,U))=some (.nx O U):=rfl
def R3 {g}:qE n g (.v (.tup xs)) O U=if xs.length=n then g (xs.map .v) O U else none:=rfl
def R5:dI [] O U=some (O,U):=rfl
noncomputable def NJ (o:UE (Lo×ac))(r:J9)(ds:T5 R):UE (Lo×ac):=o.bind λa=>r ds a.1 a.2
def TY {g r ds}:aK g r (x::ds) O U=NJ (g x O U) r ds:=rfl
def R4 {r ds}:NJ (some (O,U)) r ds=r ds O U:=rfl
def RI {l h}:JC (.v (.fl xs)) l h U=some (.p U.length,U++[.lst (md xs l h)]):=rfl
def PK:dO (.v (.int i)) (.v (.int j)) U=some (.v (.int (i+j)),U):=rfl
theorem PJ:dO (.v (.tup xs)) (.v (.tup ys)) U=if xs.length+ys.length<=sizeLine then some (.v (.tup (xs++ys)),U) else none:=by
 cases xs with
 |nil=>simp[dO]
 |cons x xs=>simp[dO,Ir]
noncomputable def IR (o:UE (R×ac))(fi:FE)(dv:D)(O:Lo):UE (Lo×ac):=o.bind λo=>(fi O o.2).bind λi=>(xS o.1 i.1 dv i.2).bind λU'=>some (O,U')
noncomputable def Cb (x:R)(o:UE (R×ac))(dv:D)(O:Lo):UE (Lo×ac):=o.bind λi=>(xS x i.1 dv i.2).bind λU'=>some (O,U')
noncomputable def Ca (o:UE ac)(O:Lo):UE (Lo×ac):=o.bind λU'=>some (O,U')
def Qu {fo fi}:rV fo fi (.v d) O U=IR (fo O U) fi d O:=rfl
def Qt {fi}:IR (some (x,U)) fi d O=Cb x (fi O U) d O:=rfl
def Qs:Cb x (some (y,U)) d O=Ca (xS x y d U) O:=rfl
def Qr:Ca (some U) O=some (O,U):=rfl
noncomputable def PP (o:UE aw)(n:Nat)(i:R)(dv:D)(U:ac):UE ac:=match o with
  |some (.lst xs)=>(match i with|.v (.int k)=>(FJ xs.length k).bind λj=>some (U.set n (.lst (xs.set j dv)))|_=>none)
  |some (.dct A6)=>if A6.length<sizeLine then (lH i).bind λk=>some (U.set n (.dct (ir A6 k dv))) else none
  |_=>none
def Qw:xS (.p n) x d U=PP U[n]? n x d U:=rfl
noncomputable def NM (o:UE (T5 D×ac)):UE (R×ac):=o.bind λr=>some (.p r.2.length,r.2++[.lst r.1])
def PH {ix k g c f}:tW (some (xs,U)) ix k g c f O=if xs.length<=sizeLine then NM (bS g c f xs (d6 k ix O) U) else none:=Eq.trans rfl rfl
def Sc {r:T5 D}:NM (some (r,U))=some (.p U.length,U++[.lst r]):=rfl
def QF:d6 1 [] O=[none]:=rfl
def QE {i:Nat}:d6 1 [i] O=[none,(O[i]?).join]:=rfl
def QD {i j:Nat}:d6 1 [i,j] O=[none,(O[i]?).join,(O[j]?).join]:=rfl
def TU {x:UE R}:(some x).join=x:=rfl
noncomputable def Jo (o:UE (T5 D))(any:A8)(U:ac):UE (R×ac):=o.bind λxs=>(mh xs).bind λbs=>some (.v (.bl (if any then bs.any id else bs.all id)),U)
noncomputable def Cj (o:UE (T5 A8))(any:A8)(U:ac):UE (R×ac):=o.bind λbs=>some (.v (.bl (if any then bs.any id else bs.all id)),U)
def Sm:Fv b [x] U=Jo (jW x U) b U:=rfl
def QL:Jo (some xs) b U=Cj (mh xs) b U:=rfl
def QK {bs:T5 A8}:Cj (some bs) false U=some (.v (.bl (bs.all id)),U):=rfl
def HU:jW (.p n) U=Sq U[n]?:=rfl
noncomputable def zg (o:UE (T5 R×ac))(f:MC)(n:Nat):UE (R×ac):=o.bind λa=>(iY a.1 a.2).bind λds=>if ds.length=n then (f ds).bind λc=>if sU c=true then some (.p a.2.length,a.2++[c]) else none else none
noncomputable def IN (o:UE (T5 D))(f:MC)(n:Nat)(U:ac):UE (R×ac):=o.bind λds=>if ds.length=n then (f ds).bind λc=>if sU c=true then some (.p U.length,U++[c]) else none else none
noncomputable def IQ (o:UE aw)(U:ac):UE (R×ac):=o.bind λc=>if sU c=true then some (.p U.length,U++[c]) else none
def EW {f:MC}{fa}:gc f n fa O U=zg (fa O U) f n:=rfl
def TL {f:MC}{rs}:zg (some (rs,U)) f n=IN (iY rs U) f n U:=rfl
def TK {f:MC}{ds:T5 D}:IN (some ds) f n U=if ds.length=n then IQ (f ds) U else none:=rfl
def TJ {k:aw}:IQ (some k) U=if sU k=true then some (.p U.length,U++[k]) else none:=rfl
def R8:sU (.lst xs)=flatDs xs:=rfl
noncomputable def qI (o:UE pE):UE aw:=o.bind EE
noncomputable def Ap (o:UE aw):UE aw:=match o with|some (.lst xs)=>some (.lst xs)|some (.dct A6)=>some (.dct A6)|_=>none
theorem PD:qI (some (.rt (.p n) U))=Ap U[n]?:=by
 cases h:U[n]? with
 |none=>simp[qI,EE,Ap,h]
 |some c=>cases c <;> simp[qI,EE,Ap,h]
def PF:Ap (some (.lst xs))=some (.lst xs):=rfl
theorem QA {ns:Th}:gm (ns.map D.int)=some ns:=by
 induction ns with
 |nil=>rfl
 |cons n ns ih=>simp[gm,ih]
noncomputable def Cd (o:UE aI)(A6:T5 (aI×D))(n:Nat)(d:D)(U:ac):UE ac:=o.bind λk=>some (U.set n (.dct (ir A6 k d)))
def Qx {A6}:PP (some (.dct A6)) n x d U=if A6.length<sizeLine then Cd (lH x) A6 n d U else none:=rfl
def Pz {A6 k}:Cd (some k) A6 n d U=some (U.set n (.dct (ir A6 k d))):=rfl
def N5:2<=sizeLine:=by decide
def UD:0<=sizeLine:=by decide
def UC:3<=sizeLine:=by decide
def j9 {n:Nat}(h:n<4000):n<sizeLine:=C1 h ∅
def cI {n:Nat}(h:n<4000):n<=sizeLine:=GA (j9 h)
end
theorem uh {Z:Type}{x y:Z}{l:T5 Z}:(x::l).set 0 y=y::l:=rfl
theorem ug {Z:Type}{x y:Z}{l:T5 Z}{n:Nat}:(x::l).set (n+1) y=x::l.set n y:=rfl
def Qg {Z:Type}{x:Z}{l:T5 Z}:(x::l)[0]?=some x:=rfl
def Qf {Z:Type}{x:Z}{l:T5 Z}{n:Nat}:(x::l)[n+1]?=l[n]?:=rfl
def Rf {Z:Type}{x:Z}{l:T5 Z}:(x::l).length=l.length+1:=rfl
def Qe {Z:Type}:([]:T5 Z).length=0:=rfl
def Rh {Z:Type}{x:Z}{l r:T5 Z}:(x::l)++r=x::(l++r):=rfl
def Qh {Z:Type}{r:T5 Z} : []++r=r:=rfl
def Re {Z β:Type}{f:Z->β}{x:Z}{l:T5 Z}:(x::l).map f=f x::l.map f:=rfl
def Qd {Z β:Type}{f:Z->β}:([]:T5 Z).map f=[]:=rfl
def S9 {n:Nat}:0+n=n:=zcn n
def Qc:(!true)=false:=rfl
def Rg {Z:Type}{a b:Z}:(if false=true then a else b)=b:=rfl
section
variable {g:FG}{b:FS}{O:Lo}{U:ac}
noncomputable def Kp (o:UE pE)(g:FG)(b:FS)(xs:T5 D):UE pE:=o.bind λo=>match o with
  |.nx O' U'=>dU g b xs O' U'
  |.ct O' U'=>dU g b xs O' U'
  |.bk O' U'=>some (.nx O' U')
  |.rt d U'=>some (.rt d U')
def lm {x:D}{xs:T5 D}:dU g b (x::xs) O U=Kp (M9 (g (.v x) O U) b) g b xs:=by
 show(g (.v x) O U).bind _=_
 cases e:g (.v x) O U <;> rfl
def zP {xs}:Kp (some (.nx O U)) g b xs=dU g b xs O U:=rfl
def To {xs d}:Kp (some (.rt d U)) g b xs=some (.rt d U):=rfl
theorem eR {Z Y:Type}(e:Z->D)(S:Y->Lo×ac)(P:Y->T5 Z->Prop):∀(as:T5 Z) (s:Y),P s as ->
  (∀s a r,P s (a::r)->∃s',M9 (g (.v (e a)) (S s).1 (S s).2) b=some (.nx (S s').1 (S s').2)/\P s' r) ->
  ∃s',dU g b (as.map e) (S s).1 (S s).2=some (.nx (S s').1 (S s').2)/\P s' []
 |[],s,h,_=>{s,rfl,h}
 |a::as,s,h,k=>by
  let⟨s1,h1,h2⟩:=k s a as h;let⟨s2,h3,h4⟩:=eR e S P as s1 h2 k;exact{s2,by rw[AZ,lm,h1,zP,h3],h4}
def qr (n:Nat)(I:Nat->Lo->ac->Prop)(h0:I 0 O U)
  (hs:∀i<n,∀O U,I i O U->∃O' U',M9 (g (.v (.int (i:Int))) O U) b=some (.nx O' U')/\I (i+1) O' U') :
  ∃O' U',dU g b ((List.range n).map λi=>.int ((i:Nat):Int)) O U=some (.nx O' U')/\I n O' U':=by
 let⟨O',U',e,h⟩:=zQ (g:=g) (b:=b) I (xs:=(List.range n).map λi=>D.int ((i:Nat):Int)) h0 λi x O U hx hI=>by
  rw[CG] at hx;let⟨k,hk,rfl⟩:=DY.mp hx;let⟨hl,hk⟩:=C3.mp hk;rw[zc3] at hk;subst hk;exact hs i ‹hl› O U hI
 exact{O',U',e,by simpa using h}
end
theorem jJ {Z:Type}{f:FE}{U:ac}{rest:Lo}(e out:Z->D):∀(xs:T5 Z) (x0:UE R),(∀a∈xs,f (some (.v (e a))::rest) U=some (.v (out a),U))->bS (bE 0) gf f (xs.map e) (x0::rest) U=some (xs.map out,U)
 |[],_,_=>rfl
 |a::xs,x0,h=>by have h1:=h a BB;have ih:=jJ e out xs (some (.v (e a))) λb hb=>h b (BF _ hb);rwa[AZ,bS,bE,zcf,BJ,gf,if_true,h1,ih]
section
variable {O:Lo}{U:ac}{x y:R}{d:D}{n:Nat}{i:Int}
noncomputable def Ux (o:UE aw):UE (T5 (aI×R)):=match o with|some (.dct A6)=>some (A6.map λp=>(p.1,R.v p.2))|some (.fzd A6)=>some (A6.map λp=>(p.1,R.v p.2))|some (.dr A6)=>some A6|some (.fzr A6)=>some A6|_=>none
noncomputable def NL (o:UE (R×ac))(fk:FE)(O:Lo):UE (R×ac):=o.bind λo=>(fk O o.2).bind λk=>(ur o.1 k.2).bind λA6=>(lH k.1).bind λkey=>(mB A6 key).bind λr=>some (r,k.2)
noncomputable def zd (x:R)(o:UE (R×ac)):UE (R×ac):=o.bind λk=>(ur x k.2).bind λA6=>(lH k.1).bind λkey=>(mB A6 key).bind λr=>some (r,k.2)
noncomputable def NK (o:UE (T5 (aI×R)))(y:R)(U:ac):UE (R×ac):=o.bind λA6=>(lH y).bind λkey=>(mB A6 key).bind λr=>some (r,U)
noncomputable def Jk (o:UE R)(U:ac):UE (R×ac):=o.bind λr=>some (r,U)
def Nm {fo fk}:wH fo fk O U=NL (fo O U) fk O:=rfl
def IJ {fk}:NL (some (x,U)) fk O=zd x (fk O U):=rfl
def II:zd x (some (y,U))=NK (ur x U) y U:=rfl
def SQ:Jk (some x) U=some (x,U):=rfl
def Nl:ur (.p n) U=Ux U[n]?:=rfl
def SR:HN O U=some (.p U.length,U++[.dtr []]):=rfl
def SN:rT true .non (.v .non) U=some (.v (.bl false),U):=rfl
def SO:rT true .non (.v (.int i)) U=some (.v (.bl true),U):=rfl
noncomputable def QM (o:UE aw):UE (T5 (Th×R)):=match o with|some (.dtr A6)=>some A6|_=>none
noncomputable def B7 (o:UE (T5 (Th×R)))(k:Th)(U:ac):UE (R×ac):=o.bind λA6=>(jT A6 k).bind λd=>some (d,U)
noncomputable def B8 (x:R)(o:UE (R×ac)):UE (R×ac):=o.bind λk=>match x,k.1 with
 |.p n,.v (.key ks)=>B7 (QM k.2[n]?) ks k.2
 |_,_=>none
noncomputable def Nz (o:UE (R×ac))(fk:FE)(O:Lo):UE (R×ac):=o.bind λo=>B8 o.1 (fk O o.2)
def Uf {fo fk}:EH fo fk O U=Nz (fo O U) fk O:=rfl
def SM {fk}:Nz (some (x,U)) fk O=B8 x (fk O U):=rfl
def SL {k}:B8 (.p n) (some (.v (.key k),U))=B7 (QM U[n]?) k U:=rfl
def QU {A6}:QM (some (.dtr A6))=some A6:=rfl
def SK {A6 k}:B7 (some A6) k U=Jk (jT A6 k) U:=rfl
def Nk:so [.p n] U=(QM U[n]?).bind λA6=>if A6.length<64/\(A6.length<2\/∀p∈A6,p.1≠[]) then some (.p U.length,U++[.lst ((bj (A6.map (·.1))).map D.key)]) else none:=rfl
end
end HW
namespace LW
open HW
abbrev bh (i:Int):UE R:=some (.v (.int i))
abbrev bF (n:Nat):UE R:=some (.p n)
end LW
local macro_rules
 | `(tactic| push_cast [$xs,*] $[$loc]?) => do
  let ids : Array (Lean.TSyntax `term) := ("N5 UD UC uh ug Qg Qf Rf Qe Rh Qh Re Qd S9 Qc Rg zP To jU lI MJ oz kI l8 Tr RE jG sW nU MR EY yC Qo Qn Qq Px EK Qp uE Pw Sk QJ J4 RM RO Qy TW R1 EJ MI Ag ET pA HR l7 iB Qv H9 EU qK HQ kJ yE ML qM mX Af EQ EO Py Ru PB MG RG TN TR TX RP uG MN rX RQ RS QH QI RY R0 RZ MK TV RX RW Sf Se Sd RV Qz TQ RU Rv Rw Rx Sa Sb R9 L6 OV Sn PC QC R6 R7 RD Tq RC RB Sg Si Sj T4 T3 TZ RA Rz Ry Tt RF TM RT MP Ib QG R3 R5 TY R4 PK PJ HU dE eZ eY nS mW Ia Tu RL RK RJ RH TD TC RN EV QB Tz Tw Tv RI Qu Qt Qs Qr Qw PH Sc QF QE QD TU Sm QL QK EW TL TK TJ R8 PD PF QA Qx Pz Nm IJ II SQ Nl SR SN SO Uf SM SL QU SK".splitOn " ").toArray.map fun n => ⟨(Lean.mkIdent (String.toName ("HW." ++ n))).raw⟩
  `(tactic| simp -implicitDefEqProofs only [$xs,*, $[$ids:term],*, Nat.reduceAdd, if_true, Bool.and_self] $[$loc]?)
namespace LW
open PyProof.Rows L2 HW
noncomputable def j2 (i:Nat):AU:=PySem.Challenge.pw_heldwhen_k33_whole_registers.main.body.getD i (.Pass {0,0,0,0})
noncomputable section
abbrev gz:AU:=L2.mQ (j2 36) 0
def t9:az ["self","shapes"] ["self","shapes"] (ai gz):=by ac_rfl
abbrev jp:AU:=L2.mQ (j2 36) 1
def gD:az ["self","telling","name","keys","turn"] ["self","telling"] (ai jp):=by ac_rfl
abbrev jo:AU:=L2.mQ (j2 36) 2
def t8:az ["self","name","row","low","high"] ["self","name","row","low","high"] (ai jo):=by ac_rfl
abbrev gS:AU:=L2.mQ (j2 36) 3
def p5:az ["self","name","key","low","high"] ["self","name","key","low","high"] (ai gS):=by ac_rfl
abbrev iK:AU:=L2.mQ (j2 36) 7
def rJ:az ["self","name"] ["self","name"] (ai iK):=by ac_rfl
abbrev j3:AU:=j2 9
def vB:az ["word","one","other"] ["word","one","other"] (ai j3):=by ac_rfl
abbrev iI:AU:=j2 13
def rG:az ["low","high"] ["low","high"] (ai iI):=by ac_rfl
abbrev j8:AU:=j2 14
def cg:az ["one","other","word","in_one","in_other","first","last","one_borders","other_borders","edges","edge","here"] ["one","other","word"] (ai j8):=by ac_rfl
abbrev jn:AU:=j2 24
def t7:az ["plots"] ["plots"] (ai jn):=by ac_rfl
abbrev fP:AU:=j2 25
def fQ:az ["pairs","plots","row","plot","entries"] ["pairs"] (ai fP):=by ac_rfl
abbrev j4:AU:=j2 27
def og:az ["shapes","name","shape"] ["shapes","name"] (ai j4):=by ac_rfl
abbrev gR:AU:=j2 28
def ki:az ["numbers","width","many"] ["numbers","width"] (ai gR):=by ac_rfl
abbrev fu:AU:=j2 29
def nB:az ["low","high"] ["low","high"] (ai fu):=by ac_rfl
abbrev lR:AU:=j2 30
def xP:az ["telling"] ["telling"] (ai lR):=by ac_rfl
abbrev fq:AU:=j2 31
def i6:az ["shapes","telling","shape"] ["shapes","telling"] (ai fq):=by ac_rfl
abbrev iJ:AU:=j2 32
def rH:az ["plot"] ["plot"] (ai iJ):=by ac_rfl
abbrev lQ:AU:=j2 33
def xO:az ["plot","turn","reach"] ["plot","turn","reach"] (ai lQ):=by ac_rfl
abbrev lP:AU:=j2 34
def dk:az ["table","keys","telling","turn","said","days","plots","pairs","row","plot","word"] ["table","keys","telling","turn"] (ai lP):=by ac_rfl
abbrev j7:AU:=j2 38
def vC:az ["script","k"] ["script","k"] (ai j7):=by ac_rfl
abbrev j5:AU:=j2 39
def kh:az ["cell","k","number"] ["cell","k"] (ai j5):=by ac_rfl
abbrev fI:AU:=j2 40
def bN:az ["cell","number","word","place","shapes","k","width","name"] ["cell"] (ai fI):=by ac_rfl
abbrev eI:AU:=j2 41
def ba:az ["cell","shapes","scale","number","name","keys","width","menu","row","low","high"] ["cell","shapes","scale"] (ai eI):=by ac_rfl
abbrev jm:AU:=j2 42
def t6:az ["book","telling"] ["book","telling"] (ai jm):=by ac_rfl
abbrev im:AU:=j2 43
def ez:az ["cell","k","tellings","scale","number","turn","day","ends"] ["cell","k","tellings","scale"] (ai im):=by ac_rfl
abbrev nu:AU:=j2 44
def JAr:az ["telling","day"] ["telling","day"] (ai nu):=by ac_rfl
abbrev jl:AU:=j2 45
def gC:az ["tellings","name","keys","day","turn","state","telling","key"] ["tellings","name","keys","day","turn"] (ai jl):=by ac_rfl
abbrev j6:AU:=j2 46
def bU:az ["plot","day","turn","truth","edges","at","reach","edge"] ["plot","day","turn"] (ai j6):=by ac_rfl
abbrev ji:AU:=j2 47
def t5:az ["thing"] ["thing"] (ai ji):=by ac_rfl
abbrev jj:AU:=j2 48
def mF:az ["some","k"] ["some"] (ai jj):=by ac_rfl
abbrev fY:AU:=j2 49
def oO:az ["thing"] ["thing"] (ai fY):=by ac_rfl
abbrev eJ:AU:=j2 50
def eK:az ["thing","last","step"] ["thing"] (ai eJ):=by ac_rfl
abbrev cQ:AU:=j2 51
def fZ:az ["thing","width","entry","rows"] ["thing","width"] (ai cQ):=by ac_rfl
abbrev kW:AU:=j2 52
def JAs:az ["table","day","turn"] ["table","day","turn"] (ai kW):=by ac_rfl
abbrev jk:AU:=j2 53
def gB:az ["book","shape","tellings","cell","scale","day","turn","due"] ["book","shape","tellings","cell","scale"] (ai jk):=by ac_rfl
abbrev xH:AU:=j2 54
def jr:az ["script","shapes","scale","book","tellings","cell","shape"] ["script"] (ai xH):=by ac_rfl
abbrev kQ:FS:=(aE (mG "Book" "shape_list" (ae 0) (gp qu (ag (ae 1) am)))
  (aE (mG "Book" "tellings" (ae 0) (dX am))
  (mG "Book" "tables_now" (ae 0) (gp oA (ag (dY [] 1 (bH (ae 1)) (bE 0) gf (cP (ag (au aZ (ae 0) (fK (.int 0))) (ag (bJ (dX am)) am)))) am)))))
noncomputable def cF:MW:=oQ 2 (kQ)
abbrev jL:FS:=(aE (fR (fB (au (gq false) (ae 0) (fK (.str "both"))))
  (bq (yB (ae 1) (ae 2)))
  aQ)
  (aE (fR (fB (au (gq false) (ae 0) (fK (.str "either"))))
  (bq (Pv (ae 1) (ae 2)))
  aQ)
  (aE (fR (fB (au (gq false) (ae 0) (fK (.str "less"))))
  (bq (yB (ae 1) (oX (ae 2))))
  aQ)
  (aE (fR (fB (au (gq false) (ae 0) (fK (.str "just"))))
  (bq (au (gq true) (ae 1) (ae 2)))
  aQ)
  lS))))
noncomputable def bG:MF:=eM 3 (jL)
abbrev jM:FS:=(aE (fR (ik (fB (jZ (rT false .non) (ae 0))) (fB (jZ (rT false .non) (ae 1))))
  (bq (fK (.tup [(.bl true),(.tup [])])))
  aQ)
  (aE (fR (fB (jZ (rT false .non) (ae 0)))
  (bq (cP (ag (fK (.bl true)) (ag (cP (ag (ae 1) am)) am))))
  aQ)
  (aE (fR (fB (jZ (rT false .non) (ae 1)))
  (bq (cP (ag (fK (.bl false)) (ag (cP (ag (ae 0) am)) am))))
  aQ)
  (aE (fR (fB (au JY (ae 1) (ae 0)))
  (bq (fK (.tup [(.bl false),(.tup [])])))
  aQ)
  (bq (cP (ag (fK (.bl false)) (ag (cP (ag (ae 0) (ag (ae 1) am))) am))))))))
noncomputable def eQ:MF:=eM 2 (jM)
abbrev xf:FS:=(aE (fR (fB (au (gq false) (gp gF (ag (ae 0) am)) (fK (.int 1))))
  (bq (au aZ (ae 0) (fK (.int 0))))
  aQ)
  lS)
noncomputable def dw:MF:=eM 1 (xf)
abbrev eT:FS:=(fR (fB (au (gq false) (au aZ (ae 2) (fK (.int 0))) (ae 1)))
  (bq (ae 2))
  aQ)
abbrev mj:FS:=(aE (ii (bH (ae 0)) (bE 2)
  eT)
  lS)
noncomputable def bQ:MF:=eM 3 (mj)
abbrev iU:FS:=(aE (aV 2 (gp gF (ag (ae 0) am)))
  (fR (fB (au (gq true) (ae 2) (ae 1)))
  lS
  aQ))
noncomputable def dQ:MF:=eM 3 (iU)
abbrev gg:FS:=(fR (ik (fB (jZ (rT true .non) (ae 0))) (ik (fB (jZ (rT true .non) (ae 1))) (fB (au JY (ae 1) (ae 0)))))
  lS
  aQ)
noncomputable def cW:MF:=eM 2 (gg)
abbrev gQ:FS:=(bq (au (gq false) (au aZ (ae 0) (fK (.int 0))) (fK (.str "tell"))))
noncomputable def bO:MF:=eM 1 (gQ)
abbrev jP:FS:=(bq (J3 (dM (au aZ (ae 0) (fK (.int 1)))) (au aZ (au aZ (au aZ (ae 0) (fK (.int 1))) (jZ uf (fK (.int 1)))) (fK (.int 1))) (au aZ (ae 0) (fK (.int 0)))))
noncomputable def cM:MF:=eM 1 (jP)
abbrev jO:FS:=(aE (fR (fB (au L9 (ae 1) (gp gF (ag (ae 0) am))))
  (bq (au aZ (ae 0) (ae 1)))
  aQ)
  (bq (fK (.int 0))))
noncomputable def cL:MF:=eM 2 (jO)
abbrev mn:FS:=(aE (aV 2 (au cE (au nG (au dO (au cE (ae 0) (fK (.int 2147483629))) (fK (.int 1))) (fK (.int 1103515245))) (fK (.int 2147483629))))
  (aE (aV 2 (au cE (au dO (au dO (au nG (ae 2) (ae 2)) (au nG (ae 1) (fK (.int 69621)))) (fK (.int 12345))) (fK (.int 2147483587))))
  (bq (au cE (au nG (ae 2) (ae 2)) (fK (.int 2147483629))))))
noncomputable def aS:MF:=eM 3 (mn)
abbrev hZ:FS:=(aE (fR (ik (fB (jZ (rT true .non) (au aZ (ae 0) (fK (.int 3))))) (fB (au L9 (ae 1) (au aZ (ae 0) (fK (.int 3))))))
  (bq (fK (.bl false)))
  aQ)
  (bq (Pv (jZ (rT false .non) (au aZ (ae 0) (fK (.int 4)))) (au L9 (ae 1) (au aZ (ae 0) (fK (.int 4)))))))
noncomputable def jc:MF:=eM 2 (hZ)
abbrev eV:FS:=(fR (fB (au JY (ae 5) (ae 2)))
  (oP (ae 6) (qE 2 (aK (bE 3) (aK (bE 4) dI))))
  aQ)
abbrev eU:FS:=(fR (fB (au JY (ae 7) (ae 1)))
  (aV 3 (oX (ae 3)))
  aQ)
abbrev mo:FS:=(aE (oP (au aZ (ae 0) (fK (.int 0))) (qE 2 (aK (bE 3) (aK (bE 4) dI))))
  (aE (ii (bH (au aZ (ae 0) (fK (.int 1)))) (qE 2 (aK (bE 5) (aK (bE 6) dI)))
  eV)
  (aE (ii (bH (ae 4)) (bE 7)
  eU)
  (bq (ae 3)))))
noncomputable def d8:MF:=eM 8 (mo)
abbrev xc:FS:=(bq (yB (jZ (kC "int") (ae 0)) (oX (jZ (kC "bool") (ae 0)))))
noncomputable def dq:MF:=eM 1 (xc)
abbrev jQ:FS:=(aE (cS (ee bQ 2 (ag (hG "Book" "shape_list" (ae 0)) (ag (ae 1) am))))
  (bq (gp qu (ag (wH (hG "Book" "tables_now" (ae 0)) (ae 1)) am))))
noncomputable def bi:MW:=oQ 2 (jQ)
abbrev uW (bt:A8):FS:=(aE (aV 3 (au aZ (ae 0) (fK (.int 0))))
  (aE (aV 4 (au aZ (ae 1) (fK (.int 0))))
  (aE (aV 5 (aJ bG 3 (ag (bJ (ae 2)) (ag (bJ (ae 3)) (ag (bJ (ae 4)) am)))))
  (aE (aV 6 (ae 5))
  (aE (aV 7 (gp qN (ag (dY [] 1 (bH (au aZ (ae 0) (fK (.int 1)))) (bE 0) gf (cP (ag (ae 0) (ag (fK (.bl true)) am)))) am)))
  (aE (aV 8 (gp qN (ag (dY [] 1 (bH (au aZ (ae 1) (fK (.int 1)))) (bE 0) gf (cP (ag (ae 0) (ag (fK (.bl true)) am)))) am)))
  (aE (aV 9 (dX am))
  (aE (ii (bH (gp (kX bt) (ag (au (Nc bt) (gp (xL bt) (ag (au aZ (ae 0) (fK (.int 1))) am)) (gp (xL bt) (ag (au aZ (ae 1) (fK (.int 1))) am))) am))) (bE 10)
  (aE (fR (fB (au (Hw false) (ae 10) (ae 7)))
  (aV 3 (oX (ae 3)))
  aQ)
  (aE (fR (fB (au (Hw false) (ae 10) (ae 8)))
  (aV 4 (oX (ae 4)))
  aQ)
  (aE (aV 11 (aJ bG 3 (ag (bJ (ae 2)) (ag (bJ (ae 3)) (ag (bJ (ae 4)) am)))))
  (aE (fR (fB (au (gq true) (ae 11) (ae 6)))
  (cS (Bx lF (ae 9) (ag (ae 10) am)))
  aQ)
  (aV 6 (ae 11)))))))
  (bq (cP (ag (ae 5) (ag (gp AE (ag (ae 9) am)) am))))))))))))
noncomputable def lj (bt:A8):MF:=eM 12 (uW bt)
abbrev eS (bt:A8):FS:=(cS (Bx lF (qJ (ae 1) (ae 2) (dX am)) (ag (ae 3) am)))
abbrev mi (bt:A8):FS:=(aE (aV 1 HN)
  (aE (ii (bH (ae 0)) (qE 2 (aK (bE 2) (aK (bE 3) dI)))
  (eS bt))
  (aE (aV 4 (dY [1] 1 (bH (gp so (ag (ae 1) am))) (bE 0) gf (cP (ag (ae 0) (ag (aJ dw 1 (ag (bJ (EH (ae 1) (ae 0))) am)) am)))))
  (bq (dY [] 1 (bH (ae 4)) (bE 0) (fB (au (gq true) (au aZ (ae 0) (fK (.int 1))) (fK (.tup [(.tup [(.bl false),(.tup [])]),(.tup [])])))) (ae 0))))))
noncomputable def gZ (bt:A8):MC:=xQ 5 (mi bt)
abbrev d7:FS:=(aE (aV 2 (ee bQ 2 (ag (ae 0) (ag (au aZ (ae 1) (fK (.int 1))) am))))
  (aE (cS (aJ dQ 2 (ag (bJ (au aZ (ae 1) (fK (.int 2)))) (ag (bJ (J3 (dM (aJ bO 1 (ag (bJ (ae 1)) am))) (au aZ (ae 2) (fK (.int 2))) (au aZ (ae 2) (fK (.int 1))))) am))))
  (cS (aJ cW 2 (ag (bJ (au aZ (ae 1) (fK (.int 3)))) (ag (bJ (au aZ (ae 1) (fK (.int 4)))) am))))))
noncomputable def bv:MF:=eM 3 (d7)
abbrev lA:FS:=(aE (fR (fB (au (gq false) (ae 2) (aJ cM 1 (ag (bJ (ae 0)) am))))
  (bq (ae 0))
  aQ)
  (bq (cP (ag (au aZ (ae 0) (fK (.int 0))) (ag (au dO (au aZ (ae 0) (fK (.int 1))) (cP (ag (cP (ag (ae 1) (ag (ae 2) am))) am))) am)))))
noncomputable def jb:MF:=eM 3 (lA)
abbrev g7:FS:=(aE (aV 6 (au dO (fK (.int 1)) (au cE (au fV (aJ aS 2 (ag (bJ (ae 0)) (ag (bJ (au dO (fK (.int 80)) (ae 5))) am))) (fK (.int 3))) (au aZ (dX (ag (fK (.int 3)) (ag (fK (.int 3)) (ag (fK (.int 8)) am)))) (au cE (au fV (ae 1) (fK (.int 256))) (fK (.int 3)))))))
  (aE (aV 7 (au dO (au dO (EI (ae 2) fg (eN (ae 3))) (au JZ (fK (.str "kmz")) (ae 5))) (EI (ae 2) (eN (au dO (ae 3) (fK (.int 1)))) fg)))
  (cS (Bx lF (ae 4) (ag (cP (ag (ae 7) (ag (au cE (au fV (aJ aS 2 (ag (bJ (ae 0)) (ag (bJ (au dO (fK (.int 90)) (ae 5))) am))) (fK (.int 3))) (au dO (ae 6) (fK (.int 1)))) (ag (ae 6) am)))) am)))))
abbrev jN:FS:=(aE (aV 1 (aJ aS 2 (ag (bJ (ae 0)) (ag (fK (.int 1)) am))))
  (aE (aV 2 (au sJ (fK (.str "")) (dY [0] 1 (yA (au dO (fK (.int 1)) (au cE (ae 1) (fK (.int 8))))) (bE 0) gf (au JZ (fK (.str "abcdefghijklmnopqrstuvwxyz")) (au cE (au fV (aJ aS 2 (ag (bJ (ae 1)) (ag (bJ (au dO (fK (.int 70)) (ae 0))) am))) (fK (.int 3))) (fK (.int 26)))))))
  (aE (aV 3 (au cE (au fV (ae 1) (fK (.int 8))) (gp Ba (ag (ae 2) am))))
  (aE (aV 4 (dX am))
  (aE (ii (yA (au dO (fK (.int 1)) (au cE (au fV (ae 1) (fK (.int 64))) (fK (.int 3))))) (bE 5)
  g7)
  (bq (ae 4)))))))
noncomputable def dB:MF:=eM 8 (jN)
abbrev fN:FS:=(aE (aV 3 (aJ aS 2 (ag (bJ (ae 0)) (ag (fK (.int 2)) am))))
  (aE (oP (au aZ (ae 1) (au cE (ae 3) (gp gF (ag (ae 1) am)))) (qE 3 (aK (bE 4) (aK (bE 5) (aK (bE 6) dI)))))
  (aE (aV 7 (dX (ag (fK (.int 0)) (ag (fK (.int 1)) (ag (jZ uf (fK (.int 1))) (ag (au cE (ae 0) (au rN (fK (.int 10)) (fK (.int 50)))) (ag (au oM (fK (.int 0)) (au cE (ae 0) (au rN (fK (.int 10)) (fK (.int 50))))) am)))))))
  (aE (aV 8 (gp Ec (ag (dY [7,0] 1 (yA (ae 6)) (bE 0) gf (au aZ (ae 1) (au cE (au fV (aJ aS 2 (ag (bJ (ae 2)) (ag (bJ (au dO (fK (.int 20)) (ae 0))) am))) (fK (.int 5))) (fK (.int 5))))) am)))
  (aE (aV 9 (au nG (au oM (au cE (au fV (ae 3) (fK (.int 8))) (fK (.int 12))) (fK (.int 3))) (ae 2)))
  (aE (aV 10 (au dO (ae 9) (au nG (au dO (fK (.int 1)) (au cE (au fV (ae 3) (fK (.int 96))) (fK (.int 6)))) (ae 2))))
  (aE (fR (fB (au (gq false) (au cE (au fV (ae 3) (fK (.int 600))) (fK (.int 5))) (fK (.int 0))))
  (aV 9 (fK .non))
  aQ)
  (aE (fR (fB (au (gq false) (au cE (au fV (ae 3) (fK (.int 3000))) (fK (.int 5))) (fK (.int 0))))
  (aV 10 (fK .non))
  aQ)
  (aE (fR (fB (au (gq false) (au cE (au fV (ae 3) (fK (.int 15000))) (fK (.int 3))) (fK (.int 0))))
  (bq (cP (ag (fK (.str "strike")) (ag (ae 4) (ag (Bu (ae 8) fg (eN (ae 5))) (ag (ae 9) (ag (ae 10) am)))))))
  aQ)
  (bq (cP (ag (fK (.str "tell")) (ag (ae 4) (ag (ae 8) (ag (ae 9) (ag (ae 10) am))))))))))))))))
noncomputable def c8:MF:=eM 11 (fN)
abbrev hJ:FS:=(aE (aV 4 (aJ aS 2 (ag (bJ (ae 0)) (ag (bJ (au dO (ae 1) (fK (.int 41)))) am))))
  (aE (aV 5 (au oM (au cE (ae 4) (au dO (gp gF (ag (ae 2) am)) (fK (.int 3)))) (fK (.int 1))))
  (aE (aV 6 (au oM (au nG (au oM (au cE (au fV (ae 4) (fK (.int 70))) (fK (.int 16))) (fK (.int 4))) (ae 3)) (au cE (au fV (ae 4) (fK (.int 7000))) (fK (.int 2)))))
  (aE (fR (ik (fB (au (gq true) (ae 2) (dX am))) (fB (au (gq false) (au cE (au fV (ae 4) (fK (.int 14000))) (fK (.int 2))) (fK (.int 0)))))
  (aE (aV 7 (dY [] 1 (bH (Bv (au aZ (ae 2) (au cE (au fV (ae 4) (fK (.int 28000))) (gp gF (ag (ae 2) am)))) (eN (fK (.int 3))) fg)) (bE 0) (fB (jZ (rT true .non) (ae 0))) (ae 0)))
  (fR (fB (au (gq true) (ae 7) (dX am)))
  (aV 6 (au oM (au aZ (ae 7) (fK (.int 0))) (au cE (au fV (ae 4) (fK (.int 2000000))) (fK (.int 2)))))
  aQ))
  aQ)
  (bq (cP (ag (ae 6) (ag (ae 5) am))))))))
noncomputable def du:MF:=eM 8 (hJ)
abbrev b7 (bt:A8):FS:=(fR (ik (fB (au (gq false) (au aZ (ae 6) (fK (.int 1))) (ae 1))) (dM (aJ jc 2 (ag (bJ (ae 6)) (ag (bJ (ae 3)) am)))))
  (aE (aV 7 (Bu (au aZ (ae 6) (fK (.int 2))) fg (eN (ae 2))))
  (aE (oP (bJ (au aZ (ae 6) (fK (.int 2)))) (sO (ae 5) (ae 7)))
  (fR (fB (au (gq false) (au aZ (ae 6) (fK (.int 0))) (fK (.str "strike"))))
  (cS (wG (ae 5) (ae 7)))
  aQ)))
  aQ)
abbrev kN (bt:A8):FS:=(aE (aV 5 HM)
  (aE (ii (bH (Bv (ae 0) fg (eN (gp D1 (ag (fK (.int 0)) (ag (ae 4) am)))))) (bE 6)
  (b7 bt))
  (bq (wF (ae 5)))))
noncomputable def eB (bt:A8):MC:=xQ 8 (kN bt)
abbrev fL:FS:=(fR (lO (et (dM (aJ dq 1 (ag (bJ (au aZ (ae 0) (ae 1))) am)))) (ik (fB (au Qk (ae 1) (fK (.int 0)))) (fB (au JY (au aZ (ae 0) (ae 1)) (au aZ (ae 0) (au oM (ae 1) (fK (.int 1))))))))
  (bq (fK (.bl false)))
  aQ)
abbrev kL:FS:=(aE (ii (yA (gp gF (ag (ae 0) am))) (bE 1)
  fL)
  (bq (fK (.bl true))))
noncomputable def bX:MF:=eM 2 (kL)
abbrev qV:FS:=(bq (dY [1,2] 2 (bH (ae 0)) (qE 2 (aK (bE 0) (aK (bE 1) dI))) (dM (aJ d8 3 (ag (bJ (ae 1)) (ag (bJ (ae 2)) (ag (bJ (ae 3)) am))))) (ae 0)))
noncomputable def eP:MC:=xQ 3 (qV)
abbrev eC (bt:A8):FS:=(fR (fB (au (FN false) (Bv (Ng (ae 8)) fg (eN (ae 1))) (Bv (Ng (ae 4)) fg (eN (ae 1)))))
  (aE (aV 10 (J3 (ik (dM (aJ bO 1 (ag (bJ (ae 2)) am))) (fB (au (FN false) (ae 8) (ae 4)))) (fK (.str "either")) (fK (.str "less"))))
  (cS (Bx lF (ae 7) (ag (cP (ag (ae 8) (ag (aJ jb 3 (ag (bJ (ae 9)) (ag (bJ (ae 3)) (ag (bJ (aJ (lj bt) 3 (ag (bJ (aJ cM 1 (ag (bJ (ae 9)) am))) (ag (bJ (ae 5)) (ag (bJ (ae 10)) am))))) am)))) am))) am))))
  (cS (Bx lF (ae 7) (ag (cP (ag (ae 8) (ag (ae 9) am))) am))))
abbrev nZ (bt:A8):FS:=(aE (aV 4 (au aZ (ae 2) (fK (.int 2))))
  (aE (aV 5 (aJ eQ 2 (ag (bJ (au aZ (ae 2) (fK (.int 3)))) (ag (bJ (au aZ (ae 2) (fK (.int 4)))) am))))
  (aE (aV 6 (gp sZ (ag (ae 0) am)))
  (aE (fR (dM (aJ bO 1 (ag (bJ (ae 2)) am)))
  (cS (Bw (ae 6) (ae 4) (fK (.tup [(.tup [(.bl false),(.tup [])]),(.tup [])]))))
  aQ)
  (aE (aV 7 (dX am))
  (aE (ii (HL (ae 6)) (qE 2 (aK (bE 8) (aK (bE 9) dI)))
  (eC bt))
  (bq (gc (gZ bt) 1 (ag (ae 7) am)))))))))
noncomputable def fw (bt:A8):MC:=xQ 11 (nZ bt)
abbrev hX:FS:=(aE (fR (lO (et (dM (jZ (kC "tuple") (ae 0)))) (lO (fB (au (gq true) (gp gF (ag (ae 0) am)) (fK (.int 2)))) (et (dM (jZ (kC "bool") (au aZ (ae 0) (fK (.int 0))))))))
  (bq (fK (.bl false)))
  aQ)
  (bq (yB (jZ (kC "tuple") (au aZ (ae 0) (fK (.int 1)))) (aJ bX 1 (ag (bJ (au aZ (ae 0) (fK (.int 1)))) am)))))
noncomputable def cq:MF:=eM 1 (hX)
abbrev kM (bt:A8):FS:=(aE (oP (ee (uk du) 4 (ag (ae 3) (ag (fK (.int 9)) (ag (ae 2) (ag (ae 4) am))))) (qE 2 (aK (bE 5) (aK (bE 6) dI))))
  (aE (aV 7 (gc (eB bt) 5 (ag (ae 2) (ag (au aZ (ae 1) (fK (.int 0))) (ag (au aZ (ae 1) (fK (.int 1))) (ag (ae 5) (ag (ae 6) am)))))))
  (bq (au (gq false) (gc (uk eP) 3 (ag (iA "Book" "table" bi 2 (ae 0) (ag (au aZ (ae 1) (fK (.int 0))) am)) (ag (ae 5) (ag (ae 6) am)))) (ae 7)))))
noncomputable def dh (bt:A8):MW:=oQ 8 (kM bt)
abbrev kP (bt:A8):FS:=(aE (cS (ee (uk bv) 2 (ag (hG "Book" "shape_list" (ae 0)) (ag (ae 1) am))))
  (aE (aV 2 (au aZ (ae 1) (fK (.int 1))))
  (aE (aV 3 (au aZ (ee bQ 2 (ag (hG "Book" "shape_list" (ae 0)) (ag (ae 2) am))) (fK (.int 1))))
  (aE (cS (Bx lF (hG "Book" "tellings" (ae 0)) (ag (ae 1) am)))
  (aE (aV 4 (gp gF (ag (hG "Book" "tellings" (ae 0)) am)))
  (aE (oP (bJ (gc (fw bt) 4 (ag (wH (hG "Book" "tables_now" (ae 0)) (ae 2)) (ag (ae 3) (ag (ae 1) (ag (ae 4) am)))))) (rV (hG "Book" "tables_now" (ae 0)) (ae 2)))
  (bq (ae 4))))))))
noncomputable def bM (bt:A8):MW:=oQ 5 (kP bt)
abbrev d5:FS:=(aE (fR (lO (et (dM (jZ (kC "tuple") (ae 2)))) (lO (fB (au (gq true) (gp gF (ag (ae 2) am)) (fK (.int 2)))) (lO (et (dM (aJ cq 1 (ag (bJ (au aZ (ae 2) (fK (.int 1)))) am)))) (fB (au (gq false) (au aZ (ae 2) (fK (.int 1))) (ae 1))))))
  (bq (fK (.bl false)))
  aQ)
  (aV 1 (au aZ (ae 2) (fK (.int 1)))))
abbrev iT:FS:=(aE (fR (lO (et (dM (jZ (kC "tuple") (ae 0)))) (lO (fB (au (gq true) (gp gF (ag (ae 0) am)) (fK (.int 2)))) (et (dM (aJ cq 1 (ag (bJ (au aZ (ae 0) (fK (.int 0)))) am))))))
  (bq (fK (.bl false)))
  aQ)
  (aE (fR (et (dM (jZ (kC "tuple") (au aZ (ae 0) (fK (.int 1))))))
  (bq (fK (.bl false)))
  aQ)
  (aE (aV 1 (au aZ (ae 0) (fK (.int 0))))
  (aE (ii (bH (au aZ (ae 0) (fK (.int 1)))) (bE 2)
  d5)
  (bq (aJ bX 1 (ag (bJ (dY [] 1 (bH (au aZ (ae 0) (fK (.int 1)))) (bE 0) gf (au aZ (ae 0) (fK (.int 0))))) am)))))))
noncomputable def dP:MF:=eM 3 (iT)
abbrev kO (bt:A8):FS:=(bq (iA "Book" "take" (bM bt) 2 (ae 0) (ag (cP (ag (fK (.str "tell")) (ag (ae 1) (ag (ae 2) (ag (ae 3) (ag (ae 4) am)))))) am)))
noncomputable def em (bt:A8):MW:=oQ 5 (kO bt)
abbrev iV (bt:A8):FS:=(bq (iA "Book" "take" (bM bt) 2 (ae 0) (ag (cP (ag (fK (.str "strike")) (ag (ae 1) (ag (ae 2) (ag (ae 3) (ag (ae 4) am)))))) am)))
noncomputable def c6 (bt:A8):MW:=oQ 5 (iV bt)
abbrev dC (bt:A8):FS:=(aE (fR (lO (et (dM (jZ (kC "tuple") (ae 2)))) (lO (fB (au (gq true) (gp gF (ag (ae 2) am)) (fK (.int 2)))) (et (dM (jZ (kC "tuple") (au aZ (ae 2) (fK (.int 0))))))))
  (bq (fK (.bl false)))
  aQ)
  (aE (fR (lO (fB (au (gq true) (gp gF (ag (au aZ (ae 2) (fK (.int 0))) am)) (ae 1))) (et (dM (gp (Fv false) (ag (dY [] 1 (bH (au aZ (ae 2) (fK (.int 0)))) (bE 0) gf (aJ dq 1 (ag (bJ (ae 0)) am))) am)))))
  (bq (fK (.bl false)))
  aQ)
  (fR (lO (et (dM (aJ dP 1 (ag (bJ (au aZ (ae 2) (fK (.int 1)))) am)))) (fB (au (gq false) (au aZ (ae 2) (fK (.int 1))) (cP (ag (cP (ag (fK (.bl false)) (ag (cP am) am))) (ag (cP am) am))))))
  (bq (fK (.bl false)))
  aQ)))
abbrev hV (bt:A8):FS:=(aE (fR (et (dM (jZ (kC "list") (ae 0))))
  (bq (fK (.bl false)))
  aQ)
  (aE (ii (bH (ae 0)) (bE 2)
  (dC bt))
  (aE (aV 3 (dY [] 1 (bH (ae 0)) (bE 0) gf (au aZ (ae 0) (fK (.int 0)))))
  (bq (au (gq false) (ae 3) (Qm (ae 3)))))))
noncomputable def bC (bt:A8):MF:=eM 4 (hV bt)
abbrev iF (bt:A8):FS:=(aE (fR (fB (au (gq false) (au aZ (ae 1) (fK (.int 0))) (fK (.str "tell"))))
  (bq (iA "Book" "tell" (em bt) 5 (ae 0) (ag (au aZ (ae 1) (fK (.int 1))) (ag (au aZ (ae 1) (fK (.int 2))) (ag (au aZ (ae 1) (fK (.int 3))) (ag (au aZ (ae 1) (fK (.int 4))) am))))))
  aQ)
  (bq (iA "Book" "strike" (c6 bt) 5 (ae 0) (ag (au aZ (ae 1) (fK (.int 1))) (ag (au aZ (ae 1) (fK (.int 2))) (ag (au aZ (ae 1) (fK (.int 3))) (ag (au aZ (ae 1) (fK (.int 4))) am)))))))
noncomputable def eh (bt:A8):MW:=oQ 2 (iF bt)
abbrev lu (bt:A8):FS:=(aE (cS (Bx lF (ae 4) (ag (aJ c8 3 (ag (bJ (ae 5)) (ag (bJ (ae 1)) (ag (bJ (ae 2)) am)))) am)))
  (aE (cS (jF (eh bt) 2 (ag (ae 3) (ag (au aZ (ae 4) (jZ uf (fK (.int 1)))) am))))
  (aE (aV 6 (au aZ (ae 1) (au cE (aJ aS 2 (ag (bJ (ae 5)) (ag (fK (.int 8)) am))) (gp gF (ag (ae 1) am)))))
  (fR (et (dM (jF (dh bt) 5 (ag (ae 3) (ag (ae 6) (ag (ae 4) (ag (au dO (ae 5) (fK (.int 1))) (ag (ae 2) am))))))))
  (bq (fK (.bl false)))
  aQ))))
abbrev lq (bt:A8):FS:=(fR (et (dM (ee (uk (bC bt)) 2 (ag (iA "Book" "table" bi 2 (ae 3) (ag (au aZ (ae 6) (fK (.int 0))) am)) (ag (au aZ (ae 6) (fK (.int 2))) am)))))
  (bq (fK (.bl false)))
  aQ)
abbrev lp (bt:A8):FS:=(fR (et (dM (jF (dh bt) 5 (ag (ae 3) (ag (au aZ (ae 1) (au cE (aJ aS 2 (ag (bJ (ae 5)) (ag (fK (.int 8)) am))) (gp gF (ag (ae 1) am)))) (ag (ae 4) (ag (ae 5) (ag (ae 2) am))))))))
  (bq (fK (.bl false)))
  aQ)
abbrev Ft (bt:A8):FS:=(aE (aV 1 (aJ dB 1 (ag (bJ (aJ cL 2 (ag (bJ (ae 0)) (ag (fK (.int 0)) am)))) am)))
  (aE (aV 2 (au aZ (dX (ag (fK (.int 1)) (ag (fK (.int 1)) (ag (au rN (fK (.int 10)) (fK (.int 40))) am)))) (au cE (aJ cL 2 (ag (bJ (ae 0)) (ag (fK (.int 0)) am))) (fK (.int 3)))))
  (aE (aV 3 (nR "Book" cF 2 (ag (ae 1) am)))
  (aE (aV 4 (dX am))
  (aE (ii (bH (Bv (ae 0) fg (eN (fK (.int 63))))) (bE 5)
  (lu bt))
  (aE (ii (bH (ae 1)) (bE 6)
  (lq bt))
  (aE (ii (bH (au xj (dX (ag (fK (.int 0)) am)) (Bv (ae 0) fg (eN (fK (.int 63)))))) (bE 5)
  (lp bt))
  (bq (fK (.bl true))))))))))
noncomputable def v6 (bt:A8):MF:=eM 7 (Ft bt)
noncomputable def zs:Tn:=["list","dict","len","set","sorted","tuple","range","max","isinstance","bool","int","all"]
def QQ (mg:Td)(l:Tn):Prop:=∀(i:Nat) (x:Str),l[i]?=some x->mg x=none
def Kb {mg:Td}:QQ mg []:=λi x e=>by simp at e
theorem dZ {mg:Td}{x:Str}{l:Tn}(h:mg x=none)(t:QQ mg l):QQ mg (x::l):=λi y e=>by
 cases i with
 |zero=>cases e;exact h
 |succ i=>exact t i y e
def Zs (mg:Td):Prop:=QQ mg zs
structure CF (K:AP)(mg:Td)(C:Addr):Prop where
 n:o5 K mg "Book" C
 a_shape_list:fG K C "shape_list"
 a_tellings:fG K C "tellings"
 a_tables_now:fG K C "tables_now"
 mks:PySem.W.makesIn K C=true
 kp:PySem.W.keepIn K (.ref C)=true
section
variable {P:A9}{w:AM}{K:AP}{mg:Td}{base:AI}{qC:A4}(cf:CF K mg qC)
include cf
set_option maxHeartbeats 4000000
theorem wo (z:Zs mg)(d:kS K qC "__init__" "Book.__init__" gz ["self","shapes"])  : fj P w K mg base 1 "__init__" qC ["self","shapes"] cF :=
 L7 (k:=0) d t9 λf AX A outer s H E hr=>
  (ao (CO cf.n cf.a_shape_list (af 0) (Dj rfl (z 0 _ rfl) (ah (af 1) ap)))
  (ao (CO cf.n cf.a_tellings (af 0) (i9 ap))
  (ax (CO cf.n cf.a_tables_now (af 0) (JFg rfl rfl (z 1 _ rfl) (ah (gX [] ["shape"] [] rfl (show aO (ai gz) _ ["shape"] [] by ac_rfl) (dW (af 1)) (λcl C s₂ H₂ fp=>{(cO 0 (show(["shape"]:Tn).Nodup by decide)),mV,(cH (ah (aM (af 0) aj) (ah (bu (i9 ap)) ap)))})) ap))))))
theorem wn (z:Zs mg)(d:kS K qC "take" "Book.take" jp ["self","telling"])(f8:bm P w K mg base 2 "check_telling" ["shapes","telling"] bv)(nP:iH P w K mg base 3 "told_on" ["table","keys","telling","turn"] (fw (!HS.bt w)))(cN:bm P w K mg base 1 "shape_of" ["shapes","name"] bQ):fj P w K mg base 4 "take" qC ["self","telling"] (bM (!HS.bt w)) :=
 L7 (k:=3) d gD λf AX A outer s H E hr=>
  (ao (eL (iq (ut f8) (hr.mono ∅) (ah (oh cf.n cf.a_shape_list (af 0)) (ah (af 1) ap))))
  (ao (aU 2 gD.nd (aM (af 1) aj))
  (ao (aU 3 gD.nd (aM (iq cN (hr.mono ∅) (ah (oh cf.n cf.a_shape_list (af 0)) (ah (af 2) ap))) aj))
  (ao (eL (qe (oh cf.n cf.a_tellings (af 0)) (ah (af 1) ap)))
  (ao (aU 4 gD.nd (gW rfl (z 2 _ rfl) (ah (oh cf.n cf.a_tellings (af 0)) ap)))
  (ao (sw (bu (k8 nP (hr.mono ∅) (ah (JT hr.units (oh cf.n cf.a_tables_now (af 0)) (af 2)) (ah (af 3) (ah (af 1) (ah (af 4) ap)))))) (Rp hr.units (oh cf.n cf.a_tables_now (af 0)) (af 2)))
  (ax (aN (af 4)))))))))
theorem wm (z:Zs mg)(d:kS K qC "tell" "Book.tell" jo ["self","name","row","low","high"])(Jab:fj P w K mg base 4 "take" qC ["self","telling"] (bM (!HS.bt w))):fj P w K mg base 5 "tell" qC ["self","name","row","low","high"] (em (!HS.bt w)) :=
 L7 (k:=4) d t8 λf AX A outer s H E hr=>
  (ax (aN (ko cf.n Jab (hr.mono ∅) (af 0) (ah (cH (ah gl (ah (af 1) (ah (af 2) (ah (af 3) (ah (af 4) ap)))))) ap))))
theorem rS (z:Zs mg)(d:kS K qC "strike" "Book.strike" gS ["self","name","key","low","high"])(Jab:fj P w K mg base 4 "take" qC ["self","telling"] (bM (!HS.bt w))):fj P w K mg base 5 "strike" qC ["self","name","key","low","high"] (c6 (!HS.bt w)) :=
 L7 (k:=4) d p5 λf AX A outer s H E hr=>
  (ax (aN (ko cf.n Jab (hr.mono ∅) (af 0) (ah (cH (ah gl (ah (af 1) (ah (af 2) (ah (af 3) (ah (af 4) ap)))))) ap))))
theorem uz (z:Zs mg)(d:kS K qC "table" "Book.table" iK ["self","name"])(cN:bm P w K mg base 1 "shape_of" ["shapes","name"] bQ):fj P w K mg base 2 "table" qC ["self","name"] bi :=
 L7 (k:=1) d rJ λf AX A outer s H E hr=>
  (ao (eL (iq cN (hr.mono ∅) (ah (oh cf.n cf.a_shape_list (af 0)) (ah (af 1) ap))))
  (ax (aN (Dj rfl (z 0 _ rfl) (ah (JT hr.units (oh cf.n cf.a_tables_now (af 0)) (af 1)) ap)))))
theorem yk (z:Zs mg)(d:bA K mg "truth_by" j3 ["word","one","other"])  : bm P w K mg base 1 "truth_by" ["word","one","other"] bG :=
 okP (k:=0) d vB λf AX A outer s H E hr=>
  (ao (b9 (lC hr.units (af 0) gl)
  (ax (aN (zB (af 1) (sA (af 2)))))
  bn)
  (ao (b9 (lC hr.units (af 0) gl)
  (ax (aN (OD (af 1) (sA (af 2)))))
  bn)
  (ao (b9 (lC hr.units (af 0) gl)
  (ax (aN (zB (af 1) (sA (vL (af 2))))))
  bn)
  (ao (b9 (lC hr.units (af 0) gl)
  (ax (aN (Q9 hr.units (af 1) (af 2))))
  bn)
  (ax jt)))))
theorem uw (z:Zs mg)(d:bA K mg "stretch_of" iI ["low","high"])(Jai:iW K mg "NO_NUMBERS" (.tup [(.bl false),(.tup [])]))(Jae:iW K mg "ALL_NUMBERS" (.tup [(.bl true),(.tup [])])):bm P w K mg base 1 "stretch_of" ["low","high"] eQ :=
 okP (k:=0) d rG λf AX A outer s H E hr=>
  (ao (b9 (zm (n9 (zn (af 0)) (lK (zn (af 1)))))
  (ax (aN (k7 Jae)))
  bn)
  (ao (b9 (zn (af 0))
  (ax (aN (cH (ah iM (ah (cH (ah (af 1) ap)) ap)))))
  bn)
  (ao (b9 (zn (af 1))
  (ax (aN (cH (ah iM (ah (cH (ah (af 0) ap)) ap)))))
  bn)
  (ao (b9 (Cn (af 1) (af 0))
  (ax (aN (k7 Jai)))
  bn)
  (ax (aN (cH (ah iM (ah (cH (ah (af 0) (ah (af 1) ap))) ap)))))))))
theorem JG1 (z:Zs mg)(d:bA K mg "blend" j8 ["one","other","word"])(jA:bm P w K mg base 1 "truth_by" ["word","one","other"] bG):bm P w K mg base 2 "blend" ["one","other","word"] (lj (!HS.bt w)) :=
 okP (k:=1) d cg λf AX A outer s H E hr=>
  (ao (aU 3 cg.nd (aM (af 0) aj))
  (ao (aU 4 cg.nd (aM (af 1) aj))
  (ao (aU 5 cg.nd (aG jA (hr.mono ∅) (ah (bu (af 2)) (ah (bu (af 3)) (ah (bu (af 4)) ap)))))
  (ao (aU 6 cg.nd (af 5))
  (ao (aU 7 cg.nd (Dk rfl rfl (z 1 _ rfl) (ah (gX [] ["edge"] [] rfl (show aO (ai j8) _ ["edge"] [] by ac_rfl) (dW (aM (af 0) aj)) (λcl C s₂ H₂ fp=>{(cO 0 (show(["edge"]:Tn).Nodup by decide)),mV,(cH (ah (af 0) (ah iM ap)))})) ap)))
  (ao (aU 8 cg.nd (Dk rfl rfl (z 1 _ rfl) (ah (gX [] ["edge"] [] rfl (show aO (ai j8) _ ["edge"] [] by ac_rfl) (dW (aM (af 1) aj)) (λcl C s₂ H₂ fp=>{(cO 0 (show(["edge"]:Tn).Nodup by decide)),mV,(cH (ah (af 0) (ah iM ap)))})) ap)))
  (ao (aU 9 cg.nd (i9 ap))
  (ao (i7 rfl (dW (JDd rfl rfl (z 4 _ rfl) (ah (OI (JQ rfl rfl (z 3 _ rfl) (ah (aM (af 0) aj) ap)) (JQ rfl rfl (z 3 _ rfl) (ah (aM (af 1) aj) ap))) ap))) (cO 10 cg.nd)
  (ao (b9 (NU hr.units (af 10) (af 7))
  (ax (aU 3 cg.nd (vL (af 3))))
  bn)
  (ao (b9 (NU hr.units (af 10) (af 8))
  (ax (aU 4 cg.nd (vL (af 4))))
  bn)
  (ao (aU 11 cg.nd (aG jA (hr.mono ∅) (ah (bu (af 2)) (ah (bu (af 3)) (ah (bu (af 4)) ap)))))
  (ao (b9 (rE hr.units (af 11) (af 6))
  (ax (eL (qe (af 9) (ah (af 10) ap))))
  bn)
  (ax (aU 6 cg.nd (af 11))))))) PassesOwn.never)
  (ax (aN (cH (ah (af 5) (ah (JFe rfl (z 5 _ rfl) (ah (af 9) ap)) ap)))))))))))))
theorem wl (z:Zs mg)(d:bA K mg "all_spots" jn ["plots"])  : bm P w K mg base 1 "all_spots" ["plots"] dw :=
 okP (k:=0) d t7 λf AX A outer s H E hr=>
  (ao (b9 (lC hr.units (gW rfl (z 2 _ rfl) (ah (af 0) ap)) aj)
  (ax (aN (aM (af 0) aj)))
  bn)
  (ax jt))
theorem yl (z:Zs mg)(d:bA K mg "table_of" fP ["pairs"])(kG:bm P w K mg base 1 "all_spots" ["plots"] dw)(Jac:iW K mg "NO_SPOTS" (.tup [(.tup [(.bl false),(.tup [])]),(.tup [])])):iH P w K mg base 2 "table_of" ["pairs"] (gZ (!HS.bt w)) :=
 okN (k:=1) d fQ λf AX A outer s H E hr=>
  (ao (aU 1 fQ.nd OH)
  (ao (i7 rfl (dW (af 0)) (wA rfl (bY (cO 2 fQ.nd) (bY (cO 3 fQ.nd) kH)))
  (ax (eL (qe (Ll hr.units (af 1) (af 2) (i9 ap)) (ah (af 3) ap)))) PassesOwn.never)
  (ao (p7 4 [1] ["row"] ["plots"] rfl (show aO (ai fP) _ ["row"] ["plots"] by ac_rfl) fQ.nd (dW (JAx rfl rfl (z 4 _ rfl) (ah (af 1) ap))) (λcl C s₂ H₂ fp=>{(cO 0 (show(["row","plots"]:Tn).Nodup by decide)),mV,(cH (ah (af 0) (ah (aG kG (hr.mono ∅) (ah (bu (OB hr.units (af 1) (af 0))) ap)) ap)))}))
  (ax (aN (gX [] ["entry"] [] rfl (show aO (ai fP) _ ["entry"] [] by ac_rfl) (dW (af 4)) (λcl C s₂ H₂ fp=>{(cO 0 (show(["entry"]:Tn).Nodup by decide)),(EG (rE hr.units (aM (af 0) aj) (k7 Jac))),(af 0)})))))))
theorem ym (z:Zs mg)(d:bA K mg "shape_of" j4 ["shapes","name"])  : bm P w K mg base 1 "shape_of" ["shapes","name"] bQ :=
 okP (k:=0) d og λf AX A outer s H E hr=>
  (ao (i7 rfl (dW (af 0)) (cO 2 og.nd)
  (ax (b9 (lC hr.units (aM (af 2) aj) (af 1))
  (ax (aN (af 2)))
  bn)) PassesOwn.never)
  (ax jt))
theorem rR (z:Zs mg)(d:bA K mg "check_width" gR ["numbers","width"])  : bm P w K mg base 1 "check_width" ["numbers","width"] dQ :=
 okP (k:=0) d ki λf AX A outer s H E hr=>
  (ao (aU 2 ki.nd (gW rfl (z 2 _ rfl) (ah (af 0) ap)))
  (ax (b9 (rE hr.units (af 2) (af 1))
  (ax jt)
  bn)))
theorem oV (z:Zs mg)(d:bA K mg "check_stretch" fu ["low","high"])  : bm P w K mg base 1 "check_stretch" ["low","high"] cW :=
 okP (k:=0) d nB λf AX A outer s H E hr=>
  (ax (b9 (zm (n9 (tX (af 0)) (n9 (tX (af 1)) (lK (Cn (af 1) (af 0))))))
  (ax jt)
  bn))
theorem JBt (z:Zs mg)(d:bA K mg "is_tell" lR ["telling"])  : bm P w K mg base 1 "is_tell" ["telling"] bO :=
 okP (k:=0) d xP λf AX A outer s H E hr=>
  (ax (aN (Lu hr.units (aM (af 0) aj) gl)))
theorem oU (z:Zs mg)(d:bA K mg "check_telling" fq ["shapes","telling"])(cN:bm P w K mg base 1 "shape_of" ["shapes","name"] bQ)(iS:bm P w K mg base 1 "check_width" ["numbers","width"] dQ)(f9:bm P w K mg base 1 "check_stretch" ["low","high"] cW)(fF:bm P w K mg base 1 "is_tell" ["telling"] bO):bm P w K mg base 2 "check_telling" ["shapes","telling"] bv :=
 okP (k:=1) d i6 λf AX A outer s H E hr=>
  (ao (aU 2 i6.nd (iq cN (hr.mono ∅) (ah (af 0) (ah (aM (af 1) aj) ap))))
  (ao (eL (aG iS (hr.mono ∅) (ah (bu (aM (af 1) aj)) (ah (bu (Lr (dG (aG fF (hr.mono ∅) (ah (bu (af 1)) ap))) (aM (af 2) aj) (aM (af 2) aj))) ap))))
  (ax (eL (aG f9 (hr.mono ∅) (ah (bu (aM (af 1) aj)) (ah (bu (aM (af 1) aj)) ap)))))))
theorem uy (z:Zs mg)(d:bA K mg "last_reach" iJ ["plot"])  : bm P w K mg base 1 "last_reach" ["plot"] cM :=
 okP (k:=0) d rH λf AX A outer s H E hr=>
  (ax (aN (Lr (dG (aM (af 0) aj)) (aM (aM (aM (af 0) aj) (vM aj)) aj) (aM (af 0) aj))))
theorem JBs (z:Zs mg)(d:bA K mg "stepped" lQ ["plot","turn","reach"])(dD:bm P w K mg base 1 "last_reach" ["plot"] cM):bm P w K mg base 2 "stepped" ["plot","turn","reach"] jb :=
 okP (k:=1) d xO λf AX A outer s H E hr=>
  (ao (b9 (lC hr.units (af 2) (aG dD (hr.mono ∅) (ah (bu (af 0)) ap)))
  (ax (aN (af 0)))
  bn)
  (ax (aN (cH (ah (aM (af 0) aj) (ah (cj (aM (af 0) aj) (cH (ah (cH (ah (af 1) (ah (af 2) ap))) ap))) ap))))))
theorem JBr (z:Zs mg)(d:bA K mg "told_on" lP ["table","keys","telling","turn"])(jB:bm P w K mg base 1 "stretch_of" ["low","high"] eQ)(fF:bm P w K mg base 1 "is_tell" ["telling"] bO)(lZ:iH P w K mg base 2 "table_of" ["pairs"] (gZ (!HS.bt w)))(nQ:bm P w K mg base 2 "stepped" ["plot","turn","reach"] jb)(uD:bm P w K mg base 2 "blend" ["one","other","word"] (lj (!HS.bt w)))(dD:bm P w K mg base 1 "last_reach" ["plot"] cM)(Jac:iW K mg "NO_SPOTS" (.tup [(.tup [(.bl false),(.tup [])]),(.tup [])])):iH P w K mg base 3 "told_on" ["table","keys","telling","turn"] (fw (!HS.bt w)) :=
 okN (k:=2) d dk λf AX A outer s H E hr=>
  (ao (aU 4 dk.nd (aM (af 2) aj))
  (ao (aU 5 dk.nd (aG jB (hr.mono ∅) (ah (bu (aM (af 2) aj)) (ah (bu (aM (af 2) aj)) ap))))
  (ao (aU 6 dk.nd (JFf hr.units rfl rfl (z 1 _ rfl) (ah (af 0) ap)))
  (ao (b9 (dG (aG fF (hr.mono ∅) (ah (bu (af 2)) ap)))
  (ax (eL (OC hr.units (af 6) (af 4) (k7 Jac))))
  bn)
  (ao (aU 7 dk.nd (i9 ap))
  (ao (KF rfl (JG7 (af 6)) (wA rfl (bY (cO 8 dk.nd) (bY (cO 9 dk.nd) kH)))
  (ax (b9 (Jq hr.units (AV (OK (af 8)) rL (oS (af 1))) (AV (OK (af 4)) rL (oS (af 1))))
  (ao (aU 10 dk.nd (Lr (zm (n9 (dG (aG fF (hr.mono ∅) (ah (bu (af 2)) ap))) (lK (Jq hr.units (af 8) (af 4))))) gl gl))
  (ax (eL (qe (af 7) (ah (cH (ah (af 8) (ah (aG nQ (hr.mono ∅) (ah (bu (af 9)) (ah (bu (af 3)) (ah (bu (aG uD (hr.mono ∅) (ah (bu (aG dD (hr.mono ∅) (ah (bu (af 9)) ap))) (ah (bu (af 5)) (ah (bu (af 10)) ap))))) ap)))) ap))) ap)))))
  (ax (eL (qe (af 7) (ah (cH (ah (af 8) (ah (af 9) ap))) ap)))))) PassesOwn.never)
  (ax (aN (k8 lZ (hr.mono ∅) (ah (af 7) ap))))))))))
theorem yq (z:Zs mg)(d:bA K mg "_law_cell" j7 ["script","k"])  : bm P w K mg base 1 "_law_cell" ["script","k"] cL :=
 okP (k:=0) d vC λf AX A outer s H E hr=>
  (ao (b9 (NS (af 1) (gW rfl (z 2 _ rfl) (ah (af 0) ap)))
  (ax (aN (aM (af 0) (af 1))))
  bn)
  (ax (aN aj)))
theorem yo (z:Zs mg)(d:bA K mg "_law_stir" j5 ["cell","k"])  : bm P w K mg base 1 "_law_stir" ["cell","k"] aS :=
 okP (k:=0) d kh λf AX A outer s H E hr=>
  (ao (aU 2 kh.nd (bV (qd (cj (bV (af 0) aj) aj) aj) aj))
  (ao (aU 2 kh.nd (bV (cj (cj (qd (af 2) (af 2)) (qd (af 1) aj)) aj) aj))
  (ax (aN (bV (qd (af 2) (af 2)) aj)))))
theorem ux (z:Zs mg)(d:bA K mg "_law_shapes" fI ["cell"])(bc:bm P w K mg base 1 "_law_stir" ["cell","k"] aS):bm P w K mg base 2 "_law_shapes" ["cell"] dB :=
 okP (k:=1) d bN λf AX A outer s H E hr=>
  (ao (aU 1 bN.nd (aG bc (hr.mono ∅) (ah (bu (af 0)) (ah aj ap))))
  (ao (aU 2 bN.nd (Lq gl (gX [0] ["k"] ["cell"] rfl (show aO (ai fI) _ ["k"] ["cell"] by ac_rfl) (Hx rfl (z 6 _ rfl) (cj aj (bV (af 1) aj))) (λcl C s₂ H₂ fp=>{(cO 0 (show(["k","cell"]:Tn).Nodup by decide)),mV,(JS gl (bV (fS (aG bc (hr.mono ∅) (ah (bu (af 1)) (ah (bu (cj aj (af 0))) ap))) aj) aj))}))))
  (ao (aU 3 bN.nd (bV (fS (af 1) aj) (Ln rfl (z 2 _ rfl) (ah (af 2) ap))))
  (ao (aU 4 bN.nd (i9 ap))
  (ao (i7 rfl (Hx rfl (z 6 _ rfl) (cj aj (bV (fS (af 1) aj) aj))) (cO 5 bN.nd)
  (ao (aU 6 bN.nd (cj aj (bV (fS (aG bc (hr.mono ∅) (ah (bu (af 0)) (ah (bu (cj aj (af 5))) ap))) aj) (aM (i9 (ah aj (ah aj (ah aj ap)))) (bV (fS (af 1) aj) aj)))))
  (ao (aU 7 bN.nd (cj (cj (JO (af 2) rL (oS (af 3))) (JS gl (af 5))) (JO (af 2) (oS (cj (af 3) aj)) rL)))
  (ax (eL (qe (af 4) (ah (cH (ah (af 7) (ah (bV (fS (aG bc (hr.mono ∅) (ah (bu (af 0)) (ah (bu (cj aj (af 5))) ap))) aj) (cj (af 6) aj)) (ah (af 6) ap)))) ap)))))) PassesOwn.never)
  (ax (aN (af 4))))))))
theorem rP (z:Zs mg)(d:bA K mg "_law_telling" eI ["cell","shapes","scale"])(bc:bm P w K mg base 1 "_law_stir" ["cell","k"] aS):bm P w K mg base 2 "_law_telling" ["cell","shapes","scale"] c8 :=
 okP (k:=1) d ba λf AX A outer s H E hr=>
  (ao (aU 3 ba.nd (aG bc (hr.mono ∅) (ah (bu (af 0)) (ah aj ap))))
  (ao (sw (aM (af 1) (bV (af 3) (gW rfl (z 2 _ rfl) (ah (af 1) ap)))) (wA rfl (bY (cO 4 ba.nd) (bY (cO 5 ba.nd) (bY (cO 6 ba.nd) kH)))))
  (ao (aU 7 ba.nd (i9 (ah aj (ah aj (ah (vM aj) (ah (bV (af 0) (Di aj aj)) (ah (qc aj (bV (af 0) (Di aj aj))) ap)))))))
  (ao (aU 8 ba.nd (Lp rfl (z 5 _ rfl) (ah (gX [7,0] ["k"] ["menu","cell"] rfl (show aO (ai eI) _ ["k"] ["menu","cell"] by ac_rfl) (Hx rfl (z 6 _ rfl) (af 6)) (λcl C s₂ H₂ fp=>{(cO 0 (show(["k","menu","cell"]:Tn).Nodup by decide)),mV,(aM (af 1) (bV (fS (aG bc (hr.mono ∅) (ah (bu (af 2)) (ah (bu (cj aj (af 0))) ap))) aj) aj))})) ap)))
  (ao (aU 9 ba.nd (qd (qc (bV (fS (af 3) aj) aj) aj) (af 2)))
  (ao (aU 10 ba.nd (cj (af 9) (qd (cj aj (bV (fS (af 3) aj) aj)) (af 2))))
  (ao (b9 (lC hr.units (bV (fS (af 3) aj) aj) aj)
  (ax (aU 9 ba.nd JR))
  bn)
  (ao (b9 (lC hr.units (bV (fS (af 3) aj) aj) aj)
  (ax (aU 10 ba.nd JR))
  bn)
  (ao (b9 (lC hr.units (bV (fS (af 3) aj) aj) aj)
  (ax (aN (cH (ah gl (ah (af 4) (ah (JP (af 8) rL (oS (af 5))) (ah (af 9) (ah (af 10) ap))))))))
  bn)
  (ax (aN (cH (ah gl (ah (af 4) (ah (af 8) (ah (af 9) (ah (af 10) ap)))))))))))))))))
theorem wj (z:Zs mg)(d:bA K mg "_law_asked" jm ["book","telling"])(Jaf:fj P w K mg base 5 "strike" qC ["self","name","key","low","high"] (c6 (!HS.bt w)))(Jal:fj P w K mg base 5 "tell" qC ["self","name","row","low","high"] (em (!HS.bt w))):oF P w K mg base 6 "_law_asked" ["book","telling"] (eh (!HS.bt w)) :=
 okW (k:=5) d t6 λf AX A outer s H E hr=>
  (ao (b9 (lC hr.units (aM (af 1) aj) gl)
  (ax (aN (ko cf.n Jal (hr.mono ∅) (af 0) (ah (aM (af 1) aj) (ah (aM (af 1) aj) (ah (aM (af 1) aj) (ah (aM (af 1) aj) ap)))))))
  bn)
  (ax (aN (ko cf.n Jaf (hr.mono ∅) (af 0) (ah (aM (af 1) aj) (ah (aM (af 1) aj) (ah (aM (af 1) aj) (ah (aM (af 1) aj) ap))))))))
theorem yn (z:Zs mg)(d:bA K mg "_law_when" im ["cell","k","tellings","scale"])(bc:bm P w K mg base 1 "_law_stir" ["cell","k"] aS):bm P w K mg base 2 "_law_when" ["cell","k","tellings","scale"] du :=
 okP (k:=1) d ez λf AX A outer s H E hr=>
  (ao (aU 4 ez.nd (aG bc (hr.mono ∅) (ah (bu (af 0)) (ah (bu (cj (af 1) aj)) ap))))
  (ao (aU 5 ez.nd (qc (bV (af 4) (cj (gW rfl (z 2 _ rfl) (ah (af 2) ap)) aj)) aj))
  (ao (aU 6 ez.nd (qc (qd (qc (bV (fS (af 4) aj) aj) aj) (af 3)) (bV (fS (af 4) aj) aj)))
  (ao (b9 (zm (n9 (rE hr.units (af 2) (i9 ap)) (lK (lC hr.units (bV (fS (af 4) aj) aj) aj))))
  (ao (p7 7 [] ["end"] [] rfl (show aO (ai im) _ ["end"] [] by ac_rfl) ez.nd (dW (AV (aM (af 2) (bV (fS (af 4) aj) (gW rfl (z 2 _ rfl) (ah (af 2) ap)))) (oS aj) rL)) (λcl C s₂ H₂ fp=>{(cO 0 (show(["end"]:Tn).Nodup by decide)),(EG (tX (af 0))),(af 0)}))
  (ax (b9 (rE hr.units (af 7) (i9 ap))
  (ax (aU 6 ez.nd (qc (aM (af 7) aj) (bV (fS (af 4) aj) aj))))
  bn)))
  bn)
  (ax (aN (cH (ah (af 6) (ah (af 5) ap)))))))))
theorem JD2 (z:Zs mg)(d:bA K mg "_law_in" nu ["telling","day"])  : bm P w K mg base 1 "_law_in" ["telling","day"] jc :=
 okP (k:=0) d JAr λf AX A outer s H E hr=>
  (ao (b9 (zm (n9 (tX (aM (af 0) aj)) (lK (NS (af 1) (aM (af 0) aj)))))
  (ax (aN iM))
  bn)
  (ax (aN (OD (OF (aM (af 0) aj)) (sA (Ra (af 1) (aM (af 0) aj)))))))
theorem wg (z:Zs mg)(d:bA K mg "_law_plain" jl ["tellings","name","keys","day","turn"])(qB:bm P w K mg base 1 "_law_in" ["telling","day"] jc):iH P w K mg base 2 "_law_plain" ["tellings","name","keys","day","turn"] (eB (!HS.bt w)) :=
 okN (k:=1) d gC λf AX A outer s H E hr=>
  (ao (aU 5 gC.nd OG)
  (ao (i7 rfl (dW (AV (af 0) rL (oS (OE rfl rfl (z 7 _ rfl) (ah aj (ah (af 4) ap)))))) (cO 6 gC.nd)
  (ax (b9 (zm (n9 (lC hr.units (aM (af 6) aj) (af 1)) (lK (dG (aG qB (hr.mono ∅) (ah (bu (af 6)) (ah (bu (af 3)) ap)))))))
  (ao (aU 7 gC.nd (JP (aM (af 6) aj) rL (oS (af 2))))
  (ao (sw (bu (aM (af 6) aj)) (O7 hr.units (af 5) (af 7)))
  (ax (b9 (lC hr.units (aM (af 6) aj) gl)
  (ax (eL (Lm hr.units (af 5) (af 7))))
  bn))))
  bn)) PassesOwn.never)
  (ax (aN (Lk rfl rfl (z 4 _ rfl) (af 5))))))
theorem yp (z:Zs mg)(d:bA K mg "_law_lies" j6 ["plot","day","turn"])  : bm P w K mg base 1 "_law_lies" ["plot","day","turn"] d8 :=
 okP (k:=0) d bU λf AX A outer s H E hr=>
  (ao (sw (aM (af 0) aj) (wA rfl (bY (cO 3 bU.nd) (bY (cO 4 bU.nd) kH))))
  (ao (i7 rfl (dW (aM (af 0) aj)) (wA rfl (bY (cO 5 bU.nd) (bY (cO 6 bU.nd) kH)))
  (ax (b9 (Cn (af 5) (af 2))
  (ax (sw (af 6) (wA rfl (bY (cO 3 bU.nd) (bY (cO 4 bU.nd) kH)))))
  bn)) PassesOwn.never)
  (ao (i7 rfl (dW (af 4)) (cO 7 bU.nd)
  (ax (b9 (Cn (af 7) (af 1))
  (ax (aU 3 bU.nd (vL (af 3))))
  bn)) PassesOwn.never)
  (ax (aN (af 3))))))
theorem wc (z:Zs mg)(d:bA K mg "_law_whole" ji ["thing"])  : bm P w K mg base 1 "_law_whole" ["thing"] dq :=
 okP (k:=0) d t5 λf AX A outer s H E hr=>
  (ax (aN (zB (kq JBn rfl (z 8 _ rfl) rfl (z 10 _ rfl) JBg (af 0)) (sA (vL (kq qx rfl (z 8 _ rfl) rfl (z 9 _ rfl) qT (af 0)))))))
theorem we (z:Zs mg)(d:bA K mg "_law_rises" jj ["some"])(eD:bm P w K mg base 1 "_law_whole" ["thing"] dq):bm P w K mg base 2 "_law_rises" ["some"] bX :=
 okP (k:=1) d mF λf AX A outer s H E hr=>
  (ao (i7 rfl (Hx rfl (z 6 _ rfl) (gW rfl (z 2 _ rfl) (ah (af 0) ap))) (cO 1 mF.nd)
  (ax (b9 (zm (oI (gh (dG (aG eD (hr.mono ∅) (ah (bu (aM (af 0) (af 1))) ap)))) (pG (zm (n9 (QZ (af 1) aj) (lK (Cn (aM (af 0) (af 1)) (aM (af 0) (qc (af 1) aj)))))))))
  (ax (aN iM))
  bn)) PassesOwn.never)
  (ax (aN iM)))
theorem qz (z:Zs mg)(d:bA K mg "_law_is_reach" fY ["thing"])(eE:bm P w K mg base 2 "_law_rises" ["some"] bX):bm P w K mg base 3 "_law_is_reach" ["thing"] cq :=
 okP (k:=2) d oO λf AX A outer s H E hr=>
  (ao (b9 (zm (oI (gh (dG (kq dz rfl (z 8 _ rfl) rfl (z 5 _ rfl) dA (af 0)))) (oI (rE hr.units (gW rfl (z 2 _ rfl) (ah (af 0) ap)) aj) (pG (gh (dG (kq qx rfl (z 8 _ rfl) rfl (z 9 _ rfl) qT (aM (af 0) aj))))))))
  (ax (aN iM))
  bn)
  (ax (aN (zB (kq dz rfl (z 8 _ rfl) rfl (z 5 _ rfl) dA (aM (af 0) aj)) (sA (aG eE (hr.mono ∅) (ah (bu (aM (af 0) aj)) ap)))))))
theorem rQ (z:Zs mg)(d:bA K mg "_law_is_plot" eJ ["thing"])(eE:bm P w K mg base 2 "_law_rises" ["some"] bX)(eW:bm P w K mg base 3 "_law_is_reach" ["thing"] cq):bm P w K mg base 4 "_law_is_plot" ["thing"] dP :=
 okP (k:=3) d eK λf AX A outer s H E hr=>
  (ao (b9 (zm (oI (gh (dG (kq dz rfl (z 8 _ rfl) rfl (z 5 _ rfl) dA (af 0)))) (oI (rE hr.units (gW rfl (z 2 _ rfl) (ah (af 0) ap)) aj) (pG (gh (dG (aG eW (hr.mono ∅) (ah (bu (aM (af 0) aj)) ap))))))))
  (ax (aN iM))
  bn)
  (ao (b9 (gh (dG (kq dz rfl (z 8 _ rfl) rfl (z 5 _ rfl) dA (aM (af 0) aj))))
  (ax (aN iM))
  bn)
  (ao (aU 1 eK.nd (aM (af 0) aj))
  (ao (i7 rfl (dW (aM (af 0) aj)) (cO 2 eK.nd)
  (ao (b9 (zm (oI (gh (dG (kq dz rfl (z 8 _ rfl) rfl (z 5 _ rfl) dA (af 2)))) (oI (rE hr.units (gW rfl (z 2 _ rfl) (ah (af 2) ap)) aj) (oI (gh (dG (aG eW (hr.mono ∅) (ah (bu (aM (af 2) aj)) ap)))) (pG (lC hr.units (aM (af 2) aj) (af 1)))))))
  (ax (aN iM))
  bn)
  (ax (aU 1 eK.nd (aM (af 2) aj)))) PassesOwn.never)
  (ax (aN (aG eE (hr.mono ∅) (ah (bu (gX [] ["step"] [] rfl (show aO (ai eJ) _ ["step"] [] by ac_rfl) (dW (aM (af 0) aj)) (λcl C s₂ H₂ fp=>{(cO 0 (show(["step"]:Tn).Nodup by decide)),mV,(aM (af 0) aj)}))) ap))))))))
theorem qy (z:Zs mg)(d:bA K mg "_law_is_table" cQ ["thing","width"])(iR:bm P w K mg base 4 "_law_is_plot" ["thing"] dP)(eD:bm P w K mg base 1 "_law_whole" ["thing"] dq):bm P w K mg base 5 "_law_is_table" ["thing","width"] (bC (!HS.bt w)) :=
 okP (k:=4) d fZ λf AX A outer s H E hr=>
  (ao (b9 (gh (dG (kq yi rfl (z 8 _ rfl) rfl (z 0 _ rfl) yM (af 0))))
  (ax (aN iM))
  bn)
  (ao (i7 rfl (dW (af 0)) (cO 2 fZ.nd)
  (ao (b9 (zm (oI (gh (dG (kq dz rfl (z 8 _ rfl) rfl (z 5 _ rfl) dA (af 2)))) (oI (rE hr.units (gW rfl (z 2 _ rfl) (ah (af 2) ap)) aj) (pG (gh (dG (kq dz rfl (z 8 _ rfl) rfl (z 5 _ rfl) dA (aM (af 2) aj))))))))
  (ax (aN iM))
  bn)
  (ao (b9 (zm (oI (rE hr.units (gW rfl (z 2 _ rfl) (ah (aM (af 2) aj) ap)) (af 1)) (pG (gh (dG (OJ rfl rfl (z 11 _ rfl) (ah (gX [] ["one"] [] rfl (show aO (ai cQ) _ ["one"] [] by ac_rfl) (dW (aM (af 2) aj)) (λcl C s₂ H₂ fp=>{(cO 0 (show(["one"]:Tn).Nodup by decide)),mV,(aG eD (hr.mono ∅) (ah (bu (af 0)) ap))})) ap)))))))
  (ax (aN iM))
  bn)
  (ax (b9 (zm (oI (gh (dG (aG iR (hr.mono ∅) (ah (bu (aM (af 2) aj)) ap)))) (pG (lC hr.units (aM (af 2) aj) (cH (ah (cH (ah iM (ah (cH ap) ap))) (ah (cH ap) ap)))))))
  (ax (aN iM))
  bn)))) PassesOwn.never)
  (ao (p7 3 [] ["entry"] [] rfl (show aO (ai cQ) _ ["entry"] [] by ac_rfl) fZ.nd (dW (af 0)) (λcl C s₂ H₂ fp=>{(cO 0 (show(["entry"]:Tn).Nodup by decide)),mV,(aM (af 0) aj)}))
  (ax (aN (Lu hr.units (af 3) (Rb rfl hr.units rfl (z 4 _ rfl) rfl (z 3 _ rfl) (af 3))))))))
theorem JD3 (z:Zs mg)(d:bA K mg "_law_at" kW ["table","day","turn"])(l5:bm P w K mg base 1 "_law_lies" ["plot","day","turn"] d8):iH P w K mg base 2 "_law_at" ["table","day","turn"] eP :=
 okN (k:=1) d JAs λf AX A outer s H E hr=>
  (ax (aN (gX [1,2] ["row","plot"] ["day","turn"] rfl (show aO (ai kW) _ ["row","plot"] ["day","turn"] by ac_rfl) (dW (af 0)) (λcl C s₂ H₂ fp=>{(wA rfl (bY (cO 0 (show(["row","plot","day","turn"]:Tn).Nodup by decide)) (bY (cO 1 (show(["row","plot","day","turn"]:Tn).Nodup by decide)) kH))),(EG (dG (aG l5 (hr.mono ∅) (ah (bu (af 1)) (ah (bu (af 2)) (ah (bu (af 3)) ap)))))),(af 0)}))))
theorem wf (z:Zs mg)(d:bA K mg "_law_right" jk ["book","shape","tellings","cell","scale"])(l4:bm P w K mg base 2 "_law_when" ["cell","k","tellings","scale"] du)(kE:iH P w K mg base 2 "_law_plain" ["tellings","name","keys","day","turn"] (eB (!HS.bt w)))(qD:iH P w K mg base 2 "_law_at" ["table","day","turn"] eP)(Jaa:fj P w K mg base 2 "table" qC ["self","name"] bi):oF P w K mg base 3 "_law_right" ["book","shape","tellings","cell","scale"] (dh (!HS.bt w)) :=
 okW (k:=2) d gB λf AX A outer s H E hr=>
  (ao (sw (iq (ut l4) (hr.mono ∅) (ah (af 3) (ah aj (ah (af 2) (ah (af 4) ap))))) (wA rfl (bY (cO 5 gB.nd) (bY (cO 6 gB.nd) kH))))
  (ao (aU 7 gB.nd (k8 kE (hr.mono ∅) (ah (af 2) (ah (aM (af 1) aj) (ah (aM (af 1) aj) (ah (af 5) (ah (af 6) ap)))))))
  (ax (aN (Lu hr.units (k8 (JD1 qD) (hr.mono ∅) (ah (ko cf.n Jaa (hr.mono ∅) (af 0) (ah (aM (af 1) aj) ap)) (ah (af 5) (ah (af 6) ap)))) (af 7))))))
theorem OZ {f:A4}(z:Zs mg)(F:pF K "law" "law" xH f fd)(jC:bm P w K mg base 2 "_law_shapes" ["cell"] dB)(Jam:fj P w K mg base 1 "__init__" qC ["self","shapes"] cF)(jD:bm P w K mg base 1 "_law_cell" ["script","k"] cL)(kF:oF P w K mg base 6 "_law_asked" ["book","telling"] (eh (!HS.bt w)))(iQ:bm P w K mg base 2 "_law_telling" ["cell","shapes","scale"] c8)(iw:oF P w K mg base 3 "_law_right" ["book","shape","tellings","cell","scale"] (dh (!HS.bt w)))(g9:bm P w K mg base 5 "_law_is_table" ["thing","width"] (bC (!HS.bt w)))(bc:bm P w K mg base 1 "_law_stir" ["cell","k"] aS)(Jaa:fj P w K mg base 2 "table" qC ["self","name"] bi):cC P w K mg base lB 7 f fd ["script"] (BU K 1 (v6 (!HS.bt w))) :=
 MD (k:=6) F jr λAX A outer s H E hr=>
  (ao (aU 1 jr.nd (aG jC (hr.mono ∅) (ah (bu (aG jD (hr.mono ∅) (ah (bu (af 0)) (ah aj ap)))) ap)))
  (ao (aU 2 jr.nd (aM (i9 (ah aj (ah aj (ah (Di aj aj) ap)))) (bV (aG jD (hr.mono ∅) (ah (bu (af 0)) (ah aj ap))) aj)))
  (ao (aU 3 jr.nd (uc cf.n cf.mks cf.kp Jam (hr.mono ∅) (ah (af 1) ap)))
  (ao (aU 4 jr.nd (i9 ap))
  (ao (i7 rfl (dW (AV (af 0) rL (oS aj))) (cO 5 jr.nd)
  (ao (eL (qe (af 4) (ah (aG iQ (hr.mono ∅) (ah (bu (af 5)) (ah (bu (af 1)) (ah (bu (af 2)) ap)))) ap)))
  (ao (eL (mJ kF (hr.mono ∅) (ah (af 3) (ah (aM (af 4) (vM aj)) ap))))
  (ao (aU 6 jr.nd (aM (af 1) (bV (aG bc (hr.mono ∅) (ah (bu (af 5)) (ah aj ap))) (gW rfl (z 2 _ rfl) (ah (af 1) ap)))))
  (ax (b9 (gh (dG (mJ iw (hr.mono ∅) (ah (af 3) (ah (af 6) (ah (af 4) (ah (cj (af 5) aj) (ah (af 2) ap))))))))
  (ax (aN iM))
  bn))))) PassesOwn.never)
  (ao (i7 rfl (dW (af 1)) (cO 6 jr.nd)
  (ax (b9 (gh (dG (iq (ut g9) (hr.mono ∅) (ah (ko cf.n Jaa (hr.mono ∅) (af 3) (ah (aM (af 6) aj) ap)) (ah (aM (af 6) aj) ap)))))
  (ax (aN iM))
  bn)) PassesOwn.never)
  (ao (i7 rfl (dW (Lw (i9 (ah aj ap)) (AV (af 0) rL (oS aj)))) (cO 5 jr.nd)
  (ax (b9 (gh (dG (mJ iw (hr.mono ∅) (ah (af 3) (ah (aM (af 1) (bV (aG bc (hr.mono ∅) (ah (bu (af 5)) (ah aj ap))) (gW rfl (z 2 _ rfl) (ah (af 1) ap)))) (ah (af 4) (ah (af 5) (ah (af 2) ap))))))))
  (ax (aN iM))
  bn)) PassesOwn.never)
  (ax (aN iM)))))))))
end
set_option maxHeartbeats 4000000 in
def MY {l:PySem.W.OpenLaw}{w:AM}{K:AP}{h:AI}{mg:Td}{fa qC:A4}(X:K.In h)(G:h.Ns mainGlobals mg)(hfa:mg "law" = some (.ref fa))
  (aC:PySem.W.nsIn K mainGlobals "Book" = some (some (.ref qC))) (pg:PySem.W.plainGet K qC Str.empty=true) (hd:PySem.W.hasDictIn K qC=true) (po:PySem.W.plainOver K qC=true) (sa:PySem.W.findIn K (.ref qC) "__setattr__" = some (some (.builtin "object.__setattr__"))) (mk:PySem.W.makesIn K qC=true) (kc:PySem.W.keepIn K (.ref qC)=true)
  (n_shape_list:PySem.W.findIn K (.ref qC) "shape_list" = some none)
  (n_tellings:PySem.W.findIn K (.ref qC) "tellings" = some none)
  (n_tables_now:PySem.W.findIn K (.ref qC) "tables_now" = some none)
  (a0:M5 K qC "__init__" "Book.__init__" gz)
  (a1:M5 K qC "take" "Book.take" jp)
  (a2:M5 K qC "tell" "Book.tell" jo)
  (a3:M5 K qC "strike" "Book.strike" gS)
  (a4:M5 K qC "table" "Book.table" iK)
  (a5:FK K "truth_by" j3)
  (a6:FK K "stretch_of" iI)
  (a7:FK K "blend" j8)
  (a8:FK K "all_spots" jn)
  (a9:FK K "table_of" fP)
  (a10:FK K "shape_of" j4)
  (a11:FK K "check_width" gR)
  (a12:FK K "check_stretch" fu)
  (a13:FK K "is_tell" lR)
  (a14:FK K "check_telling" fq)
  (a15:FK K "last_reach" iJ)
  (a16:FK K "stepped" lQ)
  (a17:FK K "told_on" lP)
  (a18:FK K "_law_cell" j7)
  (a19:FK K "_law_stir" j5)
  (a20:FK K "_law_shapes" fI)
  (a21:FK K "_law_telling" eI)
  (a22:FK K "_law_asked" jm)
  (a23:FK K "_law_when" im)
  (a24:FK K "_law_in" nu)
  (a25:FK K "_law_plain" jl)
  (a26:FK K "_law_lies" j6)
  (a27:FK K "_law_whole" ji)
  (a28:FK K "_law_rises" jj)
  (a29:FK K "_law_is_reach" fY)
  (a30:FK K "_law_is_plot" eJ)
  (a31:FK K "_law_is_table" cQ)
  (a32:FK K "_law_at" kW)
  (a33:FK K "_law_right" jk)
  (a34:FK K "law" xH)
  {Jax:A4} {Jbh:Nat} {Jbi:AD (Tg)} {Jas:A4} {Ja4:Nat} {Ja5:AD (Tg)} {Jau:A4} {Jbb:Nat} {Jbc:AD (Tg)} {Jar:A4} {Ja0:Nat} {Ja1:AD (Tg)} {Jba:A4} {Jb0:Nat} {Jb1:AD (Tg)} {Jay:A4} {Jbj:Nat} {Jbk:AD (Tg)} {Jaz:A4} {Jbl:Nat} {Jbm:AD (Tg)} {Jat:A4} {Ja6:Nat} {Ja7:AD (Tg)} (Jan:PySem.W.nsIn K mainGlobals "NO_NUMBERS" = some (some (.ref Jax))) (Jao:K.lookup Jax=some {.type "tuple",none,.seq ([(.bool false),(.ref Jas)]:Te).toArray Jbh,Jbi}) (Jag:K.lookup Jas=some {.type "tuple",none,.seq ([]:Te).toArray Ja4,Ja5}) (Jaj:PySem.W.nsIn K mainGlobals "ALL_NUMBERS" = some (some (.ref Jau))) (Jak:K.lookup Jau=some {.type "tuple",none,.seq ([(.bool true),(.ref Jar)]:Te).toArray Jbb,Jbc}) (Jad:K.lookup Jar=some {.type "tuple",none,.seq ([]:Te).toArray Ja0,Ja1}) (Jav:PySem.W.nsIn K mainGlobals "NO_SPOTS" = some (some (.ref Jba))) (Jaw:K.lookup Jba=some {.type "tuple",none,.seq ([(.ref Jaz),(.ref Jay)]:Te).toArray Jb0,Jb1}) (Jap:K.lookup Jay=some {.type "tuple",none,.seq ([]:Te).toArray Jbj,Jbk}) (Jaq:K.lookup Jaz=some {.type "tuple",none,.seq ([(.bool false),(.ref Jat)]:Te).toArray Jbl,Jbm}) (Jah:K.lookup Jat=some {.type "tuple",none,.seq ([]:Te).toArray Ja6,Ja7}) (z0:PySem.W.nsIn K mainGlobals "list" = some none) (z1:PySem.W.nsIn K mainGlobals "dict" = some none) (z2:PySem.W.nsIn K mainGlobals "len" = some none) (z3:PySem.W.nsIn K mainGlobals "set" = some none) (z4:PySem.W.nsIn K mainGlobals "sorted" = some none) (z5:PySem.W.nsIn K mainGlobals "tuple" = some none) (z6:PySem.W.nsIn K mainGlobals "range" = some none) (z7:PySem.W.nsIn K mainGlobals "max" = some none) (z8:PySem.W.nsIn K mainGlobals "isinstance" = some none) (z9:PySem.W.nsIn K mainGlobals "bool" = some none) (z10:PySem.W.nsIn K mainGlobals "int" = some none) (z11:PySem.W.nsIn K mainGlobals "all" = some none) :
  ∃fd:FuncData,(∀(s:A1) (v:A3),BindsTo s fd {[v],[]} [("script",v)])/\∀base:AI,K.In base->base.Ns mainGlobals mg->cC l.prog w K mg base lB 7 fa fd ["script"] (λvs H Q E=>∀b,BU K 1 (v6 b) vs H Q E):=by
 have z:Zs mg:=(dZ (Em X G z0) (dZ (Em X G z1) (dZ (Em X G z2) (dZ (Em X G z3) (dZ (Em X G z4) (dZ (Em X G z5) (dZ (Em X G z6) (dZ (Em X G z7) (dZ (Em X G z8) (dZ (Em X G z9) (dZ (Em X G z10) (dZ (Em X G z11) Kb))))))))))));have Jai:iW K mg "NO_NUMBERS" (.tup [(.bl false),(.tup [])]):=qO (zcu X G Jan) (kK Jao (show 2<=sizeLine by decide) (fW Fc (fW (kK Jag (show 0<=sizeLine by decide) iD) iD)));have Jae:iW K mg "ALL_NUMBERS" (.tup [(.bl true),(.tup [])]):=qO (zcu X G Jaj) (kK Jak (show 2<=sizeLine by decide) (fW Fc (fW (kK Jad (show 0<=sizeLine by decide) iD) iD)));have Jac:iW K mg "NO_SPOTS" (.tup [(.tup [(.bl false),(.tup [])]),(.tup [])]):=qO (zcu X G Jav) (kK Jaw (show 2<=sizeLine by decide) (fW (kK Jaq (show 2<=sizeLine by decide) (fW Fc (fW (kK Jah (show 0<=sizeLine by decide) iD) iD))) (fW (kK Jap (show 0<=sizeLine by decide) iD) iD)));have cf:CF K mg qC:={{aC,zcu X G aC,⟨pg,hd,po,sa⟩},n_shape_list,n_tellings,n_tables_now,mk,kc};have Jbr:=a0.at_ (ps:=["self","shapes"]) (λ_ _ _ _ _ _=>yY λ_ _=>rfl);have Jbs:=a1.at_ (ps:=["self","telling"]) (λ_ _ _ _ _ _=>yY λ_ _=>rfl);have Jbt:=a2.at_ (ps:=["self","name","row","low","high"]) (λ_ _ _ _ _ _=>P5 λ_ _ _ _ _=>rfl);have Jbd:=a3.at_ (ps:=["self","name","key","low","high"]) (λ_ _ _ _ _ _=>P5 λ_ _ _ _ _=>rfl);have Jbn:=a4.at_ (ps:=["self","name"]) (λ_ _ _ _ _ _=>yY λ_ _=>rfl);have Jb2:=a5.at_ (ps:=["word","one","other"]) X G (λ_ _ _ _ _ _=>Kg λ_ _ _=>rfl);have Jbo:=a6.at_ (ps:=["low","high"]) X G (λ_ _ _ _ _ _=>yY λ_ _=>rfl);have Jce:=a7.at_ (ps:=["one","other","word"]) X G (λ_ _ _ _ _ _=>Kg λ_ _ _=>rfl);have Jbu:=a8.at_ (ps:=["plots"]) X G (λ_ _ _ _ _ _=>BZ λ_=>rfl);have Jb3:=a9.at_ (ps:=["pairs"]) X G (λ_ _ _ _ _ _=>BZ λ_=>rfl);have Jb4:=a10.at_ (ps:=["shapes","name"]) X G (λ_ _ _ _ _ _=>yY λ_ _=>rfl);have Jbe:=a11.at_ (ps:=["numbers","width"]) X G (λ_ _ _ _ _ _=>yY λ_ _=>rfl);have Ja2:=a12.at_ (ps:=["low","high"]) X G (λ_ _ _ _ _ _=>yY λ_ _=>rfl);have Jb9:=a13.at_ (ps:=["telling"]) X G (λ_ _ _ _ _ _=>BZ λ_=>rfl);have Ja3:=a14.at_ (ps:=["shapes","telling"]) X G (λ_ _ _ _ _ _=>yY λ_ _=>rfl);have Jbp:=a15.at_ (ps:=["plot"]) X G (λ_ _ _ _ _ _=>BZ λ_=>rfl);have Jca:=a16.at_ (ps:=["plot","turn","reach"]) X G (λ_ _ _ _ _ _=>Kg λ_ _ _=>rfl);have Jcb:=a17.at_ (ps:=["table","keys","telling","turn"]) X G (λ_ _ _ _ _ _=>QX λ_ _ _ _=>rfl);have Jb5:=a18.at_ (ps:=["script","k"]) X G (λ_ _ _ _ _ _=>yY λ_ _=>rfl);have Jb6:=a19.at_ (ps:=["cell","k"]) X G (λ_ _ _ _ _ _=>yY λ_ _=>rfl);have Jbq:=a20.at_ (ps:=["cell"]) X G (λ_ _ _ _ _ _=>BZ λ_=>rfl);have Jbf:=a21.at_ (ps:=["cell","shapes","scale"]) X G (λ_ _ _ _ _ _=>Kg λ_ _ _=>rfl);have Jbv:=a22.at_ (ps:=["book","telling"]) X G (λ_ _ _ _ _ _=>yY λ_ _=>rfl);have Jb7:=a23.at_ (ps:=["cell","k","tellings","scale"]) X G (λ_ _ _ _ _ _=>QX λ_ _ _ _=>rfl);have Jcc:=a24.at_ (ps:=["telling","day"]) X G (λ_ _ _ _ _ _=>yY λ_ _=>rfl);have Jbw:=a25.at_ (ps:=["tellings","name","keys","day","turn"]) X G (λ_ _ _ _ _ _=>P5 λ_ _ _ _ _=>rfl);have Jb8:=a26.at_ (ps:=["plot","day","turn"]) X G (λ_ _ _ _ _ _=>Kg λ_ _ _=>rfl);have Jbx:=a27.at_ (ps:=["thing"]) X G (λ_ _ _ _ _ _=>BZ λ_=>rfl);have Jby:=a28.at_ (ps:=["some"]) X G (λ_ _ _ _ _ _=>BZ λ_=>rfl);have Ja8:=a29.at_ (ps:=["thing"]) X G (λ_ _ _ _ _ _=>BZ λ_=>rfl);have Jbg:=a30.at_ (ps:=["thing"]) X G (λ_ _ _ _ _ _=>BZ λ_=>rfl);have Ja9:=a31.at_ (ps:=["thing","width"]) X G (λ_ _ _ _ _ _=>yY λ_ _=>rfl);have Jcd:=a32.at_ (ps:=["table","day","turn"]) X G (λ_ _ _ _ _ _=>Kg λ_ _ _=>rfl);have Jbz:=a33.at_ (ps:=["book","shape","tellings","cell","scale"]) X G (λ_ _ _ _ _ _=>P5 λ_ _ _ _ _=>rfl);obtain⟨fdL,FL,bL⟩:=a34.law (ps:=["script"]) X G hfa (λ_ _ _ _ _ _=>BZ λ_=>rfl);refine{fdL,λs v=>bL s [v] rfl,λbase _ _=>?_};have Jam:=wo (P:=l.prog) (w:=w) (base:=base) cf z Jbr
 have jA:=yk (P:=l.prog) (w:=w) (base:=base) cf z Jb2
 have jB:=uw (P:=l.prog) (w:=w) (base:=base) cf z Jbo Jai Jae;have kG:=wl (P:=l.prog) (w:=w) (base:=base) cf z Jbu;have cN:=ym (P:=l.prog) (w:=w) (base:=base) cf z Jb4;have iS:=rR (P:=l.prog) (w:=w) (base:=base) cf z Jbe;have f9:=oV (P:=l.prog) (w:=w) (base:=base) cf z Ja2;have fF:=JBt (P:=l.prog) (w:=w) (base:=base) cf z Jb9;have dD:=uy (P:=l.prog) (w:=w) (base:=base) cf z Jbp;have jD:=yq (P:=l.prog) (w:=w) (base:=base) cf z Jb5;have bc:=yo (P:=l.prog) (w:=w) (base:=base) cf z Jb6;have qB:=JD2 (P:=l.prog) (w:=w) (base:=base) cf z Jcc;have l5:=yp (P:=l.prog) (w:=w) (base:=base) cf z Jb8;have eD:=wc (P:=l.prog) (w:=w) (base:=base) cf z Jbx;have Jaa:=uz (P:=l.prog) (w:=w) (base:=base) cf z Jbn cN;have uD:=JG1 (P:=l.prog) (w:=w) (base:=base) cf z Jce jA;have lZ:=yl (P:=l.prog) (w:=w) (base:=base) cf z Jb3 kG Jac;have f8:=oU (P:=l.prog) (w:=w) (base:=base) cf z Ja3 cN iS f9 fF;have nQ:=JBs (P:=l.prog) (w:=w) (base:=base) cf z Jca dD;have jC:=ux (P:=l.prog) (w:=w) (base:=base) cf z Jbq bc;have iQ:=rP (P:=l.prog) (w:=w) (base:=base) cf z Jbf bc;have l4:=yn (P:=l.prog) (w:=w) (base:=base) cf z Jb7 bc;have kE:=wg (P:=l.prog) (w:=w) (base:=base) cf z Jbw qB;have eE:=we (P:=l.prog) (w:=w) (base:=base) cf z Jby eD;have qD:=JD3 (P:=l.prog) (w:=w) (base:=base) cf z Jcd l5;have nP:=JBr (P:=l.prog) (w:=w) (base:=base) cf z Jcb jB fF lZ nQ uD dD Jac;have eW:=qz (P:=l.prog) (w:=w) (base:=base) cf z Ja8 eE;have iw:=wf (P:=l.prog) (w:=w) (base:=base) cf z Jbz l4 kE qD Jaa;have Jab:=wn (P:=l.prog) (w:=w) (base:=base) cf z Jbs f8 nP cN;have iR:=rQ (P:=l.prog) (w:=w) (base:=base) cf z Jbg eE eW;have Jal:=wm (P:=l.prog) (w:=w) (base:=base) cf z Jbt Jab;have Jaf:=rS (P:=l.prog) (w:=w) (base:=base) cf z Jbd Jab;have g9:=qy (P:=l.prog) (w:=w) (base:=base) cf z Ja9 iR eD;have kF:=wj (P:=l.prog) (w:=w) (base:=base) cf z Jbv Jaf Jal;exact(OZ (P:=l.prog) (w:=w) (base:=base) cf z FL jC Jam jD kF iQ iw g9 bc Jaa).imp λ_ _ _ _ h=>h _
end
end LW
namespace LW
open HW
def ve (a0 a1:R)(U:ac):cF [a0,a1] U=(kQ [some a0,some a1] U).bind wE:=rfl
def vd (bt:A8)(a0 a1:R)(U:ac):bM bt [a0,a1] U=(kP bt [some a0,some a1,none,none,none] U).bind wE:=rfl
def vc (bt:A8)(a0 a1 a2 a3 a4:R)(U:ac):em bt [a0,a1,a2,a3,a4] U=(kO bt [some a0,some a1,some a2,some a3,some a4] U).bind wE:=rfl
def rC (bt:A8)(a0 a1 a2 a3 a4:R)(U:ac):c6 bt [a0,a1,a2,a3,a4] U=(iV bt [some a0,some a1,some a2,some a3,some a4] U).bind wE:=rfl
def tV (a0 a1:R)(U:ac):bi [a0,a1] U=(jQ [some a0,some a1] U).bind wE:=rfl
def pL (a0 a1 a2:D):bG [a0,a1,a2]=eX (jL [some (.v a0),some (.v a1),some (.v a2)] []):=rfl
def tS (a0 a1:D):eQ [a0,a1]=eX (jM [some (.v a0),some (.v a1)] []):=rfl
def JEr (bt:A8)(a0 a1 a2:D):lj bt [a0,a1,a2]=eX (uW bt [some (.v a0),some (.v a1),some (.v a2),none,none,none,none,none,none,none,none,none] []):=rfl
def xr (bt:A8)(a0:D):gZ bt [a0]=qI (mi bt [some (.v a0),none,none,none,none] []):=rfl
def xt (a0 a1:D):bQ [a0,a1]=eX (mj [some (.v a0),some (.v a1),none] []):=rfl
def rB (a0 a1:D):dQ [a0,a1]=eX (iU [some (.v a0),some (.v a1),none] []):=rfl
def oK (a0 a1:D):cW [a0,a1]=eX (gg [some (.v a0),some (.v a1)] []):=rfl
def sg (a0:D):bO [a0]=eX (gQ [some (.v a0)] []):=rfl
def oJ (a0 a1:D):bv [a0,a1]=eX (d7 [some (.v a0),some (.v a1),none] []):=rfl
def tU (a0:D):cM [a0]=eX (jP [some (.v a0)] []):=rfl
def AC (a0 a1 a2:D):jb [a0,a1,a2]=eX (lA [some (.v a0),some (.v a1),some (.v a2)] []):=rfl
def JAl (bt:A8)(a0 a1 a2 a3:D):fw bt [a0,a1,a2,a3]=qI (nZ bt [some (.v a0),some (.v a1),some (.v a2),some (.v a3),none,none,none,none,none,none,none] []):=rfl
def xx (a0 a1:D):cL [a0,a1]=eX (jO [some (.v a0),some (.v a1)] []):=rfl
def xv (a0 a1:D):aS [a0,a1]=eX (mn [some (.v a0),some (.v a1),none] []):=rfl
def tT (a0:D):dB [a0]=eX (jN [some (.v a0),none,none,none,none,none,none,none] []):=rfl
def rn (a0 a1 a2:D):c8 [a0,a1,a2]=eX (fN [some (.v a0),some (.v a1),some (.v a2),none,none,none,none,none,none,none,none] []):=rfl
def vb (bt:A8)(a0 a1:R)(U:ac):eh bt [a0,a1] U=(iF bt [some a0,some a1] U).bind wE:=rfl
def xu (a0 a1 a2 a3:D):du [a0,a1,a2,a3]=eX (hJ [some (.v a0),some (.v a1),some (.v a2),some (.v a3),none,none,none,none] []):=rfl
def JA6 (a0 a1:D):jc [a0,a1]=eX (hZ [some (.v a0),some (.v a1)] []):=rfl
def va (bt:A8)(a0 a1 a2 a3 a4:D):eB bt [a0,a1,a2,a3,a4]=qI (kN bt [some (.v a0),some (.v a1),some (.v a2),some (.v a3),some (.v a4),none,none,none] []):=rfl
def xw (a0 a1 a2:D):d8 [a0,a1,a2]=eX (mo [some (.v a0),some (.v a1),some (.v a2),none,none,none,none,none] []):=rfl
def u7 (a0:D):bX [a0]=eX (kL [some (.v a0),none] []):=rfl
def pN (a0:D):cq [a0]=eX (hX [some (.v a0)] []):=rfl
def rA (a0:D):dP [a0]=eX (iT [some (.v a0),none,none] []):=rfl
def pM (bt:A8)(a0 a1:D):bC bt [a0,a1]=eX (hV bt [some (.v a0),some (.v a1),none,none] []):=rfl
def JA7 (a0 a1 a2:D):eP [a0,a1,a2]=qI (qV [some (.v a0),some (.v a1),some (.v a2)] []):=rfl
def u9 (bt:A8)(a0 a1 a2 a3 a4:R)(U:ac):dh bt [a0,a1,a2,a3,a4] U=(kM bt [some a0,some a1,some a2,some a3,some a4,none,none,none] U).bind wE:=rfl
def Nr (bt:A8)(a0:D):v6 bt [a0]=eX (Ft bt [some (.v a0),none,none,none,none,none,none] []):=rfl
abbrev Rc:=A8×Th
abbrev rD (r:Rc):D:=.tup [.bl r.1,.tup (r.2.map .int)]
abbrev sD (p:Int×Rc):D:=.tup [.int p.1,rD p.2]
def jw {n:Nat}{xs:T5 D}(h:okDs n xs=true):d3 (n+1) (.tup xs)=true:=by simpa[d3] using h
def DP {n:Nat}{xs:T5 D}(h:okDs n xs=true):d3 (n+1) (.fl xs)=true:=by simpa[d3] using h
def cp {n:Nat}{x:D}{xs:T5 D}(h:d3 n x=true)(h':okDs n xs=true):okDs n (x::xs)=true:=by simp[okDs,h,h']
def mK {n:Nat}:okDs n []=true:=by cases n <;> rfl
def xX {n:Nat}(r:Rc):d3 (n+2) (rD r)=true:=jw (cp OV (cp (jw (ja _)) mK))
def L4 {n:Nat}(p:Int×Rc):d3 (n+3) (sD p)=true:=jw (cp L6 (cp (xX _) mK))
theorem ue {Z:Type}{n:Nat}{f:Z->D}(h:∀a,d3 n (f a)=true):∀xs:T5 Z,okDs n (xs.map f)=true
 |[]=>mK
 |x::xs=>cp (h x) (ue h xs)
abbrev pD (g:Rc)(qs:T5 (Int×Rc)):D:=.tup [rD g,.tup (qs.map sD)]
def L5 {n:Nat}(g:Rc)(qs:T5 (Int×Rc)):d3 (n+5) (pD g qs)=true:=jw (cp (xX _) (cp (jw (ue (λp=>L4 p) qs)) mK))
def DO (r:Rc):d3 60 (rD r)=true:=xX r
def JW (g:Rc)(qs:T5 (Int×Rc)):d3 60 (pD g qs)=true:=L5 g qs
def wL (r s:Rc):jI (rD r) (rD s)=decide (r=s):=by let⟨a,xs⟩:=r;let⟨b,ys⟩:=s;rwa[rD,mZ,uI,yG,uH,cz,e8,gG,gH,nW,zcJ,Prod.mk.injEq];cases a <;> cases b <;> simp
def PL (p q:Int×Rc):jI (sD p) (sD q)=decide (p=q):=by let⟨a,r⟩:=p;let⟨b,s⟩:=q;have:=wL r s;rwa[sD,mZ,uI,yG,uH,cz,e8,gG,gH,zcJ,Prod.mk.injEq,zdg] at this ⊢;rw[this];congr 1
theorem Ai {Z:Type}[DecidableEq Z]{f:Z->D}(h:∀a b,jI (f a) (f b)=decide (a=b)):∀xs ys:T5 Z,eqDs (xs.map f) (ys.map f)=decide (xs=ys)
 |[],[]=>by simp[cz,e8,gG,gH]
 |[],_::_=>by simp[cz,e8,gG,gH]
 |_::_,[]=>by simp[cz,e8,gG,gH]
 |x::xs,y::ys=>by rwa[AZ,cz,e8,gG,gH,h,Ai h xs ys,List.cons.injEq,zdg]
def PM (g h:Rc)(ps qs:T5 (Int×Rc)):jI (pD g ps) (pD h qs)=decide (g=h/\ps=qs):=by
 show(jI (rD g) (rD h)&&(eqDs (ps.map sD) (qs.map sD)&&true))=_
 rw[wL,Ai PL,zcJ,zdg]
theorem qG:∀xs:Th,flatDs (xs.map .int)=true
 |[]=>rfl
 |x::xs=>by simp[flatDs,cY,qG xs]
def Ac (r:Rc):cY (rD r)=true:=by simp[rD,cY,flatDs,qG]
theorem wC:∀ps:T5 (Int×Rc),flatDs (ps.map sD)=true
 |[]=>rfl
 |p::ps=>by
  show((true&&(cY (rD p.2)&&true))&&flatDs (ps.map sD))=true
  rw[Ac,wC ps];rfl
def JGi (g:Rc)(ps:T5 (Int×Rc)):cY (pD g ps)=true:=by have:=Ac g;rwa[pD,cY,flatDs,wC,zcJ] at *;exact this
abbrev Up (ps:T5 (Int×Rc)):Prop:=ps.Pairwise λa b=>a.1<b.1
def P2:Rc->T5 (Int×Rc)->Prop
 |_,[]=>True
 |g,p::ps=>p.2≠g/\P2 p.2 ps
noncomputable def ra:Rc->T5 (Int×Rc)->Int->Rc
 |g,[],_=>g
 |g,p::ps,t=>if t<p.1 then g else ra p.2 ps t
theorem JFd:∀(g:Rc) (ps:T5 (Int×Rc)) (t:Int),(∀p∈ps,t<p.1)->ra g ps t=g
 |_,[],_,_=>rfl
 |g,p::ps,t,h=>by unfold ra;rw[A7 (h p BB)]
def qW {Z:Type}{f:Z->D}{xs:T5 Z}{k:Nat}{a:Z}(h:xs[k]?=some a):L2.m6 (xs.map f) (k:Int)=some (f a):=uX ∅ (by simp[h])
noncomputable def lst:Rc->T5 (Int×Rc)->Rc
 |g,[]=>g
 |_,p::ps=>lst p.2 ps
theorem v7:∀(g:Rc) (l:T5 (Int×Rc)) (p),lst g (l++[p])=p.2
 |_,[],_=>rfl
 |_,q::l,p=>v7 q.2 l p
theorem AK {Z:Type}{x y:Z}{l:T5 Z}:(x::l).set 0 y=y::l:=rfl
theorem sets {Z:Type}{x y:Z}{l:T5 Z}{n:Nat}:(x::l).set (n+1) y=x::l.set n y:=rfl
def CA {n m:Nat}(h:n<=m)(hm:m<=10000:=by decide):n<sizeLine:=by have:sizeLine=2 ^ 24:=rfl;omega
def Ro {Z:Type}{x:Z}{l:T5 Z}:(x::l)[0]?=some x:=rfl
structure Nj where
 p:Bool
 q:Bool
 last:Bool
 out:Th
noncomputable def bg (w:A8->A8->A8)(a b:Th)(s:Nj)(e:Int):Nj :=
 let p:=if a.contains e then !s.p else s.p
 let q:=if b.contains e then !s.q else s.q
 {p,q,w p q,if w p q != s.last then s.out++[e] else s.out}
noncomputable def je (w:A8->A8->A8)(a b:Th)(p q:A8)(es:Th):Nj:=es.foldl (bg w a b) {p,q,w p q,[]}
noncomputable def bT (a b:Th):Th:=g8 (HS.aL (HS.aL [] a) (HS.aL [] b))
noncomputable def mD (e:Int):D:=.tup [.int e,.bl true]
theorem on:∀(a:Th),nF (a.map mD)=some (a.map λe=>(.inl e,.bl true))
 |[]=>rfl
 |e::a=>by have ih:=on a;rwa[AZ,mD] at ih ⊢;rwa[nF,ih,G3]
def GM (A6:T5 (L2.aI×D))(k x:L2.aI)(v:D):((ir A6 k v).any λkv=>decide (kv.1=x))=((A6.any λkv=>decide (kv.1=x)) || decide (k=x)):=by
 unfold ir;split
 ·rename_i h;have hm:((A6.map λkv=>if kv.1=k then (kv.1,v) else kv).any λkv=>decide (kv.1=x))=A6.any λkv=>decide (kv.1=x):=by rw[zcU];congr 1;funext kv;rwa[Function.comp];split <;> rfl
  rw[hm];by_cases e:k=x
  ·subst e;rw[h];rfl
  ·simp[e]
 ·rw[List.any_append];simp
theorem qf (x:L2.aI):∀(ps A6:T5 (L2.aI×D)),((aX A6 ps).any λkv=>decide (kv.1=x))=((A6.any λkv=>decide (kv.1=x)) || ps.any λkv=>decide (kv.1=x))
 |[],A6=>by simp[aX]
 |p::ps,A6=>by have ih:=qf x ps (ir A6 p.1 p.2);rwa[aX,E8] at ih ⊢;rw[ih,GM,GB,Bool.or_assoc]
theorem JBz (a:Th)(e:Int):((aX [] (a.map λe=>((.inl e:L2.aI),D.bl true))).any λkv=>decide (kv.1=.inl e))=a.contains e:=by
 rw[qf];rwa[List.any_nil,Bool.false_or,zcU];induction a with
 |nil=>rfl
 |cons x a ih=>
  rw[GB,ih,List.contains_cons];congr 1;rwa[Function.comp];by_cases h:x=e
  ·subst h;simp
  ·have h':¬ e=x:=λz=>h z.symm;simp[h,h']
def qQ {a:Th}{U:ac}{O:Lo}:bS (bE 0) gf (cP (ag (ae 0) (ag (fK (.bl true)) am))) (a.map .int) (d6 1 [] O) U=some (a.map mD,U):=by
 have:=wV (g:=bE 0) (c:=gf) (f:=cP (ag (ae 0) (ag (fK (.bl true)) am))) (U:=U) (λO=>∃x,O=[x]) (λ_=>true) (λd=>.tup [d,.bl true]) (xs:=a.map .int) (O:=d6 1 [] O) {none,rfl} (by intro x hx O hO;let⟨y,rfl⟩:=hO;refine{[some (.v x)],rfl,{_,rfl},rfl,λ_=>?_};rwa[EJ,dE,jU,eZ,MJ,jG,eY];exact Ad rfl (show 2<=sizeLine by decide))
 rw[this,zcx.mpr (λ_ _=>rfl),CY];rfl
abbrev Fm:FS:=(aE (fR (fB (au (Hw false) (ae 10) (ae 7)))
  (aV 3 (oX (ae 3)))
  aQ)
  (aE (fR (fB (au (Hw false) (ae 10) (ae 8)))
  (aV 4 (oX (ae 4)))
  aQ)
  (aE (aV 11 (aJ bG 3 (ag (bJ (ae 2)) (ag (bJ (ae 3)) (ag (bJ (ae 4)) am)))))
  (aE (fR (fB (au (gq true) (ae 11) (ae 6)))
  (cS (Bx lF (ae 9) (ag (ae 10) am)))
  aQ)
  (aV 6 (ae 11))))))
theorem Uv {Z:Type}{x y:Z}{l:T5 Z}:(x::y::l)[1]?=some y:=rfl
theorem Ut {Z:Type}{x y z u:Z}{l:T5 Z}:(x::y::z::u::l)[3]?=some u:=rfl
theorem Rn {Z:Type}{x y z u v:Z}{l:T5 Z}:(x::y::z::u::v::l)[4]?=some v:=rfl
def JCr (a b:Th):(HS.aL (HS.aL [] a) (HS.aL [] b)).length<=a.length+b.length:=by have h1:=HS.lh (HS.aL [] b) (HS.aL [] a);have h2:=HS.lh b [];have h3:=HS.lh a [];rwa[Gy] at h2 h3;omega
theorem sN:∀(es:Th),gm (es.map .int)=some es
 |[]=>rfl
 |e::es=>by simp[gm,sN es]
def Ae {bt:A8}{es:Th}{U:ac}(hl:es.length<4000):xL bt [.v (.tup (es.map .int))] U=some (.s bt (HS.aL [] es),U):=by rwa[xL,dL,sN,BJ,A7 hl]
def J4 {bt:A8}{xs ys:Th}{U:ac}(hl:xs.length+ys.length<64):Nc bt (.s bt xs) (.s bt ys) U=some (.s bt (HS.aL xs ys),U):=by rwa[Nc,hl,and_self,if_true]
def JDz {bt:A8}{es:Th}{U:ac}(hl:es.length<64):kX bt [.s bt es] U=some (.p U.length,U++[.lst ((g8 es).map .int)]):=by rwa[kX,hl,and_self,if_true]
def Ah {n:Nat}{a:Th}{U:ac}(h:U[n]?=some (.lst (a.map mD))):qN [.p n] U=some (.p U.length,U++[.dct (aX [] (a.map λe=>(.inl e,.bl true)))]):=by rwa[qN,h,on,BJ]
def ER {n:Nat}{a:Th}{e:Int}{U:ac}(h:U[n]?=some (.dct (aX [] (a.map λe=>(.inl e,.bl true))))):Hw false (.v (.int e)) (.p n) U=some (.v (.bl (a.contains e)),U):=by rwa[Hw,h,Bc,if_false,JBz]
def Nu (w:A8->A8->A8)(wd:Str)(hw:∀(x y:A8) (U:ac),nr (some ([.v (.str wd),.v (.bl x),.v (.bl y)],U)) bG 3=some (.v (.bl (w x y)),U))
  (a b:Th) (s:Nj) (e:Int) (x0 x1 x5 x10 GW:UE R) (c0 c2 c5:aw) (hs:s.out.length<64) :
  M9 (bE 10 (.v (.int e)) [x0,x1,some (.v (.str wd)),some (.v (.bl s.p)),some (.v (.bl s.q)),x5,some (.v (.bl s.last)),bF 1,bF 3,bF 4,x10,GW] [c0,.dct (aX [] (a.map λe=>(.inl e,.bl true))),c2,.dct (aX [] (b.map λe=>(.inl e,.bl true))),.lst (s.out.map .int),c5]) Fm
   = some (.nx [x0,x1,some (.v (.str wd)),some (.v (.bl (bg w a b s e).p)),some (.v (.bl (bg w a b s e).q)),x5,some (.v (.bl (bg w a b s e).last)),bF 1,bF 3,bF 4,bh e,some (.v (.bl (bg w a b s e).last))] [c0,.dct (aX [] (a.map λe=>(.inl e,.bl true))),c2,.dct (aX [] (b.map λe=>(.inl e,.bl true))),.lst ((bg w a b s e).out.map .int),c5]):=by
 rw[uG,rX];rwa[AK,sets,Fm,l7,kJ,MR,oz,lI,jU,kI,l8,ER (n:=1) (a:=a) Uv,EY]
 have T1:vg (some (a.contains e,[c0,.dct (aX [] (a.map λe=>(.inl e,.bl true))),c2,.dct (aX [] (b.map λe=>(.inl e,.bl true))),.lst (s.out.map .int),c5])) (aV 3 (oX (ae 3))) aQ [x0,x1,some (.v (.str wd)),some (.v (.bl s.p)),some (.v (.bl s.q)),x5,some (.v (.bl s.last)),bF 1,bF 3,bF 4,bh e,GW]
   = some (.nx [x0,x1,some (.v (.str wd)),some (.v (.bl (bg w a b s e).p)),some (.v (.bl s.q)),x5,some (.v (.bl s.last)),bF 1,bF 3,bF 4,bh e,GW] [c0,.dct (aX [] (a.map λe=>(.inl e,.bl true))),c2,.dct (aX [] (b.map λe=>(.inl e,.bl true))),.lst (s.out.map .int),c5]):=by
  unfold bg;cases a.contains e <;> rfl
 rw[T1];rwa[iB,l7,kJ,MR,oz,lI,jU,kI,l8,ER (n:=3) (a:=b) Ut,EY]
 have T2:vg (some (b.contains e,[c0,.dct (aX [] (a.map λe=>(.inl e,.bl true))),c2,.dct (aX [] (b.map λe=>(.inl e,.bl true))),.lst (s.out.map .int),c5])) (aV 4 (oX (ae 4))) aQ [x0,x1,some (.v (.str wd)),some (.v (.bl (bg w a b s e).p)),some (.v (.bl s.q)),x5,some (.v (.bl s.last)),bF 1,bF 3,bF 4,bh e,GW]
   = some (.nx [x0,x1,some (.v (.str wd)),some (.v (.bl (bg w a b s e).p)),some (.v (.bl (bg w a b s e).q)),x5,some (.v (.bl s.last)),bF 1,bF 3,bF 4,bh e,GW] [c0,.dct (aX [] (a.map λe=>(.inl e,.bl true))),c2,.dct (aX [] (b.map λe=>(.inl e,.bl true))),.lst (s.out.map .int),c5]):=by
  unfold bg;cases b.contains e <;> rfl
 rw[T2];rwa[iB,l7,nS,pA,dE,Ag,lI,jU,ET,eZ,jG,eY,hw,mW,AK,sets,kJ,MR,oz,kI,l8,ME,EY];have e1:(bg w a b s e).last=w (bg w a b s e).p (bg w a b s e).q:=rfl
 have e2:(bg w a b s e).out=if w (bg w a b s e).p (bg w a b s e).q != s.last then s.out++[e] else s.out:=rfl
 rw[e1,e2];generalize w (bg w a b s e).p (bg w a b s e).q=here
 by_cases hc:here=s.last
 ·have c1:(!(here == s.last))=false:=by simp[hc]
  have c2:(here != s.last)=false:=by simp[hc]
  rw[c1,c2];rwa[ML,HR,iB,nS,lI,jU,mW,AK,sets,Bc,if_false]
 ·have c1:(!(here == s.last))=true:=by simp[hc]
  have c2:(here != s.last)=true:=by simp[hc]
  rw[c1,c2];rwa[yE,H9,PB,lI,jU,MH (n:=4) (xs:=s.out.map .int) Rn,dE,eZ,jG,eY,MG,MQ (n:=4) (xs:=s.out.map .int) Rn (by rw[Az];exact CA (m:=64) ∅),EU,iB,nS,mW,AK,sets,if_true,D6,AZ,CS]
theorem Uu {Z:Type}{x y z:Z}{l:T5 Z}:(x::y::z::l)[2]?=some z:=rfl
theorem w9 (w:A8->A8->A8)(a b:Th):∀(es:Th) (s:Nj),(es.foldl (bg w a b) s).out.length<=s.out.length+es.length
 |[],s=>by simp
 |e::es,s=>by
  have h1:=w9 w a b es (bg w a b s e);have h2:(bg w a b s e).out.length<=s.out.length+1:=by
   have:(bg w a b s e).out=if w (bg w a b s e).p (bg w a b s e).q != s.last then s.out++[e] else s.out:=rfl
   rw[this];split <;> simp
  rwa[E8,C0];omega
set_option maxHeartbeats 4000000 in
def JE0 (bt:A8)(w:A8->A8->A8)(wd:Str)(hw:∀(x y:A8) (U:ac),nr (some ([.v (.str wd),.v (.bl x),.v (.bl y)],U)) bG 3=some (.v (.bl (w x y)),U))
  (p q:A8) (a b:Th) (hl:a.length+b.length<64) :
  lj bt [.tup [.bl p,.tup (a.map .int)],.tup [.bl q,.tup (b.map .int)],.str wd]=some (.tup [.bl (w p q),.tup ((je w a b p q (bT a b)).out.map .int)]):=by
 rw[JEr];have i0:∀(x:A8) (es:Th),L2.m6 [D.bl x,.tup (es.map .int)] 0=some (.bl x):=λ_ _=>rfl;have i1:∀(x:A8) (es:Th),L2.m6 [D.bl x,.tup (es.map .int)] 1=some (.tup (es.map .int)):=λ_ _=>rfl
 have la:(a.map D.int).length<=sizeLine:=by rw[Az];exact GA (CA (m:=64) ∅)
 have lb:(b.map D.int).length<=sizeLine:=by rw[Az];exact GA (CA (m:=64) ∅)
 have ml:=JCr a b;have ma:=HS.lh a [];have mb:=HS.lh b [];rwa[Gy] at ma mb
 simp only[uW,l7,nS,oz,jU,lI,kI,MJ,l8,yD (i0 _ _),mW,AK,sets,iB,pA,dE,Ag,ET,eZ,jG,eY,hw,
  sW,Ia,Af,yD (i1 _ _),EO,wJ (U1:=[]) la qQ,Gy,E7,nU,Ah (n:=0) (a:=a) Ro,C0,zb5,zcn]
 rw[wJ (U1:=[.lst (a.map mD),.dct (aX [] (a.map λe=>(.inl e,.bl true)))]) lb qQ]
 simp only[C0,Gy,zcn,Nat.reduceAdd,zb5,E7,eZ,jG,eY,nU,Ah (n:=2) (a:=b) Uu,mW,AK,sets,iB,l7,nS,MI,JGl (rs:=[]) (ds:=[]) rfl ∅,
  qM,Af,sW,dE,oz,jU,lI,kI,MJ,l8,yD (i1 _ _),Ae (es:=a) (show a.length<4000 by omega),Ae (es:=b) (show b.length<4000 by omega),J4 (xs:=HS.aL [] a) (ys:=HS.aL [] b) (show(HS.aL [] a).length+(HS.aL [] b).length<64 by omega),
  JDz (es:=HS.aL (HS.aL [] a) (HS.aL [] b)) (show(HS.aL (HS.aL [] a) (HS.aL [] b)).length<64 by omega)]
 rw[MM (n:=5) (xs:=(g8 (HS.aL (HS.aL [] a) (HS.aL [] b))).map .int) rfl,EQ,mX]
 have hul:(bT a b).length<64:=by unfold bT;rw[(d9 _).length_eq];omega
 let⟨O',U',el,x10,GW,rfl,rfl⟩:=zQ (g:=bE 10) (b:=Fm) (xs:=(bT a b).map .int)
  (O:=[some (.v (.tup [.bl p,.tup (a.map .int)])),some (.v (.tup [.bl q,.tup (b.map .int)])),some (.v (.str wd)),some (.v (.bl p)),some (.v (.bl q)),some (.v (.bl (w p q))),some (.v (.bl (w p q))),bF 1,bF 3,bF 4,none,none])
  (U:=[.lst (a.map mD),.dct (aX [] (a.map λe=>(.inl e,.bl true))),.lst (b.map mD),.dct (aX [] (b.map λe=>(.inl e,.bl true))),.lst [],.fz ((bT a b).map .int)])
  (λi O U=>∃x10 GW,O=[some (.v (.tup [.bl p,.tup (a.map .int)])),some (.v (.tup [.bl q,.tup (b.map .int)])),some (.v (.str wd)),some (.v (.bl (je w a b p q ((bT a b).take i)).p)),some (.v (.bl (je w a b p q ((bT a b).take i)).q)),some (.v (.bl (w p q))),some (.v (.bl (je w a b p q ((bT a b).take i)).last)),bF 1,bF 3,bF 4,x10,GW] /\
   U=[.lst (a.map mD),.dct (aX [] (a.map λe=>(.inl e,.bl true))),.lst (b.map mD),.dct (aX [] (b.map λe=>(.inl e,.bl true))),.lst ((je w a b p q ((bT a b).take i)).out.map .int),.fz ((bT a b).map .int)])
  {none,none,rfl,rfl} (by
   rintro i x O U hx ⟨x10,GW,rfl,rfl⟩;rw[CG] at hx;let⟨e,he,rfl⟩:=DY.mp hx;have hil:=(C3.mp he).1
   have ht:(bT a b).take (i+1)=(bT a b).take i++[e]:=by rw[List.take_succ,he];rfl
   have hb:je w a b p q ((bT a b).take (i+1))=bg w a b (je w a b p q ((bT a b).take i)) e:=by unfold je;rw[ht,List.foldl_append];rfl
   have Ez:(je w a b p q ((bT a b).take i)).out.length<64:=by
    have:=w9 w a b ((bT a b).take i) {p,q,w p q,[]}
    rwa[Gy,F8,zcn] at this
    unfold je;omega
   rw[hb]
   exact{_,_,Nu w wd hw a b _ e _ _ _ _ _ _ _ _ Ez,_,_,rfl,rfl})
 have el':=el;rw[Az,List.take_length] at el';refine(AQ (λo=>eX (P8 o _)) el').trans ?_;rwa[iB,qK,EJ,dE,lI,jU,eZ,sW,jG,eY,nU,JGk (n:=4) (xs:=(je w a b p q (bT a b)).out.map .int) Rn];rw[Ad (ds:=[.bl (w p q),.tup ((je w a b p q (bT a b)).out.map .int)]) rfl (show 2<=sizeLine by decide),HQ,MN]
theorem JFr {xs ys:Th}(h1:xs.Nodup)(h2:ys.Nodup)(h:∀z,z∈xs ↔ z∈ys):xs.Perm ys:=by
 induction xs generalizing ys with
 |nil=>
  cases ys with
  |nil=>exact .refl _
  |cons y ys=>exact AJ ((h y).mpr ∅) ∅
 |cons x xs ih=>
  let⟨hx,hn⟩:=By.mp h1;have hy:x∈ys:=(h x).mp ∅;have hp:ys.Perm (x::ys.erase x):=List.perm_cons_erase hy;refine(List.Perm.cons x (ih hn (h2.erase x) λz=>?_)).trans hp.symm;rw[h2.mem_erase_iff,←h z,BA];constructor
  ·intro hz;exact{λe=>hx (e ▸ hz),.inr hz}
  ·rintro⟨h1,h2|h2⟩
   ·exact AJ h2 h1
   ·exact h2
def JDk (xs:Th)(k z:Int):z∈HS.cJ xs k ↔ z∈xs\/z=k:=by
 unfold HS.cJ;split
 ·rename_i h;exact{.inl,λq=>q.elim id λe=>e ▸ h}
 ·simp
theorem pq (z:Int):∀(ns xs:Th),z∈HS.aL xs ns ↔ z∈xs\/z∈ns
 |[],xs=>by simp[HS.aL]
 |n::ns,xs=>by have ih:=pq z ns (HS.cJ xs n);rwa[HS.aL,E8] at ih ⊢;rw[ih,JDk,BA,or_assoc]
theorem nH:∀(ns xs:Th),xs.Nodup->(HS.aL xs ns).Nodup
 |[],xs,h=>h
 |n::ns,xs,h=>nH ns _ (HS.qi h)
def i4 (a b:Th):(bT a b).Nodup/\(bT a b).Pairwise (·<=·)/\∀z,z∈bT a b ↔ z∈a\/z∈b:=by unfold bT;refine{(d9 _).nodup_iff.mpr (nH _ _ (nH _ _ zcE)),jz _,λz=>?_};rw[(d9 _).mem_iff,pq,pq,pq];simp
theorem Np {l:Th}(h1:l.Nodup)(h2:l.Pairwise (·<=·)):l.Pairwise (·<·):=by
 induction l with
 |nil=>exact .nil
 |cons x l ih=>
  let⟨a,b⟩:=By.mp h1;let⟨c,d⟩:=D0.mp h2;refine D0.mpr {λy hy=>?_,ih b d};have:=c y hy;have:x≠y:=λe=>a (e ▸ hy);omega
def u6 (a b:Th):(bT a b).Pairwise (·<·):=Np (i4 a b).1 (i4 a b).2.1
noncomputable def Fg (r:Rc)(n:Int):Nat:=(r.2.filter λe=>decide (e<=n)).length
noncomputable def nK (r:Rc)(n:Int):A8:=if Fg r n%2=0 then r.1 else !r.1
noncomputable def xo (b:A8)(n:Nat):A8:=if n%2=0 then b else !b
def tK (b:A8)(n:Nat):xo b (n+1) = !(xo b n):=by
 unfold xo;by_cases h:n%2=0
 ·rw[A7 h,A5 ∅]
 ·rw[A5 h,A7 ∅,Bool.not_not]
def xp (b:A8)(n:Nat):xo (!b) n = !(xo b n):=by unfold xo;split <;> simp
noncomputable def W (w:A8->A8->A8)(r s:Rc):Rc:=(w r.1 s.1,(je w r.2 s.2 r.1 s.1 (bT r.2 s.2)).out)
def JHc (bt:A8)(w:A8->A8->A8)(wd:Str)(hw:∀x y:A8,bG [.str wd,.bl x,.bl y]=some (.bl (w x y)))(r s:Rc)(hl:r.2.length+s.2.length<64):lj bt [rD r,rD s,.str wd]=some (rD (W w r s)) :=
 JE0 bt w wd (λx y U=>JD0 (ds:=[.str wd,.bl x,.bl y]) rfl rfl (hw x y)) r.1 s.1 r.2 s.2 hl
theorem Aq (w:A8->A8->A8)(a b:Th):∀(es:Th) (s:Nj),s.last=w s.p s.q ->
  (es.foldl (bg w a b) s).p=xo s.p (es.filter λe=>a.contains e).length/\(es.foldl (bg w a b) s).q=xo s.q (es.filter λe=>b.contains e).length /\
  (es.foldl (bg w a b) s).last=w (es.foldl (bg w a b) s).p (es.foldl (bg w a b) s).q/\∃l,(es.foldl (bg w a b) s).out=s.out++l/\l.Sublist es/\(es.foldl (bg w a b) s).last=xo s.last l.length
 |[],s,h=>{rfl,rfl,h,[],by simp,List.Sublist.refl _,rfl}
 |e::es,s,h=>by
  let⟨h1,h2,h3,l,h4,h5,h6⟩:=Aq w a b es (bg w a b s e) rfl;rw[E8];refine{?_,?_,h3,?_}
  ·rw[h1]
   have:(bg w a b s e).p=if a.contains e then !s.p else s.p:=rfl
   rw[this]
   by_cases c:a.contains e=true
   ·rw[A7 c,Gu ‹c›,C0,tK,xp]
   ·rw[A5 c,zbp ‹c›]
  ·rw[h2]
   have:(bg w a b s e).q=if b.contains e then !s.q else s.q:=rfl
   rw[this]
   by_cases c:b.contains e=true
   ·rw[A7 c,Gu ‹c›,C0,tK,xp]
   ·rw[A5 c,zbp ‹c›]
  ·have ho:(bg w a b s e).out=if (bg w a b s e).last != s.last then s.out++[e] else s.out:=rfl
   by_cases c:(bg w a b s e).last=s.last
   ·have c':((bg w a b s e).last != s.last)=false:=by rw[c];simp
    rw[c',A5 ∅] at ho;rw[ho] at h4;refine{l,h4,h5.cons e,?_};rw[h6,c]
   ·have c':((bg w a b s e).last != s.last)=true:=by simpa using c
    rw[c',A7 rfl] at ho;rw[ho] at h4;refine{e::l,by rw[h4];simp,h5.cons₂ e,?_};rw[h6,C0,tK,←xp]
    congr 1
    generalize (bg w a b s e).last=x at c;generalize s.last=y at c;cases x <;> cases y <;> simp_all
theorem vt (t:Int):∀(Uzz:Th),Uzz.Pairwise (·<·)->Uzz=Uzz.filter (λe=>decide (e<=t))++Uzz.filter (λe=>!decide (e<=t))
 |[],_=>rfl
 |u::Uzz,h=>by
  let⟨h1,h2⟩:=D0.mp h;by_cases c:u<=t
  ·rw[Gu ‹c›,zbp ‹c›,zb5,←vt t Uzz h2]
  ·have e1:(u::Uzz).filter (λe=>decide (e<=t))=[]:=zcj.mpr λx hx=>by
    rcases BA.mp hx with rfl|hx
    ·simpa using c
    ·have:=h1 x hx;simp;omega
   have e2:(u::Uzz).filter (λe=>!decide (e<=t))=u::Uzz:=zcx.mpr λx hx=>by
    rcases BA.mp hx with rfl|hx
    ·simpa using c
    ·have:=h1 x hx;simp;omega
   rw[e1,e2,E7]
def u5 {a:Th}(h:a.Pairwise (·<·)):a.Nodup:=h.imp λh=>by omega
def MV {a Uzz:Th}(ha:a.Nodup)(hU:Uzz.Nodup)(hs:∀e∈a,e∈Uzz)(t:Int):((Uzz.filter λe=>decide (e<=t)).filter λe=>a.contains e).length=(a.filter λe=>decide (e<=t)).length:=by
 refine(JFr ((hU.filter _).filter _) (ha.filter _) λz=>?_).length_eq;rwa[F7,List.contains_iff_mem,decide_eq_true_eq];constructor
 ·rintro⟨⟨_,h1⟩,h2⟩;exact{h2,h1}
 ·rintro⟨h1,h2⟩;exact{{hs z h1,h2},h1}
def J7 (w:A8->A8->A8)(r s:Rc):(W w r s).2.Sublist (bT r.2 s.2):=by
 let⟨_,_,_,l,h4,h5,_⟩:=Aq w r.2 s.2 (bT r.2 s.2) {r.1,s.1,w r.1 s.1,[]} rfl
 show((bT r.2 s.2).foldl (bg w r.2 s.2) {r.1,s.1,w r.1 s.1,[]}).out.Sublist _
 rw[h4,E7];exact h5
def PV (w:A8->A8->A8)(r s:Rc):(W w r s).2.Pairwise (·<·):=(u6 _ _).sublist (J7 w r s)
def Rm (w:A8->A8->A8)(r s:Rc)(hr:r.2.Pairwise (·<·))(hs:s.2.Pairwise (·<·))(t:Int):nK (W w r s) t=w (nK r t) (nK s t):=by
 let⟨un,us,um⟩:=i4 r.2 s.2;have uu:=u6 r.2 s.2;obtain⟨Uzz,hU⟩:∃Uzz,Uzz=bT r.2 s.2:={_,rfl};let⟨a1,a2,a3,l1,a4,a5,a6⟩:=Aq w r.2 s.2 (Uzz.filter λe=>decide (e<=t)) {r.1,s.1,w r.1 s.1,[]} rfl;let⟨_,_,_,l2,b4,b5,_⟩:=Aq w r.2 s.2 (Uzz.filter λe=>!decide (e<=t)) _ a3;have ho:(W w r s).2=l1++l2:=by
  show((bT r.2 s.2).foldl (bg w r.2 s.2) {r.1,s.1,w r.1 s.1,[]}).out=_
  rw[←hU,vt t Uzz (hU ▸ uu),List.foldl_append,b4,a4,E7]
 have c1:l1.filter (λe=>decide (e<=t))=l1:=zcx.mpr λx hx=>(F7.mp (a5.subset hx)).2;have c2:l2.filter (λe=>decide (e<=t))=[]:=zcj.mpr λx hx=>by have:=(F7.mp (b5.subset hx)).2;simpa using this
 have e1:nK (W w r s) t=xo (w r.1 s.1) l1.length:=by unfold nK Fg xo;rw[ho,List.filter_append,c1,c2,DZ];rfl
 have e2:∀(x:Rc),x.2.Pairwise (·<·)->(∀e∈x.2,e∈Uzz)->nK x t=xo x.1 ((Uzz.filter λe=>decide (e<=t)).filter λe=>x.2.contains e).length:=λx hx hm=>by unfold nK Fg xo;rw[MV (u5 hx) (hU ▸ un) hm t]
 rw[e1,e2 r hr λe he=>hU ▸ (um e).mpr (.inl he),e2 s hs λe he=>hU ▸ (um e).mpr (.inr he),←a1,←a2];exact a6.symm.trans a3
noncomputable def lv:A8->T5 Int->Int->A8
 |b,[],_=>b
 |b,x::xs,d=>if d<x then b else lv (!b) xs d
theorem JGy {d:Int}:∀{xs:Th} {b:A8},(∀x∈xs,d<x)->lv b xs d=b
 |[],_,_=>rfl
 |x::xs,b,h=>by rw[lv,A7 (h x BB)]
abbrev ul (r:Rc)(d:Int):A8:=lv r.1 r.2 d
structure Pf (g:Rc)(qs:List (Int×Rc)):Prop where
 gu:g.2.Pairwise (·<·)
 up:Up qs
 dif:P2 g qs
 ru:∀q∈qs,q.2.2.Pairwise (·<·)
theorem JG:∀{qs:T5 (Int×Rc)} {g:Rc} {t:Int},ra g qs t=g\/∃q∈qs,ra g qs t=q.2
 |[],_,_=>.inl rfl
 |q::qs,g,t=>by
  rw[ra];by_cases z:t<q.1
  ·rw[A7 z];exact .inl rfl
  ·rw[A5 z];rcases JG (qs:=qs) (g:=q.2) (t:=t) with h|⟨p,hp,h⟩
   ·exact .inr {q,BB,h}
   ·exact .inr {p,BF _ hp,h}
def Pf.at {g qs}(p:Pf g qs)(t:Int):(ra g qs t).2.Pairwise (·<·):=by
 rcases JG (qs:=qs) (g:=g) (t:=t) with h|⟨q,hq,h⟩
 ·rw[h];exact p.gu
 ·rw[h];exact p.ru q hq
noncomputable def li (b:A8):Int:=if b=true then 1 else 0
noncomputable def al:Int->T5 Int->Int->Int
 |_,[],_=>0
 |s,x::xs,e=>(if x=e then s else 0)+al (-s) xs e
noncomputable def cn:T5 Rc->Int->Int
 |[],_=>0
 |r::rs,d=>li (ul r d)+cn rs d
noncomputable def c0:T5 Rc->Int
 |[]=>0
 |r::rs=>li r.1+c0 rs
abbrev JA2 (rs:T5 Rc)(d:Int):A8:=rs.any λr=>ul r d
abbrev A0 (rs:T5 Rc):A8:=rs.any (·.1)
noncomputable def wk (h:Int->A8):A8->T5 Int->Th
 |_,[]=>[]
 |s,e::es=>if h e=s then wk h s es else e::wk h (h e) es
structure UI (rs:List Rc)(es:Th):Prop where
 up:es.Pairwise (·<·)
 all:∀x,x∈es ↔ ∃r∈rs,x∈r.2
abbrev Un (rs:T5 Rc)(es:Th):Rc:=(A0 rs,wk (JA2 rs) (A0 rs) es)
def dR {Z:Type}{l:T5 Z}{i:Nat}{a:Z}(h:l[i]?=some a):i<l.length:=(C3.mp h).1
def ye {Z:Type}{cs:T5 Z}{c:Z}:(cs++[c])[cs.length]?=some c:=by simp
def N6:1<=sizeLine:=by decide
def kg {U:ac}{c c':aw}:(U++[c]).set U.length c'=U++[c']:=by simp
abbrev NO:Rc:=(false,[])
abbrev Pl:=Rc×T5 (Int×Rc)
abbrev jY (p:Pl):D:=pD p.1 p.2
structure BP (ES TS:Th)(p:Pl):Prop where
 pf:Pf p.1 p.2
 ge:∀e∈p.1.2,e∈ES
 re:∀q∈p.2,∀e∈q.2.2,e∈ES
 te:∀q∈p.2,q.1∈TS
theorem wU {Z:Type}{c:FT}{f:FE}{rest:Lo}{U:ac}(ea eb:Z->D)(p:Z->A8)(out:Z->D):∀(T:T5 Z) (x0 x1:UE R),(∀a∈T,c (some (.v (ea a))::some (.v (eb a))::rest) U=some (p a,U))->(∀a∈T,p a=true->f (some (.v (ea a))::some (.v (eb a))::rest) U=some (.v (out a),U)) ->
  bS (qE 2 (aK (bE 0) (aK (bE 1) dI))) c f (T.map λa=>.tup [ea a,eb a]) (x0::x1::rest) U=some ((T.filter p).map out,U)
 |[],_,_,_,_=>rfl
 |e::T,x0,x1,h,h'=>by
  have h1:=h e BB;have ih:=wU ea eb p out T (some (.v (ea e))) (some (.v (eb e))) (λb hb=>h b (BF _ hb)) (λb hb=>h' b (BF _ hb));have hg:qE 2 (aK (bE 0) (aK (bE 1) dI)) (.v (.tup [ea e,eb e])) (x0::x1::rest) U=some (some (.v (ea e))::some (.v (eb e))::rest,U):=rfl
  cases hp:p e with
  |true=>
   have h2:=h' e BB hp;rwa[AZ,bS,hg,BJ,h1,hp,if_true,h2,ih,zbS]
  |false=>rwa[AZ,bS,hg,BJ,h1,hp,Bc,if_false,ih,zbS]
open L2
section
variable {κ:Type}[DecidableEq κ]
theorem iO:∀(l m:T5 κ),l.Nodup->(∀x∈l,x∈m)->l.length<=m.length
 |[],_,_,_=>Cy _
 |x::l,m,hn,h=>by
  let⟨h1,h2⟩:=By.mp hn;have hx:=h x BB;have:=iO l (m.erase x) h2 λy hy=>(List.mem_erase_of_ne (λe=>by subst e;exact h1 hy)).mpr (h y (BF _ hy));rw[List.length_erase_of_mem hx] at this
  have:0<m.length:=List.length_pos_of_mem hx;rwa[C0];omega
abbrev Hl (κ:Type):=T5 (κ×Nat×T5 D)
abbrev A6 (l:Hl κ):T5 (κ×R):=l.map λp=>(p.1,R.p p.2.1)
noncomputable def cU:Hl κ->κ->Nat->D->Hl κ
 |[],k,a,d=>[(k,a,[d])]
 |p::l,k,a,d=>if p.1=k then (p.1,p.2.1,p.2.2++[d])::l else p::cU l k a d
noncomputable def cont:Hl κ->κ->T5 D
 |[],_=>[]
 |p::l,k=>if p.1=k then p.2.2 else cont l k
noncomputable def adr:Hl κ->κ->UE Nat
 |[],_=>none
 |p::l,k=>if p.1=k then some p.2.1 else adr l k
theorem nY (k x:κ)(a:Nat)(d:D):∀l:Hl κ,cont (cU l k a d) x=cont l x++(if k=x then [d] else [])
 |[]=>by by_cases q:k=x <;> simp[cU,cont,q]
 |p::l=>by
  have ih:=nY k x a d l;rw[cU];by_cases q:p.1=k
  ·rw[A7 q,cont,cont];by_cases z:p.1=x
   ·rw[A7 z,A7 z,A7 (q.symm.trans z)]
   ·rw[A5 z,A5 z,A5 (λw=>z (q.trans w)),DZ]
  ·rw[A5 q,cont,cont];by_cases z:p.1=x
   ·rw[A7 z,A7 z,A5 (λw=>q (z.trans w.symm)),DZ]
   ·rw[A5 z,A5 z,ih]
theorem lT (k x:κ)(a:Nat)(d:D):∀l:Hl κ,x∈(cU l k a d).map (·.1) ↔ x∈l.map (·.1)\/x=k
 |[]=>by simp[cU]
 |p::l=>by
  have ih:=lT k x a d l;rw[cU];by_cases q:p.1=k
  ·rw[A7 q];rwa[AZ,BA];constructor
   ·exact .inl
   ·rintro(h|h)
    ·exact h
    ·exact .inl (h.trans q.symm)
  ·rw[A5 q];rwa[AZ,BA,ih,or_assoc]
theorem vR (k:κ)(a:Nat)(d:D):∀l:Hl κ,(l.map (·.1)).Nodup->((cU l k a d).map (·.1)).Nodup
 |[],_=>by simp[cU]
 |p::l,h=>by
  rw[AZ,By] at h;rw[cU];by_cases q:p.1=k
  ·rw[A7 q,AZ,By];exact h
  ·rw[A5 q,AZ,By];refine{λz=>?_,vR k a d l h.2};rcases (lT k p.1 a d l).mp z with z|z
   ·exact h.1 z
   ·exact q z
theorem vS (k:κ)(a:Nat)(d:D):∀l:Hl κ,(cU l k a d).length<=l.length+1
 |[]=>by simp[cU]
 |p::l=>by
  have ih:=vS k a d l;rw[cU];split
  ·simp
  ·rwa[C0];omega
theorem m8 {k:κ}:∀{l:Hl κ},adr l k=none ↔ k∉l.map (·.1)
 |[]=>by simp[adr]
 |p::l=>by
  have ih:=m8 (k:=k) (l:=l);rw[adr];by_cases q:p.1=k
  ·rw[A7 q];simp[q]
  ·rw[A5 q,ih,AZ,BA,not_or];exact{λh=>{λz=>q z.symm,h},λh=>h.2}
theorem jR {k:κ}{a:Nat}:∀{l:Hl κ},adr l k=some a->(k,a,cont l k)∈l
 |[],h=>by cases h
 |p::l,h=>by
  rw[adr] at h;rw[cont];by_cases q:p.1=k
  ·rw[A7 q] at h ⊢
   cases h;rw[←q];exact BB
  ·rw[A5 q] at h ⊢;exact BF _ (jR h)
structure HD (C:List (κ×R)->aw)(n:Nat)(U:ac)(l:Hl κ):Prop where
 dict:U[n]?=some (C (A6 l))
 nd:(n::l.map λp=>p.2.1).Nodup
 cell:∀p∈l,U[p.2.1]?=some (.lst p.2.2)
theorem zU {k:κ}{a b:Nat}{d:D}:∀{l:Hl κ},k∈l.map (·.1)->A6 (cU l k b d)=A6 l/\(cU l k b d).map (λp=>p.2.1)=l.map λp=>p.2.1
 |[],h=>by cases h
 |p::l,h=>by
  rw[cU];by_cases q:p.1=k
  ·rw[A7 q];exact{rfl,rfl}
  ·rw[A5 q];have:=zU (a:=a) (b:=b) (d:=d) (l:=l) (by
    rw[AZ] at h;rcases BA.mp h with w|w
    ·exact AJ w.symm q
    ·exact w)
   exact{AQ (_ :: ·) this.1,AQ (_ :: ·) this.2}
theorem zE {k:κ}{b:Nat}{d:D}:∀{l:Hl κ} {p},(l.map (·.1)).Nodup->p∈cU l k b d->k∈l.map (·.1)->(p∈l/\p.1≠k)\/(p.1=k/\adr l k=some p.2.1/\p.2.2=cont l k++[d])
 |[],p,_,_,h=>by cases h
 |q::l,p,nd,hp,h=>by
  rw[AZ,By] at nd;rw[cU] at hp;rw[adr,cont];by_cases z:q.1=k
  ·rw[A7 z] at hp ⊢;rw[A7 z];rcases BA.mp hp with rfl|hp
   ·exact .inr {z,rfl,rfl}
   ·exact .inl {BF _ hp,λw=>nd.1 (by rw[z,←w];exact Er hp)}
  ·rw[A5 z] at hp ⊢;rw[A5 z];rcases BA.mp hp with rfl|hp
   ·exact .inl {BB,z}
   ·rcases zE nd.2 hp (by
     rw[AZ] at h;rcases BA.mp h with w|w
     ·exact AJ w.symm z
     ·exact w) with w|w
    ·exact .inl {BF _ w.1,w.2}
    ·exact .inr w
theorem sC {k:κ}{b:Nat}{d:D}:∀{l:Hl κ},k∉l.map (·.1)->cU l k b d=l++[(k,b,[d])]
 |[],_=>rfl
 |p::l,h=>by rw[AZ,BA,not_or] at h;rw[cU,A5 (λz=>h.1 z.symm),sC h.2];rfl
variable {C:T5 (κ×R)->aw}{n:Nat}{U:ac}{l:Hl κ}
def HD.lt (h:HD C n U l):n<U.length:=dR h.dict
def HD.adr (h:HD C n U l){k:κ}{a:Nat}(e:adr l k=some a):U[a]?=some (.lst (cont l k)):=h.cell _ (jR e)
def HD.adrN (h:HD C n U l){k:κ}{a:Nat}(e:LW.adr l k=some a):a≠n:=λz=>by subst z;exact(By.mp h.nd).1 (BH.mpr {_,jR e,rfl})
def HD.old (h:HD C n U l)(nk:(l.map (·.1)).Nodup){k:κ}{a:Nat}(e:LW.adr l k=some a)(d:D)(b:Nat):HD C n ((U++[aw.lst []]).set a (.lst (cont l k++[d]))) (cU l k b d):=by
 have hk:k∈l.map (·.1):=by refine Classical.byContradiction λz=>?_;rw[m8.mpr z] at e;cases e
 have la:=dR (h.adr e);let⟨k1,k2⟩:=zU (a:=a) (b:=b) (d:=d) hk;refine{?_,by rw[k2];exact h.nd,λp hp=>?_}
 ·rw[CP (h.adrN e),BK h.lt,k1];exact h.dict
 ·rcases zE nk hp hk with⟨w,w2⟩|⟨w1,w2,w3⟩
  ·have:a≠p.2.1:=λz=>by
    have m1:=jR e;have:=(By.mp h.nd).2;let⟨i,hi,e1⟩:=G6 m1;let⟨j,hj,e2⟩:=G6 w;have E2:i=j:=(zbP (xs:=l.map λp=>p.2.1) (h₀:=by simpa using hi) (h₁:=by simpa using hj) this).mp (by rw[Gz,Gz,e1,e2];exact z);subst E2;rw[e1] at e2;exact w2 (by rw[←e2])
   have hc:=h.cell p w;rw[CP this,BK (dR hc)];exact hc
  ·rw[e] at w2
   cases w2;rw[w3,FV (by simp;omega)]
def HD.new (h:HD C n U l){k:κ}(hk:k∉l.map (·.1))(d:D):HD C n (((U++[aw.lst []]).set n (C (A6 l++[(k,.p U.length)]))).set U.length (.lst [d])) (cU l k U.length d):=by
 have hn:=h.lt;rw[sC hk];refine{?_,?_,λp hp=>?_}
 ·rw[CP ∅,FV (by simp;omega)];simp[A6]
 ·rw[D6,←zb5,F9];refine{h.nd,by simp,λx hx y hy=>?_};rwa[AZ,CS,Bm] at hy;subst hy;rcases BA.mp hx with rfl|hx
  ·omega
  ·let⟨p,hp,rfl⟩:=BH.mp hx;have:=dR (h.cell p hp);omega
 ·rcases D7.mp hp with hp|hp
  ·have hc:=h.cell p hp;have:=dR hc;have pn:n≠p.2.1:=λz=>(By.mp h.nd).1 (by rw[z];exact Er (f:=λp:κ×Nat×T5 D=>p.2.1) hp);rw[CP ∅,CP pn,BK this];exact hc
  ·rw[Bm] at hp;subst hp;rw[FV ∅]
end
abbrev tC (l:T5 (Th×R)):aw:=.dtr l
abbrev En:=Th×Pl
abbrev dg (e:En):D:=.tup [.key e.1,jY e.2]
theorem tM (k:Th):∀l:Hl (Th),jT (A6 l) k=(adr l k).map R.p
 |[]=>rfl
 |p::l=>by
  have ih:=tM k l;unfold jT at ih ⊢;rw[adr];rwa[A6,AZ];by_cases q:p.1=k
  ·rw[zci (by simp[q]),A7 q];rfl
  ·rw[zbU (by simp[q]),A5 q];exact ih
def JCc {fo fk:FE}{O:Lo}{U:ac}{n a:Nat}{k:Th}{l:Hl (Th)}(ho:fo O U=some (.p n,U))(hk:fk O U=some (.v (.key k),U))(h:HD tC n U l)(e:adr l k=some a)(hl:l.length<1000):qJ fo fk (dX am) O U=some (.p a,U++[.lst []]):=by
 have h1:iC U n=some (A6 l):=by rwa[iC,h.dict]
 have h2:iC (U++[aw.lst []]) n=some (A6 l):=by rwa[iC,BK h.lt,h.dict]
 have hL:dX am O U=some (.p U.length,U++[aw.lst []]):=rfl;have Gj:(A6 l).length<1000:=by simpa using hl
 have hv:=tM k l;rw[e,G3] at hv;rwa[qJ,ho,BJ,h1,zcB,if_true,hk,hL,h2,Gj,hv]
def JCd {fo fk:FE}{O:Lo}{U:ac}{n:Nat}{k:Th}{l:Hl (Th)}(ho:fo O U=some (.p n,U))(hk:fk O U=some (.v (.key k),U))(h:HD tC n U l)(e:adr l k=none)(hl:l.length<1000):qJ fo fk (dX am) O U=some (.p U.length,(U++[aw.lst []]).set n (tC (A6 l++[(k,.p U.length)]))):=by
 have h1:iC U n=some (A6 l):=by rwa[iC,h.dict]
 have h2:iC (U++[aw.lst []]) n=some (A6 l):=by rwa[iC,BK h.lt,h.dict]
 have hL:dX am O U=some (.p U.length,U++[aw.lst []]):=rfl;have Gj:(A6 l).length<1000:=by simpa using hl
 have hv:=tM k l;rw[e,Option.map_none] at hv;rwa[qJ,ho,BJ,h1,zcB,if_true,hk,hL,h2,Gj,hv]
structure TB (U:ac)(l:Hl (Th))(N:Nat):Prop where
 hd:HD tC 0 U l
 nk:(l.map (·.1)).Nodup
 ln:l.length<=N
 cl:∀k,(cont l k).length<=N
theorem JEh (bt:A8){x0 x4:UE R}{e:En}{U:ac}{l:Hl (Th)}{N:Nat}(h:TB U l N)(hN:N<900) :
  ∃U' b,eS bt [x0,bF 0,some (.v (.key e.1)),some (.v (jY e.2)),x4] U=some (.nx [x0,bF 0,some (.v (.key e.1)),some (.v (jY e.2)),x4] U')/\TB U' (cU l e.1 b (jY e.2)) (N+1):=by
 have zc:(cont l e.1).length<sizeLine:=j9 (by have:=h.cl e.1;omega);have z0:(0:Nat)<sizeLine:=j9 ∅
 have hl:l.length<1000:=by have:=h.ln;omega
 have lt:=h.hd.lt
 have sb:∀(U':ac) (b:Nat),HD tC 0 U' (cU l e.1 b (jY e.2))->TB U' (cU l e.1 b (jY e.2)) (N+1):=λU' b hh=>{hh,vR _ _ _ _ h.nk,by have:=vS e.1 b (jY e.2) l;have:=h.ln;omega,λk=>by
  rw[nY,Bp];have:=h.cl k;split
  ·simp;omega
  ·simp;omega}
 cases q:adr l e.1 with
 |some a=>
  have ga:=h.hd.adr q
  have g2:(U++[aw.lst []])[a]?=some (.lst (cont l e.1)):=by rw[BK (dR ga)];exact ga
  have hs:=JCc (fo:=ae 1) (fk:=ae 2) (O:=[x0,bF 0,some (.v (.key e.1)),some (.v (jY e.2)),x4]) rfl rfl h.hd q hl;refine{_,0,?_,sb _ 0 (h.hd.old h.nk q (jY e.2) 0)};push_cast [eS,hs,g2,zc]
 |none=>
  have hs:=JCd (fo:=ae 1) (fk:=ae 2) (O:=[x0,bF 0,some (.v (.key e.1)),some (.v (jY e.2)),x4]) rfl rfl h.hd q hl
  have g2:((U++[aw.lst []]).set 0 (tC (A6 l++[(e.1,.p U.length)])))[U.length]?=some (.lst []):=by
   rw[CP ∅];exact ye
  refine{_,U.length,?_,sb _ _ (h.hd.new (m8.mp q) (jY e.2))};push_cast [eS,hs,g2,z0,E7]
theorem zj (bt:A8){x0 x4:UE R}:∀(es:T5 En) {U:ac} {l:Hl (Th)} {N:Nat} (x2 x3:UE R),TB U l N->N+es.length<900 ->
  ∃U' l' y2 y3,dU (qE 2 (aK (bE 2) (aK (bE 3) dI))) (eS bt) (es.map dg) [x0,bF 0,x2,x3,x4] U=some (.nx [x0,bF 0,y2,y3,x4] U')/\TB U' l' (N+es.length) /\
   (∀x,cont l' x=cont l x++(es.filter λe=>decide (e.1=x)).map λe=>jY e.2)/\(∀x,x∈l'.map (·.1) ↔ x∈l.map (·.1)\/x∈es.map (·.1))
 |[],U,l,N,x2,x3,h,_=>{U,l,x2,x3,rfl,h,λx=>by simp,λx=>by simp}
 |e::es,U,l,N,x2,x3,h,hN=>by
  rw[C0] at hN;let⟨U1,b,e1,h1⟩:=JEh bt (x0:=x0) (x4:=x4) (e:=e) h ∅;let⟨U2,l2,y2,y3,e2,h2,c2,k2⟩:=zj bt (x0:=x0) (x4:=x4) es (some (.v (.key e.1))) (some (.v (jY e.2))) h1 ∅;refine{U2,l2,y2,y3,?_,by rw[C0,show N+(es.length+1)=N+1+es.length by omega];exact h2,λx=>?_,λx=>?_}
  ·rw[AZ,lm]
   have hg:qE 2 (aK (bE 2) (aK (bE 3) dI)) (.v (dg e)) [x0,bF 0,x2,x3,x4] U=some ([x0,bF 0,some (.v (.key e.1)),some (.v (jY e.2)),x4],U):=rfl;rw[hg,rX,e1,zP];exact e2
  ·rw[c2,nY,EA,zbS]
   by_cases z:e.1=x <;> simp[z]
  ·rw[k2,lT,AZ,BA,or_assoc]
abbrev fE (bt:A8):FE:=cP (ag (ae 0) (ag (aJ dw 1 (ag (bJ (EH (ae 1) (ae 0))) am)) am))
theorem wN (bt:A8){l:Hl (Th)}(F:T5 Int->Pl)(Gi:(0::l.map λp=>p.2.1).Nodup)(nk:(l.map (·.1)).Nodup):∀(rows:Ta) (U:ac) (x0:UE R),rows.Nodup->(∀r∈rows,dw [.fl (cont l r)]=some (jY (F r)))->U[0]?=some (tC (A6 l))->(∀r∈rows,∃a,adr l r=some a/\U[a]?=some (.lst (cont l r))) ->
  ∃U',bS (bE 0) gf (fE bt) (rows.map D.key) [x0,bF 0] U=some (rows.map λr=>dg (r,F r),U')
 |[],U,x0,_,_,_,_=>{U,rfl}
 |r::rows,U,x0,hr,hF,h0,hc=>by
  let⟨n1,n2⟩:=By.mp hr;let⟨a,ea,ga⟩:=hc r BB
  have a0:a≠0:=λz=>by
   subst z;exact(By.mp Gi).1 (BH.mpr {_,jR ea,rfl})
  have hF0:=hF r BB
  let⟨U',e⟩:=wN bt F Gi nk rows (U.set a (.fz (cont l r))) (some (.v (.key r))) n2 (λx hx=>hF x (BF _ hx)) (by rw[CP a0];exact h0) (λx hx=>by
   let⟨b,eb,gb⟩:=hc x (BF _ hx);refine{b,eb,?_}
   have:a≠b:=λz=>by
    subst z;have m1:=jR ea;have m2:=jR eb;let⟨i,hi,e1⟩:=G6 m1;let⟨j,hj,e2⟩:=G6 m2;have E2:i=j:=(zbP (xs:=l.map λp=>p.2.1) (h₀:=by simpa using hi) (h₁:=by simpa using hj) (By.mp Gi).2).mp (by rw[Gz,Gz,e1,e2]);subst E2;rw[e1] at e2;exact n1 (by have:=AQ Prod.fst e2;simp only at this;rw[this];exact hx)
   rw[CP this];exact gb)
  refine{U',?_};have hv:=tM r l;rw[ea,G3] at hv;rw[AZ,bS];push_cast [BJ,h0,tC,hv,ga,hF0,e]
theorem oC {Z:Type}{c:FT}{f:FE}{U:ac}{rest:Lo}(e out:Z->D)(p:Z->A8):∀(xs:T5 Z) (x0:UE R),(∀a∈xs,c (some (.v (e a))::rest) U=some (p a,U))->(∀a∈xs,p a=true->f (some (.v (e a))::rest) U=some (.v (out a),U))->bS (bE 0) c f (xs.map e) (x0::rest) U=some ((xs.filter p).map out,U)
 |[],_,_,_=>rfl
 |a::xs,x0,h,h'=>by
  have h1:=h a BB;have ih:=oC e out p xs (some (.v (e a))) (λb hb=>h b (BF _ hb)) (λb hb=>h' b (BF _ hb))
  cases hp:p a with
  |true=>
   have h2:=h' a BB hp;rwa[AZ,bS,bE,zcf,BJ,h1,hp,if_true,h2,ih,zbS]
  |false=>rwa[AZ,bS,bE,zcf,BJ,h1,hp,Bc,if_false,ih,zbS]
abbrev JAb (T:T5 En):aw:=.lst (T.map dg)
abbrev Ni:D:=.tup [.tup [.bl false,.tup []],.tup []]
def DQ:d3 60 Ni=true:=rfl
abbrev u3:Pl:=(NO,[])
noncomputable def Nf (e:En):A8:=!decide (e.2=u3)
def EZ (p:Pl):jI (jY p) Ni=decide (p=u3) :=
 (PM p.1 NO p.2 []).trans (decide_eq_decide.mpr {λh=>Prod.ext h.1 h.2,λh=>by rw[h];exact{rfl,rfl}})
abbrev lW (p:Pl)(t d:Int):A8:=ul (ra p.1 p.2 t) d
def D5 (t d:Int):lW u3 t d=false:=rfl
def JC7 (p:Pl):dw [.fl [jY p]]=some (jY p):=rfl
theorem l6 {Z β:Type}[DecidableEq β]{f:Z->β}:∀{es:T5 Z} {e:Z},(es.map f).Nodup->e∈es->(es.filter λx=>decide (f x=f e))=[e]
 |[],_,_,h=>nomatch h
 |x::es,e,nd,h=>by
  let⟨n1,n2⟩:=By.mp nd;rcases BA.mp h with rfl|h
  ·rw[Gu ∅];congr 1;refine zcj.mpr λy hy=>?_;rwa[decide_eq_true_eq];exact λz=>n1 (z ▸ Er hy)
  ·rw[zbp (by rwa[decide_eq_true_eq];exact λz=>n1 (z ▸ Er h))];exact l6 n2 h
def JCo (bt:A8){w:Nat}{es:T5 En}(hn:es.length<=63)(nd:(es.map (·.1)).Nodup)(hrw:∀e∈es,e.1.length=w):∃T:T5 En,gZ bt [.fl (es.map dg)]=some (.lst (T.map dg))/\BR (T.map (·.1))/\∀e,e∈T ↔ e∈es/\e.2≠u3:=by
 rw[xr];let⟨U,l,y2,y3,e,tb,c,k⟩:=zj bt (x0:=some (.v (.fl (es.map dg)))) (x4:=none) es (U:=[.dtr []]) (l:=[]) (N:=0) none none {{rfl,by simp,λ_ h=>nomatch h},by simp,by simp,λk=>by simp[cont]} ∅;have k':∀x,x∈l.map (·.1) ↔ x∈es.map (·.1):=λx=>by rw[k];simp
 have kl:l.length<=63:=by have:=iO (l.map (·.1)) (es.map (·.1)) tb.nk λx hx=>(k' x).mp hx;rw[Az,Az] at this;omega
 have hF':∃F:T5 Int->Pl,∀e∈es,F e.1=e.2:=by
  have h:∀r,∃p:Pl,∀e∈es,e.1=r->e.2=p:=λr=>by
   by_cases hr:∃e∈es,e.1=r
   ·let⟨e,he,rfl⟩:=hr;refine{e.2,λx hx hz=>?_};have h1:=l6 nd he;have h2:x∈es.filter λy=>decide (y.1=e.1):=F7.mpr {hx,by simpa using hz};rw[h1] at h2;rw[Bm.mp h2]
   ·exact{u3,λe he hz=>AJ {e,he,hz} hr}
  exact{λr=>Classical.choose (h r),λe he=>(Classical.choose_spec (h e.1) e he rfl).symm}
 let⟨F,hF⟩:=hF';have hc:∀e∈es,cont l e.1=[jY e.2]:=λe he=>by
  rw[c]
  show[]++_=_
  rw[E7,l6 nd he];rfl
 have rnd:(bj (l.map (·.1))).Nodup:=(bR _).nodup_iff.mpr tb.nk;have rm:∀r,r∈bj (l.map (·.1)) ↔ r∈es.map (·.1):=λr=>by rw[(bR _).mem_iff];exact k' r
 have hA:∀r∈bj (l.map (·.1)),dw [.fl (cont l r)]=some (jY (F r)):=λr hr=>by let⟨e,he,rfl⟩:=BH.mp ((rm r).mp hr);rw[hc e he,hF e he];exact JC7 _
 have few:(A6 l).length<64/\((A6 l).length<2\/∀p∈A6 l,p.1≠[]):=by
  refine{by rw[Az];omega,?_};have hw:∀x∈l.map (·.1),x.length=w:=λx hx=>by let⟨e,he,rfl⟩:=BH.mp ((k' x).mp hx);exact hrw e he
  by_cases z:w=0
  ·refine .inl ?_;have:=iO (l.map (·.1)) [[]] tb.nk λx hx=>by
    have:=hw x hx;rw[z] at this
    rw[zbN.mp this];exact BB
   rw[Az] at this ⊢;simp at this;omega
  ·refine .inr λp hp e=>?_;let⟨q,hq,rfl⟩:=BH.mp hp;have:=hw q.1 (Er hq);simp only at e;rw[e] at this
   simp at this;omega
 have g0:(U++[aw.fz ((bj (l.map (·.1))).map D.key)])[0]?=some (tC (A6 l)):=by rw[BK tb.hd.lt];exact tb.hd.dict
 let⟨U2,ce⟩:=wN bt F tb.hd.nd tb.nk (bj (l.map (·.1))) (U++[aw.fz ((bj (l.map (·.1))).map D.key)]) none rnd hA g0 (λr hr=>by
  cases q:adr l r with
  |none=>exact AJ ((bR _).mem_iff.mp hr) (m8.mp q)
  |some a=>exact{a,rfl,by have:=tb.hd.adr q;rw[BK (dR this)];exact this})
 have rl:(bj (l.map (·.1))).length<=63:=by rw[(bR _).length_eq,Az];exact kl
 refine{((bj (l.map (·.1))).map λr=>(r,F r)).filter Nf,?_,?_}
 ·have z1:(bj (l.map (·.1))).length<=sizeLine:=cI ∅;have cf:∀U:ac,bS (bE 0) (fB (au (gq true) (au aZ (ae 0) (fK (.int 1))) (fK (.tup [(.tup [(.bl false),(.tup [])]),(.tup [])])))) (ae 0) ((bj (l.map (·.1))).map λr=>dg (r,F r)) [none] U=some ((((bj (l.map (·.1))).map λr=>(r,F r)).filter Nf).map dg,U):=λU=>by
   have:=oC (c:=fB (au (gq true) (au aZ (ae 0) (fK (.int 1))) (fK Ni))) (f:=ae 0) (U:=U) (rest:=[]) dg dg Nf ((bj (l.map (·.1))).map λr=>(r,F r)) none (λe _=>by push_cast [JW,DQ,EZ,Nf]) (λe _ _=>by push_cast [HW.N5])
   rw[CY] at this
   exact this
  have km:(A6 l).map (·.1)=l.map (·.1):=by unfold A6;rw[CY];rfl
  have lk:(U++[aw.lst ((bj (l.map (·.1))).map D.key)])[U.length]?=some (.lst ((bj (l.map (·.1))).map D.key)):=ye;have hd0:U[0]?=some (.dtr (A6 l)):=tb.hd.dict;have sr:so [.p 0] U=some (.p U.length,U++[.lst ((bj (l.map (·.1))).map D.key)]):=by rw[Nk,hd0,QU,BJ,A7 few,km]
  have lk2:(U2++[aw.lst ((bj (l.map (·.1))).map λr=>dg (r,F r))])[U2.length]?=some (.lst ((bj (l.map (·.1))).map λr=>dg (r,F r))):=ye;push_cast [mi,e,sr,lk,kg,Az,z1,ce,lk2,cf,ye]
 ·refine{?_,λe=>?_}
  ·have h1:=g6 tb.nk;have h2:((bj (l.map (·.1))).map λr=>(r,F r)).Pairwise λx y=>DK.jy x.1 y.1=true:=GR.mpr h1;exact GR.mpr (h2.sublist List.filter_sublist)
  ·rw[F7,BH];constructor
   ·rintro⟨⟨r,hr,rfl⟩,h2⟩;let⟨e,he,rfl⟩:=BH.mp ((rm r).mp hr);rw[hF e he] at h2 ⊢;exact{he,by simpa[Nf] using h2}
   ·rintro⟨he,h2⟩;exact{{e.1,(rm e.1).mpr (Er he),by rw[hF e he]},by simpa[Nf] using h2}
end LW
namespace HW
open L2
abbrev Tx (l:T5 Nat):Str:=⟨l.toArray⟩
def lM {l:T5 Nat}:(Tx l).length=l.length:=by simp[Str.length]
def Nt {l r:T5 Nat}:(Tx l == Tx r)=(l == r):=by rw[zdf,beq_iff_eq,beq_iff_eq];exact{λe=>by injection e with e;injection e,λe=>by rw[e]}
section
variable {O:Lo}{U:ac}{a b l:T5 Nat}{c:Nat}{i:Int}{x:R}
def Ct:dO (.v (.str (Tx a))) (.v (.str (Tx b))) U=if a.length+b.length<=sizeLine then some (.v (.str (Tx (a++b))),U) else none:=by
 show(if (Tx a).length+(Tx b).length<=sizeLine then some (R.v (.str (Tx a++Tx b)),U) else none)=_
 rw[lM,lM];have:Tx a++Tx b=Tx (a++b):=by show Str.append _ _=_;simp[Str.append]
 rw[this]
def JA (h:0<=i)(hl:l.length<2 ^ 63)(hc:l[i.toNat]?=some c):JZ (.v (.str (Tx l))) (.v (.int i)) U=some (.v (.str (Tx [c])),U):=by
 have hi:=(C3.mp hc).1;have e:(Tx l).cps[i.toNat]?=some c:=by simpa using hc
 unfold JZ;dsimp only;rw[A7 {h,by omega,by rw[lM];omega},e];rfl
def Kx (h:l.length<=sizeLine):Ba [.v (.str (Tx l))] U=some (.v (.int l.length),U):=by unfold Ba;dsimp only;rw[lM,A7 h]
noncomputable def IU (o:UE (R×ac))(fl fh:FO)(O:Lo):UE (R×ac):=o.bind λa=>(fl O a.2).bind λl=>(fh O l.2).bind λh=>CD a.1 l.1 h.1 h.2
noncomputable def IT (x:R)(o:UE (UE Int×ac))(fh:FO)(O:Lo):UE (R×ac):=o.bind λl=>(fh O l.2).bind λh=>CD x l.1 h.1 h.2
noncomputable def IS (x:R)(l:UE Int)(o:UE (UE Int×ac)):UE (R×ac):=o.bind λh=>CD x l h.1 h.2
def N8 {fa fl fh}:EI fa fl fh O U=IU (fa O U) fl fh O:=rfl
def Kw {fl fh}:IU (some (x,U)) fl fh O=IT x (fl O U) fh O:=rfl
def Kv {fh}{l:UE Int}:IT x (some (l,U)) fh O=IS x l (fh O U):=rfl
def Ku {l h:UE Int}:IS x l (some (h,U))=CD x l h U:=rfl
def JFw (l:T5 Nat)(n:Nat)(h:n<=l.length):Txt.slice (Tx l) (some (n:Int)) none=Tx (l.drop n):=by have:=PySem.StrLaws.sliceText_from (x:=Tx l) (i:=n) ‹h›;refine Eq.trans (show Txt.slice (Tx l) (some (n:Int)) none=PySem.StrLaws.sliceText (Tx l) (some (n:Int)) none from rfl) (this.trans ?_);rwa[Tx,Gs];congr 2;exact List.take_of_length_le ∅
def Od (l:T5 Nat)(n:Nat)(h:n<=l.length):Txt.slice (Tx l) none (some (n:Int))=Tx (l.take n):=by have:=PySem.StrLaws.sliceText_to (x:=Tx l) (j:=n) ‹h›;refine Eq.trans (show Txt.slice (Tx l) none (some (n:Int))=PySem.StrLaws.sliceText (Tx l) none (some (n:Int)) from rfl) (this.trans ?_);simp[Tx]
def JEk {n:Nat}(h:n<=l.length)(hl:l.length<=sizeLine):CD (.v (.str (Tx l))) (some (n:Int)) none U=some (.v (.str (Tx (l.drop n))),U):=by unfold CD;dsimp only;rw[lM,A7 hl,JFw l n h]
def N7 {n:Nat}(h:n<=l.length)(hl:l.length<=sizeLine):CD (.v (.str (Tx l))) none (some (n:Int)) U=some (.v (.str (Tx (l.take n))),U):=by unfold CD;dsimp only;rw[lM,A7 hl,Od l n h]
def N9 {n:Nat}(h:∀c∈l,c<1114112):d3 n (.str (Tx l))=true:=by cases n <;> (show PyData.strOk (Tx l)=true;unfold PyData.strOk;simpa using h)
end
end HW
namespace LW
open HW
def dN (i:Int){j:Int}(h:0<j):0<=i%j/\i%j<j:={zcT _ ∅,zcC _ h}
def yf {cs:T5 aw}{c:aw}:(cs++[c])[cs.length]?=some c:=by simp
def gw (c k:Int)(hk:0<=k/\k<1000):∃n:Int,aS [.int c,.int k]=some (.int n)/\0<=n/\n<2147483629:=by have b1:=dN c (j:=2147483629) ∅;have b2:=dN ((c%2147483629+1)*1103515245) (j:=2147483629) ∅;obtain⟨x,hx⟩:∃x,x=(c%2147483629+1)*1103515245%2147483629:={_,rfl};have b3:=dN (x*x+k*69621+12345) (j:=2147483587) ∅;refine{_,?_,dN (((x*x+k*69621+12345)%2147483587)*((x*x+k*69621+12345)%2147483587)) (j:=2147483629) ∅};rw[xv];push_cast [mn,qL (i:=c) (j:=2147483629) ∅,jH (i:=c%2147483629+1) (j:=1103515245) ∅,qL (i:=(c%2147483629+1)*1103515245) (j:=2147483629) ∅,←hx,jH (i:=x) (j:=x) ∅,jH (i:=k) (j:=69621) ∅,qL (i:=x*x+k*69621+12345) (j:=2147483587) ∅,jH (i:=(x*x+k*69621+12345)%2147483587) (j:=(x*x+k*69621+12345)%2147483587) ∅,qL (j:=2147483629) ∅]
theorem wR:∀(g:Rc) (l:T5 (Int×Rc)) (p:Int×Rc),P2 g l->p.2≠lst g l->P2 g (l++[p])
 |_,[],_,_,h=>{h,trivial}
 |_,q::l,p,hd,h=>{hd.1,wR q.2 l p hd.2 h}
abbrev cT (r:Th):D:=.tup (r.map .int)
abbrev tJ (e:En):D:=.tup [cT e.1,jY e.2]
theorem j1:∀l:Th,unkDs (l.map D.int)=l.map .int
 |[]=>by rwa[CS,unkDs]
 |i::l=>by rwa[AZ,unkDs,eG,j1 l]
def Ki (r:Rc):eG (rD r)=rD r:=by rwa[eG,unkDs,j1]
theorem y8:∀qs:T5 (Int×Rc),unkDs (qs.map sD)=qs.map sD
 |[]=>by rwa[CS,unkDs]
 |q::qs=>by rwa[AZ,unkDs,eG,Ki,y8 qs,j1]
def Kj (e:En):eG (dg e)=tJ e:=by rwa[dg,eG,unkDs,j1,y8]
theorem tO:∀es:T5 En,unkDs (es.map dg)=es.map tJ
 |[]=>by rwa[CS,unkDs]
 |e::es=>by rw[AZ,unkDs,Kj,tO es];rfl
noncomputable def oD:UE Int->D
 |none=>.non
 |some i=>.int i
noncomputable def st:UE Int->UE Int->Rc
 |none,none=>(true,[])
 |none,some h=>(true,[h])
 |some l,none=>(false,[l])
 |some l,some h=>(false,[l,h])
noncomputable def wx (lo hi:UE Int)(d:Int):A8:=(match lo with|none=>true|some l=>decide (l<=d))&&(match hi with|none=>true|some h=>decide (d<h))
theorem xF {lo hi:UE Int}(h:∀l r,lo=some l->hi=some r->l<r):eQ [oD lo,oD hi]=some (rD (st lo hi)):=by
 rw[tS]
 cases lo with
 |none=>cases hi <;> rfl
 |some l=>
  cases hi with
  |none=>rfl
  |some r=>
   have:=h l r rfl rfl;have hz:decide (r<=l)=false:=Bf ∅;push_cast [jM,oD,hz,rT,st,rD,AZ,CS]
def Oa {lo hi:UE Int}(h:∀l r,lo=some l->hi=some r->l<r):(st lo hi).2.Pairwise (·<·):=by cases lo <;> cases hi <;> simp[st];exact h _ _ rfl rfl
theorem Ma {lo hi:UE Int}(h:∀l r,lo=some l->hi=some r->l<r)(d:Int):ul (st lo hi) d=wx lo hi d:=by
 cases lo with
 |none=>
  cases hi with
  |none=>rfl
  |some r=>
   show(if d<r then true else !true)=(true&&decide (d<r))
   by_cases c:d<r <;> simp[c]
 |some l=>
  cases hi with
  |none=>
   show(if d<l then false else !false)=(decide (l<=d)&&true)
   by_cases c:d<l
   ·have:¬ l<=d:=by omega
    simp[c,this]
   ·have:l<=d:=by omega
    simp[c,this]
  |some r=>
   have:=h l r rfl rfl
   show(if d<l then false else if d<r then !false else !(!false))=(decide (l<=d)&&decide (d<r))
   by_cases c:d<l
   ·have:¬ l<=d:=by omega
    simp[c,this]
   ·have h1:l<=d:=by omega
    by_cases e:d<r <;> simp[c,e,h1]
theorem v8:∀(g:Rc) (qs:T5 (Int×Rc)) (q:Int×Rc),qs.getLast?=some q->lst g qs=q.2
 |_,[],_,h=>by cases h
 |_,[p],q,h=>by cases h;rfl
 |_,p::p'::qs,q,h=>v8 p.2 (p'::qs) q ‹h›
def Ar {Z:Type}(f:Z->D)(xs:T5 Z)(x:Z)(h:xs.getLast?=some x):L2.m6 (xs.map f) (-1)=some (f x):=by
 have BC:xs≠[]:=λz=>by rw[z] at h;cases h
 have hp:=zcw.mpr BC;have h1:(xs.map f)[(xs.length-1)]?=some (f x):=by rw[CG,←List.getLast?_eq_getElem?,h];rfl
 have h2:L2.FJ (xs.map f).length (-1)=some (xs.length-1):=by unfold L2.FJ;rw[Az,A5 ∅,A7 ∅];congr 1;omega
 unfold L2.m6;rw[h2];exact h1
theorem zS (p:Pl):cM [jY p]=some (rD (lst p.1 p.2)):=by
 let⟨g,qs⟩:=p;rw[tU]
 cases hq:qs.getLast? with
 |none=>
  have:qs=[]:=List.getLast?_eq_none_iff.mp hq;subst this;rfl
 |some q=>
  have h1:=Ar sD qs q hq;have BC:qs≠[]:=λz=>by rw[z] at hq;cases hq
  have h2:(qs.map sD).isEmpty=false:=by
   cases qs with
   |nil=>exact AJ rfl BC
   |cons _ _=>rfl
  push_cast [jP,pD,h2,h1,sD,v8 g qs q hq,zco]
noncomputable def FF (p:Pl)(t:Int)(r:Rc):Pl:=if r=lst p.1 p.2 then p else (p.1,p.2++[(t,r)])
def xG (p:Pl)(t:Int)(r:Rc)(hn:p.2.length<2000):jb [jY p,.int t,rD r]=some (jY (FF p t r)):=by
 have hl:=zS p;let⟨g,qs⟩:=p;have hn:qs.length<2000:=hn;rw[AC];unfold FF;by_cases c:r=lst g qs
 ·have c':decide (r=lst g qs)=true:=Bs c;rw[A7 c];push_cast [lA,hl,DO,wL,c']
 ·have c':decide (r=lst g qs)=false:=Bf c;rw[A5 c];have z:(qs.map sD).length+1<=sizeLine:=cI (by rw[Az];omega);push_cast [lA,hl,DO,wL,c',pD,N6,z,D6];rwa[jY,pD,D6,AZ,CS,sD]
theorem xR:∀(g:Rc) (qs:T5 (Int×Rc)) (t:Int),Up qs->(∀q∈qs,q.1<=t)->ra g qs t=lst g qs
 |_,[],_,_,_=>rfl
 |g,q::qs,t,hu,h=>by have:=h q BB;rw[ra,A5 ∅];exact xR q.2 qs t (D0.mp hu).2 λx hx=>h x (BF _ hx)
theorem zw:∀(g:Rc) (qs:T5 (Int×Rc)) (a:Int) (r:Rc) (t:Int),(∀q∈qs,q.1<a)->ra g (qs++[(a,r)]) t=if t<a then ra g qs t else r
 |g,[],a,r,t,_=>rfl
 |g,q::qs,a,r,t,h=>by
  have h1:=h q BB;rw[zb5,ra,ra,zw q.2 qs a r t λx hx=>h x (BF _ hx)];by_cases c:t<q.1
  ·rw[A7 c,A7 c,A7 ∅]
  ·rw[A5 c,A5 c]
def JEm {p:Pl}{a:Int}{r:Rc}(hp:Pf p.1 p.2)(h:∀q∈p.2,q.1<a)(t d:Int):ul (ra (FF p a r).1 (FF p a r).2 t) d=if t<a then ul (ra p.1 p.2 t) d else ul r d:=by
 unfold FF;by_cases c:r=lst p.1 p.2
 ·rw[A7 c];by_cases z:t<a
  ·rw[A7 z]
  ·rw[A5 z,xR p.1 p.2 t hp.up λq hq=>by have:=h q hq;omega,c]
 ·rw[A5 c]
  show ul (ra p.1 (p.2++[(a,r)]) t) d=_
  rw[zw p.1 p.2 a r t h];by_cases z:t<a
  ·rw[A7 z,A7 z]
  ·rw[A5 z,A5 z]
def Ky {ES TS:Th}{p:Pl}{a:Int}{r:Rc}(hp:BP ES TS p)(h:∀q∈p.2,q.1<a)(hr:r.2.Pairwise (·<·))(he:∀e∈r.2,e∈ES)(ha:a∈TS):BP ES TS (FF p a r):=by
 unfold FF;by_cases c:r=lst p.1 p.2
 ·rw[A7 c];exact hp
 ·rw[A5 c];have sp:∀q∈p.2++[(a,r)],q∈p.2\/q=(a,r):=λq hq=>by
   rcases D7.mp hq with z|z
   ·exact .inl z
   ·exact .inr (Bm.mp z)
  refine{{hp.pf.gu,?_,wR p.1 p.2 _ hp.pf.dif c,λq hq=>?_},hp.ge,λq hq=>?_,λq hq=>?_}
  ·exact List.pairwise_append.mpr {hp.pf.up,zcF _ _,λx hx y hy=>by rw[Bm.mp hy];exact h x hx}
  ·rcases sp q hq with z|rfl
   ·exact hp.pf.ru q z
   ·exact hr
  ·rcases sp q hq with z|rfl
   ·exact hp.re q z
   ·exact he
  ·rcases sp q hq with z|rfl
   ·exact hp.te q z
   ·exact ha
theorem px:∀(es:Th) (b:A8) (d:Int),es.Pairwise (·<·)->nK (b,es) d=lv b es d
 |[],b,d,_=>by simp[nK,Fg,lv]
 |e::es,b,d,h=>by
  let⟨h1,h2⟩:=D0.mp h;have ih:=px es (!b) d h2;rw[lv];by_cases c:d<e
  ·rw[A7 c];have:((e::es).filter λx=>decide (x<=d))=[]:=zcj.mpr λx hx=>by
    rcases BA.mp hx with rfl|hx
    ·simp;omega
    ·have:=h1 x hx;simp;omega
   simp[nK,Fg,this]
  ·rw[A5 c,←ih];have:((e::es).filter λx=>decide (x<=d))=e::es.filter λx=>decide (x<=d):=Gu (by simp;omega);have c1:Fg (b,e::es) d=Fg (!b,es) d+1:=by unfold Fg;rw[this];rfl
   show(if Fg (b,e::es) d%2=0 then b else !b)=if Fg (!b,es) d%2=0 then !b else !!b
   rw[c1];generalize Fg (!b,es) d=n;by_cases z:n%2=0
   ·rw[A5 ∅,A7 z]
   ·rw[A7 ∅,A5 z,Bool.not_not]
def OX (w:A8->A8->A8)(r s:Rc)(hr:r.2.Pairwise (·<·))(hs:s.2.Pairwise (·<·))(d:Int):ul (W w r s) d=w (ul r d) (ul s d):=by have h:=Rm w r s hr hs d;rw[show nK (W w r s) d=ul (W w r s) d from px _ _ d (PV w r s),show nK r d=ul r d from px _ _ d hr,show nK s d=ul s d from px _ _ d hs] at h;exact h
abbrev QW (a b:A8):A8:=a || b
abbrev QV (a b:A8):A8:=a&&!b
def k1:d3 60 (.str "both")=true:=by decide
def k2:d3 60 (.str "either")=true:=by decide
def k3:d3 60 (.str "less")=true:=by decide
def Urz:jI (.str "either") (.str "both")=false:=by decide
def Uq:jI (.str "either") (.str "either")=true:=by decide
def Uo:jI (.str "less") (.str "both")=false:=by decide
def Um:jI (.str "less") (.str "either")=false:=by decide
def Ul:jI (.str "less") (.str "less")=true:=by decide
def Nv (x y:A8):bG [.str "either",.bl x,.bl y]=some (.bl (QW x y)):=by rw[pL];cases x <;> push_cast [jL,k1,k2,Urz,Uq,QW,Bool.true_or,Bool.false_or]
def IL (x y:A8):bG [.str "less",.bl x,.bl y]=some (.bl (QV x y)):=by rw[pL];cases x <;> push_cast [jL,k1,k2,k3,Uo,Um,Ul,QV,zb9,zcZ]
def q5:jI (.str "tell") (.str "tell")=true:=by decide
def q6:jI (.str "strike") (.str "tell")=false:=by decide
def k5:d3 60 (.str "tell")=true:=by decide
def k6:d3 60 (.str "strike")=true:=by decide
structure Tl where
 tl:Bool
 said:Th
 lo:Option Int
 hi:Option Int
 nm:Str
abbrev dH (x:Tl):D:=.key x.said
abbrev bI (x:Tl):D:=.tup [.str (if x.tl=true then "tell" else "strike"),.str x.nm,dH x,oD x.lo,oD x.hi]
abbrev sf (x:Tl):D:=.tup [.str (if x.tl=true then "tell" else "strike"),.str x.nm,.tup (x.said.map .int),oD x.lo,oD x.hi]
abbrev Tl.Ok (x:Tl):Prop:=∀l r,x.lo=some l->x.hi=some r->l<r
noncomputable def BS (x:Tl)(row:Th):A8->A8->A8:=if x.tl=true/\row=x.said then QW else QV
noncomputable def iN (x:Tl)(keys:Nat)(a:Int)(e:En):En:=if e.1.take keys=x.said.take keys then (e.1,FF e.2 a (W (BS x e.1) (lst e.2.1 e.2.2) (st x.lo x.hi))) else e
def zi (x:Tl):bO [bI x]=some (.bl x.tl):=by
 rw[sg];let⟨b,s,lo,hi,nm⟩:=x;cases b
 ·push_cast [gQ,Bc,if_false,k5,k6,q6]
 ·push_cast [gQ,if_true,k5,q5]
def wT (r:Th)(k:Nat):md (r.map D.int) none (some (k:Int))=(r.take k).map .int:=by
 unfold md;have h1:HT.cG (r.map D.int).length 0 none=0:=rfl;have h2:HT.cG (r.map D.int).length (r.map D.int).length (some (k:Int))=min k (r.map D.int).length:=by exact HT.ua _ _ _
 rw[h1,h2,zc1,zdb,List.map_take,zcN.mpr];simp
def tR (r:Th):rh (.v (.key r))=.v (.tup (r.map .int)):=rfl
def B2 (l:Th):rh (.v (.tup (l.map .int)))=.v (.tup (l.map .int)):=by show R.v (.tup (unkDs (l.map .int)))=_;rw[j1]
def E4 {x y:R}{a b:Th}(hx:rh x=.v (.tup (a.map .int)))(hy:rh y=.v (.tup (b.map .int)))(U:ac):FN false x y U=some (.v (.bl (decide (a=b))),U):=by
 have o:∀l:Th,d3 60 (.tup (l.map .int))=true:=λl=>jw (ja l);have q:jI (.tup (a.map .int)) (.tup (b.map .int))=decide (a=b):=(mZ _ _).trans (nW a b);unfold FN;rw[hx,hy]
 show((if (d3 60 (.tup (a.map .int))&&d3 60 (.tup (b.map .int)))=true then some (R.v (.bl (jI (.tup (a.map .int)) (.tup (b.map .int)))),AA U) else none).bind λr=>some (r.1,U))=_
 rw[o,o,q];rfl
def JDr (a b:Th)(U:ac):FN false (.v (.tup (a.map .int))) (.v (.tup (b.map .int))) U=some (.v (.bl (decide (a=b))),U):=E4 (B2 a) (B2 b) U
def JDq (a b:Th)(U:ac):FN false (.v (.key a)) (.v (.key b)) U=some (.v (.bl (decide (a=b))),U):=E4 (tR a) (tR b) U
section
variable {ES TS:Th}
def JC9 (bt:A8){x:Tl}(ho:x.Ok){keys:Nat}{a:Int}{e:En}(hp:BP ES TS e.2)(hE:ES.length<=18)(hT:TS.length<=70){x0 x6 x8 x9 x10:UE R}{A6:T5 (Th×D)}{acc:T5 En}(hn:acc.length<100) :
  ∃y10,eC bt [x0,bh ((keys:Int)),some (.v (bI x)),bh a,some (.v (dH x)),some (.v (rD (st x.lo x.hi))),x6,bF 1,some (.v (.key e.1)),some (.v (jY e.2)),x10] [.fzt A6,.lst (acc.map dg)] =
   some (.nx [x0,bh ((keys:Int)),some (.v (bI x)),bh a,some (.v (dH x)),some (.v (rD (st x.lo x.hi))),x6,bF 1,some (.v (.key e.1)),some (.v (jY e.2)),y10] [.fzt A6,.lst ((acc++[iN x keys a e]).map dg)]):=by
 have hb:=hp.pf.ru
 have hl:(lst e.2.1 e.2.2).2.length<=18/\(lst e.2.1 e.2.2).2.Pairwise (·<·)/\∀z∈(lst e.2.1 e.2.2).2,z∈ES:=by
  have key:∀(g:Rc) (qs:T5 (Int×Rc)),lst g qs=g\/∃q∈qs,lst g qs=q.2:=λg qs=>by
   induction qs generalizing g with
   |nil=>exact .inl rfl
   |cons q qs ih=>
    rcases ih q.2 with h|⟨x,hx,h⟩
    ·exact .inr {q,BB,h}
    ·exact .inr {x,BF _ hx,h}
  have fin:∀r:Rc,r.2.Pairwise (·<·)->(∀z∈r.2,z∈ES)->r.2.length<=18/\r.2.Pairwise (·<·)/\∀z∈r.2,z∈ES:=λr h1 h2=>
   {DL (iO _ _ (u5 h1) h2) hE,h1,h2}
  rcases key e.2.1 e.2.2 with h|⟨q,hq,h⟩ <;> rw[h]
  ·exact fin _ hp.pf.gu hp.ge
  ·exact fin _ (hp.pf.ru q hq) (hp.re q hq)
 have hs2:(st x.lo x.hi).2.length<=2:=by cases x.lo <;> cases x.hi <;> simp[st]
 have hpn:e.2.2.length<2000:=by
  have:=iO (e.2.2.map (·.1)) TS (u5 (GR.mpr hp.pf.up)) λz hz=>by let⟨q,hq,rfl⟩:=BH.mp hz;exact hp.te q hq
  rw[Az] at this;omega
 have ha:(acc.map dg).length<sizeLine:=j9 (by rw[Az];omega);have t1:=zi x;have la:=zS e.2;have ct:=λ(r:Th)=>wT r keys;have ek:=λU:ac=>JDr (e.1.take keys) (x.said.take keys) U;unfold iN
 by_cases c:e.1.take keys=x.said.take keys
 ·have c':decide (e.1.take keys=x.said.take keys)=true:=Bs c
  rw[A7 c]
  have wd:∃wd:Str,(∀u v:A8,bG [.str wd,.bl u,.bl v]=some (.bl (BS x e.1 u v)))/\(J3 (ik (dM (aJ bO 1 (ag (bJ (ae 2)) am))) (fB (au (FN false) (ae 8) (ae 4)))) (fK (.str "either")) (fK (.str "less")))
    [x0,bh ((keys:Int)),some (.v (bI x)),bh a,some (.v (dH x)),some (.v (rD (st x.lo x.hi))),x6,bF 1,some (.v (.key e.1)),some (.v (jY e.2)),x10] [.fzt A6,.lst (acc.map dg)]=some (.v (.str wd),[.fzt A6,.lst (acc.map dg)]):=by
   unfold BS
   cases GK:x.tl with
   |false=>
    refine{"less",λu v=>by rw[A5 ∅];exact IL u v,?_};rw[GK] at t1;push_cast [t1]
   |true=>
    rw[GK] at t1;have ek2:=λU:ac=>JDq e.1 x.said U;have sd:dH x=.key x.said:=rfl
    by_cases z:e.1=x.said
    ·refine{"either",λu v=>by rw[A7 {rfl,z}];exact Nv u v,?_}
     rw[Bs z] at ek2;push_cast [t1,sd,ek2]
    ·refine{"less",λu v=>by rw[A5 (λq=>z q.2)];exact IL u v,?_}
     rw[Bf z] at ek2;push_cast [t1,sd,ek2]
  obtain⟨wd,hw,hif⟩:=wd;have bl:=JHc bt (BS x e.1) wd hw (lst e.2.1 e.2.2) (st x.lo x.hi) ∅;have sp:=xG e.2 a (W (BS x e.1) (lst e.2.1 e.2.2) (st x.lo x.hi)) hpn;refine{some (.v (.str wd)),?_};rw[c'] at ek;unfold eC;generalize J3 (ik (dM (aJ bO 1 (ag (bJ (ae 2)) am))) (fB (au (FN false) (ae 8) (ae 4)))) (fK (.str "either")) (fK (.str "less"))=F at hif ⊢;push_cast [Ng,BJ,tR,ct,ek,hif,la,bl,sp,ha,D6]
 ·have c':decide (e.1.take keys=x.said.take keys)=false:=Bf c
  rw[c'] at ek;rw[A5 c];refine{x10,?_};push_cast [eC,Ng,BJ,tR,ct,ek,ha,D6]
end
def kz (x:Tl)(keys:Nat)(a:Int)(e:En):(iN x keys a e).1=e.1:=by unfold iN;split <;> rfl
abbrev rc (e:En):Th×D:=(e.1,jY e.2)
theorem sG:∀T:T5 En,ky (T.map dg)=some (T.map rc)
 |[]=>rfl
 |e::T=>by
  rw[AZ,AZ];unfold ky
  show(ky (T.map dg)).map _=_
  rw[sG T];rfl
theorem qg:∀(T:T5 En) (k0:T5 (Th×D)),(k0.map (·.1)++T.map (·.1)).Nodup->k9 k0 (T.map rc)=k0++T.map rc
 |[],k0,_=>by simp[k9]
 |e::T,k0,nd=>by
  have hn:¬ (k0.any λp=>decide (p.1=e.1))=true:=λz=>by let⟨p,hp,h⟩:=HB.mp z;have h:p.1=e.1:=‹h›;exact(F9.mp nd).2.2 p.1 (Er hp) e.1 ∅ h
  show k9 (fT k0 e.1 (jY e.2)) (T.map rc)=_
  unfold fT;rw[A5 hn,qg T _ ‹nd›];simp
theorem tL (k:Th):∀T:T5 En,(lL (T.map rc) k=none ↔ k∉T.map (·.1))
 |[]=>by simp[lL]
 |e::T=>by
  have ih:=tL k T;unfold lL at ih ⊢;rw[AZ];by_cases z:e.1=k
  ·rw[zci ‹z›];simp[z]
  ·rw[zbU ‹z›,ih];simp[Ne.symm z]
noncomputable def bZ (x:Tl)(T:T5 En):T5 En:=if x.tl=true/\x.said∉T.map (·.1) then T++[(x.said,u3)] else T
theorem qH:∀es:T5 En,flatDs (es.map dg)=true
 |[]=>rfl
 |e::es=>by
  have h1:cY (dg e)=true:=by
   have:=JGi e.2.1 e.2.2
   show flatDs [.key e.1,jY e.2]=true
   rwa[flatDs,cY] at this ⊢;simpa using this
  rw[AZ,flatDs,h1,qH es];rfl
section
variable {ES TS:Th}{w:Nat}{T:T5 En}
def JEf (bt:A8){x:Tl}(ho:x.Ok){keys:Nat}{a:Int}(hb:∀e∈T,BP ES TS e.2)(hE:ES.length<=18)(hT:TS.length<=70)(hr:∀e∈T,e.1.length=w)(hs:x.tl=true->x.said.length=w)(nd:(T.map (·.1)).Nodup)(hn:T.length<=62) :
  ∃A:T5 En,fw bt [.fl (T.map dg),.int (keys:Int),bI x,.int a]=some (.lst (A.map dg))/\BR (A.map (·.1))/\∀e,e∈A ↔ e∈(bZ x T).map (iN x keys a)/\e.2≠u3:=by
 have n0:BP ES TS u3:={{.nil,.nil,trivial,λ_ h=>nomatch h},(λ_ h=>nomatch h),(λ_ h=>nomatch h),λ_ h=>nomatch h}
 have eb:∀e∈bZ x T,BP ES TS e.2/\e.1.length=w:=λe he=>by
  unfold bZ at he;split at he
  ·rename_i c
   rcases D7.mp he with h|h
   ·exact{hb e h,hr e h}
   ·rw[Bm.mp h];exact{n0,hs c.1}
  ·exact{hb e he,hr e he}
 have en:((bZ x T).map (·.1)).Nodup:=by
  unfold bZ;split
  ·rename_i c
   rw[D6,F9]
   exact{nd,by simp,λp hp q hq=>by
    have hq:q=x.said:=by simpa using hq
    rw[hq];rintro rfl;exact c.2 hp}
  ·exact nd
 have el:(bZ x T).length<=63:=by
  unfold bZ;split
  ·rw[Bp];simp;omega
  ·omega
 let⟨A,hA,hu,hm⟩:=JCo bt (w:=w) (es:=(bZ x T).map (iN x keys a)) (by rw[Az];omega) (by rw[CY,show((λe:En=>e.1) ∘ iN x keys a)=λe=>e.1 from funext λe=>kz x keys a e];exact en) (λe he=>by
  let⟨y,hy,rfl⟩:=BH.mp he
  rw[kz];exact(eb y hy).2)
 refine{A,?_,hu,hm};rw[JAl];have se:=xF ho;have t1:=zi x;have GZ:∀U:ac,aZ (.v (bI x)) (.v (.int 2)) U=some (.v (dH x),U):=λU=>rfl;have Dy:∀U:ac,aZ (.v (bI x)) (.v (.int 3)) U=some (.v (oD x.lo),U):=λU=>rfl;have Dh:∀U:ac,aZ (.v (bI x)) (.v (.int 4)) U=some (.v (oD x.hi),U):=λU=>rfl
 have dt:sZ [.v (.fl (T.map dg))] []=some (.p 0,[.dt (T.map rc)]):=by
  unfold sZ
  show((ky (T.map dg)).bind λA6=>if (T.map dg).length<1000 then some (R.p 0,[aw.dt (k9 [] A6)]) else none)=_
  rw[sG,BJ,A7 (by rw[Az];omega),qg T [] ‹nd›];rfl
 have s4:(fR (dM (aJ bO 1 (ag (bJ (ae 2)) am))) (cS (Bw (ae 6) (ae 4) (fK (.tup [(.tup [(.bl false),(.tup [])]),(.tup [])])))) aQ)
   [some (.v (.fl (T.map dg))),bh ((keys:Int)),some (.v (bI x)),bh a,some (.v (dH x)),some (.v (rD (st x.lo x.hi))),bF 0,none,none,none,none] [.dt (T.map rc)] =
   some (.nx [some (.v (.fl (T.map dg))),bh ((keys:Int)),some (.v (bI x)),bh a,some (.v (dH x)),some (.v (rD (st x.lo x.hi))),bF 0,none,none,none,none] [.dt ((bZ x T).map rc)]):=by
  cases GK:x.tl with
  |false=>
   rw[GK] at t1
   have:bZ x T=T:=by unfold bZ;rw[A5 (by simp[GK])]
   rw[this];push_cast [t1]
  |true=>
   rw[GK] at t1;have sd:dH x=.key x.said:=rfl
   have sT:(Bw (ae 6) (ae 4) (fK (.tup [(.tup [(.bl false),(.tup [])]),(.tup [])]))) [some (.v (.fl (T.map dg))),bh ((keys:Int)),some (.v (bI x)),bh a,some (.v (dH x)),some (.v (rD (st x.lo x.hi))),bF 0,none,none,none,none] [.dt (T.map rc)] =
     (if (T.map rc).length<1000 then some (match lL (T.map rc) x.said with|some r=>(.v r,[.dt (T.map rc)])|none=>(.v Ni,[.dt (T.map rc++[(x.said,Ni)])])) else none):=by rw[sd];rfl
   rw[A7 (by rw[Az];omega)] at sT
   by_cases z:x.said∈T.map (·.1)
   ·have:bZ x T=T:=by unfold bZ;rw[A5 (λq=>q.2 z)]
    rw[this]
    cases hv:lL (T.map rc) x.said with
    |none=>exact AJ z ((tL _ _).mp hv)
    |some r=>
     rw[hv] at sT;push_cast [t1,sT]
   ·have:bZ x T=T++[(x.said,u3)]:=by unfold bZ;rw[A7 {GK,z}]
    rw[this,D6];rw[(tL _ _).mpr z] at sT;push_cast [t1,sT];rfl
 let⟨⟨acc,x8,x9,x10⟩,e,h1⟩:=eR (g:=qE 2 (aK (bE 8) (aK (bE 9) dI))) (b:=eC bt) dg
  (λs:T5 En×UE R×UE R×UE R=>([some (.v (.fl (T.map dg))),bh ((keys:Int)),some (.v (bI x)),bh a,some (.v (dH x)),some (.v (rD (st x.lo x.hi))),bF 0,bF 1,s.2.1,s.2.2.1,s.2.2.2],[aw.fzt ((bZ x T).map rc),.lst (s.1.map dg)]))
  (λs rem=>s.1++rem.map (iN x keys a)=(bZ x T).map (iN x keys a)/\∀e∈rem,e∈bZ x T) (bZ x T) ([],none,none,none) {rfl,λ_ h=>h} (by
   rintro⟨acc,x8,x9,x10⟩ e rem ⟨h1,h2⟩
   have DJ:acc.length<100:=by
    have:=AQ List.length h1;simp at this;omega
   let⟨y10,q⟩:=JC9 bt ho (keys:=keys) (a:=a) (eb e (h2 e BB)).1 hE hT (x0:=some (.v (.fl (T.map dg)))) (x6:=some (.p 0)) (x8:=x8) (x9:=x9) (x10:=x10) (A6:=(bZ x T).map rc) DJ;refine{(acc++[iN x keys a e],some (.v (.key e.1)),some (.v (jY e.2)),y10),?_,by rw[EA];exact h1,λz hz=>h2 z (BF _ hz)};have hg:qE 2 (aK (bE 8) (aK (bE 9) dI)) (.v (dg e)) [some (.v (.fl (T.map dg))),bh ((keys:Int)),some (.v (bI x)),bh a,some (.v (dH x)),some (.v (rD (st x.lo x.hi))),bF 0,bF 1,x8,x9,x10] [aw.fzt ((bZ x T).map rc),.lst (acc.map dg)]=some ([some (.v (.fl (T.map dg))),bh ((keys:Int)),some (.v (bI x)),bh a,some (.v (dH x)),some (.v (rD (st x.lo x.hi))),bF 0,bF 1,some (.v (.key e.1)),some (.v (jY e.2)),x10],[aw.fzt ((bZ x T).map rc),.lst (acc.map dg)]):=rfl;rw[hg,rX]
   exact q)
 have h1:acc=(bZ x T).map (iN x keys a):=by simpa using h1.1
 subst h1
 have fi:(HL (ae 6)) [some (.v (.fl (T.map dg))),bh ((keys:Int)),some (.v (bI x)),bh a,some (.v (dH x)),some (.v (rD (st x.lo x.hi))),bF 0,bF 1,none,none,none] [.dt ((bZ x T).map rc),.lst []]=some ((bZ x T).map dg,[.fzt ((bZ x T).map rc),.lst []]):=by
  show some ((((bZ x T).map rc).map Rj,_))=_
  rw[CY];rfl
 have fl:=qH A;have e:dU (qE 2 (aK (bE 8) (aK (bE 9) dI))) (eC bt) ((bZ x T).map dg) [some (.v (.fl (T.map dg))),bh ((keys:Int)),some (.v (bI x)),bh a,some (.v (dH x)),some (.v (rD (st x.lo x.hi))),bF 0,bF 1,none,none,none] [aw.fzt ((bZ x T).map rc),.lst []]=_:=e;generalize hL:(fR (dM (aJ bO 1 (ag (bJ (ae 2)) am))) (cS (Bw (ae 6) (ae 4) (fK (.tup [(.tup [(.bl false),(.tup [])]),(.tup [])])))) aQ)=L at s4;rw[nZ,hL];push_cast [GZ,Dy,Dh,se,dt,s4,fi,e,hA,fl]
end
abbrev gd (d t:Int)(es:T5 En):Ta:=(es.filter λe=>lW e.2 t d).map (·.1)
theorem iu:∀a:Th,DK.jy a a=false
 |[]=>rfl
 |x::a=>by simp[DK.jy,iu a]
def nI {l:Ta}(h:BR l):l.Nodup:=h.imp λ{a b} h e=>by subst e;rw[iu] at h;cases h
def m5 (d t:Int)(l:T5 En)(r:Th):r∈gd d t l ↔ ∃e∈l,e.1=r/\lW e.2 t d=true:=by
 unfold gd;rw[BH];constructor
 ·rintro⟨e,he,h1⟩;let⟨h2,h3⟩:=F7.mp he;exact{e,h2,h1,h3}
 ·rintro⟨e,he,h1,h2⟩;exact{e,F7.mpr {he,h2},h1}
section
variable {ES TS:Th}{T A:T5 En}{x:Tl}{keys:Nat}{a:Int}
def e7 {e:En}:e∈bZ x T ↔ e∈T\/(x.tl=true/\x.said∉T.map (·.1)/\e=(x.said,u3)):=by
 unfold bZ;split
 ·rename_i c;rw[D7,Bm];exact or_congr Iff.rfl {λh=>{c.1,c.2,h},λh=>h.2.2}
 ·rename_i c;exact{.inl,λh=>h.resolve_right λq=>c {q.1,q.2.1}}
def zN (ho:x.Ok){e:En}(hp:Pf e.2.1 e.2.2)(h:∀q∈e.2.2,q.1<a)(t d:Int):lW (iN x keys a e).2 t d=if e.1.take keys=x.said.take keys/\¬ t<a then BS x e.1 (lW e.2 t d) (wx x.lo x.hi d) else lW e.2 t d:=by
 unfold iN;by_cases c:e.1.take keys=x.said.take keys
 ·rw[A7 c]
  show ul (ra (FF e.2 a _).1 (FF e.2 a _).2 t) d=_
  rw[JEm hp h];by_cases z:t<a
  ·rw[A7 z,A5 (λq=>q.2 z)]
  ·rw[A5 z,A7 {c,z}];have hl:=xR e.2.1 e.2.2 t hp.up λq hq=>(by have:=h q hq;omega);have hu:=hp.at t;rw[hl] at hu;rw[OX _ _ _ hu (Oa ho),Ma ho]
   show _=BS x e.1 (ul (ra e.2.1 e.2.2 t) d) _
   rw[hl]
 ·rw[A5 c,A5 (λq=>c q.1)]
def JEe (ho:x.Ok)(hb:∀e∈T,BP ES TS e.2)(ha:∀e∈T,∀q∈e.2.2,q.1<a)(hA:∀e,e∈A ↔ e∈(bZ x T).map (iN x keys a)/\e.2≠u3)(t d:Int)(r:Th) :
  r∈gd d t A ↔ if t<a\/wx x.lo x.hi d=false then r∈gd d t T else (r∈gd d t T/\r.take keys≠x.said.take keys)\/(x.tl=true/\r=x.said):=by
 have n0:Pf u3.1 u3.2:={.nil,.nil,trivial,λ_ h=>nomatch h}
 have nl:∀{e:En},e∈bZ x T->lW (iN x keys a e).2 t d=if e.1.take keys=x.said.take keys/\¬ t<a then BS x e.1 (lW e.2 t d) (wx x.lo x.hi d) else lW e.2 t d:=λ{e} he=>by
  rcases e7.mp he with h|⟨_,_,rfl⟩
  ·exact zN ho (hb e h).pf (ha e h) t d
  ·exact zN ho n0 (λq h=>by cases h) t d
 have h1:r∈gd d t A ↔ ∃e∈bZ x T,e.1=r/\lW (iN x keys a e).2 t d=true:=by
  rw[m5];constructor
  ·rintro⟨e,he,hr,hl⟩
   let⟨y,hy,rfl⟩:=BH.mp ((hA e).mp he).1;exact{y,hy,by rw[←hr,kz],hl}
  ·rintro⟨y,hy,hr,hl⟩
   refine{iN x keys a y,(hA _).mpr {Er hy,λz=>?_},by rw[kz];exact hr,hl};rw[z,D5] at hl;cases hl
 rw[h1]
 have same:(∀b:A8,∀row,BS x row b (wx x.lo x.hi d)=b)\/t<a->((∃e∈bZ x T,e.1=r/\lW (iN x keys a e).2 t d=true) ↔ r∈gd d t T):=λhw=>by
  have eq:∀{e:En},e∈bZ x T->lW (iN x keys a e).2 t d=lW e.2 t d:=λ{e} he=>by
   rw[nl he];split
   ·rename_i c
    rcases hw with hw|hw
    ·exact hw _ _
    ·exact AJ hw c.2
   ·rfl
  rw[m5];constructor
  ·rintro⟨e,he,hr,hl⟩
   rw[eq he] at hl;rcases e7.mp he with h|⟨_,_,rfl⟩
   ·exact{e,h,hr,hl}
   ·rw[show lW (x.said,u3).2 t d=false from D5 t d] at hl;cases hl
  ·rintro⟨e,he,hr,hl⟩
   have he':e∈bZ x T:=e7.mpr (.inl he);exact{e,he',hr,by rw[eq he'];exact hl}
 by_cases z:t<a\/wx x.lo x.hi d=false
 ·rw[A7 z]
  refine same ?_;rcases z with z|z
  ·exact .inr z
  ·refine .inl λb row=>?_
   rw[z];unfold BS;split <;> simp
 ·rw[A5 z]
  have z1:¬ t<a:=λh=>z (.inl h)
  have z2:wx x.lo x.hi d=true:=by cases q:wx x.lo x.hi d with
   |true=>rfl
   |false=>exact AJ (.inr q) z
  rw[z2] at nl;constructor
  ·rintro⟨e,he,rfl,hl⟩
   rw[nl he] at hl;split at hl
   ·rename_i c
    unfold BS at hl;split at hl
    ·rename_i q;exact .inr q
    ·simp at hl
   ·rename_i c
    have c:e.1.take keys≠x.said.take keys:=λq=>c {q,z1};rcases e7.mp he with h|⟨_,_,rfl⟩
    ·exact .inl {(m5 d t T e.1).mpr {e,h,rfl,hl},c}
    ·exact AJ rfl c
  ·rintro(⟨h,c⟩|⟨GK,rfl⟩)
   ·let⟨e,he,rfl,hl⟩:=(m5 d t T r).mp h
    have he':e∈bZ x T:=e7.mpr (.inl he);exact{e,he',rfl,by rw[nl he',A5 (λq=>c q.1)];exact hl}
   ·have hx:∃e∈bZ x T,e.1=x.said:=by
     by_cases q:x.said∈T.map (·.1)
     ·let⟨e,he,h⟩:=BH.mp q
      exact{e,e7.mpr (.inl he),h}
     ·exact{_,e7.mpr (.inr {GK,q,rfl}),rfl}
    let⟨e,he,h⟩:=hx;refine{e,he,h,?_};rw[nl he,A7 {by rw[h],z1}];unfold BS;rw[A7 {GK,h}];simp
def JEg (ho:x.Ok)(hb:∀e∈T,BP ES TS e.2)(ha:∀e∈T,∀q∈e.2.2,q.1<a)(hA:∀e,e∈A ↔ e∈(bZ x T).map (iN x keys a)/\e.2≠u3)(hs:∀z∈(st x.lo x.hi).2,z∈ES)(haT:a∈TS):∀e∈A,BP ES TS e.2/\e.2≠u3:=λe he=>by
 let⟨h1,h2⟩:=(hA e).mp he;refine{?_,h2};let⟨y,hy,rfl⟩:=BH.mp h1;have hy':BP ES TS y.2/\∀q∈y.2.2,q.1<a:=by
  rcases e7.mp hy with h|⟨_,_,rfl⟩
  ·exact{hb y h,ha y h}
  ·exact{{{.nil,.nil,trivial,λ_ h=>nomatch h},(λ_ h=>nomatch h),(λ_ h=>nomatch h),λ_ h=>nomatch h},λ_ h=>nomatch h}
 unfold iN;split
 ·refine Ky hy'.1 hy'.2 (PV _ _ _) (λz hz=>?_) haT;have:=(J7 _ _ _).subset hz;rcases ((i4 _ _).2.2 z).mp this with h|h
  ·have key:∀(g:Rc) (qs:T5 (Int×Rc)),(∀w∈g.2,w∈ES)->(∀q∈qs,∀w∈q.2.2,w∈ES)->∀w∈(lst g qs).2,w∈ES:=λg qs=>by
    induction qs generalizing g with
    |nil=>exact λh _=>h
    |cons q qs ih=>exact λ_ h2=>ih q.2 (h2 q BB) λp hp=>h2 p (BF _ hp)
   exact key _ _ hy'.1.ge hy'.1.re z h
  ·exact hs z h
 ·exact hy'.1
end
def nj (i:Int):dq [.int i]=some (.bl true):=rfl
def sx (x:D)(ns:Th)(hlen:∀U:ac,gF [.v x] U=some (.v (.int (ns.length:Int)),U))(CR:∀(i:Int) (p:Int) (U:ac),L2.m6 (ns.map D.int) i=some (.int p)->aZ (.v x) (.v (.int i)) U=some (.v (.int p),U))(hu:ns.Pairwise (·<·))(hl:ns.length<2000):bX [x]=some (.bl true):=by
 rw[u7];have h62 : -(2 ^ 62:Int)<=(ns.length:Int)/\(ns.length:Int)<2 ^ 62:=by omega
 let⟨O',U',e,x1,rfl,rfl⟩:=qr (g:=bE 1) (b:=fL) (O:=[some (.v x),none]) (U:=[]) ns.length
  (λi O U=>∃x1,O=[some (.v x),x1]/\U=[]) {none,rfl,rfl} (by
   rintro i hi O U ⟨x1,rfl,rfl⟩;obtain⟨p,hp⟩:∃p,ns[i]?=some p:={_,Bl hi};have c0:=λU=>CR (i:Int) p U (qW hp)
   cases i with
   |zero=>
    have c1:decide ((0:Int)<((0:Nat):Int))=false:=rfl;have c0':∀U:ac,aZ (.v x) (.v (.int ((0:Nat):Int))) U=some (.v (.int p),U):=c0;refine{[some (.v x),bh (((0:Nat):Int))],[],?_,_,rfl,rfl};push_cast [fL,uG,rX,kJ,EK,uE,yC,pA,dE,Ag,oz,jU,lI,uh,ug,kI,l8,c0',nj,c1]
   |succ j=>
    obtain⟨q,hq⟩:∃q,ns[j]?=some q:={_,Bl ∅};have c1:decide ((0:Int)<((j+1:Nat):Int))=true:=Bs ∅;have c2:((j+1:Nat):Int)-1=(j:Int):=∅;have c3:=λU=>CR (j:Int) q U (qW hq);have An:q<p:=by let⟨h1,h1'⟩:=C3.mp hq;let⟨h2,h2'⟩:=C3.mp hp;rw[←h1',←h2'];exact zbt.mp hu j (j+1) h1 h2 ∅
    have c4:decide (p<=q)=false:=Bf ∅;refine{[some (.v x),bh (((j+1:Nat):Int))],[],?_,_,rfl,rfl};push_cast [fL,uG,rX,kJ,EK,uE,yC,pA,dE,Ag,oz,jU,lI,uh,ug,kI,l8,c0,c2,c3,nj,c1,c4])
 push_cast [kL,l7,qM,Py,sW,dE,jU,jG,eZ,eY,nU,hlen,uF h62,mX,Gs,e]
def JAu (ns:Th)(hu:ns.Pairwise (·<·))(hl:ns.length<2000):bX [.tup (ns.map .int)]=some (.bl true) :=
 sx _ ns (λU=>by rw[JGm,Az]) (λi p U h=>by push_cast [h]) hu hl
def JCi (ns:Th)(hu:ns.Pairwise (·<·))(hl:ns.length<2000):bX [.fl (ns.map .int)]=some (.bl true) :=
 sx _ ns (λU=>by rw[JGn,Az]) (λi p U h=>by push_cast [h]) hu hl
def t1 (xs:T5 D)(U:ac):kC "tuple" (.v (.tup xs)) U=some (.v (.bl true),U):=rfl
def t2 (b:A8)(U:ac):kC "bool" (.v (.bl b)) U=some (.v (.bl true),U):=rfl
def t3 (xs:T5 D)(U:ac):kC "list" (.v (.fl xs)) U=some (.v (.bl true),U):=rfl
def P6:(((2:Nat):Int) == 2)=true:=rfl
def wt (r:Rc)(hu:r.2.Pairwise (·<·))(hl:r.2.length<2000):cq [rD r]=some (.bl true):=by rw[pN];have h:=JAu r.2 hu hl;push_cast [hX,t1,t2,P6,h]
def JD8 {ES TS:Th}(hE:ES.length<=18)(hT:TS.length<=70){g:Rc}{qs:T5 (Int×Rc)}(h:BP ES TS (g,qs)):dP [pD g qs]=some (.bl true):=by
 rw[rA];have rl:∀l:Th,l.Pairwise (·<·)->(∀e∈l,e∈ES)->l.length<2000:=λl h1 h2=>by have:=iO l ES (u5 h1) h2;omega
 have rg:=wt g h.pf.gu (rl _ h.pf.gu h.ge);obtain⟨⟨dn,x2⟩,e,hd,-⟩:=eR (g:=bE 2) (b:=d5) sD
  (λst:T5 (Int×Rc)×UE R=>([some (.v (pD g qs)),some (.v (rD (lst g st.1))),st.2],([]:ac)))
  (λst rem=>st.1++rem=qs/\True) qs ([],none) {rfl,trivial} (by
   rintro⟨dn,x2⟩ q rem ⟨hd,-⟩;simp only at hd;have hq:q∈qs:=(by rw[←hd];simp);have rq:=wt q.2 (h.pf.ru q hq) (rl _ (h.pf.ru q hq) (h.re q hq));have BC:q.2≠lst g dn:=by
    have key:∀(a:T5 (Int×Rc)) (g:Rc) (r:T5 (Int×Rc)),P2 g (a++q::r)->q.2≠lst g a:=by
     intro a;induction a with
     |nil=>intro g r hz;exact hz.1
     |cons p a ih=>intro g r hz;exact ih p.2 r hz.2
    exact key dn g rem (by rw[hd];exact h.pf.dif)
   have hne':decide (q.2=lst g dn)=false:=Bf BC;refine{(dn++[q],some (.v (sD q))),?_,by rwa[EA,List.singleton_append];exact{hd,trivial}};push_cast [d5,sD,t1,P6,rq,DO,wL,hne',v7])
 rw[DZ] at hd;have hn:qs.length<=70:=by
  have:=iO (qs.map (·.1)) TS (u5 (GR.mpr h.pf.up)) λx hx=>by let⟨q,hq,rfl⟩:=BH.mp hx;exact h.te q hq
  rw[Az] at this;omega
 have hz:(qs.map sD).length<=sizeLine:=cI (by simp;omega);have hc:=jJ (f:=au aZ (ae 0) (fK (.int 0))) (U:=[]) (rest:=[]) sD (λq=>D.int q.1) qs none (λq _=>by push_cast [sD]);have hcm:qs.map (λq=>D.int q.1)=(qs.map (·.1)).map D.int:=by rw[CY];rfl
 rw[hcm] at hc;have hz2:((qs.map (·.1)).map D.int).length<=sizeLine:=cI (by simp;omega);have hr:=JCi (qs.map (·.1)) (GR.mpr h.pf.up) (by simp;omega);have e':dU (bE 2) d5 (qs.map sD) [some (.v (.tup [rD g,.tup (qs.map sD)])),some (.v (rD g)),none] []=_:=e;push_cast [iT,pD,t1,P6,rg];rw[e'];push_cast [hz,hc,hz2,hr]
def yJ (ks:Th)(U:ac):bS (bE 0) gf (aJ dq 1 (ag (bJ (ae 0)) am)) (ks.map .int) [none] U=some (ks.map (λ_=>D.bl true),U) :=
 jJ (rest:=[]) D.int (λ_=>D.bl true) ks none (λk _=>by push_cast [nj])
theorem xh:∀ks:Th,mh (ks.map λ_=>D.bl true)=some (ks.map λ_=>true)
 |[]=>rfl
 |k::ks=>by rwa[AZ,mh,xh ks,BJ]
def JCt {l:Ta}(h:BR l):bj l=l:=ll (g6 (nI h)) h (bR l)
theorem sM:∀ns:Th,gm (ns.map D.int)=some ns
 |[]=>rfl
 |n::ns=>by rwa[AZ,gm,sM ns,G3]
theorem lN:∀rows:Ta,si (rows.map cT)=some rows
 |[]=>rfl
 |r::rows=>by
  have:B5 (cT r)=some r:=by unfold B5;exact sM r
  rwa[AZ,si,this,lN rows,BJ]
def zL {n:Nat}(rows:Ta):d3 (n+3) (.fl (rows.map cT))=true:=DP (ue (λr=>jw (ja r)) rows)
def Aj (a:Ta):jI (.fl (a.map cT)) (.fl (a.map cT))=true:=by
 have:∀l:Ta,eqDs (l.map cT) (l.map cT)=true:=by
  intro l;induction l with
  |nil=>rfl
  |cons x l ih=>
   rw[AZ,cz,ih,zcJ];exact(mZ _ _).trans ((nW x x).trans (Bs rfl))
 exact(uI _ _).trans (this a)
def JDy {w:Nat}{T:T5 En}(hn:T.length<64)(hr:∀e∈T,e.1.length=w)(nd:(T.map (·.1)).Nodup):(T.map (·.1)).length<64/\((T.map (·.1)).length<2\/∀k∈T.map (·.1),k≠[]):=by
 refine{by simpa using hn,?_};have hw:∀k∈T.map (·.1),k.length=w:=λk hk=>by let⟨e,he,rfl⟩:=BH.mp hk;exact hr e he
 by_cases z:w=0
 ·refine .inl ?_;have:=iO (T.map (·.1)) [[]] nd λx hx=>by
   have:=hw x hx;rw[z] at this
   rw[zbN.mp this];exact BB
  simp at this ⊢;omega
 ·refine .inr λk hk e=>?_;have:=hw k hk;rw[e] at this
  simp at this;omega
def JD7 (bt:A8){ES TS:Th}(hE:ES.length<=18)(hT:TS.length<=70){w:Nat}{T:T5 En}(h3:w<=8)(hn:T.length<=63)(hb:∀e∈T,BP ES TS e.2/\e.2≠u3)(hr:∀e∈T,e.1.length=w)(up:BR (T.map (·.1))):bC bt [.fl (T.map tJ),.int (w:Int)]=some (.bl true):=by
 rw[pM];obtain⟨⟨U,x2⟩,e,-⟩:=eR (g:=bE 2) (b:=dC bt) tJ
  (λst:ac×UE R=>([some (.v (.fl (T.map tJ))),bh ((w:Int)),st.2,none],st.1))
  (λst rem=>∀e∈rem,e∈T) T ([],none) (λ_ h=>h) (by rintro⟨U,x2⟩ e rem hm;have he:=hm e BB;let⟨pg,hz⟩:=hb e he;have hw:=hr e he;have GJ:jI (jY e.2) Ni=false:=(by rw[EZ];exact Bf hz);have hp:=JD8 hE hT (g:=e.2.1) (qs:=e.2.2) pg;have hww:((e.1.length:Int) == (w:Int))=true:=(by rw[hw];exact zcs _);have Hq:e.1.length<=sizeLine:=cI ∅;have cw:=yJ e.1;have at':=xh e.1;have CM:(e.1.map λ_=>true).all id=true:=∅;have okn:=DQ;let⟨r,g,qs⟩:=e;simp only at hw hww Hq cw at' CM hp GJ;refine{(U++[aw.lst (r.map λ_=>D.bl true)],some (.v (tJ (r,g,qs)))),?_,λe he=>hm e (BF _ he)};push_cast [dC,tJ,cT,jY,t1,P6,hww,Az,Hq,cw,at',CM,hp,JW,okn,GJ,yf,E6])
 have z1:(T.map tJ).length<=sizeLine:=cI (by simp;omega);have hc:=jJ (f:=au aZ (ae 0) (fK (.int 0))) (U:=U) (rest:=[]) tJ (λe=>cT e.1) T none (λe _=>by push_cast [tJ]);have hcm:T.map (λe=>cT e.1)=(T.map (·.1)).map cT:=by rw[CY];rfl
 rw[hcm] at hc;have z2:((T.map (·.1)).map cT).length<=sizeLine:=cI (by simp;omega);have few:=JDy (w:=w) (T:=T) ∅ hr (nI up);have ss:Q1 (.p U.length) (U++[.lst ((T.map (·.1)).map cT)])=some (.p (U++[aw.lst ((T.map (·.1)).map cT)]).length,U++[.lst ((T.map (·.1)).map cT)]++[.lst ((T.map (·.1)).map cT)]):=by unfold Q1 xM;rwa[yf,BJ,lN];rw[A7 {nI up,few},JCt up]
 have e':dU (bE 2) (dC bt) (T.map tJ) [some (.v (.fl (T.map tJ))),bh ((w:Int)),none,none] []=_:=e;push_cast [hV,t3];rw[e'];generalize HY:(T.map (·.1)).map cT=rows at *;have okr:d3 60 (.fl rows)=true:=by rw[←HY];exact zL _
 have eqr:jI (.fl rows) (.fl rows)=true:=by rw[←HY];exact Aj _
 have g1:(U++[aw.lst rows]++[aw.lst rows])[U.length]?=some (.lst rows):=by rw[BK ∅];exact yf
 have fs:Qm (ae 3) [some (.v (.fl (T.map tJ))),bh ((w:Int)),x2,bF U.length] (U++[.lst rows])=some (.p (U++[aw.lst rows]).length,U++[.lst rows]++[.lst rows]):=ss;push_cast [z1,hc,z2,fs,g1,yf,okr,eqr]
noncomputable def la (t:Int)(h:Rc)(q:Int×Rc):Rc:=if q.1<=t then q.2 else h
theorem Eb:∀(qs:T5 (Int×Rc)) (g:Rc) (t:Int),Up qs->qs.foldl (la t) g=ra g qs t
 |[],_,_,_=>rfl
 |q::qs,g,t,hu=>by
  let⟨h1,h2⟩:=D0.mp hu;rw[E8,ra];by_cases h:t<q.1
  ·rw[A7 h,la,A5 ∅,Eb qs g t h2];exact JFd _ _ _ λp hp=>by have:=h1 p hp;omega
  ·rw[A5 h,la,A7 ∅,Eb qs q.2 t h2]
noncomputable def tg (d:Int)(b:A8)(e:Int):A8:=if e<=d then !b else b
theorem Jp (d:Int):∀(es:Th) (b:A8),es.Pairwise (·<·)->es.foldl (tg d) b=lv b es d
 |[],_,_=>rfl
 |e::es,b,h=>by
  let⟨p1,p2⟩:=D0.mp h;rw[E8,Jp d es _ p2,lv,tg];by_cases z:e<=d
  ·rw[A7 z,A5 ∅]
  ·rw[A5 z,A7 ∅,JGy λx hx=>by have:=p1 x hx;omega]
def yh (g:Rc)(qs:T5 (Int×Rc))(d t:Int)(hp:Pf g qs):d8 [pD g qs,.int d,.int t]=some (.bl (ul (ra g qs t) d)):=by
 rw[xw];let⟨⟨r,x5,x6⟩,e,h1⟩:=eR (g:=qE 2 (aK (bE 5) (aK (bE 6) dI))) (b:=eV) sD
  (λst:Rc×UE R×UE R=>([some (.v (pD g qs)),bh d,bh t,some (.v (.bl st.1.1)),some (.v (.tup (st.1.2.map .int))),st.2.1,st.2.2,none],([]:ac)))
  (λst rem=>rem.foldl (la t) st.1=ra g qs t) qs (g,none,none) (Eb qs g t hp.up) (by
   rintro⟨h,x,y⟩ q rem hh;refine{(la t h q,bh q.1,some (.v (rD q.2))),?_,hh};by_cases hz:q.1<=t
   ·have GJ:decide (q.1<=t)=true:=Bs hz;push_cast [eV,sD,rD,GJ,la,A7 hz]
   ·have GJ:decide (q.1<=t)=false:=Bf hz;push_cast [eV,sD,rD,GJ,la,A5 hz])
 have h1:r=ra g qs t:=h1;let⟨⟨b,x7⟩,e2,h2⟩:=eR (g:=bE 7) (b:=eU) D.int
  (λst:A8×UE R=>([some (.v (pD g qs)),bh d,bh t,some (.v (.bl st.1)),some (.v (.tup (r.2.map .int))),x5,x6,st.2],([]:ac)))
  (λst rem=>rem.foldl (tg d) st.1=ul r d) r.2 (r.1,none) (Jp d r.2 r.1 (by rw[h1];exact hp.at t)) (by
   rintro⟨b,x⟩ q rem hh;refine{(tg d b q,some (.v (.int q))),?_,hh};by_cases hz:q<=d
   ·have GJ:decide (q<=d)=true:=Bs hz;push_cast [eU,GJ,tg,A7 hz]
   ·have GJ:decide (q<=d)=false:=Bf hz;push_cast [eU,GJ,tg,A5 hz])
 have h2:b=ul r d:=h2;have e':dU (qE 2 (aK (bE 5) (aK (bE 6) dI))) eV (qs.map sD) [some (.v (.tup [.tup [.bl g.1,.tup (g.2.map .int)],.tup (qs.map sD)])),bh d,bh t,some (.v (.bl g.1)),some (.v (.tup (g.2.map .int))),none,none,none] []=_:=e;have e2':dU (bE 7) eU (r.2.map .int) [some (.v (.tup [.tup [.bl g.1,.tup (g.2.map .int)],.tup (qs.map sD)])),bh d,bh t,some (.v (.bl r.1)),some (.v (.tup (r.2.map .int))),x5,x6,none] []=_:=e2;push_cast [mo,pD,rD];rw[e'];push_cast [pD,rD];rw[e2'];push_cast [h2,h1]
def Me {es:T5 En}(hb:∀e∈es,Pf e.2.1 e.2.2)(hn:es.length<64)(d t:Int):eP [.fl (es.map tJ),.int d,.int t]=some (.lst ((gd d t es).map cT)):=by
 rw[JA7];have z1:(es.map tJ).length<=sizeLine:=cI (by rw[Az];omega);have cm0:=wU (c:=dM (aJ d8 3 (ag (bJ (ae 1)) (ag (bJ (ae 2)) (ag (bJ (ae 3)) am))))) (f:=ae 0) (rest:=[bh d,bh t]) (U:=[]) (λe:En=>cT e.1) (λe=>jY e.2) (λe=>lW e.2 t d) (λe=>cT e.1) es none none (λe he=>by have h1:=yh e.2.1 e.2.2 d t (hb e he);push_cast [h1]) (λe _ _=>by push_cast [HW.N5])
 have cm:bS (qE 2 (aK (bE 0) (aK (bE 1) dI))) (dM (aJ d8 3 (ag (bJ (ae 1)) (ag (bJ (ae 2)) (ag (bJ (ae 3)) am))))) (ae 0) (es.map tJ) (d6 2 [1,2] [some (.v (.fl (es.map tJ))),bh d,bh t]) []=some ((gd d t es).map cT,[]):=by rw[gd,CY];exact cm0
 push_cast [qV,z1,cm]
def bW (i:Int){j:Int}(h:0<j)(U:ac):cE (.v (.int i)) (.v (.int j)) U=some (.v (.int (i%j)),U):=qL h
def dJ (i:Int){j:Int}(h:0<j)(h2:j<2 ^ 30)(U:ac):fV (.v (.int i)) (.v (.int j)) U=some (.v (.int (i / j)),U):=MO ∅ ∅
def Dz (l:Th)(i:Int)(h:0<=i/\i<(l.length:Int)):∃x∈l,L2.m6 (l.map D.int) i=some (.int x):=by
 obtain⟨j,rfl⟩:∃j:Nat,(j:Int)=i:={i.toNat,zcY h.1};have hj:j<l.length:=by omega
 exact{l[j],HF hj,qW (Bl hj)}
noncomputable def mL:T5 Nat:=[97,98,99,100,101,102,103,104,105,106,107,108,109,110,111,112,113,114,115,116,117,118,119,120,121,122]
def Km:(Str.ofString "abcdefghijklmnopqrstuvwxyz")=Tx mL:=by decide
def Kn:(Str.ofString "kmz")=Tx [107,109,122]:=by decide
def Mb:∀c∈mL,c<1000:=by decide
theorem Eh:∀l:T5 Nat,Str.join ⟨#[]⟩ (l.map λc=>Tx [c])=Tx l
 |[]=>rfl
 |[a]=>rfl
 |a::b::t=>by
  have ih:=Eh (b::t);rwa[AZ] at ih ⊢;rw[Str.join,ih]
  ·exact Str.ext' (Array.toList_inj.mp (by
    show(([a].toArray++#[])++(b::t).toArray).toList=_
    simp))
  all_goals simp
theorem zh:∀l:T5 Nat,nt (l.map λc=>D.str (Tx [c]))=some (l.map λc=>Tx [c])
 |[]=>rfl
 |a::l=>by rwa[AZ,nt,zh l,BJ]
def JD4 (l:T5 Nat)(hl:l.length<=40):JoinOk ⟨#[]⟩ (l.map λc=>Tx [c])=true:=by
 unfold JoinOk Builtin.Str.tooLong;have h:∀(l:T5 Nat) (s:Nat),(l.map λc=>Tx [c]).foldl (λt w=>t+w.length+(⟨#[]⟩:Str).length) s=s+l.length:=by
  intro l;induction l with
  |nil=>intro s;simp
  |cons a l ih=>
   intro s;rw[AZ,E8,ih,lM]
   show s+1+0+_=_
   rw[C0];omega
 have h:=h l 0;rw[←List.foldl_toArray'] at h
 ·rwa[Bool.not_eq_true',decide_eq_false_iff_not,Nat.not_lt];refine DL (Nat.le_of_eq h) ?_;have h4:(4000:Nat)<=sizeLine:=by decide
  omega
 ·rfl
def JG2 {n:Nat}{U:ac}{l:T5 Nat}(h:U[n]?=some (.lst (l.map λc=>D.str (Tx [c]))))(hl:l.length<=40):sJ (.v (.str "")) (.p n) U=some (.v (.str (Tx l)),U):=by
 have e:(Str.ofString "")=⟨#[]⟩:=by decide
 show((jW (.p n) U).bind λds=>(nt ds).bind λts=>if JoinOk (Str.ofString "") ts=true then some (R.v (.str (Txt.join (Str.ofString "") ts)),U) else none)=_
 rw[HU,h,MK,BJ,zh,BJ,e,A7 (JD4 l hl)];rw[show Txt.join ⟨#[]⟩ (l.map λc=>Tx [c])=Tx l from(PySem.StrLaws.glued_eq_join _ _).trans (Eh l)]
theorem qP {Z:Type}{f:FE}{rest:Lo}{U:ac}(e:Z->D)(P:D->Prop):∀(xs:T5 Z) (x0:UE R),(∀a∈xs,∃d,P d/\f (some (.v (e a))::rest) U=some (.v d,U))->∃ds,bS (bE 0) gf f (xs.map e) (x0::rest) U=some (ds,U)/\ds.length=xs.length/\∀d∈ds,P d
 |[],_,_=>{[],rfl,rfl,λ_ h=>nomatch h}
 |a::xs,x0,h=>by
  let⟨d,hd,h1⟩:=h a BB;let⟨ds,ih,hl,hp⟩:=qP e P xs (some (.v (e a))) λb hb=>h b (BF _ hb);refine{d::ds,?_,by simp[hl],λz hz=>?_}
  ·rwa[AZ,bS,bE,zcf,BJ,gf,if_true,h1,ih]
  ·rcases BA.mp hz with rfl|hz
   ·exact hd
   ·exact hp z hz
theorem yZ {Z:Type}(e:Z->D)(Q:Z->Prop):∀ds:T5 D,(∀d∈ds,∃a,Q a/\d=e a)->∃l:T5 Z,ds=l.map e/\∀a∈l,Q a
 |[],_=>{[],rfl,λ_ h=>nomatch h}
 |d::ds,h=>by let⟨a,ha,rfl⟩:=h d BB;let⟨l,rfl,hl⟩:=yZ e Q ds λx hx=>h x (BF _ hx);exact{a::l,rfl,λx hx=>(BA.mp hx).elim (λe=>e ▸ ha) (hl x)}
structure Sh where
 nm:Str
 ks:Nat
 w:Nat
abbrev cR (s:Sh):D:=.tup [.str s.nm,.int (s.ks:Int),.int (s.w:Int)]
def okN (x:Str):Prop:=∃l:T5 Nat,x=Tx l/\∀c∈l,c<1000
def okN.ok {x:Str}(h:okN x)(n:Nat):d3 n (.str x)=true:=by let⟨l,rfl,h⟩:=h;exact N9 λc hc=>by have:=h c hc;omega
structure GS (AO:List Sh):Prop where
 pos:0<AO.length
 le:AO.length<=3
 nd:(AO.map (·.nm)).Nodup
 ok:∀s∈AO,(s.ks<=s.w/\s.w<=8)/\okN s.nm
abbrev DU (l:T5 Nat)(p c:Nat):T5 Nat:=l.take p++[c]++l.drop (p+1)
def JGv {l:T5 Nat}{p c d:Nat}(h:Tx (DU l p c)=Tx (DU l p d)):c=d:=by
 have h:=(Nt (l:=DU l p c) (r:=DU l p d));rename_i h0;rw[h0] at h;have h:DU l p c=DU l p d:=by simpa using h
 have h:=List.append_cancel_right h;simpa using List.append_cancel_left h
def JAn (cell:Int):∃AO:T5 Sh,GS AO/\dB [.int cell]=some (.fl (AO.map cR)):=by
 rw[tT];let⟨n,hn,Ha,hn1⟩:=gw cell 1 ∅;have b8:=dN n (j:=8) ∅;obtain⟨m,hm⟩:∃m:Nat,(1+n%8).toNat=m:={_,rfl};have hmi:(m:Int)=1+n%8:=by omega
 obtain⟨ds,hc,hl,hp⟩:=qP (f:=au JZ (fK (.str "abcdefghijklmnopqrstuvwxyz")) (au cE (au fV (aJ aS 2 (ag (bJ (ae 1)) (ag (bJ (au dO (fK (.int 70)) (ae 0))) am))) (fK (.int 3))) (fK (.int 26)))) (rest:=[bh cell]) (U:=[]) (λi:Nat=>D.int (i:Int)) (λd=>∃c:Nat,c<1000/\d=D.str (Tx [c])) (List.range m) none (λk hk=>by
  have hk:=G0.mp hk;let⟨a,ha,ha0,ha1⟩:=gw cell (70+(k:Int)) ∅;have b:=dN (a / 3) (j:=26) ∅;have An:(a / 3%26).toNat<mL.length:=by show _<26;omega
  have hx:=JA (U:=[]) (l:=mL) (i:=a / 3%26) (c:=mL[(a / 3%26).toNat]) b.1 ∅ (Bl An);rw[←Km] at hx;refine{_,{_,Mb _ (HF An),rfl},?_};push_cast [ha,dJ a (j:=3) ∅ ∅,bW (a / 3) (j:=26) ∅,hx])
 let⟨l,rfl,Hc⟩:=yZ (λc:Nat=>D.str (Tx [c])) (·<1000) ds hp;have hl:l.length=m:=by simpa using hl
 have z0:((List.range m).map λi=>D.int (i:Nat)).length<=sizeLine:=cI (by simp;omega);have bp:=dN (n / 8) (j:=(m:Int)) ∅;obtain⟨p,Gg⟩:∃p:Nat,(p:Int)=n / 8%(m:Int):={(n / 8%(m:Int)).toNat,by omega};have hpl:p<l.length:=by omega
 have zl:l.length<=sizeLine:=cI ∅;have jv:=JG2 (n:=0) (U:=[aw.lst (l.map λc=>D.str (Tx [c]))]) (l:=l) rfl ∅;have lv:=Kx (U:=[aw.lst (l.map λc=>D.str (Tx [c]))]) zl;have b3:=dN (n / 64) (j:=3) ∅;obtain⟨q,hq⟩:∃q:Nat,(1+n / 64%3).toNat=q:={_,rfl};have hmi':(l.length:Int)=(m:Int):=by omega
 push_cast [jN,hn,bW n (j:=8) ∅,uF (j:=1+n%8) ∅,hm,z0,hc,Gy,E7,jv,lv,hmi',dJ n (j:=8) ∅ ∅,bW (n / 8) (j:=(m:Int)) ∅,←Gg,dJ n (j:=64) ∅ ∅,bW (n / 64) (j:=3) ∅,uF (j:=1+n / 64%3) ∅,hq];have b256:=dN (n / 256) (j:=3) ∅;have to:=λU=>N7 (U:=U) (l:=l) (n:=p) ∅ zl;have fr:=λU=>JEk (U:=U) (l:=l) (n:=p+1) ∅ zl;have pc:(p:Int)+1=((p+1:Nat):Int):=by omega
 let⟨O',U',e,AO,x5,x6,x7,rfl,⟨cs,rfl⟩,h1,h2,h3⟩:=qr (g:=bE 5) (b:=g7) (O:=[bh cell,bh n,some (.v (.str (Tx l))),bh ((p:Int)),bF 1,none,none,none]) (U:=[aw.lst (l.map λc=>D.str (Tx [c])),.lst []]) q
  (λi O U=>∃(AO:T5 Sh) (x5 x6 x7:UE R),O=[bh cell,bh n,some (.v (.str (Tx l))),bh ((p:Int)),bF 1,x5,x6,x7]/\(∃cs:T5 aw,U=.lst (l.map λc=>D.str (Tx [c])) :: .lst (AO.map cR)::cs)/\AO.length=i/\(∀s∈AO,((s.ks<=s.w/\s.w<=8)/\okN s.nm)/\∃k c,k<i/\[107,109,122][k]?=some c/\s.nm=Tx (DU l p c))/\(AO.map (·.nm)).Nodup)
  {[],none,none,none,rfl,{[],rfl},rfl,(λ_ h=>nomatch h),.nil} (by
   rintro i hi O U ⟨AO,x5,x6,x7,rfl,⟨cs,rfl⟩,h1,h2,h3⟩;have hi3:i<3:=∅;let⟨a,ha,ha0,ha1⟩:=gw cell (80+(i:Int)) ∅;let⟨b,hb,hb0,K3⟩:=gw cell (90+(i:Int)) ∅;let⟨x,hx,EM⟩:=Dz [3,3,8] (n / 256%3) b256;have hx0:0<x/\x<=8:=(by simp at hx;omega);have EM:L2.m6 [D.int 3,.int 3,.int 8] (n / 256%3)=some (.int x):=EM;have bw:=dN (a / 3) (j:=x) hx0.1;obtain⟨w,hw⟩:∃w:Nat,(w:Int)=1+a / 3%x:={(1+a / 3%x).toNat,by omega};have bk:=dN (b / 3) (j:=(w:Int)+1) ∅;obtain⟨ks,GL⟩:∃ks:Nat,(ks:Int)=b / 3%((w:Int)+1):={(b / 3%((w:Int)+1)).toNat,by omega};have hc3:∃c,[107,109,122][i]?=some c/\c<1000:=by have:i=0\/i=1\/i=2:=∅;rcases this with rfl|rfl|rfl <;> exact{_,rfl,by decide}
   let⟨c,hc,hc1⟩:=hc3;have kx:=λU=>JA (U:=U) (l:=[107,109,122]) (i:=(i:Int)) (c:=c) ∅ ∅ ‹hc›;rw[←Kn] at kx;have ad1:∀U:ac,dO (.v (.str (Tx (l.take p)))) (.v (.str (Tx [c]))) U=some (.v (.str (Tx (l.take p++[c]))),U):=λU=>by rw[Ct,A7 (cI (by simp;omega))]
   have ad2:∀U:ac,dO (.v (.str (Tx (l.take p++[c])))) (.v (.str (Tx (l.drop (p+1))))) U=some (.v (.str (Tx (DU l p c))),U):=λU=>by rw[Ct,A7 (cI (by simp;omega))]
   have zs:(AO.map cR).length<sizeLine:=j9 (by simp;omega);refine{_,_,?_,AO++[{Tx (DU l p c),ks,w}],bh ((i:Int)),bh ((w:Int)),some (.v (.str (Tx (DU l p c)))),rfl,{cs++[.lst [.int 3,.int 3,.int 8]],rfl},by simp[h1],λs hs=>?_,?_}
   ·push_cast [g7,ha,hb,dJ a (j:=3) ∅ ∅,dJ b (j:=3) ∅ ∅,dJ n (j:=256) ∅ ∅,bW (n / 256) (j:=3) ∅,yf,EM,bW (a / 3) (j:=x) hx0.1,←hw,N8,Kw,Kv,Ku,to,pc,fr,kx,ad1,ad2,bW (b / 3) (j:=(w:Int)+1) ∅,←GL,zs,D6]
   ·rcases D7.mp hs with hs|hs
    ·let⟨q1,k,c',q2,q3,q4⟩:=h2 s hs;exact{q1,k,c',by omega,q3,q4}
    ·rw[Bm.mp hs];refine{{{?_,?_},{_,rfl,λz hz=>?_}},i,c,by omega,hc,rfl}
     ·show ks<=w;omega
     ·show w<=8;omega
     ·rcases D7.mp hz with hz|hz
      ·rcases D7.mp hz with hz|hz
       ·exact Hc z (zb1 hz)
       ·rw[Bm.mp hz];exact hc1
      ·exact Hc z (List.mem_of_mem_drop hz)
   ·rw[D6,F9];refine{h3,by simp,λu hu v hv z=>?_};have hv:v=Tx (DU l p c):=‹hv›;let⟨s,hs,rfl⟩:=BH.mp hu;let⟨_,k,c',q2,q3,q4⟩:=h2 s hs;rw[q4,hv] at z;have:=JGv z;subst this;have nd:([107,109,122]:T5 Nat).Nodup:=∅;have:=(List.getElem?_inj (by simp;omega) nd).mp (q3.trans hc.symm);omega)
 rw[e];push_cast [HW.N5];exact{AO,{by omega,by omega,h3,λs hs=>(h2 s hs).1},rfl}
def zH {Z:Type}(f:Z->D)(xs:T5 Z)(i:Int)(hx:0<xs.length):∃x∈xs,L2.m6 (xs.map f) (i%(xs.length:Int))=some (f x):=by
 obtain⟨j,hj⟩:∃j:Nat,(j:Int)=i%(xs.length:Int):={(i%(xs.length:Int)).toNat,by rw[zcY (zcT _ ∅)]};have An:j<xs.length:=by have:=zcC i (b:=(xs.length:Int)) ∅;omega
 exact{xs[j],HF An,by rw[←hj];exact qW (Bl An)}
noncomputable def EL (sc:Int):Th:=(List.range 18).map λi:Nat=>((i:Int)-3)*sc
def FC (sc:Int):(EL sc).length=18:=by simp[EL]
def FB {sc k:Int}(h1 : -3<=k)(h2:k<=14):k*sc∈EL sc:=BH.mpr {(k+3).toNat,G0.mpr ∅,by rw[zcY ∅];congr 1;omega}
structure GT (sc:Int)(AO:List Sh)(x:Tl):Prop where
 ok:x.Ok
 ed:∀z∈(st x.lo x.hi).2,z∈EL sc
 nm:okN x.nm
 sh:∃s∈AO,s.nm=x.nm/\x.said.length=if x.tl=true then s.w else s.ks
section
variable {O:Lo}{U:ac}{x:R}
noncomputable def Jb (o:UE (R×ac))(fl fh:FO)(O:Lo):UE (R×ac):=o.bind λa=>(fl O a.2).bind λl=>(fh O l.2).bind λh=>JB a.1 l.1 h.1 h.2
noncomputable def Ja (x:R)(o:UE (UE Int×ac))(fh:FO)(O:Lo):UE (R×ac):=o.bind λl=>(fh O l.2).bind λh=>JB x l.1 h.1 h.2
noncomputable def I0 (x:R)(l:UE Int)(o:UE (UE Int×ac)):UE (R×ac):=o.bind λh=>JB x l h.1 h.2
def S7 {fa:FE}{fl fh:FO}:Bu fa fl fh O U=Jb (fa O U) fl fh O:=rfl
def S6 {fl fh:FO}:Jb (some (x,U)) fl fh O=Ja x (fl O U) fh O:=rfl
def S5 {fh:FO}{l:UE Int}:Ja x (some (l,U)) fh O=I0 x l (fh O U):=rfl
def S0 {l h:UE Int}:I0 x l (some (h,U))=JB x l h U:=rfl
def SZ (r:Th)(k:Nat)(U:ac):JB (.v (.key r)) none (some (k:Int)) U=some (.v (.key (r.take k)),U):=by
 have:BD r none (some (k:Int))=r.take k:=by unfold BD;have h1:HT.cG r.length 0 none=0:=rfl;have h2:HT.cG r.length r.length (some (k:Int))=min k r.length:=HT.ua _ _ _;rw[h1,h2,zc1,zdb,zcN.mpr];simp
 show some (R.v (.key (BD r none (some (k:Int)))),U)=_
 rw[this]
end
def xD (c s:Int)(hs:0<s){AO:T5 Sh}(g:GS AO):∃x:Tl,GT s AO x/\c8 [.int c,.fl (AO.map cR),.int s]=some (bI x):=by
 rw[rn];let⟨n,hn,Ha,hn1⟩:=gw c 2 ∅;let⟨sh,CZ,a1⟩:=zH cR AO n g.pos;let⟨⟨hk,hw⟩,Ed⟩:=g.ok sh CZ;have mS:=λU=>bW n (j:=(AO.length:Int)) (by have:=g.pos;omega) U;obtain⟨P,hP⟩:∃P:Int,P=10 ^ (50:Int).toNat:={_,rfl};have Ig:∀U:ac,rN (.v (.int 10)) (.v (.int 50)) U=some (.v (.int P),U):=λU=>by rw[EN ∅,hP]
 have hP0:0<P:=by rw[hP];exact Int.pow_pos ∅
 clear hP;have sz5:5<=sizeLine:=by decide
 let⟨ds,hc,hl,hp⟩:=qP (f:=au aZ (ae 1) (au cE (au fV (aJ aS 2 (ag (bJ (ae 2)) (ag (bJ (au dO (fK (.int 20)) (ae 0))) am))) (fK (.int 5))) (fK (.int 5)))) (rest:=[bF 0,bh c]) (U:=[aw.lst [.int 0,.int 1,.int (-1),.int (c%P),.int (0-c%P)]]) (λi:Nat=>D.int (i:Int)) (λd=>∃i:Int,True/\d=D.int i) (List.range sh.w) none (λk hk=>by have hk:=G0.mp hk;let⟨a,ha,ha0,ha1⟩:=gw c (20+(k:Int)) ∅;have b:=dN (a / 5) (j:=5) ∅;obtain⟨x,-,hx⟩:=Dz [0,1,-1,c%P,0-c%P] (a / 5%5) b;have hx:L2.m6 [D.int 0,.int 1,.int (-1),.int (c%P),.int (0-c%P)] (a / 5%5)=some (.int x):=hx;refine{_,{x,trivial,rfl},?_};push_cast [ha,dJ a (j:=5) ∅ ∅,bW (a / 5) (j:=5) ∅,hx])
 obtain⟨r,rfl,-⟩:=yZ D.int (λ_=>True) ds hp;have hl:r.length=sh.w:=by simpa using hl
 have z0:(List.range sh.w).length<=sizeLine:=cI (by simp;omega);have b12:=dN (n / 8) (j:=12) ∅;have b6:=dN (n / 96) (j:=6) ∅;have m1:∀U:ac,nG (.v (.int (n / 8%12-3))) (.v (.int s)) U=some (.v (.int ((n / 8%12-3)*s)),U):=λU=>jH ∅;have m2:∀U:ac,nG (.v (.int (1+n / 96%6))) (.v (.int s)) U=some (.v (.int ((1+n / 96%6)*s)),U):=λU=>jH ∅;have hgt:0<(1+n / 96%6)*s:=Int.mul_pos ∅ hs;obtain⟨lw,hlw⟩:∃lw,lw=(n / 8%12-3)*s:={_,rfl};obtain⟨up,hup⟩:∃up,up=lw+(1+n / 96%6)*s:={_,rfl};have ct:=SZ r sh.ks;have ev:∀(b1 b2 b3:A8),(n / 600%5 == 0)=b1->(n / 3000%5 == 0)=b2->(n / 15000%3 == 0)=b3 ->
   eX (fN [bh c,some (.v (.fl (AO.map cR))),bh s,none,none,none,none,none,none,none,none] [])=some (bI {!b3,if b3 then r.take sh.ks else r,if b1 then none else some lw,if b2 then none else some up,sh.nm}):=by
  intro b1 b2 b3 e1 e2 e3;cases b1 <;> cases b2 <;> cases b3 <;> push_cast [fN,hn,Az,mS,a1,Ig,bW c (j:=P) hP0,sz5,uF (j:=(sh.w:Int)) ∅,Gs,z0,hc,Ec,BJ,dJ n (j:=8) ∅ ∅,bW (n / 8) (j:=12) ∅,m1,dJ n (j:=96) ∅ ∅,bW (n / 96) (j:=6) ∅,m2,←hlw,←hup,dJ n (j:=600) ∅ ∅,bW (n / 600) (j:=5) ∅,dJ n (j:=3000) ∅ ∅,bW (n / 3000) (j:=5) ∅,dJ n (j:=15000) ∅ ∅,bW (n / 15000) (j:=3) ∅,e1,e2,e3,S7,S6,S5,S0,ct,Bc,if_false,E6,zco,oD] <;> rfl
 have m1':lw∈EL s:=by rw[hlw];exact FB ∅ ∅
 have m2':up∈EL s:=by rw[hup,hlw,←Int.add_mul];exact FB ∅ ∅
 have ed:∀lo hi:UE Int,(∀z,lo=some z->z∈EL s)->(∀z,hi=some z->z∈EL s)->∀z∈(st lo hi).2,z∈EL s:=λlo hi h1 h2=>by
  cases lo <;> cases hi <;> simp[st] at h1 h2 ⊢
  ·exact h2
  ·exact h1
  ·exact{h1,h2}
 refine{_,{?_,ed _ _ (λz hz=>?_) (λz hz=>?_),Ed,sh,CZ,rfl,?_},ev _ _ _ rfl rfl rfl}
 ·intro l u h1 h2;dsimp only at h1 h2;split at h1
  ·cases h1
  ·split at h2
   ·cases h2
   ·cases h1;cases h2;omega
 ·dsimp only at hz;split at hz
  ·cases hz
  ·cases hz;exact m1'
 ·dsimp only at hz;split at hz
  ·cases hz
  ·cases hz;exact m2'
 ·dsimp only
  cases(n / 15000%3 == 0)
  ·simpa using hl
  ·simp;omega
def zM (n:Nat)(x:Str):d3 n (.str x)=PyData.strOk x:=by cases n <;> rfl
def OU {x:Tl}(h:okN x.nm)(n:Nat):d3 (n+4) (sf x)=true:=by
 have o:∀(o:UE Int) (m:Nat),d3 m (oD o)=true:=λo m=>by cases o <;> cases m <;> rfl
 refine jw (cp ?_ (cp (h.ok _) (cp (jw (ja _)) (cp (o _ _) (cp (o _ _) mK)))));split
 ·exact(zM _ _).trans ∅
 ·exact(zM _ _).trans ∅
def L3 {xs:T5 Tl}(h:∀x∈xs,okN x.nm):d3 60 (.fl (xs.map sf))=true:=by
 have:∀xs:T5 Tl,(∀x∈xs,okN x.nm)->okDs 59 (xs.map sf)=true:=by
  intro xs;induction xs with
  |nil=>intro _;rfl
  |cons x xs ih=>intro h;exact cp (OU (h x BB) 55) (ih λy hy=>h y (BF _ hy))
 exact DP (this xs h)
def JEn (c s:Int){xs:T5 Tl}(hx:∀x∈xs,okN x.nm):∃d t:Int,du [.int c,.int 9,.fl (xs.map sf),.int s]=some (.tup [.int d,.int t]):=by
 rw[xu];let⟨n,hn,Ha,hn1⟩:=gw c (9+41) ∅;have b16:=dN (n / 70) (j:=16) ∅;have m1:∀U:ac,nG (.v (.int (n / 70%16-4))) (.v (.int s)) U=some (.v (.int ((n / 70%16-4)*s)),U):=λU=>jH ∅;have md3:=λU=>bW n (j:=(xs.length:Int)+3) ∅ U;have okx:=L3 hx;have ok0:d3 60 (.fl [])=true:=rfl;by_cases hT:xs=[]
 ·have e0:jI (.fl (xs.map sf)) (.fl [])=true:=by rw[hT];rfl
  push_cast [hJ,hn,Az,md3,dJ n (j:=70) ∅ ∅,bW (n / 70) (j:=16) ∅,m1,dJ n (j:=7000) ∅ ∅,bW (n / 7000) (j:=2) ∅,okx,ok0,e0,E6];exact{_,_,rfl}
 ·have e0:jI (.fl (xs.map sf)) (.fl [])=false:=by
   cases xs with
   |nil=>exact AJ rfl hT
   |cons e T=>rfl
  cases q:(n / 14000%2 == 0) with
  |false=>
   push_cast [hJ,hn,Az,md3,dJ n (j:=70) ∅ ∅,bW (n / 70) (j:=16) ∅,m1,dJ n (j:=7000) ∅ ∅,bW (n / 7000) (j:=2) ∅,okx,ok0,e0,zco,dJ n (j:=14000) ∅ ∅,bW (n / 14000) (j:=2) ∅,q];exact{_,_,rfl}
  |true=>
   have hpos:=zcw.mpr hT;obtain⟨x,hxm,a1⟩:=zH sf xs (n / 28000) hpos;have mT:=λU=>bW (n / 28000) (j:=(xs.length:Int)) ∅ U;obtain⟨es,Fj⟩:∃es:Th,es=x.lo.toList++x.hi.toList:={_,rfl};have cu:md [D.str (if x.tl=true then "tell" else "strike"),.str x.nm,.tup (x.said.map .int),oD x.lo,oD x.hi] (some 3) none=[oD x.lo,oD x.hi]:=rfl
   have hc:∀U:ac,bS (bE 0) (fB (jZ (rT true .non) (ae 0))) (ae 0) [oD x.lo,oD x.hi] [none] U=some (es.map .int,U):=λU=>by
    rw[Fj];cases x.lo <;> cases x.hi <;> rfl
   have oke:d3 60 (.fl (es.map .int))=true:=DP (ja _)
   have fin:∀(es:Th) (t d:Int) (x7:R) (k:Nat) (U:ac),d3 60 (.fl (es.map .int))=true->U[k]?=some (.lst (es.map .int))->∃d' U',(fR (fB (au (gq true) (ae 7) (dX am))) (aV 6 (au oM (au aZ (ae 7) (fK (.int 0))) (au cE (au fV (ae 4) (fK (.int 2000000))) (fK (.int 2))))) aQ)
     [bh c,bh 9,some (.v (.fl (xs.map sf))),bh s,bh n,bh t,bh d,bF k] U=some (.nx [bh c,bh 9,some (.v (.fl (xs.map sf))),bh s,bh n,bh t,bh d',bF k] U'):=by
    intro es t d x7 k U oke hk
    have C2:(U++[aw.lst []])[k]?=some (.lst (es.map .int)):=by rw[BK (dR hk)];exact hk
    cases es with
    |nil=>
     have e1:jI (.fl []) (.fl [])=true:=rfl;refine{d,U++[aw.lst []],?_};push_cast [C2,yf,oke,ok0,e1,E6]
    |cons i es=>
     have e1:jI (.fl ((i::es).map .int)) (.fl [])=false:=rfl;refine{i-n / 2000000%2,U++[aw.lst []],?_};rw[AZ] at C2 oke e1;push_cast [C2,yf,oke,ok0,e1,zco,dJ n (j:=2000000) ∅ ∅,bW (n / 2000000) (j:=2) ∅]
   generalize hL:(fR (fB (au (gq true) (ae 7) (dX am))) (aV 6 (au oM (au aZ (ae 7) (fK (.int 0))) (au cE (au fV (ae 4) (fK (.int 2000000))) (fK (.int 2))))) aQ)=L at fin;let⟨d',U',hf⟩:=fin es (n%((xs.length:Int)+3)-1) ((n / 70%16-4)*s-n / 7000%2) (.p 1) 1 [aw.lst [],aw.lst (es.map .int)] oke rfl;refine{d',n%((xs.length:Int)+3)-1,?_};rw[hJ,hL];push_cast [hn,Az,md3,dJ n (j:=70) ∅ ∅,bW (n / 70) (j:=16) ∅,m1,dJ n (j:=7000) ∅ ∅,bW (n / 7000) (j:=2) ∅,okx,ok0,e0,zco,dJ n (j:=14000) ∅ ∅,bW (n / 14000) (j:=2) ∅,q,dJ n (j:=28000) ∅ ∅,mT,a1,cu,hc,hf]
noncomputable def hit (nm:Str)(key:Th)(d:Int)(x:Tl):A8:=x.nm == nm&&(decide (x.said.take key.length=key)&&wx x.lo x.hi d)
def mY (a b:Str):jI (.str a) (.str b)=(a == b):=rfl
theorem JCw (x:Tl)(d:Int):jc [bI x,.int d]=some (.bl (wx x.lo x.hi d)):=by
 rw[JA6];have Dh:∀U:ac,aZ (.v (bI x)) (.v (.int 4)) U=some (.v (oD x.hi),U):=λU=>rfl;have Dy:∀U:ac,aZ (.v (bI x)) (.v (.int 3)) U=some (.v (oD x.lo),U):=λU=>rfl;have i0:∀U:ac,rT false .non (.v .non) U=some (.v (.bl true),U):=λU=>rfl;have i1:∀(i:Int) (U:ac),rT false .non (.v (.int i)) U=some (.v (.bl false),U):=λi U=>rfl;unfold wx
 cases hl:x.lo with
 |none=>
  rw[hl] at Dy
  cases hh:x.hi with
  |none=>rw[hh] at Dh;push_cast [hZ,Dy,Dh,oD,i0]
  |some h=>rw[hh] at Dh;push_cast [hZ,Dy,Dh,oD,i1,zb9]
 |some l=>
  rw[hl] at Dy;by_cases c:d<l
  ·have c':decide (d<l)=true:=Bs c;have c2:decide (l<=d)=false:=Bf ∅;push_cast [hZ,Dy,oD,c',c2,zcZ]
  ·have c':decide (d<l)=false:=Bf c;have c2:decide (l<=d)=true:=Bs ∅
   cases hh:x.hi with
   |none=>rw[hh] at Dh;push_cast [hZ,Dy,Dh,oD,i0,c',c2]
   |some h=>rw[hh] at Dh;push_cast [hZ,Dy,Dh,oD,i1,c',c2,zb9]
noncomputable def Bz (h:Nat->A8):Nat->UE Nat
 |0=>none
 |n+1=>if h n=true then some (n+1) else Bz h n
noncomputable def hits (nm:Str)(key:Th)(d:Int)(xs:T5 Tl)(i:Nat):A8:=match xs[i]? with|some x=>hit nm key d x|none=>false
noncomputable def pJ (t:Int)(n:Nat):Nat:=min t.toNat n
open L2
def Av (xs:T5 Tl)(nm:Str)(ks:Nat)(r:Th)(d t:Int):Prop:=∃m x,Bz (hits nm (r.take ks) d xs) (pJ t xs.length)=some (m+1)/\xs[m]?=some x/\x.tl=true/\x.said=r
theorem ly {h h':Nat->A8}:∀n:Nat,(∀i,i<n->h i=h' i)->Bz h n=Bz h' n
 |0,_=>rfl
 |n+1,e=>by
  have ih:=ly n λi hi=>e i ∅
  show(if h n=true then _ else _)=if h' n=true then _ else _
  rw[e n ∅,ih]
theorem lx {h:Nat->A8}:∀(n:Nat) {k:Nat},Bz h n=some k->∃m,k=m+1/\m<n/\h m=true
 |0,_,e=>by cases e
 |n+1,k,e=>by
  have e:(if h n=true then some (n+1) else Bz h n)=some k:=e;split at e
  ·rename_i c
   cases e;exact{n,rfl,by omega,c}
  ·let⟨m,h1,h2,h3⟩:=lx n e;exact{m,h1,by omega,h3}
section
variable {xs:T5 Tl}{x:Tl}{nm:Str}{ks w:Nat}{T A:T5 En}{d t:Int}{r:Th}
def JEa (key:Th){i:Nat}(h:i<xs.length):hits nm key d (xs++[x]) i=hits nm key d xs i:=by unfold hits;rw[BK h]
def wy (key:Th):hits nm key d (xs++[x]) xs.length=hit nm key d x:=by
 unfold hits;have:(xs++[x])[xs.length]?=some x:=by simp
 rw[this]
def uL (key:Th){n:Nat}(h:n<=xs.length):Bz (hits nm key d (xs++[x])) n=Bz (hits nm key d xs) n:=ly n λi hi=>JEa key ∅
def tI (h:t<(xs.length:Int)+1):Av (xs++[x]) nm ks r d t ↔ Av xs nm ks r d t:=by
 have hu:pJ t (xs++[x]).length=pJ t xs.length:=by unfold pJ;rw[Bp];simp;omega
 have hl:pJ t xs.length<=xs.length:=zc8 _ _;unfold Av;rw[hu,uL _ hl];constructor
 ·rintro⟨m,y,h1,h2,h3⟩;obtain⟨m',e,hm,-⟩:=lx _ h1;rw[BK ∅] at h2;exact{m,y,h1,h2,h3}
 ·rintro⟨m,y,h1,h2,h3⟩;exact{m,y,h1,by rw[BK (dR h2)];exact h2,h3}
def xm (h:¬ t<(xs.length:Int)+1):Av (xs++[x]) nm ks r d t ↔ if hit nm (r.take ks) d x=true then x.tl=true/\x.said=r else Av xs nm ks r d t:=by
 have hu:pJ t (xs++[x]).length=xs.length+1:=by unfold pJ;rw[Bp];simp;omega
 have hu2:pJ t xs.length=xs.length:=by unfold pJ;omega
 unfold Av;rw[hu,hu2,show Bz (hits nm (r.take ks) d (xs++[x])) (xs.length+1)=if hits nm (r.take ks) d (xs++[x]) xs.length=true then some (xs.length+1) else Bz (hits nm (r.take ks) d (xs++[x])) xs.length from rfl,wy,uL _ (B3 _)];by_cases c:hit nm (r.take ks) d x=true
 ·rw[A7 c,A7 c];have g:(xs++[x])[xs.length]?=some x:=by simp
  constructor
  ·rintro⟨m,y,h1,h2,h3⟩;have:m=xs.length:=‹h1.symm›;subst this;rw[g] at h2;cases h2;exact h3
  ·rintro h3;exact{xs.length,x,rfl,g,h3}
 ·rw[A5 c,A5 c];constructor
  ·rintro⟨m,y,h1,h2,h3⟩;obtain⟨m',e,hm,-⟩:=lx _ h1;rw[BK ∅] at h2;exact{m,y,h1,h2,h3}
  ·rintro⟨m,y,h1,h2,h3⟩;exact{m,y,h1,by rw[BK (dR h2)];exact h2,h3}
def JAp (hn:x.nm≠nm):Av (xs++[x]) nm ks r d t ↔ Av xs nm ks r d t:=by
 by_cases h:t<(xs.length:Int)+1
 ·exact tI h
 ·rw[xm h,A5];unfold hit;rw[show(x.nm == nm)=false by simpa using hn];simp
def JCe (hn:x.nm=nm)(hk:ks<=w)(hr:r.length=w)(hc:r∈gd d t A ↔ if t<(xs.length:Int)+1\/wx x.lo x.hi d=false then r∈gd d t T else (r∈gd d t T/\r.take ks≠x.said.take ks)\/(x.tl=true/\r=x.said))
  (hT:r∈gd d t T ↔ Av xs nm ks r d t):r∈gd d t A ↔ Av (xs++[x]) nm ks r d t:=by
 rw[hc]
 by_cases h:t<(xs.length:Int)+1
 ·rw[A7 (.inl h),tI h];exact hT
 ·rw[xm h]
  have kl:(r.take ks).length=ks:=by rw[F8];omega
  have hh:hit nm (r.take ks) d x=(decide (x.said.take ks=r.take ks)&&wx x.lo x.hi d):=by
   unfold hit;rw[kl,hn,zcs,zb9]
  rw[hh]
  cases q:wx x.lo x.hi d with
  |false=>rw[A7 (.inr rfl),A5 ∅];exact hT
  |true=>
   rw[A5 (by simp[h])]
   by_cases c:x.said.take ks=r.take ks
   ·rw[A7 (by simp[c])]
    constructor
    ·rintro(⟨_,z⟩|⟨h1,h2⟩)
     ·exact AJ c.symm z
     ·exact{h1,h2.symm}
    ·rintro⟨h1,h2⟩
     exact .inr {h1,h2.symm}
   ·rw[A5 (by simp[c])]
    constructor
    ·rintro(⟨z,_⟩|⟨h1,h2⟩)
     ·exact hT.mp z
     ·exact AJ (by rw[h2]) c
    ·exact λz=>.inl {hT.mpr z,λe=>c e.symm}
end
end LW
namespace LW
open HW
section
variable {O:Lo}{U:ac}{n:Nat}
noncomputable def w6 (o:UE aw)(c f:Str)(U:ac):UE (R×ac):=match o with|some (.ob c' fs)=>if c'=c then (fs.lookup f).bind λd=>some (d,U) else none|_=>none
noncomputable def Cf (o:UE (R×ac))(c f:Str):UE (R×ac):=o.bind λo=>match o.1 with|.p n=>w6 o.2[n]? c f o.2|_=>none
theorem n8 {c f:Str}{fo:FE}:hG c f fo O U=Cf (fo O U) c f:=by
 unfold hG Cf;refine AQ _ (funext λo=>?_);unfold xY
 cases o.1 with
 |p n=>
  dsimp only
  cases e:o.2[n]? with
  |none=>rfl
  |some c'=>
   cases c' with
   |ob c' fs=>
    show(if c'=c then some fs else none).bind _=if c'=c then _ else none
    split <;> rfl
   |_=>rfl
 |_=>rfl
def j0 {c f:Str}:Cf (some (.p n,U)) c f=w6 U[n]? c f U:=rfl
abbrev BM (a b c:Nat):T5 (Str×R):=[("shape_list",.p a),("tellings",.p b),("tables_now",.p c)]
def Uk:(("tellings" : Str) == "shape_list")=false:=by decide
def Uj:(("tables_now" : Str) == "shape_list")=false:=by decide
def Ui:(("tables_now" : Str) == "tellings")=false:=by decide
def Su {a b c:Nat}:w6 (some (.ob "Book" (BM a b c))) "Book" "shape_list" U=some (.p a,U):=by simp[w6,E9]
def T8 {a b c:Nat}:w6 (some (.ob "Book" (BM a b c))) "Book" "tellings" U=some (.p b,U):=by simp[w6,E9,Uk]
def Ss {a b c:Nat}:w6 (some (.ob "Book" (BM a b c))) "Book" "tables_now" U=some (.p c,U):=by simp[w6,E9,Uj,Ui]
def nX {nm:Str}{w:MW}{fo:FE}{fa:FA}{rs:T5 R}{U1:ac}{a b c s:Nat}(ho:fo O U=some (.p s,U))(hs:U[s]?=some (.ob "Book" (BM a b c)))(h1:(nm == "shape_list")=false)(h2:(nm == "tellings")=false)(h3:(nm == "tables_now")=false)(ha:fa O U=some (rs,U1))(hl:rs.length+1=n):iA "Book" nm w n fo fa O U=w (.p s::rs) U1:=by simp[iA,ho,xY,hs,E9,h1,h2,h3,ha,hl]
noncomputable def NN (o:UE (T5 R×ac))(f:MW)(n:Nat):UE (R×ac):=o.bind λa=>if a.1.length=n then f a.1 a.2 else none
def Kc {f:MW}{fa:FA}:jF f n fa O U=NN (fa O U) f n:=rfl
def BW {f:MW}{rs:T5 R}:NN (some (rs,U)) f n=if rs.length=n then f rs U else none:=rfl
end
def oN {a b:FS}{O O1:Lo}{U U1:ac}(ha:a O U=some (.nx O1 U1)):aE a b O U=b O1 U1:=by rw[l7,ha,iB]
def pz {AO:T5 Sh}(g:GS AO){s t:Sh}(hs:s∈AO)(ht:t∈AO)(e:s.nm=t.nm):s=t:=by let⟨i,hi,rfl⟩:=G6 hs;let⟨j,hj,rfl⟩:=G6 ht;have:i=j:=(zbP (xs:=AO.map (·.nm)) (h₀:=by simpa using hi) (h₁:=by simpa using hj) g.nd).mp ‹e›;subst this;rfl
def pZ {AO:T5 Sh}(g:GS AO){s:Sh}(hs:s∈AO):bQ [.fl (AO.map cR),.str s.nm]=some (cR s):=by
 rw[xt];have key:∀(l:T5 Sh) (x2:UE R),(∀t∈l,t∈AO)->s∈l->dU (bE 2) eT (l.map cR) [some (.v (.fl (AO.map cR))),some (.v (.str s.nm)),x2] []=some (.rt (.v (cR s)) []):=by
  intro l;induction l with
  |nil=>intro _ _ h;cases h
  |cons t l ih=>
   intro x2 hl hm;have o1:=(g.ok t (hl t BB)).2.ok 60;have o2:=(g.ok s hs).2.ok 60;rw[AZ,lm]
   cases c:(t.nm == s.nm) with
   |true=>
    have:=pz g (hl t BB) hs ‹c›;subst this;push_cast [eT,o1,mY,c]
   |false=>
    have hm:s∈l:=(BA.mp hm).resolve_left λe=>(by rw[e] at c;simp at c);have e:eT [some (.v (.fl (AO.map cR))),some (.v (.str s.nm)),some (.v (cR t))] []=some (.nx [some (.v (.fl (AO.map cR))),some (.v (.str s.nm)),some (.v (cR t))] []):=by push_cast [eT,o1,o2,mY,c]
    rwa[uG,rX,uh,ug];rw[e,zP];exact ih _ (λt ht=>hl t (BF _ ht)) hm
 have k:=key AO none (λ_ h=>h) hs;push_cast [mj];rw[k];push_cast [HW.N5]
def u4 (key:Th){k:Nat}(h:key.length=k):dQ [.tup (key.map .int),.int (k:Int)]=some .non:=by
 rw[rB];have e:((key.length:Int) == (k:Int))=true:=by rw[h];exact zcs _
 push_cast [iU,Az,e,E6]
theorem uO {lo hi:UE Int}(h:∀l r,lo=some l->hi=some r->l<r):cW [oD lo,oD hi]=some .non:=by
 rw[oK]
 cases lo with
 |none=>cases hi <;> rfl
 |some l=>
  cases hi with
  |none=>rfl
  |some r=>
   have:=h l r rfl rfl;have hz:decide (r<=l)=false:=Bf ∅;push_cast [gg,oD,hz]
def NR (x:Tl):bO [sf x]=some (.bl x.tl):=by
 rw[sg];let⟨b,s,lo,hi,nm⟩:=x;cases b
 ·push_cast [gQ,Bc,if_false,k5,k6,q6]
 ·push_cast [gQ,if_true,k5,q5]
theorem JEx {sc:Int}{AO:T5 Sh}(g:GS AO){x:Tl}(h:GT sc AO x):bv [.fl (AO.map cR),sf x]=some .non:=by
 rw[oJ];let⟨s,hs,hn,hl⟩:=h.sh;have se:=pZ g hs;rw[hn] at se;have Dh:∀U:ac,aZ (.v (sf x)) (.v (.int 4)) U=some (.v (oD x.hi),U):=λU=>rfl;have Dy:∀U:ac,aZ (.v (sf x)) (.v (.int 3)) U=some (.v (oD x.lo),U):=λU=>rfl;have GZ:∀U:ac,aZ (.v (sf x)) (.v (.int 2)) U=some (.v (.tup (x.said.map .int)),U):=λU=>rfl;have GI:∀U:ac,aZ (.v (sf x)) (.v (.int 1)) U=some (.v (.str x.nm),U):=λU=>rfl;have te:=NR x;have ch:=uO h.ok;have fl:cY (cR s)=true:=rfl
 cases ht:x.tl with
 |true=>
  rw[ht] at te hl;have w:=u4 x.said hl;rw[A7 rfl] at w;push_cast [d7,GI,GZ,Dy,Dh,se,fl,te,w,ch]
 |false=>
  rw[ht] at te hl;have w:=u4 x.said hl;rw[A5 ∅] at w;push_cast [d7,GI,GZ,Dy,Dh,se,fl,te,w,ch]
open L2
structure Bk (U:ac)(s a b c:Nat)(AO:List Sh)(xs:List Tl)(kv:List (aI×D)):Prop where
 ob:U[s]?=some (.ob "Book" (BM a b c))
 sl:U[a]?=some (.lst (AO.map cR))
 tl:U[b]?=some (.lst (xs.map bI))
 tb:U[c]?=some (.dct kv)
 ab:a≠b
section
variable {U:ac}{s a b c:Nat}{AO:T5 Sh}{xs:T5 Tl}{kv:T5 (aI×D)}
def Bk.app (h:Bk U s a b c AO xs kv)(cs:T5 aw):Bk (U++cs) s a b c AO xs kv:=by
 have f:∀{i:Nat} {x:aw},U[i]?=some x->(U++cs)[i]?=some x:=λ{i x} e=>by rw[BK (dR e)];exact e
 exact{f h.ob,f h.sl,f h.tl,f h.tb,h.ab}
def B1 (x:Tl):eG (bI x)=sf x:=by
 have o:∀o:UE Int,eG (oD o)=oD o:=λo=>by cases o <;> rwa[oD,eG]
 rwa[bI,sf,dH,eG,unkDs,o]
theorem y0:∀xs:T5 Tl,unkDs (xs.map bI)=xs.map sf
 |[]=>by rwa[CS,unkDs]
 |x::xs=>by rw[AZ,unkDs,B1,y0 xs];rfl
def Kh (s:Sh):eG (cR s)=cR s:=by rwa[cR,eG,unkDs]
theorem y4:∀l:T5 Sh,unkDs (l.map cR)=l.map cR
 |[]=>by rwa[CS,unkDs]
 |s::l=>by rw[AZ,unkDs,Kh,y4 l]
end
noncomputable def M0 (n:Nat):Th:=(List.range (n+1)).map λi:Nat=>(i:Int)
def At (n:Nat):(M0 n).length=n+1:=by simp[M0]
def pC {n:Nat}{q:Int}:q∈M0 n ↔ 0<=q/\q<=n:=by unfold M0;rw[BH];exact{λh=>by let⟨i,hi,rfl⟩:=h;have:=G0.mp hi;omega,λh=>{q.toNat,G0.mpr ∅,by omega}}
def BP.mono {ES TS ES' TS':Th}{p:Pl}(h:BP ES TS p)(h1:∀e∈ES,e∈ES')(h2:∀e∈TS,e∈TS'):BP ES' TS' p:={h.pf,λe he=>h1 e (h.ge e he),λq hq e he=>h1 e (h.re q hq e he),λq hq=>h2 _ (h.te q hq)}
structure nc (sc:Int)(sh:Sh)(xs:List Tl)(T:List En):Prop where
 bp:∀e∈T,BP (EL sc) (M0 xs.length) e.2
 rw:∀e∈T,e.1.length=sh.w
 up:BR (T.map (·.1))
 ln:T.length<=xs.length
 sem:∀(r:Th) (d t:Int),r.length=sh.w->(r∈gd d t T ↔ Av xs sh.nm sh.ks r d t)
 ne:∀e∈T,e.2≠u3
def nc.more {sc:Int}{sh:Sh}{xs:T5 Tl}{T:T5 En}(h:nc sc sh xs T){x:Tl}(hx:x.nm≠sh.nm):nc sc sh (xs++[x]) T :=
 {λe he=>(h.bp e he).mono (λz hz=>hz) (λz hz=>by rw[pC] at hz ⊢;rw[Bp];simp;omega),h.rw,h.up,by have:=h.ln;rw[Bp];simp;omega,λr d t hr=>by rw[JAp hx];exact h.sem r d t hr,h.ne}
def JBx (bt:A8){sc:Int}{sh:Sh}{xs:T5 Tl}{T:T5 En}(h:nc sc sh xs T)(hk:sh.ks<=sh.w){x:Tl}(hx:x.nm=sh.nm)(ho:x.Ok)(he:∀z∈(st x.lo x.hi).2,z∈EL sc)(hs:x.tl=true->x.said.length=sh.w)(hn:xs.length<=62) :
  ∃A:T5 En,fw bt [.fl (T.map dg),.int (sh.ks:Int),bI x,.int ((xs.length:Int)+1)]=some (.lst (A.map dg))/\nc sc sh (xs++[x]) A:=by
 let⟨A,hA,hu,hm⟩:=JEf bt ho (keys:=sh.ks) (a:=(xs.length:Int)+1) h.bp (by rw[FC];omega) (by rw[At];omega) h.rw hs (nI h.up) (by have:=h.ln;omega)
 have te:∀e∈T,∀q∈e.2.2,q.1<(xs.length:Int)+1:=λe he q hq=>by
  have:=pC.mp ((h.bp e he).te q hq);omega
 have bp':∀e∈T,BP (EL sc) (M0 (xs++[x]).length) e.2:=λe he=>(h.bp e he).mono (λz hz=>hz) (λz hz=>by rw[pC] at hz ⊢;rw[Bp];simp;omega);have bp:=JEg ho bp' te hm he (pC.mpr (by rw[Bp];simp;omega))
 have Dx:∀e∈A,e.1.length=sh.w/\e.1∈(bZ x T).map (·.1):=λe he=>by
  obtain⟨h1,-⟩:=(hm e).mp he;let⟨y,hy,rfl⟩:=BH.mp h1;rw[kz];refine{?_,Er hy};rcases e7.mp hy with h2|⟨h2,_,rfl⟩
  ·exact h.rw y h2
  ·exact hs h2
 refine{A,hA,λe he=>(bp e he).1,λe he=>(Dx e he).1,hu,?_,λr d t hr=>JCe hx hk hr (JEe ho h.bp te hm t d r) (h.sem r d t hr),λe he=>(bp e he).2}
 have:=iO (A.map (·.1)) ((bZ x T).map (·.1)) (nI hu) λz hz=>by let⟨e,he,rfl⟩:=BH.mp hz;exact(Dx e he).2
 rw[Az,Az] at this
 have el:(bZ x T).length<=T.length+1:=by
  unfold bZ;split
  ·simp
  ·omega
 have:=h.ln;rw[Bp];simp;omega
noncomputable def ni (AO:T5 Sh)(Ts:Str->T5 En):T5 (aI×D):=AO.map λs=>(.inr (some s.nm),.fl ((Ts s.nm).map dg))
theorem yX {AO:T5 Sh}(Ts:Str->T5 En){s:Sh}(hs:s∈AO):mB ((ni AO Ts).map λp=>(p.1,R.v p.2)) (.inr (some s.nm))=some (.v (.fl ((Ts s.nm).map dg))):=by
 unfold ni;induction AO with
 |nil=>cases hs
 |cons t l ih=>
  unfold mB at ih ⊢;rw[AZ,AZ];by_cases c:t.nm=s.nm
  ·rw[zci (by simp[c]),c];rfl
  ·rw[zbU (by simp[c])];exact ih ((BA.mp hs).resolve_left λe=>c (by rw[e]))
def LA {AO:T5 Sh}(Ts:Str->T5 En){s:Sh}(hs:s∈AO)(A:T5 En):ir (ni AO Ts) (.inr (some s.nm)) (.fl (A.map dg))=ni AO λnm=>if nm=s.nm then A else Ts nm:=by
 have h1:((ni AO Ts).any λkv=>decide (kv.1=.inr (some s.nm)))=true:=HB.mpr {_,Er hs,by simp};unfold ir;rw[A7 h1];unfold ni;rw[CY];refine zb7 λt _=>?_;rwa[Function.comp];by_cases c:t.nm=s.nm
 ·rw[A7 (by rw[c]),A7 c]
 ·rw[A5 ‹c›,A5 c]
section
variable {U:ac}{s a b c:Nat}{AO:T5 Sh}{xs:T5 Tl}{sc:Int}
def JEj (bt:A8)(g:GS AO){Ts:Str->T5 En}(h:Bk U s a b c AO xs (ni AO Ts)){x:Tl}(gx:GT sc AO x)(hT:∀s∈AO,nc sc s xs (Ts s.nm))(hn:xs.length<=62) :
  ∃(r:D) (U':ac) (Gp:Str->T5 En),bM bt [.p s,.v (bI x)] U=some (.v r,U')/\Bk U' s a b c AO (xs++[x]) (ni AO Gp)/\(∀s∈AO,nc sc s (xs++[x]) (Gp s.nm))/\∀i y,i≠b->i≠c->U[i]?=some y->U'[i]?=some y:=by
 let⟨sh,CZ,Ed,hwd⟩:=gx.sh;let⟨A,hA,gA⟩:=JBx bt (hT sh CZ) (g.ok sh CZ).1.1 Ed.symm gx.ok gx.ed (λe=>by rw[hwd,A7 e]) hn
 have DB:s≠b:=λe=>by have h1:=h.ob;rw[e,h.tl] at h1;cases h1
 have hsc:s≠c:=λe=>by have h1:=h.ob;rw[e,h.tb] at h1;cases h1
 have hac:a≠c:=λe=>by have h1:=h.sl;rw[e,h.tb] at h1;cases h1
 have hbc:b≠c:=λe=>by have h1:=h.tl;rw[e,h.tb] at h1;cases h1
 have lb:=dR h.tl;have lc:=dR h.tb;obtain⟨ν,hν⟩:∃ν,ν=U.set b (.lst ((xs++[x]).map bI)):={_,rfl}
 have n1:ν[s]?=some (.ob "Book" (BM a b c)):=by rw[hν,CP (Ne.symm DB)];exact h.ob
 have n2:ν[a]?=some (.lst (AO.map cR)):=by rw[hν,CP (Ne.symm h.ab)];exact h.sl
 have n3:ν[b]?=some (.lst ((xs++[x]).map bI)):=by rw[hν,FV lb]
 have n4:ν[c]?=some (.dct (ni AO Ts)):=by rw[hν,CP hbc];exact h.tb
 have len:ν.length=U.length:=by rw[hν];simp
 refine{.int ((xs.length:Int)+1),(ν++[aw.fz (A.map dg)]).set c (.dct (ni AO λnm=>if nm=sh.nm then A else Ts nm)),λnm=>if nm=sh.nm then A else Ts nm,?_,?_,?_,?_}
 ·rw[vd]
  have GI:∀U:ac,aZ (.v (bI x)) (.v (.int 1)) U=some (.v (.str x.nm),U):=λU=>rfl
  have ck:uk bv [.fl (AO.map cR),bI x]=some .non:=by
   have e:unkDs [.fl (AO.map cR),bI x]=[.fl (AO.map cR),sf x]:=by
    rw[unkDs,unkDs,B1];rwa[unkDs,eG,y4]
   exact(AQ bv e).trans (JEx g gx)
  have se:=pZ g CZ;rw[Ed] at se;have fl:cY (cR sh)=true:=rfl;have fln:cY .non=true:=rfl
  have e1:cS (ee (uk bv) 2 (ag (hG "Book" "shape_list" (ae 0)) (ag (ae 1) am))) [bF s,some (.v (bI x)),none,none,none] U=some (.nx [bF s,some (.v (bI x)),none,none,none] U):=by
   push_cast [n8,j0,h.ob,Su,h.sl,ck,fln]
  have e2:aV 2 (au aZ (ae 1) (fK (.int 1))) [bF s,some (.v (bI x)),none,none,none] U=some (.nx [bF s,some (.v (bI x)),some (.v (.str x.nm)),none,none] U):=by
   push_cast [GI]
  have e3:aV 3 (au aZ (ee bQ 2 (ag (hG "Book" "shape_list" (ae 0)) (ag (ae 2) am))) (fK (.int 1))) [bF s,some (.v (bI x)),some (.v (.str x.nm)),none,none] U=some (.nx [bF s,some (.v (bI x)),some (.v (.str x.nm)),bh ((sh.ks:Int)),none] U):=by
   push_cast [n8,j0,h.ob,Su,h.sl,se,fl]
  have zl:(xs.map bI).length<sizeLine:=j9 (by rw[Az];omega)
  have e4:cS (Bx lF (hG "Book" "tellings" (ae 0)) (ag (ae 1) am)) [bF s,some (.v (bI x)),some (.v (.str x.nm)),bh ((sh.ks:Int)),none] U=some (.nx [bF s,some (.v (bI x)),some (.v (.str x.nm)),bh ((sh.ks:Int)),none] ν):=by
   rw[hν,D6];push_cast [n8,j0,h.ob,T8,h.tl,zl]
  have ln1:(((xs++[x]).map bI).length:Int)=(xs.length:Int)+1:=by simp
  have e5:aV 4 (gp gF (ag (hG "Book" "tellings" (ae 0)) am)) [bF s,some (.v (bI x)),some (.v (.str x.nm)),bh ((sh.ks:Int)),none] ν=some (.nx [bF s,some (.v (bI x)),some (.v (.str x.nm)),bh ((sh.ks:Int)),bh (((xs.length:Int)+1))] ν):=by
   push_cast [n8,j0,n1,T8,n3,ln1]
  have vr:=yX Ts CZ;rw[Ed] at vr
  have kv1:ur (.p c) ν=some ((ni AO Ts).map λp=>(p.1,R.v p.2)):=by rw[Nl,n4];rfl
  have kf:lH (.v (.str x.nm))=some (.inr (some x.nm)):=rfl
  have fx:wH (hG "Book" "tables_now" (ae 0)) (ae 2) [bF s,some (.v (bI x)),some (.v (.str x.nm)),bh ((sh.ks:Int)),bh (((xs.length:Int)+1))] ν=some (.v (.fl ((Ts sh.nm).map dg)),ν):=by
   have:hG "Book" "tables_now" (ae 0) [bF s,some (.v (bI x)),some (.v (.str x.nm)),bh ((sh.ks:Int)),bh (((xs.length:Int)+1))] ν=some (.p c,ν):=by push_cast [n8,j0,n1,Ss]
   rw[Nm,this,IJ]
   show zd (.p c) (some (.v (.str x.nm),ν))=_
   rw[II,kv1]
   show(mB _ (.inr (some x.nm))).bind _=_
   rw[vr,Ed];rfl
  have flA:=qH A
  have cA:(ν++[aw.fz (A.map dg)])[s]?=some (.ob "Book" (BM a b c)):=by rw[BK (dR n1)];exact n1
  have cB:(ν++[aw.fz (A.map dg)])[c]?=some (.dct (ni AO Ts)):=by rw[BK (dR n4)];exact n4
  have zk:(ni AO Ts).length<sizeLine:=j9 (by unfold ni;rw[Az];have:=g.le;omega);have pk:=LA Ts CZ A;rw[Ed] at pk;have st1:(ν++[aw.lst (A.map dg)]).set ν.length (.fz (A.map dg))=ν++[aw.fz (A.map dg)]:=kg;rw[Ed] at fx
  have e6:oP (bJ (gc (fw bt) 4 (ag (wH (hG "Book" "tables_now" (ae 0)) (ae 2)) (ag (ae 3) (ag (ae 1) (ag (ae 4) am)))))) (rV (hG "Book" "tables_now" (ae 0)) (ae 2)) [bF s,some (.v (bI x)),some (.v (.str x.nm)),bh ((sh.ks:Int)),bh (((xs.length:Int)+1))] ν=some (.nx [bF s,some (.v (bI x)),some (.v (.str x.nm)),bh ((sh.ks:Int)),bh (((xs.length:Int)+1))] ((ν++[aw.fz (A.map dg)]).set c (.dct (ni AO λnm=>if nm=sh.nm then A else Ts nm)))):=by
   rw[Ed] at hA;push_cast [fx,hA,flA,yf,st1,n8,j0,cA,Ss,cB,zk,kf,pk,Ed]
  rw[kP,oN e1,oN e2,oN e3,oN e4,oN e5,oN e6];rfl
 ·have lcν:c<(ν++[aw.fz (A.map dg)]).length:=by rw[Bp,len];omega
  have f:∀{i:Nat} {y:aw},i≠c->ν[i]?=some y->((ν++[aw.fz (A.map dg)]).set c (.dct (ni AO λnm=>if nm=sh.nm then A else Ts nm)))[i]?=some y:=λ{i y} hi e=>by
   rw[CP (Ne.symm hi),BK (dR e)];exact e
  exact{f hsc n1,f hac n2,f hbc n3,FV lcν,h.ab}
 ·intro t ht
  dsimp only
  by_cases e:t.nm=sh.nm
  ·rw[A7 e,pz g ht CZ e];exact gA
  ·rw[A5 e];exact(hT t ht).more λz=>e (z ▸ Ed ▸ rfl)
 ·intro i y hb hc e
  have:ν[i]?=some y:=by rw[hν,CP (Ne.symm hb)];exact e
  rw[CP (Ne.symm hc),BK (dR this)];exact this
end
def PR {es:T5 En}(hb:∀e∈es,Pf e.2.1 e.2.2)(hn:es.length<64)(d t:Int):uk eP [.fl (es.map dg),.int d,.int t]=some (.lst ((gd d t es).map cT)):=by
 have eu:unkDs [.fl (es.map dg),.int d,.int t]=[.fl (es.map tJ),.int d,.int t]:=by rwa[unkDs,eG,tO]
 exact(AQ eP eu).trans (Me hb hn d t)
def Fa {T:T5 En}(h:BR (T.map (·.1)))(d t:Int):BR (gd d t T):=List.Pairwise.sublist (List.filter_sublist.map _) h
def sB (A6:T5 (Th×D))(k:Th)(v:D):(fT A6 k v).map (·.1)=if k∈A6.map (·.1) then A6.map (·.1) else A6.map (·.1)++[k]:=by
 unfold fT;by_cases c:k∈A6.map (·.1)
 ·have:(A6.any λp=>decide (p.1=k))=true:=by
   let⟨p,hp,e⟩:=BH.mp c;exact HB.mpr {p,hp,by simpa using e}
  rw[A7 this,A7 c,CY];refine zb7 λp _=>?_;rwa[Function.comp];split <;> rfl
 ·have:¬ (A6.any λp=>decide (p.1=k))=true:=λz=>by
   let⟨p,hp,e⟩:=HB.mp z;exact c (BH.mpr {p,hp,by simpa using e})
  rw[A5 this,A5 c];simp
def ku (A6:T5 (Th×D))(k0:Th)(v0:D)(k:Th)(v:D):(k,v)∈fT A6 k0 v0 ↔ (k=k0/\v=v0)\/(k≠k0/\(k,v)∈A6):=by
 unfold fT;by_cases c:(A6.any λp=>decide (p.1=k0))=true
 ·rw[A7 c,BH];constructor
  ·rintro⟨p,hp,e⟩;split at e
   ·rename_i q;cases e;exact .inl {q,rfl}
   ·rename_i q;cases e;exact .inr {q,hp}
  ·rintro(⟨rfl,rfl⟩|⟨q,h⟩)
   ·let⟨p,hp,e⟩:=HB.mp c;have e:p.1=k:=‹e›;exact{p,hp,by rw[A7 e,e]}
   ·exact{(k,v),h,by rw[A5 q]}
 ·rw[A5 c,D7,Bm];have no:∀v,(k0,v)∉A6:=λv h=>c (HB.mpr {_,h,by simp});constructor
  ·rintro(h|h)
   ·exact .inr {λe=>no v (e ▸ h),h}
   ·cases h;exact .inl {rfl,rfl}
  ·rintro(⟨rfl,rfl⟩|⟨q,h⟩)
   ·exact .inr rfl
   ·exact .inl h
theorem JDf (A6:T5 (Th×D))(k0:Th)(v0:D):lL (fT A6 k0 v0) k0=some v0:=by
 have hm:(k0,v0)∈fT A6 k0 v0:=(ku ..).mpr (.inl {rfl,rfl});unfold lL
 cases q:(fT A6 k0 v0).find? λp=>decide (p.1=k0) with
 |none=>exact AJ (List.find?_eq_none.mp q _ hm) ∅
 |some p=>
  have h1:=List.mem_of_find?_eq_some q;have h2:p.1=k0:=by simpa using zde q
  let⟨a,b⟩:=p;rcases (ku ..).mp h1 with⟨_,h⟩|⟨h,_⟩
  ·rw[h];rfl
  ·exact AJ h2 h
def St (ys:T5 Tl)(nm:Str)(d:Int)(k r:Th):Prop:=∃m x,Bz (hits nm k d ys) ys.length=some (m+1)/\ys[m]?=some x/\x.tl=true/\x.said=r
def iG {ys:T5 Tl}{x:Tl}{nm:Str}{d:Int}{k r:Th}:St (ys++[x]) nm d k r ↔ if hit nm k d x=true then x.tl=true/\x.said=r else St ys nm d k r:=by
 unfold St;have g:(ys++[x])[ys.length]?=some x:=by simp
 rw[Bp,show ys.length + [x].length=ys.length+1 from rfl,show Bz (hits nm k d (ys++[x])) (ys.length+1)=if hits nm k d (ys++[x]) ys.length=true then some (ys.length+1) else Bz (hits nm k d (ys++[x])) ys.length from rfl,wy,uL _ (B3 _)];by_cases c:hit nm k d x=true
 ·rw[A7 c,A7 c];constructor
  ·rintro⟨m,y,h1,h2,h3⟩;have:m=ys.length:=‹h1.symm›;subst this;rw[g] at h2;cases h2;exact h3
  ·exact λh3=>{ys.length,x,rfl,g,h3}
 ·rw[A5 c,A5 c];constructor
  ·rintro⟨m,y,h1,h2,h3⟩;obtain⟨m',e,hm,-⟩:=lx _ h1;rw[BK ∅] at h2;exact{m,y,h1,h2,h3}
  ·rintro⟨m,y,h1,h2,h3⟩;exact{m,y,h1,by rw[BK (dR h2)];exact h2,h3}
structure Nh (ys:List Tl)(nm:Str)(d:Int)(ks:Nat)(A6:List (Th×D)):Prop where
 nd:(A6.map (·.1)).Nodup
 kl:∀p∈A6,p.1.length=ks
 ln:A6.length<=ys.length
 me:∀k v,k.length=ks->((k,v)∈A6 ↔ ∃r,v=.key r/\St ys nm d k r)
section
variable {sc:Int}{AO:T5 Sh}{sh:Sh}{ys:T5 Tl}{x:Tl}{d t:Int}{A6:T5 (Th×D)}
def JEi (g:GS AO)(hs:sh∈AO)(gx:GT sc AO x)(hn:x.nm=sh.nm):(x.said.take sh.ks).length=sh.ks:=by let⟨s',Hy,Fe,hw'⟩:=gx.sh;have:=pz g Hy hs (Fe.trans hn);subst this;have:=(g.ok s' hs).1;rw[F8,hw'];split <;> omega
def yv {k:Th}(hk:k.length=sh.ks):hit sh.nm k d x=(x.nm == sh.nm&&(decide (x.said.take sh.ks=k)&&wx x.lo x.hi d)):=by unfold hit;rw[hk]
theorem JCk (bt:A8)(g:GS AO)(hs:sh∈AO)(gx:GT sc AO x)(h:Nh ys sh.nm d sh.ks A6)(hl:ys.length<100)(cs:T5 aw)(x0 x7:UE R):∃FY y7,
  b7 bt [x0,some (.v (.str sh.nm)),bh ((sh.ks:Int)),bh d,bh t,bF 0,some (.v (bI x)),x7] (aw.dt A6::cs)=some (.nx [x0,some (.v (.str sh.nm)),bh ((sh.ks:Int)),bh d,bh t,bF 0,some (.v (bI x)),y7] (aw.dt FY::cs))/\Nh (ys++[x]) sh.nm d sh.ks FY:=by
 have o1:=gx.nm.ok 60;have o2:=(g.ok sh hs).2.ok 60;have GI:∀U:ac,aZ (.v (bI x)) (.v (.int 1)) U=some (.v (.str x.nm),U):=λU=>rfl;have GZ:∀U:ac,aZ (.v (bI x)) (.v (.int 2)) U=some (.v (.key x.said),U):=λU=>rfl;have li:=JCw x d;have s4:=λU=>SZ x.said sh.ks U
 have ln':A6.length<=(ys++[x]).length:=by have:=h.ln;rw[Bp];simp;omega
 have same:(x.nm == sh.nm&&wx x.lo x.hi d)=false->Nh (ys++[x]) sh.nm d sh.ks A6:=λc=>{h.nd,h.kl,ln',λk v hk=>by
  rw[h.me k v hk]
  have hf:hit sh.nm k d x=false:=by
   rw[yv hk]
   cases q1:(x.nm == sh.nm) with
   |false=>rfl
   |true=>
    rw[q1,zb9] at c;rw[c];simp
  refine exists_congr λr=>and_congr Iff.rfl ?_
  rw[iG,A5 (by rw[hf];simp)]}
 cases c1:(x.nm == sh.nm) with
 |false=>
  refine{A6,x7,?_,same (by rw[c1];rfl)};push_cast [b7,GI,o1,o2,mY,c1]
 |true=>
  have ce:x.nm=sh.nm:=by simpa using c1
  cases c2:wx x.lo x.hi d with
  |false=>
   rw[c2] at li;refine{A6,x7,?_,same (by rw[c2];simp)};push_cast [b7,GI,o1,o2,mY,c1,li]
  |true=>
   rw[c2] at li;have tk:=JEi g hs gx ce
   have hh:∀k,k.length=sh.ks->(hit sh.nm k d x=true ↔ x.said.take sh.ks=k):=λk hk=>by
    rw[yv hk,c1,c2];simp
   have hz:A6.length<1000:=by have:=h.ln;omega
   have gs:∀(y7:UE R),y7=some (.v (.key (x.said.take sh.ks)))->oP (bJ (au aZ (ae 6) (fK (.int 2)))) (sO (ae 5) (ae 7)) [x0,some (.v (.str sh.nm)),bh ((sh.ks:Int)),bh d,bh t,bF 0,some (.v (bI x)),y7] (aw.dt A6::cs)=some (.nx [x0,some (.v (.str sh.nm)),bh ((sh.ks:Int)),bh d,bh t,bF 0,some (.v (bI x)),y7] (aw.dt (fT A6 (x.said.take sh.ks) (.key x.said))::cs)):=by
    rintro y7 rfl
    have i1:bJ (au aZ (ae 6) (fK (.int 2))) [x0,some (.v (.str sh.nm)),bh ((sh.ks:Int)),bh d,bh t,bF 0,some (.v (bI x)),some (.v (.key (x.said.take sh.ks)))] (aw.dt A6::cs)=some (.v (.key x.said),aw.dt A6::cs):=by
     push_cast [GZ]
    rw[MP,i1,Ib];unfold sO
    show pQ ((some ((R.p 0),(aw.dt A6::cs)):UE (R×ac)).bind λo=>_)=_
    rw[BJ];dsimp only
    show pQ ((some ((R.v (.key (x.said.take sh.ks))),(aw.dt A6::cs)):UE (R×ac)).bind λo=>_)=_
    rw[BJ];dsimp only
    show pQ ((some A6:UE (T5 (Th×D))).bind _)=_
    rw[BJ,A7 hz];rfl
   have s7:aV 7 (Bu (au aZ (ae 6) (fK (.int 2))) fg (eN (ae 2))) [x0,some (.v (.str sh.nm)),bh ((sh.ks:Int)),bh d,bh t,bF 0,some (.v (bI x)),x7] (aw.dt A6::cs)=some (.nx [x0,some (.v (.str sh.nm)),bh ((sh.ks:Int)),bh d,bh t,bF 0,some (.v (bI x)),some (.v (.key (x.said.take sh.ks)))] (aw.dt A6::cs)):=by
    push_cast [S7,S6,S5,S0,GZ,s4]
   have cond:(ik (fB (au (gq false) (au aZ (ae 6) (fK (.int 1))) (ae 1))) (dM (aJ jc 2 (ag (bJ (ae 6)) (ag (bJ (ae 3)) am))))) [x0,some (.v (.str sh.nm)),bh ((sh.ks:Int)),bh d,bh t,bF 0,some (.v (bI x)),x7] (aw.dt A6::cs)=some (true,aw.dt A6::cs):=by
    push_cast [GI,o1,o2,mY,c1,li]
   have q7:jI (.str "tell") (.str "strike")=false:=by decide
   have q8:jI (.str "strike") (.str "strike")=true:=by decide
   have pn:((fT A6 (x.said.take sh.ks) (.key x.said)).map (·.1)).Nodup:=by
    rw[sB];split
    ·exact h.nd
    ·rename_i q
     rw[F9];exact{h.nd,by simp,λa ha b hb=>by rw[Bm.mp hb];rintro rfl;exact q ha}
   have pl:(fT A6 (x.said.take sh.ks) (.key x.said)).length<=(ys++[x]).length:=by
    have:=AQ List.length (sB A6 (x.said.take sh.ks) (.key x.said))
    rw[Az] at this
    rw[this,Bp];have:=h.ln;split <;> simp <;> omega
   have pk:∀p∈fT A6 (x.said.take sh.ks) (.key x.said),p.1.length=sh.ks:=λp hp=>by
    let⟨a,b⟩:=p;rcases (ku ..).mp hp with⟨e,_⟩|⟨_,e⟩
    ·show a.length=_;rw[e];exact tk
    ·exact h.kl _ e
   cases ht:x.tl with
   |true=>
    have Ho:∀U:ac,aZ (.v (bI x)) (.v (.int 0)) U=some (.v (.str "tell"),U):=λU=>by
     show some (R.v (.str (if x.tl=true then "tell" else "strike")),U)=_
     rw[A7 ht]
    refine{fT A6 (x.said.take sh.ks) (.key x.said),some (.v (.key (x.said.take sh.ks))),?_,pn,pk,pl,λk v hk=>?_}
    ·rw[b7,kJ,cond,yE,oN s7,oN (gs _ rfl)]
     push_cast [Ho,k5,k6,q7]
    ·rw[ku]
     by_cases c:k=x.said.take sh.ks
     ·have ht':=(hh k hk).mpr c.symm
      constructor
      ·rintro(⟨_,rfl⟩|⟨z,_⟩)
       ·exact{x.said,rfl,by rw[iG,A7 ht'];exact{ht,rfl}}
       ·exact AJ c z
      ·rintro⟨r,rfl,q⟩
       rw[iG,A7 ht'] at q;exact .inl {c,by rw[q.2]}
     ·have hf:¬ hit sh.nm k d x=true:=λz=>c ((hh k hk).mp z).symm
      constructor
      ·rintro(⟨z,_⟩|⟨_,z⟩)
       ·exact AJ z c
       ·let⟨r,e,q⟩:=(h.me k v hk).mp z
        exact{r,e,by rw[iG,A5 hf];exact q}
      ·rintro⟨r,e,q⟩
       rw[iG,A5 hf] at q;exact .inr {c,(h.me k v hk).mpr {r,e,q}}
   |false=>
    have Ho:∀U:ac,aZ (.v (bI x)) (.v (.int 0)) U=some (.v (.str "strike"),U):=λU=>by
     show some (R.v (.str (if x.tl=true then "tell" else "strike")),U)=_
     rw[A5 (by simp[ht])]
    have pv:=JDf A6 (x.said.take sh.ks) (.key x.said)
    have po:wG (ae 5) (ae 7) [x0,some (.v (.str sh.nm)),bh ((sh.ks:Int)),bh d,bh t,bF 0,some (.v (bI x)),some (.v (.key (x.said.take sh.ks)))] (aw.dt (fT A6 (x.said.take sh.ks) (.key x.said))::cs)=some (.v (.key x.said),aw.dt ((fT A6 (x.said.take sh.ks) (.key x.said)).filter λp=>!decide (p.1=x.said.take sh.ks))::cs):=by
     unfold wG
     show(some ((R.p 0),(aw.dt (fT A6 (x.said.take sh.ks) (.key x.said))::cs)):UE (R×ac)).bind _=_
     rw[BJ];dsimp only;rw[A7 (show(uN (aw.dt (fT A6 (x.said.take sh.ks) (.key x.said))::cs) 0).isSome=true from rfl)]
     show(some ((R.v (.key (x.said.take sh.ks))),(aw.dt (fT A6 (x.said.take sh.ks) (.key x.said))::cs)):UE (R×ac)).bind _=_
     rw[BJ];dsimp only
     show(some (fT A6 (x.said.take sh.ks) (.key x.said)):UE (T5 (Th×D))).bind _=_
     rw[BJ,pv];rfl
    refine{(fT A6 (x.said.take sh.ks) (.key x.said)).filter λp=>!decide (p.1=x.said.take sh.ks),some (.v (.key (x.said.take sh.ks))),?_,(List.filter_sublist.map _).nodup pn,λp hp=>pk p (F7.mp hp).1,DL (List.length_filter_le _ _) pl,λk v hk=>?_}
    ·rw[b7,kJ,cond,yE,oN s7,oN (gs _ rfl)]
     push_cast [Ho,k6,q8,po]
    ·rw[F7,ku]
     by_cases c:k=x.said.take sh.ks
     ·have ht':=(hh k hk).mpr c.symm
      constructor
      ·rintro⟨_,z⟩
       simp[c] at z
      ·rintro⟨r,rfl,q⟩
       rw[iG,A7 ht',ht] at q;exact AJ q.1 ∅
     ·have hf:¬ hit sh.nm k d x=true:=λz=>c ((hh k hk).mp z).symm
      constructor
      ·rintro⟨⟨z,_⟩|⟨_,z⟩,_⟩
       ·exact AJ z c
       ·let⟨r,e,q⟩:=(h.me k v hk).mp z
        exact{r,e,by rw[iG,A5 hf];exact q}
      ·rintro⟨r,e,q⟩
       rw[iG,A5 hf] at q;exact{.inr {c,(h.me k v hk).mpr {r,e,q}},by simpa using c}
theorem vF (bt:A8)(g:GS AO)(hs:sh∈AO)(cs:T5 aw)(x0:UE R):∀(zs ys:T5 Tl) (A6:T5 (Th×D)) (x6 x7:UE R),(∀x∈zs,GT sc AO x)->Nh ys sh.nm d sh.ks A6->ys.length+zs.length<100->∃FY y6 y7,
  dU (bE 6) (b7 bt) (zs.map bI) [x0,some (.v (.str sh.nm)),bh ((sh.ks:Int)),bh d,bh t,bF 0,x6,x7] (aw.dt A6::cs)=some (.nx [x0,some (.v (.str sh.nm)),bh ((sh.ks:Int)),bh d,bh t,bF 0,y6,y7] (aw.dt FY::cs))/\Nh (ys++zs) sh.nm d sh.ks FY
 |[],ys,A6,x6,x7,_,h,_=>{A6,x6,x7,rfl,by rw[DZ];exact h}
 |x::zs,ys,A6,x6,x7,hx,h,hl=>by
  rw[C0] at hl;let⟨kvs1,y7,e,h1⟩:=JCk (t:=t) bt g hs (hx x BB) h ∅ cs x0 x7;let⟨kvs2,z6,z7,e2,h2⟩:=vF bt g hs cs x0 zs (ys++[x]) kvs1 (some (.v (bI x))) y7 (λy hy=>hx y (BF _ hy)) h1 (by rw[Bp];simp;omega);refine{kvs2,z6,z7,?_,by rw[EA] at h2;exact h2};rw[AZ,lm];have hg:bE 6 (.v (bI x)) [x0,some (.v (.str sh.nm)),bh ((sh.ks:Int)),bh d,bh t,bF 0,x6,x7] (aw.dt A6::cs)=some ([x0,some (.v (.str sh.nm)),bh ((sh.ks:Int)),bh d,bh t,bF 0,some (.v (bI x)),x7],aw.dt A6::cs):=rfl;rw[hg,rX,e,zP];exact e2
end
section
variable {sc:Int}{AO:T5 Sh}{sh:Sh}{xs:T5 Tl}{d t:Int}
def Pu {w:Nat}{L:Ta}(hn:L.length<64)(hr:∀r∈L,r.length=w)(nd:L.Nodup):L.Nodup/\L.length<64/\(L.length<2\/∀k∈L,k≠[]):=by
 refine{nd,hn,?_};by_cases z:w=0
 ·refine .inl ?_;have:=iO L [[]] nd λx hx=>by
   have:=hr x hx;rw[z] at this
   rw[zbN.mp this];exact BB
  simp at this;omega
 ·refine .inr λk hk e=>?_;have:=hr k hk;rw[e] at this
  simp at this;omega
theorem sL:∀rs:Ta,unkDs (rs.map D.key)=rs.map cT
 |[]=>by rwa[CS,unkDs]
 |r::rs=>by rwa[AZ,unkDs,eG,sL rs]
def JDl (bt:A8)(g:GS AO)(hs:sh∈AO)(hx:∀x∈xs,GT sc AO x)(hn:xs.length<=63):∃rs:Ta,eB bt [.fl (xs.map bI),.str sh.nm,.int (sh.ks:Int),.int d,.int t]=some (.lst ((bj rs).map cT))/\rs.Nodup/\∀r,r∈rs ↔ r.length=sh.w/\Av xs sh.nm sh.ks r d t:=by
 rw[va];obtain⟨n,Ha⟩:∃n,n=pJ t xs.length:={_,rfl};have hnl:n<=xs.length:=by rw[Ha];exact zc8 _ _
 have cu:md (xs.map bI) none (some (max 0 t))=(xs.take n).map bI:=by unfold md;have h1:HT.cG (xs.map bI).length 0 none=0:=rfl;obtain⟨k,hk⟩:∃k:Nat,(k:Int)=max 0 t:={t.toNat,by omega};have h2:HT.cG (xs.map bI).length (xs.map bI).length (some (k:Int))=min k (xs.map bI).length:=HT.ua _ _ _;rw[←hk,h1,h2,zc1,zdb,List.map_take,zcN.mpr];rw[Ha];unfold pJ;simp;omega
 have mx:∀U:ac,D1 [.v (.int 0),.v (.int t)] U=some (.v (.int (max 0 t)),U):=λU=>by
  show some (R.v (.int (if t>0 then t else 0)),U)=_
  congr 4;split <;> omega
 have EX:∀x∈xs.take n,GT sc AO x:=λx h=>hx x (zb1 h);have tl:(xs.take n).length=n:=by rw[F8];omega
 let⟨A6,y6,y7,lo,rg⟩:=vF (t:=t) bt g hs [.fz ((xs.take n).map bI)] (some (.v (.fl (xs.map bI)))) (xs.take n) [] [] none none EX ({.nil,(λ_ h=>nomatch h),B3 _,λk v _=>{(λh=>nomatch h),λ⟨r,_,m,x,h1,_⟩=>by cases h1}}:Nh [] sh.nm d sh.ks []) (by simp;omega);rw[E7] at rg;have pr:∀p∈A6,∃r,p.2=.key r/\r.take sh.ks=p.1/\r.length=sh.w/\Av xs sh.nm sh.ks r d t:=λp hp=>by
  let⟨k,v⟩:=p;have hk:=rg.kl _ hp;let⟨r,e,m,x,h1,h2,h3,h4⟩:=(rg.me k v hk).mp hp;let⟨m',e',hm,hh⟩:=lx _ h1;have:m=m':=by omega
  subst this;unfold hits at hh;rw[h2] at hh;dsimp only at hh;rw[yv hk,Ek,Ek,decide_eq_true_eq] at hh;have Ed:x.nm=sh.nm:=by simpa using hh.1
  have hxm:x∈xs:=zb1 (CU h2);let⟨s',Hy,Fe,hw'⟩:=(hx x hxm).sh;have:=pz g Hy hs (Fe.trans Ed);subst this;rw[A7 h3,h4] at hw';have rk:r.take s'.ks=k:=by rw[←h4];exact hh.2.1
  refine{r,e,rk,hw',m,x,?_,?_,h3,h4}
  ·rw[rk,←Ha,←h1,tl];refine ly n λi hi=>?_;unfold hits;rw[zbI hi]
  ·rw[zbI ∅] at h2;exact h2
 obtain⟨rs,hrs,-⟩:=yZ D.key (λ_=>True) (A6.map (·.2)) (λv hv=>by let⟨p,hp,rfl⟩:=BH.mp hv;let⟨r,e,_⟩:=pr p hp;exact{r,trivial,e})
 have Dq:∀r,r∈rs ↔ r.length=sh.w/\Av xs sh.nm sh.ks r d t:=λr=>by
  have h1:r∈rs ↔ ∃k,(k,D.key r)∈A6:=by
   constructor
   ·intro h;have:D.key r∈A6.map (·.2):=(by rw[hrs];exact Er h);let⟨p,hp,e⟩:=BH.mp this;exact{p.1,by rw[←e];exact hp}
   ·rintro⟨k,h⟩;have:D.key r∈A6.map (·.2):=BH.mpr {_,h,rfl};rw[hrs] at this
    let⟨r',h',e⟩:=BH.mp this;cases e;exact h'
  rw[h1];constructor
  ·rintro⟨k,h⟩;let⟨r',e,_,h2,h3⟩:=pr _ h;cases e;exact{h2,h3}
  ·rintro⟨hr,m,x,q1,q2,q3,q4⟩;have kl:(r.take sh.ks).length=sh.ks:=(by have:=(g.ok sh hs).1;rw[F8];omega);refine{r.take sh.ks,(rg.me _ _ kl).mpr {r,rfl,m,x,?_,?_,q3,q4}}
   ·rw[tl,←q1,←Ha];refine ly n λi hi=>?_;unfold hits;rw[zbI hi]
   ·let⟨m',e',hm,_⟩:=lx _ q1;rw[zbI ∅];exact q2
 have Gi:rs.Nodup:=by
  have e:rs.map (λr=>r.take sh.ks)=A6.map (·.1):=by
   have h2:A6.map (λp=>match p.2 with|.key r=>r.take sh.ks|_=>[])=A6.map (·.1):=zb7 λp hp=>by let⟨r,e,h,_⟩:=pr p hp;rw[e];exact h
   have h3:A6.map (λp=>match p.2 with|.key r=>r.take sh.ks|_=>[])=(A6.map (·.2)).map λv=>match v with|.key r=>r.take sh.ks|_=>[]:=by rw[CY];rfl
   rw[←h2,h3,hrs,CY];rfl
  have:=rg.nd;rw[←e] at this
  exact(GR.mp this).imp λh e=>h (by rw[e])
 have rl:rs.length<=63:=by have h1:=AQ List.length hrs;rw[Az,Az] at h1;have:=rg.ln;omega
 have few:=Pu (w:=sh.w) (L:=rs) ∅ (λr hr=>((Dq r).mp hr).1) Gi;refine{rs,?_,Gi,Dq};have dn:∀O:Lo,HM O []=some (.p 0,[aw.dt []]):=λO=>rfl;have sv:wF (ae 5) [some (.v (.fl (xs.map bI))),some (.v (.str sh.nm)),bh ((sh.ks:Int)),bh d,bh t,bF 0,y6,y7] [aw.dt A6,.fz ((xs.take n).map bI)]=some (.p 2,[aw.dt A6,.fz ((xs.take n).map bI),.lst ((bj rs).map cT)]):=by
  unfold wF
  show(some ((R.p 0),[aw.dt A6,.fz ((xs.take n).map bI)]):UE (R×ac)).bind _=_
  rw[BJ];dsimp only
  show(some A6:UE (T5 (Th×D))).bind _=_
  rw[BJ,hrs,sL,lN,BJ,A7 few];rfl
 push_cast [kN,dn,mx,cu,lo,sv]
end
section
variable {U:ac}{s a b c lt:Nat}{AO:T5 Sh}{xs:T5 Tl}{sc cell:Int}{sh:Sh}
def sk (g:GS AO)(hs:sh∈AO){Ts:Str->T5 En}(h:Bk U s a b c AO xs (ni AO Ts)):bi [.p s,.v (.str sh.nm)] U=some (.p U.length,U++[.lst ((Ts sh.nm).map dg)]):=by
 rw[tV];have se:=pZ g hs;have fl:cY (cR sh)=true:=rfl;have vr:=yX Ts hs;have kv1:ur (.p c) U=some ((ni AO Ts).map λp=>(p.1,R.v p.2)):=by rw[Nl,h.tb];rfl
 have fx:wH (hG "Book" "tables_now" (ae 0)) (ae 1) [bF s,some (.v (.str sh.nm))] U=some (.v (.fl ((Ts sh.nm).map dg)),U):=by
  have:hG "Book" "tables_now" (ae 0) [bF s,some (.v (.str sh.nm))] U=some (.p c,U):=by push_cast [n8,j0,h.ob,Ss]
  rw[Nm,this,IJ]
  show zd (.p c) (some (.v (.str sh.nm),U))=_
  rw[II,kv1]
  show(mB _ (.inr (some sh.nm))).bind _=_
  rw[vr];rfl
 have e1:cS (ee bQ 2 (ag (hG "Book" "shape_list" (ae 0)) (ag (ae 1) am))) [bF s,some (.v (.str sh.nm))] U=some (.nx [bF s,some (.v (.str sh.nm))] U):=by push_cast [n8,j0,h.ob,Su,h.sl,se,fl]
 rw[jQ,oN e1];push_cast [qK,sW,dE,fx,eZ,jG,eY,nU];rfl
theorem sR:∀l:Ta,flatDs (l.map cT)=true:=by
 intro l;induction l with
 |nil=>rfl
 |cons r l ih=>
  have h1:∀ns:Th,flatDs (ns.map HW.D.int)=true:=λns=>by
   induction ns with
   |nil=>rfl
   |cons n ns ih=>rw[AZ,flatDs,ih];rfl
  rw[AZ,flatDs,ih]
  show(flatDs (r.map HW.D.int)&&true)=true
  rw[h1];rfl
abbrev r8 (s:Nat)(sh:Sh)(lt:Nat)(cell sc:Int)(x5 x6 x7:UE R):Lo:=[bF s,some (.v (cR sh)),bF lt,bh cell,bh sc,x5,x6,x7]
def vE (bt:A8)(g:GS AO)(hs:sh∈AO){Ts:Str->T5 En}(h:Bk U s a b c AO xs (ni AO Ts))(hx:∀x∈xs,GT sc AO x)(hT:nc sc sh xs (Ts sh.nm))(hn:xs.length<=63)(hl:U[lt]?=some (.lst (xs.map bI))):∃cs,dh bt [.p s,.v (cR sh),.p lt,.v (.int cell),.v (.int sc)] U=some (.v (.bl true),U++cs):=by
 rw[u9];let⟨d,t,hw⟩:=JEn cell sc (xs:=xs) λx h=>(hx x h).nm;have hu:uk du [.int cell,.int 9,.fl (xs.map bI),.int sc]=some (.tup [.int d,.int t]):=by
  have e:unkDs [.int cell,.int 9,.fl (xs.map bI),.int sc]=[.int cell,.int 9,.fl (xs.map sf),.int sc]:=by rwa[unkDs,eG,y0]
  exact(AQ du e).trans hw
 have fl2:cY (.tup [.int d,.int t])=true:=rfl;let⟨rs,hp,Gi,hm⟩:=JDl (d:=d) (t:=t) bt g hs hx hn;have cD:gd d t (Ts sh.nm)=bj rs:=by
  refine ll (Fa hT.up d t) (g6 Gi) (((List.perm_ext_iff_of_nodup (nI (Fa hT.up d t)) Gi).mpr λr=>?_).trans (bR rs).symm);rw[hm r];constructor
  ·intro q;obtain⟨e,he,rfl,-⟩:=(m5 d t _ r).mp q;exact{hT.rw e he,(hT.sem _ d t (hT.rw e he)).mp q}
  ·rintro⟨h1,h2⟩;exact(hT.sem r d t h1).mpr h2
 have e1:oP (ee (uk du) 4 (ag (ae 3) (ag (fK (.int 9)) (ag (ae 2) (ag (ae 4) am))))) (qE 2 (aK (bE 5) (aK (bE 6) dI))) (r8 s sh lt cell sc none none none) U=some (.nx (r8 s sh lt cell sc (some (.v (.int d))) (some (.v (.int t))) none) U):=by push_cast [hl,hu,fl2]
 have fp:=sR (bj rs);have e2:aV 7 (gc (eB bt) 5 (ag (ae 2) (ag (au aZ (ae 1) (fK (.int 0))) (ag (au aZ (ae 1) (fK (.int 1))) (ag (ae 5) (ag (ae 6) am)))))) (r8 s sh lt cell sc (some (.v (.int d))) (some (.v (.int t))) none) U=some (.nx (r8 s sh lt cell sc (some (.v (.int d))) (some (.v (.int t))) (some (.p U.length))) (U++[.lst ((bj rs).map cT)])):=by push_cast [hl,hp,fp]
 obtain⟨ν,hν⟩:∃ν,ν=U++[.lst ((bj rs).map cT)]:={_,rfl};have b2:Bk ν s a b c AO xs (ni AO Ts):=by rw[hν];exact h.app _
 have tg:=sk g hs b2;have m7:=nX (nm:="table") (w:=bi) (n:=2) (fo:=ae 0) (fa:=ag (au aZ (ae 1) (fK (.int 0))) am) (O:=r8 s sh lt cell sc (some (.v (.int d))) (some (.v (.int t))) (some (.p U.length))) (U:=ν) (s:=s) (rs:=[.v (.str sh.nm)]) (U1:=ν) rfl b2.ob ∅ ∅ ∅ rfl rfl;have ce:=PR (es:=Ts sh.nm) (λe he=>(hT.bp e he).pf) (by have:=hT.ln;omega) d t;have f1:=sR (gd d t (Ts sh.nm));have c1:(gc (uk eP) 3 (ag (iA "Book" "table" bi 2 (ae 0) (ag (au aZ (ae 1) (fK (.int 0))) am)) (ag (ae 5) (ag (ae 6) am)))) (r8 s sh lt cell sc (some (.v (.int d))) (some (.v (.int t))) (some (.p U.length))) ν=some (.p (ν.length+1),ν++[.lst ((Ts sh.nm).map dg),.lst ((gd d t (Ts sh.nm)).map cT)]):=by rw[EW,dE,m7,tg];push_cast [yf,ce,f1];simp
 have okr:∀l:Ta,d3 60 (.fl (l.map cT))=true:=λl=>zL l;have eqr:=Aj (bj rs);refine{[.lst ((bj rs).map cT)]++[.lst ((Ts sh.nm).map dg),.lst ((gd d t (Ts sh.nm)).map cT)],?_};rw[kM,oN e1,oN e2,←hν];have o1:(ν++[aw.lst ((Ts sh.nm).map dg),.lst ((gd d t (Ts sh.nm)).map cT)])[ν.length+1]?=some (.lst ((bj rs).map cT)):=by rw[cD];simp
 have o2:(ν++[aw.lst ((Ts sh.nm).map dg),.lst ((gd d t (Ts sh.nm)).map cT)])[U.length]?=some (.lst ((bj rs).map cT)):=by rw[hν];simp
 have fin:bq (au (gq false) (gc (uk eP) 3 (ag (iA "Book" "table" bi 2 (ae 0) (ag (au aZ (ae 1) (fK (.int 0))) am)) (ag (ae 5) (ag (ae 6) am)))) (ae 7)) (r8 s sh lt cell sc (some (.v (.int d))) (some (.v (.int t))) (some (.p U.length))) ν=some (.rt (.v (.bl true)) (ν++[aw.lst ((Ts sh.nm).map dg),.lst ((gd d t (Ts sh.nm)).map cT)])):=by rw[qK,oz,c1,kI];push_cast [o1,o2,okr,eqr]
 rw[fin,hν]
 show some (R.v (.bl true),_)=_
 rwa[EA]
end
def JHb (ns:Th)(k:Nat):∃c,cL [.fl (ns.map .int),.int (k:Int)]=some (.int c):=by
 rw[xx];by_cases h:k<ns.length
 ·have c0:decide ((k:Int)<(ns.length:Int))=true:=Bs ∅;have c1:L2.m6 (ns.map D.int) (k:Int)=some (.int ns[k]):=qW (Bl h);exact{ns[k],by push_cast [jO,Az,c0,c1]}
 ·have c0:decide ((k:Int)<(ns.length:Int))=false:=Bf ∅;exact{0,by push_cast [jO,Az,c0]}
theorem tm (x0:UE R)(U:ac):∀(l:T5 Sh) (x0:UE R) (U:ac),bS (bE 0) gf (cP (ag (au aZ (ae 0) (fK (.int 0))) (ag (bJ (dX am)) am))) (l.map cR) [x0] U=some (l.map λs=>.tup [.str s.nm,.fl []],U++List.replicate l.length (aw.fz []))
 |[],x0,U=>by rwa[CS,Gy,List.replicate_zero,DZ];rfl
 |s::l,x0,U=>by
  have h1:(cP (ag (au aZ (ae 0) (fK (.int 0))) (ag (bJ (dX am)) am))) [some (.v (cR s))] U=some (.v (.tup [.str s.nm,.fl []]),U++[aw.fz []]):=by have st1:(U++[aw.lst []]).set U.length (.fz [])=U++[aw.fz []]:=kg;push_cast [yf,st1]
  have ih:=tm x0 U l (some (.v (cR s))) (U++[aw.fz []]);rwa[AZ,bS,bE,zcf,BJ,gf,if_true,h1,ih];simp[List.replicate_succ]
theorem vV:∀l:T5 Sh,nE (l.map λs=>.tup [.str s.nm,.fl []])=some (l.map λs=>(.inr (some s.nm),.fl []))
 |[]=>rfl
 |s::l=>by rw[AZ,nE,vV l];rfl
theorem zC:∀(l:T5 Sh) (k0:T5 (aI×D)),(k0.map (·.1)++l.map λs=>(.inr (some s.nm):aI)).Nodup->aX k0 (l.map λs=>((.inr (some s.nm):aI),D.fl []))=k0++l.map λs=>(.inr (some s.nm),D.fl [])
 |[],k0,_=>by simp[aX]
 |s::l,k0,nd=>by
  have hn:¬ (k0.any λp=>decide (p.1=.inr (some s.nm)))=true:=λz=>by let⟨p,hp,h⟩:=HB.mp z;have h:p.1=.inr (some s.nm):=‹h›;exact(F9.mp nd).2.2 p.1 (Er hp) _ ∅ h
  show aX (ir k0 (.inr (some s.nm)) (.fl [])) (l.map _)=_
  unfold ir;rw[A5 hn,zC l _ ‹nd›];simp
def JG6 {AO:T5 Sh}(g:GS AO)(L0:aw):∃c cs,cF [.p 1,.v (.fl (AO.map cR))] [L0,.ob "Book" []]=some (.v .non,[L0,.ob "Book" (BM 2 3 c),.lst (AO.map cR),.lst []]++cs)/\([L0,.ob "Book" (BM 2 3 c),.lst (AO.map cR),.lst []]++cs)[c]?=some (.dct (ni AO λ_=>[])):=by
 have e1:mG "Book" "shape_list" (ae 0) (gp qu (ag (ae 1) am)) [bF 1,some (.v (.fl (AO.map cR)))] [L0,.ob "Book" []]=some (.nx [bF 1,some (.v (.fl (AO.map cR)))] [L0,.ob "Book" [("shape_list",.p 2)],.lst (AO.map cR)]):=rfl;have e2:mG "Book" "tellings" (ae 0) (dX am) [bF 1,some (.v (.fl (AO.map cR)))] [L0,.ob "Book" [("shape_list",.p 2)],.lst (AO.map cR)]=some (.nx [bF 1,some (.v (.fl (AO.map cR)))] [L0,.ob "Book" [("shape_list",.p 2),("tellings",.p 3)],.lst (AO.map cR),.lst []]):=by rfl
 obtain⟨ν,hν⟩:∃ν:ac,ν=[L0,.ob "Book" [("shape_list",.p 2),("tellings",.p 3)],.lst (AO.map cR),.lst []]:={_,rfl};have cr:=tm none [] AO none ν;have z0:AO.length<=sizeLine:=cI (by have:=g.le;omega);obtain⟨cs,K1⟩:∃cs:T5 aw,cs=List.replicate AO.length (aw.fz [])++[.lst (AO.map λs=>.tup [.str s.nm,.fl []])]:={_,rfl};have nd:(([]:T5 (aI×D)).map (·.1)++AO.map λs=>(.inr (some s.nm):aI)).Nodup:=by
  have:(AO.map λs=>(.inr (some s.nm):aI))=(AO.map (·.nm)).map λn=>.inr (some n):=by rw[CY];rfl
  rw[CS,E7,this];exact List.Pairwise.map _ (λa b h e=>h ‹e›) g.nd
 have pu:=zC AO [] nd;rw[E7] at pu;have dS:oA [.p (ν++List.replicate AO.length (aw.fz [])).length] (ν++cs)=some (.p (ν++cs).length,ν++cs++[.dct (ni AO λ_=>[])]):=by unfold oA;rw[K1,←EA];dsimp only;rw[ye];dsimp only;rw[vV,BJ,pu];rfl
 have ev:gp oA (ag (dY [] 1 (bH (ae 1)) (bE 0) gf (cP (ag (au aZ (ae 0) (fK (.int 0))) (ag (bJ (dX am)) am)))) am) [bF 1,some (.v (.fl (AO.map cR)))] ν=some (.p (ν++cs).length,ν++cs++[.dct (ni AO λ_=>[])]):=by
  have:dY [] 1 (bH (ae 1)) (bE 0) gf (cP (ag (au aZ (ae 0) (fK (.int 0))) (ag (bJ (dX am)) am))) [bF 1,some (.v (.fl (AO.map cR)))] ν=some (.p (ν++List.replicate AO.length (aw.fz [])).length,ν++cs):=by rw[K1,←EA];push_cast [Az,z0,cr]
  rw[sW,dE,this,eZ,jG,eY,nU,dS]
 refine{(ν++cs).length,cs++[.dct (ni AO λ_=>[])],?_,?_}
 ·rw[ve];have e3:mG "Book" "tables_now" (ae 0) (gp oA (ag (dY [] 1 (bH (ae 1)) (bE 0) gf (cP (ag (au aZ (ae 0) (fK (.int 0))) (ag (bJ (dX am)) am)))) am)) [bF 1,some (.v (.fl (AO.map cR)))] ν=some (.nx [bF 1,some (.v (.fl (AO.map cR)))] ([L0,.ob "Book" (BM 2 3 (ν++cs).length),.lst (AO.map cR),.lst []]++(cs++[.dct (ni AO λ_=>[])]))):=by unfold mG;rw[ev];subst hν;rfl
  rw[kQ,oN e1,oN e2,←hν,e3];rfl
 ·rw[←EA];have:([L0,.ob "Book" (BM 2 3 (ν++cs).length),.lst (AO.map cR),.lst []]++cs).length=(ν++cs).length:=by rw[Bp,Bp,hν];rfl
  rw[←this];exact ye
section
variable {U U':ac}{s a b c:Nat}{r:D}
theorem JE3 (bt:A8){x:Tl}(hs:U[s]?=some (.ob "Book" (BM a b c)))(h:bM bt [.p s,.v (bI x)] U=some (.v r,U')):eh bt [.p s,.v (bI x)] U=some (.v r,U'):=by
 rw[vb];let⟨tl,said,lo,hi,nm⟩:=x;have sz5:5<=sizeLine:=by decide
 have Dh:∀U:ac,aZ (.v (bI ⟨tl,said,lo,hi,nm⟩)) (.v (.int 4)) U=some (.v (oD hi),U):=λU=>rfl;have Dy:∀U:ac,aZ (.v (bI ⟨tl,said,lo,hi,nm⟩)) (.v (.int 3)) U=some (.v (oD lo),U):=λU=>rfl;have GZ:∀U:ac,aZ (.v (bI ⟨tl,said,lo,hi,nm⟩)) (.v (.int 2)) U=some (.v (dH ⟨tl,said,lo,hi,nm⟩),U):=λU=>rfl;have GI:∀U:ac,aZ (.v (bI ⟨tl,said,lo,hi,nm⟩)) (.v (.int 1)) U=some (.v (.str nm),U):=λU=>rfl;have fa:(ag (au aZ (ae 1) (fK (.int 1))) (ag (au aZ (ae 1) (fK (.int 2))) (ag (au aZ (ae 1) (fK (.int 3))) (ag (au aZ (ae 1) (fK (.int 4))) am)))) [bF s,some (.v (bI ⟨tl,said,lo,hi,nm⟩))] U=some ([.v (.str nm),.v (dH ⟨tl,said,lo,hi,nm⟩),.v (oD lo),.v (oD hi)],U):=by push_cast [GI,GZ,Dy,Dh]
 cases tl with
 |true=>
  have m1:=nX (nm:="tell") (w:=em bt) (n:=5) (fo:=ae 0) (O:=[bF s,some (.v (bI {true,said,lo,hi,nm}))]) (s:=s) rfl hs ∅ ∅ ∅ fa rfl;have m2:=nX (nm:="take") (w:=bM bt) (n:=2) (fo:=ae 0) (fa:=ag (cP (ag (fK (.str "tell")) (ag (ae 1) (ag (ae 2) (ag (ae 3) (ag (ae 4) am)))))) am) (O:=[bF s,some (.v (.str nm)),some (.v (dH {true,said,lo,hi,nm})),some (.v (oD lo)),some (.v (oD hi))]) (U:=U) (U1:=U) (s:=s) (rs:=[.v (bI {true,said,lo,hi,nm})]) rfl hs ∅ ∅ ∅ (by push_cast [sz5];rfl) rfl;have w1:em bt [.p s,.v (.str nm),.v (dH {true,said,lo,hi,nm}),.v (oD lo),.v (oD hi)] U=some (.v r,U'):=by rw[vc,kO,qK,m2,h];rfl
  have Ho:∀U:ac,aZ (.v (bI {true,said,lo,hi,nm})) (.v (.int 0)) U=some (.v (.str "tell"),U):=λU=>rfl;rw[iF];push_cast [Ho,k5,q5];rw[m1,w1];rfl
 |false=>
  have m1:=nX (nm:="strike") (w:=c6 bt) (n:=5) (fo:=ae 0) (O:=[bF s,some (.v (bI {false,said,lo,hi,nm}))]) (s:=s) rfl hs ∅ ∅ ∅ fa rfl;have m2:=nX (nm:="take") (w:=bM bt) (n:=2) (fo:=ae 0) (fa:=ag (cP (ag (fK (.str "strike")) (ag (ae 1) (ag (ae 2) (ag (ae 3) (ag (ae 4) am)))))) am) (O:=[bF s,some (.v (.str nm)),some (.v (dH {false,said,lo,hi,nm})),some (.v (oD lo)),some (.v (oD hi))]) (U:=U) (U1:=U) (s:=s) (rs:=[.v (bI {false,said,lo,hi,nm})]) rfl hs ∅ ∅ ∅ (by push_cast [sz5];rfl) rfl;have w1:c6 bt [.p s,.v (.str nm),.v (dH {false,said,lo,hi,nm}),.v (oD lo),.v (oD hi)] U=some (.v r,U'):=by rw[rC,iV,qK,m2,h];rfl
  have Ho:∀U:ac,aZ (.v (bI {false,said,lo,hi,nm})) (.v (.int 0)) U=some (.v (.str "strike"),U):=λU=>rfl;rw[iF];push_cast [Ho,k5,k6,q6];rw[m1,w1];rfl
end
abbrev r7 (ns:Th)(AO:T5 Sh)(sc:Int)(lt:Nat)(x5 x6:UE R):Lo:=[some (.v (.fl (ns.map .int))),some (.v (.fl (AO.map cR))),bh sc,bF 1,bF lt,x5,x6]
structure jS (sc:Int)(AO:List Sh)(c lt:Nat)(U:ac)(xs:List Tl)(Ts:Str->List En):Prop where
 bk:Bk U 1 2 3 c AO xs (ni AO Ts)
 lw:U[lt]?=some (.lst (xs.map bI))
 gt:∀x∈xs,GT sc AO x
 ok:∀s∈AO,nc sc s xs (Ts s.nm)
section
variable {AO:T5 Sh}{c lt:Nat}{U:ac}{xs:T5 Tl}{Ts:Str->T5 En}{ns:Th}{sc:Int}
def jS.app (h:jS sc AO c lt U xs Ts)(cs:T5 aw):jS sc AO c lt (U++cs) xs Ts :=
 {h.bk.app cs,by rw[BK (dR h.lw)];exact h.lw,h.gt,h.ok}
def JBm (bt:A8)(g:GS AO)(hs:0<sc)(hl:lt≠1/\lt≠2/\lt≠3/\lt≠c)(h:jS sc AO c lt U xs Ts)(hn:xs.length<=62)(cell:Int)(x6:UE R):∃x y6 U' Gp,lu bt (r7 ns AO sc lt (some (.v (.int cell))) x6) U=some (.nx (r7 ns AO sc lt (some (.v (.int cell))) y6) U')/\jS sc AO c lt U' (xs++[x]) Gp:=by
 let⟨x,gx,ht⟩:=xD cell sc hs g;obtain⟨U1,hU1⟩:∃U1,U1=U.set lt (.lst ((xs++[x]).map bI)):={_,rfl};have f:∀{i:Nat} {y:aw},lt≠i->U[i]?=some y->U1[i]?=some y:=λ{i y} hi e=>by rw[hU1,CP hi];exact e
 have b1:Bk U1 1 2 3 c AO xs (ni AO Ts):={f hl.1 h.bk.ob,f hl.2.1 h.bk.sl,f hl.2.2.1 h.bk.tl,f hl.2.2.2 h.bk.tb,h.bk.ab};have l1:U1[lt]?=some (.lst ((xs++[x]).map bI)):=by rw[hU1,FV (dR h.lw)]
 let⟨r,U2,Gp,e2,b2,t2,k2⟩:=JEj bt g b1 gx h.ok hn;have e2:=JE3 bt b1.ob e2;have l2:=k2 lt _ hl.2.2.1 hl.2.2.2 l1;have zl:(xs.map bI).length<sizeLine:=j9 (by rw[Az];omega);have al:=Ar bI (xs++[x]) x ∅;have g2:jS sc AO c lt U2 (xs++[x]) Gp:={b2,l2,λy hy=>by
  rcases D7.mp hy with hy|hy
  ·exact h.gt y hy
  ·rw[Bm.mp hy];exact gx,t2}
 obtain⟨n,hn1,-,-⟩:=gw cell 8 ∅;let⟨sh,CZ,a1⟩:=zH cR AO n g.pos;have mS:=λU=>bW n (j:=(AO.length:Int)) (by have:=g.pos;omega) U;let⟨cs,e4⟩:=vE (cell:=cell+1) bt g CZ g2.bk g2.gt (g2.ok sh CZ) (by rw[Bp];simp;omega) g2.lw;refine{x,some (.v (cR sh)),U2++cs,Gp,?_,g2.app cs};have s1:cS (Bx lF (ae 4) (ag (aJ c8 3 (ag (bJ (ae 5)) (ag (bJ (ae 1)) (ag (bJ (ae 2)) am)))) am)) (r7 ns AO sc lt (some (.v (.int cell))) x6) U=some (.nx (r7 ns AO sc lt (some (.v (.int cell))) x6) U1):=by rw[hU1,D6];push_cast [ht,h.lw,zl]
 have s2:cS (jF (eh bt) 2 (ag (ae 3) (ag (au aZ (ae 4) (jZ uf (fK (.int 1)))) am))) (r7 ns AO sc lt (some (.v (.int cell))) x6) U1=some (.nx (r7 ns AO sc lt (some (.v (.int cell))) x6) U2):=by push_cast [l1,al,Kc,BW,e2]
 have s3:aV 6 (au aZ (ae 1) (au cE (aJ aS 2 (ag (bJ (ae 5)) (ag (fK (.int 8)) am))) (gp gF (ag (ae 1) am)))) (r7 ns AO sc lt (some (.v (.int cell))) x6) U2=some (.nx (r7 ns AO sc lt (some (.v (.int cell))) (some (.v (cR sh)))) U2):=by push_cast [hn1,Az,mS,a1]
 have s4:fR (et (dM (jF (dh bt) 5 (ag (ae 3) (ag (ae 6) (ag (ae 4) (ag (au dO (ae 5) (fK (.int 1))) (ag (ae 2) am)))))))) (bq (fK (.bl false))) aQ (r7 ns AO sc lt (some (.v (.int cell))) (some (.v (cR sh)))) U2=some (.nx (r7 ns AO sc lt (some (.v (.int cell))) (some (.v (cR sh)))) (U2++cs)):=by push_cast [Kc,BW,e4]
 rw[lu,oN s1,oN s2,oN s3,s4]
def JBl (bt:A8)(g:GS AO)(h:jS sc AO c lt U xs Ts)(hn:xs.length<=63){sh:Sh}(hs:sh∈AO)(x5:UE R):∃U',lq bt (r7 ns AO sc lt x5 (some (.v (cR sh)))) U=some (.nx (r7 ns AO sc lt x5 (some (.v (cR sh)))) U')/\jS sc AO c lt U' xs Ts:=by
 have tg:=sk g hs h.bk;have gT:=h.ok sh hs;have m4:=nX (nm:="table") (w:=bi) (n:=2) (fo:=ae 3) (fa:=ag (au aZ (ae 6) (fK (.int 0))) am) (O:=r7 ns AO sc lt x5 (some (.v (cR sh)))) (U:=U) (s:=1) (rs:=[.v (.str sh.nm)]) (U1:=U) rfl h.bk.ob ∅ ∅ ∅ rfl rfl;have it:uk (bC bt) [.fl ((Ts sh.nm).map dg),.int (sh.w:Int)]=some (.bl true):=by
  have e:unkDs [.fl ((Ts sh.nm).map dg),.int (sh.w:Int)]=[.fl ((Ts sh.nm).map tJ),.int (sh.w:Int)]:=by rwa[unkDs,eG,tO]
  exact(AQ (bC bt) e).trans (JD7 bt (ES:=EL sc) (TS:=M0 xs.length) (by rw[FC];omega) (by rw[At];omega) (g.ok sh hs).1.2 (by have:=gT.ln;omega) (λe he=>{gT.bp e he,gT.ne e he}) gT.rw gT.up)
 have fb:cY (.bl true)=true:=rfl;refine{U++[.lst ((Ts sh.nm).map dg)],?_,h.app _};have q:ee (uk (bC bt)) 2 (ag (iA "Book" "table" bi 2 (ae 3) (ag (au aZ (ae 6) (fK (.int 0))) am)) (ag (au aZ (ae 6) (fK (.int 2))) am)) (r7 ns AO sc lt x5 (some (.v (cR sh)))) U=some (.v (.bl true),U++[.lst ((Ts sh.nm).map dg)]):=by rw[EV,dE,m4,tg];push_cast [yf,it,fb]
 rw[lq,kJ,uE,yC,q];rfl
def JBk (bt:A8)(g:GS AO)(h:jS sc AO c lt U xs Ts)(hn:xs.length<=63)(cell:Int)(x6:UE R):∃U',lp bt (r7 ns AO sc lt (some (.v (.int cell))) x6) U=some (.nx (r7 ns AO sc lt (some (.v (.int cell))) x6) U')/\jS sc AO c lt U' xs Ts:=by obtain⟨n,hn1,-,-⟩:=gw cell 8 ∅;let⟨sh,CZ,a1⟩:=zH cR AO n g.pos;have mS:=λU=>bW n (j:=(AO.length:Int)) (by have:=g.pos;omega) U;let⟨cs,e4⟩:=vE (cell:=cell) bt g CZ h.bk h.gt (h.ok sh CZ) hn h.lw;refine{U++cs,?_,h.app cs};push_cast [lp,r7,hn1,Az,mS,a1,Kc,BW,e4]
end
def D8 (bt:A8)(ns:Th)(hl:ns.length<=63):v6 bt [.fl (ns.map .int)]=some (.bl true):=by
 rw[Nr];let⟨c0,hc0⟩:=JHb ns 0;have hc0:cL [.fl (ns.map .int),.int 0]=some (.int c0):=hc0;let⟨AO,g,CZ⟩:=JAn c0;obtain⟨P,hP⟩:∃P:Int,P=10 ^ (40:Int).toNat:={_,rfl};have Ig:∀U:ac,rN (.v (.int 10)) (.v (.int 40)) U=some (.v (.int P),U):=λU=>by rw[EN ∅,hP]
 have hP0:0<P:=by rw[hP];exact Int.pow_pos ∅
 clear hP;let⟨sc,hsm,hsc⟩:=Dz [1,1,P] (c0%3) (dN c0 (j:=3) ∅);have hs0:0<sc:=by
  rcases BA.mp hsm with rfl|h
  ·decide
  ·rcases BA.mp h with rfl|h
   ·decide
   ·rw[Bm.mp h];exact hP0
 have hsc:L2.m6 [D.int 1,.int 1,.int P] (c0%3)=some (.int sc):=hsc;obtain⟨c,cs,hi,hd⟩:=JG6 g (.lst [.int 1,.int 1,.int P]);obtain⟨U0,hU0⟩:∃U0:ac,U0=[.lst [.int 1,.int 1,.int P],.ob "Book" (BM 2 3 c),.lst (AO.map cR),.lst []]++cs:={_,rfl};rw[←hU0] at hi hd;have l0:4<=U0.length:=by rw[hU0];simp
 have b0:Bk U0 1 2 3 c AO [] (ni AO λ_=>[]):={by rw[hU0];rfl,by rw[hU0];rfl,by rw[hU0];rfl,hd,by decide};have lc:=dR hd;have g0:jS sc AO c U0.length (U0++[.lst []]) [] λ_=>[]:={b0.app _,ye,(λ_ h=>nomatch h),λs _=>{(λ_ h=>nomatch h),(λ_ h=>nomatch h),.nil,B3 _,λr d t _=>{(λh=>nomatch h),λ⟨m,x,_,h2,_⟩=>by cases h2},(λ_ h=>nomatch h)}};have An:U0.length≠1/\U0.length≠2/\U0.length≠3/\U0.length≠c:=by omega
 have cut:∀k:Nat,md (ns.map D.int) none (some (k:Int))=(ns.take k).map .int:=λk=>wT ns k;have Hj:md (ns.map D.int) none (some 63)=(ns.take 63).map .int:=cut 63;let⟨⟨xs,U1,Ts,x5,x6⟩,e1,h1,EM⟩:=eR (g:=bE 5) (b:=lu bt) D.int
  (λs:T5 Tl×ac×(Str->T5 En)×UE R×UE R=>(r7 ns AO sc U0.length s.2.2.2.1 s.2.2.2.2,s.2.1))
  (λs rem=>jS sc AO c U0.length s.2.1 s.1 s.2.2.1/\s.1.length+rem.length<=63) (ns.take 63) ([],U0++[.lst []]++[.fz ((ns.take 63).map .int)],λ_=>[],none,none) {g0.app _,by simp;omega} (by rintro⟨xs,U,Ts,x5,x6⟩ cell rem ⟨h,hn⟩;have hn:xs.length+(rem.length+1)<=63:=hn;have h:jS sc AO c U0.length U xs Ts:=h;let⟨x,y6,U',Gp,e,h'⟩:=JBm (ns:=ns) bt g hs0 An h ∅ cell x6;refine{(xs++[x],U',Gp,bh cell,y6),?_,h',by simp;omega};have hg:bE 5 (.v (D.int cell)) (r7 ns AO sc U0.length x5 x6) U=some (r7 ns AO sc U0.length (some (.v (.int cell))) x6,U):=rfl;rw[hg,rX];exact e)
 have h1:jS sc AO c U0.length U1 xs Ts:=h1;have EM:xs.length<=63:=EM;have e1:dU (bE 5) (lu bt) ((ns.take 63).map .int) (r7 ns AO sc U0.length none none) (U0++[.lst []]++[.fz ((ns.take 63).map .int)])=some (.nx (r7 ns AO sc U0.length x5 x6) U1):=e1;obtain⟨⟨U2,y6⟩,e2,h2,-⟩:=eR (g:=bE 6) (b:=lq bt) cR
  (λs:ac×UE R=>(r7 ns AO sc U0.length x5 s.2,s.1))
  (λs rem=>jS sc AO c U0.length s.1 xs Ts/\∀t∈rem,t∈AO) AO (U1,x6) {h1,λ_ h=>h} (by rintro⟨U,z6⟩ sh rem ⟨h,hm⟩;have h:jS sc AO c U0.length U xs Ts:=h;let⟨U',e,h'⟩:=JBl (ns:=ns) bt g h EM (hm sh BB) x5;refine{(U',some (.v (cR sh))),?_,h',λt ht=>hm t (BF _ ht)};have hg:bE 6 (.v (cR sh)) (r7 ns AO sc U0.length x5 z6) U=some (r7 ns AO sc U0.length x5 (some (.v (cR sh))),U):=rfl;rw[hg,rX];exact e)
 have h2:jS sc AO c U0.length U2 xs Ts:=h2;have e2:dU (bE 6) (lq bt) (AO.map cR) (r7 ns AO sc U0.length x5 x6) U1=some (.nx (r7 ns AO sc U0.length x5 y6) U2):=e2;let⟨⟨U3,y5⟩,e3,h3⟩:=eR (g:=bE 5) (b:=lp bt) D.int
  (λs:ac×UE R=>(r7 ns AO sc U0.length s.2 y6,s.1))
  (λs rem=>jS sc AO c U0.length s.1 xs Ts) (0::ns.take 63) (U2++[.lst [.int 0],.lst ((ns.take 63).map .int),.fz ((0::ns.take 63).map .int)],x5) (h2.app _) (by rintro⟨U,x5⟩ cell rem h;have h:jS sc AO c U0.length U xs Ts:=h;let⟨U',e,h'⟩:=JBk (ns:=ns) (sc:=sc) bt g h EM cell y6;refine{(U',some (.v (.int cell))),?_,h'};have hg:bE 5 (.v (D.int cell)) (r7 ns AO sc U0.length x5 y6) U=some (r7 ns AO sc U0.length (some (.v (.int cell))) y6,U):=rfl;rw[hg,rX];exact e)
 have e3:dU (bE 5) (lp bt) ((0::ns.take 63).map .int) (r7 ns AO sc U0.length x5 y6) (U2++[.lst [.int 0],.lst ((ns.take 63).map .int),.fz ((0::ns.take 63).map .int)])=some (.nx (r7 ns AO sc U0.length y5 y6) U3):=e3;have s1:aV 1 (aJ dB 1 (ag (bJ (aJ cL 2 (ag (bJ (ae 0)) (ag (fK (.int 0)) am)))) am)) [some (.v (.fl (ns.map .int))),none,none,none,none,none,none] []=some (.nx [some (.v (.fl (ns.map .int))),some (.v (.fl (AO.map cR))),none,none,none,none,none] []):=by push_cast [hc0,CZ]
 have s2:aV 2 (au aZ (dX (ag (fK (.int 1)) (ag (fK (.int 1)) (ag (au rN (fK (.int 10)) (fK (.int 40))) am)))) (au cE (aJ cL 2 (ag (bJ (ae 0)) (ag (fK (.int 0)) am))) (fK (.int 3)))) [some (.v (.fl (ns.map .int))),some (.v (.fl (AO.map cR))),none,none,none,none,none] []=some (.nx [some (.v (.fl (ns.map .int))),some (.v (.fl (AO.map cR))),bh sc,none,none,none,none] [.lst [.int 1,.int 1,.int P]]):=by push_cast [hc0,Ig,bW c0 (j:=3) ∅,hsc]
 have s3:aV 3 (nR "Book" cF 2 (ag (ae 1) am)) [some (.v (.fl (ns.map .int))),some (.v (.fl (AO.map cR))),bh sc,none,none,none,none] [.lst [.int 1,.int 1,.int P]]=some (.nx [some (.v (.fl (ns.map .int))),some (.v (.fl (AO.map cR))),bh sc,bF 1,none,none,none] U0):=by
  have:nR "Book" cF 2 (ag (ae 1) am) [some (.v (.fl (ns.map .int))),some (.v (.fl (AO.map cR))),bh sc,none,none,none,none] [.lst [.int 1,.int 1,.int P]]=(cF [.p 1,.v (.fl (AO.map cR))] [.lst [.int 1,.int 1,.int P],.ob "Book" []]).bind λr=>match r.1 with|.v .non=>some (.p 1,r.2)|_=>none:=rfl
  rw[nS,this,hi];rfl
 have s4:aV 4 (dX am) [some (.v (.fl (ns.map .int))),some (.v (.fl (AO.map cR))),bh sc,bF 1,none,none,none] U0=some (.nx (r7 ns AO sc U0.length none none) (U0++[.lst []])):=by push_cast [HW.N5]
 have se1:(U0++[aw.lst []]++[aw.lst ((ns.take 63).map .int)]).set (U0++[aw.lst []]).length (.fz ((ns.take 63).map .int))=U0++[aw.lst []]++[.fz ((ns.take 63).map .int)]:=kg;have s5:ii (bH (Bv (ae 0) fg (eN (fK (.int 63))))) (bE 5) (lu bt) (r7 ns AO sc U0.length none none) (U0++[.lst []])=some (.nx (r7 ns AO sc U0.length x5 x6) U1):=by
  have:bH (Bv (ae 0) fg (eN (fK (.int 63)))) (r7 ns AO sc U0.length none none) (U0++[.lst []])=some ((ns.take 63).map .int,U0++[.lst []]++[.fz ((ns.take 63).map .int)]):=by generalize U0++[aw.lst []]=ν at se1 ⊢;push_cast [Hj,yf,se1]
  rw[qM,this,mX];exact e1
 have s5b:ii (bH (ae 1)) (bE 6) (lq bt) (r7 ns AO sc U0.length x5 x6) U1=some (.nx (r7 ns AO sc U0.length x5 y6) U2):=by have:bH (ae 1) (r7 ns AO sc U0.length x5 x6) U1=some (AO.map cR,U1):=rfl;rw[qM,this,mX];exact e2
 have s6:ii (bH (au xj (dX (ag (fK (.int 0)) am)) (Bv (ae 0) fg (eN (fK (.int 63)))))) (bE 5) (lp bt) (r7 ns AO sc U0.length x5 y6) U2=some (.nx (r7 ns AO sc U0.length y5 y6) U3):=by
  have g1:(U2++[aw.lst [.int 0]]++[aw.lst ((ns.take 63).map .int)])[U2.length]?=some (.lst [.int 0]):=by rw[BK ∅];exact yf
  have aF:xj (.p U2.length) (.p (U2++[aw.lst [.int 0]]).length) (U2++[aw.lst [.int 0]]++[aw.lst ((ns.take 63).map .int)])=some (.p (U2++[aw.lst [.int 0]]++[aw.lst ((ns.take 63).map .int)]).length,U2++[aw.lst [.int 0]]++[aw.lst ((ns.take 63).map .int)]++[.lst ((0::ns.take 63).map .int)]):=by unfold xj xM;dsimp only;rw[g1,yf];dsimp only;rw[BJ,BJ,A7 (cI (by simp;omega))];rfl
  have se2:(U2++[aw.lst [.int 0]]++[aw.lst ((ns.take 63).map .int)]++[aw.lst ((0::ns.take 63).map .int)]).set (U2++[aw.lst [.int 0]]++[aw.lst ((ns.take 63).map .int)]).length (.fz ((0::ns.take 63).map .int))=U2++[aw.lst [.int 0]]++[aw.lst ((ns.take 63).map .int)]++[.fz ((0::ns.take 63).map .int)]:=kg;have this:bH (au xj (dX (ag (fK (.int 0)) am)) (Bv (ae 0) fg (eN (fK (.int 63))))) (r7 ns AO sc U0.length x5 y6) U2=some ((0::ns.take 63).map .int,U2++[aw.lst [.int 0]]++[aw.lst ((ns.take 63).map .int)]++[.fz ((0::ns.take 63).map .int)]):=by generalize hz:(0::ns.take 63).map D.int=zs at aF se2 ⊢;push_cast [N6,Hj,aF,yf,se2]
  rw[qM,this,mX];have:U2++[aw.lst [.int 0]]++[aw.lst ((ns.take 63).map .int)]++[.fz ((0::ns.take 63).map .int)]=U2++[.lst [.int 0],.lst ((ns.take 63).map .int),.fz ((0::ns.take 63).map .int)]:=by simp
  rw[this];exact e3
 rw[Ft,oN s1,oN s2,oN s3,oN s4,oN s5,oN s5b,oN s6];rfl
end LW
structure PySem.W.Fast:Prop where
 (tw13790728874606139312 tw702015832409184994 tw14513816922960063475 tw11460936006802116766 tw13718108596149501127 tw15557594132071144686 tw8878128842984417573 tw13615611782936654074 tw11348645893588336457 tw18032438381145616815 tw2895935438558239630 tw15984413974436188333 tw6376041796513808756 tw2431301274794722919 tw9241458785951457175 tw6509414330047621266 tw3318132633578654196 tw13547227033497873004 tw15728289182334046125 tw13563677084325865298 tw4530567520850200967 tw7814888835723207317 tw7724764248196657081 tw5431861705482737518 tw5322397921309802334 tw7573985410247014860 tw12600176196093018769 tw18151547963509455618 tw16957652592448004307 tw3382512704880940193 tw8640751098051796393 tw357518072453924062 tw9927406970102773255 tw7229216491669748499 tw14419700896814944199 tw14300574084828672842 tw5293583346555987834 tw11748694404605205378 tw10096333716903265516 tw3534295218359057712 tw15323835937915474728 tw1083535389372275618 tw4317469232321149367 tw12646677359577471457 tw11491831467843527941 tw5496974057103756671 tw4723839840321116736 tw947280945974236646 tw13301542963359650775 tw1939314534873374605 tw16342118236205579845 tw6080272981751551785 tw15179684607047596804 tw12587492569146420363 tw8926878420526138410 tw16527202040862132526 tw15396336397600679535 tw15643527141935565483 tw7286932415889186260 tw17058680991650919371 tw18155806244427639767 tw5285122843216776440 tw17937186379651892533 tw17085083814575995172 tw15548162757441942445 tw11594459948500962729 tw4852564509632648425 tw6263172835281842609 tw16163092165316420132 tw801297887054809396 tw18084811509663840247 tw8867281537219121455 tw4389835329473578932 tw10867312286268077841 tw10482871727237598827 tw12497487274247345014 tw9503087966507940057 tw4383352222164737582 tw4218095522479104379 tw6804123974352678263 tw10788949108366862332 tw2599286828933250242 tw1642398481023956343 tw17168802127944254863 tw14718748425330635101 tw3870065048936595026 tw16280376469418330198 tw6387695987218800465 tw3199392732388709990 tw4770663341679033356 tw15099240340585858437 tw2353529870059578830 tw5150009488406567530 tw16517616026006824367 tw1655784644689004038 tw15786931628522996950 tw1868912685566685777 tw3256611816888510756 tw4018854676987255613 tw13985570792910698342 tw16726850140005508619 tw12375421799756500420 tw770173696481788403 tw9731191867693203980 tw11724699019646750485 tw12353698553333306152 tw9690850717123275618 tw481888189797445047 tw14224844501950280725 tw7366534714774242863 tw5891763645799972990 tw11433367940447192456 tw17214313214504332634 tw8127015383961143956 tw826912922546962510 tw4321582691290401858 tw7376376961727992094 tw9060521015199962864 tw15545807077252084348 tw11683060921009482699 tw4506349919013179603 tw9779228207750200103 tw5944294733859107169 tw16260757577178893591 tw1780075940541297358 tw16205468714026237970 tw8051390211730865388 tw14948525112330937559 tw2290352181123743867 tw13560037511183492960 tw17572750315057385253 tw6382036072448043165 tw17962140200576468175 tw6777761545672159150 tw10417166231815272114 tw5978227529716833867 tw16452357626320700303 tw17996455028609136954 tw11673981956614782521 tw6598014536012381505 tw13790993642633690943 tw16073963157214513252 tw4996552349989897210 tw5774826544039516073 tw6675538223438451056 tw5361619315253058103 tw18360407208810175894 tw2356038414750729014 tw5671776046302208720 tw11361930182092772061 tw11829800151239739670 tw12652292901535634076 tw4249635109775379678 tw11665811391373547442 tw11271725533565744425 tw5805132031896124481 tw3019337174718905182 tw13387634450336413803 tw3800128778906687167 tw6620610155237864412 tw11018807532094545590 tw11397780032479555271 tw13836902644231709022 tw8008797218798597941 tw13681197577806271876 tw9704552542104715302 tw15185255222293875339 tw2956383735273393830 tw404291533060027040 tw4704638952501608407 tw16891149146194680392 tw13263101607157107487 tw13270332270476514958 tw12460026499432699301 tw17907634246349572235 tw2955896667926286412 tw8344036452106546341 tw15842245538737626292 tw5811815445399098010 tw9490049613802422600 tw15367529610745030109 tw11867066119200079637 tw16076529574713991489 tw14283433496826187289 tw2579028599562163592 tw9538869421680528741 tw4525637096955342455 tw8060692414211080473 tw5619569868722565751 tw8656891795453864587 tw8477610077690788542 tw13030272692449448201 tw9563409980970753610 tw1577449687226444382 tw2805992421891538808 tw3603302909249604976 tw12157741409669606527 tw14380729456432707232 tw9258352655485658880 tw17163950856394391445 tw1906371680436148031 tw11242885405622830220 tw17951499732741627649 tw15154452179585349831 tw15741607521592017399 tw1536814905203000166 tw15003473266590053237 tw7315686903143938216 tw17926735704812658631 tw13735832001058604415 tw5675310944669454521 tw16189541559811481461 tw3603341125397288515 tw11971713032219109973 tw815351335031418447 tw3430788028129658992 tw2051482049405339409 tw6390095862520605458 tw15199261508045913751 tw15336975441673909990 tw2546659687844764632 tw3361643434297112058 tw877257212085110894 tw6991187690036984948 tw5555611446256157803 tw95416704969105159 tw13377105949936341310 tw10840906477946745161 tw8133644129389457951 tw3910362435937269702 tw11543813218026328490 tw16595319051580867795 tw12532680919763940 tw7072157438786167547 tw6210672502233635144 tw6559487256306262881 tw4982485804617846353 tw12832957523181085950 tw1993501730982521007 tw14228499048183476746 tw5959717244384185233 tw15041173589202169806 tw1323539340958219180 tw9285851020905009675 tw10075859567913161833 tw8639534897720709860 tw15677867641371234725 tw510371525302913119 tw4512667696241791583 tw13795340331008524390 tw17384508294064475856 tw16011918988882574562 tw2175386475184983704 tw2982767097745873367 tw3343064739698219651 tw555664576647264500 tw6955431429525379517 tw6130262231794225261 tw5031017532669551714 tw14067980601340065821 tw15387165982852738327 tw7614234765047889334 tw5451819059289849615 tw16131885569637513422 tw9155114517510632462 tw10177837801575226065 tw5074940041622786577 tw2884750845188078103 tw4984766327988615474 tw1884644510077247236 tw801190854334845819 tw375237938142466903 tw17908824377422110130 tw13497053957526847002 tw5180163775367884210 tw1009399944524907966 tw9777894195855981739 tw18248560600316258658 tw8206809277251355236 tw7241658444395890975 tw7563186375768753360 tw16472398752228570720 tw1906984551421548497 tw3341877785673274208 tw6508122569778116831 tw10341980912445328239 tw2607484375419327055 tw82229703689956486 tw15681693157922913236 tw3458751625266408314 tw3577512726850381388 tw1736788637559675890 tw6196970750832580277 tw12228112195893877014 tw14911107558140957010 tw710549300595926065 tw8214179554438607088 tw18335810739254958719 tw11256539617040732259 tw4261588575470516513 tw16870815703389506720 tw8078510680888623244 tw574679153294842154 tw15563983184201775449 tw16840460250201567618 tw12054812386326987882 tw6396702991463922827 tw14559690761731598079 tw5277241485313847913 tw18030929129455737793 tw11609114721208981003 tw7192626145883511587 tw8003553302820834005 tw9340002098372893941 tw7376503106979147626 tw15848915457734340698 tw7882218995715458469 tw4306053445451790653 tw15362941375535795601 tw3779102596933013856 tw17854957968361578206 tw7156042371276941866 tw1895989281839362432 tw7535935520809442419 tw1303324880639198230 tw10481646746410086044 tw6338562721486248978 tw13850909357396352931 tw2432761782610001308 tw17668896258089199966 tw2052570339148106387 tw4817036366239084978 tw2361353644788880657 tw12778375223583444186 tw16514353040150270559 tw1148120685034685389 tw15308707073271110872 tw160069199818766665 tw6130818484152733826 tw17577101925231944321 tw3194464750275387734 tw10946784229446609787 tw14649556480299120915 tw12717429661493549201 tw15496280774551831318 tw131938500000687834 tw4500876498439344292 tw12230629791491927823 tw3357816086926480504 tw774096684269699959 tw9722765719612123658 tw15876927595111076131 tw12177914376123541120 tw10347846674080033617 tw814539821997194220 tw10952282909130625299 tw13227859634808396113 tw5820409605989202011 tw15209052523593275831 tw8815871580949629032 tw4761727935359605726 tw2582431869743707990 tw15107683929557204338 tw9778097569506220536 tw11075673520862667980 tw11261055610370898471 tw8435817454313759778 tw2635002981116346374 tw9800485754590078262 tw9764495214930977127 tw15681900312319222755 tw16865142190849788725 tw10399220219708486442 tw8973338894386084021 tw4967357838425137841 tw3575238525483270961 tw2200217459361378337 tw1198711595879470312 tw8087837942352616518 tw7662975513604153968 tw6513012869321339948 tw2608575423329227260 tw7291235326538664912 tw4549032980475370245 tw3631867401637342665 tw16017304612097746685 tw16865238284165942988 tw13361158815129164277 tw11514163952708729526 tw10626667195551012940 tw10411692738139668327 tw6908136550150208457 tw1397324630346273914 tw12312196237627227179 tw12952120860507322381:True)
open PySem.W PyProof.Rows
set_option maxRecDepth 100000 in
set_option maxHeartbeats 0 in
theorem PySem.Challenge.cw_heldwhen_k33_whole_registers_holds : PySem.Challenge.rw_heldwhen_k33_whole_registers.Holds := by
 w_on; o_law; k_head; (case hw => w_witness2)
 k_fill
 refine L2.BY (l := PySem.Challenge.rw_heldwhen_k33_whole_registers) (n := 63) (k := 7) (x := "script") (CX := L2.lB) (sp := fun K => (fun vs H Q E => ∀ b, HW.BU K 1 (LW.v6 b) vs H Q E)) rfl (by decide) rfl ⟨rfl, by decide, by decide⟩ (fun w h Yz => PySem.W.kIn_of Yz) ?F (fun K H a ns hl E5 hS => fun b => HW.Md E5 hS (LW.D8 b ns hl)) fun _ _ _ _ z => z
 case F =>
  intro w mg fa h KX G hmg
  refine' LW.MY KX G hmg ?aC ?pg ?hd ?po ?sa ?mk ?kc ?n_shape_list ?n_tellings ?n_tables_now ?a0 ?a1 ?a2 ?a3 ?a4 ?a5 ?a6 ?a7 ?a8 ?a9 ?a10 ?a11 ?a12 ?a13 ?a14 ?a15 ?a16 ?a17 ?a18 ?a19 ?a20 ?a21 ?a22 ?a23 ?a24 ?a25 ?a26 ?a27 ?a28 ?a29 ?a30 ?a31 ?a32 ?a33 ?a34 ?Jan ?Jao ?Jag ?Jaj ?Jak ?Jad ?Jav ?Jaw ?Jap ?Jaq ?Jah ?z0 ?z1 ?z2 ?z3 ?z4 ?z5 ?z6 ?z7 ?z8 ?z9 ?z10 ?z11
  (case aC | pg | hd | po | sa | mk | kc | n_shape_list | n_tellings | n_tables_now => k_is)
  (case a0 | a1 | a2 | a3 | a4 => exact ⟨_, by k_is, by k_is, _, _, _, _, _, _, _, _, _, by k_is, by k_is, by k_is⟩)
  (case a5 | a6 | a7 | a8 | a9 | a10 | a11 | a12 | a13 | a14 | a15 | a16 | a17 | a18 | a19 | a20 | a21 | a22 | a23 | a24 | a25 | a26 | a27 | a28 | a29 | a30 | a31 | a32 | a33 | a34 => exact ⟨_, by k_is, _, _, _, _, _, _, _, _, _, by k_is, by k_is, by k_is⟩)
  (case Jan | Jao | Jag | Jaj | Jak | Jad | Jav | Jaw | Jap | Jaq | Jah | z0 | z1 | z2 | z3 | z4 | z5 | z6 | z7 | z8 | z9 | z10 | z11 => k_is)
