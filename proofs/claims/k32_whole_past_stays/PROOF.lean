import PyProof.Rows.All
import Wide.All
import OpenK.AllK
import Wide.FinOn
import Lean
import PyProof.EqAt
import PyProof.EqKinds
import PyProof.TupleCall
import PyProof.IsiH_tuple
import PyProof.NsDelKeeps
import PyProof.FString4
import PyProof.ExcBaseAll.ValueError
import PyProof.ForAny
import KE.KIsAll
import KE.KSortTup
import KE.KLam
import KE.KNestM
import PyProof.StrWalks
import PyProof.SliceStr2
import PyProof.StrBlockI
import KE.KIntText
import PyProof.StrCalls2
import PyProof.StrLawsTight
import PyProof.Rows.FStrParts
import PyProof.Rows.StrInSeq3
import PyProof.TupleKey
import PyProof.IsRules
import PyProof.SumWalkG
import PyProof.EnumFor
import PyProof.EnumStmt
import PyProof.EnumMake
import PyProof.StrBlock2
import PyProof.ZipIter
import PyProof.ListNew
import PyProof.DictIter
import PyProof.DictFindH
import PyProof.ListRange
import PyProof.TupleOfGen
import PyProof.LongRange
import PyProof.DictValues
import KE.KDictList
import KE.KEqDict
import PySem.Challenge.RW_heldwhen_k32_whole_past_stays
local macro_rules | `(tactic| exists $t) => `(tactic| with_unfolding_all exact $t)
local macro_rules | `(tactic| decide) => `(tactic| decide +kernel)
local macro_rules | `(tactic| ac_rfl) => `(tactic| (constructor <;> first | rfl | decide +kernel))
local macro_rules | `({$x:term,$xs:term,*}) => `(⟨$x,$xs,*⟩)
local macro_rules | `(∅) => `(by first|omega|decide +kernel|simp)
local macro_rules | `(‹$x›) => `(by simpa using $x)
local macro_rules | `(tactic| let ⟨$xs,*⟩ := $e) => do
  let rec go (n : Nat) (s : Lean.Syntax) : Lean.MacroM (Lean.TSyntax `rcasesPat) := match n with
    | 0 => Lean.Macro.throwUnsupported
    | n+1 => match s with
      | `(term| ⟨$ys,*⟩) => do
        let zs ← ys.getElems.mapM fun y => do let z ← go n y.raw; `(Lean.Parser.Tactic.rcasesPatLo| $z:rcasesPat)
        `(rcasesPat| ⟨$zs,*⟩)
      | `(term| _) => `(rcasesPat| _)
      | s => `(rcasesPat| $(⟨s⟩):ident)
  let zs ← xs.getElems.mapM fun y => do let z ← go 9 y.raw; `(Lean.Parser.Tactic.rcasesPatLo| $z:rcasesPat)
  `(tactic| obtain ⟨$zs,*⟩ := $e)
local macro_rules | `(tactic| rwa [$rs,*] $[$l:location]?) => do
  let ys ← rs.getElems.mapM fun r => `(Lean.Parser.Tactic.simpLemma| $(⟨r.raw[1]⟩):term)
  `(tactic| simp only [$ys,*] $[$l]?)
set_option Elab.async false
set_option linter.all false
set_option genSizeOf false
set_option genInjectivity false
set_option maxRecDepth 100000
noncomputable section
open PySem PySem.Spec SetTable Builtin.List
abbrev P4.{u}:=@List.{u}
abbrev QI.{u}:=@Option.{u}
abbrev A1:=Shared
abbrev A2:=Value
abbrev A3:=Addr
abbrev A7:=Bool
abbrev A9:=Program
abbrev AB.{u}:=@Array.{u}
abbrev AD:=Heap
abbrev AE:=Around
abbrev AF:=World
abbrev AU:=Expr
abbrev Ad:=Stmt
abbrev As:=Obj
def A6:=@if_neg
def A8:=@if_pos
def AH:=@absurd
def AI:=@congrArg
namespace Y0
open PyProof.Rows
def AA:=@wpAny_bind
def AY:=@Option.bind_eq_some_iff
abbrev AP:=PySem.W.Frag
def AJ:=@wpAny_pure
def Am:=@Heap.get?_push_of_some
def Ak:=@List.map_cons
def Ay:=@List.length_map
def BY:=@List.getElem?_append_left
def BI:=@Heap.get?_push_size
def Av:=@Heap.lt_size
def Ao:=@Nat.le_refl
def Ax:=@List.mem_cons
def BG:=@List.mem_cons_self
def BR:=@List.mem_cons_of_mem
def Bv:=@List.getElem?_eq_some_iff
def Bl:=@List.getElem?_eq_getElem
def BE:=@Nat.ne_of_lt
def Bb:=@List.length_append
def Ba:=@List.size_toArray
def BZ:=@Option.bind_some
def Bp:=@List.getElem?_set_ne
def Bg:=@List.mem_singleton
def Bf:=@List.append_assoc
def Bi:=@Nat.lt_of_lt_of_le
def Cr:=@Array.getElem?_eq_getElem
def Bh:=@List.getElem?_map
def C8:=@Bool.false_eq_true
def C5:=@wpAny_setState_of
def DO:=@List.getElem?_append_right
def Cv:=@List.mem_append_right
def D0:=@Heap.get?_update_other
def C3:=@List.length_cons
def Bz:=@decide_eq_false
def DN:=@List.getElem?_set_self
def DX:=@Option.map_eq_some_iff
def Cu:=@wpAny_newObj_type
def Co:=@wpAny_call_entry
def Cg:=@List.append_nil
def CR:=@List.nodup_cons
def DM:=@List.mem_of_getElem?
def Bm:=@List.mem_map
def By:=@wpAny_holding
def Di:=@Heap.get?_update_self
def DL:=@List.pairwise_cons
def Cn:=@decide_eq_true
def CM:=@Nat.lt_irrefl
def Cy:=@List.map_append
def DI:=@List.mem_append
def Dw:=@Around.under_plainId
def Dv:=@Array.length_toList
def Hi:=@Array.getD_eq_getD_getElem?
def DW:=@codeAny_builtin
def Dd:=@List.nil_append
def EM:=@List.mem_map_of_mem
def Dk:=@List.not_mem_nil
def Dj:=@List.lookup_cons
def HB:=@wpAny_callSpecial?_slot
def D2:=@Nat.ne_of_gt
def D1:=@List.map_nil
def EK:=@Bool.false_ne_true
def DZ:=@Heap.size_push
def EI:=@List.nodup_append
def DK:=@Nat.le_trans
def DH:=@Nat.zero_le
def EF:=@Bool.and_eq_true
def Hc:=@Array.getElem?_toList
def DJ:=@sizeLine_eq
def EB:=@Option.map_some
def E4:=@List.foldl_cons
def Es:=@wpAny_askSetting
def zbi:=@List.getD_eq_getElem?_getD
def H9:=@List.pairwise_map
def Hb:=@List.getElem_of_mem
def zbl:=@List.drop_eq_getElem_cons
def Du:=@List.map_map
def DV:=@wpAny_mono
def HZ:=@Int.toNat_natCast
def GZ:=@List.length_nil
def Er:=@List.any_cons
def Ep:=@plainId_quiet
def HU:=@List.getElem_inj
def HR:=@List.getElem_mem
def HQ:=@wpAny_isInstance
def HP:=@List.cons_append
def zbw:=@PySem.W.mg_none_of
def Ek:=@Nat.le_of_lt
def Ej:=@codeAny_mono
def Ei:=@wpAny_typeOf
def zbA:=@List.filterMap_cons_some
def zbB:=@Nat.lt_succ_of_lt
def Hh:=@List.mem_range
def Hf:=@wpAny_fieldsOf
def He:=@wpAny_setField
def zbF:=@List.filter_cons
def zbG:=@wpAny_isOneOf_itemiter
def zbH:=@List.find?_cons
def zbI:=@builtinLookup_eq_fast
def Hd:=@wpAny_attempt
def zbK:=@wpAny_dictEntries
def Eu:=@wpAny_rule
def zbM:=@List.pairwise_iff_getElem
def HA:=@Nat.le_succ
def zbO:=@Nat.lt_succ_self
def zbP:=@Option.getD_some
def zbQ:=@List.getElem_map
def zbR:=@List.getElem?_replicate
def zbS:=@Bool.not_true
def zbT:=@Bool.and_true
def zbU:=@wpAny_typeNameOfWhole_itemiter
def zbV:=@wpAny_setField_rec
def zbW:=@PySem.W.cellsFrom_some
def zbX:=@List.find?_cons_of_pos
def zbY:=@List.find?_cons_of_neg
def zbZ:=@wpAny_truthy_bool
def zb0:=@wpAny_pyIter_slot
def zb1:=@Nat.lt_trans
def zb2:=@List.getElem?_eq_none
def zb3:=@Nat.zero_add
def zb4:=@List.mem_append_left
def zb5:=@List.length_take
def zb6:=@Array.getElem_toList
def zb7:=@List.any_eq_true
def zb8:=@PySem.W.mg_of
def zb9:=@wpAny_field
def zca:=@List.filterMap_cons
def zcb:=@List.map_congr_left
def zcc:=@List.mem_filter
def zcd:=@wpAny_passesOwn
def zce:=@typeLookup_type
def zcf:=@wpAny_dictEpoch
def zcg:=@wpAny_Call_Name_kw
def zch:=@Option.isSome_iff_exists
def zci:=@Option.isSome_some
def zcj:=@List.filterMap_cons_none
def zck:=@List.set_cons_zero
def zcl:=@List.nodup_nil
def zcm:=@List.length_eq_zero_iff
def zcn:=@List.pairwise_singleton
def zco:=@List.filter_cons_of_pos
def zcp:=@List.filter_cons_of_neg
def zcq:=@List.drop_of_length_le
def zcr:=@Array.getElem?_eq_none
def zcs:=@List.length_drop
def zct:=@wpAny_notOrdered_dict
def zcu:=@wpAny_specialOf
def zcv:=@List.mem_iff_getElem
def zcw:=@codeAny_of_tree
def zcx:=@codeAny_call_builtin
def zcy:=@wpAny_updateSeq
def zcz:=@List.any_map
def zcA:=@List.eq_nil_of_length_eq_zero
def zcB:=@PySem.W.plainGet_of
def zcC:=@Int.toNat_of_nonneg
def zcD:=@wpAny_seqItems
def zcE:=@PySem.W.callWith_K
def zcF:=@Int.emod_lt_of_pos
def zcG:=@List.getElem_range
def zcH:=@wpAny_letOwnedTupleGo_items
def zcI:=@wpAny_pyIter_list
def zcJ:=@wpAny_Call_method
def zcK:=@Nat.lt_or_ge
def zcL:=@Heap.size_update
def zcM:=@List.ext_getElem
def zcN:=@wpAny_execs_nil
def zcO:=@List.of_mem_zip
def zcP:=@Int.emod_nonneg
def zcQ:=@Bool.decide_and
def zcR:=@wpAny_of_eq
def zcS:=@Int.le_refl
end Y0
open Y0
namespace Y1z
abbrev Ta:=P4 (P4 Int)
abbrev Tb:=A2->A1->Prop
abbrev Tc:=P4 (A3×As)
abbrev Td:=Str->QI A2
abbrev Te:=P4 A2
abbrev Tf:=P4 A3
abbrev Tg:=QI A2
abbrev Th:=P4 Int
abbrev Ti:=AB A2
abbrev Tj:=P4 AU
abbrev Tk:=P4 Ad
abbrev Tn:=P4 Str
end Y1z
open Y1z
namespace L2
open PyProof.Rows
section
variable {prog:A9}{w:AF}{A:AE}{E:Tb}{s:A1}
def lg {Q:Int->A1->Prop}(h:Q 0xFCA86420 {s with toks:=s.toks+1}):wpAny (model prog w) A (pyHash .none) Q E s:=by
 have hT:s.TypeIs .none "NoneType":=rfl
 show wpAny _ _ (pyHashByItsType .none) _ _ s
 unfold pyHashByItsType;refine AA (wpAny_cRoomFor_byValue rfl ?_);refine AA (zcu hT F.slot_NoneType_hash.lookup ?_);rw[A6 ∅];refine AA (zcu hT F.slot_NoneType_hash.lookup ?_);rw[A6 ∅]
 show wpAny _ _ (callSpecialIfBoundUnlessNone? .none "__hash__" _ >>= _) Q E s
 refine AA (wpAny_callSpecialIfBoundUnlessNone?_slot hT F.slot_NoneType_hash
  (Co F.slot_NoneType_hash hT F.entry_NoneType_hash
   (show wpAny _ _ (do ret (←mkInt 0xFCA86420)) _ _ s from wpAny_ret_mkInt ?_) (F.args_NoneType_hash_1 _)))
 show wpAny _ _ (if (decide (-(2:Int) ^ 63<=0xFCA86420)&&decide ((0xFCA86420:Int)<2 ^ 63))=true then _ else _) Q E _
 rw[A8 ∅];exact AJ h
def lh {Q:A7->A1->Prop}(h:Q true s):wpAny (model prog w) A (eqBool .none .none) Q E s:=by unfold eqBool;refine By ?_;rw[A8 ∅];exact AA (Eu (AJ h))
end
abbrev aE:=Sum Int (QI Str)
noncomputable def lI:aE->A2->A7
 |.inl k,v=>Value.isInt k v
 |.inr (some x),v=>Value.isStrOf x v
 |.inr none,v=>v == .none
noncomputable def NX (w:AF):aE->Int
 |.inl k=>hashInt k
 |.inr (some x)=>hashStr w x
 |.inr none=>0xFCA86420
theorem bn:∀{k:aE} {v:A2},lI k v=true->(∃i t,k=Sum.inl i/\v=Value.int i t)\/(∃x t,k=Sum.inr (some x)/\v=Value.str x t)\/(k=Sum.inr none/\v=Value.none)
 |.inl i,v,h=>by let⟨t,e⟩:=Value.isInt_shape (k:=i) (v:=v) h;exact .inl {i,t,rfl,e}
 |.inr (some x),v,h=>by let⟨t,e⟩:=Value.isStrOf_shape (x:=x) (v:=v) h;exact .inr (.inl {x,t,rfl,e})
 |.inr none,v,h=>.inr (.inr {rfl,eq_of_beq h})
def yN (i:Int)(t:Tok):lI (.inl i) (.int i t)=true:=by simp[lI,Value.isInt]
def yL (x:Str)(t:Tok):lI (.inr (some x)) (.str x t)=true:=by simp[lI,Value.isStrOf]
def yM:lI (.inr none) .none=true:=by simp[lI]
def JGr (a b:Int):decide ((Sum.inl a:aE)=Sum.inl b)=(a == b):=by
 by_cases e:a=b
 ·subst e;simp
 ·have h:¬ (Sum.inl a:aE)=Sum.inl b:=λq=>e (Sum.inl.inj q);rw[Bz h];exact(beq_eq_false_iff_ne.mpr e).symm
def JGq (a b:Str):decide ((Sum.inr (some a):aE)=Sum.inr (some b))=decide (a=b):=by
 by_cases e:a=b
 ·subst e;simp
 ·have h:¬ (Sum.inr (some a):aE)=Sum.inr (some b):=λq=>e (Option.some.inj (Sum.inr.inj q));rw[Bz h,Bz e]
noncomputable def bo (prog:A9)(w:AF):PySem.KeyKind prog w aE where
 is:=lI
 hash:=NX w
 inj:=λv a b ha hb=>by
  rcases bn ha with⟨i,t,rfl,rfl⟩|⟨x,t,rfl,rfl⟩|⟨rfl,rfl⟩
  ·rcases bn hb with⟨j,u,rfl,e⟩|⟨y,u,rfl,e⟩|⟨rfl,e⟩
   ·injection e with e1 _;rw[e1]
   ·exact nomatch e
   ·exact nomatch e
  ·rcases bn hb with⟨j,u,rfl,e⟩|⟨y,u,rfl,e⟩|⟨rfl,e⟩
   ·exact nomatch e
   ·injection e with e1 _;rw[e1]
   ·exact nomatch e
  ·rcases bn hb with⟨j,u,rfl,e⟩|⟨y,u,rfl,e⟩|⟨rfl,e⟩
   ·exact nomatch e
   ·exact nomatch e
   ·rfl
 byValue:=λk v h=>by
  rcases bn h with⟨i,t,rfl,rfl⟩|⟨x,t,rfl,rfl⟩|⟨rfl,rfl⟩ <;> rfl
 pyHash:=λhv h=>by
  rcases bn hv with⟨i,t,rfl,rfl⟩|⟨x,t,rfl,rfl⟩|⟨rfl,rfl⟩
  ·exact wpAny_pyHash_int h
  ·exact wpAny_pyHash_str h
  ·exact lg h
 eqBool:=λhu hv h=>by
  rcases bn hu with⟨i,t,rfl,rfl⟩|⟨x,t,rfl,rfl⟩|⟨rfl,rfl⟩
  ·rcases bn hv with⟨j,u,rfl,rfl⟩|⟨y,u,rfl,rfl⟩|⟨rfl,rfl⟩
   ·rw[JGr] at h;exact wpAny_eqBool_int h
   ·exact SeqAt.EqAt.int_str i t y u _ _ _ _ ‹h›
   ·exact SeqAt.EqAt.int_none i t _ _ _ _ ‹h›
  ·rcases bn hv with⟨j,u,rfl,rfl⟩|⟨y,u,rfl,rfl⟩|⟨rfl,rfl⟩
   ·exact SeqAt.EqAt.str_int x t j u _ _ _ _ ‹h›
   ·rw[JGq] at h;exact wpAny_eqBool_str h
   ·exact SeqAt.EqAt.str_none x t _ _ _ _ ‹h›
  ·rcases bn hv with⟨j,u,rfl,rfl⟩|⟨y,u,rfl,rfl⟩|⟨rfl,rfl⟩
   ·exact SeqAt.EqAt.none_int j u _ _ _ _ ‹h›
   ·exact SeqAt.EqAt.none_str y u _ _ _ _ ‹h›
   ·exact lh ‹h›
 «strs»:=λk x t v h=>by
  rcases bn h with⟨i,u,rfl,e⟩|⟨y,u,rfl,e⟩|⟨rfl,e⟩
  ·exact nomatch e
  ·injection e with e1 _
   subst e1;cases v <;> rfl
  ·exact nomatch e
def tZ (prog:A9)(w:AF)(i:Int)(t:Tok):(bo prog w).is (.inl i) (.int i t)=true:=yN i t
def tY (prog:A9)(w:AF)(x:Str)(t:Tok):(bo prog w).is (.inr (some x)) (.str x t)=true:=yL x t
set_option genInjectivity true in
inductive V where
 |non|bl (b:Bool)|int (i:Int)|str (x:Str)|byt (b:Array UInt8)|flt (b:UInt64)|ref (a:Addr)|ty (n:String)
 deriving DecidableEq
def aT:V->A2->Prop
 |.non,u=>u=Value.none
 |.bl b,u=>u=Value.bool b
 |.int i,u=>∃t,u=Value.int i t
 |.str x,u=>∃t,u=Value.str x t
 |.byt b,u=>∃t,u=Value.bytes b t
 |.flt b,u=>∃t,u=Value.float b t
 |.ref a,u=>u=Value.ref a
 |.ty n,u=>u=Value.type n
abbrev aS:P4 V->P4 A2->Prop:=Paired aT
def aS.length {xs:P4 V}{us:Te}(r:aS xs us):xs.length=us.length:=Paired.length r
theorem aS.get:∀{xs:P4 V} {us:Te} {i:Nat} {x:V},aS xs us->xs[i]?=some x->∃u,us[i]?=some u/\aT x u
 |_,_,_,_,.nil,e=>by simp at e
 |_,_,0,_,.cons r _,e=>by simp at e;subst e;exact{_,rfl,r}
 |_,_,i+1,x,.cons _ t,e=>by let⟨u,h1,h2⟩:=aS.get (i:=i) (x:=x) t ‹e›;exact{u,by simpa using h1,h2}
theorem aS.set {x:V}{u:A2}(r:aT x u):∀{xs:P4 V} {us:Te} (i:Nat),aS xs us->aS (xs.set i x) (us.set i u)
 |_,_,_,.nil=>.nil
 |_,_,0,.cons _ t=>.cons r t
 |_,_,i+1,.cons q t=>.cons q (aS.set r i t)
theorem aS.append:∀{xs ys:P4 V} {us ws:Te},aS xs us->aS ys ws->aS (xs++ys) (us++ws)
 |_,_,_,_,.nil,s=>s
 |_,_,_,_,.cons r t,s=>.cons r (aS.append t s)
theorem aS.take:∀{xs:P4 V} {us:Te} (n:Nat),aS xs us->aS (xs.take n) (us.take n)
 |_,_,0,_=>.nil
 |_,_,_+1,.nil=>.nil
 |_,_,n+1,.cons r t=>.cons r (aS.take n t)
theorem aS.drop:∀{xs:P4 V} {us:Te} (n:Nat),aS xs us->aS (xs.drop n) (us.drop n)
 |_,_,0,r=>r
 |_,_,_+1,.nil=>.nil
 |_,_,n+1,.cons _ t=>aS.drop n t
def kj:QI V->QI A2->Prop
 |some v,some u=>aT v u
 |none,none=>True
 |_,_=>False
def KV {κ:Type}:P4 (κ×V)->P4 (κ×A2)->Prop:=Paired λ(p:κ×V) (q:κ×A2)=>p.1=q.1/\aT p.2 q.2
noncomputable def kV:aE->V
 |.inl i=>.int i
 |.inr (some x)=>.str x
 |.inr none=>.non
inductive HO where
 |lst (xs:List V)
 |tup (xs:List V)
 |dK (A4:List (aE×V))|dT (A4:List (List aE×V))
 |set (S:Int->Bool) (n:Nat)
 |ins (C dx:Addr) (fs:List (Str×V))
 |own (x:Addr)
 |xd (fs:List (Str×V))
 |met (f x:Addr)
 |rng (lo hi:Int)
 |frz (o:Obj) (u:HO)
 |tbl (ps:Ti)
 |ext (φ:Heap->Prop)
abbrev Hp:=A3->QI HO
noncomputable def upd (H:Hp)(a:A3)(o:HO):Hp:=λb=>if b=a then some o else H b
def aP {H:Hp}{a:A3}{o:HO}:upd H a o a=some o:=by unfold upd;rw[A8 rfl]
def aq {H:Hp}{a b:A3}{o:HO}(h:b≠a):upd H a o b=H b:=by unfold upd;rw[A6 h]
def Gi {H:Hp}{a b:A3}{o u:HO}(h:H a=some o)(h':H b=some u)(d:o≠u):a≠b:=by intro e;subst e;rw[h] at h';exact d (Option.some.inj h')
def f6 {H:Hp}{a b:A3}{o:HO}(h:H a=some o)(h':H b=none):a≠b:=by intro e;subst e;rw[h] at h';cases h'
def i4 (h:AD)(a:A3)(items:Ti):Prop:=IsTup h a items/\∀o,h.get? a=some o->o.dict=none
def i4.new (h:AD)(items:Ti):i4 (h.push {cls:=.type "tuple",data:=.seq items}) h.objs.size items:={IsTup.new _ _,λo e=>by rw[BI _ rfl] at e;cases e;rfl}
section
variable (P:A9)(w:AF)
def br (H:Hp)(h:AD)(a:A3):HO->Prop
 |.lst xs=>xs.length<=sizeLine/\∃(its:Te) (n:Nat),aS xs its/\h.get? a=some {cls:=.type "list",data:=.seq its.toArray n}
 |.tup xs=>xs.length<=sizeLine/\∃its:Te,aS xs its/\i4 h a its.toArray
 |.dK A4=>A4.length<=sizeLine/\(a == sysModules)=false/\∃vs,KV A4 vs/\h.DictOf (bo P w) a vs
 |.dT A4=>A4.length<=sizeLine/\(a == sysModules)=false/\∃xs:P4 (P4 aE×A3×A2),
   Paired (λ(p:P4 aE×V) (q:P4 aE×A3×A2)=>p.1=q.1/\H q.2.1=some (.tup (p.1.map kV))/\aT p.2 q.2.2) A4 xs /\
   ∃o es ep,h.get? a=some o/\o.ExactDict/\o.data=.dict es ep/\es.toList=xs.map (entryOfKey (tupleKind (bo P w)))/\(xs.map (·.1)).Nodup
 |.set S n=>h.SetOf (intKind P w) a S n
 |.ins C dx fs=>H dx=some (.own a)/\fs.length<=1000/\dx≠a/\h.get? a=some (PySem.W.instObj C dx) /\
   ∃mA,h.Ns1 dx mA/\(∀f,kj (fs.lookup f) (mA f))/\PySem.Within mA (fs.map (·.1))
 |.own _=>∃o,h.get? a=some o
 |.xd fs=>∃mA,h.Ns1 a mA/\∀f,kj (fs.lookup f) (mA f)
 |.rng lo hi=>∃t u v,h.get? a=some {cls:=.type "range",data:=.fields #[.int lo t,.int hi u,.int 1 v]}
 |.frz o u=>h.get? a=some o/\br H h a u
 |.tbl ps=>h.get? a=some {cls:=.none,data:=.fields ps}
 |.met f x=>h.get? a=some (PySem.W.methodObj (.ref f) (.ref x))
 |.ext φ=>φ h/\(∃o,h.get? a=some o)/\∀h1 h2:AD,φ h1->(∀o,h1.get? a=some o->h2.get? a=some o)->φ h2
def fH (H:Hp)(h:AD):Prop:=∀a o,H a=some o->br P w H h a o
end
section
variable {P:A9}{w:AF}{H H':Hp}{h h':AD}{a:A3}{o:HO}
theorem br.lt (x:br P w H h a o):a<h.objs.size:=by
 cases o with
 |lst xs=>let⟨_,_,_,_,e⟩:=x;exact Av e
 |tup xs=>let⟨_,_,_,p⟩:=x;exact p.1.lt
 |dK A4=>let⟨_,_,_,_,o,_,_,e,_⟩:=x;exact Av e
 |dT A4=>let⟨_,_,_,_,o,_,_,e,_⟩:=x;exact Av e
 |set S n=>let⟨o,_,_,_,e,_⟩:=x;exact Av e
 |ins C dx fs=>let⟨_,_,_,e,_⟩:=x;exact Av e
 |own y=>let⟨_,e⟩:=x;exact Av e
 |xd fs=>let⟨_,⟨_,_,_,e,_⟩,_⟩:=x;exact Av e
 |rng lo hi=>let⟨_,_,_,e⟩:=x;exact Av e
 |frz ob u=>let⟨e,_⟩:=x;exact Av e
 |tbl ps=>exact Av (show h.get? a=some _ from x)
 |met f y=>exact Av (show h.get? a=some _ from x)
 |ext φ=>let⟨_,⟨_,e⟩,_⟩:=x;exact Av e
theorem Paired.mapP {Z β:Type}{F G:Z->β->Prop}{l₁:P4 Z}{l₂:P4 β}(h:Paired F l₁ l₂)(f:∀a b,F a b->G a b):Paired G l₁ l₂:=by
 induction h with
 |nil=>exact .nil
 |cons r t ih=>exact .cons (f _ _ r) ih
theorem br.stay (x:br P w H h a o)(k:∀b u,(b=a\/H b=some (.own a))->h.get? b=some u->h'.get? b=some u)
  (ho:∀b,H b=some (.own a)->H' b=some (.own a)) (ht:∀b xs,H b=some (.tup xs)->H' b=some (.tup xs)):br P w H' h' a o:=by
 induction o with
 |lst xs=>let⟨z,its,n,r,e⟩:=x;exact{z,its,n,r,k _ _ (.inl rfl) e}
 |tup xs=>let⟨z,its,r,⟨ob,e,c⟩,dn⟩:=x;exact{z,its,r,{ob,k _ _ (.inl rfl) e,c},λo q=>by rw[k _ _ (.inl rfl) e] at q;cases q;exact dn _ e}
 |dK A4=>let⟨z,y,vs,r,ob,es,ep,e,c⟩:=x;exact{z,y,vs,r,ob,es,ep,k _ _ (.inl rfl) e,c}
 |dT A4=>
  let⟨z,y,xs,r,ob,es,ep,e,c⟩:=x;exact{z,y,xs,Paired.mapP r λp q z=>{z.1,ht _ _ z.2.1,z.2.2},ob,es,ep,k _ _ (.inl rfl) e,c}
 |set S n=>let⟨ob,es,ep,t,e,c⟩:=x;exact{ob,es,ep,t,k _ _ (.inl rfl) e,c}
 |ins C dx fs=>
  let⟨d,z,ne,e,mA,⟨od,es,ep,e2,c⟩,r⟩:=x;exact{ho _ d,z,ne,k _ _ (.inl rfl) e,mA,{od,es,ep,k _ _ (.inr d) e2,c},r}
 |own y=>let⟨ob,e⟩:=x;exact{ob,k _ _ (.inl rfl) e}
 |xd fs=>let⟨mA,⟨od,es,ep,e,c⟩,r⟩:=x;exact{mA,{od,es,ep,k _ _ (.inl rfl) e,c},r}
 |rng lo hi=>let⟨t,u,v,e⟩:=x;exact{t,u,v,k _ _ (.inl rfl) e}
 |frz ob u ih=>let⟨e,q⟩:=x;exact{k _ _ (.inl rfl) e,ih q}
 |tbl ps=>
  have e:h.get? a=some {cls:=.none,data:=.fields ps}:=x
  show h'.get? a=some {cls:=.none,data:=.fields ps}
  exact k a _ (.inl rfl) e
 |met f y=>
  have e:h.get? a=some (PySem.W.methodObj (.ref f) (.ref y)):=x
  show h'.get? a=some (PySem.W.methodObj (.ref f) (.ref y))
  exact k a _ (.inl rfl) e
 |ext φ=>let⟨p,⟨o,e⟩,st⟩:=x;exact{st _ _ p λo q=>k _ _ (.inl rfl) q,{o,k _ _ (.inl rfl) e},st}
def fH.lt (x:fH P w H h)(e:H a=some o):a<h.objs.size:=(x a o e).lt
theorem fH.fresh (x:fH P w H h)(e:h.objs.size<=a):H a=none:=by
 cases q:H a with
 |none=>rfl
 |some u=>exact AH (Bi (x.lt q) e) (CM _)
def fH.kept (x:fH P w H h)(k:∀b u,h.get? b=some u->h'.get? b=some u):fH P w H h':=λa o e=>
 (x a o e).stay (λb u _ q=>k b u q) (λ_ q=>q) λ_ _ q=>q
def fH.laid (x:fH P w H h)(k:∀b u,h.get? b=some u->h'.get? b=some u)(hp:h.objs.size<=a)(new:br P w (upd H a o) h' a o):fH P w (upd H a o) h':=λb u e=>by
 have hn:=x.fresh hp;by_cases hb:b=a
 ·subst hb;rw[aP] at e;cases e;exact new
 ·rw[aq hb] at e;exact(x b u e).stay (λc v _ q=>k c v q) (λc q=>by rw[aq (f6 q hn)];exact q) λc xs q=>by rw[aq (f6 q hn)];exact q
end
def Rd (H:Hp)(a:A3)(u:HO):Prop:=H a=some u\/∃o,H a=some (.frz o u)
def Rd.ok {H:Hp}{h:AD}{a:A3}{u:HO}(r:Rd H a u)(x:fH P w H h):br P w H h a u:=by
 rcases r with r|⟨o,r⟩
 ·exact x a u r
 ·let⟨_,q⟩:=x a _ r;exact q
def MB:QI HO->Prop
 |some (.lst _)=>True
 |some (.dK _)=>True
 |some (.dT _)=>True
 |some (.set _ _)=>True
 |some (.ins _ _ _)=>True
 |some (.ext _)=>True
 |_=>False
section
variable {P:A9}{w:AF}{H:Hp}{h h':AD}{x e:A3}{o':HO}
def fH.write (ok:fH P w H h)(mu:MB (H x))(he:e=x\/H e=some (.own x))(k:∀b u,b≠e->h.get? b=some u->h'.get? b=some u)(heo:∃u,h'.get? e=some u)
  (new:br P w (upd H x o') h' x o'):fH P w (upd H x o') h':=λb u q=>by
 have nown:∀c y,H c=some (.own y)->c≠x:=λc y r z=>by subst z;rw[r] at mu;exact mu
 have ntup:∀c xs,H c=some (.tup xs)->c≠x:=λc xs r z=>by subst z;rw[r] at mu;exact mu
 by_cases hb:b=x
 ·subst hb;rw[aP] at q;cases q;exact new
 ·rw[aq hb] at q
  by_cases Ig:b=e
  ·have q':H b=some (.own x):=by
    rcases he with z|z
    ·exact AH (Ig.trans z) hb
    ·rw[Ig];exact z
   rw[q] at q';cases q';let⟨v,hv⟩:=heo;exact{v,by rw[Ig];exact hv}
  ·refine(ok b u q).stay (λc v hc r=>k c v ?_ r) (λc r=>by rw[aq (nown c b r)];exact r) λc xs r=>by rw[aq (ntup c xs r)];exact r
   rcases hc with rfl|hc
   ·exact Ig
   ·rintro rfl
    rcases he with z|z
    ·exact nown c b hc z
    ·rw[hc] at z;cases z;exact hb rfl
end
structure Un (fs ex:Tf)(H H':Hp)(h h':Heap):Prop where
 keep:∀b o,h.get? b=some o->H b=none->b∉fs->b∉ex->h'.get? b=some o
 slot:∀b o,h.get? b=some o->H b=none->b∈fs->b∉ex->∃sl,h'.get? b=some {o with slots:=sl}
 free:∀b o,h.get? b=some o->H b=none->b∉ex->H' b=none
 there:∀b o,h.get? b=some o->b∉ex->∃o',h'.get? b=some o'
 tups:∀b xs,H b=some (.tup xs)->H' b=some (.tup xs)
 frzs:∀b o u,H b=some (.frz o u)->H' b=some (.frz o u)
 tbls:∀b ps,H b=some (.tbl ps)->∃more,H' b=some (.tbl (ps++more))
section
variable {fs ex:Tf}{H H1:Hp}{h h1 h':AD}{a x e:A3}{o:HO}
def Un.any (u:Un fs ex H H1 h h1){b:A3}{ob:As}(q:h.get? b=some ob)(n:H b=none)(hx:b∉ex):∃sl,h1.get? b=some {ob with slots:=sl}:=by
 by_cases hb:b∈fs
 ·exact u.slot b ob q n hb hx
 ·exact{ob.slots,u.keep b ob q n hb hx}
def Un.kept (k:∀b u,h.get? b=some u->h'.get? b=some u):Un fs ex H H h h' :=
 {λb ob q _ _ _=>k b ob q,λb ob q _ _ _=>{ob.slots,k b ob q},λ_ _ _ n _=>n,λb ob q _=>{ob,k b ob q},λ_ _ q=>q,λ_ _ _ q=>q,λ_ ps q=>{#[],by rw[q];simp}}
def Un.refl:Un fs ex H H h h:=Un.kept λ_ _ q=>q
def Un.laid (k:∀b u,h.get? b=some u->h'.get? b=some u)(hp:h.objs.size<=a)(hn:H a=none):Un fs ex H (upd H a o) h h' where
 keep:=λb u q _ _ _=>k b u q
 slot:=λb u q _ _ _=>{u.slots,k b u q}
 free:=λb u q n _=>by rw[aq (BE (Bi (Av q) hp))];exact n
 there:=λb u q _=>{u,k b u q}
 tups:=λb xs q=>by rw[aq (f6 q hn)];exact q
 frzs:=λb u xs q=>by rw[aq (f6 q hn)];exact q
 tbls:=λb ps q=>{#[],by rw[aq (f6 q hn),q];simp}
def Un.write (mu:MB (H x))(he:e=x\/H e=some (.own x))(k:∀b u,b≠e->h.get? b=some u->h'.get? b=some u)(heo:∃u,h'.get? e=some u):Un fs ex H (upd H x o) h h':=by
 have hx:∀b,H b=none->b≠x:=λb n z=>by subst z;rw[n] at mu;exact mu
 have hb:∀b,H b=none->b≠e:=λb n z=>by
  subst z;rcases he with r|r
  ·exact hx b n r
  ·rw[n] at r;cases r
 have hm:∀b u,H b=some u->¬ MB (some u)->b≠x:=λb u q nm z=>by subst z;rw[q] at mu;exact nm mu
 refine{λb u q n _ _=>k b u (hb b n) q,λb u q n _ _=>{u.slots,k b u (hb b n) q},λb u q n _=>by rw[aq (hx b n)];exact n,λb u q _=>?_,
  λb xs q=>by rw[aq (hm b _ q λz=>z)];exact q,λb u xs q=>by rw[aq (hm b _ q λz=>z)];exact q,λb ps q=>{#[],by rw[aq (hm b _ q λz=>z),q];simp}}
 by_cases Ig:b=e
 ·subst Ig;exact heo
 ·exact{u,k b u Ig q}
end
noncomputable def MI (h:AD)(H:Hp):Tf:=(List.range h.objs.size).filter λa=>(H a).isSome
noncomputable def rT (h:AD)(H:Hp):AD:=PySem.W.hideAll h (MI h H)
def yV (h:AD)(H:Hp):(rT h H).objs.size=h.objs.size:=PySem.W.hideAll_size _ _
def JBj {h:AD}{H:Hp}{b:A3}{o:As}(e:h.get? b=some o)(n:H b=none):(rT h H).get? b=some o :=
 PySem.W.hideAll_get _ e λhm=>by have q:(H b).isSome=true:=(zcc.mp hm).2;rw[n] at q;simp at q
theorem JCt {h:AD}{H:Hp}{b:A3}{o:As}(e:(rT h H).get? b=some o):h.get? b=some o/\H b=none:=by
 have e':h.get? b=some o:=PySem.W.of_hideAll (MI h H) e;refine{e',?_}
 cases q:H b with
 |none=>rfl
 |some x=>
  have hm:b∈MI h H:=zcc.mpr {Hh.mpr (Av e'),by simp[q]};have z:(rT h H).get? b=none:=PySem.W.hideAll_none (MI h H) hm;rw[z] at e;cases e
noncomputable def EX (g h:AD)(L:A3):Tc:=(List.range h.objs.size).filterMap λa=>if a=L\/(g.get? a).isSome=true then none else (h.get? a).map λo=>(a,o)
noncomputable def rest (g h:AD)(L d:A3):Tc:=(EX g h L).filter λp=>decide (p.1≠d)
structure Mod (K:AP)(mg:Td)(base:Heap):Prop where
 kin:K.In base
 glob:base.Ns mainGlobals mg
 blt:∃mb,base.Ns builtinsNs mb/\∀x:Str,x≠"__name__"->mb x=bootBuiltins x
 nolimit:base.NoLimit
structure Cx where
 prog:Program
 w:World
 K:AP
 mg:Td
 base:Heap
 A:Around
 N:Tn
 s₀:Shared
 H₀:Hp
 env:Env
 outer:List Env
 stack:List Env
 ex:Tf
 fn:Str->Bool
 calm:Bool
 pn:Tc
 xe:Tb
noncomputable def y0 (l:P4 Env):Tf:=l.filterMap (·.frame)
abbrev Cx.fs (X:Cx):Tf:=y0 X.outer
def Nx (sc:Scope)(x:Str):Prop:=sc.names.lookup x=some .local\/sc.names.lookup x=some .cell\/sc.names.lookup x=some .free
def E7 (sc:Scope)(x:Str):Prop:=sc.names.lookup x=some .local\/sc.names.lookup x=some .cell
def O4 (env:Env)(h:AD)(m:Td)(x:Str)(u:A2):Prop :=
 (env.kindOf x=some .local/\m x=some u)\/((env.kindOf x=some .cell\/env.kindOf x=some .free)/\∃c,env.cells.lookup x=some c/\h.IsCell c (some u))
structure Cx.Ok (X:Cx):Prop where
 mod:Mod X.K X.mg X.base
 kind:X.env.scope.kind=.function
 glob:X.env.globals=mainGlobals
 blt:X.env.builtins=builtinsNs
 above:X.s₀.heap.objs.size<=X.env.locals
 inj:∀x y c,X.env.cells.lookup x=some c->X.env.cells.lookup y=some c->x=y
 has:∀x,(X.env.kindOf x=some .cell\/X.env.kindOf x=some .free)->∃c,X.env.cells.lookup x=some c
 cab:∀x c,X.fn x=true->X.env.cells.lookup x=some c->X.s₀.heap.objs.size<=c
 hd:X.calm=true->X.A.handled=none
 frames:X.A.frames=some X.stack
 stk:X.stack=X.outer\/(X.stack=X.env::X.outer/\X.env.frame=some X.env.locals)
 exf:∀b∈X.ex,b≠X.env.locals/\∀x c,X.env.cells.lookup x=some c->c≠b
 bs:∀b o,X.base.get? b=some o->X.s₀.heap.get? b=some o/\X.H₀ b=none
 bsz:X.base.objs.size<=X.s₀.heap.objs.size
 noex:∀b o,X.base.get? b=some o->b∉X.ex
 exfs:∀b∈X.ex,b∉X.fs
 funs:X.s₀.heap.FunFrames X.base X.outer
 frf:∀b∈X.fs,X.H₀ b=none
structure ay (X:Cx)(Qa:Tc)(Y:List (Option V))(H:Hp)(s:Shared):Prop where
 ok:X.Ok
 os:s.os=X.s₀.os
 bare:AllBare s.gens
 base:Un X.fs X.ex X.H₀ H X.s₀.heap s.heap
 loc:∃m,s.heap.Ns X.env.locals m/\∀(i:Nat) (x:Str) (v:V),X.N[i]?=some x->Y[i]?=some (some v)->Nx X.env.scope x->∃u,aT v u/\O4 X.env s.heap m x u
 cell:∀x c,X.env.cells.lookup x=some c->∃v,s.heap.IsCell c v
 free:H X.env.locals=none
 freeC:∀x c,X.env.cells.lookup x=some c->H c=none
 pin:∀p∈X.pn++Qa,s.heap.get? p.1=some p.2/\H p.1=none/\p.1≠X.env.locals/\p.1∉X.fs/\∀v,p.2.data≠.cell v
 hok:fH X.prog X.w H s.heap
 len:Y.length=X.N.length
section
variable {X:Cx}{Qa:Tc}{Y:P4 (QI V)}{H H':Hp}{s:A1}{h':AD}
def Cx.Ok.nofr (ok:X.Ok){b:A3}{o:As}(e:X.base.get? b=some o):b∉X.fs:=λhb=>by have:=(ok.funs.mem hb).1;rw[e] at this;cases this
def ay.bs (I:ay X Qa Y H s):∀b o,X.base.get? b=some o->s.heap.get? b=some o/\H b=none:=λb o e=>
 {I.base.keep b o (I.ok.bs b o e).1 (I.ok.bs b o e).2 (I.ok.nofr e) (I.ok.noex b o e),I.base.free b o (I.ok.bs b o e).1 (I.ok.bs b o e).2 (I.ok.noex b o e)}
def ay.bk (I:ay X Qa Y H s):∀b o,X.base.get? b=some o->s.heap.get? b=some o:=λb o e=>(I.bs b o e).1
def ay.mod (I:ay X Qa Y H s):Mod X.K X.mg X.base:=I.ok.mod
def ay.kIn (I:ay X Qa Y H s):X.K.In s.heap:=I.ok.mod.kin.keeps I.bk
def ay.lt (I:ay X Qa Y H s):X.env.locals<s.heap.objs.size:=let ⟨_,hn,_⟩:=I.loc;hn.lt
def ay.sz (I:ay X Qa Y H s):X.s₀.heap.objs.size<=s.heap.objs.size:=DK I.ok.above (Ek I.lt)
def ay.nofs (I:ay X Qa Y H s){a:A3}(h:s.heap.objs.size<=a):a∉X.fs:=λhb=>by let⟨_,o,ho,_⟩:=I.ok.funs.mem hb;exact AH (Bi (Av ho) (DK I.sz h)) (CM _)
def ay.cne (I:ay X Qa Y H s):∀x c,X.env.cells.lookup x=some c->c≠X.env.locals:=λx c e z=>by let⟨v,o,ho,hd⟩:=I.cell x c e;let⟨m,⟨o',es,ep,D8,hd',_⟩,_⟩:=I.loc;rw[z,D8] at ho;cases ho;rw[hd'] at hd;cases hd
def ay.funs (I:ay X Qa Y H s):s.heap.FunFrames X.base X.outer:=by
 have all:∀(l:P4 Env),(∀b∈y0 l,b∈X.fs)->X.s₀.heap.FunFrames X.base l->s.heap.FunFrames X.base l:=by
  intro l;induction l with
  |nil=>intro _ _;trivial
  |cons env r ih=>
   intro hs hl;let⟨hk,⟨L,o,hf,hn,ho,hd⟩,hr⟩:=hl;have hL:L∈X.fs:=hs L (by unfold y0;rw[zca,hf];exact BG);let⟨sl,e⟩:=I.base.slot L o ho (I.ok.frf L hL) hL λz=>I.ok.exfs L z hL;exact{hk,{L,_,hf,hn,e,hd},ih (λb hb=>hs b (by unfold y0;rw[zca,hf];exact BR _ hb)) hr}
 exact all X.outer (λ_ hb=>hb) I.ok.funs
def ay.stack (I:ay X Qa Y H s):s.heap.FunFrames X.base X.stack:=by
 rcases I.ok.stk with e|⟨e,hf⟩
 ·rw[e];exact I.funs
 ·rw[e];let⟨m,hn,_⟩:=I.loc;refine .cons (by rw[I.ok.kind];decide) hf hn ?_ I.funs;exact Heap.get?_none_of_le (DK I.ok.bsz I.ok.above)
def ay.stkSub (I:ay X Qa Y H s):∀b∈y0 X.stack,b∈X.env.locals::X.fs:=λb hb=>by
 rcases I.ok.stk with e|⟨e,hf⟩
 ·rw[e] at hb;exact BR _ hb
 ·rw[e] at hb;unfold y0 at hb;rw[zca,hf] at hb;exact hb
def ay.stkFree (I:ay X Qa Y H s):∀b∈y0 X.stack,H b=none:=λb hb=>by
 rcases Ax.mp (I.stkSub b hb) with e|hb
 ·rw[e];exact I.free
 ·let⟨_,o,ho,_⟩:=I.ok.funs.mem hb;exact I.base.free b o ho (I.ok.frf b hb) λz=>I.ok.exfs b z hb
def ay.step {g':AB GenState}{t':Nat}{d':Drawn}{ch:Tf}(I:ay X Qa Y H s)
  (GX:∀b∈ch,(b∈X.ex\/X.s₀.heap.objs.size<=b)/\b≠X.env.locals/\(∀x c,X.env.cells.lookup x=some c->c≠b)/\∀p∈X.pn++Qa,p.1≠b)
  (keep:∀b o,b≠X.env.locals->b∉X.fs->b∉ch->s.heap.get? b=some o->H b=none->h'.get? b=some o)
  (slot:∀b o,b≠X.env.locals->b∈X.fs->b∉ch->s.heap.get? b=some o->H b=none->∃sl,h'.get? b=some {o with slots:=sl}) (free:∀b o,b∉ch->s.heap.get? b=some o->H b=none->H' b=none)
  (there:∀b o,b∉ch->s.heap.get? b=some o->∃o',h'.get? b=some o')
  (tups:∀b xs,H b=some (.tup xs)->H' b=some (.tup xs)) (frzs:∀b o u,H b=some (.frz o u)->H' b=some (.frz o u)) (tbls:∀b ps,H b=some (.tbl ps)->∃more,H' b=some (.tbl (ps++more)))
  (ns:∀m,s.heap.Ns X.env.locals m->h'.Ns X.env.locals m) (hok:fH X.prog X.w H' h') (hg:AllBare g') :
  ay X Qa Y H' {s with heap:=h',gens:=g',drawn:=d',toks:=t'}:=by
 have neL:∀b o,X.s₀.heap.get? b=some o->b≠X.env.locals:=λb o e=>BE (Bi (Av e) I.ok.above)
 have neC:∀b o,X.s₀.heap.get? b=some o->b∉X.ex->b∉ch:=λb o e hx hb=>by
  rcases (GX b hb).1 with z|z
  ·exact hx z
  ·exact AH (Bi (Av e) z) (CM _)
 have cellK:∀x c,X.env.cells.lookup x=some c->∀v,s.heap.IsCell c v->h'.IsCell c v:=λx c e v ⟨o,ho,hd⟩=>by
  have nch:c∉ch:=λz=>(GX c z).2.2.1 x c e rfl
  by_cases hc:c∈X.fs
  ·let⟨sl,q⟩:=slot c o (I.cne x c e) hc nch ho (I.freeC x c e)
   exact{_,q,hd}
  ·exact{o,keep c o (I.cne x c e) hc nch ho (I.freeC x c e),hd}
 refine{I.ok,I.os,hg,{λb o e n hb hx=>?_,λb o e n hb hx=>?_,λb o e n hx=>?_,λb o e hx=>?_,λb xs e=>tups b xs (I.base.tups b xs e),λb o xs e=>frzs b o xs (I.base.frzs b o xs e),λb ps e=>?_},?_,λx c e=>?_,?_,λx c e=>?_,λp hp=>?_,hok,I.len}
 ·exact keep b o (neL b o e) hb (neC b o e hx) (I.base.keep b o e n hb hx) (I.base.free b o e n hx)
 ·let⟨sl,e1⟩:=I.base.slot b o e n hb hx
  let⟨sl',e2⟩:=slot b _ (neL b o e) hb (neC b o e hx) e1 (I.base.free b o e n hx);exact{sl',e2}
 ·let⟨o',e1⟩:=I.base.there b o e hx
  exact free b o' (neC b o e hx) e1 (I.base.free b o e n hx)
 ·let⟨o',e1⟩:=I.base.there b o e hx
  exact there b o' (neC b o e hx) e1
 ·let⟨m1,e1⟩:=I.base.tbls b ps e
  let⟨m2,e2⟩:=tbls b _ e1;exact{m1++m2,by rw[e2,Array.append_assoc]}
 ·let⟨m,hn,hl⟩:=I.loc
  refine{m,ns m hn,λi x v e1 e2 e3=>?_};let⟨u,r,l⟩:=hl i x v e1 e2 e3;refine{u,r,?_};rcases l with l|⟨k,c,e,z⟩
  ·exact .inl l
  ·exact .inr {k,c,e,cellK x c e _ z}
 ·let⟨v,z⟩:=I.cell x c e
  exact{v,cellK x c e v z}
 ·let⟨m,⟨o,_,_,ho,_⟩,_⟩:=I.loc
  exact free _ o (λz=>(GX _ z).2.1 rfl) ho I.free
 ·let⟨v,o,ho,hd⟩:=I.cell x c e
  exact free c o (λz=>(GX c z).2.2.1 x c e rfl) ho (I.freeC x c e)
 ·let⟨e,n,ne,nf,d⟩:=I.pin p hp
  have nch:p.1∉ch:=λz=>(GX p.1 z).2.2.2 p hp rfl;exact{keep p.1 p.2 ne nf nch e n,free p.1 p.2 nch e n,ne,nf,d}
def ay.un {t':Nat}(I:ay X Qa Y H s)(u:Un X.fs [] H H' s.heap h')(hok:fH X.prog X.w H' h'):ay X Qa Y H' {s with heap:=h',toks:=t'}:=by let⟨m,⟨o,es,ep,ho,r⟩,_⟩:=id I.loc;let⟨sl,hL⟩:=u.any ho I.free ∅;exact I.step (g':=s.gens) (d':=s.drawn) (ch:=[]) (λ_ z=>nomatch z) (λb o _ hb _ e n=>u.keep b o e n hb ∅) (λb o _ hb _ e n=>u.slot b o e n hb ∅) (λb o _ e n=>u.free b o e n ∅) (λb o _ e=>u.there b o e ∅) u.tups u.frzs u.tbls (λm' hm=>by let⟨o',BW,ep',D8,r'⟩:=hm;rw[ho] at D8;cases D8;exact{_,BW,ep',hL,r'}) hok I.bare
def ay.call {g':AB GenState}{t':Nat}{d':Drawn}{ch:Tf}(I:ay X Qa Y H s)(u:Un (y0 X.stack) ch H H' s.heap h')(hok:fH X.prog X.w H' h')(hg:AllBare g')
  (GX:∀b∈ch,(b∈X.ex\/X.s₀.heap.objs.size<=b)/\b≠X.env.locals/\(∀x c,X.env.cells.lookup x=some c->c≠b)/\∀p∈X.pn++Qa,p.1≠b) :
  ay X Qa Y H' {s with heap:=h',gens:=g',drawn:=d',toks:=t'}:=by
 let⟨m,⟨o,es,ep,ho,r⟩,_⟩:=id I.loc;let⟨sl,hL⟩:=u.any ho I.free λz=>(GX _ z).2.1 rfl
 exact I.step (ch:=ch) GX (λb o hL hb hc e n=>u.keep b o e n (λz=>(Ax.mp (I.stkSub b z)).elim hL hb) hc) (λb o _ _ hc e n=>u.any e n hc) (λb o hc e n=>u.free b o e n hc) (λb o hc e=>u.there b o e hc) u.tups u.frzs u.tbls (λm' hm=>by
  let⟨o',BW,ep',D8,r'⟩:=hm;rw[ho] at D8;cases D8
  exact{_,BW,ep',hL,r'}) hok hg
def ay.turned {t':Nat}{it:A3}(I:ay X Qa Y H s)(k:∀b o,b≠it->s.heap.get? b=some o->h'.get? b=some o)(hn:H it=none)(hL:it≠X.env.locals)
  (h1:it∈X.ex\/X.s₀.heap.objs.size<=it) (h2:∀x c,X.env.cells.lookup x=some c->c≠it) (h3:∀p∈X.pn++Qa,p.1≠it):ay X Qa Y H {s with heap:=h',toks:=t'}:=by
 have nit:∀b u,H b=some u->b≠it:=λb u e z=>by rw[z,hn] at e;cases e
 refine I.step (g':=s.gens) (d':=s.drawn) (ch:=[it]) (λb hb=>?_) (λb o _ _ hc e _=>k b o (λz=>hc (by simp[z])) e) (λb o _ _ hc e _=>{o.slots,k b o (λz=>hc (by simp[z])) e}) (λ_ _ _ _ n=>n)
  (λb o hc e=>{o,k b o (λz=>hc (by simp[z])) e}) (λ_ _ e=>e) (λ_ _ _ e=>e) (λb ps e=>{#[],by rw[e];simp}) (λm hm=>?_) (λb u e=>?_) I.bare
 ·have e:b=it:=by simpa using hb
  subst e;exact{h1,hL,h2,h3}
 ·let⟨o,es,ep,ho,r⟩:=hm
  exact{o,es,ep,k _ o (Ne.symm hL) ho,r}
 ·refine(I.hok b u e).stay (λc v hc q=>k c v ?_ q) (λ_ q=>q) λ_ _ q=>q
  rcases hc with z|z
  ·rw[z];exact nit b u e
  ·exact nit c _ z
def ay.tok (I:ay X Qa Y H s)(t:Nat):ay X Qa Y H {s with toks:=t}:=I.un (h':=s.heap) (t':=t) Un.refl I.hok
def ay.kept {t':Nat}(I:ay X Qa Y H s)(k:∀b u,s.heap.get? b=some u->h'.get? b=some u):ay X Qa Y H {s with heap:=h',toks:=t'}:=I.un (Un.kept k) (I.hok.kept k)
def ay.laid {a:A3}{o:HO}{t':Nat}(I:ay X Qa Y H s)(k:∀b u,s.heap.get? b=some u->h'.get? b=some u)(hp:s.heap.objs.size<=a)(new:br X.prog X.w (upd H a o) h' a o) :
  ay X Qa Y (upd H a o) {s with heap:=h',toks:=t'}:=I.un (Un.laid k hp (I.hok.fresh hp)) (I.hok.laid k hp new)
def ay.write {x e:A3}{o:HO}{t':Nat}(I:ay X Qa Y H s)(mu:MB (H x))(he:e=x\/H e=some (.own x))(k:∀b u,b≠e->s.heap.get? b=some u->h'.get? b=some u)(heo:∃u,h'.get? e=some u)
  (new:br X.prog X.w (upd H x o) h' x o):ay X Qa Y (upd H x o) {s with heap:=h',toks:=t'}:=I.un (Un.write mu he k heo) (I.hok.write mu he k heo new)
def ay.pins_of {Hj:Tc}(I:ay X Qa Y H s)(h:∀p∈Hj,s.heap.get? p.1=some p.2/\H p.1=none/\p.1≠X.env.locals/\p.1∉X.fs/\∀v,p.2.data≠.cell v):ay X Hj Y H s :=
 {I.ok,I.os,I.bare,I.base,I.loc,I.cell,I.free,I.freeC,λp hp=>(DI.mp hp).elim (λz=>I.pin p (zb4 _ z)) (h p),I.hok,I.len}
def tX {N:Tn}(hN:N.Nodup){i j:Nat}{x:Str}(a:N[i]?=some x)(b:N[j]?=some x):i=j:=by let⟨h1,e1⟩:=Bv.mp a;let⟨h2,e2⟩:=Bv.mp b;exact(HU hN).mp (e1.trans e2.symm)
def p8 {M:Model}{A:AE}{E:Tb}{i:Nat}{x:Str}{v:V}{u:A2}{Q:Unit->A1->Prop}(I:ay X Qa Y H s)(hN:X.N.Nodup)(hi:X.N[i]?=some x)(hx:E7 X.env.scope x)(r:aT v u)
  (h:∀s',ay X Qa (Y.set i (some v)) H s'->(∃a,Heap.SameBut a s.heap s'.heap/\(a=X.env.locals\/X.env.cells.lookup x=some a))->Q () s') (hf:X.fn x=true\/X.env.scope.names.lookup x=some .local:=by first|exact .inl rfl|exact .inr rfl|assumption):wpAny M A (storeName X.env x u) Q E s:=by
 let⟨m,hn,hl⟩:=id I.loc
 have hcls:(X.env.scope.kind == .class || (X.env.scope.kind == .module&&X.env.locals != X.env.globals))=false:=by rw[I.ok.kind];rfl
 have hiY:i<Y.length:=by rw[I.len];exact(Bv.mp hi).1
 have cne:=I.cne
 have tracked:∀{a:A3} {h':AD},(∃o,s.heap.get? a=some o/\H a=none)->Heap.SameBut a s.heap h'->fH X.prog X.w H h':=λ{a h'} ha hs b ob e=>by
  let⟨_,_,Hs⟩:=ha;refine(I.hok b ob e).stay (λc w' hc q=>(hs.2 c ?_).trans q) (λ_ q=>q) λ_ _ q=>q;rintro rfl;rcases hc with rfl|hc
  ·rw[Hs] at e;cases e
  ·rw[Hs] at hc;cases hc
 rcases hx with hk|hk
 ·refine wpAny_storeName_local hk hn (λh' IQ hs=>?_) hcls
  let⟨oL,_,_,EW,_⟩:=id hn;refine h _ {I.ok,I.os,I.bare,{λb o e n hb hx=>?_,λb o e n hb hx=>?_,I.base.free,λb o e hx=>?_,I.base.tups,I.base.frzs,I.base.tbls},{_,IQ,λj y v' e1 e2 e3=>?_},λy c e=>?_,I.free,I.freeC,λp hp=>?_,tracked {oL,EW,I.free} hs,by simpa using I.len} {_,hs,.inl rfl}
  ·exact(hs.2 b (BE (Bi (Av e) I.ok.above))).trans (I.base.keep b o e n hb hx)
  ·let⟨sl,e1⟩:=I.base.slot b o e n hb hx
   exact{sl,(hs.2 b (BE (Bi (Av e) I.ok.above))).trans e1}
  ·let⟨o',e1⟩:=I.base.there b o e hx
   exact{o',(hs.2 b (BE (Bi (Av e) I.ok.above))).trans e1}
  ·by_cases hj:j=i
   ·subst hj
    rw[hi] at e1;cases e1;rw[DN hiY] at e2;cases e2;exact{u,r,.inl {hk,by simp}}
   ·rw[Bp (Ne.symm hj)] at e2
    let⟨u',r',q⟩:=hl j y v' e1 e2 e3;refine{u',r',?_};rcases q with⟨k,e⟩|⟨k,c,e,z⟩
    ·refine .inl {k,?_}
     have:y≠x:=λe=>hj (tX hN e1 (e ▸ hi));simp[this,e]
    ·exact .inr {k,c,e,z.sameBut hs (cne y c e)}
  ·let⟨w',z⟩:=I.cell y c e
   exact{w',z.sameBut hs (cne y c e)}
  ·let⟨e,n,ne,nf,d⟩:=I.pin p hp
   exact{(hs.2 p.1 ne).trans e,n,ne,nf,d}
 ·have hfn:X.fn x=true:=by
   rcases hf with z|z
   ·exact z
   ·rw[z] at hk;cases hk
  let⟨c,hc⟩:=I.ok.has x (.inl hk);let⟨w',z⟩:=I.cell x c hc;refine wpAny_storeName_cell I.ok.kind hk hc z (λh' Hu hs=>?_);let⟨oc,hoc,hocd⟩:=id z;refine h {s with heap:=h'} {I.ok,I.os,I.bare,{λb o e n hb hx=>?_,λb o e n hb hx=>?_,I.base.free,λb o e hx=>?_,I.base.tups,I.base.frzs,I.base.tbls},{m,hn.sameBut hs (Ne.symm (cne x c hc)),λj y v' e1 e2 e3=>?_},λy c' e=>?_,I.free,I.freeC,λp hp=>?_,tracked {oc,hoc,I.freeC x c hc} hs,by simpa using I.len} {c,hs,.inr hc}
  ·exact(hs.2 b (BE (Bi (Av e) (I.ok.cab x c hfn hc)))).trans (I.base.keep b o e n hb hx)
  ·let⟨sl,e1⟩:=I.base.slot b o e n hb hx
   exact{sl,(hs.2 b (BE (Bi (Av e) (I.ok.cab x c hfn hc)))).trans e1}
  ·let⟨o',e1⟩:=I.base.there b o e hx
   exact{o',(hs.2 b (BE (Bi (Av e) (I.ok.cab x c hfn hc)))).trans e1}
  ·by_cases hj:j=i
   ·subst hj
    rw[hi] at e1;cases e1;rw[DN hiY] at e2;cases e2;exact{u,r,.inr {.inl hk,c,hc,Hu}}
   ·rw[Bp (Ne.symm hj)] at e2
    let⟨u',r',q⟩:=hl j y v' e1 e2 e3;refine{u',r',?_};rcases q with q|⟨k,c',e,z'⟩
    ·exact .inl q
    ·refine .inr {k,c',e,z'.sameBut hs ?_}
     rintro rfl;exact hj (tX hN e1 (I.ok.inj _ _ _ e hc ▸ hi))
  ·by_cases hcc:c'=c
   ·subst hcc;exact{_,Hu}
   ·let⟨w2,z2⟩:=I.cell y c' e
    exact{w2,z2.sameBut hs hcc}
  ·let⟨e,n,ne,nf,d⟩:=I.pin p hp
   refine{(hs.2 p.1 ?_).trans e,n,ne,nf,d};intro q;rw[q,hoc] at e;have q':oc=p.2:=Option.some.inj e;exact d w' (by rw[←q'];exact hocd)
def dZ {M:Model}{A:AE}{E:Tb}{i:Nat}{x:Str}{v:V}{u:A2}{Q:Unit->A1->Prop}(I:ay X Qa Y H s)(hN:X.N.Nodup)(hi:X.N[i]?=some x)(hx:E7 X.env.scope x)(r:aT v u)
  (h:∀s',ay X Qa (Y.set i (some v)) H s'->Q () s') (hf:X.fn x=true\/X.env.scope.names.lookup x=some .local:=by first|exact .inl rfl|exact .inr rfl|assumption):wpAny M A (storeName X.env x u) Q E s :=
 p8 I hN hi hx r (λs' I' _=>h s' I') hf
def ay.call' {s':A1}{ch:Tf}(I:ay X Qa Y H s)(ho:s'.os=s.os)(u:Un (y0 X.stack) ch H H' s.heap s'.heap)(hok:fH X.prog X.w H' s'.heap)(hg:AllBare s'.gens)
  (GX:∀b∈ch,(b∈X.ex\/X.s₀.heap.objs.size<=b)/\b≠X.env.locals/\(∀x c,X.env.cells.lookup x=some c->c≠b)/\∀p∈X.pn++Qa,p.1≠b):ay X Qa Y H' s':=by
 let⟨h',g',d',t',o'⟩:=s';have e:o'=s.os:=ho;subst e;exact I.call (g':=g') (t':=t') (d':=d') u hok hg GX
end
abbrev XK:=A2->QI A3->Hp->Prop
abbrev St:=P4 (QI V)
abbrev VK:=V->Hp->Prop
abbrev TE:=St->Hp->VK->Prop
abbrev TT:=St->Hp->(A7->Hp->Prop)->Prop
abbrev TA:=St->Hp->(P4 V->Hp->Prop)->Prop
structure fT where
 nx:St->Hp->Prop
 rt:VK
 bk:St->Hp->Prop:=λ_ _=>False
 ct:St->Hp->Prop:=λ_ _=>False
abbrev TS:=fT->St->Hp->Prop
def EP (X:Cx)(Qa:Tc)(Y:St)(Q:VK)(u:A2)(s':A1):Prop:=∃v H',ay X Qa Y H' s'/\aT v u/\Q v H'
def TP (X:Cx)(Qa:Tc)(Y:St)(Q:A7->Hp->Prop)(b:A7)(s':A1):Prop:=∃H',ay X Qa Y H' s'/\Q b H'
def JAt (X:Cx)(Qa:Tc)(Y:St)(Q:P4 V->Hp->Prop)(us:Te)(s':A1):Prop:=∃vs H',ay X Qa Y H' s'/\aS vs us/\Q vs H'
def SP (X:Cx)(Qa:Tc)(D:fT)(f:Flow)(s':A1):Prop :=
 match f with
 |.next=>∃Y' H',ay X Qa Y' H' s'/\D.nx Y' H'
 |.brk=>∃Y' H',ay X Qa Y' H' s'/\D.bk Y' H'
 |.cont=>∃Y' H',ay X Qa Y' H' s'/\D.ct Y' H'
 |.ret u=>∃v Y' H',ay X Qa Y' H' s'/\aT v u/\D.rt v H'
def PE (X:Cx)(e:AU)(t:TE):Prop :=
 ∀(Qa:Tc) (s:A1) (Y:St) (H:Hp) (Q:VK),ay X Qa Y H s->t Y H Q->wpAny (model X.prog X.w) X.A (eval e X.env) (EP X Qa Y Q) X.xe s
def PT (X:Cx)(e:AU)(t:TT):Prop :=
 ∀(Qa:Tc) (s:A1) (Y:St) (H:Hp) (Q:A7->Hp->Prop),ay X Qa Y H s->t Y H Q->wpAny (model X.prog X.w) X.A (isTrue e X.env (eval e X.env)) (TP X Qa Y Q) X.xe s
def PW (X:Cx)(e:AU)(t:TT):Prop :=
 ∀(whole:Sem A2) (Qa:Tc) (s:A1) (Y:St) (H:Hp) (Q:A7->Hp->Prop),ay X Qa Y H s->t Y H Q->wpAny (model X.prog X.w) X.A (isTrue e X.env whole) (TP X Qa Y Q) X.xe s
def PW.pt {t:TT}(h:PW X e t):PT X e t:=h _
def PA (X:Cx)(es:Tj)(t:TA):Prop :=
 ∀(pos:Pos) (Qa:Tc) (s:A1) (Y:St) (H:Hp) (Q:P4 V->Hp->Prop),ay X Qa Y H s->t Y H Q->wpAny (model X.prog X.w) X.A (spliced (backTo pos (starEach es X.env))) (JAt X Qa Y Q) X.xe s
def PS (X:Cx)(st:Ad)(t:TS):Prop :=
 ∀(Qa:Tc) (s:A1) (Y:St) (H:Hp) (D:fT),ay X Qa Y H s->t D Y H->wpAny (model X.prog X.w) X.A (exec st X.env) (SP X Qa D) X.xe s
def nB (X:Cx)(st:Tk)(t:TS):Prop :=
 ∀(Qa:Tc) (s:A1) (Y:St) (H:Hp) (D:fT),ay X Qa Y H s->t D Y H->wpAny (model X.prog X.w) X.A (execs st X.env) (SP X Qa D) X.xe s
def cV {Z:Type}{t:Sem Z}{Q Q':Z->A1->Prop}{M:Model}{E:Tb}{s:A1}(h:wpAny M A t Q E s)(hQ:∀a s,Q a s->Q' a s):wpAny M A t Q' E s:=DV h hQ λ_ _ x=>x
section
variable {X:Cx}
def KE (i:Nat):TE:=λY H Q=>∃v,Y[i]?=some (some v)/\Q v H
def tC (v:V):TE:=λ_ H Q=>Q v H
def Iu {i:Nat}{x:Str}(hN:X.N[i]?=some x)(hv:Nx X.env.scope x)(hd:(x == ("__debug__" : Str))=false:=by decide)(Ee:(x == ("__classdict__" : Str))=false:=by decide):PE X (.Name x pos) (KE i):=by
 intro Qa s Y H Q I h;let⟨v,e,h⟩:=h;let⟨m,hn,hl⟩:=I.loc;let⟨u,r,l⟩:=hl i x v hN e hv;have fin:EP X Qa Y Q u s:={v,H,I,r,h};rcases l with⟨hk,hm⟩|⟨hk,c,hc,Ht⟩
 ·exact wpAny_Name (wpAny_loadName_local I.ok.kind hk hn hm fin) hd
 ·rcases hk with hk|hk
  ·exact wpAny_Name (wpAny_loadName_cell I.ok.kind hk hc Ht fin) hd
  ·exact wpAny_Name (wpAny_loadName_free I.ok.kind hk hc Ht fin Ee) hd
def JGd {i j pos}:PE X (.Constant (.int i) j pos) (tC (.int i)):=λ_ _ _ H _ I h=>wpAny_Constant_int {.int i,H,I.tok _,{_,rfl},h}
def LA {b j pos}:PE X (.Constant (.bool b) j pos) (tC (.bl b)):=λ_ _ _ H _ I h=>Constant_bool {.bl b,H,I,rfl,h}
def vB {j pos}:PE X (.Constant .none j pos) (tC .non):=λ_ _ _ H _ I h=>Constant_none {.non,H,I,rfl,h}
def Iw {x j pos}:PE X (.Constant (.str x) j pos) (tC (.str x)):=λ_ _ _ H _ I h=>Calls.Constant_str {.str x,H,I.tok _,{_,rfl},h}
def Gl (X:Cx)(x:Str):Prop:=X.env.kindOf x=some .globalImplicit
def rH {E:Tb}{s:A1}{H:Hp}{x:Str}{u:A2}{pos:Pos}{Q:Tb}(I:ay X Qa Y H s)(hg:Gl X x)(hm:X.mg x=some u)(h:Q u s)
  (hd:(x == ("__debug__" : Str))=false:=by decide):wpAny (model X.prog X.w) X.A (eval (.Name x pos) X.env) Q E s :=
 Calls.Name_function_global I.ok.kind hg (Calls.loadGlobal_global (by rw[I.ok.glob];exact I.mod.glob.keeps I.bk) hm h) hd
def vP {E:Tb}{s:A1}{H:Hp}{x:Str}{u:A2}{pos:Pos}{Q:Tb}(I:ay X Qa Y H s)(hg:Gl X x)(hm:X.mg x=none)(hv:bootBuiltins x=some u)(h:Q u s)
  (hn:x≠"__name__":=by decide) (hd:(x == ("__debug__" : Str))=false:=by decide):wpAny (model X.prog X.w) X.A (eval (.Name x pos) X.env) Q E s:=by
 let⟨mb,h1,h2⟩:=I.mod.blt;exact Calls.Name_function_global I.ok.kind hg (Calls.loadGlobal_builtin (by rw[I.ok.glob];exact I.mod.glob.keeps I.bk) hm (by rw[I.ok.blt];exact h1.keeps I.bk) ((h2 x hn).trans hv) h) hd
def JDg {x:Str}{v:V}{u:A2}(hg:Gl X x)(hm:X.mg x=some u)(r:aT v u)(hd:(x == ("__debug__" : Str))=false:=by decide):PE X (.Name x pos) (tC v) :=
 λ_ _ _ H _ I h=>rH I hg hm {v,H,I,r,h} hd
variable {a b:AU}{ta tb:TE}{pos:Pos}
def tB (t:TE):TT:=λY H Q=>t Y H λx H1=>∃c,x=.bl c/\Q c H1
variable {tA tB':TT}{rest:Tj}
def KN (t u:TT):TT:=λY H Q=>t Y H λc H1=>if c=true then u Y H1 Q else Q false H1
theorem JC3 (ha:PT X a tA):PW X (.BoolOp .And [a] pos) tA:=by
 intro wh Qa s Y H Q I h;refine isTrue_and (cV (ha Qa s Y H Q I h) λc s1 e=>?_)
 cases c with
 |true=>exact isTrue_and_nil e
 |false=>exact e
theorem JGw (ha:PT X a tA)(hb:PW X (.BoolOp .And (b::rest) pos) tB'):PW X (.BoolOp .And (a::b::rest) pos) (KN tA tB'):=by
 intro wh Qa s Y H Q I h;refine isTrue_and (cV (ha Qa s Y H _ I h) λc s1 hh=>?_);let⟨H1,I1,q1⟩:=hh
 cases c with
 |true=>exact hb wh Qa s1 Y H1 Q I1 q1
 |false=>exact{H1,I1,q1}
def FY (ta tb:TE):TE:=λY H Q=>ta Y H λx H1=>∃c,x=.bl c/\if c=true then tb Y H1 Q else Q (.bl false) H1
def KI (ta tb:TE):TE:=λY H Q=>ta Y H λx H1=>∃c,x=.bl c/\if c=true then Q (.bl true) H1 else tb Y H1 Q
def FQ (ta:TE):TE:=λY H Q=>ta Y H λx H1=>∃c,x=.bl c/\Q (.bl (!c)) H1
def Ix {op}{t:TE}(h:PE X a t):PE X (.BoolOp op [a] pos) t:=λQa s Y H Q I hw=>BoolOp_one (h Qa s Y H Q I hw)
theorem JGf (ha:PE X a ta)(hb:PE X (.BoolOp .And (b::rest) pos) tb):PE X (.BoolOp .And (a::b::rest) pos) (FY ta tb):=by
 intro Qa s Y H Q I h;refine BoolOp_and (cV (ha Qa s Y H _ I h) λv s1 hh=>?_);let⟨x,H1,I1,r1,q1⟩:=hh;let⟨c,rfl,q1⟩:=q1;cases r1;refine zbZ ?_
 cases c with
 |true=>exact hb Qa s1 Y H1 Q I1 q1
 |false=>exact{.bl false,H1,I1,rfl,q1}
theorem Ly (ha:PE X a ta)(hb:PE X (.BoolOp .Or (b::rest) pos) tb):PE X (.BoolOp .Or (a::b::rest) pos) (KI ta tb):=by
 intro Qa s Y H Q I h;refine BoolOp_or (cV (ha Qa s Y H _ I h) λv s1 hh=>?_);let⟨x,H1,I1,r1,q1⟩:=hh;let⟨c,rfl,q1⟩:=q1;cases r1;refine zbZ ?_
 cases c with
 |false=>exact hb Qa s1 Y H1 Q I1 q1
 |true=>exact{.bl true,H1,I1,rfl,q1}
def Iy (ha:PE X a ta):PE X (.UnaryOp .Not a pos) (FQ ta):=by intro Qa s Y H Q I h;refine UnaryOp_ (cV (ha Qa s Y H _ I h) λv s1 hh=>?_);let⟨x,H1,I1,r1,q1⟩:=hh;let⟨c,rfl,q1⟩:=q1;cases r1;exact not_of (zbZ {.bl (!c),H1,I1,rfl,q1})
def Pq (t:TT)(ta tb:TE):TE:=λY H Q=>t Y H λc H1=>if c=true then ta Y H1 Q else tb Y H1 Q
theorem JBr {c:AU}(hc:PT X c tA)(ha:PE X a ta)(hb:PE X b tb):PE X (.IfExp c a b pos) (Pq tA ta tb):=by
 intro Qa s Y H Q I h;refine wpAny_IfExp (cV (hc Qa s Y H _ I h) λd s1 hh=>?_);let⟨H1,I1,q1⟩:=hh
 cases d with
 |true=>exact ha Qa s1 Y H1 Q I1 q1
 |false=>exact hb Qa s1 Y H1 Q I1 q1
end
def j6 (K:AP)(H:Hp)(a:A3)(xs:P4 V):Prop :=
 Rd H a (.lst xs) \/
  ∃(o:As) (its:Ti) (n:Nat),K.lookup a=some o/\o.cls=.type "list"/\(o.dict=none/\o.slots = #[])/\o.data=.seq its n/\its.size<=sizeLine/\aS xs its.toList
def gp (K:AP)(H:Hp)(a:A3)(xs:P4 V):Prop :=
 Rd H a (.tup xs) \/
  ∃(o:As) (its:Ti) (n:Nat),K.lookup a=some o/\o.cls=.type "tuple"/\o.dict=none/\o.data=.seq its n/\its.size<=sizeLine/\aS xs its.toList
noncomputable def OY:A2->QI V
 |.none=>some .non
 |.bool b=>some (.bl b)
 |.int i _=>some (.int i)
 |.str x _=>some (.str x)
 |.bytes b _=>some (.byt b)
 |.float b _=>some (.flt b)
 |.ref a=>some (.ref a)
 |.type n=>some (.ty n)
 |_=>none
theorem aT.abs {x:V}{u:A2}(r:aT x u):OY u=some x:=by
 cases x with
 |non=>cases r;rfl
 |bl _=>cases r;rfl
 |int _=>let⟨t,rfl⟩:=r;rfl
 |str _=>let⟨t,rfl⟩:=r;rfl
 |byt _=>let⟨t,rfl⟩:=r;rfl
 |flt _=>let⟨t,rfl⟩:=r;rfl
 |ref _=>cases r;rfl
 |ty _=>cases r;rfl
def aT.inj {x y:V}{u:A2}(r:aT x u)(q:aT y u):x=y:=Option.some.inj (r.abs.symm.trans q.abs)
theorem aS.inj {xs ys:P4 V}{us:Te}(h:aS xs us):aS ys us->xs=ys:=by
 induction h generalizing ys with
 |nil=>intro q;cases q;rfl
 |cons r t ih=>intro q;cases q with|cons r' t'=>rw[r.inj r',ih t']
section
variable {X:Cx}{Qa:Tc}{Y:St}{H:Hp}{s:A1}{a:A3}{xs ys:P4 V}
def gp.of {K:AP}(h:H a=some (.tup xs)):gp K H a xs:=.inl (.inl h)
def ay.list (I:ay X Qa Y H s)(h:j6 X.K H a xs):∃its:Te,aS xs its/\PlainL s.heap a its.toArray/\xs.length<=sizeLine:=by
 rcases h with h|⟨o,its,n,hk,hc,hd,hs,hz,r⟩
 ·let⟨z,its,n,r,e⟩:=h.ok I.hok;exact{its,r,{_,n,e,rfl,rfl,rfl},z}
 ·refine{its.toList,r,{o,n,I.kIn a o hk,hc,hd.1,by simpa using hs},?_};have e:=r.length;rwa[Dv] at e;omega
def ay.tuple (I:ay X Qa Y H s)(h:gp X.K H a xs):∃its:Te,aS xs its/\IsTup s.heap a its.toArray/\xs.length<=sizeLine:=by
 rcases h with h|⟨o,its,n,hk,hc,hn,hs,hz,r⟩
 ·let⟨z,its,r,p⟩:=h.ok I.hok;exact{its,r,p.1,z}
 ·refine{its.toList,r,{o,I.kIn a o hk,hc,n,by simpa using hs},?_};have e:=r.length;rwa[Dv] at e;omega
def ay.list_inj (I:ay X Qa Y H s)(h:j6 X.K H a xs)(h':j6 X.K H a ys):xs=ys:=by
 let⟨its,r,⟨o,n,e,_,_,d⟩,_⟩:=I.list h;let⟨its',r',⟨o',n',e',_,_,d'⟩,_⟩:=I.list h';rw[e] at e';cases e';rw[d] at d';injection d' with d1 _
 have:its=its':=by simpa using AI Array.toList d1
 subst this;exact r.inj r'
def ay.tuple_inj (I:ay X Qa Y H s)(h:gp X.K H a xs)(h':gp X.K H a ys):xs=ys:=by
 let⟨its,r,⟨o,e,_,n,d⟩,_⟩:=I.tuple h;let⟨its',r',⟨o',e',_,n',d'⟩,_⟩:=I.tuple h';rw[e] at e';cases e';rw[d] at d';injection d' with d1 _
 have:its=its':=by simpa using AI Array.toList d1
 subst this;exact r.inj r'
end
abbrev Cx.wish (X:Cx)(E:Tb):Cx:={X with xe:=E}
abbrev Cx.nox (X:Cx):Cx:=X.wish λ_ _=>False
def Cx.Ok.wish {X:Cx}(ok:X.Ok)(E:Tb):(X.wish E).Ok :=
 {ok.mod,ok.kind,ok.glob,ok.blt,ok.above,ok.inj,ok.has,ok.cab,ok.hd,ok.frames,ok.stk,ok.exf,ok.bs,ok.bsz,ok.noex,ok.exfs,ok.funs,ok.frf}
def Cx.Ok.unwish {X:Cx}{E:Tb}(ok:(X.wish E).Ok):X.Ok :=
 {ok.mod,ok.kind,ok.glob,ok.blt,ok.above,ok.inj,ok.has,ok.cab,ok.hd,ok.frames,ok.stk,ok.exf,ok.bs,ok.bsz,ok.noex,ok.exfs,ok.funs,ok.frf}
section
variable {X:Cx}{Qa:Tc}{Y:St}{H:Hp}{s:A1}{E:Tb}
def ay.wish (I:ay X Qa Y H s)(E:Tb):ay (X.wish E) Qa Y H s:={I.ok.wish E,I.os,I.bare,I.base,I.loc,I.cell,I.free,I.freeC,I.pin,I.hok,I.len}
def ay.unwish (I:ay (X.wish E) Qa Y H s):ay X Qa Y H s:={I.ok.unwish,I.os,I.bare,I.base,I.loc,I.cell,I.free,I.freeC,I.pin,I.hok,I.len}
theorem SP.unwish {D:fT}{f:Flow}{s':A1}(h:SP (X.wish E) Qa D f s'):SP X Qa D f s':=by
 cases f with
 |next=>let⟨Y',H',I,q⟩:=h;exact{Y',H',I.unwish,q}
 |brk=>let⟨Y',H',I,q⟩:=h;exact{Y',H',I.unwish,q}
 |cont=>let⟨Y',H',I,q⟩:=h;exact{Y',H',I.unwish,q}
 |ret u=>let⟨v,Y',H',I,r,q⟩:=h;exact{v,Y',H',I.unwish,r,q}
def nB.nox {st:Tk}{t:TS}(h:nB X.nox st t):nB X st t:=λQa s Y H D I hw=>
 DV (h Qa s Y H D (I.wish _) hw) (λ_ _ q=>q.unwish) λ_ _ z=>False.elim z
end
section
variable {X:Cx}{st:Ad}{rest:Tk}{t u:TS}{e:AU}{te:TE}{pos:Pos}
def FU:TS:=λD Y H=>D.nx Y H
def KG (t u:TS):TS:=λD Y H=>t {D with nx:=u D} Y H
def JC6:nB X [] FU:=λ_ _ Y H _ I h=>zcN {Y,H,I,h}
theorem JAg (h1:PS X st t)(h2:nB X rest u):nB X (st::rest) (KG t u):=by
 intro Qa s Y H D I h;refine wpAny_execs_cons (cV (h1 Qa s Y H {D with nx:=u D} I h) λf s1 q=>?_)
 cases f with
 |next=>
  let⟨Y',H',I',q⟩:=q;exact h2 Qa s1 Y' H' D I' q
 |ret v=>exact q
 |brk=>exact q
 |cont=>exact q
theorem JC5 (h1:PS X st t):nB X [st] t:=by
 intro Qa s Y H D I h;refine wpAny_execs_cons (cV (h1 Qa s Y H D I h) λf s1 q=>?_)
 cases f with
 |next=>exact zcN q
 |ret v=>exact q
 |brk=>exact q
 |cont=>exact q
def z8:TS:=λD Y H=>D.bk Y H
def JAi:PS X (.Break pos) z8:=λ_ _ Y H _ I h=>wpAny_Break {Y,H,I,h}
def ay.quiet {H:Hp}{s:A1}(I:ay X Qa Y H s):interactive X.env=false:=by simp[interactive,I.ok.kind]
def FX (te:TE):TS:=λD Y H=>te Y H λ_ H1=>D.nx Y H1
def JC7 (he:PE X e te)(hs:swapsWith e none pos.line X.env=pure false:=by rfl):PS X (.Expr e pos) (FX te):=by intro Qa s Y H D I h;exact wpAny_Expr_any (cV (he Qa s Y H _ I h) λv s1 ⟨x,H1,I1,r1,q1⟩=>{Y,H1,I1,q1}) I.quiet hs
def KH (te:TE):TS:=λD Y H=>te Y H D.rt
def JG0 (he:PE X e te):PS X (.Return (some e) pos) (KH te):=by intro Qa s Y H D I h;exact wpAny_Return_some (cV (he Qa s Y H _ I h) λv s1 ⟨x,H1,I1,r1,q1⟩=>{x,Y,H1,I1,r1,q1})
def KL (c:TT)(t u:TS):TS:=λD Y H=>c Y H λb H1=>if b=true then t D Y H1 else u D Y H1
theorem Lv {c:AU}{a b:Tk}{tc:TT}(hc:PT X c tc)(ha:nB X a t)(hb:nB X b u):PS X (.If c a b pos) (KL tc t u):=by
 intro Qa s Y H D I h;refine wpAny_If (cV (hc Qa s Y H _ I h) λd s1 hh=>?_);let⟨H1,I1,q1⟩:=hh
 cases d with
 |true=>exact ha Qa s1 Y H1 D I1 q1
 |false=>exact hb Qa s1 Y H1 D I1 q1
end
abbrev TG:=V->St->Hp->(St->Hp->Prop)->Prop
abbrev C0:=P4 V->St->Hp->(St->Hp->Prop)->Prop
def PG (X:Cx)(target:AU)(t:TG):Prop :=
 ∀(Qa:Tc) (s:A1) (Y:St) (H:Hp) (v:V) (u:A2) (Q:St->Hp->Prop),ay X Qa Y H s->aT v u->t v Y H Q ->
  wpAny (model X.prog X.w) X.A (assign target X.env u) (λ_ s'=>∃Y' H',ay X Qa Y' H' s'/\Q Y' H') X.xe s
def C1 (X:Cx)(ts:Tj)(t:C0):Prop :=
 ∀(Qa:Tc) (s:A1) (Y:St) (H:Hp) (vs:P4 V) (us:Te) (Q:St->Hp->Prop),ay X Qa Y H s->aS vs us->t vs Y H Q ->
  wpAny (model X.prog X.w) X.A (assignInOrder ((assignEach ts X.env).map (·.2)) us) (λ_ s'=>∃Y' H',ay X Qa Y' H' s'/\Q Y' H') X.xe s
abbrev E3:=V->V->V->Hp->(Hp->Prop)->Prop
def uR (X:Cx)(t:E3):Prop :=
 ∀(Qa:Tc) (s:A1) (Y:St) (H:Hp) (o i v:V) (ov iv u:A2) (Q:Hp->Prop),ay X Qa Y H s->aT o ov->aT i iv->aT v u->t o i v H Q ->
  wpAny (model X.prog X.w) X.A (setItem ov iv u) (λ_ s'=>∃H',ay X Qa Y H' s'/\Q H') X.xe s
section
variable {X:Cx}{pos:Pos}
def qu (i:Nat):TG:=λv Y H Q=>Q (Y.set i (some v)) H
def JDc {i:Nat}{x:Str}(hN:X.N.Nodup)(hi:X.N[i]?=some x)(hx:E7 X.env.scope x)(hf:X.fn x=true\/X.env.scope.names.lookup x=some .local:=by first|exact .inl rfl|exact .inr rfl|assumption):PG X (.Name x pos) (qu i):=by intro Qa s Y H v u Q I r h;exact wpAny_assign_Name (dZ I hN hi hx r (λs' I'=>{_,H,I',h}) hf)
noncomputable def Md:C0:=λvs Y H Q=>vs=[]/\Q Y H
noncomputable def Gx (t:TG)(u:C0):C0:=λvs Y H Q=>∃v r,vs=v::r/\t v Y H λY' H'=>u r Y' H' Q
def JDb:C1 X [] Md:=by intro Qa s Y H vs us Q I r h;let⟨e,h⟩:=h;subst e;cases r;exact assignInOrder_nil {Y,H,I,h}
theorem JBp {e:AU}{es:Tj}{t:TG}{u:C0}(h1:PG X e t)(h2:C1 X es u)
  (hs:(assignEach (e::es) X.env).map (·.2)=assign e X.env::(assignEach es X.env).map (·.2):=by rfl):C1 X (e::es) (Gx t u):=by
 intro Qa s Y H vs us Q I r h;let⟨v,vr,e1,h⟩:=h;subst e1
 cases r with
 |cons r rr=>
  rw[hs];refine assignInOrder_cons (cV (h1 Qa s Y H _ _ _ I r h) λ_ s1 hh=>?_);let⟨Y1,H1,I1,q1⟩:=hh;exact h2 Qa s1 Y1 H1 _ _ Q I1 rr q1
def Mc (K:AP)(n:Nat)(t:C0):TG:=λv Y H Q=>∃a xs,v=.ref a/\gp K H a xs/\xs.length=n/\t xs Y H Q
def Iq {es:Tj}{k:Nat}{t:C0}{n:Nat}(hc:X.calm=true)(h:C1 X es t)
  (hn:(assignEach es X.env).length=n:=by rfl) (D7:(assignEach es X.env).findIdx? (·.1)=none:=by rfl):PG X (.Tuple es k pos) (Mc X.K n t):=by
 intro Qa s Y H v u Q I r hw;let⟨a,xs,e1,hq,hl,hw⟩:=hw;subst e1;cases r;let⟨its,rv,ht,hz⟩:=I.tuple hq;refine assign_Tuple_tuple (I.ok.hd hc) ht (by simp[hn,←hl,rv.length]) D7 λh' hx=>?_;have I1:ay X Qa Y H {s with heap:=h'}:=I.kept (t':=s.toks) λb o e=>hx b o (BE (Av e)) e;exact h Qa _ Y H xs _ Q I1 ‹rv› hw
def rX (to ti:TE)(t:E3):TG:=λv Y H Q=>to Y H λo H1=>ti Y H1 λi H2=>t o i v H2 λH3=>Q Y H3
def Ir {o i:AU}{to ti:TE}{t:E3}(ho:PE X o to)(hi:PE X i ti)(hs:uR X t)
  (ha:∀v,assign (.Subscript o i pos) X.env v=(do
   let ov ←holding [v] (eval o X.env)
   let iv ←holding [v,ov] (eval i X.env)
   standAt pos
   holding [v,ov,iv] (setItem ov iv v)
   release [v,ov,iv] []):=by intro _;rfl):PG X (.Subscript o i pos) (rX to ti t):=by
 intro Qa s Y H v u Q I r h;rw[ha];refine AA (By (cV (ho Qa s Y H _ I h) λov s1 hh=>?_));let⟨x,H1,I1,r1,q1⟩:=hh;refine AA (By (cV (hi Qa s1 Y H1 _ I1 q1) λiv s2 hh=>?_));let⟨y,H2,I2,r2,q2⟩:=hh;refine AA (wpAny_standAt (AA (By (cV (hs Qa s2 Y H2 x y v ov iv u _ I2 r1 r2 r q2) λ_ s3 hh=>?_))));let⟨H3,I3,q3⟩:=hh;exact wpAny_release {Y,H3,I3,q3}
def z9 (te:TE)(g:TG):TS:=λD Y H=>te Y H λx H1=>g x Y H1 D.nx
def Ip {tg e:AU}{te:TE}{g:TG}(he:PE X e te)(hg:PG X tg g)(hs:swapsWithSole [tg] e pos.line X.env=pure false:=by rfl)(hw:swappedStores [tg] e X.env=pure none:=by rfl)
  (h1:(assignEach [tg] X.env).map (·.2)=[assign tg X.env]:=by rfl):PS X (.Assign [tg] e pos) (z9 te g):=by
 intro Qa s Y H D I h;refine wpAny_Assign_stores (cV (he Qa s Y H _ I h) λv s1 hh=>?_) hs hw;let⟨x,H1,I1,r1,q1⟩:=hh;rw[h1];exact cV (hg Qa s1 Y H1 x v _ I1 r1 q1) λ_ s2 q=>q
def JGz {i:Nat}{x:Str}{te:TE}{pos':Pos}(hN:X.N.Nodup)(hi:X.N[i]?=some x)(hx:E7 X.env.scope x)(he:PE X e te)(hs:swapsWith e (some (.Name x pos')) pos.line X.env=pure false:=by rfl)(hf:X.fn x=true\/X.env.scope.names.lookup x=some .local:=by first|exact .inl rfl|exact .inr rfl|assumption) :
  PS X (.Assign [.Name x pos'] e pos) (z9 te (qu i)):=by
 intro Qa s Y H D I h;refine wpAny_Assign_Name (cV (he Qa s Y H _ I h) λv s1 hh=>?_) hs;let⟨y,H1,I1,r1,q1⟩:=hh;exact dZ I1 hN hi hx r1 (λs2 I2=>{_,H1,I2,q1}) hf
end
structure It where
 go:Nat->Hp->Prop
 yld:Nat->Hp->V->Hp->Prop
 stop:Nat->Hp->Prop
def lV (X:Cx)(Qa:Tc)(H:Hp)(b:A3):Prop :=
 H b=none/\b≠X.env.locals/\b∉X.fs/\(b∈X.ex\/X.s₀.heap.objs.size<=b)/\(∀x c,X.env.cells.lookup x=some c->c≠b)/\∀p∈X.pn++Qa,p.1≠b
def ay.fpOk {H H':Hp}{s:A1}{b:A3}(I:ay X Qa Y H s)(hb:s.heap.objs.size<=b)(hn:H' b=none):lV X Qa H' b:=by
 refine{hn,D2 (Bi I.lt hb),I.nofs hb,.inr (DK I.sz hb),λx c e z=>?_,λp hp z=>?_}
 ·let⟨v,q⟩:=I.cell x c e;exact AH (Bi q.lt (by rw[z];exact hb)) (CM _)
 ·exact AH (Bi (Av (I.pin p hp).1) (by rw[z];exact hb)) (CM _)
structure wo (P:Program)(w:World)(K:AP)(tg:Expr)(J:It)(fp:Tf)(it:Addr)(tn:Nat->Heap->Prop):Prop where
 mem:it∈fp
 obj:∀i h,tn i h->∀b∈fp,∃o,h.get? b=some o/\∀v,o.data≠.cell v
 keep:∀i h h',tn i h->(∀b∈fp,∀o,h.get? b=some o->h'.get? b=some o)->tn i h'
 item:∀(X:Cx),X.prog=P->X.w=w->X.K=K->X.calm=true->∀(i:Nat) (Qa:Tc) (s:Shared) (Y:St) (H:Hp) (E:Tb),ay X Qa Y H s->(∀b∈fp,lV X Qa H b)->tn i s.heap->J.go i H ->
  wpAny (model P w) X.A (pyNext (.ref it)) (λr s1=>∃u,r=some u /\
   wpAny (model P w) X.A (letOwnedTupleGo tg (.ref it) u) (λ_ s2=>∃x H',ay X Qa Y H' s2/\aT x u/\J.yld i H x H'/\tn (i+1) s2.heap/\∀b∈fp,H' b=none) E s1) E s
 done:∀(X:Cx),X.prog=P->X.w=w->X.K=K->X.calm=true->∀(i:Nat) (Qa:Tc) (s:Shared) (Y:St) (H:Hp) (E:Tb),ay X Qa Y H s->(∀b∈fp,lV X Qa H b)->tn i s.heap->J.stop i H ->
  wpAny (model P w) X.A (pyNext (.ref it)) (λr s1=>r=none/\ay X Qa Y H s1) E s
 self:∀(A:Around) (i:Nat) (s:Shared) (Q:Tb) (E:Tb),tn i s.heap->Q (.ref it) s->wpAny (model P w) A (pyIter (.ref it)) Q E s
abbrev TI:=St->Hp->(It->Hp->Prop)->Prop
def P8 (X:Cx)(Qa:Tc)(Y:St)(tg:AU)(R:It->Hp->Prop)(itv:A2)(s2:A1):Prop :=
 ∃(it:A3) (fp:Tf) (tn:Nat->AD->Prop) (J:It) (H':Hp),itv=.ref it/\ay X Qa Y H' s2/\wo X.prog X.w X.K tg J fp it tn/\tn 0 s2.heap/\(∀b∈fp,lV X Qa H' b)/\R J H'
def PI (X:Cx)(tg iter:AU)(wi:TI):Prop :=
 ∀(Qa:Tc) (s:A1) (Y:St) (H:Hp) (R:It->Hp->Prop),ay X Qa Y H s->wi Y H R ->
  wpAny (model X.prog X.w) X.A (eval iter X.env) (λv s1=>wpAny (model X.prog X.w) X.A (pyIter v) (P8 X Qa Y tg R) X.xe s1) X.xe s
def BX {M : Model} {A : AE} {E : Tb} {s : A1} {tg : AU} {it : A3} {u : A2} {o : As} {n : String} {vs : Ti} {Q : Unit -> A1 -> Prop} (ho : s.heap.get? it = some o) (hc : o.cls = .type n) (hd : o.data = .fields vs)
    (hn : ["enumerate", "zip", "dict_itemiterator", "dict_reverseitemiterator", "odict_iterator", "itertools.zip_longest", "itertools.pairwise"].contains n = false) (hQ : Q () s) : wpAny M A (letOwnedTupleGo tg (.ref it) u) Q E s := by
  unfold letOwnedTupleGo
  cases tg <;> first
    | exact AJ hQ
    | (cases u <;> first
        | exact AJ hQ
        | (refine AA (wpAny_load ho ?_)
           rw[hc, hd]
           show wpAny M A (if (["enumerate", "zip", "dict_itemiterator", "dict_reverseitemiterator", "odict_iterator", "itertools.zip_longest", "itertools.pairwise"].contains n&&vs[0]? == some (rawInt _)) = true then _ else _) Q E s
           rw[A6 (by intro h; rw[hn, Bool.false_and] at h; cases h)]
           exact AJ hQ))
def O6 (K:AP)(a:A3):It :=
 {λi H=>∃xs x,j6 K H a xs/\xs[i]?=some x,λi H x H'=>H'=H/\∀xs,j6 K H a xs->xs[i]?=some x,λi H=>∃xs,j6 K H a xs/\xs.length<=i}
def O5 (K:AP)(a:A3):It :=
 {λi H=>∃xs x,gp K H a xs/\xs[i]?=some x,λi H x H'=>H'=H/\∀xs,gp K H a xs->xs[i]?=some x,λi H=>∃xs,gp K H a xs/\xs.length<=i}
def Nz (lo:Int)(n:Nat):It:={λi _=>i<n,λi H x H'=>H'=H/\x=.int (lo+i),λi _=>n<=i}
def yd {K:AP}{tg:AU}(a it:A3):wo P w K tg (O6 K a) [it] it (λi h=>h.IsListIter it a i) where
 mem:=by simp
 obj:=λi h st b hb=>by
  have e:b=it:=by simpa using hb
  subst e;let⟨o,e,c,d⟩:=st;exact{o,e,λv z=>by rw[d] at z;cases z}
 keep:=λi h h' st k=>st.at λo e=>k it ∅ o e
 item:=by intro X hP hw hK hc i Qa s Y H E I hf st hg;subst hP hw hK;let⟨xs,x,hq,hx⟩:=hg;let⟨its,rv,p,hz⟩:=I.list hq;let⟨u,hu,ru⟩:=rv.get hx;let⟨f0,f1,f2,f3,f4,f5⟩:=hf it ∅;refine wpAny_pyNext_list_item st p.isList (x:=u) ‹hu› λh' CC sb=>?_;have I1:ay X Qa Y H {s with heap:=h'}:=I.turned (t':=s.toks) (λb o hb e=>(sb.2 b hb).trans e) f0 f1 f3 f4 f5;let⟨o,e,c,d⟩:=id CC;exact{u,rfl,BX (s:={s with heap:=h'}) e c d ∅ {x,H,I1,ru,{rfl,λys hy=>by rw[I.list_inj hy hq];exact hx},CC,λb hb=>(hf b hb).1}}
 done:=by intro X hP hw hK hc i Qa s Y H E I hf st hg;subst hP hw hK;let⟨xs,hq,hx⟩:=hg;let⟨its,rv,p,hz⟩:=I.list hq;let⟨f0,f1,f2,f3,f4,f5⟩:=hf it ∅;have hl:=rv.length;exact wpAny_pyNext_list_end (I.ok.hd hc) st p.isList (by simp;omega) λh' eb=>{rfl,I.turned (t':=s.toks) (λb o hb e=>eb b o hb e) f0 f1 f3 f4 f5}
 self:=λ_ _ _ _ _ st h=>wpAny_pyIter_listiter st h
def u6 {K:AP}{tg:AU}(a it:A3):wo P w K tg (O5 K a) [it] it (λi h=>h.IsTupleIter it a i) where
 mem:=by simp
 obj:=λi h st b hb=>by
  have e:b=it:=by simpa using hb
  subst e;let⟨o,e,c,d⟩:=st;exact{o,e,λv z=>by rw[d] at z;cases z}
 keep:=λi h h' st k=>st.at λo e=>k it ∅ o e
 item:=by intro X hP hw hK hc i Qa s Y H E I hf st hg;subst hP hw hK;let⟨xs,x,hq,hx⟩:=hg;let⟨its,rv,p,hz⟩:=I.tuple hq;let⟨u,hu,ru⟩:=rv.get hx;let⟨f0,f1,f2,f3,f4,f5⟩:=hf it ∅;refine wpAny_pyNext_tuple_item st (show s.heap.IsTuple a its.toArray from p) (x:=u) ‹hu› λh' CC sb=>?_;have I1:ay X Qa Y H {s with heap:=h'}:=I.turned (t':=s.toks) (λb o hb e=>(sb.2 b hb).trans e) f0 f1 f3 f4 f5;let⟨o,e,c,d⟩:=id CC;exact{u,rfl,BX (s:={s with heap:=h'}) e c d ∅ {x,H,I1,ru,{rfl,λys hy=>by rw[I.tuple_inj hy hq];exact hx},CC,λb hb=>(hf b hb).1}}
 done:=by intro X hP hw hK hc i Qa s Y H E I hf st hg;subst hP hw hK;let⟨xs,hq,hx⟩:=hg;let⟨its,rv,p,hz⟩:=I.tuple hq;let⟨f0,f1,f2,f3,f4,f5⟩:=hf it ∅;have hl:=rv.length;exact wpAny_pyNext_tuple_end (I.ok.hd hc) st (show s.heap.IsTuple a its.toArray from p) (by simp;omega) λh' eb=>{rfl,I.turned (t':=s.toks) (λb o hb e=>eb b o hb e) f0 f1 f3 f4 f5}
 self:=λ_ _ _ _ _ st h=>wpAny_pyIter_tupleiter st h
def u7 {w:AF}{K:AP}{tg:AU}(it:A3)(lo:Int)(n:Nat):wo P w K tg (Nz lo n) [it] it (λi h=>IsRangeIter h it (lo+(i:Nat)*1) ((n:Int)-(i:Nat)) 1) where
 mem:=by simp
 obj:=λi h st b hb=>by
  have e:b=it:=by simpa using hb
  subst e;exact{_,st,λv z=>by
   have z':Data.fields _=Data.cell v:=z
   cases z'}
 keep:=λi h h' st k=>k it ∅ _ st
 item:=by intro X hP hw hK hc i Qa s Y H E I hf st hg;subst hP hw hK;obtain⟨f0,f1,f2,f3,f4,f5⟩:=hf it ∅;have W:=Walks.range (prog:=X.prog) (w:=X.w) (I.ok.hd hc) it lo 1 n;refine W.item i s _ _ hg st λv h' tk hv CC kk=>?_;obtain⟨t,rfl⟩:=hv;have I1:ay X Qa Y H {s with heap:=h',toks:=tk}:=I.turned (λb o hb e=>kk b o ‹hb› e) f0 f1 f3 f4 f5;refine{_,rfl,BX (s:={s with heap:=h',toks:=tk}) (n:="range_iterator") CC rfl rfl ∅ {.int (lo+i),H,I1,{t,?_},{rfl,rfl},CC,λb hb=>(hf b hb).1}};rw[Int.mul_one]
 done:=by intro X hP hw hK hc i Qa s Y H E I hf st hg;subst hP hw hK;let⟨f0,f1,f2,f3,f4,f5⟩:=hf it ∅;exact wpAny_pyNext_range_end (I.ok.hd hc) st (by have:n<=i:=hg;omega) λh' eb=>{rfl,I.turned (t':=s.toks) (λb o hb e=>eb b o hb e) f0 f1 f3 f4 f5}
 self:=λ_ _ _ _ _ st h=>wpAny_pyIter_rangeiter st h
section
variable {X:Cx}{tg:AU}
def JAs {H:Hp}{s:A1}{R:It->Hp->Prop}{E:Tb}{lo hi:Int}{t u v:Tok}{tk:Nat}(I:ay X Qa Y H s)(h1 : -(2 ^ 62)<=lo)(h2:lo<2 ^ 62)(h3 : -(2 ^ 62)<=hi)(h4:hi<2 ^ 62)
  (q:R (Nz lo (hi-lo).toNat) H):wpAny (model X.prog X.w) X.A (pyIter (.ref s.heap.objs.size)) (P8 X Qa Y tg R) E {s with heap:=s.heap.push {cls:=.type "range",data:=.fields #[.int lo t,.int hi u,.int 1 v]},toks:=tk}:=by
 refine wpAny_pyIter_range (IsRange.new ..) (small_one h1 h2 h3 h4) ?_;have I1:ay X Qa Y H {s with heap:=s.heap.push {cls:=.type "range",data:=.fields #[.int lo t,.int hi u,.int 1 v]},toks:=tk}:=I.kept λb o e=>Am _ e
 refine{(s.heap.push {cls:=.type "range",data:=.fields #[.int lo t,.int hi u,.int 1 v]}).objs.size,[(s.heap.push {cls:=.type "range",data:=.fields #[.int lo t,.int hi u,.int 1 v]}).objs.size],_,_,H,rfl,
  I1.kept (t':=tk) λb o e=>Am _ e,u7 _ lo (hi-lo).toNat,?_,λb hb=>?_,q}
 ·have e1:lo+((0:Nat):Int)*1=lo:=by simp
  have e2:(((hi-lo).toNat:Nat):Int)-((0:Nat):Int)=Builtin.Range.rangeSize lo hi 1:=by rw[rangeSize_one];split <;> omega
  show IsRangeIter _ _ (lo+((0:Nat):Int)*1) ((((hi-lo).toNat:Nat):Int)-((0:Nat):Int)) 1
  rw[e1,e2];exact BI _ rfl
 ·have e:b=(s.heap.push {cls:=.type "range",data:=.fields #[.int lo t,.int hi u,.int 1 v]}).objs.size:=by simpa using hb
  subst e;exact I1.fpOk (Ao _) (I1.hok.fresh (Ao _))
def Gv (ta:TA):TI:=λY H R=>ta Y H λvs H1=>∃j:Int,vs=[.int j]/\-(2 ^ 62)<=j/\j<2 ^ 62/\R (Nz 0 j.toNat) H1
theorem yx {a:AU}{ta:TA}{p pos:Pos}(hg:Gl X "range")(hm:X.mg "range" = none)(ha:PA X [a] ta)(hs:starEach [a] X.env=[(false,eval a X.env)]:=by rfl):PI X tg (.Call (.Name "range" p) [a] [] pos) (Gv ta):=by
 intro Qa s Y H R I h;refine Call_ (vP I hg hm boot_range (PyProof.Rows.callWith_type1 (cV (ha pos Qa s Y H _ I h) λus s1 hh=>?_) hs rfl));let⟨vs,H1,I1,r1,q1⟩:=hh;let⟨j,e,q1,q2,q⟩:=q1;subst e
 cases r1 with
 |cons r rr=>
  cases rr;let⟨t,rfl⟩:=r;exact call_range_1 (JAs I1 ∅ ∅ q1 q2 ‹q›)
def Ha (wi:TI)(g:TG)(tb:TS):TS:=λD Y H=>wi Y H λJ H1=>∃W:Nat->Nat->St->Hp->Prop,(∃m,W 0 m Y H1)/\∀i m Y H,W i m Y H ->
 (J.stop i H/\D.nx Y H)\/(J.go i H/\∃N:St->Hp->Prop,(∀Y' H',N Y' H'->∃m',m'<m/\W (i+1) m' Y' H')/\∀x H',J.yld i H x H'->g x Y H' λY2 H2=>tb {D with nx:=N,ct:=N,bk:=D.nx} Y2 H2)
noncomputable def kN (fp:Tf)(h:AD):Tc:=fp.filterMap λb=>(h.get? b).map λo=>(b,o)
def eJ {fp:Tf}{h:AD}{b:A3}{o:As}(hb:b∈fp)(e:h.get? b=some o):(b,o)∈kN fp h:=List.mem_filterMap.mpr {b,hb,by rw[e];rfl}
theorem qm {fp:Tf}{h:AD}{p:A3×As}(hp:p∈kN fp h):p.1∈fp/\h.get? p.1=some p.2:=by
 let⟨b,hb,e⟩:=List.mem_filterMap.mp hp
 cases q:h.get? b with
 |none=>rw[q] at e;cases e
 |some o=>
  rw[q] at e;have e':(b,o)=p:=Option.some.inj e;subst e';exact{hb,q}
def ay.pinned {H:Hp}{s:A1}{fp:Tf}(I:ay X Qa Y H s)(hf:∀b∈fp,lV X Qa H b)(ho:∀b∈fp,∃o,s.heap.get? b=some o/\∀v,o.data≠.cell v):ay X (Qa++kN fp s.heap) Y H s :=
 I.pins_of λp hp=>(DI.mp hp).elim (λz=>I.pin p (Cv _ z)) λz=>by let⟨hb,e⟩:=qm z;let⟨f0,f1,f2,_⟩:=hf p.1 hb;let⟨o,e',d⟩:=ho p.1 hb;rw[e] at e';cases e';exact{e,f0,f1,f2,d}
def ay.unpinned {Qa pl:Tc}{H:Hp}{s:A1}(I:ay X (Qa++pl) Y H s):ay X Qa Y H s:=I.pins_of λp hp=>I.pin p (Cv _ (zb4 _ hp))
def A5 {iter:AU}{body:Tk}{wi:TI}{g:TG}{tb:TS}{pos:Pos}(hp:PassesOwn (model X.prog X.w) X.A X.env X.xe)(hc:X.calm=true)(hi:PI X tg iter wi)(hg:PG X tg g)(hb:nB X body tb)
  (hs:∀x,foldedSetIterable iter X.env x=pure x:=by intro _;rfl):PS X (.For tg iter body [] pos) (Ha wi g tb):=by
 intro Qa s Y H D I h;refine wpAny_For (cV (hi Qa s Y H _ I h) λv s1 h1=>cV h1 λitv s2 h2=>?_) hs;let⟨it,fp,tn,J,H2,e,I2,T,st2,f2,W,⟨m0,w0⟩,turn⟩:=h2;subst e;have stat:∀{H':Hp},(∀b∈fp,H' b=none)->∀b∈fp,lV X Qa H' b:=λhn b hb=>{hn b hb,(f2 b hb).2};refine codeAny_forLoop_any (λn s'=>∃i Y' H',ay X Qa Y' H' s'/\tn i s'.heap/\(∀b∈fp,H' b=none)/\W i n Y' H') ?_ m0 {0,Y,H2,I2,st2,λb hb=>(f2 b hb).1,w0};rintro n s3 ⟨i,Y3,H3,I3,st3,fr3,w3⟩;rcases turn i n Y3 H3 w3 with⟨stop,qn⟩|⟨go,N,hN,step⟩
 ·refine zcd hp (cV (T.done X rfl rfl rfl hc i Qa s3 Y3 H3 X.xe I3 (stat fr3) st3 stop) λr s4 hh=>?_)
  let⟨hr,I4⟩:=hh;subst hr;exact zcN {Y3,H3,I4,qn}
 ·refine zcd hp (cV (T.item X rfl rfl rfl hc i Qa s3 Y3 H3 X.xe I3 (stat fr3) st3 go) λr s4 hh=>?_)
  let⟨u,hr,h4⟩:=hh;subst hr;refine zcd hp (cV h4 λ_ s5 hh=>?_);let⟨x,H5,I5,r5,y5,HC,fr5⟩:=hh;have I5':=I5.pinned (stat fr5) (T.obj _ _ HC);refine zcd hp (cV (hg _ s5 Y3 H5 x u _ I5' r5 (step x H5 y5)) λ_ s6 hh=>?_);let⟨Y6,H6,I6,q6⟩:=hh;refine zcd hp (cV (hb _ s6 Y6 H6 _ I6 q6) λf s7 q7=>?_)
  have again:∀{Y7:St} {H7:Hp},ay X (Qa++kN fp s5.heap) Y7 H7 s7->N Y7 H7->∃m,m<n/\∃i Y' H',ay X Qa Y' H' s7/\tn i s7.heap/\(∀b∈fp,H' b=none)/\W i m Y' H':=λ{Y7 H7} I7 n7=>by
   let⟨m',hm,w7⟩:=hN Y7 H7 n7;refine{m',hm,i+1,Y7,H7,I7.unpinned,T.keep _ _ _ HC λb hb o e=>(I7.pin (b,o) (Cv _ (Cv _ (eJ hb e)))).1,λb hb=>?_,w7};let⟨o,e,d⟩:=T.obj _ _ HC b hb;exact(I7.pin (b,o) (Cv _ (Cv _ (eJ hb e)))).2.1
  cases f with
  |next=>let⟨Y7,H7,I7,n7⟩:=q7;exact again I7 n7
  |cont=>let⟨Y7,H7,I7,n7⟩:=q7;exact again I7 n7
  |brk=>let⟨Y7,H7,I7,q7⟩:=q7;exact{Y7,H7,I7.unpinned,q7}
  |ret v=>let⟨x7,Y7,H7,I7,r7,q7⟩:=q7;exact{x7,Y7,H7,I7.unpinned,r7,q7}
end
abbrev R2:=V->V->Hp->VK->Prop
def jO (X:Cx)(f:A2->A2->Sem A2)(r:R2):Prop :=
 ∀(Qa:Tc) (s:A1) (Y:St) (H:Hp) (x y:V) (v u:A2) (Q:VK),ay X Qa Y H s->aT x v->aT y u->r x y H Q ->
  wpAny (model X.prog X.w) X.A (f v u) (EP X Qa Y Q) X.xe s
def O0 (X:Cx)(f:A2->Sem A2)(r:V->Hp->VK->Prop):Prop :=
 ∀(Qa:Tc) (s:A1) (Y:St) (H:Hp) (x:V) (v:A2) (Q:VK),ay X Qa Y H s->aT x v->r x H Q ->
  wpAny (model X.prog X.w) X.A (f v) (EP X Qa Y Q) X.xe s
def ik (X:Cx)(f:A2)(r:P4 V->Hp->VK->Prop):Prop :=
 ∀(Qa:Tc) (s:A1) (Y:St) (H:Hp) (xs:P4 V) (us:Te) (Q:VK),ay X Qa Y H s->aS xs us->r xs H Q ->
  wpAny (model X.prog X.w) X.A (call f us) (EP X Qa Y Q) X.xe s
def O1z (X:Cx)(r:V->Hp->(A7->Hp->Prop)->Prop):Prop :=
 ∀(Qa:Tc) (s:A1) (Y:St) (H:Hp) (x:V) (v:A2) (Q:A7->Hp->Prop),ay X Qa Y H s->aT x v->r x H Q ->
  wpAny (model X.prog X.w) X.A (truthy v) (TP X Qa Y Q) X.xe s
def G9 (r:R2)(ta tb:TE):TE:=λY H Q=>ta Y H λx H1=>tb Y H1 λy H2=>r x y H2 Q
def Pp (r:V->Hp->VK->Prop)(ta:TE):TE:=λY H Q=>ta Y H λx H1=>r x H1 Q
def rI (C:Int->Int->Prop)(g:Int->Int->V):R2:=λx y H Q=>∃i j,x=.int i/\y=.int j/\C i j/\Q (g i j) H
def yq (g:Int->Int->V):R2:=λx y H Q=>∃i j,x=.int i/\y=.int j/\Q (g i j) H
def rU (g:Int->V):V->Hp->VK->Prop:=λx H Q=>∃i,x=.int i/\Q (g i) H
section
variable {X:Cx}{a b:AU}{ta tb:TE}{pos:Pos}
def ET (ha:PE X a ta)(hb:PE X b tb){s:A1}{H:Hp}{R:V->V->Hp->Prop}(I:ay X Qa Y H s)
  (h:ta Y H λx H1=>tb Y H1 λy H2=>R x y H2) {Q:Tb} {f:A2->A2->Sem A2}
  (hf:∀v u s2 x y H2,ay X Qa Y H2 s2->aT x v->aT y u->R x y H2->wpAny (model X.prog X.w) X.A (f v u) Q X.xe s2) :
  wpAny (model X.prog X.w) X.A (eval a X.env) (λv s₁=>wpAny (model X.prog X.w) X.A (eval b X.env) (λu s₂=>wpAny (model X.prog X.w) X.A (f v u) Q X.xe s₂) X.xe s₁) X.xe s:=by
 refine cV (ha Qa s Y H _ I h) λv s1 hh=>?_;let⟨x,H1,I1,r1,q1⟩:=hh;refine cV (hb Qa s1 Y H1 _ I1 q1) λu s2 hh=>?_;let⟨y,H2,I2,r2,q2⟩:=hh;exact hf v u s2 x y H2 I2 r1 r2 q2
def oF {op:Operator}{r:R2}(ho:jO X (binaryOp op) r)(ha:PE X a ta)(hb:PE X b tb):PE X (.BinOp a op b pos) (G9 r ta tb):=by intro Qa s Y H Q I h;exact wpAny_BinOp (ET ha hb I h λv u s2 x y H2 I2 rx ry q=>ho Qa s2 Y H2 x y v u Q I2 rx ry q)
def Lx {op:UnaryOp}{r:V->Hp->VK->Prop}(ho:O0 X (unaryOp op) r)(ha:PE X a ta):PE X (.UnaryOp op a pos) (Pp r ta):=by intro Qa s Y H Q I h;exact UnaryOp_ (cV (ha Qa s Y H _ I h) λv s1 ⟨x,H1,I1,r1,q1⟩=>ho Qa s1 Y H1 x v Q I1 r1 q1)
def MM {f:A2->A2->Sem A2}{C:Int->Int->Prop}{g:Int->Int->Int}
  (rule:∀(i j:Int) (t u:Tok) (s:A1) (Q:Tb) (E:Tb),C i j->Q (.int (g i j) s.toks) {s with toks:=s.toks+1}->wpAny (model X.prog X.w) X.A (f (.int i t) (.int j u)) Q E s) :
  jO X f (rI C λi j=>.int (g i j)):=by
 intro Qa s Y H x y v u Q I rx ry h;let⟨i,j,rfl,rfl,hc,q⟩:=h;let⟨t,rfl⟩:=rx;let⟨t',rfl⟩:=ry;exact rule i j t t' s _ _ hc {.int (g i j),H,I.tok _,{_,rfl},q}
def LF {f:A2->A2->Sem A2}{g:Int->Int->Int}
  (rule:∀(i j:Int) (t u:Tok) (s:A1) (Q:Tb) (E:Tb),Q (.int (g i j) s.toks) {s with toks:=s.toks+1}->wpAny (model X.prog X.w) X.A (f (.int i t) (.int j u)) Q E s) :
  jO X f (yq λi j=>.int (g i j)):=by
 intro Qa s Y H x y v u Q I rx ry h;let⟨i,j,rfl,rfl,q⟩:=h;let⟨t,rfl⟩:=rx;let⟨t',rfl⟩:=ry;exact rule i j t t' s _ _ {.int (g i j),H,I.tok _,{_,rfl},q}
def IM {f:A2->A2->Sem A2}{g:Int->Int->A7}
  (rule:∀(i j:Int) (t u:Tok) (s:A1) (Q:Tb) (E:Tb),Q (.bool (g i j)) s->wpAny (model X.prog X.w) X.A (f (.int i t) (.int j u)) Q E s) :
  jO X f (yq λi j=>.bl (g i j)):=by
 intro Qa s Y H x y v u Q I rx ry h;let⟨i,j,rfl,rfl,q⟩:=h;let⟨t,rfl⟩:=rx;let⟨t',rfl⟩:=ry;exact rule i j t t' s _ _ {.bl (g i j),H,I,rfl,q}
def JR (i j:Int):Prop:=0<j/\j<1073741824
def JQ (i j:Int):Prop:=0<=j/\j<=1000000/\i.natAbs<2 ^ 64
def CV (i j:Int):Prop:=(-(2 ^ 64)<i/\i<2 ^ 64)\/(-(2 ^ 64)<j/\j<2 ^ 64)
def CV.ok {i j:Int}(h:CV i j):IntMulOk i j:=by
 rcases h with⟨h1,h2⟩|⟨h1,h2⟩
 ·exact .of_left (intBits_le_64 h1 h2)
 ·exact .of_right (intBits_le_64 h1 h2)
def JGn:jO X (binaryOp .Add) (yq λi j=>.int (i+j)):=LF λ_ _ _ _ _ _ _ q=>add_int q
def JGg:jO X (binaryOp .Sub) (yq λi j=>.int (i-j)):=LF λ_ _ _ _ _ _ _ q=>sub_int q
def JGi:jO X (binaryOp .Mult) (rI CV λi j=>.int (i*j)):=MM λ_ _ _ _ _ _ _ hc q=>mul_int q hc.ok
def JCq:jO X (binaryOp .FloorDiv) (rI JR λi j=>.int (i / j)):=MM λi j _ _ _ _ _ hc q=>by have h1:(0:Int)<j:=hc.1;have h2:j<1073741824:=hc.2;exact floordiv_int ∅ (by rw[Int.fdiv_eq_ediv_of_nonneg i ∅];exact q) (.inl (PyProof.noPylong_small ∅))
def JGj:jO X (binaryOp .Mod) (rI (λ_ j=>0<j) λi j=>.int (i%j)):=MM λi j _ _ _ _ _ hc q=>by have h1:(0:Int)<j:=hc;exact mod_int' ∅ (by rw[Int.fmod_eq_emod_of_nonneg i ∅];exact q)
def JGh:jO X (binaryOp .Pow) (rI JQ λi j=>.int (i ^ j.toNat)):=MM λ_ _ _ _ _ _ _ hc q=>pow_int_small hc.1 hc.2.1 hc.2.2 q
def Qi {f:A2->Sem A2}{g:Int->Int}
  (rule:∀(i:Int) (t:Tok) (s:A1) (Q:Tb) (E:Tb),Q (.int (g i) s.toks) {s with toks:=s.toks+1}->wpAny (model X.prog X.w) X.A (f (.int i t)) Q E s) :
  O0 X f (rU λi=>.int (g i)):=by
 intro Qa s Y H x v Q I rx h;let⟨i,rfl,q⟩:=h;let⟨t,rfl⟩:=rx;exact rule i t s _ _ {.int (g i),H,I.tok _,{_,rfl},q}
def JE0:O0 X (unaryOp .USub) (rU λi=>.int (-i)):=Qi λ_ _ _ _ _ q=>neg_int q
end
section
variable {X:Cx}{a b c:AU}{ta tb:TE}{pos:Pos}
def B2 {H:Hp}{s:A1}{Q:VK}{k k':A7}(I:ay X Qa Y H s)(q:Q (.bl k) H)(e:k=k'):EP X Qa Y Q (.bool k') s:=by subst e;exact{.bl k,H,I,rfl,q}
def LB:jO X (compareOp .Lt) (yq λi j=>.bl (decide (i<j))):=IM λ_ _ _ _ _ _ _ q=>lt_int q
def LC:jO X (compareOp .LtE) (yq λi j=>.bl (decide (i<=j))):=IM λ_ _ _ _ _ _ _ q=>le_int q
def LD:jO X (compareOp .Gt) (yq λi j=>.bl (decide (j<i))):=IM λ_ _ _ _ _ _ _ q=>gt_int q
def JGk:jO X (compareOp .Is) (λx y H Q=>y=.non/\Q (.bl (decide (x=.non))) H):=by
 intro Qa s Y H x y v u Q I rx ry h;let⟨rfl,q⟩:=h;cases ry;refine is_none_gen (B2 I q ?_)
 cases x <;> first
  |(cases rx;rfl)
  |(let⟨t,rfl⟩:=rx;rfl)
def JDk:jO X (compareOp .IsNot) (λx y H Q=>y=.non/\Q (.bl (!decide (x=.non))) H):=by
 intro Qa s Y H x y v u Q I rx ry h;let⟨rfl,q⟩:=h;cases ry;refine isnot_none_gen (B2 I q ?_)
 cases x <;> first
  |(cases rx;rfl)
  |(let⟨t,rfl⟩:=rx;rfl)
def jO.or {f:A2->A2->Sem A2}{r r':R2}(h:jO X f r)(h':jO X f r'):jO X f (λx y H Q=>r x y H Q\/r' x y H Q):=by
 intro Qa s Y H x y v u Q I rx ry q;rcases q with q|q
 ·exact h Qa s Y H x y v u Q I rx ry q
 ·exact h' Qa s Y H x y v u Q I rx ry q
def fm (b:AU){op:CmpOp}(h:op≠.In:=by decide)(h2:op≠.NotIn:=by decide):behindInMarks op b=false:=by
 have e1:(op == CmpOp.In)=false:=by cases op <;> first|rfl|exact AH rfl h
 have e2:(op == CmpOp.NotIn)=false:=by cases op <;> first|rfl|exact AH rfl h2
 cases b <;> simp[behindInMarks,e1,e2]
def rE {op:CmpOp}{r:R2}(ho:jO X (compareOp op) r)(ha:PE X a ta)(hb:PE X b tb)(hm:behindInMarks op b=false):PE X (.Compare a [op] [b] pos) (G9 r ta tb):=by intro Qa s Y H Q I h;exact wpAny_Compare1 (ET ha hb I h λv u s2 x y H2 I2 rx ry q=>ho Qa s2 Y H2 x y v u Q I2 rx ry q) hm
def FN (t:TE):TT:=λY H Q=>t Y H λx H'=>∃k,x=.bl k/\Q k H'
def xc {op:CmpOp}{r:R2}(ho:jO X (compareOp op) r)(ha:PE X a ta)(hb:PE X b tb)(hm:behindInMarks op b=false):PT X (.Compare a [op] [b] pos) (FN (G9 r ta tb)):=by intro Qa s Y H Q I h;refine wpAny_isTrue_Compare1 (cV (ha Qa s Y H _ I h) λv s1 hh=>?_) hm;let⟨x,H1,I1,r1,q1⟩:=hh;refine cV (hb Qa s1 Y H1 _ I1 q1) λu s2 hh=>?_;let⟨y,H2,I2,r2,q2⟩:=hh;refine cV (ho Qa s2 Y H2 x y v u _ I2 r1 r2 q2) λc s3 hh=>?_;let⟨z,H3,I3,r3,k,e,q3⟩:=hh;subst e;cases r3;exact zbZ {H3,I3,q3}
def E1 (K:AP)(x:V)(H:Hp)(k:A7):Prop :=
 match x with
 |.non=>k=false
 |.bl b=>k=b
 |.int i=>k=(i != 0)
 |.str y=>y.length<=sizeLine/\k=((y.length:Int) != 0)
 |.byt y=>y.size<=sizeLine/\k=((y.size:Int) != 0)
 |.ref p=>(∃xs,j6 K H p xs/\k = !xs.isEmpty)\/(∃xs,gp K H p xs/\k = !xs.isEmpty)\/∃A4,H p=some (.dK A4)/\k = !A4.isEmpty
 |_=>False
def vX {κ:Type}{A4:P4 (κ×V)}{vs:P4 (κ×A2)}(r:KV A4 vs):(!vs.isEmpty) = !A4.isEmpty:=by cases r <;> rfl
def oS {xs:P4 V}{its:Te}(r:aS xs its):(!its.toArray.isEmpty) = !xs.isEmpty:=by cases r <;> simp
def kO:(sizeLine:Nat)<2 ^ 63:=by rw[DJ];decide
theorem vc:O1z X (λx H Q=>∃k,E1 X.K x H k/\Q k H):=by
 intro Qa s Y H x v Q I rx h;let⟨k,e,q⟩:=h;have hl:=kO;have hs:sizeLine=16777216:=DJ
 cases x with
 |non=>
  cases rx;have e':k=false:=e;subst e';exact truthy_none {H,I,q}
 |bl b=>
  cases rx;have e':k=b:=e;subst e';exact zbZ {H,I,q}
 |int i=>
  let⟨t,rfl⟩:=rx;have e':k=(i != 0):=e;subst e';exact PySem.P.truthy_int {H,I,q}
 |str y=>
  let⟨t,rfl⟩:=rx;obtain⟨hy,e'⟩:y.length<=sizeLine/\k=((y.length:Int) != 0):=e;subst e';exact PySem.P.truthy_str ∅ {H,I.tok _,q}
 |byt y=>
  let⟨t,rfl⟩:=rx;obtain⟨hy,e'⟩:y.size<=sizeLine/\k=((y.size:Int) != 0):=e;subst e';exact PySem.W.truthy_bytes ∅ {H,I.tok _,q}
 |ref p=>
  cases rx;have e':(∃xs,j6 X.K H p xs/\k = !xs.isEmpty)\/(∃xs,gp X.K H p xs/\k = !xs.isEmpty)\/∃A4,H p=some (.dK A4)/\k = !A4.isEmpty:=e;rcases e' with⟨xs,hx,e'⟩|⟨xs,hx,e'⟩|⟨A4,hx,e'⟩
  ·subst e';let⟨its,r,pl,hz⟩:=I.list hx;have hlen:=r.length;exact wpAny_truthy_list pl.isList (by rwa[Ba];omega) {H,I.tok _,by rw[oS r];exact q}
  ·subst e';let⟨its,r,pl,hz⟩:=I.tuple hx;have hlen:=r.length;exact truthy_tuple pl (by rwa[Ba];omega) {H,I.tok _,by rw[oS r];exact q}
  ·subst e';obtain⟨hz,hS,vs,r,m⟩:A4.length<=sizeLine/\(p == sysModules)=false/\∃vs,KV A4 vs/\s.heap.DictOf (bo X.prog X.w) p vs:=I.hok p _ hx;have hlen:A4.length=vs.length:=Paired.length r;exact wpAny_truthy_dict hS m ∅ {H,I.tok _,by rw[vX r];exact q}
 |_=>exact(show False from e).elim
def JAf (ha:PE X a ta)(he:∀whole,isTrue a X.env whole=(do let v ←whole;standAt a.pos;holding [v] (truthy v))) :
  PT X a (λY H Q=>ta Y H λx H'=>∃k,E1 X.K x H' k/\Q k H'):=by
 intro Qa s Y H Q I h;exact isTrue_plain (cV (ha Qa s Y H _ I h) λv s1 ⟨x,H1,I1,r1,q1⟩=>vc Qa s1 Y H1 x v Q I1 r1 q1) (he _)
def vF:jO X (binaryOp .Add) (λx y H Q=>∃i j,x=.str i/\y=.str j/\i.length+j.length<=sizeLine/\Q (.str (i++j)) H):=by intro Qa s Y H x y v u Q I rx ry h;let⟨i,j,rfl,rfl,hz,q⟩:=h;let⟨t,rfl⟩:=rx;let⟨t',rfl⟩:=ry;exact add_str (λt' tk=>{.str (i++j),H,I.tok _,{_,rfl},q}) hz
def uQ (b:AU):Prop:=∀o i,subscripted b false o i=operate [o,i] (getItem o i)
def tR (ha:PE X a ta)(hb:PE X b tb)(hs:uQ b) :
  PE X (.Subscript a b pos) (G9 (λx y H Q=>∃z i c,x=.str z/\y=.int i/\0<=i/\i<2 ^ 63/\i<z.length/\z.cps[i.toNat]?=some c/\Q (.str ⟨#[c]⟩) H) ta tb):=by
 intro Qa s Y H Q I h;refine Subscript_ (ET ha hb I h λv u s2 x y H2 I2 rx ry q=>?_);let⟨z,i,c,rfl,rfl,h0,h63,h1,hc,q⟩:=q;let⟨t,rfl⟩:=rx;let⟨t',rfl⟩:=ry;have e:seqIndex? i z.length=some i.toNat:=PySem.StrLaws.seqIndex_nonneg h0 h1
 exact tail_any (typeIs_str s2 z t) slot_str_getitem.lookup (getItem_str (c:=c) (by
  have e1:decide (i < -(2 ^ 63:Int))=false:=Bz ∅;have e2:decide (i >= 2 ^ 63)=false:=Bz ∅
  rw[e1,e2] <;> rfl) (by rw[e];exact hc) {.str ⟨#[c]⟩,H2,I2.tok _,{_,rfl},q}) (hs _ _)
theorem i5 {x:V}{us:Te}(r:aS [x] us):∃u,us=[u]/\aT x u:=by
 cases r with
 |cons r1 r2=>cases r2;exact{_,rfl,r1}
end
structure wt (h:Heap)(x dx C:Addr)(mA:Td):Prop where
 obj:h.get? x=some (PySem.W.instObj C dx)
 ns:h.Ns1 dx mA
 ne:dx≠x
def yH {h:AD}{dx:A3}{mA:Td}(n:h.Ns1 dx mA):∃od,h.get? dx=some od/\∀name,PySem.W.lookIn name od=some (mA name):=by
 let⟨o,es,ep,ho,hd,hk,_,hm⟩:=n;refine{o,ho,λname=>?_};have e:=hm name;unfold nsFind findBy at e;rw[←Array.find?_toList] at e;unfold PySem.W.lookIn;rw[hd];dsimp only;split
 ·rename_i y q;rw[q] at e;exact AI some e
 ·rename_i q;rw[q] at e;have a:es.toList.any (·.refKey)=false:=by rw[List.any_eq_false];intro y hy;let⟨z,t,Bo⟩:=hk y (Array.mem_toList_iff.mp hy);simp[DictEntry.refKey,Bo]
  have a':¬ es.toList.any (·.refKey)=true:=by rw[a];exact EK
  rw[A6 a'];exact AI some e
def wt.look {h:AD}{x dx C:A3}{mA:Td}(I:wt h x dx C mA):∃od,PySem.W.InstAt h x (PySem.W.instObj C dx) C (some od)/\∀name,PySem.W.lookIn name od=some (mA name) :=
 let ⟨od,ho,hl⟩:=yH I.ns
 {od,{I.obj,rfl,rfl,ho},hl}
section
variable {prog:A9}{w:AF}{A:AE}{E:Tb}{s:A1}{K:AP}{x dx C f:A3}{mA:Td}{name:Str}{v:A2}
def JEv {expr:A7}{Q:Tb}(X:K.In s.heap)(I:wt s.heap x dx C mA)(hg:PySem.W.plainGet K C name=true)(hh:PySem.W.hasDictIn K C=true)
  (ha:PySem.W.findIn K (.ref C) name=some none) (hv:mA name=some v) (hv':PySem.W.handedIn v=true) (h:Q v {s with toks:=s.toks+1}) :
  wpAny (model prog w) A (getAttr (.ref x) name expr) Q E s:=by
 let⟨od,J,hl⟩:=I.look;exact PySem.W.get_value X J (zcB hg).1 (PySem.W.findObj_own hh ha rfl (by rw[hl,hv])) hv' h
def JBk {pl:Sem A7}{Q:A2×P4 A2->A1->Prop}(X:K.In s.heap)(I:wt s.heap x dx C mA)(hg:PySem.W.plainGet K C name=true)
  (hf:PySem.W.findIn K (.ref C) name=some (some (.ref f))) (ht:PySem.W.isFn K (.ref f)=true) (hv:mA name=none) (h:Q (.ref f,[.ref x]) s) :
  wpAny (model prog w) A (getMethod (.ref x) name pl) Q E s:=by
 let⟨od,J,hl⟩:=I.look;exact PySem.W.method_fn X J (zcB hg).1 (zcB hg).2 hf (beq_iff_eq.mp ht) (by show(PySem.W.lookIn name od).map (·.isSome)=some false;rw[hl,hv];rfl) h
def JDt {ns:Tn}{Q:Unit->A1->Prop}(X:K.In s.heap)(I:wt s.heap x dx C mA)
  (hs:PySem.W.findIn K (.ref C) "__setattr__" = some (some (.builtin "object.__setattr__"))) (hp:PySem.W.plainOver K C=true) (ht:PySem.W.takerIn K C name=some none) (hh:PySem.W.hasDictIn K C=true)
  (hw:PySem.Within mA ns) (hsz:ns.length<=sizeLine)
  (h:∀h',wt h' x dx C (λy=>if y=name then some v else mA y)->Heap.SameBut dx s.heap h'->Q () {s with heap:=h',toks:=s.toks+2}) :
  wpAny (model prog w) A (setAttr (.ref x) name v) Q E s:=by
 let⟨od,J,hl⟩:=I.look;refine PySem.W.set_plain X J hs (PySem.W.osa_open (s:={s with toks:=s.toks+1}) (r:=none) X J hp ht λb=>?_);let⟨cd,hc,hd'⟩:=PySem.W.any_some hh;have hx:s.heap.get? x=some {.ref C,some dx,.plain,#[]}:=I.obj;refine AA (AJ (AA (AA (wpAny_loadPart hx (AA (PySem.W.Looks.here (s:={s with toks:=s.toks+1}) (PySem.W.looks_clsIn X hc) ?_))))));rw[hd'];refine AJ (a:=some dx) (AA (AJ (AA ?_)));refine wpAny_nsSet1 (s:={s with toks:=s.toks+1}) I.ns λh' hn2 hs2=>?_;let⟨oD,esD,epD,hoD,hdD,hcD⟩:=hn2.count (PySem.Within.cons name v hw);refine AA (wpAny_lookBehind hoD (by rw[hdD];exact pastItsLine_dict (DK hcD (by rw[C3];omega))) ?_);exact AJ (h _ {(hs2.2 _ (Ne.symm I.ne)).trans I.obj,hn2,I.ne} hs2)
def JBa {R:Result->A1->Prop}{vs:Te}{kw:P4 (Str×A2)}(X:K.In s.heap)(hm:PySem.W.makesIn K C=true)
  (hi:PySem.W.findIn K (.ref C) "__init__" = some (some (.ref f))) (hf:PySem.W.typeIn K (.ref f)=some (.type "function"))
  (h:codeAny (model prog w) (A.under (.builtin "type.__call__" {.ref C::vs,kw})) (.call (.ref f) {.ref (s.heap.objs.size+1)::vs,kw}) (PySem.W.InitBack (s.heap.objs.size+1) R)
   {s with heap:=(s.heap.push PySem.W.emptyDict).push (PySem.W.instObj C s.heap.objs.size)}) :
  codeAny (model prog w) A (.call (.ref C) {vs,kw}) R s:=by
 let⟨hh,g,d,t,os⟩:=s;exact PySem.W.make_core (PySem.W.makes_of X hm) (PySem.W.looks_findIn X hi) (λself=>PySem.W.bind_fn X self hf) (.inl rfl) h
end
noncomputable def iD (f:Str)(v:V):P4 (Str×V)->P4 (Str×V)
 |[]=>[(f,v)]
 |(g,x)::r=>if g=f then (g,v)::r else (g,x)::iD f v r
theorem mU (f g:Str)(v:V):∀fs:P4 (Str×V),(iD f v fs).lookup g=if g=f then some v else fs.lookup g
 |[]=>by
  show List.lookup g [(f,v)]=_
  by_cases h:g=f
  ·have hb:(g == f)=true:=beq_iff_eq.mpr h;rwa[List.lookup,hb,A8 h]
  ·have hb:(g == f)=false:=beq_eq_false_iff_ne.mpr h;rwa[List.lookup,hb,A6 h]
 |(k,x)::r=>by
  have ih:=mU f g v r;rw[show iD f v ((k,x)::r)=(if k=f then (k,v)::r else (k,x)::iD f v r) from rfl];by_cases hk:k=f
  ·rw[A8 hk];by_cases h:g=k
   ·have hb:(g == k)=true:=beq_iff_eq.mpr h;rwa[List.lookup,hb,A8 (h.trans hk)]
   ·have hb:(g == k)=false:=beq_eq_false_iff_ne.mpr h;rwa[List.lookup,hb,A6 (λe:g=f=>h (e.trans hk.symm))]
  ·rw[A6 hk];by_cases h:g=k
   ·have hb:(g == k)=true:=beq_iff_eq.mpr h;rwa[List.lookup,hb,A6 (λe:g=f=>hk (h.symm.trans e))]
   ·have hb:(g == k)=false:=beq_eq_false_iff_ne.mpr h;rwa[List.lookup,hb];exact ih
theorem mv (f:Str)(v:V):∀fs:P4 (Str×V),f∈(iD f v fs).map (·.1)/\∀g,g∈fs.map (·.1)->g∈(iD f v fs).map (·.1)
 |[]=>{by simp[iD],λg h=>by simp at h}
 |(k,x)::r=>by
  let⟨i1,i2⟩:=mv f v r;rw[show iD f v ((k,x)::r)=(if k=f then (k,v)::r else (k,x)::iD f v r) from rfl];by_cases hk:k=f
  ·rw[A8 hk];subst hk;exact{by simp,λg h=>by simpa using h}
  ·rw[A6 hk];refine{?_,λg h=>?_}
   ·rw[Ak];exact BR _ i1
   ·rw[Ak] at h ⊢;rcases Ax.mp h with e|e
    ·exact Ax.mpr (.inl e)
    ·exact BR _ (i2 g e)
theorem mV (f:Str)(v:V):∀fs:P4 (Str×V),(iD f v fs).length<=fs.length+1
 |[]=>by simp[iD]
 |(k,x)::r=>by
  have ih:=mV f v r;rw[show iD f v ((k,x)::r)=(if k=f then (k,v)::r else (k,x)::iD f v r) from rfl];by_cases hk:k=f
  ·rw[A8 hk,C3,C3];omega
  ·rw[A6 hk,C3,C3];omega
theorem kj.some_of {v:V}{o:Tg}(r:kj (some v) o):∃u,o=some u/\aT v u:=by
 cases o with
 |none=>exact(show False from r).elim
 |some u=>exact{u,rfl,r}
theorem kj.none_of {o:Tg}(r:kj none o):o=none:=by
 cases o with
 |none=>rfl
 |some u=>exact(show False from r).elim
theorem yW {v:V}{u:A2}(r:aT v u):PySem.W.handedIn u=true:=by
 cases v with
 |non=>cases(show u=Value.none from r);rfl
 |bl b=>cases(show u=Value.bool b from r);rfl
 |int i=>let⟨t,e⟩:=(show ∃t,u=Value.int i t from r);cases e;rfl
 |str x=>let⟨t,e⟩:=(show ∃t,u=Value.str x t from r);cases e;rfl
 |byt b=>let⟨t,e⟩:=(show ∃t,u=Value.bytes b t from r);cases e;rfl
 |flt b=>let⟨t,e⟩:=(show ∃t,u=Value.float b t from r);cases e;rfl
 |ref a=>cases(show u=Value.ref a from r);rfl
 |ty n=>cases(show u=Value.type n from r);rfl
section
variable {P:A9}{w:AF}{H:Hp}{h:AD}{a C dx:A3}{fs:P4 (Str×V)}
def rR (hok:fH P w H h)(e:H a=some (.ins C dx fs)):∃mA,wt h a dx C mA/\(∀f,kj (fs.lookup f) (mA f))/\PySem.Within mA (fs.map (·.1))/\fs.length<=1000/\H dx=some (.own a):=by let⟨d,z,ne,ob,mA,n,r,q⟩:=(show br P w H h a (.ins C dx fs) from hok a _ e);exact{mA,{ob,n,ne},r,q,z,d}
end
structure C2 (K:AP)(C:Addr):Prop where
 pg:PySem.W.plainGet K C Str.empty=true
 hd:PySem.W.hasDictIn K C=true
 po:PySem.W.plainOver K C=true
 sa:PySem.W.findIn K (.ref C) "__setattr__" = some (some (.builtin "object.__setattr__"))
def C2.get {K:AP}{C:A3}(c:C2 K C)(f:Str):PySem.W.plainGet K C f=true:=c.pg
def eP (K:AP)(C:A3)(f:Str):Prop:=PySem.W.findIn K (.ref C) f=some none
def eP.taker {K:AP}{C:A3}{f:Str}(n:eP K C f):PySem.W.takerIn K C f=some none:=by unfold PySem.W.takerIn;rw[show PySem.W.findIn K (.ref C) f=some none from n];rfl
structure CQ (K:AP)(C:Addr)(m:Str)(f:Addr):Prop where
 at_:PySem.W.findIn K (.ref C) m=some (some (.ref f))
 fn:PySem.W.isFn K (.ref f)=true
 kp:PySem.W.keepIn K (.ref f)=true
section
variable {X:Cx}{Qa:Tc}{Y:St}{H:Hp}{s:A1}{a C dx:A3}{fs:P4 (Str×V)}{f:Str}{v:V}{A:AE}{E:Tb}
def vZ {b:A7}{Q:Tb}(I:ay X Qa Y H s)(e:H a=some (.ins C dx fs))(c:C2 X.K C)(n:eP X.K C f)(l:fs.lookup f=some v)
  (h:∀u s',ay X Qa Y H s'->aT v u->Q u s'):wpAny (model X.prog X.w) A (getAttr (.ref a) f b) Q E s:=by
 let⟨mA,Ozz,r,_,_,_⟩:=rR I.hok e;let⟨u,hu,ru⟩:=kj.some_of (v:=v) (o:=mA f) (by rw[←l];exact r f);exact JEv I.kIn Ozz (c.get f) c.hd n hu (yW ru) (h u _ (I.tok _) ru)
def oU {m:Str}{g:A3}{pl:Sem A7}{Q:A2×P4 A2->A1->Prop}(I:ay X Qa Y H s)(e:H a=some (.ins C dx fs))(c:C2 X.K C)(k:CQ X.K C m g)(l:fs.lookup m=none)
  (h:Q (.ref g,[.ref a]) s):wpAny (model X.prog X.w) A (getMethod (.ref a) m pl) Q E s:=by
 let⟨mA,Ozz,r,_,_,_⟩:=rR I.hok e;have hn:mA m=none:=kj.none_of (by rw[←l];exact r m);exact JBk I.kIn Ozz (c.get m) k.at_ k.fn hn h
def vj {y:V}{u:A2}{Q:Unit->A1->Prop}(I:ay X Qa Y H s)(e:H a=some (.ins C dx fs))(c:C2 X.K C)(n:eP X.K C f)(hl:fs.length<1000)(ry:aT y u)
  (h:∀s',ay X Qa Y (upd H a (.ins C dx (iD f y fs))) s'->Q () s'):wpAny (model X.prog X.w) A (setAttr (.ref a) f u) Q E s:=by
 let⟨mA,Ozz,r,wi,_,ho⟩:=rR I.hok e
 have hz:(fs.map (·.1)).length<=sizeLine:=by rw[Ay,DJ];omega
 refine JDt I.kIn Ozz c.sa c.po n.taker c.hd wi hz λh' O'z sb=>h _ ?_;have hd:∃o,h'.get? dx=some o:=let ⟨o,_,_,e',_⟩:=O'z.ns;{o,e'};refine I.write (x:=a) (e:=dx) (by rw[e];exact True.intro) (.inr ho) (λb q hb z=>(sb.2 b hb).trans z) hd ?_;refine{by rw[aq Ozz.ne];exact ho,?_,Ozz.ne,O'z.obj,_,O'z.ns,λg=>?_,λg hg=>?_}
 ·have:=mV f y fs;omega
 ·show kj ((iD f y fs).lookup g) (if g=f then some u else mA g)
  rw[mU]
  by_cases q:g=f
  ·rw[A8 q,A8 q];exact ry
  ·rw[A6 q,A6 q];exact r g
 ·by_cases q:g=f
  ·rw[q];exact(mv f y fs).1
  ·refine(mv f y fs).2 g (wi g λz=>hg ?_)
   show(if g=f then some u else mA g)=none
   rw[A6 q];exact z
def ay.made (I:ay X Qa Y H s):ay X Qa Y (upd (upd H s.heap.objs.size (.own (s.heap.objs.size+1))) (s.heap.objs.size+1) (.ins C s.heap.objs.size []))
  {s with heap:=(s.heap.push PySem.W.emptyDict).push (PySem.W.instObj C s.heap.objs.size)}:=by
 have e1:(s.heap.push PySem.W.emptyDict).get? s.heap.objs.size=some PySem.W.emptyDict:=BI s.heap rfl
 have e2:((s.heap.push PySem.W.emptyDict).push (PySem.W.instObj C s.heap.objs.size)).get? (s.heap.objs.size+1)=some (PySem.W.instObj C s.heap.objs.size):=by
  have:=BI (s.heap.push PySem.W.emptyDict) (o:=PySem.W.instObj C s.heap.objs.size) rfl
  (rw[DZ] at this;assumption)
 have e3:(s.heap.push PySem.W.emptyDict).Ns s.heap.objs.size (λ_=>none):={PySem.W.emptyDict,#[],_,e1,rfl,(λe he=>AH he ∅),λ_=>rfl};have I1:=I.laid (a:=s.heap.objs.size) (o:=.own (s.heap.objs.size+1)) (h':=s.heap.push PySem.W.emptyDict) (t':=s.toks) (λb u q=>Am _ q) (Ao _) {_,e1};refine I1.laid (a:=s.heap.objs.size+1) (o:=.ins C s.heap.objs.size []) (t':=s.toks) (λb u q=>Am _ q) (Nat.le_of_eq (DZ _ _)) ?_;have ne:s.heap.objs.size≠s.heap.objs.size+1:=BE (zbO _);refine{by rw[aq ne,aP],DH _,ne,e2,λ_=>none,(Heap.Ns1.of_empty e3).at λo q=>Am _ q,λ_=>True.intro,λy hy=>AH rfl hy}
def JEg {prog:A9}{w:AF}{env:Env}{e:AU}{f:Str}{pos:Pos}{s:A1}{Q:Tb}(hb:attributeBase e f env (eval e env)=eval e env)
  (h:wpAny (model prog w) A (eval e env) (λo s₁=>wpAny (model prog w) A (getAttr o f true) Q E s₁) E s):wpAny (model prog w) A (eval (.Attribute e f pos) env) Q E s :=
 Attribute_any_ h (by rw[arm_eval_Attribute,hb])
end
def KM (K:AP)(ta:TE)(f:Str):TE:=λY H Q=>ta Y H λx H1=>∃a C dx fs v,x=.ref a/\H1 a=some (.ins C dx fs)/\C2 K C/\eP K C f/\fs.lookup f=some v/\Q v H1
def K1 (K:AP)(ta tv:TE)(f:Str):TS:=λD Y H=>tv Y H λy H1=>ta Y H1 λx H2=>∃a C dx fs,x=.ref a/\H2 a=some (.ins C dx fs)/\C2 K C/\eP K C f/\fs.length<1000 /\
 D.nx Y (upd H2 a (.ins C dx (iD f y fs)))
section
variable {X:Cx}{o e value:AU}{f:Str}{pos pos':Pos}{ta tv:TE}
def JGe (he:PE X e ta)(hb:attributeBase e f X.env (eval e X.env)=eval e X.env):PE X (.Attribute e f pos) (KM X.K ta f):=by intro Qa s Y H Q I h;refine JEg hb (cV (he Qa s Y H _ I h) λu s1 hh=>?_);let⟨x,H1,I1,rx,a,C,dx,fs,v,ex,ea,c,n,l,q⟩:=hh;subst ex;obtain rfl:u=Value.ref a:=rx;exact vZ I1 ea c n l λu' s2 I2 ru=>{v,H1,I2,ru,q}
def Io (ha:PE X o ta)(hv:PE X value tv)(hs:swapsWith value (some (.Attribute o f pos')) pos.line X.env=pure false):PS X (.Assign [.Attribute o f pos'] value pos) (K1 X.K ta tv f):=by intro Qa s Y H D I h;refine plainObj_wpAny_Assign_Attribute (cV (hv Qa s Y H _ I h) λu s1 hh=>?_) hs;let⟨y,H1,I1,ry,q⟩:=hh;refine cV (ha Qa s1 Y H1 _ I1 q) λov s2 hh=>?_;let⟨x,H2,I2,rx,a,C,dx,fs,ex,ea,c,n,l,q2⟩:=hh;subst ex;obtain rfl:ov=Value.ref a:=rx;exact vj I2 ea c n l ry λs3 I3=>{Y,_,I3,q2}
end
structure bv (k:Nat)(A:Around):Prop where
 hd:A.handled=none
 dp:A.depth+3*k+5<recursionLimit
 un:A.units+16*k+200<cLine
def bv.mono {j k:Nat}(r:bv k A)(h:j<=k):bv j A:={r.hd,by have:=r.dp;omega,by have:=r.un;omega}
def bv.deeper {k:Nat}{A:AE}(r:bv (k+1) A)(env:Env):bv k (A.deeper env) :=
 {r.hd,by have:=r.dp;show A.depth+1+3*k+5<_;omega,by have:=r.un;show A.units+3+16*k+200<_;omega}
def vN {A:AE}{C:A3}{us:Te}{kw:P4 (Str×A2)}:(A.under (.builtin "type.__call__" {.ref C::us,kw})).depth=A.depth+1:=by first|rfl|simp[Around.under,Code.weight,Code.isCreation,Code.isGuard,Code.isCaller,Code.frames,Code.isFrame,guardIds]
def vM {A:AE}{C:A3}{us:Te}{kw:P4 (Str×A2)}:(A.under (.builtin "type.__call__" {.ref C::us,kw})).units=A.units+1:=by first|rfl|simp[Around.under,Code.cUnits,Code.frames,Code.isFrame]
def bv.make {k:Nat}{A:AE}(r:bv (k+1) A)(C:A3)(us:Te)(kw:P4 (Str×A2)):bv k (A.under (.builtin "type.__call__" {.ref C::us,kw})) :=
 {r.hd,by have:=r.dp;rw[vN];omega,by have:=r.un;rw[vM];omega}
def bv.depth {k:Nat}{A:AE}(r:bv k A):A.depth<recursionLimit:=by have:=r.dp;omega
def bv.units {k:Nat}{A:AE}(r:bv k A):A.units+64<cLine:=by have:=r.un;omega
def Dc:TA:=λ_ H Q=>Q [] H
def z7 (ta:TE)(tr:TA):TA:=λY H Q=>ta Y H λx H1=>tr Y H1 λxs H2=>Q (x::xs) H2
section
variable {X:Cx}{e:AU}{es:Tj}{te:TE}{t:TA}{pos:Pos}
def Bj:PA X [] Dc:=λ_ _ _ _ H Q I h=>Calls.spliced_nil {[],H,I,.nil,h}
def xj (ha:PE X e te)(hr:PA X es t)(hs:starEach (e::es) X.env=(false,eval e X.env)::starEach es X.env:=by rfl):PA X (e::es) (z7 te t):=by
 intro pos Qa s Y H Q I h;rw[hs]
 show wpAny _ _ (spliced ((false,eval e X.env)::backTo pos (starEach es X.env))) _ _ s
 refine Calls.spliced_cons (cV (ha Qa s Y H _ I h) λu s1 hh=>?_);let⟨x,H1,I1,r1,q1⟩:=hh;exact cV (hr pos Qa s1 Y H1 _ I1 q1) λus s2 ⟨xs,H2,I2,r2,q2⟩=>{x::xs,H2,I2,.cons r1 r2,q2}
def KF (t:TA):TE:=λY H Q=>t Y H λxs H1=>xs.length<=sizeLine/\∀p,H1 p=none->Q (.ref p) (upd H1 p (.tup xs))
def KJ (t:TA):TE:=λY H Q=>t Y H λxs H1=>xs.length<=sizeLine/\∀p,H1 p=none->Q (.ref p) (upd H1 p (.lst xs))
def Iv {x1}(h:PA X es t):PE X (.Tuple es x1 pos) (KF t):=by intro Qa s Y H Q I hq;refine wpAny_Tuple_spliced (cV (h pos Qa s Y H _ I hq) λus s1 hh=>?_);let⟨xs,H1,I1,r,z,q⟩:=hh;refine{by rw[←r.length];exact z,?_};have hf:H1 s1.heap.objs.size=none:=I1.hok.fresh (Ao _);refine{.ref s1.heap.objs.size,upd H1 s1.heap.objs.size (.tup xs),I1.laid (t':=s1.toks) (λb u e=>Am _ e) (Ao _) ?_,rfl,q _ hf};exact{z,us,r,i4.new _ _}
def Iz (h:PA X es t):PE X (.List es pos) (KJ t):=by intro Qa s Y H Q I hq;refine wpAny_List_spliced (cV (h pos Qa s Y H _ I hq) λus s1 hh=>?_);let⟨xs,H1,I1,r,z,q⟩:=hh;refine{by rw[←r.length];exact z,?_};have hf:H1 s1.heap.objs.size=none:=I1.hok.fresh (Ao _);refine{.ref s1.heap.objs.size,upd H1 s1.heap.objs.size (.lst xs),I1.laid (t':=s1.toks) (λb u e=>Am _ e) (Ao _) ?_,rfl,q _ hf};exact{z,us,0,r,BI _ rfl}
end
abbrev Sp:=P4 V->Hp->VK->XK->Prop
abbrev xX:=P4 Env->Hp->A1->XK->Tb
structure wu (P:Program)(w:World)(K:AP)(mg:Td)(base:Heap)(A:Around)(outer:List Env)(s:Shared)(H:Hp):Prop where
 frames:A.frames=some outer
 mod:Mod K mg base
 bs:∀b o,base.get? b=some o->s.heap.get? b=some o/\H b=none
 bsz:base.objs.size<=s.heap.objs.size
 funs:s.heap.FunFrames base outer
 frf:∀b∈y0 outer,H b=none
 hok:fH P w H s.heap
 bare:AllBare s.gens
def CE (outer:P4 Env)(P:A9)(w:AF)(H:Hp)(s:A1)(Q:VK)(u:A2)(s':A1):Prop :=
 ∃v H',s'.os=s.os/\AllBare s'.gens/\Un (y0 outer) [] H H' s.heap s'.heap/\fH P w H' s'.heap/\aT v u/\Q v H'
def JCe (CX:xX)(outer:P4 Env)(P:A9)(w:AF)(H:Hp)(s:A1)(Q:VK)(E:XK)(r:Result)(s':A1):Prop :=
 match r with
 |.ok (.ret u)=>CE outer P w H s Q u s'
 |.ok _=>False
 |.error e=>CX outer H s E e s'
structure b9 (P:Program)(w:World)(K:AP)(mg:Td)(base:Heap)(CX:xX)(k:Nat)(f:Addr)(fd:FuncData)(ps:Tn)(sp:Sp):Prop where
 len:∀vs H Q E,sp vs H Q E->vs.length=ps.length
 run:∀(A:Around) (outer:List Env) (s:Shared) (H:Hp) (args:Args) (us:Te) (vs:List V) (Q:VK) (E:XK),bv k A->wu P w K mg base A outer s H->BindsTo s fd args (ps.zip us)->aS vs us->sp vs H Q E ->
  codeAny (model P w) A (.call (.ref f) args) (JCe CX outer P w H s Q E) s
def b9.imp {P:A9}{w:AF}{K:AP}{mg:Td}{base:AD}{CX:xX}{k:Nat}{f:A3}{fd:FuncData}{ps:Tn}{sp sp':Sp}(F:b9 P w K mg base CX k f fd ps sp)
  (h:∀vs H Q E,sp' vs H Q E->sp vs H Q E):b9 P w K mg base CX k f fd ps sp' :=
 {λvs H Q E q=>F.len vs H Q E (h _ _ _ _ q),λA outer s H args us vs Q E hr he hb hv hs=>F.run A outer s H args us vs Q E hr he hb hv (h _ _ _ _ hs)}
def wu.make {K:AP}{mg:Td}{base:AD}{outer:P4 Env}{s:A1}{H:Hp}(e:wu P w K mg base A outer s H)(C:A3)(us:Te)(kw:P4 (Str×A2)) :
  wu P w K mg base (A.under (.builtin "type.__call__" {.ref C::us,kw})) outer s H:={by first|exact e.frames|(simpa[Around.under,Code.envs,Code.isFrame,pushEnvs] using e.frames),e.mod,e.bs,e.bsz,e.funs,e.frf,e.hok,e.bare}
section
variable {X:Cx}{Qa:Tc}{Y:St}{H:Hp}{s s':A1}
def ay.env0 (I:ay X Qa Y H s):wu X.prog X.w X.K X.mg X.base X.A X.stack s H :=
 {I.ok.frames,I.ok.mod,I.bs,DK I.ok.bsz I.sz,I.stack,I.stkFree,I.hok,I.bare}
def ay.after {Q:VK}{u:A2}(I:ay X Qa Y H s)(h:CE X.stack X.prog X.w H s Q u s'):EP X Qa Y Q u s':=by let⟨v,H',os,bare,un,hok,r,q⟩:=h;let⟨hh,g,d,t,Hz⟩:=s';obtain rfl:Hz=s.os:=os;exact{v,H',I.call (h':=hh) (g':=g) (d':=d) (t':=t) (ch:=[]) un hok bare (λb z=>AH z ∅),r,q}
end
def sU (sp:Sp)(CJ:P4 V)(E:XK)(t:TA):TE:=λY H Q=>t Y H λvs H1=>sp (vs++CJ) H1 Q E
def zX (C:A3)(m:Str)(sp:Sp)(CJ:P4 V)(E:XK)(ta:TE)(t:TA):TE:=λY H Q=>ta Y H λx H1=>∃a dx fs,x=.ref a/\H1 a=some (.ins C dx fs)/\fs.lookup m=none /\
 t Y H1 λvs H2=>sp (x::(vs++CJ)) H2 Q E
def FV (C:A3)(sp:Sp)(CJ:P4 V)(E:XK)(t:TA):TE:=λY H Q=>t Y H λvs H1=>∀x dx,H1 x=none->H1 dx=none->dx≠x ->
 sp (.ref x::(vs++CJ)) (upd (upd H1 dx (.own x)) x (.ins C dx [])) (λv H2=>v=.non/\Q (.ref x) H2) E
def fj (K:AP)(fd:FuncData)(ps:Tn)(ds:Te):Prop :=
 ∀(s:A1) (us:Te),K.In s.heap->(us++ds).length=ps.length->BindsTo s fd {us,[]} (ps.zip (us++ds))
def fj.all {K:AP}{ps:Tn}(h:∀us:Te,us.length=ps.length->bindArgs fd {us,[]}=pure (ps.zip us)):fj K fd ps []:=λs us _ hl=>by rw[Cg] at hl ⊢;exact .of_eq (h us hl)
def k9 (CX:xX)(X:Cx)(E:XK):Prop:=∀(Qa:Tc) (Y:St) (H:Hp) (s:A1) (e:A2) (s':A1),ay X Qa Y H s->CX X.stack H s E e s'->X.xe e s'
section
variable {X:Cx}{CX:xX}{k:Nat}{f C:A3}{fd:FuncData}{ps:Tn}{sp:Sp}{CJ:P4 V}{ds:Te}{E:XK}{x m:Str}{p pos apos:Pos}{e o:AU}{es:Tj}{ta:TE}{t:TA}
theorem vw {Qa:Tc}{Y:St}{H:Hp}{s:A1}{Q:VK}{us:Te}{vs:P4 V}(F:b9 X.prog X.w X.K X.mg X.base CX k f fd ps sp)(hr:bv k X.A)(hb:fj X.K fd ps ds)(hd:aS CJ ds)(hx:k9 CX X E)
  (I:ay X Qa Y H s) (r:aS vs us) (h:sp (vs++CJ) H Q E):wpAny (model X.prog X.w) X.A (call (.ref f) us) (EP X Qa Y Q) X.xe s:=by
 have r2:aS (vs++CJ) (us++ds):=r.append hd
 have hl:(us++ds).length=ps.length:=by rw[←r2.length];exact F.len _ _ _ _ h
 refine wpAny_call (Ej (F.run X.A X.stack s H {us,[]} (us++ds) (vs++CJ) Q E hr I.env0 (hb s us I.kIn hl) r2 h) λr s' hq=>?_)
 cases r with
 |error e=>exact hx Qa Y H s e s' I hq
 |ok fl=>
  cases fl with
  |ret u=>exact I.after hq
  |next=>exact False.elim hq
  |brk=>exact False.elim hq
  |cont=>exact False.elim hq
def nH (F:b9 X.prog X.w X.K X.mg X.base CX k f fd ps sp)(hr:bv k X.A)(hg:Gl X x)(hm:X.mg x=some (.ref f))(hk:PySem.W.keepIn X.K (.ref f)=true)(hb:fj X.K fd ps ds)(hd:aS CJ ds)(hx:k9 CX X E)
  (ha:PA X (e::es) t) (Be:(x == ("__debug__" : Str))=false:=by decide) (he:starEach (e::es) X.env=(false,eval e X.env)::starEach es X.env:=by rfl) (hpl:(backTo pos (starEach es X.env)).any (·.1)=false:=by rfl) :
  PE X (.Call (.Name x p) (e::es) [] pos) (sU sp CJ E t):=by
 intro Qa s Y H Q I h;refine zcg (rH I hg hm ?_ Be);refine zcE (h₀:=X.base) I.ok.mod.kin hk (cV (ha pos Qa s Y H _ I h) λus s1 hh=>?_) he hpl;let⟨vs,H1,I1,r,q⟩:=hh;refine{I1.kIn,?_};exact vw F hr hb hd hx I1 r q
def JDd {pl:Sem A7}(he:PE X o ta)(c:C2 X.K C)(hm:CQ X.K C m f)(F:b9 X.prog X.w X.K X.mg X.base CX k f fd ps sp)(hr:bv k X.A)(hb:fj X.K fd ps ds)(hd:aS CJ ds)(hx:k9 CX X E)(ha:PA X (e::es) t)
  (D7:starEach (e::es) X.env=(false,eval e X.env)::starEach es X.env:=by rfl) (hpl:(backTo pos (starEach es X.env)).any (·.1)=false:=by rfl)
  (ht:eval (.Call (.Attribute o m apos) (e::es) [] pos) X.env=(do
   let ov ←eval o X.env
   standAt apos.atName
   let (f,first) ←holding [ov] (getMethod ov m pl)
   callWith pos f first (backTo pos (starEach (e::es) X.env)) (backToKw pos (keywordEach [] X.env))):=by rfl) :
  PE X (.Call (.Attribute o m apos) (e::es) [] pos) (zX C m sp CJ E ta t):=by
 intro Qa s Y H Q I h;refine PySem.W.methodCall_KW (pl:=pl) (cV (he Qa s Y H _ I h) λu s1 hh=>?_) ht;let⟨x,H1,I1,rx,a,dx,fs,ex,ea,l,q⟩:=hh;subst ex;obtain rfl:u=Value.ref a:=rx;refine oU I1 ea c hm l ?_;refine zcE (first:=[.ref a]) (h₀:=X.base) I.ok.mod.kin hm.kp (cV (ha pos Qa s1 Y H1 _ I1 q) λus s2 hh=>?_) D7 hpl;let⟨vs,H2,I2,r,q2⟩:=hh;refine{I2.kIn,?_};exact vw (us:=.ref a::us) (vs:=.ref a::vs) F hr hb hd hx I2 (.cons rfl r) q2
def JBq {pl:Sem A7}(he:PE X o ta)(c:C2 X.K C)(hm:CQ X.K C m f)(F:b9 X.prog X.w X.K X.mg X.base CX k f fd ps sp)(hr:bv k X.A)(hb:fj X.K fd ps ds)(hd:aS CJ ds)(hx:k9 CX X E)
  (ht:eval (.Call (.Attribute o m apos) [] [] pos) X.env=(do
   let ov ←eval o X.env
   standAt apos.atName
   let (f,first) ←holding [ov] (getMethod ov m pl)
   callWith pos f first (backTo pos (starEach [] X.env)) (backToKw pos (keywordEach [] X.env))):=by rfl) :
  PE X (.Call (.Attribute o m apos) [] [] pos) (zX C m sp CJ E ta Dc):=by
 intro Qa s Y H Q I h;refine PySem.W.methodCall_KW (pl:=pl) (cV (he Qa s Y H _ I h) λu s1 hh=>?_) ht;let⟨x,H1,I1,rx,a,dx,fs,ex,ea,l,q⟩:=hh;subst ex;obtain rfl:u=Value.ref a:=rx;refine oU I1 ea c hm l ?_;exact PySem.W.callWith_K0 (first:=[.ref a]) I1.kIn hm.kp (vw (us:=[.ref a]) (vs:=[.ref a]) F hr hb hd hx I1 (.cons rfl .nil) q)
structure Mk (K:AP)(C f:Addr):Prop where
 makes:PySem.W.makesIn K C=true
 init:PySem.W.findIn K (.ref C) "__init__" = some (some (.ref f))
 fn:PySem.W.isFn K (.ref f)=true
 kp:PySem.W.keepIn K (.ref C)=true
theorem JA4 {Qa:Tc}{Y:St}{H:Hp}{s:A1}{Q:VK}{us:Te}{vs:P4 V}(M:Mk X.K C f)(F:b9 X.prog X.w X.K X.mg X.base CX k f fd ps sp)(hr:bv (k+1) X.A)(hb:fj X.K fd ps ds)(hd:aS CJ ds)
  (hx:k9 CX X E) (I:ay X Qa Y H s) (r:aS vs us)
  (h:∀x dx,H x=none->H dx=none->dx≠x->sp (.ref x::(vs++CJ)) (upd (upd H dx (.own x)) x (.ins C dx [])) (λv H2=>v=.non/\Q (.ref x) H2) E) :
  wpAny (model X.prog X.w) X.A (call (.ref C) us) (EP X Qa Y Q) X.xe s:=by
 have hq:=h (s.heap.objs.size+1) s.heap.objs.size (I.hok.fresh (HA _)) (I.hok.fresh (Ao _)) (BE (zbO _));have I2:=ay.made (C:=C) I;have r2:aS (V.ref (s.heap.objs.size+1)::(vs++CJ)) (Value.ref (s.heap.objs.size+1)::(us++ds)):=.cons rfl (r.append hd)
 have hl:(Value.ref (s.heap.objs.size+1)::us++ds).length=ps.length:=by
  have e:=r2.length;rw[F.len _ _ _ _ hq] at e;exact e.symm
 refine wpAny_call (JBa (f:=f) I.kIn M.makes M.init (beq_iff_eq.mp M.fn) (Ej (F.run _ X.stack _ _ {Value.ref (s.heap.objs.size+1)::us,[]} (Value.ref (s.heap.objs.size+1)::(us++ds)) _ _ E (hr.make C us [])
  (I2.env0.make C us []) (hb _ (Value.ref (s.heap.objs.size+1)::us) I2.kIn hl) r2 hq) λr s' Ho=>?_))
 cases r with
 |error e=>exact hx Qa Y _ _ e s' I2 Ho
 |ok fl=>
  cases fl with
  |ret u=>
   let⟨v,H',I3,rv,ev,q3⟩:=I2.after Ho;subst ev;exact{rv,{V.ref (s.heap.objs.size+1),H',I3,rfl,q3}}
  |next=>exact False.elim Ho
  |brk=>exact False.elim Ho
  |cont=>exact False.elim Ho
def JDe (M:Mk X.K C f)(F:b9 X.prog X.w X.K X.mg X.base CX k f fd ps sp)(hr:bv (k+1) X.A)(hg:Gl X x)(hm:X.mg x=some (.ref C))(hb:fj X.K fd ps ds)(hd:aS CJ ds)(hx:k9 CX X E)
  (ha:PA X (e::es) t) (Be:(x == ("__debug__" : Str))=false:=by decide) (he:starEach (e::es) X.env=(false,eval e X.env)::starEach es X.env:=by rfl) (hpl:(backTo pos (starEach es X.env)).any (·.1)=false:=by rfl) :
  PE X (.Call (.Name x p) (e::es) [] pos) (FV C sp CJ E t):=by
 intro Qa s Y H Q I h;refine zcg (rH I hg hm ?_ Be);refine zcE (h₀:=X.base) I.ok.mod.kin M.kp (cV (ha pos Qa s Y H _ I h) λus s1 hh=>?_) he hpl;let⟨vs,H1,I1,r,q⟩:=hh;refine{I1.kIn,?_};exact JA4 M F hr hb hd hx I1 r q
end
structure aA (N P:Tn)(sc:Scope):Prop where
 kind:sc.kind=.function
 co:sc.isCoroutine=false
 gen:sc.isGenerator=false
 nd:N.Nodup
 pre:N.take P.length=P
 par:∀x∈P,sc.names.lookup x=some .local\/sc.names.lookup x=some .cell
 nofree:∀y∈sc.names,y.2≠.free
theorem qJ {kindOf:Str->QI NameKind}{x:Str}:∀{binds:P4 (Str×A2)} {m:Td},(∀v,(x,v)∉binds)->bindL kindOf binds m x=m x
 |[],_,_=>rfl
 |(n,v)::r,m,h=>by
  unfold bindL;rw[qJ λw hw=>h w (BR _ hw)];split
  ·have:x≠n:=by rintro rfl;exact h v BG
   simp[this]
  ·rfl
theorem qL {kindOf:Str->QI NameKind}{x:Str}:∀{binds:P4 (Str×A2)} {m:Td},(∀v,(x,v)∉binds)->bindC kindOf binds m x=m x
 |[],_,_=>rfl
 |(n,v)::r,m,h=>by
  unfold bindC;rw[qL λw hw=>h w (BR _ hw)];split
  ·rfl
  ·have:x≠n:=by rintro rfl;exact h v BG
   simp[this]
theorem qK {kindOf:Str->QI NameKind}{x:Str}{v:A2}:∀{P:Tn} {vs:Te} {i:Nat} {m:Td},P.Nodup->P[i]?=some x->vs[i]?=some v->kindOf x=some .local ->
  bindL kindOf (P.zip vs) m x=some v
 |[],_,_,_,_,h,_,_=>by simp at h
 |_::_,[],_,_,_,_,h,_=>by simp at h
 |p::P,w::vs,0,m,nd,h1,h2,hk=>by
  simp at h1 h2;subst h1;subst h2
  show bindL kindOf ((p,w)::P.zip vs) m p=_
  unfold bindL;rw[qJ λv hv=>(CR.mp nd).1 (zcO hv).1,A8 hk];simp
 |p::P,w::vs,i+1,m,nd,h1,h2,hk=>by
  show bindL kindOf ((p,w)::P.zip vs) m x=_
  unfold bindL;exact qK (i:=i) (CR.mp nd).2 ‹h1› ‹h2› hk
theorem qM {kindOf:Str->QI NameKind}{x:Str}{v:A2}:∀{P:Tn} {vs:Te} {i:Nat} {m:Td},P.Nodup->P[i]?=some x->vs[i]?=some v->kindOf x≠some .local ->
  bindC kindOf (P.zip vs) m x=some v
 |[],_,_,_,_,h,_,_=>by simp at h
 |_::_,[],_,_,_,_,h,_=>by simp at h
 |p::P,w::vs,0,m,nd,h1,h2,hk=>by
  simp at h1 h2;subst h1;subst h2
  show bindC kindOf ((p,w)::P.zip vs) m p=_
  unfold bindC;rw[qL λv hv=>(CR.mp nd).1 (zcO hv).1,A6 hk];simp
 |p::P,w::vs,i+1,m,nd,h1,h2,hk=>by
  show bindC kindOf ((p,w)::P.zip vs) m x=_
  unfold bindC;exact qM (i:=i) (CR.mp nd).2 ‹h1› ‹h2› hk
noncomputable def eW (N:Tn)(vs:P4 V):St:=vs.map some++List.replicate (N.length-vs.length) none
noncomputable def jf (CX:xX)(P:A9)(w:AF)(K:AP)(mg:Td)(base:AD)(N:Tn)(qual:Str)(scope:Scope)(f:A3)(cd:A2)(A:AE)(outer:P4 Env)(s:A1)(H:Hp)(E:XK):Cx where
 prog:=P
 w:=w
 K:=K
 mg:=mg
 base:=base
 A:=A.deeper (envOfC qual scope s.heap.objs.size f cd)
 N:=N
 s₀:=s
 H₀:=H
 env:=envOfC qual scope s.heap.objs.size f cd
 outer:=outer
 stack:=envOfC qual scope s.heap.objs.size f cd::outer
 ex:=[]
 calm:=true
 fn:=λ_=>true
 pn:=[]
 xe:=λe s'=>wpAny (model P w) (A.deeper (envOfC qual scope s.heap.objs.size f cd)) (leaving (envOfC qual scope s.heap.objs.size f cd) e) (λ_ HF=>CX outer H s E e HF) (λe' HF=>CX outer H s E e' HF) s'
def uI {sc:Scope}{n:Nat}{x:Str}(h:sc.names.lookup x=some .cell):∃c,(cellsFrom n sc.names []).lookup x=some c:=by have q:=zbW sc.names n [] (.inl h);exact zch.mp q
def yS {CX:xX}{P:A9}{w:AF}{K:AP}{mg:Td}{base:AD}{N ps:Tn}{qual:Str}{scope:Scope}{f:A3}{cd:A2}{A:AE}{outer:P4 Env}{s s1:A1}{H:Hp}{E:XK}{us:Te}{vs:P4 V}
  (S:aA N ps scope) (hd:A.handled=none) (e0:wu P w K mg base A outer s H) (hl:vs.length=ps.length) (r:aS vs us)
  (x:InCallC s s.heap.objs.size (bindL (envOfC qual scope s.heap.objs.size f cd).kindOf (ps.zip us) λ_=>none) (cellsFrom (s.heap.objs.size+1) scope.names []) (bindC (envOfC qual scope s.heap.objs.size f cd).kindOf (ps.zip us) λ_=>none) s1) :
  ay (jf CX P w K mg base N qual scope f cd A outer s H E) [] (eW N vs) H s1:=by
 have hpl:ps.length<=N.length:=by have:=AI List.length S.pre;rw[zb5] at this;omega
 let⟨h1,tk,rfl,hk⟩:=x.done;have noA:∀b:A3,b∉(jf CX P w K mg base N qual scope f cd A outer s H E).ex:=λb z=>AH (show b∈([]:Tf) from z) ∅
 refine{{e0.mod,S.kind,rfl,rfl,Ao _,λy z c h1 h2=>?_,λy hy=>?_,λy c _ h=>?_,λ_=>hd,Around.frames_deeper e0.frames,.inr {rfl,rfl},λb z=>AH z (noA b),e0.bs,e0.bsz,λb _ _=>noA b,λb z=>AH z (noA b),e0.funs,e0.frf},
  rfl,e0.bare,Un.kept hk,{_,x.toInCall.ns,λi y v h1 h2 h3=>?_},λy c h=>{_,x.cell y c h},e0.hok.fresh (Ao _),λy c h=>?_,λp hp=>AH (show p∈([]:Tc) from hp) ∅,e0.hok.kept hk,?_}
 ·exact name_of_addr x.apart (PySem.mem_of_lookup h1) (PySem.mem_of_lookup h2)
 ·have hy:scope.names.lookup y=some .cell\/scope.names.lookup y=some .free:=hy
  rcases hy with hy|hy
  ·exact uI hy
  ·exact AH rfl (S.nofree _ (PySem.mem_of_lookup hy))
 ·exact Ek (x.above y c (PySem.mem_of_lookup h))
 ·have hi:i<vs.length:=by
   unfold eW at h2
   by_cases hi:i<vs.length
   ·exact hi
   ·rw[DO ‹hi›] at h2
    rw[zbR] at h2;split at h2 <;> cases h2
  have ha:vs[i]?=some v:=by
   unfold eW at h2;rw[BY ‹hi›,Bh] at h2
   cases e:vs[i]? with
   |none=>rw[e] at h2;cases h2
   |some a=>rw[e] at h2;cases h2;rfl
  let⟨u,hu,rv⟩:=r.get ha
  have hp:ps[i]?=some y:=by
   rw[←S.pre,List.getElem?_take_of_lt ∅];exact h1
  have ndP:ps.Nodup:=by rw[←S.pre];exact S.nd.sublist (List.take_sublist _ _)
  refine{u,rv,?_};rcases S.par y (DM hp) with k|k
  ·exact .inl {k,qK ndP hp hu k}
  ·let⟨c,e⟩:=uI (n:=s.heap.objs.size+1) k
   refine .inr {.inl k,c,e,?_};have q:=x.cell y c e;rw[qM ndP hp hu (by show scope.names.lookup y≠_;rw[k];decide)] at q;exact q
 ·exact e0.hok.fresh (Ek (x.above y c (PySem.mem_of_lookup h)))
 ·unfold eW
  show _=N.length
  rw[Bb,Ay,List.length_replicate];omega
theorem Me {CX:xX}{P:A9}{w:AF}{K:AP}{mg:Td}{base:AD}{k:Nat}{f:A3}{name qual:Str}{params:Arguments}{body:Tk}{scope:Scope}{dV kV doc pm Ah ct oc:A2}{an od:QI A3}
  {Ew:AB (Tg)} {N ps:Tn} {sp:Sp} (lk:K.lookup f=some {oc,od,.func (PySem.W.fnOf name qual params body scope dV kV doc pm an Ah ct),Ew}) (Ee:PySem.W.codeIn K Ah qual=true) (S:aA N ps scope)
  (len:∀vs H Q E,sp vs H Q E->vs.length=ps.length)
  (An:∀(A:AE) (outer:P4 Env) (s:A1) (H:Hp) (vs:P4 V) (Q:VK) (E:XK),bv k (A.deeper (envOfC qual scope s.heap.objs.size f Ah))->sp vs H Q E ->
   ∃t,nB (jf CX P w K mg base N qual scope f Ah A outer s H E) body t/\t {nx:=λ_ H'=>Q .non H',rt:=Q} (eW N vs) H) :
  b9 P w K mg base CX (k+1) f (PySem.W.fnOf name qual params body scope dV kV doc pm an Ah ct) ps sp:=by
 refine{len,λA outer s H args us vs Q E hr e0 hb r Dy=>?_};have hl:=len _ _ _ _ Dy;have KX:K.In s.heap:=e0.mod.kin.keeps λb o e=>(e0.bs b o e).1;have lim:s.heap.NoLimit:=e0.mod.nolimit.keeps λb o e=>(e0.bs b o e).1
 have hkind:∀y∈ps.zip us,scope.names.lookup y.1=some .local\/(scope.names.lookup y.1=some .cell/\((cellsFrom (s.heap.objs.size+1) scope.names []).lookup y.1).isSome=true):=λ⟨n,v⟩ hy=>by
  rcases S.par n (zcO hy).1 with q|q
  ·exact .inl q
  ·exact .inr {q,zbW _ _ _ (.inl q)}
 refine codeAny_call_function hr.depth (KX _ _ lk) rfl S.co S.gen rfl (PySem.W.codeRec_of KX Ee) (hb _ _ _ _ ?_);refine wpAny_newFunctionEnv_cells S.kind hkind λenv he s1 x=>?_;subst he;refine{lim.keeps x.toInCall.keep,codeAny_func ?_};let⟨t,ht,hq⟩:=An A outer s H vs Q E (hr.deeper _) Dy;have I:ay (jf CX P w K mg base N qual scope f Ah A outer s H E) [] (eW N vs) H s1:=yS S hr.hd e0 hl r x;refine DV (ht [] s1 (eW N vs) H _ I hq) (λfl s' hs=>?_) λe s' hs=>hs
 have fin:∀{Y':St} {H':Hp} {v:V} {u:A2},ay (jf CX P w K mg base N qual scope f Ah A outer s H E) [] Y' H' s'->aT v u->Q v H'->CE outer P w H s Q u s' :=
  λ{Y' H' v u} J rv q=>{v,H',J.os,J.bare,J.base,J.hok,rv,q}
 cases fl with
 |ret u=>
  let⟨v,Y',H',J,rv,q⟩:=hs;exact fin J rv q
 |next=>
  let⟨Y',H',J,q⟩:=hs;exact fin (v:=V.non) (u:=Value.none) J rfl q
 |brk=>
  let⟨_,_,_,q⟩:=hs;exact False.elim q
 |cont=>
  let⟨_,_,_,q⟩:=hs;exact False.elim q
section
variable {X:Cx}{x:Str}{p pos:Pos}{e:AU}{es:Tj}{t:TA}{id T:String}{r:P4 V->Hp->VK->Prop}
def NH (r:P4 V->Hp->VK->Prop)(t:TA):TE:=λY H Q=>t Y H λvs H1=>r vs H1 Q
def lE (hc:ik X (.builtin id) r)(hg:Gl X x)(hm:X.mg x=none)(hv:bootBuiltins x=some (.builtin id))(ha:PA X (e::es) t)(hn:x≠"__name__":=by decide)(Be:(x == ("__debug__" : Str))=false:=by decide)
  (he:starEach (e::es) X.env=(false,eval e X.env)::starEach es X.env:=by rfl) (hpl:(backTo pos (starEach es X.env)).any (·.1)=false:=by rfl):PE X (.Call (.Name x p) (e::es) [] pos) (NH r t):=by
 intro Qa s Y H Q I h;refine zcg (vP I hg hm hv ?_ hn Be);exact PyProof.Rows.callWith_builtin1 (cV (ha pos Qa s Y H _ I h) λus s1 ⟨vs,H1,I1,r1,q1⟩=>hc Qa s1 Y H1 vs us Q I1 r1 q1) he hpl
def eG (hc:ik X (.type T) r)(hg:Gl X x)(hm:X.mg x=none)(hv:bootBuiltins x=some (.type T))(ha:PA X (e::es) t)(hn:x≠"__name__":=by decide)(Be:(x == ("__debug__" : Str))=false:=by decide)
  (he:starEach (e::es) X.env=(false,eval e X.env)::starEach es X.env:=by rfl) (hpl:(backTo pos (starEach es X.env)).any (·.1)=false:=by rfl):PE X (.Call (.Name x p) (e::es) [] pos) (NH r t):=by
 intro Qa s Y H Q I h;refine zcg (vP I hg hm hv ?_ hn Be);exact PyProof.Rows.callWith_type1 (cV (ha pos Qa s Y H _ I h) λus s1 ⟨vs,H1,I1,r1,q1⟩=>hc Qa s1 Y H1 vs us Q I1 r1 q1) he hpl
end
end L2
namespace HT
open PyProof.Rows
section
variable {prog:A9}{w:AF}{A:AE}{E:Tb}{s:A1}
def EO {t b:A3}{vs ws:Te}{Q:Tb}(ht:IsTup s.heap t vs.toArray)(hb:IsTup s.heap b ws.toArray)(hv:vs≠[])
  (h1:ws=[]->Q (.ref t) s) (h2:ws≠[]->Q (.ref s.heap.objs.size) {s with heap:=s.heap.push {cls:=.type "tuple",data:=.seq (vs++ws).toArray}})
  (hsz:vs.length+ws.length<=sizeLine):wpAny (model prog w) A (binaryOp .Add (.ref t) (.ref b)) Q E s:=by
 let⟨⟨cls,dd,data,sl⟩,ho,hc,n,hd⟩:=id ht;let⟨⟨cls2,dd2,data2,sl2⟩,G5,hc2,n2,hd2⟩:=id hb;simp only at hc hd hc2 hd2;subst hc hd hc2 hd2
 have e:vs.toArray++ws.toArray=(vs++ws).toArray:=by simp
 by_cases hw:ws=[]
 ·exact concat_meets {_,ho,rfl} {_,G5,rfl} noFill_tuple_add seq_tuple_add PySem.F.slot_tuple_add PySem.F.entry_tuple_add (PySem.F.args_tuple_add_2 _ _)
   (tuple_addW1 t b vs.toArray ws.toArray n n2 dd dd2 sl sl2 ‹hv› (by simp[hw])) {ho,G5,h1 hw}
 ·refine concat_meets {_,ho,rfl} {_,G5,rfl} noFill_tuple_add seq_tuple_add PySem.F.slot_tuple_add PySem.F.entry_tuple_add (PySem.F.args_tuple_add_2 _ _)
   (tuple_addW2 t b vs.toArray ws.toArray n n2 dd dd2 sl sl2 ‹hv› ‹hw› (by rw[Ba,Ba];exact hsz)) {ho,G5,?_}
  rw[e];exact h2 hw
noncomputable def cH (n d:Nat):QI Int->Nat
 |none=>d
 |some v=>if v<0 then (v+(n:Int)).toNat else min v.toNat n
def wR (n d k:Nat):cH n d (some (k:Int))=min k n:=by
 show(if (k:Int)<0 then ((k:Int)+(n:Int)).toNat else min (k:Int).toNat n)=min k n
 rw[A6 ∅,HZ]
theorem JF1 (n d:Nat)(hd:d<=n)(o:QI Int):cH n d o<=n:=by
 cases o with
 |none=>exact hd
 |some v=>
  show(if v<0 then (v+(n:Int)).toNat else min v.toNat n)<=n
  by_cases hv:v<0
  ·rw[A8 hv];omega
  ·rw[A6 hv];exact Nat.min_le_right _ _
def xT (v:Int)(n d:Nat):(if v<0 then max (v+(n:Int)) 0 else min v (n:Int))=((cH n d (some v):Nat):Int):=by
 show(if v<0 then max (v+(n:Int)) 0 else min v (n:Int))=(((if v<0 then (v+(n:Int)).toNat else min v.toNat n):Nat):Int)
 by_cases hv:v<0
 ·rwa[A8 hv];omega
 ·rwa[A6 hv];omega
def wn (lo hi:QI Int)(n:Nat):Builtin.Slice.sliceAdjust lo hi 1 (n:Int)=(((cH n 0 lo:Nat):Int),((cH n n hi:Nat):Int)):=by
 have h1:¬ ((1:Int)<0):=by omega
 unfold Builtin.Slice.sliceAdjust;rwa[h1,if_false];refine Prod.ext ?_ ?_
 ·cases lo with
  |none=>rfl
  |some v=>exact xT v n 0
 ·cases hi with
  |none=>rfl
  |some v=>exact xT v n n
def vA (i j:Nat):Builtin.Slice.slicePlaces (i:Int) (j:Int) 1=j-i:=by
 unfold Builtin.Slice.slicePlaces;have h1:(1:Int)>0:=by omega
 rwa[h1,if_true,Int.ediv_one];split <;> omega
theorem oa {v:A2}{o:QI Int}{Q:QI Int->A1->Prop}(p:IsPart v o)(h:Q o s):wpAny (model prog w) A (Builtin.Slice.slicePartIndex v) Q E s:=by
 cases p with
 |none=>exact slicePart_none h
 |int i t=>exact slicePart_int h
def g7 {sl:A3}{vl vu:A2}{lo hi:QI Int}{n:Nat}{Q:Int×Int×Nat->A1->Prop}(hs:s.heap.IsSliceOf sl vl vu .none)(pl:IsPart vl lo)(pu:IsPart vu hi)
  (h:Q (((cH n 0 lo:Nat):Int),1,cH n n hi-cH n 0 lo) s):wpAny (model prog w) A (Builtin.Slice.sliceApplied (.ref sl) (pure (n:Int))) Q E s:=by
 let⟨os,II,Ib,hds⟩:=id hs;unfold Builtin.Slice.sliceApplied Builtin.Slice.sliceFields;refine AA (AA (zb9 II hds (x:=vl) rfl (AA (zb9 II hds (x:=vu) rfl (AA (zb9 II hds (x:=.none) rfl (AJ ?_)))))));refine AA (slicePart_none ?_)
 show wpAny _ _ (if ((1:Int) == 0)=true then _ else _) _ _ s
 rw[A6 ∅];refine AA (oa pl (AA (oa pu (AA (AJ ?_)))))
 show wpAny _ _ (match Builtin.Slice.sliceAdjust lo hi 1 (n:Int) with|(lo,hi)=>pure (lo,(1:Int),Builtin.Slice.slicePlaces lo hi 1)) _ _ s
 rw[wn lo hi n]
 show wpAny _ _ (pure (((cH n 0 lo:Nat):Int),(1:Int),Builtin.Slice.slicePlaces ((cH n 0 lo:Nat):Int) ((cH n n hi:Nat):Int) 1)) _ _ s
 rw[vA];exact AJ h
def JBn (xs:Ti)(i k:Nat):((List.range k).filterMap λ(m:Nat)=>xs[((i:Int)+(m:Int)*1).toNat]?).toArray=((xs.toList.drop i).take k).toArray:=by
 have e:(λ(m:Nat)=>xs[((i:Int)+(m:Int)*1).toNat]?)=λm=>xs[i+m]?:=by
  funext m;have:((i:Int)+(m:Int)*1).toNat=i+m:=by omega
  rw[this]
 rw[e];have:=pick_run xs i k;rw[List.filterMap_map] at this
 have e2:((λx=>xs[x]?) ∘ λx=>i+x)=λm=>xs[i+m]?:=rfl;rw[e2] at this
 rw[this]
def lL {t sl:A3}{items:Ti}{vl vu:A2}{lo hi:QI Int}{Q:Tb}(ht:IsTup s.heap t items)(hs:s.heap.IsSliceOf sl vl vu .none)(pl:IsPart vl lo)(pu:IsPart vu hi)
  (hw:¬ (cH items.size 0 lo=0/\cH items.size items.size hi=items.size))
  (h:Q (.ref s.heap.objs.size) {s with heap:=s.heap.push {cls:=.type "tuple",data:=.seq ((items.toList.drop (cH items.size 0 lo)).take (cH items.size items.size hi-cH items.size 0 lo)).toArray}})
  (hsz:items.size<=sizeLine):wpAny (model prog w) A (getItem (.ref t) (.ref sl)) Q E s:=by
 have Df:sizeOk (.seq ((items.toList.drop (cH items.size 0 lo)).take (cH items.size items.size hi-cH items.size 0 lo)).toArray):=by
  show((items.toList.drop (cH items.size 0 lo)).take (cH items.size items.size hi-cH items.size 0 lo)).toArray.size<=sizeLine
  rw[Ba,zb5,zcs,Dv];omega
 have hj:cH items.size items.size hi<=items.size:=JF1 _ _ (Ao _) hi;obtain⟨os,II,Ib,hds⟩:=id hs;have hTs:s.TypeIs (.ref sl) "slice":={os,II,Ib};unfold getItem
 try with_reducible refine By ?_
 first|refine AA (AJ ?_)|skip
 refine AA (wpAny_sequenceKey ht.typeIs ∅ ?_)
 refine AA (HB (name:=Str.ofString "__getitem__") ht.typeIs PyProof.Rows.slot_tuple_getitem
  (Co PyProof.Rows.slot_tuple_getitem ht.typeIs entry_tuple_getitem ?_ (args_tuple_getitem _ _)))
 show wpAny _ _ (Builtin.Tuple.tupleItemsOf (.ref t) >>= _) _ _ s
 refine AA (tupleItemsOf_ ht ?_);refine AA (Ei hTs ?_);rw[A8 ∅];refine AA (g7 hs pl pu ?_)
 have G6:¬ ((((cH items.size 0 lo:Nat):Int) == 0&&(1:Int) == 1&&(cH items.size items.size hi-cH items.size 0 lo) == items.size)=true):=by
  intro q;rw[EF,EF] at q;have q1:((cH items.size 0 lo:Nat):Int)=0:=eq_of_beq q.1.1;have q2:cH items.size items.size hi-cH items.size 0 lo=items.size:=eq_of_beq q.2;exact hw {by omega,by omega}
 show wpAny _ _ (if (((cH items.size 0 lo:Nat):Int) == 0&&(1:Int) == 1&&(cH items.size items.size hi-cH items.size 0 lo) == items.size)=true then _ else _) _ _ s
 rw[A6 G6,JBn]
 first
  |exact AA (m:=Builtin.Tuple.tupleExact _) (Cu (AJ {_,rfl,AJ h}) Df)
  |exact AA (m:=Builtin.Tuple.tupleExact _) (Cu (AA (AJ (AJ {_,rfl,AJ h}))) Df)
  |exact AA (AA (m:=Builtin.Tuple.tupleExact _) (Cu (AJ (AJ {_,rfl,AJ h})) Df))
  |exact AA (AA (m:=Builtin.Tuple.tupleExact _) (Cu (AJ {_,rfl,AJ h}) Df))
end
end HT
namespace L2
open PyProof.Rows
abbrev TO:=St->Hp->(QI Int->Hp->Prop)->Prop
def PO (X:Cx)(e:QI AU)(t:TO):Prop :=
 ∀(Qa:Tc) (s:A1) (Y:St) (H:Hp) (Q:QI Int->Hp->Prop),ay X Qa Y H s->t Y H Q ->
  wpAny (model X.prog X.w) X.A (evalPart e X.env) (λu s'=>∃o H',ay X Qa Y H' s'/\IsPart u o/\Q o H') X.xe s
def wM:TO:=λ_ H Q=>Q none H
def FP (t:TE):TO:=λY H Q=>t Y H λx H1=>∃i,x=.int i/\Q (some i) H1
section
variable {X:Cx}{e:AU}{te:TE}{lo hi:QI AU}{tl th:TO}{pos p2:Pos}
def JC9:PO X none wM:=by intro Qa s Y H Q I h;rw[evalPart_none];exact AJ {none,H,I,.none,h}
def JC8 (h:PE X e te):PO X (some e) (FP te):=by intro Qa s Y H Q I hw;rw[evalPart_some];refine cV (h Qa s Y H _ I hw) λu s1 hh=>?_;let⟨x,H1,I1,r1,q1⟩:=hh;let⟨i,rfl,q⟩:=q1;let⟨t,rfl⟩:=r1;exact{some i,H1,I1,.int i t,q}
def zv (X:Cx)(r:V->QI Int->QI Int->Hp->VK->Prop):Prop :=
 ∀(Qa:Tc) (s:A1) (Y:St) (H:Hp) (x:V) (v vl vu:A2) (lo hi:QI Int) (sl:A3) (Q:VK),ay X Qa Y H s->aT x v->s.heap.IsSliceOf sl vl vu .none->IsPart vl lo->IsPart vu hi->r x lo hi H Q ->
  ∃T id,typeLookup (.type T) "__getitem__" = pure (some (.builtin id))/\s.TypeIs v T/\wpAny (model X.prog X.w) X.A (getItem v (.ref sl)) (EP X Qa Y Q) X.xe s
def zv.or {r r':V->QI Int->QI Int->Hp->VK->Prop}(h:zv X r)(h':zv X r'):zv X (λx lo hi H Q=>r x lo hi H Q\/r' x lo hi H Q):=by
 intro Qa s Y H x v vl vu lo hi sl Q I rx hs pl pu q;rcases q with q|q
 ·exact h Qa s Y H x v vl vu lo hi sl Q I rx hs pl pu q
 ·exact h' Qa s Y H x v vl vu lo hi sl Q I rx hs pl pu q
def MJ (r:V->QI Int->QI Int->Hp->VK->Prop)(te:TE)(tl th:TO):TE:=λY H Q=>te Y H λx H1=>tl Y H1 λl H2=>th Y H2 λu H3=>r x l u H3 Q
def oE {r:V->QI Int->QI Int->Hp->VK->Prop}(hr:zv X r)(he:PE X e te)(hl:PO X lo tl)(hu:PO X hi th):PE X (.Subscript e (.Slice lo hi none p2) pos) (MJ r te tl th):=by
 intro Qa s Y H Q I h;refine Subscript_ (cV (he Qa s Y H _ I h) λv s1 hh=>?_);obtain⟨x,H1,I1,r1,q1⟩:=hh;refine wpAny_Slice (cV (hl Qa s1 Y H1 _ I1 q1) λvl s2 hh=>?_);obtain⟨l,H2,I2,pl,q2⟩:=hh;refine cV (hu Qa s2 Y H2 _ I2 q2) λvu s3 hh=>?_;obtain⟨u,H3,I3,pu,q3⟩:=hh;rw[evalPart_none];refine AJ ?_;have I4:ay X Qa Y H3 {s3 with heap:=s3.heap.push {cls:=.type "slice",data:=.fields #[vl,vu,.none]}}:=I3.kept (t':=s3.toks) λb ob q=>Am _ q;obtain⟨T,id,hT,ht,hg⟩:=hr Qa {s3 with heap:=s3.heap.push {cls:=.type "slice",data:=.fields #[vl,vu,.none]}} Y H3 x v vl vu l u s3.heap.objs.size Q I4 r1 (Heap.IsSliceOf.new ..) pl pu q3
 show wpAny (model X.prog X.w) X.A (subscriptTail e (.Slice lo hi none p2) v (.ref s3.heap.objs.size)) (EP X Qa Y Q) X.xe {s3 with heap:=s3.heap.push {cls:=.type "slice",data:=.fields #[vl,vu,.none]}}
 exact tail_any (ops:=[.ref s3.heap.objs.size,v]) ht hT hg (by with_unfolding_all rfl)
noncomputable def nu (xs:P4 V)(lo hi:QI Int):P4 V:=(xs.drop (HT.cH xs.length 0 lo)).take (HT.cH xs.length xs.length hi-HT.cH xs.length 0 lo)
def mZ (xs:P4 V)(lo hi:QI Int):(nu xs lo hi).length<=xs.length:=by unfold nu;rw[zb5,zcs];omega
def La (K:AP):V->QI Int->QI Int->Hp->VK->Prop:=λx lo hi H Q=>∃a xs,x=.ref a/\gp K H a xs /\
 ¬ (HT.cH xs.length 0 lo=0/\HT.cH xs.length xs.length hi=xs.length)/\∀p,H p=none->Q (.ref p) (upd H p (.tup (nu xs lo hi)))
def JFw:zv X (La X.K):=by
 intro Qa s Y H x v vl vu lo hi sl Q I rx hs pl pu h;let⟨a,xs,rfl,hx,hw,q⟩:=h;cases rx;let⟨its,r,ht,hz⟩:=I.tuple hx;have hlen:its.toArray.size=xs.length:=by rw[Ba];exact r.length.symm
 refine{"tuple",_,PyProof.Rows.slot_tuple_getitem.lookup,ht.typeIs,?_};refine HT.lL ht hs pl pu (by rw[hlen];exact hw) ?_ (by rw[hlen];exact hz);rw[hlen];refine{.ref s.heap.objs.size,_,I.laid (t':=s.toks) (o:=.tup (nu xs lo hi)) (λb ob q=>Am _ q) (Ao _) ?_,rfl,q _ (I.hok.fresh (Ao _))};exact{DK (mZ xs lo hi) hz,_,(r.drop (HT.cH xs.length 0 lo)).take (HT.cH xs.length xs.length hi-HT.cH xs.length 0 lo),i4.new _ _}
def F6 (K:AP):R2:=λx y H Q=>∃a b xs ys,x=.ref a/\y=.ref b/\gp K H a xs/\gp K H b ys/\xs≠[]/\xs.length+ys.length<=sizeLine /\
 (ys=[]->Q (.ref a) H)/\(ys≠[]->∀p,H p=none->Q (.ref p) (upd H p (.tup (xs++ys))))
theorem aS.nil_iff {xs:P4 V}{us:Te}(r:aS xs us):us=[] ↔ xs=[]:=by
 cases r with
 |nil=>simp
 |cons _ _=>simp
def JCr:jO X (binaryOp .Add) (F6 X.K):=by intro Qa s Y H x y v u Q I rx ry h;let⟨a,b,xs,ys,rfl,rfl,ha,hb,hx,hz,q1,q2⟩:=h;cases rx;cases ry;let⟨its,r1,p1,_⟩:=I.tuple ha;let⟨EN,r2,p2,_⟩:=I.tuple hb;refine HT.EO p1 p2 (λz=>hx (r1.nil_iff.mp z)) (λz=>{.ref a,H,I,rfl,q1 (r2.nil_iff.mp z)}) (λz=>?_) (by rw[←r1.length,←r2.length];exact hz);refine{.ref s.heap.objs.size,_,I.laid (t':=s.toks) (o:=.tup (xs++ys)) (λb ob q=>Am _ q) (Ao _) ?_,rfl,q2 (λw=>z (r2.nil_iff.mpr w)) _ (I.hok.fresh (Ao _))};exact{by rw[Bb];exact hz,_,r1.append r2,i4.new _ _}
end
noncomputable def CY (n:Nat)(i:Int):QI Nat:=if 0<=i then (if i<n then some i.toNat else none) else if -(n:Int)<=i then some (i+n).toNat else none
noncomputable def kB {Z:Type}(xs:P4 Z)(i:Int):QI Z:=(CY xs.length i).bind λj=>xs[j]?
def xx {n:Nat}{i:Int}{j:Nat}(h:CY n i=some j):seqIndex? i n=some j/\j<n/\-(n:Int)<=i/\i<n:=by
 unfold CY at h;by_cases h0:0<=i
 ·rw[A8 h0] at h;by_cases h1:i<n
  ·rw[A8 h1] at h;have e:i.toNat=j:=Option.some.inj h;exact{by rw[seqIndex_of h0 h1,e],by omega,by omega,h1}
  ·rw[A6 h1] at h;cases h
 ·rw[A6 h0] at h;by_cases h1 : -(n:Int)<=i
  ·rw[A8 h1] at h;have e:(i+n).toNat=j:=Option.some.inj h;exact{by rw[seqIndex_neg ∅ h1,e],by omega,h1,by omega}
  ·rw[A6 h1] at h;cases h
theorem sE {Z:Type}{xs:P4 Z}{i:Int}{v:Z}(h:kB xs i=some v):∃j,seqIndex? i xs.length=some j/\xs[j]?=some v/\j<xs.length/\-(xs.length:Int)<=i/\i<xs.length:=by
 unfold kB at h
 cases e:CY xs.length i with
 |none=>rw[e] at h;cases h
 |some j=>
  rw[e] at h;let⟨h1,h2,h3,h4⟩:=xx e;exact{j,h1,h,h2,h3,h4}
def xW (b:AU):Prop:=∀o i,subscripted b false o i=operate [o,i] (getItem o i)
def E8 (X:Cx)(r:R2):Prop :=
 ∀(value slice:AU) (Qa:Tc) (s:A1) (Y:St) (H:Hp) (x y:V) (v u:A2) (Q:VK),ay X Qa Y H s->aT x v->aT y u->r x y H Q ->
  subscripted slice false v u=operate [v,u] (getItem v u)->wpAny (model X.prog X.w) X.A (subscriptTail value slice v u) (EP X Qa Y Q) X.xe s
def P9 (X:Cx)(id:String)(r:V->P4 V->Hp->VK->Prop):Prop :=
 ∀(Qa:Tc) (s:A1) (Y:St) (H:Hp) (x:V) (xs:P4 V) (v:A2) (us:Te) (Q:VK),ay X Qa Y H s->aT x v->aS xs us->r x xs H Q ->
  wpAny (model X.prog X.w) X.A (call (.builtin id) (v::us)) (EP X Qa Y Q) X.xe s
section
variable {X:Cx}{a b:AU}{ta tb:TE}{pos:Pos}
def E8.or {r r':R2}(h:E8 X r)(h':E8 X r'):E8 X (λx y H Q=>r x y H Q\/r' x y H Q):=by
 intro value slice Qa s Y H x y v u Q I rx ry q hs;rcases q with q|q
 ·exact h value slice Qa s Y H x y v u Q I rx ry q hs
 ·exact h' value slice Qa s Y H x y v u Q I rx ry q hs
def Lz {r:R2}(hr:E8 X r)(ha:PE X a ta)(hb:PE X b tb)(hs:xW b):PE X (.Subscript a b pos) (G9 r ta tb):=by intro Qa s Y H Q I h;exact Subscript_ (ET ha hb I h λv u s2 x y H2 I2 rx ry q=>hr a b Qa s2 Y H2 x y v u Q I2 rx ry q (hs _ _))
def Lh (K:AP):R2:=λx y H Q=>∃p xs i v,x=.ref p/\y=.int i/\j6 K H p xs/\kB xs i=some v/\Q v H
def Lf (K:AP):R2:=λx y H Q=>∃p xs i v,x=.ref p/\y=.int i/\gp K H p xs/\kB xs i=some v/\Q v H
def Lg:R2:=λx y H Q=>∃z i c,x=.str z/\y=.int i/\z.length<=sizeLine/\kB z.cps.toList i=some c/\Q (.str ⟨#[c]⟩) H
def JEq:E8 X (Lh X.K):=by
 intro value slice Qa s Y H x y v u Q I rx ry h hs;let⟨p,xs,i,z,rfl,rfl,hq,he,q⟩:=h;cases rx;let⟨t,rfl⟩:=ry;let⟨its,r,pl,hz⟩:=I.list hq;let⟨j,h1,h2,h3,h4,h5⟩:=sE he;let⟨w,ew,De⟩:=r.get h2;have hl:=r.length;have hn:=kO;have fin:EP X Qa Y Q w s:={z,H,I,De,q};by_cases h0:0<=i
 ·have hj:i.toNat=j:=by
   rw[seqIndex_of h0 h5] at h1;exact Option.some.inj h1
  exact item_listR pl.isList h0 ∅ (by rw[hj];simpa using ew) fin hs
 ·have hj:(i+(its.toArray.size:Int)).toNat=j:=by
   rw[seqIndex_neg ∅ h4] at h1;rw[Ba,←hl];exact Option.some.inj h1
  exact subscriptTail_builtinR (x:=w) pl.isList.typeIs slot_list_getitem.lookup
   (wpAny_getItem_list_neg (Q:=λr s'=>r=w/\EP X Qa Y Q r s') pl.isList ∅ (by rw[Ba] <;> omega) ∅ (by rw[hj];simpa using ew) {rfl,fin}) hs
def Jb:E8 X (Lf X.K):=by
 intro value slice Qa s Y H x y v u Q I rx ry h hs;let⟨p,xs,i,z,rfl,rfl,hq,he,q⟩:=h;cases rx;let⟨t,rfl⟩:=ry;let⟨its,r,pl,hz⟩:=I.tuple hq;let⟨j,h1,h2,h3,h4,h5⟩:=sE he;let⟨w,ew,De⟩:=r.get h2;have hl:=r.length;have hn:=kO;have fin:EP X Qa Y Q w s:={z,H,I,De,q};exact subscriptTail_builtinR (x:=w) pl.typeIs slot_tuple_getitem.lookup
  (getItem_tuple (j:=j) (Q:=λr s'=>r=w/\EP X Qa Y Q r s') pl ∅ ∅ (by rw[Ba,←hl];exact h1) ‹ew› {rfl,fin}) hs
def Jc:E8 X Lg:=by
 intro value slice Qa s Y H x y v u Q I rx ry h hs;let⟨z,i,c,rfl,rfl,hz,he,q⟩:=h;let⟨t,rfl⟩:=rx;let⟨t',rfl⟩:=ry;let⟨j,h1,h2,h3,h4,h5⟩:=sE he;have hl:z.cps.toList.length=z.length:=by simp[Str.length]
 rw[hl] at h1 h4 h5;have hn:=kO;exact tail_any (typeIs_str s z t) slot_str_getitem.lookup (getItem_str (c:=c) (by have e1:decide (i < -(2 ^ 63:Int))=false:=Bz ∅;have e2:decide (i >= 2 ^ 63)=false:=Bz ∅;rw[e1,e2,Bool.or_false]) (by rw[h1];simpa using h2) {.str ⟨#[c]⟩,H,I.tok _,{_,rfl},q}) hs
def Pr (K:AP):R2:=λx y H Q=>Lh K x y H Q\/Lf K x y H Q\/Lg x y H Q
def Jd:E8 X (Pr X.K):=JEq.or (Jb.or Jc)
def vL (its:Te)(n j:Nat)(u:A2):Obj.mapSeq (·.setIfInBounds j u) {cls:=.type "list",data:=.seq its.toArray n}={cls:=.type "list",data:=.seq (its.set j u).toArray n}:=by simp[Obj.mapSeq]
def ay.lst {H:Hp}{s:A1}{p:A3}{xs:P4 V}(I:ay X Qa Y H s)(h:H p=some (.lst xs)) :
  ∃(its:Te) (n:Nat),aS xs its/\s.heap.get? p=some {cls:=.type "list",data:=.seq its.toArray n}/\xs.length<=sizeLine:=by
 let⟨z,its,n,r,e⟩:=I.hok p _ h;exact{its,n,r,e,z}
def ay.lstUpd {H:Hp}{s:A1}{p:A3}{xs ys:P4 V}{its its':Te}{n n':Nat}{f:As->As}(I:ay X Qa Y H s)(h:H p=some (.lst xs))
  (ho:s.heap.get? p=some {cls:=.type "list",data:=.seq its.toArray n}) (hf:f {cls:=.type "list",data:=.seq its.toArray n}={cls:=.type "list",data:=.seq its'.toArray n'}) (r:aS ys its') (hz:ys.length<=sizeLine) (t:Nat) :
  ay X Qa Y (upd H p (.lst ys)) {s with heap:=s.heap.update p f,toks:=t}:=by
 have e:(s.heap.update p f).get? p=some {cls:=.type "list",data:=.seq its'.toArray n'}:=by
  rw[Di f ho (by rw[hf] <;> rfl),hf]
 refine I.write (x:=p) (e:=p) (by rw[h];trivial) (.inl rfl) (λb u hb q=>(D0 _ _ (Ne.symm hb)).trans q) {_,e} ?_;exact{hz,its',n',r,e}
def AN:V->V->V->Hp->(Hp->Prop)->Prop:=λo i v H Q=>∃p xs k j,o=.ref p/\i=.int k/\H p=some (.lst xs)/\CY xs.length k=some j/\Q (upd H p (.lst (xs.set j v)))
def JAz:uR X AN:=by
 intro Qa s Y H o i v ov iv u Q I ro ri rv h;let⟨p,xs,k,j,rfl,rfl,hp,hj,q⟩:=h;cases ro;let⟨t,rfl⟩:=ri;let⟨its,n,r,ho,hz⟩:=I.lst hp;let⟨h1,h2,h3,h4⟩:=xx hj;have hl:=r.length;have hn:=kO;have I':ay X Qa Y (upd H p (.lst (xs.set j v))) {s with heap:=s.heap.update p (Obj.mapSeq (·.setIfInBounds j u))} :=
  I.lstUpd hp ho (vL its n j u) (r.set rv j) (by rw[List.length_set];exact hz) s.toks
 by_cases h0:0<=k
 ·have hk:k.toNat=j:=by
   rw[seqIndex_of h0 h4] at h1;exact Option.some.inj h1
  exact PySem.W.ki_setAt ho h0 ∅ (by rw[Ba,←hl];exact h4) (by rw[hk];exact{_,I',q})
 ·have hk:(k+(its.toArray.size:Int)).toNat=j:=by
   rw[seqIndex_neg ∅ h3] at h1;rw[Ba,←hl];exact Option.some.inj h1
  exact PySem.W.ki_setBack ho ∅ (by rw[Ba,←hl];exact h3) ∅ (by rw[hk];exact{_,I',q})
def q9 (lo hi:QI Int)(n:Nat):(sliceBounds lo hi none n).1=((HT.cH n 0 lo:Nat):Int)/\(sliceBounds lo hi none n).2.1=((HT.cH n n hi:Nat):Int)/\(sliceBounds lo hi none n).2.2=1:=by
 refine{?_,?_,rfl}
 ·cases lo with
  |none=>simp[sliceBounds,HT.cH]
  |some i=>
   rwa[sliceBounds,HT.cH,Option.getD_none,show(1:Int)>0 by decide,if_true];by_cases h:i<0
   ·rwa[h,if_true] <;> omega
   ·rwa[h,if_false] <;> omega
 ·cases hi with
  |none=>simp[sliceBounds,HT.cH]
  |some i=>
   rwa[sliceBounds,HT.cH,Option.getD_none,show(1:Int)>0 by decide,if_true];by_cases h:i<0
   ·rwa[h,if_true] <;> omega
   ·rwa[h,if_false] <;> omega
def pH (its:Te)(lo hi:QI Int):slicePick its.toArray lo hi none=((its.drop (HT.cH its.length 0 lo)).take (HT.cH its.length its.length hi-HT.cH its.length 0 lo)).toArray:=by let⟨h1,h2,h3⟩:=q9 lo hi its.toArray.size;unfold slicePick;rw[h1,h2,h3];rwa[sliceRange_one,pick_run,Ba] <;> rfl
def Lc (K:AP):V->QI Int->QI Int->Hp->VK->Prop:=λx lo hi H Q=>∃a xs,x=.ref a/\j6 K H a xs/\∀p,H p=none->Q (.ref p) (upd H p (.lst (nu xs lo hi)))
def JDq:zv X (Lc X.K):=by intro Qa s Y H x v vl vu lo hi sl Q I rx hs pl pu h;obtain⟨a,xs,rfl,hx,q⟩:=h;cases rx;obtain⟨its,r,ht,hz⟩:=I.list hx;have hlen:=r.length;refine{"list",_,slot_list_getitem.lookup,ht.isList.typeIs,?_};refine wpAny_getItem_list_slice ht.isList hs pl pu .none ∅ ?_ (by rw[Ba] <;> omega);rw[pH,←hlen];refine{.ref s.heap.objs.size,_,I.laid (t':=s.toks) (o:=.lst (nu xs lo hi)) (λb ob q=>Am _ q) (Ao _) ?_,rfl,q _ (I.hok.fresh (Ao _))};exact{DK (mZ xs lo hi) hz,_,0,(r.drop (HT.cH xs.length 0 lo)).take (HT.cH xs.length xs.length hi-HT.cH xs.length 0 lo),BI _ rfl}
noncomputable def lM:V->A7
 |.non=>true
 |.bl _=>true
 |.int _=>true
 |.str _=>true
 |_=>false
noncomputable def GF:V->V->A7
 |.non,.non=>true
 |.bl a,.bl b=>a == b
 |.bl a,.int b=>(if a then 1 else 0) == b
 |.int a,.bl b=>a == (if b then 1 else 0)
 |.int a,.int b=>a == b
 |.str a,.str b=>a == b
 |_,_=>false
theorem JI {s:A1}{y x:V}{u v:A2}(ry:aT y u)(rx:aT x v)(fy:lM y=true)(fx:lM x=true):SeqAt.EqAt A s u v (GF y x):=by
 cases y with
 |non=>
  cases ry
  cases x with
  |non=>cases rx;exact SeqAt.EqAt.same _
  |bl b=>cases rx;exact SeqAt.EqAt.none_bool b
  |int b=>let⟨t,rfl⟩:=rx;exact SeqAt.EqAt.none_int b t
  |str b=>let⟨t,rfl⟩:=rx;exact SeqAt.EqAt.none_str b t
  |_=>exact AH (show false=true from fx) EK
 |bl a=>
  cases ry
  cases x with
  |non=>cases rx;exact SeqAt.EqAt.bool_none a
  |bl b=>cases rx;exact SeqAt.EqAt.bool_bool a b
  |int b=>let⟨t,rfl⟩:=rx;exact SeqAt.EqAt.bool_int a b t
  |str b=>let⟨t,rfl⟩:=rx;exact SeqAt.EqAt.bool_str a b t
  |_=>exact AH (show false=true from fx) EK
 |int a=>
  let⟨t',rfl⟩:=ry
  cases x with
  |non=>cases rx;exact SeqAt.EqAt.int_none a t'
  |bl b=>cases rx;exact SeqAt.EqAt.int_bool a t' b
  |int b=>let⟨t,rfl⟩:=rx;exact SeqAt.EqAt.int_int a t' b t
  |str b=>let⟨t,rfl⟩:=rx;exact SeqAt.EqAt.int_str a t' b t
  |_=>exact AH (show false=true from fx) EK
 |str a=>
  let⟨t',rfl⟩:=ry
  cases x with
  |non=>cases rx;exact SeqAt.EqAt.str_none a t'
  |bl b=>cases rx;exact SeqAt.EqAt.str_bool a t' b
  |int b=>let⟨t,rfl⟩:=rx;exact SeqAt.EqAt.str_int a t' b t
  |str b=>let⟨t,rfl⟩:=rx;exact SeqAt.EqAt.str_str a t' b t
  |_=>exact AH (show false=true from fx) EK
 |_=>exact AH (show false=true from fy) EK
noncomputable def EH (x:V)(u:A2):A7:=match u with
 |.none=>GF .non x
 |.bool b=>GF (.bl b) x
 |.int i _=>GF (.int i) x
 |.str z _=>GF (.str z) x
 |_=>false
theorem Ci {x y:V}{u:A2}(r:aT y u)(f:lM y=true):EH x u=GF y x:=by
 cases y with
 |non=>cases r;rfl
 |bl b=>cases r;rfl
 |int i=>let⟨t,rfl⟩:=r;rfl
 |str z=>let⟨t,rfl⟩:=r;rfl
 |_=>exact AH (show false=true from f) EK
theorem sG {x:V}:∀{xs:P4 V} {us:Te},aS xs us->xs.all lM=true->us.any (EH x)=xs.any λy=>GF y x
 |_,_,.nil,_=>rfl
 |y::xs,u::us,.cons r t,f=>by rw[List.all_cons,EF] at f;rw[Er,Er,Ci r f.1,sG t f.2]
theorem oN {s:A1}{x:V}{v:A2}(rx:aT x v)(fx:lM x=true):∀{xs:P4 V} {us:Te},aS xs us->xs.all lM=true->∀u∈us,SeqAt.EqAt A s u v (EH x u)
 |_,_,.nil,_=>λu hu=>by cases hu
 |y::xs,u::us,.cons r t,f=>λu' hu=>by
  rw[List.all_cons,EF] at f;rcases Ax.mp hu with rfl|hu
  ·rw[Ci r f.1];exact JI r rx f.1 fx
  ·exact oN rx fx t f.2 u' hu
noncomputable def MT (x:V)(xs:P4 V):A7:=xs.any λy=>GF y x
def NN (K:AP)(neg:A7):R2:=λx y H Q=>∃p xs,y=.ref p/\(j6 K H p xs\/gp K H p xs)/\lM x=true/\xs.all lM=true/\Q (.bl (if neg then !MT x xs else MT x xs)) H
def yC:jO X (compareOp .In) (NN X.K false):=by
 intro Qa s Y H x y v u Q I rx ry h;let⟨p,xs,rfl,hq,fx,fs,q⟩:=h;cases ry;rcases hq with hq|hq
 ·let⟨its,r,pl,hz⟩:=I.list hq;refine SeqAt.in_listAt (EH x) pl.isList (λw hw=>oN rx fx r fs w ‹hw›) {.bl _,H,I,rfl,?_};rw[show its.toArray.any (EH x)=its.any (EH x) by simp,sG r fs];exact q
 ·let⟨its,r,pl,hz⟩:=I.tuple hq;refine SeqAt.in_tupleAt (EH x) pl (λw hw=>oN rx fx r fs w ‹hw›) {.bl _,H,I,rfl,?_};rw[show its.toArray.any (EH x)=its.any (EH x) by simp,sG r fs];exact q
def sA:ik X (.builtin "len") (λxs H Q=>∃p ys,xs=[.ref p]/\(j6 X.K H p ys\/gp X.K H p ys)/\Q (.int ys.length) H):=by
 intro Qa s Y H xs us Q I r h;let⟨p,ys,rfl,hq,q⟩:=h;let⟨u,rfl,rx⟩:=i5 r;cases rx;have hn:=kO;rcases hq with hq|hq
 ·let⟨its,r',pl,hz⟩:=I.list hq;have hlen:=r'.length;exact Calls.call_len_list pl.isList (by rwa[Ba] <;> omega) {.int ys.length,H,I.tok _,{s.toks+1,by rw[Ba,hlen]},q}
 ·let⟨its,r',pl,hz⟩:=I.tuple hq;have hlen:=r'.length;exact len_tuple pl (by rwa[Ba] <;> omega) {.int ys.length,H,I.tok _,{s.toks+1,by rw[Ba,hlen]},q}
def sy:ik X (.builtin "len") (λxs H Q=>∃z,xs=[.str z]/\z.length<=sizeLine/\Q (.int z.length) H):=by intro Qa s Y H xs us Q I r h;obtain⟨z,rfl,hz,q⟩:=h;obtain⟨u,rfl,t,rfl⟩:=i5 r;have hn:=kO;exact len_str ∅ {.int z.length,H,I.tok _,{_,rfl},q}
def sx:ik X (.type "list") (λxs H Q=>∃p ys,xs=[.ref p]/\(j6 X.K H p ys\/gp X.K H p ys)/\∀l,H l=none->Q (.ref l) (upd H l (.lst ys))):=by
 intro Qa s Y H xs us Q I r h;let⟨p,ys,rfl,hq,q⟩:=h;let⟨u,rfl,rx⟩:=i5 r;cases rx;have fin:∀(its:Te),aS ys its->ys.length<=sizeLine->∀(h':AD) (c':Nat),(∀b o',s.heap.get? b=some o'->h'.get? b=some o') ->
   h'.get? s.heap.objs.size=some {cls:=.type "list",dict:=none,data:=.seq its.toArray c',slots:=#[]}->EP X Qa Y Q (.ref s.heap.objs.size) {s with heap:=h'}:=λits r' hz h' c' kp e=>
  {.ref s.heap.objs.size,_,I.laid (t':=s.toks) kp (Ao _) (show br X.prog X.w _ h' _ (.lst ys) from{hz,its,c',r',e}),rfl,q _ (I.hok.fresh (Ao _))}
 rcases hq with hq|hq
 ·let⟨its,r',pl,hz⟩:=I.list hq;have hlen:=r'.length;let⟨o,ho,hc,n,hd⟩:=pl.isList;exact call_list_seq p (.inl rfl) ho hc hd (λh' c' kp e=>fin its r' hz h' c' kp e) (by rwa[Ba] <;> omega)
 ·let⟨its,r',pl,hz⟩:=I.tuple hq;have hlen:=r'.length;let⟨o,ho,hc,n,hd⟩:=pl;exact call_list_seq p (.inr rfl) ho hc hd (λh' c' kp e=>fin its r' hz h' c' kp e) (by rwa[Ba] <;> omega)
def kA:ik X (.type "tuple") (λxs H Q=>∃p ys,xs=[.ref p]/\((j6 X.K H p ys/\∀l,H l=none->Q (.ref l) (upd H l (.tup ys)))\/(gp X.K H p ys/\Q (.ref p) H))):=by
 intro Qa s Y H xs us Q I r h;let⟨p,ys,rfl,h⟩:=h;let⟨u,rfl,rx⟩:=i5 r;cases rx;rcases h with⟨hq,q⟩|⟨hq,q⟩
 ·obtain⟨its,r',pl,hz⟩:=I.list hq;have hlen:=r'.length;refine call_tuple_list pl.isList (λh' kp=>?_) (by rwa[Ba] <;> omega);have I1:ay X Qa Y H {s with heap:=h'}:=I.kept (t':=s.toks) kp;have I2:ay X Qa Y (upd H h'.objs.size (.tup ys)) {s with heap:=h'.push {cls:=.type "tuple",data:=.seq its.toArray}} :=
   I1.laid (t':=s.toks) (λb o e=>Am _ e) (Ao _) (show br X.prog X.w _ _ _ (.tup ys) from{hz,its,r',i4.new _ _})
  exact{.ref h'.objs.size,_,I2,rfl,q _ (I1.hok.fresh (Ao _))}
 ·let⟨its,r',pl,hz⟩:=I.tuple hq;exact call_tuple_same pl {.ref p,H,I,rfl,q}
def NE (K:AP)(T:String)(x:V)(H:Hp):Prop:=match x with
 |.str _=>T = "str"
 |.int _=>T = "int"
 |.ref p=>(T = "list"/\∃xs,j6 K H p xs)\/(T = "tuple"/\∃o,K.lookup p=some o/\o.cls=.type "tuple"/\o.dict=none) \/
   (T = "dict"/\((∃A4,H p=some (.dK A4))\/∃A4,H p=some (.dT A4)))\/(T = "set"/\∃S n,H p=some (.set S n))
 |_=>False
theorem JE1 {H:Hp}{s:A1}{T:String}{x:V}{v:A2}(I:ay X Qa Y H s)(r:aT x v)(ty:NE X.K T x H) :
  s.TypeIs v T/\∀a,v=.ref a->∃ob,s.heap.get? a=some ob/\ob.dict=none:=by
 cases x with
 |str z=>
  obtain⟨t,rfl⟩:=r;cases(show T = "str" from ty);exact{typeIs_str s z t,λ_ e=>nomatch e}
 |int i=>
  obtain⟨t,rfl⟩:=r;cases(show T = "int" from ty);exact{typeIs_int s i t,λ_ e=>nomatch e}
 |ref p=>
  cases r;rcases ty with⟨rfl,xs,hq⟩|⟨rfl,o,hk,hc,hd⟩|⟨rfl,hk⟩|⟨rfl,S,n,hk⟩
  ·let⟨its,_,pl,_⟩:=I.list hq
   refine{pl.isList.typeIs,λa e=>?_};cases e;let⟨o,n,e,c,hd,_⟩:=pl;exact{o,e,hd}
  ·refine{{o,I.kIn p o hk,hc},λa e=>?_}
   cases e;exact{o,I.kIn _ o hk,hd}
  ·have z:∃o,s.heap.get? p=some o/\o.ExactDict:=by
    rcases hk with⟨A4,hk⟩|⟨A4,hk⟩
    ·let⟨_,_,_,_,o,_,_,e,ex,_⟩:=I.hok p _ hk
     exact{o,e,ex}
    ·let⟨_,_,_,_,o,_,_,e,ex,_⟩:=I.hok p _ hk
     exact{o,e,ex}
   let⟨o,e,ex⟩:=z;refine{{o,e,ex.1},λa e2=>?_};cases e2;exact{o,e,ex.2.1}
  ·let⟨o,_,_,_,e,ex,_⟩:=I.hok p _ hk
   refine{{o,e,ex.1},λa e2=>?_};cases e2;exact{o,e,ex.2.1}
 |_=>exact False.elim ty
def NI (K:AP)(T:String)(r:V->P4 V->Hp->VK->Prop)(to:TE)(t:TA):TE:=λY H Q=>to Y H λx H1=>NE K T x H1/\t Y H1 λxs H2=>r x xs H2 Q
variable {o e:AU}{es:Tj}{to:TE}{t:TA}{name:Str}{apos Ag:Pos}{T id:String}{r:V->P4 V->Hp->VK->Prop}
def Ge (pa:PlainAttrs T)(slot:Slot T name id)(hty:typeOf (.builtin id)=pure (.type "method_descriptor"))(hm:P9 X id r)(ho:PE X o to)(ha:PA X (e::es) t)
  (BN:attributeBase o name X.env (eval o X.env)=eval o X.env:=by rfl)
  (Ec:((backTo Ag (starEach (e::es) X.env)).all (λx=>!x.1)&&(backToKw Ag (keywordEach [] X.env)).all (λx=>x.1.isSome)
   && decide ((e::es).length+([]:P4 Keyword).length+(if ([]:P4 Keyword).isEmpty then 0 else 1)<30))=true:=by rfl)
  (BL:(apos.endLine == Ag.line)=true:=by rfl) (hs:starEach (e::es) X.env=(false,eval e X.env)::starEach es X.env:=by rfl) (C7:(backTo Ag (starEach es X.env)).any (·.1)=false:=by rfl) :
  PE X (.Call (.Attribute o name apos) (e::es) [] Ag) (NI X.K T r to t):=by
 intro Qa s Y H Q I h;refine wpAny_Call_method_late BN Ec BL rfl (cV (ho Qa s Y H _ I h) λv s1 hh=>?_);let⟨x,H1,I1,r1,ty,q1⟩:=hh;let⟨h1,h2⟩:=JE1 I1 r1 ty;refine{T,id,pa,slot,hty,h1,h2,?_};have hA:=ha Ag Qa s1 Y H1 _ I1 q1;rw[hs] at hA ⊢;refine Calls.callWith_builtin (by show(false || (backTo Ag (starEach es X.env)).any (·.1))=false;rw[C7] <;> rfl) (Calls.evalArgs_plain ?_);exact cV hA λus s2 ⟨vs,H2,I2,r2,q2⟩=>hm Qa s2 Y H2 x vs v us Q I2 r1 r2 q2
end
def QE (X:Cx)(id:String)(r:V->P4 V->Hp->VK->Prop):Prop :=
 ∀(Qa:Tc) (s:A1) (Y:St) (H:Hp) (x:V) (xs:P4 V) (v:A2) (us:Te) (Q:VK),ay X Qa Y H s->aT x v->aS xs us->r x xs H Q ->
  wpAny (model X.prog X.w) X.A (call (.builtin id) (v::us)) (EP X Qa Y Q) X.xe s
def aS.one {x:V}{us:Te}(h:aS [x] us):∃u,us=[u]/\aT x u:=by cases h with|cons r t=>cases t;exact{_,rfl,r}
section
variable {X:Cx}{Qa:Tc}{Y:St}{H:Hp}{s:A1}{l:A3}{xs ys:P4 V}
def ay.lset {its its':Te}{n:Nat}{f:AB A2->Ti}{t':Nat}(I:ay X Qa Y H s)(hH:H l=some (.lst xs))
  (e:s.heap.get? l=some {cls:=.type "list",data:=.seq its.toArray n}) (hf:f its.toArray=its'.toArray) (hv:aS ys its') (hz:ys.length<=sizeLine) :
  ay X Qa Y (upd H l (.lst ys)) {s with heap:=s.heap.update l (Obj.mapSeq f),toks:=t'}:=by
 have q:=PySem.IsL.update e f;rw[hf] at q;refine I.write (x:=l) (e:=l) (by rw[hH];exact trivial) (.inl rfl) (λb' u hb hu=>(D0 s.heap (Obj.mapSeq f) (Ne.symm hb)).trans hu) {_,q} ?_;exact{hz,its',_,hv,q}
def ay.lnew {its:Te}{t':Nat}(I:ay X Qa Y H s)(hv:aS ys its)(hz:ys.length<=sizeLine) :
  ay X Qa Y (upd H s.heap.objs.size (.lst ys)) {s with heap:=s.heap.push {cls:=.type "list",data:=.seq its.toArray},toks:=t'} :=
 I.laid (λ_ _ q=>Am _ q) (Ao _) {hz,its,0,hv,BI _ rfl}
def ay.fresh (I:ay X Qa Y H s):H s.heap.objs.size=none:=I.hok.fresh (Ao _)
def ay.lstM (I:ay X Qa Y H s)(hH:H l=some (.lst xs)):xs.length<=sizeLine/\∃(its:Te) (n:Nat),aS xs its/\xs.length=its.length/\s.heap.get? l=some {cls:=.type "list",data:=.seq its.toArray n}:=by obtain⟨z,its,n,r,e⟩:=I.hok l _ hH;exact{z,its,n,r,r.length,e}
end
section
variable {X:Cx}
def wX:V->P4 V->Hp->VK->Prop:=λx vs H Q=>∃l xs y,x=.ref l/\vs=[y]/\H l=some (.lst xs)/\xs.length<sizeLine/\Q .non (upd H l (.lst (xs++[y])))
def yG:QE X "list.append" wX:=by intro Qa s Y H x vs v us Q I rx rv h;obtain⟨l,xs,y,rfl,rfl,hH,hz,q⟩:=h;cases rx;obtain⟨u,rfl,ru⟩:=rv.one;obtain⟨z,its,n,r,hl,e⟩:=I.lstM hH;refine call_meets F.slot_list_append {_,e,rfl} F.entry_list_append (F.args_list_append_2 _ _) (PySem.list_append l its.toArray n u (by rw[Ba];omega)) {e,?_};refine{.non,_,I.lset (its':=its++[u]) hH e ∅ (r.append (.cons ru .nil)) ?_,rfl,q};rw[Bb,List.length_singleton];omega
def Lj:R2:=λx y H Q=>∃l b xs zs,x=.ref l/\y=.ref b/\H l=some (.lst xs)/\H b=some (.lst zs)/\xs.length+zs.length<=sizeLine/\∀p,H p=none->Q (.ref p) (upd H p (.lst (xs++zs)))
def JGm:jO X (binaryOp .Add) Lj:=by
 intro Qa s Y H x y v u Q I rx ry h;let⟨l,b,xs,zs,rfl,rfl,hH,hB,hz,q⟩:=h;cases rx;cases ry;let⟨z,its,n,r,hl,e⟩:=I.lstM hH;let⟨z2,EN,n2,r2,hl2,e2⟩:=I.lstM hB;refine PySem.P.add_list e e2 ?_ (by rw[Ba,Ba];omega);have ea:its.toArray++EN.toArray=(its++EN).toArray:=by simp
 rw[ea];exact{.ref _,_,I.lnew (t':=s.toks) (r.append r2) (by rw[Bb];omega),rfl,q _ I.fresh}
end
section
variable {κ:Type}[DecidableEq κ]
noncomputable def dq (A4:P4 (κ×V))(k:κ):QI V:=(A4.find? λkv=>decide (kv.1=k)).map (·.2)
noncomputable def eF (A4:P4 (κ×V))(k:κ)(v:V):P4 (κ×V) :=
 if (A4.any λkv=>decide (kv.1=k))=true then A4.map (λkv=>if kv.1=k then (kv.1,v) else kv) else A4++[(k,v)]
def ll {p:κ×V}{r:P4 (κ×V)}{k:κ}(e:p.1=k):dq (p::r) k=some p.2:=by simp[dq,zbH,e]
def gZ {p:κ×V}{r:P4 (κ×V)}{k:κ}(e:¬ p.1=k):dq (p::r) k=dq r k:=by simp[dq,zbH,e]
theorem nS (k:κ):∀A4:P4 (κ×V),(A4.any λkv=>decide (kv.1=k))=(dq A4 k).isSome
 |[]=>rfl
 |p::r=>by
  rw[Er];by_cases e:p.1=k
  ·rwa[ll e,Cn e,Bool.true_or,zci]
  ·rw[gZ e,Bz e,Bool.false_or];exact nS k r
def jz (A4:P4 (κ×V))(k:κ)(v:V):(eF A4 k v).length<=A4.length+1:=by
 unfold eF;split
 ·rw[Ay];omega
 ·rw[Bb,C3,GZ];omega
def JAd {A4:P4 (κ×V)}{k:κ}(v:V)(h:dq A4 k=none):eF A4 k v=A4++[(k,v)]:=by unfold eF;rw[nS,h];exact A6 ∅
theorem kj.isSome_eq {o:QI V}{u:Tg}(r:kj o u):o.isSome=u.isSome:=by
 cases o with
 |none=>cases u with
  |none=>rfl
  |some _=>exact(show False from r).elim
 |some _=>cases u with
  |none=>exact(show False from r).elim
  |some _=>rfl
theorem KV.val {A4:P4 (κ×V)}{vs:P4 (κ×A2)}(r:KV A4 vs)(k:κ):kj (dq A4 k) (valueAt vs k):=by
 unfold KV at r;induction r with
 |nil=>exact True.intro
 | @cons p q ps qs h t ih=>
  let⟨h1,h2⟩:=h;by_cases e:p.1=k
  ·have e':q.1=k:=h1.symm.trans e;have b:valueAt (q::qs) k=some q.2:=(by simp[valueAt,zbH,e']);rw[ll e,b];exact h2
  ·have e':¬ q.1=k:=λz=>e (h1.trans z);have b:valueAt (q::qs) k=valueAt qs k:=(by simp[valueAt,zbH,e']);rw[gZ e,b];exact ih
theorem KV.any {A4:P4 (κ×V)}{vs:P4 (κ×A2)}(r:KV A4 vs)(k:κ):(A4.any λkv=>decide (kv.1=k))=vs.any λkv=>decide (kv.1=k):=by
 unfold KV at r;induction r with
 |nil=>rfl
 |cons h t ih=>rw[Er,Er,ih,h.1]
theorem KV.repl {A4:P4 (κ×V)}{vs:P4 (κ×A2)}(r:KV A4 vs)(k:κ){y:V}{u:A2}(ry:aT y u) :
  KV (A4.map λkv=>if kv.1=k then (kv.1,y) else kv) (vs.map λkv=>if kv.1=k then (kv.1,u) else kv):=by
 unfold KV at r ⊢
 induction r with
 |nil=>exact .nil
 | @cons p q ps qs h t ih=>
  rw[Ak,Ak];refine .cons ?_ ih;let⟨h1,h2⟩:=h
  by_cases e:p.1=k
  ·rw[A8 e,A8 (h1.symm.trans e)];exact{h1,ry}
  ·rw[A6 e,A6 (λz=>e (h1.trans z))];exact{h1,h2}
def KV.put {A4:P4 (κ×V)}{vs:P4 (κ×A2)}(r:KV A4 vs)(k:κ){y:V}{u:A2}(ry:aT y u):KV (eF A4 k y) (stored vs k u):=by
 unfold eF stored;rw[r.any k];by_cases e:(vs.any λkv=>decide (kv.1=k))=true
 ·rw[A8 e,A8 e];exact r.repl k ry
 ·rw[A6 e,A6 e];exact Paired.snoc r {rfl,ry}
def KV.length {A4:P4 (κ×V)}{vs:P4 (κ×A2)}(r:KV A4 vs):A4.length=vs.length:=Paired.length r
end
theorem uf {k:aE}{u:A2}(r:aT (kV k) u):(bo P w).is k u=true:=by
 cases k with
 |inl i=>let⟨t,e⟩:=(show ∃t,u=Value.int i t from r);subst e;exact tZ P w i t
 |inr o=>cases o with
  |some x=>let⟨t,e⟩:=(show ∃t,u=Value.str x t from r);subst e;exact tY P w x t
  |none=>have e:u=Value.none:=r;subst e;exact yM
theorem qq :∀{ks:P4 aE} {us:Te},aS (ks.map kV) us->ItemsAre (bo P w) ks us
 |[],_,r=>by rw[D1] at r;cases r;exact .nil
 |k::ks,_,r=>by
  rw[Ak] at r
  cases r with
  |cons h t=>exact .cons (uf h) (qq t)
abbrev KT (H:Hp):P4 (P4 aE×V)->P4 (P4 aE×A3×A2)->Prop:=Paired λp q=>p.1=q.1/\H q.2.1=some (.tup (p.1.map kV))/\aT p.2 q.2.2
theorem KT.val {H:Hp}{A4:P4 (P4 aE×V)}{xs:P4 (P4 aE×A3×A2)}(r:KT H A4 xs)(k:P4 aE):kj (dq A4 k) ((atKey xs k).map (·.2)):=by
 induction r with
 |nil=>exact True.intro
 | @cons p q ps qs h t ih=>
  let⟨h1,_,h2⟩:=h;by_cases e:p.1=k
  ·have e':q.1=k:=h1.symm.trans e;have b:atKey (q::qs) k=some q.2:=(by simp[atKey,zbH,e']);rw[ll e,b];exact h2
  ·have e':¬ q.1=k:=λz=>e (h1.trans z);have b:atKey (q::qs) k=atKey qs k:=(by simp[atKey,zbH,e']);rw[gZ e,b];exact ih
theorem KT.repl {H:Hp}{A4:P4 (P4 aE×V)}{xs:P4 (P4 aE×A3×A2)}(r:KT H A4 xs)(k:P4 aE){y:V}{u:A2}(ry:aT y u) :
  KT H (A4.map λkv=>if kv.1=k then (kv.1,y) else kv) (xs.map (putAt k u)):=by
 induction r with
 |nil=>exact .nil
 | @cons p q ps qs h t ih=>
  rw[Ak,Ak];refine .cons ?_ ih;let⟨h1,h2,h3⟩:=h;unfold putAt
  by_cases e:p.1=k
  ·rw[A8 e,A8 (h1.symm.trans e)];exact{h1,h2,ry}
  ·rw[A6 e,A6 (λz=>e (h1.trans z))];exact{h1,h2,h3}
def KT.put {H:Hp}{A4:P4 (P4 aE×V)}{xs:P4 (P4 aE×A3×A2)}(r:KT H A4 xs)(k:P4 aE){b:A3}{y:V}{u:A2}(hb:H b=some (.tup (k.map kV)))(ry:aT y u) :
  KT H (eF A4 k y) (storedH xs k b u):=by
 have e:(A4.any λkv=>decide (kv.1=k))=(atKey xs k).isSome:=by
  rw[nS,(r.val k).isSome_eq,Option.isSome_map]
 unfold eF storedH;rw[e]
 by_cases q:(atKey xs k).isSome=true
 ·rw[A8 q,A8 q];exact r.repl k ry
 ·rw[A6 q,A6 q];exact Paired.snoc r {rfl,hb,ry}
def KT.keeps {H H':Hp}{A4:P4 (P4 aE×V)}{xs:P4 (P4 aE×A3×A2)}(r:KT H A4 xs)(ht:∀b ys,H b=some (.tup ys)->H' b=some (.tup ys)):KT H' A4 xs :=
 Paired.mapP r λ_ _ z=>{z.1,ht _ _ z.2.1,z.2.2}
section
variable {P:A9}{w:AF}{H:Hp}{h:AD}{a:A3}
def F2 {u:HO}(ok:fH P w H h)(e:Rd H a u):br P w H h a u:=e.ok ok
def uB {A4:P4 (aE×V)}(ok:fH P w H h)(e:Rd H a (.dK A4)):A4.length<=sizeLine/\(a == sysModules)=false/\∃vs,KV A4 vs/\h.DictOf (bo P w) a vs :=
 show br P w H h a (.dK A4) from F2 ok e
def Cp {A4:P4 (aE×V)}(ok:fH P w H h)(e:H a=some (.dK A4)):A4.length<=sizeLine/\(a == sysModules)=false/\∃vs,KV A4 vs/\h.DictOf (bo P w) a vs:=uB ok (.inl e)
def mw {ks:P4 aE}(ok:fH P w H h)(e:H a=some (.tup (ks.map kV))):(tupleKind (bo P w)).is h ks a:=by let⟨_,its,r,⟨o,h1,h2,n,h3⟩,_⟩:=(show br P w H h a (.tup (ks.map kV)) from ok a _ e);exact{o,its.toArray,n,h1,h2,h3,by simpa using qq r}
def uz {A4:P4 (P4 aE×V)}(ok:fH P w H h)(e:Rd H a (.dT A4)):A4.length<=sizeLine/\(a == sysModules)=false /\
  ∃xs,KT H A4 xs/\h.DictOfH (tupleKind (bo P w)) a xs:=by
 let⟨z,y,xs,r,o,es,ep,h1,h2,h3,h4,h5⟩:=(show br P w H h a (.dT A4) from F2 ok e);refine{z,y,xs,r,o,es,ep,h1,h2,h3,h4,λx hx=>?_,h5}
 have all:∀{l:P4 (P4 aE×V)} {m:P4 (P4 aE×A3×A2)},KT H l m->∀x∈m,(tupleKind (bo P w)).is h x.1 x.2.1:=by
  intro l m q
  induction q with
  |nil=>intro x hx;exact nomatch hx
  | @cons p q ps qs hq t ih=>
   intro x hx;rcases Ax.mp hx with e|hx
   ·subst e
    exact mw ok (by rw[←hq.1];exact hq.2.1)
   ·exact ih x hx
 exact all r x hx
def GJ {A4:P4 (P4 aE×V)}(ok:fH P w H h)(e:H a=some (.dT A4)):A4.length<=sizeLine/\(a == sysModules)=false /\
  ∃xs,KT H A4 xs/\h.DictOfH (tupleKind (bo P w)) a xs:=uz ok (.inl e)
end
def Fc (H:Hp)(a:A3)(y:V)(r:QI V):Prop :=
 (∃A4 k,Rd H a (.dK A4)/\y=kV k/\r=dq A4 k)\/∃A4 k b,Rd H a (.dT A4)/\y=.ref b/\H b=some (.tup (k.map kV))/\r=dq A4 k
def Fb (H:Hp)(a:A3)(y v:V)(H':Hp):Prop :=
 (∃A4 k,H a=some (.dK A4)/\y=kV k/\A4.length<sizeLine/\H'=upd H a (.dK (eF A4 k v))) \/
 ∃A4 k b,H a=some (.dT A4)/\y=.ref b/\H b=some (.tup (k.map kV))/\A4.length<sizeLine/\H'=upd H a (.dT (eF A4 k v))
def Fb.k {H:Hp}{a:A3}{A4:P4 (aE×V)}{k:aE}{v:V}(e:H a=some (.dK A4))(hl:A4.length<sizeLine):Fb H a (kV k) v (upd H a (.dK (eF A4 k v))):=.inl {A4,k,e,rfl,hl,rfl}
section
variable {X:Cx}{Qa:Tc}{Y:St}{H:Hp}{s:A1}{a:A3}{y v:V}{u r:A2}{o:QI V}{A:AE}{E:Tb}
def ay.big (I:ay X Qa Y H s):sysModules<s.heap.objs.size:=by have h:mainGlobals<s.heap.objs.size:=(I.mod.glob.keeps I.bk).lt;exact zb1 ∅ h
def zd {Q:Tb}(hu:A.units+1<cLine)(I:ay X Qa Y H s)(g:Fc H a y (some v))(ry:aT y u)(h:∀w' s',ay X Qa Y H s'->aT v w'->Q w' s') :
  wpAny (model X.prog X.w) A (getItem (.ref a) u) Q E s:=by
 rcases g with⟨A4,k,e,ey,l⟩|⟨A4,k,b,e,ey,eb,l⟩
 ·subst ey
  let⟨z,hd,vs,rel,dd⟩:=uB I.hok e;let⟨w',hw,De⟩:=kj.some_of (v:=v) (o:=valueAt vs k) (by rw[l];exact rel.val k);exact wpAny_getItem_of (uf ry) dd.mapOf hw (h w' _ (I.tok _) De)
 ·subst ey
  cases(show u=Value.ref b from ry);let⟨z,hd,xs,rel,dd⟩:=uz I.hok e;let⟨w',hw,De⟩:=kj.some_of (v:=v) (o:=(atKey xs k).map (·.2)) (by rw[l];exact rel.val k);let⟨p,hp,hp2⟩:=DX.mp hw;refine wpAny_getItem_heap (tupleKind_room_in1 hu) (mw I.hok eb) dd hp ?_;rw[hp2];exact h w' _ (I.tok _) De
def OU {Q:Tb}(hu:A.units+1<cLine)(I:ay X Qa Y H s)(g:Fc H a y o)(ry:aT y u)(h:∀s',ay X Qa Y H s'->Q (.bool o.isSome) s') :
  wpAny (model X.prog X.w) A (compareOp .In u (.ref a)) Q E s:=by
 rcases g with⟨A4,k,e,ey,l⟩|⟨A4,k,b,e,ey,eb,l⟩
 ·subst ey
  let⟨z,hd,vs,rel,dd⟩:=uB I.hok e;refine wpAny_in_of (uf ry) hd dd.mapOf ?_;rw[←(rel.val k).isSome_eq,←l];exact h _ (I.tok _)
 ·subst ey
  cases(show u=Value.ref b from ry);let⟨z,hd,xs,rel,dd⟩:=uz I.hok e;refine wpAny_in_heap (tupleKind_room_in1 hu) (mw I.hok eb) hd dd ?_;have q:=(rel.val k).isSome_eq;rw[Option.isSome_map] at q;rw[←q,←l];exact h _ (I.tok _)
def sn {h':AD}{t':Nat}{ob:HO}(I:ay X Qa Y H s)(mu:MB (H a))(hs:Heap.SameBut a s.heap h')(he:∃q,h'.get? a=some q)(new:br X.prog X.w (upd H a ob) h' a ob) :
  ay X Qa Y (upd H a ob) {s with heap:=h',toks:=t'} :=
 I.write (x:=a) (e:=a) mu (.inl rfl) (λb q hb z=>(hs.2 b hb).trans z) he new
def JJ {H':Hp}{h':AD}{A4:P4 (aE×V)}{vs:P4 (aE×A2)}(z:A4.length<=sizeLine)(hd:(a == sysModules)=false)(rel:KV A4 vs)(dd:h'.DictOf (bo P w) a vs) :
  br P w H' h' a (.dK A4):={z,hd,vs,rel,dd}
def zb {H':Hp}{Q:Unit->A1->Prop}(hu:A.units+1<cLine)(I:ay X Qa Y H s)(g:Fb H a y v H')(ry:aT y u)(rv:aT v r)(h:∀s',ay X Qa Y H' s'->Q () s') :
  wpAny (model X.prog X.w) A (setItem (.ref a) u r) Q E s:=by
 rcases g with⟨A4,k,e,ey,l,eH⟩|⟨A4,k,b,e,ey,eb,l,eH⟩
 ·subst ey eH
  let⟨z,hd,vs,rel,dd⟩:=Cp I.hok e
  have hz:vs.length<=sizeLine:=by rw[←rel.length];exact z
  have hl:(eF A4 k v).length<=sizeLine:=by have:=jz A4 k v;omega
  refine wpAny_setItem_pairs (hsz:=hz) (uf ry) dd λh' dd' hs=>h _ ?_;have he:∃q,h'.get? a=some q:=let ⟨q,_,_,hq,_⟩:=dd';{q,hq};exact sn I (by rw[e];exact True.intro) hs he (JJ hl hd (rel.put k rv) dd')
 ·subst ey eH
  cases(show u=Value.ref b from ry);let⟨z,hd,xs,rel,dd⟩:=GJ I.hok e
  have hz:xs.length<=sizeLine:=by rw[←Paired.length rel];exact z
  have hl:(eF A4 k v).length<=sizeLine:=by have:=jz A4 k v;omega
  refine wpAny_setItem_heap (hsz:=hz) (tupleKind_room_in1 hu) (mw I.hok eb) dd λh' dd' hs=>h _ ?_;let⟨q,es,ep,hq,h2,h3,h4,_,h5⟩:=dd';refine sn I (by rw[e];exact True.intro) hs {q,hq} {hl,hd,_,(rel.put k eb rv).keeps λc ys ec=>?_,q,es,ep,hq,h2,h3,h4,h5};rw[aq (Gi ec e (λz=>nomatch z))];exact ec
end
def E6 (i:AU):Prop:=∀ov iv,subscripted i false ov iv=operate [ov,iv] (getItem ov iv)
def JDm {prog:A9}{w:AF}{A:AE}{E:Tb}{s:A1}{env:Env}{value slice:AU}{pos:Pos}{T id:String}{Q:Tb}
  (hl:typeLookup (.type T) "__getitem__" = pure (some (.builtin id))) (hs:E6 slice)
  (h:wpAny (model prog w) A (eval value env) (λo s₁=>wpAny (model prog w) A (eval slice env) (λi s₂=>s₂.TypeIs o T/\wpAny (model prog w) A (getItem o i) Q E s₂) E s₁) E s) :
  wpAny (model prog w) A (eval (.Subscript value slice pos) env) Q E s:=by
 refine Subscript_ (DV h (λo s₁ h₁=>DV h₁ (λi s₂ h₂=>?_) λ_ _ x=>x) λ_ _ x=>x);let⟨hT,h₂⟩:=h₂;unfold subscriptTail;refine AA ?_;rw[getitemInPython_of_ne hT.not_modules];refine AA (zcu hT hl ?_)
 have fin:wpAny (model prog w) A (subscripted slice false o i) (λr s₃=>wpAny (model prog w) A (letTemporaryGo value o r >>=λ_=>pure r) Q E s₃) E s₂:=by
  rw[hs o i];exact wpAny_operating (DV h₂ (λr s₃ h₃=>AA (wpAny_letTemporaryGo (AJ h₃))) λ_ _ x=>x)
 first
  |exact AJ (AA fin)
  |exact AA (AJ (AA fin))
  |exact AA fin
def uD {H:Hp}{s:A1}{a:A3}{y:V}{o:QI V}(I:ay X Qa Y H s)(g:Fc H a y o):s.TypeIs (.ref a) "dict":=by
 rcases g with⟨A4,k,e,_,_⟩|⟨A4,k,b,e,_,_,_⟩
 ·let⟨_,_,vs,_,dd⟩:=uB I.hok e;exact dd.typeIs
 ·let⟨_,_,xs,_,dd⟩:=uz I.hok e;exact dd.typeIs
def zZ (td ty:TE):TE:=λY H Q=>td Y H λx H1=>ty Y H1 λy H2=>∃a v,x=.ref a/\Fc H2 a y (some v)/\Q v H2
section
variable {X:Cx}{o i:AU}{pos:Pos}{td ty:TE}
def xh (hu:X.A.units+1<cLine)(ho:PE X o td)(hi:PE X i ty)(hs:E6 i):PE X (.Subscript o i pos) (zZ td ty):=by intro Qa s Y H Q I h;refine JDm PySem.F.slot_dict_getitem.lookup hs (cV (ho Qa s Y H _ I h) λu s1 hh=>?_);let⟨x,H1,I1,rx,q1⟩:=hh;refine cV (hi Qa s1 Y H1 _ I1 q1) λiv s2 hh=>?_;let⟨y,H2,I2,ry,a,v,ex,g,q2⟩:=hh;subst ex;obtain rfl:u=Value.ref a:=rx;exact{uD I2 g,zd hu I2 g ry λw' s3 I3 De=>{v,H2,I3,De,q2}}
end
def JCj {H:Hp}(h:AD)(hb:sysModules<h.objs.size):br P w H (h.push {cls:=.type "dict",data:=.dict #[]}) h.objs.size (.dT []) :=
 {DH _,beq_eq_false_iff_ne.mpr (Ne.symm (BE hb)),[],.nil,_,#[],0,BI _ rfl,{rfl,rfl,rfl},rfl,rfl,zcl}
def zY:TE:=λ_ H Q=>∀p,H p=none->Q (.ref p) (upd H p (.dT []))
section
variable {X:Cx}{pos:Pos}
def JBs:PE X (.Dict [] [] pos) zY:=λQa s Y H Q I h=>
 wpAny_Dict_empty {.ref s.heap.objs.size,_,I.laid (a:=s.heap.objs.size) (o:=.dT []) (t':=s.toks) (λ_ _ q=>Am _ q) (Ao _) (JCj s.heap I.big),rfl,h _ (I.hok.fresh (Ao _))}
end
structure M1 (X:Cx)(o:Expr)(m:Str)(apos:Pos)(e:Expr)(Ag:Pos):Prop where
 base:attributeBase o m X.env (eval o X.env)=eval o X.env
 few:((backTo Ag (starEach [e] X.env)).all (λx=>!x.1)&&(backToKw Ag (keywordEach [] X.env)).all (λx=>x.1.isSome)
  && decide (([e]:Tj).length+([]:List Keyword).length+(if ([]:List Keyword).isEmpty then 0 else 1)<30))=true
 line:(apos.endLine == Ag.line)=true
 trees:backTo Ag (starEach [e] X.env)=[(false,eval e X.env)]
structure M2 (X:Cx)(o:Expr)(m:Str)(apos:Pos)(e f:Expr)(Ag:Pos):Prop where
 base:attributeBase o m X.env (eval o X.env)=eval o X.env
 few:((backTo Ag (starEach [e,f] X.env)).all (λx=>!x.1)&&(backToKw Ag (keywordEach [] X.env)).all (λx=>x.1.isSome)
  && decide (([e,f]:Tj).length+([]:List Keyword).length+(if ([]:List Keyword).isEmpty then 0 else 1)<30))=true
 line:(apos.endLine == Ag.line)=true
 trees:backTo Ag (starEach [e,f] X.env)=[(false,eval e X.env),(false,eval f X.env)]
def Qc (H:Hp)(a:A3):Prop:=(∃A4,Rd H a (.dK A4))\/∃A4,Rd H a (.dT A4)
def BS {H:Hp}{s:A1}{a:A3}(I:ay X Qa Y H s)(d:Qc H a) :
  s.TypeIs (.ref a) "dict"/\(∀b,Value.ref a=.ref b->∃ob,s.heap.get? b=some ob/\ob.dict=none)/\(a == sysModules)=false:=by
 rcases d with⟨A4,e⟩|⟨A4,e⟩
 ·let⟨_,hd,vs,_,dd⟩:=uB I.hok e
  refine{dd.typeIs,λb q=>?_,hd};cases q;let⟨ob,_,_,h1,h2,_⟩:=dd;exact{ob,h1,h2.2.1}
 ·let⟨_,hd,xs,_,dd⟩:=uz I.hok e
  refine{dd.typeIs,λb q=>?_,hd};cases q;let⟨ob,_,_,h1,h2,_⟩:=dd;exact{ob,h1,h2.2.1}
end L2
namespace Att
open PySem.W PySem.Calls PyProof.Rows
theorem nr {P:Params}{h:AD}:∀(ns:Th) (vs:Te),WellAll P h vs (ns.map WData.int)->IntsAre vs ns:=by
 intro ns;induction ns with
 |nil=>
  intro vs w;rw[D1] at w;cases w;exact .nil
 |cons n ns ih=>
  intro vs w;rw[Ak] at w
  cases w with
  |cons a b=>
   cases a;exact .cons _ _ (ih _ b)
theorem ym {l:OpenLaw}{n:Nat}(hn:l.most=some n){P:Params}{h:AD}{args:P4 WData}{vals:Te}
  (HH:l.row.toRowW.claim.pre args=true) (hwl:WellAll P h vals args) :
  ∃a vs ns,vals=[Value.ref a]/\args=[WData.list (ns.map WData.int)]/\h.get? a=some {cls:=.type "list",data:=.seq vs.toArray}/\IntsAre vs ns/\ns.length<=n:=by
 have BV:WShape.hasAll [] args [.list .int]=true:=(pre_splitW HH).1;have hc:l.pre.holds [] {args:=args}=true:=(pre_splitW HH).2;let⟨d,r,rfl,h1,h2⟩:=hasAllW_cons BV;obtain rfl:=hasAllW_nil h2;let⟨xs,rfl,h3⟩:=hasW_list h1;let⟨ns,rfl⟩:=items_int h3
 have hlen:ns.length<=n:=by
  unfold OpenLaw.pre at hc
  have h4:(WTm.not (.lt (.lit (.int (n:Int))) (.len (.arg 0)))).holds [] {args:=[.list (ns.map .int)]}=true:=by
   have h4:=(holds_andW hc).1;rw[hn] at h4;exact h4
  have h5:=condW_of h4 (w_not (w_lt w_lit (w_len_list (w_arg rfl))));rw[Ay] at h5;refine Nat.le_of_not_lt λq=>?_
  have q':(n:Int)<((ns.length:Nat):Int):=by omega
  first
   |(rw[Cn q'] at h5;exact AH h5 ∅)
   |(simp at h5;omega)
 cases hwl with
 |cons w1 w2=>
  cases w2
  cases w1 with
  |list ho hall=>exact{_,_,ns,rfl,rfl,ho,nr ns _ hall,hlen}
def yu (l:OpenLaw)(args:P4 WData):l.row.toRowW.claim.post args (.bool true) args=true :=
 postW_of (r:=l.row.toRowW) (X:=(true == true))
  (show WShape.has [] (.bool true) .bool=true by first|rfl|decide|simp[WShape.has,WShape.arms,WShape.armsAll])
  (show(WTm.eq .res (.lit (.bool true))).value [] {args:=args,res:=some (.bool true),after:=args}=some (.bool (true == true)) from w_eq_bool (w_res rfl) w_lit) rfl
def attach_call {l:OpenLaw}{n:Nat}{q:A9}{loose:Tn}{XP:(Td)->AD->Prop}{YP:AF->AD->Prop}{d:DefRec}
  (hn:l.most=some n) (hdf:d.params.defaults=[])
  (call:∀(w:AF) (s₀ s₁:A1) (mg mb:Td) (fa:A3) (o:As) (pm cd doc:A2) (a:A3) (vs:Te) (ns:Th),
   Ground q loose [] XP w s₀ mg mb s₁.heap->YP w s₁.heap ->
   s₁.heap.get? fa=some o->o.data=.func (docDef d.name d.params d.body d.scope pm cd doc)->s₁.heap.CodeRec cd d.name->mg d.name=some (.ref fa) ->
   s₁.heap.get? a=some {cls:=.type "list",data:=.seq vs.toArray}->IntsAre vs ns->ns.length<=n->s₁.gens = #[] ->
   codeAny (model l.prog w) callerA (.call (.ref fa) {[.ref a],[]}) (λr s'=>r=.ok (.ret (.bool true))/\OldK s₁.heap s'.heap/\s'.os=s₁.os/\AllBare s'.gens) s₁) :
  WalkO q loose XP YP l.row.toRowW d [] (λf vs=>PySem.call f vs):=by
 intro w s₀ s₁ mg mb G Yz fa o pm cd doc dV kV ho hd Ee hD hmg hg args vals as HH hlay hrd hwl hlo;obtain rfl:dV=.none:=Dflts.none hD hdf;obtain rfl:kV=.none:=Dflts.noKw hD;let⟨a,vs,ns,rfl,rfl,IJ,hints,hlen⟩:=ym hn HH hwl;refine enter_call (Ej (call w s₀ s₁ mg mb fa o pm cd doc a vs ns G Yz ho (fd_plain hd) Ee hmg IJ hints hlen hg) λr s' hq=>?_);let⟨rfl,h2,h3,h4⟩:=hq;exact{.inl {.bool true,.bool true,[],rfl,λ_=>rfl,.bool true,yu l _,λ_=>{List.Pairwise.nil,λ_ hm=>(nomatch hm)}},h2,h3,h4}
end Att
namespace L2
open PyProof.Rows
theorem dP:∀{vs:Te} {ns:Th},IntsAre vs ns->aS (ns.map V.int) vs
 |_,_,.nil=>.nil
 |_,_,.cons n t h=>.cons {t,rfl} (dP h)
def CP (H:Hp):Prop:=∀b,H b=none\/∃o xs,H b=some (.frz o (.lst xs))
theorem JBd {P:A9}{w:AF}{K:AP}{mg mb:Td}{CX:xX}{k:Nat}{fa a:A3}{fd:FuncData}{x:Str}{sp:Sp}{s₁:A1}{vs:Te}{ns:Th}
  (KX:K.In s₁.heap) (hns:s₁.heap.Ns mainGlobals mg) (hb:s₁.heap.Ns builtinsNs mb) (hbb:∀x:Str,x≠"__name__"->mb x=bootBuiltins x) (hlim:s₁.heap.NoLimit) (hg:s₁.gens = #[])
  (ha:s₁.heap.get? a=some {cls:=.type "list",data:=.seq vs.toArray}) (hi:IntsAre vs ns) (hl:ns.length<=sizeLine) (hr:bv k callerA)
  (F:∀base:AD,K.In base->base.Ns mainGlobals mg->b9 P w K mg base CX k fa fd [x] sp) (hbind:∀(s:A1) (u:A2),BindsTo s fd {[u],[]} [(x,u)])
  (Dy:∀H:Hp,CP H->j6 K H a (ns.map V.int)->sp [.ref a] H (λv _=>v=.bl true) λ_ _ _=>False)
  (hCX:∀H e s',CX [] H s₁ (λ_ _ _=>False) e s'->False) :
  codeAny (model P w) callerA (.call (.ref fa) {[.ref a],[]}) (λr s'=>r=.ok (.ret (.bool true))/\OldK s₁.heap s'.heap/\s'.os=s₁.os/\AllBare s'.gens) s₁:=by
 have rv:=dP hi;have lenV:=hi.length
 have core:∀H:Hp,CP H->j6 K H a (ns.map V.int)->fH P w H s₁.heap->(∀b,H b≠none->b=a)->(H a≠none->K.lookup a=none) ->
   codeAny (model P w) callerA (.call (.ref fa) {[.ref a],[]}) (λr s'=>r=.ok (.ret (.bool true))/\OldK s₁.heap s'.heap/\s'.os=s₁.os/\AllBare s'.gens) s₁:=by
  intro H E2 hS hok hA hK;have base_of:∀{b:A3} {o:As},s₁.heap.get? b=some o->H b=none->(rT s₁.heap H).get? b=some o:=λe n=>JBj e n
  have noA:∀{b:A3} {o:As} {es:AB DictEntry} {ep:Nat},s₁.heap.get? b=some o->o.data=.dict es ep->H b=none:=λ{b o es ep} e d=>by
   cases q:H b with
   |none=>rfl
   |some u=>
    have e':b=a:=hA b (by rw[q];simp);subst e';rw[ha] at e;cases e;have d':Data.seq vs.toArray _=Data.dict es ep:=d;cases d'
  have nsK:∀{b:A3} {m:Td},s₁.heap.Ns b m->(rT s₁.heap H).Ns b m:=λ{b m} ⟨o,es,ep,e,d,r⟩=>{o,es,ep,base_of e (noA e d),d,r}
  have hKb:K.In (rT s₁.heap H):=λb o e=>base_of (KX b o e) (by
   cases q:H b with
   |none=>rfl
   |some u=>
    have e':b=a:=hA b (by rw[q];simp);subst e'
    rw[hK (by rw[q];simp)] at e;cases e)
  have hM:Mod K mg (rT s₁.heap H):={hKb,nsK hns,{mb,nsK hb,hbb},let ⟨mc,h1,h2⟩:=hlim;{mc,nsK h1,h2}};have e0:wu P w K mg (rT s₁.heap H) callerA [] s₁ H:={rfl,hM,λb o e=>JCt e,Nat.le_of_eq (yV _ _),trivial,λb hb=>AH (show b∈([]:Tf) from hb) ∅,hok,.of_eq hg};refine Ej ((F _ hKb (nsK hns)).run callerA [] s₁ H {[.ref a],[]} [.ref a] [.ref a] _ _ hr e0 (hbind s₁ (.ref a)) (.cons rfl .nil) (Dy H E2 hS)) λr s' h=>?_
  cases r with
  |error e=>exact(hCX H e s' h).elim
  |ok fl=>
   cases fl with
   |next=>exact False.elim h
   |brk=>exact False.elim h
   |cont=>exact False.elim h
   |ret u=>
    let⟨v,H',os,bare,un,hok',r',q⟩:=h;have q':v=.bl true:=q;subst q';obtain rfl:u=Value.bool true:=r';refine{rfl,OldK.of_keep λb o e=>?_,os,bare}
    cases q:H b with
    |none=>exact un.keep b o e q (by intro z;exact AH (show b∈([]:Tf) from z) ∅) ∅
    |some u=>
     rcases E2 b with z|⟨ob,xs,z⟩
     ·rw[q] at z;cases z
     ·have z2:=un.frzs b ob _ z
      let⟨e1,_⟩:=hok b _ z;let⟨e2,_⟩:=hok' b _ z2;rw[e] at e1;cases e1;exact e2
 cases hk:K.lookup a with
 |some o=>
  have e:=KX a o hk;rw[ha] at e;cases e;refine core (λ_=>none) (λ_=>.inl rfl) (.inr {_,vs.toArray,_,hk,rfl,{rfl,rfl},rfl,by rw[Ba,lenV];exact hl,by simpa using rv}) (λb u z=>by have z':(none:QI HO)=some u:=z;cases z') (λb z=>AH rfl z) λz=>AH rfl z
 |none=>
  refine core (λb=>if b=a then some (.frz {cls:=.type "list",data:=.seq vs.toArray} (.lst (ns.map V.int))) else none) (λb=>?_) (.inl (.inr {{cls:=.type "list",data:=.seq vs.toArray},A8 rfl})) (λb u z=>?_) (λb z=>?_) λ_=>hk
  ·by_cases hb:b=a
   ·exact .inr {_,_,A8 hb}
   ·exact .inl (A6 hb)
  ·by_cases hb:b=a
   ·have z':=(A8 hb).symm.trans z
    cases z';subst hb;exact{ha,by rw[Ay];exact hl,vs,_,rv,ha}
   ·have z':=(A6 hb).symm.trans z
    cases z'
  ·by_cases hb:b=a
   ·exact hb
   ·exact AH (A6 hb) z
def JB3 {l:PySem.W.OpenLaw}{n k:Nat}{q:A9}{loose:Tn}{XP:(Td)->AD->Prop}{YP:AF->AD->Prop}{d:DefRec}{K:Params->AP}{CX:AF->xX}{sp:AF->Sp}{x:Str}
  (hn:l.most=some n) (hn2:n<=sizeLine) (hdf:d.params.defaults=[]) (hr:bv k callerA)
  (hY:∀(w:AF) (h:AD),YP w h->(K w.params).In h)
  (F:∀(w:AF) (mg:Td) (fa:A3) (h:AD),(K w.params).In h->h.Ns mainGlobals mg->mg d.name=some (.ref fa) ->
   ∃fd:FuncData,(∀(s:A1) (u:A2),BindsTo s fd {[u],[]} [(x,u)]) /\
    ∀base:AD,(K w.params).In base->base.Ns mainGlobals mg->b9 l.prog w (K w.params) mg base (CX w) k fa fd [x] (sp w))
  (Dy:∀(w:AF) (H:Hp) (a:A3) (ns:Th),ns.length<=n->CP H->j6 (K w.params) H a (ns.map V.int)->sp w [.ref a] H (λv _=>v=.bl true) λ_ _ _=>False)
  (hCX:∀(w:AF) (H:Hp) (s:A1) (e:A2) (s':A1),CX w [] H s (λ_ _ _=>False) e s'->False) :
  PySem.W.WalkO q loose XP YP l.row.toRowW d [] (λf vs=>PySem.call f vs):=by
 refine Att.attach_call hn hdf λw s₀ s₁ mg mb fa o pm cd doc a vs ns G Yz ho hd Ee hmg IJ hints hlen hg=>?_;have KX:=hY w _ Yz;let⟨fd,hb,hF⟩:=F w mg fa _ KX G.T.g hmg;exact JBd KX G.T.g G.T.b G.T.builtins G.T.nolimit hg IJ hints (DK hlen hn2) hr hF hb (λH E2 hS=>Dy w H a ns hlen E2 hS) λH e s'=>hCX w H s₁ e s'
def zB {l:PySem.W.OpenLaw}{n k:Nat}{q:A9}{loose:Tn}{XP:(Td)->AD->Prop}{YP:AF->AD->Prop}{d:DefRec}{K:Params->AP}{CX:xX}{sp:AP->Sp}{x:Str}
  (hn:l.most=some n) (hn2:n<=sizeLine) (hdf:d.params.defaults=[]) (hr:bv k callerA)
  (hY:∀(w:AF) (h:AD),YP w h->(K w.params).In h)
  (F:∀(w:AF) (mg:Td) (fa:A3) (h:AD),(K w.params).In h->h.Ns mainGlobals mg->mg d.name=some (.ref fa) ->
   ∃fd:FuncData,(∀(s:A1) (u:A2),BindsTo s fd {[u],[]} [(x,u)]) /\
    ∀base:AD,(K w.params).In base->base.Ns mainGlobals mg->b9 l.prog w (K w.params) mg base CX k fa fd [x] (sp (K w.params)))
  (Dy:∀(K:AP) (H:Hp) (a:A3) (ns:Th),ns.length<=n->CP H->j6 K H a (ns.map V.int)->sp K [.ref a] H (λv _=>v=.bl true) λ_ _ _=>False)
  (hCX:∀(H:Hp) (s:A1) (e:A2) (s':A1),CX [] H s (λ_ _ _=>False) e s'->False) :
  PySem.W.WalkO q loose XP YP l.row.toRowW d [] (λf vs=>PySem.call f vs) :=
 JB3 (K:=K) (CX:=λ_=>CX) (sp:=λw=>sp (K w.params)) hn hn2 hdf hr hY F (λw H a ns h1 h2 h3=>Dy (K w.params) H a ns h1 h2 h3) λ_ H s e s'=>hCX H s e s'
noncomputable def j2 (s:Ad)(j:Nat):Ad:=match s with
 |.ClassDef _ _ _ body _ _ _ _ _ _ _=>body.getD j (.Pass {0,0,0,0})
 |_=>.Pass {0,0,0,0}
noncomputable def fR (s:Ad):Arguments:=match s with
 |.FunctionDef _ a _ _ _ _ _ _ _ _=>a
 |_=>{posonlyargs:=[],args:=[],vararg:=none,kwonlyargs:=[],kw_defaults:=[],kwarg:=none,defaults:=[]}
noncomputable def bq (s:Ad):Tk:=match s with
 |.FunctionDef _ _ b _ _ _ _ _ _ _=>b
 |_=>[]
noncomputable def ai (s:Ad):Scope:=match s with
 |.FunctionDef _ _ _ _ _ _ sc _ _ _=>sc
 |_=>{kind:=.function,names:=[],isGenerator:=false,isCoroutine:=false}
abbrev j7:xX:=λ_ _ _ _ _ _=>False
abbrev JD6:XK:=λ_ _ _=>False
def oG:k9 j7 X JD6:=λ_ _ _ _ _ _ _ h=>h.elim
structure nQ (K:AP)(x qual:Str)(st:Stmt)(f:Addr)(fd:FuncData):Prop where
 ex:∃(oc:Value) (od:Option Addr) (kV doc pm:Value) (an:Option Addr) (Ah ct:Value) (Ew:Array (Tg)),
  fd=PySem.W.fnOf x qual (fR st) (bq st) (ai st) .none kV doc pm an Ah ct/\K.lookup f=some {oc,od,.func fd,Ew}/\PySem.W.codeIn K Ah qual=true
 kp:PySem.W.keepIn K (.ref f)=true
section
variable {P:A9}{w:AF}{K:AP}{mg:Td}{base:AD}
def nQ.ok {x qual:Str}{st:Ad}{f:A3}{fd:FuncData}{N ps:Tn}{k:Nat}{sp:Sp}(F:nQ K x qual st f fd)(S:aA N ps (ai st))(len:∀vs H Q E,sp vs H Q E->vs.length=ps.length)
  (An:∀(Ah:A2) (A:AE) (outer:P4 Env) (s:A1) (H:Hp) (vs:P4 V) (Q:VK) (E:XK),bv k (A.deeper (envOfC qual (ai st) s.heap.objs.size f Ah))->sp vs H Q E ->
   ∃t,nB (jf j7 P w K mg base N qual (ai st) f Ah A outer s H E).nox (bq st) t/\t {nx:=λ_ H'=>Q .non H',rt:=Q} (eW N vs) H):b9 P w K mg base j7 (k+1) f fd ps sp:=by
 let⟨oc,od,kV,doc,pm,an,Ah,ct,Ew,rfl,lk,Ee⟩:=F.ex;refine Me lk Ee S len λA outer s H vs Q E hr Dy=>?_;let⟨t,h,q⟩:=An Ah A outer s H vs Q E hr Dy;exact{t,h.nox,q}
def nQ.binds {x qual:Str}{st:Ad}{f:A3}{fd:FuncData}{ps:Tn}(F:nQ K x qual st f fd)
  (h:∀(kV doc pm:A2) (an:QI A3) (Ah ct:A2) (us:Te),us.length=ps.length->bindArgs (PySem.W.fnOf x qual (fR st) (bq st) (ai st) .none kV doc pm an Ah ct) {us,[]}=pure (ps.zip us)):fj K fd ps []:=by
 let⟨oc,od,kV,doc,pm,an,Ah,ct,Ew,rfl,lk,Ee⟩:=F.ex;exact .all (h kV doc pm an Ah ct)
def v5 {x qual:Str}{st:Ad}{f:A3}{oc:A2}{od an:QI A3}{Ew:AB (Tg)}{kV doc pm Ah ct:A2}(l:K.lookup f=some {oc,od,.func (PySem.W.fnOf x qual (fR st) (bq st) (ai st) .none kV doc pm an Ah ct),Ew})
  (c:PySem.W.codeIn K Ah qual=true) (k:PySem.W.keepIn K (.ref f)=true):nQ K x qual st f (PySem.W.fnOf x qual (fR st) (bq st) (ai st) .none kV doc pm an Ah ct):={{oc,od,kV,doc,pm,an,Ah,ct,Ew,rfl,l,c},k}
end
end L2
namespace HS
theorem JCb (xs:AB Nat)(j:Nat)(hs:xs.toList.Pairwise (·<·)):∀(fuel lo hi:Nat),hi-lo<=fuel->lo<=hi->hi<=xs.size ->
  (∀i (h:i<xs.size),i<lo->xs[i]<j)->(∀i (h:i<xs.size),hi<=i->j<=xs[i]) ->
  SetTable.below.go xs j fuel lo hi<=xs.size/\(∀i (h:i<xs.size),i<SetTable.below.go xs j fuel lo hi->xs[i]<j)/\(∀i (h:i<xs.size),SetTable.below.go xs j fuel lo hi<=i->j<=xs[i]):=by
 intro fuel
 have mono:∀i k (hi:i<xs.size) (hk:k<xs.size),i<=k->xs[i]<=xs[k]:=λi k hi hk h=>by
  rcases zcK i k with h|h
  ·have:=zbM.mp hs i k ‹hi› ‹hk› h
   simp at this;omega
  ·have:i=k:=by omega
   subst this;omega
 induction fuel with
 |zero=>
  intro lo hi hf hle hsz h1 h2
  have:lo=hi:=by omega
  subst this;exact{hsz,h1,h2}
 |succ fuel ih=>
  intro lo hi hf hle hsz h1 h2;unfold SetTable.below.go
  by_cases Al:lo<hi
  ·rw[A8 Al]
   dsimp only
   have hm:(lo+hi) / 2<xs.size:=by omega
   have hg:xs.getD ((lo+hi) / 2) j=xs[(lo+hi) / 2]:=by simp[Array.getD,hm]
   rw[hg];split
   ·rename_i hc
    exact ih _ _ ∅ ∅ hsz (λi h Dh=>Nat.lt_of_le_of_lt (mono i _ h hm ∅) hc) h2
   ·rename_i hc
    exact ih _ _ ∅ ∅ ∅ h1 (λi h Dh=>DK ∅ (mono _ i hm h Dh))
  ·rw[A6 Al]
   have:lo=hi:=by omega
   subst this;exact{hsz,h1,h2}
def uM {xs:AB Nat}(j:Nat)(hs:xs.toList.Pairwise (·<·)) :
  SetTable.below xs j<=xs.size/\(∀i (h:i<xs.size),i<SetTable.below xs j->xs[i]<j)/\(∀i (h:i<xs.size),SetTable.below xs j<=i->j<=xs[i]) :=
 JCb xs j hs xs.size 0 xs.size ∅ ∅ ∅ (λ_ _ h=>by omega) (λ_ h h'=>by omega)
def qN (t:SetTable):Prop:=t.plain=true->t.place.toList.Pairwise (·<·)
def rQ {xs:AB Nat}{j:Nat}(hs:xs.toList.Pairwise (·<·))(hn:xs[SetTable.below xs j]?≠some j):(insertAt xs (SetTable.below xs j) j).toList.Pairwise (·<·):=by
 let⟨b1,b2,b3⟩:=uM j hs;rw[toList_insertAt];generalize SetTable.below xs j=p at *;rw[List.pairwise_append];refine{hs.sublist (List.take_sublist _ _),DL.mpr {λy hy=>?_,hs.sublist (List.drop_sublist _ _)},λx hx y hy=>?_}
 ·let⟨i,hi,rfl⟩:=zcv.mp hy;rwa[zcs,Dv] at hi;rw[List.getElem_drop,zb6];have h1:=b3 (p+i) ∅ ∅;rcases Nat.lt_or_eq_of_le h1 with h|h
  ·exact h
  ·exfalso;rcases Nat.eq_zero_or_pos i with rfl|hi0
   ·exact hn (by rw[Cr ∅];rwa[Nat.add_zero] at h;rw[←h])
   ·have h2:=b3 p ∅ ∅;have h3:=zbM.mp hs p (p+i) (by simp;omega) (by simp;omega) ∅;rwa[zb6] at h3;omega
 ·let⟨i,hi,rfl⟩:=zcv.mp hx;rwa[zb5,Dv] at hi;rw[List.getElem_take,zb6];have h1:=b2 i ∅ ∅;rcases Ax.mp hy with rfl|hy
  ·exact h1
  ·let⟨k,hk,rfl⟩:=zcv.mp hy;rwa[zcs,Dv] at hk;rw[List.getElem_drop,zb6];have:=b3 (p+k) ∅ ∅;omega
theorem oz (t:SetTable)(hashAt:Nat->Int)(h:Int):∀(fuel:Nat) (p:Probe),(∀d,p.dummy=some d->t.place[SetTable.below t.place d]?≠some d) ->
  ∀j dm,probe.go t hashAt h fuel p=some (.empty j dm)->t.place[SetTable.below t.place j]?≠some j/\∀d,dm=some d->t.place[SetTable.below t.place d]?≠some d
 |0,_,_,_,_,e=>by simp[probe.go] at e
 |fuel+1,p,hp,j,dm,e=>by
  unfold probe.go at e
  have adv:∀q:Probe,(t.advance q).dummy=q.dummy:=λq=>by
   unfold advance;split <;> rfl
  split at e
  ·rename_i hs
   cases e;refine{?_,hp};intro hq;unfold SetTable.slot at hs;simp[hq] at hs
  ·rename_i hs
   refine oz t hashAt h fuel _ (λd hd=>?_) j dm e;rw[adv] at hd;cases hd;intro hq;unfold SetTable.slot at hs;simp[hq] at hs
  ·split at e
   ·cases e
   ·exact oz t hashAt h fuel _ (λd hd=>hp d (by (rw[adv] at hd;assumption))) j dm e
def pU {t:SetTable}{h:Int}{j:Nat}{b:A7}(e:t.freeSlot h=some (j,b)):t.place[SetTable.below t.place j]?≠some j:=by
 unfold freeSlot at e;split at e
 ·rename_i j' dm hp
  cases e;let⟨h1,h2⟩:=oz t _ h _ _ (by intro d hd;simp[probeStart] at hd) _ _ hp
  cases dm with
  |none=>exact h1
  |some d=>exact h2 d rfl
 ·cases e
def eQ (t:SetTable)(n:Nat):qN (t.standIn n):=λh=>by simp[standIn] at h
def rJ {t:SetTable}(es:AB (Int×A2))(h:Int)(x:A2)(r:qN t):qN (layNew t es h x).2.1/\(layNew t es h x).2.1.led=t.led:=by
 unfold layNew;split
 ·rename_i slot wd hf;dsimp only;unfold orStandIn;split
  ·refine{λhp=>?_,rfl};exact rQ (r hp) (pU hf)
  ·exact{eQ _ _,rfl}
 ·exact{eQ _ _,rfl}
def kP {mask finger moves:Nat}{led plain:A7}{hs:AB Int}{t':SetTable}{o:AB Nat}(e:laid mask finger moves led plain hs=some (t',o)):t'.place.toList.Pairwise (·<·)/\t'.led=led:=by
 unfold laid at e;rwa[bind,Option.bind,pure] at e;split at e
 ·cases e
 ·cases e;refine{?_,rfl};rw[H9,List.pairwise_filterMap];refine List.Pairwise.imp ?_ (List.pairwise_lt_range);intro a b hab x hx y hy;rwa[DX] at hx hy;let⟨_,_,rfl⟩:=hx;let⟨_,_,rfl⟩:=hy;exact hab
def oj (t:SetTable)(es:AB (Int×A2))(wanted:Nat):qN (relayAll t es wanted).2.1/\(relayAll t es wanted).2.1.led=t.led:=by
 unfold relayAll;split
 ·rename_i t' order h;dsimp only;split
  ·exact{λ_=>(kP h).1,(kP h).2}
  ·exact{eQ _ _,rfl}
 ·exact{eQ _ _,rfl}
open PyProof.Rows
noncomputable def val (e:Int×A2):Int:=match e.2 with|.int n _=>n|_=>0
def JO (e:Int×A2):Prop:=∃n t,e=(hashInt n,.int n t)
structure cO (led:Bool)(es:Array (Int×Value))(t:SetTable)(xs:Th):Prop where
 el:∀e∈es.toList,JO e
 pm:(es.toList.map val).Perm xs
 nd:xs.Nodup
 bd:es.size<scanBound
 ft:t.fits es.size=true
 rs:qN t
 ld:t.led=led
structure nA (led:Bool)(es:Array (Int×Value))(t:SetTable):Prop where
 bd:es.size<scanBound
 ft:t.fits es.size=true
 rs:qN t
 ld:t.led=led
def cO.w {led:A7}{es:AB (Int×A2)}{t:SetTable}{xs:Th}(g:cO led es t xs):nA led es t:={g.bd,g.ft,g.rs,g.ld}
def cR (led:A7)(o:As)(xs:Th):Prop:=∃es ep t,o.ExactSet/\o.data=.set es ep t/\cO led es t xs
def cR.len {led:A7}{es:AB (Int×A2)}{t:SetTable}{xs:Th}(g:cO led es t xs):es.size=xs.length:=by have:=g.pm.length_eq;simpa using this
def GH {prog:A9}{l:P4 (Int×A2)}(h:∀e∈l,JO e):ElemsOf (intKind prog w) l:=λe he=>by let⟨n,t,rfl⟩:=h e he;exact{{n,intKind_is _ _ _ _,rfl},rfl}
def BQ {prog:A9}{e:Int×A2}(h:JO e)(k:Int):(intKind prog w).is k e.2=true ↔ val e=k:=by let⟨n,t,rfl⟩:=h;simp[intKind,Value.isInt,val]
section
variable {prog:A9}{w:AF}{A:AE}{E:Tb}{s:A1}
noncomputable def cC (xs:Th)(k:Int):Th:=if k∈xs then xs else xs++[k]
def oA {xs:Th}{k:Int}(h:xs.Nodup):(cC xs k).Nodup:=by
 unfold cC;split
 ·exact h
 ·rename_i hk;rw[EI];exact{h,by simp,λa ha b hb=>by simp at hb;subst hb;exact λe=>hk (e ▸ ha)}
def dZ {a:A3}{o:As}{es BW:AB (Int×A2)}{ep:Nat}{t t':SetTable}{Q:Unit->A1->Prop}(ho:s.heap.get? a=some o)(hx:o.ExactSet)(hd:o.data=.set es ep t)
  (hb:BW.size<scanBound)
  (h:∀h',Heap.SameBut a s.heap h'->h'.get? a=some {o with data:=.set BW (ep+1) t'}->Q () {s with heap:=h'}):wpAny (model prog w) A (storeSet a BW t') Q E s:=by
 refine wpAny_storeSet_of ho hd (h _ (Heap.SameBut.update s.heap a _) ?_) (fits_of_scanBound hb);have q:=Di (Obj.putSet BW t') ho (by rw[putSet_of BW t' hd];rfl)
 (rw[putSet_of BW t' hd] at q;assumption)
def xz {g:A7->Sem Unit}(hg:g=λb=>match b with|true=>rule "set.scan.the-table-gave-way" | false=>pure ()){b:A7}{Q:Unit->A1->Prop}(h:Q () s):wpAny (model prog w) A (g b) Q E s:=by
 subst hg;cases b
 ·exact AJ h
 ·exact Eu h
theorem CL {a:A3}{led:A7}{o:As}{xs:Th}{k:Int}{tk:Tok}{Q:A7->A1->Prop}(ho:s.heap.get? a=some o)(hS:cR led o xs)(Hn:xs.length+1<scanBound)
  (h:∀h' o' b,Heap.SameBut a s.heap h'->h'.get? a=some o'->cR led o' (cC xs k)->Q b {s with heap:=h'}) :
  wpAny (model prog w) A (setAddHashed a (.int k tk) (hashInt k)) Q E s:=by
 let⟨es,ep,t,hx,hd,G⟩:=hS;have hlen:=cR.len G;unfold setAddHashed setAddHashedIn;refine By (AA (C5 ho hd G.ft ?_));dsimp only;rw[byScan_of (knd:=intKind prog w) (x:=.int k tk) rfl G.bd (GH G.el),A8 rfl];unfold setAddByScan;refine AA (AA (Eu (AA ?_)));refine wpAny_setScan_of (knd:=intKind prog w) (k:=k) (intKind_is _ _ _ _) ho hd G.ft (GH G.el) ?_
 cases hr:List.findIdx? (λe=>(intKind prog w).is k e.2) es.toList with
 |some j=>
  let⟨hj,hpj,_⟩:=List.findIdx?_eq_some_iff_getElem.mp hr
  have IV:k∈xs:=by
   refine G.pm.mem_iff.mp (Bm.mpr {_,HR hj,?_});exact(BQ (G.el _ (HR hj)) k).mp hpj
  dsimp only;refine AJ (AJ ?_);have:=h s.heap o false (Heap.SameBut.refl a s.heap) ho
  unfold cC at this
  rw[A8 IV] at this
  have e:s={s with heap:=s.heap}:=by cases s;rfl
  rw[e];exact this {es,ep,t,hx,hd,G}
 |none=>
  have IH:k∉xs:=λhk=>by
   let⟨e,he,hv⟩:=Bm.mp (G.pm.mem_iff.mpr hk);have:=List.findIdx?_eq_none_iff.mp hr e he;rw[(BQ (G.el e he) k).mpr hv] at this;cases this
  dsimp only;have p1:=layNew_perm t es (hashInt k) (.int k tk);have f1:=layNew_fits t es (hashInt k) (.int k tk);have r1:=rJ es (hashInt k) (.int k tk) G.rs;generalize hL:layNew t es (hashInt k) (.int k tk)=L at p1 f1 r1;let⟨CI,t1,wd,gv⟩:=L;have hL':layNew t es ((intKind prog w).hash k) (.int k tk)=(CI,t1,wd,gv):=hL
  try rw[hL']
  dsimp only at p1 f1 r1 ⊢;rw[Array.toList_push] at p1
  have G1:cO led CI t1 (cC xs k):=by
   have hm:(CI.toList.map val).Perm (xs++[k]):=by
    refine(p1.map val).trans ?_;rw[Cy];exact G.pm.append (List.Perm.refl _)
   have hsz:CI.size=xs.length+1:=by have:=hm.length_eq;simpa using this
   refine{λe he=>?_,?_,oA G.nd,by omega,f1,r1.1,r1.2.trans G.ld}
   ·rcases DI.mp (p1.mem_iff.mp he) with he|he
    ·exact G.el e he
    ·rw[Bg] at he;exact{k,tk,he}
   ·unfold cC;rw[A6 IH];exact hm
  refine AA (xz rfl ?_)
  have tail:∀t2,t2=t1->wpAny (model prog w) A (do
    storeSet a CI t2
    if (!wd&&t2.tooFull)=true then do
      (match (relayAll t2 CI (grown CI.size)).2.2 with|true=>rule "set.scan.the-table-gave-way" | false=>pure ())
      storeSet a (relayAll t2 CI (grown CI.size)).1 (relayAll t2 CI (grown CI.size)).2.1
      pure (some true)
     else pure (some true)) (λr s'=>wpAny (model prog w) A (match r with|some added=>pure added|none=>setAddHashedIn a (.int k tk) ((intKind prog w).hash k) 99999) Q E s') E s:=by
   intro t2 ht2;subst ht2;refine AA (dZ ho hx hd G1.bd λh1 b1 g1=>?_);split
   ·have p2:=relayAll_perm t2 CI (grown CI.size)
    have f2:=relayAll_fits t2 CI (grown CI.size);have r2:=oj t2 CI (grown CI.size);generalize relayAll t2 CI (grown CI.size)=Rl at p2 f2 r2 ⊢;let⟨es2,t3,gv2⟩:=Rl;dsimp only at p2 f2 r2 ⊢
    have hsz:es2.size=CI.size:=by have:=p2.length_eq;simpa using this
    refine AA (xz (g:=λb=>match b with|true=>rule "set.scan.the-table-gave-way" | false=>pure ()) rfl ?_);refine AA (dZ (s:={s with heap:=h1}) g1 hx rfl (by rw[hsz];exact G1.bd) λh2 b2 g2=>AJ (AJ ?_));refine h h2 _ true (b1.trans b2) g2 {es2,_,t3,hx,rfl,λe he=>G1.el e (p2.mem_iff.mp he),(p2.map val).trans G1.pm,G1.nd,by rw[hsz];exact G1.bd,f2,r2.1,r2.2.trans G1.ld}
   ·exact AJ (AJ (h h1 _ true b1 g1 {CI,_,t2,hx,rfl,G1}))
  split
  ·refine AA ?_
   rw[hashByValue_scannable 8 (x:=.int k tk) rfl];exact AJ (tail _ rfl)
  ·exact AA (AJ (tail _ rfl))
end
def sV:isSubtype (.type "tuple") (.type "set")=pure false:=by rw[isSubtype_type];kernel_rfl
def sW:isSubtype (.type "tuple") (.type "frozenset")=pure false:=by rw[isSubtype_type];kernel_rfl
def oB (xs:Th)(k:Int):(cC xs k).length<=xs.length+1:=by unfold cC;split <;> simp
noncomputable def aK (xs:Th)(ns:Th):Th:=ns.foldl cC xs
abbrev bc (led:A7):As:={cls:=.type "set",dict:=none,data:=.set #[] 0 (.fresh 0 0 led)}
def iN (led:A7):cR led (bc led) [] :=
 {#[],0,_,{rfl,rfl,rfl},rfl,{λ_ h=>by simp at h,List.Perm.refl _,zcl,by decide,by rfl,λ_=>List.Pairwise.nil,rfl}}
section
variable {prog:A9}{w:AF}{A:AE}{R:Result->A1->Prop}{I:A3}{fp wr:Tf}{G:AB GenState->AB GenState->Prop}{n:Nat}{P:Nat->A2->Prop}{St:Nat->A1->Prop}
theorem mM (W:WalksS prog w A.in1 I fp wr G n P St)(S:A3)(Bx:S∉fp){led:A7}(ms:Th)(hms:ms.length=n)(hval:∀i v,P i v->∃t,v=.int (ms.getD i 0) t) :
  ∀(k i:Nat) (s:A1) (o:As) (xs:Th),n-i=k->i<=n->St i s->s.heap.get? S=some o->cR led o xs->xs.length+k+1<scanBound ->
   (∀s' o',Moved (S::wr) G s s'->s'.heap.get? S=some o'->cR led o' (aK xs (ms.drop i))->R (.ok (.ret .none)) s') ->
   codeAny (model prog w) A (.builtin "set.update.loop" {[.ref S,.ref I],[]}) R s:=by
 have nw:S∉wr:=λh=>Bx (W.sub _ h);have up:∀b∈wr,b∈S::wr:=λb hb=>BR _ hb;intro k
 induction k with
 |zero=>
  intro i s o xs hk hi D7 ho hS hb hR
  have IV:i=n:=by omega
  subst IV;refine DW F.entry_set_update_loop ?_;rw[Dw F.plain_set_update_loop _];refine(show wpAny _ A.in1 (pyNext (.ref I) >>= _) _ _ s from AA (W.done s _ _ D7 λs' hm=>?_));refine(show wpAny _ A.in1 (ret Value.none) _ _ s' from AJ (hR s' o (hm.mono up) (hm.heap S _ nw ho) ?_));rw[zcq ∅];exact hS
 |succ k ih=>
  intro i s o xs hk hi D7 ho hS hb hR
  have Al:i<n:=by omega
  refine DW F.entry_set_update_loop ?_;rw[Dw F.plain_set_update_loop _];refine(show wpAny _ A.in1 (pyNext (.ref I) >>= _) _ _ s from AA (W.item i s _ _ Al D7 λv s' hP hst' hm=>?_));let⟨t,rfl⟩:=hval i v hP;have D8:=hm.heap S _ nw ho;refine(show wpAny _ A.in1 (holding [Value.int (ms.getD i 0) t] (setAdd S (.int (ms.getD i 0) t)) >>= _) _ _ s' from AA (By ?_));unfold setAdd;refine By (AA ((intKind prog w).pyHash (k:=ms.getD i 0) (intKind_is _ _ _ _) ?_));refine CL (s:={s' with toks:=s'.toks+1}) D8 hS ∅ λh' o' _ Dz G5 E0=>?_
  have DB:ms.drop i=ms.getD i 0::ms.drop (i+1):=by
   have hl:i<ms.length:=by omega
   rw[zbl hl];simp[List.getD,hl]
  refine AJ {Ep F.plain_set_update_loop _,ih (i+1) _ o' _ ∅ Al (W.frame _ s' _ _ hst' (HA _) λb hb o e=>?_) G5 E0 (by have:=oB xs (ms.getD i 0);omega) λs2 o2 hm2 q2 g2=>?_}
  ·rw[Dz.2 b (λh:b=S=>Bx (h ▸ hb))];exact e
  ·refine hR s2 o2 (Moved.trans W.gtrans ((hm.mono up).then_heap (HA _) λb o hb e=>?_) hm2) q2 (by rw[DB];exact g2)
   rw[Dz.2 b (λh:b=S=>hb (by rw[h];exact BG))];exact e
end
section
variable {prog:A9}{w:AF}{A:AE}{E:Tb}{s:A1}
def IR (a:A2){Q₁:Tb}(h:Q₁ (.ref s.heap.objs.size) {s with heap:=s.heap.push (bc (!w.params.followText "set-order"))}) :
  codeAny (model prog w) A (.call (.builtin "set.__new__") {[.type "set",a],[]}) (wants Q₁ E) s:=by
 refine zcw (show wpAny _ A.in1 (do checkBuiltinCall "set.__new__" {[.type "set",a],[]};again (.builtin "set.__new__" {[.type "set",a],[]})) _ _ s from ?_);refine AA (zcR (F.newCall_set_1 a) (AJ {Ep F.plain_set_new _,DW F.entry_set_new ?_}));rw[Dw F.plain_set_new _];have IC:=sub_set_self;unfold Builtin.«set.__new__» Builtin.Frozenset.newClass;obtain⟨hp,g,d,tk,os⟩:=s;dsimp only;wp_walk;refine Es (AJ ?_);dsimp only;rwa[newObj];exact AA (wpAny_alloc (AJ (AJ h)))
set_option maxHeartbeats 3200000 in
theorem s9 {l:A3}{ol io:As}{cn:String}{P:A7->AD->As->Prop}{Q:Tb}(G3:s.heap.get? l=some ol)(Ck:ol.cls=.type cn)
  (hs1:isSubtype (.type cn) (.type "set")=pure false) (hs2:isSubtype (.type cn) (.type "frozenset")=pure false) (Bd:(Value.type cn == Value.type "dict")=false)
  (hpy:∀(t:A1) (A':AE) (E':Tb) (Q':Tb),t.heap.get? l=some ol->Q' (.ref t.heap.objs.size) {t with heap:=t.heap.push io}->wpAny (model prog w) A' (pyIter (.ref l)) Q' E' t)
  (EZ:∀(led:A7) (R':Result->A1->Prop),l≠(s.heap.push (bc led)).objs.size->s.heap.objs.size∉[(s.heap.push (bc led)).objs.size,l] ->
   (∀s' o',Moved [s.heap.objs.size,(s.heap.push (bc led)).objs.size] (λa b=>b=a) {s with heap:=(s.heap.push (bc led)).push io} s'->s'.heap.get? s.heap.objs.size=some o'->P led s'.heap o'->R' (.ok (.ret .none)) s') ->
   codeAny (model prog w) A.in1.in1 (.builtin "set.update.loop" {[.ref s.heap.objs.size,.ref (s.heap.push (bc led)).objs.size],[]}) R' {s with heap:=(s.heap.push (bc led)).push io})
  (h:∀(h':AD) (tk:Nat) (o:As),h'.get? s.heap.objs.size=some o->P (!w.params.followText "set-order") h' o ->
   (∀b o,s.heap.get? b=some o->h'.get? b=some o)->s.toks<=tk->Q (.ref s.heap.objs.size) {s with heap:=h',toks:=tk}) :
  wpAny (model prog w) A (call (.type "set") [.ref l]) Q E s:=by
 obtain⟨c,tl,hmro⟩:=F.called_set.mro;have hmade:=F.called_set.made;have IC:=F.called_set.sub;refine wpAny_call (zcw (show wpAny _ _ (callAny (.type "set") _) _ _ _ from ?_));refine AJ {Code.quiet_builtin _ ∅,DW F.entry_type_call ?_};rw[Around.under_plain (weight_type_call_type "set" [.ref l] []) rfl];have h1:=F.called_set.notType;have h2:=F.called_set.canCreate;have hct:=F.typeCall_set_1 (.ref l)
 repeat (any_goals (first|assumption|wp_step))
 refine Ej (IR (.ref l) (E:=E) (Q₁:=λobj s₁=>obj=.ref s.heap.objs.size/\s₁={s with heap:=s.heap.push (bc (!w.params.followText "set-order"))}) {rfl,rfl}) λr s₁ hr=>?_;generalize DA:(!w.params.followText "set-order")=led at *
 cases r with
 |error e=>exact hr
 |ok fl=>
  cases fl with
  |ret obj=>
   obtain⟨rfl,rfl⟩:=hr;have hS:(s.heap.push (bc led)).get? s.heap.objs.size=some (bc led):=BI _ rfl;have hT:Shared.TypeIs {s with heap:=s.heap.push (bc led)} (.ref s.heap.objs.size) "set":={_,hS,rfl};have hli:=F.called_set.init.lookup;have hbi:=F.called_set.init.bind (.ref s.heap.objs.size)
   repeat (any_goals (first|assumption|wp_step))
   refine Ej (zcx (R:=wants (λr s₂=>r=.none/\∃h' tk o,s₂={s with heap:=h',toks:=tk}/\h'.get? s.heap.objs.size=some o/\P led h' o /\
     (∀b o,s.heap.get? b=some o->h'.get? b=some o)/\s.toks<=tk) E) F.called_set.init.plain F.entry_set_init (check_set_init_1 hT ?_)) λr₂ s₂ IF=>?_
   ·let⟨ocls,odict,odata,Hy⟩:=ol
    simp only at Ck;subst Ck;have hol':(s.heap.push (bc led)).get? l=some {cls:=.type cn,dict:=odict,data:=odata,slots:=Hy}:=Am _ G3;unfold Builtin.«set.__init__» noKeywords Builtin.Frozenset.updateFrom;generalize hPI:pyIter=PI
    wp_walk;subst hPI
    refine hpy _ _ _ _ hol' (AA (wpAny_runValue ?_));have hlS:l<s.heap.objs.size:=Av G3
    refine EZ led _ (by rw[DZ];exact BE (zbB hlS)) (by
     rw[DZ];rwa[Ax,Dk,or_false,not_or]
     exact{BE (zbO _),D2 hlS}) λs' o' hm D8 Ef=>?_
    let⟨h',g',d',Bn,Hz⟩:=s';have eg:g'=s.gens:=hm.gens;have ed:d'=s.drawn:=hm.drawn;have eo:Hz=s.os:=hm.os;subst eg;subst ed;subst eo;refine(show wpAny _ _ _ _ _ _ from AJ (show wpAny _ _ (ret Value.none) _ _ _ from AJ {rfl,h',Bn,o',rfl,D8,Ef,λb o e=>?_,hm.toks}));have hbs:=Av e;refine hm.heap b o ?_ (Am _ (Am _ e));rw[DZ];rwa[Ax,Dk,or_false,not_or];exact{BE hbs,BE (zbB hbs)}
   ·cases r₂ with
    |error e=>exact IF
    |ok fl2=>
     cases fl2 with
     |ret r=>
      let⟨rfl,h',tk,o,rfl,ho,Ef,Cj,ht⟩:=IF
      repeat (any_goals (first|assumption|wp_step))
      exact h _ _ o ho Ef Cj ht
     |_=>exact IF.elim
  |_=>exact hr.elim
def JDs {l:A3}{its:Ti}{ns:Th}{Q:Tb}
  (hh:A.handled=none) (hl:s.heap.IsTuple l its) (hi:IntsAre its.toList ns) (hb:its.size+1<scanBound)
  (h:∀(h':AD) (tk:Nat) (o:As),h'.get? s.heap.objs.size=some o->cR (!w.params.followText "set-order") o (aK [] ns) ->
   (∀b o,s.heap.get? b=some o->h'.get? b=some o)->s.toks<=tk->Q (.ref s.heap.objs.size) {s with heap:=h',toks:=tk}) :
  wpAny (model prog w) A (call (.type "set") [.ref l]) Q E s:=by
 have hh3:A.in1.in1.in1.handled=none:=by simp[hh]
 have hl0:=hl;let⟨ol,G3,Ck,nl,hdl⟩:=hl;refine s9 (P:=λled _ o=>cR led o (aK [] ns)) G3 Ck sV sW ∅ (λt A' E' Q' e q=>wpAny_pyIter_tuple {_,e,Ck,nl,hdl} q) (λled R' IL Bx k=>?_) h
 exact mM ((Walks.tuple hh3 _ l IL its).toS) s.heap.objs.size Bx (led:=led) ns (by have:=IntsAre.length hi;simpa using this.symm)
  (λi v hv=>IntsAre.int_at hi i v (by rw[Hc];exact hv)) (its.size-0) 0 _ (bc led) [] ∅ (DH _)
  {{_,BI _ rfl,rfl,rfl},hl0.at λo e=>Am _ (Am _ e)} (Am _ (BI _ rfl)) (iN led) ‹hb› k
end
def bh:Slot "set_iterator" "__next__" "set_iterator.__next__":=by
 refine .of (owner:="set_iterator") (n:="__next__") ?_ ∅ ∅ ∅ ?_ ?_
 ·rw[zce,zbI];kernel_rfl
 ·first|exact .inl ∅|exact .inr ∅
 ·rw[isSubtype_type];kernel_rfl
def eU:entryFor table "set_iterator.__next__" = some Builtin.«set_iterator.__next__»:=entryFor_of_tree (by kernel_rfl)
def fS (a:A2):argsOk "set_iterator.__next__" {[a],[]}:=by unfold argsOk;kernel_rfl
def sj:entryFor table "set.__iter__" = some Builtin.«frozenset.__iter__» :=
 entryFor_alias (id':="frozenset.__iter__") (by kernel_rfl) (by first|rfl|decide) ∅ (by kernel_rfl)
theorem kU {Z:Type}:∀{l:P4 Z} {i:Nat} (h:i<l.length),(l[i]::l.eraseIdx i).Perm l
 |x::xs,0,_=>by simp
 |x::xs,i+1,h=>by rwa[List.getElem_cons_succ,List.eraseIdx_cons_succ];exact(List.Perm.swap _ _ _).trans ((kU ‹h›).cons x)
section
variable {Z:Type}{M:Model}{A:AE}{E:Tb}{s:A1}
def zg {src:Source}{n:Nat}{Q:Nat->A1->Prop}(hn:0<n)(h:∀i d,i<n->Q i {s with drawn:=d}):wpAny M A (choose src n) Q E s :=
 λ_ _ _=>{Nat.pos_iff_ne_zero.mp hn,h _ _ (Nat.mod_lt _ hn)}
theorem JEc (n:Nat):∀(xs:P4 Z) (s:A1) (Q:P4 Z->A1->Prop),xs.length=n->(∀ys d,ys.Perm xs->Q ys {s with drawn:=d})->wpAny M A (drawOrder n xs) Q E s:=by
 induction n with
 |zero=>
  intro xs s Q hl h;have e:xs=[]:=zcm.mp hl;subst e;exact AJ (h [] s.drawn (List.Perm.refl _))
 |succ n ih=>
  intro xs s Q hl h
  cases xs with
  |nil=>cases hl
  |cons x xs=>
   unfold drawOrder;refine AA (zg ∅ λi d hi=>?_);rw[Bl hi];dsimp only;refine AA (ih _ _ _ (by rw[List.length_eraseIdx_of_lt hi];simp at hl;simp;omega) λys d' hp=>AJ ?_);exact h _ d' ((hp.cons _).trans (kU hi))
end
abbrev bt (w:AF):A7:=w.params.followText "set-order"
noncomputable def jB (f:A2)(i:Nat)(a:A3)(n ep:Nat):As:={cls:=.type "set_iterator",data:=.fields #[f,.int i 0,.ref a,.int n 0,.int ep 0]}
def BO {s:A1}{I:A3}{f:A2}{i:Nat}{a:A3}{n ep:Nat}(h:s.heap.get? I=some (jB f i a n ep)):s.TypeIs (.ref I) "set_iterator":={_,h,rfl}
def JCc {t:SetTable}(r:t.place.toList.Pairwise (·<·))(i:Nat)(hi:i<=t.place.size):SetTable.below t.place (if h:0<i then t.place[i-1]'∅+1 else 0)=i:=by
 let⟨b1,b2,b3⟩:=uM (if h:0<i then t.place[i-1]'∅+1 else 0) r;generalize hB:SetTable.below t.place (if h:0<i then t.place[i-1]'∅+1 else 0)=B at *;have lt:∀(x y:Nat) (hx:x<t.place.size) (hy:y<t.place.size),x<y->t.place[x]<t.place[y]:=λx y hx hy hxy=>by have:=zbM.mp r x y ‹hx› ‹hy› hxy;simpa using this
 rcases Nat.lt_trichotomy B i with h|h|h
 ·exfalso;have hp:0<i:=by omega
  rwa[hp,dite_true] at b3;have h1:=b3 B ∅ (Ao _);rcases zcK B (i-1) with h2|h2
  ·have:=lt B (i-1) ∅ ∅ h2;omega
  ·have:B=i-1:=by omega
   subst this;omega
 ·exact h
 ·exfalso;have h1:=b2 i ∅ h;by_cases hp:0<i
  ·rwa[hp,dite_true] at h1;have:=lt (i-1) i ∅ ∅ ∅;omega
  ·rwa[hp,dite_false] at h1;omega
section
variable {prog:A9}{w:AF}{A:AE}{E:Tb}{s:A1}
def vI {led:A7}{a:A3}{o:As}{es:AB (Int×A2)}{ep:Nat}{t:SetTable}{i:Nat}{Q:QI (A2×Nat)->A1->Prop}(hb:bt w=false)(hl:led=true)
  (ho:s.heap.get? a=some o) (hd:o.data=.set es ep t) (G:nA led es t) (Cw:(!t.plain&&decide (es.size>1))=false) (hi:i<=es.size) (hp:t.place.size=es.size)
  (h:Q (if Al:i<es.size then some (es[i].2,t.place[i]+1) else none) s) :
  wpAny (model prog w) A (setNext a (if h:0<i then t.place[i-1]'∅+1 else 0) i ep) Q E s:=by
 have r:t.place.toList.Pairwise (·<·):=by
  cases hpl:t.plain with
  |true=>exact G.rs hpl
  |false=>
   have h1:¬ es.size>1:=by simpa[hpl] using Cw
   have:t.place.toList.length<=1:=by simp;omega
   match hq:t.place.toList,this with
   |[],_=>exact List.Pairwise.nil
   |[x],_=>exact zcn _ _
 unfold setNext;refine AA (C5 ho hd G.ft ?_);dsimp only;unfold setsByText;refine AA (AA (Es (AJ ?_)));dsimp only;rw[show((model prog w).w.params.followText "set-order")=false from hb];simp only[C8,↓reduceIte];split
 ·rename_i hc
  have:(!t.plain&&decide (es.size>1))=true:=hc;rw[Cw] at this;cases this
 ·refine AA (show wpAny _ _ (if (!t.led&&!es.isEmpty)=true then unsupported "set:maker-not-led" else pure ()) _ _ _ from ?_)
  rw[A6 (by rw[G.ld,hl];simp)];refine AJ ?_;rw[JCc r i ∅];refine AJ ?_
  by_cases Al:i<es.size
  ·have h2:i<t.place.size:=by omega
   rw[dif_pos Al] at h;rw[Cr Al,Cr h2];exact h
  ·rw[dif_neg Al] at h
   rw[zcr ∅];exact h
theorem xf {Z:Type}(nx:Nat->Nat):∀(fuel k:Nat) (left:P4 Z) (out:AB Z),left.length=fuel->(pickOrder.go nx fuel k left out).toList.Perm (out.toList++left)
 |0,k,[],out,_=>by unfold pickOrder.go;simp
 |fuel+1,k,x::xs,out,hl=>by unfold pickOrder.go;have Al:nx k%(x::xs).length<(x::xs).length:=Nat.mod_lt _ ∅;generalize nx k%(x::xs).length=j at Al;rw[Bl Al];dsimp only;refine(xf nx fuel (k+1) _ _ (by rw[List.length_eraseIdx_of_lt Al];simp at hl;simp;omega)).trans ?_;rw[Array.toList_push,Bf];exact(List.Perm.refl _).append (kU Al)
def mi {Z:Type}(nx:Nat->Nat)(xs:AB Z):(pickOrder nx xs).toList.Perm xs.toList:=by have:=xf nx xs.size 0 xs.toList #[] ∅;simpa[pickOrder] using this
def yE {led:A7}{a:A3}{o:As}{es:AB (Int×A2)}{ep:Nat}{t:SetTable}{sl i:Nat}{Q:QI (A2×Nat)->A1->Prop}(hb:bt w=true)
  (ho:s.heap.get? a=some o) (hd:o.data=.set es ep t) (G:nA led es t)
  (h:Q (((pickOrder (w.params.setOrder a ep) es)[i]?).map λe=>(e.2,sl)) s) :
  wpAny (model prog w) A (setNext a sl i ep) Q E s:=by
 unfold setNext;refine AA (C5 ho hd G.ft ?_);dsimp only;unfold setsByText;refine AA (AA (Es (AJ ?_)));dsimp only;rw[show((model prog w).w.params.followText "set-order")=true from hb];simp only[bne_self_eq_false,C8,↓reduceIte];unfold setWalk setsByText;refine AA (AA (C5 ho hd G.ft (AA (AA (Es (AJ ?_))))));dsimp only;rw[show((model prog w).w.params.followText "set-order")=true from hb];simp only[↓reduceIte];refine AA (Es (AJ (AJ ?_)));exact h
end
section
variable {prog:A9}{w:AF}{A:AE}{E:Tb}{s:A1}
def xR {M:Model}{E:Tb}{s:A1}{A:AE}{Q:Fin->A1->Prop}(hh:A.handled=none)
  (h:∀h' a,(∀b o,s.heap.get? b=some o->h'.get? b=some o)->Shared.TypeIs {s with heap:=h'} (.ref a) "StopIteration"->E (.ref a) {s with heap:=h'}) :
  wpAny M A (newExc (.type "StopIteration") [] >>=λe=>raiseNew e) Q E s:=by
 refine AA ?_;rwa[newExc,newTuple];refine AA (Cu ?_ (by size_fits));refine AA (m:=firstArgMember _ _) (zcR (a:=Value.none) (by first|rfl|(rwa[firstArgMember];rfl)) ?_);refine Cu ?_ (by size_fits);rwa[raiseNew];refine AA (wpAny_handled ?_);rw[hh];refine AA (AJ (wpAny_throw (h _ _ (λb o e=>Am _ (Am _ e)) ?_)));exact{_,BI _ rfl,rfl}
def JEr {led:A7}{I a:A3}{o:As}{es:AB (Int×A2)}{ep:Nat}{t:SetTable}{i sl sl':Nat}{x:A2}{Q:QI A2->A1->Prop}
  (hI:s.heap.get? I=some (jB (.int sl 0) i a es.size ep)) (ho:s.heap.get? a=some o) (hd:o.data=.set es ep t) (G:nA led es t)
  (hnx:∀A' E' (Q':QI (A2×Nat)->A1->Prop),Q' (some (x,sl')) s->wpAny (model prog w) A' (setNext a sl i ep) Q' E' s)
  (h:∀h',h'.get? I=some (jB (.int sl' 0) (i+1) a es.size ep)->Heap.SameBut I s.heap h'->Q (some x) {s with heap:=h'}):wpAny (model prog w) A (pyNext (.ref I)) Q E s:=by
 unfold pyNext;refine AA (Hd (HB (name:=Str.ofString "__next__") (BO hI) bh (Co bh (BO hI) eU ?_ (fS _))));unfold Builtin.«set_iterator.__next__»;refine AA (show wpAny _ _ (pure (Value.ref I,([]:Te))) _ _ _ from AJ ?_);refine AA (Hf hI rfl ?_);dsimp only;unfold setEntries;refine AA (AA (C5 ho hd G.ft (AJ ?_)));dsimp only;rw[A6 ∅];refine AA (show wpAny _ _ (setNext a sl i ep) _ _ _ from hnx _ _ _ ?_);dsimp only;refine AA (He hI rfl ∅ ?_);have h1:=Di (Obj.mapFields (·.setIfInBounds 0 (rawInt (sl':Int)))) hI rfl;refine AA (He (s:={s with heap:=_}) h1 rfl ∅ ?_);have h2:=Di (Obj.mapFields (·.setIfInBounds 1 (rawInt ((i:Int)+1)))) h1 rfl;refine AJ {x,rfl,AJ (h _ (h2.trans ?_) ((Heap.SameBut.update ..).trans (Heap.SameBut.update ..)))};rfl
def Ji {led:A7}{I a:A3}{o:As}{es:AB (Int×A2)}{ep:Nat}{t:SetTable}{i sl:Nat}{Q:QI A2->A1->Prop}(hh:A.handled=none)
  (hI:s.heap.get? I=some (jB (.int sl 0) i a es.size ep)) (ho:s.heap.get? a=some o) (hd:o.data=.set es ep t) (G:nA led es t)
  (hnx:∀A' E' (Q':QI (A2×Nat)->A1->Prop),Q' none s->wpAny (model prog w) A' (setNext a sl i ep) Q' E' s)
  (h:∀h',(∀b o,b∉[I]->s.heap.get? b=some o->h'.get? b=some o)->Q none {s with heap:=h'}):wpAny (model prog w) A (pyNext (.ref I)) Q E s:=by
 unfold pyNext;refine AA (Hd (HB (name:=Str.ofString "__next__") (BO hI) bh (Co bh (BO hI) eU ?_ (fS _))));unfold Builtin.«set_iterator.__next__»;refine AA (show wpAny _ _ (pure (Value.ref I,([]:Te))) _ _ _ from AJ ?_);refine AA (Hf hI rfl ?_);dsimp only;unfold setEntries;refine AA (AA (C5 ho hd G.ft (AJ ?_)));dsimp only;rw[A6 ∅];refine AA (show wpAny _ _ (setNext a sl i ep) _ _ _ from hnx _ _ _ ?_);dsimp only;refine AA (He hI rfl ∅ ?_);refine xR (show A.in1.handled=none from hh) λh' b kp hT=>?_;refine AA (HQ (T:="StopIteration") (b:=true) hT isSubtype_stop ?_);exact AJ (h _ λb o hb e=>kp b o (by rw[D0 _ _ (λq:I=b=>hb (by simp[q]))];exact e))
def JBg {led:A7}{I a tp:A3}{o:As}{es:AB (Int×A2)}{ep:Nat}{t:SetTable}{i:Nat}{pl:P4 Nat}{x:Int×A2}{p:Nat}{Q:QI A2->A1->Prop}
  (hI:s.heap.get? I=some (jB (.ref tp) i a es.size ep)) (htp:s.heap.get? tp=some {cls:=.type "tuple",data:=.seq (pl.map λi:Nat=>rawInt i).toArray})
  (ho:s.heap.get? a=some o) (hd:o.data=.set es ep t) (G:nA led es t) (hp:pl[i]?=some p) (hx:es[p]?=some x)
  (h:∀h',h'.get? I=some (jB (.ref tp) (i+1) a es.size ep)->Heap.SameBut I s.heap h'->Q (some x.2) {s with heap:=h'}):wpAny (model prog w) A (pyNext (.ref I)) Q E s:=by
 unfold pyNext;refine AA (Hd (HB (name:=Str.ofString "__next__") (BO hI) bh (Co bh (BO hI) eU ?_ (fS _))));unfold Builtin.«set_iterator.__next__»;refine AA (show wpAny _ _ (pure (Value.ref I,([]:Te))) _ _ _ from AJ ?_);refine AA (Hf hI rfl ?_);dsimp only;unfold setEntries;refine AA (AA (C5 ho hd G.ft (AJ ?_)));dsimp only;rw[A6 ∅];refine AA (zcD htp rfl ?_);dsimp only
 have hq:(pl.map λi:Nat=>rawInt i).toArray[((i:Nat):Int).toNat]?=some (.int p 0):=by simp[hp,rawInt]
 rw[hq];dsimp only;unfold setNextDrawn;refine AA (AA (C5 ho hd G.ft ?_));dsimp only;rw[A6 ∅];rwa[HZ,hx];refine AJ (AA (He hI rfl ∅ ?_));have h1:=Di (Obj.mapFields (·.setIfInBounds 1 (rawInt ((i:Int)+1)))) hI rfl;exact AJ {x.2,rfl,AJ (h _ (h1.trans rfl) (Heap.SameBut.update ..))}
def JEs {led:A7}{I a tp:A3}{o:As}{es:AB (Int×A2)}{ep:Nat}{t:SetTable}{i:Nat}{pl:P4 Nat}{Q:QI A2->A1->Prop}(hh:A.handled=none)
  (hI:s.heap.get? I=some (jB (.ref tp) i a es.size ep)) (htp:s.heap.get? tp=some {cls:=.type "tuple",data:=.seq (pl.map λi:Nat=>rawInt i).toArray})
  (ho:s.heap.get? a=some o) (hd:o.data=.set es ep t) (G:nA led es t) (hp:pl.length<=i)
  (h:∀h',(∀b o,b∉[I]->s.heap.get? b=some o->h'.get? b=some o)->Q none {s with heap:=h'}):wpAny (model prog w) A (pyNext (.ref I)) Q E s:=by
 unfold pyNext;refine AA (Hd (HB (name:=Str.ofString "__next__") (BO hI) bh (Co bh (BO hI) eU ?_ (fS _))));unfold Builtin.«set_iterator.__next__»;refine AA (show wpAny _ _ (pure (Value.ref I,([]:Te))) _ _ _ from AJ ?_);refine AA (Hf hI rfl ?_);dsimp only;unfold setEntries;refine AA (AA (C5 ho hd G.ft (AJ ?_)));dsimp only;rw[A6 ∅];refine AA (zcD htp rfl ?_);dsimp only
 have hq:(pl.map λi:Nat=>rawInt i).toArray[((i:Nat):Int).toNat]?=none:=by simp;omega
 rw[hq];dsimp only;refine AA (He hI rfl ∅ ?_);have h1:=Di (Obj.mapFields (·.setIfInBounds 0 (rawInt 0))) hI rfl;refine AA (He (s:={s with heap:=_}) h1 rfl ∅ ?_);refine xR (show A.in1.handled=none from hh) λh' b kp hT=>?_;refine AA (HQ (T:="StopIteration") (b:=true) hT isSubtype_stop ?_);refine AJ (h _ λb o hb e=>kp b o ?_);have ne:I≠b:=λq=>hb (by simp[q]);rw[D0 _ _ ne,D0 _ _ ne];exact e
end
def lx:Slot "set_iterator" "__iter__" "set_iterator.__iter__":=by
 refine .of (owner:="set_iterator") (n:="__iter__") ?_ ∅ ∅ ∅ ?_ ?_
 ·rw[zce,zbI];kernel_rfl
 ·first|exact .inl ∅|exact .inr ∅
 ·rw[isSubtype_type];kernel_rfl
def sF (a:A2):argsOk "set_iterator.__iter__" {[a],[]}:=by unfold argsOk;kernel_rfl
def pY:entryFor table "set_iterator.__iter__" = some Builtin.«dict_keyiterator.__iter__» :=
 entryFor_alias (id':="dict_keyiterator.__iter__") (by kernel_rfl) (by first|rfl|decide) ∅ (by kernel_rfl)
section
variable {prog:A9}{w:AF}{A:AE}{E:Tb}{s:A1}
def wP {I:A3}{f:A2}{i:Nat}{a:A3}{n ep:Nat}{Q:Tb}(hI:s.heap.get? I=some (jB f i a n ep))(h:Q (.ref I) s):wpAny (model prog w) A (pyIter (.ref I)) Q E s:=by refine zb0 (BO hI) lx (Co lx (BO hI) pY ?_ (sF _));exact(show wpAny _ _ (ret (.ref I)) _ _ s from AJ {_,rfl,"set_iterator",_,BO hI,bh.lookup,h})
end
variable  {prog:A9}{w:AF}
abbrev JW (ord:P4 (Int×A2))(i:Nat)(x:A2):Prop:=(ord[i]?).map (·.2)=some x
def zA {A:AE}(hh:A.handled=none){led:A7}{I a:A3}(Bd:a≠I){o:As}{es:AB (Int×A2)}{ep:Nat}{t:SetTable}(hd:o.data=.set es ep t)(G:nA led es t)
  (ord:P4 (Int×A2)) (hl:ord.length=es.size) (sl:Nat->Nat)
  (hnx:∀i (s:A1) A' E' (Q':QI (A2×Nat)->A1->Prop),i<=es.size->s.heap.get? a=some o->Q' ((ord[i]?).map λe=>(e.2,sl (i+1))) s->wpAny (model prog w) A' (setNext a (sl i) i ep) Q' E' s) :
  Walks prog w A I [I,a] [I] ord.length (JW ord) (λi h=>h.get? I=some (jB (.int (sl i) 0) i a es.size ep)/\h.get? a=some o) where
 sub:=λb hb=>by simp at hb;simp[hb]
 frame:=λ_ _ _ st hk=>{hk I ∅ _ st.1,hk a ∅ _ st.2}
 item:=λi s Q E hi st hQ=>by
  have hx:ord[i]?=some ord[i]:=Bl hi;refine JEr (x:=ord[i].2) (sl':=sl (i+1)) st.1 st.2 hd G (λA' E' Q' q=>hnx i s A' E' Q' ∅ st.2 (by rw[hx];exact q)) λh' hI' hs=>?_;refine hQ _ h' s.toks (by simp[JW,hx]) {hI',hs.extBut a o Bd st.2} λb o hb e=>hs.extBut b o (λh=>hb (by simp[h])) e
 done:=λs Q E st hQ=>by
  refine Ji hh st.1 st.2 hd G (λA' E' Q' q=>hnx _ s A' E' Q' ∅ st.2 (by rw[zb2 ∅];exact q)) λh' hk=>hQ h' s.toks hk
 self:=λ_ _ _ _ st hQ=>wP st.1 hQ
def JE6 {A:AE}(hh:A.handled=none){led:A7}{I a tp:A3}(Bd:a≠I)(hnt:tp≠I){o:As}{es:AB (Int×A2)}{ep:Nat}{t:SetTable}(hd:o.data=.set es ep t)(G:nA led es t)
  (pl:P4 Nat) (hpl:∀p∈pl,p<es.size) :
  Walks prog w A I [I,a,tp] [I] pl.length (JW (pl.filterMap (es[·]?))) (λi h=>h.get? I=some (jB (.ref tp) i a es.size ep)/\h.get? a=some o/\h.get? tp=some {cls:=.type "tuple",data:=.seq (pl.map λi:Nat=>rawInt i).toArray}) where
 sub:=λb hb=>by simp at hb;simp[hb]
 frame:=λ_ _ _ st hk=>{hk I ∅ _ st.1,hk a ∅ _ st.2.1,hk tp ∅ _ st.2.2}
 item:=λi s Q E hi st hQ=>by
  have hp:pl[i]?=some pl[i]:=Bl hi;have hx:es[pl[i]]?=some (es[pl[i]]'(hpl _ (HR hi))):=Cr _
  have hmap:pl.filterMap (es[·]?)=pl.pmap (λp h=>es[p]'h) hpl:=by
   clear hQ st hp hx hi
   induction pl with
   |nil=>rfl
   |cons p ps ih=>rw[zbA (b:=es[p]'(hpl p ∅)) (Cr _),ih (λq hq=>hpl q (by simp[hq]))];rfl
  refine JBg st.1 st.2.2 st.2.1 hd G hp hx λh' hI' hs=>?_;refine hQ _ h' s.toks ?_ {hI',hs.extBut a o Bd st.2.1,hs.extBut tp _ hnt st.2.2} λb o hb e=>hs.extBut b o (λh=>hb (by simp[h])) e;rw[hmap];simp[JW,hp]
 done:=λs Q E st hQ=>JEs hh st.1 st.2.2 st.2.1 hd G (Ao _) λh' hk=>hQ h' s.toks hk
 self:=λ_ _ _ _ st hQ=>wP st.1 hQ
def jE {es:AB (Int×A2)}{pl:P4 Nat}(h:pl.Perm (List.range es.size)):(pl.filterMap (es[·]?)).Perm es.toList :=
 (h.filterMap _).trans (by rw[filterMap_getElem?_range])
def v6 {es:AB (Int×A2)}{pl:P4 Nat}(h:pl.Perm (List.range es.size)):(pl.filterMap (es[·]?)).length=pl.length:=by rw[(jE h).length_eq,h.length_eq];simp
noncomputable def n9 (t:SetTable)(i:Nat):Nat:=if h:0<i/\i<=t.place.size then t.place[i-1]'∅+1 else 0
section
variable {prog:A9}{w:AF}{A:AE}{E:Tb}{s:A1}
def JBf {a:A3}{o:As}{es:AB (Int×A2)}{ep:Nat}{t:SetTable}{Q:Tb}(ho:s.heap.get? a=some o)(hx:o.ExactSet)(hd:o.data=.set es ep t)(G:nA (!bt w) es t)
  (h:∀(h':AD) (d:Drawn) (I:A3) (fp:Tf) (St:Nat->AD->Prop) (ord:P4 (Int×A2)),(∀A',A'.handled=none->Walks prog w A' I fp [I] ord.length (JW ord) St)->St 0 h'->(∀b∈fp,b=a\/s.heap.objs.size<=b) ->
   (∀b o,s.heap.get? b=some o->h'.get? b=some o)->s.heap.objs.size<=I->ord.Perm es.toList->Q (.ref I) {s with heap:=h',drawn:=d}) :
  wpAny (model prog w) A (pyIter (.ref a)) Q E s:=by
 have Al:=Av ho;have hT:s.TypeIs (.ref a) "set":={o,ho,hx.1}
 have hpz:t.place.size=es.size:=by have:=G.ft;simp[fits] at this;exact this.1
 refine zb0 hT F.slot_set_iter (Co F.slot_set_iter hT sj ?_ (F.args_set_iter_1 _));unfold Builtin.«frozenset.__iter__» Builtin.Frozenset.slot0 Builtin.Frozenset.sizeOf;refine AA (AA (show wpAny _ _ (pure (Value.ref a,([]:Te))) _ _ _ from AJ (show wpAny _ _ (pure a) _ _ _ from AJ ?_)));unfold setEntries;refine AA (AA (AA (C5 ho hd G.ft (AJ (AJ ?_)))));dsimp only;unfold setDrawn setsByText;refine AA (AA (C5 ho hd G.ft (AA (AA (Es (AJ (AJ ?_)))))));dsimp only;split
 ·rename_i hc
  have Cw:(!bt w&&(!t.plain&&decide (es.size>1)))=true:=hc;rwa[EF] at Cw;refine AA (JEc es.size (List.range es.size) _ _ ∅ λpl d hp=>?_);unfold newTuple;refine AA (Cu ?_ (show(pl.map λi:Nat=>rawInt i).toArray.size<=sizeLine by have:=fits_of_scanBound G.bd;rw[Ba,Ay,hp.length_eq,List.length_range];exact this));unfold setEpoch;refine AA (AA (C5 (Am _ ho) hd G.ft (AJ ?_)));unfold newFields;refine AA (Cu (AJ {_,rfl,"set_iterator",_,{_,BI _ rfl,rfl},bh.lookup,?_}));have hz:(s.heap.push {cls:=.type "tuple",data:=.seq (pl.map λi:Nat=>rawInt i).toArray}).objs.size=s.heap.objs.size+1:=DZ ..;refine h _ d _ [_,a,s.heap.objs.size] _ (pl.filterMap (es[·]?)) (λA' hA=>by rw[v6 hp];exact JE6 hA (I:=(s.heap.push {cls:=.type "tuple",data:=.seq (pl.map λi:Nat=>rawInt i).toArray}).objs.size) (tp:=s.heap.objs.size) (by rw[hz];exact BE (zbB Al)) (by rw[hz];exact BE (zbO _)) hd G pl (λp hp'=>by simpa using hp.mem_iff.mp hp')) ?_ ?_ ?_ ?_ (jE hp)
  ·exact{BI _ rfl,Am _ (Am _ ho),Am _ (BI _ rfl)}
  ·intro b hb
   rwa[Ax,Dk,or_false] at hb;rcases hb with rfl|rfl|rfl
   ·right;rw[hz];exact HA _
   ·left;rfl
   ·right;exact Ao _
  ·exact λb o e=>Am _ (Am _ e)
  ·rw[hz];exact HA _
 ·rename_i hc
  have Cw:¬ (!bt w&&(!t.plain&&decide (es.size>1)))=true:=hc;refine AA (AJ ?_);unfold setEpoch;refine AA (AA (C5 ho hd G.ft (AJ ?_)));unfold newFields;refine AA (Cu (AJ {_,rfl,"set_iterator",_,{_,BI _ rfl,rfl},bh.lookup,?_}));have kp:∀b o,s.heap.get? b=some o->(s.heap.push (jB (.int ((0:Nat):Int) 0) 0 a es.size ep)).get? b=some o:=λb o e=>Am _ e
  have fpo:∀b∈[s.heap.objs.size,a],b=a\/s.heap.objs.size<=b:=λb hb=>by
   rwa[Ax,Dk,or_false] at hb;rcases hb with rfl|rfl
   ·right;exact Ao _
   ·left;rfl
  cases hb:bt w with
  |true=>
   refine h _ s.drawn _ [s.heap.objs.size,a] _ (pickOrder (w.params.setOrder a ep) es).toList (λA' hA=>zA hA (BE Al) hd G _ (by have:=(mi (w.params.setOrder a ep) es).length_eq;simpa using this) (λ_=>0) ?_) {BI _ rfl,kp _ _ ho} fpo kp (Ao _) (mi _ _);intro i s' A' E' Q' hi D8 q;exact yE hb D8 hd G (by rw[Hc] at q;exact q)
  |false=>
   rw[hb] at Cw G
   have Dq:(!t.plain&&decide (es.size>1))=false:=by simpa using Cw
   refine h _ s.drawn _ [s.heap.objs.size,a] _ es.toList (λA' hA=>zA hA (BE Al) hd G es.toList ∅ (n9 t) ?_) {BI _ rfl,kp _ _ ho} fpo kp (Ao _) (List.Perm.refl _);intro i s' A' E' Q' hi D8 q
   have e1:n9 t i=(if h:0<i then t.place[i-1]'∅+1 else 0):=by
    by_cases h0:0<i
    ·unfold n9;rw[dif_pos {h0,by omega},dif_pos h0]
    ·unfold n9;rw[dif_neg (λh=>h0 h.1),dif_neg h0]
   rw[e1];refine vI hb rfl D8 hd G Dq hi hpz ?_
   by_cases Al:i<es.size
   ·rw[dif_pos Al]
    rw[Hc,Cr Al] at q;rwa[EB] at q;unfold n9 at q;rw[dif_pos {by omega,by omega}] at q;exact q
   ·rw[dif_neg Al]
    rw[zb2 (by simp;omega)] at q;exact q
def JEj {ord:P4 (Int×A2)}{acc:Ti}(h:ItemsOf (JW ord) acc ord.length):acc.toList=ord.map (·.2):=by
 refine List.ext_getElem? λi=>?_;rw[Bh,Hc];rcases zcK i ord.length with hi|hi
 ·have hs:i<acc.size:=by rw[h.1];exact hi
  have:=h.2 i acc[i] (Cr hs);rw[Cr hs];exact this.symm
 ·rw[zb2 hi,zcr (by rw[h.1];exact hi)];rfl
theorem JBu {ord:P4 (Int×A2)}(h:∀e∈ord,JO e):IntsAre (ord.map (·.2)) (ord.map val):=by
 induction ord with
 |nil=>exact .nil
 |cons e r ih=>
  let⟨n,t,rfl⟩:=h _ (BG ..);exact .cons n t (ih λe he=>h e (BR _ he))
def JBi {a : A3} {Q : A7 -> A1 -> Prop} (hT : s.TypeIs (.ref a) "set") (h : Q false s) : wpAny (model prog w) A (listLengthHint (.ref a)) Q E s := by
  unfold listLengthHint
  refine AA (zcu hT F.slot_set_len.lookup ?_)
  have Dy : splitId "set.__len__" = some ("set", "__len__") := by decide
  rwa[Dy]
  refine AA (HQ hT sub_set_self ?_)
  simp only[zbS, C8, ↓reduceIte]
  refine (show wpAny _ _ (do let .ref _ ← typeOf (Value.ref a) | return false
                             let some k ← asInt? (← call (.builtin "len") [.ref a]) | unsupported "internal:len-gave-no-int"
                             return k != 0) _ _ _ from AA (Ei hT (AJ h)))
def zf {a:A3}{o:As}{es:AB (Int×A2)}{ep:Nat}{t:SetTable}{Q:P4 A2->A1->Prop}(hh:A.handled=none)(ho:s.heap.get? a=some o)(hx:o.ExactSet)(hd:o.data=.set es ep t)(G:nA (!bt w) es t)
  (h:∀(ord:P4 (Int×A2)) (h':AD) (d:Drawn) (tk:Nat),ord.Perm es.toList->(∀b o,s.heap.get? b=some o->h'.get? b=some o)->s.toks<=tk->s.heap.objs.size<=h'.objs.size->Q (ord.map (·.2)) {s with heap:=h',drawn:=d,toks:=tk}) :
  wpAny (model prog w) A (collect (.ref a)) Q E s:=by
 have Al:=Av ho;unfold collect;refine AA (wpAny_runValue (DW F.entry_proto_collect ?_));rw[Dw F.plain_proto_collect _];refine(show wpAny _ A.in1 (newList [] >>=λl=>again (.builtin "list.__iadd__" {[l,.ref a],[]})) _ _ s from AA (Cu ?_));refine AJ {Ep F.plain_list_iadd _,DW F.entry_list_iadd ?_};rw[Dw F.plain_list_iadd _];refine(show wpAny _ A.in1 (listExtendWith (.ref s.heap.objs.size) (.ref a) (.ref s.heap.objs.size)) _ _ _ from ?_);unfold listExtendWith;have ho1:(s.heap.push {cls:=.type "list",data:=.seq ([]:Te).toArray}).get? a=some o:=Am _ ho;have hT:Shared.TypeIs {s with heap:=s.heap.push {cls:=.type "list",data:=.seq ([]:Te).toArray}} (.ref a) "set":={o,ho1,hx.1};refine AA (Ei hT ?_)
 have h1:listSameRef (.ref s.heap.objs.size) (.ref a)=false:=by simp[listSameRef,D2 Al]
 rwa[h1,show(Value.type "set" == Value.type "list")=false by decide,show(Value.type "set" == Value.type "tuple")=false by decide,Bool.or_false,C8,if_false];refine AA (JBf ho1 hx hd G λh1 d I fp St ord W st hfp kp hI EV=>?_);have hTa:Shared.TypeIs {s with heap:=h1,drawn:=d} (.ref a) "set":={o,kp _ _ ho1,hx.1};refine AA (By (JBi hTa ?_))
 refine(show wpAny _ A.in1 (rule "list.extend.makes-room" >>=λ_=>listTouch (.ref s.heap.objs.size) >>=λ_=>
  again (.builtin "list.extend.loop" {[.ref s.heap.objs.size,.ref I,.ref s.heap.objs.size],[]})) _ _ _ from AA (Eu (AA ?_)))
 have hL:h1.get? s.heap.objs.size=some {cls:=.type "list",data:=.seq ([]:Te).toArray}:=kp _ _ (BI _ rfl);have hsz:(s.heap.push {cls:=.type "list",data:=.seq ([]:Te).toArray}).objs.size=s.heap.objs.size+1:=DZ ..
 have Bx:s.heap.objs.size∉fp:=λhm=>by
  rcases hfp _ hm with e|e
  ·exact CM _ (e ▸ Al)
  ·rw[hsz] at e;exact CM _ e
 refine(show wpAny _ A.in1 (updateSeq s.heap.objs.size (·.push .none) >>=λ_=>updateSeq s.heap.objs.size (·.pop)) _ _ _ from AA (zcy hL rfl ?_));have hL2:=Di (Obj.mapSeq (·.push Value.none)) hL rfl;refine zcy (s:={s with heap:=_,drawn:=d}) hL2 rfl ?_;have hL3:=Di (Obj.mapSeq (·.pop)) hL2 rfl
 have oth:∀b o,b≠s.heap.objs.size->h1.get? b=some o->((h1.update s.heap.objs.size (Obj.mapSeq (·.push Value.none))).update s.heap.objs.size (Obj.mapSeq (·.pop))).get? b=some o :=
  λb o hb e=>(D0 _ _ (Ne.symm hb)).trans ((D0 _ _ (Ne.symm hb)).trans e)
 have W1:=W A.in1 (show A.in1.handled=none from hh)
 have G3:ord.length=es.size:=by have:=EV.length_eq;simpa using this
 refine AJ {Ep F.plain_extend_loop _,codeAny_extend_loopS W1.toS (by rw[G3];exact fits_of_scanBound G.bd) _ Bx _ ord.length 0 _ _ _ rfl (DH _)
  (W1.frame 0 h1 _ st λb hb o e=>oth b o (λq=>Bx (q ▸ hb)) e) hL3 (ItemsOf.nil _) λs' acc c hm Ef DG=>?_}
 refine(show wpAny _ A (load s.heap.objs.size >>= _) _ _ s' from AA (wpAny_load Ef ?_));dsimp only;let⟨h',g',d',Bn,Hz⟩:=s';have eg:g'=s.gens:=hm.gens;have ed:d'=d:=hm.drawn;have eo:Hz=s.os:=hm.os;subst eg;subst ed;subst eo;refine AJ ?_;rw[JEj DG];refine h ord h' d' Bn EV (λb o e=>hm.heap b o (λhb=>?_) (oth b o (λq=>?_) (kp _ _ (Am _ e)))) hm.toks (Ek (Av Ef))
 ·have Ih:=Av e
  rwa[Ax,Dk,or_false] at hb;rcases hb with q|q
  ·exact CM _ (q ▸ Ih)
  ·rw[hsz,←q] at hI;exact CM _ (Bi Ih (Nat.le_of_succ_le hI))
 ·exact CM _ (q ▸ Av e)
def uH {a:A3}{o:As}{xs:Th}{Q:P4 A2->A1->Prop}(hh:A.handled=none)(ho:s.heap.get? a=some o)(hS:cR (!bt w) o xs)
  (h:∀(vs:Te) (ns:Th) (h':AD) (d:Drawn) (tk:Nat),IntsAre vs ns->ns.Perm xs->(∀b o,s.heap.get? b=some o->h'.get? b=some o)->s.toks<=tk->s.heap.objs.size<=h'.objs.size->Q vs {s with heap:=h',drawn:=d,toks:=tk}) :
  wpAny (model prog w) A (collect (.ref a)) Q E s:=by
 let⟨es,ep,t,hx,hd,G⟩:=hS;exact zf hh ho hx hd G.w λord h' d tk EV k1 k2 k3=>h _ _ h' d tk (JBu λe he=>G.el e (EV.mem_iff.mp he)) ((EV.map val).trans G.pm) k1 k2 k3
def vg {a:A3}{o:As}{xs:Th}{Q:Tb}(hh:A.handled=none)(ho:s.heap.get? a=some o)(hS:cR (!bt w) o xs)(GY:xs.length<64)
  (h:∀(out:Ti) (ns:Th) (h':AD) (d:Drawn) (tk:Nat) (l:A3) (c:Nat),IntsAre out.toList ns->ns.Perm xs->ns.Pairwise (·<=·)->(∀b o,s.heap.get? b=some o->h'.get? b=some o)->s.toks<=tk ->
   s.heap.objs.size<=l->h'.get? l=some (seqObj "list" out c)->Q (.ref l) {s with heap:=h',drawn:=d,toks:=tk}) :
  wpAny (model prog w) A (call (.builtin "sorted") [.ref a]) Q E s:=by
 refine Calls.call_function_entry kind_sorted plain_sorted entry_sorted (args_sorted1 _) ?_;unfold Builtin.«sorted»;refine AA (m:=checkCount "sorted" 1 1 _) (AJ (AA (uH (show A.in1.handled=none from hh) ho hS λvs ns h' d tk hI hp kp ht hge=>?_)))
 have hvl:vs.length=xs.length:=by rw[IntsAre.length hI,hp.length_eq]
 refine AA (wpAny_newList ?_ (by rw[hvl,DJ];omega));have EW:(h'.push (seqObj "list" vs.toArray 0)).get? h'.objs.size=some (seqObj "list" vs.toArray 0):=BI _ rfl;refine AA (By (Co (s:={s with heap:=h'.push (seqObj "list" vs.toArray 0),drawn:=d,toks:=tk}) slot_list_sort {_,EW,rfl} entry_list_sort (list_sort_tree EW hI ∅ λout ns' a1 a2 a3=>{_,rfl,?_}) (args_list_sort _)))
 obtain⟨c,hc⟩:∃c,(sortedHeap (h'.push (seqObj "list" vs.toArray 0)) h'.objs.size vs out).get? h'.objs.size=some (seqObj "list" out c):=by
  unfold sortedHeap;obtain⟨e1,q1⟩:∃e1,((h'.push (seqObj "list" vs.toArray 0)).update h'.objs.size (Obj.mapSeq λ_=>#[])).get? h'.objs.size=some (seqObj "list" #[] e1):={_,get?_update_seq EW (λ_=>#[])};exact{_,get?_update_seq (Am _ (Am _ q1)) (λ_=>out)}
 refine AJ {_,rfl,h out ns' _ d tk h'.objs.size c a1 (a2.trans hp) a3 (λb o e=>?_) ht hge hc};have hb:=kp b o e;have ne:h'.objs.size≠b:=D2 (Av hb);unfold sortedHeap;rw[D0 _ _ ne];refine Am _ (Am _ ?_);rw[D0 _ _ ne];exact Am _ hb
end
noncomputable def Ac (M i:Nat):Nat:=(i*5+1)%M
noncomputable def CW (M:Nat):Nat->Nat->Nat
 |0,i=>i
 |t+1,i=>CW M t (Ac M i)
theorem nI (M:Nat):∀s t i,CW M (s+t) i=CW M t (CW M s i)
 |0,t,i=>by rw[zb3];rfl
 |s+1,t,i=>by rw[Nat.succ_add];exact nI M s t _
noncomputable def ee:P4 Nat:=[7,15,31,63,127,255]
def JBv:∀m∈ee,CW (m+1) (m+1) 0=0:=by decide
def tV:∀m∈ee,∀j<m+1,∃t<m+1,CW (m+1) t 0=j:=by
 have:∀m∈ee,∀j<m+1,((List.range (m+1)).any λt=>CW (m+1) t 0 == j)=true:=by decide
 intro m hm j hj;let⟨t,ht,e⟩:=zb7.mp (this m hm j hj);exact{t,by simpa using ht,by simpa using e}
def JDj {m:Nat}(hm:m∈ee){i j:Nat}(hi:i<m+1)(hj:j<m+1):∃t<m+1,CW (m+1) t i=j:=by
 let⟨s,hs,rfl⟩:=tV m hm i hi;let⟨t,ht,rfl⟩:=tV m hm j hj;rcases zcK t s with h|h
 ·refine{m+1-s+t,by omega,?_};rw[←nI,show s+(m+1-s+t)=(m+1)+t by omega,nI,JBv m hm]
 ·refine{t-s,by omega,?_};rw[←nI,show s+(t-s)=t by omega]
theorem oV (m:Nat)(owner:AB (QI Nat)):∀fuel i p r,layClean.free m owner fuel i p=some r->owner[r]?=some none
 |0,i,p,r,e=>by simp[layClean.free] at e
 |fuel+1,i,p,r,e=>by
  unfold layClean.free at e;split at e
  ·rename_i k hk
   cases e;have:=List.find?_some hk;rwa[Array.getD] at this
   split at this
   ·rename_i Al;rw[Cr Al];simpa using this
   ·simp at this
  ·exact oV m owner fuel _ _ r e
noncomputable def kJ (m:Nat):Nat->Nat->Nat->Nat×Nat
 |0,i,p=>(i,p)
 |t+1,i,p=>kJ m t (leap m i p).1 (leap m i p).2
theorem qv (m:Nat)(owner:AB (QI Nat)):∀fuel i p,layClean.free m owner fuel i p=none->∀t<fuel,owner[(kJ m t i p).1]?≠some none
 |0,i,p,_,t,ht=>by omega
 |fuel+1,i,p,e,t,ht=>by
  unfold layClean.free at e;split at e
  ·cases e
  ·rename_i hk
   cases t with
   |zero=>
    intro hq;have h0:=List.find?_eq_none.mp hk 0 (by have:i<=runEnd m i:=(by unfold runEnd;split <;> omega);simp;omega)
    rwa[kJ] at hq;let⟨Al,hq⟩:=Array.getElem?_eq_some_iff.mp hq;simp[Array.getD,Al,hq] at h0
   |succ t=>exact qv m owner fuel _ _ e t ∅
theorem Aq (m:Nat):∀t i p,(kJ m t i p).2=p / 32 ^ t
 |0,i,p=>by simp[kJ]
 |t+1,i,p=>by unfold kJ;rw[Aq m t];rwa[leap];rw[Nat.div_div_eq_div_mul,Nat.pow_succ,Nat.mul_comm]
theorem tm (m:Nat):∀s t i p,kJ m (s+t) i p=kJ m t (kJ m s i p).1 (kJ m s i p).2
 |0,t,i,p=>by rw[zb3];rfl
 |s+1,t,i,p=>by rw[Nat.succ_add];exact tm m s t _ _
theorem qe (m:Nat):∀t i,(kJ m t i 0).1=CW (m+1) t i
 |0,i=>rfl
 |t+1,i=>by
  have e:leap m i 0=(Ac (m+1) i,0):=by simp[leap,Ac]
  unfold kJ CW;rw[e];exact qe m t _
theorem wQ (m:Nat):∀t i p,i<m+1->(kJ m t i p).1<m+1
 |0,i,p,h=>h
 |t+1,i,p,h=>wQ m t _ _ (Nat.mod_lt _ ∅)
theorem JEy {m:Nat}(hm:m∈ee){owner:AB (QI Nat)}(h:Int){j:Nat}(hj:j<m+1)(hf:owner[j]?=some none) :
  ∃r,layClean.free m owner (turns m) (bits h%(m+1)) (bits h)=some r/\owner[r]?=some none:=by
 cases e:layClean.free m owner (turns m) (bits h%(m+1)) (bits h) with
 |some r=>exact{r,rfl,oV m owner _ _ _ r e}
 |none=>
  exfalso
  have hn:=qv m owner _ _ _ e
  have hb:bits h<2 ^ 64:=by
   unfold bits;have:=zcF h (show(0:Int)<2 ^ 64 by decide);have:=zcP h (show(2 ^ 64:Int)≠0 by decide);omega
  have hp:(kJ m 13 (bits h%(m+1)) (bits h)).2=0:=by
   rw[Aq];exact Nat.div_eq_of_lt (zb1 hb ∅)
  have hi:(kJ m 13 (bits h%(m+1)) (bits h)).1<m+1:=wQ m _ _ _ (Nat.mod_lt _ ∅);let⟨t,ht,e⟩:=JDj hm hi hj;refine hn (13+t) (by unfold turns;omega) ?_;rw[tm,hp,qe,e];exact hf
noncomputable def fq (M:Nat)(owner:AB (QI Nat)):P4 (Nat×Nat):=(List.range M).filterMap λj=>(owner.getD j none).map (j,·)
theorem xB {Z β:Type}{f g:Z->QI β}:∀{l:P4 Z},(∀y∈l,g y=f y)->l.filterMap g=l.filterMap f
 |[],_=>rfl
 |x::l,h=>by have ih:=xB (l:=l) λy hy=>h y (by simp[hy]);rwa[zca,h x ∅,ih]
theorem B1 {f g:Nat->QI (Nat×Nat)}{j:Nat}{v:Nat×Nat}(hf:f j=none)(hg:g j=some v)(hx:∀x,x≠j->g x=f x):∀{l:P4 Nat},l.Nodup->j∈l->(l.filterMap g).Perm (v::l.filterMap f)
 |[],_,h=>by simp at h
 |x::l,hn,h=>by
  let⟨h1,h2⟩:=CR.mp hn;by_cases e:x=j
  ·subst e;have:l.filterMap g=l.filterMap f:=xB λy hy=>hx y λz=>h1 (z ▸ hy);rw[zbA hg,zcj hf,this]
  ·have hj:j∈l:=by
    rcases Ax.mp h with q|q
    ·exact AH q.symm e
    ·exact q
   have ih:=B1 hf hg hx h2 hj
   cases q:f x with
   |none=>rw[zcj (by rw[hx x e];exact q),zcj q];exact ih
   |some u=>
    rw[zbA (by rw[hx x e];exact q),zbA q];exact(ih.cons u).trans (.swap _ _ _)
def JBb {M k r:Nat}{owner:AB (QI Nat)}(hs:owner.size=M)(hr:owner[r]?=some none):(fq M (owner.setIfInBounds r (some k))).Perm ((r,k)::fq M owner):=by
 let⟨Al,hq⟩:=Array.getElem?_eq_some_iff.mp hr;refine B1 (j:=r) (v:=(r,k)) ?_ ?_ ?_ List.nodup_range (Hh.mpr ∅)
 ·simp[Array.getD,Al,hq]
 ·simp[Array.getD,Al]
 ·intro x hx;rwa[Array.getD,Array.size_setIfInBounds];split
  ·rename_i h;have e:(owner.setIfInBounds r (some k))[x]'‹h›=owner[x]:=Array.getElem_setIfInBounds_ne _ (Ne.symm hx);exact AI _ e
  ·rfl
def yI {M:Nat}{owner:AB (QI Nat)}(hs:owner.size=M)(h:∀j<M,owner[j]?≠some none):(fq M owner).length=M:=by
 have:∀l:P4 Nat,(∀j∈l,j<M)->(l.filterMap λj=>(owner.getD j none).map (j,·)).length=l.length:=by
  intro l;induction l with
  |nil=>intro _;rfl
  |cons x l ih=>
   intro hl;have hx:=hl x ∅;have Al:x<owner.size:=by omega
   cases q:owner[x] with
   |none=>exact AH (by rw[Cr Al,q]) (h x hx)
   |some v=>
    rw[zbA (b:=(x,v)) (by simp[Array.getD,Al,q])];rw[C3,ih λj hj=>hl j (by simp[hj]),C3]
 have:=this (List.range M) ∅;simpa[fq] using this
theorem xA {m:Nat}(hm:m∈ee):∀(hs:Th) (owner:AB (QI Nat)) (k:Nat),owner.size=m+1->((fq (m+1) owner).map (·.2)).Perm (List.range k)->k+hs.length<=m+1 ->
  ∃DP,(hs.foldl (init:=some (owner,k)) λacc h=>do
   let (owner,k) ←acc
   let j ←layClean.free m owner (turns m) (bits h%(m+1)) (bits h)
   pure (owner.setIfInBounds j (some k),k+1))=some (DP,k+hs.length)/\DP.size=m+1/\((fq (m+1) DP).map (·.2)).Perm (List.range (k+hs.length))
 |[],owner,k,h1,h2,h3=>{owner,by simp,h1,by simpa using h2}
 |h::hs,owner,k,h1,h2,h3=>by
  have hex:∃j,j<m+1/\owner[j]?=some none:=by
   refine Classical.byContradiction λhc=>?_;have:=yI h1 λj hj q=>hc {j,hj,q};have h4:=h2.length_eq;simp at h4 h3;omega
  let⟨j,hj,hf⟩:=hex;let⟨r,e,hr⟩:=JEy hm h hj hf
  have ih:=xA hm hs (owner.setIfInBounds r (some k)) (k+1) ‹h1› (by
   refine((JBb h1 hr).map (·.2)).trans ?_;rw[Ak,List.range_succ]
   exact(h2.cons k).trans (List.perm_append_singleton k _).symm) (by simp at h3;omega)
  let⟨o',e1,e2,e3⟩:=ih;refine{o',?_,e2,?_}
  ·rw[E4]
   rwa[bind,Option.bind,e,pure];rw[show k+(h::hs).length=k+1+hs.length by simp;omega];exact e1
  ·rw[show k+(h::hs).length=k+1+hs.length by simp;omega];exact e3
def JCp {m:Nat}(hm:m∈ee)(hs:AB Int)(hl:hs.size<=m+1):∃owner,layClean m hs=some owner/\owner.size=m+1/\((fq (m+1) owner).map (·.2)).Perm (List.range hs.size):=by
 let⟨o,e1,e2,e3⟩:=xA hm hs.toList (Array.replicate (m+1) none) 0 ∅ (by
  have:fq (m+1) (Array.replicate (m+1) none)=[]:=by unfold fq;rw[List.filterMap_eq_nil_iff];intro j hj;simp at hj;simp[Array.getD,hj]
  rw[this];exact .refl _) ‹hl›
 refine{o,?_,e2,by simpa using e3};unfold layClean;rw[←Array.foldl_toList,e1];rfl
def JEk {m finger moves:Nat}{led plain:A7}(hm:m∈ee)(hs:AB Int)(hl:hs.size<=m) :
  ∃t o,laid m finger moves led plain hs=some (t,o)/\o.toList.Perm (List.range hs.size)/\t.fits hs.size=true/\t.place.toList.Pairwise (·<·)/\t.led=led/\t.plain=plain/\t.mask=m/\t.dummies = #[]/\t.place.size=hs.size:=by
 let⟨owner,e,e2,e3⟩:=JCp hm hs ∅
 have hlen:(fq (m+1) owner).length=hs.size:=by have:=e3.length_eq;simpa using this
 have Hq:laid m finger moves led plain hs=some (({mask:=m,place:=((fq (m+1) owner).map (·.1)).toArray,dummies:=#[],finger,led,moves,plain}:SetTable),((fq (m+1) owner).map (·.2)).toArray):=by
  unfold laid;rw[e];rfl
 refine{_,_,Hq,by simpa using e3,?_,(kP Hq).1,rfl,rfl,rfl,rfl,by simpa using hlen};simp[fits,SetTable.fill,hlen];omega
def JCd:∀n<256,sizeAbove n-1∈ee/\n<sizeAbove n/\sizeAbove n<=256:=by decide
def cO.perm {led:A7}{es:AB (Int×A2)}{t:SetTable}{xs ys:Th}(g:cO led es t xs)(p:xs.Perm ys):cO led es t ys :=
 {g.el,g.pm.trans p,p.nodup_iff.mp g.nd,g.bd,g.ft,g.rs,g.ld}
def cO.place {led:A7}{es:AB (Int×A2)}{t:SetTable}{xs:Th}(g:cO led es t xs):t.place.size=es.size/\t.fill<=t.mask:=by have:=g.ft;simp[fits] at this;exact this
section
variable {prog:A9}{w:AF}{A:AE}{E:Tb}{s:A1}
def t8 {led l' plain:A7}{es:AB (Int×A2)}{t:SetTable}{xs:Th}(G:cO led es t xs){m finger moves:Nat}(hm:m∈ee)(hl:xs.length<=m)(hl':l'=led) :
  ∃t' o,laid m finger moves l' plain (es.map (·.1))=some (t',o)/\cO led (o.filterMap (es[·]?)) t' xs/\(o.filterMap (es[·]?)).size=es.size/\t'.mask=m/\t'.dummies = #[]:=by
 have hz:=cR.len G;let⟨t',o,e,h1,h2,h3,h4,h5,h6,h7,h8⟩:=JEk (finger:=finger) (moves:=moves) (led:=l') (plain:=plain) hm (es.map (·.1)) (by rw[Array.size_map];omega);rw[Array.size_map] at h1 h2 h8
 have hp:(o.filterMap (es[·]?)).toList.Perm es.toList:=by rw[Array.toList_filterMap];exact jE h1
 have hsz:(o.filterMap (es[·]?)).size=es.size:=by have:=hp.length_eq;(rw[Dv,Dv] at this;assumption)
 exact{t',o,e,{λx hx=>G.el x (hp.mem_iff.mp hx),(hp.map val).trans G.pm,G.nd,by rw[hsz];exact G.bd,by rw[hsz];exact h2,λ_=>h3,h4.trans hl'},hsz,h6,h7}
def JA5 {led:A7}{a:A3}{o:As}{es:AB (Int×A2)}{ep:Nat}{t:SetTable}{xs:Th}{wanted:Nat}{Q:Unit->A1->Prop}(ho:s.heap.get? a=some o)(hx:o.ExactSet)(hd:o.data=.set es ep t)(G:cO led es t xs)(hw:wanted<256)(hl:xs.length<=wanted)
  (h:∀h' BW t',Heap.SameBut a s.heap h'->h'.get? a=some {o with data:=.set BW (ep+1) t'}->cO led BW t' xs->t'.mask∈ee->wanted<=t'.mask->t'.dummies = #[]->Q () {s with heap:=h'}) :
  wpAny (model prog w) A (setRelay a wanted) Q E s:=by
 obtain⟨m1,m2,m3⟩:=JCd wanted hw;unfold setRelay;refine AA (C5 ho hd G.ft ?_);dsimp only;rw[A6 (by rw[DJ];omega)];obtain⟨t',ord,e,G',hsz,hm,hdm⟩:=t8 (l':=t.led) (plain:=t.plain) (finger:=t.finger) (moves:=t.movedTo (sizeAbove wanted-1)) G m1 ∅ G.ld;have e':t.relaid (es.map (·.1)) wanted=some (t',ord):=e;rw[e'];refine AA (show wpAny _ _ (if ((ord.filterMap (es[·]?)).size != es.size)=true then (do unsupported "internal:set-table-lost-an-element";pure (ord.filterMap (es[·]?),t')) else pure (ord.filterMap (es[·]?),t')) _ _ _ from ?_);rw[A6 (by simp[hsz])];refine AJ (dZ ho hx hd G'.bd λh' b1 g1=>?_);exact h h' _ t' b1 g1 G' (by rw[hm];exact m1) (by rw[hm];omega) hdm
def JDw {led:A7}{a:A3}{o:As}{es:AB (Int×A2)}{ep:Nat}{t:SetTable}{xs:Th}{more:Nat}{Q:Unit->A1->Prop}(ho:s.heap.get? a=some o)(hx:o.ExactSet)(hd:o.data=.set es ep t)(G:cO led es t xs)(hw:xs.length+more<128)
  (h:∀h' BW ep' t',Heap.SameBut a s.heap h'->h'.get? a=some {o with data:=.set BW ep' t'}->cO led BW t' xs->((t'=t/\(t.fill+more)*5<t.mask*3)\/(t'.mask∈ee/\xs.length+more<=t'.mask/\t'.dummies = #[]))->Q () {s with heap:=h'}) :
  wpAny (model prog w) A (setRoomFor a more) Q E s:=by
 have hz:=cR.len G;have hpl:=G.place;unfold setRoomFor;refine AA (C5 ho hd G.ft ?_);dsimp only;unfold roomFor
 by_cases hc:(t.fill+more)*5 >= t.mask*3
 ·rw[A8 hc]
  dsimp only;refine JA5 ho hx hd G ∅ ∅ λh' BW t' b g G' m1 m2 m3=>h h' BW _ t' b g G' (.inr {m1,by omega,m3})
 ·rw[A6 hc]
  dsimp only;refine AJ ?_
  have e:s={s with heap:=s.heap}:=by cases s;rfl
  have hoo:s.heap.get? a=some {o with data:=.set es ep t}:=by rw[ho];let⟨c1,c2,c3,c4⟩:=o;simp only at hd;subst hd;rfl
  rw[e];exact h s.heap es ep t (Heap.SameBut.refl a s.heap) hoo G (.inl {rfl,by omega})
end
def yw {xs ys:Th}(p:xs.Perm ys)(k:Int):(cC xs k).Perm (cC ys k):=by
 unfold cC;by_cases h:k∈xs
 ·rw[A8 h,A8 (p.mem_iff.mp h)];exact p
 ·rw[A6 h,A6 (λq=>h (p.mem_iff.mpr q))];exact p.append (.refl _)
def yv (xs:Th)(a b:Int):(cC (cC xs a) b).Perm (cC (cC xs b) a):=by
 have h1:∀x k,k∈cC xs x ↔ k∈xs\/k=x:=λx k=>by
  unfold cC;split
  ·rename_i h;exact{.inl,λq=>q.elim id λe=>e ▸ h}
  ·simp
 by_cases ha:a∈xs
 ·by_cases hb:b∈xs
  ·simp[cC,ha,hb]
  ·simp[cC,ha,hb]
 ·by_cases hb:b∈xs
  ·simp[cC,ha,hb]
  ·by_cases e:a=b
   ·subst e;exact .refl _
   ·have e1:cC (cC xs a) b=xs++([a]++[b]):=by
     have:b∉xs++[a]:=by simp[hb,Ne.symm e]
     rw[show cC xs a=xs++[a] by simp[cC,ha]];unfold cC;rw[A6 this,Bf]
    have e2:cC (cC xs b) a=xs++([b]++[a]):=by
     have:a∉xs++[b]:=by simp[ha,e]
     rw[show cC xs b=xs++[b] by simp[cC,hb]];unfold cC;rw[A6 this,Bf]
    rw[e1,e2];exact(List.Perm.refl xs).append (.swap _ _ _)
theorem qo:∀{ns:Th} {xs ys:Th},xs.Perm ys->(aK xs ns).Perm (aK ys ns)
 |[],_,_,p=>p
 |n::ns,_,_,p=>qo (ns:=ns) (yw p n)
theorem JB1 {ns ms:Th}(p:ns.Perm ms):∀(xs:Th),(aK xs ns).Perm (aK xs ms):=by
 induction p with
 |nil=>exact λ_=>.refl _
 |cons x _ ih=>exact λxs=>ih _
 |swap x y l=>exact λxs=>qo (yv xs y x)
 |trans _ _ h1 h2=>exact λxs=>(h1 xs).trans (h2 xs)
def xl {ns:Th}(h:ns.Nodup):(aK [] ns).Perm ns:=by
 have:∀{es acc:Th},(acc++es).Nodup->aK acc es=acc++es:=by
  intro es;induction es with
  |nil=>intro acc _;simp[aK]
  |cons e es ih=>
   intro acc h;have hn:e∉acc:=λhe=>by rw[EI] at h;exact h.2.2 e he e ∅ rfl
   have:=ih (acc:=acc++[e]) ‹h›;rwa[aK,E4,cC,A6 hn] at this ⊢;rw[this];simp
 rw[this ‹h›];simp
theorem jY:∀(ns xs:Th),(aK xs ns).length<=xs.length+ns.length
 |[],xs=>by simp[aK]
 |n::ns,xs=>by have h1:=jY ns (cC xs n);have h2:=oB xs n;rwa[aK,E4,C3] at h1 ⊢;omega
section
variable {prog:A9}{w:AF}{A:AE}{E:Tb}{s:A1}
def JEz {led:A7}{r:A3}{or oo:As}{es eo:AB (Int×A2)}{ep eq:Nat}{ts to:SetTable}{ys:Th}{Q:Unit->A1->Prop}(hr:s.heap.get? r=some or)(Dm:or.ExactSet)(Cw:or.data=.set es ep ts)(Gr:cO led es ts [])
  (hm:ts.mask∈ee) (hdm:ts.dummies = #[]) (hl:ys.length<=ts.mask) (Dr:oo.data=.set eo eq to) (Go:cO led eo to ys)
  (h:∀h' o',Heap.SameBut r s.heap h'->h'.get? r=some o'->cR led o' ys->Q () {s with heap:=h'}) {k:Sem Unit} :
  wpAny (model prog w) A (match ts.road to with
   |.slotForSlot=>storeSet r eo {to with finger:=ts.finger,led:=ts.led&&to.led,moves:=ts.moves,plain:=ts.plain&&to.plain}
   |.clean=>do
    let (es,t) ←(do
     let some (t,order):=laid ts.mask ts.finger ts.moves (led:=ts.led&&to.led) (plain:=ts.plain&&to.plain) (eo.map (·.1))|unsupported "internal:set-table-without-room"
     let BW:=order.filterMap (eo[·]?)
     if BW.size != eo.size then unsupported "internal:set-table-lost-an-element"
     pure (BW,t):Sem (AB (Int×A2)×SetTable))
    storeSet r es t
   |.oneByOne=>k) Q E s:=by
 have hes:es.size=0:=cR.len Gr
 have hpz:ts.place.size=0:=by rw[Gr.place.1,hes]
 have Eb:ts.fill=0:=by unfold SetTable.fill;rw[hpz,hdm];rfl
 have DA:(ts.led&&to.led)=led:=by rw[Gr.ld,Go.ld];simp
 unfold road;rw[Eb];rwa[bne_self_eq_false,C8,if_false]
 by_cases hc:(ts.mask == to.mask&&to.dummies.isEmpty)=true
 ·rw[A8 hc]
  refine dZ hr Dm Cw Go.bd λh' b g=>h h' _ b g {eo,_,_,Dm,rfl,{Go.el,Go.pm,Go.nd,Go.bd,Go.ft,λhp=>?_,DA}};rwa[EF] at hp;exact Go.rs hp.2
 ·rw[A6 hc]
  dsimp only;let⟨t',ord,e,G',hsz,GQ,hdm'⟩:=t8 (l':=ts.led&&to.led) (plain:=ts.plain&&to.plain) (finger:=ts.finger) (moves:=ts.moves) Go hm hl DA;rw[e];dsimp only;rw[A6 (by simp[hsz])];refine AA (AJ (dZ hr Dm Cw G'.bd λh' b g=>h h' _ b g {_,_,t',Dm,rfl,G'}))
def AT {sets:Tf}{Q:A7->A1->Prop}(h:∀a∈sets,∃o es ep t,s.heap.get? a=some o/\o.data=.set es ep t/\t.fits es.size=true/\∀e∈es.toList,JO e)(hQ:Q true s):wpAny (model prog w) A (setsQuiet sets) Q E s:=by
 unfold setsQuiet;refine AA (wpAny_forIn_list _ (λrest b s'=>b=(none,())/\s'=s/\∀a∈rest,a∈sets) _ ?_ ?_ _ _ {rfl,rfl,λa ha=>ha})
 ·rintro a rest b s' ⟨rfl,rfl,hs⟩;let⟨o,es,ep,t,ho,hd,hf,he⟩:=h a (hs a ∅);unfold setEntries;refine AA (AA (C5 ho hd hf (AJ (AA ?_))));dsimp only;refine forIn_array_ _ (λrest b HF=>b=(none,())/\HF=s'/\∀e∈rest,JO e) _ ?_ ?_ _ _ {rfl,rfl,he}
  ·rintro e rest' b HF ⟨rfl,rfl,hE⟩;let⟨n,tk,rfl⟩:=hE e ∅;exact AJ {rfl,rfl,λe he=>hE e (by simp[he])}
  ·rintro b HF ⟨rfl,rfl,_⟩;exact AJ {rfl,rfl,λa ha=>hs a (by simp[ha])}
 ·rintro b s' ⟨rfl,rfl,_⟩;exact AJ hQ
def xZ {led:A7}(DA:led = !bt w){r o:A3}(Bd:r≠o){or oo:As}{es eo:AB (Int×A2)}{ep eq:Nat}{ts to:SetTable}{xs ys:Th}{Q:AB (Int×A2)->A1->Prop}(hr:s.heap.get? r=some or)(Dm:or.ExactSet)(Cw:or.data=.set es ep ts)(Gr:cO led es ts xs)
  (ho:s.heap.get? o=some oo) (Dr:oo.data=.set eo eq to) (Go:cO led eo to ys)
  (h:∀ord h' o' d,ord.toList.Perm eo.toList->Heap.SameBut r s.heap h'->h'.get? r=some o'->cR led o' xs->Q ord {s with heap:=h',drawn:=d}) :
  wpAny (model prog w) A (setWalkUnseen o [r] (some r)) Q E s:=by
 have hS:cR led or xs:={es,ep,ts,Dm,Cw,Gr};have same:∀(ord:AB (Int×A2)) d,ord.toList.Perm eo.toList->Q ord {s with drawn:=d}:=λord d p=>h ord s.heap or d p (Heap.SameBut.refl r s.heap) hr hS;unfold setWalkUnseen;refine AA (C5 ho Dr Go.ft ?_);dsimp only;unfold setsByText;refine AA (AA (Es (AJ ?_)));dsimp only;have hbt:(model prog w).w.params.followText "set-order" = bt w:=rfl;rw[hbt]
 by_cases hc:(bt w || (to.led&&to.plain) || decide (eo.size<=1))=true
 ·rw[A8 hc]
  unfold setWalk setsByText;refine AA (C5 ho Dr Go.ft ?_);dsimp only;refine AA (AA (Es (AJ ?_)));dsimp only;rw[hbt]
  cases hb:bt w with
  |true=>
   simp only[↓reduceIte];exact AA (Es (AJ (same _ s.drawn (mi _ _))))
  |false=>
   simp only[C8,↓reduceIte];rw[hb] at hc DA;split
   ·rename_i Dq
    have Dq:(!to.plain&&decide (eo.size>1))=true:=Dq;rwa[EF,Bool.not_eq_true',decide_eq_true_eq] at Dq
    exfalso
    simp[Dq.1] at hc;omega
   ·refine AA (show wpAny _ _ (if (!to.led&&decide (eo.size>1))=true then unsupported "set:maker-not-led" else pure ()) _ _ _ from ?_)
    rw[A6 (by rw[Go.ld,DA];simp)];exact AJ (AJ (same eo s.drawn (.refl _)))
 ·rw[A6 hc]
  refine AA (AT (λb hb=>?_) ?_)
  ·rwa[Ax,Dk,or_false] at hb
   rcases hb with rfl|rfl
   ·exact{oo,eo,eq,to,ho,Dr,Go.ft,Go.el}
   ·exact{or,es,ep,ts,hr,Cw,Gr.ft,Gr.el}
  ·simp only[zbS,C8,↓reduceIte]
   refine AA (Eu (AA (C5 hr Cw Gr.ft ?_)));dsimp only;split
   ·refine AA (dZ hr Dm Cw Gr.bd λh' b g=>AJ ?_)
    refine h eo h' _ s.drawn (.refl _) b g {es,_,_,Dm,rfl,{Gr.el,Gr.pm,Gr.nd,Gr.bd,Gr.ft,λhp=>?_,by rw[Gr.ld,Go.ld];simp}};rwa[EF] at hp;exact Gr.rs hp.1
   ·exact AJ (same eo s.drawn (.refl _))
def t0 {led:A7}(DA:led = !bt w){r o:A3}(Bd:r≠o){or oo:As}{es eo:AB (Int×A2)}{ep eq:Nat}{ts to:SetTable}{xs ys:Th}{each:Sem Unit}{Q:Unit->A1->Prop}(hr:s.heap.get? r=some or)(Dm:or.ExactSet)(Cw:or.data=.set es ep ts)(Gr:cO led es ts xs)
  (IW:xs=[]->ts.mask∈ee/\ts.dummies = #[])
  (ho:s.heap.get? o=some oo) (Dr:oo.data=.set eo eq to) (Go:cO led eo to ys) (hz:xs.length+ys.length<128)
  (heach:∀(s':A1) (Q':Unit->A1->Prop),s'.heap.get? o=some oo->Q' () s'->wpAny (model prog w) A each Q' E s')
  (h:∀h' o' d,Heap.SameBut r s.heap h'->h'.get? r=some o'->cR led o' (aK xs ys)->Q () {s with heap:=h',drawn:=d}) :
  wpAny (model prog w) A (setMerge r o each) Q E s:=by
 have Hk:=cR.len Go;unfold setMerge;rw[A6 ‹Bd›];refine AA (C5 ho Dr Go.ft ?_);dsimp only
 by_cases Ia:eo.isEmpty=true
 ·rw[A8 Ia]
  have hy:ys=[]:=by
   have:eo.size=0:=by simpa[Array.isEmpty] using Ia
   exact zcA ∅
  subst hy;exact AJ (h s.heap or s.drawn (Heap.SameBut.refl r s.heap) hr {es,ep,ts,Dm,Cw,Gr})
 ·rw[A6 Ia]
  refine AA (JDw hr Dm Cw Gr ∅ λh1 CI ep1 t1 b1 g1 G1 c1=>?_)
  have ho1:h1.get? o=some oo:=by rw[b1.2 o (Ne.symm Bd)];exact ho
  refine AA (C5 g1 rfl G1.ft ?_);dsimp only
  by_cases hx:xs=[]
  ·subst hx
   have hm:t1.mask∈ee/\t1.dummies = #[]/\ys.length<=t1.mask:=by
    rcases c1 with⟨rfl,q⟩|⟨m1,m2,m3⟩
    ·let⟨m1,m2⟩:=IW rfl
     exact{m1,m2,by rwa[Hk] at q;omega}
    ·exact{m1,m3,by simpa[Hk] using m2}
   refine JEz (s:={s with heap:=h1}) g1 Dm rfl G1 hm.1 hm.2.1 hm.2.2 Dr Go λh2 o2 b2 g2 S2=>?_;let⟨e2,q2,t2,x2,d2,G2⟩:=S2;exact h h2 o2 s.drawn (b1.trans b2) g2 {e2,q2,t2,x2,d2,cO.perm G2 (xl Go.nd).symm}
  ·have Eb:(t1.fill != 0)=true:=by
    have h0:0<xs.length:=List.length_pos_iff.mpr hx;have:=G1.place.1;have:=cR.len G1;refine bne_iff_ne.mpr ?_;unfold SetTable.fill;omega
   unfold road;rw[A8 Eb];dsimp only;refine AA (xZ (s:={s with heap:=h1}) DA Bd g1 Dm rfl G1 ho1 Dr Go λord h2 o2 d hp b2 g2 S2=>?_)
   have G5:h2.get? o=some oo:=by rw[b2.2 o (Ne.symm Bd)];exact ho1
   refine AA (forIn_array_ _ (λrest _ s'=>∃h3 o3 zs,s'={s with heap:=h3,drawn:=d}/\Heap.SameBut r s.heap h3/\h3.get? r=some o3/\cR led o3 zs/\aK zs (rest.map val)=aK xs (ord.toList.map val)/\(∀e∈rest,JO e)/\zs.length+rest.length<=127) _ ?_ ?_ _ _
    {h2,o2,xs,rfl,b1.trans b2,g2,S2,rfl,λe he=>Go.el e (hp.mem_iff.mp he),by have:=hp.length_eq;rwa[Dv] at this ⊢;omega})
   ·rintro e rest b s' ⟨h3,o3,zs,rfl,b3,g3,S3,m3,e3,l3⟩
    let⟨n,tk,rfl⟩:=e3 e ∅
    have ho3:h3.get? o=some oo:=by rw[b3.2 o (Ne.symm Bd)];exact ho
    dsimp only;refine AA (By (CL (s:={s with heap:=h3,drawn:=d}) g3 S3 (by simp at l3;unfold scanBound;omega) λh4 o4 bb b4 g4 S4=>?_))
    have ho4:h4.get? o=some oo:=by rw[b4.2 o (Ne.symm Bd)];exact ho3
    refine AA (heach _ _ ho4 (AA (C5 (s:={s with heap:=h4,drawn:=d}) ho4 Dr Go.ft ?_)));dsimp only;rw[A6 ∅];refine AJ {h4,o4,cC zs n,rfl,b3.trans b4,g4,S4,m3,λe he=>e3 e (by simp[he]),?_};have:=oB zs n;simp at l3;omega
   ·rintro b s' ⟨h3,o3,zs,rfl,b3,g3,S3,m3,_,_⟩
    have m3:zs=aK xs (ord.toList.map val):=m3;let⟨e4,q4,t4,x4,d4,G4⟩:=S3;refine AJ (h h3 o3 d b3 g3 {e4,q4,t4,x4,d4,cO.perm G4 ?_});rw[m3];exact JB1 ((hp.map val).trans Go.pm) xs
end
def wc:entryFor table "set.__or__" = some Builtin.«frozenset.__or__» :=
 entryFor_alias (id':="frozenset.__or__") (by kernel_rfl) (by first|rfl|decide) ∅ (by kernel_rfl)
theorem JB0 {xs ys:Th}(h:∀y∈ys,y∈xs):aK xs ys=xs:=by
 induction ys with
 |nil=>rfl
 |cons y ys ih=>
  have:cC xs y=xs:=by unfold cC;rw[A8 (h y ∅)]
  rwa[aK,E4,this];exact ih λz hz=>h z (by simp[hz])
section
variable {prog:A9}{w:AF}{A:AE}{E:Tb}{s:A1}
def mK {a:A3}{Q:A7->A1->Prop}(hT:s.TypeIs (.ref a) "set")(h:Q true s):wpAny (model prog w) A (Builtin.Frozenset.isAnySet (.ref a)) Q E s:=by unfold Builtin.Frozenset.isAnySet;unfold orM;exact AA (HQ hT sub_set_self (AJ h))
def JEd {l:A3}{ol:As}{xs:Th}{Q:Tb}(hl:s.heap.get? l=some ol)(Sl:cR (!bt w) ol xs)(hz:xs.length<128)
  (h:∀h' d o',(∀b o,s.heap.get? b=some o->h'.get? b=some o)->h'.get? s.heap.objs.size=some o'->cR (!bt w) o' xs->(xs=[]->o'=bc (!bt w))->Q (.ref s.heap.objs.size) {s with heap:=h',drawn:=d}) :
  wpAny (model prog w) A (Builtin.Frozenset.copyOf l) Q E s:=by
 obtain⟨eo,eq,to,hx,hd,Go⟩:=Sl;have Al:=Av hl;have hT:s.TypeIs (.ref l) "set":={ol,hl,hx.1};unfold Builtin.Frozenset.copyOf Builtin.Frozenset.baseOf;refine AA (AA (HQ hT sub_set_self (AJ ?_)));simp only[↓reduceIte];unfold newSet setsByText;refine AA (AA (AA (Es (AJ ?_))));dsimp only;refine Cu ?_;refine AA (show wpAny _ _ (pure s.heap.objs.size) _ _ _ from AJ ?_);have hS:(s.heap.push (bc (!bt w))).get? s.heap.objs.size=some (bc (!bt w)):=BI _ rfl
 by_cases hxs:xs=[]
 ·subst hxs
  have Ia:eo.isEmpty=true:=by have:=cR.len Go;simpa[Array.isEmpty] using this
  unfold setMerge;rw[A6 ‹D2 Al›];refine AA (AA (C5 (Am _ hl) hd Go.ft ?_));dsimp only;rw[A8 Ia];exact AJ (AJ (h _ s.drawn (bc (!bt w)) (λc u e=>Am _ e) hS (iN _) λ_=>rfl))
 ·let⟨fe,fp,ft,fx,fd,Gf⟩:=iN (!bt w)
  cases fd;refine AA (t0 (s:={s with heap:=s.heap.push (bc (!bt w))}) rfl (D2 Al) hS fx rfl Gf (λ_=>{show(7:Nat)∈ee by decide,rfl}) (Am _ hl) hd Go ‹hz› (λs' Q' _ q=>AJ q) λh' o' d b g S=>AJ ?_)
  have hk:∀c u,s.heap.get? c=some u->h'.get? c=some u:=λc u e=>by
   rw[b.2 c (BE (Av e))];exact Am _ e
  let⟨e4,q4,t4,x4,d4,G4⟩:=S;exact h h' d o' hk g {e4,q4,t4,x4,d4,cO.perm G4 (xl Go.nd)} λz=>AH z hxs
def ji {l r:A3}{ol or:As}{xs ys:Th}{Q:Tb}(hl:s.heap.get? l=some ol)(Sl:cR (!bt w) ol xs)(hr:s.heap.get? r=some or)(Sr:cR (!bt w) or ys)(hz:xs.length+ys.length<128)
  (h:∀h' d o',(∀b o,s.heap.get? b=some o->h'.get? b=some o)->h'.get? s.heap.objs.size=some o'->cR (!bt w) o' (aK xs ys)->Q (.ref s.heap.objs.size) {s with heap:=h',drawn:=d}) :
  wpAny (model prog w) A (binaryOp .BitOr (.ref l) (.ref r)) Q E s:=by
 have hTl:s.TypeIs (.ref l) "set":=by obtain⟨_,_,_,hx,_⟩:=Sl;exact{ol,hl,hx.1}
 have hTr:s.TypeIs (.ref r) "set":=by obtain⟨_,_,_,hx,_⟩:=Sr;exact{or,hr,hx.1}
 refine wpAny_binaryOp_same hTl hTr F.fills_set_or F.slot_set_or (Co F.slot_set_or hTl wc ?_ (F.args_set_or_2 _ _))
 refine(show wpAny _ _ (do
  let (self,other) ←Builtin.Frozenset.slot1 "__or__" {[.ref l,.ref r],[]}
  if !(←Builtin.Frozenset.isAnySet self <&&> Builtin.Frozenset.isAnySet other) then rule s!"frozenset.{"__or__"}.declined";return ←ret .notImplemented
  ret (←(do
   let result ←Builtin.Frozenset.copyOf (←Builtin.Frozenset.addrOf self)
   if other != .ref l then holding [result] (Builtin.Frozenset.updateFrom s!"frozenset.{"__or__"}" (←Builtin.Frozenset.addrOf result) other)
   return result:Sem A2))) _ _ _ from ?_)
 refine AA (show wpAny _ _ (pure (Value.ref l,Value.ref r)) _ _ _ from AJ ?_);dsimp only;unfold andM;refine AA (AA (mK hTl ?_));refine(show wpAny _ _ (Builtin.Frozenset.isAnySet (.ref r)) _ _ _ from mK hTr ?_);simp only[zbS,C8,↓reduceIte];refine AA ?_;refine AA (show wpAny _ _ (pure l) _ _ _ from AJ ?_);refine AA (JEd hl Sl ∅ λh1 d1 o1 k1 g1 S1 f1=>?_)
 have fin:∀h' d o',(∀b o,s.heap.get? b=some o->h'.get? b=some o)->h'.get? s.heap.objs.size=some o'->cR (!bt w) o' (aK xs ys) ->
   wpAny (model prog w) A.in1 (pure (Value.ref s.heap.objs.size)) (λa s'=>wpAny (model prog w) A.in1 (ret a) (λfin s'=>∃v,fin=Fin.done (Flow.ret v)/\v≠Value.notImplemented/\Q v s') E s') E {s with heap:=h',drawn:=d} :=
  λh' d o' k g S=>AJ (AJ {_,rfl,by simp,h h' d o' k g S})
 by_cases hlr:r=l
 ·subst hlr
  rw[A6 ∅];refine fin h1 d1 o1 k1 g1 ?_;rw[hl] at hr;cases hr;let⟨e1,q1,t1,x1,d1',G1⟩:=Sl;let⟨e2,q2,t2,x2,d2,G2⟩:=Sr;rw[d1'] at d2;cases d2;rw[JB0 λy hy=>(G1.pm.symm.trans G2.pm).mem_iff.mpr hy];exact S1
 ·rw[A8 ‹hlr›]
  have hr1:=k1 _ _ hr;have hrl:=Av hr
  have hT1:Shared.TypeIs {s with heap:=h1,drawn:=d1} (.ref r) "set":=by obtain⟨_,_,_,hx,_⟩:=Sr;exact{or,hr1,hx.1}
  refine AA (show wpAny _ _ (pure s.heap.objs.size) _ _ _ from AJ ?_);refine AA (By ?_);unfold Builtin.Frozenset.updateFrom;refine AA (mK hT1 ?_);simp only[↓reduceIte];refine AA (show wpAny _ _ (pure r) _ _ _ from AJ ?_);unfold Builtin.Frozenset.merge;let⟨eo,eq,to,hxo,Dr,Go⟩:=Sr;refine AA (wpAny_setEpoch_of hr1 Dr Go.ft ?_)
  have Ia:xs=[]->∀e q t,o1.data=.set e q t->t.mask∈ee/\t.dummies = #[]:=λz e q t ed=>by
   rw[f1 z] at ed;cases ed;exact{show(7:Nat)∈ee by decide,rfl}
  let⟨e1,q1,t1,x1,dd1,G1⟩:=S1;refine t0 (s:={s with heap:=h1,drawn:=d1}) rfl (D2 hrl) g1 x1 dd1 G1 (λz=>Ia z _ _ _ dd1) hr1 Dr Go hz (λs' Q' q' z=>?_) λh' o' d b g S=>?_
  ·unfold Builtin.Frozenset.unchanged
   refine AA (wpAny_setEpoch_of q' Dr Go.ft ?_);rw[A6 ∅];exact AJ z
  ·refine fin h' d o' (λc u e=>?_) g S
   rw[b.2 c (BE (Av e))];exact k1 c u e
end
section
variable {prog:A9}{w:AF}{A:AE}{E:Tb}{s:A1}
set_option maxHeartbeats 3200000 in
def JDu {l:A3}{its:Ti}{ns:Th}{Q:Tb}
  (hh:A.handled=none) (hl:s.heap.IsList l its) (hi:IntsAre its.toList ns) (hb:its.size+1<scanBound)
  (h:∀(h':AD) (tk:Nat) (o:As),h'.get? s.heap.objs.size=some o->cR (!w.params.followText "set-order") o (aK [] ns) ->
   (∀b o,s.heap.get? b=some o->h'.get? b=some o)->s.toks<=tk->Q (.ref s.heap.objs.size) {s with heap:=h',toks:=tk}) :
  wpAny (model prog w) A (call (.type "set") [.ref l]) Q E s:=by
 have hh3:A.in1.in1.in1.handled=none:=by simp[hh]
 have hl0:=hl;let⟨ol,G3,Ck,nl,hdl⟩:=hl;refine s9 (P:=λled _ o=>cR led o (aK [] ns)) G3 Ck F.sub_list_set F.sub_list_frozenset ∅ (λt A' E' Q' e q=>zcI {_,e,Ck,nl,hdl} q) (λled R' IL Bx k=>?_) h
 exact mM ((Walks.list hh3 _ l IL its).toS) s.heap.objs.size Bx (led:=led) ns (by have:=IntsAre.length hi;simpa using this.symm)
  (λi v hv=>IntsAre.int_at hi i v (by rw[Hc];exact hv)) (its.size-0) 0 _ (bc led) [] ∅ (DH _)
  {{_,BI _ rfl,rfl,rfl},(hl0.push _).push _} (Am _ (BI _ rfl)) (iN led) ‹hb› k
end
def rG:typeLookup (.type "list") "keys" = pure none:=by rw[zce,zbI];kernel_rfl
section
variable {prog:A9}{w:AF}{A:AE}{E:Tb}{h:AD}{g:AB GenState}{d:Drawn}{t:Nat}{os:OsState}{a:A3}{its:Ti}{n:Nat}
set_option maxHeartbeats 2000000 in
def vK {tk:Tok}{Q:Fin->A1->Prop}(hh:A.handled=none)(hx:h.get? a=some {cls:=.type "list",data:=.seq its n})
  (hq:∀h' Bn e,Heap.NewAttrErr h h' e (.ref a) "keys"->E (.ref e) {h',g,d,Bn,os}) :
  wpAny (model prog w) A (Builtin.«object.__getattribute__» {[.ref a,.str "keys" tk],[]}) Q E {h,g,d,t,os}:=by
 have hT:(⟨h,g,d,t,os⟩:A1).TypeIs (.ref a) "list":={_,hx,rfl};have f4:=rG
 repeat (any_goals (first|assumption|wp_step))
 exact wpAny_raiseAttrError hh hq (attrMsg_fits ∅ (by size_fits))
def JCx {tk:Tok}{Q:Tb}(hh:A.handled=none)(hx:h.get? a=some {cls:=.type "list",data:=.seq its n})
  (hq:∀h' Bn e,Heap.NewAttrErr h h' e (.ref a) "keys"->E (.ref e) {h',g,d,Bn,os}) :
  wpAny (model prog w) A (getAttrBy (.ref a) (.str "keys" tk) false) Q E {h,g,d,t,os}:=by
 have hT:(⟨h,g,d,t,os⟩:A1).TypeIs (.ref a) "list":={_,hx,rfl};have f2:=F.slot_list_getattribute.lookup;have f3:=F.slot_list_getattribute.bind (.ref a)
 repeat (any_goals (first|assumption|wp_step))
 refine zcx F.slot_list_getattribute.plain F.entry_list_ga (F.slot_list_getattribute.check _ _ _ _ _ _ _ _ hT (F.args_list_getattribute_2 _ _) ?_);refine vK (show A.in1.handled=none from hh) hx λh' Bn e IA=>?_;obtain⟨t',u',he⟩:=IA.there;have f1:=sub_AttributeError;have f5:typeLookup (.type "list") "__getattr__" = pure none:=am_miss_of_fast (by kernel_rfl);refine(show wpAny _ _ (getattributeRaised _ _ _ _ _ _ _) _ _ _ from ?_);unfold getattributeRaised
 repeat (any_goals (first|assumption|wp_step))
 exact hq _ _ _ IA
def JCu {Q:QI A2->A1->Prop}(hh:A.handled=none)(hx:h.get? a=some {cls:=.type "list",data:=.seq its n})
  (hq:∀h' Bn,(∀c u,h.get? c=some u->h'.get? c=some u)->Q none {h',g,d,Bn,os}) :
  wpAny (model prog w) A (getAttr? (.ref a) "keys") Q E {h,g,d,t,os}:=by
 unfold getAttr? getAttrBy?;refine AA (wpAny_mkText (AA (Hd (JCx hh hx λh' Bn e IA=>?_))));obtain⟨t',u',he⟩:=IA.there;exact AA (HQ (T:="AttributeError") {_,he,rfl} sub_AttributeError (AJ (hq _ _ IA.keeps)))
end
def fQ:entryFor table "dict.update.loop" = some Builtin.«dict.update.loop»:=entryFor_of_tree (by kernel_rfl)
def cD:plainId "dict.update.loop" = true:=by decide
section
variable {prog:A9}{w:AF}{A:AE}{R:Result->A1->Prop}{I:A3}{fp wr:Tf}{n:Nat}{P:Nat->A2->Prop}{St:Nat->AD->Prop}
structure gh (h:Heap)(v key val:Value):Prop where
 ex:∃a o c,v=.ref a/\h.get? a=some o/\o.cls=.type "tuple"/\o.data=.seq #[key,val] c
def gh.keep {h h':AD}{v key val:A2}(p:gh h v key val)(k:∀a o,v=.ref a->h.get? a=some o->h'.get? a=some o):gh h' v key val:=by let⟨a,o,c,rfl,h1,h2,h3⟩:=p.ex;exact{a,o,c,rfl,k a o rfl h1,h2,h3}
noncomputable def putAll {K:Type}[DecidableEq K](A4:P4 (K×A2))(ps:P4 (K×A2)):P4 (K×A2):=ps.foldl (λa p=>stored a p.1 p.2) A4
theorem za {K:Type}[DecidableEq K]{knd:KeyKind prog w K}(W:Walks prog w A.in1 I fp wr n P St)(S:A3)(Bx:S∉fp)(ps:P4 (K×A2))(hps:ps.length=n)(h₀:AD)
  (hP:∀i v,P i v->∃k x key,ps[i]?=some (k,x)/\knd.is k key=true/\gh h₀ v key x/\∀a,v=.ref a->a≠S/\a∉wr) :
  ∀(k i:Nat) (s:A1) (c:Int) (A4:P4 (K×A2)),n-i=k->i<=n->St i s.heap->(∀b o,b≠S->b∉wr->h₀.get? b=some o->s.heap.get? b=some o)->s.heap.DictOf knd S A4->A4.length+k<=sizeLine ->
   (∀h' tk,(∀b o,b≠S->b∉wr->s.heap.get? b=some o->h'.get? b=some o)->s.toks<=tk\/True->h'.DictOf knd S (putAll A4 (ps.drop i))->R (.ok (.ret .none)) {s with heap:=h',toks:=tk}) ->
   codeAny (model prog w) A (.builtin "dict.update.loop" {[.ref S,.ref I,.int c 0,.none],[]}) R s:=by
 have nw:S∉wr:=λh=>Bx (W.sub _ h);intro k
 induction k with
 |zero=>
  intro i s c A4 hk hi D7 h0 hS hb hR
  have IV:i=n:=by omega
  subst IV;refine DW fQ ?_;rw[Dw cD _];refine(show wpAny _ A.in1 (pyNext (.ref I) >>= _) _ _ s from AA (W.done s _ _ D7 λh' tk Cj=>?_));refine(show wpAny _ A.in1 (do Builtin.Dict.addKeywords S [];ret Value.none) _ _ _ from AA (show wpAny _ _ (pure ()) _ _ _ from AJ (AJ ?_)));refine hR h' tk (λb o _ hb e=>Cj b o hb e) (.inr trivial) ?_;rw[zcq ∅];let⟨o,es,ep,ho,r⟩:=hS;exact{o,es,ep,Cj S o nw ho,r}
 |succ k ih=>
  intro i s c A4 hk hi D7 h0 hS hb hR
  have Al:i<n:=by omega
  refine DW fQ ?_;rw[Dw cD _];refine(show wpAny _ A.in1 (pyNext (.ref I) >>= _) _ _ s from AA (W.item i s _ _ Al D7 λv h1 tk1 hPv ID HJ=>?_));let⟨kk,x,key,hpi,Bo,EU,Ii⟩:=hP i v hPv;have DQ:gh h1 v key x:=EU.keep λa o e q=>HJ a o (Ii a e).2 (h0 a o (Ii a e).1 (Ii a e).2 q);let⟨a,o,cc,rfl,ho,hc,hd⟩:=DQ.ex
  have hS1:h1.DictOf knd S A4:=by
   let⟨o,es,ep,ho,r⟩:=hS;exact{o,es,ep,HJ S o nw ho,r}
  refine AA (By (AA (wpAny_tryCatch ?_)));unfold Builtin.Dict.pairItems;refine AA (Ei (T:="tuple") {o,ho,hc} ?_);rw[A8 ∅];refine AA (zcD ho hd (AJ ?_));refine(show wpAny _ _ (holding [key,x] (dictSet S key x)) _ _ _ from By (wpAny_dictSet_pairs (s:={s with heap:=h1,toks:=tk1}) Bo hS1 (λh2 E0 Dz=>?_) ∅))
  have DB:ps.drop i=(kk,x)::ps.drop (i+1):=by
   let⟨hl,e⟩:=Bv.mp hpi;rw[zbl hl,e]
  have hlen:(stored A4 kk x).length<=A4.length+1:=stored_length_le A4 kk x;refine AJ {Ep cD _,ih (i+1) {s with heap:=h2,toks:=tk1+1} (c+1) _ ∅ Al (W.frame _ h1 _ ID λb hb o e=>?_) (λb o n1 n2 e=>?_) E0 ∅ λh' Bn Cj ht hD=>?_}
  ·rw[Dz.2 b (λh:b=S=>Bx (h ▸ hb))];exact e
  ·rw[Dz.2 b n1];exact HJ b o n2 (h0 b o n1 n2 e)
  ·refine hR h' Bn (λb o n1 n2 e=>Cj b o n1 n2 ?_) (.inr trivial) (by rw[DB];exact hD)
   show h2.get? b=some o
   rw[Dz.2 b n1];exact HJ b o n2 e
end
def Bw:mroOf (.type "dict")=pure [.type "dict",.type "object"]:=by rw[mroOf_type];kernel_rfl
def rF:typeLookup (.type "dict") "__new__" = pure (some (.builtin "dict.__new__")):=by rw[zce,zbI];kernel_rfl
def sZ:Slot "dict" "__init__" "dict.__init__":=by
 refine .of (owner:="dict") (n:="__init__") ?_ ∅ ∅ ∅ ?_ ?_
 ·rw[zce,zbI];kernel_rfl
 ·first|exact .inl ∅|exact .inr ∅
 ·rw[isSubtype_type];kernel_rfl
def fg:TypeCalled "dict" "dict.__new__" "dict.__init__" :=
 {by decide,by decide,{_,_,Bw},madeBy_type Bw rF ∅,by decide,by rw[isSubtype_type];kernel_rfl,sZ}
def u5 (a:A2):checkTypeCall "dict" {[a],[]}=pure ():=by kernel_rfl
def yF (a:A2):checkBuiltinCall "dict.__new__" {[.type "dict",a],[]}=pure ():=by kernel_rfl
def ux:entryFor table "dict.__new__" = some Builtin.«dict.__new__»:=entryFor_of_tree (by kernel_rfl)
def mR:plainId "dict.__new__" = true:=by decide
def sk:entryFor table "dict.__init__" = some Builtin.«dict.__init__»:=entryFor_of_tree (by kernel_rfl)
def nZ:isSubtype (.type "dict") (.type "dict")=pure true:=by rw[isSubtype_type];kernel_rfl
def t9:builtinKind "dict.__init__" = some .slot:=by kernel_rfl
def q8:splitId "dict.__init__" = some ("dict","__init__"):=by kernel_rfl
def vh:Manifest.signature? "dict.__init__" = some {.positional,"dict","dict",.self,[{"other",.posOnly,false},{"kwargs",.varKw,false}]}:=by kernel_rfl
section
variable {prog:A9}{w:AF}{A:AE}{E:Tb}{s:A1}
abbrev cj:As:={cls:=.type "dict",dict:=none,data:=.dict #[]}
def JCl (a:A2){Q₁:Tb}(h:Q₁ (.ref s.heap.objs.size) {s with heap:=s.heap.push cj}) :
  codeAny (model prog w) A (.call (.builtin "dict.__new__") {[.type "dict",a],[]}) (wants Q₁ E) s:=by
 refine zcw (show wpAny _ A.in1 (do checkBuiltinCall "dict.__new__" {[.type "dict",a],[]};again (.builtin "dict.__new__" {[.type "dict",a],[]})) _ _ s from ?_);refine AA (zcR (yF a) (AJ {Ep mR _,DW ux ?_}));rw[Dw mR _];have IC:=nZ;have hmro:=Bw;unfold Builtin.«dict.__new__»;obtain⟨hp,g,d,tk,os⟩:=s;dsimp only
 repeat (any_goals (first|assumption|wp_step))
def ss {M:Model}{self a:A2}{Q:Unit->A1->Prop}(hT:s.TypeIs self "dict")(hQ:Q () s) :
  wpAny M A (checkBuiltinCall "dict.__init__" {[self,a],[]}) Q E s:=by
 rwa[checkBuiltinCall,t9,q8,vh];refine AA (HQ hT nZ ?_);rwa[zbS,C8,if_false];unfold Bind.checkArgs;dsimp only;refine AA (m:=Bind.printed "dict" true _ _) (PyProof.Rows.printed_name ∅ ?_);refine AA (m:=Bind.printed "dict" false _ _) (PyProof.Rows.printed_name ∅ ?_)
 have hrn:(Manifest.Receiver.self == Manifest.Receiver.none)=false:=by decide
 have hn:(if (Manifest.Receiver.self == Manifest.Receiver.none)=true then [self,a].length else [self,a].length-1)=1:=by simp[hrn]
 rw[hn];rwa[D1]
 have hc:Bind.check ⟨.positional,"dict","dict",.self,[{"other",.posOnly,false},{"kwargs",.varKw,false}]⟩ "dict" "dict" 1 []=pure ():=by kernel_rfl
 rw[hc];exact wpAny_onRaise (AJ hQ)
set_option maxHeartbeats 3200000 in
theorem qE {l:A3}{its:Ti}{c:Nat}{D:AD->Prop}{Q:Tb}(hh:A.handled=none)(hl:s.heap.get? l=some {cls:=.type "list",data:=.seq its c})
  (EZ:∀(h2:AD) (tk2:Nat) (R':Result->A1->Prop),(∀b o,(s.heap.push cj).get? b=some o->h2.get? b=some o)->l≠h2.objs.size->s.heap.objs.size∉[h2.objs.size,l]->h2.IsList l its->h2.get? s.heap.objs.size=some cj ->
   (∀h' Bn,(∀b o,b≠s.heap.objs.size->b∉[h2.objs.size]->(h2.push {cls:=.type "list_iterator",data:=.fields #[.ref l,.int 0 0]}).get? b=some o->h'.get? b=some o)->D h'->R' (.ok (.ret .none)) {s with heap:=h',toks:=Bn}) ->
   codeAny (model prog w) A.in1 (.builtin "dict.update.loop" {[.ref s.heap.objs.size,.ref h2.objs.size,.int 0 0,.none],[]}) R' {s with heap:=h2.push {cls:=.type "list_iterator",data:=.fields #[.ref l,.int 0 0]},toks:=tk2})
  (h:∀(h':AD) (tk:Nat),D h'->(∀b o,s.heap.get? b=some o->h'.get? b=some o)->Q (.ref s.heap.objs.size) {s with heap:=h',toks:=tk}) :
  wpAny (model prog w) A (call (.type "dict") [.ref l]) Q E s:=by
 obtain⟨cc,tl,hmro⟩:=fg.mro;have hmade:=fg.made;have IC:=fg.sub;refine wpAny_call (zcw (show wpAny _ _ (callAny (.type "dict") _) _ _ _ from ?_));refine AJ {Code.quiet_builtin _ ∅,DW F.entry_type_call ?_};rw[Around.under_plain (weight_type_call_type "dict" [.ref l] []) rfl];have h1:=fg.notType;have h2:=fg.canCreate;have hct:=u5 (.ref l)
 repeat (any_goals (first|assumption|wp_step))
 refine Ej (JCl (.ref l) (E:=E) (Q₁:=λobj s₁=>obj=.ref s.heap.objs.size/\s₁={s with heap:=s.heap.push cj}) {rfl,rfl}) λr s₁ hr=>?_
 cases r with
 |error e=>exact hr
 |ok fl=>
  cases fl with
  |ret obj=>
   obtain⟨rfl,rfl⟩:=hr;have hS:(s.heap.push cj).get? s.heap.objs.size=some cj:=BI _ rfl;have hT:Shared.TypeIs {s with heap:=s.heap.push cj} (.ref s.heap.objs.size) "dict":={_,hS,rfl};have hli:=fg.init.lookup;have hbi:=fg.init.bind (.ref s.heap.objs.size)
   repeat (any_goals (first|assumption|wp_step))
   refine Ej (zcx (R:=wants (λr s₂=>r=.none/\∃h' tk,s₂={s with heap:=h',toks:=tk}/\D h' /\
     (∀b o,s.heap.get? b=some o->h'.get? b=some o)) E) fg.init.plain sk (ss hT ?_)) λr₂ s₂ IF=>?_
   ·have hlS:l<s.heap.objs.size:=Av hl
    have hl1:(s.heap.push cj).get? l=some {cls:=.type "list",data:=.seq its c}:=Am _ hl;have hTl:Shared.TypeIs {s with heap:=s.heap.push cj} (.ref l) "list":={_,hl1,rfl};unfold Builtin.«dict.__init__» Builtin.Dict.selfAndRest Builtin.Dict.notOrdered;refine AA (AA ?_);rw[A8 ∅];refine AA (Ei hT ?_);rw[A6 ∅];refine AJ (AA (show wpAny _ _ (pure s.heap.objs.size) _ _ _ from AJ (AJ ?_)));refine(show wpAny _ _ (Builtin.Dict.updateFrom "dict.__init__" s.heap.objs.size (.ref l) [] .none) _ _ _ from ?_);unfold Builtin.Dict.updateFrom;refine AA (Ei hTl ?_);rw[A8 ∅];refine AA (JCu (show A.in1.in1.handled=none from hh) hl1 λh2 tk2 Dx=>?_);rw[A8 (show(none:Tg).isNone=true from rfl)];have hl2:=Dx _ _ hl1;have E0:=Dx _ _ hS;have hl3:h2.IsList l its:={_,hl2,rfl,c,rfl};refine AA (Eu (AA (zcI hl3 ?_)));have hlI:l≠h2.objs.size:=BE (Av hl2);have hSI:s.heap.objs.size≠h2.objs.size:=BE (Av E0)
    have Bx:s.heap.objs.size∉[h2.objs.size,l]:=by
     rwa[Ax,Dk,or_false,not_or];exact{hSI,D2 hlS}
    refine AJ {Ep cD _,EZ h2 tk2 _ Dx hlI Bx hl3 E0 λh' Bn Cj hD=>?_};refine{rfl,h',Bn,rfl,hD,λb o e=>Cj b o (BE (Av e)) ?_ (Am _ (Dx _ _ (Am _ e)))};rwa[Ax,Dk,or_false];exact BE (Av (Dx _ _ (Am _ e)))
   ·cases r₂ with
    |error e=>exact IF
    |ok fl2=>
     cases fl2 with
     |ret r=>
      let⟨rfl,h',tk,rfl,Ef,Cj⟩:=IF
      repeat (any_goals (first|assumption|wp_step))
      exact h _ _ Ef Cj
     |_=>exact IF.elim
  |_=>exact hr.elim
def JCk {K:Type}[DecidableEq K]{knd:KeyKind prog w K}{l:A3}{its:Ti}{c:Nat}{ps:P4 (K×A2)}{Q:Tb}
  (hh:A.handled=none) (hl:s.heap.get? l=some {cls:=.type "list",data:=.seq its c}) (hps:ps.length=its.size) (hz:its.size<=sizeLine)
  (hP:∀(i:Nat) v,its[i]?=some v->∃k x key,ps[i]?=some (k,x)/\knd.is k key=true/\gh s.heap v key x)
  (h:∀(h':AD) (tk:Nat),h'.DictOf knd s.heap.objs.size (putAll [] ps)->(∀b o,s.heap.get? b=some o->h'.get? b=some o)->Q (.ref s.heap.objs.size) {s with heap:=h',toks:=tk}) :
  wpAny (model prog w) A (call (.type "dict") [.ref l]) Q E s:=by
 refine qE hh hl (λh2 tk2 R' Dx hlI Bx hl3 E0 kk=>?_) h
 refine za (Walks.list (by simp[hh]) h2.objs.size l hlI its) s.heap.objs.size Bx ps hps s.heap (λi v hv=>?_) (its.size-0) 0 _ 0 [] ∅ (DH _)
  {{_,BI _ rfl,rfl,rfl},hl3.push _} (λb o _ _ e=>Am _ (Dx _ _ (Am _ e)))
  {cj,#[],0,Am _ E0,{rfl,rfl,rfl},rfl,λe he=>by simp at he,.nil,zcl} ‹hz› λh' Bn Cj _ hD=>kk h' Bn Cj ‹hD›
 let⟨k,x,key,e1,e2,e3⟩:=hP i v hv;refine{k,x,key,e1,e2,e3,λa e=>?_};let⟨a',o',c',q1,q2,_,_⟩:=e3.ex;rw[q1] at e;cases e;refine{BE (Av q2),?_};rwa[Ax,Dk,or_false];exact BE (Av (Dx _ _ (Am _ q2)))
end
end HS
namespace L2
open PyProof.Rows
def lS (H:Hp)(q:Str)(ps:Ti):Prop:=TriplesOk ps.toList/\∀pos cv,codeAmong pos ps.toList=some cv->∃c' oc vs t,cv=.ref c'/\H c'=some (.frz oc (.ext λ_=>True))/\oc.data=.fields vs/\vs[1]?=some (.str q t)
def lS.mono {H H':Hp}{q:Str}{ps:Ti}(g:lS H q ps)(k:∀b o u,H b=some (.frz o u)->H' b=some (.frz o u)):lS H' q ps :=
 {g.1,λpos cv e=>let ⟨c',oc,vs,t,e1,e2,r⟩:=g.2 pos cv e;{c',oc,vs,t,e1,k _ _ _ e2,r}}
structure CS (x:Str)(caps:Tn)(sc:Scope)(cl:List (Str×Addr)):Prop where
 kind:sc.kind=.function
 co:sc.isCoroutine=false
 gen:sc.isGenerator=false
 nd:(x::caps).Nodup
 par:sc.names.lookup x=some .local
 nocell:∀y∈sc.names,y.2≠.cell
 free:∀y,sc.names.lookup y=some .free->∃c,cl.lookup y=some c
 inj:∀y z c,cl.lookup y=some c->cl.lookup z=some c->y=z
end L2
namespace HW
open L2
inductive D where
 |non|bl (b:Bool)|int (i:Int)|str (x:Str)
 |tup (xs:List D)|fl (xs:List D)|fd (ks:List aE) (ds:List D)|key (ks:Th)
structure MD where
 qual:Str
 params:Arguments
 body:Expr
 scope:Scope
 x:Str
 caps:Tn
inductive R where
 |v (d:D)|p (n:Nat)|s (b:Bool) (xs:Th)|x (c:Str)|f (L:MD) (ds:List D)
inductive au where
 |lst (xs:List D)|fz (xs:List D)|dct (A4:List (aE×D))|fzd (A4:List (aE×D))|dr (A4:List (aE×R))|lr (xs:List R)|dt (A4:List (Th×D))|tb (P:Nat) (q:Str)|ob (c:Str) (fs:List (Str×R))|tr (xs:List R)|fzr (A4:List (aE×R))|dtr (A4:List (Th×R))|fzt (A4:List (Th×D))|hk (A4:List (aE×D))
abbrev ac:=P4 au
abbrev Lo:=P4 (QI R)
abbrev FE:=Lo->ac->QI (R×ac)
abbrev FT:=Lo->ac->QI (A7×ac)
abbrev FA:=Lo->ac->QI (P4 R×ac)
inductive nP where
 |nx (O:Lo) (U:ac)|rt (d:R) (U:ac)|bk (O:Lo) (U:ac)|ct (O:Lo) (U:ac)
abbrev FS:=Lo->ac->QI nP
def Fa (K:AP)(H:Hp)(a:A3)(vs:P4 V):Prop:=(∃o,H a=some (.frz o (.lst vs)))\/j6 K (λ_=>none) a vs
mutual
def ak (K:AP)(H:Hp):D->V->Prop
 |.non,v=>v=.non
 |.bl b,v=>v=.bl b
 |.int i,v=>v=.int i
 |.str x,v=>v=.str x
 |.tup xs,v=>∃a vs,v=.ref a/\gp K H a vs/\RelDs K H xs vs
 |.fl xs,v=>∃a vs,v=.ref a/\Fa K H a vs/\RelDs K H xs vs
 |.fd ks ds,v=>∃a o es,v=.ref a/\H a=some (.frz o (.dK es))/\es.map (·.1)=ks/\RelDs K H ds (es.map (·.2))
 |.key ks,v=>∃a,v=.ref a/\H a=some (.tup (ks.map V.int))
def RelDs (K:AP)(H:Hp):P4 D->P4 V->Prop
 |[],vs=>vs=[]
 |x::xs,vs=>∃v r,vs=v::r/\ak K H x v/\RelDs K H xs r
end
structure zp (K:AP)(H:Hp)(L:MD)(ds:List D)(a:Addr)(cl:List (Str×Addr))(pm DT:Value)(c':Addr):Prop where
 fn:H a=some (.frz (PySem.W.kla_obj "<lambda>" L.qual L.params L.body L.scope cl pm c' DT) (.ext λ_=>True))
 code:∃oc vs t,H c'=some (.frz oc (.ext λ_=>True))/\oc.data=.fields vs/\vs[1]?=some (.str L.qual t)
 len:ds.length=L.caps.length
 cell:∀y c,cl.lookup y=some c->∃z o,H c=some (.frz o (.ext λ_=>True))/\o.data=.cell z
 cap:∀(i:Nat) y d,L.caps[i]?=some y->ds[i]?=some d->∃c o u vy,L.scope.names.lookup y=some .free/\cl.lookup y=some c/\H c=some (.frz o (.ext λ_=>True))/\o.data=.cell (some u)/\aT vy u/\ak K H d vy
 sc:CS L.x L.caps L.scope cl
def av (K:AP)(m:Tf)(H:Hp):R->V->Prop
 |.v d,v=>ak K H d v
 |.p n,v=>∃a,v=.ref a/\m[n]?=some a
 |.s b xs,v=>∃a o,v=.ref a/\H a=some (.frz o (.ext λ_=>True))/\HS.cR b o xs
 |.x c,v=>∃a vs C,v=.ref a/\H a=some (.frz {cls:=.ref C,dict:=none,data:=.fields vs,slots:=#[]} (.ext λ_=>True))/\PySem.W.nsIn K mainGlobals c=some (some (.ref C))
 |.f L ds,v=>∃a cl pm DT c',v=.ref a/\zp K H L ds a cl pm DT c'
def aR (K:AP)(m:Tf)(H:Hp):P4 R->P4 V->Prop
 |[],vs=>vs=[]
 |x::xs,vs=>∃v r,vs=v::r/\av K m H x v/\aR K m H xs r
def gl (K:AP)(m:Tf)(H:Hp):au->A3->Prop
 |.lst xs,a=>∃vs,H a=some (.lst vs)/\RelDs K H xs vs
 |.fz xs,a=>∃o vs,H a=some (.frz o (.lst vs))/\RelDs K H xs vs
 |.dct A4,a=>∃es,H a=some (.dK es)/\es.map (·.1)=A4.map (·.1)/\RelDs K H (A4.map (·.2)) (es.map (·.2))
 |.fzd A4,a=>∃o es,H a=some (.frz o (.dK es))/\es.map (·.1)=A4.map (·.1)/\RelDs K H (A4.map (·.2)) (es.map (·.2))
 |.dr A4,a=>∃es,H a=some (.dK es)/\es.map (·.1)=A4.map (·.1)/\aR K m H (A4.map (·.2)) (es.map (·.2))
 |.lr xs,a=>∃vs,H a=some (.lst vs)/\aR K m H xs vs
 |.tb P q,a=>a=P/\∃ps,H P=some (.tbl ps)/\lS H q ps
 |.ob c fs,a=>∃C dx es,PySem.W.nsIn K mainGlobals c=some (some (.ref C))/\H a=some (.ins C dx es)/\es.map (·.1)=fs.map (·.1)/\aR K m H (fs.map (·.2)) (es.map (·.2))
 |.tr xs,a=>∃vs,H a=some (.tup vs)/\aR K m H xs vs
 |.fzr A4,a=>∃o es,H a=some (.frz o (.dK es))/\es.map (·.1)=A4.map (·.1)/\aR K m H (A4.map (·.2)) (es.map (·.2))
 |.dtr A4,a=>∃es,H a=some (.dT es)/\es.map (·.1)=A4.map (λp=>p.1.map Sum.inl)/\aR K m H (A4.map (·.2)) (es.map (·.2))
 |.dt A4,a=>∃es,H a=some (.dT es)/\es.map (·.1)=A4.map (λp=>p.1.map Sum.inl)/\RelDs K H (A4.map (·.2)) (es.map (·.2))
 |.fzt A4,a=>∃o es,H a=some (.frz o (.dT es))/\es.map (·.1)=A4.map (λp=>p.1.map Sum.inl)/\RelDs K H (A4.map (·.2)) (es.map (·.2))
 |.hk A4,a=>∃o es,H a=some (.frz o (.frz o (.dK es)))/\es.map (·.1)=A4.map (·.1)/\RelDs K H (A4.map (·.2)) (es.map (·.2))
structure aJ (K:AP)(m:Tf)(H:Hp)(U:ac):Prop where
 nd:m.Nodup
 len:m.length=U.length
 cell:∀(i:Nat) c a,U[i]?=some c->m[i]?=some a->gl K m H c a
structure TF (H H':Hp):Prop where
 tup:∀a xs,H a=some (.tup xs)->H' a=some (.tup xs)
 frz:∀a o u,H a=some (.frz o u)->H' a=some (.frz o u)
structure dz (m:Tf)(H:Hp)(m':Tf)(H':Hp):Prop where
 ext:∃e,m'=m++e/\∀a∈e,H a=none
 tf:TF H H'
 keep:∀a o,H a=some o->a∉m->H' a=some o
 live:∀a,H' a=none->H a=none
def dX (K:AP)(m:Tf)(H:Hp)(O:Lo)(Y:St):Prop :=
 O.length=Y.length/\∀(i:Nat) d,O[i]?=some (some d)->∃v,Y[i]?=some (some v)/\av K m H d v
section
variable {K:AP}{H H' H1 H2:Hp}
def TF.refl:TF H H:={λ_ _ h=>h,λ_ _ _ h=>h}
def TF.trans (a:TF H H1)(b:TF H1 H2):TF H H2:={λ_ _ h=>b.tup _ _ (a.tup _ _ h),λ_ _ _ h=>b.frz _ _ _ (a.frz _ _ _ h)}
def TF.of (h:∀a o,H a=some o->H' a=some o):TF H H':={λ_ _ e=>h _ _ e,λ_ _ _ e=>h _ _ e}
def gp.tf {a vs}(t:TF H H')(h:gp K H a vs):gp K H' a vs:=by
 rcases h with(h|⟨o,h⟩)|h
 ·exact .inl (.inl (t.tup _ _ h))
 ·exact .inl (.inr {o,t.frz _ _ _ h})
 ·exact .inr h
def Fa.tf {a vs}(t:TF H H')(h:Fa K H a vs):Fa K H' a vs:=by
 rcases h with⟨o,h⟩|h
 ·exact .inl {o,t.frz _ _ _ h}
 ·exact .inr h
def Fa.sq {a vs}(h:Fa K H a vs):j6 K H a vs:=by
 rcases h with⟨o,h⟩|(h|⟨_,h⟩)|h
 ·exact .inl (.inr {o,h})
 ·cases h
 ·cases h
 ·exact .inr h
mutual
theorem ak.tf (t:TF H H'):∀(d:D) (v:V),ak K H d v->ak K H' d v
 |.non,_,h=>by simpa only[ak] using h
 |.bl _,_,h=>by simpa only[ak] using h
 |.int _,_,h=>by simpa only[ak] using h
 |.str _,_,h=>by simpa only[ak] using h
 |.tup xs,v,h=>by rwa[ak] at h ⊢;let⟨a,vs,e,s,r⟩:=h;exact{a,vs,e,gp.tf t s,RelDs.tf t xs vs r}
 |.fl xs,v,h=>by rwa[ak] at h ⊢;let⟨a,vs,e,s,r⟩:=h;exact{a,vs,e,s.tf t,RelDs.tf t xs vs r}
 |.fd ks ds,v,h=>by rwa[ak] at h ⊢;let⟨a,o,es,e,s,k,r⟩:=h;exact{a,o,es,e,t.frz _ _ _ s,k,RelDs.tf t ds _ r}
 |.key ks,v,h=>by rwa[ak] at h ⊢;let⟨a,e,q⟩:=h;exact{a,e,t.tup _ _ q}
theorem RelDs.tf (t:TF H H'):∀(ds:P4 D) (vs:P4 V),RelDs K H ds vs->RelDs K H' ds vs
 |[],_,h=>by simpa only[RelDs] using h
 |d::ds,vs,h=>by rwa[RelDs] at h ⊢;let⟨v,r,e,h1,h2⟩:=h;exact{v,r,e,ak.tf t d v h1,RelDs.tf t ds r h2}
end
def zp.tf {L ds a cl pm DT c'}(t:TF H H')(h:zp K H L ds a cl pm DT c'):zp K H' L ds a cl pm DT c':=by
 refine{t.frz _ _ _ h.fn,?_,h.len,λy c e=>?_,λi y d e1 e2=>?_,h.sc}
 ·let⟨oc,vs,u,e,r⟩:=h.code;exact{oc,vs,u,t.frz _ _ _ e,r}
 ·let⟨z,o,q,r⟩:=h.cell y c e;exact{z,o,t.frz _ _ _ q,r}
 ·let⟨c,o,u,vy,k1,k2,k3,k4,k5,k6⟩:=h.cap i y d e1 e2;exact{c,o,u,vy,k1,k2,t.frz _ _ _ k3,k4,k5,ak.tf t _ _ k6}
def dz.refl:dz m H m H:={{[],by simp},.refl,λ_ _ h _=>h,λ_ h=>h}
def dz.trans (x:dz m H m1 H1)(y:dz m1 H1 m2 H2):dz m H m2 H2:=by
 let⟨e1,rfl,f1⟩:=x.ext;let⟨e2,rfl,f2⟩:=y.ext;refine{{e1++e2,by simp,λa ha=>?_},x.tf.trans y.tf,λa o h n=>?_,λa h=>x.live a (y.live a h)}
 ·rcases DI.mp ha with h|h
  ·exact f1 a h
  ·exact x.live a (f2 a h)
 ·refine y.keep a o (x.keep a o h n) λz=>?_;rcases DI.mp z with z|z
  ·exact n z
  ·rw[f1 a z] at h;cases h
theorem av.ext (x:dz m H m' H'){d:R}{v:V}(h:av K m H d v):av K m' H' d v:=by
 cases d with
 |v d=>exact ak.tf x.tf d v h
 |p n=>
  let⟨a,e,q⟩:=h;let⟨e1,rfl,_⟩:=x.ext;refine{a,e,?_};let⟨hl,hq⟩:=Bv.mp q;rw[BY hl];exact q
 |s b xs=>
  let⟨a,o,e,q,r⟩:=h;exact{a,o,e,x.tf.frz _ _ _ q,r}
 |x c=>
  let⟨a,vs,C,e,q,r⟩:=h;exact{a,vs,C,e,x.tf.frz _ _ _ q,r}
 |f L ds=>
  let⟨a,cl,pm,DT,c',e,q⟩:=h;exact{a,cl,pm,DT,c',e,q.tf x.tf}
theorem aR.ext (x:dz m H m' H'):∀{ds:P4 R} {vs:P4 V},aR K m H ds vs->aR K m' H' ds vs
 |[],_,h=>h
 |_::_,_,⟨v,r,e,h1,h2⟩=>{v,r,e,h1.ext x,aR.ext x h2}
def dX.ext (x:dz m H m' H')(h:dX K m H O Y):dX K m' H' O Y :=
 {h.1,λi d e=>let ⟨v,q,r⟩:=h.2 i d e;{v,q,r.ext x}}
theorem av.tfm (t:TF H H')(y:∃e,m'=m++e){d:R}{v:V}(h:av K m H d v):av K m' H' d v:=by
 cases d with
 |v d=>exact ak.tf t d v h
 |p n=>
  let⟨a,e,q⟩:=h;let⟨e1,rfl⟩:=y;refine{a,e,?_};let⟨hl,hq⟩:=Bv.mp q;rw[BY hl];exact q
 |s b xs=>
  let⟨a,o,e,q,r⟩:=h;exact{a,o,e,t.frz _ _ _ q,r}
 |x c=>
  let⟨a,vs,C,e,q,r⟩:=h;exact{a,vs,C,e,t.frz _ _ _ q,r}
 |f L ds=>
  let⟨a,cl,pm,DT,c',e,q⟩:=h;exact{a,cl,pm,DT,c',e,q.tf t}
theorem aR.tfm (t:TF H H')(y:∃e,m'=m++e):∀{ds:P4 R} {vs:P4 V},aR K m H ds vs->aR K m' H' ds vs
 |[],_,h=>h
 |_::_,_,⟨v,r,e,h1,h2⟩=>{v,r,e,h1.tfm t y,aR.tfm t y h2}
theorem gl.same (s:∀a o,H a=some o->H' a=some o)(y:∃e,m'=m++e){c:au}{a:A3}(h:gl K m H c a):gl K m' H' c a:=by
 cases c with
 |lst xs=>let⟨vs,e,r⟩:=h;exact{vs,s _ _ e,RelDs.tf (.of s) _ _ r}
 |fz xs=>let⟨o,vs,e,r⟩:=h;exact{o,vs,s _ _ e,RelDs.tf (.of s) _ _ r}
 |dct A4=>let⟨es,e,k,r⟩:=h;exact{es,s _ _ e,k,RelDs.tf (.of s) _ _ r}
 |fzd A4=>let⟨o,es,e,k,r⟩:=h;exact{o,es,s _ _ e,k,RelDs.tf (.of s) _ _ r}
 |fzt A4=>let⟨o,es,e,k,r⟩:=h;exact{o,es,s _ _ e,k,RelDs.tf (.of s) _ _ r}
 |hk A4=>let⟨o,es,e,k,r⟩:=h;exact{o,es,s _ _ e,k,RelDs.tf (.of s) _ _ r}
 |dr A4=>let⟨es,e,k,r⟩:=h;exact{es,s _ _ e,k,aR.tfm (.of s) y r}
 |lr xs=>let⟨vs,e,r⟩:=h;exact{vs,s _ _ e,aR.tfm (.of s) y r}
 |dt A4=>let⟨es,e,k,r⟩:=h;exact{es,s _ _ e,k,RelDs.tf (.of s) _ _ r}
 |tb P q=>let⟨e,ps,k,r⟩:=h;exact{e,ps,s _ _ k,r.mono λb o u g=>s _ _ g}
 |ob c fs=>let⟨C,dx,es,n,e,k,r⟩:=h;exact{C,dx,es,n,s _ _ e,k,aR.tfm (.of s) y r}
 |tr xs=>let⟨vs,e,r⟩:=h;exact{vs,s _ _ e,aR.tfm (.of s) y r}
 |fzr A4=>let⟨o,es,e,k,r⟩:=h;exact{o,es,s _ _ e,k,aR.tfm (.of s) y r}
 |dtr A4=>let⟨es,e,k,r⟩:=h;exact{es,s _ _ e,k,aR.tfm (.of s) y r}
theorem gl.some {c:au}{a:A3}(h:gl K m H c a):∃o,H a=some o:=by
 cases c with
 |lst xs=>let⟨vs,e,r⟩:=h;exact{_,e}
 |fz xs=>let⟨o,vs,e,r⟩:=h;exact{_,e}
 |dct A4=>let⟨es,e,k,r⟩:=h;exact{_,e}
 |fzd A4=>let⟨o,es,e,k,r⟩:=h;exact{_,e}
 |fzt A4=>let⟨o,es,e,k,r⟩:=h;exact{_,e}
 |hk A4=>let⟨o,es,e,k,r⟩:=h;exact{_,e}
 |dr A4=>let⟨es,e,k,r⟩:=h;exact{_,e}
 |lr xs=>let⟨vs,e,r⟩:=h;exact{_,e}
 |dt A4=>let⟨es,e,k,r⟩:=h;exact{_,e}
 |tb P q=>let⟨e,ps,k,r⟩:=h;exact{_,e ▸ k}
 |ob c fs=>let⟨C,dx,es,n,e,k,r⟩:=h;exact{_,e}
 |tr xs=>let⟨vs,e,r⟩:=h;exact{_,e}
 |fzr A4=>let⟨o,es,e,k,r⟩:=h;exact{_,e}
 |dtr A4=>let⟨es,e,k,r⟩:=h;exact{_,e}
def aJ.same (h:aJ K m H U)(s:∀a o,H a=some o->H' a=some o):aJ K m H' U :=
 {h.nd,h.len,λi c a e1 e2=>(h.cell i c a e1 e2).same s {[],by simp}}
def aJ.mem (h:aJ K m H U){a:A3}(ha:a∈m):∃o,H a=some o:=by
 let⟨i,hi,e⟩:=Hb ha;have Dh:i<U.length:=by rw[←h.len];exact hi
 exact(h.cell i U[i] a (Bl Dh) (by rw[←e];exact Bl hi)).some
def aJ.fresh (h:aJ K m H U){p:A3}(hp:H p=none):p∉m:=λz=>by let⟨o,e⟩:=h.mem z;rw[hp] at e;cases e
def aJ.nil:aJ K [] H []:={.nil,rfl,λi c a e=>by simp at e}
def c9 {p:A3}{o:HO}(hp:H p=none):∀a u,H a=some u->upd H p o a=some u:=λa u e=>by unfold upd;rw[A6 (λz=>by rw[z,hp] at e;cases e)];exact e
def nU {p:A3}{o:HO}{a:A3}(h:upd H p o a=none):H a=none:=by
 unfold upd at h;split at h
 ·cases h
 ·exact h
def bN {p:A3}{o:HO}:upd H p o p=some o:=by unfold upd;rw[A8 rfl]
def dz.new {p:A3}{o:HO}(hp:H p=none):dz m H m (upd H p o) :=
 {{[],by simp},.of (c9 hp),λa u e _=>c9 hp a u e,λ_ h=>nU h}
def dz.newH {p:A3}{o:HO}(hp:H p=none):dz m H (m++[p]) (upd H p o) :=
 {{[p],rfl,λa h=>by rw[Bg.mp h];exact hp},.of (c9 hp),λa u e _=>c9 hp a u e,λ_ h=>nU h}
def aJ.newH {p:A3}{o:HO}{c:au}(h:aJ K m H U)(hp:H p=none)(hc:gl K (m++[p]) (upd H p o) c p):aJ K (m++[p]) (upd H p o) (U++[c]):=by
 refine{?_,by simp[h.len],λi c' a e1 e2=>?_}
 ·refine EI.mpr {h.nd,by simp,λa ha b hb=>?_};rw[Bg.mp hb];rintro rfl;exact h.fresh hp ha
 ·by_cases hi:i<m.length
  ·rw[BY hi] at e2;rw[BY (by rw[←h.len];exact hi)] at e1;exact(h.cell i c' a e1 e2).same (c9 hp) {[p],rfl}
  ·rw[DO ∅] at e2;rw[DO (by have:=h.len;omega)] at e1;have hl:=h.len;have:i-m.length=0:=by
    cases q:i-m.length with
    |zero=>rfl
    |succ k=>rw[q] at e2;simp at e2
   have e3:i-U.length=0:=∅;rw[this] at e2;rw[e3] at e1;simp at e1 e2;subst e1 e2;exact hc
def dz.put {a:A3}{o o':HO}(ha:a∈m)(e:H a=some o)(ho:∀xs,o≠.tup xs)(hf:∀x u,o≠.frz x u):dz m H m (upd H a o'):=by
 have ne:∀b u,H b=some u->u≠o->b≠a:=λb u q n z=>by rw[z,e] at q;exact n (Option.some.inj q).symm
 refine{{[],by simp},{λb xs q=>?_,λb x u q=>?_},λb u q n=>?_,λb h=>nU h}
 ·unfold upd;rw[A6 (ne b _ q λz=>ho xs z.symm)];exact q
 ·unfold upd;rw[A6 (ne b _ q λz=>hf x u z.symm)];exact q
 ·unfold upd;rw[A6 (λz:b=a=>n (by rw[z];exact ha))];exact q
def aJ.put {n:Nat}{a:A3}{o o':HO}{c:au}(h:aJ K m H U)(hn:m[n]?=some a)(e:H a=some o)(ho:∀xs,o≠.tup xs)(hf:∀x u,o≠.frz x u)(hc:gl K m (upd H a o') c a):aJ K m (upd H a o') (U.set n c):=by
 have ha:a∈m:=DM hn;have x:dz m H m (upd H a o'):=.put ha e ho hf;refine{h.nd,by simp[h.len],λi c' b e1 e2=>?_};by_cases hi:i=n
 ·subst hi;rw[hn] at e2;cases e2;rw[DN (by have:=(Bv.mp hn).1;have:=h.len;omega)] at e1;cases e1;exact hc
 ·rw[Bp (Ne.symm hi)] at e1;have nb:b≠a:=by rintro rfl;let⟨h1,q1⟩:=Bv.mp e2;let⟨h2,q2⟩:=Bv.mp hn;exact hi ((HU h.nd).mp (q1.trans q2.symm))
  have at':∀u,H b=some u->upd H a o' b=some u:=λu q=>by unfold upd;rw[A6 nb];exact q
  have z:=h.cell i c' b e1 e2
  cases c' with
  |lst xs=>let⟨vs,e,r⟩:=z;exact{vs,at' _ e,RelDs.tf x.tf _ _ r}
  |fz xs=>let⟨o,vs,e,r⟩:=z;exact{o,vs,at' _ e,RelDs.tf x.tf _ _ r}
  |dct A4=>let⟨es,e,k,r⟩:=z;exact{es,at' _ e,k,RelDs.tf x.tf _ _ r}
  |fzd A4=>let⟨o,es,e,k,r⟩:=z;exact{o,es,at' _ e,k,RelDs.tf x.tf _ _ r}
  |fzt A4=>let⟨o,es,e,k,r⟩:=z;exact{o,es,at' _ e,k,RelDs.tf x.tf _ _ r}
  |hk A4=>let⟨o,es,e,k,r⟩:=z;exact{o,es,at' _ e,k,RelDs.tf x.tf _ _ r}
  |dr A4=>let⟨es,e,k,r⟩:=z;exact{es,at' _ e,k,aR.tfm x.tf {[],by simp} r}
  |lr xs=>let⟨vs,e,r⟩:=z;exact{vs,at' _ e,aR.tfm x.tf {[],by simp} r}
  |dt A4=>let⟨es,e,k,r⟩:=z;exact{es,at' _ e,k,RelDs.tf x.tf _ _ r}
  |tb P q=>let⟨e,ps,k,r⟩:=z;subst e;exact{rfl,ps,at' _ k,r.mono x.tf.frz}
  |ob c fs=>let⟨C,dx,es,n,e,k,r⟩:=z;exact{C,dx,es,n,at' _ e,k,aR.tfm x.tf {[],by simp} r}
  |tr xs=>let⟨vs,e,r⟩:=z;exact{vs,at' _ e,aR.tfm x.tf {[],by simp} r}
  |fzr A4=>let⟨o,es,e,k,r⟩:=z;exact{o,es,at' _ e,k,aR.tfm x.tf {[],by simp} r}
  |dtr A4=>let⟨es,e,k,r⟩:=z;exact{es,at' _ e,k,aR.tfm x.tf {[],by simp} r}
end
def ax (K:AP)(f:FE):TE:=λY H Q=>∃O U m d U',dX K m H O Y/\aJ K m H U/\f O U=some (d,U') /\
 ∀v H' m',dz m H m' H'->aJ K m' H' U'->av K m' H' d v->Q v H'
def gX (K:AP)(f:FT):TT:=λY H Q=>∃O U m b U',dX K m H O Y/\aJ K m H U/\f O U=some (b,U') /\
 ∀H' m',dz m H m' H'->aJ K m' H' U'->Q b H'
def gr (K:AP)(f:FA):TA:=λY H Q=>∃O U m ds U',dX K m H O Y/\aJ K m H U/\f O U=some (ds,U') /\
 ∀vs H' m',dz m H m' H'->aJ K m' H' U'->aR K m' H' ds vs->Q vs H'
def fT.of (K:AP)(m:Tf)(H:Hp)(D:fT):nP->Prop
 |.nx O U=>∀Y H' m',dz m H m' H'->aJ K m' H' U->dX K m' H' O Y->D.nx Y H'
 |.bk O U=>∀Y H' m',dz m H m' H'->aJ K m' H' U->dX K m' H' O Y->D.bk Y H'
 |.ct O U=>∀Y H' m',dz m H m' H'->aJ K m' H' U->dX K m' H' O Y->D.ct Y H'
 |.rt d U=>∀v H' m',dz m H m' H'->aJ K m' H' U->av K m' H' d v->D.rt v H'
def eB (K:AP)(f:FS):TS:=λD Y H=>∃O U m out,dX K m H O Y/\aJ K m H U/\f O U=some out/\fT.of K m H D out
noncomputable def ae (i:Nat):FE:=λO U=>match O[i]? with|some (some d)=>some (d,U)|_=>none
noncomputable def fK (d:D):FE:=λ_ U=>some (.v d,U)
noncomputable def aw (g:R->R->ac->QI (R×ac))(fa fb:FE):FE:=λO U=>(fa O U).bind λa=>(fb O a.2).bind λb=>g a.1 b.1 b.2
noncomputable def uS (g:R->ac->QI (R×ac))(fa:FE):FE:=λO U=>(fa O U).bind λa=>g a.1 a.2
def pB (K:AP)(g:R->R->ac->QI (R×ac))(r:R2):Prop :=
 ∀m H U x y d U' v u Q,aJ K m H U->av K m H x v->av K m H y u->g x y U=some (d,U')->(∀w H' m',dz m H m' H'->aJ K m' H' U'->av K m' H' d w->Q w H')->r v u H Q
def Qd (K:AP)(g:R->ac->QI (R×ac))(r:V->Hp->VK->Prop):Prop :=
 ∀m H U x d U' v Q,aJ K m H U->av K m H x v->g x U=some (d,U')->(∀w H' m',dz m H m' H'->aJ K m' H' U'->av K m' H' d w->Q w H')->r v H Q
def zr (K:AP)(g:P4 R->ac->QI (R×ac))(r:P4 V->Hp->VK->Prop):Prop :=
 ∀m H U xs d U' vs Q,aJ K m H U->aR K m H xs vs->g xs U=some (d,U')->(∀w H' m',dz m H m' H'->aJ K m' H' U'->av K m' H' d w->Q w H')->r vs H Q
noncomputable def aj:FA:=λ_ U=>some ([],U)
noncomputable def af (fa:FE)(fr:FA):FA:=λO U=>(fa O U).bind λa=>(fr O a.2).bind λr=>some (a.1::r.1,r.2)
noncomputable def eA (g:P4 R->ac->QI (R×ac))(fa:FA):FE:=λO U=>(fa O U).bind λa=>g a.1 a.2
section
variable {K:AP}{Y:St}{H:Hp}{Q:VK}
def JF5 {i:Nat}(h:ax K (ae i) Y H Q):KE i Y H Q:=by
 let⟨O,U,m,d,U',hl,hs,e,k⟩:=h;unfold ae at e;split at e
 ·rename_i d' q
  cases e;let⟨v,q1,q2⟩:=hl.2 i _ q;exact{v,q1,k v H m .refl hs q2}
 ·cases e
def jt {d:D}{v:V}(hv:∀m H,av K m H (.v d) v)(h:ax K (fK d) Y H Q):tC v Y H Q:=by let⟨O,U,m,d',U',hl,hs,e,k⟩:=h;cases e;exact k v H m .refl hs (hv _ _)
def g9 {g r fa fb}(hg:pB K g r)(h:ax K (aw g fa fb) Y H Q):G9 r (ax K fa) (ax K fb) Y H Q:=by let⟨O,U,m,d,U',hl,hs,e,k⟩:=h;let⟨⟨x,U1⟩,e1,e⟩:=AY.mp e;let⟨⟨y,U2⟩,e2,e⟩:=AY.mp e;refine{O,U,m,x,U1,hl,hs,e1,λv H1 m1 x1 s1 r1=>?_};refine{O,U1,m1,y,U2,hl.ext x1,s1,e2,λu H2 m2 x2 s2 r2=>?_};exact hg m2 H2 U2 x y d U' v u Q s2 (r1.ext x2) r2 e λw H3 m3 x3 s3 r3=>k w H3 m3 ((x1.trans x2).trans x3) s3 r3
def K2 {g r fa}(hg:Qd K g r)(h:ax K (uS g fa) Y H Q):Pp r (ax K fa) Y H Q:=by let⟨O,U,m,d,U',hl,hs,e,k⟩:=h;let⟨⟨x,U1⟩,e1,e⟩:=AY.mp e;refine{O,U,m,x,U1,hl,hs,e1,λv H1 m1 x1 s1 r1=>?_};exact hg m1 H1 U1 x d U' v Q s1 r1 e λw H3 m3 x3 s3 r3=>k w H3 m3 (x1.trans x3) s3 r3
def Az {Q:P4 V->Hp->Prop}(h:gr K aj Y H Q):Dc Y H Q:=by let⟨O,U,m,ds,U',hl,hs,e,k⟩:=h;cases e;exact k [] H m .refl hs rfl
def JCz {fa fr}{Q:P4 V->Hp->Prop}(h:gr K (af fa fr) Y H Q):z7 (ax K fa) (gr K fr) Y H Q:=by let⟨O,U,m,ds,U',hl,hs,e,k⟩:=h;let⟨⟨x,U1⟩,e1,e⟩:=AY.mp e;let⟨⟨xs,U2⟩,e2,e⟩:=AY.mp e;cases e;refine{O,U,m,x,U1,hl,hs,e1,λv H1 m1 x1 s1 r1=>?_};refine{O,U1,m1,xs,U2,hl.ext x1,s1,e2,λvs H2 m2 x2 s2 r2=>?_};exact k (v::vs) H2 m2 (x1.trans x2) s2 {v,vs,rfl,r1.ext x2,r2}
def ju {g r fa}(hg:zr K g r)(h:ax K (eA g fa) Y H Q):NH r (gr K fa) Y H Q:=by let⟨O,U,m,d,U',hl,hs,e,k⟩:=h;let⟨⟨xs,U1⟩,e1,e⟩:=AY.mp e;refine{O,U,m,xs,U1,hl,hs,e1,λvs H1 m1 x1 s1 r1=>?_};exact hg m1 H1 U1 xs d U' vs Q s1 r1 e λw H3 m3 x3 s3 r3=>k w H3 m3 (x1.trans x3) s3 r3
end
noncomputable def fB (fa:FE):FT:=λO U=>(fa O U).bind λa=>match a.1 with|.v (.bl b)=>some (b,a.2)|_=>none
noncomputable def zF:R->ac->QI A7
 |.v .non,_=>some false
 |.v (.bl b),_=>some b
 |.v (.int i),_=>some (i != 0)
 |.v (.str x),_=>if x.length<=sizeLine then some ((x.length:Int) != 0) else none
 |.v (.tup xs),_=>some (!xs.isEmpty)
 |.v (.fl xs),_=>some (!xs.isEmpty)
 |.v (.fd _ _),_=>none
 |.v (.key _),_=>none
 |.s _ _,_=>none
 |.x _,_=>none
 |.f _ _,_=>none
 |.p n,U=>match U[n]? with|some (.lst xs)=>some (!xs.isEmpty)|some (.fz xs)=>some (!xs.isEmpty)|some (.dct A4)=>some (!A4.isEmpty)|_=>none
noncomputable def oX (fa:FE):FT:=λO U=>(fa O U).bind λa=>(zF a.1 a.2).bind λb=>some (b,a.2)
noncomputable def g6 (t u:FT):FT:=λO U=>(t O U).bind λc=>if c.1=true then u O c.2 else some (false,c.2)
noncomputable def B6 (fa fb:FE):FE:=λO U=>(fa O U).bind λa=>match a.1 with|.v (.bl c)=>if c=true then fb O a.2 else some (.v (.bl false),a.2)|_=>none
noncomputable def MY (fa fb:FE):FE:=λO U=>(fa O U).bind λa=>match a.1 with|.v (.bl c)=>if c=true then some (.v (.bl true),a.2) else fb O a.2|_=>none
noncomputable def pW (fa:FE):FE:=λO U=>(fa O U).bind λa=>match a.1 with|.v (.bl c)=>some (.v (.bl (!c)),a.2)|_=>none
noncomputable def GB (t:FT)(fa fb:FE):FE:=λO U=>(t O U).bind λc=>if c.1=true then fa O c.2 else fb O c.2
theorem RelDs.length {K:AP}{H:Hp}:∀{ds:P4 D} {vs:P4 V},RelDs K H ds vs->ds.length=vs.length
 |[],_,h=>by rwa[RelDs] at h;subst h;rfl
 |_::_,_,h=>by rwa[RelDs] at h;let⟨v,r,rfl,_,h2⟩:=h;simp[RelDs.length h2]
def RelDs.empty {K:AP}{H:Hp}{ds:P4 D}{vs:P4 V}(h:RelDs K H ds vs):ds.isEmpty=vs.isEmpty:=by have:=h.length;cases ds <;> cases vs <;> simp_all
section
variable {K:AP}{Y:St}{H:Hp}{Q:VK}{B:A7->Hp->Prop}
def NJ {fa}(h:gX K (fB fa) Y H B):tB (ax K fa) Y H B:=by
 let⟨O,U,m,d,U',hl,hs,e,k⟩:=h;let⟨⟨x,U1⟩,e1,e⟩:=AY.mp e;split at e
 ·rename_i b q
  cases e;subst q;exact{O,U,m,_,U1,hl,hs,e1,λv H1 m1 x1 s1 r1=>{_,by simpa only[av,ak] using r1,k H1 m1 x1 s1}}
 ·cases e
def wV {fa}(h:gX K (fB fa) Y H B):FN (ax K fa) Y H B:=NJ h
theorem vc {m:Tf}{U:ac}{x:R}{b:A7}{v:V}(s:aJ K m H U)(r:av K m H x v)(e:zF x U=some b):E1 K v H b:=by
 cases x with
 |v d=>
  cases d with
  |non=>cases e;cases r;rfl
  |bl c=>cases e;rwa[av,ak] at r;subst r;rfl
  |int i=>cases e;rwa[av,ak] at r;subst r;rfl
  |str x=>
   rwa[av,ak] at r;subst r
   delta zF at e
   dsimp only at e;split at e
   ·rename_i z;cases e;exact{z,rfl}
   ·cases e
  |tup xs=>
   cases e;rwa[av,ak] at r;let⟨a,vs,rfl,q,r⟩:=r;exact .inr (.inl {vs,q,by rw[r.empty]})
  |fl xs=>
   cases e;rwa[av,ak] at r;let⟨a,vs,rfl,q,r⟩:=r;exact .inl {vs,q.sq,by rw[r.empty]}
  |fd ks ds=>cases e
  |key ks=>cases e
 |s b xs=>cases e
 |x _=>cases e
 |f _ _=>cases e
 |p n=>
  let⟨a,rfl,ha⟩:=r
  delta zF at e
  dsimp only at e;split at e
  ·rename_i xs q
   cases e;let⟨vs,e,r⟩:=s.cell n _ a q ha;exact .inl {vs,.inl (.inl e),by rw[r.empty]}
  ·rename_i xs q
   cases e;let⟨o,vs,e,r⟩:=s.cell n _ a q ha;exact .inl {vs,.inl (.inr {o,e}),by rw[r.empty]}
  ·rename_i A4 q
   cases e;let⟨es,e,k,r⟩:=s.cell n _ a q ha;refine .inr (.inr {es,e,?_});have:=AI List.length k;cases es <;> cases A4 <;> simp_all
  ·cases e
def JF8 {fa}(h:gX K (oX fa) Y H B):(λY H (Q:A7->Hp->Prop)=>ax K fa Y H λx H1=>∃k,E1 K x H1 k/\Q k H1) Y H B:=by let⟨O,U,m,d,U',hl,hs,e,k⟩:=h;let⟨⟨x,U1⟩,e1,e⟩:=AY.mp e;let⟨b,e2,e⟩:=AY.mp e;cases e;exact{O,U,m,x,_,hl,hs,e1,λv H1 m1 x1 s1 r1=>{_,vc s1 r1 e2,k H1 m1 x1 s1}}
theorem JDx {t u}(h:gX K (g6 t u) Y H B):KN (gX K t) (gX K u) Y H B:=by
 let⟨O,U,m,d,U',hl,hs,e,k⟩:=h;let⟨⟨c,U1⟩,e1,e⟩:=AY.mp e;refine{O,U,m,c,U1,hl,hs,e1,λH1 m1 x1 s1=>?_}
 cases c with
 |true=>exact{O,U1,m1,d,U',hl.ext x1,s1,e,λH2 m2 x2 s2=>k H2 m2 (x1.trans x2) s2}
 |false=>cases e;exact k H1 m1 x1 s1
def JFp {fa fb}(h:ax K (B6 fa fb) Y H Q):FY (ax K fa) (ax K fb) Y H Q:=by
 let⟨O,U,m,d,U',hl,hs,e,k⟩:=h;let⟨⟨x,U1⟩,e1,e⟩:=AY.mp e;split at e
 ·rename_i c q;subst q;refine{O,U,m,_,U1,hl,hs,e1,λv H1 m1 x1 s1 r1=>{c,by simpa only[av,ak] using r1,?_}}
  cases c with
  |true=>exact{O,U1,m1,d,U',hl.ext x1,s1,e,λw H2 m2 x2 s2 r2=>k w H2 m2 (x1.trans x2) s2 r2}
  |false=>cases e;exact k _ H1 m1 x1 s1 (by rwa[av,ak])
 ·cases e
def K4 {fa fb}(h:ax K (MY fa fb) Y H Q):KI (ax K fa) (ax K fb) Y H Q:=by
 let⟨O,U,m,d,U',hl,hs,e,k⟩:=h;let⟨⟨x,U1⟩,e1,e⟩:=AY.mp e;split at e
 ·rename_i c q;subst q;refine{O,U,m,_,U1,hl,hs,e1,λv H1 m1 x1 s1 r1=>{c,by simpa only[av,ak] using r1,?_}}
  cases c with
  |false=>exact{O,U1,m1,d,U',hl.ext x1,s1,e,λw H2 m2 x2 s2 r2=>k w H2 m2 (x1.trans x2) s2 r2}
  |true=>cases e;exact k _ H1 m1 x1 s1 (by rwa[av,ak])
 ·cases e
def JFc {fa}(h:ax K (pW fa) Y H Q):FQ (ax K fa) Y H Q:=by
 let⟨O,U,m,d,U',hl,hs,e,k⟩:=h;let⟨⟨x,U1⟩,e1,e⟩:=AY.mp e;split at e
 ·rename_i c q
  cases e;subst q;exact{O,U,m,_,U1,hl,hs,e1,λv H1 m1 x1 s1 r1=>{c,by simpa only[av,ak] using r1,k _ H1 m1 x1 s1 (by rwa[av,ak])}}
 ·cases e
theorem K7 {t fa fb}(h:ax K (GB t fa fb) Y H Q):Pq (gX K t) (ax K fa) (ax K fb) Y H Q:=by
 let⟨O,U,m,d,U',hl,hs,e,k⟩:=h;let⟨⟨c,U1⟩,e1,e⟩:=AY.mp e;refine{O,U,m,c,U1,hl,hs,e1,λH1 m1 x1 s1=>?_}
 cases c with
 |true=>exact{O,U1,m1,d,U',hl.ext x1,s1,e,λw H2 m2 x2 s2 r2=>k w H2 m2 (x1.trans x2) s2 r2}
 |false=>exact{O,U1,m1,d,U',hl.ext x1,s1,e,λw H2 m2 x2 s2 r2=>k w H2 m2 (x1.trans x2) s2 r2}
end
noncomputable def vals:P4 R->QI (P4 D)
 |[]=>some []
 |.v d::r=>(vals r).bind λds=>some (d::ds)
 |.p _::_=>none
 |.s _ _::_=>none
 |.x _::_=>none
 |.f _ _::_=>none
theorem lj {K:AP}{m:Tf}{H:Hp}:∀{rs:P4 R} {ds:P4 D} {vs:P4 V},vals rs=some ds->aR K m H rs vs->RelDs K H ds vs
 |[],_,_,e,h=>by cases e;rwa[RelDs];exact h
 |.v d::r,_,_,e,⟨v,vs,rfl,h1,h2⟩=>by let⟨ds,e1,e⟩:=AY.mp e;cases e;rwa[RelDs];exact{v,vs,rfl,h1,lj e1 h2}
 |.p _::_,_,_,e,_=>by cases e
 |.s _ _::_,_,_,e,_=>by cases e
 |.x _::_,_,_,e,_=>by cases e
 |.f _ _::_,_,_,e,_=>by cases e
noncomputable def bM (fa:FA):FE:=λO U=>(fa O U).bind λa=>(vals a.1).bind λds=>if ds.length<=sizeLine then some (.v (.tup ds),a.2) else none
noncomputable def dN (fa:FA):FE:=λO U=>(fa O U).bind λa=>(vals a.1).bind λds=>if ds.length<=sizeLine then some (.p a.2.length,a.2++[.lst ds]) else none
section
variable {K:AP}{m:Tf}{Y:St}{H:Hp}{Q:VK}{U:ac}
def jW {ds:P4 D}{vs:P4 V}{p:A3}(s:aJ K m H U)(r:RelDs K H ds vs)(hp:H p=none):dz m H m (upd H p (.tup vs))/\aJ K m (upd H p (.tup vs)) U/\av K m (upd H p (.tup vs)) (.v (.tup ds)) (.ref p):=by refine{.new hp,s.same (c9 hp),?_};rwa[av,ak];exact{p,vs,rfl,.inl (.inl bN),RelDs.tf (.of (c9 hp)) _ _ r}
def jX {ds:P4 D}{vs:P4 V}{p:A3}(s:aJ K m H U)(r:RelDs K H ds vs)(hp:H p=none):dz m H (m++[p]) (upd H p (.lst vs))/\aJ K (m++[p]) (upd H p (.lst vs)) (U++[.lst ds])/\av K (m++[p]) (upd H p (.lst vs)) (.p U.length) (.ref p):=by refine{.newH hp,s.newH hp {vs,bN,RelDs.tf (.of (c9 hp)) _ _ r},p,rfl,?_};rw[←s.len];simp
def JF6 {fa}(h:ax K (bM fa) Y H Q):KF (gr K fa) Y H Q:=by
 let⟨O,U,m,d,U',hl,hs,e,k⟩:=h;let⟨⟨xs,U1⟩,e1,e⟩:=AY.mp e;let⟨ds,e2,e⟩:=AY.mp e;split at e
 ·rename_i z
  cases e;refine{O,U,m,xs,_,hl,hs,e1,λvs H1 m1 x1 s1 r1=>?_};have r2:=lj e2 r1;refine{by rw[←r2.length];exact z,λp hp=>?_};let⟨a,b,c⟩:=jW s1 r2 hp;exact k _ _ _ (x1.trans a) b c
 ·cases e
def JFd {fa}(h:ax K (dN fa) Y H Q):KJ (gr K fa) Y H Q:=by
 let⟨O,U,m,d,U',hl,hs,e,k⟩:=h;let⟨⟨xs,U1⟩,e1,e⟩:=AY.mp e;let⟨ds,e2,e⟩:=AY.mp e;split at e
 ·rename_i z
  cases e;refine{O,U,m,xs,_,hl,hs,e1,λvs H1 m1 x1 s1 r1=>?_};have r2:=lj e2 r1;refine{by rw[←r2.length];exact z,λp hp=>?_};let⟨a,b,c⟩:=jX s1 r2 hp;exact k _ _ _ (x1.trans a) b c
 ·cases e
end
noncomputable def aZ:FS:=λO U=>some (.nx O U)
noncomputable def az (a b:FS):FS:=λO U=>(a O U).bind λo=>match o with|.nx O' U'=>b O' U'|o=>some o
noncomputable def rj:FS:=λO U=>some (.bk O U)
noncomputable def bE (f:FE):FS:=λO U=>(f O U).bind λa=>some (.nx O a.2)
noncomputable def bT (f:FE):FS:=λO U=>(f O U).bind λa=>some (.rt a.1 a.2)
noncomputable def gW (t:FT)(a b:FS):FS:=λO U=>(t O U).bind λc=>if c.1=true then a O c.2 else b O c.2
noncomputable def aI (i:Nat)(f:FE):FS:=λO U=>(f O U).bind λa=>some (.nx (O.set i (some a.1)) a.2)
section
variable {K:AP}{m m' m1:Tf}{Y:St}{H H' H1:Hp}{D:fT}{U:ac}{O:Lo}
theorem fT.of_ext {o:nP}(x:dz m H m1 H1)(h:fT.of K m H D o):fT.of K m1 H1 D o:=by
 cases o with
 |nx O U=>exact λY H' m' y=>h Y H' m' (x.trans y)
 |bk O U=>exact λY H' m' y=>h Y H' m' (x.trans y)
 |ct O U=>exact λY H' m' y=>h Y H' m' (x.trans y)
 |rt d U=>exact λY H' m' y=>h Y H' m' (x.trans y)
def dX.set {d:R}{v:V}(h:dX K m H O Y)(r:av K m H d v)(i:Nat):dX K m H (O.set i (some d)) (Y.set i (some v)):=by
 refine{by simp[h.1],λj d' e=>?_};by_cases hj:j=i
 ·subst hj;by_cases hi:j<O.length
  ·rw[DN hi] at e
   cases e;exact{v,DN (by rw[←h.1];exact hi),r}
  ·rw[zb2 (by simp;omega)] at e
   cases e
 ·rw[Bp (Ne.symm hj)] at e;let⟨u,q1,q2⟩:=h.2 j d' e;exact{u,by rw[Bp (Ne.symm hj)];exact q1,q2}
def JD0 (h:eB K aZ D Y H):FU D Y H:=by let⟨O,U,m,o,hl,hs,e,k⟩:=h;cases e;exact k Y H m .refl hs hl
theorem JGb {a b}(h:eB K (az a b) D Y H):KG (eB K a) (eB K b) D Y H:=by
 let⟨O,U,m,o,hl,hs,e,k⟩:=h;let⟨o1,e1,e⟩:=AY.mp e;refine{O,U,m,o1,hl,hs,e1,?_}
 cases o1 with
 |nx O1 U1=>exact λY1 H1 m1 x1 s1 l1=>{O1,U1,m1,o,l1,s1,e,fT.of_ext x1 k}
 |bk O1 U1=>cases e;exact k
 |ct O1 U1=>cases e;exact k
 |rt d U1=>cases e;exact k
def JAp (h:eB K rj D Y H):z8 D Y H:=by let⟨O,U,m,o,hl,hs,e,k⟩:=h;cases e;exact k Y H m .refl hs hl
def JD5 {f}(h:eB K (bE f) D Y H):FX (ax K f) D Y H:=by let⟨O,U,m,o,hl,hs,e,k⟩:=h;let⟨⟨x,U1⟩,e1,e⟩:=AY.mp e;cases e;exact{O,U,m,x,U1,hl,hs,e1,λv H1 m1 x1 s1 r1=>k Y H1 m1 x1 s1 (hl.ext x1)}
def JFa {f}(h:eB K (bT f) D Y H):KH (ax K f) D Y H:=by let⟨O,U,m,o,hl,hs,e,k⟩:=h;let⟨⟨x,U1⟩,e1,e⟩:=AY.mp e;cases e;exact{O,U,m,x,U1,hl,hs,e1,k}
theorem JFe {t a b}(h:eB K (gW t a b) D Y H):KL (gX K t) (eB K a) (eB K b) D Y H:=by
 let⟨O,U,m,o,hl,hs,e,k⟩:=h;let⟨⟨c,U1⟩,e1,e⟩:=AY.mp e;refine{O,U,m,c,U1,hl,hs,e1,λH1 m1 x1 s1=>?_}
 cases c with
 |true=>exact{O,U1,m1,o,hl.ext x1,s1,e,fT.of_ext x1 k}
 |false=>exact{O,U1,m1,o,hl.ext x1,s1,e,fT.of_ext x1 k}
def Aw {i f}(h:eB K (aI i f) D Y H):z9 (ax K f) (qu i) D Y H:=by let⟨O,U,m,o,hl,hs,e,k⟩:=h;let⟨⟨x,U1⟩,e1,e⟩:=AY.mp e;cases e;exact{O,U,m,x,U1,hl,hs,e1,λv H1 m1 x1 s1 r1=>k _ H1 m1 x1 s1 ((hl.ext x1).set r1 i)}
end
abbrev FG:=R->Lo->ac->QI (Lo×ac)
def px (K:AP)(g:FG):TG:=λv Y H Q=>∃O U m d O' U',dX K m H O Y/\aJ K m H U/\av K m H d v/\g d O U=some (O',U') /\
 ∀Y' H' m',dz m H m' H'->aJ K m' H' U'->dX K m' H' O' Y'->Q Y' H'
abbrev GO:=P4 R->Lo->ac->QI (Lo×ac)
noncomputable def tE (K:AP)(g:GO):C0:=λvs Y H Q=>∃O U m ds O' U',dX K m H O Y/\aJ K m H U/\aR K m H ds vs/\g ds O U=some (O',U') /\
 ∀Y' H' m',dz m H m' H'->aJ K m' H' U'->dX K m' H' O' Y'->Q Y' H'
noncomputable def bD (i:Nat):FG:=λd O U=>some (O.set i (some d),U)
noncomputable def cT:GO:=λds O U=>match ds with|[]=>some (O,U)|_=>none
noncomputable def aH (g:FG)(r:GO):GO:=λds O U=>match ds with|[]=>none|d::ds=>(g d O U).bind λa=>r ds a.1 a.2
noncomputable def nt (n:Nat)(g:GO):FG:=λd O U=>match d with|.v (.tup xs)=>if xs.length=n then g (xs.map .v) O U else none|_=>none
noncomputable def yn (f:FE)(g:FG):FS:=λO U=>(f O U).bind λa=>(g a.1 O a.2).bind λb=>some (.nx b.1 b.2)
section
variable {K:AP}{m m1:Tf}{Y:St}{H H1:Hp}{D:fT}{U:ac}{O:Lo}{v:V}{Q:St->Hp->Prop}
def JFi {i}(h:px K (bD i) v Y H Q):qu i v Y H Q:=by let⟨O,U,m,d,O',U',hl,hs,r,e,k⟩:=h;cases e;exact k _ H m .refl hs (hl.set r i)
theorem JAm {vs}(h:tE K cT vs Y H Q):Md vs Y H Q:=by
 let⟨O,U,m,ds,O',U',hl,hs,r,e,k⟩:=h
 cases ds with
 |nil=>cases e;exact{r,k Y H m .refl hs hl}
 |cons d ds=>cases e
theorem yp {g r vs}(h:tE K (aH g r) vs Y H Q):Gx (px K g) (tE K r) vs Y H Q:=by
 let⟨O,U,m,ds,O',U',hl,hs,rr,e,k⟩:=h
 cases ds with
 |nil=>cases e
 |cons d ds=>
  let⟨v,vr,rfl,r1,r2⟩:=rr;let⟨⟨O1,U1⟩,e1,e⟩:=AY.mp e;refine{v,vr,rfl,O,U,m,d,O1,U1,hl,hs,r1,e1,λY1 H1 m1 x1 s1 l1=>?_};exact{O1,U1,m1,ds,O',U',l1,s1,r2.ext x1,e,λY2 H2 m2 x2 s2 l2=>k Y2 H2 m2 (x1.trans x2) s2 l2}
theorem RelDs.rs:∀{ds:P4 HW.D} {vs:P4 V},RelDs K H ds vs->aR K m H (ds.map .v) vs
 |[],_,h=>by rwa[RelDs] at h;exact h
 |d::ds,_,h=>by rwa[RelDs] at h;let⟨v,r,rfl,h1,h2⟩:=h;exact{v,r,rfl,h1,RelDs.rs h2}
def JFh {n g}(h:px K (nt n g) v Y H Q):Mc K n (tE K g) v Y H Q:=by
 let⟨O,U,m,d,O',U',hl,hs,r,e,k⟩:=h;unfold nt at e;split at e
 ·rename_i xs;split at e
  ·rename_i hn;rwa[av,ak] at r;let⟨a,vs,rfl,q,rr⟩:=r;exact{a,vs,rfl,q,by rw[←rr.length];exact hn,O,U,m,_,O',U',hl,hs,rr.rs,e,k}
  ·cases e
 ·cases e
def JFo {f g}(h:eB K (yn f g) D Y H):z9 (ax K f) (px K g) D Y H:=by let⟨O,U,m,o,hl,hs,e,k⟩:=h;let⟨⟨x,U1⟩,e1,e⟩:=AY.mp e;let⟨⟨O2,U2⟩,e2,e⟩:=AY.mp e;cases e;exact{O,U,m,x,U1,hl,hs,e1,λv H1 m1 x1 s1 r1=>{O,U1,m1,x,O2,U2,hl.ext x1,s1,r1,e2,λY2 H2 m2 x2 s2 l2=>k Y2 H2 m2 (x1.trans x2) s2 l2}}
end
def dY:HO->Prop
 |.lst _=>True
 |.set _ _=>True
 |.dK _=>True
 |.dT _=>True
 |_=>False
def MK (t:TE):TE:=λY H Q=>t Y H λv H1=>Q v H1\/∃a u,H1 a=some u/\dY u/\∀o,Q v (upd H1 a (.frz o u))
noncomputable def CZ:R->ac->QI (D×ac)
 |.v d,U=>some (d,U)
 |.s _ _,_=>none
 |.x _,_=>none
 |.f _ _,_=>none
 |.p n,U=>match U[n]? with|some (.lst xs)=>some (.fl xs,U.set n (.fz xs))|some (.fz xs)=>some (.fl xs,U)|some (.dct A4)=>some (.fd (A4.map (·.1)) (A4.map (·.2)),U.set n (.fzd A4))|some (.fzd A4)=>some (.fd (A4.map (·.1)) (A4.map (·.2)),U)|_=>none
noncomputable def bA (f:FE):FE:=λO U=>(f O U).bind λa=>(CZ a.1 a.2).bind λb=>some (.v b.1,b.2)
section
variable {K:AP}{m:Tf}{Y:St}{H:Hp}{U:ac}{Q:VK}
theorem Gy {x:R}{d:D}{U':ac}{v:V}{B:Hp->Prop}(hs:aJ K m H U)(r:av K m H x v)(e:CZ x U=some (d,U'))
  (k:∀H',dz m H m H'->aJ K m H' U'->ak K H' d v->B H'):B H\/∃a u,H a=some u/\dY u/\∀o,B (upd H a (.frz o u)):=by
 cases x with
 |v d'=>cases e;exact .inl (k H .refl hs r)
 |s b xs=>cases e
 |x _=>cases e
 |f _ _=>cases e
 |p n=>
  let⟨a,rfl,ha⟩:=r;rwa[CZ] at e;split at e
  ·rename_i xs q
   cases e;let⟨vs,ea,rr⟩:=hs.cell n _ a q ha;refine .inr {a,_,ea,trivial,λo=>?_};have x:dz m H m (upd H a (.frz o (.lst vs))):=.put (DM ha) ea ∅ ∅;refine k _ x (hs.put ha ea ∅ ∅ {o,vs,bN,RelDs.tf x.tf _ _ rr}) ?_;rwa[ak];exact{a,vs,rfl,.inl {o,bN},RelDs.tf x.tf _ _ rr}
  ·rename_i xs q
   cases e;let⟨o,vs,ea,rr⟩:=hs.cell n _ a q ha;refine .inl (k H .refl hs ?_);rwa[ak];exact{a,vs,rfl,.inl {o,ea},rr}
  ·rename_i A4 q
   cases e;let⟨es,ea,ke,rr⟩:=hs.cell n _ a q ha;refine .inr {a,_,ea,trivial,λo=>?_};have x:dz m H m (upd H a (.frz o (.dK es))):=.put (DM ha) ea ∅ ∅;refine k _ x (hs.put ha ea ∅ ∅ {o,es,bN,ke,RelDs.tf x.tf _ _ rr}) ?_;rwa[ak];exact{a,o,es,rfl,bN,ke,RelDs.tf x.tf _ _ rr}
  ·rename_i A4 q
   cases e;let⟨o,es,ea,ke,rr⟩:=hs.cell n _ a q ha;refine .inl (k H .refl hs ?_);rwa[ak];exact{a,o,es,rfl,ea,ke,rr}
  ·cases e
def F3 {f}(h:ax K (bA f) Y H Q):MK (ax K f) Y H Q:=by let⟨O,U,m,d,U',hl,hs,e,k⟩:=h;let⟨⟨x,U1⟩,e1,e⟩:=AY.mp e;let⟨⟨d1,U2⟩,e2,e⟩:=AY.mp e;cases e;refine{O,U,m,x,U1,hl,hs,e1,λv H1 m1 x1 s1 r1=>?_};exact Gy (B:=λH'=>Q v H') s1 r1 e2 λH' y s2 r2=>k v H' m1 (x1.trans y) s2 r2
end
abbrev FI:=Lo->ac->QI (P4 D×ac)
structure E9 (K:AP)(J:It)(xs:List D)(P:Hp->Prop):Prop where
 st:∀H H',TF H H'->P H->P H'
 stop:∀i H,P H->xs.length<=i->J.stop i H
 go:∀(i:Nat) d H,xs[i]?=some d->P H->J.go i H
 yld:∀(i:Nat) d H x H',xs[i]?=some d->P H->J.yld i H x H'->H'=H/\ak K H d x
def AG (K:AP)(f:FI):TI:=λY H R=>∃O U m xs U',dX K m H O Y/\aJ K m H U/\f O U=some (xs,U') /\
 ∀J P H' m',dz m H m' H'->aJ K m' H' U'->E9 K J xs P->P H'->R J H'
noncomputable def eK (g:FG)(b:FS):P4 D->Lo->ac->QI nP
 |[],O,U=>some (.nx O U)
 |x::xs,O,U=>(g (.v x) O U).bind λa=>(b a.1 a.2).bind λo=>match o with
  |.nx O' U'=>eK g b xs O' U'
  |.ct O' U'=>eK g b xs O' U'
  |.bk O' U'=>some (.nx O' U')
  |.rt d U'=>some (.rt d U')
noncomputable def gM (i:FI)(g:FG)(b:FS):FS:=λO U=>(i O U).bind λa=>eK g b a.1 O a.2
noncomputable def bI (f:FE):FI:=λO U=>(bA f O U).bind λa=>match a.1 with|.v (.fl xs)=>some (xs,a.2)|.v (.tup xs)=>some (xs,a.2)|_=>none
def LR (K:AP)(tl:TE):TI:=λY H R=>tl Y H λx H1=>∃a,x=.ref a/\(((∃xs,j6 K H1 a xs)/\R (O6 K a) H1)\/((∃xs,gp K H1 a xs)/\R (O5 K a) H1))
noncomputable def pV (f:FE):FI:=λO U=>(f O U).bind λa=>match a.1 with|.v (.int j)=>if -(2 ^ 62)<=j/\j<2 ^ 62 then some ((List.range j.toNat).map λi=>.int (i:Nat),a.2) else none|_=>none
section
variable {K:AP}{m:Tf}{Y:St}{H:Hp}{U:ac}{R:It->Hp->Prop}
theorem RelDs.get:∀{ds:P4 D} {vs:P4 V} {i:Nat} {d:D},RelDs K H ds vs->ds[i]?=some d->∃v,vs[i]?=some v/\ak K H d v
 |[],_,_,_,_,e=>by simp at e
 |x::xs,vs,0,d,h,e=>by rwa[RelDs] at h;let⟨v,r,rfl,h1,h2⟩:=h;simp at e;subst e;exact{v,rfl,h1}
 |x::xs,vs,i+1,d,h,e=>by rwa[RelDs] at h;let⟨v,r,rfl,h1,h2⟩:=h;let⟨u,q1,q2⟩:=RelDs.get (i:=i) h2 ‹e›;exact{u,by simpa using q1,q2}
def Jg {a vs xs}(r0:RelDs K H xs vs):E9 K (O6 K a) xs (λH=>Fa K H a vs/\RelDs K H xs vs) where
 st:=λH H' t ⟨f,r⟩=>{f.tf t,RelDs.tf t _ _ r}
 stop:=λi H ⟨f,r⟩ hi=>{vs,f.sq,by rw[←r.length];exact hi}
 go:=λi d H e ⟨f,r⟩=>let ⟨v,q,_⟩:=r.get e;{vs,v,f.sq,q}
 yld:=λi d H x H' e ⟨f,r⟩ ⟨e1,e2⟩=>by let⟨v,q,rv⟩:=r.get e;have:=e2 vs f.sq;rw[q] at this;cases this;exact{e1,rv}
def Je {a vs xs}(r0:RelDs K H xs vs):E9 K (O5 K a) xs (λH=>gp K H a vs/\RelDs K H xs vs) where
 st:=λH H' t ⟨f,r⟩=>{gp.tf t f,RelDs.tf t _ _ r}
 stop:=λi H ⟨f,r⟩ hi=>{vs,f,by rw[←r.length];exact hi}
 go:=λi d H e ⟨f,r⟩=>let ⟨v,q,_⟩:=r.get e;{vs,v,f,q}
 yld:=λi d H x H' e ⟨f,r⟩ ⟨e1,e2⟩=>by let⟨v,q,rv⟩:=r.get e;have:=e2 vs f;rw[q] at this;cases this;exact{e1,rv}
def Jf (lo:Int)(n:Nat):E9 K (Nz lo n) ((List.range n).map λk=>.int (lo+(k:Nat))) (λ_=>True) where
 st:=λ_ _ _ _=>trivial
 stop:=λi H _ hi=>by show n<=i;simpa using hi
 go:=λi d H e _=>by
  have:=(Bv.mp e).1
  show i<n;simpa using this
 yld:=λi d H x H' e _ ⟨e1,e2⟩=>by
  have hi:=(Bv.mp e).1;have Dh:i<n:=by simpa using hi
  refine{e1,?_};simp[Dh] at e;subst e e2;rwa[ak]
def JD1 {f}(h:AG K (bI f) Y H R):LR K (MK (ax K f)) Y H R:=by
 let⟨O,U,m,xs,U',hl,hs,e,k⟩:=h;let⟨⟨x,U1⟩,e1,e⟩:=AY.mp e;refine F3 {O,U,m,x,U1,hl,hs,e1,λv H1 m1 x1 s1 r1=>?_};split at e
 ·rename_i ys q
  cases e;simp only at q;subst q;rwa[av,ak] at r1;let⟨a,vs,rfl,f,r⟩:=r1;exact{a,rfl,.inl {{vs,f.sq},k _ _ H1 m1 x1 s1 (Jg r) {f,r}}}
 ·rename_i ys q
  cases e;simp only at q;subst q;rwa[av,ak] at r1;let⟨a,vs,rfl,f,r⟩:=r1;exact{a,rfl,.inr {{vs,f},k _ _ H1 m1 x1 s1 (Je r) {f,r}}}
 ·cases e
def JFf {f}(h:AG K (pV f) Y H R):Gv (gr K (af f aj)) Y H R:=by
 let⟨O,U,m,xs,U',hl,hs,e,k⟩:=h;let⟨⟨x,U1⟩,e1,e⟩:=AY.mp e;refine{O,U,m,[x],U1,hl,hs,by simp[af,aj,e1],λvs H1 m1 x1 s1 r1=>?_};split at e
 ·rename_i j q;split at e
  ·rename_i z
   cases e;simp only at q;subst q;let⟨v,r,rfl,r1,r2⟩:=r1;have r2:r=[]:=r2;rwa[av,ak] at r1;subst r1 r2;have:=Jf (K:=K) 0 j.toNat;rwa[Int.zero_add] at this
   exact{j,rfl,z.1,z.2,k _ _ H1 m1 x1 s1 this trivial}
  ·cases e
 ·cases e
end
end HW
namespace HW
variable {K:AP}
open L2
abbrev MF:=P4 D->QI D
def uU (H H':Hp):Prop:=∀a o,H a=some o->H' a=some o
noncomputable def zt (K:AP)(n:Nat)(f:MF):Sp:=λvs H Q _=>∃ds d,ds.length=n/\RelDs K H ds vs/\f ds=some d/\∀v H',uU H H'->ak K H' d v->Q v H'
noncomputable def fin:nP->QI D
 |.rt r U=>(CZ r U).bind λa=>some a.1
 |.nx _ _=>some .non
 |_=>none
noncomputable def gm (k:Nat)(b:FS):MF:=λds=>(b (ds.map (λd=>some (.v d))++List.replicate (k-ds.length) none) []).bind fin
noncomputable def aW (f:MF)(n:Nat)(fa:FA):FE:=λO U=>(fa O U).bind λa=>(vals a.1).bind λds=>if ds.length=n then (f ds).bind λd=>some (.v d,a.2) else none
section
variable {K:AP}{m:Tf}{Y:St}{H H':Hp}{U:ac}{Q:VK}
theorem uU.ext (s:uU H H'):dz m H m H':={{[],by simp},.of s,λa o e _=>s a o e,λa h=>by
 cases q:H a with
 |none=>rfl
 |some o=>rw[s a o q] at h;cases h}
def JC0 {f n fa}{E:XK}(h:ax K (aW f n fa) Y H Q):sU (zt K n f) [] E (gr K fa) Y H Q:=by
 let⟨O,U,m,d,U',hl,hs,e,k⟩:=h;let⟨⟨xs,U1⟩,e1,e⟩:=AY.mp e;let⟨ds,e2,e⟩:=AY.mp e;split at e
 ·rename_i hn;let⟨d1,e3,e⟩:=AY.mp e;cases e;refine{O,U,m,xs,_,hl,hs,e1,λvs H1 m1 x1 s1 r1=>?_};refine{ds,d1,hn,by simpa using lj e2 r1,e3,λv H2 z r2=>?_};exact k v H2 m1 (x1.trans z.ext) (s1.same z) r2
 ·cases e
def p9 {N:Tn}{ds:P4 D}{vs:P4 V}(r:RelDs K H ds vs):dX K [] H (ds.map (λd=>some (.v d))++List.replicate (N.length-ds.length) none) (L2.eW N vs):=by
 have hl:=r.length;unfold L2.eW;refine{by simp[hl],λi d e=>?_};by_cases hi:i<ds.length
 ·rw[BY ‹hi›,Bh] at e
  cases q:ds[i]? with
  |none=>rw[q] at e;cases e
  |some d'=>
   rw[q] at e;cases e;let⟨v,q1,q2⟩:=r.get q;exact{v,by rw[BY (by simp;omega),Bh,q1];rfl,q2}
 ·rw[DO ‹hi›,zbR] at e;split at e <;> cases e
noncomputable def DY (Q:VK):VK:=λv H=>Q v H\/∃a u,H a=some u/\dY u/\∀o,Q v (upd H a (.frz o u))
def dz.sam (x:dz [] H m H'):uU H H':=λa o e=>x.keep a o e ∅
theorem JF2 {N:Tn}{b:FS}{ds:P4 D}{vs:P4 V}{d:D}{E:XK}(r:RelDs K H ds vs)(e:gm N.length b ds=some d)(k:∀v H',uU H H'->ak K H' d v->Q v H') :
  eB K b {nx:=λ_ H'=>DY Q .non H',rt:=DY Q} (L2.eW N vs) H:=by
 let⟨o,e1,e⟩:=AY.mp e;refine{_,[],[],o,p9 r,.nil,e1,?_}
 cases o with
 |nx O U=>
  cases e;exact λY H' m' x _ _=>.inl (k _ _ x.sam (by rwa[ak]))
 |bk O U=>cases e
 |ct O U=>cases e
 |rt q U=>
  let⟨⟨d1,U1⟩,e2,e⟩:=AY.mp e;cases e;intro v H' m' x s r';exact Gy (B:=λH'=>Q v H') s r' e2 λH2 y s2 r2=>k v H2 (x.trans y).sam r2
end
noncomputable def vY (C:Int->Int->A7)(f:Int->Int->D):R->R->ac->QI (R×ac)
 |.v (.int i),.v (.int j),U=>if C i j=true then some (.v (f i j),U) else none
 |_,_,_=>none
def gI {C:Int->Int->A7}{C':Int->Int->Prop}{f:Int->Int->D}{g:Int->Int->V}(hC:∀i j,C i j=true->C' i j)(hg:∀H i j,ak K H (f i j) (g i j)):pB K (vY C f) (rI C' g):=by
 intro m H U x y d U' v u Q s rx ry e k;unfold vY at e;split at e
 ·rename_i i j;split at e
  ·rename_i z
   cases e;rwa[av,ak] at rx ry;subst rx ry;exact{i,j,rfl,rfl,hC i j z,k _ H m .refl s (hg H i j)}
  ·cases e
 ·cases e
def MX {f:Int->Int->D}{g:Int->Int->V}(hg:∀H i j,ak K H (f i j) (g i j)):pB K (vY (λ_ _=>true) f) (yq g):=by
 intro m H U x y d U' v u Q s rx ry e k;unfold vY at e;split at e
 ·rename_i i j;split at e
  ·cases e;rwa[av,ak] at rx ry;subst rx ry;exact{i,j,rfl,rfl,k _ H m .refl s (hg H i j)}
  ·cases e
 ·cases e
abbrev l6:=vY (λ_ _=>true) λi j=>.int (i-j)
abbrev oM:=vY (λi j=>decide (-(2 ^ 64)<i/\i<2 ^ 64) || decide (-(2 ^ 64)<j/\j<2 ^ 64)) λi j=>.int (i*j)
abbrev iP:=vY (λ_ j=>decide (0<j/\j<1073741824)) λi j=>.int (i / j)
abbrev bU:=vY (λ_ j=>decide (0<j)) λi j=>.int (i%j)
abbrev j8:=vY (λi j=>decide (0<=j/\j<=1000000/\i.natAbs<2 ^ 64)) λi j=>.int (i ^ j.toNat)
abbrev MN:=vY (λ_ _=>true) λi j=>.bl (decide (i<j))
abbrev LN:=vY (λ_ _=>true) λi j=>.bl (decide (i<=j))
abbrev MV:=vY (λ_ _=>true) λi j=>.bl (decide (j<i))
noncomputable def vJ:R->ac->QI (R×ac)
 |.v (.int i),U=>some (.v (.int (-i)),U)
 |_,_=>none
section
variable {K:AP}
def AQ {H:Hp}{i:Int}:ak K H (.int i) (.int i):=by rwa[ak]
def NP {H:Hp}{i:A7}:ak K H (.bl i) (.bl i):=by rwa[ak]
def LX:pB K l6 (yq λi j=>.int (i-j)):=MX λ_ _ _=>AQ
def L0:pB K oM (rI CV λi j=>.int (i*j)):=gI (λi j h=>by simpa[CV] using h) λ_ _ _=>AQ
def L9:pB K iP (rI JR λi j=>.int (i / j)):=gI (λi j h=>by simpa[JR] using h) λ_ _ _=>AQ
def L1:pB K bU (rI (λ_ j=>0<j) λi j=>.int (i%j)):=gI (λi j h=>by simpa using h) λ_ _ _=>AQ
def LY:pB K j8 (rI JQ λi j=>.int (i ^ j.toNat)):=gI (λi j h=>by simpa[JQ] using h) λ_ _ _=>AQ
def N3:pB K MN (yq λi j=>.bl (decide (i<j))):=MX λ_ _ _=>NP
def N4:pB K LN (yq λi j=>.bl (decide (i<=j))):=MX λ_ _ _=>NP
def N6:pB K MV (yq λi j=>.bl (decide (j<i))):=MX λ_ _ _=>NP
def LZ:Qd K vJ (rU λi=>.int (-i)):=by
 intro m H U x d U' v Q s rx e k;unfold vJ at e;split at e
 ·rename_i i
  cases e;rwa[av,ak] at rx;subst rx;exact{i,rfl,k _ H m .refl s (by rwa[av,ak])}
 ·cases e
end
noncomputable def EY:R->R->ac->QI (R×ac)
 |.v (.int i),.v (.int j),U=>some (.v (.int (i+j)),U)
 |.v (.str x),.v (.str y),U=>if x.length+y.length<=sizeLine then some (.v (.str (x++y)),U) else none
 |.v (.tup xs),.v (.tup ys),U=>if xs≠[]/\xs.length+ys.length<=sizeLine then some (.v (.tup (xs++ys)),U) else none
 |.p a,.p b,U=>match U[a]?,U[b]? with|some (.lst xs),some (.lst ys)=>if xs.length+ys.length<=sizeLine then some (.p U.length,U++[.lst (xs++ys)]) else none|_,_=>none
 |_,_,_=>none
def Lk:R2:=λx y H Q=>∃i j,x=.str i/\y=.str j/\i.length+j.length<=sizeLine/\Q (.str (i++j)) H
def NL (r r':R2):R2:=λx y H Q=>r x y H Q\/r' x y H Q
def F8 (K:AP):R2:=NL (yq λi j=>.int (i+j)) (NL Lk (NL (F6 K) Lj))
theorem RelDs.append {K:AP}{H:Hp}:∀{xs ys:P4 D} {vs ws:P4 V},RelDs K H xs vs->RelDs K H ys ws->RelDs K H (xs++ys) (vs++ws)
 |[],_,_,_,h,h'=>by rwa[RelDs] at h;subst h;exact h'
 |x::xs,_,_,_,h,h'=>by
  rwa[RelDs] at h;let⟨v,r,rfl,h1,h2⟩:=h
  show RelDs K H (x::(xs++_)) _
  rwa[RelDs];exact{v,r++_,rfl,h1,RelDs.append h2 h'}
def RelDs.nil_iff {H:Hp}{xs:P4 D}{vs:P4 V}(h:RelDs K H xs vs):xs=[] ↔ vs=[]:=by have:=h.length;cases xs <;> cases vs <;> simp_all
def Mb :pB K EY (F8 K):=by
 intro m H U x y d U' v u Q s rx ry e k;unfold EY at e;split at e
 ·cases e;rwa[av,ak] at rx ry;subst rx ry;exact .inl {_,_,rfl,rfl,k _ H m .refl s (by rwa[av,ak])}
 ·split at e
  ·rename_i z
   cases e;rwa[av,ak] at rx ry;subst rx ry;exact .inr (.inl {_,_,rfl,rfl,z,k _ H m .refl s (by rwa[av,ak])})
  ·cases e
 ·split at e
  ·rename_i z
   cases e;rwa[av,ak] at rx ry;let⟨a,vs,rfl,qa,ra⟩:=rx;let⟨b,ws,rfl,qb,rb⟩:=ry;refine .inr (.inr (.inl {a,b,vs,ws,rfl,rfl,qa,qb,λh=>z.1 (ra.nil_iff.mpr h),by rw[←ra.length,←rb.length];exact z.2,λh=>?_,λh p hp=>?_}))
   ·refine k _ H m .refl s ?_;have:=rb.nil_iff.mpr h;subst this;rwa[av,ak,Cg];exact{a,vs,rfl,qa,ra}
   ·let⟨x1,x2,x3⟩:=jW s (ra.append rb) hp;exact k _ _ _ x1 x2 x3
  ·cases e
 ·split at e
  ·rename_i xs ys qa qb;split at e
   ·rename_i z
    cases e;let⟨a',rfl,ha⟩:=rx;let⟨b',rfl,hb⟩:=ry;let⟨vs,ea,ra⟩:=s.cell _ _ a' qa ha;let⟨ws,eb,rb⟩:=s.cell _ _ b' qb hb;refine .inr (.inr (.inr {a',b',vs,ws,rfl,rfl,ea,eb,by rw[←ra.length,←rb.length];exact z,λp hp=>?_}));let⟨x1,x2,x3⟩:=jX s (ra.append rb) hp;exact k _ _ _ x1 x2 x3
   ·cases e
  ·cases e
 ·cases e
noncomputable def dw:R->ac->QI (P4 D)
 |.v (.tup xs),_=>some xs
 |.v (.fl xs),_=>some xs
 |.p n,U=>match U[n]? with|some (.lst xs)=>some xs|some (.fz xs)=>some xs|_=>none
 |_,_=>none
noncomputable def j9:R->ac->QI (P4 D)
 |.v (.fl xs),_=>some xs
 |.p n,U=>match U[n]? with|some (.lst xs)=>some xs|some (.fz xs)=>some xs|_=>none
 |_,_=>none
section
variable {K:AP}{m:Tf}{H:Hp}{U:ac}
def iF {x:R}{xs:P4 D}{v:V}(s:aJ K m H U)(r:av K m H x v)(e:j9 x U=some xs):∃a vs,v=.ref a/\j6 K H a vs/\RelDs K H xs vs:=by
 unfold j9 at e;split at e
 ·cases e;rwa[av,ak] at r;let⟨a,vs,rfl,q,r⟩:=r;exact{a,vs,rfl,q.sq,r}
 ·let⟨a,rfl,ha⟩:=r;split at e
  ·rename_i q
   cases e;let⟨vs,e,r⟩:=s.cell _ _ a q ha;exact{a,vs,rfl,.inl (.inl e),r}
  ·rename_i q
   cases e;let⟨o,vs,e,r⟩:=s.cell _ _ a q ha;exact{a,vs,rfl,.inl (.inr {o,e}),r}
  ·cases e
 ·cases e
theorem hX {x:R}{xs:P4 D}{v:V}(s:aJ K m H U)(r:av K m H x v)(e:dw x U=some xs):∃a vs,v=.ref a/\(j6 K H a vs\/gp K H a vs)/\RelDs K H xs vs:=by
 cases x with
 |v d=>
  cases d with
  |tup ys=>
   cases e;rwa[av,ak] at r;let⟨a,vs,rfl,q,r⟩:=r;exact{a,vs,rfl,.inr q,r}
  |fl ys=>let⟨a,vs,q1,q2,q3⟩:=iF s r (xs:=xs) e;exact{a,vs,q1,.inl q2,q3}
  |non=>cases e
  |bl _=>cases e
  |int _=>cases e
  |str _=>cases e
  |fd _ _=>cases e
  |key _=>cases e
 |p n=>let⟨a,vs,q1,q2,q3⟩:=iF s r (xs:=xs) e;exact{a,vs,q1,.inl q2,q3}
 |s _ _=>cases e
 |x _=>cases e
 |f _ _=>cases e
end
noncomputable def bg:R->R->ac->QI (R×ac)
 |x,.v (.int i),U=>(dw x U).bind λxs=>(kB xs i).bind λd=>some (.v d,U)
 |_,_,_=>none
noncomputable def jd:P4 R->ac->QI (R×ac)
 |[x],U=>(dw x U).bind λxs=>some (.v (.int xs.length),U)
 |_,_=>none
def JEi {H:Hp}{xs:P4 D}{vs:P4 V}{i:Int}{d:D}(r:RelDs K H xs vs)(e:kB xs i=some d):∃v,kB vs i=some v/\ak K H d v:=by let⟨j,e1,e2⟩:=AY.mp e;let⟨v,q1,q2⟩:=r.get e2;exact{v,by unfold kB;rw[←r.length,e1];exact q1,q2}
def N5 :pB K bg (Pr K):=by
 intro m H U x y d U' v u Q s rx ry e k;unfold bg at e;split at e
 ·rename_i i;let⟨xs,e1,e⟩:=AY.mp e;let⟨d1,e2,e⟩:=AY.mp e;cases e;rwa[av,ak] at ry;subst ry;let⟨a,vs,rfl,q,r⟩:=hX s rx e1;let⟨w,q1,q2⟩:=JEi r e2;rcases q with q|q
  ·exact .inl {a,vs,i,w,rfl,rfl,q,q1,k _ H m .refl s q2}
  ·exact .inr (.inl {a,vs,i,w,rfl,rfl,q,q1,k _ H m .refl s q2})
 ·cases e
def NM (K:AP):P4 V->Hp->VK->Prop:=λxs H Q=>∃p ys,xs=[.ref p]/\(j6 K H p ys\/gp K H p ys)/\Q (.int ys.length) H
def mh {m:Tf}{H:Hp}{x:R}{vs:P4 V}(r:aR K m H [x] vs):∃v,vs=[v]/\av K m H x v:=by let⟨v,r,rfl,h1,h2⟩:=r;have h2:r=[]:=h2;subst h2;exact{v,rfl,h1}
def L3 :zr K jd (NM K):=by
 intro m H U xs d U' vs Q s r e k;unfold jd at e;split at e
 ·rename_i x;let⟨ys,e1,e⟩:=AY.mp e;cases e;let⟨v,rfl,r1⟩:=mh r;let⟨a,ws,rfl,q,r⟩:=hX s r1 e1;exact{a,ws,rfl,q,k _ H m .refl s (by rwa[av,ak];rw[r.length])}
 ·cases e
noncomputable def eC:P4 R->ac->QI (R×ac)
 |[x],U=>(dw x U).bind λxs=>some (.p U.length,U++[.lst xs])
 |_,_=>none
def Ld (K:AP):P4 V->Hp->VK->Prop:=λxs H Q=>∃p ys,xs=[.ref p]/\(j6 K H p ys\/gp K H p ys)/\∀l,H l=none->Q (.ref l) (upd H l (.lst ys))
def Jm :zr K eC (Ld K):=by
 intro m H U xs d U' vs Q s r e k;unfold eC at e;split at e
 ·rename_i x;let⟨ys,e1,e⟩:=AY.mp e;cases e;let⟨v,rfl,r1⟩:=mh r;let⟨a,ws,rfl,q,r⟩:=hX s r1 e1;refine{a,ws,rfl,q,λp hp=>?_};let⟨x1,x2,x3⟩:=jX s r hp;exact k _ _ _ x1 x2 x3
 ·cases e
noncomputable def ye:P4 R->ac->QI (R×ac)
 |[x],U=>(dw x U).bind λxs=>some (.v (.tup xs),U)
 |_,_=>none
def K9 (K:AP):P4 V->Hp->VK->Prop:=λxs H Q=>∃p ys,xs=[.ref p]/\((j6 K H p ys/\∀l,H l=none->Q (.ref l) (upd H l (.tup ys)))\/(gp K H p ys/\Q (.ref p) H))
def LV :zr K ye (K9 K):=by
 intro m H U xs d U' vs Q s r e k;unfold ye at e;split at e
 ·rename_i x;let⟨ys,e1,e⟩:=AY.mp e;cases e;let⟨v,rfl,r1⟩:=mh r;let⟨a,ws,rfl,q,r⟩:=hX s r1 e1;rcases q with q|q
  ·refine{a,ws,rfl,.inl {q,λp hp=>?_}};let⟨x1,x2,x3⟩:=jW s r hp;exact k _ _ _ x1 x2 x3
  ·refine{a,ws,rfl,.inr {q,k _ H m .refl s ?_}};rwa[av,ak];exact{a,ws,rfl,q,r}
 ·cases e
noncomputable def gg:R->P4 R->ac->QI (R×ac)
 |.p n,[.v d],U=>match U[n]? with|some (.lst xs)=>if xs.length<sizeLine then some (.v .non,U.set n (.lst (xs++[d]))) else none|_=>none
 |_,_,_=>none
def Qf (K:AP)(g:R->P4 R->ac->QI (R×ac))(r:V->P4 V->Hp->VK->Prop):Prop :=
 ∀m H U x xs d U' v vs Q,aJ K m H U->av K m H x v->aR K m H xs vs->g x xs U=some (d,U')->(∀w H' m',dz m H m' H'->aJ K m' H' U'->av K m' H' d w->Q w H')->r v vs H Q
def Ma :Qf K gg wX:=by
 intro m H U x xs d U' v vs Q s rx rs e k;unfold gg at e;split at e
 ·split at e
  ·rename_i ys q;split at e
   ·rename_i z
    cases e;let⟨a,rfl,ha⟩:=rx;let⟨w,rfl,De⟩:=mh rs;let⟨ws,ea,ra⟩:=s.cell _ _ a q ha;have x:dz m H m (upd H a (.lst (ws++[w]))):=.put (DM ha) ea ∅ ∅;refine{a,ws,w,rfl,rfl,ea,by rw[←ra.length];exact z,k _ _ m x (s.put ha ea ∅ ∅ {_,bN,?_}) (by rwa[av,ak])};refine RelDs.tf x.tf _ _ (ra.append ?_);rwa[RelDs];exact{w,[],rfl,De,rfl}
   ·cases e
  ·cases e
 ·cases e
noncomputable def bJ (g:FG)(c:FT)(f:FE):P4 D->Lo->ac->QI (P4 D×ac)
 |[],_,U=>some ([],U)
 |x::xs,O,U=>(g (.v x) O U).bind λa=>(c a.1 a.2).bind λb=>if b.1=true then (f a.1 b.2).bind λy=>match y.1 with
   |.v d=>(bJ g c f xs a.1 y.2).bind λr=>some (d::r.1,r.2)
   |_=>none
  else bJ g c f xs a.1 b.2
noncomputable def ca (k:Nat)(ix:P4 Nat)(O:Lo):Lo:=List.replicate k none++ix.map λi=>(O[i]?).join
noncomputable def bS (ix:P4 Nat)(k:Nat)(i:FI)(g:FG)(c:FT)(f:FE):FE:=λO U=>(i O U).bind λa=>if a.1.length<=sizeLine then
 (bJ g c f a.1 (ca k ix O) a.2).bind λr=>some (.p r.2.length,r.2++[.lst r.1]) else none
noncomputable def c8:FT:=λ_ U=>some (true,U)
open PyProof.Rows
section
variable {X:Cx}
def PE.imp {t t':TE}(h:PE X e t)(k:∀{Y H Q},t' Y H Q->t Y H Q):PE X e t':=λQa s Y H Q I q=>h Qa s Y H Q I (k q)
def PT.imp {t t':TT}(h:PT X e t)(k:∀{Y H Q},t' Y H Q->t Y H Q):PT X e t':=λQa s Y H Q I q=>h Qa s Y H Q I (k q)
def PW.imp {t t':TT}(h:PW X e t)(k:∀{Y H Q},t' Y H Q->t Y H Q):PW X e t':=λwh Qa s Y H Q I q=>h wh Qa s Y H Q I (k q)
def PA.imp {e:Tj}{t t':TA}(h:PA X e t)(k:∀{Y H Q},t' Y H Q->t Y H Q):PA X e t':=λpos Qa s Y H Q I q=>h pos Qa s Y H Q I (k q)
def PS.imp {e:Ad}{t t':TS}(h:PS X e t)(k:∀{D Y H},t' D Y H->t D Y H):PS X e t':=λQa s Y H Q I q=>h Qa s Y H Q I (k q)
def nB.imp {e:Tk}{t t':TS}(h:nB X e t)(k:∀{D Y H},t' D Y H->t D Y H):nB X e t':=λQa s Y H Q I q=>h Qa s Y H Q I (k q)
def PI.imp {tg e:AU}{t t':TI}(h:PI X tg e t)(k:∀{Y H R},t' Y H R->t Y H R):PI X tg e t':=λQa s Y H R I q=>h Qa s Y H R I (k q)
def PG.imp {t t':TG}(h:PG X e t)(k:∀{v Y H Q},t' v Y H Q->t v Y H Q):PG X e t':=λQa s Y H v u Q I r q=>h Qa s Y H v u Q I r (k q)
def C1.imp {e:Tj}{t t':C0}(h:C1 X e t)(k:∀{v Y H Q},t' v Y H Q->t v Y H Q):C1 X e t':=λQa s Y H v u Q I r q=>h Qa s Y H v u Q I r (k q)
end
section
variable {P:A9}{w:AF}{H H0:Hp}{h h0:AD}{a:A3}{u:HO}{fs ex:Tf}
def dY.ne {b:A3}{v:HO}(e:H a=some u)(hu:dY u)(q:H b=some v)(n:¬ dY v):b≠a:=λz=>by rw[z,e] at q;cases q;exact n hu
def fH.frz (ok:fH P w H h)(e:H a=some u)(hu:dY u):∃o,fH P w (upd H a (.frz o u)) h:=by
 have ho:∃o,h.get? a=some o:=by
  have z:=ok a u e
  cases u with
  |lst xs=>let⟨_,_,_,_,q⟩:=z;exact{_,q}
  |set S n=>let⟨o,_,_,_,q,_⟩:=z;exact{_,q}
  |dK A4=>let⟨_,_,_,_,o,_,_,q,_⟩:=z;exact{_,q}
  |dT A4=>let⟨_,_,_,_,o,_,_,q,_⟩:=z;exact{_,q}
  |_=>exact hu.elim
 let⟨o,ho⟩:=ho;refine{o,λb v q=>?_};have own:∀c y,H c=some (.own y)->upd H a (.frz o u) c=some (.own y):=λc y r=>by rw[L2.aq (dY.ne e hu r λz=>z)];exact r
 have tup:∀c xs,H c=some (.tup xs)->upd H a (.frz o u) c=some (.tup xs):=λc xs r=>by rw[L2.aq (dY.ne e hu r λz=>z)];exact r
 by_cases hb:b=a
 ·subst hb;rw[L2.aP] at q;cases q;exact{ho,(ok b u e).stay (λc v _ q=>q) (λc r=>own c _ r) tup}
 ·rw[L2.aq hb] at q;exact(ok b v q).stay (λc v _ q=>q) (λc r=>own c _ r) tup
def Un.frz {o:As}(un:Un fs ex H0 H h0 h)(e:H a=some u)(hu:dY u):Un fs ex H0 (upd H a (.frz o u)) h0 h where
 keep:=un.keep
 slot:=un.slot
 free:=λb ob q n hx=>by have z:=un.free b ob q n hx;rw[L2.aq (λy=>by rw[y,e] at z;cases z)];exact z
 there:=un.there
 tups:=λb xs q=>by rw[L2.aq (dY.ne e hu (un.tups b xs q) λz=>z)];exact un.tups b xs q
 frzs:=λb ob v q=>by rw[L2.aq (dY.ne e hu (un.frzs b ob v q) λz=>z)];exact un.frzs b ob v q
 tbls:=λb ps q=>by let⟨more,r⟩:=un.tbls b ps q;exact{more,by rw[L2.aq (dY.ne e hu r λz=>z)];exact r}
def ay.frz {s:A1}(I:ay X Qa Y H s)(e:H a=some u)(hu:dY u):∃o,ay X Qa Y (upd H a (.frz o u)) s:=by
 let⟨o,ok⟩:=fH.frz I.hok e hu;have nn:∀b,H b=none->upd H a (.frz o u) b=none:=λb z=>by rw[L2.aq (λy=>by rw[y,e] at z;cases z)];exact z
 refine{o,I.ok,I.os,I.bare,Un.frz I.base e hu,I.loc,I.cell,nn _ I.free,λx c q=>nn _ (I.freeC x c q),λp hp=>?_,ok,I.len};let⟨q1,q2,q3⟩:=I.pin p hp;exact{q1,nn _ q2,q3}
end
def vC {t:TE}(h:PE X e t):PE X e (MK t):=λQa s Y H Q I q=>by
 refine cV (h Qa s Y H _ I q) λv s1 hh=>?_;let⟨x,H1,I1,r1,q1⟩:=hh;rcases q1 with q1|⟨a,u,e,hu,q1⟩
 ·exact{x,H1,I1,r1,q1}
 ·let⟨o,I2⟩:=ay.frz I1 e hu;exact{x,_,I2,r1,q1 o}
theorem b9.fz {mg:Td}{base:AD}{CX:xX}{k:Nat}{f:A3}{ps:Tn}{sp:Sp}(F:b9 P w K mg base CX k f fd ps sp) :
  b9 P w K mg base CX k f fd ps (λvs H Q E=>sp vs H (DY Q) E):=by
 refine{λvs H Q E h=>F.len vs H _ E h,λA outer s H args us vs Q E hr he hb hv hs=>?_};refine Ej (F.run A outer s H args us vs (DY Q) E hr he hb hv hs) λr s' hq=>?_
 cases r with
 |error e=>exact hq
 |ok fl=>
  cases fl with
  |next=>exact hq
  |brk=>exact hq
  |cont=>exact hq
  |ret u=>
   let⟨v,H',os,bare,un,hok,rv,q⟩:=hq;rcases q with q|⟨a,u',e,hu,q⟩
   ·exact{v,H',os,bare,un,hok,rv,q}
   ·let⟨o,ok⟩:=fH.frz hok e hu
    exact{v,_,os,bare,Un.frz un e hu,ok,rv,q o}
def nQ.okP {P:A9}{w:AF}{K:AP}{mg:Td}{base:AD}{x qual:Str}{st:Ad}{f:A3}{fd:FuncData}{N ps:Tn}{k:Nat}{b:FS}(F:nQ K x qual st f fd)(S:aA N ps (ai st))
  (An:∀(Ah:A2) (A:AE) (outer:P4 Env) (s:A1) (H:Hp) (E:XK),bv k (A.deeper (envOfC qual (ai st) s.heap.objs.size f Ah))->nB (jf j7 P w K mg base N qual (ai st) f Ah A outer s H E).nox (bq st) (eB K b)) :
  b9 P w K mg base j7 (k+1) f fd ps (zt K ps.length (gm N.length b)):=by
 have G:b9 P w K mg base j7 (k+1) f fd ps (λvs H Q _=>vs.length=ps.length/\eB K b {nx:=λ_ H'=>Q .non H',rt:=Q} (L2.eW N vs) H) :=
  L2.nQ.ok F S (λvs H Q E h=>h.1) λAh A outer s H vs Q E hr h=>{_,An Ah A outer s H E hr,h.2}
 refine(b9.fz G).imp λvs H Q E ⟨ds,d,hn,r,e,k⟩=>{by rw[←r.length];exact hn,JF2 (E:=E) r e k}
def JDa {X:Cx}{tg l:AU}{tl:TE}(hl:PE X l tl):PI X tg l (LR X.K tl):=by
 intro Qa s Y H R I h;refine cV (hl Qa s Y H _ I h) λv s1 hh=>?_;let⟨x,H1,I1,r1,q1⟩:=hh;let⟨a,e,q1⟩:=q1;subst e;cases r1;rcases q1 with⟨⟨xs,hq⟩,q⟩|⟨⟨xs,hq⟩,q⟩
 ·let⟨its,rv,p,hz⟩:=I1.list hq;refine zcI p.isList ?_;refine{s1.heap.objs.size,[s1.heap.objs.size],_,_,H1,rfl,I1.kept (t':=s1.toks) λb o e=>Am _ e,yd a _,{_,BI _ rfl,rfl,rfl},λb hb=>?_,q};have e:b=s1.heap.objs.size:=by simpa using hb
  subst e;exact I1.fpOk (Ao _) (I1.hok.fresh (Ao _))
 ·let⟨its,rv,p,hz⟩:=I1.tuple hq;refine wpAny_pyIter_tuple (show s1.heap.IsTuple a its.toArray from p) ?_;refine{s1.heap.objs.size,[s1.heap.objs.size],_,_,H1,rfl,I1.kept (t':=s1.toks) λb o e=>Am _ e,u6 a _,{_,BI _ rfl,rfl,rfl},λb hb=>?_,q};have e:b=s1.heap.objs.size:=by simpa using hb
  subst e;exact I1.fpOk (Ao _) (I1.hok.fresh (Ao _))
theorem fY {env:Env}:∀{names:P4 (Str×NameKind)} {x:Str},
  (names.map λ(n,k)=>if (k == NameKind.free&&env.scope.kind == .function&&env.kindOf n == some .cell) then (n,NameKind.cell) else (n,k)).lookup x =
   (names.lookup x).map λk=>if (k == NameKind.free&&env.scope.kind == .function&&env.kindOf x == some .cell) then NameKind.cell else k
 |[],_=>rfl
 |(n,k)::r,x=>by
  have ih:=@fY env r x
  show List.lookup x ((if (k == NameKind.free&&env.scope.kind == .function&&env.kindOf n == some .cell)=true then (n,NameKind.cell) else (n,k))::_)=_
  cases hx:x == n with
  |true=>
   have:x=n:=eq_of_beq hx;subst this;rwa[Dj,hx,EB]
   by_cases hc:(k == NameKind.free&&env.scope.kind == .function&&env.kindOf x == some .cell)=true
   ·simp[hc]
   ·simp[hc]
  |false=>
   by_cases hc:(k == NameKind.free&&env.scope.kind == .function&&env.kindOf n == some .cell)=true
   ·rw[A8 hc];rwa[Dj,hx];exact ih
   ·rw[A6 hc];rwa[Dj,hx];exact ih
theorem iQ {env:Env}:∀(names:P4 (Str×NameKind)) (acc:P4 (Str×A3)),(∀x c,acc.lookup x=some c->env.cells.lookup x=some c) ->
  (∀y∈names,y.2=.free->∃c,env.cells.lookup y.1=some c) ->
  ∃cl:P4 (Str×A3),(forIn names acc λ(x:Str×NameKind) (r:P4 (Str×A3))=>(if (x.2 == NameKind.free)=true then do let a ←cellOf env x.1;pure (ForInStep.yield ((x.1,a)::r)) else pure (ForInStep.yield r):Sem (ForInStep (P4 (Str×A3)))))=pure cl /\
   (∀x c,cl.lookup x=some c->env.cells.lookup x=some c)/\(∀x c,acc.lookup x=some c->∃c',cl.lookup x=some c')/\∀y∈names,y.2=.free->∃c,cl.lookup y.1=some c
 |[],acc,h1,_=>{acc,rfl,h1,λx c e=>{c,e},λy hy=>by simp at hy}
 |(n,k)::r,acc,h1,h2=>by
  by_cases hk:k=.free
  ·subst hk
   let⟨c,hc⟩:=h2 (n,.free) BG rfl
   have step:∀x c',List.lookup x ((n,c)::acc)=some c'->env.cells.lookup x=some c':=λx c' e=>by
    rw[Dj] at e
    cases hx:x == n with
    |true=>rw[hx] at e;have:x=n:=eq_of_beq hx;subst this;rw[hc];exact e
    |false=>rw[hx] at e;exact h1 x c' e
   let⟨cl,e,p1,p2,p3⟩:=iQ r ((n,c)::acc) step λy hy=>h2 y (BR _ hy);have hn:∃c',List.lookup n ((n,c)::acc)=some c':={c,by rw[Dj];simp};refine{cl,?_,p1,λx c' e'=>?_,λy hy hf=>?_}
   ·rw[List.forIn_cons]
    show((cellOf env n >>=λa=>pure (ForInStep.yield ((n,a)::acc))) >>= _)=_
    unfold cellOf;rw[hc];exact e
   ·cases hx:x == n with
    |true=>have:x=n:=eq_of_beq hx;subst this;let⟨c'',q⟩:=hn;exact p2 _ _ q
    |false=>exact p2 x c' (by rw[Dj,hx];exact e')
   ·rcases Ax.mp hy with rfl|hy
    ·let⟨c'',q⟩:=hn;exact p2 _ _ q
    ·exact p3 y hy hf
  ·let⟨cl,e,p1,p2,p3⟩:=iQ r acc h1 λy hy=>h2 y (BR _ hy)
   have hb:(k == NameKind.free)=false:=by simpa using hk
   refine{cl,?_,p1,p2,λy hy hf=>?_}
   ·rw[List.forIn_cons]
    rwa[hb,C8,if_false];exact e
   ·rcases Ax.mp hy with rfl|hy
    ·exact AH hf hk
    ·exact p3 y hy hf
def pq {env:Env}{scope:Scope}(h:∀y∈scope.names,y.2=.free->∃c,env.cells.lookup y.1=some c) :
  ∃cl,closureFor scope env=pure cl/\(∀x c,cl.lookup x=some c->env.cells.lookup x=some c)/\∀y∈scope.names,y.2=.free->∃c,cl.lookup y.1=some c:=by
 let⟨cl,e,p1,_,p3⟩:=iQ (env:=env) scope.names [] (λx c e=>by simp at e) h;refine{cl,?_,p1,p3};unfold closureFor
 first
  |(show(forIn scope.names [] _ >>=λr=>pure r)=_;rw[e];rfl)
  |(rwa[bind_pure];exact e)
structure aG (osc scope:Scope)(own:Tn)(caps:Tn):Prop where
 kind:scope.kind=.function
 cell:∀y∈scope.names,y.2=.cell->scope.names.lookup y.1=some .cell
 loc:∀y∈scope.names,y.2=.local->scope.names.lookup y.1=some .local
 free:∀y∈scope.names,y.2=.free->osc.names.lookup y.1=some .cell\/osc.names.lookup y.1=some .free
 cap:∀y∈caps,(y,NameKind.free)∈scope.names/\scope.names.lookup y=some .free
 nd:(own++caps).Nodup
noncomputable def aF (X:Cx)(scope:Scope)(cl:P4 (Str×A3))(C:A3)(s₂:A1)(H₂:Hp)(fp:Tf)(N:Tn):Cx :=
 {X with N:=N,s₀:=s₂,H₀:=H₂,env:=compEnvC scope cl C X.env,outer:=X.stack,stack:=X.stack,ex:=fp,fn:=λx=>scope.names.lookup x == some .cell,pn:=[],xe:=λ_ _=>False}
def oQ {names:P4 (Str×NameKind)}{x:Str}{k:NameKind}(h:names.lookup x=some k):(x,k)∈names:=PySem.mem_of_lookup h
structure MH (X:Cx)(scope:Scope)(lo:Nat)(cl:List (Str×Addr)):Prop where
 src:∀x c,cl.lookup x=some c->(X.env.cells.lookup x=some c/\scope.names.lookup x≠some .cell)\/lo<c
 inj:∀x y c,cl.lookup x=some c->cl.lookup y=some c->x=y
 has:∀y∈scope.names,y.2=.free\/y.2=.cell->∃c,cl.lookup y.1=some c
 fr:∀y,scope.names.lookup y=some .free->∃c,cl.lookup y=some c/\X.env.cells.lookup y=some c
theorem pw {X:Cx}{scope:Scope}{own caps:Tn}(n:aG X.env.scope scope own caps){cl:P4 (Str×A3)}{C:A3}{x:Str}{k:NameKind}(h:(compEnvC scope cl C X.env).kindOf x=some k)(hk:k=.cell\/k=.free) :
  ∃k,(x,k)∈scope.names/\(k=.free\/k=.cell):=by
 have h':(relabel scope X.env).names.lookup x=some k:=h;unfold relabel at h';rw[fY] at h'
 cases q:scope.names.lookup x with
 |none=>rw[q] at h';cases h'
 |some k0=>
  rw[q,EB] at h';have m:=oQ q;have h2:=Option.some.inj h'
  by_cases hf:k0=.free
  ·subst hf;exact{_,m,.inl rfl}
  ·have hb:(k0 == NameKind.free)=false:=by simpa using hf
   rwa[hb,Bool.false_and,C8,if_false] at h2;rcases hk with hk|hk
   ·exact{_,m,.inr (h2.trans hk)}
   ·exact AH (h2.trans hk) hf
def wl {X:Cx}{scope:Scope}{cl:P4 (Str×A3)}{C:A3}{x:Str}(h:scope.names.lookup x=some .free) :
  (compEnvC scope cl C X.env).kindOf x=some .cell\/(compEnvC scope cl C X.env).kindOf x=some .free:=by
 show(relabel scope X.env).names.lookup x=some .cell\/(relabel scope X.env).names.lookup x=some .free
 unfold relabel;rw[fY,h];rwa[EB];split
 ·exact .inl rfl
 ·exact .inr rfl
def MH.ne {H:Hp}{lo b:Nat}{cl:P4 (Str×A3)}(B:MH X scope lo cl)(f:lV X Qa H b)(hb:b<lo){x:Str}{c:A3}(e:cl.lookup x=some c):c≠b:=by
 rcases B.src x c e with⟨z,_⟩|z
 ·exact f.2.2.2.2.1 x c z
 ·exact Ne.symm (BE (zb1 hb z))
def JB9 {X:Cx}{H₂:Hp}{s₂:A1}{scope:Scope}{own caps:Tn}{cl:P4 (Str×A3)}{C:A3}{fp:Tf}(I:ay X Qa Y H₂ s₂)(n:aG X.env.scope scope own caps)
  (B:MH X scope s₂.heap.objs.size cl) (hC:s₂.heap.objs.size<=C) (hfs:∀b∈fp,b<s₂.heap.objs.size) (hf:∀b∈fp,lV X Qa H₂ b) :
  (aF X scope cl C s₂ H₂ fp (own++caps)).Ok:=by
 refine{I.ok.mod,n.kind,I.ok.glob,I.ok.blt,hC,B.inj,λx hx=>?_,λx c h _=>?_,I.ok.hd,I.ok.frames,.inl rfl,λb hb=>{BE (Bi (hfs b hb) hC),λx c e=>B.ne (hf b hb) (hfs b hb) e},
  I.bs,DK I.ok.bsz I.sz,λb o e hb=>?_,λb hb z=>?_,I.stack,I.stkFree}
 ·rcases hx with hx|hx
  ·let⟨k,m,hk⟩:=pw n hx (.inl rfl);exact B.has _ m hk
  ·let⟨k,m,hk⟩:=pw n hx (.inr rfl);exact B.has _ m hk
 ·rcases B.src x c (by assumption) with⟨_,z⟩|z
  ·exact AH (eq_of_beq h) z
  ·exact Ek z
 ·rcases (hf b hb).2.2.2.1 with z|z
  ·exact I.ok.noex b o e z
  ·exact AH (Bi (Bi (Av e) I.ok.bsz) z) (CM _)
 ·rcases Ax.mp (I.stkSub b z) with e|e
  ·exact(hf b hb).2.1 e
  ·exact(hf b hb).2.2.1 e
noncomputable def gE (own:L2.St)(ix:P4 Nat)(Y:L2.St):L2.St:=own++ix.map λi=>(Y[i]?).join
def uL {X:Cx}{H₂:Hp}{s₂:A1}{scope:Scope}{own caps:Tn}{ix:P4 Nat}{cl:P4 (Str×A3)}{C:A3}{fp:Tf}{h₁:AD}{tk:Nat}(I:ay X Qa Y H₂ s₂)(n:aG X.env.scope scope own caps)
  (B:MH X scope s₂.heap.objs.size cl) (hC:s₂.heap.objs.size<=C) (hfs:∀b∈fp,b<s₂.heap.objs.size) (hf:∀b∈fp,lV X Qa H₂ b)
  (IG:∀x c,cl.lookup x=some c->s₂.heap.objs.size<c->h₁.IsCell c none) (CD:ix.length=caps.length) (DR:∀(j i:Nat) y,ix[j]?=some i->caps[j]?=some y->X.N[i]?=some y)
  (old:∀b o,s₂.heap.get? b=some o->h₁.get? b=some o) {m:Td} (hns:h₁.Ns C m) :
  ay (aF X scope cl C s₂ H₂ fp (own++caps)) [] (gE (own.map λ_=>none) ix Y) H₂ {s₂ with heap:=h₁,toks:=tk}:=by
 refine{JB9 I n B hC hfs hf,rfl,I.bare,Un.kept old,{m,hns,λi x v e1 e2 hv=>?_},λx c e=>?_,I.hok.fresh hC,λx c e=>(B.src x c e).elim (λz=>I.freeC x c z.1) λz=>I.hok.fresh (Ek z),λp hp=>?_,I.hok.kept old,?_}
 ·have e1:(own++caps)[i]?=some x:=e1
  unfold gE at e2
  by_cases hi:i<own.length
  ·rw[BY ‹hi›,Bh] at e2
   cases q:own[i]? with
   |none=>rw[q] at e2;cases e2
   |some y=>rw[q] at e2;cases e2
  ·rw[DO ‹hi›] at e2
   rw[DO ∅] at e1;rwa[Ay] at e2;generalize i-own.length=j at e1 e2;rw[Bh] at e2
   cases q:ix[j]? with
   |none=>rw[q] at e2;cases e2
   |some i'=>
    rw[q] at e2;have e3:(Y[i']?).join=some v:=Option.some.inj e2
    have e4:Y[i']?=some (some v):=by
     cases z:Y[i']? with
     |none=>rw[z] at e3;cases e3
     |some w'=>rw[z] at e3;cases w' with
      |none=>cases e3
      |some _=>cases e3;rfl
    have hN:=DR j i' x q e1;let⟨mm,hl⟩:=n.cap x (DM e1);have hk:X.env.kindOf x=some .cell\/X.env.kindOf x=some .free:=n.free _ mm rfl;let⟨m0,hn0,hl0⟩:=I.loc
    have vis:Nx X.env.scope x:=by
     rcases hk with hk|hk
     ·exact .inr (.inl hk)
     ·exact .inr (.inr hk)
    let⟨u,r,l⟩:=hl0 i' x v hN e4 vis;refine{u,r,.inr {wl hl,?_}};let⟨c,hc,hcx⟩:=B.fr x hl;rcases l with⟨l,_⟩|⟨_,c',Hu,z⟩
    ·exfalso
     rcases hk with hk|hk <;> rw[hk] at l <;> cases l
    ·rw[Hu] at hcx;cases hcx
     let⟨o,ho,hd⟩:=z;exact{_,hc,o,old _ _ ho,hd}
 ·rcases B.src x c e with⟨z,_⟩|z
  ·let⟨v,o,ho,hd⟩:=I.cell x c z
   exact{v,o,old _ _ ho,hd}
  ·exact{none,IG x c e z}
 ·exact AH (show p∈([]:Tc) from hp) ∅
 ·show(gE _ ix Y).length=(own++caps).length
  unfold gE;simp[CD]
def mL (X:Cx)(ifs:Tj)(t:TT):Prop :=
 ∀(Qa:Tc) (s:A1) (Y:L2.St) (H:Hp) (Q:A7->Hp->Prop),ay X Qa Y H s->t Y H Q ->
  wpAny (model X.prog X.w) X.A (forIn ifs true λc r=>if r=true then do let ok ←isTrue c X.env (eval c X.env);pure (ForInStep.yield ok) else pure (ForInStep.yield r)) (TP X Qa Y Q) X.xe s
def KC:TT:=λ_ H Q=>Q true H
def JBm:mL X [] KC:=λQa s Y H Q I h=>wpAny_tests_nil {H,I,h}
def JAk {c:AU}{t:TT}(h:PT X c t):mL X [c] t:=λQa s Y H Q I q=>wpAny_tests_one (h Qa s Y H Q I q)
theorem uG {prog:A9}{w:AF}{A:AE}{R:Result->A1->Prop}{s:A1}{elt target iter:AU}{ifs:Tj}{scope:Scope}{pos:Pos}{it acc:A2}{env:Env}(I:Nat->A1->Prop)
  (turn:∀n s,I n s->wpAny (model prog w) A (pyNext it) (λr s₁=>match r with
   |none=>R (.ok .next) s₁
   |some v=>wpAny (model prog w) A (letOwnedTupleGo target it v) (λ_ s₁'=>wpAny (model prog w) A (assign target env v) (λ_ s₂=>
     wpAny (model prog w) A (forIn ifs true λc r=>if r=true then do let ok ←isTrue c env (eval c env);pure (ForInStep.yield ok) else pure (ForInStep.yield r)) (λok s₃=>
      if ok=true then wpAny (model prog w) A (eval elt env) (λx s₄=>
       wpAny (model prog w) A (call (.builtin "list.append") [acc,x]) (λ_ s₅=>∃m,m<n/\I m s₅) (λ_ _=>False) s₄) (λ_ _=>False) s₃
      else ∃m,m<n/\I m s₃) (λ_ _=>False) s₂) (λ_ _=>False) s₁') (λ_ _=>False) s₁) (λ_ _=>False) s)
  (n:Nat) (h:I n s):codeAny (model prog w) A (.compLoop (.ListComp elt [{target,iter,ifs,0}] scope pos) 0 it acc env) R s:=by
 refine codeAny_loop rfl I (λn s hI=>?_) n h
 show wpAny _ A ((compTurn (.ListComp elt [{target,iter,ifs,0}] scope pos) 0 it acc env).onRaise (λx=>do noteFrame x env;theTreesLotGoes x)) _ _ s
 refine wpAny_noted ?_;rw[compTurn_list];refine AA (wpAny_standAt (AA (DV (turn n s hI) (λr s₁ h₁=>?_) λ_ _ h'=>h'.elim)))
 cases r with
 |none=>exact AJ h₁
 |some v=>
  refine AA (DV h₁ (λ_ s₁' h1'=>?_) λ_ _ h'=>h'.elim);refine AA (DV h1' (λ_ s₂ h₂=>AA (DV h₂ (λok s₃ h₃=>?_) λ_ _ h'=>h'.elim)) λ_ _ h'=>h'.elim)
  cases ok with
  |false=>exact AJ {rfl,h₃}
  |true=>
   exact AA (AA (DV h₃ (λx s₄ h₄=>AA (DV h₄ (λ_ s₅ h₅=>AJ (AJ {rfl,h₅})) λ_ _ h'=>h'.elim)) λ_ _ h'=>h'.elim))
def ay.adopt {X:Cx}{H:Hp}{s:A1}{a:A3}{o:HO}(I:ay X Qa Y H s)(f:lV X Qa H a)(hs:X.s₀.heap.objs.size<=a)(new:br X.prog X.w (upd H a o) s.heap a o):ay X Qa Y (upd H a o) s:=by
 let⟨f0,f1,f2,f3,f4,f5⟩:=f;have ne:∀b u,H b=some u->b≠a:=λb u e z=>by rw[z,f0] at e;cases e
 refine{I.ok,I.os,I.bare,{I.base.keep,I.base.slot,λb ob q n IA=>?_,I.base.there,λb xs q=>?_,λb ob u q=>?_,λb ps q=>?_},I.loc,I.cell,?_,λx c q=>?_,λp hp=>?_,λb u q=>?_,I.len}
 ·rw[L2.aq (BE (Bi (Av q) hs))];exact I.base.free b ob q n IA
 ·rw[L2.aq (ne _ _ (I.base.tups b xs q))];exact I.base.tups b xs q
 ·rw[L2.aq (ne _ _ (I.base.frzs b ob u q))];exact I.base.frzs b ob u q
 ·let⟨more,r⟩:=I.base.tbls b ps q;exact{more,by rw[L2.aq (ne _ _ r)];exact r}
 ·rw[L2.aq (Ne.symm f1)];exact I.free
 ·rw[L2.aq (f4 x c q)];exact I.freeC x c q
 ·let⟨q1,q2,q3⟩:=I.pin p hp;exact{q1,by rw[L2.aq (f5 p hp)];exact q2,q3}
 ·by_cases hb:b=a
  ·subst hb;rw[L2.aP] at q;cases q;exact new
  ·rw[L2.aq hb] at q;exact(I.hok b u q).stay (λc v _ q=>q) (λc r=>by rw[L2.aq (ne _ _ r)];exact r) λc xs r=>by rw[L2.aq (ne _ _ r)];exact r
def wN (ix:P4 Nat)(own:Tn)(wi:TI)(g:TG)(tc:TT)(te:TE):TE:=λY H Q=>wi Y H λJ H1=>
 ∃W:Nat->Nat->P4 V->L2.St->Hp->Prop,(∃n,W 0 n [] (gE (own.map λ_=>none) ix Y) H1)/\∀i n ys τ H,W i n ys τ H ->
  (J.stop i H/\∀p,H p=none->Q (.ref p) (upd H p (.lst ys))) \/
  (J.go i H/\ys.length<sizeLine/\∀x H',J.yld i H x H'->g x τ H' λτ2 H2=>tc τ2 H2 λb H3=>if b=true then te τ2 H3 λy H4=>∃n',n'<n/\W (i+1) n' (ys++[y]) τ2 H4 else ∃n',n'<n/\W (i+1) n' ys τ2 H3)
theorem j4:∀(names:P4 (Str×NameKind)) (k:Nat) (acc:P4 (Str×A3)),cellsFrom k names acc=cellsFrom k names []++acc
 |[],_,_=>rfl
 |(x,d)::r,k,acc=>by
  unfold cellsFrom;split
  ·rw[j4 r (k+1) ((x,k)::acc),j4 r (k+1) [(x,k)],Bf];rfl
  ·exact j4 r k acc
theorem pv {x:Str}{c:A3}:∀(names:P4 (Str×NameKind)) (k:Nat) (acc:P4 (Str×A3)),(x,c)∈cellsFrom k names acc->(x,c)∈acc\/(x,NameKind.cell)∈names
 |[],_,_,h=>.inl h
 |(y,d)::r,k,acc,h=>by
  unfold cellsFrom at h;split at h
  ·rename_i hk;rcases pv r (k+1) _ h with h|h
   ·rcases Ax.mp h with e|e
    ·cases e;rw[←eq_of_beq hk];exact .inr BG
    ·exact .inl e
   ·exact .inr (BR _ h)
  ·exact(pv r k acc h).imp id (BR _)
theorem iG {x:Str}:∀(a b:P4 (Str×A3)),(a++b).lookup x=(a.lookup x).or (b.lookup x)
 |[],_=>rfl
 |(y,c)::a,b=>by
  rw[HP,Dj,Dj];split
  ·rfl
  ·exact iG a b
def zm {X:Cx}{s₂ s₃:A1}{H₂:Hp}{E:Tb}{scope:Scope}{own caps:Tn}{cl:P4 (Str×A3)}{Q:Env->A1->Prop}(I:ay X Qa Y H₂ s₂)(n:aG X.env.scope scope own caps)(hs:s₂.heap.objs.size<s₃.heap.objs.size)
  (Ck:∀x c,cl.lookup x=some c->X.env.cells.lookup x=some c) (DF:∀y∈scope.names,y.2=.free->∃c,cl.lookup y.1=some c)
  (hQ:∀(h₁:AD) (cl':P4 (Str×A3)) (m:Td),(∀b o,s₃.heap.get? b=some o->h₁.get? b=some o)->h₁.Ns s₃.heap.objs.size m->MH X scope s₂.heap.objs.size cl'->(∀x c,cl'.lookup x=some c->s₂.heap.objs.size<c->h₁.IsCell c none) ->
   Q {compEnvC scope cl' s₃.heap.objs.size X.env with scope:=scope} {s₃ with heap:=h₁}) :
  wpAny (model X.prog X.w) X.A (newFunctionEnv scope X.env.globals cl [] X.env.qual none .none (some X.env)) Q E s₃:=by
 rwa[newFunctionEnv,zci,if_true];refine AA (wpAny_alloc ?_);refine AA (wpAny_layCells _ (λname kind cells=>by cases hkc:kind == NameKind.cell <;> simp[hkc]) _ _ _ _ ?_);have ok:=cellsFrom_ok scope.names (s₃.heap.push {cls:=.type "dict",data:=.dict #[]}) (s₃.heap.objs.size+1) [] {λ_ _ hm=>(nomatch hm),List.Pairwise.nil} (by rw[DZ];exact Ao _);have e1:=j4 scope.names (s₃.heap.push {cls:=.type "dict",data:=.dict #[]}).objs.size cl;refine AJ (hQ _ _ _ (λb o e=>pushCells_keeps _ _ b o (Am _ e)) ((Heap.Ns.new s₃.heap (.type "dict")).keeps (pushCells_keeps _ _)) ?_ ?_)
 all_goals
  rw[e1];generalize E2:cellsFrom (s₃.heap.push {cls:=.type "dict",data:=.dict #[]}).objs.size scope.names []=Ozz at ok e1;have own:∀{x c},Ozz.lookup x=some c->(pushCells (s₃.heap.push {cls:=.type "dict",data:=.dict #[]}) scope.names).IsCell c none/\s₂.heap.objs.size<c:=λ{x c} h=>{(ok.empty x c (PySem.mem_of_lookup h)).1,zb1 hs (ok.empty x c (PySem.mem_of_lookup h)).2}
  have ol:∀{x c},cl.lookup x=some c->c<s₂.heap.objs.size:=λ{x c} h=>by
   let⟨v,o,q,_⟩:=I.cell x c (Ck x c h);exact Av q
  have spl:∀{x c},(Ozz++cl).lookup x=some c->Ozz.lookup x=some c\/(Ozz.lookup x=none/\cl.lookup x=some c):=λ{x c} h=>by
   rw[iG] at h
   cases q:Ozz.lookup x with
   |none=>rw[q] at h;exact .inr {rfl,h}
   |some d=>rw[q] at h;exact .inl h
 ·refine{λx c h=>?_,λx y c h1 h2=>?_,λy hy hk=>?_,λy hy=>?_}
  ·rcases spl h with h|⟨h1,h2⟩
   ·exact .inr (own h).2
   ·refine .inl {Ck x c h2,λz=>?_}
    have:=zbW scope.names (s₃.heap.push {cls:=.type "dict",data:=.dict #[]}).objs.size [] (.inl z);rw[E2,h1] at this;cases this
  ·rcases spl h1 with h1|⟨_,h1⟩ <;> rcases spl h2 with h2|⟨_,h2⟩
   ·exact PySem.name_of_addr ok.apart (PySem.mem_of_lookup h1) (PySem.mem_of_lookup h2)
   ·exact AH (zb1 (own h1).2 (ol h2)) (CM _)
   ·exact AH (zb1 (own h2).2 (ol h1)) (CM _)
   ·exact I.ok.inj x y c (Ck x c h1) (Ck y c h2)
  ·rw[iG]
   cases q:Ozz.lookup y.1 with
   |some d=>exact{d,rfl}
   |none=>
    rcases hk with hk|hk
    ·exact DF y hy hk
    ·have:=zbW scope.names (s₃.heap.push {cls:=.type "dict",data:=.dict #[]}).objs.size [] (.inl (n.cell y hy hk))
     rw[E2,q] at this;cases this
  ·let⟨c,hc⟩:=DF _ (oQ hy) rfl
   refine{c,?_,Ck y c hc};rw[iG]
   cases q:Ozz.lookup y with
   |none=>exact hc
   |some d=>
    rw[←E2] at q;rcases pv _ _ _ (PySem.mem_of_lookup q) with z|z
    ·cases z
    ·have:=n.cell _ z rfl
     rw[hy] at this;cases this
 ·intro x c h hc
  rcases spl h with h|⟨_,h⟩
  ·exact(own h).1
  ·exact AH (zb1 hc (ol h)) (CM _)
def qI {X:Cx}{Qa:Tc}{Y:L2.St}{s₂:A1}{H₂:Hp}{E:Tb}{elt tg iter:AU}{ifs:Tj}{scope:Scope}{pos:Pos}{own caps:Tn}{ix:P4 Nat}{g:TG}{tc:TT}{te:TE}{Q:VK}{cl:P4 (Str×A3)}
  {it:A3} {fp:Tf} {tn:Nat->AD->Prop} {J:It} {RR:A2->A3->Result->A1->Prop}
  (hc:X.calm=true) (I:ay X Qa Y H₂ s₂) (T:wo X.prog X.w X.K tg J fp it tn) (st:tn 0 s₂.heap) (hf:∀b∈fp,lV X Qa H₂ b) (n:aG X.env.scope scope own caps)
  (Ck:∀x c,cl.lookup x=some c->X.env.cells.lookup x=some c) (DF:∀y∈scope.names,y.2=.free->∃c,cl.lookup y.1=some c)
  (CD:ix.length=caps.length) (DR:∀(j i:Nat) y,ix[j]?=some i->caps[j]?=some y->X.N[i]?=some y)
  (hg:∀cl C,PG (aF X scope cl C s₂ H₂ fp (own++caps)) tg g) (ht:∀cl C,mL (aF X scope cl C s₂ H₂ fp (own++caps)) ifs tc) (he:∀cl C,PE (aF X scope cl C s₂ H₂ fp (own++caps)) elt te)
  (W:Nat->Nat->P4 V->L2.St->Hp->Prop) (hW0:∃n,W 0 n [] (gE (own.map λ_=>none) ix Y) H₂)
  (hW:∀i n ys τ H,W i n ys τ H->(J.stop i H/\∀p,H p=none->Q (.ref p) (upd H p (.lst ys))) \/
   (J.go i H/\ys.length<sizeLine/\∀x H',J.yld i H x H'->g x τ H' λτ2 H2=>tc τ2 H2 λb H3=>if b=true then te τ2 H3 λy H4=>∃n',n'<n/\W (i+1) n' (ys++[y]) τ2 H4 else ∃n',n'<n/\W (i+1) n' ys τ2 H3))
  (hRR:∀(D C:A3) (s':A1) m H' ys,s'.heap.Ns C m->ay X Qa Y (upd H' D (.lst ys)) s'->lV X Qa (upd H' D (.lst ys)) C->Q (.ref D) (upd H' D (.lst ys))->RR (.ref D) C (.ok .next) s') :
  wpAny (model X.prog X.w) X.A (newList []) (λacc s₃=>wpAny (model X.prog X.w) X.A (newFunctionEnv scope X.env.globals cl [] X.env.qual none .none (some X.env)) (λcenv s₄=>
   codeAny (model X.prog X.w) X.A (.compStart (.ListComp elt [{tg,iter,ifs,0}] scope pos) 0 (.ref it) acc {cenv with scope:=relabel scope X.env}) (RR acc cenv.locals) s₄) E s₃) E s₂:=by
 refine Cu (zm (s₂:=s₂) I n (by show s₂.heap.objs.size<(s₂.heap.push _).objs.size;rw[DZ];exact zbO _) Ck DF λh₁ cl m₁ kp1 HI B IG=>?_);dsimp only at HI kp1 ⊢;generalize hH2:s₂.heap.push {cls:=.type "list",dict:=none,data:=.seq ([]:Te).toArray}=H2 at HI kp1 ⊢
 have hC:H2.objs.size=s₂.heap.objs.size+1:=by rw[←hH2,DZ]
 have below:∀b,b<s₂.heap.objs.size->b≠H2.objs.size/\b≠s₂.heap.objs.size:=λb hb=>{by rw[hC];exact BE (zbB hb),BE hb}
 have hDC:s₂.heap.objs.size≠H2.objs.size:=by rw[hC];exact BE (zbO _)
 have old:∀b o,s₂.heap.get? b=some o->h₁.get? b=some o:=λb o e=>kp1 b o (hH2 ▸ Am _ e);have DG:h₁.get? s₂.heap.objs.size=some {cls:=.type "list",data:=.seq ([]:Te).toArray}:=kp1 _ _ (hH2 ▸ BI _ rfl)
 have HN:∀b∈fp,b<s₂.heap.objs.size:=λb hb=>by let⟨o,e,_⟩:=T.obj _ _ st b hb;exact Av e
 have Im:s₂.heap.objs.size<=H2.objs.size:=by rw[hC];exact HA _
 have hfC:∀b∈fp,b<H2.objs.size:=λb hb=>Bi (HN b hb) Im;have st₁:tn 0 h₁:=T.keep 0 _ _ st λb _ o e=>old b o e;have I₀:=uL (tk:=s₂.toks) I n B Im HN hf IG CD DR old HI;clear HI kp1
 have cellD:∀x c,cl.lookup x=some c->c≠s₂.heap.objs.size:=λx c e=>by
  rcases B.src x c e with⟨z,_⟩|z
  ·let⟨v,o,q,_⟩:=I.cell x c z;exact BE (Av q)
  ·exact Ne.symm (BE z)
 have stkD:∀b∈y0 X.stack,b<s₂.heap.objs.size:=λb hb=>by
  rcases Ax.mp (I.stkSub b hb) with e|e
  ·rw[e];exact I.lt
  ·let⟨_,o,q,_⟩:=I.funs.mem e;exact Av q
 have fpok:∀{ps:Tc} {H:Hp},(∀b∈fp,H b=none)->(∀p∈ps,p.1∉fp)->∀b∈fp,lV (aF X scope cl H2.objs.size s₂ H₂ fp (own++caps)) ps H b:=λ{ps H} hn hp b hb=>
  {hn b hb,BE (hfC b hb),λz=>by
   rcases Ax.mp (I.stkSub b z) with e|e
   ·exact(hf b hb).2.1 e
   ·exact(hf b hb).2.2.1 e,.inl hb,λx c e=>B.ne (hf b hb) (HN b hb) e,λp hp' z=>hp p (by simpa[aF] using hp') (z ▸ hb)}
 have Dfp:s₂.heap.objs.size∉fp:=λz=>CM _ (HN _ z)
 have pinD:∀{H:Hp} {h:AD} {its:Te} {k:Nat},H s₂.heap.objs.size=none->h.get? s₂.heap.objs.size=some {cls:=.type "list",data:=.seq its.toArray k} ->
   ∀p∈[((s₂.heap.objs.size,{cls:=.type "list",data:=.seq its.toArray k}):A3×As)],h.get? p.1=some p.2/\H p.1=none/\p.1≠H2.objs.size/\p.1∉y0 X.stack/\∀v,p.2.data≠.cell v:=λ{H h its k} hn e p hp=>by
  rw[Bg.mp hp];exact{e,hn,hDC,λz=>CM _ (stkD _ z),λv z=>by cases z}
 have eK:∀s₃:A1,s₃={s₂ with heap:=h₁} ->
   codeAny (model X.prog X.w) X.A (.compLoop (.ListComp elt [{tg,iter,ifs,0}] scope pos) 0 (.ref it) (.ref s₂.heap.objs.size) (compEnvC scope cl H2.objs.size X.env)) (RR (.ref s₂.heap.objs.size) H2.objs.size) s₃:=by
  rintro s₃ rfl;let⟨n0,hW0⟩:=hW0
  refine uG (λn s'=>∃i ys its k τ H,ay (aF X scope cl H2.objs.size s₂ H₂ fp (own++caps)) [(s₂.heap.objs.size,{cls:=.type "list",data:=.seq its.toArray k})] τ H s'/\tn i s'.heap/\(∀b∈fp,H b=none)/\aS ys its/\ys.length<=sizeLine/\W i n ys τ H) ?_ n0
   {0,[],[],0,_,H₂,I₀.pins_of (pinD (I.hok.fresh (Ao _)) DG),st₁,λb hb=>(hf b hb).1,.nil,DH _,hW0}
  rintro n s3 ⟨i,ys,its,k,τ,H,I3,st3,fr3,rv,hz,w3⟩;have hD3:=I3.pin _ (Cv _ BG)
  have pfp:∀p∈[((s₂.heap.objs.size,{cls:=.type "list",data:=.seq its.toArray k}):A3×As)],p.1∉fp:=λp hp=>by rw[Bg.mp hp];exact Dfp
  rcases hW i n ys τ H w3 with⟨stop,q⟩|⟨go,Al,step⟩
  ·refine cV (T.done (aF X scope cl H2.objs.size s₂ H₂ fp (own++caps)) rfl rfl rfl hc i _ s3 τ H (λ_ _=>False) I3 (fpok fr3 pfp) st3 stop) λr s4 hh=>?_
   let⟨hr,I4⟩:=hh;subst hr;have hD4:=I4.pin _ (Cv _ BG);let⟨m,hm,_⟩:=id I4.loc;have IX:ay X Qa Y H s4:=I.call' (ch:=fp) I4.os I4.base I4.hok I4.bare λb hb=>{(hf b hb).2.2.2.1,(hf b hb).2.1,(hf b hb).2.2.2.2};have fD:lV X Qa H s₂.heap.objs.size:=I.fpOk (Ao _) hD4.2.1;have IY:=ay.adopt (o:=.lst ys) IX fD I.sz {hz,its,k,rv,hD4.1};exact hRR _ _ s4 m H ys hm IY (I.fpOk Im (by rw[L2.aq (Ne.symm hDC)];exact I4.free)) (q _ hD4.2.1)
  ·refine cV (T.item (aF X scope cl H2.objs.size s₂ H₂ fp (own++caps)) rfl rfl rfl hc i _ s3 τ H (λ_ _=>False) I3 (fpok fr3 pfp) st3 go) λr s4 hh=>?_
   let⟨u,hr,h4⟩:=hh;subst hr;refine cV h4 λ_ s5 hh=>?_;let⟨x,H5,I5,r5,y5,HC,fr5⟩:=hh;have I5':=I5.pinned (fpok fr5 pfp) (T.obj _ _ HC);refine cV (hg _ _ _ s5 τ H5 x u _ I5' r5 (step x H5 y5)) λ_ s6 hh=>?_;let⟨Y6,H6,I6,q6⟩:=hh;refine cV (ht _ _ _ s6 Y6 H6 _ I6 q6) λok s7 hh=>?_;let⟨H7,I7,q7⟩:=hh;have memD:∀p∈kN fp s5.heap,p.1≠s₂.heap.objs.size:=λp hp z=>Dfp (z ▸ (qm hp).1)
   cases ok with
   |true=>
    refine cV (he _ _ _ s7 Y6 H7 _ I7 q7) λu8 s8 hh=>?_;let⟨y,H8,I8,r8,n',IQ,w8⟩:=hh;have hD8:=I8.pin (s₂.heap.objs.size,_) (Cv _ (zb4 _ BG));refine append_at (hsz:=by rw[Ba,←rv.length];exact hz) hD8.1 λh9 sb hD9=>?_;have I8':ay (aF X scope cl H2.objs.size s₂ H₂ fp (own++caps)) (kN fp s5.heap) Y6 H8 s8:=I8.pins_of λp hp=>I8.pin p (Cv _ (Cv _ hp))
    have I9:ay (aF X scope cl H2.objs.size s₂ H₂ fp (own++caps)) (kN fp s5.heap) Y6 H8 {s8 with heap:=h9}:=I8'.turned (t':=s8.toks) (it:=s₂.heap.objs.size) (λb o hb e=>sb.extBut b o hb e) hD8.2.1 hDC (.inr (Ao _))
     cellD λp hp=>memD p (by simpa[aF] using hp)
    have e9:(its.toArray.push u8)=(its++[u8]).toArray:=by simp
    rw[e9] at hD9;refine{n',IQ,i+1,ys++[y],its++[u8],k+1,Y6,H8,I9.pins_of (pinD hD8.2.1 hD9),T.keep _ _ _ HC λb hb o e=>(I9.pin (b,o) (Cv _ (eJ hb e))).1,λb hb=>?_,rv.append (.cons r8 .nil),by rw[Bb];exact Al,w8};let⟨o,e,d⟩:=T.obj _ _ HC b hb;exact(I9.pin (b,o) (Cv _ (eJ hb e))).2.1
   |false=>
    let⟨n',IQ,w8⟩:=q7;have hD7:=I7.pin (s₂.heap.objs.size,_) (Cv _ (zb4 _ BG));refine{n',IQ,i+1,ys,its,k,Y6,H7,I7.pins_of (pinD hD7.2.1 hD7.1),T.keep _ _ _ HC λb hb o e=>(I7.pin (b,o) (Cv _ (Cv _ (eJ hb e)))).1,λb hb=>?_,rv,hz,w8};let⟨o,e,d⟩:=T.obj _ _ HC b hb;exact(I7.pin (b,o) (Cv _ (Cv _ (eJ hb e)))).2.1
 exact codeAny_compStart_list (eK _ rfl) (T.self _ 0 _ _ _ st₁ (eK _ rfl))
def tS {X:Cx}{elt tg iter:AU}{ifs:Tj}{scope:Scope}{pos:Pos}{own caps:Tn}{ix:P4 Nat}{wi:TI}{g:TG}{tc:TT}{te:TE}(hc:X.calm=true)(n:aG X.env.scope scope own caps)
  (CD:ix.length=caps.length) (DR:∀(j i:Nat) y,ix[j]?=some i->caps[j]?=some y->X.N[i]?=some y) (hi:PI X tg iter wi)
  (hb:∀cl C s₂ H₂ fp,PG (aF X scope cl C s₂ H₂ fp (own++caps)) tg g/\mL (aF X scope cl C s₂ H₂ fp (own++caps)) ifs tc/\PE (aF X scope cl C s₂ H₂ fp (own++caps)) elt te)
  (hs:∀x,foldedSetIterable iter X.env x=pure x:=by intro _;rfl):PE X (.ListComp elt [{tg,iter,ifs,0}] scope pos) (wN ix own wi g tc te):=by
 intro Qa s Y H Q I h;let⟨cl,Ed,Ck,DF⟩:=pq (env:=X.env) (scope:=scope) λy hy hf=>I.ok.has y.1 (n.free y hy hf);rw[eval_ListComp];refine wpAny_comprehension_free (use:=none) rfl hs Ed n.kind n.loc (cV (hi Qa s Y H _ I h) λv s1 h1=>cV h1 λitv s2 h2=>?_);let⟨it,fp,tn,J,H2,e,I2,T,st2,f2,W,w0,turn⟩:=h2;subst e;refine qI (RR:=λacc C=>compPost (model X.prog X.w) X.A X.xe none (EP X Qa Y Q) acc C) hc I2 T st2 f2 n Ck DF CD DR (λcl C=>(hb cl C s2 H2 fp).1) (λcl C=>(hb cl C s2 H2 fp).2.1) (λcl C=>(hb cl C s2 H2 fp).2.2) W w0 turn ?_;intro D C s' m H' ys hm IY fC q;refine{m,hm,λh' sb=>{.ref D,_,IY.turned (t':=s'.toks) (it:=C) (λb o hb e=>sb.extBut b o hb e) fC.1 fC.2.1 fC.2.2.2.1 fC.2.2.2.2.1 fC.2.2.2.2.2,rfl,q}}
def JAh {X:Cx}{elt tg iter:AU}{ifs:Tj}{scope:Scope}{pos D6 py:Pos}{own caps:Tn}{ix:P4 Nat}{wi:TI}{g:TG}{tc:TT}{te:TE}{i:Nat}{y:Str}(hc:X.calm=true)(n:aG X.env.scope scope own caps)
  (hN:X.N.Nodup) (hy:X.N[i]?=some y) (Hk:E7 X.env.scope y)
  (CD:ix.length=caps.length) (DR:∀(j i:Nat) y,ix[j]?=some i->caps[j]?=some y->X.N[i]?=some y) (hi:PI X tg iter wi)
  (hb:∀cl C s₂ H₂ fp,PG (aF X scope cl C s₂ H₂ fp (own++caps)) tg g/\mL (aF X scope cl C s₂ H₂ fp (own++caps)) ifs tc/\PE (aF X scope cl C s₂ H₂ fp (own++caps)) elt te)
  (hsw:swapsWith (.ListComp elt [{tg,iter,ifs,0}] scope pos) (some (.Name y py)) D6.line X.env=pure true)
  (hs:∀x,foldedSetIterable iter X.env x=pure x:=by intro _;rfl) (hf:X.fn y=true\/X.env.scope.names.lookup y=some .local:=by first|exact .inl rfl|exact .inr rfl|assumption) :
  PS X (.Assign [.Name y py] (.ListComp elt [{tg,iter,ifs,0}] scope pos) D6) (z9 (wN ix own wi g tc te) (qu i)):=by
 intro Qa s Y H Zz I h;let⟨cl,Ed,Ck,DF⟩:=pq (env:=X.env) (scope:=scope) λy hy hf=>I.ok.has y.1 (n.free y hy hf);rw[exec_Assign_Name_used _ _ _ _ hsw];refine AA (wpAny_standAt (AA ?_))
 show wpAny _ X.A (do let _ ←comprehension (.ListComp elt [{tg,iter,ifs,0}] scope pos) scope X.env _ (newList []) false (eval iter X.env) (some (assign (.Name y py) X.env))) _ _ s
 refine AA (DV (wpAny_comprehension_free (use:=some (assign (.Name y py) X.env)) (Q:=λ_ s'=>SP X Qa Zz .next s') rfl hs Ed n.kind n.loc (cV (hi Qa s Y H _ I h) λv s1 h1=>cV h1 λitv s2 h2=>?_)) (λ_ s' hq=>AJ (AJ hq)) λ_ _ e=>e);let⟨it,fp,tn,J,H2,e,I2,T,st2,f2,W,w0,turn⟩:=h2;subst e;refine qI (Q:=λx H1=>qu i x Y H1 Zz.nx) (RR:=λacc C=>compPost (model X.prog X.w) X.A X.xe (some (assign (.Name y py) X.env)) (λ_ s'=>SP X Qa Zz .next s') acc C) hc I2 T st2 f2 n Ck DF CD DR (λcl C=>(hb cl C s2 H2 fp).1) (λcl C=>(hb cl C s2 H2 fp).2.1) (λcl C=>(hb cl C s2 H2 fp).2.2) W w0 turn ?_;intro D C s' m H' ys hm IY fC q
 show wpAny _ X.A (assign (.Name y py) X.env (.ref D)) _ _ _
 refine wpAny_assign_Name (p8 (v:=.ref D) IY hN hy Hk rfl (λHF IZ hh=>?_) hf);let⟨a,sa,ha⟩:=hh
 have nC:C≠a:=by
  rcases ha with ha|ha
  ·rw[ha];exact fC.2.1
  ·exact Ne.symm (fC.2.2.2.2.1 _ _ ha)
 refine{m,hm.sameBut sa nC,λh' sb=>{_,_,IZ.turned (t':=HF.toks) (it:=C) (λb o hb e=>sb.extBut b o hb e) fC.1 fC.2.1 fC.2.2.2.1 fC.2.2.2.2.1 fC.2.2.2.2.2,q}}
section
variable {K:AP}{m:Tf}{Y:L2.St}{H:Hp}{U:ac}
def JF4 {B:A7->Hp->Prop}(h:gX K c8 Y H B):KC Y H B:=by let⟨O,U,m,d,U',hl,hs,e,k⟩:=h;cases e;exact k H m .refl hs
def zj {O:Lo}{k:Nat}{ix:P4 Nat}{own:Tn}(hk:own.length=k)(h:dX K m H O Y):dX K m H (ca k ix O) (gE (own.map λ_=>none) ix Y):=by
 subst hk;unfold ca gE;refine{by simp,λi d e=>?_};by_cases hi:i<own.length
 ·rw[BY ‹hi›,zbR] at e;split at e <;> cases e
 ·rw[DO ‹hi›] at e;rw[DO ‹hi›];rwa[List.length_replicate,Ay] at e ⊢;generalize i-own.length=j at e ⊢;rw[Bh] at e ⊢
  cases q:ix[j]? with
  |none=>rw[q] at e;cases e
  |some i'=>
   rw[q] at e;have e3:(O[i']?).join=some d:=Option.some.inj e;have e4:O[i']?=some (some d):=by
    cases z:O[i']? with
    |none=>rw[z] at e3;cases e3
    |some w'=>rw[z] at e3;cases w' with
     |none=>cases e3
     |some _=>cases e3;rfl
   let⟨v,q1,q2⟩:=h.2 i' d e4;exact{v,by simp[q1],q2}
end
mutual
noncomputable def lm:D->PyData
 |.non=>.none
 |.bl b=>.bool b
 |.int i=>.int i
 |.str x=>.str x
 |.tup xs=>.tuple (toPys xs)
 |.fl xs=>.list (toPys xs)
 |.fd _ _=>.none
 |.key _=>.none
noncomputable def toPys:P4 D->P4 PyData
 |[]=>[]
 |x::xs=>lm x::toPys xs
end
mutual
noncomputable def dQ:Nat->D->A7
 |_,.non=>true
 |_,.bl _=>true
 |_,.int _=>true
 |_,.str x=>PyData.strOk x
 |_,.fd _ _=>false
 |_,.key _=>false
 |0,.tup _=>false
 |0,.fl _=>false
 |n+1,.tup xs=>okDs n xs
 |n+1,.fl xs=>okDs n xs
noncomputable def okDs:Nat->P4 D->A7
 |_,[]=>true
 |n,x::xs=>dQ n x&&okDs n xs
end
mutual
noncomputable def jh:D->D->A7
 |.bl a,y=>match y with|.bl b=>a == b|.int j=>(if a then 1 else 0) == j|_=>false
 |.int i,y=>match y with|.bl b=>i == (if b then 1 else 0)|.int j=>i == j|_=>false
 |.str x,y=>match y with|.str z=>x == z|_=>false
 |.tup xs,y=>match y with|.tup ys=>eqDs xs ys|_=>false
 |.fl xs,y=>match y with|.fl ys=>eqDs xs ys|_=>false
 |_,y=>match y with|.non=>true|.fd _ _=>true|.key _=>true|_=>false
noncomputable def eqDs:P4 D->P4 D->A7
 |[],[]=>true
 |x::xs,y::ys=>jh x y&&eqDs xs ys
 |_,_=>false
end
theorem nN (xs ys:P4 D):jh (.tup xs) (.tup ys)=eqDs xs ys:=rfl
theorem wa (xs ys:P4 D):jh (.fl xs) (.fl ys)=eqDs xs ys:=rfl
theorem wb (a b:A7):jh (.bl a) (.bl b)=(a == b):=rfl
theorem si (i j:Int):jh (.int i) (.int j)=(i == j):=rfl
theorem eu:eqDs [] []=true:=rfl
theorem cp (x y:D)(xs ys:P4 D):eqDs (x::xs) (y::ys)=(jh x y&&eqDs xs ys):=rfl
theorem fO (y:D)(ys:P4 D):eqDs [] (y::ys)=false:=rfl
theorem fP (y:D)(ys:P4 D):eqDs (y::ys) []=false:=rfl
mutual
theorem sg:∀a b:D,PyData.eqv (lm a) (lm b)=jh a b
 |.non,b=>by cases b <;> rfl
 |.bl _,b=>by cases b <;> rfl
 |.int _,b=>by cases b <;> rfl
 |.str _,b=>by cases b <;> rfl
 |.tup xs,b=>by
  cases b with
  |tup ys=>exact eqDs_py xs ys
  |_=>rfl
 |.fl xs,b=>by
  cases b with
  |fl ys=>exact eqDs_py xs ys
  |_=>rfl
 |.fd _ _,b=>by cases b <;> rfl
 |.key _,b=>by cases b <;> rfl
theorem eqDs_py:∀a b:P4 D,PyData.eqvAll (toPys a) (toPys b)=eqDs a b
 |[],b=>by cases b <;> rfl
 |x::xs,b=>by
  cases b with
  |nil=>rfl
  |cons y ys=>rw[cp,←sg x y,←eqDs_py xs ys];rfl
end
mutual
theorem Bs:∀(n:Nat) (d:D),dQ n d=true->(lm d).canLay0=true/\(lm d).depth<=n
 |_,.non,_=>by simp[lm,PyData.canLay0,PyData.depth]
 |_,.bl _,_=>by simp[lm,PyData.canLay0,PyData.depth]
 |_,.int _,_=>by simp[lm,PyData.canLay0,PyData.depth]
 |n,.str x,h=>by
  have h:PyData.strOk x=true:=by cases n <;> simpa[dQ] using h
  simp[lm,PyData.canLay0,PyData.depth,h]
 |n,.fd _ _,h=>by cases n <;> simp[dQ] at h
 |n,.key _,h=>by cases n <;> simp[dQ] at h
 |0,.tup _,h=>by simp[dQ] at h
 |0,.fl _,h=>by simp[dQ] at h
 |n+1,.tup xs,h=>by let⟨a,b⟩:=okDs_py n xs (by simpa[dQ] using h);rwa[lm,PyData.canLay0,PyData.depth];exact{a,by omega}
 |n+1,.fl xs,h=>by let⟨a,b⟩:=okDs_py n xs (by simpa[dQ] using h);rwa[lm,PyData.canLay0,PyData.depth];exact{a,by omega}
theorem okDs_py:∀(n:Nat) (ds:P4 D),okDs n ds=true->PyData.canLayAll0 (toPys ds)=true/\PyData.depthAll (toPys ds)<=n
 |_,[],_=>by simp[toPys,PyData.canLayAll0,PyData.depthAll]
 |n,x::xs,h=>by
  have h':dQ n x=true/\okDs n xs=true:=by cases n <;> simpa[okDs] using h
  let⟨a1,b1⟩:=Bs n x h'.1;let⟨a2,b2⟩:=okDs_py n xs h'.2;rwa[toPys,PyData.canLayAll0,PyData.depthAll,a1,a2,Bool.and_self,true_and];omega
end
def fU {d:D}(h:dQ 60 d=true):SeqAt.shaped (lm d)=true:=by let⟨a,b⟩:=Bs 60 d h;unfold SeqAt.shaped;rw[a,Bool.true_and];exact Cn ∅
section
variable {X:Cx}{Qa:Tc}{Y:L2.St}{H:Hp}{s:A1}
mutual
theorem lA (I:ay X Qa Y H s):∀(k:Nat) (d:D) (v:V) (u:A2),dQ k d=true->ak X.K H d v->aT v u->∃as,Reads s.heap u (lm d) as
 |_,.non,v,u,_,h,r=>by rwa[ak] at h;subst h;cases r;exact{_,.none}
 |_,.bl b,v,u,_,h,r=>by rwa[ak] at h;subst h;cases r;exact{_,.bool b}
 |_,.int i,v,u,_,h,r=>by rwa[ak] at h;subst h;let⟨t,rfl⟩:=r;exact{_,.int i t}
 |_,.str x,v,u,_,h,r=>by rwa[ak] at h;subst h;let⟨t,rfl⟩:=r;exact{_,.str x t}
 |_,.fd _ _,v,u,hk,h,r=>by simp[dQ] at hk
 |_,.key _,v,u,hk,h,r=>by simp[dQ] at hk
 |0,.tup xs,v,u,hk,h,r=>by simp[dQ] at hk
 |0,.fl xs,v,u,hk,h,r=>by simp[dQ] at hk
 |k+1,.tup xs,v,u,hk,h,r=>by rwa[ak] at h;let⟨a,vs,rfl,q,h⟩:=h;cases r;let⟨its,rv,⟨o,e,c,n,hd⟩,_⟩:=I.tuple q;let⟨as,ra⟩:=readss_of I k xs vs its (by simpa[dQ] using hk) h rv;exact{_,.tuple e c hd ‹ra›}
 |k+1,.fl xs,v,u,hk,h,r=>by rwa[ak] at h;let⟨a,vs,rfl,q,h⟩:=h;cases r;let⟨its,rv,⟨o,n,e,c,_,hd⟩,_⟩:=I.list q.sq;let⟨as,ra⟩:=readss_of I k xs vs its (by simpa[dQ] using hk) h rv;exact{_,.list e c hd ‹ra›}
theorem readss_of (I:ay X Qa Y H s):∀(k:Nat) (ds:P4 D) (vs:P4 V) (us:Te),okDs k ds=true->RelDs X.K H ds vs->aS vs us->∃as,ReadsAll s.heap us (toPys ds) as
 |_,[],vs,us,_,h,r=>by rwa[RelDs] at h;subst h;cases r;exact{_,.nil}
 |k,d::ds,vs,us,hk,h,r=>by
  have hk:dQ k d=true/\okDs k ds=true:=by cases k <;> simpa[okDs] using hk
  rwa[RelDs] at h;let⟨v,vr,rfl,h1,h2⟩:=h
  cases r with
  |cons r1 r2=>
   let⟨as,q1⟩:=lA I k d v _ hk.1 h1 r1;let⟨bs,q2⟩:=readss_of I k ds vr _ hk.2 h2 r2;exact{_,.cons q1 q2}
end
end
noncomputable def kq:R->ac->QI D
 |.v d,_=>some d
 |.p n,U=>match U[n]? with|some (.lst xs)=>some (.fl xs)|some (.fz xs)=>some (.fl xs)|_=>none
 |_,_=>none
noncomputable def jg (neg:A7):R->R->ac->QI (R×ac):=λx y U=>(kq x U).bind λa=>(kq y U).bind λb=>if (dQ 60 a&&dQ 60 b)=true then some (.v (.bl (if neg then !jh a b else jh a b)),U) else none
def DD (K:AP)(neg:A7):R2:=λv u H Q=>∃m U x y d,aJ K m H U/\av K m H x v/\av K m H y u/\jg neg x y U=some (.v (.bl d),U)/\Q (.bl d) H
def Et {neg:A7}:pB K (jg neg) (DD K neg):=by
 intro m H U x y d U' v u Q s rx ry e k;have e0:=e;unfold jg at e;let⟨a,e1,e⟩:=AY.mp e;let⟨b,e2,e⟩:=AY.mp e;split at e
 ·cases e;exact{m,U,x,y,_,s,rx,ry,e0,k _ H m .refl s (by rwa[av,ak])}
 ·cases e
theorem iq {X:Cx}{H:Hp}{s:A1}{m:Tf}{U:ac}{x:R}{d:D}{v:V}{u:A2}(I:ay X Qa Y H s)(S:aJ X.K m H U)(r:av X.K m H x v)(ru:aT v u)(e:kq x U=some d)(hk:dQ 60 d=true):∃as,Reads s.heap u (lm d) as:=by
 cases x with
 |v d'=>cases e;exact lA I 60 _ _ _ hk r ru
 |s _ _=>cases e
 |x _=>cases e
 |f _ _=>cases e
 |p n=>
  have hl:∃xs,d=.fl xs/\j9 (.p n) U=some xs:=by
   rwa[kq] at e;split at e
   ·rename_i xs q;cases e;exact{xs,rfl,by simp[j9,q]}
   ·rename_i xs q;cases e;exact{xs,rfl,by simp[j9,q]}
   ·cases e
  let⟨xs,rfl,e2⟩:=hl;let⟨a,vs,rfl,q,rr⟩:=iF S r e2;cases ru;let⟨its,rv,⟨o,n',e,c,_,hd⟩,_⟩:=I.list q;let⟨as,ra⟩:=readss_of I 59 xs vs its (by simpa[dQ] using hk) rr rv;exact{_,.list e c hd ‹ra›}
def vE {X:Cx}(hu:X.A.units+64<cLine):jO X (compareOp .Eq) (DD X.K false):=by
 intro Qa s Y H v u v' u' Q I rv ru q;let⟨m,U,x,y,d,S,rx,ry,e,q⟩:=q;unfold jg at e;let⟨a,e1,e⟩:=AY.mp e;let⟨b,e2,e⟩:=AY.mp e;split at e
 ·rename_i z;rw[EF] at z;cases e;let⟨as,r1⟩:=iq I S rx rv e1 z.1;let⟨bs,r2⟩:=iq I S ry ru e2 z.2;exact eq_dataH r1 r2 (fU z.1) (fU z.2) hu {_,H,I,by rw[sg];rfl,q}
 ·cases e
def vD {X:Cx}(hu:X.A.units+64<cLine):jO X (compareOp .NotEq) (DD X.K true):=by
 intro Qa s Y H v u v' u' Q I rv ru q;let⟨m,U,x,y,d,S,rx,ry,e,q⟩:=q;unfold jg at e;let⟨a,e1,e⟩:=AY.mp e;let⟨b,e2,e⟩:=AY.mp e;split at e
 ·rename_i z;rw[EF] at z;cases e;let⟨as,r1⟩:=iq I S rx rv e1 z.1;let⟨bs,r2⟩:=iq I S ry ru e2 z.2;exact ne_dataH r1 r2 (fU z.1) (fU z.2) hu {_,H,I,by rw[sg];rfl,q}
 ·cases e
noncomputable def yR (neg:A7)(c:D):R->ac->QI (R×ac):=λx U=>match c,x with
 |.non,.v .non=>some (.v (.bl (!neg)),U)
 |.bl b,.v (.bl a)=>some (.v (.bl (if neg then !(a == b) else a == b)),U)
 |_,_=>some (.v (.bl neg),U)
def DC (neg:A7)(c:V):R2:=λx y H Q=>y=c/\Q (.bl (if neg then !decide (x=c) else decide (x=c))) H
section
variable {X:Cx}
def JBx:jO X (compareOp .Is) (DC false .non):=JGk
def tW:jO X (compareOp .IsNot) (DC true .non):=JDk
end
def Jk {m:Tf}{H:Hp}{neg:A7}{c:D}{cv v:V}{x d:R}{U U':ac}(hc:(c=.non/\cv=.non)\/∃b,c=.bl b/\cv=.bl b)(r:av K m H x v)(e:yR neg c x U=some (d,U')) :
  U'=U/\d=.v (.bl (if neg then !decide (v=cv) else decide (v=cv))):=by
 have fin:v≠cv->some (R.v (.bl neg),U)=some (d,U')->U'=U/\d=.v (.bl (if neg then !decide (v=cv) else decide (v=cv))):=λh e=>by
  cases e;cases neg <;> simp[h]
 have nn:∀d0,d0≠.non->ak K H d0 v->v≠.non:=λd0 h1 h2 z=>by
  subst z;cases d0 <;> rwa[ak] at h2 <;> first|exact h1 rfl|(let⟨_,_,_,h,_⟩:=h2;cases h;done)|(let⟨_,_,h,_⟩:=h2;cases h;done)|(let⟨_,h,_⟩:=h2;cases h;done)|cases h2
 have nb:∀d0 b,(∀a,d0≠.bl a)->ak K H d0 v->v≠.bl b:=λd0 b h1 h2 z=>by
  subst z;cases d0 <;> rwa[ak] at h2 <;> first|exact h1 _ rfl|(let⟨_,_,_,h,_⟩:=h2;cases h;done)|(let⟨_,_,h,_⟩:=h2;cases h;done)|(let⟨_,h,_⟩:=h2;cases h;done)|cases h2
 have np:∀n,av K m H (.p n) v->v≠.non/\∀b,v≠.bl b:=λn ⟨a,e,_⟩=>{λz=>(by rw[e] at z;cases z),λb z=>(by rw[e] at z;cases z)};have ns:∀b' n,av K m H (.s b' n) v->v≠.non/\∀b,v≠.bl b:=λb' n ⟨a,_,e,_⟩=>{λz=>(by rw[e] at z;cases z),λb z=>(by rw[e] at z;cases z)};have nx:∀c,av K m H (.x c) v->v≠.non/\∀b,v≠.bl b:=λc ⟨a,_,_,e,_⟩=>{λz=>(by rw[e] at z;cases z),λb z=>(by rw[e] at z;cases z)};have nf:∀L ds,av K m H (.f L ds) v->v≠.non/\∀b,v≠.bl b:=λL ds ⟨a,_,_,_,_,e,_⟩=>{λz=>(by rw[e] at z;cases z),λb z=>(by rw[e] at z;cases z)};rcases hc with⟨rfl,rfl⟩|⟨b,rfl,rfl⟩
 ·cases x with
  |v d0=>
   by_cases h0:d0=.non
   ·subst h0
    have r:v=.non:=by simpa only[av,ak] using r
    subst r;cases e;cases neg <;> simp
   ·have:=nn d0 h0 r
    cases d0 <;> first|exact AH rfl h0|exact fin this e
  |p n=>have:=(np n r).1;exact fin this e
  |s b' n=>have:=(ns b' n r).1;exact fin this e
  |x c=>have:=(nx c r).1;exact fin this e
  |f L ds=>have:=(nf L ds r).1;exact fin this e
 ·cases x with
  |v d0=>
   by_cases h0:∃a,d0=.bl a
   ·let⟨a,rfl⟩:=h0
    have r:v=.bl a:=by simpa only[av,ak] using r
    subst r;cases e;cases neg <;> cases a <;> cases b <;> simp
   ·have:=nb d0 b (λa z=>h0 {a,z}) r
    cases d0 <;> first|exact AH {_,rfl} h0|exact fin this e
  |p n=>have:=(np n r).2 b;exact fin this e
  |s b' n=>have:=(ns b' n r).2 b;exact fin this e
  |x c=>have:=(nx c r).2 b;exact fin this e
  |f L ds=>have:=(nf L ds r).2 b;exact fin this e
def K6 {H:Hp}{Q:VK}{fa:FE}{neg:A7}{c:D}{cv:V}(hc:(c=.non/\cv=.non)\/∃b,c=.bl b/\cv=.bl b)(h:ax K (uS (yR neg c) fa) Y H Q):G9 (DC neg cv) (ax K fa) (tC cv) Y H Q:=by let⟨O,U,m,d,U',hl,hs,e,k⟩:=h;let⟨⟨x,U1⟩,e1,e⟩:=AY.mp e;refine{O,U,m,x,U1,hl,hs,e1,λv H1 m1 x1 s1 r1=>{rfl,?_}};let⟨rfl,rfl⟩:=Jk hc r1 e;exact k _ H1 m1 x1 s1 (by rwa[av,ak])
def JAc (K:AP)(T:String):Prop:=∀t∈["NoneType","bool","int","str","tuple","list","dict"],PySem.W.kitOne K (.type t) (.type T)=some (t == T || (t == "bool" && T == "int"))
end HW
namespace HW
variable {K:AP}
open PyProof.Rows L2 HS
noncomputable def yT (x:Int):P4 Int->Th
 |[]=>[x]
 |y::ys=>if x<=y then x::y::ys else y::yT x ys
noncomputable def f9:P4 Int->Th
 |[]=>[]
 |x::xs=>yT x (f9 xs)
theorem my (x:Int):∀xs,(yT x xs).Perm (x::xs)
 |[]=>.refl _
 |y::ys=>by
  unfold yT;split
  ·exact .refl _
  ·exact((my x ys).cons y).trans (.swap _ _ _)
theorem dL:∀xs,(f9 xs).Perm xs
 |[]=>.refl _
 |x::xs=>(my x _).trans ((dL xs).cons x)
theorem mW (x:Int):∀{xs:Th},xs.Pairwise (·<=·)->(yT x xs).Pairwise (·<=·)
 |[],_=>zcn _ _
 |y::ys,h=>by
  unfold yT;let⟨h1,h2⟩:=DL.mp h;split
  ·rename_i hxy;refine DL.mpr {λz hz=>?_,h};rcases Ax.mp hz with rfl|hz
   ·exact hxy
   ·exact Int.le_trans hxy (h1 z hz)
  ·rename_i hxy;refine DL.mpr {λz hz=>?_,mW x h2};rcases Ax.mp ((my x ys).mem_iff.mp hz) with rfl|hz
   ·omega
   ·exact h1 z hz
theorem iI:∀xs,(f9 xs).Pairwise (·<=·)
 |[]=>.nil
 |x::xs=>mW x (iI xs)
theorem n6:∀{xs ys:Th},xs.Pairwise (·<=·)->ys.Pairwise (·<=·)->xs.Perm ys->xs=ys
 |[],ys,_,_,p=>(List.Perm.nil_eq p)
 |x::xs,[],_,_,p=>AH p.length_eq ∅
 |x::xs,y::ys,hx,hy,p=>by
  let⟨Hm,hx2⟩:=DL.mp hx;let⟨hy1,hy2⟩:=DL.mp hy;have e:x=y:=by
   have h1:x∈y::ys:=p.mem_iff.mp ∅;have h2:y∈x::xs:=p.mem_iff.mpr ∅;rcases Ax.mp h1 with h|h
   ·exact h
   ·rcases Ax.mp h2 with h'|h'
    ·exact h'.symm
    ·exact Int.le_antisymm (Hm y h') (hy1 x h)
  subst e;rw[n6 hx2 hy2 ((List.perm_cons _).mp p)]
def ug {xs ns:Th}(h:ns.Pairwise (·<=·))(p:ns.Perm xs):ns=f9 xs:=n6 h (iI xs) (p.trans (dL xs).symm)
theorem dP:∀{ns:Th} {its:Te},aS (ns.map V.int) its->IntsAre its ns
 |[],its,h=>by cases h;exact .nil
 |n::ns,its,h=>by
  cases h with
  |cons r t=>let⟨tk,rfl⟩:=r;exact .cons n tk (dP t)
theorem mx:∀{ns:Th} {its:Te},IntsAre its ns->aS (ns.map V.int) its
 |_,_,.nil=>.nil
 |_,_,.cons n t h=>.cons {t,rfl} (mx h)
abbrev eT (o:As):HO:=.frz o (.ext λ_=>True)
def NK (K:AP)(b:A7):P4 V->Hp->VK->Prop:=λvs H Q=>∃p ns,vs=[.ref p]/\gp K H p (ns.map V.int)/\ns.length<4000/\∀l o,H l=none->cR b o (aK [] ns)->Q (.ref l) (upd H l (eT o))
def zh {X:Cx}(hc:X.calm=true):ik X (.type "set") (NK X.K (!HS.bt X.w)):=by intro Qa s Y H vs us Q I r h;obtain⟨p,ns,rfl,hq,hn,q⟩:=h;obtain⟨u,rfl,rx⟩:=i5 r;cases rx;obtain⟨its,r',pl,hz⟩:=I.tuple hq;have hI:=dP r';have hl:its.length=ns.length:=IntsAre.length hI;obtain⟨o',D8,Hu,n',hd'⟩:=pl;refine JDs (its:=its.toArray) (ns:=ns) (I.ok.hd hc) {o',D8,Hu,n',hd'} ‹hI› (by simp[scanBound,hl];omega) λh' tk o ho hS kp ht=>?_;exact{.ref s.heap.objs.size,_,I.laid (t':=tk) kp (Ao _) (show br X.prog X.w _ h' _ (eT o) from{ho,trivial,{o,ho},λ_ _ _ _=>trivial}),rfl,q _ _ (I.hok.fresh (Ao _)) hS}
def rA (b:A7):P4 V->Hp->VK->Prop:=λvs H Q=>∃p o xs,vs=[.ref p]/\H p=some (eT o)/\cR b o xs/\xs.length<64/\∀l,H l=none->Q (.ref l) (upd H l (.lst ((f9 xs).map V.int)))
def ay.drw {H:Hp}{s:A1}(I:ay X Qa Y H s)(d:Drawn):ay X Qa Y H {s with drawn:=d} :=
 {I.ok,I.os,I.bare,I.base,I.loc,I.cell,I.free,I.freeC,I.pin,I.hok,I.len}
def sv {X:Cx}(hc:X.calm=true):ik X (.builtin "sorted") (rA (!HS.bt X.w)):=by
 intro Qa s Y H vs us Q I r h;let⟨p,o,xs,rfl,hp,hS,GY,q⟩:=h;let⟨u,rfl,rx⟩:=i5 r;cases rx;have ho:s.heap.get? p=some o:=(I.hok p _ hp).1;refine vg (I.ok.hd hc) ho hS GY λout ns h' d tk l c a1 a2 a3 kp ht hl hL=>?_;have e:=ug a3 a2;subst e;have hlen:(f9 xs).length=xs.length:=(dL xs).length_eq;have I1:ay X Qa Y (upd H l (.lst ((f9 xs).map V.int))) {s with heap:=h',toks:=tk} :=
  I.laid (t':=tk) kp hl (show br X.prog X.w _ h' _ (.lst _) from{by rw[Ay,hlen,DJ];omega,out.toList,c,mx a1,by simpa[seqObj] using hL})
 exact{.ref l,_,ay.drw I1 d,rfl,q _ (I.hok.fresh hl)}
noncomputable def hZ:P4 D->QI (Th)
 |[]=>some []
 |.int n::r=>(hZ r).map (n :: ·)
 |_=>none
theorem lK:∀{ds:P4 D} {ns:Th},hZ ds=some ns->ds=ns.map D.int
 |[],ns,e=>by cases e;rfl
 |d::r,ns,e=>by cases d <;> rwa[hZ] at e <;> first|cases e|skip;let⟨ms,e1,rfl⟩:=DX.mp e;rw[lK e1];rfl
theorem lJ {K:AP}{H:Hp}:∀{ns:Th} {vs:P4 V},RelDs K H (ns.map D.int) vs->vs=ns.map V.int
 |[],vs,h=>h
 |n::ns,vs,h=>by
  let⟨v,r,rfl,h1,h2⟩:=h;have h1:v=.int n:=by simpa only[ak] using h1
  rw[h1,lJ h2];rfl
theorem om {K:AP}{H:Hp}:∀{ns:Th},RelDs K H (ns.map D.int) (ns.map V.int)
 |[]=>rfl
 |n::ns=>{_,_,rfl,by rwa[ak],om}
noncomputable def wO (b:A7):P4 R->ac->QI (R×ac)
 |[.s c xs],U=>if c=b/\xs.length<64 then some (.p U.length,U++[.lst ((f9 xs).map D.int)]) else none
 |_,_=>none
def JBl {b:A7}:zr K (wO b) (rA b):=by
 intro m H U xs d U' vs Q s r e k;unfold wO at e;split at e
 ·rename_i c ys;split at e
  ·rename_i hn;let⟨rfl,hn⟩:=hn;cases e;let⟨v,rfl,r1⟩:=mh r;let⟨a,o,rfl,q,hS⟩:=r1;refine{a,o,ys,rfl,q,hS,hn,λl hl=>k _ _ (m++[l]) (.newH hl) (s.newH hl {_,aP,om}) {l,rfl,?_}};rw[←s.len];simp
  ·cases e
 ·cases e
def AM (b:A7):R2:=λx y H Q=>∃p q o o' xs ys,x=.ref p/\y=.ref q/\H p=some (eT o)/\H q=some (eT o')/\cR b o xs/\cR b o' ys/\xs.length+ys.length<64/\∀l u,H l=none->cR b u (aK xs ys)->Q (.ref l) (upd H l (eT u))
def JBw {X:Cx}:jO X (binaryOp .BitOr) (AM (!HS.bt X.w)):=by intro Qa s Y H x y v u Q I rx ry h;let⟨p,q,o,o',xs,ys,rfl,rfl,hp,hq,S1,S2,hz,k⟩:=h;cases rx;cases ry;refine ji (I.hok p _ hp).1 S1 (I.hok q _ hq).1 S2 ∅ λh' d u kp g S=>?_;have I1:ay X Qa Y (upd H s.heap.objs.size (eT u)) {s with heap:=h',toks:=s.toks}:=I.laid (t':=s.toks) kp (Ao _) (show br X.prog X.w _ h' _ (eT u) from{g,trivial,{u,g},λ_ _ _ _=>trivial});exact{.ref s.heap.objs.size,_,ay.drw I1 d,rfl,k _ _ (I.hok.fresh (Ao _)) S}
noncomputable def JV (b:A7):R->R->ac->QI (R×ac)
 |.s c xs,.s c' ys,U=>if c=b/\c'=b/\xs.length+ys.length<64 then some (.s b (aK xs ys),U) else none
 |_,_,_=>none
def tu {H:Hp}{l:A3}{o:HO}(hl:H l=none):∀a o',H a=some o'->upd H l o a=some o':=λa o' e=>by rw[aq (λz=>by rw[z,hl] at e;cases e)];exact e
def N2 {b:A7}:pB K (JV b) (AM b):=by
 intro m H U x y d U' v u Q s rx ry e k;unfold JV at e;split at e
 ·split at e
  ·rename_i hc;let⟨rfl,rfl,hz⟩:=hc;cases e;let⟨p,o,rfl,hp,S1⟩:=rx;let⟨q,o',rfl,hq,S2⟩:=ry;exact{p,q,o,o',_,_,rfl,rfl,hp,hq,S1,S2,hz,λl w hl S=>k _ _ m (.new hl) (s.same (tu hl)) {l,w,rfl,aP,S}}
  ·cases e
 ·cases e
def F4 (K:AP)(b:A7):P4 V->Hp->VK->Prop:=λvs H Q=>∃p ns,vs=[.ref p]/\(j6 K H p (ns.map V.int)\/gp K H p (ns.map V.int))/\ns.length<4000/\∀l o,H l=none->cR b o (aK [] ns)->Q (.ref l) (upd H l (eT o))
def zi {X:Cx}(hc:X.calm=true):ik X (.type "set") (F4 X.K (!HS.bt X.w)):=by
 intro Qa s Y H vs us Q I r h;let⟨p,ns,rfl,hq,hn,q⟩:=h;rcases hq with hq|hq
 ·let⟨u,rfl,rx⟩:=i5 r
  cases rx;let⟨its,r',pl,hz⟩:=I.list hq;have hI:=dP r';have hl:its.length=ns.length:=IntsAre.length hI;refine JDu (its:=its.toArray) (ns:=ns) (I.ok.hd hc) pl.isList ‹hI› (by simp[scanBound,hl];omega) λh' tk o ho hS kp ht=>?_;exact{.ref s.heap.objs.size,_,I.laid (t':=tk) kp (Ao _) (show br X.prog X.w _ h' _ (eT o) from{ho,trivial,{o,ho},λ_ _ _ _=>trivial}),rfl,q _ _ (I.hok.fresh (Ao _)) hS}
 ·exact zh hc Qa s Y H _ us Q I r {p,ns,rfl,hq,hn,q}
noncomputable def vp (b:A7):P4 R->ac->QI (R×ac)
 |[x],U=>(dw x U).bind λds=>(hZ ds).bind λns=>if ns.length<4000 then some (.s b (aK [] ns),U) else none
 |_,_=>none
def Jl {b:A7}:zr K (vp b) (F4 K b):=by
 intro m H U xs d U' vs Q s r e k;unfold vp at e;split at e
 ·let⟨ds,e0,e⟩:=AY.mp e;let⟨ns,e1,e⟩:=AY.mp e;split at e
  ·rename_i hn
   cases e;let⟨v,rfl,r1⟩:=mh r;let⟨a,ws,rfl,q,rr⟩:=hX s r1 e0;rw[lK e1] at rr;rw[lJ rr] at q;exact{a,ns,rfl,q,hn,λl o hl hS=>k _ _ m (.new hl) (s.same (tu hl)) {l,o,rfl,aP,hS}}
  ·cases e
 ·cases e
def tG (K:AP)(b:A7):P4 V->Hp->VK->Prop:=λvs H Q=>rA b vs H Q\/∃p ns,vs=[.ref p]/\j6 K H p (ns.map V.int)/\ns.length<64/\∀l,H l=none->Q (.ref l) (upd H l (.lst ((f9 ns).map V.int)))
def sw {X:Cx}(hc:X.calm=true):ik X (.builtin "sorted") (tG X.K (!HS.bt X.w)):=by
 intro Qa s Y H vs us Q I r h;rcases h with h|⟨p,ns,rfl,hq,GY,q⟩
 ·exact sv hc Qa s Y H vs us Q I r h
 ·let⟨u,rfl,rx⟩:=i5 r
  cases rx;obtain⟨its,r',pl,hz⟩:=I.list hq;have hI:=dP r';have hl:its.length=ns.length:=IntsAre.length hI;refine sorted_ints (vs:=its) (ns:=ns) pl.isList hI ∅ λout ns' a1 a2 a3=>?_;have e:=ug a3 a2;subst e;have hlen:(f9 ns).length=ns.length:=(dL ns).length_eq;have hsz:((s.heap.push (seqObj "list" #[] 0)).update s.heap.objs.size (Obj.mapSeq (·++its.toArray))).objs.size=s.heap.objs.size+1:=by rw[zcL,size_push']
  have EW:(((s.heap.push (seqObj "list" #[] 0)).update s.heap.objs.size (Obj.mapSeq (·++its.toArray))).push (seqObj "list" its.toArray 0)).get? (s.heap.objs.size+1)=some (seqObj "list" its.toArray 0):=by rw[←hsz];exact BI _ rfl
  obtain⟨c,hcx⟩:∃c,(sortedAll s.heap its out).get? (s.heap.objs.size+1)=some (seqObj "list" out c):=by unfold sortedAll sortedHeap;obtain⟨e1,q1⟩:∃e1,((((s.heap.push (seqObj "list" #[] 0)).update s.heap.objs.size (Obj.mapSeq (·++its.toArray))).push (seqObj "list" its.toArray 0)).update (s.heap.objs.size+1) (Obj.mapSeq λ_=>#[])).get? (s.heap.objs.size+1)=some (seqObj "list" #[] e1):={_,get?_update_seq EW (λ_=>#[])};exact{_,get?_update_seq (Am _ (Am _ q1)) (λ_=>out)}
  have kp:∀b o,s.heap.get? b=some o->(sortedAll s.heap its out).get? b=some o:=λb o e=>by have hb:=Av e;have n1:s.heap.objs.size+1≠b:=D2 (zbB hb);have n0:s.heap.objs.size≠b:=D2 hb;unfold sortedAll sortedHeap;rw[D0 _ _ n1];refine Am _ (Am _ ?_);rw[D0 _ _ n1];refine Am _ ?_;rw[D0 _ _ n0];exact Am _ e
  exact{.ref (s.heap.objs.size+1),_,I.laid (t':=s.toks) kp (HA _) (show br X.prog X.w _ _ _ (.lst _) from{by rw[Ay,hlen,DJ];omega,out.toList,c,mx a1,by simpa[seqObj] using hcx}),rfl,q _ (I.hok.fresh (HA _))}
noncomputable def jP (b:A7):P4 R->ac->QI (R×ac)
 |[.s c xs],U=>if c=b/\xs.length<64 then some (.p U.length,U++[.lst ((f9 xs).map D.int)]) else none
 |[x],U=>(j9 x U).bind λds=>(hZ ds).bind λns=>if ns.length<64 then some (.p U.length,U++[.lst ((f9 ns).map D.int)]) else none
 |_,_=>none
def yZ {b:A7}:zr K (jP b) (tG K b):=by
 intro m H U xs d U' vs Q s r e k;unfold jP at e;split at e
 ·exact .inl (JBl m H U _ d U' vs Q s r e k)
 ·rename_i x _;let⟨ds,e0,e⟩:=AY.mp e;let⟨ns,e1,e⟩:=AY.mp e;split at e
  ·rename_i hn
   cases e;let⟨v,rfl,r1⟩:=mh r;let⟨a,ws,rfl,q,rr⟩:=iF s r1 e0;rw[lK e1] at rr;rw[lJ rr] at q;refine .inr {a,ns,rfl,q,hn,λl hl=>k _ _ (m++[l]) (.newH hl) (s.newH hl {_,aP,om}) {l,rfl,?_}};rw[←s.len];simp
  ·cases e
 ·cases e
noncomputable def MU (neg:A7):R->R->ac->QI (R×ac)
 |.v (.int i),y,U=>(dw y U).bind λds=>(hZ ds).bind λns=>some (.v (.bl (if neg then !ns.contains i else ns.contains i)),U)
 |_,_,_=>none
theorem uh {i:Int}:∀{ns:Th},MT (.int i) (ns.map V.int)=ns.contains i
 |[]=>rfl
 |n::ns=>by
  have ih:=uh (i:=i) (ns:=ns);unfold MT at ih ⊢;rw[Ak,Er,ih,List.contains_cons]
  show(n == i || ns.contains i)=_
  rw[show(n == i)=(i == n) from Bool.eq_iff_iff.mpr {λh=>beq_iff_eq.mpr (beq_iff_eq.mp h).symm,λh=>beq_iff_eq.mpr (beq_iff_eq.mp h).symm}]
theorem qw:∀{ns:Th},(ns.map V.int).all lM=true
 |[]=>rfl
 |n::ns=>by rw[Ak,List.all_cons,qw];rfl
def L7 {neg:A7}:pB K (MU neg) (NN K neg):=by
 intro m H U x y d U' v u Q s rx ry e k;unfold MU at e;split at e
 ·let⟨ds,e0,e⟩:=AY.mp e;let⟨ns,e1,e⟩:=AY.mp e;cases e;rwa[av,ak] at rx;subst rx;let⟨a,ws,rfl,q,rr⟩:=hX s ry e0;rw[lK e1] at rr;rw[lJ rr] at q;refine{a,ns.map V.int,rfl,q,rfl,qw,k _ H m .refl s ?_};rwa[av,ak,uh]
 ·cases e
def sH (K:AP)(H:Hp):P4 V->P4 (aE×V)->Prop:=Paired λv kv=>∃t,v=.ref t/\gp K H t [kV kv.1,kv.2]
noncomputable def pM (A4 ps:P4 (aE×V)):P4 (aE×V):=ps.foldl (λa p=>eF a p.1 p.2) A4
theorem tL:∀(ps A4:P4 (aE×V)),(pM A4 ps).length<=A4.length+ps.length
 |[],A4=>by simp[pM]
 |p::ps,A4=>by have h1:=tL ps (eF A4 p.1 p.2);have h2:=jz A4 p.1 p.2;rwa[pM,E4,C3] at h1 ⊢;omega
theorem tK:∀{ps:P4 (aE×V)} {qs:P4 (aE×A2)} {A4:P4 (aE×V)} {vs:P4 (aE×A2)},KV A4 vs->KV ps qs->KV (pM A4 ps) (HS.putAll vs qs)
 |_,_,_,_,r,.nil=>r
 |p::ps,q::qs,_,_,r,.cons e t=>by let⟨e1,e2⟩:=e;rwa[pM,HS.putAll,E4];rw[←e1];exact tK (ps:=ps) (qs:=qs) (KV.put r p.1 e2) t
def JBt {X : Cx} {H : Hp} {s : A1} (I : ay X Qa Y H s) : ∀ {ws : P4 V} {A4 : P4 (aE × V)} {its : Te}, sH X.K H ws A4 -> aS ws its ->
    ∃ ps : P4 (aE × A2), KV A4 ps /\ ps.length = its.length /\ ∀ (i : Nat) v, its[i]? = some v -> ∃ k x key, ps[i]? = some (k, x) /\ (bo X.prog X.w).is k key = true /\ gh s.heap v key x := by
  intro ws A4 its p v
  induction p generalizing its with
  | nil=> cases v; exact{[], .nil, rfl,λi v e=> by simp at e}
  | @cons _ kv _ _ hp tp ih=>
   obtain⟨k, y⟩ := kv
   cases v with
   | cons hv tv=>
    obtain⟨ps, a1, a2, a3⟩ := ih tv
    obtain⟨t, rfl, hs⟩ := hp
    cases hv
    obtain⟨js, r, ⟨o, ho, hc, n, hd⟩, _⟩ := I.tuple hs
    cases r with
    | cons r1 rr=>
      cases rr with
      | cons r2 rr=>
        cases rr
        rename_i key x
        refine{(k, x) :: ps, .cons {rfl, r2} a1, by simp[a2],λi v e=> ?_}
        cases i with
        | zero=> simp at e; subst e; exact{k, x, key, rfl, uf r1, {t, o, n, rfl, ho, hc, hd}}
        | succ i=> simpa using a3 i v ‹e›
def AS (K:AP):P4 V->Hp->VK->Prop:=λvs H Q=>∃p ws A4,vs=[.ref p]/\H p=some (.lst ws)/\sH K H ws A4/\∀l,H l=none->Q (.ref l) (upd H l (.dK (pM [] A4)))
def qH {X:Cx}(hc:X.calm=true):ik X (.type "dict") (AS X.K):=by
 intro Qa s Y H vs us Q I r h;let⟨p,ws,A4,rfl,hH,hp,q⟩:=h;let⟨u,rfl,rx⟩:=i5 r;cases rx;let⟨z,its,n,rv,hl,e⟩:=I.lstM hH;let⟨ps,a1,a2,a3⟩:=JBt I hp rv;have hk:A4.length=its.length:=by have:=Paired.length a1;omega
 refine JCk (knd:=bo X.prog X.w) (ps:=ps) (I.ok.hd hc) e ‹a2› (by simp;omega) (λi v hv=>a3 i v ‹hv›) λh' tk hD kp=>?_;have hz:(pM [] A4).length<=sizeLine:=by have:=tL A4 [];simp at this;omega
 exact{.ref s.heap.objs.size,_,I.laid (t':=tk) kp (Ao _) (show br X.prog X.w _ h' _ (.dK _) from{hz,beq_eq_false_iff_ne.mpr (D2 I.big),_,tK .nil a1,hD}),rfl,q _ (I.hok.fresh (Ao _))}
noncomputable def mj:P4 D->QI (P4 (aE×D))
 |[]=>some []
 |.tup [.int i,d]::r=>(mj r).map ((.inl i,d) :: ·)
 |_=>none
noncomputable def fI (A4:P4 (aE×D))(k:aE)(v:D):P4 (aE×D):=if (A4.any λkv=>decide (kv.1=k))=true then A4.map (λkv=>if kv.1=k then (kv.1,v) else kv) else A4++[(k,v)]
noncomputable def aM (A4 ps:P4 (aE×D)):P4 (aE×D):=ps.foldl (λa p=>fI a p.1 p.2) A4
def KD (K:AP)(H:Hp)(A4:P4 (aE×D))(es:P4 (aE×V)):Prop:=es.map (·.1)=A4.map (·.1)/\RelDs K H (A4.map (·.2)) (es.map (·.2))
def KD.nil {H:Hp}:KD K H [] []:={rfl,rfl}
def KD.any {H:Hp}{A4:P4 (aE×D)}{es:P4 (aE×V)}(r:KD K H A4 es)(k:aE):(es.any λkv=>decide (kv.1=k))=(A4.any λkv=>decide (kv.1=k)):=by
 have h1:∀{β:Type} (l:P4 (aE×β)),(l.any λkv=>decide (kv.1=k))=((l.map (·.1)).any λx=>decide (x=k)):=λl=>by rw[zcz];rfl
 rw[h1,h1,r.1]
def KD.cons {K:AP}{H:Hp}{k k':aE}{d:D}{v:V}{A4:P4 (aE×D)}{es:P4 (aE×V)}:KD K H ((k,d)::A4) ((k',v)::es) ↔ k'=k/\ak K H d v/\KD K H A4 es:=by
 constructor
 ·rintro⟨h1,h2⟩;rwa[Ak,List.cons.injEq] at h1;let⟨w,r,e,h3,h4⟩:=h2;rwa[Ak,List.cons.injEq] at e;let⟨rfl,rfl⟩:=e;exact{h1.1,h3,h1.2,h4}
 ·rintro⟨rfl,h1,h2,h3⟩;exact{by simp[h2],{_,_,rfl,h1,h3}}
theorem KD.repl {K:AP}{H:Hp}{k:aE}{d:D}{v:V}(rd:ak K H d v):∀{A4:P4 (aE×D)} {es:P4 (aE×V)},KD K H A4 es->KD K H (A4.map λkv=>if kv.1=k then (kv.1,d) else kv) (es.map λkv=>if kv.1=k then (kv.1,v) else kv)
 |[],[],_=>.nil
 |[],e::es,h=>by have:=h.1;simp at this
 |q::A4,[],h=>by have:=h.1;simp at this
 |(a,x)::A4,(b,y)::es,h=>by
  let⟨rfl,h1,h2⟩:=KD.cons.mp h;have ih:=KD.repl (k:=k) rd h2;rw[Ak,Ak];by_cases e:b=k
  ·rw[A8 e,A8 e];exact KD.cons.mpr {rfl,rd,ih}
  ·rw[A6 e,A6 e];exact KD.cons.mpr {rfl,h1,ih}
theorem KD.snoc {K:AP}{H:Hp}{k:aE}{d:D}{v:V}(rd:ak K H d v):∀{A4:P4 (aE×D)} {es:P4 (aE×V)},KD K H A4 es->KD K H (A4++[(k,d)]) (es++[(k,v)])
 |[],[],_=>KD.cons.mpr {rfl,rd,.nil}
 |[],e::es,h=>by have:=h.1;simp at this
 |q::A4,[],h=>by have:=h.1;simp at this
 |(a,x)::A4,(b,y)::es,h=>by let⟨rfl,h1,h2⟩:=KD.cons.mp h;exact KD.cons.mpr {rfl,h1,KD.snoc rd h2}
def KD.put {H:Hp}{k:aE}{d:D}{v:V}{A4:P4 (aE×D)}{es:P4 (aE×V)}(r:KD K H A4 es)(rd:ak K H d v):KD K H (fI A4 k d) (eF es k v):=by
 unfold fI eF;rw[r.any k];split
 ·exact r.repl rd
 ·exact r.snoc rd
theorem KD.putAll {K:AP}{H:Hp}:∀{ps:P4 (aE×D)} {qs:P4 (aE×V)} {A4:P4 (aE×D)} {es:P4 (aE×V)},KD K H A4 es->KD K H ps qs->KD K H (aM A4 ps) (pM es qs)
 |[],[],_,_,r,_=>r
 |[],e::es,_,_,_,h=>by have:=h.1;simp at this
 |q::A4,[],_,_,_,h=>by have:=h.1;simp at this
 |(a,x)::ps,(b,y)::qs,_,_,r,h=>by let⟨rfl,h1,h2⟩:=KD.cons.mp h;exact KD.putAll (ps:=ps) (qs:=qs) (r.put h1) h2
theorem qj {K:AP}{H:Hp}:∀{ds:P4 D} {ws:P4 V} {A4:P4 (aE×D)},mj ds=some A4->RelDs K H ds ws->∃qs,sH K H ws qs/\KD K H A4 qs
 |[],ws,A4,e,r=>by cases e;have r:ws=[]:=r;subst r;exact{[],.nil,.nil}
 |d::ds,ws,A4,e,r=>by
  let⟨v,Hx,rfl,r1,r2⟩:=r;unfold mj at e;split at e
  ·cases e;rename_i h;cases h
  ·rename_i i x r' h
   cases h;let⟨ks,e1,rfl⟩:=DX.mp e;let⟨qs,p1,p2⟩:=qj e1 r2;rwa[ak] at r1;let⟨a,vs,rfl,hq,hr⟩:=r1;let⟨v1,t1,rfl,h1,hr⟩:=hr;let⟨v2,t2,rfl,h2,hr⟩:=hr;have hr:t2=[]:=hr;subst hr;have h1:v1=.int i:=(by simpa only[ak] using h1);subst h1;exact{(.inl i,v2)::qs,.cons {a,rfl,hq} p1,KD.cons.mpr {rfl,h2,p2}}
  ·cases e
noncomputable def o9:P4 R->ac->QI (R×ac)
 |[.p n],U=>match U[n]? with
  |some (.lst ds)=>(mj ds).bind λA4=>some (.p U.length,U++[.dct (aM [] A4)])
  |_=>none
 |_,_=>none
def Jp {K:AP}:zr K o9 (AS K):=by
 intro m H U xs d U' vs Q s r e k;unfold o9 at e;split at e
 ·rename_i n;split at e
  ·rename_i ds hn;let⟨A4,e1,e⟩:=AY.mp e;cases e;let⟨v,rfl,r1⟩:=mh r;let⟨a,rfl,ha⟩:=r1;let⟨ws,ea,ra⟩:=s.cell _ _ a hn ha;let⟨qs,p1,p2⟩:=qj e1 ra;refine{a,ws,qs,rfl,ea,p1,λl hl=>?_};have x:dz m H (m++[l]) (upd H l (.dK (pM [] qs))):=.newH hl;have hk:=KD.putAll (K:=K) (H:=H) .nil p2;refine k _ _ (m++[l]) x (s.newH hl {_,aP,hk.1,RelDs.tf x.tf _ _ hk.2}) {l,rfl,?_};rw[←s.len];simp
  ·cases e
 ·cases e
def wW (neg:A7):R2:=λx y H Q=>∃p A4 k,y=.ref p/\x=kV k/\Rd H p (.dK A4)/\Q (.bl (if neg then !(dq A4 k).isSome else (dq A4 k).isSome)) H
def yD {X:Cx}(hu:X.A.units+64<cLine):jO X (compareOp .In) (wW false):=by intro Qa s Y H x y v u Q I rx ry h;let⟨p,A4,k,rfl,rfl,hR,q⟩:=h;cases ry;exact OU ∅ I (.inl {A4,k,hR,rfl,rfl}) rx λs' I'=>{.bl _,H,I',rfl,q}
theorem lY (k:aE):∀(es:P4 (aE×V)),(dq es k).isSome=es.any λkv=>decide (kv.1=k)
 |[]=>rfl
 |(a,v)::es=>by
  have ih:=lY k es;unfold dq at ih ⊢;by_cases e:a=k
  ·simp[e]
  ·simpa[e] using ih
noncomputable def Em (neg:A7):R->R->ac->QI (R×ac)
 |.v (.int i),.p n,U=>match U[n]? with
  |some (.dct A4)=>some (.v (.bl (if neg then !(A4.any λkv=>decide (kv.1=.inl i)) else A4.any λkv=>decide (kv.1=.inl i))),U)
  |some (.fzd A4)=>some (.v (.bl (if neg then !(A4.any λkv=>decide (kv.1=.inl i)) else A4.any λkv=>decide (kv.1=.inl i))),U)
  |_=>MU neg (.v (.int i)) (.p n) U
 |x,y,U=>MU neg x y U
def L6 {K:AP}{neg:A7}:pB K (Em neg) (λx y H Q=>NN K neg x y H Q\/wW neg x y H Q):=by
 intro m H U x y d U' v u Q s rx ry e k;unfold Em at e;split at e
 ·rename_i i n;split at e
  ·rename_i A4 hn
   cases e;rwa[av,ak] at rx;subst rx;let⟨a,rfl,ha⟩:=ry;let⟨es,ea,e1,e2⟩:=s.cell _ _ a hn ha;refine .inr {a,es,.inl i,rfl,rfl,.inl ea,k _ H m .refl s ?_};have hv:=(lY (.inl i) es).trans (KD.any (K:=K) (H:=H) {e1,e2} (.inl i));rw[hv];rwa[av,ak]
  ·rename_i A4 hn
   cases e;rwa[av,ak] at rx;subst rx;let⟨a,rfl,ha⟩:=ry;let⟨o,es,ea,e1,e2⟩:=s.cell _ _ a hn ha;refine .inr {a,es,.inl i,rfl,rfl,.inr {o,ea},k _ H m .refl s ?_};have hv:=(lY (.inl i) es).trans (KD.any (K:=K) (H:=H) {e1,e2} (.inl i));rw[hv];rwa[av,ak]
  ·exact .inl (L7 m H U _ _ d U' v u Q s rx ry e k)
 ·exact .inl (L7 m H U _ _ d U' v u Q s rx ry e k)
end HW
namespace HW
open PyProof.Rows L2
mutual
noncomputable def cN:D->A7
 |.tup xs=>flatDs xs
 |.fl _=>false
 |.fd _ _=>false
 |_=>true
noncomputable def flatDs:P4 D->A7
 |[]=>true
 |x::xs=>cN x&&flatDs xs
end
noncomputable def Nu:R->ac->QI D
 |.v d,_=>some d
 |.p n,U=>match U[n]? with
  |some (.lst xs)=>some (.fl xs)|some (.fz xs)=>some (.fl xs)
  |some (.dct A4)=>some (.fd (A4.map (·.1)) (A4.map (·.2)))|some (.fzd A4)=>some (.fd (A4.map (·.1)) (A4.map (·.2)))
  |_=>none
 |.s _ _,_=>none
 |.x _,_=>none
 |.f _ _,_=>none
noncomputable def gY:P4 R->ac->QI (P4 D)
 |[],_=>some []
 |x::xs,U=>(Nu x U).bind λd=>(gY xs U).bind λds=>some (d::ds)
noncomputable def gd (f:MF)(n:Nat)(fa:FA):FE:=λO U=>(fa O U).bind λa=>(gY a.1 a.2).bind λds=>if ds.length=n then (f ds).bind λd=>if cN d=true then some (.v d,a.2) else none else none
abbrev MC:=P4 D->QI au
noncomputable def qx:au->A7
 |.lst xs=>flatDs xs
 |.dct A4=>flatDs (A4.map (·.2))
 |_=>false
noncomputable def B3:nP->QI au
 |.rt (.p n) U=>match U[n]? with|some (.lst xs)=>some (.lst xs)|some (.dct A4)=>some (.dct A4)|_=>none
 |_=>none
noncomputable def yo (k:Nat)(b:FS):MC:=λds=>(b (ds.map (λd=>some (.v d))++List.replicate (k-ds.length) none) []).bind B3
noncomputable def iO (f:MC)(n:Nat)(fa:FA):FE:=λO U=>(fa O U).bind λa=>(gY a.1 a.2).bind λds=>if ds.length=n then (f ds).bind λc=>if qx c=true then some (.p a.2.length,a.2++[c]) else none else none
section
variable {P:A9}{w:AF}{H H0:Hp}{h h0:AD}{a:A3}{u:HO}{o:As}{fs ex:Tf}
def fH.thaw (ok:fH P w H h)(e:H a=some (.frz o u))(hu:dY u):fH P w (upd H a u) h:=by
 have ne:∀c v,H c=some v->v≠.frz o u->c≠a:=λc v q n z=>by rw[z,e] at q;exact n (Option.some.inj q).symm
 have own:∀c y,H c=some (.own y)->upd H a u c=some (.own y):=λc y r=>by rw[L2.aq (ne c _ r ∅)];exact r
 have tup:∀c xs,H c=some (.tup xs)->upd H a u c=some (.tup xs):=λc xs r=>by rw[L2.aq (ne c _ r ∅)];exact r
 intro b v q;by_cases hb:b=a
 ·subst hb;rw[L2.aP] at q;cases q;exact(ok b _ e).2.stay (λc v _ q=>q) (λc r=>own c _ r) tup
 ·rw[L2.aq hb] at q;exact(ok b v q).stay (λc v _ q=>q) (λc r=>own c _ r) tup
def Un.thaw (un:Un fs ex (upd H0 a (.frz o u)) H h0 h)(e:H0 a=some u)(hu:dY u):Un fs ex H0 (upd H a u) h0 h:=by
 have nn:∀b,H0 b=none->b≠a:=λb z y=>by rw[y,e] at z;cases z
 have nf:∀b v,H0 b=some v->¬ dY v->b≠a:=λb v q n=>dY.ne e hu q n;refine{λb ob q n hb hx=>un.keep b ob q (by rw[L2.aq (nn b n)];exact n) hb hx,λb ob q n hb hx=>un.slot b ob q (by rw[L2.aq (nn b n)];exact n) hb hx,λb ob q n hx=>?_,un.there,λb xs q=>?_,λb ob v q=>?_,λb ps q=>?_}
 ·rw[L2.aq (nn b n)];exact un.free b ob q (by rw[L2.aq (nn b n)];exact n) hx
 ·have hb:=nf b _ q λz=>z;rw[L2.aq hb];exact un.tups b xs (by rw[L2.aq hb];exact q)
 ·have hb:=nf b _ q λz=>z;rw[L2.aq hb];exact un.frzs b ob v (by rw[L2.aq hb];exact q)
 ·have hb:=nf b _ q λz=>z;let⟨more,r⟩:=un.tbls b ps (by rw[L2.aq hb];exact q);exact{more,by rw[L2.aq hb];exact r}
end
noncomputable def bor (sp:Sp):Sp:=λvs H Q E=>sp vs H Q E\/∃a u,H a=some u/\dY u/\∀o,sp vs (upd H a (.frz o u)) (λv H2=>Q v (upd H2 a u)) E
noncomputable def borN:Nat->Sp->Sp
 |0,sp=>sp
 |n+1,sp=>bor (borN n sp)
def b9.bor {K:AP}{mg:Td}{base:AD}{k:Nat}{f:A3}{ps:Tn}{sp:Sp}(F:b9 P w K mg base j7 k f fd ps sp) :
  b9 P w K mg base j7 k f fd ps (HW.bor sp):=by
 refine{λvs H Q E h=>?_,λA outer s H args us vs Q E hr he hb hv hs=>?_}
 ·rcases h with h|⟨a,u,e,hu,h⟩
  ·exact F.len vs H Q E h
  ·exact F.len _ _ _ _ (h {cls:=.none,data:=.fields #[]})
 ·rcases hs with hs|⟨a,u,e,hu,hs⟩
  ·exact F.run A outer s H args us vs Q E hr he hb hv hs
  ·let⟨o,ok⟩:=fH.frz he.hok e hu
   have nn:∀b,H b=none->upd H a (.frz o u) b=none:=λb z=>by rw[L2.aq (λy=>by rw[y,e] at z;cases z)];exact z
   refine Ej (F.run A outer s (upd H a (.frz o u)) args us vs _ E hr {he.frames,he.mod,λb ob q=>{(he.bs b ob q).1,nn b (he.bs b ob q).2},he.bsz,he.funs,λb hb=>nn b (he.frf b hb),ok,he.bare} hb hv (hs o)) λr s' hq=>?_
   cases r with
   |error e=>exact hq
   |ok fl=>
    cases fl with
    |next=>exact hq
    |brk=>exact hq
    |cont=>exact hq
    |ret x=>
     let⟨v,H',os,bare,un,hok,rv,q⟩:=hq;exact{v,_,os,bare,Un.thaw un e hu,fH.thaw hok (un.frzs a o u L2.aP) hu,rv,q}
theorem b9.borN {K:AP}{mg:Td}{base:AD}{k:Nat}{f:A3}{ps:Tn}{sp:Sp}(F:b9 P w K mg base j7 k f fd ps sp) :
  ∀n,b9 P w K mg base j7 k f fd ps (HW.borN n sp)
 |0=>F
 |n+1=>b9.bor (b9.borN F n)
noncomputable def pz (H H2:Hp):Hp:=λb=>match H b with|some u=>some u|none=>H2 b
def Cz (H H1:Hp):Prop:=∀b,H1 b=H b\/∃u o,H b=some u/\dY u/\H1 b=some (.frz o u)
section
variable {K:AP}{H H1 H2:Hp}
def Cz.refl:Cz H H:=λ_=>.inl rfl
def Cz.upd {a:A3}{u:HO}{o:As}(c:Cz H H1)(e:H1 a=some u)(hu:dY u):Cz H (upd H1 a (.frz o u)):=λb=>by
 by_cases hb:b=a
 ·subst hb;rw[L2.aP];rcases c b with z|⟨u',o',_,_,z⟩
  ·exact .inr {u,o,by rw[←z,e],hu,rfl}
  ·rw[e] at z;cases z;exact hu.elim
 ·rw[L2.aq hb];exact c b
def Cz.trans (c:Cz H H1)(c':Cz H1 H2):Cz H H2:=λb=>by
 rcases c' b with z|⟨u,o,z1,z2,z3⟩
 ·rw[z];exact c b
 ·rcases c b with y|⟨u',o',_,_,y⟩
  ·exact .inr {u,o,by rw[←y,z1],z2,z3}
  ·rw[z1] at y;cases y;exact z2.elim
def Cz.tf (c:Cz H H1):TF H H1:=by
 refine{λa xs e=>?_,λa o u e=>?_}
 ·rcases c a with z|⟨u,o,z1,z2,z3⟩
  ·rw[z,e]
  ·rw[e] at z1;cases z1;exact z2.elim
 ·rcases c a with z|⟨u',o',z1,z2,z3⟩
  ·rw[z,e]
  ·rw[e] at z1;cases z1;exact z2.elim
theorem JDi (s:uU H H2):pz H H2=H2:=by
 funext b;unfold pz
 cases e:H b with
 |none=>rfl
 |some u=>exact(s b u e).symm
def nD:uU H (pz H H2):=λa o e=>by unfold pz;rw[e]
def JDh {a:A3}{u v:HO}(e:H a=some u):upd (pz (upd H a v) H2) a u=pz H H2:=by
 funext b;by_cases hb:b=a
 ·subst hb;rw[L2.aP];unfold pz;rw[e]
 ·rw[L2.aq hb];unfold pz;rw[L2.aq hb]
def JFb {a:A3}{xs:P4 V}(c:Cz H H1)(s:uU H1 H2)(h:gp K H2 a xs):gp K (pz H H2) a xs:=by
 have back:∀v,¬ dY v->(∀o u,v=.frz o u->¬ dY u)->H2 a=some v->pz H H2 a=some v:=λv nf nz e=>by
  unfold pz
  cases q:H a with
  |none=>exact e
  |some u=>
   rcases c a with z|⟨u',o',z1,z2,z3⟩
   ·rw[q] at z;rw[s a u z] at e;exact e
   ·rw[s a _ z3] at e
    cases e;exact AH z2 (nz o' u' rfl)
 rcases h with(h|⟨o,h⟩)|h
 ·exact .inl (.inl (back _ (λz=>z) (λ_ _ z=>by cases z) h))
 ·exact .inl (.inr {o,back _ (λz=>z) (λo u z=>by cases z;exact λz=>z) h})
 ·exact .inr h
theorem JB5 {a:A3}{xs:P4 V}(c:Cz H H1)(s:uU H1 H2)(e:H2 a=some (.tup xs)):pz H H2 a=some (.tup xs):=by
 unfold pz
 cases q:H a with
 |none=>exact e
 |some u=>
  rcases c a with z|⟨u',o',z1,z2,z3⟩
  ·rw[q] at z;rw[s a u z] at e;exact e
  ·rw[s a _ z3] at e
   cases e
mutual
theorem um (c:Cz H H1)(s:uU H1 H2):∀(d:D) (v:V),cN d=true->ak K H2 d v->ak K (pz H H2) d v
 |.non,_,_,h=>by simpa only[ak] using h
 |.bl _,_,_,h=>by simpa only[ak] using h
 |.int _,_,_,h=>by simpa only[ak] using h
 |.str _,_,_,h=>by simpa only[ak] using h
 |.tup xs,v,f,h=>by rwa[ak] at h ⊢;let⟨a,vs,e,q,r⟩:=h;exact{a,vs,e,JFb c s q,flats_ovr c s xs vs (by simpa only[cN] using f) r}
 |.fl _,_,f,_=>by simp[cN] at f
 |.fd _ _,_,f,_=>by simp[cN] at f
 |.key _,_,_,h=>by rwa[ak] at h ⊢;let⟨a,e,q⟩:=h;exact{a,e,JB5 c s q}
theorem flats_ovr (c:Cz H H1)(s:uU H1 H2):∀(ds:P4 D) (vs:P4 V),flatDs ds=true->RelDs K H2 ds vs->RelDs K (pz H H2) ds vs
 |[],_,_,h=>by simpa only[RelDs] using h
 |d::ds,vs,f,h=>by
  rwa[RelDs] at h ⊢;let⟨v,r,e,h1,h2⟩:=h;have f':cN d=true/\flatDs ds=true:=by simpa[flatDs] using f
  exact{v,r,e,um c s d v f'.1 h1,flats_ovr c s ds r f'.2 h2}
end
end
noncomputable def Ae (K:AP)(n:Nat)(f:P4 D->QI (Hp->V->Hp->Prop)):Sp:=λvs H Q _=>∃ds P,ds.length=n/\RelDs K H ds vs/\f ds=some P/\∀v H',uU H H'->P H v H'->Q v H'
section
variable {K:AP}{m:Tf}{Y:L2.St}{H H0:Hp}{U:ac}{Q:VK}
theorem IT {n:Nat}{f:P4 D->QI (Hp->V->Hp->Prop)}{P:Hp->V->Hp->Prop}{E:XK}(hs:aJ K m H0 U):∀(rs:P4 R) (vs vsP:P4 V) (ds dsP:P4 D) (H1:Hp) (Q:VK),Cz H0 H1->RelDs K H1 dsP vsP->aR K m H0 rs vs->gY rs U=some ds ->
  f (dsP++ds)=some P->(dsP++ds).length=n->(∀v H2 Dt,Cz H1 Dt->uU Dt H2->P Dt v H2->Q v (pz H1 H2))->borN rs.length (Ae K n f) (vsP++vs) H1 Q E
 |[],vs,vsP,ds,dsP,H1,Q,c,rp,rr,ev,ef,el,k=>by
  cases ev;have rr:vs=[]:=rr;subst rr;rw[Cg] at ef el ⊢;exact{dsP,P,el,rp,ef,λv H' s p=>by have:=k v H' H1 .refl s p;(rw[JDi s] at this;assumption)}
 |r::rs,vs,vsP,ds,dsP,H1,Q,c,rp,rr,ev,ef,el,k=>by
  let⟨v,ws,rfl,r1,r2⟩:=rr;let⟨d,e1,ev⟩:=AY.mp ev;let⟨es,e2,ev⟩:=AY.mp ev;cases ev
  have app:∀{Z:Type} (a:P4 Z) (x:Z) (b:P4 Z),a++x::b=a++[x]++b:=λa x b=>by simp
  rw[app] at ef el ⊢
  have go:∀(Dt:Hp) (Q':VK),Cz H1 Dt->ak K Dt d v->(∀v H2 Eh,Cz Dt Eh->uU Eh H2->P Eh v H2->Q' v (pz Dt H2))->borN rs.length (Ae K n f) (vsP++[v]++ws) Dt Q' E:=λDt Q' c' rd k'=>
   IT hs rs ws (vsP++[v]) es (dsP++[d]) Dt Q' (c.trans c') (RelDs.append (RelDs.tf c'.tf _ _ rp) (by rwa[RelDs];exact{_,_,rfl,rd,rfl})) r2 e2 ef el k'
  cases r with
  |v d'=>
   cases e1;exact .inl (go H1 Q .refl (ak.tf c.tf _ _ r1) k)
  |s _ _=>cases e1
  |x _=>cases e1
  |f _ _=>cases e1
  |p i=>
   let⟨a,rfl,ha⟩:=r1;have e1:(match U[i]? with|some (.lst xs)=>some (D.fl xs)|some (.fz xs)=>some (D.fl xs)|some (.dct A4)=>some (D.fd (A4.map (·.1)) (A4.map (·.2)))|some (.fzd A4)=>some (D.fd (A4.map (·.1)) (A4.map (·.2)))|_=>none)=some d:=e1
   have lent:∀u,dY u->H0 a=some u->(∀H3 o,H3 a=some (.frz o u)->TF H0 H3->ak K H3 d (.ref a))->borN (rs.length+1) (Ae K n f) (vsP++[V.ref a]++ws) H1 Q E:=λu hu e0 rd=>by
    rcases c a with z|⟨u',o',z1,z2,z3⟩
    ·rw[e0] at z
     refine .inr {a,u,z,hu,λo=>?_};have c1:Cz H1 (upd H1 a (.frz o u)):=Cz.refl.upd z hu
     exact go _ _ c1 (rd _ o L2.aP (c.tf.trans c1.tf)) λv H2 Eh c2 s2 p=>by
      rw[JDh z];exact k v H2 Eh (c1.trans c2) s2 p
    ·rw[e0] at z1;cases z1
     exact .inl (go H1 Q .refl (rd _ o' z3 c.tf) k)
   have known:∀o u,H0 a=some (.frz o u)->ak K H1 d (.ref a)->borN (rs.length+1) (Ae K n f) (vsP++[V.ref a]++ws) H1 Q E:=λo u e0 rd=>.inl (go H1 Q .refl rd k);split at e1
   ·rename_i xs q
    cases e1;let⟨Hx,ea,ra⟩:=hs.cell _ _ a q ha
    exact lent (.lst Hx) trivial ea λH3 o e3 t=>by rwa[ak];exact{a,Hx,rfl,.inl {o,e3},RelDs.tf t _ _ ra}
   ·rename_i xs q
    cases e1;let⟨o,Hx,ea,ra⟩:=hs.cell _ _ a q ha;exact known o _ ea (by rwa[ak];exact{a,Hx,rfl,.inl {o,c.tf.frz _ _ _ ea},RelDs.tf c.tf _ _ ra})
   ·rename_i A4 q
    cases e1;let⟨BW,ea,e1,e2⟩:=hs.cell _ _ a q ha
    exact lent (.dK BW) trivial ea λH3 o e3 t=>by rwa[ak];exact{a,o,BW,rfl,e3,e1,RelDs.tf t _ _ e2}
   ·rename_i A4 q
    cases e1;let⟨o,BW,ea,e1,e2⟩:=hs.cell _ _ a q ha;exact known o _ ea (by rwa[ak];exact{a,o,BW,rfl,c.tf.frz _ _ _ ea,e1,RelDs.tf c.tf _ _ e2})
   ·cases e1
noncomputable def pX (K:AP)(f:MF):P4 D->QI (Hp->V->Hp->Prop):=λds=>(f ds).map λd _ v H'=>ak K H' d v
noncomputable def cX (K:AP)(f:MC):P4 D->QI (Hp->V->Hp->Prop):=λds=>(f ds).map λc H v H'=>∃a,v=.ref a/\H a=none/\gl K [] H' c a
def KW {n:Nat}{f:MF}{vs:P4 V}{E:XK}(h:Ae K n (pX K f) vs H Q E):zt K n f vs H Q E:=by let⟨ds,P,el,r,ef,k⟩:=h;let⟨d,e,rfl⟩:=DX.mp ef;exact{ds,d,el,r,e,k}
theorem uW:∀{rs:P4 R} {ds:P4 D},gY rs U=some ds->rs.length=ds.length
 |[],_,h=>by cases h;rfl
 |r::rs,ds,h=>by let⟨d,_,h⟩:=AY.mp h;let⟨es,e2,h⟩:=AY.mp h;cases h;simp[uW e2]
def JAn {f n fa}{E:XK}(h:ax K (gd f n fa) Y H Q):sU (borN n (Ae K n (pX K f))) [] E (gr K fa) Y H Q:=by
 let⟨O,U,m,d,U',hl,hs,e,k⟩:=h;let⟨⟨xs,U1⟩,e1,e⟩:=AY.mp e;let⟨ds,e2,e⟩:=AY.mp e;split at e
 ·rename_i hn;let⟨d1,e3,e⟩:=AY.mp e;split at e
  ·rename_i hf
   cases e;refine{O,U,m,xs,_,hl,hs,e1,λvs H1 m1 x1 s1 r1=>?_};have hx:xs.length=n:=(uW e2).trans hn
   show borN n (Ae K n (pX K f)) (vs++[]) H1 Q E
   rw[Cg,←hx];refine IT (dsP:=[]) (vsP:=[]) (P:=λ_ v H'=>ak K H' d1 v) s1 xs vs ds H1 Q .refl rfl r1 e2 ?_ (by simp[hn,hx]) λv H2 Dt c s p=>?_
   ·rw[Dd];unfold pX;rw[e3];rfl
   ·exact k v _ m1 (x1.trans (uU.ext nD)) (s1.same nD) (um c s _ _ hf p)
  ·cases e
 ·cases e
def JAo {f n fa}{E:XK}(h:ax K (iO f n fa) Y H Q):sU (borN n (Ae K n (cX K f))) [] E (gr K fa) Y H Q:=by
 let⟨O,U,m,d,U',hl,hs,e,k⟩:=h;let⟨⟨xs,U1⟩,e1,e⟩:=AY.mp e;let⟨ds,e2,e⟩:=AY.mp e;split at e
 ·rename_i hn;let⟨c1,e3,e⟩:=AY.mp e;split at e
  ·rename_i hf
   cases e;refine{O,U,m,xs,_,hl,hs,e1,λvs H1 m1 x1 s1 r1=>?_};have hx:xs.length=n:=(uW e2).trans hn
   show borN n (Ae K n (cX K f)) (vs++[]) H1 Q E
   rw[Cg,←hx];refine IT (dsP:=[]) (vsP:=[]) (P:=λH v H'=>∃a,v=.ref a/\H a=none/\gl K [] H' c1 a) s1 xs vs ds H1 Q .refl rfl r1 e2 ?_ (by simp[hn,hx]) λv H2 Dt c s p=>?_
   ·rw[Dd];unfold cX;rw[e3];rfl
   ·let⟨a,rfl,ha,hc⟩:=p;have h1a:H1 a=none:=by
     rcases c a with z|⟨u,o,_,_,z⟩
     ·rw[←z,ha]
     ·rw[ha] at z;cases z
    have at':∀u,H2 a=some u->pz H1 H2 a=some u:=λu q=>(by unfold pz;rw[h1a];exact q);have Hu:gl K (m1++[a]) (pz H1 H2) c1 a:=by
     cases c1 with
     |lst xs=>let⟨vs,q,r⟩:=hc;exact{vs,at' _ q,flats_ovr c s _ _ hf r}
     |dct A4=>let⟨es,q,q2,r⟩:=hc;exact{es,at' _ q,q2,flats_ovr c s _ _ hf r}
     |fz xs=>cases hf
     |fzt A4=>cases hf
     |hk A4=>cases hf
     |fzd A4=>cases hf
     |dr A4=>cases hf
     |lr xs=>cases hf
     |dt A4=>cases hf
     |tb _ _=>cases hf
     |ob _ _=>cases hf
     |tr _=>cases hf
     |fzr _=>cases hf
     |dtr _=>cases hf
    have IQ:a∉m1:=s1.fresh h1a;have ext:dz m1 H1 (m1++[a]) (pz H1 H2):=by have z:=uU.ext (m:=m1) (nD (H:=H1) (H2:=H2));exact{{[a],rfl,λb hb=>by rw[Bg.mp hb];exact h1a},z.tf,z.keep,z.live}
    have srel:aJ K (m1++[a]) (pz H1 H2) (U1++[c1]):=by
     have s1':=s1.same (nD (H:=H1) (H2:=H2));refine{EI.mpr {s1.nd,by simp,λb hb b' hb'=>?_},by simp[s1.len],λi c' b q1 q2=>?_}
     ·rw[Bg.mp hb'];rintro rfl;exact IQ hb
     ·by_cases hi:i<m1.length
      ·rw[BY hi] at q2;rw[BY (by rw[←s1.len];exact hi)] at q1;exact(s1'.cell i c' b q1 q2).same (λ_ _ z=>z) {[a],rfl}
      ·have hl:=s1.len;rw[DO ∅] at q2;rw[DO ∅] at q1;have z:i-m1.length=0:=by
        cases q:i-m1.length with
        |zero=>rfl
        |succ k=>rw[q] at q2;simp at q2
       have z':i-U1.length=0:=∅;rw[z] at q2;rw[z'] at q1;simp at q1 q2;subst q1 q2;exact Hu
    exact k _ _ (m1++[a]) (x1.trans ext) srel {a,rfl,by rw[←s1.len];simp}
  ·cases e
 ·cases e
end
theorem nQ.okN {P:A9}{w:AF}{K:AP}{mg:Td}{base:AD}{x qual:Str}{st:Ad}{f:A3}{fd:FuncData}{N ps:Tn}{k:Nat}{b:FS}(F:nQ K x qual st f fd)(S:aA N ps (ai st))
  (An:∀(Ah:A2) (A:AE) (outer:P4 Env) (s:A1) (H:Hp) (E:XK),bv k (A.deeper (envOfC qual (ai st) s.heap.objs.size f Ah))->nB (jf j7 P w K mg base N qual (ai st) f Ah A outer s H E).nox (bq st) (eB K b)) :
  b9 P w K mg base j7 (k+1) f fd ps (Ae K ps.length (cX K (yo N.length b))):=by
 have G:b9 P w K mg base j7 (k+1) f fd ps (λvs H Q _=>vs.length=ps.length/\eB K b {nx:=λ_ H'=>Q .non H',rt:=Q} (L2.eW N vs) H) :=
  L2.nQ.ok F S (λvs H Q E h=>h.1) λAh A outer s H vs Q E hr h=>{_,An Ah A outer s H E hr,h.2}
 refine G.imp λvs H Q E hh=>?_;let⟨ds,P',hn,r,e,k⟩:=hh;refine{by rw[←r.length];exact hn,?_};let⟨c,ec,rfl⟩:=DX.mp e;let⟨o,e1,e2⟩:=AY.mp ec;refine{_,[],[],o,p9 r,.nil,e1,?_}
 cases o with
 |nx O U=>cases e2
 |bk O U=>cases e2
 |ct O U=>cases e2
 |rt d U=>
  cases d with
  |v d=>cases e2
  |s b xs=>cases e2
  |x _=>cases e2
  |f _ _=>cases e2
  |p n=>
   intro v H' m' x s' r';let⟨a,rfl,ha⟩:=r';unfold B3 at e2;have cell:∀c',U[n]?=some c'->gl K m' H' c' a:=λc' q=>s'.cell n c' a q ha
   have free:H a=none:=by
    let⟨e,rfl,f⟩:=x.ext;exact f a ‹DM ha›
   simp only at e2;split at e2
   ·rename_i xs q;cases e2;exact k _ _ x.sam {a,rfl,free,cell _ q}
   ·rename_i A4 q;cases e2;exact k _ _ x.sam {a,rfl,free,cell _ q}
   ·cases e2
end HW
namespace HW
variable {K:AP}
open PyProof.Rows L2
def F7 (K:AP):R2:=λx y H Q=>∃a b ys,x=.ref a/\y=.ref b/\gp K H a []/\gp K H b ys/\ys.length<=sizeLine/\Q (.ref b) H
def JCs {X:Cx}:jO X (binaryOp .Add) (F7 X.K):=by
 intro Qa s Y H x y v u Q I rx ry h;let⟨a,b,ys,rfl,rfl,ha,hb,hz,q⟩:=h;cases rx;cases ry;let⟨its,r1,p1,_⟩:=I.tuple ha;let⟨EN,r2,p2,_⟩:=I.tuple hb;cases r1;let⟨⟨cls,dd,data,sl⟩,ho,hc,n,hd⟩:=id p1;let⟨⟨cls2,dd2,data2,sl2⟩,G5,hc2,n2,hd2⟩:=id p2;simp only at hc hd hc2 hd2;subst hc hd hc2 hd2;exact concat_meets {_,ho,rfl} {_,G5,rfl} noFill_tuple_add seq_tuple_add PySem.F.slot_tuple_add PySem.F.entry_tuple_add (PySem.F.args_tuple_add_2 _ _)
  (tuple_addW0 a b #[] EN.toArray n n2 dd dd2 sl sl2 ∅) {ho,G5,{.ref b,H,I,rfl,q}}
noncomputable def ez:R->R->ac->QI (R×ac)
 |.v (.tup []),.v (.tup ys),U=>if ys.length<=sizeLine then some (.v (.tup ys),U) else none
 |x,y,U=>EY x y U
def Jq :pB K ez (λx y H Q=>F8 K x y H Q\/F7 K x y H Q):=by
 intro m H U x y d U' v u Q s rx ry e k;unfold ez at e;split at e
 ·split at e
  ·rename_i z
   cases e;have ry':=ry;rwa[av,ak] at rx ry;let⟨a,vs,rfl,qa,ra⟩:=rx;let⟨b,ws,rfl,qb,rb⟩:=ry;have ra:vs=[]:=(by simpa only[RelDs] using ra);subst ra;exact .inr {a,b,ws,rfl,rfl,qa,qb,by rw[←rb.length];exact z,k _ H m .refl s ry'}
  ·cases e
 ·exact .inl (Mb m H U _ _ d U' v u Q s rx ry e k)
def AO:V->V->V->Hp->(Hp->Prop)->Prop:=λo i v H Q=>∃p A4 k,o=.ref p/\i=kV k/\H p=some (.dK A4)/\A4.length<sizeLine/\Q (upd H p (.dK (eF A4 k v)))
def JA0 {X:Cx}(hu:X.A.units+1<cLine):uR X AO:=by intro Qa s Y H o i v ov iv u Q I ro ri rv h;let⟨p,A4,k,rfl,rfl,hp,hl,q⟩:=h;cases ro;exact zb hu I (Fb.k hp hl) ri rv λs' I'=>{_,I',q}
def uR.or {t u:E3}(h:uR X t)(h':uR X u):uR X (λo i v H Q=>t o i v H Q\/u o i v H Q):=λQa s Y H o i v ov iv z Q I ro ri rv q=>by
 rcases q with q|q
 ·exact h Qa s Y H o i v ov iv z Q I ro ri rv q
 ·exact h' Qa s Y H o i v ov iv z Q I ro ri rv q
noncomputable def kz:R->QI aE
 |.v (.int i)=>some (.inl i)
 |.v (.str x)=>some (.inr (some x))
 |.v .non=>some (.inr none)
 |_=>none
noncomputable def vz (o i:R)(dv:D)(U:ac):QI ac:=match o with
 |.p n=>match U[n]? with
  |some (.lst xs)=>(match i with|.v (.int k)=>(CY xs.length k).bind λj=>some (U.set n (.lst (xs.set j dv)))|_=>none)
  |some (.dct A4)=>if A4.length<sizeLine then (kz i).bind λk=>some (U.set n (.dct (fI A4 k dv))) else none
  |_=>none
 |_=>none
noncomputable def rX (fo fi:FE):FG:=λd O U=>match d with|.v dv=>(fo O U).bind λo=>(fi O o.2).bind λi=>(vz o.1 i.1 dv i.2).bind λU'=>some (O,U')|_=>none
theorem RelDs.setAt {K:AP}{H:Hp}{d:D}{v:V}(h:ak K H d v):∀{ds:P4 D} {vs:P4 V} (j:Nat),RelDs K H ds vs->RelDs K H (ds.set j d) (vs.set j v)
 |[],vs,j,r=>by have r:vs=[]:=r;subst r;exact rfl
 |_::_,_,0,⟨v',r,e,h1,h2⟩=>by subst e;exact{v,r,rfl,h,h2}
 |_::_,_,j+1,⟨v',r,e,h1,h2⟩=>by subst e;exact{v',_,rfl,h1,RelDs.setAt h j h2}
def xv {m:Tf}{H:Hp}{x:R}{v:V}{k:aE}(r:av K m H x v)(e:kz x=some k):v=kV k:=by
 unfold kz at e;split at e
 ·cases e;simpa only[av,ak,kV] using r
 ·cases e;simpa only[av,ak,kV] using r
 ·cases e;simpa only[av,ak,kV] using r
 ·cases e
def JGx {K:AP}{m:Tf}{H:Hp}{U U':ac}{o i:R}{dv:D}{vo vi v:V}{Q:Hp->Prop}(s:aJ K m H U)(ro:av K m H o vo)(ri:av K m H i vi)(rv:ak K H dv v)(e:vz o i dv U=some U')
  (k:∀H',dz m H m H'->aJ K m H' U'->Q H'):AN vo vi v H Q\/AO vo vi v H Q:=by
 unfold vz at e;split at e
 ·rename_i n
  split at e
  ·rename_i xs q
   split at e
   ·rename_i j
    let⟨w,e1,e⟩:=AY.mp e;cases e;let⟨a,rfl,ha⟩:=ro
    have ri:vi=.int j:=by simpa only[av,ak] using ri
    subst ri;let⟨ws,ea,ra⟩:=s.cell _ _ a q ha;have x:dz m H m (upd H a (.lst (ws.set w v))):=.put (DM ha) ea ∅ ∅;exact .inl {a,ws,j,w,rfl,rfl,ea,by rw[←ra.length];exact e1,k _ x (s.put ha ea ∅ ∅ {_,bN,RelDs.tf x.tf _ _ (RelDs.setAt rv w ra)})}
   ·cases e
  ·rename_i A4 q
   split at e
   ·rename_i hl
    let⟨w,e1,e⟩:=AY.mp e;cases e;let⟨a,rfl,ha⟩:=ro;let⟨es,ea,q1,q2⟩:=s.cell _ _ a q ha;have kd:KD K H A4 es:={q1,q2};have kd':=kd.put (k:=w) rv;have x:dz m H m (upd H a (.dK (eF es w v))):=.put (DM ha) ea ∅ ∅;exact .inr {a,es,w,rfl,xv ri e1,ea,by have:=AI List.length q1;simp at this;omega,k _ x (s.put ha ea ∅ ∅ {_,bN,kd'.1,RelDs.tf x.tf _ _ kd'.2})}
   ·cases e
  ·cases e
 ·cases e
def JD4 {fo fi:FE}{v:V}{H:Hp}{Q:L2.St->Hp->Prop}(h:px K (rX fo fi) v Y H Q):L2.rX (ax K fo) (ax K fi) (λo i v H Q=>AN o i v H Q\/AO o i v H Q) v Y H Q:=by
 let⟨O,U,m,d,O',U',hl,hs,r,e,k⟩:=h;unfold rX at e;split at e
 ·rename_i dv;let⟨⟨o,U1⟩,e1,e⟩:=AY.mp e;let⟨⟨i,U2⟩,e2,e⟩:=AY.mp e;let⟨U3,e3,e⟩:=AY.mp e;cases e;refine{O,U,m,o,U1,hl,hs,e1,λvo H1 m1 x1 s1 r1=>?_};refine{O,U1,m1,i,U2,hl.ext x1,s1,e2,λvi H2 m2 x2 s2 r2=>?_};exact JGx s2 (r1.ext x2) r2 (ak.tf (x1.tf.trans x2.tf) _ _ r) e3 λH3 x3 s3=>k Y H3 m2 ((x1.trans x2).trans x3) s3 (hl.ext ((x1.trans x2).trans x3))
 ·cases e
noncomputable def OX (lt:Int->Int->A7)(ns:Th):Int:=ns.getD (argBest (λi j=>lt (ns.getD i 0) (ns.getD j 0)) (ns.length-1)) 0
end HW
namespace HS
open PyProof.Rows L2
section
variable {prog:A9}{w:AF}{A:AE}{E:Tb}{s:A1}
def yU {a:A3}{Q:A7->A1->Prop}(hT:s.TypeIs (.ref a) "dict")(h:Q false s):wpAny (model prog w) A (listLengthHint (.ref a)) Q E s:=PySem.W.kdl_hint_dict hT h
end
end HS
namespace HW
open PyProof.Rows L2 HS
noncomputable def El:P4 aE->QI (Th)
 |[]=>some []
 |.inl n::r=>(El r).map (n :: ·)
 |_=>none
end HW
namespace HW
variable {K:AP}
open PyProof.Rows L2
def gk (K:AP)(mg:Td)(x:Str)(d:D):Prop:=∃u v,mg x=some u/\aT v u/\∀H,ak K H d v
def Fd (K:AP)(d:D)(v:V)(u:A2):Prop:=aT v u/\∀H,ak K H d v
def xY (K:AP)(ds:P4 D)(vs:P4 V)(us:Te):Prop:=aS vs us/\∀H,RelDs K H ds vs
def gD :xY K [] [] []:={.nil,λ_=>rfl}
def ff {d:D}{v:V}{u:A2}{ds:P4 D}{vs:P4 V}{us:Te}(h:Fd K d v u)(h':xY K ds vs us):xY K (d::ds) (v::vs) (u::us) :=
 {.cons h.1 h'.1,λH=>by rwa[RelDs];exact{_,_,rfl,h.2 H,h'.2 H}}
def Ct {b:A7}:Fd K (.bl b) (.bl b) (.bool b):={rfl,λH=>by rwa[ak]}
def jK {K:AP}{a:A3}{us:Te}{n:Nat}{sl:AB (Tg)}{ds:P4 D}{vs:P4 V}(h:K.lookup a=some {.type "tuple",none,.seq us.toArray n,sl})(hz:us.length<=sizeLine)(r:xY K ds vs us):Fd K (.tup ds) (.ref a) (.ref a) :=
 {rfl,λH=>by rwa[ak];exact{a,vs,rfl,.inr {_,us.toArray,n,h,rfl,rfl,rfl,by simpa using hz,by simpa using r.1},r.2 H}}
def ph {mg:Td}{x:Str}{u:A2}{d:D}{v:V}(hm:mg x=some u)(r:Fd K d v u):gk K mg x d:={u,v,hm,r.1,r.2}
def Ab (i j c:Int):Prop:=c≠0/\-(2 ^ 30)<c/\c<2 ^ 30
instance {i j c:Int}:Decidable (Ab i j c):=by unfold Ab;infer_instance
end HW
namespace L2
open PyProof.Rows
section
variable {X:Cx}{Qa:Tc}{Y:St}{H:Hp}{s:A1}{h':AD}
def ay.turnedL {t':Nat}{its:Tf}(I:ay X Qa Y H s)(k:∀b o,b∉its->s.heap.get? b=some o->h'.get? b=some o)
  (hf:∀it∈its,H it=none/\it≠X.env.locals/\(it∈X.ex\/X.s₀.heap.objs.size<=it)/\(∀x c,X.env.cells.lookup x=some c->c≠it)/\∀p∈X.pn++Qa,p.1≠it):ay X Qa Y H {s with heap:=h',toks:=t'}:=by
 have nit:∀b u,H b=some u->b∉its:=λb u e z=>by rw[(hf b z).1] at e;cases e
 refine I.step (g':=s.gens) (d':=s.drawn) (ch:=its) (λb hb=>?_) (λb o _ _ hc e _=>k b o hc e) (λb o _ _ hc e _=>{o.slots,k b o hc e}) (λ_ _ _ _ n=>n)
  (λb o hc e=>{o,k b o hc e}) (λ_ _ e=>e) (λ_ _ _ e=>e) (λb ps e=>{#[],by rw[e];simp}) (λm hm=>?_) (λb u e=>?_) I.bare
 ·let⟨_,hL,h1,h2,h3⟩:=hf b hb
  exact{h1,hL,h2,h3}
 ·let⟨o,es,ep,ho,r⟩:=hm
  exact{o,es,ep,k _ o (λz=>(hf _ z).2.1 rfl) ho,r}
 ·refine(I.hok b u e).stay (λc v hc q=>k c v ?_ q) (λ_ q=>q) λ_ _ q=>q
  rcases hc with z|z
  ·rw[z];exact nit b u e
  ·exact nit c _ z
end
def xa {h:AD}{o:As}{b:A3}(hb:b<h.objs.size):(h.push o).get? b=h.get? b:=by unfold Heap.get? Heap.push;simp[Array.getElem?_push,BE hb]
end L2
namespace HW
open PyProof.Rows L2
structure CT (K:AP)(J:It)(xs:List D)(P:Hp->Prop):Prop where
 st:∀H H',TF H H'->P H->P H'
 stop:∀i H,P H->xs.length<=i->J.stop i H
 go:∀(i:Nat) d H,xs[i]?=some d->P H->J.go i H
 yld:∀(i:Nat) d H x H',xs[i]?=some d->P H->J.yld i H x H'->(∀a o,H a=some o->H' a=some o)/\ak K H' d x
def rq (K:AP)(f:FI):TI:=λY H R=>∃O U m xs U',dX K m H O Y/\aJ K m H U/\f O U=some (xs,U') /\
 ∀J P H' m',dz m H m' H'->aJ K m' H' U'->CT K J xs P->P H'->R J H'
def lN {m:Tf}{H H':Hp}(s:∀a o,H a=some o->H' a=some o):dz m H m H' :=
 {{[],by simp,λ_ z=>nomatch z},{λa xs e=>s _ _ e,λa o x e=>s _ _ e},λa o e _=>s _ _ e,λa e=>by
  cases q:H a with
  |none=>rfl
  |some o=>rw[s _ _ q] at e;cases e}
section
variable {K:AP}{m:Tf}{Y:L2.St}{H:Hp}{U:ac}{D:fT}
def wT {fi g b}(h:eB K (gM fi g b) D Y H):Ha (rq K fi) (px K g) (eB K b) D Y H:=by
 let⟨O,U,m,o,hl,hs,e,k⟩:=h;let⟨⟨xs,U1⟩,e1,e⟩:=AY.mp e;refine{O,U,m,xs,U1,hl,hs,e1,λJ P H1 m1 x1 s1 ok p1=>?_};refine{λi n Y H=>n=xs.length-i/\i<=xs.length/\P H/\∃O U m,dX K m H O Y/\aJ K m H U/\eK g b (xs.drop i) O U=some o/\fT.of K m H D o,
  {_,rfl,DH _,p1,O,U1,m1,dX.ext x1 hl,s1,by simpa using e,fT.of_ext x1 k},?_}
 rintro i n Y H ⟨rfl,hi,p,O,U,m,hl,hs,e,k⟩;by_cases Al:i<xs.length
 ·have hx:xs[i]?=some xs[i]:=Bl Al;rw[zbl Al,eK] at e;let⟨⟨O1,U1⟩,e1,e⟩:=AY.mp e;let⟨o1,e2,e⟩:=AY.mp e;refine .inr {ok.go i _ H hx p,λY H=>i+1<=xs.length/\P H/\∃O U m,dX K m H O Y/\aJ K m H U/\eK g b (xs.drop (i+1)) O U=some o/\fT.of K m H D o,
   λY' H' z=>{xs.length-(i+1),by omega,rfl,z},λx H' y=>?_}
  let⟨xe,rx⟩:=ok.yld i _ H x H' hx p y;have x0:dz m H m H':=lN xe;refine{O,U,m,.v xs[i],O1,U1,dX.ext x0 hl,hs.same xe,rx,e1,λY1 H1 m1 x1 s1 l1=>?_};have x1:=x0.trans x1;refine{O1,U1,m1,o1,l1,s1,e2,?_}
  cases o1 with
  |nx O2 U2=>exact λY2 H2 m2 x2 s2 l2=>{Al,ok.st _ _ (x1.trans x2).tf p,O2,U2,m2,l2,s2,e,fT.of_ext (x1.trans x2) k}
  |ct O2 U2=>exact λY2 H2 m2 x2 s2 l2=>{Al,ok.st _ _ (x1.trans x2).tf p,O2,U2,m2,l2,s2,e,fT.of_ext (x1.trans x2) k}
  |bk O2 U2=>cases e;exact λY2 H2 m2 x2 s2 l2=>k Y2 H2 m2 (x1.trans x2) s2 l2
  |rt d U2=>cases e;exact λv H2 m2 x2 s2 l2=>k v H2 m2 (x1.trans x2) s2 l2
 ·have:i=xs.length:=by omega
  subst this;rw[List.drop_length,eK] at e;cases e;exact .inl {ok.stop _ H p (Ao _),k Y H m .refl hs hl}
def JFj {fi g b}(h:eB K (gM fi g b) D Y H):Ha (AG K fi) (px K g) (eB K b) D Y H :=
 let ⟨O,U,m,xs,U',hl,hs,e,k⟩:=wT h
 {O,U,m,xs,U',hl,hs,e,λJ P H' m' x s ok p=>k J P H' m' x s {ok.st,ok.stop,ok.go,λi d H x H' e p y=>by let⟨rfl,r⟩:=ok.yld i d H x H' e p y;exact{λ_ _ z=>z,r}} p}
end
def jr {H:Hp}{T:A3}{o':HO}(h:H T=none)(a:A3)(o:HO)(e:H a=some o):upd H T o' a=some o:=by
 have ne:a≠T:=λz=>by rw[z,h] at e;cases e
 rw[aq ne];exact e
end HW
namespace HS
open PyProof.Rows
end HS
namespace HW
open PyProof.Rows L2 HS
end HW
namespace HS
open PyProof.Rows
end HS
namespace HW
open PyProof.Rows L2 HS
end HW
namespace HX
abbrev eO (C:A2)(vs:Ti):As:={cls:=C,dict:=none,data:=.fields vs,slots:=#[]}
structure Fl (G:Addr->Prop)(h:Heap)(e:Addr)(C fl:Value):Prop where
 is:∃vs T ts c,¬ G e/\¬ G T/\T≠e/\h.get? e=some (eO C vs)/\vs[1]?=some (.ref T)/\h.get? T=some (eO c ts)/\ts[3]?=some fl
 all:∀b,G b->∃o,h.get? b=some o
end HX
namespace HW
open PyProof.Rows L2
abbrev JAa (K:AP)(c:Str)(C:A3):Prop:=PySem.W.nsIn K mainGlobals c=some (some (.ref C))
structure QF (K:AP)(D:Addr):Prop where
 dc:PySem.W.hasDictIn K D=true
 ga:PySem.W.findIn K (.ref D) "__getattribute__" = some (some (.builtin "BaseException.__getattribute__"))
 gn:PySem.W.findIn K (.ref D) "__getattr__" = some none
 fi:PySem.W.findIn K (.ref D) "__class__" = some (some (.builtin "object.__class__"))
 mr:PySem.W.mroIn K D (.type "object")=some true
 mb:PySem.W.mroIn K D (.type "BaseException")=some true
 gt:PySem.W.specialIn K (.builtin "object.__class__") "__get__" = some (some (.builtin "getset_descriptor.__get__"))
 tk:PySem.W.takesIn K (.builtin "object.__class__")=some true
end HW
namespace HW
open L2
end HW
namespace HX
end HX
namespace HW
open PyProof.Rows L2
def Lb:V->QI Int->QI Int->Hp->VK->Prop:=λx lo hi H Q=>∃z,x=.str z/\z.length<=sizeLine/\Q (.str (Txt.slice z lo hi)) H
theorem JFx:zv X Lb:=by
 intro Qa s Y H x v vl vu lo hi sl Q I rx hs pl pu h;obtain⟨z,rfl,hz,q⟩:=h;obtain⟨t,rfl⟩:=rx;refine{"str",_,PySem.F.slot_str_getitem.lookup,typeIs_str _ _ _,?_};have fin:∀(l u:QI (Int×Tok)),lo=l.map (·.1)->hi=u.map (·.1)->s.heap.IsSlice sl l u none->wpAny (model X.prog X.w) X.A (getItem (.str z t) (.ref sl)) (EP X Qa Y Q) X.xe s:=λl u e1 e2 hS=>by subst e1 e2;refine wpAny_getItem_str_slice (l:=l) (u:=u) (st:=none) hS rfl ?_;exact post_val_or_str {DK (Txt.slice_le z _ _) hz,λt' k=>{.str _,H,I.tok k,{_,rfl},q}}
 cases pl with
 |none=>
  cases pu with
  |none=>exact fin none none rfl rfl hs
  |int j tj=>exact fin none (some (j,tj)) rfl rfl hs
 |int i ti=>
  cases pu with
  |none=>exact fin (some (i,ti)) none rfl rfl hs
  |int j tj=>exact fin (some (i,ti)) (some (j,tj)) rfl rfl hs
section
variable {K:AP}{H:Hp}{Q:VK}
noncomputable def Aj (x:R)(lo hi:QI Int)(U:ac):QI (R×ac):=match x with
 |.v (.str z)=>if z.length<=sizeLine then some (.v (.str (Txt.slice z lo hi)),U) else none
 |_=>none
noncomputable def Gp:R->R->ac->QI (R×ac)
 |.v (.str z),.v (.int i),U=>if 0<=i/\i<2 ^ 63/\i<z.length then (z.cps[i.toNat]?).bind λc=>some (.v (.str ⟨#[c]⟩),U) else none
 |_,_,_=>none
def L5:pB K Gp (λx y H Q=>∃z i c,x=.str z/\y=.int i/\0<=i/\i<2 ^ 63/\i<z.length/\z.cps[i.toNat]?=some c/\Q (.str ⟨#[c]⟩) H):=by
 intro m H U x y d U' v u Q s rx ry e k;unfold Gp at e;split at e
 ·rename_i z i;split at e
  ·rename_i c;let⟨c',e1,e⟩:=AY.mp e;cases e;rwa[av,ak] at rx ry;subst rx ry;exact{z,i,c',rfl,rfl,c.1,c.2.1,c.2.2,e1,k _ H m .refl s (by rwa[av,ak])}
  ·cases e
 ·cases e
noncomputable def yJ:P4 R->ac->QI (R×ac)
 |[.v (.str z)],U=>if z.length<=sizeLine then some (.v (.int z.length),U) else none
 |_,_=>none
def Jn:zr K yJ (λxs H Q=>∃z,xs=[.str z]/\z.length<=sizeLine/\Q (.int z.length) H):=by
 intro m H U xs d U' vs Q s r e k;unfold yJ at e;split at e
 ·rename_i z;split at e
  ·rename_i hz
   cases e;let⟨v,rfl,r1⟩:=mh r;rwa[av,ak] at r1;subst r1;exact{z,rfl,hz,k _ H m .refl s (by rwa[av,ak])}
  ·cases e
 ·cases e
end
theorem nX:∀{its:Te} {ts:Tn},aS (ts.map V.str) its->∃l:P4 (Str×Tok),its=strValues l/\l.map (·.1)=ts
 |its,[],r=>by
  have:=r.length
  cases its with
  |nil=>exact{[],rfl,rfl}
  |cons a b=>simp at this
 |its,x::ts,r=>by
  cases r with
  |cons r1 r2=>
   let⟨l,e1,e2⟩:=nX r2;let⟨t,rfl⟩:=r1;exact{(x,t)::l,by rw[e1];rfl,by rw[Ak,e2]}
def F5 (K:AP):V->P4 V->Hp->VK->Prop:=λx ys H Q=>∃a p ts,x=.str a/\ys=[.ref p]/\j6 K H p (ts.map V.str)/\JoinOk a ts=true/\Q (.str (Txt.join a ts)) H
def JCw {X:Cx}:P9 X "str.join" (F5 X.K):=by intro Qa s Y H x xs v us Q I rx rv h;obtain⟨a,p,ts,rfl,rfl,hq,hok,q⟩:=h;obtain⟨t,rfl⟩:=rx;obtain⟨u,rfl,ru⟩:=i5 rv;cases ru;obtain⟨its,r',pl,hz⟩:=I.list hq;obtain⟨l,rfl,e2⟩:=nX r';exact SC.join pl.isList e2 hok λt' k=>{.str _,H,I.tok k,{_,rfl},q}
structure Qe (K:AP)(g:R->R->ac->Option (R×ac))(r:V->List V->Hp->VK->Prop):Prop where
 str:∀{x y U z},g x y U=some z->∃a,x=.v (.str a)
 go:∀{m H U x y d U' v u} {Q:VK},aJ K m H U->av K m H x v->av K m H y u->g x y U=some (d,U')->(∀w H' m',dz m H m' H'->aJ K m' H' U'->av K m' H' d w->Q w H')->r v [u] H Q
section
variable {K:AP}{Y:L2.St}{H:Hp}{Q:VK}
def JFn {g r fa fb}(hg:Qe K g r)(h:ax K (aw g fa fb) Y H Q):NI K "str" r (ax K fa) (z7 (ax K fb) Dc) Y H Q:=by obtain⟨O,U,m,d,U',hl,hs,e,k⟩:=h;obtain⟨⟨x,U1⟩,e1,e⟩:=AY.mp e;obtain⟨⟨y,U2⟩,e2,e⟩:=AY.mp e;obtain⟨a,hx⟩:=hg.str e;simp only at hx;subst hx;refine{O,U,m,_,U1,hl,hs,e1,λv H1 m1 x1 s1 r1=>?_};have r1':=r1;rwa[av,ak] at r1';subst r1';refine{rfl,O,U1,m1,_,_,hl.ext x1,s1,e2,λu H2 m2 x2 s2 r2=>?_};exact hg.go s2 (r1.ext x2) r2 e λw H3 m3 x3 s3 r3=>k w H3 m3 ((x1.trans x2).trans x3) s3 r3
noncomputable def l4:P4 D->QI (Tn)
 |[]=>some []
 |.str x::r=>(l4 r).bind λl=>some (x::l)
 |_=>none
theorem p6:∀{ds:P4 D} {ts:Tn} {vs:P4 V},l4 ds=some ts->RelDs K H ds vs->vs=ts.map V.str
 |[],ts,vs,e,r=>by cases e;rwa[RelDs] at r;exact r
 |d::ds,ts,vs,e,r=>by
  cases d with
  |str x=>
   let⟨l,e1,e2⟩:=AY.mp e;cases e2;rwa[RelDs] at r;let⟨v,r',rfl,h1,h2⟩:=r;rwa[ak] at h1;rw[h1,p6 e1 h2];rfl
  |non=>cases e
  |bl _=>cases e
  |int _=>cases e
  |tup _=>cases e
  |fl _=>cases e
  |fd _ _=>cases e
  |key _=>cases e
noncomputable def qp:R->R->ac->QI (R×ac)
 |.v (.str a),y,U=>(j9 y U).bind λds=>(l4 ds).bind λts=>if JoinOk a ts=true then some (.v (.str (Txt.join a ts)),U) else none
 |_,_,_=>none
def Jo:Qe K qp (F5 K) where
 str:=λ{x y U z} e=>by
  unfold qp at e;split at e
  ·exact{_,rfl}
  ·cases e
 go:=λ{m H U x y d U' v u Q} s rx ry e k=>by
  unfold qp at e;split at e
  ·rename_i a;let⟨ds,e1,e⟩:=AY.mp e;let⟨ts,e2,e⟩:=AY.mp e;split at e
   ·rename_i hok
    cases e;rwa[av,ak] at rx;subst rx;let⟨p,vs,rfl,q,rr⟩:=iF s ry e1;rw[p6 e2 rr] at q;exact{a,p,ts,rfl,rfl,q,hok,k _ H m .refl s (by rwa[av,ak])}
   ·cases e
  ·cases e
end
end HW
namespace HS
open PyProof.Rows
def Ny (xs:AB Keyed)(lo hi:Nat):Prop:=∀i j,lo<=i->i<=j->j<hi->K xs i<=K xs j
def nP (lo hi:Nat)(xs ys:AB Keyed):Prop:=∀k,¬ (lo<=k/\k<hi)->ys[k]?=xs[k]?
structure SB (a₀:Array Keyed)(st:SortSt):Prop where
 perm:(arrOf st).Perm a₀
 kind:kindOf st=oneType'
 ok:failedOf st=none
structure QK (a₀:Array Keyed)(lo hi:Nat)(st CC:SortSt):Prop where
 b:SB a₀ CC
 pend:pendingOf CC=pendingOf st
 out:nP lo hi (arrOf st) (arrOf CC)
section
def IK (xs:AB Keyed):Prop:=∀i,i<xs.size->∃t q,xs[i]?=some (.int (K xs i) t,q)
end
noncomputable def kk (p:Keyed):Int:=numOf p.1
def Le (x y:Keyed):Prop:=kk x<=kk y
structure Mg (A B Ozz:List Keyed)(ia ib:Nat):Prop where
 perm:(Ozz++A.drop ia++B.drop ib).Perm (A++B)
 srt:Ozz.Pairwise Le
 toA:∀x∈Ozz,∀y∈A.drop ia,Le x y
 toB:∀x∈Ozz,∀y∈B.drop ib,Le x y
 len:Ozz.length=ia+ib
structure P7 (st CC:SortSt):Prop where
 kind:kindOf CC=kindOf st
 arr:arrOf CC=arrOf st
 pend:pendingOf CC=pendingOf st
 ok:failedOf CC=failedOf st
section
structure QL (a b:Array Keyed):Prop where
 ka:IK a
 kb:IK b
 sa:Ny a 0 a.size
 sb:Ny b 0 b.size
 na:0<a.size
 nb:0<b.size
end
structure Mh (A B Ozz:List Keyed)(na nb:Nat):Prop where
 perm:(A.take na++B.take nb++Ozz).Perm (A++B)
 srt:Ozz.Pairwise Le
 toA:∀x∈A.take na,∀y∈Ozz,Le x y
 toB:∀x∈B.take nb,∀y∈Ozz,Le x y
structure Wb (xs ys:Array Keyed)(lo hi:Nat):Prop where
 perm:ys.Perm xs
 out:nP lo hi xs ys
 src:∀q,lo<=q->q<hi->∃r,lo<=r/\r<hi/\K ys q=K xs r
 srt:Ny ys lo hi
def Mz (xs:AB Keyed):P4 (Nat×Nat×Nat)->Nat->Nat->Prop
 |[],b,e=>b=e
 |(a,n,_)::r,b,e=>a=b/\0<n/\Ny xs a (a+n)/\Mz xs r (b+n) e
structure O3 (a₀:Array Keyed)(st:SortSt)(lo:Nat):Prop where
 b:SB a₀ st
 r:Mz (arrOf st) (pendingOf st).toList 0 lo
open L2
end HS
namespace HW
open PyProof.Rows L2 HS
end HW
namespace HS
open PyProof.Rows
end HS
namespace HW
open PyProof.Rows L2 HS
end HW
namespace HW
open PyProof.Rows L2
def KR (K:AP)(m:Tf)(H:Hp)(A4:P4 (aE×R))(es:P4 (aE×V)):Prop:=es.map (·.1)=A4.map (·.1)/\aR K m H (A4.map (·.2)) (es.map (·.2))
noncomputable def kE (A4:P4 (aE×R))(k:aE):QI R:=(A4.find? λkv=>decide (kv.1=k)).map (·.2)
section
variable {K:AP}{m:Tf}{H:Hp}
def KR.cons {k k':aE}{d:R}{v:V}{A4:P4 (aE×R)}{es:P4 (aE×V)}:KR K m H ((k,d)::A4) ((k',v)::es) ↔ k'=k/\av K m H d v/\KR K m H A4 es:=by
 constructor
 ·rintro⟨h1,h2⟩;rwa[Ak,List.cons.injEq] at h1;let⟨w,r,e,h3,h4⟩:=h2;rwa[Ak,List.cons.injEq] at e;let⟨rfl,rfl⟩:=e;exact{h1.1,h3,h1.2,h4}
 ·rintro⟨rfl,h1,h2,h3⟩;exact{by simp[h2],{_,_,rfl,h1,h3}}
theorem KR.val:∀{A4:P4 (aE×R)} {es:P4 (aE×V)} (k:aE),KR K m H A4 es->(kE A4 k=none/\dq es k=none)\/∃d v,kE A4 k=some d/\dq es k=some v/\av K m H d v
 |[],es,k,h=>by
  have:es=[]:=by simpa using h.1
  subst this;exact .inl {rfl,rfl}
 |(a,d)::A4,[],k,h=>by have:=h.1;simp at this
 |(a,d)::A4,(b,v)::es,k,h=>by
  let⟨rfl,h1,h2⟩:=KR.cons.mp h;by_cases e:b=k
  ·refine .inr {d,v,?_,?_,h1}
   ·simp[kE,e]
   ·simp[dq,e]
  ·have ih:=KR.val k h2;have e1:kE ((b,d)::A4) k=kE A4 k:=(by simp[kE,e]);have e2:dq ((b,v)::es) k=dq es k:=gZ e;rw[e1,e2];exact ih
end
noncomputable def pO (x:R)(U:ac):QI (P4 (aE×R)):=match x with
 |.v (.fd ks ds)=>if ks.length=ds.length then some (ks.zip (ds.map R.v)) else none
 |.p n=>match U[n]? with|some (.dct A4)=>some (A4.map λp=>(p.1,R.v p.2))|some (.fzd A4)=>some (A4.map λp=>(p.1,R.v p.2))|some (.dr A4)=>some A4|some (.fzr A4)=>some A4|_=>none
 |_=>none
theorem nE {K:AP}{m:Tf}{H:Hp}:∀{ds:P4 D} {vs:P4 V},RelDs K H ds vs->aR K m H (ds.map R.v) vs
 |[],_,h=>h
 |_::_,_,⟨v,r,e,h1,h2⟩=>{v,r,e,h1,nE h2}
def JEl {K:AP}{m:Tf}{H:Hp}{U:ac}{x:R}{v:V}{A4:P4 (aE×R)}(s:aJ K m H U)(r:av K m H x v)(e:pO x U=some A4):∃a es,v=.ref a/\Rd H a (.dK es)/\KR K m H A4 es:=by
 unfold pO at e;split at e
 ·rename_i ks ds;split at e
  ·rename_i hl
   cases e;rwa[av,ak] at r;let⟨a,o,es,rfl,ea,e1,e2⟩:=r;refine{a,es,rfl,.inr {o,ea},?_,?_}
   ·rw[List.map_fst_zip (by simp[hl]),e1]
   ·rw[List.map_snd_zip (by simp[hl])];exact nE e2
  ·cases e
 ·rename_i n;let⟨a,rfl,ha⟩:=r;split at e
  ·rename_i kv q
   cases e;let⟨es,ea,e1,e2⟩:=s.cell _ _ a q ha;refine{a,es,rfl,.inl ea,by simp[e1,Function.comp_def],?_};have:=nE (m:=m) e2;simpa[Function.comp_def] using this
  ·rename_i kv q
   cases e;let⟨o,es,ea,e1,e2⟩:=s.cell _ _ a q ha;refine{a,es,rfl,.inr {o,ea},by simp[e1,Function.comp_def],?_};have:=nE (m:=m) e2;simpa[Function.comp_def] using this
  ·rename_i kv q
   cases e;let⟨es,ea,e1,e2⟩:=s.cell _ _ a q ha;exact{a,es,rfl,.inl ea,e1,e2}
  ·rename_i kv q
   cases e;let⟨o,es,ea,e1,e2⟩:=s.cell _ _ a q ha;exact{a,es,rfl,.inr {o,ea},e1,e2}
  ·cases e
 ·cases e
noncomputable def je (fo fk:FE):FE:=λO U=>(fo O U).bind λo=>(fk O o.2).bind λk=>(pO o.1 k.2).bind λA4=>(kz k.1).bind λkey=>(kE A4 key).bind λr=>some (r,k.2)
def JFm {K:AP}{H:Hp}{Q:VK}{fo fk}(h:ax K (je fo fk) Y H Q):zZ (ax K fo) (ax K fk) Y H Q:=by
 let⟨O,U,m,d,U',hl,hs,e,kk⟩:=h;let⟨⟨o,U1⟩,e1,e⟩:=AY.mp e;let⟨⟨k,U2⟩,e2,e⟩:=AY.mp e;let⟨A4,e4,e⟩:=AY.mp e;let⟨key,e5,e⟩:=AY.mp e;let⟨r,e6,e⟩:=AY.mp e;cases e;refine{O,U,m,o,U1,hl,hs,e1,λvo H1 m1 x1 s1 r1=>?_};refine{O,U1,m1,k,U2,hl.ext x1,s1,e2,λvk H2 m2 x2 s2 r2=>?_};let⟨a,es,rfl,hR,hK⟩:=JEl s2 (r1.ext x2) e4;have hk:=xv r2 e5;rcases KR.val key hK with⟨n1,n2⟩|⟨dd,vv,n1,n2,n3⟩
 ·rw[n1] at e6;cases e6
 ·rw[n1] at e6;cases e6;exact{a,vv,rfl,.inl {es,key,hR,hk,n2.symm},kk _ H2 m2 (x1.trans x2) s2 n3}
end HW
namespace DU
open PySem.W PyProof.Rows
section
variable {r:Nat->Int}{n:Nat}{s:A1}{cmp:Nat->Nat->(A7->A1->Prop)->A1->Prop}
abbrev key (r:Nat->Int)(p:AB Nat)(k:Nat):Int:=r (p.getD k 0)
def Up (r:Nat->Int)(p:AB Nat)(a:Nat):Prop:=∀i j,i<j->j<a->key r p i<key r p j
def Dn (r:Nat->Int)(p:AB Nat)(a:Nat):Prop:=∀i j,i<j->j<a->key r p j<key r p i
structure Pm (n:Nat)(p:Array Nat):Prop where
 pm:p.toList.Perm (List.range n)
def Pm.size {p:AB Nat}(h:Pm n p):p.size=n:=by have:=h.pm.length_eq;simpa using this
def Pm.lt {p:AB Nat}(h:Pm n p){k:Nat}(hk:k<n):p.getD k 0<n:=by
 have hs:=h.size;have hm:p.getD k 0∈p.toList:=by have:p[k]?=some p[k]:=Cr ∅;rw[Hi,this,zbP];simp
 have:=h.pm.mem_iff.mp hm;simpa using this
def Pm.inj {p:AB Nat}(h:Pm n p){i j:Nat}(hi:i<n)(hj:j<n)(e:p.getD i 0=p.getD j 0):i=j:=by
 have hs:=h.size;have nd:p.toList.Nodup:=h.pm.nodup_iff.mpr List.nodup_range;have ei:p[i]?=some p[i]:=Cr ∅;have ej:p[j]?=some p[j]:=Cr ∅;rw[Hi,Hi,ei,ej,zbP,zbP] at e;have e':p.toList[i]'(by simpa using(by omega:i<p.size))=p.toList[j]'(by simpa using(by omega:j<p.size)):=by simpa using e
 exact(HU nd).mp e'
structure Rk (r:Nat->Int)(n:Nat)(s:Shared)(cmp:Nat->Nat->(Bool->Shared->Prop)->Shared->Prop):Prop where
 inj:∀i j,i<n->j<n->r i=r j->i=j
 ask:∀i j,i<n->j<n->∀C:Bool->Shared->Prop,C (decide (r i<r j)) s->cmp i j C s
def Rk.ne (R:Rk r n s cmp){p:AB Nat}(h:Pm n p){i j:Nat}(hi:i<n)(hj:j<n)(ne:i≠j):key r p i≠key r p j:=λe=>ne (h.inj hi hj (R.inj _ _ (h.lt hi) (h.lt hj) e))
theorem wm (R:Rk r n s cmp){p:AB Nat}(h:Pm n p){Q:Nat->A1->Prop}:∀(f a:Nat),1<=a->a+f<=n->Up r p a->(∀m,a<=m->m<=a+f->Up r p m->(m=a+f\/key r p m<key r p (m-1))->Q m s)->(kas_asc p f a).kasWp cmp Q s
 |0,a,_,_,hu,k=>k a (Ao _) (Ao _) hu (.inl rfl)
 |f+1,a,h1,h2,hu,k=>by
  refine R.ask _ _ (h.lt ∅) (h.lt ∅) _ ?_;by_cases hc:key r p a<key r p (a-1)
  ·have hd:decide (r (p.getD a 0)<r (p.getD (a-1) 0))=true:=Cn hc;rw[hd];exact k a (Ao _) ∅ hu (.inr hc)
  ·have hd:decide (r (p.getD a 0)<r (p.getD (a-1) 0))=false:=Bz hc;rw[hd];have Bd:=R.ne h (show a<n by omega) (show a-1<n by omega) ∅;refine wm R h f (a+1) ∅ ∅ (λi j Dg hj=>?_) λm m1 m2 m3 m4=>k m ∅ ∅ m3 (by rcases m4 with q|q;exact .inl ∅;exact .inr q);by_cases hja:j=a
   ·subst hja;have:key r p i<=key r p (j-1):=by
     by_cases hi:i=j-1
     ·rw[hi];exact zcS _
     ·exact Int.le_of_lt (hu i (j-1) ∅ ∅)
    omega
   ·exact hu i j Dg ∅
theorem xS (R:Rk r n s cmp){p:AB Nat}(h:Pm n p){Q:AB Nat×Nat×Nat->A1->Prop}:∀(f a:Nat),1<=a->a+f<=n->Dn r p a->(∀m,a<=m->m<=a+f->Dn r p m->Q (p,m,0) s)->(kas_desc f p a 0).kasWp cmp Q s
 |0,a,_,_,hu,k=>k a (Ao _) (Ao _) hu
 |f+1,a,h1,h2,hu,k=>by
  refine R.ask _ _ (h.lt ∅) (h.lt ∅) _ ?_;have Bd:=R.ne h (show a<n by omega) (show a-1<n by omega) ∅;by_cases hc:key r p a<key r p (a-1)
  ·have hd:decide (r (p.getD a 0)<r (p.getD (a-1) 0))=true:=Cn hc;rw[hd];refine xS R h f (a+1) ∅ ∅ (λi j Dg hj=>?_) λm m1 m2 m3=>k m ∅ ∅ m3;by_cases hja:j=a
   ·subst hja;have:key r p (j-1)<=key r p i:=by
     by_cases hi:i=j-1
     ·rw[hi];exact zcS _
     ·exact Int.le_of_lt (hu i (j-1) ∅ ∅)
    omega
   ·exact hu i j Dg ∅
  ·have hd:decide (r (p.getD a 0)<r (p.getD (a-1) 0))=false:=Bz hc;rw[hd];refine R.ask _ _ (h.lt ∅) (h.lt ∅) _ ?_;have hd2:decide (r (p.getD (a-1) 0)<r (p.getD a 0))=true:=Cn (show key r p (a-1)<key r p a by omega);rw[hd2];exact k a (Ao _) ∅ hu
def At {p:AB Nat}(h:Pm n p){m k:Nat}(hm:m<=n)(hk:k<m):(kas_rev p 0 m).getD k 0=p.getD (m-1-k) 0:=by
 have hs:=h.size;have:=getElem?_mirror_all (xs:=p) (i:=0) (j:=m) ∅ k;rw[A8 ∅] at this
 unfold kas_rev;rw[Hi,this,Hi];congr 2;omega
def JF3 {p:AB Nat}(h:Pm n p){m:Nat}:Pm n (kas_rev p 0 m):=⟨(Array.perm_iff_toList_perm.mp (mirror_perm p 0 m _)).trans h.pm⟩
def zT (R:Rk r n s cmp){p:AB Nat}(h:Pm n p){Q:Nat×AB Nat->A1->Prop}{a:Nat}(h1:1<=a)(h2:a<=n)(hd:Dn r p a)(k:∀m p',Pm n p'->Up r p' m->1<=m->m<=n->Q (m,p') s):(kas_tail3 a n p).kasWp cmp Q s:=by unfold kas_tail3;rw[KasT.kasWp_bind];have hr:=JF3 h (m:=a);refine wm R hr (n-a) a h1 ∅ (λi j Dg hj=>?_) λm m1 m2 m3 _=>k m _ hr m3 ∅ ∅;unfold key;rw[At h h2 ∅,At h h2 ∅];exact hd (a-1-j) (a-1-i) ∅ ∅
def JCm (R:Rk r n s cmp){p:AB Nat}(h:Pm n p)(hn:1<=n){Q:Nat×AB Nat->A1->Prop}(k:∀m p',Pm n p'->Up r p' m->1<=m->m<=n->Q (m,p') s):(kas_count n p).kasWp cmp Q s:=by
 unfold kas_count;rw[KasT.kasWp_bind];refine wm R h (n-1) 1 (Ao _) ∅ (λi j Dg hj=>by omega) λm m1 m2 m3 m4=>?_;by_cases hm:m=n
 ·subst hm;rw[A8 ∅];exact k m p h m3 hn (Ao _)
 ·rw[A6 ‹hm›];by_cases hm1:m>1
  ·rw[A8 hm1];refine R.ask _ _ (h.lt ∅) (h.lt ∅) _ ?_;have hd:decide (r (p.getD 0 0)<r (p.getD (m-1) 0))=true:=Cn (m3 0 (m-1) ∅ ∅);rw[hd];exact k m p h m3 ∅ ∅
  ·rw[A6 hm1];have GQ:m=1:=∅;subst GQ;have Al:key r p 1<key r p 0:=by
    rcases m4 with q|q
    ·omega
    ·exact q
   unfold kas_descPart;rw[KasT.kasWp_bind];refine xS R h (n-(1+1)) (1+1) ∅ ∅ (λi j Dg hj=>?_) λm' q1 q2 q3=>?_
   ·have hj1:j=1:=by omega
    have hi0:i=0:=∅;subst hj1 hi0;exact Al
   ·show KasT.kasWp cmp (if (0:Nat)>0 then _ else _) Q s
    rw[A6 ∅];exact zT R h (show 1<=m' by omega) (show m'<=n by omega) q3 k
theorem oC (R:Rk r n s cmp){p:AB Nat}(h:Pm n p){Q:Nat->A1->Prop}{k:Nat}(hk:k<n):∀(f l u:Nat),l<=u->u<=k->u-l<=f->(∀i<l,key r p i<key r p k)->(∀i,u<=i->i<k->key r p k<key r p i)->Up r p k ->
  (∀x,x<=k->(∀i<x,key r p i<key r p k)->(∀i,x<=i->i<k->key r p k<key r p i)->Q x s)->(kas_place p k f l u).kasWp cmp Q s
 |0,l,u,h1,h2,h3,hl,hu,_,kk=>kk l ∅ hl (λi h4 h5=>hu i ∅ h5)
 |f+1,l,u,h1,h2,h3,hl,hu,up,kk=>by
  unfold kas_place
  by_cases hlu:l >= u
  ·rw[A8 hlu]
   exact kk l ∅ hl (λi h4 h5=>hu i ∅ h5)
  ·rw[A6 hlu]
   refine R.ask _ _ (h.lt hk) (h.lt ∅) _ ?_;have Bd:=R.ne h hk (show(l+u) / 2<n by omega) ∅
   by_cases hc:key r p k<key r p ((l+u) / 2)
   ·have hd:decide (r (p.getD k 0)<r (p.getD ((l+u) / 2) 0))=true:=Cn hc
    rw[hd];refine oC R h hk f l ((l+u) / 2) ∅ ∅ ∅ hl (λi h4 h5=>?_) up kk
    by_cases hi:i=(l+u) / 2
    ·rw[hi];exact hc
    ·have:=up ((l+u) / 2) i ∅ h5
     omega
   ·have hd:decide (r (p.getD k 0)<r (p.getD ((l+u) / 2) 0))=false:=Bz hc
    rw[hd];refine oC R h hk f ((l+u) / 2+1) u ∅ h2 ∅ (λi hi=>?_) hu up kk
    by_cases Dh:i=(l+u) / 2
    ·rw[Dh];omega
    ·have:=up i ((l+u) / 2) ∅ ∅
     omega
def JK {p:AB Nat}(h:Pm n p){k l i:Nat}(hk:k<n)(hl:l<=k):(bubble p k (k-l)).getD i 0=if i=l then p.getD k 0 else if l<i/\i<=k then p.getD (i-1) 0 else p.getD i 0:=by
 have hs:=h.size;have:=getElem?_bubble (xs:=p) (src:=k) ∅ (k-l) ∅ i;rw[show k-(k-l)=l by omega] at this
 rwa[Hi];rw[this];split
 ·rfl
 ·split <;> rfl
theorem CG (R:Rk r n s cmp){Q:AB Nat->A1->Prop}:∀(f:Nat) (p:AB Nat) (k:Nat),Pm n p->Up r p k->k+f=n->(∀p',Pm n p'->Up r p' n->Q p' s)->(kas_bin f p k).kasWp cmp Q s
 |0,p,k,h,hu,hk,kk=>kk p h (by rw[←hk];exact hu)
 |f+1,p,k,h,hu,hk,kk=>by
  unfold kas_bin;rw[KasT.kasWp_bind];refine oC R h ∅ k 0 k ∅ (Ao _) ∅ (λi hi=>by omega) (λi h4 h5=>by omega) hu λl l1 l2 l3=>?_;refine CG R f (bubble p k (k-l)) (k+1) ⟨(Array.perm_iff_toList_perm.mp (bubble_perm p k _)).trans h.pm⟩ (λi j Dg hj=>?_) ∅ kk;have b:=λi=>JK h (k:=k) (l:=l) (i:=i) ∅ l1
  show r _<r _
  rw[b i,b j];by_cases hi:i=l
  ·rw[A8 hi,A6 ∅,A8 ∅];exact l3 (j-1) ∅ ∅
  ·rw[A6 hi];by_cases hj':j=l
   ·rw[A8 hj',A6 ∅];exact l2 i ∅
   ·rw[A6 hj'];by_cases h6:l<i/\i<=k
    ·rw[A8 h6,A8 ∅];exact hu (i-1) (j-1) ∅ ∅
    ·rw[A6 h6];by_cases h7:l<j/\j<=k
     ·rw[A8 h7];by_cases h8:i=j-1
      ·omega
      ·exact hu i (j-1) ∅ ∅
     ·rw[A6 h7];exact hu i j Dg ∅
def JDp (R:Rk r n s cmp)(hn:1<=n){Q:AB Nat->A1->Prop}(k:∀p,Pm n p->Up r p n->Q p s):(kas_sort n).kasWp cmp Q s:=by
 unfold kas_sort;rw[KasT.kasWp_bind];refine JCm R (p:=(List.range n).toArray) ⟨by simp⟩ hn λm p h hu h1 h2=>?_
 show KasT.kasWp cmp (if m<n then kas_bin (n-max m 1) p (max m 1) else .ret p) Q s
 rw[Nat.max_eq_left h1];by_cases hm:m<n
 ·rw[A8 hm];exact CG R (n-m) p m h hu ∅ k
 ·rw[A6 hm];have:m=n:=by omega
  subst this;exact k p h hu
end
noncomputable def iH:P4 Int->P4 Int->A7
 |[],[]=>false
 |[],_::_=>true
 |_::_,[]=>false
 |x::xs,y::ys=>if x=y then iH xs ys else decide (x<y)
theorem fM:∀a,iH a a=false
 |[]=>rfl
 |x::xs=>by simp[iH,fM xs]
theorem nK:∀a b,iH a b=true\/a=b\/iH b a=true
 |[],[]=>.inr (.inl rfl)
 |[],_::_=>.inl rfl
 |_::_,[]=>.inr (.inr rfl)
 |x::xs,y::ys=>by
  by_cases e:x=y
  ·subst e;rcases nK xs ys with h|h|h
   ·exact .inl (by simp[iH,h])
   ·exact .inr (.inl (by rw[h]))
   ·exact .inr (.inr (by simp[iH,h]))
  ·by_cases hl:x<y
   ·exact .inl (by simp[iH,e,hl])
   ·exact .inr (.inr (by simp[iH,Ne.symm e];omega))
theorem eM:∀a b c,iH a b=true->iH b c=true->iH a c=true
 |[],[],_,h,_=>by cases h
 |[],_::_,[],_,h=>by cases h
 |[],_::_,_::_,_,_=>rfl
 |_::_,[],_,h,_=>by cases h
 |_::_,_::_,[],_,h=>by cases h
 |x::xs,y::ys,z::zs,h,g=>by
  rwa[iH] at h g ⊢;by_cases e1:x=y
  ·subst e1;rw[A8 rfl] at h;by_cases e2:x=z
   ·subst e2;rw[A8 rfl] at g ⊢;exact eM xs ys zs h g
   ·rw[A6 e2] at g ⊢;exact g
  ·rw[A6 e1] at h;have h1:x<y:=of_decide_eq_true h;by_cases e2:y=z
   ·subst e2;rw[A6 e1];exact h
   ·rw[A6 e2] at g;have h2:y<z:=of_decide_eq_true g;rw[A6 ∅];exact Cn ∅
noncomputable def nh (L:Ta)(i:Nat):Int:=((L.filter λk=>iH k (L.getD i [])).length:Nat)
theorem qz {L:Ta}{a b:Th}(h:iH a b=true)(hm:a∈L):(L.filter λk=>iH k a).length<(L.filter λk=>iH k b).length:=by
 have sub:∀M:Ta,(M.filter λk=>iH k a).length<=(M.filter λk=>iH k b).length:=λM=>by
  induction M with
  |nil=>simp
  |cons x xs ih=>
   rwa[zbF]
   cases hx:iH x a with
   |true=>rw[eM x a b hx h];simp;exact ih
   |false=>cases iH x b <;> simp <;> omega
 induction L with
 |nil=>simp at hm
 |cons x xs ih=>
  rwa[zbF];rcases Ax.mp hm with rfl|hm
  ·rw[fM,h];have:=sub xs;simp;omega
  ·have:=ih hm
   cases hx:iH x a with
   |true=>rw[eM x a b hx h];simp;exact this
   |false=>cases iH x b <;> simp <;> omega
def uj {L:Ta}{i:Nat}(h:i<L.length):L.getD i []∈L:=by rw[zbi,Bl h,zbP];exact HR h
def nF {L:Ta}{i j:Nat}(hi:i<L.length)(hj:j<L.length):decide (nh L i<nh L j)=iH (L.getD i []) (L.getD j []):=by
 rcases nK (L.getD i []) (L.getD j []) with h|h|h
 ·rw[h];refine Cn ?_;have:=qz h (uj hi);unfold nh;omega
 ·have hr:nh L i=nh L j:=by unfold nh;rw[h]
  rw[hr,h,fM];exact Bz ∅
 ·have:=qz h (uj hj);have hn:iH (L.getD i []) (L.getD j [])=false:=by
   cases q:iH (L.getD i []) (L.getD j []) with
   |false=>rfl
   |true=>have:=eM _ _ _ q h;rw[fM] at this;cases this
  rw[hn];refine Bz ?_;unfold nh;omega
def JAr {L:Ta}(nd:L.Nodup){i j:Nat}(hi:i<L.length)(hj:j<L.length)(e:nh L i=nh L j):i=j:=by
 have h1:=nF hi hj;have h2:=nF hj hi;rw[Bz ∅] at h1 h2;rcases nK (L.getD i []) (L.getD j []) with h|h|h
 ·rw[h] at h1;cases h1
 ·rwa[zbi,Bl hi,Bl hj,zbP] at h;exact(HU nd).mp h
 ·rw[h] at h2;cases h2
section
variable {prog:A9}{w:AF}{A:AE}{E:Tb}{s:A1}
def JBc {b:A7}{Q:A7->A1->Prop}:∀{xs ys:Te} {ns ms:Th} (i:Nat),IntsAre xs ns->IntsAre ys ms->Q (iH ns ms) s->KatLex prog w A b (decide (xs.length<ys.length)) Q (xs.zip ys) i s:=by
  intro xs ys ns ms i r;induction r generalizing ys ms i with
  |nil=>intro q h;cases q <;> exact h
  |cons n t r ih=>
   rename_i xs ns;intro q h
   cases q with
   |nil=>exact h
   |cons m u q=>
    rename_i ys ms
    show KatLex prog w A b _ Q ((.int n t,.int m u)::xs.zip ys) i s
    refine kat_cons (wpAny_eqBool_int ?_);by_cases e:n=m
    · subst e
      rw[beq_self_eq_true];refine kat_yes ?_;have hd:decide ((Value.int n t::xs).length<(Value.int n u::ys).length)=decide (xs.length<ys.length):=∅;rw[hd];exact ih (i+1) q (by simpa[iH] using h)
    · rw[show(n == m)=false by simpa using e]
      refine kat_no ?_;have h':Q (decide (n<m)) s:=by simpa[iH,e] using h
      cases(b&&i == 0) with
      |true=>exact oneLt_int h'
      |false=>first|exact kat_one _ _ (lt_int h')|exact kat_one _ _ (lt_int (boolBack_bool h'))
def be (h:AD):P4 A2->P4 (Th)->Prop
 |[],[]=>True
 |v::vs,L::Ls=>(∃a o its n,v=.ref a/\h.get? a=some o/\o.cls=.type "tuple"/\o.data=.seq its n/\IntsAre its.toList L)/\be h vs Ls
 |_,_=>False
theorem be.len {h:AD}:∀{vs:Te} {L:Ta},be h vs L->vs.length=L.length
 |[],[],_=>rfl
 |[],_::_,h=>h.elim
 |_::_,[],h=>h.elim
 |_::vs,_::L,h=>by simp[be.len h.2]
theorem be.at {h:AD}:∀{vs:Te} {L:Ta},be h vs L->∀i,i<L.length->∃a o its n,vs.getD i .none=.ref a/\h.get? a=some o/\o.cls=.type "tuple"/\o.data=.seq its n/\IntsAre its.toList (L.getD i [])
 |[],[],_,i,hi=>by simp at hi
 |[],_::_,h,_,_=>h.elim
 |_::_,[],h,_,_=>h.elim
 |v::vs,x::L,h,0,_=>h.1
 |v::vs,x::L,h,i+1,hi=>be.at h.2 i ‹hi›
theorem be.keep {h h':AD}(k:∀b o,h.get? b=some o->h'.get? b=some o):∀{vs:Te} {L:Ta},be h vs L->be h' vs L
 |[],[],_=>trivial
 |[],_::_,h=>h.elim
 |_::_,[],h=>h.elim
 |_::vs,_::L,h=>by let⟨⟨a,o,its,n,e,g,r⟩,t⟩:=h;exact{{a,o,its,n,e,k _ _ g,r},be.keep k t}
theorem be.keepNe {h h':AD}{a:A3}(k:∀b o,h.get? b=some o->b≠a->h'.get? b=some o):∀{vs:Te} {L:Ta},be h vs L->(∀v∈vs,v≠.ref a)->be h' vs L
 |[],[],_,_=>trivial
 |[],_::_,h,_=>h.elim
 |_::_,[],h,_=>h.elim
 |v::vs,_::L,h,hn=>by let⟨⟨b,o,its,n,e,g,r⟩,t⟩:=h;exact{{b,o,its,n,e,k _ _ g λz=>hn v ∅ (by rw[e,z]),r},be.keepNe k t λu hu=>hn u (by simp[hu])}
theorem be.firsts {h:AD}:∀{vs:Te} {L:Ta},be h vs L->(∀x∈L,x≠[])->∃fs,KatTups h vs fs/\fs.length=L.length/\∀f∈fs,∃n t,f=.int n t
 |[],[],_,_=>{[],trivial,rfl,by simp}
 |[],_::_,h,_=>h.elim
 |_::_,[],h,_=>h.elim
 |v::vs,x::L,h,hn=>by
  let⟨⟨a,o,its,n,e,g,c,d,r⟩,t⟩:=h;let⟨fs,q1,q2,q3⟩:=be.firsts t λy hy=>hn y (by simp[hy]);have hx:=hn x ∅;generalize hits:its.toList=il at r
  cases r with
  |nil=>exact AH rfl hx
  |cons m tk r'=>
   have h0:its[0]?=some (.int m tk):=(by rw[←Hc,hits];rfl);exact{.int m tk::fs,by subst e;exact KatTups.cons g c d h0 q1,by simp[q2],λf hf=>by
    rcases Ax.mp hf with rfl|hf
    ·exact{m,tk,rfl}
    ·exact q3 f hf}
def on {Z:Type}:∀(l:P4 Z) (d:Z),l=(List.range l.length).map λi=>l.getD i d:=λl d=>by refine zcM ∅ λk h1 h2=>?_;rwa[zbQ,zcG];rw[zbi,Bl h1];rfl
def yh {a:A3}{vs:Te}{L:Ta}{n:Nat}{P:PySem.Fin->A1->Prop}(ho:s.heap.get? a=some (seqObj "list" vs.toArray n))(hT:be s.heap vs L)(nd:L.Nodup)(GY:L.length<64)(Bd:2<=L.length->∀x∈L,x≠[])
  (hna:∀v∈vs,v≠.ref a)
  (h:∀(out:Ti) (L':Ta),(∃is:P4 Nat,out.toList=is.map (λi=>vs.getD i .none)/\L'=is.map (λi=>L.getD i [])/\∀i∈is,i<L.length)->L'.Perm L->L'.Pairwise (λx y=>iH x y=true)->P (.done (.ret .none)) {s with heap:=sortedHeap s.heap a vs out}):wpAny (model prog w) A (Builtin.«list.sort» {[.ref a],[]}) P E s:=by
 have hl:=hT.len;rw[list_sort_plain];have ha:a<s.heap.objs.size:=Av ho
 have hz:vs.length<=sizeLine:=by rw[DJ];omega
 refine AA (listItems_at ho rfl (AA (listUpdate_at ho rfl ?_ ‹hz› ∅)));obtain⟨c1,o1⟩:∃c1,(s.heap.update a (Obj.mapSeq λ_=>#[])).get? a=some (seqObj "list" #[] c1):={_,get?_update_seq ho (λ_=>#[])};refine AA (seqEpoch_at o1 rfl (AA (wpAny_newTuple (AA (wpAny_newList (By ?_) (DH _))) ‹hz›)))
 have o6:(((s.heap.update a (Obj.mapSeq λ_=>#[])).push (seqObj "tuple" vs.toArray 0)).push (seqObj "list" #[] 0)).get? a=some (seqObj "list" #[] c1):=by
  rw[Heap.get?_push_ne _ _ _ (by rw[size_push',zcL];exact BE (zbB ha)),Heap.get?_push_ne _ _ _ (by rw[zcL];exact BE ha)];exact o1
 show wpAny (model prog w) A _ P E {s with heap:=((s.heap.update a (Obj.mapSeq λ_=>#[])).push (seqObj "tuple" vs.toArray 0)).push (seqObj "list" #[] 0)}
 dsimp only
 by_cases h2:vs.toArray.size<2
 ·rw[A8 h2,A8 h2]
  refine AA (AJ (AA (AJ ?_)));dsimp only
  have hm:Array.map (λx=>x.snd) (arrOf (SortSt.mk' general' (vs.toArray.zip vs.toArray) #[] 7 none))=vs.toArray:=by
   show Array.map (λx=>x.snd) (vs.toArray.zip vs.toArray)=vs.toArray
   apply Array.ext
   ·simp
   ·intro i h1 h3;simp
  rw[hm];refine AA (seqEpoch_at o6 rfl (AA (listUpdate_at o6 rfl ?_ ∅ (by rw[Ba];omega))))
  show wpAny (model prog w) A (if (c1 != c1)=true then _ else _) P E _
  rwa[bne_self_eq_false,C8,if_false];refine AJ (h vs.toArray L {List.range L.length,by rw[←hl];simpa using on vs .none,on L [],λi hi=>by simpa using hi} (List.Perm.refl _) ?_)
  have:L.length<2:=by simp at h2;omega
  match L,this with
  |[],_=>exact .nil
  |[x],_=>simp
 ·rw[A6 h2,A6 h2]
  have hb2:2<=L.length:=by simp at h2;omega
  have keep:∀b o,s.heap.get? b=some o->b≠a->(((s.heap.update a (Obj.mapSeq λ_=>#[])).push (seqObj "tuple" vs.toArray 0)).push (seqObj "list" #[] 0)).get? b=some o:=λb o e ne=>
   Am _ (Am _ (by rw[D0 _ _ (Ne.symm ne)];exact e))
  have hT1:be (((s.heap.update a (Obj.mapSeq λ_=>#[])).push (seqObj "tuple" vs.toArray 0)).push (seqObj "list" #[] 0)) vs L:=hT.keepNe keep hna;obtain⟨fs,q1,q2,q3⟩:=hT1.firsts (Bd hb2);refine AA (kat_kind (T:=.type "int") q1 ∅ (λv hv=>?_) ∅ ?_)
  ·let⟨m,tk,rfl⟩:=q3 v hv
   exact .now
  refine AA (DV (kat_run (ks:=vs) (vs:=vs) (Q:=λCC s'=>∃p:AB Nat,p.size=vs.length/\arrOf CC=p.map (kas_item (vs.toArray.zip vs.toArray))/\failedOf CC=none/\s'={s with heap:=((s.heap.update a (Obj.mapSeq λ_=>#[])).push (seqObj "tuple" vs.toArray 0)).push (seqObj "list" #[] 0)}/\Pm L.length p/\Up (nh L) p L.length)
   (G:=λp s'=>s'={s with heap:=((s.heap.update a (Obj.mapSeq λ_=>#[])).push (seqObj "tuple" vs.toArray 0)).push (seqObj "list" #[] 0)}/\Pm L.length p/\Up (nh L) p L.length)
   rfl ∅ ∅ (λp' CC s' a1 a2 a3 a4=>{p',a1,a2,a3,a4}) ?_) ?_ λ_ _ e=>e)
  ·rw[hl]
   refine JDp (r:=nh L) (n:=L.length) {λi j hi hj e=>JAr nd hi hj e,λi j hi hj C hC=>?_} ∅ λp hp hu=>{rfl,hp,hu};obtain⟨x,ox,ix,nx,e1,e2,e3,e4,e5⟩:=hT1.at i hi;obtain⟨y,oy,iy,ny,f1,f2,f3,f4,f5⟩:=hT1.at j hj;unfold kas_ask;rw[e1,f1];refine kat_lt e2 e4 f2 f4 ?_;rw[nF hi hj] at hC;have:=JBc (prog:=prog) (w:=w) (A:=A) (b:=(Value.type "int" != Value.type "tuple")) 0 e5 f5 hC;simpa using this
  ·rintro⟨⟨⟩,CC⟩ s' ⟨p,hp,har,hf,rfl,hpm,hup⟩
   dsimp only;have IH:=kat_snds (ks:=vs) (vs:=vs) rfl har;rw[IH]
   have hsz:(List.toArray (p.toList.map λi=>vs.getD i Value.none)).size<=sizeLine+1:=by rw[Ba,Ay,Dv,hp];omega
   refine AA (seqEpoch_at o6 rfl (AA (listUpdate_at o6 rfl ?_ ∅ hsz)));rw[hf];rwa[bne_self_eq_false,C8,if_false]
   have Al:∀i∈p.toList,i<L.length:=λi hi=>by have:=hpm.pm.mem_iff.mp hi;simpa using this
   refine AJ (h _ (p.toList.map λi=>L.getD i []) {p.toList,by simp,rfl,Al} ?_ ?_)
   ·have:=hpm.pm.map λi=>L.getD i []
    refine this.trans (List.Perm.of_eq ?_);refine zcM ∅ λk h1 h2=>?_;rwa[zbQ,zcG];rw[zbi,Bl ‹h1›];rfl
   ·rw[H9,zbM]
    intro i j hi hj Dg;have hsz2:=hpm.size
    have Dh:i<p.size:=by simpa using hi
    have hj':j<p.size:=by simpa using hj
    have hk:=hup i j Dg ∅;unfold key at hk
    have gi:p.getD i 0=p[i]:=by rw[Hi,Cr Dh];rfl
    have gj:p.getD j 0=p[j]:=by rw[Hi,Cr hj'];rfl
    rw[gi,gj] at hk;have:=nF (L:=L) (i:=p[i]) (j:=p[j]) (Al _ ∅) (Al _ ∅)
    rw[Cn hk] at this
    simpa using this.symm
end
end DU
namespace HK
open PyProof.Rows L2
def DE (h:AD)(d:A3)(es:AB DictEntry)(ep:Nat):Prop:=∃ob,h.get? d=some ob/\ob.ExactDict/\ob.data=.dict es ep
section
variable {prog:A9}{w:AF}{A:AE}{E:Tb}{s:A1}{d it:A3}{es:AB DictEntry}{ep i:Nat}
def DE.ty (m:DE s.heap d es ep):s.TypeIs (.ref d) "dict":=let ⟨ob,g,x,_⟩:=m;{ob,g,x.1}
def DE.at {h h':AD}(m:DE h d es ep)(k:∀ob,h.get? d=some ob->h'.get? d=some ob):DE h' d es ep:=let ⟨ob,g,r⟩:=m;{ob,k _ g,r}
def LP {Q:Tb}(nd:(d == sysModules)=false)(m:DE s.heap d es ep)
  (fin:Q (.ref s.heap.objs.size) {s with heap:=s.heap.push {cls:=.type "dict_keyiterator",data:=.fields #[.ref d,.int 0 0,.int es.size 0,.int ep 0]}}):wpAny (model prog w) A (pyIter (.ref d)) Q E s:=by
 obtain⟨ob,g,x,dt⟩:=id m;refine zb0 m.ty F.slot_dict_iter (Co F.slot_dict_iter m.ty F.entry_dict_iter ?_ (F.args_dict_iter_1 _));unfold Builtin.«dict.__iter__» Builtin.Dict.dictSlotNone;refine AA (AA (zct m.ty ?_));refine(show wpAny _ _ (pure (Value.ref d)) _ _ s from AJ (show wpAny _ _ (Builtin.Dict.showsAll d >>= _) _ _ s from ?_));unfold Builtin.Dict.showsAll;rw[A6 (show ¬ (d == sysModules)=true by rw[nd];decide)];refine AA (AJ (AA (zbK g dt (AA (zcf g dt (AA (Cu (AJ {_,rfl,"dict_keyiterator",_,{_,BI _ rfl,rfl},F.slot_dict_keyiterator_next.lookup,?_}))))))));simpa[rawInt] using fin
noncomputable def nv:String->Builtin:=(show{f:String->Builtin // f "dict_keyiterator.__next__" = Builtin.«dict_keyiterator.__next__»} from{_,rfl}).1
def WK (prog:A9)(w:AF)(T id:String)(b:Nat):Prop:=Slot T (Str.ofString "__next__") id/\entryFor table id=some (nv id)/\(∀a,argsOk id {pos:=[a]})/\(if Builtin.Dict_items.ownsTuple T=true then 2 else 0)=b /\
 ∀(A:AE) (E:Tb) (s:A1) (it:A3),s.TypeIs (.ref it) T->(∀(Q:String->A1->Prop),Q T s->wpAny (model prog w) A (typeNameOfWhole (.ref it)) Q E s) /\
 ∀(l:P4 String) (Q:A7->A1->Prop),Q (l.any λt=>[Value.type T,.type "object"].contains (.type t)) s->wpAny (model prog w) A (Builtin.Dict_items.isOneOf (.ref it) l) Q E s
def wk:WK prog w "dict_keyiterator" "dict_keyiterator.__next__" 0:={F.slot_dict_keyiterator_next,F.entry_dict_keyiterator_next,F.args_dict_keyiterator_next_1,by decide,λ_ _ _ _ y=>{λ_=>wpAny_typeNameOfWhole_keyiter y,λ_ _=>wpAny_isOneOf_keyiter y}}
def Gk {T n:String}{b:Nat}{oi:As}{vs:Ti}{Q:QI A2->A1->Prop}(W:WK prog w T n b)(hh:A.handled=none)(gi:s.heap.get? it=some oi)(ci:oi.cls=.type T)(di:oi.data=.fields vs)(hv:(vs.toList.drop b).take 4=[.ref d,.int es.size 0,.int es.size 0,.int ep 0])(m:DE s.heap d es ep)
  (fin:∀h',Heap.ExtBut it s.heap h'->Q none {s with heap:=h'}):wpAny (model prog w) A (pyNext (.ref it)) Q E s:=by
 let⟨sl,en,ar,hb,W⟩:=W
 have hz:b<vs.size:=by have:=AI List.length hv;simp at this;omega
 obtain⟨ob,g,x,dt⟩:=id m;have ty:s.TypeIs (.ref it) T:={_,gi,ci};unfold pyNext;refine AA (Hd (HB (name:=Str.ofString "__next__") ty sl (Co sl ty en ?_ (ar _))));refine AA (AJ (AA (AA ?_)));refine AA ((W _ _ _ _ ty).1 _ (AJ (AA (Hf gi di ?_))));rw[hb,hv];refine(show wpAny _ _ (if (Value.ref d == Value.none)=true then _ else _) _ _ s from ?_);rw[A6 (show ¬ ((Value.ref d == Value.none)=true) by exact EK)];refine AA (AJ (AA (zbK g dt ?_)));rw[A6 (show ¬ _ by simp)];refine AA (AJ (AA (zcf g dt ?_)));rw[A6 (show ¬ _ by simp)];refine AJ ?_;rwa[show ¬ ((es.size:Int)<0) by omega,if_false,HZ,zcr (Ao es.size)];refine AA (AA ((W _ _ _ _ ty).1 _ (AJ ?_)));rw[hb];refine(show wpAny _ _ (setField (.ref it) b .none >>= _) _ _ s from AA (He gi di hz ?_));refine(show wpAny _ _ (newExc (.type "StopIteration") [] >>= _) _ _ _ from AA ?_);rwa[newExc,newTuple];refine AA (Cu (AA (m:=firstArgMember _ _) (zcR (a:=Value.none) (by first|rfl|(rwa[firstArgMember];rfl)) (Cu ?_ (by size_fits)))) (by size_fits));rwa[raiseNew];refine AA (wpAny_handled ?_);rw[show A.in1.handled=none by exact hh];refine AA (AJ (wpAny_throw (AA ?_)));exact HQ (T:="StopIteration") (b:=true) {_,BI _ rfl,rfl} isSubtype_stop (AJ (fin _ (((Heap.SameBut.update ..).extBut.push _).push _)))
def LJ {T n:String}{f:DictEntry->A2}{oi:As}{e:DictEntry}{Q:QI A2->A1->Prop}(W:WK prog w T n 0)(hT:(T = "dict_keyiterator"/\f=(·.key))\/T = "dict_valueiterator"/\f=(·.val))(gi:s.heap.get? it=some oi)(ci:oi.cls=.type T)(di:oi.data=.fields #[.ref d,.int i 0,.int es.size 0,.int ep 0])(m:DE s.heap d es ep)(ge:es[i]?=some e)
  (fin:∀h' o',h'.get? it=some o'->o'.cls=.type T->o'.data=.fields #[.ref d,.int (i+1:Nat) 0,.int es.size 0,.int ep 0]->Heap.SameBut it s.heap h'->Q (some (f e)) {s with heap:=h'}):wpAny (model prog w) A (pyNext (.ref it)) Q E s:=by
 obtain⟨sl,en,ar,hb,W⟩:=W;obtain⟨ob,g,x,dt⟩:=id m;have ty:s.TypeIs (.ref it) T:={_,gi,ci};unfold pyNext;refine AA (Hd (HB (name:=Str.ofString "__next__") ty sl (Co sl ty en ?_ (ar _))));refine AA (AJ (AA (AA ?_)));refine AA ((W _ _ _ _ ty).1 _ (AJ (AA (Hf gi di ?_))));rw[hb];refine(show wpAny _ _ (if (Value.ref d == Value.none)=true then _ else _) _ _ s from ?_);rw[A6 (show ¬ ((Value.ref d == Value.none)=true) by exact EK)];refine AA (AJ (AA (zbK g dt ?_)));rw[A6 (show ¬ _ by simp)];refine AA (AJ (AA (zcf g dt ?_)));rw[A6 (show ¬ _ by simp)];refine AJ ?_;rwa[show ¬ ((i:Int)<0) by omega,if_false,HZ,ge];refine AA (AA ((W _ _ _ _ ty).1 _ (AJ (AA ((W _ _ _ _ ty).2 _ _ ?_)))));have fi:=fin _ _ (Di (Obj.mapFields (·.setIfInBounds 1 (rawInt ((i:Int)+1)))) gi (Obj.isFreed_of_fields (Obj.data_mapFields di _))) ((Obj.cls_mapFields ..).trans ci) (by rw[Obj.data_mapFields di];simp[rawInt]) (Heap.SameBut.update ..);have ty':Shared.TypeIs {s with heap:=s.heap.update it (Obj.mapFields (·.setIfInBounds 1 (rawInt ((i:Int)+1))))} (.ref it) T:={_,Di _ gi (Obj.isFreed_of_fields (Obj.data_mapFields di _)),(Obj.cls_mapFields ..).trans ci};rw[hb];rcases hT with⟨rfl,rfl⟩|⟨rfl,rfl⟩ <;> refine(show wpAny _ _ (setField (.ref it) 1 (rawInt ((i:Int)+1)) >>= _) _ _ s from AA (He gi di ∅ (AA (By (AA ((W _ _ _ _ ty').2 _ _ ?_))))))
 ·exact(show wpAny _ _ (pure e.key) _ _ _ from AJ (AJ {_,rfl,AJ fi}))
 ·exact AA ((W _ _ _ _ ty').2 _ _ (show wpAny _ _ (pure e.val) _ _ _ from AJ (AJ {_,rfl,AJ fi})))
def JE5 (hh:A.handled=none)(I d:A3)(ne:d≠I)(es:AB DictEntry)(ep:Nat):Walks prog w A I [I,d] [I] es.size (λi v=>∃e,es[i]?=some e/\v=e.key) (λi h=>h.IsKeyIter I d i es.size ep/\DE h d es ep) where
 sub:=λb z=>by simp at z;simp[z]
 frame:=λ_ _ _ q z=>{q.1.at λo e=>z I ∅ o e,q.2.at λo e=>z d ∅ o e}
 item:=λi s Q E hi q fin=>by let⟨⟨o,g,c,r⟩,m⟩:=q;refine LJ wk (.inl {rfl,rfl}) g c r m (Cr hi) λh' o' g c r sb=>fin _ h' s.toks {_,Cr hi,rfl} {{o',g,c,r},m.at λo e=>sb.extBut d o ne e} λb o hb e=>sb.extBut b o (λz=>hb (by simp[z])) e
 done:=λs Q E q fin=>by let⟨⟨o,g,c,r⟩,m⟩:=q;exact Gk wk hh g c r rfl m λh' eb=>fin h' s.toks λb o hb e=>eb b o (λz=>hb (by simp[z])) e
 self:=λ_ _ _ _ q fin=>wpAny_pyIter_keyiter q.1 fin
end
open DU
section
variable {prog:A9}{w:AF}{A:AE}{E:Tb}{s:A1}
def JEm {es:AB DictEntry}{vs:Te}(hl:vs.length=es.size)(h:∀(i:Nat) v,vs[i]?=some v->∃e,es[i]?=some e/\v=e.key):vs=es.toList.map (·.key):=by
 refine zcM ‹hl› λi h1 h2=>?_;let⟨e,g,q⟩:=h i vs[i] (Bl h1);have hi:i<es.size:=by simpa using h2
 rw[Cr hi] at g;cases g;rw[q];simp
def JCo {x a:A3}{ox io:As}{cn:String}{n:Nat}{P:Nat->A2->Prop}{St:A3->Nat->AD->Prop}{vs:Te}{Q:P4 A2->A1->Prop}
  (hx:s.heap.get? x=some ox) (hc:ox.cls=.type cn) (Al:a<s.heap.objs.size) (hcn:cn = "dict"\/cn = "dict_values") (hif:io.isFreed=false) (hz:n<=sizeLine)
  (hit:∀(t:A1) (A':AE) (E':Tb) (Q':Tb),(∀b o,s.heap.get? b=some o->t.heap.get? b=some o)->Q' (.ref t.heap.objs.size) {t with heap:=t.heap.push io}->wpAny (model prog w) A' (pyIter (.ref x)) Q' E' t)
  (hhint:∀(t:A1) (A':AE) (E':Tb) (Q':A7->A1->Prop),t.TypeIs (.ref x) cn->Q' false t->wpAny (model prog w) A' (listLengthHint (.ref x)) Q' E' t)
  (W:∀I,a≠I->Walks prog w A.in1 I [I,a] [I] n P (St I)) (hSt:∀I h1,h1.get? I=some io->(∀b o,s.heap.get? b=some o->h1.get? b=some o)->St I 0 h1)
  (hv:∀l:Te,l.length=n->(∀(i:Nat) v,l[i]?=some v->P i v)->l=vs)
  (h:∀(h':AD) (tk:Nat),(∀b o,s.heap.get? b=some o->h'.get? b=some o)->s.toks<=tk->s.heap.objs.size<=h'.objs.size->Q vs {s with heap:=h',toks:=tk}) :
  wpAny (model prog w) A (collect (.ref x)) Q E s:=by
 unfold collect;refine AA (wpAny_runValue (DW F.entry_proto_collect ?_));rw[Dw F.plain_proto_collect _];refine(show wpAny _ A.in1 (newList [] >>=λl=>again (.builtin "list.__iadd__" {[l,.ref x],[]})) _ _ s from AA (Cu ?_));refine AJ {Ep F.plain_list_iadd _,DW F.entry_list_iadd ?_};rw[Dw F.plain_list_iadd _];refine(show wpAny _ A.in1 (listExtendWith (.ref s.heap.objs.size) (.ref x) (.ref s.heap.objs.size)) _ _ _ from ?_);unfold listExtendWith;have hT:Shared.TypeIs {s with heap:=s.heap.push {cls:=.type "list",data:=.seq ([]:Te).toArray}} (.ref x) cn:={ox,Am _ hx,hc};refine AA (Ei hT ?_)
 have h1:listSameRef (.ref s.heap.objs.size) (.ref x)=false:=by simp[listSameRef,D2 (Av hx)]
 rwa[h1,show(Value.type cn == Value.type "list")=false by rcases hcn with rfl|rfl <;> rfl,show(Value.type cn == Value.type "tuple")=false by rcases hcn with rfl|rfl <;> rfl,Bool.or_false,C8,if_false];refine AA (hit _ _ _ _ (λb o e=>Am _ e) ?_);have hsz:(s.heap.push {cls:=.type "list",data:=.seq ([]:Te).toArray}).objs.size=s.heap.objs.size+1:=DZ ..;generalize hI:(s.heap.push {cls:=.type "list",data:=.seq ([]:Te).toArray}).objs.size=I at *;have kp:∀b o,(s.heap.push {cls:=.type "list",data:=.seq ([]:Te).toArray}).get? b=some o->((s.heap.push {cls:=.type "list",data:=.seq ([]:Te).toArray}).push io).get? b=some o:=λb o e=>Am _ e;generalize hh1:(s.heap.push {cls:=.type "list",data:=.seq ([]:Te).toArray}).push io=h1 at *;have hIt:=hSt I h1 (by rw[←hh1,←hI];exact BI _ hif) λb o e=>kp _ _ (Am _ e);have hTa:Shared.TypeIs {s with heap:=h1} (.ref x) cn:={ox,kp _ _ (Am _ hx),hc};refine AA (By (hhint _ _ _ _ hTa ?_));dsimp only;rw[A8]
 case hc=>rcases hcn with rfl|rfl <;> rfl
 refine(show wpAny _ A.in1 (rule "list.extend.makes-room" >>=λ_=>listTouch (.ref s.heap.objs.size) >>=λ_=>
  again (.builtin "list.extend.loop" {[.ref s.heap.objs.size,.ref I,.ref s.heap.objs.size],[]})) _ _ _ from AA (Eu (AA ?_)))
 have hL:h1.get? s.heap.objs.size=some {cls:=.type "list",data:=.seq ([]:Te).toArray}:=kp _ _ (BI _ rfl)
 have Bx:s.heap.objs.size∉[I,a]:=λhm=>by
  rwa[Ax,Dk,or_false] at hm;rcases hm with e|e
  ·rw[hsz] at e;omega
  ·exact CM _ (e ▸ Al)
 refine(show wpAny _ A.in1 (updateSeq s.heap.objs.size (·.push .none) >>=λ_=>updateSeq s.heap.objs.size (·.pop)) _ _ _ from AA (zcy hL rfl ?_));have hL2:=Di (Obj.mapSeq (·.push Value.none)) hL rfl;refine zcy (s:={s with heap:=_}) hL2 rfl ?_;have hL3:=Di (Obj.mapSeq (·.pop)) hL2 rfl
 have oth:∀b o,b≠s.heap.objs.size->h1.get? b=some o->((h1.update s.heap.objs.size (Obj.mapSeq (·.push Value.none))).update s.heap.objs.size (Obj.mapSeq (·.pop))).get? b=some o :=
  λb o hb e=>(D0 _ _ (Ne.symm hb)).trans ((D0 _ _ (Ne.symm hb)).trans e)
 have W1:=W I (by rw[hsz];exact BE (zbB Al))
 refine AJ {Ep F.plain_extend_loop _,codeAny_extend_loopS W1.toS hz _ Bx _ n 0 _ _ _ rfl (DH _)
  (W1.frame 0 h1 _ hIt λb hb o e=>oth b o (λq=>Bx (q ▸ hb)) e) hL3 (ItemsOf.nil _) λs' acc c GQ Ef DG=>?_}
 refine(show wpAny _ A (load s.heap.objs.size >>= _) _ _ s' from AA (wpAny_load Ef ?_));dsimp only;let⟨h',g',d',Bn,Hz⟩:=s';have eg:g'=s.gens:=GQ.gens;have ed:d'=s.drawn:=GQ.drawn;have eo:Hz=s.os:=GQ.os;subst eg;subst ed;subst eo;refine AJ ?_;have hk:acc.toList=vs:=hv _ (by rw[←DG.1];simp) λi v hv=>DG.2 i v ‹hv›;rw[hk];refine h h' Bn (λb o e=>GQ.heap b o (λhb=>?_) (oth b o (λq=>?_) (kp _ _ (Am _ e)))) GQ.toks (Ek (Av Ef))
 ·have Ih:=Av e
  rwa[Ax,Dk,or_false] at hb;rcases hb with q|q
  ·exact CM _ (q ▸ Ih)
  ·rw[q,hsz] at Ih;exact AH Ih (Nat.not_lt.mpr (HA _))
 ·exact CM _ (q ▸ Av e)
def JCn {a:A3}{es:AB DictEntry}{ep:Nat}{Q:P4 A2->A1->Prop}(hh:A.handled=none)(hd:(a == sysModules)=false)(hm:DE s.heap a es ep)(hz:es.size<=sizeLine)
  (h:∀(h':AD) (tk:Nat),(∀b o,s.heap.get? b=some o->h'.get? b=some o)->s.toks<=tk->s.heap.objs.size<=h'.objs.size->Q (es.toList.map (·.key)) {s with heap:=h',toks:=tk}) :
  wpAny (model prog w) A (collect (.ref a)) Q E s:=by
 let⟨o,ho,hx,hdat⟩:=id hm
 exact JCo ho hx.1 (Av ho) (.inl rfl) rfl hz (λt _ _ _ k q=>LP hd (hm.at λ_ e=>k _ _ e) q) (λt _ _ _ hT q=>HS.yU hT q)
  (λI ne=>JE5 (show A.in1.handled=none from hh) I a ne es ep) (λI h1 e k=>{{_,e,rfl,rfl},hm.at λ_ e=>k _ _ e}) (λl=>JEm) h
def JDo {x:A3}{vs:Te}{L:Ta}{Q:Tb}(hT:be s.heap vs L)(nd:L.Nodup)(GY:L.length<64)(Bd:2<=L.length->∀x∈L,x≠[])
  (hcol:∀(Q':P4 A2->A1->Prop),(∀(h':AD) (tk:Nat),(∀b o,s.heap.get? b=some o->h'.get? b=some o)->s.toks<=tk->s.heap.objs.size<=h'.objs.size->Q' vs {s with heap:=h',toks:=tk})->wpAny (model prog w) A.in1 (collect (.ref x)) Q' E s)
  (h:∀(is:P4 Nat) (h':AD) (tk:Nat) (l:A3) (c:Nat),(∀i∈is,i<L.length)->(is.map λi=>L.getD i []).Perm L->(is.map λi=>L.getD i []).Pairwise (λx y=>iH x y=true)->(∀b o,s.heap.get? b=some o->h'.get? b=some o)->s.toks<=tk ->
   s.heap.objs.size<=l->h'.get? l=some (seqObj "list" (is.map λi=>vs.getD i .none).toArray c)->Q (.ref l) {s with heap:=h',toks:=tk}) :
  wpAny (model prog w) A (call (.builtin "sorted") [.ref x]) Q E s:=by
 have hvl:vs.length=L.length:=hT.len;refine Calls.call_function_entry kind_sorted plain_sorted entry_sorted (args_sorted1 _) ?_;unfold Builtin.«sorted»;refine AA (m:=checkCount "sorted" 1 1 _) (AJ (AA (hcol _ λh' tk kp ht hge=>?_)));refine AA (wpAny_newList ?_ (by rw[hvl,DJ];omega));have EW:(h'.push (seqObj "list" vs.toArray 0)).get? h'.objs.size=some (seqObj "list" vs.toArray 0):=BI _ rfl;have hT2:be (h'.push (seqObj "list" vs.toArray 0)) vs L:=hT.keep λb o e=>Am _ (kp b o e)
 have hna:∀v∈vs,v≠.ref h'.objs.size:=λv hv e=>by
  let⟨i,hi,rfl⟩:=Hb hv;let⟨b,o,its,n,q1,q2,_⟩:=hT.at i ∅;rw[zbi,Bl hi] at q1;rwa[zbP] at q1;rw[e] at q1;cases q1;exact AH (Av (kp _ _ q2)) (CM _)
 refine AA (By (Co (s:={s with heap:=h'.push (seqObj "list" vs.toArray 0),toks:=tk}) slot_list_sort {_,EW,rfl} entry_list_sort (yh (s:={s with heap:=h'.push (seqObj "list" vs.toArray 0),toks:=tk}) EW hT2 nd GY Bd hna λout L' ⟨is,a1,a2,a3⟩ a4 a5=>{_,rfl,?_}) (args_list_sort _)))
 obtain⟨c,hc⟩:∃c,(sortedHeap (h'.push (seqObj "list" vs.toArray 0)) h'.objs.size vs out).get? h'.objs.size=some (seqObj "list" out c):=by
  unfold sortedHeap;obtain⟨e1,q1⟩:∃e1,((h'.push (seqObj "list" vs.toArray 0)).update h'.objs.size (Obj.mapSeq λ_=>#[])).get? h'.objs.size=some (seqObj "list" #[] e1):={_,get?_update_seq EW (λ_=>#[])};exact{_,get?_update_seq (Am _ (Am _ q1)) (λ_=>out)}
 have ho:out=(is.map λi=>vs.getD i .none).toArray:=by rw[←a1]
 subst a2;rw[ho] at hc;refine AJ {_,rfl,h is _ tk h'.objs.size c a3 a4 a5 (λb o e=>?_) ht hge (by rw[ho];exact hc)};have hb:=kp b o e;have ne:h'.objs.size≠b:=D2 (Av hb);unfold sortedHeap;rw[D0 _ _ ne];refine Am _ (Am _ ?_);rw[D0 _ _ ne];exact Am _ hb
def JDn {a:A3}{es:AB DictEntry}{ep:Nat}{L:Ta}{Q:Tb}(hh:A.handled=none)(hd:(a == sysModules)=false)(hm:DE s.heap a es ep)(hT:be s.heap (es.toList.map (·.key)) L)(nd:L.Nodup)(GY:L.length<64)(Bd:2<=L.length->∀x∈L,x≠[])
  (h:∀(is:P4 Nat) (h':AD) (tk:Nat) (l:A3) (c:Nat),(∀i∈is,i<L.length)->(is.map λi=>L.getD i []).Perm L->(is.map λi=>L.getD i []).Pairwise (λx y=>iH x y=true)->(∀b o,s.heap.get? b=some o->h'.get? b=some o)->s.toks<=tk ->
   s.heap.objs.size<=l->h'.get? l=some (seqObj "list" (is.map λi=>(es.toList.map (·.key)).getD i .none).toArray c)->Q (.ref l) {s with heap:=h',toks:=tk}) :
  wpAny (model prog w) A (call (.builtin "sorted") [.ref a]) Q E s:=by
 have hes:es.size=L.length:=by simpa using hT.len
 exact JDo hT nd GY Bd (λQ' k=>JCn (show A.in1.handled=none from hh) hd hm (by rw[hes,DJ];omega) k) h
end
end HK
namespace HW
variable {K:AP}
open PyProof.Rows L2 HS DU HK
noncomputable def vO (k:Th):P4 (Th)->Ta
 |[]=>[k]
 |x::l=>if iH k x=true then k::x::l else x::vO k l
noncomputable def cM:P4 (Th)->Ta
 |[]=>[]
 |k::l=>vO k (cM l)
theorem mq (k:Th):∀l,(vO k l).Perm (k::l)
 |[]=>.refl _
 |x::l=>by
  unfold vO;split
  ·exact .refl _
  ·exact((mq k l).cons x).trans (.swap k x l)
theorem dJ:∀l,(cM l).Perm l
 |[]=>.refl _
 |k::l=>(mq k _).trans ((dJ l).cons k)
abbrev zq (l:Ta):Prop:=l.Pairwise λx y=>iH x y=true
theorem xr {k:Th}:∀{l:Ta},zq l->k∉l->zq (vO k l)
 |[],_,_=>by simp[vO]
 |x::l,h,hk=>by
  let⟨h1,h2⟩:=DL.mp h;unfold vO;split
  ·rename_i c;refine DL.mpr {λy hy=>?_,h};rcases Ax.mp hy with rfl|hy
   ·exact c
   ·exact eM _ _ _ c (h1 y hy)
  ·rename_i c;refine DL.mpr {λy hy=>?_,xr h2 λz=>hk (BR _ z)};rcases Ax.mp ((mq k l).mem_iff.mp hy) with rfl|hy
   ·rcases nK x y with q|q|q
    ·exact q
    ·exact AH BG (q ▸ hk)
    ·exact AH q c
   ·exact h1 y hy
theorem oO:∀{l:Ta},l.Nodup->zq (cM l)
 |[],_=>.nil
 |k::l,h=>by let⟨h1,h2⟩:=CR.mp h;exact xr (oO h2) λz=>h1 ((dJ l).mem_iff.mp z)
theorem xn:∀{a b:Ta},zq a->zq b->a.Perm b->a=b
 |[],b,_,_,p=>by rw[List.nil_perm.mp p]
 |x::a,[],_,_,p=>by simpa using p.length_eq
 |x::a,y::b,ha,hb,p=>by
  let⟨a1,a2⟩:=DL.mp ha;let⟨b1,b2⟩:=DL.mp hb;have e:x=y:=by
   rcases Ax.mp (p.mem_iff.mp BG) with h|h
   ·exact h
   ·rcases Ax.mp (p.mem_iff.mpr BG) with h'|h'
    ·exact h'.symm
    ·have q:=eM _ _ _ (b1 x h) (a1 y h');rw[fM] at q;cases q
  subst e;rw[xn a2 b2 ((List.perm_cons x).mp p)]
noncomputable def BH:P4 R->ac->QI (R×ac)
 |[x],U=>(j9 x U).bind λxs=>(hZ xs).bind λns=>some (.v (.key ns),U)
 |_,_=>none
theorem Gu {K:AP}{H:Hp}:∀{xs:P4 D} {ns:Th} {vs:P4 V},hZ xs=some ns->RelDs K H xs vs->vs=ns.map V.int
 |[],ns,vs,e,r=>by cases e;exact r
 |.int n::xs,ns,vs,e,r=>by rwa[hZ] at e;let⟨ms,e1,rfl⟩:=DX.mp e;let⟨v,r',rfl,h1,h2⟩:=r;rwa[ak] at h1;subst h1;rw[Gu e1 h2];rfl
 |.non::_,_,_,e,_=>by cases e
 |.bl _::_,_,_,e,_=>by cases e
 |.str _::_,_,_,e,_=>by cases e
 |.tup _::_,_,_,e,_=>by cases e
 |.fl _::_,_,_,e,_=>by cases e
 |.fd _ _::_,_,_,e,_=>by cases e
 |.key _::_,_,_,e,_=>by cases e
def L4 :zr K BH (K9 K):=by
 intro m H U xs d U' vs Q s r e k;unfold BH at e;split at e
 ·rename_i x;let⟨ys,e1,e⟩:=AY.mp e;let⟨ns,e2,e⟩:=AY.mp e;cases e;let⟨v,rfl,r1⟩:=mh r;let⟨a,ws,rfl,q,r⟩:=iF s r1 e1;refine{a,ws,rfl,.inl {q,λp hp=>?_}};let⟨x1,x2,x3⟩:=jW s r hp;refine k _ _ _ x1 x2 ?_;rwa[av,ak];exact{p,rfl,by rw[bN,Gu e2 r]}
 ·cases e
theorem me {K:AP}{H:Hp}:∀(ns:Th),RelDs K H (ns.map D.int) (ns.map V.int)
 |[]=>rfl
 |n::ns=>{_,_,rfl,by rwa[ak],me ns}
abbrev kk (k:Th):P4 aE:=k.map Sum.inl
theorem rK {a b:Th}(h:kk a=kk b):a=b:=by
 induction a generalizing b with
 |nil=>cases b with
  |nil=>rfl
  |cons y b=>cases h
 |cons x a ih=>cases b with
  |nil=>cases h
  |cons y b=>
   rwa[kk,Ak,List.cons.injEq,Sum.inl.injEq] at h;rw[h.1,ih h.2]
def yK (k:Th):(kk k).map kV=k.map V.int:=by rw[Du];rfl
def ko (K:AP)(H:Hp)(A4:P4 (Th×D))(es:P4 (P4 aE×V)):Prop:=es.map (·.1)=A4.map (λp=>kk p.1)/\RelDs K H (A4.map (·.2)) (es.map (·.2))
noncomputable def m9 (A4:P4 (Th×D))(k:Th):QI D:=(A4.find? λp=>decide (p.1=k)).map (·.2)
noncomputable def AZ (A4:P4 (Th×D))(k:Th)(d:D):P4 (Th×D) :=
 if (A4.any λp=>decide (p.1=k))=true then A4.map (λp=>if p.1=k then (p.1,d) else p) else A4++[(k,d)]
theorem ko.val {K:AP}{H:Hp}(k:Th):∀{A4:P4 (Th×D)} {es:P4 (P4 aE×V)},ko K H A4 es->(m9 A4 k=none/\dq es (kk k)=none)\/∃d v,m9 A4 k=some d/\dq es (kk k)=some v/\ak K H d v
 |[],[],_=>.inl {rfl,rfl}
 |[],_::_,h=>by have:=h.1;simp at this
 |_::_,[],h=>by have:=h.1;simp at this
 |p::A4,e::es,⟨h1,h2⟩=>by
  rwa[Ak,List.cons.injEq] at h1;let⟨v,r,q,r1,r2⟩:=h2;rwa[Ak,List.cons.injEq] at q;let⟨q1,q2⟩:=q;by_cases c:p.1=k
  ·refine .inr {p.2,e.2,?_,?_,by rw[q1];exact r1}
   ·unfold m9;rw[zbX ‹c›];rfl
   ·exact ll (by rw[h1.1,c])
  ·have ih:=ko.val k (A4:=A4) (es:=es) {h1.2,by rw[q2];exact r2};have n1:m9 (p::A4) k=m9 A4 k:=(by unfold m9;rw[zbY ‹c›]);have n2:dq (e::es) (kk k)=dq es (kk k):=gZ λz=>c (rK (h1.1.symm.trans z));rw[n1,n2];exact ih
def ko.any {H:Hp}{A4:P4 (Th×D)}{es:P4 (P4 aE×V)}(r:ko K H A4 es)(k:Th):(es.any λe=>decide (e.1=kk k))=(A4.any λp=>decide (p.1=k)):=by
 have h1:(es.any λe=>decide (e.1=kk k))=((es.map (·.1)).any λx=>decide (x=kk k)):=by rw[zcz];rfl
 rw[h1,r.1,zcz];congr 1;funext p;rwa[Function.comp];by_cases c:p.1=k
 ·rw[Cn c,Cn (by rw[c])]
 ·rw[Bz c,Bz λz=>c (rK z)]
def ko.cons {K:AP}{H:Hp}{k:Th}{k':P4 aE}{d:D}{v:V}{A4:P4 (Th×D)}{es:P4 (P4 aE×V)}:ko K H ((k,d)::A4) ((k',v)::es) ↔ k'=kk k/\ak K H d v/\ko K H A4 es:=by
 constructor
 ·rintro⟨h1,h2⟩;rwa[Ak,List.cons.injEq] at h1;let⟨w,r,e,h3,h4⟩:=h2;rwa[Ak,List.cons.injEq] at e;let⟨rfl,rfl⟩:=e;exact{h1.1,h3,h1.2,h4}
 ·rintro⟨rfl,h1,h2,h3⟩;exact{by rw[Ak,Ak,h2],{_,_,rfl,h1,h3}}
theorem ko.repl {K:AP}{H:Hp}{k:Th}{d:D}{v:V}(rd:ak K H d v):∀{A4:P4 (Th×D)} {es:P4 (P4 aE×V)},ko K H A4 es->ko K H (A4.map λp=>if p.1=k then (p.1,d) else p) (es.map λe=>if e.1=kk k then (e.1,v) else e)
 |[],[],_=>{rfl,rfl}
 |[],_::_,h=>by have:=h.1;simp at this
 |_::_,[],h=>by have:=h.1;simp at this
 |(p,x)::A4,(e,y)::es,h=>by
  let⟨rfl,h2,h3⟩:=ko.cons.mp h;have ih:=ko.repl (k:=k) rd h3;rw[Ak,Ak];by_cases c:p=k
  ·have c':kk p=kk k:=by rw[c]
   rw[A8 c,A8 c'];exact ko.cons.mpr {rfl,rd,ih}
  ·have c':¬ kk p=kk k:=λz=>c (rK z);rw[A6 c,A6 c'];exact ko.cons.mpr {rfl,h2,ih}
def ko.snoc {K:AP}{H:Hp}{k:Th}{d:D}{v:V}(rd:ak K H d v){A4:P4 (Th×D)}{es:P4 (P4 aE×V)}(h:ko K H A4 es):ko K H (A4++[(k,d)]) (es++[(kk k,v)]):=by refine{by simp[h.1],?_};rw[Cy,Cy];exact RelDs.append h.2 {_,_,rfl,rd,rfl}
def ko.put {H:Hp}{k:Th}{d:D}{v:V}{A4:P4 (Th×D)}{es:P4 (P4 aE×V)}(r:ko K H A4 es)(rd:ak K H d v):ko K H (AZ A4 k d) (eF es (kk k) v):=by
 unfold AZ eF;rw[r.any k];split
 ·exact r.repl rd
 ·exact r.snoc rd
noncomputable def EJ (U:ac)(n:Nat):QI (P4 (Th×D)):=match U[n]? with|some (.dt A4)=>some A4|_=>none
def GI {m:Tf}{H:Hp}{U:ac}{n:Nat}{a:A3}{A4:P4 (Th×D)}(s:aJ K m H U)(ha:m[n]?=some a)(e:EJ U n=some A4):∃es,H a=some (.dT es)/\ko K H A4 es:=by
 unfold EJ at e;split at e
 ·rename_i q
  cases e;let⟨es,ea,e1,e2⟩:=s.cell _ _ a q ha;exact{es,ea,e1,e2}
 ·cases e
def ii (H:Hp):P4 A3->P4 (Th)->Prop
 |[],[]=>True
 |a::as,k::ks=>H a=some (.tup (k.map V.int))/\ii H as ks
 |_,_=>False
theorem ii.at {H:Hp}:∀{as:Tf} {ks:Ta},ii H as ks->∀i,i<ks.length->H (as.getD i 0)=some (.tup ((ks.getD i []).map V.int))
 |[],[],_,i,hi=>by simp at hi
 |[],_::_,h,_,_=>h.elim
 |_::_,[],h,_,_=>h.elim
 |_::_,_::_,h,0,_=>h.1
 |_::_,_::_,h,i+1,hi=>ii.at h.2 i ‹hi›
theorem ii.pick {H:Hp}{as:Tf}{ks:Ta}(h:ii H as ks):∀(is:P4 Nat),(∀i∈is,i<ks.length)->ii H (is.map λi=>as.getD i 0) (is.map λi=>ks.getD i [])
 |[],_=>trivial
 |i::is,hi=>{h.at i (hi i BG),ii.pick h is λj hj=>hi j (BR _ hj)}
theorem ii.rels {K:AP}{H:Hp}:∀{as:Tf} {ks:Ta},ii H as ks->RelDs K H (ks.map D.key) (as.map V.ref)
 |[],[],_=>rfl
 |[],_::_,h=>h.elim
 |_::_,[],h=>h.elim
 |_::_,_::_,h=>{_,_,rfl,by rwa[ak];exact{_,rfl,h.1},ii.rels h.2}
def tF:P4 V->Hp->VK->Prop:=λvs H Q=>∃p A4 L,vs=[.ref p]/\H p=some (.dT A4)/\A4.map (·.1)=L.map kk/\L.length<64/\(2<=L.length->∀x∈L,x≠[]) /\
 ∀as,ii H as (cM L)->∀l,H l=none->Q (.ref l) (upd H l (.lst (as.map V.ref)))
theorem su {X:Cx}(hc:X.calm=true):ik X (.builtin "sorted") tF:=by
 intro Qa s Y H vs us Q I r h;let⟨p,A4,L,rfl,hp,hk,GY,Bd,q⟩:=h;let⟨u,rfl,rx⟩:=i5 r;cases rx;let⟨hz,hs,xs,kt,o,es,ep,g,hx,hd,he,hn⟩:=(show br X.prog X.w H s.heap p (.dT A4) from I.hok p _ hp);have key:∀{ks:P4 (P4 aE×V)} {ys:P4 (P4 aE×A3×A2)} {L:Ta},Paired (λ(p:P4 aE×V) (q:P4 aE×A3×A2)=>p.1=q.1/\H q.2.1=some (.tup (p.1.map kV))/\aT p.2 q.2.2) ks ys->ks.map (·.1)=L.map kk ->
   ii H (ys.map (·.2.1)) L/\be s.heap (ys.map λy=>.ref y.2.1) L/\ys.map (·.1)=L.map kk:=by
  intro ks ys L kt
  induction kt generalizing L with
  |nil=>intro e;cases L with
   |nil=>exact{trivial,trivial,rfl}
   |cons _ _=>cases e
  | @cons a b ps qs h1 h2 ih=>
   intro e
   cases L with
   |nil=>cases e
   |cons k L=>
    rwa[Ak,List.cons.injEq] at e;let⟨i1,i2,i3⟩:=ih e.2
    have hb:H b.2.1=some (.tup (k.map V.int)):=by rw[h1.2.1,e.1,yK]
    let⟨_,its,rv,⟨ob,g1,g2,n,g3⟩,_⟩:=(show br X.prog X.w H s.heap b.2.1 (.tup (k.map V.int)) from I.hok _ _ hb);exact{{hb,i1},{{b.2.1,ob,its.toArray,n,rfl,g1,g2,g3,by simpa using dP rv},i2},by simp only[Ak,i3,←h1.1,e.1]}
 let⟨pa,ta,ka⟩:=key kt hk;have Hr:es.toList.map (·.key)=xs.map λy=>.ref y.2.1:=by rw[he,Du];rfl
 have nd:L.Nodup:=by rw[ka] at hn;exact(H9.mp hn).imp λh e=>h (by rw[e])
 refine JDn (I.ok.hd hc) hs {o,g,hx,hd} (by rw[Hr];exact ta) nd GY Bd λis h' tk l c i1 i2 i3 kp ht hl hL=>?_;have hpk:=pa.pick is i1;have heq:(is.map λi=>L.getD i [])=cM L:=xn i3 (oO nd) (i2.trans (dJ L).symm);rw[heq] at hpk;have hlen:is.length=L.length:=by simpa using i2.length_eq
 refine{.ref l,_,I.laid (t':=tk) kp hl (show br X.prog X.w _ h' _ (.lst ((is.map λi=>(xs.map (·.2.1)).getD i 0).map V.ref)) from{by rw[Ay,Ay,hlen,DJ];omega,(is.map λi=>(es.toList.map (·.key)).getD i .none),c,?_,by simpa[seqObj] using hL}),rfl,q _ hpk _ (I.hok.fresh hl)};rw[Hr];have hxl:xs.length=L.length:=by simpa using AI List.length ka
 clear hpk heq i2 i3 hL hlen;induction is with
 |nil=>exact .nil
 |cons i is ih=>
  have hi:i<xs.length:=by rw[hxl];exact i1 i BG
  refine .cons ?_ (ih λj hj=>i1 j (BR _ hj))
  show _=Value.ref _
  simp[zbi,Bl hi]
def Jj {X:Cx}{H:Hp}{s:A1}(I:ay X Qa Y H s){b:A3}{zs:P4 V}(h:j6 X.K H b zs):∃(its:Te) (n:Nat),aS zs its/\s.heap.get? b=some {cls:=.type "list",data:=.seq its.toArray n}:=by
 rcases h with h|⟨o,its,n,hk,hc,hd,hs,hz,r⟩
 ·let⟨z,its,n,r,e⟩:=h.ok I.hok;exact{its,n,r,e}
 ·refine{its.toList,n,r,?_};have e:=I.kIn b o hk;let⟨c,d,dt,sl⟩:=o;simp only at hc hd hs;let⟨hd,hl⟩:=hd;subst hc hd hs hl;simpa using e
noncomputable def K0:R->ac->QI (P4 D)
 |.p a,U=>(match U[a]? with|some (.lst xs)=>some xs|some (.fz xs)=>some xs|_=>none)
 |.v (.fl xs),_=>some xs
 |_,_=>none
theorem Do {m:Tf}{H:Hp}{U:ac}(s:aJ K m H U){x:R}{v:V}{xs:P4 D}(e:K0 x U=some xs)(r:av K m H x v):∃a vs,v=.ref a/\j6 K H a vs/\RelDs K H xs vs:=by
 refine iF s r ?_;rw[←e]
 cases x with
 |v d=>cases d <;> rfl
 |_=>rfl
end HW
namespace PySem
section
variable {prog:A9}{w:AF}{K:Type}[DecidableEq K]{knd:HeapKind prog w K}{A:AE}{E:Tb}{s:A1}
def pP {d a:A3}{xs:P4 (K×A3×A2)}{k:K}{dflt:A2}{Q:Tb}(hu:knd.room A)(Bo:knd.is s.heap k a)(hm:s.heap.DictOfH knd d xs)
  (h1:∀v,(atKey xs k).map (·.2)=some v->Q v {s with toks:=s.toks+knd.draws k})
  (h2:atKey xs k=none->∀h',h'.DictOfH knd d (storedH xs k a dflt)->Heap.SameBut d s.heap h'->Q dflt {s with heap:=h',toks:=s.toks+knd.draws k})
  (hsz:xs.length<=sizeLine) :
  wpAny (model prog w) A (dictSetDefault d (.ref a) dflt) Q E s:=by
 let⟨o,es,ep,ho,hc,hd,he,his,hn⟩:=hm;unfold dictSetDefault
 try with_reducible refine By ?_
 refine AA (knd.pyHash hu Bo ?_);refine AA (wpAny_dictFind_heap (s:={s with toks:=s.toks+knd.draws k}) hu Bo ho hd he his hn ?_ ?_)
 ·intro G6
  have hnot:k∉xs.map (·.1):=not_mem_keys_of_get G6
  refine AA (Eu (AA (wpAny_updateDictKeys (hz:=by have e:=size_of_entries he;omega) (s:={s with toks:=s.toks+knd.draws k}) ho hd (AJ (h2 (atKey_none_of_get G6) _ {_,_,ep+1,Di _ ho (Obj.isFreed_of_dict (Obj.data_mapDictKeys hd _)),
   hc.mapDictKeys _,Obj.data_mapDictKeys hd _,?_,?_,?_} (Heap.SameBut.update ..))))))
  ·rw[storedH_new (atKey_none_of_get G6)]
   simp[he,entryOfKey]
  ·rw[storedH_new (atKey_none_of_get G6)]
   intro x hx;rcases DI.mp hx with hx|hx
   ·exact knd.keeps (his x hx) ho hd (Heap.SameBut.update ..)
   ·rwa[Bg] at hx
    subst hx;exact knd.keeps Bo ho hd (Heap.SameBut.update ..)
  ·rw[storedH_new (atKey_none_of_get G6)]
   rw[Cy,EI];refine{hn,by simp,?_};intro x hx y hy;rwa[Ak,D1,Bg] at hy;subst hy;exact λe=>hnot (e ▸ hx)
 ·intro j p hj
  refine AA (zbK (s:={s with toks:=s.toks+knd.draws k}) ho hd ?_);rw[entry_at he j,hj];exact AA (Eu (AJ (h1 _ (by rw[atKey_of_get hn hj];rfl))))
def kg (knd:HeapKind prog w K){k:K}{a:A3}(d:A3)(hd:(d == sysModules)=false)(dflt:A2) :
  MeetsIn prog w (Builtin.«dict.setdefault» {[.ref d,.ref a,dflt],[]}) (λA R s=>knd.room A.in1/\knd.is s.heap k a/\∃xs,s.heap.DictOfH knd d xs/\xs.length<=sizeLine /\
   (∀v,(atKey xs k).map (·.2)=some v->R (.ok (.ret v)) {s with toks:=s.toks+knd.draws k}) /\
   (atKey xs k=none->∀h',h'.DictOfH knd d (storedH xs k a dflt)->Heap.SameBut d s.heap h'->R (.ok (.ret dflt)) {s with heap:=h',toks:=s.toks+knd.draws k})) :=
 .of_wp λA R s hh=>by
  let⟨hu,Bo,xs,hm,hz,h1,h2⟩:=hh;unfold Builtin.«dict.setdefault»;refine AA ?_;unfold Builtin.Dict.keyAndDefault;refine AA (zct hm.typeIs ?_)
  show wpAny _ _ (pure (d,Value.ref a,some dflt)) _ _ s
  refine AJ ?_
  show wpAny _ _ (if (d == sysModules)=true then _ else (dictSetDefault d (.ref a) dflt >>= _)) _ _ s
  rw[A6 (by rw[hd];exact EK)];exact AA (pP (hsz:=hz) hu Bo hm (λv hv=>AJ {v,rfl,h1 v hv}) λhn h' GQ hs'=>AJ {dflt,rfl,h2 hn h' GQ hs'})
end
end PySem
namespace HW
variable {K:AP}
open PyProof.Rows L2
def zW (td ty tx:TE):TE:=λY H Q=>td Y H λx H1=>∃a,x=.ref a/\Qc H1 a/\ty Y H1 λy H2=>tx Y H2 λz H3=>∃A4 k b,H3 a=some (.dT A4)/\y=.ref b/\H3 b=some (.tup (k.map kV))/\A4.length<sizeLine /\
 (∀v,dq A4 k=some v->Q v H3)/\(dq A4 k=none->Q z (upd H3 a (.dT (A4++[(k,z)]))))
def xg {X:Cx}(hu:X.A.units+1<cLine){o e f:AU}{apos Ag:Pos}{td ty tx:TE}(ho:PE X o td)(he:PE X e ty)(hf:PE X f tx)(m:M2 X o "setdefault" apos e f Ag):PE X (.Call (.Attribute o "setdefault" apos) [e,f] [] Ag) (zW td ty tx):=by
 intro Qa s Y H Q I h;refine zcJ m.base m.few m.line PySem.F.plainAttrs_dict PySem.F.slot_dict_setdefault PySem.F.type_dict_setdefault (cV (ho Qa s Y H _ I h) λu s1 hh=>?_);let⟨x,H1,I1,rx,a,ex,d,q1⟩:=hh;subst ex;obtain rfl:u=Value.ref a:=rx;let⟨t1,t2,_⟩:=BS I1 d;refine{t1,t2,?_};rw[m.trees];refine Calls.callWith_builtin rfl (Calls.evalArgs_plain (Calls.spliced_cons (cV (he Qa s1 Y H1 _ I1 q1) λiv s2 hh=>?_)));let⟨y,H2,I2,ry,q2⟩:=hh;refine Calls.spliced_cons (cV (hf Qa s2 Y H2 _ I2 q2) λfv s3 hh=>Calls.spliced_nil ?_);let⟨z,H3,I3,rz,A4,k,b,ea,ey,eb,hz,qa,qb⟩:=hh;subst ey;cases(show iv=Value.ref b from ry);let⟨zz,hd,xs,rel,dd⟩:=GJ I3.hok ea;have hxz:xs.length<=sizeLine:=by rw[←Paired.length rel];exact zz
 refine call_meetsIn PySem.F.slot_dict_setdefault dd.typeIs PySem.F.entry_dict_setdefault (PySem.F.args_dict_setdefault_3 _ _ _) (kg (tupleKind (bo X.prog X.w)) (k:=k) a hd fv) {tupleKind_room_in1 hu,mw I3.hok eb,xs,dd,hxz,λv hv=>?_,λhn h' dd' hs=>?_}
 ·have r:=rel.val k;rw[hv] at r
  cases q:dq A4 k with
  |none=>rw[q] at r;exact r.elim
  |some v'=>rw[q] at r;exact{v',H3,I3.tok _,r,qa v' q}
 ·have r:=rel.val k;rw[hn] at r
  cases q:dq A4 k with
  |some v'=>rw[q] at r;exact r.elim
  |none=>
   have rp:=rel.put k eb rz;rw[JAd _ q] at rp;let⟨q',es,ep,hq,h2,h3,h4,_,h5⟩:=dd';refine{z,_,sn (ob:=.dT (A4++[(k,z)])) I3 (by rw[ea];exact True.intro) hs {q',hq} {by rw[Bb];exact hz,hd,_,rp.keeps λc ys ec=>?_,q',es,ep,hq,h2,h3,h4,h5},rz,qb q};rw[aq (Gi ec ea (λz=>nomatch z))];exact ec
def m8 (K:AP)(m:Tf)(H:Hp)(A4:P4 (Th×R))(es:P4 (P4 aE×V)):Prop:=es.map (·.1)=A4.map (λp=>kk p.1)/\aR K m H (A4.map (·.2)) (es.map (·.2))
noncomputable def i6 (A4:P4 (Th×R))(k:Th):QI R:=(A4.find? λp=>decide (p.1=k)).map (·.2)
section
variable {K:AP}{m m':Tf}{H H':Hp}
def m8.nil:m8 K m H [] []:={rfl,rfl}
def m8.cons {k:Th}{k':P4 aE}{d:R}{v:V}{A4:P4 (Th×R)}{es:P4 (P4 aE×V)}:m8 K m H ((k,d)::A4) ((k',v)::es) ↔ k'=kk k/\av K m H d v/\m8 K m H A4 es:=by
 constructor
 ·rintro⟨h1,h2⟩;rwa[Ak,List.cons.injEq] at h1;let⟨w,r,e,h3,h4⟩:=h2;rwa[Ak,List.cons.injEq] at e;let⟨rfl,rfl⟩:=e;exact{h1.1,h3,h1.2,h4}
 ·rintro⟨rfl,h1,h2,h3⟩;exact{by simp[h2],{_,_,rfl,h1,h3}}
theorem m8.snoc {k:Th}{d:R}{v:V}(rd:av K m H d v):∀{A4:P4 (Th×R)} {es:P4 (P4 aE×V)},m8 K m H A4 es->m8 K m H (A4++[(k,d)]) (es++[(kk k,v)])
 |[],[],_=>m8.cons.mpr {rfl,rd,.nil}
 |[],e::es,h=>by have:=h.1;simp at this
 |q::A4,[],h=>by have:=h.1;simp at this
 |(a,x)::A4,(b,y)::es,h=>by let⟨rfl,h1,h2⟩:=m8.cons.mp h;exact m8.cons.mpr {rfl,h1,m8.snoc rd h2}
theorem m8.val:∀{A4:P4 (Th×R)} {es:P4 (P4 aE×V)} (k:Th),m8 K m H A4 es->(i6 A4 k=none/\dq es (kk k)=none)\/∃d v,i6 A4 k=some d/\dq es (kk k)=some v/\av K m H d v
 |[],es,k,h=>by
  have:es=[]:=by simpa using h.1
  subst this;exact .inl {rfl,rfl}
 |(a,d)::A4,[],k,h=>by have:=h.1;simp at this
 |(a,d)::A4,(b,v)::es,k,h=>by
  let⟨rfl,h1,h2⟩:=m8.cons.mp h;by_cases e:a=k
  ·refine .inr {d,v,?_,?_,h1}
   ·simp[i6,e]
   ·simp[dq,e]
  ·have ih:=m8.val k h2;have e1:i6 ((a,d)::A4) k=i6 A4 k:=(by simp[i6,e]);have e2:dq ((kk a,v)::es) (kk k)=dq es (kk k):=gZ λz=>e (rK z);rw[e1,e2];exact ih
def m8.ext (x:dz m H m' H'){A4:P4 (Th×R)}{es:P4 (P4 aE×V)}(h:m8 K m H A4 es):m8 K m' H' A4 es:={h.1,aR.ext x h.2}
def m8.len {A4:P4 (Th×R)}{es:P4 (P4 aE×V)}(h:m8 K m H A4 es):es.length=A4.length:=by simpa using AI List.length h.1
end
noncomputable def gC (U:ac)(n:Nat):QI (P4 (Th×R)):=match U[n]? with|some (.dtr A4)=>some A4|_=>none
def sm {m:Tf}{H:Hp}{U:ac}{n:Nat}{a:A3}{A4:P4 (Th×R)}(s:aJ K m H U)(ha:m[n]?=some a)(e:gC U n=some A4):U[n]?=some (.dtr A4)/\∃es,H a=some (.dT es)/\m8 K m H A4 es:=by
 unfold gC at e;split at e
 ·rename_i q
  cases e;let⟨es,ea,e1,e2⟩:=s.cell _ _ a q ha;exact{q,es,ea,e1,e2}
 ·cases e
noncomputable def EA:FE:=λ_ U=>some (.p U.length,U++[.dtr []])
def JFl {H:Hp}{Q:VK}(h:ax K EA Y H Q):zY Y H Q:=by let⟨O,U,m,d,U',hl,hs,e,k⟩:=h;cases e;intro p hp;have x:dz m H (m++[p]) (upd H p (.dT [])):=.newH hp;exact k _ _ (m++[p]) x (hs.newH hp {[],bN,rfl,rfl}) {p,rfl,by rw[←hs.len];simp}
noncomputable def oY (fo fk fx:FE):FE:=λO U=>(fo O U).bind λo=>match o.1 with
 |.p n=>if (gC o.2 n).isSome=true then (fk O o.2).bind λk=>match k.1 with
  |.v (.key ks)=>(fx O k.2).bind λx=>(gC x.2 n).bind λA4=>if A4.length<1000 then some (match i6 A4 ks with|some r=>(r,x.2)|none=>(x.1,x.2.set n (.dtr (A4++[(ks,x.1)])))) else none
  |_=>none
  else none
 |_=>none
def JDz {H:Hp}{Q:VK}{fo fk fx}(h:ax K (oY fo fk fx) Y H Q):zW (ax K fo) (ax K fk) (ax K fx) Y H Q:=by
 let⟨O,U,m,d,U',hl,hs,e,kc⟩:=h;let⟨⟨o,U1⟩,e1,e⟩:=AY.mp e;split at e
 ·rename_i n hn;simp only at hn;subst hn;split at e
  ·rename_i h0;let⟨⟨k,U2⟩,e2,e⟩:=AY.mp e;split at e
   ·rename_i ks IS;simp only at IS;subst IS;let⟨⟨x,U3⟩,e3,e⟩:=AY.mp e;let⟨A4,e4,e⟩:=AY.mp e;split at e
    ·rename_i Al;refine{O,U,m,_,U1,hl,hs,e1,λvo H1 m1 x1 s1 r1=>?_};let⟨kvs0,e0⟩:=zch.mp h0;let⟨a,rfl,ha⟩:=r1;let⟨_,es,hR,hK⟩:=sm s1 ha e0;refine{a,rfl,.inr {es,.inl hR},?_};refine{O,U1,m1,_,U2,hl.ext x1,s1,e2,λvk H2 m2 x2 s2 r2=>?_};refine{O,U2,m2,x,U3,hl.ext (x1.trans x2),s2,e3,λvx H3 m3 x3 s3 r3=>?_};have BD:=(x1.trans x2).trans x3;have Ij:m3[n]?=some a:=by let⟨a',ea',q⟩:=av.ext (x2.trans x3) (show av K m1 H1 (.p n) (.ref a) from{a,rfl,ha});cases ea';exact q
     let⟨q3,BW,Il,HM⟩:=sm s3 Ij e4;have r2':=r2.ext x3;rwa[av,ak] at r2';let⟨b,rfl,hb⟩:=r2';refine{BW,kk ks,b,Il,rfl,by rw[yK];exact hb,?_,λv hv=>?_,λhv=>?_}
     ·rw[HM.len];exact Bi Al (by rw[DJ];omega)
     ·rcases m8.val ks HM with⟨n1,n2⟩|⟨dd,vv,n1,n2,n3⟩
      ·rw[n2] at hv;cases hv
      ·rw[n2] at hv;cases hv;rwa[n1] at e;cases e;exact kc _ H3 m3 BD s3 n3
     ·rcases m8.val ks HM with⟨n1,n2⟩|⟨dd,vv,n1,n2,n3⟩
      ·rwa[n1] at e
       cases e;have y:dz m3 H3 m3 (upd H3 a (.dT (BW++[(kk ks,vx)]))):=.put (DM Ij) Il ∅ ∅;have kr:=m8.snoc (k:=ks) (r3.ext y) (HM.ext y);exact kc _ _ m3 (BD.trans y) (s3.put Ij Il ∅ ∅ {_,bN,kr.1,kr.2}) (r3.ext y)
      ·rw[n2] at hv;cases hv
    ·cases e
   ·cases e
  ·cases e
 ·cases e
noncomputable def B4 (fo fk:FE):FE:=λO U=>(fo O U).bind λo=>(fk O o.2).bind λk=>match o.1,k.1 with
 |.p n,.v (.key ks)=>(gC k.2 n).bind λA4=>(i6 A4 ks).bind λd=>some (d,k.2)
 |_,_=>none
def JF7 {H:Hp}{Q:VK}{fo fk}(h:ax K (B4 fo fk) Y H Q):zZ (ax K fo) (ax K fk) Y H Q:=by
 let⟨O,U,m,d,U',hl,hs,e,kk'⟩:=h;let⟨⟨o,U1⟩,e1,e⟩:=AY.mp e;let⟨⟨k,U2⟩,e2,e⟩:=AY.mp e;dsimp only at e;split at e
 ·rename_i n ks e0;let⟨A4,e3,e⟩:=AY.mp e;let⟨dd,e4,e⟩:=AY.mp e;cases e;refine{O,U,m,_,U1,hl,hs,e1,λvo H1 m1 x1 s1 r1=>?_};refine{O,U1,m1,_,_,hl.ext x1,s1,e2,λvk H2 m2 x2 s2 r2=>?_};let⟨a,rfl,ha⟩:=r1.ext x2;rwa[av,ak] at r2;let⟨b,rfl,hb⟩:=r2;let⟨_,es,ea,kd⟩:=sm s2 ha e3;rcases m8.val ks kd with⟨n1,n2⟩|⟨d',v',n1,n2,n3⟩
  ·rw[n1] at e4;cases e4
  ·rw[n1] at e4;cases e4;exact{a,v',rfl,.inr {es,kk ks,b,.inl ea,rfl,by rw[yK];exact hb,n2.symm},kk' _ H2 m2 (x1.trans x2) s2 n3}
 ·cases e
noncomputable def qd:P4 R->ac->QI (R×ac)
 |[.p n],U=>(gC U n).bind λA4=>if A4.length<64/\(A4.length<2\/∀p∈A4,p.1≠[]) then some (.p U.length,U++[.lst ((cM (A4.map (·.1))).map D.key)]) else none
 |_,_=>none
def JEw {K:AP}:zr K qd tF:=by
 intro m H U xs d U' vs Q s r e k;unfold qd at e;split at e
 ·rename_i n;let⟨A4,e1,e⟩:=AY.mp e;split at e
  ·rename_i hc
   cases e;let⟨v,rfl,r1⟩:=mh r;let⟨a,rfl,ha⟩:=r1;let⟨_,es,ea,kd⟩:=sm s ha e1;refine{a,es,A4.map (·.1),rfl,ea,by rw[kd.1,Du];rfl,by simpa using hc.1,λh2 x hx=>?_,λas pa l hl=>?_}
   ·rw[Ay] at h2;let⟨p,hp,rfl⟩:=Bm.mp hx;rcases hc.2 with h|h
    ·omega
    ·exact h p hp
   ·let⟨x1,x2,x3⟩:=jX s (pa.rels (K:=K)) hl;exact k _ _ _ x1 x2 x3
  ·cases e
 ·cases e
mutual
noncomputable def cq:D->D
 |.tup xs=>.tup (unkDs xs)
 |.fl xs=>.fl (unkDs xs)
 |.key ks=>.tup (ks.map D.int)
 |.fd ks ds=>.fd ks ds
 |.non=>.non
 |.bl b=>.bl b
 |.int i=>.int i
 |.str x=>.str x
noncomputable def unkDs:P4 D->P4 D
 |[]=>[]
 |x::xs=>cq x::unkDs xs
end
theorem p4:∀xs:P4 D,unkDs xs=xs.map cq
 |[]=>by rwa[unkDs,D1]
 |x::xs=>by rwa[unkDs,Ak,p4 xs]
section
variable {K:AP}{H:Hp}
mutual
theorem ak.unk:∀(d:D) (v:V),ak K H d v->ak K H (cq d) v
 |.non,_,h=>by simpa only[cq] using h
 |.bl _,_,h=>by simpa only[cq] using h
 |.int _,_,h=>by simpa only[cq] using h
 |.str _,_,h=>by simpa only[cq] using h
 |.fd _ _,_,h=>by simpa only[cq] using h
 |.tup xs,v,h=>by rwa[cq,ak] at h ⊢;let⟨a,vs,e,s,r⟩:=h;exact{a,vs,e,s,RelDs.unk xs vs r}
 |.fl xs,v,h=>by rwa[cq,ak] at h ⊢;let⟨a,vs,e,s,r⟩:=h;exact{a,vs,e,s,RelDs.unk xs vs r}
 |.key ks,v,h=>by rwa[cq,ak] at h ⊢;let⟨a,e,q⟩:=h;exact{a,_,e,.inl (.inl q),me ks}
theorem RelDs.unk:∀(ds:P4 D) (vs:P4 V),RelDs K H ds vs->RelDs K H (unkDs ds) vs
 |[],_,h=>by simpa only[unkDs] using h
 |d::ds,vs,h=>by rwa[unkDs,RelDs] at h ⊢;let⟨v,r,e,h1,h2⟩:=h;exact{v,r,e,ak.unk d v h1,RelDs.unk ds r h2}
end
end
noncomputable def uk {Z:Type}(f:P4 D->Z):P4 D->Z:=λds=>f (unkDs ds)
def ya (ds:P4 D):(unkDs ds).length=ds.length:=by rw[p4,Ay]
def KU {n:Nat}{f:MF}{vs:P4 V}{H:Hp}{Q:VK}{E:XK}(h:zt K n (uk f) vs H Q E):zt K n f vs H Q E:=by let⟨ds,d,hl,r,e,k⟩:=h;exact{unkDs ds,d,(ya ds).trans hl,RelDs.unk ds vs r,e,k}
noncomputable def lZ:R->R
 |.v d=>.v (cq d)
 |x=>x
noncomputable def J5:au->au
 |.lst xs=>.lst (unkDs xs)
 |.fz xs=>.fz (unkDs xs)
 |c=>c
noncomputable def qS (U:ac):ac:=U.map J5
theorem gl.unk {m:Tf}{H:Hp}{c:au}{a:A3}(h:gl K m H c a):gl K m H (J5 c) a:=by
 cases c with
 |lst xs=>let⟨vs,e,r⟩:=h;exact{vs,e,RelDs.unk xs vs r}
 |fz xs=>let⟨o,vs,e,r⟩:=h;exact{o,vs,e,RelDs.unk xs vs r}
 |_=>exact h
def aJ.unk {m:Tf}{H:Hp}{U:ac}(s:aJ K m H U):aJ K m H (qS U) :=
 {s.nd,by rw[s.len,qS,Ay],λi c a e1 e2=>by rw[qS,Bh] at e1;let⟨c',q1,q2⟩:=DX.mp e1;subst q2;exact(s.cell i c' a q1 e2).unk}
theorem av.unk {m:Tf}{H:Hp}{x:R}{v:V}(h:av K m H x v):av K m H (lZ x) v:=by
 cases x with
 |v d=>exact ak.unk d v h
 |_=>exact h
noncomputable def jJ (neg:A7):R->R->ac->QI (R×ac):=λx y U=>(jg neg (lZ x) (lZ y) (qS U)).bind λr=>some (r.1,U)
def Gw {neg:A7}:pB K (jJ neg) (DD K neg):=by
 intro m H U x y d U' v u Q s rx ry e k;let⟨⟨r,U1⟩,e1,e⟩:=AY.mp e;cases e;have e0:=e1;unfold jg at e1;let⟨a,q1,e1⟩:=AY.mp e1;let⟨b,q2,e1⟩:=AY.mp e1;split at e1
 ·cases e1;exact{m,qS U,lZ x,lZ y,_,s.unk,rx.unk,ry.unk,e0,k _ H m .refl s (by rwa[av,ak])}
 ·cases e1
end HW
namespace L2
open PyProof.Rows
noncomputable def uw (o:As):Nat:=match o.data with|.dict _ ep=>ep|_=>0
def JA6 {k:aE}{u:A2}(h:(bo P w).is k u=true):aT (kV k) u:=by
 rcases bn (show lI k u=true from h) with⟨i,t,rfl,rfl⟩|⟨x,t,rfl,rfl⟩|⟨rfl,rfl⟩
 ·exact{t,rfl}
 ·exact{t,rfl}
 ·rfl
end L2
namespace HW
open PyProof.Rows L2
noncomputable def kD:aE->D
 |.inl i=>.int i
 |.inr (some x)=>.str x
 |.inr none=>.non
def Ja {K:AP}{H:Hp}(k:aE):ak K H (kD k) (kV k):=by rcases k with i|(_|x) <;> rwa[kD,kV,ak]
end HW
namespace HW
abbrev JN (h:AD)(z TI TO T:A3)(fl:A7):Prop :=
 h.get? z=some {cls:=.type "zip",dict:=none,data:=.fields #[rawInt T,.bool fl,.bool false,.ref TI,.ref TO],slots:=#[]}
open L2 PyProof.Rows
structure QJ (h:Heap)(S z TI TO i1 i2 l1 l2:Addr)(xs ys:Ti)(k:Nat):Prop where
 st:(k=0/\IsZip h z TI TO .none/\IsPair h TO .none .none)\/∃T fl oT,JN h z TI TO T fl/\h.get? T=some oT/\T∉[S,z,TO,i1,i2]
 ti:IsPair h TI (.ref i1) (.ref i2)
 h1:h.IsListIter i1 l1 k
 h2:h.IsListIter i2 l2 k
 l1:h.IsList l1 xs
 l2:h.IsList l2 ys
 to:∃o,h.get? TO=some o
end HW
namespace HK
open PyProof.Rows L2
def JCi:entryFor table "dict_itemiterator.__iter__" = some Builtin.«dict_keyiterator.__iter__»:=entryFor_alias (id':="dict_keyiterator.__iter__") (by kernel_rfl) rfl ∅ (by kernel_rfl)
section
variable {prog:A9}{w:AF}{A:AE}{E:Tb}{s:A1}{d it v:A3}{es:AB DictEntry}{ep i:Nat}{ok ov:A2}
def BM {Q:Tb}(nd:(d == sysModules)=false)(m:DE s.heap d es ep)
  (fin:Q (.ref s.heap.objs.size) {s with heap:=s.heap.push {cls:=.type "dict_items",data:=.fields #[.ref d]}}):wpAny (model prog w) A (call (.builtin "dict.items") [.ref d]) Q E s:=by
 refine Co F.slot_dict_items m.ty F.entry_dict_items ?_ (F.args_dict_items_1 _);unfold Builtin.«dict.items» Builtin.Dict.noArgs;refine AA (AA (zct m.ty (show wpAny _ _ (pure d) _ _ s from AJ (show wpAny _ _ (Builtin.Dict.showsAll d >>= _) _ _ s from ?_))));unfold Builtin.Dict.showsAll;rw[A6 (show ¬ (d == sysModules)=true by rw[nd];decide)];exact AA (AJ (AA (Cu (AJ {_,rfl,fin}))))
def Gs {Q:Tb}(y:s.heap.IsItemsView v d)(m:DE s.heap d es ep)
  (fin:Q (.ref s.heap.objs.size) {s with heap:=s.heap.push {cls:=.type "dict_itemiterator",data:=.fields #[.none,.bool false,.ref d,.int 0 0,.int es.size 0,.int ep 0,.none,.none]}}):wpAny (model prog w) A (pyIter (.ref v)) Q E s:=by
 obtain⟨ob,g,x,dt⟩:=id m;obtain⟨oy,gy,cy,dy⟩:=id y;refine zb0 y.typeIs F.slot_dict_items_iter (Co F.slot_dict_items_iter y.typeIs F.entry_dict_items_iter ?_ (F.args_dict_items_iter_1 _));unfold Builtin.«dict_items.__iter__» Builtin.Dict_items.dictOf Builtin.Dict_items.newIterator;refine AA (AJ (AA (AA (zb9 gy dy (x:=.ref d) rfl (AJ (AA (AA (zbK g dt (AA (zcf g dt ?_))))))))));rwa[show Builtin.Dict_items.ownsTuple "dict_itemiterator" = true by decide,if_true];refine Cu (AJ {_,rfl,"dict_itemiterator",_,{_,BI _ rfl,rfl},F.slot_dict_itemiterator_next.lookup,?_}) (by simp[sizeOk,Builtin.Dict_items.ownedTupleFields,DJ]);simpa[rawInt,Builtin.Dict_items.ownedTupleFields] using fin
def Gq {n:Nat}{Q:Tb}(k:IsItemIter s.heap it d i n ep ok ov)(h:Q (.ref it) s):wpAny (model prog w) A (pyIter (.ref it)) Q E s:=by
 have ty:s.TypeIs (.ref it) "dict_itemiterator":={_,k,rfl};refine zb0 ty F.slot_dict_itemiterator_iter (Co F.slot_dict_itemiterator_iter ty JCi ?_ (F.args_dict_itemiterator_iter_1 _))
 show wpAny _ _ (ret (.ref it)) _ _ s
 exact AJ {_,rfl,"dict_itemiterator",_,ty,F.slot_dict_itemiterator_next.lookup,h}
def Gh {e:DictEntry}{Q:QI A2->A1->Prop}(k:IsItemIter s.heap it d i es.size ep ok ov)(m:DE s.heap d es ep)(ge:es[i]?=some e)
  (fin:∀h',IsItemIterOut h' it d (i+1) es.size ep e.key e.val s.heap.objs.size->h'.get? s.heap.objs.size=some {cls:=.type "tuple",data:=.seq #[e.key,e.val]}->h'.objs.size=s.heap.objs.size+1 ->
   (∀b o,b≠it->s.heap.get? b=some o->h'.get? b=some o)->Q (some (.ref s.heap.objs.size)) {s with heap:=h'}):wpAny (model prog w) A (pyNext (.ref it)) Q E s:=by
 obtain⟨hp,gs,dr,tk,os⟩:=s;obtain⟨ob,g,x,dt⟩:=id m;have ty:Shared.TypeIs ⟨hp,gs,dr,tk,os⟩ (.ref it) "dict_itemiterator":={_,k,rfl};have lt:=Av k;unfold pyNext;refine AA (Hd (HB (name:=Str.ofString "__next__") ty F.slot_dict_itemiterator_next (Co F.slot_dict_itemiterator_next ty F.entry_dict_itemiterator_next ?_ (F.args_dict_itemiterator_next_1 _))));refine AA (AJ (AA (AA ?_)))
 first|refine AA (zbU ty (AJ (AA (Hf k rfl ?_))))|refine AA (wpAny_typeNameOf_itemiter ty (AJ (AA (Hf k rfl ?_))))
 rwa[show Builtin.Dict_items.ownsTuple "dict_itemiterator" = true by decide,if_true];refine(show wpAny _ _ (if (Value.ref d == Value.none)=true then _ else _) _ _ _ from ?_);rw[A6 (show ¬ ((Value.ref d == Value.none)=true) by exact EK)];refine AA (AJ (AA (zbK g dt ?_)));rw[A6 (show ¬ _ by simp)];refine AA (AJ (AA (zcf g dt ?_)));rw[A6 (show ¬ _ by simp)];refine AJ ?_;rwa[show ¬ ((i:Int)<0) by omega,if_false,HZ,ge];refine AA ?_
 first|refine AA (zbU ty (AJ (AA (zbG ty ?_))))|refine AA (wpAny_typeNameOf_itemiter ty (AJ (AA (zbG ty ?_))))
 refine(show wpAny _ _ (setField (.ref it) 3 (rawInt ((i:Int)+1)) >>= _) _ _ _ from AA (zbV k ∅ λh₁ k₁ c₁=>?_));have c₁:Heap.SameBut it hp h₁:=c₁
 have k₁:IsItemIter h₁ it d (i+1) es.size ep ok ov:=by
  unfold IsItemIter;rw[show((i+1:Nat):Int)=(i:Int)+1 by omega];simpa[rawInt] using k₁
 refine AA (By (AA (zbG (s:={h₁,gs,dr,tk,os}) {_,k₁,rfl} (AA (zbG (s:={h₁,gs,dr,tk,os}) {_,k₁,rfl} ?_)))));refine(show wpAny _ _ (Builtin.Dict_items.pairFromOwner (.ref it) 6 e.key e.val) _ _ _ from ?_);unfold Builtin.Dict_items.pairFromOwner;refine AA (wpAny_newTuple ?_);have kk:∀b o,b≠it->hp.get? b=some o->(h₁.push {cls:=.type "tuple",data:=.seq #[e.key,e.val]}).get? b=some o:=λb o hb q=>Am _ (c₁.extBut b o hb q);have k₂:IsItemIter (h₁.push {cls:=.type "tuple",data:=.seq #[e.key,e.val]}) it d (i+1) es.size ep ok ov:=Am _ k₁
 have gt:(h₁.push {cls:=.type "tuple",data:=.seq #[e.key,e.val]}).get? hp.objs.size=some {cls:=.type "tuple",data:=.seq #[e.key,e.val]}:=by rw[←c₁.1];exact BI _ rfl
 have sz:(h₁.push {cls:=.type "tuple",data:=.seq #[e.key,e.val]}).objs.size=hp.objs.size+1:=by rw[DZ,c₁.1]
 refine(show wpAny _ _ (Builtin.Dict_items.ownedTupleIsFree (.ref it) >>= _) _ _ {h₁.push {cls:=.type "tuple",data:=.seq #[e.key,e.val]},gs,dr,tk,os} from ?_);rw[c₁.1];generalize h₁.push {cls:=.type "tuple",data:=.seq #[e.key,e.val]}=h₂ at kk k₂ gt sz;clear k₁ c₁;unfold Builtin.Dict_items.ownedTupleIsFree;refine AA (AA (zb9 k₂ rfl (x:=.none) rfl (AJ ?_)));rwa[if_true];refine AA (zb9 k₂ rfl (x:=ok) rfl (AA (zb9 k₂ rfl (x:=ov) rfl ?_)))
 have key:∀h₃,Heap.SameBut it h₂ h₃->h₃.get? hp.objs.size=some {cls:=.type "tuple",data:=.seq #[e.key,e.val]}/\h₃.objs.size=hp.objs.size+1/\∀b o,b≠it->hp.get? b=some o->h₃.get? b=some o:=λh₃ c=>
  {c.extBut _ _ (D2 lt) gt,c.1.trans sz,λb o hb q=>c.extBut b o hb (kk b o hb q)}
 refine AA (zbV k₂ ∅ λh₃ k₃ c₃=>?_);have k₃:IsItemIter h₃ it d (i+1) es.size ep e.key ov:=k₃;refine AA (zbV k₃ ∅ λh₄ k₄ c₄=>?_);have k₄:IsItemIter h₄ it d (i+1) es.size ep e.key e.val:=k₄;refine AA (zbV k₄ ∅ λh₅ k₅ c₅=>?_);have k₅:IsItemIterOut h₅ it d (i+1) es.size ep e.key e.val hp.objs.size:=k₅;refine AA (zbV k₅ ∅ λh₆ k₆ c₆=>?_);have k₆:IsItemIterOut h₆ it d (i+1) es.size ep e.key e.val hp.objs.size:=k₆;let⟨a1,a2,a3⟩:=key h₆ (((Heap.SameBut.trans c₃ c₄).trans c₅).trans c₆);exact AA (wpAny_letGo (AJ (AJ {_,rfl,AJ (fin h₆ k₆ a1 a2 a3)})))
def wi:WK prog w "dict_itemiterator" "dict_itemiterator.__next__" 2:={F.slot_dict_itemiterator_next,F.entry_dict_itemiterator_next,F.args_dict_itemiterator_next_1,by decide,λ_ _ _ _ y=>{λ_=>zbU y,λ_ _=>zbG y}}
def Gj {Q:QI A2->A1->Prop}(hh:A.handled=none)(k:IsItemIter s.heap it d es.size es.size ep ok ov)(m:DE s.heap d es ep)
  (fin:∀h',Heap.ExtBut it s.heap h'->Q none {s with heap:=h'}):wpAny (model prog w) A (pyNext (.ref it)) Q E s:=Gk wi hh k rfl rfl rfl m fin
end
end HK
namespace L2
open PyProof.Rows HK
def O8 (a:A3)(o:As)(es:P4 (P4 aE×V)):It :=
 {λi H=>H a=some (.frz o (.dT es))/\i<es.length,λi H v H'=>∃T b kv,es[i]?=some kv/\v=.ref T/\H T=none/\H b=some (.tup (kv.1.map kV))/\H'=upd H T (.tup [.ref b,kv.2]),λi H=>H a=some (.frz o (.dT es))/\es.length<=i}
noncomputable def ki (o:As):AB DictEntry:=match o.data with|.dict es _=>es|_=>#[]
def B0 {H:Hp}{h:AD}{a:A3}{o:As}{es:P4 (P4 aE×V)}(ok:fH P w H h)(e:H a=some (.frz o (.dT es))) :
  (a == sysModules)=false/\DE h a (ki o) (uw o)/\(ki o).size=es.length/\∀(i:Nat) kv,es[i]?=some kv->∃b u,aT kv.2 u/\H b=some (.tup (kv.1.map kV))/\∃en,(ki o)[i]?=some en/\en.key=.ref b/\en.val=u:=by
 let⟨q1,_,q3,xs,q4,o',BW,ep,r1,r2,r3,r4,r5⟩:=(show br P w H h a (.frz o (.dT es)) from ok a _ e);have z:=q1.symm.trans r1;cases z
 have e1:ki o=BW:=by unfold ki;rw[r3]
 have e2:uw o=ep:=by unfold uw;rw[r3]
 rw[e1,e2];refine{q3,{o,r1,r2,r3},?_,λi kv hi=>?_}
 ·rw[←Dv,r4,Ay,←Paired.length q4]
 ·have key:∀{es:P4 (P4 aE×V)} {xs:P4 (P4 aE×A3×A2)} {i:Nat} {kv},Paired (λ(p:P4 aE×V) (q:P4 aE×A3×A2)=>p.1=q.1/\H q.2.1=some (.tup (p.1.map kV))/\aT p.2 q.2.2) es xs->es[i]?=some kv->∃x,xs[i]?=some x/\H x.2.1=some (.tup (kv.1.map kV))/\aT kv.2 x.2.2:=by
   intro es xs i kv p
   induction p generalizing i with
   |nil=>intro z;simp at z
   |cons r t ih=>
    intro z
    cases i with
    |zero=>rwa[List.getElem?_cons_zero,Option.some.injEq] at z;subst z;exact{_,rfl,r.2.1,r.2.2}
    |succ i=>let⟨x,h1,h2⟩:=ih ‹z›;exact{x,by simpa using h1,h2}
  let⟨x,h1,h2,h3⟩:=key q4 hi;refine{x.2.1,x.2.2,h3,h2,entryOfKey (tupleKind (bo P w)) x,?_,rfl,rfl};rw[←Hc,r4,Bh,h1];rfl
def u9 {K:AP}{elts:Tj}{x1}(a it:A3)(o:As)(es:P4 (P4 aE×V)):wo P w K (.Tuple elts x1 pos) (O8 a o es) [it] it (λi h=>i<=(ki o).size/\∃ok ov,IsItemIter h it a i (ki o).size (uw o) ok ov) where
 mem:=by simp
 obj:=λi h st b hb=>by
  have e:b=it:=by simpa using hb
  subst e;let⟨_,ok,ov,q⟩:=st;exact{_,q,λv z=>by
   have z':Data.fields _=Data.cell v:=z
   cases z'}
 keep:=λi h h' st k=>by let⟨z,ok,ov,q⟩:=st;exact{z,ok,ov,k it ∅ _ q}
 item:=by
  intro X hP hw hK hc i Qa s Y H E I hf st hg;subst hP hw hK;obtain⟨hq,hi⟩:=hg;obtain⟨_,ok,ov,st⟩:=st;obtain⟨hd,de,hsz,at_⟩:=B0 I.hok hq;have hx:es[i]?=some es[i]:=Bl hi;obtain⟨b,u,ru,hb,en,g1,g2,g3⟩:=at_ i _ hx;have ilt:it<s.heap.objs.size:=Av st;have nT:H s.heap.objs.size=none:=I.hok.fresh (Ao _);refine Gh st de g1 λh1 o1 hT hsz1 kk=>{_,rfl,zcH o1 λh2 he2 sb=>?_};rw[g2,g3] at hT;have tup:br X.prog X.w (upd H s.heap.objs.size (.tup [.ref b,es[i].2])) (s.heap.push {cls:=.type "tuple",data:=.seq #[.ref b,u]}) s.heap.objs.size (.tup [.ref b,es[i].2]) :=
   {(by decide:2<=sizeLine),[.ref b,u],.cons rfl (.cons ru .nil),i4.new _ _}
  have I1:=I.laid (t':=s.toks) (λb o q=>Am _ q) (Ao _) tup;have hT2:h2.get? s.heap.objs.size=some {cls:=.type "tuple",data:=.seq #[.ref b,u]}:=(sb.2 _ (D2 ilt)).trans hT;have I2:ay X Qa Y (upd H s.heap.objs.size (.tup [.ref b,es[i].2])) {s with heap:=h2,toks:=s.toks}:=by
   refine ay.turnedL (s:={s with heap:=s.heap.push {cls:=.type "tuple",data:=.seq #[.ref b,u]}}) (its:=[it]) I1 (λc o hc q=>?_) λc hc=>?_
   ·have Ie:c≠it:=λz=>hc (by simp[z]);by_cases Ds:c=s.heap.objs.size
    ·subst Ds;have q:(s.heap.push {cls:=.type "tuple",data:=.seq #[.ref b,u]}).get? s.heap.objs.size=some o:=q;rw[BI _ rfl] at q;cases q;exact hT2
    ·have q:(s.heap.push {cls:=.type "tuple",data:=.seq #[.ref b,u]}).get? c=some o:=q;have Al:c<s.heap.objs.size:=by have h0:=Av q;rw[DZ] at h0;exact Nat.lt_of_le_of_ne (Nat.le_of_lt_succ h0) Ds
     have q0:s.heap.get? c=some o:=(by rw[←q];exact(xa Al).symm);exact(sb.2 c Ie).trans (kk c o Ie q0)
   ·let⟨f0,f1,f2,f3,f4,f5⟩:=hf c hc;have Ds:c≠s.heap.objs.size:=by have z:c=it:=‹hc›;rw[z];exact BE ilt
    exact{by rw[aq Ds];exact f0,f1,f3,f4,f5}
  refine{.ref s.heap.objs.size,_,I2,rfl,{_,b,_,hx,rfl,nT,hb,rfl},{by rw[hsz];exact hi,_,_,he2},λc hc=>?_};have Ds:c≠s.heap.objs.size:=by have z:c=it:=‹hc›;rw[z];exact BE ilt
  rw[aq Ds];exact(hf c hc).1
 done:=by
  intro X hP hw hK hc i Qa s Y H E I hf st hg;subst hP hw hK;let⟨hq,hi⟩:=hg;let⟨z,ok,ov,st⟩:=st;let⟨hd,de,hsz,_⟩:=B0 I.hok hq;let⟨f0,f1,f2,f3,f4,f5⟩:=hf it ∅;have Dh:i=(ki o).size:=by omega
  rw[Dh] at st;exact Gj (I.ok.hd hc) st de λh' eb=>{rfl,I.turned (t':=s.toks) (λb o hb e=>eb b o hb e) f0 f1 f3 f4 f5}
 self:=λ_ _ _ _ _ st h=>by let⟨_,ok,ov,st⟩:=st;exact Gq st h
def BU (tl:TE):TI:=λY H R=>tl Y H λx H1=>∃a o es,x=.ref a/\H1 a=some (.frz o (.dT es))/\R (O8 a o es) H1
def JBo {X:Cx}{elts:Tj}{x1}{pt apos Ag:Pos}{o:AU}{tl:TE}(hl:PE X o tl)(BN:attributeBase o "items" X.env (eval o X.env)=eval o X.env)(BL:(apos.endLine == Ag.line)=true) :
  PI X (.Tuple elts x1 pt) (.Call (.Attribute o "items" apos) [] [] Ag) (BU tl):=by
 intro Qa s Y H R I h;refine zcJ BN rfl BL PySem.F.plainAttrs_dict PySem.F.slot_dict_items PySem.F.type_dict_items (cV (hl Qa s Y H _ I h) λu s1 hh=>?_);obtain⟨x,H1,I1,rx,a,o,es,ex,hq,q⟩:=hh;subst ex;obtain rfl:u=Value.ref a:=rx;obtain⟨t1,t2,_⟩:=BS I1 (.inr {es,.inr {o,hq}});refine{t1,t2,Calls.callWith_builtin rfl (PySem.evalArgs_none ?_)};obtain⟨hd,de,hsz,at_⟩:=B0 I1.hok hq;refine BM hd de ?_;refine Gs (v:=s1.heap.objs.size) (d:=a) {_,BI _ rfl,rfl,rfl} (de.at λob g=>Am _ g) ?_;have I2:ay X Qa Y H1 {s1 with heap:=s1.heap.push {cls:=.type "dict_items",data:=.fields #[.ref a]}}:=I1.kept (t':=s1.toks) λb o e=>Am _ e;refine{_,[_],_,_,H1,rfl,I2.kept (t':=s1.toks) λb o e=>Am _ e,u9 a _ o es,{DH _,_,_,BI _ rfl},λb hb=>?_,q};have e:=Bg.mp hb;rw[e];exact I2.fpOk (Ao _) (I2.hok.fresh (Ao _))
end L2
namespace HW
variable {K:AP}
open PyProof.Rows L2
noncomputable def Px:R->ac->QI (P4 (Th×D)×ac)
 |.p n,U=>match U[n]? with|some (.dt A4)=>some (A4,U.set n (.fzt A4))|some (.fzt A4)=>some (A4,U)|_=>none
 |_,_=>none
abbrev NY (p:Th×D):D:=.tup [.key p.1,p.2]
noncomputable def Ey (f:FE):FI:=λO U=>(f O U).bind λa=>(Px a.1 a.2).bind λb=>some (b.1.map NY,b.2)
def ko.tf {H H':Hp}{A4:P4 (Th×D)}{es:P4 (P4 aE×V)}(t:TF H H')(h:ko K H A4 es):ko K H' A4 es:={h.1,RelDs.tf t _ _ h.2}
theorem ko.at {H:Hp}{A4:P4 (Th×D)}{es:P4 (P4 aE×V)}(h:ko K H A4 es){i:Nat}{p:Th×D}(e:A4[i]?=some p):∃v,es[i]?=some (kk p.1,v)/\ak K H p.2 v:=by
 let⟨v,q,r⟩:=h.2.get (i:=i) (d:=p.2) (by rw[Bh,e];rfl);have k1:(es.map (·.1))[i]?=some (kk p.1):=by rw[h.1,Bh,e];rfl
 rw[Bh] at q k1
 cases z:es[i]? with
 |none=>rw[z] at q;cases q
 |some y=>
  rw[z] at q k1;have q:=Option.some.inj q;have k1:=Option.some.inj k1;exact{v,AI some (Prod.ext k1 q),r}
def BK {a:A3}{o:As}{es:P4 (P4 aE×V)}{A4:P4 (Th×D)}:CT K (O8 a o es) (A4.map NY) (λH=>H a=some (.frz o (.dT es))/\ko K H A4 es) where
 st:=λH H' t p=>{t.frz _ _ _ p.1,p.2.tf t}
 stop:=λi H p hi=>{p.1,by have:=AI List.length p.2.1;simp at this hi;omega}
 go:=λi d H e p=>{p.1,by
  have h1:=(Bv.mp e).1;have:=AI List.length p.2.1;simp at this h1;omega}
 yld:=λi d H x H' e p y=>by let⟨T,b,kv,e1,e2,e3,e4,e5⟩:=y;rw[Bh] at e;let⟨q,hq,hd⟩:=DX.mp e;let⟨v,z,r⟩:=p.2.at hq;rw[e1] at z;cases z;subst e2 e5 hd;refine{jr e3,?_};rwa[ak];refine{T,[.ref b,v],rfl,gp.of aP,?_};rwa[RelDs,ak];exact{_,_,rfl,{b,rfl,by rw[jr e3 b _ e4,yK]},_,_,rfl,ak.tf (lN (m:=[]) (jr e3)).tf _ _ r,rfl}
theorem JFg {H:Hp}{R:It->Hp->Prop}{f}(h:rq K (Ey f) Y H R):BU (MK (ax K f)) Y H R:=by
 let⟨O,U,m,xs,U',hl,hs,e,k⟩:=h;let⟨⟨x,U1⟩,e1,e⟩:=AY.mp e;let⟨⟨A4,U2⟩,e2,e⟩:=AY.mp e;cases e;refine{O,U,m,x,U1,hl,hs,e1,λv H1 m1 x1 s1 r1=>?_}
 cases x with
 |p n=>
  let⟨a,rfl,ha⟩:=r1;rwa[Px] at e2;split at e2
  ·rename_i A4 q
   cases e2;let⟨es,ea,ke,rr⟩:=s1.cell n _ a q ha;refine .inr {a,_,ea,trivial,λo=>?_};have x:dz m1 H1 m1 (upd H1 a (.frz o (.dT es))):=.put (DM ha) ea ∅ ∅;exact{a,o,es,rfl,bN,k _ _ _ m1 (x1.trans x) (s1.put ha ea ∅ ∅ {o,es,bN,ke,RelDs.tf x.tf _ _ rr}) BK {bN,ke,RelDs.tf x.tf _ _ rr}}
  ·rename_i A4 q
   cases e2;let⟨o,es,ea,ke,rr⟩:=s1.cell n _ a q ha;exact .inl {a,o,es,rfl,ea,k _ _ _ m1 x1 s1 BK {ea,ke,rr}}
  ·cases e2
 |_=>cases e2
end HW
namespace HS
open PyProof.Rows
def ME (S:A3)(wr:Tf)(h h':AD):Prop:=∀b o,b≠S->b∉wr->h.get? b=some o->h'.get? b=some o
noncomputable def Ik {K:Type}[DecidableEq K](xs ps:P4 (K×A3×A2)):P4 (K×A3×A2):=ps.foldl (λa p=>storedH a p.1 p.2.1 p.2.2) xs
def sX {K:Type}[DecidableEq K]{xs:P4 (K×A3×A2)}{k:K}{a:A3}{v:A2}{x:K×A3×A2}(h:x∈storedH xs k a v):(∃y∈xs,y.1=x.1/\y.2.1=x.2.1)\/(x.1=k/\x.2.1=a):=by
 unfold storedH at h;split at h
 ·let⟨y,hy,rfl⟩:=Bm.mp h;refine .inl {y,hy,?_};unfold putAt;split <;> exact{rfl,rfl}
 ·rcases DI.mp h with h|h
  ·exact .inl {x,h,rfl,rfl}
  ·rw[Bg.mp h];exact .inr {rfl,rfl}
def sY {K:Type}[DecidableEq K](xs:P4 (K×A3×A2))(k:K)(a:A3)(v:A2):(storedH xs k a v).length<=xs.length+1:=by unfold storedH;split <;> simp
section
variable {prog:A9}{w:AF}{A:AE}{E:Tb}{s:A1}{R:Result->A1->Prop}{I:A3}{fp wr:Tf}{n:Nat}{P:Nat->A2->Prop}{St:Nat->AD->Prop}
theorem wf {K:Type}[DecidableEq K]{knd:HeapKind prog w K}(W:Walks prog w A.in1 I fp wr n P St)(S:A3)(Bx:S∉fp)(Hn:knd.room A.in1)(ps:P4 (K×A3×A2))(hps:ps.length=n)(h₀:AD)
  (hP:∀i v,P i v->∃p,ps[i]?=some p/\gh h₀ v (.ref p.2.1) p.2.2/\(∀h,ME S wr h₀ h->knd.is h p.1 p.2.1)/\∀a,v=.ref a->a≠S/\a∉wr) :
  ∀(k i:Nat) (s:A1) (c:Int) (xs:P4 (K×A3×A2)),n-i=k->i<=n->St i s.heap->ME S wr h₀ s.heap->s.heap.DictOfH knd S xs->(∀x∈xs,∀h,ME S wr h₀ h->knd.is h x.1 x.2.1)->xs.length+k<=sizeLine ->
   (∀h' tk,ME S wr s.heap h'->h'.DictOfH knd S (Ik xs (ps.drop i))->R (.ok (.ret .none)) {s with heap:=h',toks:=tk}) ->
   codeAny (model prog w) A (.builtin "dict.update.loop" {[.ref S,.ref I,.int c 0,.none],[]}) R s:=by
 have nw:S∉wr:=λh=>Bx (W.sub _ h);intro k
 induction k with
 |zero=>
  intro i s c xs hk hi D7 h0 hS ha hb hR
  have IV:i=n:=by omega
  subst IV;refine DW fQ ?_;rw[Dw cD _];refine(show wpAny _ A.in1 (pyNext (.ref I) >>= _) _ _ s from AA (W.done s _ _ D7 λh' tk Cj=>?_));refine(show wpAny _ A.in1 (do Builtin.Dict.addKeywords S [];ret Value.none) _ _ _ from AA (show wpAny _ _ (pure ()) _ _ _ from AJ (AJ ?_)));refine hR h' tk (λb o _ hb e=>Cj b o hb e) ?_;rw[zcq ∅];let⟨o,es,ep,ho,r1,r2,r3,r4,r5⟩:=hS;exact{o,es,ep,Cj S o nw ho,r1,r2,r3,λx hx=>ha x hx h' λb o n1 n2 e=>Cj b o n2 (h0 b o n1 n2 e),r5}
 |succ k ih=>
  intro i s c xs hk hi D7 h0 hS ha hb hR
  have Al:i<n:=by omega
  refine DW fQ ?_;rw[Dw cD _];refine(show wpAny _ A.in1 (pyNext (.ref I) >>= _) _ _ s from AA (W.item i s _ _ Al D7 λv h1 tk1 hPv ID HJ=>?_));let⟨p,hpi,EU,Bo,Ii⟩:=hP i v hPv;have h01:ME S wr h₀ h1:=λb o n1 n2 e=>HJ b o n2 (h0 b o n1 n2 e);have DQ:gh h1 v (.ref p.2.1) p.2.2:=EU.keep λa o e q=>HJ a o (Ii a e).2 (h0 a o (Ii a e).1 (Ii a e).2 q);let⟨a,o,cc,rfl,ho,hc,hd⟩:=DQ.ex
  have hS1:h1.DictOfH knd S xs:=by
   let⟨o,es,ep,ho,r1,r2,r3,r4,r5⟩:=hS;exact{o,es,ep,HJ S o nw ho,r1,r2,r3,λx hx=>ha x hx h1 h01,r5}
  refine AA (By (AA (wpAny_tryCatch ?_)));unfold Builtin.Dict.pairItems;refine AA (Ei (T:="tuple") {o,ho,hc} ?_);rw[A8 ∅];refine AA (zcD ho hd (AJ ?_));refine(show wpAny _ _ (holding [.ref p.2.1,p.2.2] (dictSet S (.ref p.2.1) p.2.2)) _ _ _ from By (wpAny_dictSet_heap (s:={s with heap:=h1,toks:=tk1}) Hn (Bo h1 h01) hS1 (λh2 E0 Dz=>?_) ∅))
  have DB:ps.drop i=p::ps.drop (i+1):=by
   let⟨hl,e⟩:=Bv.mp hpi;rw[zbl hl,e]
  have hlen:=sY xs p.1 p.2.1 p.2.2;refine AJ {Ep cD _,ih (i+1) {s with heap:=h2,toks:=tk1+knd.draws p.1} (c+1) _ ∅ Al (W.frame _ h1 _ ID λb hb o e=>?_) (λb o n1 n2 e=>?_) E0 (λx hx=>?_) ∅ λh' Bn Cj hD=>?_}
  ·rw[Dz.2 b (λh:b=S=>Bx (h ▸ hb))];exact e
  ·rw[Dz.2 b n1];exact h01 b o n1 n2 e
  ·rcases sX hx with⟨y,hy,e1,e2⟩|⟨e1,e2⟩
   ·rw[←e1,←e2];exact ha y hy
   ·rw[e1,e2];exact Bo
  ·refine hR h' Bn (λb o n1 n2 e=>Cj b o n1 n2 ?_) (by rw[DB];exact hD)
   show h2.get? b=some o
   rw[Dz.2 b n1];exact HJ b o n2 e
def y7 {K:Type}[DecidableEq K]{kn:KeyKind prog w K}{l:A3}{its:Ti}{c:Nat}{ps:P4 (P4 K×A3×A2)}{Q:Tb}
  (hu:A.units+32<cLine) (hh:A.handled=none) (hl:s.heap.get? l=some {cls:=.type "list",data:=.seq its c}) (hps:ps.length=its.size) (hz:its.size<=sizeLine)
  (hP:∀(i:Nat) v,its[i]?=some v->∃p,ps[i]?=some p/\gh s.heap v (.ref p.2.1) p.2.2/\(tupleKind kn).is s.heap p.1 p.2.1)
  (h:∀(h':AD) (tk:Nat),h'.DictOfH (tupleKind kn) s.heap.objs.size (Ik [] ps)->(∀b o,s.heap.get? b=some o->h'.get? b=some o)->Q (.ref s.heap.objs.size) {s with heap:=h',toks:=tk}) :
  wpAny (model prog w) A (call (.type "dict") [.ref l]) Q E s:=by
 refine qE hh hl (λh2 tk2 R' Dx hlI Bx hl3 E0 kk=>?_) h
 refine wf (Walks.list (by simp[hh]) h2.objs.size l hlI its) s.heap.objs.size Bx (show _<cLine by show A.units+1+1<cLine;omega) ps hps s.heap (λi v hv=>?_) (its.size-0) 0 _ 0 [] ∅ (DH _)
  {{_,BI _ rfl,rfl,rfl},hl3.push _} (λb o _ _ e=>Am _ (Dx _ _ (Am _ e)))
  {cj,#[],0,Am _ E0,{rfl,rfl,rfl},rfl,rfl,λe he=>by simp at he,zcl} (λx hx=>nomatch hx) ‹hz› λh' Bn Cj hD=>kk h' Bn Cj ‹hD›
 let⟨p,e1,e3,e2⟩:=hP i v hv;refine{p,e1,e3,λh kp=>?_,λa e=>?_}
 ·let⟨o,items,n,g1,g2,g3,g4⟩:=e2
  refine{o,items,n,kp _ _ (BE (Av g1)) ?_ g1,g2,g3,g4};rwa[Ax,Dk,or_false];exact BE (Av (Dx _ _ (Am _ g1)))
 let⟨a',o',c',q1,q2,_,_⟩:=e3.ex;rw[q1] at e;cases e;refine{BE (Av q2),?_};rwa[Ax,Dk,or_false];exact BE (Av (Dx _ _ (Am _ q2)))
end
end HS
namespace HW
open PyProof.Rows L2 HS
def wq (K:AP)(H:Hp):P4 V->P4 (P4 aE×V)->Prop:=Paired λv kv=>∃t b,v=.ref t/\gp K H t [.ref b,kv.2]/\H b=some (.tup (kv.1.map kV))
noncomputable def tJ (A4 ps:P4 (P4 aE×V)):P4 (P4 aE×V):=ps.foldl (λa p=>eF a p.1 p.2) A4
def JAe {Z:Type}[DecidableEq Z](A4:P4 (Z×V))(k:Z)(v:V):(eF A4 k v).length<=A4.length+1:=by unfold eF;split <;> simp
theorem tI:∀(ps A4:P4 (P4 aE×V)),(tJ A4 ps).length<=A4.length+ps.length
 |[],_=>by simp[tJ]
 |p::ps,A4=>by
  have:=tI ps (eF A4 p.1 p.2);have:=JAe A4 p.1 p.2
  show(tJ (eF A4 p.1 p.2) ps).length<=_
  rw[C3];omega
theorem JAv {H:Hp}{ps:P4 (P4 aE×V)}{qs:P4 (P4 aE×A3×A2)}(r:KT H ps qs):∀{A4:P4 (P4 aE×V)} {xs:P4 (P4 aE×A3×A2)},KT H A4 xs->KT H (tJ A4 ps) (Ik xs qs):=by
 induction r with
 |nil=>intro A4 xs h;exact h
 | @cons a b _ _ h t ih=>
  intro A4 xs q;have:=KT.put q _ h.2.1 h.2.2;refine ih (show KT H (eF A4 a.1 a.2) (storedH xs b.1 b.2.1 b.2.2) from ?_);rw[←h.1];exact this
theorem yB {X:Cx}{H:Hp}{s:A1}(I:ay X Qa Y H s){ws:P4 V}{A4:P4 (P4 aE×V)}(p:wq X.K H ws A4):∀{its:Te},aS ws its ->
  ∃ps:P4 (P4 aE×A3×A2),KT H A4 ps/\ps.length=its.length/\∀(i:Nat) v,its[i]?=some v->∃p,ps[i]?=some p/\gh s.heap v (.ref p.2.1) p.2.2/\(tupleKind (bo X.prog X.w)).is s.heap p.1 p.2.1:=by
 induction p with
 |nil=>intro its v;cases v;exact{[],.nil,rfl,λi v e=>by simp at e}
 | @cons _ kv _ _ hp tp ih=>
  intro its v
  cases v with
  |cons hv tv=>
   let⟨ps,a1,a2,a3⟩:=ih tv;let⟨t,b,rfl,hs,hb⟩:=hp;cases hv;let⟨js,r,⟨o,ho,hc,n,hd⟩,_⟩:=I.tuple hs
   cases r with
   |cons r1 rr=>
    cases rr with
    |cons r2 rr=>
     cases rr;cases r1
     rename_i x
     refine{(kv.1,b,x)::ps,.cons {rfl,hb,r2} a1,by simp[a2],λi v e=>?_}
     cases i with
     |zero=>simp at e;subst e;exact{_,rfl,{t,o,n,rfl,ho,hc,hd},mw I.hok hb}
     |succ i=>simpa using a3 i v ‹e›
def AR (K:AP):P4 V->Hp->VK->Prop:=λvs H Q=>∃p ws A4,vs=[.ref p]/\j6 K H p ws/\wq K H ws A4/\ws.length<=sizeLine/\∀l,H l=none->Q (.ref l) (upd H l (.dT (tJ [] A4)))
def wj {X:Cx}(hu:X.A.units+64<cLine)(hc:X.calm=true):ik X (.type "dict") (AR X.K):=by
 intro Qa s Y H vs us Q I r h;let⟨p,ws,A4,rfl,hH,hp,hws,q⟩:=h;let⟨u,rfl,rx⟩:=i5 r;cases rx;let⟨its,n,rv,e⟩:=Jj I hH;let⟨ps,a1,a2,a3⟩:=yB I hp rv;have hk:A4.length=its.length:=by have:=Paired.length a1;omega
 have hi:=rv.length;refine y7 (kn:=bo X.prog X.w) (ps:=ps) ∅ (I.ok.hd hc) e ‹a2› (by simp;omega) (λi v hv=>a3 i v ‹hv›) λh' tk hD kp=>?_;have hz:(tJ [] A4).length<=sizeLine:=by have:=tI A4 [];simp at this;omega
 let⟨o,es,ep,g1,g2,g3,g4,_,g5⟩:=hD;have fr:=I.hok.fresh (Ao s.heap.objs.size);refine{.ref s.heap.objs.size,_,I.laid (t':=tk) kp (Ao _) (show br X.prog X.w _ h' _ (.dT _) from{hz,beq_eq_false_iff_ne.mpr (D2 I.big),_,(JAv a1 .nil).keeps λb ys eb=>?_,o,es,ep,g1,g2,g3,g4,g5}),rfl,q _ fr};rw[aq (λz=>by rw[z,fr] at eb;cases eb)];exact eb
noncomputable def jw:P4 D->QI (P4 (Th×D))
 |[]=>some []
 |d::r=>match d with|.tup [.key k,x]=>(jw r).map ((k,x) :: ·)|_=>none
noncomputable def jT (A4 ps:P4 (Th×D)):P4 (Th×D):=ps.foldl (λa p=>AZ a p.1 p.2) A4
noncomputable def qF:P4 R->ac->QI (R×ac)
 |[x],U=>(K0 x U).bind λds=>(jw ds).bind λA4=>if ds.length<1000 then some (.p U.length,U++[.dt (jT [] A4)]) else none
 |_,_=>none
theorem oH {K:AP}{H:Hp}:∀{ds:P4 D} {ws:P4 V} {A4:P4 (Th×D)},jw ds=some A4->RelDs K H ds ws->∃qs,wq K H ws qs/\∀{k0 e0},ko K H k0 e0->ko K H (jT k0 A4) (tJ e0 qs)
 |[],ws,A4,e,r=>by cases e;have r:ws=[]:=r;subst r;exact{[],.nil,λh=>h}
 |d::ds,ws,A4,e,r=>by
  let⟨v,Hx,rfl,r1,r2⟩:=r;unfold jw at e;split at e
  ·rename_i k x;let⟨ks,e1,rfl⟩:=DX.mp e;let⟨qs,p1,p2⟩:=oH e1 r2;rwa[ak] at r1;let⟨a,vs,rfl,hq,hr⟩:=r1;let⟨v1,t1,rfl,h1,hr⟩:=hr;let⟨v2,t2,rfl,h2,hr⟩:=hr;have hr:t2=[]:=hr;subst hr;rwa[ak] at h1;let⟨b,rfl,hb⟩:=h1;exact{(kk k,v2)::qs,.cons {a,b,rfl,hq,by rw[yK];exact hb} p1,λh=>p2 (h.put h2)}
  ·cases e
def JEx {K:AP}:zr K qF (AR K):=by
 intro m H U xs d U' vs Q s r e k;unfold qF at e;split at e
 ·let⟨ds,e0,e⟩:=AY.mp e;let⟨A4,e1,e⟩:=AY.mp e;split at e
  ·rename_i Al
   cases e;let⟨v,rfl,r1⟩:=mh r;let⟨a,ws,rfl,ea,ra⟩:=Do s e0 r1;let⟨qs,p1,p2⟩:=oH e1 ra;refine{a,ws,qs,rfl,ea,p1,by rw[←ra.length,DJ];omega,λl hl=>?_};have x:dz m H (m++[l]) (upd H l (.dT (tJ [] qs))):=.newH hl;have hk:=p2 (k0:=[]) (e0:=[]) {rfl,rfl};refine k _ _ (m++[l]) x (s.newH hl {_,aP,hk.1,RelDs.tf x.tf _ _ hk.2}) {l,rfl,?_};rw[←s.len];simp
  ·cases e
 ·cases e
noncomputable def y4 (fo fk fx:FE):FE:=λO U=>(fo O U).bind λo=>match o.1 with
 |.p n=>if (EJ o.2 n).isSome=true then (fk O o.2).bind λk=>match k.1 with
  |.v (.key ks)=>(fx O k.2).bind λx=>match x.1 with
   |.v d=>(EJ x.2 n).bind λA4=>if A4.length<1000 then some (match m9 A4 ks with|some r=>(.v r,x.2)|none=>(.v d,x.2.set n (.dt (A4++[(ks,d)])))) else none
   |_=>none
  |_=>none
  else none
 |_=>none
def JGc {K:AP}{H:Hp}{Q:VK}{fo fk fx}(h:ax K (y4 fo fk fx) Y H Q):zW (ax K fo) (ax K fk) (ax K fx) Y H Q:=by
 let⟨O,U,m,d,U',hl,hs,e,kc⟩:=h;let⟨⟨o,U1⟩,e1,e⟩:=AY.mp e;split at e
 ·rename_i n hn;simp only at hn;subst hn;split at e
  ·rename_i h0;let⟨⟨k,U2⟩,e2,e⟩:=AY.mp e;split at e
   ·rename_i ks IS;simp only at IS;subst IS;let⟨⟨x,U3⟩,e3,e⟩:=AY.mp e;split at e
    ·rename_i dx hx;simp only at hx;subst hx;let⟨A4,e4,e⟩:=AY.mp e;split at e
     ·rename_i Al;refine{O,U,m,_,U1,hl,hs,e1,λvo H1 m1 x1 s1 r1=>?_};let⟨kvs0,e0⟩:=zch.mp h0;let⟨a,rfl,ha⟩:=r1;let⟨es,hR,hK⟩:=GI s1 ha e0;refine{a,rfl,.inr {es,.inl hR},?_};refine{O,U1,m1,_,U2,hl.ext x1,s1,e2,λvk H2 m2 x2 s2 r2=>?_};refine{O,U2,m2,_,U3,hl.ext (x1.trans x2),s2,e3,λvx H3 m3 x3 s3 r3=>?_};have BD:=(x1.trans x2).trans x3;have Ij:m3[n]?=some a:=by let⟨a',ea',q⟩:=av.ext (x2.trans x3) (show av K m1 H1 (.p n) (.ref a) from{a,rfl,ha});cases ea';exact q
      let⟨BW,Il,HM⟩:=GI s3 Ij e4;have r2':=r2.ext x3;rwa[av,ak] at r2';let⟨b,rfl,hb⟩:=r2';refine{BW,kk ks,b,Il,rfl,by rw[yK];exact hb,?_,λv hv=>?_,λhv=>?_}
      ·have:=AI List.length HM.1;simp at this
       rw[this];exact Bi Al (by rw[DJ];omega)
      ·rcases ko.val ks HM with⟨n1,n2⟩|⟨dd,vv,n1,n2,n3⟩
       ·rw[n2] at hv;cases hv
       ·rw[n2] at hv;cases hv;rwa[n1] at e;cases e;exact kc _ H3 m3 BD s3 n3
      ·rcases ko.val ks HM with⟨n1,n2⟩|⟨dd,vv,n1,n2,n3⟩
       ·rwa[n1] at e
        cases e;have y:dz m3 H3 m3 (upd H3 a (.dT (BW++[(kk ks,vx)]))):=.put (DM Ij) Il ∅ ∅;have kr:=ko.snoc (k:=ks) (ak.tf y.tf _ _ r3) (HM.tf y.tf);exact kc _ _ m3 (BD.trans y) (s3.put Ij Il ∅ ∅ {_,bN,kr.1,kr.2}) (ak.tf y.tf _ _ r3)
       ·rw[n2] at hv;cases hv
     ·cases e
    ·cases e
   ·cases e
  ·cases e
 ·cases e
end HW
namespace HS
open PyProof.Rows
noncomputable def JM (t:SetTable):Nat->Probe->Probe
 |0,p=>p
 |n+1,p=>JM t n (t.advance p)
noncomputable def fr (m i p:Nat):Probe:={j:=i,more:=runEnd m i-i,i:=i,perturb:=p,dummy:=none}
section
variable {prog:A9}{w:AF}
abbrev Qb (prog:A9)(w:AF)(h:AD)(ks:Th)(a:A3):Prop:=IsTupleKey (intKind prog w) h ks a
theorem items_int {prog:A9}{ks:Th}{vs:Te}(h:ItemsAre (intKind prog w) ks vs):∀v∈vs,∃n t,v=.int n t:=by
 induction h with
 |nil=>intro v hv;simp at hv
 | @cons k v' ks vs h1 _ ih=>
  intro v hv;rcases Ax.mp hv with rfl|hv
  ·cases v with
   |int n t=>exact{n,t,rfl}
   |_=>simp[intKind,Value.isInt] at h1
  ·exact ih v hv
structure O2z (prog:Program)(w:World)(led:Bool)(h:Heap)(es:Array (Int×Value))(t:SetTable)(vs:Te):Prop where
 W:nA led es t
 ms:t.mask∈ee
 dm:t.dummies = #[]
 pl:t.plain=true
 lo:t.place.size*5<t.mask*3
 pm:(es.toList.map (·.2)).Perm vs
 el:∀e∈es.toList,∃b ls,e.2=.ref b/\Qb prog w h ls b
end
end HS
namespace HW
open PyProof.Rows L2 HS DU
end HW
namespace HK
open PyProof.Rows L2 HS DU
end HK
namespace HW
open PyProof.Rows L2 HS DU HK
noncomputable def JY (f:FE):FE:=λO U=>(f O U).bind λa=>some (lZ a.1,a.2)
def K8 {K:AP}{H:Hp}{Q:VK}{f}(h:ax K (JY f) Y H Q):ax K f Y H Q:=by let⟨O,U,m,d,U',hl,hs,e,k⟩:=h;let⟨⟨x,U1⟩,e1,e⟩:=AY.mp e;cases e;exact{O,U,m,_,_,hl,hs,e1,λv H' m' x1 s1 r1=>k v H' m' x1 s1 r1.unk}
end HW
namespace HK
open PyProof.Rows L2 DU
end HK
namespace PySem
end PySem
namespace HW
open PyProof.Rows L2 HK DU
end HW
namespace HS
open PyProof.Rows
def MG (t:SetTable)(h:Int)(j:Nat):Prop:=∃n,(JM t n (t.probeStart h)).j=j/\∀k<n,t.slot (JM t k (t.probeStart h)).j≠.empty
def Pb (es:AB (Int×A2))(t:SetTable):Prop:=∀(i:Nat) (e:Int×A2) (j:Nat),es[i]?=some e->t.place[i]?=some j->MG t e.1 j
section
variable {prog:A9}{w:AF}
structure QC (prog:Program)(w:World)(TH:List Int->Int)(led:Bool)(h:Heap)(es:Array (Int×Value))(t:SetTable)(vs:Te):Prop where
 T:O2z prog w led h es t vs
 ch:Pb es t
 hh:∀e∈es.toList,∃b ls,e.2=.ref b/\Qb prog w h ls b/\e.1=TH ls
end
end HS
namespace HW
open PyProof.Rows L2 HS DU
noncomputable def QA (acc:Ta)(k:Th):Ta:=if k∈acc then acc else acc++[k]
noncomputable def dd (L:Ta):Ta:=L.foldl QA []
end HW
namespace HW
variable {K:AP}
open PyProof.Rows L2
open Classical in
noncomputable def Qw (cl:P4 (Str×A3))(H:Hp):Hp:=λb=>if (∃y,cl.lookup y=some b) then none else H b
structure QD (P:Addr)(q:Str)(H H':Hp):Prop where
 keep:∀b o,b≠P->H b=some o->H' b=some o
 tab:∃ps,H' P=some (.tbl ps)/\lS H' q ps
structure O9 (K:AP)(x:Str)(st:Stmt)(f:Addr)(fd:FuncData)(c:Addr):Prop where
 ex:∃(oc:Value) (od:Option Addr) (kV doc pm:Value) (an:Option Addr) (ct:Value) (Ew:Array (Tg)),
  fd=PySem.W.fnOf x x (fR st) (bq st) (ai st) .none kV doc pm an (.ref c) ct/\K.lookup f=some {oc,od,.func fd,Ew}/\PySem.W.codeIn K (.ref c) x=true
 kp:PySem.W.keepIn K (.ref f)=true
section
variable {K:AP}{m:Tf}{H:Hp}
theorem aR.length:∀{ds:P4 R} {vs:P4 V},aR K m H ds vs->ds.length=vs.length
 |[],_,h=>by cases(show _=[] from h);rfl
 |_::_,_,⟨v,r,e,h1,h2⟩=>by subst e;simp[aR.length h2]
theorem aR.get:∀{ds:P4 R} {vs:P4 V} {i:Nat} {d:R},aR K m H ds vs->ds[i]?=some d->∃v,vs[i]?=some v/\av K m H d v
 |[],_,_,_,_,e=>by simp at e
 |_::_,_,0,_,⟨v,r,e,h1,h2⟩,q=>by subst e;simp at q;subst q;exact{v,rfl,h1}
 |_::_,_,i+1,_,⟨v,r,e,h1,h2⟩,q=>by subst e;simp at q;let⟨w,a,b⟩:=aR.get h2 q;exact{w,by simpa using a,b}
end
abbrev MW:=P4 R->ac->QI (R×ac)
noncomputable def r9:nP->QI (R×ac)
 |.rt r U=>some (r,U)
 |.nx _ U=>some (.v .non,U)
 |_=>none
noncomputable def md (k:Nat)(b:FS):MW:=λrs U=>(b (rs.map some++List.replicate (k-rs.length) none) U).bind r9
noncomputable def JU (K:AP)(n:Nat)(f:MW):Sp:=λvs H Q _=>∃U m rs d U',rs.length=n/\aJ K m H U/\aR K m H rs vs/\f rs U=some (d,U') /\
 ∀v H' m',dz m H m' H'->aJ K m' H' U'->av K m' H' d v->Q v H'
def JAw {m:Tf}{H:Hp}{N:Tn}{rs:P4 R}{vs:P4 V}(r:aR K m H rs vs):dX K m H (rs.map some++List.replicate (N.length-rs.length) none) (L2.eW N vs):=by
 have hl:=r.length;refine{by simp[L2.eW,hl],λi d e=>?_};by_cases hi:i<rs.length
 ·rw[BY ‹hi›,Bh] at e
  cases q:rs[i]? with
  |none=>rw[q] at e;cases e
  |some x=>
   rw[q] at e;cases e;let⟨v,q1,q2⟩:=r.get q;refine{v,?_,q2};unfold L2.eW;rw[BY (by simp;omega),Bh,q1];rfl
 ·rw[DO ‹hi›,zbR] at e;split at e <;> cases e
theorem nQ.okW {P:A9}{w:AF}{K:AP}{mg:Td}{base:AD}{x qual:Str}{st:Ad}{f:A3}{fd:FuncData}{N ps:Tn}{k:Nat}{b:FS}(F:nQ K x qual st f fd)(S:aA N ps (ai st))
  (An:∀(Ah:A2) (A:AE) (outer:P4 Env) (s:A1) (H:Hp) (E:XK),bv k (A.deeper (envOfC qual (ai st) s.heap.objs.size f Ah))->nB (jf j7 P w K mg base N qual (ai st) f Ah A outer s H E).nox (bq st) (eB K b)) :
  b9 P w K mg base j7 (k+1) f fd ps (JU K ps.length (md N.length b)):=by
 have G:b9 P w K mg base j7 (k+1) f fd ps (λvs H Q _=>vs.length=ps.length/\eB K b {nx:=λ_ H'=>Q .non H',rt:=Q} (L2.eW N vs) H) :=
  L2.nQ.ok F S (λvs H Q E h=>h.1) λAh A outer s H vs Q E hr h=>{_,An Ah A outer s H E hr,h.2}
 refine G.imp λvs H Q E hh=>?_;let⟨U,m,rs,d,U',hn,hs,r,e,k⟩:=hh;refine{by rw[←r.length];exact hn,?_};let⟨o,e1,e⟩:=AY.mp e;refine{_,U,m,o,JAw r,hs,e1,?_}
 cases o with
 |nx O U1=>cases e;exact λY H' m' x1 s1 _=>k _ H' m' x1 s1 (by rwa[av,ak])
 |rt d U1=>cases e;exact λv H' m' x1 s1 r1=>k _ H' m' x1 s1 r1
 |bk O U1=>cases e
 |ct O U1=>cases e
noncomputable def cm (f:MW)(n:Nat)(fa:FA):FE:=λO U=>(fa O U).bind λa=>if a.1.length=n then f a.1 a.2 else none
structure lW (K:AP)(mg:Td)(c:Str)(C:Addr):Prop where
 ns:PySem.W.nsIn K mainGlobals c=some (some (.ref C))
 mg:mg c=some (.ref C)
 cl:C2 K C
noncomputable def pN (c:Str)(U:ac)(x:R):QI (P4 (Str×R)):=match x with
 |.p n=>(match U[n]? with|some (.ob c' fs)=>if c'=c then some fs else none|_=>none)
 |_=>none
noncomputable def tM (f:Str)(v:R):P4 (Str×R)->P4 (Str×R)
 |[]=>[(f,v)]
 |(g,x)::r=>if g=f then (g,v)::r else (g,x)::tM f v r
def FR (K:AP)(m:Tf)(H:Hp)(fs:P4 (Str×R))(es:P4 (Str×V)):Prop:=es.map (·.1)=fs.map (·.1)/\aR K m H (fs.map (·.2)) (es.map (·.2))
section
variable {K:AP}{m m':Tf}{H H':Hp}
def FR.cons {k k':Str}{d:R}{v:V}{fs:P4 (Str×R)}{es:P4 (Str×V)}:FR K m H ((k,d)::fs) ((k',v)::es) ↔ k'=k/\av K m H d v/\FR K m H fs es:=by
 constructor
 ·rintro⟨h1,h2⟩;rwa[Ak,List.cons.injEq] at h1;let⟨w,r,e,h3,h4⟩:=h2;rwa[Ak,List.cons.injEq] at e;let⟨rfl,rfl⟩:=e;exact{h1.1,h3,h1.2,h4}
 ·rintro⟨rfl,h1,h2,h3⟩;exact{by simp[h2],{_,_,rfl,h1,h3}}
theorem FR.look:∀{fs:P4 (Str×R)} {es:P4 (Str×V)} (f:Str),FR K m H fs es->(fs.lookup f=none/\es.lookup f=none)\/∃d v,fs.lookup f=some d/\es.lookup f=some v/\av K m H d v
 |[],es,f,h=>by
  have:es=[]:=by simpa using h.1
  subst this;exact .inl {rfl,rfl}
 |(a,d)::fs,[],f,h=>by have:=h.1;simp at this
 |(a,d)::fs,(b,v)::es,f,h=>by
  let⟨rfl,h1,h2⟩:=FR.cons.mp h;rwa[Dj]
  cases q:f == b with
  |true=>exact .inr {d,v,rfl,rfl,h1}
  |false=>exact FR.look f h2
theorem FR.put {f:Str}{d:R}{v:V}(rd:av K m H d v):∀{fs:P4 (Str×R)} {es:P4 (Str×V)},FR K m H fs es->FR K m H (tM f d fs) (iD f v es)
 |[],es,h=>by
  have:es=[]:=by simpa using h.1
  subst this;exact FR.cons.mpr {rfl,rd,rfl,rfl}
 |(a,x)::fs,[],h=>by have:=h.1;simp at this
 |(a,x)::fs,(b,y)::es,h=>by
  let⟨rfl,h1,h2⟩:=FR.cons.mp h;unfold tM iD;by_cases q:b=f
  ·rw[A8 q,A8 q];exact FR.cons.mpr {rfl,rd,h2}
  ·rw[A6 q,A6 q];exact FR.cons.mpr {rfl,h1,FR.put rd h2}
def FR.ext (x:dz m H m' H'){fs:P4 (Str×R)}{es:P4 (Str×V)}(h:FR K m H fs es):FR K m' H' fs es:={h.1,aR.ext x h.2}
def FR.len {fs:P4 (Str×R)}{es:P4 (Str×V)}(h:FR K m H fs es):es.length=fs.length:=by simpa using AI List.length h.1
def Bt {mg:Td}{c:Str}{C:A3}{U:ac}{x:R}{v:V}{fs:P4 (Str×R)}(N:lW K mg c C)(s:aJ K m H U)(r:av K m H x v)(e:pN c U x=some fs) :
  ∃n a dx es,x=.p n/\m[n]?=some a/\v=.ref a/\H a=some (.ins C dx es)/\FR K m H fs es:=by
 unfold pN at e;split at e
 ·rename_i n
  split at e
  ·rename_i c' gs q
   split at e
   ·rename_i hc
    cases e;subst hc;let⟨a,rfl,ha⟩:=r;let⟨C',dx,es,h1,h2,h3,h4⟩:=s.cell _ _ a q ha;rw[N.ns] at h1;cases h1;exact{n,a,dx,es,rfl,ha,rfl,h2,h3,h4}
   ·cases e
  ·cases e
 ·cases e
end
noncomputable def dD (c f:Str)(fo:FE):FE:=λO U=>(fo O U).bind λo=>(pN c o.2 o.1).bind λfs=>(fs.lookup f).bind λd=>some (d,o.2)
noncomputable def lz (c f:Str)(fo fv:FE):FS:=λO U=>(fv O U).bind λv=>(fo O v.2).bind λo=>(pN c o.2 o.1).bind λfs=>if fs.length<1000 then (match o.1 with|.p n=>some (.nx O (o.2.set n (.ob c (tM f v.1 fs))))|_=>none) else none
noncomputable def dC (c nm:Str)(f:MW)(n:Nat)(fo:FE)(fa:FA):FE:=λO U=>(fo O U).bind λo=>(pN c o.2 o.1).bind λfs=>if (fs.lookup nm).isNone=true then (fa O o.2).bind λa=>if a.1.length+1=n then f (o.1::a.1) a.2 else none else none
section
variable {K:AP}{Y:L2.St}{H:Hp}{Q:VK}{mg:Td}{c:Str}{C:A3}
def AC {f:MW}{n:Nat}{fa}{E:XK}(h:ax K (cm f n fa) Y H Q):sU (JU K n f) [] E (gr K fa) Y H Q:=by
 let⟨O,U,m,d,U',hl,hs,e,k⟩:=h;let⟨⟨xs,U1⟩,e1,e⟩:=AY.mp e;split at e
 ·rename_i hn;refine{O,U,m,xs,U1,hl,hs,e1,λvs H1 m1 x1 s1 r1=>?_};exact{U1,m1,xs,d,U',hn,s1,by rw[Cg];exact r1,e,λv H' m' x2 s2 r2=>k v H' m' (x1.trans x2) s2 r2}
 ·cases e
def JFk {f:Str}{fo}(N:lW K mg c C)(hf:eP K C f)(h:ax K (dD c f fo) Y H Q):KM K (ax K fo) f Y H Q:=by
 let⟨O,U,m,d,U',hl,hs,e,k⟩:=h;let⟨⟨o,U1⟩,e1,e⟩:=AY.mp e;let⟨fs,e2,e⟩:=AY.mp e;let⟨d',e3,e⟩:=AY.mp e;cases e;refine{O,U,m,o,U1,hl,hs,e1,λv H1 m1 x1 s1 r1=>?_};let⟨n,a,dx,es,rfl,ha,rfl,ea,fr⟩:=Bt N s1 r1 e2;rcases fr.look f with⟨z,_⟩|⟨d0,v0,z1,z2,z3⟩
 ·rw[z] at e3;cases e3
 ·rw[z1] at e3;cases e3;exact{a,C,dx,es,v0,rfl,ea,N.cl,hf,z2,k _ H1 m1 x1 s1 z3}
def JDy {f:Str}{fo fv}{D:fT}(N:lW K mg c C)(hf:eP K C f)(h:eB K (lz c f fo fv) D Y H):K1 K (ax K fo) (ax K fv) f D Y H:=by
 let⟨O,U,m,o,hl,hs,e,k⟩:=h;let⟨⟨v,U1⟩,e1,e⟩:=AY.mp e;let⟨⟨ob,U2⟩,e2,e⟩:=AY.mp e;let⟨fs,e3,e⟩:=AY.mp e;split at e
 ·rename_i Al;refine{O,U,m,v,U1,hl,hs,e1,λy H1 m1 x1 s1 r1=>?_};refine{O,U1,m1,ob,U2,hl.ext x1,s1,e2,λvo H2 m2 x2 s2 r2=>?_};let⟨n,a,dx,es,rfl,ha,rfl,ea,fr⟩:=Bt N s2 r2 e3;dsimp only at e;cases e;have x:dz m2 H2 m2 (upd H2 a (.ins C dx (iD f y es))):=.put (DM ha) ea ∅ ∅;refine{a,C,dx,es,rfl,ea,N.cl,hf,by rw[fr.len];exact Al,?_};have x3:=(x1.trans x2).trans x;have fr2:=(FR.put (f:=f) (r1.ext x2) fr).ext x;exact k _ _ m2 x3 (s2.put ha ea ∅ ∅ {C,dx,_,N.ns,bN,fr2.1,fr2.2}) (hl.ext x3)
 ·cases e
def wS {nm:Str}{f:MW}{n:Nat}{fo fa}{E:XK}(N:lW K mg c C)(h:ax K (dC c nm f n fo fa) Y H Q):zX C nm (JU K n f) [] E (ax K fo) (gr K fa) Y H Q:=by
 let⟨O,U,m,d,U',hl,hs,e,k⟩:=h;let⟨⟨o,U1⟩,e1,e⟩:=AY.mp e;let⟨fs,e2,e⟩:=AY.mp e;split at e
 ·rename_i G6;let⟨⟨xs,U2⟩,e3,e⟩:=AY.mp e;split at e
  ·rename_i hn;refine{O,U,m,o,U1,hl,hs,e1,λv H1 m1 x1 s1 r1=>?_};let⟨i,a,dx,es,rfl,ha,rfl,ea,fr⟩:=Bt N s1 r1 e2;have hlook:es.lookup nm=none:=by
    rcases fr.look nm with⟨_,z⟩|⟨d0,v0,z1,z2,z3⟩
    ·exact z
    ·rw[z1] at G6;cases G6
   refine{a,dx,es,rfl,ea,hlook,?_};refine{O,U1,m1,xs,U2,hl.ext x1,s1,e3,λvs H2 m2 x2 s2 r2=>?_};exact{U2,m2,.p i::xs,d,U',by simpa using hn,s2,{_,_,rfl,r1.ext x2,by rw[Cg];exact r2},e,λv H' m' x3 s3 r3=>k v H' m' ((x1.trans x2).trans x3) s3 r3}
  ·cases e
 ·cases e
end
def JAq {f:FE}{H:Hp}{Q Q':VK}(h:ax K f Y H Q)(k:∀v H',Q v H'->Q' v H'):ax K f Y H Q' :=
 let ⟨O,U,m,d,U',hl,hs,e,q⟩:=h
 {O,U,m,d,U',hl,hs,e,λv H' m' x s r=>k v H' (q v H' m' x s r)}
open HS
noncomputable def jG (c:Str)(f:MW)(n:Nat)(fa:FA):FE:=λO U=>(fa O U).bind λa=>if a.1.length+1=n then (f (.p a.2.length::a.1) (a.2++[.ob c []])).bind λr=>match r.1 with|.v .non=>some (.p a.2.length,r.2)|_=>none else none
def JAl {mg:Td}{c:Str}{C:A3}{H:Hp}{Q:VK}{f:MW}{n:Nat}{fa:FA}{E:XK}(N:lW K mg c C)(h:ax K (jG c f n fa) Y H Q):FV C (JU K n f) [] E (gr K fa) Y H Q:=by
 let⟨O,U,m,d,U',hl,hs,e,k⟩:=h;let⟨⟨xs,U0⟩,e0,e⟩:=AY.mp e;dsimp only at e;split at e
 ·rename_i hn;let⟨⟨r,U1⟩,e1,e⟩:=AY.mp e;dsimp only at e;split at e
  ·cases e;refine{O,U,m,xs,U0,hl,hs,e0,λvs H1 m1 x1 s1 r1=>?_};intro x dx hx hdx Bd;have y1:dz m1 H1 m1 (upd H1 dx (.own x)):=.new hdx;have t1:=s1.same (c9 hdx (o:=HO.own x));have Hm:upd H1 dx (.own x) x=none:=(by unfold upd;rw[A6 (Ne.symm Bd)];exact hx);have y2:dz m1 (upd H1 dx (.own x)) (m1++[x]) (upd (upd H1 dx (.own x)) x (.ins C dx [])):=.newH Hm;have s2:=t1.newH (c:=.ob c []) Hm {C,dx,[],N.ns,bN,rfl,rfl};have hp:(m1++[x])[U0.length]?=some x:=(by rw[←s1.len];simp);refine{_,_,.p U0.length::xs,_,_,by simpa using hn,s2,{_,_,rfl,{x,rfl,hp},by rw[Cg];exact r1.ext (y1.trans y2)},e1,λv H' m' x3 s3 r3=>?_};refine{by simpa only[av,ak] using r3,k _ H' m' ((x1.trans (y1.trans y2)).trans x3) s3 ?_};exact av.ext x3 (show av K (m1++[x]) _ (.p U0.length) (.ref x) from{x,rfl,hp})
  ·cases e
 ·cases e
noncomputable def jx:P4 D->QI (P4 (aE×D))
 |[]=>some []
 |.tup [.str i,d]::r=>(jx r).map ((.inr (some i),d) :: ·)
 |_=>none
theorem oI {K:AP}{H:Hp}:∀{ds:P4 D} {ws:P4 V} {A4:P4 (aE×D)},jx ds=some A4->RelDs K H ds ws->∃qs,sH K H ws qs/\KD K H A4 qs
 |[],ws,A4,e,r=>by cases e;have r:ws=[]:=r;subst r;exact{[],.nil,.nil}
 |d::ds,ws,A4,e,r=>by
  let⟨v,Hx,rfl,r1,r2⟩:=r;unfold jx at e;split at e
  ·cases e;rename_i h;cases h
  ·rename_i i x r' h
   cases h;let⟨ks,e1,rfl⟩:=DX.mp e;let⟨qs,p1,p2⟩:=oI e1 r2;rwa[ak] at r1;let⟨a,vs,rfl,hq,hr⟩:=r1;let⟨v1,t1,rfl,h1,hr⟩:=hr;let⟨v2,t2,rfl,h2,hr⟩:=hr;have hr:t2=[]:=hr;subst hr;have h1:v1=.str i:=(by simpa only[ak] using h1);subst h1;exact{(.inr (some i),v2)::qs,.cons {a,rfl,hq} p1,KD.cons.mpr {rfl,h2,p2}}
  ·cases e
noncomputable def ie:P4 R->ac->QI (R×ac)
 |[.p n],U=>match U[n]? with
  |some (.lst ds)=>(jx ds).bind λA4=>some (.p U.length,U++[.dct (aM [] A4)])
  |_=>none
 |_,_=>none
def Ev {K:AP}:zr K ie (AS K):=by
 intro m H U xs d U' vs Q s r e k;unfold ie at e;split at e
 ·rename_i n;split at e
  ·rename_i ds hn;let⟨A4,e1,e⟩:=AY.mp e;cases e;let⟨v,rfl,r1⟩:=mh r;let⟨a,rfl,ha⟩:=r1;let⟨ws,ea,ra⟩:=s.cell _ _ a hn ha;let⟨qs,p1,p2⟩:=oI e1 ra;refine{a,ws,qs,rfl,ea,p1,λl hl=>?_};have x:dz m H (m++[l]) (upd H l (.dK (pM [] qs))):=.newH hl;have hk:=KD.putAll (K:=K) (H:=H) .nil p2;refine k _ _ (m++[l]) x (s.newH hl {_,aP,hk.1,RelDs.tf x.tf _ _ hk.2}) {l,rfl,?_};rw[←s.len];simp
  ·cases e
 ·cases e
end HW
namespace HW
open PyProof.Rows L2 HK
section
variable {P:A9}{w:AF}{H H0 H2:Hp}{h h0:AD}{a:A3}{o:As}{es:P4 (aE×V)}{fs ex:Tf}
abbrev nM (o:As)(es:P4 (aE×V)):HO:=.frz o (.frz o (.dK es))
def fH.hold (ok:fH P w H h)(e:H a=some (.dK es)):∃o,fH P w (upd H a (nM o es)) h:=by
 let⟨o,ok1⟩:=fH.frz ok e trivial;refine{o,λb v q=>?_};have e1:upd H a (.frz o (.dK es)) a=some (.frz o (.dK es)):=L2.aP;have own:∀c y,upd H a (.frz o (.dK es)) c=some (.own y)->upd H a (nM o es) c=some (.own y):=λc y r=>by
  by_cases hc:c=a
  ·subst hc;rw[L2.aP] at r;cases r
  ·rw[L2.aq hc] at r ⊢;exact r
 have tup:∀c xs,upd H a (.frz o (.dK es)) c=some (.tup xs)->upd H a (nM o es) c=some (.tup xs):=λc xs r=>by
  by_cases hc:c=a
  ·subst hc;rw[L2.aP] at r;cases r
  ·rw[L2.aq hc] at r ⊢;exact r
 by_cases hb:b=a
 ·subst hb;rw[L2.aP] at q;cases q;exact{(ok1 b _ e1).1,(ok1 b _ e1).stay (λc v _ q=>q) (λc r=>own c _ r) tup}
 ·rw[L2.aq hb] at q;exact(ok1 b v (by rw[L2.aq hb];exact q)).stay (λc v _ q=>q) (λc r=>own c _ r) tup
def fH.give (ok:fH P w H h)(e:H a=some (nM o es)):fH P w (upd H a (.dK es)) h:=by
 have ne:∀c v,H c=some v->v≠nM o es->c≠a:=λc v q n z=>by rw[z,e] at q;exact n (Option.some.inj q).symm
 have own:∀c y,H c=some (.own y)->upd H a (.dK es) c=some (.own y):=λc y r=>by rw[L2.aq (ne c _ r ∅)];exact r
 have tup:∀c xs,H c=some (.tup xs)->upd H a (.dK es) c=some (.tup xs):=λc xs r=>by rw[L2.aq (ne c _ r ∅)];exact r
 intro b v q;by_cases hb:b=a
 ·subst hb;rw[L2.aP] at q;cases q;exact(ok b _ e).2.2.stay (λc v _ q=>q) (λc r=>own c _ r) tup
 ·rw[L2.aq hb] at q;exact(ok b v q).stay (λc v _ q=>q) (λc r=>own c _ r) tup
def Un.hold (un:Un fs ex H0 H h0 h)(e:H a=some (.dK es)):Un fs ex H0 (upd H a (nM o es)) h0 h where
 keep:=un.keep
 slot:=un.slot
 free:=λb ob q n hx=>by have z:=un.free b ob q n hx;rw[L2.aq (λy=>by rw[y,e] at z;cases z)];exact z
 there:=un.there
 tups:=λb xs q=>by rw[L2.aq (dY.ne e trivial (un.tups b xs q) λz=>z)];exact un.tups b xs q
 frzs:=λb ob v q=>by rw[L2.aq (dY.ne e trivial (un.frzs b ob v q) λz=>z)];exact un.frzs b ob v q
 tbls:=λb ps q=>by let⟨more,r⟩:=un.tbls b ps q;exact{more,by rw[L2.aq (dY.ne e trivial r λz=>z)];exact r}
def Un.give {h2:AD}(un0:Un fs ex H0 H h0 h)(e0:H a=some (.dK es))(un:Un fs ex H0 H2 h0 h2)(e:H2 a=some (nM o es)):Un fs ex H0 (upd H2 a (.dK es)) h0 h2 where
 keep:=un.keep
 slot:=un.slot
 free:=λb ob q n hx=>by have z:=un.free b ob q n hx;rw[L2.aq (λy=>by rw[y,e] at z;cases z)];exact z
 there:=un.there
 tups:=λb xs q=>by rw[L2.aq (dY.ne e0 trivial (un0.tups b xs q) λz=>z)];exact un.tups b xs q
 frzs:=λb ob v q=>by rw[L2.aq (dY.ne e0 trivial (un0.frzs b ob v q) λz=>z)];exact un.frzs b ob v q
 tbls:=λb ps q=>by let⟨more,r⟩:=un0.tbls b ps q;have hb:=dY.ne e0 trivial r λz=>z;let⟨more,r⟩:=un.tbls b ps q;exact{more,by rw[L2.aq hb];exact r}
def ay.hold {s:A1}(I:ay X Qa Y H s)(e:H a=some (.dK es)):∃o,ay X Qa Y (upd H a (nM o es)) s:=by
 let⟨o,ok⟩:=fH.hold I.hok e;have nn:∀b,H b=none->upd H a (nM o es) b=none:=λb z=>by rw[L2.aq (λy=>by rw[y,e] at z;cases z)];exact z
 refine{o,I.ok,I.os,I.bare,Un.hold I.base e,I.loc,I.cell,nn _ I.free,λx c q=>nn _ (I.freeC x c q),λp hp=>?_,ok,I.len};let⟨q1,q2,q3⟩:=I.pin p hp;exact{q1,nn _ q2,q3}
def ay.give {Y Y2:L2.St}{s s2:A1}(I0:ay X Qa Y H s)(e0:H a=some (.dK es))(I:ay X Qa Y2 H2 s2)(e:H2 a=some (nM o es)):ay X Qa Y2 (upd H2 a (.dK es)) s2:=by
 have nn:∀b,H2 b=none->upd H2 a (.dK es) b=none:=λb z=>by rw[L2.aq (λy=>by rw[y,e] at z;cases z)];exact z
 refine{I.ok,I.os,I.bare,Un.give I0.base e0 I.base e,I.loc,I.cell,nn _ I.free,λx c q=>nn _ (I.freeC x c q),λp hp=>?_,fH.give I.hok e,I.len};let⟨q1,q2,q3⟩:=I.pin p hp;exact{q1,nn _ q2,q3}
end
def FW (t:TE):TE:=λY H Q=>∃a es,H a=some (.dK es)/\∀o,t Y (upd H a (nM o es)) (λv H2=>H2 a=some (nM o es)/\Q v (upd H2 a (.dK es)))
def JDf {t:TE}(h:PE X e t):PE X e (FW t):=λQa s Y H Q I q=>by let⟨a,es,e0,q⟩:=q;let⟨o,I1⟩:=ay.hold I e0;refine cV (h Qa s Y _ _ I1 (q o)) λv s1 hh=>?_;let⟨x,H2,I2,r,e2,q2⟩:=hh;exact{x,_,ay.give I e0 I2 e2,r,q2}
structure Tw (H H':Hp):Prop where
 tup:∀a xs,H a=some (.tup xs)->H' a=some (.tup xs)
 frz:∀a o u,(∀o' u',u≠.frz o' u')->H a=some (.frz o u)->H' a=some (.frz o u)
section
variable {K:AP}{H H':Hp}
def Tw.sqT {a vs}(t:Tw H H')(h:gp K H a vs):gp K H' a vs:=by
 rcases h with(h|⟨o,h⟩)|h
 ·exact .inl (.inl (t.tup _ _ h))
 ·exact .inl (.inr {o,t.frz _ _ _ ∅ h})
 ·exact .inr h
def Tw.fat {a vs}(t:Tw H H')(h:Fa K H a vs):Fa K H' a vs:=by
 rcases h with⟨o,h⟩|h
 ·exact .inl {o,t.frz _ _ _ ∅ h}
 ·exact .inr h
mutual
theorem Tw.rel (t:Tw H H'):∀(d:D) (v:V),ak K H d v->ak K H' d v
 |.non,_,h=>by simpa only[ak] using h
 |.bl _,_,h=>by simpa only[ak] using h
 |.int _,_,h=>by simpa only[ak] using h
 |.str _,_,h=>by simpa only[ak] using h
 |.tup xs,v,h=>by rwa[ak] at h ⊢;let⟨a,vs,e,s,r⟩:=h;exact{a,vs,e,t.sqT s,Tw.rels t xs vs r}
 |.fl xs,v,h=>by rwa[ak] at h ⊢;let⟨a,vs,e,s,r⟩:=h;exact{a,vs,e,t.fat s,Tw.rels t xs vs r}
 |.fd ks ds,v,h=>by rwa[ak] at h ⊢;let⟨a,o,es,e,s,k,r⟩:=h;exact{a,o,es,e,t.frz _ _ _ ∅ s,k,Tw.rels t ds _ r}
 |.key ks,v,h=>by rwa[ak] at h ⊢;let⟨a,e,q⟩:=h;exact{a,e,t.tup _ _ q}
theorem Tw.rels (t:Tw H H'):∀(ds:P4 D) (vs:P4 V),RelDs K H ds vs->RelDs K H' ds vs
 |[],_,h=>by simpa only[RelDs] using h
 |d::ds,vs,h=>by rwa[RelDs] at h ⊢;let⟨v,r,e,h1,h2⟩:=h;exact{v,r,e,Tw.rel t d v h1,Tw.rels t ds r h2}
end
def Tw.lam {L ds a cl pm DT c'}(t:Tw H H')(h:zp K H L ds a cl pm DT c'):zp K H' L ds a cl pm DT c':=by
 have f:∀{a o},H a=some (.frz o (.ext λ_=>True))->H' a=some (.frz o (.ext λ_=>True)):=λ{a o} q=>t.frz _ _ _ ∅ q;refine{f h.fn,?_,h.len,λy c e=>?_,λi y d e1 e2=>?_,h.sc}
 ·let⟨oc,vs,u,e,r⟩:=h.code;exact{oc,vs,u,f e,r}
 ·let⟨z,o,q,r⟩:=h.cell y c e;exact{z,o,f q,r}
 ·let⟨c,o,u,vy,k1,k2,k3,k4,k5,k6⟩:=h.cap i y d e1 e2;exact{c,o,u,vy,k1,k2,f k3,k4,k5,Tw.rel t _ _ k6}
theorem Tw.relR (t:Tw H H'){d:R}{v:V}(h:av K m H d v):av K m H' d v:=by
 cases d with
 |v d=>exact Tw.rel t d v h
 |p n=>exact h
 |s b xs=>
  let⟨a,o,e,q,r⟩:=h;exact{a,o,e,t.frz _ _ _ ∅ q,r}
 |x c=>
  let⟨a,vs,C,e,q,r⟩:=h;exact{a,vs,C,e,t.frz _ _ _ ∅ q,r}
 |f L ds=>
  let⟨a,cl,pm,DT,c',e,q⟩:=h;exact{a,cl,pm,DT,c',e,t.lam q}
theorem Tw.relRs (t:Tw H H'):∀{ds:P4 R} {vs:P4 V},aR K m H ds vs->aR K m H' ds vs
 |[],_,h=>h
 |_::_,_,⟨v,r,e,h1,h2⟩=>{v,r,e,t.relR h1,Tw.relRs t h2}
def wy {a:A3}{o:As}{es:P4 (aE×V)}{u:HO}(e:H a=some (nM o es)):Tw H (upd H a u):=by
 refine{λb xs q=>?_,λb ob v n q=>?_}
 ·rw[L2.aq (λz=>by rw[z,e] at q;cases q)];exact q
 ·rw[L2.aq (λz=>by rw[z,e] at q;cases q;exact n _ _ rfl)];exact q
def aJ.give {U:ac}{n:Nat}{a:A3}{o:As}{es:P4 (aE×V)}{A4:P4 (aE×D)}(h:aJ K m H U)(hn:m[n]?=some a)(hc:U[n]?=some (.hk A4))(e:H a=some (nM o es)):aJ K m (upd H a (.dK es)) (U.set n (.dct A4)):=by
 have t:Tw H (upd H a (.dK es)):=wy e;have Al:=(Bv.mp hc).1;refine{h.nd,by simp[h.len],λi c' b e1 e2=>?_};by_cases hi:i=n
 ·subst hi;rw[hn] at e2;cases e2;rw[DN Al] at e1;cases e1;let⟨o',BW,q,k,r⟩:=h.cell _ _ _ hc hn;rw[e] at q;cases q;exact{es,L2.aP,k,t.rels _ _ r}
 ·rw[Bp (Ne.symm hi)] at e1;have nb:b≠a:=by rintro rfl;let⟨h1,q1⟩:=Bv.mp e2;let⟨h2,q2⟩:=Bv.mp hn;exact hi ((HU h.nd).mp (q1.trans q2.symm))
  have at':∀u,H b=some u->upd H a (.dK es) b=some u:=λu q=>by rw[L2.aq nb];exact q
  have z:=h.cell i c' b e1 e2
  cases c' with
  |lst xs=>let⟨vs,e,r⟩:=z;exact{vs,at' _ e,t.rels _ _ r}
  |fz xs=>let⟨o,vs,e,r⟩:=z;exact{o,vs,at' _ e,t.rels _ _ r}
  |dct A4=>let⟨es,e,k,r⟩:=z;exact{es,at' _ e,k,t.rels _ _ r}
  |fzd A4=>let⟨o,es,e,k,r⟩:=z;exact{o,es,at' _ e,k,t.rels _ _ r}
  |fzt A4=>let⟨o,es,e,k,r⟩:=z;exact{o,es,at' _ e,k,t.rels _ _ r}
  |hk A4=>let⟨o,es,e,k,r⟩:=z;exact{o,es,at' _ e,k,t.rels _ _ r}
  |dr A4=>let⟨es,e,k,r⟩:=z;exact{es,at' _ e,k,t.relRs r}
  |lr xs=>let⟨vs,e,r⟩:=z;exact{vs,at' _ e,t.relRs r}
  |dt A4=>let⟨es,e,k,r⟩:=z;exact{es,at' _ e,k,t.rels _ _ r}
  |tb P q=>
   let⟨e,ps,k,r⟩:=z;subst e;exact{rfl,ps,at' _ k,r.1,λpos cv q=>let ⟨c',oc,vs,t',e1,e2,r'⟩:=r.2 pos cv q;{c',oc,vs,t',e1,t.frz _ _ _ ∅ e2,r'}}
  |ob c fs=>let⟨C,dx,es,n,e,k,r⟩:=z;exact{C,dx,es,n,at' _ e,k,t.relRs r}
  |tr xs=>let⟨vs,e,r⟩:=z;exact{vs,at' _ e,t.relRs r}
  |fzr A4=>let⟨o,es,e,k,r⟩:=z;exact{o,es,at' _ e,k,t.relRs r}
  |dtr A4=>let⟨es,e,k,r⟩:=z;exact{es,at' _ e,k,t.relRs r}
end
noncomputable def qB (fo f:FE):FE:=λO U=>match fo O U with
 |some (.p n,_)=>match U[n]? with
  |some (.dct A4)=>(f O (U.set n (.hk A4))).bind λr=>match r.2[n]? with
   |some (.hk kvs')=>some (r.1,r.2.set n (.dct kvs'))
   |_=>none
  |_=>none
 |_=>none
end HW
namespace L2
open PyProof.Rows HK HW
def rS {H:Hp}{h:AD}{a:A3}{o:As}{es:P4 (aE×V)}(ok:fH P w H h)(e:H a=some (nM o es)) :
  (a == sysModules)=false/\DE h a (ki o) (uw o)/\(ki o).size=es.length/\∀(i:Nat) kv,es[i]?=some kv->∃ku u,aT (kV kv.1) ku/\aT kv.2 u/\∃en,(ki o)[i]?=some en/\en.key=ku/\en.val=u:=by
 let⟨q1,_,_,q3,xs,q4,o',BW,ep,r1,r2,r3,r4,r5,r6⟩:=(show br P w H h a (nM o es) from ok a _ e);have z:=q1.symm.trans r1;cases z
 have e1:ki o=BW:=by unfold ki;rw[r3]
 have e2:uw o=ep:=by unfold uw;rw[r3]
 rw[e1,e2]
 have len:BW.size=es.length:=by rw[←Dv,r5.length,←Paired.length q4]
 refine{q3,{o,r1,r2,r3},len,λi kv hi=>?_}
 have key:∀{es:P4 (aE×V)} {xs:P4 (aE×A2)} {ds:P4 DictEntry} {i:Nat} {kv},KV es xs->Pairs (bo P w) ds xs->es[i]?=some kv->∃en,ds[i]?=some en/\aT (kV kv.1) en.key/\aT kv.2 en.val:=by
  intro es xs ds i kv p
  induction p generalizing i ds with
  |nil=>intro _ z;simp at z
  |cons r t ih=>
   intro pr z
   cases pr with
   |cons h1 h2 h3=>
    cases i with
    |zero=>
     rwa[List.getElem?_cons_zero,Option.some.injEq] at z;subst z;refine{_,rfl,?_,by rw[h2];exact r.2};rw[r.1];exact JA6 h1
    |succ i=>let⟨en,g1,g2⟩:=ih h3 ‹z›;exact{en,by simpa using g1,g2}
 let⟨en,g1,g2,g3⟩:=key q4 r5 hi;exact{en.key,en.val,g2,g3,en,by rw[←Hc];exact g1,rfl,rfl}
def O7 (a:A3)(o:As)(es:P4 (aE×V)):It :=
 {λi H=>H a=some (nM o es)/\i<es.length,λi H v H'=>∃T kv,es[i]?=some kv/\v=.ref T/\H T=none/\H'=upd H T (.tup [kV kv.1,kv.2]),λi H=>H a=some (nM o es)/\es.length<=i}
def sP {K:AP}{elts:Tj}{x1}(a it:A3)(o:As)(es:P4 (aE×V)):wo P w K (.Tuple elts x1 pos) (O7 a o es) [it] it (λi h=>i<=(ki o).size/\∃ok ov,IsItemIter h it a i (ki o).size (uw o) ok ov) where
 mem:=by simp
 obj:=λi h st b hb=>by
  have e:b=it:=by simpa using hb
  subst e;let⟨_,ok,ov,q⟩:=st;exact{_,q,λv z=>by
   have z':Data.fields _=Data.cell v:=z
   cases z'}
 keep:=λi h h' st k=>by let⟨z,ok,ov,q⟩:=st;exact{z,ok,ov,k it ∅ _ q}
 item:=by
  intro X hP hw hK hc i Qa s Y H E I hf st hg;subst hP hw hK;obtain⟨hq,hi⟩:=hg;obtain⟨_,ok,ov,st⟩:=st;obtain⟨hd,de,hsz,at_⟩:=rS I.hok hq;have hx:es[i]?=some es[i]:=Bl hi;obtain⟨ku,u,rk,ru,en,g1,g2,g3⟩:=at_ i _ hx;have ilt:it<s.heap.objs.size:=Av st;have nT:H s.heap.objs.size=none:=I.hok.fresh (Ao _);refine Gh st de g1 λh1 o1 hT hsz1 kk=>{_,rfl,zcH o1 λh2 he2 sb=>?_};rw[g2,g3] at hT;have tup:br X.prog X.w (upd H s.heap.objs.size (.tup [kV es[i].1,es[i].2])) (s.heap.push {cls:=.type "tuple",data:=.seq #[ku,u]}) s.heap.objs.size (.tup [kV es[i].1,es[i].2]) :=
   {(by decide:2<=sizeLine),[ku,u],.cons rk (.cons ru .nil),i4.new _ _}
  have I1:=I.laid (t':=s.toks) (λb o q=>Am _ q) (Ao _) tup;have hT2:h2.get? s.heap.objs.size=some {cls:=.type "tuple",data:=.seq #[ku,u]}:=(sb.2 _ (D2 ilt)).trans hT;have I2:ay X Qa Y (upd H s.heap.objs.size (.tup [kV es[i].1,es[i].2])) {s with heap:=h2,toks:=s.toks}:=by
   refine ay.turnedL (s:={s with heap:=s.heap.push {cls:=.type "tuple",data:=.seq #[ku,u]}}) (its:=[it]) I1 (λc o hc q=>?_) λc hc=>?_
   ·have Ie:c≠it:=λz=>hc (by simp[z]);by_cases Ds:c=s.heap.objs.size
    ·subst Ds;have q:(s.heap.push {cls:=.type "tuple",data:=.seq #[ku,u]}).get? s.heap.objs.size=some o:=q;rw[BI _ rfl] at q;cases q;exact hT2
    ·have q:(s.heap.push {cls:=.type "tuple",data:=.seq #[ku,u]}).get? c=some o:=q;have Al:c<s.heap.objs.size:=by have h0:=Av q;rw[DZ] at h0;exact Nat.lt_of_le_of_ne (Nat.le_of_lt_succ h0) Ds
     have q0:s.heap.get? c=some o:=(by rw[←q];exact(xa Al).symm);exact(sb.2 c Ie).trans (kk c o Ie q0)
   ·let⟨f0,f1,f2,f3,f4,f5⟩:=hf c hc;have Ds:c≠s.heap.objs.size:=by have z:c=it:=‹hc›;rw[z];exact BE ilt
    exact{by rw[aq Ds];exact f0,f1,f3,f4,f5}
  refine{.ref s.heap.objs.size,_,I2,rfl,{_,_,hx,rfl,nT,rfl},{by rw[hsz];exact hi,_,_,he2},λc hc=>?_};have Ds:c≠s.heap.objs.size:=by have z:c=it:=‹hc›;rw[z];exact BE ilt
  rw[aq Ds];exact(hf c hc).1
 done:=by
  intro X hP hw hK hc i Qa s Y H E I hf st hg;subst hP hw hK;let⟨hq,hi⟩:=hg;let⟨z,ok,ov,st⟩:=st;let⟨hd,de,hsz,_⟩:=rS I.hok hq;let⟨f0,f1,f2,f3,f4,f5⟩:=hf it ∅;have Dh:i=(ki o).size:=by omega
  rw[Dh] at st;exact Gj (I.ok.hd hc) st de λh' eb=>{rfl,I.turned (t':=s.toks) (λb o hb e=>eb b o hb e) f0 f1 f3 f4 f5}
 self:=λ_ _ _ _ _ st h=>by let⟨_,ok,ov,st⟩:=st;exact Gq st h
def JEt {H:Hp}{s:A1}{a:A3}{o:As}{es:P4 (aE×V)}(I:ay X Qa Y H s)(e:H a=some (nM o es)):s.TypeIs (.ref a) "dict"/\(∀b,Value.ref a=.ref b->∃ob,s.heap.get? b=some ob/\ob.dict=none)/\(a == sysModules)=false:=by obtain⟨hd,⟨ob,g,x,dt⟩,_⟩:=rS I.hok e;exact{{ob,g,x.1},λb z=>by cases z;exact{ob,g,x.2.1},hd}
def xy (tl:TE):TI:=λY H R=>tl Y H λx H1=>∃a o es,x=.ref a/\H1 a=some (nM o es)/\R (O7 a o es) H1
def yy {X:Cx}{elts:Tj}{x1}{pt apos Ag:Pos}{o:AU}{tl:TE}(hl:PE X o tl)(BN:attributeBase o "items" X.env (eval o X.env)=eval o X.env)(BL:(apos.endLine == Ag.line)=true) :
  PI X (.Tuple elts x1 pt) (.Call (.Attribute o "items" apos) [] [] Ag) (xy tl):=by
 intro Qa s Y H R I h;refine zcJ BN rfl BL PySem.F.plainAttrs_dict PySem.F.slot_dict_items PySem.F.type_dict_items (cV (hl Qa s Y H _ I h) λu s1 hh=>?_);obtain⟨x,H1,I1,rx,a,o,es,ex,hq,q⟩:=hh;subst ex;obtain rfl:u=Value.ref a:=rx;obtain⟨t1,t2,_⟩:=JEt I1 hq;refine{t1,t2,Calls.callWith_builtin rfl (PySem.evalArgs_none ?_)};obtain⟨hd,de,hsz,at_⟩:=rS I1.hok hq;refine BM hd de ?_;refine Gs (v:=s1.heap.objs.size) (d:=a) {_,BI _ rfl,rfl,rfl} (de.at λob g=>Am _ g) ?_;have I2:ay X Qa Y H1 {s1 with heap:=s1.heap.push {cls:=.type "dict_items",data:=.fields #[.ref a]}}:=I1.kept (t':=s1.toks) λb o e=>Am _ e;refine{_,[_],_,_,H1,rfl,I2.kept (t':=s1.toks) λb o e=>Am _ e,sP a _ o es,{DH _,_,_,BI _ rfl},λb hb=>?_,q};have e:=Bg.mp hb;rw[e];exact I2.fpOk (Ao _) (I2.hok.fresh (Ao _))
end L2
namespace HW
variable {K:AP}
open PyProof.Rows L2
section
variable {K:AP}{Y:L2.St}{H:Hp}{Q:VK}
def tz {ix:P4 Nat}{k:Nat}{own:Tn}{fi:FI}{g:FG}{c:FT}{f:FE}(hk:own.length=k)(h:ax K (bS ix k fi g c f) Y H Q):wN ix own (rq K fi) (px K g) (gX K c) (ax K f) Y H Q:=by
 let⟨O,U,m,d,U',hl,hs,e,kk⟩:=h;let⟨⟨xs,U1⟩,e1,e⟩:=AY.mp e;split at e
 ·rename_i hz;let⟨⟨r,Ur⟩,e2,e⟩:=AY.mp e;cases e;refine{O,U,m,xs,U1,hl,hs,e1,λJ P H1 m1 x1 s1 ok p1=>?_};refine{λi n ys τ H=>n=xs.length-i/\i<=xs.length/\ys.length<=i/\P H/\∃O U m ds r',dX K m H O τ/\aJ K m H U/\RelDs K H ds ys/\bJ g c f (xs.drop i) O U=some (r',Ur)/\r=ds++r' /\
   ∀v H' m',dz m H m' H'->aJ K m' H' (Ur++[.lst r])->av K m' H' (.p Ur.length) v->Q v H',
   {_,rfl,DH _,Ao _,p1,_,U1,m1,[],r,zj hk (hl.ext x1),s1,by rwa[RelDs],by simpa using e2,rfl,λv H' m' x2 s2 r2=>kk v H' m' (x1.trans x2) s2 r2},?_}
  rintro i n ys τ H ⟨rfl,hi,hy,p,O,U,m,ds,r',hl,hs,rs,e,er,kk⟩;by_cases Al:i<xs.length
  ·have hx:xs[i]?=some xs[i]:=Bl Al;rw[zbl Al,bJ] at e;let⟨⟨O1,U2⟩,q1,e⟩:=AY.mp e;let⟨⟨b,U3⟩,q2,e⟩:=AY.mp e;refine .inr {ok.go i _ H hx p,Nat.lt_of_le_of_lt hy (Bi Al hz),λx H' y=>?_};let⟨xe,rx⟩:=ok.yld i _ H x H' hx p y;have x0:dz m H m H':=lN xe;refine{O,U,m,.v xs[i],O1,U2,dX.ext x0 hl,hs.same xe,rx,q1,λY1 H1 m1 x1 s1 l1=>?_};have x1:=x0.trans x1;refine{O1,U2,m1,b,U3,l1,s1,q2,λH2 m2 x2 s2=>?_}
   cases b with
   |true=>
    rwa[if_true] at e ⊢;let⟨⟨y',U4⟩,q3,e⟩:=AY.mp e;refine{O1,U3,m2,y',U4,l1.ext x2,s2,q3,λw H3 m3 x3 s3 r3=>?_}
    cases y' with
    |p _=>cases e
    |s _ _=>cases e
    |x _=>cases e
    |f _ _=>cases e
    |v d1=>
     let⟨⟨r1,U5⟩,q4,e⟩:=AY.mp e;cases e;have x4:=(x1.trans x2).trans x3;refine{_,(by omega:xs.length-(i+1)<xs.length-i),rfl,Al,by rw[Bb];exact Nat.succ_le_succ hy,ok.st _ _ x4.tf p,O1,U4,m3,ds++[d1],r1,l1.ext (x2.trans x3),s3,
      (RelDs.tf x4.tf _ _ rs).append (by rwa[RelDs];exact{w,[],rfl,r3,rfl}),q4,by rw[er,Bf];rfl,λv H' m' x5 s5 r5=>kk v H' m' (x4.trans x5) s5 r5}
   |false=>
    rwa[C8,if_false] at e ⊢;have x4:=x1.trans x2;exact{_,(by omega:xs.length-(i+1)<xs.length-i),rfl,Al,Nat.le_succ_of_le hy,ok.st _ _ x4.tf p,O1,U3,m2,ds,r',l1.ext x2,s2,RelDs.tf x4.tf _ _ rs,e,er,λv H' m' x5 s5 r5=>kk v H' m' (x4.trans x5) s5 r5}
  ·have:i=xs.length:=by omega
   subst this;rw[List.drop_length,bJ] at e;cases e;refine .inl {ok.stop _ H p (Ao _),λp hp=>?_};let⟨a1,a2,a3⟩:=jX hs rs hp;rw[Cg] at er;subst er;exact kk _ _ _ a1 a2 a3
 ·cases e
def wU {ix:P4 Nat}{k:Nat}{own:Tn}{fi:FI}{g:FG}{c:FT}{f:FE}(hk:own.length=k)(h:ax K (bS ix k fi g c f) Y H Q):wN ix own (AG K fi) (px K g) (gX K c) (ax K f) Y H Q :=
 let ⟨O,U,m,xs,U',hl,hs,e,k⟩:=tz hk h
 {O,U,m,xs,U',hl,hs,e,λJ P H' m' x s ok p=>k J P H' m' x s {ok.st,ok.stop,ok.go,λi d H x H' e p y=>by let⟨rfl,r⟩:=ok.yld i d H x H' e p y;exact{λ_ _ z=>z,r}} p}
end
noncomputable def mX (f:FE):FI:=λO U=>(f O U).bind λa=>match a.1 with
 |.p n=>match a.2[n]? with
  |some (.hk A4)=>some (A4.map λp=>.tup [HW.kD p.1,p.2],a.2)
  |_=>none
 |_=>none
def JD3 {H:Hp}{Q:VK}{fo f:FE}(h:ax K (qB fo f) Y H Q):FW (ax K f) Y H Q:=by
 let⟨O,U,m,d,U',hl,hs,e,k⟩:=h;unfold qB at e;split at e
 ·rename_i n _ hn;split at e
  ·rename_i A4 q;let⟨⟨r,U2⟩,e2,e⟩:=AY.mp e;dsimp only at e;split at e
   ·rename_i kvs' q2
    cases e;obtain⟨a,ha⟩:∃a,m[n]?=some a:={_,Bl (by have:=(Bv.mp q).1;have:=hs.len;omega)};let⟨es,ea,ke,rr⟩:=hs.cell n _ a q ha;refine{a,es,ea,λo=>?_};have x:dz m H m (upd H a (nM o es)):=.put (DM ha) ea ∅ ∅;refine{O,_,m,_,U2,hl.ext x,hs.put ha ea ∅ ∅ (c:=.hk A4) {o,es,bN,ke,RelDs.tf x.tf _ _ rr},e2,λv H2 m2 x2 s2 r2=>?_};have e3:H2 a=some (nM o es):=x2.tf.frz _ _ _ bN;let⟨ex,rfl,fr⟩:=x2.ext;have ha2:(m++ex)[n]?=some a:=(by rw[BY (Bv.mp ha).1];exact ha);refine{e3,k v _ (m++ex) ?_ (aJ.give s2 ha2 q2 e3) ((wy e3).relR r2)};have nn:∀b,b≠a->upd H a (nM o es) b=H b:=λb hb=>L2.aq hb;refine{{ex,rfl,λb hb=>?_},{λb xs z=>?_,λb ob u z=>?_},λb ob z hb=>?_,λb z=>?_}
    ·have:=fr b hb;by_cases DS:b=a
     ·subst DS;rw[bN] at this;cases this
     ·rw[nn b DS] at this;exact this
    ·have DS:b≠a:=λy=>by rw[y,ea] at z;cases z
     rw[L2.aq DS];exact x2.tf.tup _ _ (by rw[nn b DS];exact z)
    ·have DS:b≠a:=λy=>by rw[y,ea] at z;cases z
     rw[L2.aq DS];exact x2.tf.frz _ _ _ (by rw[nn b DS];exact z)
    ·have DS:b≠a:=λy=>hb (y ▸ DM ha);rw[L2.aq DS];exact x2.keep _ _ (by rw[nn b DS];exact z) hb
    ·by_cases DS:b=a
     ·subst DS;rw[bN] at z;cases z
     ·rw[L2.aq DS] at z;have:=x2.live b z;rw[nn b DS] at this;exact this
   ·cases e
  ·cases e
 ·cases e
def Jh {a:A3}{o:As}{es:P4 (aE×V)}{A4:P4 (aE×D)}:CT K (O7 a o es) (A4.map λp=>.tup [HW.kD p.1,p.2]) (λH=>H a=some (nM o es)/\KD K H A4 es) where
 st:=λH H' t p=>{t.frz _ _ _ p.1,p.2.1,RelDs.tf t _ _ p.2.2}
 stop:=λi H p hi=>{p.1,by have:=AI List.length p.2.1;simp at this hi;omega}
 go:=λi d H e p=>{p.1,by
  have h1:=(Bv.mp e).1;have:=AI List.length p.2.1;simp at this h1;omega}
 yld:=λi d H x H' e p y=>by
  let⟨T,kv,e1,e2,e3,e5⟩:=y;rw[Bh] at e;let⟨q,hq,hd⟩:=DX.mp e;have hk:kv.1=q.1:=by
   have:=AI (λl=>l[i]?) p.2.1;rwa[Bh,e1,hq,EB] at this
   exact Option.some.inj this
  have hv:ak K H q.2 kv.2:=by let⟨v,z1,z2⟩:=RelDs.get p.2.2 (i:=i) (d:=q.2) (by rw[Bh,hq];rfl);rw[Bh,e1] at z1;cases z1;exact z2
  subst e2 e5 hd;refine{jr e3,?_};rwa[ak];refine{T,[kV kv.1,kv.2],rfl,gp.of aP,?_};rwa[RelDs];exact{_,_,rfl,by rw[hk];exact Ja q.1,_,_,rfl,ak.tf (lN (m:=[]) (jr e3)).tf _ _ hv,rfl}
def JD2 {H:Hp}{R:It->Hp->Prop}{f}(h:rq K (mX f) Y H R):xy (ax K f) Y H R:=by
 let⟨O,U,m,xs,U',hl,hs,e,k⟩:=h;let⟨⟨x,U1⟩,e1,e⟩:=AY.mp e;refine{O,U,m,x,U1,hl,hs,e1,λv H1 m1 x1 s1 r1=>?_};dsimp only at e;split at e
 ·rename_i n;split at e
  ·rename_i A4 q
   cases e;let⟨a,rfl,ha⟩:=r1;let⟨o,es,ea,ke,rr⟩:=s1.cell n _ a q ha;exact{a,o,es,rfl,ea,k _ _ _ m1 x1 s1 Jh {ea,ke,rr}}
  ·cases e
 ·cases e
noncomputable def v9:P4 (aE×D)->P4 (aE×D)->A7
 |[],[]=>true
 |p::r,q::t=>decide (p.1=q.1)&&(dQ 60 (cq p.2)&&dQ 60 (cq q.2))&&jh (cq p.2) (cq q.2)&&v9 r t
 |_,_=>false
noncomputable def GG:R->R->ac->QI (R×ac):=λx y U=>match x with
 |.p n=>(match y with
  |.p m=>(match U[n]? with
   |some (.dct a)=>(match U[m]? with|some (.dct b)=>if v9 a b=true then some (.v (.bl true),U) else none|_=>none)
   |_=>none)
  |_=>none)
 |_=>none
def xQ {x y:R}{U:ac}{z}(e:GG x y U=some z):∃n m a b,x=.p n/\y=.p m/\U[n]?=some (.dct a)/\U[m]?=some (.dct b)/\v9 a b=true/\z=(.v (.bl true),U):=by
 unfold GG at e;split at e
 ·split at e
  ·split at e
   ·rename_i h1;split at e
    ·rename_i h2;split at e
     ·rename_i h3;cases e;exact{_,_,_,_,rfl,rfl,h1,h2,h3,rfl}
     ·cases e
    ·cases e
   ·cases e
  ·cases e
 ·cases e
def Li (K:AP):R2:=λv u H Q=>∃m U x y z,aJ K m H U/\av K m H x v/\av K m H y u/\GG x y U=some z/\Q (.bl true) H
def L8 :pB K GG (Li K):=by intro m H U x y d U' v u Q s rx ry e k;have e0:=e;let⟨_,_,_,_,_,_,_,_,_,z⟩:=xQ e;cases z;exact{m,U,x,y,_,s,rx,ry,e0,k _ H m .refl s (by rwa[av,ak])}
theorem wv {K:Type}[DecidableEq K]:∀{kb:P4 (K×A2)} {k:K} {y:A2},(kb.map (·.1)).Nodup->(k,y)∈kb->valueAt kb k=some y
 |p::r,k,y,nd,h=>by
  unfold valueAt;rw[zbH];rcases Ax.mp h with z|z
  ·subst z;simp
  ·have nd:=CR.mp nd;have:p.1≠k:=λq=>nd.1 (by show p.1∈_;rw[q];exact Bm.mpr {_,z,rfl});rwa[this,decide_false];exact wv nd.2 z
theorem hits {X:Cx}{H:Hp}{s:A1}(I:ay X Qa Y H s){A:AE}(hu:A.in1.units+64<cLine){kb:P4 (aE×A2)}:∀{as bs:P4 (aE×D)} {es fs:P4 (aE×V)} {va vb:P4 (aE×A2)},v9 as bs=true->KD X.K H as es->KD X.K H bs fs->KV es va->KV fs vb ->
  (∀p∈vb,valueAt kb p.1=some p.2)->va.length=vb.length/\PySem.W.KeqHits A.in1 s kb va true:=by
 intro as
 induction as with
 |nil=>
  intro bs es fs va vb e k1 k2 r1 r2 hv
  cases bs with
  |cons _ _=>cases e
  |nil=>
   let⟨q1,_⟩:=k1;let⟨q2,_⟩:=k2
   cases es with
   |cons _ _=>cases q1
   |nil=>
    cases fs with
    |cons _ _=>cases q2
    |nil=>cases r1;cases r2;exact{rfl,.nil}
 |cons p r ih=>
  intro bs es fs va vb e k1 k2 r1 r2 hv
  cases bs with
  |nil=>cases e
  |cons q t=>
   rwa[v9,EF,decide_eq_true_eq] at e;let⟨⟨⟨e1,e2,e3⟩,e4⟩,e5⟩:=e
   cases es with
   |nil=>exact AH k1.1 ∅
   |cons pe es=>
    cases fs with
    |nil=>exact AH k2.1 ∅
    |cons qf fs=>
     let⟨x1,x2,x3⟩:=KD.cons.mp k1;let⟨y1,y2,y3⟩:=KD.cons.mp k2
     cases r1 with
     |cons ra r1=>
      cases r2 with
      |cons rb r2=>
       rename_i b1 t1 b2 t2
       let⟨l,hh⟩:=ih e5 x3 y3 r1 r2 λp hp=>hv p (BR _ hp);let⟨as',q1⟩:=lA I 60 _ _ _ e2 (ak.unk _ _ x2) ra.2;let⟨bs',q2⟩:=lA I 60 _ _ _ e3 (ak.unk _ _ y2) rb.2;have ea:=PySem.W.keq_at (A:=A) q1 q2 (fU e2) (fU e3) hu;rw[sg,e4] at ea;refine{AI (· + 1) l,?_};have h0:=hv _ (BG ..);have:=PySem.W.KeqHits.hit (A:=A.in1) (s:=s) (kb:=kb) (k:=b1.1) (v:=b1.2) (by rw[←ra.1,x1,e1,←y1,rb.1];exact h0) ea hh;simpa using this
def JGl {X:Cx}(hu:X.A.units+65<cLine):jO X (compareOp .Eq) (Li X.K):=by
 intro Qa s Y H v u v' u' Q I rv ru q;let⟨m,U,x,y,z,S,rx,ry,e,q⟩:=q;let⟨n1,n2,as,bs,rfl,rfl,h1,h2,h3,_⟩:=xQ e;let⟨a,rfl,ha⟩:=rx;let⟨b,rfl,hb⟩:=ry;obtain rfl:v'=Value.ref a:=rv;obtain rfl:u'=Value.ref b:=ru;let⟨es,q1,q2⟩:=S.cell _ _ _ h1 ha;let⟨fs,q3,q4⟩:=S.cell _ _ _ h2 hb;let⟨_,na,va,ra,da⟩:=Cp I.hok q1;let⟨_,nb,vb,rb,db⟩:=Cp I.hok q3;have hn:∀p∈vb,valueAt vb p.1=some p.2:=λp hp=>by let⟨_,_,_,_,_,_,_,_,nd⟩:=id db;exact wv nd hp
 let⟨l,hh⟩:=hits I (A:=X.A) (by rw[Around.in1_units];omega) h3 q2 q4 ra rb hn;refine PySem.W.keq_eq na nb da db ∅ (λ_=>hh) {.bl true,H,I,?_,q};rw[l];simp[L2.aT]
end HW
namespace L2
open PyProof.Rows
def bv.u65 {k:Nat}{A:AE}(r:bv k A):A.units+65<cLine:=by have:=r.un;omega
end L2
namespace HW
variable {K:AP}
open PyProof.Rows L2
abbrev mQ (e:AU)(es:Tj)(X:Cx):Prop:=starEach (e::es) X.env=(false,eval e X.env)::starEach es X.env
noncomputable def oR:AU->A7
 |.Starred ..=>true
 |_=>false
def aB {es:Tj}{env:Env}(h:oR e=false):starEach (e::es) env=(false,eval e env)::starEach es env:=by cases e <;> first|rfl|(simp[oR] at h)
theorem aN {env:Env}{pos:Pos}:∀{es:Tj},es.any oR=false->(backTo pos (starEach es env)).any (·.1)=false
 |[],_=>rfl
 |e::es,h=>by rw[Er,Bool.or_eq_false_iff] at h;rw[aB h.1];have ih:=aN (env:=env) (pos:=pos) h.2;unfold backTo at ih ⊢;rw[Ak,Er,ih];rfl
def uO {es:Tj}{env:Env}(h:oR e=false):(assignEach (e::es) env).map (·.2)=assign e env::(assignEach es env).map (·.2):=by cases e <;> first|rfl|(simp[oR] at h)
def kh {prog:A9}{w:AF}{A:AE}{E:Tb}{s:A1}{t sl:A3}{items:Ti}{vl vu:A2}{lo hi:QI Int}{Q:Tb}(ht:IsTup s.heap t items)(hs:s.heap.IsSliceOf sl vl vu .none)(pl:IsPart vl lo)(pu:IsPart vu hi)
  (hw:HT.cH items.size 0 lo=0/\HT.cH items.size items.size hi=items.size)
  (h:Q (.ref t) s):wpAny (model prog w) A (getItem (.ref t) (.ref sl)) Q E s:=by
 obtain⟨os,II,Ib,hds⟩:=id hs;have hTs:s.TypeIs (.ref sl) "slice":={os,II,Ib};unfold getItem
 try with_reducible refine By ?_
 first|refine AA (AJ ?_)|skip
 refine AA (wpAny_sequenceKey ht.typeIs ∅ ?_)
 refine AA (HB (name:=Str.ofString "__getitem__") ht.typeIs PyProof.Rows.slot_tuple_getitem
  (Co PyProof.Rows.slot_tuple_getitem ht.typeIs entry_tuple_getitem ?_ (args_tuple_getitem _ _)))
 show wpAny _ _ (Builtin.Tuple.tupleItemsOf (.ref t) >>= _) _ _ s
 refine AA (tupleItemsOf_ ht ?_);refine AA (Ei hTs ?_);rw[A8 ∅];refine AA (HT.g7 hs pl pu ?_)
 have hyes:((((HT.cH items.size 0 lo:Nat):Int) == 0&&(1:Int) == 1&&(HT.cH items.size items.size hi-HT.cH items.size 0 lo) == items.size)=true):=by
  rw[hw.1,hw.2];simp
 show wpAny _ _ (if (((HT.cH items.size 0 lo:Nat):Int) == 0&&(1:Int) == 1&&(HT.cH items.size items.size hi-HT.cH items.size 0 lo) == items.size)=true then _ else _) _ _ s
 rw[A8 hyes];refine AA (m:=Builtin.Tuple.tupleIsExact (.ref t)) (AA (Ei ht.typeIs (AJ ?_)));rw[A8 ∅];refine AA (Eu ?_)
 first
  |exact AJ {_,rfl,AJ h}
  |exact AA (AJ (AJ {_,rfl,AJ h}))
  |exact AA (AJ {_,rfl,AJ h})
noncomputable def pd (xs:P4 D)(lo hi:QI Int):P4 D:=(xs.drop (HT.cH xs.length 0 lo)).take (HT.cH xs.length xs.length hi-HT.cH xs.length 0 lo)
def HV (K:AP):V->QI Int->QI Int->Hp->VK->Prop:=λx lo hi H Q=>Lc K x lo hi H Q\/La K x lo hi H Q \/
 ∃a xs,x=.ref a/\gp K H a xs/\(HT.cH xs.length 0 lo=0/\HT.cH xs.length xs.length hi=xs.length)/\Q (.ref a) H
def JAy {X:Cx}:zv X (λx lo hi H Q=>∃a xs,x=.ref a/\gp X.K H a xs/\(HT.cH xs.length 0 lo=0/\HT.cH xs.length xs.length hi=xs.length)/\Q (.ref a) H):=by
 intro Qa s Y H x v vl vu lo hi sl Q I rx hs pl pu h;let⟨a,xs,rfl,hx,hw,q⟩:=h;cases rx;let⟨its,r,ht,hz⟩:=I.tuple hx;have hlen:its.toArray.size=xs.length:=by rw[Ba];exact r.length.symm
 refine{"tuple",_,PyProof.Rows.slot_tuple_getitem.lookup,ht.typeIs,?_};exact kh ht hs pl pu (by rw[hlen];exact hw) {.ref a,H,I,rfl,q}
def Ai {X:Cx}:zv X (HV X.K):=zv.or JDq (zv.or JFw JAy)
abbrev FO:=Lo->ac->QI (QI Int×ac)
def tD (K:AP)(f:FO):TO:=λY H Q=>∃O U m o U',dX K m H O Y/\aJ K m H U/\f O U=some (o,U')/\∀H' m',dz m H m' H'->aJ K m' H' U'->Q o H'
noncomputable def jy:FO:=λ_ U=>some (none,U)
noncomputable def i9 (f:FE):FO:=λO U=>(f O U).bind λa=>match a.1 with|.v (.int i)=>some (some i,a.2)|_=>none
noncomputable def l7 (x:R)(lo hi:QI Int)(U:ac):QI (R×ac):=match x with
 |.v (.tup xs)=>some (.v (.tup (pd xs lo hi)),U)
 |x=>(j9 x U).bind λxs=>some (.p U.length,U++[.lst (pd xs lo hi)])
noncomputable def GA (fa:FE)(fl fh:FO):FE:=λO U=>(fa O U).bind λa=>(fl O a.2).bind λl=>(fh O l.2).bind λh=>l7 a.1 l.1 h.1 h.2
theorem RelDs.drop {K:AP}{H:Hp}:∀{xs:P4 D} {vs:P4 V} (n:Nat),RelDs K H xs vs->RelDs K H (xs.drop n) (vs.drop n)
 |_,_,0,h=>h
 |[],_,n+1,h=>by rwa[RelDs] at h;subst h;rwa[List.drop_nil,RelDs]
 |x::xs,_,n+1,h=>by rwa[RelDs] at h;let⟨v,r,rfl,_,h2⟩:=h;exact RelDs.drop n h2
theorem RelDs.take {K:AP}{H:Hp}:∀{xs:P4 D} {vs:P4 V} (n:Nat),RelDs K H xs vs->RelDs K H (xs.take n) (vs.take n)
 |_,_,0,h=>by rwa[List.take_zero,RelDs]
 |[],_,n+1,h=>by rwa[RelDs] at h;subst h;rwa[List.take_nil,RelDs]
 |x::xs,_,n+1,h=>by rwa[RelDs] at h;let⟨v,r,rfl,h1,h2⟩:=h;rwa[List.take_succ_cons,RelDs];exact{v,_,rfl,h1,RelDs.take n h2}
def RelDs.cut {H:Hp}{xs:P4 D}{vs:P4 V}{lo hi:QI Int}(h:RelDs K H xs vs):RelDs K H (pd xs lo hi) (nu vs lo hi):=by unfold pd nu;rw[h.length];exact(h.drop _).take _
section
variable {K:AP}{Y:L2.St}{H:Hp}{Q:VK}
def JA8 {Q:QI Int->Hp->Prop}(h:tD K jy Y H Q):wM Y H Q:=by let⟨O,U,m,o,U',hl,hs,e,k⟩:=h;cases e;exact k H m .refl hs
def JA7 {f}{Q:QI Int->Hp->Prop}(h:tD K (i9 f) Y H Q):FP (ax K f) Y H Q:=by
 let⟨O,U,m,o,U',hl,hs,e,k⟩:=h;let⟨⟨x,U1⟩,e1,e⟩:=AY.mp e;split at e
 ·rename_i i q
  cases e;simp only at q;subst q;exact{O,U,m,_,U1,hl,hs,e1,λv H1 m1 x1 s1 r1=>{i,by simpa only[av,ak] using r1,k H1 m1 x1 s1}}
 ·cases e
theorem KZ {m:Tf}{U U':ac}{x d:R}{v:V}{lo hi:QI Int}(s:aJ K m H U)(r:av K m H x v)(e:l7 x lo hi U=some (d,U'))(k:∀w H' m',dz m H m' H'->aJ K m' H' U'->av K m' H' d w->Q w H'):HV K v lo hi H Q:=by
 have lst:∀xs,j9 x U=some xs->(some (R.p U.length,U++[au.lst (pd xs lo hi)]):QI (R×ac))=some (d,U')->HV K v lo hi H Q:=λxs e1 e2=>by cases e2;let⟨a,vs,rfl,q,rr⟩:=iF s r e1;refine .inl {a,vs,rfl,q,λp hp=>?_};let⟨x1,x2,x3⟩:=jX s (rr.cut (lo:=lo) (hi:=hi)) hp;exact k _ _ _ x1 x2 x3
 have gen:(j9 x U).bind (λxs=>some (R.p U.length,U++[au.lst (pd xs lo hi)]))=some (d,U')->HV K v lo hi H Q:=λe=>by let⟨xs,e1,e⟩:=AY.mp e;exact lst xs e1 e
 cases x with
 |p n=>exact gen e
 |s _ n=>exact gen e
 |x n=>exact gen e
 |f L ds=>exact gen e
 |v d0=>
  cases d0 with
  |tup xs=>
   cases e;rwa[av,ak] at r;let⟨a,vs,rfl,q,rr⟩:=r;by_cases hw:HT.cH vs.length 0 lo=0/\HT.cH vs.length vs.length hi=vs.length
   ·refine .inr (.inr {a,vs,rfl,q,hw,k _ H m .refl s ?_});rwa[av,ak];refine{a,vs,rfl,q,?_};have:=rr.cut (lo:=lo) (hi:=hi);unfold nu at this
    rw[hw.1,hw.2] at this
    simpa using this
   ·refine .inr (.inl {a,vs,rfl,q,hw,λp hp=>?_});let⟨x1,x2,x3⟩:=jW s (rr.cut (lo:=lo) (hi:=hi)) hp;exact k _ _ _ x1 x2 x3
  |non=>exact gen e
  |bl _=>exact gen e
  |int _=>exact gen e
  |str _=>exact gen e
  |fl _=>exact gen e
  |fd _ _=>exact gen e
  |key _=>exact gen e
def K3 {fa fl fh}(h:ax K (GA fa fl fh) Y H Q):MJ (HV K) (ax K fa) (tD K fl) (tD K fh) Y H Q:=by let⟨O,U,m,d,U',hl,hs,e,k⟩:=h;let⟨⟨x,U1⟩,e1,e⟩:=AY.mp e;let⟨⟨l,U2⟩,e2,e⟩:=AY.mp e;let⟨⟨u,U3⟩,e3,e⟩:=AY.mp e;refine{O,U,m,x,U1,hl,hs,e1,λv H1 m1 x1 s1 r1=>?_};refine{O,U1,m1,l,U2,hl.ext x1,s1,e2,λH2 m2 x2 s2=>?_};refine{O,U2,m2,u,U3,hl.ext (x1.trans x2),s2,e3,λH3 m3 x3 s3=>?_};exact KZ s3 (r1.ext (x2.trans x3)) e λw H4 m4 x4 s4 r4=>k w H4 m4 (((x1.trans x2).trans x3).trans x4) s4 r4
noncomputable def ze (xs:Th)(lo hi:QI Int):Th:=(xs.drop (HT.cH xs.length 0 lo)).take (HT.cH xs.length xs.length hi-HT.cH xs.length 0 lo)
def Cs (xs:Th)(lo hi:QI Int):nu (xs.map V.int) lo hi=(ze xs lo hi).map V.int:=by unfold nu ze;rw[Ay,List.map_take,List.map_drop]
noncomputable def F0 (x:R)(lo hi:QI Int)(U:ac):QI (R×ac):=match x with
 |.v (.key ks)=>some (.v (.key (ze ks lo hi)),U)
 |_=>none
noncomputable def Ez (fa:FE)(fl fh:FO):FE:=λO U=>(fa O U).bind λa=>(fl O a.2).bind λl=>(fh O l.2).bind λh=>F0 a.1 l.1 h.1 h.2
def JFz {m:Tf}{U U':ac}{x d:R}{v:V}{lo hi:QI Int}(s:aJ K m H U)(r:av K m H x v)(e:F0 x lo hi U=some (d,U'))(k:∀w H' m',dz m H m' H'->aJ K m' H' U'->av K m' H' d w->Q w H'):HV K v lo hi H Q:=by
 unfold F0 at e;split at e
 ·rename_i ks
  cases e;rwa[av,ak] at r;let⟨a,rfl,q⟩:=r;by_cases hw:HT.cH (ks.map V.int).length 0 lo=0/\HT.cH (ks.map V.int).length (ks.map V.int).length hi=(ks.map V.int).length
  ·refine .inr (.inr {a,_,rfl,.inl (.inl q),hw,k _ H m .refl s ?_});rwa[av,ak];refine{a,rfl,?_};rw[q,←Cs];unfold nu;rw[hw.1,hw.2,List.drop_zero,Nat.sub_zero,List.take_length]
  ·refine .inr (.inl {a,_,rfl,.inl (.inl q),hw,λp hp=>?_});let⟨x1,x2,x3⟩:=jW s ((me ks).cut (lo:=lo) (hi:=hi)) hp;refine k _ _ _ x1 x2 ?_;rwa[av,ak];exact{p,rfl,by rw[bN,Cs]}
 ·cases e
def JGa {fa fl fh}(h:ax K (Ez fa fl fh) Y H Q):MJ (HV K) (ax K fa) (tD K fl) (tD K fh) Y H Q:=by let⟨O,U,m,d,U',hl,hs,e,k⟩:=h;let⟨⟨x,U1⟩,e1,e⟩:=AY.mp e;let⟨⟨l,U2⟩,e2,e⟩:=AY.mp e;let⟨⟨u,U3⟩,e3,e⟩:=AY.mp e;refine{O,U,m,x,U1,hl,hs,e1,λv H1 m1 x1 s1 r1=>?_};refine{O,U1,m1,l,U2,hl.ext x1,s1,e2,λH2 m2 x2 s2=>?_};refine{O,U2,m2,u,U3,hl.ext (x1.trans x2),s2,e3,λH3 m3 x3 s3=>?_};exact JFz s3 (r1.ext (x2.trans x3)) e λw H4 m4 x4 s4 r4=>k w H4 m4 (((x1.trans x2).trans x3).trans x4) s4 r4
noncomputable def B5 (fa:FE)(fl fh:FO):FE:=λO U=>(fa O U).bind λa=>(fl O a.2).bind λl=>(fh O l.2).bind λh=>Aj a.1 l.1 h.1 h.2
def JFy {x:R}{lo hi:QI Int}{U U':ac}{d:R}(e:Aj x lo hi U=some (d,U')):∃z,x=.v (.str z)/\z.length<=sizeLine/\d=.v (.str (Txt.slice z lo hi))/\U'=U:=by
 unfold Aj at e;split at e
 ·split at e
  ·rename_i hz
   cases e;exact{_,rfl,hz,rfl,rfl}
  ·cases e
 ·cases e
def JF9 {fa fl fh}(h:ax K (B5 fa fl fh) Y H Q):MJ Lb (ax K fa) (tD K fl) (tD K fh) Y H Q:=by let⟨O,U,m,d,U',hl,hs,e,k⟩:=h;let⟨⟨x,U1⟩,e1,e⟩:=AY.mp e;let⟨⟨l,U2⟩,e2,e⟩:=AY.mp e;let⟨⟨u,U3⟩,e3,e⟩:=AY.mp e;refine{O,U,m,x,U1,hl,hs,e1,λv H1 m1 x1 s1 r1=>?_};refine{O,U1,m1,l,U2,hl.ext x1,s1,e2,λH2 m2 x2 s2=>?_};refine{O,U2,m2,u,U3,hl.ext (x1.trans x2),s2,e3,λH3 m3 x3 s3=>?_};let⟨z,rfl,hz,rfl,rfl⟩:=JFy e;rwa[av,ak] at r1;exact{z,r1,hz,k _ H3 m3 ((x1.trans x2).trans x3) s3 (by rwa[av,ak])}
end
def PO.imp {e:QI AU}{t t':TO}(h:PO X e t)(k:∀{Y H Q},t' Y H Q->t Y H Q):PO X e t':=λQa s Y H Q I q=>h Qa s Y H Q I (k q)
noncomputable def kK:FS:=λ_ _=>none
namespace R
section
variable {X:Cx}{a b e:AU}{es:Tj}{fa fb:FE}{ga:FA}{pos p:Pos}{x:Str}
def al {i j}:PE X (.Constant (.int i) j pos) (ax X.K (fK (.int i))):=PE.imp JGd (jt λ_ _=>by rwa[av,ak])
def w4 (ha:PE X a (ax X.K fa)):PE X (.UnaryOp .USub a pos) (ax X.K (uS vJ fa)):=PE.imp (Lx JE0 ha) (K2 LZ)
def tH (ha:PE X a (ax X.K fa)):PO X (some a) (tD X.K (i9 fa)):=PO.imp (JC8 ha) JA7
def JGv {k:Nat}{f:A3}{fd:FuncData}{ps:Tn}{n:Nat}{mf:MF}(F:b9 X.prog X.w X.K X.mg X.base j7 k f fd ps (zt X.K n mf))(hr:bv k X.A)(hg:Gl X x)(hm:X.mg x=some (.ref f))(hk:PySem.W.keepIn X.K (.ref f)=true)(hb:fj X.K fd ps [])
  (ha:PA X (e::es) (gr X.K ga)) (Be:(x == ("__debug__" : Str))=false:=by decide) (he:mQ e es X:=by exact aB rfl) (hpl:(backTo pos (starEach es X.env)).any (·.1)=false:=by exact aN rfl) :
  PE X (.Call (.Name x p) (e::es) [] pos) (ax X.K (aW mf n ga)):=PE.imp (nH F hr hg hm hk hb .nil oG ha Be he hpl) JC0
def iC {d:D}(h:gk X.K X.mg x d)(hg:Gl X x:=by rfl)(hd:(x == ("__debug__" : Str))=false:=by decide):PE X (.Name x pos) (ax X.K (fK d)):=by obtain⟨u,v,hm,r,rd⟩:=h;exact PE.imp (JDg hg hm r hd) (jt λ_ H=>rd H)
def mN {op:CmpOp}{r:R2}{g:R->R->ac->QI (R×ac)}(ho:jO X (compareOp op) r)(hg:pB X.K g r)(ha:PE X a (ax X.K fa))(hb:PE X b (ax X.K fb))(hm:behindInMarks op b=false):PT X (.Compare a [op] [b] pos) (gX X.K (fB (aw g fa fb))) :=
 PT.imp (xc ho ha hb hm) λh=>by let⟨O,U,m,d,U',hl,hs,e,k⟩:=wV h;exact g9 hg {O,U,m,d,U',hl,hs,e,k}
def KA {op:CmpOp}{neg:A7}{c:D}{cv:V}(hc:(c=.non/\cv=.non)\/∃b,c=.bl b/\cv=.bl b)(ho:jO X (compareOp op) (DC neg cv))(ha:PE X a (ax X.K fa))(hb:PE X b (tC cv))(hm:behindInMarks op b=false):PT X (.Compare a [op] [b] pos) (gX X.K (fB (uS (yR neg c) fa))) :=
 PT.imp (xc ho ha hb hm) λh=>by let⟨O,U,m,d,U',hl,hs,e,k⟩:=wV h;exact K6 hc {O,U,m,d,U',hl,hs,e,k}
variable {ta:FT}
variable {st:Ad}{c tg iter:AU}
def iB:PS X st (eB X.K kK):=λQa s Y H D I h=>by let⟨O,U,m,out,hl,hs,e,k⟩:=h;cases e
variable {g:FG}{fi:FI}
def mL.imp {ifs:Tj}{t t':TT}(h:mL X ifs t)(k:∀{Y H Q},t' Y H Q->t Y H Q):mL X ifs t':=λQa s Y H Q I q=>h Qa s Y H Q I (k q)
def gN {ifs:Tj}{scope:Scope}(ix:P4 Nat)(own caps:Tn)(hc:X.calm=true)(n:aG X.env.scope scope own caps)(hi:PI X tg iter (AG X.K fi))
  (hb:∀cl C s₂ H₂ fp,PG (aF X scope cl C s₂ H₂ fp (own++caps)) tg (px X.K g)/\mL (aF X scope cl C s₂ H₂ fp (own++caps)) ifs (gX X.K ta)/\PE (aF X scope cl C s₂ H₂ fp (own++caps)) e (ax X.K fa))
  (CD:ix.map (λi=>X.N[i]?)=caps.map some:=by rfl)
  (hs:∀x,foldedSetIterable iter X.env x=pure x:=by intro _;rfl):PE X (.ListComp e [{tg,iter,ifs,0}] scope pos) (ax X.K (bS ix own.length fi g ta fa)):=by
 refine PE.imp (tS (ix:=ix) hc n ‹AI List.length CD› (λj i y h1 h2=>?_) hi hb hs) (wU rfl);have:=AI (λl=>l[j]?) CD
 rwa[Bh,h1,h2,EB] at this
 exact Option.some.inj this
def rB {ifs:Tj}{scope:Scope}(ix:P4 Nat)(own caps:Tn)(hc:X.calm=true)(n:aG X.env.scope scope own caps)(hi:PI X tg iter (rq X.K fi))
  (hb:∀cl C s₂ H₂ fp,PG (aF X scope cl C s₂ H₂ fp (own++caps)) tg (px X.K g)/\mL (aF X scope cl C s₂ H₂ fp (own++caps)) ifs (gX X.K ta)/\PE (aF X scope cl C s₂ H₂ fp (own++caps)) e (ax X.K fa))
  (CD:ix.map (λi=>X.N[i]?)=caps.map some:=by rfl)
  (hs:∀x,foldedSetIterable iter X.env x=pure x:=by intro _;rfl):PE X (.ListComp e [{tg,iter,ifs,0}] scope pos) (ax X.K (bS ix own.length fi g ta fa)):=by
 refine PE.imp (tS (ix:=ix) hc n ‹AI List.length CD› (λj i y h1 h2=>?_) hi hb hs) (tz rfl);have:=AI (λl=>l[j]?) CD
 rwa[Bh,h1,h2,EB] at this
 exact Option.some.inj this
def l9 (i:Nat){py D6:Pos}{ifs:Tj}{scope:Scope}(ix:P4 Nat)(own caps:Tn)(hc:X.calm=true)(n:aG X.env.scope scope own caps)(hN:X.N.Nodup)(hi:PI X tg iter (AG X.K fi))
  (hb:∀cl C s₂ H₂ fp,PG (aF X scope cl C s₂ H₂ fp (own++caps)) tg (px X.K g)/\mL (aF X scope cl C s₂ H₂ fp (own++caps)) ifs (gX X.K ta)/\PE (aF X scope cl C s₂ H₂ fp (own++caps)) e (ax X.K fa))
  (hsw:swapsWith (.ListComp e [{tg,iter,ifs,0}] scope pos) (some (.Name x py)) D6.line X.env=pure true:=by rfl)
  (hy:X.N[i]?=some x:=by rfl) (Hk:E7 X.env.scope x:=by first|exact Or.inl rfl|exact Or.inr rfl)
  (CD:ix.map (λi=>X.N[i]?)=caps.map some:=by rfl)
  (hs:∀x,foldedSetIterable iter X.env x=pure x:=by intro _;rfl) (hf:X.fn x=true\/X.env.scope.names.lookup x=some .local:=by first|exact .inl rfl|exact .inr rfl) :
  PS X (.Assign [.Name x py] (.ListComp e [{tg,iter,ifs,0}] scope pos) D6) (eB X.K (aI i (bS ix own.length fi g ta fa))):=by
 refine PS.imp (JAh (i:=i) (ix:=ix) hc n hN hy Hk ‹AI List.length CD› (λj i y h1 h2=>?_) hi hb hsw hs hf) λh=>?_
 ·have:=AI (λl=>l[j]?) CD
  rwa[Bh,h1,h2,EB] at this
  exact Option.some.inj this
 ·have h':=Aw h
  let⟨O,U,m,d,U',hl,hs,e,k⟩:=h';exact wU rfl {O,U,m,d,U',hl,hs,e,k}
end
end R
noncomputable def jC (x:R)(U:ac):A7:=match x with|.v (.fl _)=>true|.p n=>(match U[n]? with|some (.lst _)=>true|some (.fz _)=>true|_=>false)|_=>false
noncomputable def qA (g:R->P4 R->ac->QI (R×ac))(fa:FE)(ga:FA):FE:=λO U=>(fa O U).bind λa=>if jC a.1 a.2=true then (ga O a.2).bind λb=>g a.1 b.1 b.2 else none
def JBh {m:Tf}{H:Hp}{U:ac}{x:R}{v:V}(s:aJ K m H U)(r:av K m H x v)(e:jC x U=true):NE K "list" v H:=by
 have:∃xs,j9 x U=some xs:=by
  cases x with
  |v d=>cases d <;> simp_all[jC,j9]
  |s _ _=>simp[jC] at e
  |x _=>simp[jC] at e
  |f _ _=>simp[jC] at e
  |p n=>
   rwa[jC] at e;rwa[j9];split at e
   ·rename_i xs q;exact{xs,by first|rfl|rw[q]}
   ·rename_i xs q;exact{xs,by first|rfl|rw[q]}
   ·cases e
 let⟨xs,e⟩:=this;let⟨a,vs,rfl,q,_⟩:=iF s r e;exact .inl {rfl,vs,q}
def K5 {H:Hp}{Q:VK}{g r fa ga}(hg:Qf K g r)(h:ax K (qA g fa ga) Y H Q):NI K "list" r (ax K fa) (gr K ga) Y H Q:=by
 let⟨O,U,m,d,U',hl,hs,e,k⟩:=h;let⟨⟨x,U1⟩,e1,e⟩:=AY.mp e;split at e
 ·rename_i hx;let⟨⟨ys,U2⟩,e2,e⟩:=AY.mp e;refine{O,U,m,x,U1,hl,hs,e1,λv H1 m1 x1 s1 r1=>{JBh s1 r1 hx,?_}};refine{O,U1,m1,ys,U2,hl.ext x1,s1,e2,λvs H2 m2 x2 s2 r2=>?_};exact hg m2 H2 U2 x ys d U' v vs Q s2 (r1.ext x2) r2 e λw H3 m3 x3 s3 r3=>k w H3 m3 ((x1.trans x2).trans x3) s3 r3
 ·cases e
structure bY (K:AP)(mg:Td)(x:Str)(st:Stmt)(ps:Tn):Prop where
 ex:∃f fd,nQ K x x st f fd/\fj K fd ps []/\mg x=some (.ref f)
structure Pa (K:AP)(mg:Td)(x:Str)(st:Stmt)(ps:Tn)(c:Addr):Prop where
 ex:∃f fd,O9 K x st f fd c/\fj K fd ps []/\mg x=some (.ref f)
def bR (P:A9)(w:AF)(K:AP)(mg:Td)(base:AD)(k:Nat)(x:Str)(ps:Tn)(mf:MF):Prop :=
 ∃f fd,b9 P w K mg base j7 k f fd ps (zt K ps.length mf)/\PySem.W.keepIn K (.ref f)=true/\fj K fd ps []/\mg x=some (.ref f)
def kC (P:A9)(w:AF)(K:AP)(mg:Td)(base:AD)(k:Nat)(x:Str)(ps:Tn)(mf:MC):Prop :=
 ∃f fd,b9 P w K mg base j7 k f fd ps (Ae K ps.length (cX K mf))/\PySem.W.keepIn K (.ref f)=true/\fj K fd ps []/\mg x=some (.ref f)
def JEn {mg:Td}{base:AD}{k:Nat}{x:Str}{ps:Tn}{mf:MF}(h:bR P w K mg base k x ps mf):bR P w K mg base k x ps (uk mf) :=
 let ⟨f,fd,F,r⟩:=h
 {f,fd,F.imp λ_ _ _ _ z=>KU z,r}
def m6 (P:A9)(w:AF)(K:AP)(mg:Td)(base:AD)(k:Nat)(x:Str)(ps:Tn)(mf:MW):Prop :=
 ∃f fd,b9 P w K mg base j7 k f fd ps (JU K ps.length mf)/\PySem.W.keepIn K (.ref f)=true/\fj K fd ps []/\mg x=some (.ref f)
structure iZ (K:AP)(C:Addr)(nm qual:Str)(st:Stmt)(ps:Tn):Prop where
 ex:∃f fd,nQ K nm qual st f fd/\fj K fd ps []/\CQ K C nm f
def dG (P:A9)(w:AF)(K:AP)(mg:Td)(base:AD)(k:Nat)(nm:Str)(C:A3)(ps:Tn)(mf:MW):Prop :=
 ∃f fd,b9 P w K mg base j7 k f fd ps (JU K ps.length mf)/\fj K fd ps []/\CQ K C nm f
namespace R
def okP {P:A9}{w:AF}{K:AP}{mg:Td}{base:AD}{x:Str}{st:Ad}{N ps:Tn}{k:Nat}{b:FS}(d:bY K mg x st ps)(S:aA N ps (ai st))
  (An:∀(f:A3) (Ah:A2) (A:AE) (outer:P4 Env) (s:A1) (H:Hp) (E:XK),bv k (A.deeper (envOfC x (ai st) s.heap.objs.size f Ah))->nB (jf j7 P w K mg base N x (ai st) f Ah A outer s H E).nox (bq st) (eB K b)) :
  bR P w K mg base (k+1) x ps (gm N.length b):=by
 let⟨f,fd,F,B,M⟩:=d.ex;exact{f,fd,nQ.okP F S (An f),F.kp,B,M}
def aX {X:Cx}{k:Nat}{x:Str}{ps:Tn}{mf:MF}{e:AU}{es:Tj}{ga:FA}{p pos:Pos}{n:Nat}(F:bR X.prog X.w X.K X.mg X.base k x ps mf)(hr:bv k X.A)(ha:PA X (e::es) (gr X.K ga))(hg:Gl X x:=by rfl)(hn:ps.length=n:=by rfl)
  (Be:(x == ("__debug__" : Str))=false:=by decide) (he:mQ e es X:=by exact aB rfl) (hpl:(backTo pos (starEach es X.env)).any (·.1)=false:=by exact aN rfl) :
  PE X (.Call (.Name x p) (e::es) [] pos) (ax X.K (aW mf n ga)):=by
 subst hn;let⟨f,fd,F,kp,B,M⟩:=F;exact JGv F hr hg M kp B ha Be he hpl
def jS {X:Cx}{k:Nat}{x:Str}{ps:Tn}{mf:MF}{e:AU}{es:Tj}{ga:FA}{p pos:Pos}{n:Nat}(F:bR X.prog X.w X.K X.mg X.base k x ps mf)(hr:bv k X.A)(ha:PA X (e::es) (gr X.K ga))(hg:Gl X x:=by rfl)(hn:ps.length=n:=by rfl)
  (Be:(x == ("__debug__" : Str))=false:=by decide) (he:mQ e es X:=by exact aB rfl) (hpl:(backTo pos (starEach es X.env)).any (·.1)=false:=by exact aN rfl) :
  PE X (.Call (.Name x p) (e::es) [] pos) (ax X.K (gd mf n ga)):=by
 subst hn;let⟨f,fd,F,kp,B,M⟩:=F;exact PE.imp (nH (b9.borN (F.imp λ_ _ _ _ h=>KW h) ps.length) hr hg M kp B .nil oG ha Be he hpl) JAn
def okN {P:A9}{w:AF}{K:AP}{mg:Td}{base:AD}{x:Str}{st:Ad}{N ps:Tn}{k:Nat}{b:FS}(d:bY K mg x st ps)(S:aA N ps (ai st))
  (An:∀(f:A3) (Ah:A2) (A:AE) (outer:P4 Env) (s:A1) (H:Hp) (E:XK),bv k (A.deeper (envOfC x (ai st) s.heap.objs.size f Ah))->nB (jf j7 P w K mg base N x (ai st) f Ah A outer s H E).nox (bq st) (eB K b)) :
  kC P w K mg base (k+1) x ps (yo N.length b):=by
 let⟨f,fd,F,B,M⟩:=d.ex;exact{f,fd,nQ.okN F S (An f),F.kp,B,M}
def lC {X:Cx}{k:Nat}{x:Str}{ps:Tn}{mf:MC}{e:AU}{es:Tj}{ga:FA}{p pos:Pos}{n:Nat}(F:kC X.prog X.w X.K X.mg X.base k x ps mf)(hr:bv k X.A)(ha:PA X (e::es) (gr X.K ga))(hg:Gl X x:=by rfl)(hn:ps.length=n:=by rfl)
  (Be:(x == ("__debug__" : Str))=false:=by decide) (he:mQ e es X:=by exact aB rfl) (hpl:(backTo pos (starEach es X.env)).any (·.1)=false:=by exact aN rfl) :
  PE X (.Call (.Name x p) (e::es) [] pos) (ax X.K (iO mf n ga)):=by
 subst hn;let⟨f,fd,F,kp,B,M⟩:=F;exact PE.imp (nH (b9.borN F ps.length) hr hg M kp B .nil oG ha Be he hpl) JAo
def okW {P:A9}{w:AF}{K:AP}{mg:Td}{base:AD}{x:Str}{st:Ad}{N ps:Tn}{k:Nat}{b:FS}(d:bY K mg x st ps)(S:aA N ps (ai st))
  (An:∀(f:A3) (Ah:A2) (A:AE) (outer:P4 Env) (s:A1) (H:Hp) (E:XK),bv k (A.deeper (envOfC x (ai st) s.heap.objs.size f Ah))->nB (jf j7 P w K mg base N x (ai st) f Ah A outer s H E).nox (bq st) (eB K b)) :
  m6 P w K mg base (k+1) x ps (md N.length b):=by
 let⟨f,fd,F,B,M⟩:=d.ex;exact{f,fd,nQ.okW F S (An f),F.kp,B,M}
def Gg {P:A9}{w:AF}{K:AP}{mg:Td}{base:AD}{nm qual:Str}{C:A3}{st:Ad}{N ps:Tn}{k:Nat}{b:FS}(d:iZ K C nm qual st ps)(S:aA N ps (ai st))
  (An:∀(f:A3) (Ah:A2) (A:AE) (outer:P4 Env) (s:A1) (H:Hp) (E:XK),bv k (A.deeper (envOfC qual (ai st) s.heap.objs.size f Ah))->nB (jf j7 P w K mg base N qual (ai st) f Ah A outer s H E).nox (bq st) (eB K b)) :
  dG P w K mg base (k+1) nm C ps (md N.length b):=by
 let⟨f,fd,F,B,M⟩:=d.ex;exact{f,fd,nQ.okW F S (An f),B,M}
def gw {X:Cx}{k:Nat}{x:Str}{ps:Tn}{mf:MW}{e:AU}{es:Tj}{ga:FA}{p pos:Pos}{n:Nat}(F:m6 X.prog X.w X.K X.mg X.base k x ps mf)(hr:bv k X.A)(ha:PA X (e::es) (gr X.K ga))(hg:Gl X x:=by rfl)(hn:ps.length=n:=by rfl)
  (Be:(x == ("__debug__" : Str))=false:=by decide) (he:mQ e es X:=by exact aB rfl) (hpl:(backTo pos (starEach es X.env)).any (·.1)=false:=by exact aN rfl) :
  PE X (.Call (.Name x p) (e::es) [] pos) (ax X.K (cm mf n ga)):=by
 subst hn;let⟨f,fd,F,kp,B,M⟩:=F;exact PE.imp (nH F hr hg M kp B .nil oG ha Be he hpl) AC
def kL {X:Cx}{k:Nat}{c nm:Str}{C:A3}{ps:Tn}{mf:MW}{o e:AU}{es:Tj}{fo:FE}{ga:FA}{apos pos:Pos}{n:Nat}{pl:Sem A7}(N:lW X.K X.mg c C)(F:dG X.prog X.w X.K X.mg X.base k nm C ps mf)(hr:bv k X.A)(ho:PE X o (ax X.K fo))(ha:PA X (e::es) (gr X.K ga))(hn:ps.length=n:=by rfl)
  (he:mQ e es X:=by exact aB rfl) (hpl:(backTo pos (starEach es X.env)).any (·.1)=false:=by exact aN rfl)
  (ht:eval (.Call (.Attribute o nm apos) (e::es) [] pos) X.env=(do
   let ov ←eval o X.env
   standAt apos.atName
   let (mth,first) ←holding [ov] (getMethod ov nm pl)
   callWith pos mth first (backTo pos (starEach (e::es) X.env)) (backToKw pos (keywordEach [] X.env))):=by rfl) :
  PE X (.Call (.Attribute o nm apos) (e::es) [] pos) (ax X.K (dC c nm mf n fo ga)):=by
 subst hn;let⟨f,fd,F,B,M⟩:=F;exact PE.imp (JDd ho N.cl M F hr B .nil oG ha he hpl ht) (wS N)
def jR {X:Cx}{k:Nat}{c nm:Str}{C:A3}{ps:Tn}{mf:MW}{o:AU}{fo:FE}{apos pos:Pos}{n:Nat}{pl:Sem A7}(N:lW X.K X.mg c C)(F:dG X.prog X.w X.K X.mg X.base k nm C ps mf)(hr:bv k X.A)(ho:PE X o (ax X.K fo))(hn:ps.length=n:=by rfl)
  (ht:eval (.Call (.Attribute o nm apos) [] [] pos) X.env=(do
   let ov ←eval o X.env
   standAt apos.atName
   let (mth,first) ←holding [ov] (getMethod ov nm pl)
   callWith pos mth first (backTo pos (starEach [] X.env)) (backToKw pos (keywordEach [] X.env))):=by rfl) :
  PE X (.Call (.Attribute o nm apos) [] [] pos) (ax X.K (dC c nm mf n fo aj)):=by
 subst hn;let⟨f,fd,F,B,M⟩:=F;exact PE.imp (JBq ho N.cl M F hr B .nil oG ht) λh=>JAq (wS N h) λx H1 ⟨a,dx,fs,e,ea,l,t⟩=>{a,dx,fs,e,ea,l,Az t}
def nG {X:Cx}{k:Nat}{c:Str}{C:A3}{ps:Tn}{mf:MW}{e:AU}{es:Tj}{ga:FA}{p pos:Pos}{n:Nat}(N:lW X.K X.mg c C)(hk:PySem.W.makesIn X.K C=true)(hp:PySem.W.keepIn X.K (.ref C)=true)(F:dG X.prog X.w X.K X.mg X.base k "__init__" C ps mf)(hr:bv (k+1) X.A)(ha:PA X (e::es) (gr X.K ga))(hg:Gl X c:=by rfl)(hn:ps.length=n:=by rfl)
  (Be:(c == ("__debug__" : Str))=false:=by decide) (he:mQ e es X:=by exact aB rfl) (hpl:(backTo pos (starEach es X.env)).any (·.1)=false:=by exact aN rfl):PE X (.Call (.Name c p) (e::es) [] pos) (ax X.K (jG c mf n ga)):=by
 subst hn;let⟨f,fd,F,B,M⟩:=F;exact PE.imp (JDe {hk,M.at_,M.fn,hp} F hr hg N.mg B .nil oG ha Be he hpl) (JAl N)
end R
def IU {H:Hp}{a:A3}{ns:Th}{mf:MF}(E2:CP H)(hS:j6 K H a (ns.map V.int))(h:mf [.fl (ns.map .int)]=some (.bl true)):zt K 1 mf [.ref a] H (λv _=>v=.bl true) λ_ _ _=>False:=by
 refine{_,_,rfl,?_,h,λv H' _ r=>by simpa only[ak] using r};have rInts:∀{ns:Th},RelDs K H (ns.map .int) (ns.map V.int):=λ{ns}=>by
  induction ns with
  |nil=>rwa[D1,RelDs]
  |cons n ns ih=>rwa[Ak,RelDs];exact{_,_,rfl,by rwa[ak],ih}
 rwa[RelDs];refine{_,_,rfl,?_,rfl};rwa[ak];refine{a,_,rfl,?_,rInts};rcases hS with(hS|⟨o,hS⟩)|hS
 ·rcases E2 a with z|⟨o,xs,z⟩ <;> rw[hS] at z <;> cases z
 ·exact .inl {o,hS}
 ·exact .inr (.inr hS)
namespace R
end R
@[irreducible] def ZE (X:Cx)(e:AU)(t:TE):Prop:=L2.PE X e t
@[irreducible] def ZT (X:Cx)(e:AU)(t:TT):Prop:=L2.PT X e t
@[irreducible] def ZW (X:Cx)(e:AU)(t:TT):Prop:=L2.PW X e t
@[irreducible] def ZA (X:Cx)(e:Tj)(t:TA):Prop:=L2.PA X e t
@[irreducible] def ZS (X:Cx)(e:Ad)(t:TS):Prop:=L2.PS X e t
@[irreducible] def zn (X:Cx)(e:Tk)(t:TS):Prop:=L2.nB X e t
@[irreducible] def ZG (X:Cx)(e:AU)(t:TG):Prop:=L2.PG X e t
@[irreducible] def Nw (X:Cx)(e:Tj)(t:C0):Prop:=L2.C1 X e t
@[irreducible] def ZO (X:Cx)(e:QI AU)(t:TO):Prop:=L2.PO X e t
@[irreducible] def CN (X:Cx)(e:Tj)(t:TT):Prop:=HW.mL X e t
@[irreducible] def ZI (X:Cx)(tg iter:AU)(t:TI):Prop:=L2.PI X tg iter t
section
variable {X:Cx}{a b e:AU}{es:Tj}{fa fb:FE}{ga:FA}{pos p p2:Pos}{x:Str}
def ag (i:Nat)(hN:X.N[i]?=some x:=by rfl)(hv:Nx X.env.scope x:=by first|exact Or.inl rfl|exact Or.inr (Or.inl rfl)|exact Or.inr (Or.inr rfl))(hd:(x == ("__debug__" : Str))=false:=by decide)
  (Ee:(x == ("__classdict__" : Str))=false:=by decide):ZE X (.Name x pos) (ax X.K (ae i)):=by
 exists PE.imp (Iu hN hv hd Ee) JF5
def al {i j}:ZE X (.Constant (.int i) j pos) (ax X.K (fK (.int i))):=by exists R.al
def rC {i j}:ZE X (.Constant (.bool i) j pos) (ax X.K (fK (.bl i))):=by exists PE.imp LA (jt λ_ _=>by rwa[av,ak])
def fZ {i j}:ZE X (.Constant (.str i) j pos) (ax X.K (fK (.str i))):=by exists PE.imp Iw (jt λ_ _=>by rwa[av,ak])
def Gb {j}:ZE X (.Constant .none j pos) (ax X.K (fK .non)):=by exists PE.imp vB (jt λ_ _=>by rwa[av,ak])
def cY (ha:ZE X a (ax X.K fa))(hb:ZE X b (ax X.K fb)):ZE X (.BinOp a .Add b pos) (ax X.K (aw ez fa fb)):=by exists PE.imp (oF ((JGn.or (vF.or (JCr.or JGm))).or JCs) ha hb) (g9 Jq)
def wY (ha:ZE X a (ax X.K fa))(hb:ZE X b (ax X.K fb)):ZE X (.BinOp a .Sub b pos) (ax X.K (aw l6 fa fb)):=by exists PE.imp (oF JGg ha hb) (g9 LX)
def qg (ha:ZE X a (ax X.K fa))(hb:ZE X b (ax X.K fb)):ZE X (.BinOp a .Mult b pos) (ax X.K (aw oM fa fb)):=by exists PE.imp (oF JGi ha hb) (g9 L0)
def i8 (ha:ZE X a (ax X.K fa))(hb:ZE X b (ax X.K fb)):ZE X (.BinOp a .FloorDiv b pos) (ax X.K (aw iP fa fb)):=by exists PE.imp (oF JCq ha hb) (g9 L9)
def cI (ha:ZE X a (ax X.K fa))(hb:ZE X b (ax X.K fb)):ZE X (.BinOp a .Mod b pos) (ax X.K (aw bU fa fb)):=by exists PE.imp (oF JGj ha hb) (g9 L1)
def wZ (ha:ZE X a (ax X.K fa))(hb:ZE X b (ax X.K fb)):ZE X (.BinOp a .Pow b pos) (ax X.K (aw j8 fa fb)):=by exists PE.imp (oF JGh ha hb) (g9 LY)
def Lr (ha:ZE X a (ax X.K fa))(hb:ZE X b (ax X.K fb)):ZE X (.BinOp a .BitOr b pos) (ax X.K (aw (JV (!HS.bt X.w)) fa fb)):=by exists PE.imp (oF JBw ha hb) (g9 N2)
def w4 (ha:ZE X a (ax X.K fa)):ZE X (.UnaryOp .USub a pos) (ax X.K (uS vJ fa)):=by exists R.w4 ha
def AW (ha:ZE X a (ax X.K fa)):ZE X (.UnaryOp .Not a pos) (ax X.K (pW fa)):=by exists PE.imp (Iy ha) JFc
def NS (hu:X.A.units+64<cLine)(ha:ZE X a (ax X.K fa))(hb:ZE X b (ax X.K fb)):ZE X (.Compare a [.Eq] [b] pos) (ax X.K (aw (jg false) fa fb)):=by exists PE.imp (rE (vE hu) ha hb (fm _)) (g9 Et)
def NR (hu:X.A.units+64<cLine)(ha:ZE X a (ax X.K fa))(hb:ZE X b (ax X.K fb)):ZE X (.Compare a [.NotEq] [b] pos) (ax X.K (aw (jg true) fa fb)):=by exists PE.imp (rE (vD hu) ha hb (fm _)) (g9 Et)
def Gd {rest:Tj}(ha:ZE X a (ax X.K fa))(hb:ZE X (.BoolOp .And (b::rest) pos) (ax X.K fb)):ZE X (.BoolOp .And (a::b::rest) pos) (ax X.K (B6 fa fb)):=by exists PE.imp (JGf ha hb) JFp
def NQ {rest:Tj}(ha:ZE X a (ax X.K fa))(hb:ZE X (.BoolOp .Or (b::rest) pos) (ax X.K fb)):ZE X (.BoolOp .Or (a::b::rest) pos) (ax X.K (MY fa fb)):=by exists PE.imp (Ly ha hb) K4
def AV {op}(ha:ZE X a (ax X.K fa)):ZE X (.BoolOp op [a] pos) (ax X.K fa):=by exists Ix ha
def ao:ZA X [] (gr X.K aj):=by exists PA.imp Bj Az
def ah (ha:ZE X e (ax X.K fa))(hr:ZA X es (gr X.K ga))(hs:mQ e es X:=by exact aB rfl):ZA X (e::es) (gr X.K (af fa ga)):=by exists PA.imp (xj ha hr hs) JCz
def cw {x1}(h:ZA X es (gr X.K ga)):ZE X (.Tuple es x1 pos) (ax X.K (bM ga)):=by exists PE.imp (Iv h) JF6
def i7 (h:ZA X es (gr X.K ga)):ZE X (.List es pos) (ax X.K (dN ga)):=by exists PE.imp (Iz h) JFd
def bx (ha:ZE X a (ax X.K fa)):ZE X a (ax X.K (bA fa)):=by exists PE.imp (vC ha) F3
def bf (ha:ZE X a (ax X.K fa))(hb:ZE X b (ax X.K fb))(hs:xW b:=by intro _ _;rfl):ZE X (.Subscript a b pos) (ax X.K (aw bg fa fb)):=by exists PE.imp (Lz Jd ha hb hs) (g9 N5)
def yt:ZO X none (tD X.K jy):=by exists PO.imp JC9 JA8
def tH (ha:ZE X a (ax X.K fa)):ZO X (some a) (tD X.K (i9 fa)):=by exists R.tH ha
def Lm {lo hi:QI AU}{fl fh:FO}(ha:ZE X a (ax X.K fa))(hl:ZO X lo (tD X.K fl))(hh:ZO X hi (tD X.K fh)):ZE X (.Subscript a (.Slice lo hi none p2) pos) (ax X.K (Ez fa fl fh)):=by exists PE.imp (oE Ai ha hl hh) JGa
def HY {lo hi:QI AU}{fl fh:FO}(ha:ZE X a (ax X.K fa))(hl:ZO X lo (tD X.K fl))(hh:ZO X hi (tD X.K fh)):ZE X (.Subscript a (.Slice lo hi none p2) pos) (ax X.K (GA fa fl fh)):=by exists PE.imp (oE Ai ha hl hh) K3
def ot (hg:Gl X "len")(hm:X.mg "len" = none)(ha:ZA X (e::es) (gr X.K ga))(he:mQ e es X:=by exact aB rfl)(hpl:(backTo pos (starEach es X.env)).any (·.1)=false:=by exact aN rfl) :
  ZE X (.Call (.Name "len" p) (e::es) [] pos) (ax X.K (eA jd ga)):=by
 exists PE.imp (lE sA hg hm PySem.boot_len ha (he:=he) (hpl:=hpl)) (ju L3)
def Ga (hc:X.calm=true)(hg:Gl X "set")(hm:X.mg "set" = none)(ha:ZA X (e::es) (gr X.K ga))(he:mQ e es X:=by exact aB rfl)(hpl:(backTo pos (starEach es X.env)).any (·.1)=false:=by exact aN rfl) :
  ZE X (.Call (.Name "set" p) (e::es) [] pos) (ax X.K (eA (vp (!HS.bt X.w)) ga)):=by
 exists PE.imp (eG (zi hc) hg hm ∅ ha (he:=he) (hpl:=hpl)) (ju Jl)
def JAu (hc:X.calm=true)(hg:Gl X "sorted")(hm:X.mg "sorted" = none)(ha:ZA X (e::es) (gr X.K ga))(he:mQ e es X:=by exact aB rfl)(hpl:(backTo pos (starEach es X.env)).any (·.1)=false:=by exact aN rfl) :
  ZE X (.Call (.Name "sorted" p) (e::es) [] pos) (ax X.K (eA (jP (!HS.bt X.w)) ga)):=by
 exists PE.imp (lE (sw hc) hg hm ∅ ha (he:=he) (hpl:=hpl)) (ju yZ)
def AX (hc:X.calm=true)(hg:Gl X "dict")(hm:X.mg "dict" = none)(ha:ZA X (e::es) (gr X.K ga))(he:mQ e es X:=by exact aB rfl)(hpl:(backTo pos (starEach es X.env)).any (·.1)=false:=by exact aN rfl) :
  ZE X (.Call (.Name "dict" p) (e::es) [] pos) (ax X.K (eA o9 ga)):=by
 exists PE.imp (eG (qH hc) hg hm ∅ ha (he:=he) (hpl:=hpl)) (ju Jp)
def iC {d:D}(h:gk X.K X.mg x d)(hg:Gl X x:=by rfl)(hd:(x == ("__debug__" : Str))=false:=by decide):ZE X (.Name x pos) (ax X.K (fK d)):=by exists R.iC h hg hd
def JC1 (hg:Gl X "tuple")(hm:X.mg "tuple" = none)(ha:ZA X (e::es) (gr X.K ga))(he:mQ e es X:=by exact aB rfl)(hpl:(backTo pos (starEach es X.env)).any (·.1)=false:=by exact aN rfl) :
  ZE X (.Call (.Name "tuple" p) (e::es) [] pos) (ax X.K (eA ye ga)):=by
 exists PE.imp (eG kA hg hm ∅ ha (he:=he) (hpl:=hpl)) (ju LV)
def oq (hg:Gl X "list")(hm:X.mg "list" = none)(ha:ZA X (e::es) (gr X.K ga))(he:mQ e es X:=by exact aB rfl)(hpl:(backTo pos (starEach es X.env)).any (·.1)=false:=by exact aN rfl) :
  ZE X (.Call (.Name "list" p) (e::es) [] pos) (ax X.K (eA eC ga)):=by
 exists PE.imp (eG sx hg hm ∅ ha (he:=he) (hpl:=hpl)) (ju Jm)
def wJ (ha:ZE X a (ax X.K fa))(he:∀whole,isTrue a X.env whole=(do let v ←whole;standAt a.pos;holding [v] (truthy v)):=by intro _;rfl):ZT X a (gX X.K (oX fa)):=by exists PT.imp (JAf ha he) JF8
def NF (ha:ZE X a (ax X.K fa))(hb:ZE X b (ax X.K fb)):ZT X (.Compare a [.Lt] [b] pos) (gX X.K (fB (aw MN fa fb))):=by exists R.mN LB N3 ha hb (fm _)
def Kz (ha:ZE X a (ax X.K fa))(hb:ZE X b (ax X.K fb)):ZT X (.Compare a [.LtE] [b] pos) (gX X.K (fB (aw LN fa fb))):=by exists R.mN LC N4 ha hb (fm _)
def NG (ha:ZE X a (ax X.K fa))(hb:ZE X b (ax X.K fb)):ZT X (.Compare a [.Gt] [b] pos) (gX X.K (fB (aw MV fa fb))):=by exists R.mN LD N6 ha hb (fm _)
def nY (hu:X.A.units+64<cLine)(ha:ZE X a (ax X.K fa))(hb:ZE X b (ax X.K fb)):ZT X (.Compare a [.Eq] [b] pos) (gX X.K (fB (aw (jg false) fa fb))):=by exists R.mN (vE hu) Et ha hb (fm _)
def Db (hu:X.A.units+64<cLine)(ha:ZE X a (ax X.K fa))(hb:ZE X b (ax X.K fb)):ZT X (.Compare a [.NotEq] [b] pos) (gX X.K (fB (aw (jg true) fa fb))):=by exists R.mN (vD hu) Et ha hb (fm _)
def KB (hu:X.A.units+64<cLine)(ha:ZE X a (ax X.K fa))(hb:ZE X b (ax X.K fb))(hm:behindInMarks .In b=false:=by rfl):ZT X (.Compare a [.In] [b] pos) (gX X.K (fB (aw (Em false) fa fb))):=by exists R.mN (yC.or (yD hu)) L6 ha hb hm
def wK {j}(ha:ZE X a (ax X.K fa)):ZT X (.Compare a [.Is] [.Constant .none j p] pos) (gX X.K (fB (uS (yR false .non) fa))):=by exists R.KA (.inl {rfl,rfl}) JBx ha vB (fm _)
def zV {j}(ha:ZE X a (ax X.K fa)):ZT X (.Compare a [.IsNot] [.Constant .none j p] pos) (gX X.K (fB (uS (yR true .non) fa))):=by exists R.KA (.inl {rfl,rfl}) tW ha vB (fm _)
variable {ta tb:FT}{rest:Tj}
def p0 (ha:ZT X a (gX X.K ta))(hb:ZW X (.BoolOp .And (b::rest) pos) (gX X.K tb)):ZW X (.BoolOp .And (a::b::rest) pos) (gX X.K (g6 ta tb)):=by exists PW.imp (JGw ha hb) JDx
def nR (ha:ZT X a (gX X.K ta)):ZW X (.BoolOp .And [a] pos) (gX X.K ta):=by exists JC3 ha
def Ky (h:ZW X a (gX X.K ta)):ZT X a (gX X.K ta):=by exists h.pt
def Ic {c:AU}(hc:ZT X c (gX X.K ta))(ha:ZE X a (ax X.K fa))(hb:ZE X b (ax X.K fb)):ZE X (.IfExp c a b pos) (ax X.K (GB ta fa fb)):=by exists PE.imp (JBr hc ha hb) K7
variable {st:Ad}{sts aa bb:Tk}{sa sb:FS}{c tg iter:AU}
def bX:zn X [] (eB X.K aZ):=by exists nB.imp JC6 JD0
def am (h1:ZS X st (eB X.K sa))(h2:zn X sts (eB X.K sb)):zn X (st::sts) (eB X.K (az sa sb)):=by exists nB.imp (JAg h1 h2) JGb
def aD (h1:ZS X st (eB X.K sa)):zn X [st] (eB X.K sa):=by exists JC5 h1
def iB:ZS X st (eB X.K kK):=by exists R.iB
def JDv:ZS X (.Break pos) (eB X.K rj):=by exists PS.imp JAi JAp
def du (he:ZE X e (ax X.K fa))(hs:swapsWith e none pos.line X.env=pure false:=by rfl):ZS X (.Expr e pos) (eB X.K (bE fa)):=by exists PS.imp (JC7 he hs) JD5
def bi (he:ZE X e (ax X.K fa)):ZS X (.Return (some e) pos) (eB X.K (bT fa)):=by exists PS.imp (JG0 he) JFa
def d9 (hc:ZT X c (gX X.K ta))(ha:zn X aa (eB X.K sa))(hb:zn X bb (eB X.K sb)):ZS X (.If c aa bb pos) (eB X.K (gW ta sa sb)):=by exists PS.imp (Lv hc ha hb) JFe
def aQ (i:Nat){pos':Pos}(hN:X.N.Nodup)(he:ZE X e (ax X.K fa))(hi:X.N[i]?=some x:=by rfl)(hx:E7 X.env.scope x:=by first|exact Or.inl rfl|exact Or.inr rfl)(hs:swapsWith e (some (.Name x pos')) pos.line X.env=pure false:=by rfl)(hf:X.fn x=true\/X.env.scope.names.lookup x=some .local:=by first|exact .inl rfl|exact .inr rfl) :
  ZS X (.Assign [.Name x pos'] e pos) (eB X.K (aI i fa)):=by
 exists PS.imp (JGz hN hi hx he hs hf) Aw
variable {g:FG}{gs:GO}{fi:FI}
def dM (i:Nat)(hN:X.N.Nodup)(hi:X.N[i]?=some x:=by rfl)(hx:E7 X.env.scope x:=by first|exact Or.inl rfl|exact Or.inr rfl)(hf:X.fn x=true\/X.env.scope.names.lookup x=some .local:=by first|exact .inl rfl|exact .inr rfl):ZG X (.Name x pos) (px X.K (bD i)):=by exists PG.imp (JDc hN hi hx hf) JFi
def mC:Nw X [] (tE X.K cT):=by exists C1.imp JDb JAm
def dj (h1:ZG X e (px X.K g))(h2:Nw X es (tE X.K gs))(hs:(assignEach (e::es) X.env).map (·.2)=assign e X.env::(assignEach es X.env).map (·.2):=by exact uO rfl):Nw X (e::es) (tE X.K (aH g gs)):=by exists C1.imp (JBp h1 h2 hs) yp
def yY {k n:Nat}(hc:X.calm=true)(h:Nw X es (tE X.K gs))(hn:(assignEach es X.env).length=n:=by rfl)(D7:(assignEach es X.env).findIdx? (·.1)=none:=by rfl):ZG X (.Tuple es k pos) (px X.K (nt n gs)):=by exists PG.imp (Iq hc h hn D7) JFh
def N1 (hu : X.A.units + 64 < cLine) (ha : ZE X a (ax X.K fa)) (hb : ZE X b (ax X.K fb)) (hq : ∀ v, assign (.Subscript a b pos) X.env v = (do
      let ov ← holding [v] (eval a X.env)
      let iv ← holding [v, ov] (eval b X.env)
      standAt pos
      holding [v, ov, iv] (setItem ov iv v)
      release [v, ov, iv] []) := by intro _; rfl) : ZG X (.Subscript a b pos) (px X.K (rX fa fb)) := by
  exists PG.imp (Ir ha hb (uR.or JAz (JA0 ∅)) hq) JD4
def e8 (ha:ZE X a (ax X.K fa)):ZI X tg a (AG X.K (bI fa)):=by exists PI.imp (JDa (vC ha)) JD1
def Eo (hg:Gl X "range")(hm:X.mg "range" = none)(ha:ZE X a (ax X.K fa))(hs:starEach [a] X.env=[(false,eval a X.env)]:=by exact aB rfl):ZI X tg (.Call (.Name "range" p) [a] [] pos) (AG X.K (pV fa)):=by exists PI.imp (yx hg hm (ah ha ao hs) hs) JFf
def JF0 (hc:X.calm=true)(hi:ZI X tg iter (rq X.K fi))(hg:ZG X tg (px X.K g))(hb:zn X aa (eB X.K sa))(hp:PassesOwn (model X.prog X.w) X.A X.env X.xe)(hs:∀x,foldedSetIterable iter X.env x=pure x:=by intro _;rfl):ZS X (.For tg iter aa [] pos) (eB X.K (gM fi g sa)):=by exists PS.imp (A5 hp hc hi hg hb hs) wT
def ly (hc:X.calm=true)(hi:ZI X tg iter (AG X.K fi))(hg:ZG X tg (px X.K g))(hb:zn X aa (eB X.K sa))(hp:PassesOwn (model X.prog X.w) X.A X.env X.xe)(hs:∀x,foldedSetIterable iter X.env x=pure x:=by intro _;rfl):ZS X (.For tg iter aa [] pos) (eB X.K (gM fi g sa)):=by exists PS.imp (A5 hp hc hi hg hb hs) JFj
def F1 (he:ZE X e (ax X.K fa))(hg:ZG X tg (px X.K g))(hs:swapsWithSole [tg] e pos.line X.env=pure false:=by rfl)(hw:swappedStores [tg] e X.env=pure none:=by rfl)(h1:(assignEach [tg] X.env).map (·.2)=[assign tg X.env]:=by rfl):ZS X (.Assign [tg] e pos) (eB X.K (yn fa g)):=by exists PS.imp (Ip he hg hs hw h1) JFo
def jF:CN X [] (gX X.K c8):=by exists R.mL.imp JBm JF4
def Gz (h:ZT X c (gX X.K ta)):CN X [c] (gX X.K ta):=by exists JAk h
def gN {ifs:Tj}{scope:Scope}(ix:P4 Nat)(own caps:Tn)(hc:X.calm=true)(n:aG X.env.scope scope own caps)(hi:ZI X tg iter (AG X.K fi))
  (hb:∀cl C s₂ H₂ fp,ZG (aF X scope cl C s₂ H₂ fp (own++caps)) tg (px X.K g)/\CN (aF X scope cl C s₂ H₂ fp (own++caps)) ifs (gX X.K ta)/\ZE (aF X scope cl C s₂ H₂ fp (own++caps)) e (ax X.K fa))
  (CD:ix.map (λi=>X.N[i]?)=caps.map some:=by rfl)
  (hs:∀x,foldedSetIterable iter X.env x=pure x:=by intro _;rfl):ZE X (.ListComp e [{tg,iter,ifs,0}] scope pos) (ax X.K (bS ix own.length fi g ta fa)):=by
 exists R.gN ix own caps hc n hi hb CD hs
def rB {ifs:Tj}{scope:Scope}(ix:P4 Nat)(own caps:Tn)(hc:X.calm=true)(n:aG X.env.scope scope own caps)(hi:ZI X tg iter (rq X.K fi))
  (hb:∀cl C s₂ H₂ fp,ZG (aF X scope cl C s₂ H₂ fp (own++caps)) tg (px X.K g)/\CN (aF X scope cl C s₂ H₂ fp (own++caps)) ifs (gX X.K ta)/\ZE (aF X scope cl C s₂ H₂ fp (own++caps)) e (ax X.K fa))
  (CD:ix.map (λi=>X.N[i]?)=caps.map some:=by rfl)
  (hs:∀x,foldedSetIterable iter X.env x=pure x:=by intro _;rfl):ZE X (.ListComp e [{tg,iter,ifs,0}] scope pos) (ax X.K (bS ix own.length fi g ta fa)):=by
 exists R.rB ix own caps hc n hi hb CD hs
def l9 (i:Nat){py D6:Pos}{ifs:Tj}{scope:Scope}(ix:P4 Nat)(own caps:Tn)(hc:X.calm=true)(n:aG X.env.scope scope own caps)(hN:X.N.Nodup)(hi:ZI X tg iter (AG X.K fi))
  (hb:∀cl C s₂ H₂ fp,ZG (aF X scope cl C s₂ H₂ fp (own++caps)) tg (px X.K g)/\CN (aF X scope cl C s₂ H₂ fp (own++caps)) ifs (gX X.K ta)/\ZE (aF X scope cl C s₂ H₂ fp (own++caps)) e (ax X.K fa))
  (hsw:swapsWith (.ListComp e [{tg,iter,ifs,0}] scope pos) (some (.Name x py)) D6.line X.env=pure true:=by rfl)
  (hy:X.N[i]?=some x:=by rfl) (Hk:E7 X.env.scope x:=by first|exact Or.inl rfl|exact Or.inr rfl)
  (CD:ix.map (λi=>X.N[i]?)=caps.map some:=by rfl)
  (hs:∀x,foldedSetIterable iter X.env x=pure x:=by intro _;rfl) (hf:X.fn x=true\/X.env.scope.names.lookup x=some .local:=by first|exact .inl rfl|exact .inr rfl) :
  ZS X (.Assign [.Name x py] (.ListComp e [{tg,iter,ifs,0}] scope pos) D6) (eB X.K (aI i (bS ix own.length fi g ta fa))):=by
 exists R.l9 i ix own caps hc n hN hi hb hsw hy Hk CD hs hf
end
def okP {P:A9}{w:AF}{K:AP}{mg:Td}{base:AD}{x:Str}{st:Ad}{N ps:Tn}{k:Nat}{b:FS}(d:bY K mg x st ps)(S:aA N ps (ai st))
  (An:∀(f:A3) (Ah:A2) (A:AE) (outer:P4 Env) (s:A1) (H:Hp) (E:XK),bv k (A.deeper (envOfC x (ai st) s.heap.objs.size f Ah))->zn (jf j7 P w K mg base N x (ai st) f Ah A outer s H E).nox (bq st) (eB K b)) :
  bR P w K mg base (k+1) x ps (gm N.length b):=by
 exists R.okP d S An
def aX {X:Cx}{k:Nat}{x:Str}{ps:Tn}{mf:MF}{e:AU}{es:Tj}{ga:FA}{p pos:Pos}{n:Nat}(F:bR X.prog X.w X.K X.mg X.base k x ps mf)(hr:bv k X.A)(ha:ZA X (e::es) (gr X.K ga))(hg:Gl X x:=by rfl)(hn:ps.length=n:=by rfl)
  (Be:(x == ("__debug__" : Str))=false:=by decide) (he:mQ e es X:=by exact aB rfl) (hpl:(backTo pos (starEach es X.env)).any (·.1)=false:=by exact aN rfl) :
  ZE X (.Call (.Name x p) (e::es) [] pos) (ax X.K (aW mf n ga)):=by
 exists R.aX F hr ha hg hn Be he hpl
def jS {X:Cx}{k:Nat}{x:Str}{ps:Tn}{mf:MF}{e:AU}{es:Tj}{ga:FA}{p pos:Pos}{n:Nat}(F:bR X.prog X.w X.K X.mg X.base k x ps mf)(hr:bv k X.A)(ha:ZA X (e::es) (gr X.K ga))(hg:Gl X x:=by rfl)(hn:ps.length=n:=by rfl)
  (Be:(x == ("__debug__" : Str))=false:=by decide) (he:mQ e es X:=by exact aB rfl) (hpl:(backTo pos (starEach es X.env)).any (·.1)=false:=by exact aN rfl) :
  ZE X (.Call (.Name x p) (e::es) [] pos) (ax X.K (gd mf n ga)):=by
 exists R.jS F hr ha hg hn Be he hpl
def okN {P:A9}{w:AF}{K:AP}{mg:Td}{base:AD}{x:Str}{st:Ad}{N ps:Tn}{k:Nat}{b:FS}(d:bY K mg x st ps)(S:aA N ps (ai st))
  (An:∀(f:A3) (Ah:A2) (A:AE) (outer:P4 Env) (s:A1) (H:Hp) (E:XK),bv k (A.deeper (envOfC x (ai st) s.heap.objs.size f Ah))->zn (jf j7 P w K mg base N x (ai st) f Ah A outer s H E).nox (bq st) (eB K b)) :
  kC P w K mg base (k+1) x ps (yo N.length b):=by
 exists R.okN d S An
def lC {X:Cx}{k:Nat}{x:Str}{ps:Tn}{mf:MC}{e:AU}{es:Tj}{ga:FA}{p pos:Pos}{n:Nat}(F:kC X.prog X.w X.K X.mg X.base k x ps mf)(hr:bv k X.A)(ha:ZA X (e::es) (gr X.K ga))(hg:Gl X x:=by rfl)(hn:ps.length=n:=by rfl)
  (Be:(x == ("__debug__" : Str))=false:=by decide) (he:mQ e es X:=by exact aB rfl) (hpl:(backTo pos (starEach es X.env)).any (·.1)=false:=by exact aN rfl) :
  ZE X (.Call (.Name x p) (e::es) [] pos) (ax X.K (iO mf n ga)):=by
 exists R.lC F hr ha hg hn Be he hpl
def okW {P:A9}{w:AF}{K:AP}{mg:Td}{base:AD}{x:Str}{st:Ad}{N ps:Tn}{k:Nat}{b:FS}(d:bY K mg x st ps)(S:aA N ps (ai st))
  (An:∀(f:A3) (Ah:A2) (A:AE) (outer:P4 Env) (s:A1) (H:Hp) (E:XK),bv k (A.deeper (envOfC x (ai st) s.heap.objs.size f Ah))->zn (jf j7 P w K mg base N x (ai st) f Ah A outer s H E).nox (bq st) (eB K b)) :
  m6 P w K mg base (k+1) x ps (md N.length b):=by
 exists R.okW d S An
def Gg {P:A9}{w:AF}{K:AP}{mg:Td}{base:AD}{nm qual:Str}{C:A3}{st:Ad}{N ps:Tn}{k:Nat}{b:FS}(d:iZ K C nm qual st ps)(S:aA N ps (ai st))
  (An:∀(f:A3) (Ah:A2) (A:AE) (outer:P4 Env) (s:A1) (H:Hp) (E:XK),bv k (A.deeper (envOfC qual (ai st) s.heap.objs.size f Ah))->zn (jf j7 P w K mg base N qual (ai st) f Ah A outer s H E).nox (bq st) (eB K b)) :
  dG P w K mg base (k+1) nm C ps (md N.length b):=by
 exists R.Gg d S An
def gw {X:Cx}{k:Nat}{x:Str}{ps:Tn}{mf:MW}{e:AU}{es:Tj}{ga:FA}{p pos:Pos}{n:Nat}(F:m6 X.prog X.w X.K X.mg X.base k x ps mf)(hr:bv k X.A)(ha:ZA X (e::es) (gr X.K ga))(hg:Gl X x:=by rfl)(hn:ps.length=n:=by rfl)
  (Be:(x == ("__debug__" : Str))=false:=by decide) (he:mQ e es X:=by exact aB rfl) (hpl:(backTo pos (starEach es X.env)).any (·.1)=false:=by exact aN rfl) :
  ZE X (.Call (.Name x p) (e::es) [] pos) (ax X.K (cm mf n ga)):=by
 exists R.gw F hr ha hg hn Be he hpl
def kL {X:Cx}{k:Nat}{c nm:Str}{C:A3}{ps:Tn}{mf:MW}{o e:AU}{es:Tj}{fo:FE}{ga:FA}{apos pos:Pos}{n:Nat}{pl:Sem A7}(N:lW X.K X.mg c C)(F:dG X.prog X.w X.K X.mg X.base k nm C ps mf)(hr:bv k X.A)(ho:ZE X o (ax X.K fo))(ha:ZA X (e::es) (gr X.K ga))(hn:ps.length=n:=by rfl)
  (he:mQ e es X:=by exact aB rfl) (hpl:(backTo pos (starEach es X.env)).any (·.1)=false:=by exact aN rfl)
  (ht:eval (.Call (.Attribute o nm apos) (e::es) [] pos) X.env=(do
   let ov ←eval o X.env
   standAt apos.atName
   let (mth,first) ←holding [ov] (getMethod ov nm pl)
   callWith pos mth first (backTo pos (starEach (e::es) X.env)) (backToKw pos (keywordEach [] X.env))):=by rfl) :
  ZE X (.Call (.Attribute o nm apos) (e::es) [] pos) (ax X.K (dC c nm mf n fo ga)):=by
 exists R.kL N F hr ho ha hn he hpl ht
def jR {X:Cx}{k:Nat}{c nm:Str}{C:A3}{ps:Tn}{mf:MW}{o:AU}{fo:FE}{apos pos:Pos}{n:Nat}{pl:Sem A7}(N:lW X.K X.mg c C)(F:dG X.prog X.w X.K X.mg X.base k nm C ps mf)(hr:bv k X.A)(ho:ZE X o (ax X.K fo))(hn:ps.length=n:=by rfl)
  (ht:eval (.Call (.Attribute o nm apos) [] [] pos) X.env=(do
   let ov ←eval o X.env
   standAt apos.atName
   let (mth,first) ←holding [ov] (getMethod ov nm pl)
   callWith pos mth first (backTo pos (starEach [] X.env)) (backToKw pos (keywordEach [] X.env))):=by rfl) :
  ZE X (.Call (.Attribute o nm apos) [] [] pos) (ax X.K (dC c nm mf n fo aj)):=by
 exists R.jR N F hr ho hn ht
def nG {X:Cx}{k:Nat}{c:Str}{C:A3}{ps:Tn}{mf:MW}{e:AU}{es:Tj}{ga:FA}{p pos:Pos}{n:Nat}(N:lW X.K X.mg c C)(hk:PySem.W.makesIn X.K C=true)(hp:PySem.W.keepIn X.K (.ref C)=true)(F:dG X.prog X.w X.K X.mg X.base k "__init__" C ps mf)(hr:bv (k+1) X.A)(ha:ZA X (e::es) (gr X.K ga))(hg:Gl X c:=by rfl)(hn:ps.length=n:=by rfl)
  (Be:(c == ("__debug__" : Str))=false:=by decide) (he:mQ e es X:=by exact aB rfl) (hpl:(backTo pos (starEach es X.env)).any (·.1)=false:=by exact aN rfl):ZE X (.Call (.Name c p) (e::es) [] pos) (ax X.K (jG c mf n ga)):=by
 exists R.nG N hk hp F hr ha hg hn Be he hpl
def w5 {X:Cx}{es:Tj}{ga:FA}{p pos:Pos}(hc:X.calm=true)(hg:Gl X "dict")(hm:X.mg "dict" = none)(ha:ZA X (e::es) (gr X.K ga))(he:mQ e es X:=by exact aB rfl)(hpl:(backTo pos (starEach es X.env)).any (·.1)=false:=by exact aN rfl) :
  ZE X (.Call (.Name "dict" p) (e::es) [] pos) (ax X.K (eA ie ga)):=by
 exists PE.imp (eG (qH hc) hg hm ∅ ha (he:=he) (hpl:=hpl)) (ju Ev)
def lB {X:Cx}{c f:Str}{C:A3}{o:AU}{fo:FE}(N:lW X.K X.mg c C)(hf:eP X.K C f)(ho:ZE X o (ax X.K fo))(hb:attributeBase o f X.env (eval o X.env)=eval o X.env:=by rfl):ZE X (.Attribute o f pos) (ax X.K (dD c f fo)):=by exists PE.imp (JGe ho hb) (JFk N hf)
def Ar {X:Cx}{c f:Str}{C:A3}{o e:AU}{fo fv:FE}{pos pos':Pos}(N:lW X.K X.mg c C)(hf:eP X.K C f)(ho:ZE X o (ax X.K fo))(hv:ZE X e (ax X.K fv))(hs:swapsWith e (some (.Attribute o f pos')) pos.line X.env=pure false:=by rfl):ZS X (.Assign [.Attribute o f pos'] e pos) (eB X.K (lz c f fo fv)):=by exists PS.imp (Io ho hv hs) (JDy N hf)
def F9 {X:Cx}{a:AU}{fa:FE}{p2 pos:Pos}{lo hi:QI AU}{fl fh:FO}(ha:ZE X a (ax X.K fa))(hl:ZO X lo (tD X.K fl))(hh:ZO X hi (tD X.K fh)):ZE X (.Subscript a (.Slice lo hi none p2) pos) (ax X.K (B5 fa fl fh)):=by exists PE.imp (oE JFx ha hl hh) JF9
def Gc {X:Cx}{a b:AU}{fa fb:FE}(ha:ZE X a (ax X.K fa))(hb:ZE X b (ax X.K fb))(hs:uQ b:=by intro _ _;rfl):ZE X (.Subscript a b pos) (ax X.K (aw Gp fa fb)):=by exists PE.imp (tR ha hb hs) (g9 L5)
def JE9 {X:Cx}{es:Tj}{ga:FA}{p pos:Pos}(hg:Gl X "len")(hm:X.mg "len" = none)(ha:ZA X (e::es) (gr X.K ga))(he:mQ e es X:=by exact aB rfl)(hpl:(backTo pos (starEach es X.env)).any (·.1)=false:=by exact aN rfl) :
  ZE X (.Call (.Name "len" p) (e::es) [] pos) (ax X.K (eA yJ ga)):=by
 exists PE.imp (lE sy hg hm PySem.boot_len ha (he:=he) (hpl:=hpl)) (ju Jn)
def JGt {X:Cx}{e o:AU}{fa fb:FE}{apos Ag:Pos}(ho:ZE X o (ax X.K fa))(hb:ZE X e (ax X.K fb))(BN:attributeBase o "join" X.env (eval o X.env)=eval o X.env:=by rfl)
  (Ec:((backTo Ag (starEach [e] X.env)).all (λx=>!x.1)&&(backToKw Ag (keywordEach [] X.env)).all (λx=>x.1.isSome)
   && decide ([e].length+([]:P4 Keyword).length+(if ([]:P4 Keyword).isEmpty then 0 else 1)<30))=true:=by rfl)
  (BL:(apos.endLine == Ag.line)=true:=by rfl) (hs:starEach [e] X.env=(false,eval e X.env)::starEach [] X.env:=by exact aB rfl) (C7:(backTo Ag (starEach [] X.env)).any (·.1)=false:=by exact aN rfl) :
  ZE X (.Call (.Attribute o "join" apos) [e] [] Ag) (ax X.K (aw qp fa fb)):=by
 exists PE.imp (Ge PySem.F.plainAttrs_str PySem.F.slot_str_join PySem.F.type_str_join JCw ho (xj hb Bj hs) BN Ec BL hs C7) (JFn Jo)
def qh {X:Cx}{a b:AU}{fa fb:FE}(hu:X.A.units+64<cLine)(ha:ZE X a (ax X.K fa))(hb:ZE X b (ax X.K fb))(hs:E6 b:=by intro _ _;rfl):ZE X (.Subscript a b pos) (ax X.K (je fa fb)):=by exists PE.imp (xh ∅ ha hb hs) JFm
def JGs {X:Cx}{es:Tj}{ga:FA}{p pos:Pos}(hg:Gl X "tuple")(hm:X.mg "tuple" = none)(ha:ZA X (e::es) (gr X.K ga))(he:mQ e es X:=by exact aB rfl)(hpl:(backTo pos (starEach es X.env)).any (·.1)=false:=by exact aN rfl):ZE X (.Call (.Name "tuple" p) (e::es) [] pos) (ax X.K (eA BH ga)):=by exists PE.imp (eG kA hg hm ∅ ha (he:=he) (hpl:=hpl)) (ju L4)
def JFq {X:Cx}{o e f:AU}{fa fb fc:FE}{apos Ag:Pos}(hu:X.A.units+64<cLine)(ho:ZE X o (ax X.K fa))(he:ZE X e (ax X.K fb))(hf:ZE X f (ax X.K fc))(m:M2 X o "setdefault" apos e f Ag:=by exact{rfl,rfl,rfl,rfl}) :
  ZE X (.Call (.Attribute o "setdefault" apos) [e,f] [] Ag) (ax X.K (oY fa fb fc)):=by
 exists PE.imp (xg ∅ ho he hf m) JDz
def Lq {X:Cx}:ZE X (.Dict [] [] pos) (ax X.K EA):=by exists PE.imp JBs JFl
def Ll {X:Cx}{a b:AU}{fa fb:FE}(hu:X.A.units+64<cLine)(ha:ZE X a (ax X.K fa))(hb:ZE X b (ax X.K fb))(hs:E6 b:=by intro _ _;rfl):ZE X (.Subscript a b pos) (ax X.K (B4 fa fb)):=by exists PE.imp (xh ∅ ha hb hs) JF7
def yr {X:Cx}{es:Tj}{ga:FA}{p pos:Pos}(hc:X.calm=true)(hg:Gl X "sorted")(hm:X.mg "sorted" = none)(ha:ZA X (e::es) (gr X.K ga))(he:mQ e es X:=by exact aB rfl)(hpl:(backTo pos (starEach es X.env)).any (·.1)=false:=by exact aN rfl) :
  ZE X (.Call (.Name "sorted" p) (e::es) [] pos) (ax X.K (eA qd ga)):=by
 exists PE.imp (lE (su hc) hg hm ∅ ha (he:=he) (hpl:=hpl)) (ju JEw)
def JEu {X:Cx}{elts:Tj}{x1}{pt apos Ag:Pos}{o:AU}{fa:FE}(ho:ZE X o (ax X.K fa))(BN:attributeBase o "items" X.env (eval o X.env)=eval o X.env:=by rfl)(BL:(apos.endLine == Ag.line)=true:=by rfl):ZI X (.Tuple elts x1 pt) (.Call (.Attribute o "items" apos) [] [] Ag) (rq X.K (Ey fa)):=by exists PI.imp (JBo (vC ho) BN BL) JFg
def JGu {X:Cx}{fo f:FE}(h:ZE X e (ax X.K f)):ZE X e (ax X.K (qB fo f)):=by exists PE.imp (JDf h) JD3
def LQ {X:Cx}{elts:Tj}{x1}{pt apos Ag:Pos}{o:AU}{fa:FE}(ho:ZE X o (ax X.K fa))(BN:attributeBase o "items" X.env (eval o X.env)=eval o X.env:=by rfl)(BL:(apos.endLine == Ag.line)=true:=by rfl):ZI X (.Tuple elts x1 pt) (.Call (.Attribute o "items" apos) [] [] Ag) (rq X.K (mX fa)):=by exists PI.imp (yy ho BN BL) JD2
def Lp {X:Cx}{a b:AU}{fa fb:FE}(hu:X.A.units+65<cLine)(ha:ZE X a (ax X.K fa))(hb:ZE X b (ax X.K fb)):ZE X (.Compare a [.Eq] [b] pos) (ax X.K (aw GG fa fb)):=by exists PE.imp (rE (JGl hu) ha hb (fm _)) (g9 L8)
def JC2 {X:Cx}{es:Tj}{ga:FA}{p pos:Pos}(hu:X.A.units+64<cLine)(hc:X.calm=true)(hg:Gl X "dict")(hm:X.mg "dict" = none)(ha:ZA X (e::es) (gr X.K ga))(he:mQ e es X:=by exact aB rfl)(hpl:(backTo pos (starEach es X.env)).any (·.1)=false:=by exact aN rfl) :
  ZE X (.Call (.Name "dict" p) (e::es) [] pos) (ax X.K (eA qF ga)):=by
 exists PE.imp (eG (wj hu hc) hg hm ∅ ha (he:=he) (hpl:=hpl)) (ju JEx)
def Ln {X:Cx}{o e f:AU}{fa fb fc:FE}{apos Ag:Pos}(hu:X.A.units+64<cLine)(ho:ZE X o (ax X.K fa))(he:ZE X e (ax X.K fb))(hf:ZE X f (ax X.K fc))(m:M2 X o "setdefault" apos e f Ag:=by exact{rfl,rfl,rfl,rfl}) :
  ZE X (.Call (.Attribute o "setdefault" apos) [e,f] [] Ag) (ax X.K (y4 fa fb fc)):=by
 exists PE.imp (xg ∅ ho he hf m) JGc
def Lu {X:Cx}{a:AU}{fa:FE}(ha:ZE X a (ax X.K fa)):ZE X a (ax X.K (JY fa)):=by exists PE.imp ha K8
def wL {X:Cx}{a b:AU}{fa fb:FE}(hu:X.A.units+64<cLine)(ha:ZE X a (ax X.K fa))(hb:ZE X b (ax X.K fb)):ZT X (.Compare a [.Eq] [b] pos) (gX X.K (fB (aw (jJ false) fa fb))):=by exists R.mN (vE hu) Gw ha hb (fm _)
def sS {X:Cx}{a b:AU}{fa fb:FE}(hu:X.A.units+64<cLine)(ha:ZE X a (ax X.K fa))(hb:ZE X b (ax X.K fb)):ZT X (.Compare a [.NotEq] [b] pos) (gX X.K (fB (aw (jJ true) fa fb))):=by exists R.mN (vD hu) Gw ha hb (fm _)
section
variable {X:Cx}{e o:AU}{es:Tj}{fa:FE}{ga:FA}{apos Ag:Pos}
def lD (ho:ZE X o (ax X.K fa))(ha:ZA X (e::es) (gr X.K ga))(BN:attributeBase o "append" X.env (eval o X.env)=eval o X.env:=by rfl)
  (Ec:((backTo Ag (starEach (e::es) X.env)).all (λx=>!x.1)&&(backToKw Ag (keywordEach [] X.env)).all (λx=>x.1.isSome)
   && decide ((e::es).length+([]:P4 Keyword).length+(if ([]:P4 Keyword).isEmpty then 0 else 1)<30))=true:=by rfl)
  (BL:(apos.endLine == Ag.line)=true:=by rfl) (hs:mQ e es X:=by exact aB rfl) (C7:(backTo Ag (starEach es X.env)).any (·.1)=false:=by exact aN rfl) :
  ZE X (.Call (.Attribute o "append" apos) (e::es) [] Ag) (ax X.K (qA gg fa ga)):=by
 exists PE.imp (Ge PySem.F.plainAttrs_list PySem.F.slot_list_append PySem.F.type_list_append yG ho ha BN Ec BL hs C7) (K5 Ma)
end
def Jr {P:A9}{w:AF}{K:AP}{mg:Td}{base:AD}{x qual:Str}{st:Ad}{f:A3}{fd:FuncData}{N ps:Tn}{k:Nat}{b:FS}(F:nQ K x qual st f fd)(S:aA N ps (ai st))
  (An:∀(Ah:A2) (A:AE) (outer:P4 Env) (s:A1) (H:Hp) (E:XK),bv k (A.deeper (envOfC qual (ai st) s.heap.objs.size f Ah))->zn (jf j7 P w K mg base N qual (ai st) f Ah A outer s H E).nox (bq st) (eB K b)) :
  b9 P w K mg base j7 (k+1) f fd ps (zt K ps.length (gm N.length b)):=by
 exists nQ.okP F S An
def Qh {P:P4 A2->Prop}(h:P []):∀us:Te,us.length=0->P us:=λus e=>by rw[zcm.mp e];exact h
theorem J3 {P:P4 A2->Prop}{n:Nat}(h:∀a us,us.length=n->P (a::us)):∀us:Te,us.length=n+1->P us:=λus e=>by
 cases us with
 |nil=>cases e
 |cons a us=>exact h a us (Nat.succ.inj e)
def Fe {P:P4 A2->Prop}(h:∀a,P [a]):∀us:Te,us.length=1->P us:=J3 λa=>Qh (P:=λus=>P (a::us)) (h a)
def ww {P:P4 A2->Prop}(h:∀a b,P [a,b]):∀us:Te,us.length=2->P us:=J3 λa=>Fe (P:=λus=>P (a::us)) (h a)
def JS {P:P4 A2->Prop}(h:∀a b c,P [a,b,c]):∀us:Te,us.length=3->P us:=J3 λa=>ww (P:=λus=>P (a::us)) (h a)
def Pk {P:P4 A2->Prop}(h:∀a b c d,P [a,b,c,d]):∀us:Te,us.length=4->P us:=J3 λa=>JS (P:=λus=>P (a::us)) (h a)
def Pj {P:P4 A2->Prop}(h:∀a b c d e,P [a,b,c,d,e]):∀us:Te,us.length=5->P us:=J3 λa=>Pk (P:=λus=>P (a::us)) (h a)
section
variable {K:AP}{h:AD}{mg:Td}{x:Str}{st:Ad}{ps:Tn}
def FK (K:AP)(x:Str)(st:Ad):Prop:=∃f:A3,PySem.W.nsIn K mainGlobals x=some (some (.ref f))/\∃(oc:A2) (od:QI A3) (kV dc pm:A2) (an:QI A3) (cd ct:A2) (sl:AB (Tg)),
 K.lookup f=some {oc,od,.func (PySem.W.fnOf x x (fR st) (bq st) (ai st) .none kV dc pm an cd ct),sl}/\PySem.W.codeIn K cd x=true/\PySem.W.keepIn K (.ref f)=true
abbrev GP (x:Str)(st:Ad)(ps:Tn):Prop:=∀(kV doc pm:A2) (an:QI A3) (Ah ct:A2) (us:Te),us.length=ps.length->bindArgs (PySem.W.fnOf x x (fR st) (bq st) (ai st) .none kV doc pm an Ah ct) {us,[]}=pure (ps.zip us)
def FK.at_ (a:FK K x st)(X:K.In h)(G:h.Ns mainGlobals mg)(hb:GP x st ps):bY K mg x st ps:=by let⟨f,a,oc,od,kV,dc,pm,an,cd,ct,sl,l,c,k⟩:=a;have F:=v5 l c k;exact{_,_,F,F.binds hb,zb8 X G a}
def GN (K:AP)(C:A3)(nm qual:Str)(st:Ad):Prop:=∃f:A3,PySem.W.findIn K (.ref C) nm=some (some (.ref f))/\PySem.W.isFn K (.ref f)=true/\∃(oc:A2) (od:QI A3) (kV dc pm:A2) (an:QI A3) (cd ct:A2) (sl:AB (Tg)),
 K.lookup f=some {oc,od,.func (PySem.W.fnOf nm qual (fR st) (bq st) (ai st) .none kV dc pm an cd ct),sl}/\PySem.W.codeIn K cd qual=true/\PySem.W.keepIn K (.ref f)=true
def GN.at_ {C:A3}{nm qual:Str}(a:GN K C nm qual st)(hb:∀(kV doc pm:A2) (an:QI A3) (Ah ct:A2) (us:Te),us.length=ps.length->bindArgs (PySem.W.fnOf nm qual (fR st) (bq st) (ai st) .none kV doc pm an Ah ct) {us,[]}=pure (ps.zip us)):iZ K C nm qual st ps:=by let⟨f,a,i,oc,od,kV,dc,pm,an,cd,ct,sl,l,c,k⟩:=a;have F:=v5 l c k;exact{_,_,F,F.binds hb,{a,i,k}}
def FK.law {fa:A3}(a:FK K x st)(X:K.In h)(G:h.Ns mainGlobals mg)(e:mg x=some (.ref fa))(hb:GP x st ps):∃fd,nQ K x x st fa fd/\∀(s:A1) (us:Te),us.length=ps.length->BindsTo s fd {us,[]} (ps.zip us):=by let⟨f,a,oc,od,kV,dc,pm,an,cd,ct,sl,l,c,k⟩:=a;have:=e.symm.trans (zb8 X G a);cases this;exact{_,v5 l c k,λs us hl=>.of_eq (hb _ _ _ _ _ _ us hl)}
end
end HW
namespace HW
open L2
section
variable {O:Lo}{U U1:ac}{x y:R}{d:D}
theorem lO {O:Lo}:ae 0 (some x::O) U=some (x,U):=rfl
def mY {i:Nat}{o:QI R}{O:Lo}:ae (i+1) (o::O) U=ae i O U:=by simp[ae]
theorem Jx:fK d O U=some (.v d,U):=rfl
noncomputable def Kl (o:QI (R×ac))(g:R->R->ac->QI (R×ac))(fb:FE)(O:Lo):QI (R×ac):=o.bind λa=>(fb O a.2).bind λb=>g a.1 b.1 b.2
noncomputable def Fz (x:R)(o:QI (R×ac))(g:R->R->ac->QI (R×ac)):QI (R×ac):=o.bind λb=>g x b.1 b.2
theorem ja {g fa fb}:aw g fa fb O U=Kl (fa O U) g fb O:=rfl
theorem fF {g fb}:Kl (some (x,U)) g fb O=Fz x (fb O U) g:=rfl
theorem gf {g}:Fz x (some (y,U)) g=g x y U:=rfl
noncomputable def Kf (o:QI (R×ac))(g:R->ac->QI (R×ac)):QI (R×ac):=o.bind λa=>g a.1 a.2
def Pz {g fa}:uS g fa O U=Kf (fa O U) g:=rfl
def Of {g}:Kf (some (x,U)) g=g x U:=rfl
theorem gR:aj O U=some ([],U):=rfl
noncomputable def zQ (o:QI (R×ac))(fr:FA)(O:Lo):QI (P4 R×ac):=o.bind λa=>(fr O a.2).bind λr=>some (a.1::r.1,r.2)
noncomputable def wC (x:R)(o:QI (P4 R×ac)):QI (P4 R×ac):=o.bind λr=>some (x::r.1,r.2)
theorem cU {fa fr}:af fa fr O U=zQ (fa O U) fr O:=rfl
theorem dF {fr}:zQ (some (x,U)) fr O=wC x (fr O U):=rfl
theorem dE {xs}:wC x (some (xs,U))=some (x::xs,U):=rfl
noncomputable def Kw (o:QI (P4 R×ac))(g:P4 R->ac->QI (R×ac)):QI (R×ac):=o.bind λa=>g a.1 a.2
theorem o5 {g fa}:eA g fa O U=Kw (fa O U) g:=rfl
theorem mF {g xs}:Kw (some (xs,U)) g=g xs U:=rfl
noncomputable def Po (o:QI (R×ac)):QI (A7×ac):=o.bind λa=>match a.1 with|.v (.bl b)=>some (b,a.2)|_=>none
theorem uu {fa}:fB fa O U=Po (fa O U):=rfl
theorem Ch {b}:Po (some (.v (.bl b),U))=some (b,U):=rfl
noncomputable def zI (o:QI (R×ac)):QI (A7×ac):=o.bind λa=>(zF a.1 a.2).bind λb=>some (b,a.2)
def Oh {fa}:oX fa O U=zI (fa O U):=rfl
def M0 {b}:zI (some (.v (.bl b),U))=some (b,U):=rfl
def MZ {xs}:zI (some (.v (.tup xs),U))=some (!xs.isEmpty,U):=rfl
noncomputable def FM (o:QI (A7×ac))(u:FT)(O:Lo):QI (A7×ac):=o.bind λc=>if c.1=true then u O c.2 else some (false,c.2)
def xG {t u}:g6 t u O U=FM (t O U) u O:=rfl
def uo {b u}:FM (some (b,U)) u O=if b=true then u O U else some (false,U):=rfl
noncomputable def zS (o:QI (R×ac))(fb:FE)(O:Lo):QI (R×ac):=o.bind λa=>match a.1 with|.v (.bl c)=>if c=true then fb O a.2 else some (.v (.bl false),a.2)|_=>none
noncomputable def Fy (o:QI (R×ac))(fb:FE)(O:Lo):QI (R×ac):=o.bind λa=>match a.1 with|.v (.bl c)=>if c=true then some (.v (.bl true),a.2) else fb O a.2|_=>none
noncomputable def zN (o:QI (R×ac)):QI (R×ac):=o.bind λa=>match a.1 with|.v (.bl c)=>some (.v (.bl (!c)),a.2)|_=>none
def OS {fa fb}:B6 fa fb O U=zS (fa O U) fb O:=rfl
def No {c fb}:zS (some (.v (.bl c),U)) fb O=if c=true then fb O U else some (.v (.bl false),U):=rfl
def GC {fa fb}:MY fa fb O U=Fy (fa O U) fb O:=rfl
def Op {c fb}:Fy (some (.v (.bl c),U)) fb O=if c=true then some (.v (.bl true),U) else fb O U:=rfl
def Os {fa}:pW fa O U=zN (fa O U):=rfl
def Nb {c}:zN (some (.v (.bl c),U))=some (.v (.bl (!c)),U):=rfl
noncomputable def Kp (o:QI (A7×ac))(fa fb:FE)(O:Lo):QI (R×ac):=o.bind λc=>if c.1=true then fa O c.2 else fb O c.2
def PY {t fa fb}:GB t fa fb O U=Kp (t O U) fa fb O:=rfl
def OC {c fa fb}:Kp (some (c,U)) fa fb O=if c=true then fa O U else fb O U:=rfl
noncomputable def wz (o:QI (P4 R×ac)):QI (R×ac):=o.bind λa=>(vals a.1).bind λds=>if ds.length<=sizeLine then some (.v (.tup ds),a.2) else none
noncomputable def wA (o:QI (P4 R×ac)):QI (R×ac):=o.bind λa=>(vals a.1).bind λds=>if ds.length<=sizeLine then some (.p a.2.length,a.2++[.lst ds]) else none
theorem B7 {fa}:bM fa O U=wz (fa O U):=rfl
def xF {rs ds}(h:vals rs=some ds)(hl:ds.length<=sizeLine):wz (some (rs,U))=some (.v (.tup ds),U):=by simp[wz,h,hl]
theorem B9 {fa}:dN fa O U=wA (fa O U):=rfl
def JEa {rs ds}(h:vals rs=some ds)(hl:ds.length<=sizeLine):wA (some (rs,U))=some (.p U.length,U++[.lst ds]):=by simp[wA,h,hl]
noncomputable def sR (o:QI (R×ac)):QI (R×ac):=o.bind λa=>(CZ a.1 a.2).bind λb=>some (.v b.1,b.2)
theorem xJ {fa}:bA fa O U=sR (fa O U):=rfl
theorem Ce:sR (some (.v d,U))=some (.v d,U):=rfl
def JD {n xs}(h:U[n]?=some (.lst xs)):sR (some (.p n,U))=some (.v (.fl xs),U.set n (.fz xs)):=by simp[sR,CZ,h]
noncomputable def l0 (o:QI (P4 R×ac))(f:MF)(n:Nat):QI (R×ac):=o.bind λa=>(vals a.1).bind λds=>if ds.length=n then (f ds).bind λd=>some (.v d,a.2) else none
theorem xM {f n fa}:aW f n fa O U=l0 (fa O U) f n:=rfl
def JCf {f:MF}{n rs ds}(h:vals rs=some ds)(hl:ds.length=n)(hf:f ds=some d):l0 (some (rs,U)) f n=some (.v d,U):=by simp[l0,h,hl,hf]
theorem ED:aZ O U=some (.nx O U):=rfl
noncomputable def Kj (o:QI nP)(b:FS):QI nP:=o.bind λo=>match o with|.nx O' U'=>b O' U'|o=>some o
theorem mD {a b}:az a b O U=Kj (a O U) b:=rfl
theorem gB {b}:Kj (some (.nx O U)) b=b O U:=rfl
def M8 {b}:Kj (some (.rt x U)) b=some (.rt x U):=rfl
def M7 {b}:Kj (some (.bk O U)) b=some (.bk O U):=rfl
def Mq:rj O U=some (.bk O U):=rfl
noncomputable def zP (o:QI (R×ac))(O:Lo):QI nP:=o.bind λa=>some (.nx O a.2)
theorem xK {f}:bE f O U=zP (f O U) O:=rfl
def Cf:zP (some (x,U)) O=some (.nx O U):=rfl
noncomputable def Fx (o:QI (R×ac)):QI nP:=o.bind λa=>some (.rt a.1 a.2)
theorem mE {f}:bT f O U=Fx (f O U):=rfl
def EC:Fx (some (x,U))=some (.rt x U):=rfl
noncomputable def sQ (o:QI (A7×ac))(a b:FS)(O:Lo):QI nP:=o.bind λc=>if c.1=true then a O c.2 else b O c.2
theorem jH {t a b}:gW t a b O U=sQ (t O U) a b O:=rfl
theorem Jz {a b}:sQ (some (true,U)) a b O=a O U:=rfl
theorem JA {a b}:sQ (some (false,U)) a b O=b O U:=rfl
noncomputable def Fw (o:QI (R×ac))(i:Nat)(O:Lo):QI nP:=o.bind λa=>some (.nx (O.set i (some a.1)) a.2)
theorem fA {i f}:aI i f O U=Fw (f O U) i O:=rfl
theorem lP {i}:Fw (some (x,U)) i O=some (.nx (O.set i (some x)) U):=rfl
noncomputable def FD (o:QI (P4 D×ac))(g:FG)(b:FS)(O:Lo):QI nP:=o.bind λa=>eK g b a.1 O a.2
def o0 {i g b}:gM i g b O U=FD (i O U) g b O:=Eq.trans rfl rfl
def lQ {xs g b}:FD (some (xs,U)) g b O=eK g b xs O U:=Eq.trans rfl rfl
noncomputable def zL (o:QI (R×ac)):QI (P4 D×ac):=o.bind λa=>match a.1 with|.v (.fl xs)=>some (xs,a.2)|.v (.tup xs)=>some (xs,a.2)|_=>none
theorem xI {f}:bI f O U=zL (sR (f O U)):=rfl
def Cb {xs}:zL (some (.v (.fl xs),U))=some (xs,U):=rfl
theorem Ca {xs}:zL (some (.v (.tup xs),U))=some (xs,U):=rfl
noncomputable def Kk (o:QI (R×ac)):QI (P4 D×ac):=o.bind λa=>match a.1 with|.v (.int j)=>if -(2 ^ 62)<=j/\j<2 ^ 62 then some ((List.range j.toNat).map λi=>.int (i:Nat),a.2) else none|_=>none
def Mf {f}:pV f O U=Kk (f O U):=Eq.trans rfl rfl
def sf {j:Int}(h : -(2 ^ 62)<=j/\j<2 ^ 62):Kk (some (.v (.int j),U))=some ((List.range j.toNat).map λi=>.int (i:Nat),U):=by
 show(if -(2 ^ 62)<=j/\j<2 ^ 62 then _ else _)=_
 rw[A8 h]
noncomputable def qZ (o:QI (P4 D×ac))(ix:P4 Nat)(k:Nat)(g:FG)(c:FT)(f:FE)(O:Lo):QI (R×ac):=o.bind λa=>if a.1.length<=sizeLine then
 (bJ g c f a.1 (ca k ix O) a.2).bind λr=>some (.p r.2.length,r.2++[.lst r.1]) else none
theorem EG {ix k i g c f}:bS ix k i g c f O U=qZ (i O U) ix k g c f O:=Eq.trans rfl rfl
def uq {xs:P4 D}{ix k g c f r}(hl:xs.length<=sizeLine)(h:bJ g c f xs (ca k ix O) U=some (r,U1)):qZ (some (xs,U)) ix k g c f O=some (.p U1.length,U1++[.lst r]):=by simp[qZ,h,hl]
def N7:c8 O U=some (true,U):=rfl
noncomputable def Ki (o:QI (R×ac))(fl fh:FO)(O:Lo):QI (R×ac):=o.bind λa=>(fl O a.2).bind λl=>(fh O l.2).bind λh=>l7 a.1 l.1 h.1 h.2
noncomputable def Fs (x:R)(o:QI (QI Int×ac))(fh:FO)(O:Lo):QI (R×ac):=o.bind λl=>(fh O l.2).bind λh=>l7 x l.1 h.1 h.2
noncomputable def Fq (x:R)(l:QI Int)(o:QI (QI Int×ac)):QI (R×ac):=o.bind λh=>l7 x l h.1 h.2
def PC {fa fl fh}:GA fa fl fh O U=Ki (fa O U) fl fh O:=rfl
def Oo {fl fh}:Ki (some (x,U)) fl fh O=Fs x (fl O U) fh O:=rfl
def On {l fh}:Fs x (some (l,U)) fh O=Fq x l (fh O U):=rfl
def Om {l h}:Fq x l (some (h,U))=l7 x l h U:=rfl
def Oj {xs l h}:l7 (.v (.tup xs)) l h U=some (.v (.tup (pd xs l h)),U):=rfl
noncomputable def Pn (o:QI (R×ac)):QI (QI Int×ac):=o.bind λa=>match a.1 with|.v (.int i)=>some (some i,a.2)|_=>none
def PK:jy O U=some (none,U):=rfl
def PJ {f}:i9 f O U=Pn (f O U):=rfl
def Oq {i}:Pn (some (.v (.int i),U))=some (some i,U):=rfl
noncomputable def yf (o:QI (R×ac))(g:R->P4 R->ac->QI (R×ac))(ga:FA)(O:Lo):QI (R×ac):=o.bind λa=>if jC a.1 a.2=true then (ga O a.2).bind λb=>g a.1 b.1 b.2 else none
noncomputable def nW (x:R)(o:QI (P4 R×ac))(g:R->P4 R->ac->QI (R×ac)):QI (R×ac):=o.bind λb=>g x b.1 b.2
theorem GD {g fa ga}:qA g fa ga O U=yf (fa O U) g ga O:=rfl
def Jw {g ga n xs}(h:U[n]?=some (.lst xs)):yf (some (.p n,U)) g ga O=nW (.p n) (ga O U) g:=by simp[yf,jC,h,nW]
theorem Jv {g xs}:nW x (some (xs,U)) g=g x xs U:=rfl
def JG {n xs}(h:U[n]?=some (.lst xs))(hl:xs.length<sizeLine):gg (.p n) [.v d] U=some (.v .non,U.set n (.lst (xs++[d]))):=by simp[gg,h,hl]
variable {i j:Int}{b c:A7}{xs:P4 D}
def Oi:l6 (.v (.int i)) (.v (.int j)) U=some (.v (.int (i-j)),U):=rfl
def PQ:MN (.v (.int i)) (.v (.int j)) U=some (.v (.bl (decide (i<j))),U):=rfl
def PU:LN (.v (.int i)) (.v (.int j)) U=some (.v (.bl (decide (i<=j))),U):=rfl
def PZ:MV (.v (.int i)) (.v (.int j)) U=some (.v (.bl (decide (j<i))),U):=rfl
def oZ (h:0<j):bU (.v (.int i)) (.v (.int j)) U=some (.v (.int (i%j)),U):=by simp[bU,vY,h]
def JF (h:0<j)(h2:j<1073741824):iP (.v (.int i)) (.v (.int j)) U=some (.v (.int (i / j)),U):=by simp[iP,vY,h,h2]
def j3 (h : -(2 ^ 64)<i/\i<2 ^ 64):oM (.v (.int i)) (.v (.int j)) U=some (.v (.int (i*j)),U):=by
 show(if (decide (-(2 ^ 64)<i/\i<2 ^ 64) || decide (-(2 ^ 64)<j/\j<2 ^ 64))=true then _ else _)=_
 rw[A8 (by rw[Bool.or_eq_true];exact .inl (Cn h))]
def v7 (h:0<=j/\j<=1000000/\i.natAbs<2 ^ 64):j8 (.v (.int i)) (.v (.int j)) U=some (.v (.int (i ^ j.toNat)),U):=by simp[j8,vY,h]
def Ot:vJ (.v (.int i)) U=some (.v (.int (-i)),U):=rfl
theorem Js:jg true (.v (.bl b)) (.v (.bl c)) U=some (.v (.bl (!(b == c))),U):=rfl
def v8 (h:kB xs i=some d):bg (.v (.tup xs)) (.v (.int i)) U=some (.v d,U):=by simp[bg,dw,h]
def JD9 {n}(h:U[n]?=some (.lst xs)):ye [.p n] U=some (.v (.tup xs),U):=by simp[ye,dw,h]
theorem Cd {k:Nat}:bD k x O U=some (O.set k (some x),U):=rfl
def sC {Z:Type}{xs:P4 Z}{i:Int}{a:Z}(h0:0<=i)(h:xs[i.toNat]?=some a):kB xs i=some a:=by unfold kB CY;have hl:=(Bv.mp h).1;rw[A8 h0,A8 ∅];simpa using h
noncomputable def gc (o:QI nP):QI D:=o.bind fin
def JE:gc (some (.rt (.v d) U))=some d:=rfl
end
theorem jV {n:Nat}(xs:Th):okDs n (xs.map D.int)=true:=by
 induction xs with
 |nil=>cases n <;> rfl
 |cons x xs ih=>cases n <;> simpa[okDs,dQ] using ih
theorem qD (xs ys:Th):eqDs (xs.map D.int) (ys.map D.int)=decide (xs=ys):=by
 induction xs generalizing ys with
 |nil=>cases ys <;> simp[cp,eu,fO,fP]
 |cons x xs ih=>
  cases ys with
  |nil=>simp[cp,eu,fO,fP]
  |cons y ys=>simp[cp,eu,fO,fP,nN,wa,wb,si,ih ys];rfl
noncomputable def JT (o:QI (Lo×ac))(b:FS):QI nP:=o.bind λa=>b a.1 a.2
theorem ut {O:Lo}{U:ac}{b:FS}:JT (some (O,U)) b=b O U:=rfl
def xq {g:FG}{b:FS}(I:Nat->Lo->ac->Prop){xs:P4 D}{O:Lo}{U:ac}(h0:I 0 O U)
  (hs:∀(i:Nat) x O U,xs[i]?=some x->I i O U->∃O' U',JT (g (.v x) O U) b=some (.nx O' U')/\I (i+1) O' U') :
  ∃O' U',eK g b xs O U=some (.nx O' U')/\I xs.length O' U':=by
 have key:∀(n:Nat) (ys:P4 D) (i:Nat) O U,ys.length=n->xs.drop i=ys->i<=xs.length->I i O U->∃O' U',eK g b ys O U=some (.nx O' U')/\I xs.length O' U':=by
  intro n
  induction n with
  |zero=>
   intro ys i O U hn hd hi h;have:ys=[]:=zcA hn;subst this
   have:i=xs.length:=by
    have:=AI List.length hd;simp at this;omega
   subst this;exact{O,U,rfl,h}
  |succ n ih=>
   intro ys i O U hn hd hi h
   cases ys with
   |nil=>simp at hn
   |cons y ys=>
    have Al:i<xs.length:=by
     have:=AI List.length hd;simp at this;omega
    have hc:=zbl Al;rw[hd] at hc
    injection hc with h1 h2
    let⟨O',U',e0,h'⟩:=hs i y O U (by rw[h1];exact Bl Al) h;let⟨⟨O1,U1⟩,e1,e2⟩:=AY.mp e0;let⟨O2,U2,e3,h3⟩:=ih ys (i+1) O' U' ‹hn› h2.symm Al h';exact{O2,U2,by rwa[eK,e1,e2,BZ];exact e3,h3}
 exact key xs.length xs 0 O U rfl ∅ (DH _) h0
theorem uF {g:FG}{c:FT}{f:FE}{U:ac}(B:Lo->Prop)(p:D->A7)(e:D->D):∀{xs:P4 D} {O:Lo},B O ->
  (∀x∈xs,∀O,B O->∃O1,g (.v x) O U=some (O1,U)/\B O1/\c O1 U=some (p x,U)/\(p x=true->f O1 U=some (.v (e x),U)))->bJ g c f xs O U=some ((xs.filter p).map e,U)
 |[],_,_,_=>rfl
 |x::xs,O,hB,h=>by
  let⟨O1,e1,hB1,e2,e3⟩:=h x (BG) O hB;have ih:=uF B p e (xs:=xs) hB1 λy hy=>h y (BR _ hy);rwa[bJ,e1,BZ,e2]
  cases hp:p x with
  |true=>simp[e3 hp,ih,hp]
  |false=>simp[ih,hp]
section
variable {O:Lo}{U:ac}{d:D}
noncomputable def wD (o:QI (P4 R×ac))(f:MF)(n:Nat):QI (R×ac):=o.bind λa=>(gY a.1 a.2).bind λds=>if ds.length=n then (f ds).bind λd=>if cN d=true then some (.v d,a.2) else none else none
def Mo {f n fa}:gd f n fa O U=wD (fa O U) f n:=rfl
end
section
variable {O:Lo}{U:ac}{x y:R}{d e:D}{n:Nat}{xs ys:P4 D}{i j:Int}{b c:A7}
noncomputable def Nq (o:QI au)(n:Nat)(g:R->P4 R->ac->QI (R×ac))(ga:FA)(O:Lo)(U:ac):QI (R×ac):=match o with|some (.lst _)=>nW (.p n) (ga O U) g|some (.fz _)=>nW (.p n) (ga O U) g|_=>none
theorem Jt {g ga}:yf (some (.p n,U)) g ga O=Nq U[n]? n g ga O U:=by
 cases h:U[n]? with
 |none=>simp[yf,jC,Nq,h]
 |some c=>cases c <;> simp[yf,jC,Nq,nW,h]
def Ju {g ga}:Nq (some (.lst xs)) n g ga O U=nW (.p n) (ga O U) g:=rfl
noncomputable def My (o:QI au)(n:Nat)(d:D)(U:ac):QI (R×ac):=match o with|some (.lst xs)=>if xs.length<sizeLine then some (.v .non,U.set n (.lst (xs++[d]))) else none|_=>none
def Nm:gg (.p n) [.v d] U=My U[n]? n d U:=rfl
def Nn:My (some (.lst xs)) n d U=if xs.length<sizeLine then some (.v .non,U.set n (.lst (xs++[d]))) else none:=rfl
noncomputable def OV (o:QI au):QI (P4 D):=match o with|some (.lst xs)=>some xs|some (.fz xs)=>some xs|_=>none
def Oz:dw (.v (.tup xs)) U=some xs:=rfl
def OB:dw (.v (.fl xs)) U=some xs:=rfl
def OA:dw (.p n) U=OV U[n]?:=rfl
def Jy:OV (some (.lst xs))=some xs:=rfl
noncomputable def Ko (o:QI (P4 D))(i:Int)(U:ac):QI (R×ac):=o.bind λxs=>(kB xs i).bind λd=>some (.v d,U)
noncomputable def FC (o:QI D)(U:ac):QI (R×ac):=o.bind λd=>some (.v d,U)
def PX:bg x (.v (.int i)) U=Ko (dw x U) i U:=rfl
def Oy:Ko (some xs) i U=FC (kB xs i) U:=rfl
def Ox:FC (some d) U=some (.v d,U):=rfl
def ON {a:D}{l:P4 D}:kB (a::l) 0=some a:=sC ∅ rfl
def OM {a b:D}{l:P4 D}:kB (a::b::l) 1=some b:=sC ∅ rfl
def OL {a b c:D}{l:P4 D}:kB (a::b::c::l) 2=some c:=sC ∅ rfl
noncomputable def FB (o:QI (P4 D))(U:ac):QI (R×ac):=o.bind λxs=>some (.v (.int xs.length),U)
def Ow:jd [x] U=FB (dw x U) U:=rfl
def Nc:FB (some xs) U=some (.v (.int xs.length),U):=rfl
noncomputable def Kn (o:QI (P4 D))(U:ac):QI (R×ac):=o.bind λxs=>some (.p U.length,U++[.lst xs])
def PR:eC [x] U=Kn (dw x U) U:=rfl
def Ov:Kn (some xs) U=some (.p U.length,U++[.lst xs]):=rfl
def N8:kq (.v d) U=some d:=rfl
noncomputable def G8 (o p:QI D)(neg:A7)(U:ac):QI (R×ac):=o.bind λa=>p.bind λb=>if (dQ 60 a&&dQ 60 b)=true then some (.v (.bl (if neg then !jh a b else jh a b)),U) else none
def OI:jg b x y U=G8 (kq x U) (kq y U) b U:=rfl
def OJ:G8 (some d) (some e) false U=if (dQ 60 d&&dQ 60 e)=true then some (.v (.bl (jh d e)),U) else none:=rfl
def OH:G8 (some d) (some e) true U=if (dQ 60 d&&dQ 60 e)=true then some (.v (.bl (!jh d e)),U) else none:=rfl
def IP:dQ n (.int i)=true:=by cases n <;> rfl
def LH:dQ n (.bl b)=true:=by cases n <;> rfl
def OT:jh (.int i) (.int j)=(i == j):=rfl
noncomputable def EQ (o:QI au):QI D:=match o with|some (.lst xs)=>some (.fl xs)|some (.fz xs)=>some (.fl xs)|some (.dct A4)=>some (.fd (A4.map (·.1)) (A4.map (·.2)))|some (.fzd A4)=>some (.fd (A4.map (·.1)) (A4.map (·.2)))|_=>none
theorem Mj:gc (some (.rt (.p n) U))=EQ U[n]?:=by
 cases h:U[n]? with
 |none=>simp[gc,fin,CZ,EQ,h]
 |some c=>cases c <;> simp[gc,fin,CZ,EQ,h]
def Ng:EQ (some (.lst xs))=some (.fl xs):=rfl
def Nf:gc (some (.nx O U))=some .non:=rfl
noncomputable def Nr (o:QI au)(n:Nat)(U:ac):QI (R×ac):=match o with|some (.lst xs)=>some (.v (.fl xs),U.set n (.fz xs))|some (.fz xs)=>some (.v (.fl xs),U)|some (.dct A4)=>some (.v (.fd (A4.map (·.1)) (A4.map (·.2))),U.set n (.fzd A4))|some (.fzd A4)=>some (.v (.fd (A4.map (·.1)) (A4.map (·.2))),U)|_=>none
theorem JB:sR (some (.p n,U))=Nr U[n]? n U:=by
 cases h:U[n]? with
 |none=>simp[sR,CZ,Nr,h]
 |some c=>cases c <;> simp[sR,CZ,Nr,h]
theorem JC:Nr (some (.lst xs)) n U=some (.v (.fl xs),U.set n (.fz xs)):=rfl
noncomputable def Kv (o:QI D)(xs:P4 R)(U:ac):QI (P4 D):=o.bind λd=>(gY xs U).bind λds=>some (d::ds)
noncomputable def FJ (d:D)(o:QI (P4 D)):QI (P4 D):=o.bind λds=>some (d::ds)
def Oe:gY [] U=some []:=rfl
def Py {rs}:gY (x::rs) U=Kv (Nu x U) rs U:=rfl
def Od {rs}:Kv (some d) rs U=FJ d (gY rs U):=rfl
def Oc {ds}:FJ d (some ds)=some (d::ds):=rfl
noncomputable def P5 (o:QI au):QI D:=match o with|some (.lst xs)=>some (.fl xs)|some (.fz xs)=>some (.fl xs)|some (.dct A4)=>some (.fd (A4.map (·.1)) (A4.map (·.2)))|some (.fzd A4)=>some (.fd (A4.map (·.1)) (A4.map (·.2)))|_=>none
def OP:Nu (.v d) U=some d:=rfl
def OQ:Nu (.p n) U=P5 U[n]?:=rfl
def OR:P5 (some (.lst xs))=some (.fl xs):=rfl
noncomputable def Kd (o:QI (P4 D))(f:MF)(n:Nat)(U:ac):QI (R×ac):=o.bind λds=>if ds.length=n then (f ds).bind λd=>some (.v d,U) else none
noncomputable def Ke (o:QI D)(U:ac):QI (R×ac):=o.bind λd=>some (.v d,U)
def P3 {rs f n}:l0 (some (rs,U)) f n=Kd (vals rs) f n U:=rfl
def P2 {f:MF}{ds:P4 D}:Kd (some ds) f n U=if ds.length=n then Ke (f ds) U else none:=rfl
def P1:Ke (some d) U=some (.v d,U):=rfl
noncomputable def G7 (d:D)(o:QI (P4 D)):QI (P4 D):=o.bind λds=>some (d::ds)
def Ob:vals []=some []:=rfl
def Oa {rs}:vals (.v d::rs)=G7 d (vals rs):=by unfold G7;cases h:vals rs <;> simp[vals,h]
def N9 {ds}:G7 d (some ds)=some (d::ds):=rfl
noncomputable def Fh (o:QI (P4 D))(f:MF)(n:Nat)(U:ac):QI (R×ac):=o.bind λds=>if ds.length=n then (f ds).bind λd=>if cN d=true then some (.v d,U) else none else none
noncomputable def Fj (o:QI D)(U:ac):QI (R×ac):=o.bind λd=>if cN d=true then some (.v d,U) else none
def PH {rs f n}:wD (some (rs,U)) f n=Fh (gY rs U) f n U:=rfl
def PF {f:MF}{ds:P4 D}:Fh (some ds) f n U=if ds.length=n then Fj (f ds) U else none:=rfl
def PD:Fj (some d) U=if cN d=true then some (.v d,U) else none:=rfl
noncomputable def Kh (o:QI (P4 D))(U:ac):QI (R×ac):=o.bind λds=>if ds.length<=sizeLine then some (.v (.tup ds),U) else none
def PB {rs}:wz (some (rs,U))=Kh (vals rs) U:=rfl
def Og {ds}:Kh (some ds) U=if ds.length<=sizeLine then some (.v (.tup ds),U) else none:=rfl
noncomputable def Km (o:QI (P4 D))(U:ac):QI (R×ac):=o.bind λds=>if ds.length<=sizeLine then some (.p U.length,U++[.lst ds]) else none
def PP {rs}:wA (some (rs,U))=Km (vals rs) U:=rfl
def Ou {ds}:Km (some ds) U=if ds.length<=sizeLine then some (.p U.length,U++[.lst ds]) else none:=rfl
noncomputable def FH (o:QI (R×ac))(g:FG)(O:Lo):QI nP:=o.bind λa=>(g a.1 O a.2).bind λb=>some (.nx b.1 b.2)
noncomputable def zR (o:QI (Lo×ac)):QI nP:=o.bind λb=>some (.nx b.1 b.2)
def OO {f g}:yn f g O U=FH (f O U) g O:=rfl
def Nl {g}:FH (some (x,U)) g O=zR (g x O U):=rfl
def Nk:zR (some (O,U))=some (.nx O U):=rfl
def OD {g}:nt n g (.v (.tup xs)) O U=if xs.length=n then g (xs.map .v) O U else none:=rfl
def OF:cT [] O U=some (O,U):=rfl
noncomputable def Kq (o:QI (Lo×ac))(r:GO)(ds:P4 R):QI (Lo×ac):=o.bind λa=>r ds a.1 a.2
def P0 {g r ds}:aH g r (x::ds) O U=Kq (g x O U) r ds:=rfl
def OE {r ds}:Kq (some (O,U)) r ds=r ds O U:=rfl
def Ol {l h}:l7 (.v (.fl xs)) l h U=some (.p U.length,U++[.lst (pd xs l h)]):=rfl
def Ms:ez (.v (.int i)) (.v (.int j)) U=some (.v (.int (i+j)),U):=rfl
theorem Mr:ez (.v (.tup xs)) (.v (.tup ys)) U=if xs.length+ys.length<=sizeLine then some (.v (.tup (xs++ys)),U) else none:=by
 cases xs with
 |nil=>simp[ez]
 |cons x xs=>simp[ez,EY]
noncomputable def Fm (o:QI (R×ac))(fi:FE)(dv:D)(O:Lo):QI (Lo×ac):=o.bind λo=>(fi O o.2).bind λi=>(vz o.1 i.1 dv i.2).bind λU'=>some (O,U')
noncomputable def zK (x:R)(o:QI (R×ac))(dv:D)(O:Lo):QI (Lo×ac):=o.bind λi=>(vz x i.1 dv i.2).bind λU'=>some (O,U')
noncomputable def zJ (o:QI ac)(O:Lo):QI (Lo×ac):=o.bind λU'=>some (O,U')
def M6 {fo fi}:rX fo fi (.v d) O U=Fm (fo O U) fi d O:=rfl
def M5 {fi}:Fm (some (x,U)) fi d O=zK x (fi O U) d O:=rfl
def M4:zK x (some (y,U)) d O=zJ (vz x y d U) O:=rfl
def M3:zJ (some U) O=some (O,U):=rfl
noncomputable def Mx (o:QI au)(n:Nat)(i:R)(dv:D)(U:ac):QI ac:=match o with
  |some (.lst xs)=>(match i with|.v (.int k)=>(CY xs.length k).bind λj=>some (U.set n (.lst (xs.set j dv)))|_=>none)
  |some (.dct A4)=>if A4.length<sizeLine then (kz i).bind λk=>some (U.set n (.dct (fI A4 k dv))) else none
  |_=>none
def M9:vz (.p n) x d U=Mx U[n]? n x d U:=rfl
noncomputable def Kt (o:QI (P4 D×ac)):QI (R×ac):=o.bind λr=>some (.p r.2.length,r.2++[.lst r.1])
def Mn {ix k g c f}:qZ (some (xs,U)) ix k g c f O=if xs.length<=sizeLine then Kt (bJ g c f xs (ca k ix O) U) else none:=Eq.trans rfl rfl
def OK {r:P4 D}:Kt (some (r,U))=some (.p U.length,U++[.lst r]):=rfl
def Nj:ca 1 [] O=[none]:=rfl
def Ni {i:Nat}:ca 1 [i] O=[none,(O[i]?).join]:=rfl
def Nh {i j:Nat}:ca 1 [i,j] O=[none,(O[i]?).join,(O[j]?).join]:=rfl
def PV {x:QI R}:(some x).join=x:=rfl
def EE:j9 (.p n) U=OV U[n]?:=rfl
noncomputable def wE (o:QI (P4 R×ac))(f:MC)(n:Nat):QI (R×ac):=o.bind λa=>(gY a.1 a.2).bind λds=>if ds.length=n then (f ds).bind λc=>if qx c=true then some (.p a.2.length,a.2++[c]) else none else none
noncomputable def Fi (o:QI (P4 D))(f:MC)(n:Nat)(U:ac):QI (R×ac):=o.bind λds=>if ds.length=n then (f ds).bind λc=>if qx c=true then some (.p U.length,U++[c]) else none else none
noncomputable def Fk (o:QI au)(U:ac):QI (R×ac):=o.bind λc=>if qx c=true then some (.p U.length,U++[c]) else none
def Mp {f:MC}{fa}:iO f n fa O U=wE (fa O U) f n:=rfl
def PN {f:MC}{rs}:wE (some (rs,U)) f n=Fi (gY rs U) f n U:=rfl
def PM {f:MC}{ds:P4 D}:Fi (some ds) f n U=if ds.length=n then Fk (f ds) U else none:=rfl
def PL {k:au}:Fk (some k) U=if qx k=true then some (.p U.length,U++[k]) else none:=rfl
def OG:qx (.lst xs)=flatDs xs:=rfl
noncomputable def qy (o:QI nP):QI au:=o.bind B3
noncomputable def xU (o:QI au):QI au:=match o with|some (.lst xs)=>some (.lst xs)|some (.dct A4)=>some (.dct A4)|_=>none
theorem Ml:qy (some (.rt (.p n) U))=xU U[n]?:=by
 cases h:U[n]? with
 |none=>simp[qy,B3,xU,h]
 |some c=>cases c <;> simp[qy,B3,xU,h]
def Mm:xU (some (.lst xs))=some (.lst xs):=rfl
theorem Nd {ns:Th}:hZ (ns.map D.int)=some ns:=by
 induction ns with
 |nil=>rfl
 |cons n ns ih=>simp[hZ,ih]
noncomputable def zM (o:QI aE)(A4:P4 (aE×D))(n:Nat)(d:D)(U:ac):QI ac:=o.bind λk=>some (U.set n (.dct (fI A4 k d)))
def Na {A4}:Mx (some (.dct A4)) n x d U=if A4.length<sizeLine then zM (kz x) A4 n d U else none:=rfl
def Mi {A4 k}:zM (some k) A4 n d U=some (U.set n (.dct (fI A4 k d))):=rfl
def ML:2<=sizeLine:=by decide
def QH:0<=sizeLine:=by decide
def QG:3<=sizeLine:=by decide
def gK {n:Nat}(h:n<4000):n<sizeLine:=Bi h ∅
def bQ {n:Nat}(h:n<4000):n<=sizeLine:=Ek (gK h)
end
theorem Ea {Z:Type}{x y:Z}{l:P4 Z}:(x::l).set 0 y=y::l:=rfl
theorem D9 {Z:Type}{x y:Z}{l:P4 Z}{n:Nat}:(x::l).set (n+1) y=x::l.set n y:=rfl
def MR {Z:Type}{x:Z}{l:P4 Z}:(x::l)[0]?=some x:=rfl
def MQ {Z:Type}{x:Z}{l:P4 Z}{n:Nat}:(x::l)[n+1]?=l[n]?:=rfl
def NU {Z:Type}{x:Z}{l:P4 Z}:(x::l).length=l.length+1:=rfl
def MP {Z:Type}:([]:P4 Z).length=0:=rfl
def NW {Z:Type}{x:Z}{l r:P4 Z}:(x::l)++r=x::(l++r):=rfl
def MS {Z:Type}{r:P4 Z} : []++r=r:=rfl
def NT {Z β:Type}{f:Z->β}{x:Z}{l:P4 Z}:(x::l).map f=f x::l.map f:=rfl
def MO {Z β:Type}{f:Z->β}:([]:P4 Z).map f=[]:=rfl
def Ps {n:Nat}:0+n=n:=zb3 n
def NV {Z:Type}{a b:Z}:(if false=true then a else b)=b:=rfl
section
variable {g:FG}{b:FS}{O:Lo}{U:ac}
noncomputable def C9 (o:QI nP)(g:FG)(b:FS)(xs:P4 D):QI nP:=o.bind λo=>match o with
  |.nx O' U'=>eK g b xs O' U'
  |.ct O' U'=>eK g b xs O' U'
  |.bk O' U'=>some (.nx O' U')
  |.rt d U'=>some (.rt d U')
def hV {x:D}{xs:P4 D}:eK g b (x::xs) O U=C9 (JT (g (.v x) O U) b) g b xs:=by
 show(g (.v x) O U).bind _=_
 cases e:g (.v x) O U <;> rfl
def xp {xs}:C9 (some (.nx O U)) g b xs=eK g b xs O U:=rfl
def Pu {xs}:C9 (some (.bk O U)) g b xs=some (.nx O U):=rfl
def Pt {xs d}:C9 (some (.rt d U)) g b xs=some (.rt d U):=rfl
theorem lF {Z Y:Type}(e:Z->D)(S:Y->Lo×ac)(P:Y->P4 Z->Prop):∀(as:P4 Z) (s:Y),P s as ->
  (∀s a r,P s (a::r)->∃s',JT (g (.v (e a)) (S s).1 (S s).2) b=some (.nx (S s').1 (S s').2)/\P s' r) ->
  ∃s',eK g b (as.map e) (S s).1 (S s).2=some (.nx (S s').1 (S s').2)/\P s' []
 |[],s,h,_=>{s,rfl,h}
 |a::as,s,h,k=>by
  let⟨s1,h1,h2⟩:=k s a as h;let⟨s2,h3,h4⟩:=lF e S P as s1 h2 k;exact{s2,by rw[Ak,hV,h1,xp,h3],h4}
def oP (n:Nat)(I:Nat->Lo->ac->Prop)(h0:I 0 O U)
  (hs:∀i<n,∀O U,I i O U->∃O' U',JT (g (.v (.int (i:Int))) O U) b=some (.nx O' U')/\I (i+1) O' U') :
  ∃O' U',eK g b ((List.range n).map λi=>.int ((i:Nat):Int)) O U=some (.nx O' U')/\I n O' U':=by
 let⟨O',U',e,h⟩:=xq (g:=g) (b:=b) I (xs:=(List.range n).map λi=>D.int ((i:Nat):Int)) h0 λi x O U hx hI=>by
  rw[Bh] at hx;let⟨k,hk,rfl⟩:=DX.mp hx;let⟨hl,hk⟩:=Bv.mp hk;rw[zcG] at hk;subst hk;exact hs i ‹hl› O U hI
 exact{O',U',e,by simpa using h}
end
section
variable {O:Lo}{U:ac}{x y:R}{d:D}{n:Nat}{i:Int}
noncomputable def QB (o:QI au):QI (P4 (aE×R)):=match o with|some (.dct A4)=>some (A4.map λp=>(p.1,R.v p.2))|some (.fzd A4)=>some (A4.map λp=>(p.1,R.v p.2))|some (.dr A4)=>some A4|some (.fzr A4)=>some A4|_=>none
noncomputable def Ks (o:QI (R×ac))(fk:FE)(O:Lo):QI (R×ac):=o.bind λo=>(fk O o.2).bind λk=>(pO o.1 k.2).bind λA4=>(kz k.1).bind λkey=>(kE A4 key).bind λr=>some (r,k.2)
noncomputable def wB (x:R)(o:QI (R×ac)):QI (R×ac):=o.bind λk=>(pO x k.2).bind λA4=>(kz k.1).bind λkey=>(kE A4 key).bind λr=>some (r,k.2)
noncomputable def Kr (o:QI (P4 (aE×R)))(y:R)(U:ac):QI (R×ac):=o.bind λA4=>(kz y).bind λkey=>(kE A4 key).bind λr=>some (r,U)
noncomputable def FF (o:QI R)(U:ac):QI (R×ac):=o.bind λr=>some (r,U)
def GU {fo fk}:je fo fk O U=Ks (fo O U) fk O:=rfl
def zx {fk}:Ks (some (x,U)) fk O=wB x (fk O U):=rfl
def zw:wB x (some (y,U))=Kr (pO x U) y U:=rfl
def Ph:FF (some x) U=some (x,U):=rfl
def GR:pO (.p n) U=QB U[n]?:=rfl
def Pi:EA O U=some (.p U.length,U++[.dtr []]):=rfl
def Pg:yR true .non (.v (.int i)) U=some (.v (.bl true),U):=rfl
noncomputable def Np (o:QI au):QI (P4 (Th×R)):=match o with|some (.dtr A4)=>some A4|_=>none
noncomputable def zG (o:QI (P4 (Th×R)))(k:Th)(U:ac):QI (R×ac):=o.bind λA4=>(i6 A4 k).bind λd=>some (d,U)
noncomputable def zH (x:R)(o:QI (R×ac)):QI (R×ac):=o.bind λk=>match x,k.1 with
 |.p n,.v (.key ks)=>zG (Np k.2[n]?) ks k.2
 |_,_=>none
noncomputable def Kg (o:QI (R×ac))(fk:FE)(O:Lo):QI (R×ac):=o.bind λo=>zH o.1 (fk O o.2)
def Qg {fo fk}:B4 fo fk O U=Kg (fo O U) fk O:=rfl
def Pe {fk}:Kg (some (x,U)) fk O=zH x (fk O U):=rfl
def Pd {k}:zH (.p n) (some (.v (.key k),U))=zG (Np U[n]?) k U:=rfl
def NB {A4}:Np (some (.dtr A4))=some A4:=rfl
def Pc {A4 k}:zG (some A4) k U=FF (i6 A4 k) U:=rfl
def J1:qd [.p n] U=(Np U[n]?).bind λA4=>if A4.length<64/\(A4.length<2\/∀p∈A4,p.1≠[]) then some (.p U.length,U++[.lst ((cM (A4.map (·.1))).map D.key)]) else none:=rfl
end
end HW
namespace LW
open HW
abbrev cS (i:Int):QI R:=some (.v (.int i))
abbrev ba (n:Nat):QI R:=some (.p n)
end LW
local macro_rules
 | `(tactic| push_cast [$xs,*] $[$loc]?) => do
  let ids : Array (Lean.TSyntax `term) := ("ML QH QG Ea D9 MR MQ NU MP NW MS NT MO Ps NV xp Pu Pt lO mY Jx ja fF gf Pz Of gR o5 mF uu Ch Oh M0 MZ xG uo OS No GC Op Os Nb PY OC B7 B9 xJ Ce xM ED mD gB M8 M7 Mq xK Cf mE EC jH Jz JA o0 lQ xI Cb Ca Mf N7 GD Jv Oi PQ PU PZ Ot Cd JE ut Jt Ju Nm Nn Oz OB OA Jy PX Oy Ox ON OM OL Ow Nc PR Ov N8 OI OJ OH IP LH OT Mj Ng JB JC Oe Py Od Oc OP OQ OR P3 P2 P1 Ob Oa N9 PB Og PP Ou OO Nl Nk OD OF P0 OE Ms Mr EE cU dF dE fA lP EG PC Oo On Om Oj PK PJ Oq Mo Nf PH PF PD Ol M6 M5 M4 M3 M9 Mn OK Nj Ni Nh PV Mp PN PM PL OG Ml Mm Nd Na Mi GU zx zw Ph GR Pi Pg Qg Pe Pd NB Pc".splitOn " ").toArray.map fun n => ⟨(Lean.mkIdent (String.toName ("HW." ++ n))).raw⟩
  `(tactic| simp -implicitDefEqProofs only [$xs,*, $[$ids:term],*, Nat.reduceAdd, if_true, Bool.and_self] $[$loc]?)
namespace LW
open PyProof.Rows L2 HW
noncomputable def lX (i:Nat):Ad:=PySem.Challenge.pw_heldwhen_k32_whole_past_stays.main.body.getD i (.Pass {0,0,0,0})
noncomputable section
abbrev fJ:Ad:=L2.j2 (lX 38) 0
def rh:aA ["self","shapes"] ["self","shapes"] (ai fJ):=by ac_rfl
abbrev iA:Ad:=L2.j2 (lX 38) 1
def fL:aA ["self","telling","name","keys","turn"] ["self","telling"] (ai iA):=by ac_rfl
abbrev iz:Ad:=L2.j2 (lX 38) 2
def rg:aA ["self","name","row","low","high"] ["self","name","row","low","high"] (ai iz):=by ac_rfl
abbrev fX:Ad:=L2.j2 (lX 38) 3
def oh:aA ["self","name","key","low","high"] ["self","name","key","low","high"] (ai fX):=by ac_rfl
abbrev gJ:Ad:=L2.j2 (lX 38) 7
def pL:aA ["self","name"] ["self","name"] (ai gJ):=by ac_rfl
abbrev d6:Ad:=L2.j2 (lX 38) 8
def og:aA ["self"] ["self"] (ai d6):=by ac_rfl
abbrev jj:Ad:=lX 9
def tq:aA ["word","one","other"] ["word","one","other"] (ai jj):=by ac_rfl
abbrev gG:Ad:=lX 13
def pI:aA ["low","high"] ["low","high"] (ai gG):=by ac_rfl
abbrev jo:Ad:=lX 14
def cg:aA ["one","other","word","in_one","in_other","first","last","one_borders","other_borders","edges","edge","here"] ["one","other","word"] (ai jo):=by ac_rfl
abbrev jl:Ad:=lX 17
def gq:aA ["plot","turn","reach","step"] ["plot","turn"] (ai jl):=by ac_rfl
abbrev iw:Ad:=lX 25
def rf:aA ["plots"] ["plots"] (ai iw):=by ac_rfl
abbrev eX:Ad:=lX 26
def eZ:aA ["pairs","plots","row","plot","entries"] ["pairs"] (ai eX):=by ac_rfl
abbrev eY:Ad:=lX 27
def mO:aA ["table","turn","reaches"] ["table","turn"] (ai eY):=by ac_rfl
abbrev jk:Ad:=lX 29
def mP:aA ["shapes","name","shape"] ["shapes","name"] (ai jk):=by ac_rfl
abbrev fW:Ad:=lX 30
def jq:aA ["numbers","width","many"] ["numbers","width"] (ai fW):=by ac_rfl
abbrev eE:Ad:=lX 31
def l8:aA ["low","high"] ["low","high"] (ai eE):=by ac_rfl
abbrev kI:Ad:=lX 32
def vt:aA ["telling"] ["telling"] (ai kI):=by ac_rfl
abbrev eD:Ad:=lX 33
def g8:aA ["shapes","telling","shape"] ["shapes","telling"] (ai eD):=by ac_rfl
abbrev gH:Ad:=lX 34
def pK:aA ["plot"] ["plot"] (ai gH):=by ac_rfl
abbrev kH:Ad:=lX 35
def vq:aA ["plot","turn","reach"] ["plot","turn","reach"] (ai kH):=by ac_rfl
abbrev kG:Ad:=lX 36
def cW:aA ["table","keys","telling","turn","said","days","plots","pairs","row","plot","word"] ["table","keys","telling","turn"] (ai kG):=by ac_rfl
abbrev jn:Ad:=lX 40
def tt:aA ["script","k"] ["script","k"] (ai jn):=by ac_rfl
abbrev jm:Ad:=lX 41
def jp:aA ["cell","k","number"] ["cell","k"] (ai jm):=by ac_rfl
abbrev eS:Ad:=lX 42
def bG:aA ["cell","number","word","place","shapes","k","width","name"] ["cell"] (ai eS):=by ac_rfl
abbrev d5:Ad:=lX 43
def aU:aA ["cell","shapes","scale","number","name","keys","width","menu","row","low","high"] ["cell","shapes","scale"] (ai d5):=by ac_rfl
abbrev iu:Ad:=lX 44
def rc:aA ["book","telling"] ["book","telling"] (ai iu):=by ac_rfl
abbrev eR:Ad:=lX 45
def pJ:aA ["book","shapes","turn"] ["book","shapes","turn"] (ai eR):=by ac_rfl
abbrev n5:Ad:=lX 46
def cz:aA ["script","shapes","scale","book","past","tellings","held","kept","cell","telling","now","turns","turn","tables","k","other"] ["script"] (ai n5):=by ac_rfl
abbrev jN:FS:=(az (lz "Book" "shape_list" (ae 0) (eA eC (af (ae 1) aj)))
  (az (lz "Book" "tellings" (ae 0) (dN aj))
  (lz "Book" "tables_now" (ae 0) (eA ie (af (bS [] 1 (bI (ae 1)) (bD 0) c8 (bM (af (aw bg (ae 0) (fK (.int 0))) (af (bA (dN aj)) aj)))) aj)))))
noncomputable def bV:MW:=md 2 (jN)
abbrev gT:FS:=(bT (qB (dD "Book" "tables_now" (ae 0)) (eA ie (af (bS [] 2 (mX (dD "Book" "tables_now" (ae 0))) (nt 2 (aH (bD 0) (aH (bD 1) cT))) c8 (bM (af (ae 0) (af (bA (eA eC (af (ae 1) aj))) aj)))) aj))))
noncomputable def aO:MW:=md 1 (gT)
abbrev iR:FS:=(az (gW (fB (aw (jg false) (ae 0) (fK (.str "both"))))
  (bT (B6 (ae 1) (ae 2)))
  aZ)
  (az (gW (fB (aw (jg false) (ae 0) (fK (.str "either"))))
  (bT (MY (ae 1) (ae 2)))
  aZ)
  (az (gW (fB (aw (jg false) (ae 0) (fK (.str "less"))))
  (bT (B6 (ae 1) (pW (ae 2))))
  aZ)
  (az (gW (fB (aw (jg false) (ae 0) (fK (.str "just"))))
  (bT (aw (jg true) (ae 1) (ae 2)))
  aZ)
  kK))))
noncomputable def bB:MF:=gm 3 (iR)
abbrev iS:FS:=(az (gW (g6 (fB (uS (yR false .non) (ae 0))) (fB (uS (yR false .non) (ae 1))))
  (bT (fK (.tup [(.bl true),(.tup [])])))
  aZ)
  (az (gW (fB (uS (yR false .non) (ae 0)))
  (bT (bM (af (fK (.bl true)) (af (bM (af (ae 1) aj)) aj))))
  aZ)
  (az (gW (fB (uS (yR false .non) (ae 1)))
  (bT (bM (af (fK (.bl false)) (af (bM (af (ae 0) aj)) aj))))
  aZ)
  (az (gW (fB (aw LN (ae 1) (ae 0)))
  (bT (fK (.tup [(.bl false),(.tup [])])))
  aZ)
  (bT (bM (af (fK (.bl false)) (af (bM (af (ae 0) (af (ae 1) aj))) aj))))))))
noncomputable def eh:MF:=gm 2 (iS)
abbrev fN:FS:=(az (gW (fB (aw MV (aw bg (ae 3) (fK (.int 0))) (ae 1)))
  rj
  aZ)
  (aI 2 (aw bg (ae 3) (fK (.int 1)))))
abbrev k7:FS:=(az (aI 2 (aw bg (ae 0) (fK (.int 0))))
  (az (gM (bI (aw bg (ae 0) (fK (.int 1)))) (bD 3)
  fN)
  (bT (ae 2))))
noncomputable def dI:MF:=gm 4 (k7)
abbrev uN:FS:=(az (gW (fB (aw (jg false) (eA jd (af (ae 0) aj)) (fK (.int 1))))
  (bT (aw bg (ae 0) (fK (.int 0))))
  aZ)
  kK)
noncomputable def c6:MF:=gm 1 (uN)
abbrev et:FS:=(gW (fB (aw (jg false) (aw bg (ae 2) (fK (.int 0))) (ae 1)))
  (bT (ae 2))
  aZ)
abbrev kZ:FS:=(az (gM (bI (ae 0)) (bD 2)
  et)
  kK)
noncomputable def bO:MF:=gm 3 (kZ)
abbrev gS:FS:=(az (aI 2 (eA jd (af (ae 0) aj)))
  (gW (fB (aw (jg true) (ae 2) (ae 1)))
  kK
  aZ))
noncomputable def dB:MF:=gm 3 (gS)
abbrev fG:FS:=(gW (g6 (fB (uS (yR true .non) (ae 0))) (g6 (fB (uS (yR true .non) (ae 1))) (fB (aw LN (ae 1) (ae 0)))))
  kK
  aZ)
noncomputable def cL:MF:=gm 2 (fG)
abbrev fV:FS:=(bT (aw (jg false) (aw bg (ae 0) (fK (.int 0))) (fK (.str "tell"))))
noncomputable def bK:MF:=gm 1 (fV)
abbrev iW:FS:=(bT (GB (oX (aw bg (ae 0) (fK (.int 1)))) (aw bg (aw bg (aw bg (ae 0) (fK (.int 1))) (uS vJ (fK (.int 1)))) (fK (.int 1))) (aw bg (ae 0) (fK (.int 0)))))
noncomputable def cF:MF:=gm 1 (iW)
abbrev iV:FS:=(az (gW (fB (aw MN (ae 1) (eA jd (af (ae 0) aj))))
  (bT (aw bg (ae 0) (ae 1)))
  aZ)
  (bT (fK (.int 0))))
noncomputable def cE:MF:=gm 2 (iV)
abbrev k8:FS:=(az (aI 2 (aw bU (aw oM (aw ez (aw bU (ae 0) (fK (.int 2147483629))) (fK (.int 1))) (fK (.int 1103515245))) (fK (.int 2147483629))))
  (az (aI 2 (aw bU (aw ez (aw ez (aw oM (ae 2) (ae 2)) (aw oM (ae 1) (fK (.int 69621)))) (fK (.int 12345))) (fK (.int 2147483587))))
  (bT (aw bU (aw oM (ae 2) (ae 2)) (fK (.int 2147483629))))))
noncomputable def aV:MF:=gm 3 (k8)
abbrev iX:FS:=(az (bE (gd bO 2 (af (dD "Book" "shape_list" (ae 0)) (af (ae 1) aj))))
  (bT (eA eC (af (je (dD "Book" "tables_now" (ae 0)) (ae 1)) aj))))
noncomputable def cx:MW:=md 2 (iX)
abbrev sB (bt:A7):FS:=(az (aI 3 (aw bg (ae 0) (fK (.int 0))))
  (az (aI 4 (aw bg (ae 1) (fK (.int 0))))
  (az (aI 5 (aW bB 3 (af (bA (ae 2)) (af (bA (ae 3)) (af (bA (ae 4)) aj)))))
  (az (aI 6 (ae 5))
  (az (aI 7 (eA o9 (af (bS [] 1 (bI (aw bg (ae 0) (fK (.int 1)))) (bD 0) c8 (bM (af (ae 0) (af (fK (.bl true)) aj)))) aj)))
  (az (aI 8 (eA o9 (af (bS [] 1 (bI (aw bg (ae 1) (fK (.int 1)))) (bD 0) c8 (bM (af (ae 0) (af (fK (.bl true)) aj)))) aj)))
  (az (aI 9 (dN aj))
  (az (gM (bI (eA (jP bt) (af (aw (JV bt) (eA (vp bt) (af (aw bg (ae 0) (fK (.int 1))) aj)) (eA (vp bt) (af (aw bg (ae 1) (fK (.int 1))) aj))) aj))) (bD 10)
  (az (gW (fB (aw (Em false) (ae 10) (ae 7)))
  (aI 3 (pW (ae 3)))
  aZ)
  (az (gW (fB (aw (Em false) (ae 10) (ae 8)))
  (aI 4 (pW (ae 4)))
  aZ)
  (az (aI 11 (aW bB 3 (af (bA (ae 2)) (af (bA (ae 3)) (af (bA (ae 4)) aj)))))
  (az (gW (fB (aw (jg true) (ae 11) (ae 6)))
  (bE (qA gg (ae 9) (af (ae 10) aj)))
  aZ)
  (aI 6 (ae 11)))))))
  (bT (bM (af (ae 5) (af (eA ye (af (ae 9) aj)) aj))))))))))))
noncomputable def jZ (bt:A7):MF:=gm 12 (sB bt)
abbrev em (bt:A7):FS:=(bE (qA gg (oY (ae 1) (ae 2) (dN aj)) (af (ae 3) aj)))
abbrev kX (bt:A7):FS:=(az (aI 1 EA)
  (az (gM (bI (ae 0)) (nt 2 (aH (bD 2) (aH (bD 3) cT)))
  (em bt))
  (az (aI 4 (bS [1] 1 (bI (eA qd (af (ae 1) aj))) (bD 0) c8 (bM (af (ae 0) (af (aW c6 1 (af (bA (B4 (ae 1) (ae 0))) aj)) aj)))))
  (bT (bS [] 1 (bI (ae 4)) (bD 0) (fB (aw (jg true) (aw bg (ae 0) (fK (.int 1))) (fK (.tup [(.tup [(.bl false),(.tup [])]),(.tup [])])))) (ae 0))))))
noncomputable def f7 (bt:A7):MC:=yo 5 (kX bt)
abbrev kY:FS:=(az (aI 2 (bS [1] 2 (bI (ae 0)) (nt 2 (aH (bD 0) (aH (bD 1) cT))) c8 (bM (af (ae 0) (af (aW dI 2 (af (bA (ae 1)) (af (bA (ae 2)) aj))) aj)))))
  (bT (bS [] 2 (bI (ae 2)) (nt 2 (aH (bD 0) (aH (bD 1) cT))) (fB (aw (jg true) (ae 1) (fK (.tup [(.bl false),(.tup [])])))) (bM (af (ae 0) (af (bM (af (ae 1) (af (bM aj) aj))) aj))))))
noncomputable def eI:MC:=yo 3 (kY)
abbrev dH:FS:=(az (aI 2 (gd bO 2 (af (ae 0) (af (aw bg (ae 1) (fK (.int 1))) aj))))
  (az (bE (aW dB 2 (af (bA (aw bg (ae 1) (fK (.int 2)))) (af (bA (GB (oX (aW bK 1 (af (bA (ae 1)) aj))) (aw bg (ae 2) (fK (.int 2))) (aw bg (ae 2) (fK (.int 1))))) aj))))
  (bE (aW cL 2 (af (bA (aw bg (ae 1) (fK (.int 3)))) (af (bA (aw bg (ae 1) (fK (.int 4)))) aj))))))
noncomputable def bj:MF:=gm 3 (dH)
abbrev j5:FS:=(az (gW (fB (aw (jg false) (ae 2) (aW cF 1 (af (bA (ae 0)) aj))))
  (bT (ae 0))
  aZ)
  (bT (bM (af (aw bg (ae 0) (fK (.int 0))) (af (aw ez (aw bg (ae 0) (fK (.int 1))) (bM (af (bM (af (ae 1) (af (ae 2) aj))) aj))) aj)))))
noncomputable def hJ:MF:=gm 3 (j5)
abbrev f8:FS:=(az (aI 6 (aw ez (fK (.int 1)) (aw bU (aw iP (aW aV 2 (af (bA (ae 0)) (af (bA (aw ez (fK (.int 80)) (ae 5))) aj))) (fK (.int 3))) (aw bg (dN (af (fK (.int 3)) (af (fK (.int 3)) (af (fK (.int 8)) aj)))) (aw bU (aw iP (ae 1) (fK (.int 256))) (fK (.int 3)))))))
  (az (aI 7 (aw ez (aw ez (B5 (ae 2) jy (i9 (ae 3))) (aw Gp (fK (.str "kmz")) (ae 5))) (B5 (ae 2) (i9 (aw ez (ae 3) (fK (.int 1)))) jy)))
  (bE (qA gg (ae 4) (af (bM (af (ae 7) (af (aw bU (aw iP (aW aV 2 (af (bA (ae 0)) (af (bA (aw ez (fK (.int 90)) (ae 5))) aj))) (fK (.int 3))) (aw ez (ae 6) (fK (.int 1)))) (af (ae 6) aj)))) aj)))))
abbrev iU:FS:=(az (aI 1 (aW aV 2 (af (bA (ae 0)) (af (fK (.int 1)) aj))))
  (az (aI 2 (aw qp (fK (.str "")) (bS [0] 1 (pV (aw ez (fK (.int 1)) (aw bU (ae 1) (fK (.int 8))))) (bD 0) c8 (aw Gp (fK (.str "abcdefghijklmnopqrstuvwxyz")) (aw bU (aw iP (aW aV 2 (af (bA (ae 1)) (af (bA (aw ez (fK (.int 70)) (ae 0))) aj))) (fK (.int 3))) (fK (.int 26)))))))
  (az (aI 3 (aw bU (aw iP (ae 1) (fK (.int 8))) (eA yJ (af (ae 2) aj))))
  (az (aI 4 (dN aj))
  (az (gM (pV (aw ez (fK (.int 1)) (aw bU (aw iP (ae 1) (fK (.int 64))) (fK (.int 3))))) (bD 5)
  f8)
  (bT (ae 4)))))))
noncomputable def df:MF:=gm 8 (iU)
abbrev eV:FS:=(az (aI 3 (aW aV 2 (af (bA (ae 0)) (af (fK (.int 2)) aj))))
  (az (yn (aw bg (ae 1) (aw bU (ae 3) (eA jd (af (ae 1) aj)))) (nt 3 (aH (bD 4) (aH (bD 5) (aH (bD 6) cT)))))
  (az (aI 7 (dN (af (fK (.int 0)) (af (fK (.int 1)) (af (uS vJ (fK (.int 1))) (af (aw bU (ae 0) (aw j8 (fK (.int 10)) (fK (.int 50)))) (af (aw l6 (fK (.int 0)) (aw bU (ae 0) (aw j8 (fK (.int 10)) (fK (.int 50))))) aj)))))))
  (az (aI 8 (eA BH (af (bS [7,0] 1 (pV (ae 6)) (bD 0) c8 (aw bg (ae 1) (aw bU (aw iP (aW aV 2 (af (bA (ae 2)) (af (bA (aw ez (fK (.int 20)) (ae 0))) aj))) (fK (.int 5))) (fK (.int 5))))) aj)))
  (az (aI 9 (aw oM (aw l6 (aw bU (aw iP (ae 3) (fK (.int 8))) (fK (.int 12))) (fK (.int 3))) (ae 2)))
  (az (aI 10 (aw ez (ae 9) (aw oM (aw ez (fK (.int 1)) (aw bU (aw iP (ae 3) (fK (.int 96))) (fK (.int 6)))) (ae 2))))
  (az (gW (fB (aw (jg false) (aw bU (aw iP (ae 3) (fK (.int 600))) (fK (.int 5))) (fK (.int 0))))
  (aI 9 (fK .non))
  aZ)
  (az (gW (fB (aw (jg false) (aw bU (aw iP (ae 3) (fK (.int 3000))) (fK (.int 5))) (fK (.int 0))))
  (aI 10 (fK .non))
  aZ)
  (az (gW (fB (aw (jg false) (aw bU (aw iP (ae 3) (fK (.int 15000))) (fK (.int 3))) (fK (.int 0))))
  (bT (bM (af (fK (.str "strike")) (af (ae 4) (af (Ez (ae 8) jy (i9 (ae 5))) (af (ae 9) (af (ae 10) aj)))))))
  aZ)
  (bT (bM (af (fK (.str "tell")) (af (ae 4) (af (ae 8) (af (ae 9) (af (ae 10) aj))))))))))))))))
noncomputable def bW:MF:=gm 11 (eV)
abbrev dW (bt:A7):FS:=(gW (fB (aw (jJ false) (GA (JY (ae 8)) jy (i9 (ae 1))) (GA (JY (ae 4)) jy (i9 (ae 1)))))
  (az (aI 10 (GB (g6 (oX (aW bK 1 (af (bA (ae 2)) aj))) (fB (aw (jJ false) (ae 8) (ae 4)))) (fK (.str "either")) (fK (.str "less"))))
  (bE (qA gg (ae 7) (af (bM (af (ae 8) (af (aW hJ 3 (af (bA (ae 9)) (af (bA (ae 3)) (af (bA (aW (jZ bt) 3 (af (bA (aW cF 1 (af (bA (ae 9)) aj))) (af (bA (ae 5)) (af (bA (ae 10)) aj))))) aj)))) aj))) aj))))
  (bE (qA gg (ae 7) (af (bM (af (ae 8) (af (ae 9) aj))) aj))))
abbrev mI (bt:A7):FS:=(az (aI 4 (aw bg (ae 2) (fK (.int 2))))
  (az (aI 5 (aW eh 2 (af (bA (aw bg (ae 2) (fK (.int 3)))) (af (bA (aw bg (ae 2) (fK (.int 4)))) aj))))
  (az (aI 6 (eA qF (af (ae 0) aj)))
  (az (gW (oX (aW bK 1 (af (bA (ae 2)) aj)))
  (bE (y4 (ae 6) (ae 4) (fK (.tup [(.tup [(.bl false),(.tup [])]),(.tup [])]))))
  aZ)
  (az (aI 7 (dN aj))
  (az (gM (Ey (ae 6)) (nt 2 (aH (bD 8) (aH (bD 9) cT)))
  (dW bt))
  (bT (iO (f7 bt) 1 (af (ae 7) aj)))))))))
noncomputable def dR (bt:A7):MC:=yo 11 (mI bt)
abbrev iT:FS:=(bT (bS [0,2] 1 (bI (ae 1)) (bD 0) c8 (bA (iO eI 2 (af (dC "Book" "table" cx 2 (ae 1) (af (aw bg (ae 0) (fK (.int 0))) aj)) (af (ae 2) aj))))))
noncomputable def aL:MW:=md 3 (iT)
abbrev jM (bt:A7):FS:=(az (bE (gd (uk bj) 2 (af (dD "Book" "shape_list" (ae 0)) (af (ae 1) aj))))
  (az (aI 2 (aw bg (ae 1) (fK (.int 1))))
  (az (aI 3 (aw bg (gd bO 2 (af (dD "Book" "shape_list" (ae 0)) (af (ae 2) aj))) (fK (.int 1))))
  (az (bE (qA gg (dD "Book" "tellings" (ae 0)) (af (ae 1) aj)))
  (az (aI 4 (eA jd (af (dD "Book" "tellings" (ae 0)) aj)))
  (az (yn (bA (iO (dR bt) 4 (af (je (dD "Book" "tables_now" (ae 0)) (ae 2)) (af (ae 3) (af (ae 1) (af (ae 4) aj)))))) (rX (dD "Book" "tables_now" (ae 0)) (ae 2)))
  (bT (ae 4))))))))
noncomputable def bF (bt:A7):MW:=md 5 (jM bt)
abbrev jL (bt:A7):FS:=(bT (dC "Book" "take" (bF bt) 2 (ae 0) (af (bM (af (fK (.str "tell")) (af (ae 1) (af (ae 2) (af (ae 3) (af (ae 4) aj)))))) aj)))
noncomputable def dO (bt:A7):MW:=md 5 (jL bt)
abbrev gU (bt:A7):FS:=(bT (dC "Book" "take" (bF bt) 2 (ae 0) (af (bM (af (fK (.str "strike")) (af (ae 1) (af (ae 2) (af (ae 3) (af (ae 4) aj)))))) aj)))
noncomputable def cP (bt:A7):MW:=md 5 (gU bt)
abbrev gF (bt:A7):FS:=(az (gW (fB (aw (jg false) (aw bg (ae 1) (fK (.int 0))) (fK (.str "tell"))))
  (bT (dC "Book" "tell" (dO bt) 5 (ae 0) (af (aw bg (ae 1) (fK (.int 1))) (af (aw bg (ae 1) (fK (.int 2))) (af (aw bg (ae 1) (fK (.int 3))) (af (aw bg (ae 1) (fK (.int 4))) aj))))))
  aZ)
  (bT (dC "Book" "strike" (cP bt) 5 (ae 0) (af (aw bg (ae 1) (fK (.int 1))) (af (aw bg (ae 1) (fK (.int 2))) (af (aw bg (ae 1) (fK (.int 3))) (af (aw bg (ae 1) (fK (.int 4))) aj)))))))
noncomputable def cu (bt:A7):MW:=md 2 (gF bt)
abbrev j1 (bt:A7):FS:=(gW (fB (aw (jJ true) (bA (cm aL 3 (af (ae 3) (af (ae 1) (af (ae 12) aj))))) (aw bg (ae 4) (ae 12))))
  (bT (fK (.bl false)))
  aZ)
abbrev j0 (bt:A7):FS:=(az (gW (fB (aw (jJ true) (je (ae 6) (aw bg (aw bg (ae 1) (ae 14)) (fK (.int 0)))) (aw bg (ae 7) (ae 14))))
  (bT (fK (.bl false)))
  aZ)
  (gW (g6 (fB (aw (jJ true) (aw bg (aw bg (ae 1) (ae 14)) (fK (.int 0))) (aw bg (ae 9) (fK (.int 1))))) (fB (aw (jJ true) (je (ae 13) (aw bg (aw bg (ae 1) (ae 14)) (fK (.int 0)))) (aw bg (ae 7) (ae 14)))))
  (bT (fK (.bl false)))
  aZ))
abbrev nL (bt:A7):FS:=(az (aI 9 (aW bW 3 (af (bA (ae 8)) (af (bA (ae 1)) (af (bA (ae 2)) aj)))))
  (az (bE (cm (cu bt) 2 (af (ae 3) (af (ae 9) aj))))
  (az (bE (qA gg (ae 5) (af (ae 9) aj)))
  (az (aI 10 (eA jd (af (ae 5) aj)))
  (az (aI 11 (dN (af (aw l6 (ae 10) (fK (.int 1))) aj)))
  (az (gW (fB (aw (jJ false) (aw bU (ae 10) (fK (.int 3))) (fK (.int 0))))
  (bE (qA gg (ae 11) (af (aw bU (aW aV 2 (af (bA (ae 8)) (af (fK (.int 5)) aj))) (ae 10)) aj)))
  aZ)
  (az (gM (bI (ae 11)) (bD 12)
  (j1 bt))
  (az (gW (g6 (fB (aw (jJ false) (aw bU (ae 10) (fK (.int 8))) (fK (.int 1)))) (fB (aw (jJ true) (bA (cm aL 3 (af (ae 3) (af (ae 1) (af (aw l6 (fK (.int 0)) (aw bU (ae 8) (aw j8 (fK (.int 10)) (fK (.int 40))))) aj))))) (aw bg (ae 4) (fK (.int 0))))))
  (bT (fK (.bl false)))
  aZ)
  (az (bE (qA gg (ae 4) (af (bA (cm aL 3 (af (ae 3) (af (ae 1) (af (ae 10) aj))))) aj)))
  (az (aI 13 (dC "Book" "tables" aO 1 (ae 3) aj))
  (az (gM (pV (eA jd (af (ae 1) aj))) (bD 14)
  (j0 bt))
  (az (aI 6 (ae 13))
  (aI 7 (bS [13] 1 (bI (ae 1)) (bD 0) c8 (bA (eA eC (af (je (ae 1) (aw bg (ae 0) (fK (.int 0)))) aj)))))))))))))))))
abbrev lH (bt:A7):FS:=(bE (cm (cu bt) 2 (af (ae 15) (af (ae 9) aj))))
abbrev CK (bt:A7):FS:=(az (aI 1 (aW df 1 (af (bA (aW cE 2 (af (bA (ae 0)) (af (fK (.int 0)) aj)))) aj)))
  (az (aI 2 (aw bg (dN (af (fK (.int 1)) (af (fK (.int 1)) (af (aw j8 (fK (.int 10)) (fK (.int 40))) aj)))) (aw bU (aW cE 2 (af (bA (ae 0)) (af (fK (.int 0)) aj))) (fK (.int 3)))))
  (az (aI 3 (jG "Book" bV 2 (af (ae 1) aj)))
  (az (aI 4 (dN (af (bA (cm aL 3 (af (ae 3) (af (ae 1) (af (fK (.int 0)) aj))))) aj)))
  (az (aI 5 (dN aj))
  (az (aI 6 (dC "Book" "tables" aO 1 (ae 3) aj))
  (az (aI 7 (bS [6] 1 (bI (ae 1)) (bD 0) c8 (bA (eA eC (af (je (ae 1) (aw bg (ae 0) (fK (.int 0)))) aj)))))
  (az (gM (bI (GA (ae 0) jy (i9 (fK (.int 50))))) (bD 8)
  (nL bt))
  (az (aI 15 (jG "Book" bV 2 (af (ae 1) aj)))
  (az (gM (bI (ae 5)) (bD 9)
  (lH bt))
  (bT (aw GG (dC "Book" "tables" aO 1 (ae 15) aj) (dC "Book" "tables" aO 1 (ae 3) aj)))))))))))))
noncomputable def t6 (bt:A7):MF:=gm 16 (CK bt)
noncomputable def zs:Tn:=["list","dict","len","set","sorted","tuple","range"]
def Nv (mg:Td)(l:Tn):Prop:=∀(i:Nat) (x:Str),l[i]?=some x->mg x=none
def JE4 {mg:Td}:Nv mg []:=λi x e=>by simp at e
theorem im {mg:Td}{x:Str}{l:Tn}(h:mg x=none)(t:Nv mg l):Nv mg (x::l):=λi y e=>by
 cases i with
 |zero=>cases e;exact h
 |succ i=>exact t i y e
def Zs (mg:Td):Prop:=Nv mg zs
structure CF (K:AP)(mg:Td)(C:Addr):Prop where
 n:lW K mg "Book" C
 a_shape_list:eP K C "shape_list"
 a_tellings:eP K C "tellings"
 a_tables_now:eP K C "tables_now"
 mks:PySem.W.makesIn K C=true
 kp:PySem.W.keepIn K (.ref C)=true
section
variable {P:A9}{w:AF}{K:AP}{mg:Td}{base:AD}{qC:A3}(cf:CF K mg qC)
include cf
set_option maxHeartbeats 4000000
theorem ue (z:Zs mg)(d:iZ K qC "__init__" "Book.__init__" fJ ["self","shapes"])  : dG P w K mg base 1 "__init__" qC ["self","shapes"] bV :=
 Gg (k:=0) d rh λf Ah A outer s H E hr=>
  (am (Ar cf.n cf.a_shape_list (ag 0) (oq rfl (z 0 _ rfl) (ah (ag 1) ao)))
  (am (Ar cf.n cf.a_tellings (ag 0) (i7 ao))
  (aD (Ar cf.n cf.a_tables_now (ag 0) (w5 rfl rfl (z 1 _ rfl) (ah (gN [] ["shape"] [] rfl (show aG (ai fJ) _ ["shape"] [] by ac_rfl) (e8 (ag 1)) (λcl C s₂ H₂ fp=>{(dM 0 (show(["shape"]:Tn).Nodup by decide)),jF,(cw (ah (bf (ag 0) al) (ah (bx (i7 ao)) ao)))})) ao))))))
theorem ud (z:Zs mg)(d:iZ K qC "take" "Book.take" iA ["self","telling"])(fu:bR P w K mg base 2 "check_telling" ["shapes","telling"] bj)(mz:kC P w K mg base 3 "told_on" ["table","keys","telling","turn"] (dR (!HS.bt w)))(cG:bR P w K mg base 1 "shape_of" ["shapes","name"] bO):dG P w K mg base 4 "take" qC ["self","telling"] (bF (!HS.bt w)) :=
 Gg (k:=3) d fL λf Ah A outer s H E hr=>
  (am (du (jS (JEn fu) (hr.mono ∅) (ah (lB cf.n cf.a_shape_list (ag 0)) (ah (ag 1) ao))))
  (am (aQ 2 fL.nd (bf (ag 1) al))
  (am (aQ 3 fL.nd (bf (jS cG (hr.mono ∅) (ah (lB cf.n cf.a_shape_list (ag 0)) (ah (ag 2) ao))) al))
  (am (du (lD (lB cf.n cf.a_tellings (ag 0)) (ah (ag 1) ao)))
  (am (aQ 4 fL.nd (ot rfl (z 2 _ rfl) (ah (lB cf.n cf.a_tellings (ag 0)) ao)))
  (am (F1 (bx (lC mz (hr.mono ∅) (ah (qh hr.units (lB cf.n cf.a_tables_now (ag 0)) (ag 2)) (ah (ag 3) (ah (ag 1) (ah (ag 4) ao)))))) (N1 hr.units (lB cf.n cf.a_tables_now (ag 0)) (ag 2)))
  (aD (bi (ag 4)))))))))
theorem uc (z:Zs mg)(d:iZ K qC "tell" "Book.tell" iz ["self","name","row","low","high"])(Jac:dG P w K mg base 4 "take" qC ["self","telling"] (bF (!HS.bt w))):dG P w K mg base 5 "tell" qC ["self","name","row","low","high"] (dO (!HS.bt w)) :=
 Gg (k:=4) d rg λf Ah A outer s H E hr=>
  (aD (bi (kL cf.n Jac (hr.mono ∅) (ag 0) (ah (cw (ah fZ (ah (ag 1) (ah (ag 2) (ah (ag 3) (ah (ag 4) ao)))))) ao))))
theorem pT (z:Zs mg)(d:iZ K qC "strike" "Book.strike" fX ["self","name","key","low","high"])(Jac:dG P w K mg base 4 "take" qC ["self","telling"] (bF (!HS.bt w))):dG P w K mg base 5 "strike" qC ["self","name","key","low","high"] (cP (!HS.bt w)) :=
 Gg (k:=4) d oh λf Ah A outer s H E hr=>
  (aD (bi (kL cf.n Jac (hr.mono ∅) (ag 0) (ah (cw (ah fZ (ah (ag 1) (ah (ag 2) (ah (ag 3) (ah (ag 4) ao)))))) ao))))
theorem rP (z:Zs mg)(d:iZ K qC "table" "Book.table" gJ ["self","name"])(cG:bR P w K mg base 1 "shape_of" ["shapes","name"] bO):dG P w K mg base 2 "table" qC ["self","name"] cx :=
 Gg (k:=1) d pL λf Ah A outer s H E hr=>
  (am (du (jS cG (hr.mono ∅) (ah (lB cf.n cf.a_shape_list (ag 0)) (ah (ag 1) ao))))
  (aD (bi (oq rfl (z 0 _ rfl) (ah (qh hr.units (lB cf.n cf.a_tables_now (ag 0)) (ag 1)) ao)))))
theorem pS (z:Zs mg)(d:iZ K qC "tables" "Book.tables" d6 ["self"])  : dG P w K mg base 1 "tables" qC ["self"] aO :=
 Gg (k:=0) d og λf Ah A outer s H E hr=>
  (aD (bi (JGu (fo:=(dD "Book" "tables_now" (ae 0))) (w5 rfl rfl (z 1 _ rfl) (ah (rB [] ["name","table"] [] rfl (show aG (ai d6) _ ["name","table"] [] by ac_rfl) (LQ (lB cf.n cf.a_tables_now (ag 0))) (λcl C s₂ H₂ fp=>{(yY rfl (dj (dM 0 (show(["name","table"]:Tn).Nodup by decide)) (dj (dM 1 (show(["name","table"]:Tn).Nodup by decide)) mC))),jF,(cw (ah (ag 0) (ah (bx (oq rfl (z 0 _ rfl) (ah (ag 1) ao))) ao)))})) ao)))))
theorem vQ (z:Zs mg)(d:bY K mg "truth_by" jj ["word","one","other"])  : bR P w K mg base 1 "truth_by" ["word","one","other"] bB :=
 okP (k:=0) d tq λf Ah A outer s H E hr=>
  (am (d9 (nY hr.units (ag 0) fZ)
  (aD (bi (Gd (ag 1) (AV (ag 2)))))
  bX)
  (am (d9 (nY hr.units (ag 0) fZ)
  (aD (bi (NQ (ag 1) (AV (ag 2)))))
  bX)
  (am (d9 (nY hr.units (ag 0) fZ)
  (aD (bi (Gd (ag 1) (AV (AW (ag 2))))))
  bX)
  (am (d9 (nY hr.units (ag 0) fZ)
  (aD (bi (NR hr.units (ag 1) (ag 2))))
  bX)
  (aD iB)))))
theorem rL (z:Zs mg)(d:bY K mg "stretch_of" gG ["low","high"])(Jab:gk K mg "NO_NUMBERS" (.tup [(.bl false),(.tup [])]))(Jag:gk K mg "ALL_NUMBERS" (.tup [(.bl true),(.tup [])])):bR P w K mg base 1 "stretch_of" ["low","high"] eh :=
 okP (k:=0) d pI λf Ah A outer s H E hr=>
  (am (d9 (Ky (p0 (wK (ag 0)) (nR (wK (ag 1)))))
  (aD (bi (iC Jag)))
  bX)
  (am (d9 (wK (ag 0))
  (aD (bi (cw (ah rC (ah (cw (ah (ag 1) ao)) ao)))))
  bX)
  (am (d9 (wK (ag 1))
  (aD (bi (cw (ah rC (ah (cw (ah (ag 0) ao)) ao)))))
  bX)
  (am (d9 (Kz (ag 1) (ag 0))
  (aD (bi (iC Jab)))
  bX)
  (aD (bi (cw (ah rC (ah (cw (ah (ag 0) (ah (ag 1) ao))) ao)))))))))
theorem JEo (z:Zs mg)(d:bY K mg "blend" jo ["one","other","word"])(iJ:bR P w K mg base 1 "truth_by" ["word","one","other"] bB):bR P w K mg base 2 "blend" ["one","other","word"] (jZ (!HS.bt w)) :=
 okP (k:=1) d cg λf Ah A outer s H E hr=>
  (am (aQ 3 cg.nd (bf (ag 0) al))
  (am (aQ 4 cg.nd (bf (ag 1) al))
  (am (aQ 5 cg.nd (aX iJ (hr.mono ∅) (ah (bx (ag 2)) (ah (bx (ag 3)) (ah (bx (ag 4)) ao)))))
  (am (aQ 6 cg.nd (ag 5))
  (am (aQ 7 cg.nd (AX rfl rfl (z 1 _ rfl) (ah (gN [] ["edge"] [] rfl (show aG (ai jo) _ ["edge"] [] by ac_rfl) (e8 (bf (ag 0) al)) (λcl C s₂ H₂ fp=>{(dM 0 (show(["edge"]:Tn).Nodup by decide)),jF,(cw (ah (ag 0) (ah rC ao)))})) ao)))
  (am (aQ 8 cg.nd (AX rfl rfl (z 1 _ rfl) (ah (gN [] ["edge"] [] rfl (show aG (ai jo) _ ["edge"] [] by ac_rfl) (e8 (bf (ag 1) al)) (λcl C s₂ H₂ fp=>{(dM 0 (show(["edge"]:Tn).Nodup by decide)),jF,(cw (ah (ag 0) (ah rC ao)))})) ao)))
  (am (aQ 9 cg.nd (i7 ao))
  (am (ly rfl (e8 (JAu rfl rfl (z 4 _ rfl) (ah (Lr (Ga rfl rfl (z 3 _ rfl) (ah (bf (ag 0) al) ao)) (Ga rfl rfl (z 3 _ rfl) (ah (bf (ag 1) al) ao))) ao))) (dM 10 cg.nd)
  (am (d9 (KB hr.units (ag 10) (ag 7))
  (aD (aQ 3 cg.nd (AW (ag 3))))
  bX)
  (am (d9 (KB hr.units (ag 10) (ag 8))
  (aD (aQ 4 cg.nd (AW (ag 4))))
  bX)
  (am (aQ 11 cg.nd (aX iJ (hr.mono ∅) (ah (bx (ag 2)) (ah (bx (ag 3)) (ah (bx (ag 4)) ao)))))
  (am (d9 (Db hr.units (ag 11) (ag 6))
  (aD (du (lD (ag 9) (ah (ag 10) ao))))
  bX)
  (aD (aQ 6 cg.nd (ag 11))))))) PassesOwn.never)
  (aD (bi (cw (ah (ag 5) (ah (JC1 rfl (z 5 _ rfl) (ah (ag 9) ao)) ao)))))))))))))
theorem vU (z:Zs mg)(d:bY K mg "reach_at" jl ["plot","turn"])  : bR P w K mg base 1 "reach_at" ["plot","turn"] dI :=
 okP (k:=0) d gq λf Ah A outer s H E hr=>
  (am (aQ 2 gq.nd (bf (ag 0) al))
  (am (ly rfl (e8 (bf (ag 0) al)) (dM 3 gq.nd)
  (am (d9 (NG (bf (ag 3) al) (ag 1))
  (aD JDv)
  bX)
  (aD (aQ 2 gq.nd (bf (ag 3) al)))) PassesOwn.never)
  (aD (bi (ag 2)))))
theorem ub (z:Zs mg)(d:bY K mg "all_spots" iw ["plots"])  : bR P w K mg base 1 "all_spots" ["plots"] c6 :=
 okP (k:=0) d rf λf Ah A outer s H E hr=>
  (am (d9 (nY hr.units (ot rfl (z 2 _ rfl) (ah (ag 0) ao)) al)
  (aD (bi (bf (ag 0) al)))
  bX)
  (aD iB))
theorem vR (z:Zs mg)(d:bY K mg "table_of" eX ["pairs"])(jD:bR P w K mg base 1 "all_spots" ["plots"] c6)(Jad:gk K mg "NO_SPOTS" (.tup [(.tup [(.bl false),(.tup [])]),(.tup [])])):kC P w K mg base 2 "table_of" ["pairs"] (f7 (!HS.bt w)) :=
 okN (k:=1) d eZ λf Ah A outer s H E hr=>
  (am (aQ 1 eZ.nd Lq)
  (am (ly rfl (e8 (ag 0)) (yY rfl (dj (dM 2 eZ.nd) (dj (dM 3 eZ.nd) mC)))
  (aD (du (lD (JFq hr.units (ag 1) (ag 2) (i7 ao)) (ah (ag 3) ao)))) PassesOwn.never)
  (am (l9 4 [1] ["row"] ["plots"] rfl (show aG (ai eX) _ ["row"] ["plots"] by ac_rfl) eZ.nd (e8 (yr rfl rfl (z 4 _ rfl) (ah (ag 1) ao))) (λcl C s₂ H₂ fp=>{(dM 0 (show(["row","plots"]:Tn).Nodup by decide)),jF,(cw (ah (ag 0) (ah (aX jD (hr.mono ∅) (ah (bx (Ll hr.units (ag 1) (ag 0))) ao)) ao)))}))
  (aD (bi (gN [] ["entry"] [] rfl (show aG (ai eX) _ ["entry"] [] by ac_rfl) (e8 (ag 4)) (λcl C s₂ H₂ fp=>{(dM 0 (show(["entry"]:Tn).Nodup by decide)),(Gz (Db hr.units (bf (ag 0) al) (iC Jad))),(ag 0)})))))))
theorem vS (z:Zs mg)(d:bY K mg "slice_of" eY ["table","turn"])(kS:bR P w K mg base 1 "reach_at" ["plot","turn"] dI)(Jab:gk K mg "NO_NUMBERS" (.tup [(.bl false),(.tup [])])):kC P w K mg base 2 "slice_of" ["table","turn"] eI :=
 okN (k:=1) d mO λf Ah A outer s H E hr=>
  (am (l9 2 [1] ["row","plot"] ["turn"] rfl (show aG (ai eY) _ ["row","plot"] ["turn"] by ac_rfl) mO.nd (e8 (ag 0)) (λcl C s₂ H₂ fp=>{(yY rfl (dj (dM 0 (show(["row","plot","turn"]:Tn).Nodup by decide)) (dj (dM 1 (show(["row","plot","turn"]:Tn).Nodup by decide)) mC))),jF,(cw (ah (ag 0) (ah (aX kS (hr.mono ∅) (ah (bx (ag 1)) (ah (bx (ag 2)) ao))) ao)))}))
  (aD (bi (gN [] ["row","reach"] [] rfl (show aG (ai eY) _ ["row","reach"] [] by ac_rfl) (e8 (ag 2)) (λcl C s₂ H₂ fp=>{(yY rfl (dj (dM 0 (show(["row","reach"]:Tn).Nodup by decide)) (dj (dM 1 (show(["row","reach"]:Tn).Nodup by decide)) mC))),(Gz (Db hr.units (ag 1) (iC Jab))),(cw (ah (ag 0) (ah (cw (ah (ag 1) (ah (cw ao) ao))) ao)))})))))
theorem vT (z:Zs mg)(d:bY K mg "shape_of" jk ["shapes","name"])  : bR P w K mg base 1 "shape_of" ["shapes","name"] bO :=
 okP (k:=0) d mP λf Ah A outer s H E hr=>
  (am (ly rfl (e8 (ag 0)) (dM 2 mP.nd)
  (aD (d9 (nY hr.units (bf (ag 2) al) (ag 1))
  (aD (bi (ag 2)))
  bX)) PassesOwn.never)
  (aD iB))
theorem pR (z:Zs mg)(d:bY K mg "check_width" fW ["numbers","width"])  : bR P w K mg base 1 "check_width" ["numbers","width"] dB :=
 okP (k:=0) d jq λf Ah A outer s H E hr=>
  (am (aQ 2 jq.nd (ot rfl (z 2 _ rfl) (ah (ag 0) ao)))
  (aD (d9 (Db hr.units (ag 2) (ag 1))
  (aD iB)
  bX)))
theorem nj (z:Zs mg)(d:bY K mg "check_stretch" eE ["low","high"])  : bR P w K mg base 1 "check_stretch" ["low","high"] cL :=
 okP (k:=0) d l8 λf Ah A outer s H E hr=>
  (aD (d9 (Ky (p0 (zV (ag 0)) (p0 (zV (ag 1)) (nR (Kz (ag 1) (ag 0))))))
  (aD iB)
  bX))
theorem yQ (z:Zs mg)(d:bY K mg "is_tell" kI ["telling"])  : bR P w K mg base 1 "is_tell" ["telling"] bK :=
 okP (k:=0) d vt λf Ah A outer s H E hr=>
  (aD (bi (NS hr.units (bf (ag 0) al) fZ)))
theorem ni (z:Zs mg)(d:bY K mg "check_telling" eD ["shapes","telling"])(cG:bR P w K mg base 1 "shape_of" ["shapes","name"] bO)(gQ:bR P w K mg base 1 "check_width" ["numbers","width"] dB)(fw:bR P w K mg base 1 "check_stretch" ["low","high"] cL)(eN:bR P w K mg base 1 "is_tell" ["telling"] bK):bR P w K mg base 2 "check_telling" ["shapes","telling"] bj :=
 okP (k:=1) d g8 λf Ah A outer s H E hr=>
  (am (aQ 2 g8.nd (jS cG (hr.mono ∅) (ah (ag 0) (ah (bf (ag 1) al) ao))))
  (am (du (aX gQ (hr.mono ∅) (ah (bx (bf (ag 1) al)) (ah (bx (Ic (wJ (aX eN (hr.mono ∅) (ah (bx (ag 1)) ao))) (bf (ag 2) al) (bf (ag 2) al))) ao))))
  (aD (du (aX fw (hr.mono ∅) (ah (bx (bf (ag 1) al)) (ah (bx (bf (ag 1) al)) ao)))))))
theorem rO (z:Zs mg)(d:bY K mg "last_reach" gH ["plot"])  : bR P w K mg base 1 "last_reach" ["plot"] cF :=
 okP (k:=0) d pK λf Ah A outer s H E hr=>
  (aD (bi (Ic (wJ (bf (ag 0) al)) (bf (bf (bf (ag 0) al) (w4 al)) al) (bf (ag 0) al))))
theorem yP (z:Zs mg)(d:bY K mg "stepped" kH ["plot","turn","reach"])(dh:bR P w K mg base 1 "last_reach" ["plot"] cF):bR P w K mg base 2 "stepped" ["plot","turn","reach"] hJ :=
 okP (k:=1) d vq λf Ah A outer s H E hr=>
  (am (d9 (nY hr.units (ag 2) (aX dh (hr.mono ∅) (ah (bx (ag 0)) ao)))
  (aD (bi (ag 0)))
  bX)
  (aD (bi (cw (ah (bf (ag 0) al) (ah (cY (bf (ag 0) al) (cw (ah (cw (ah (ag 1) (ah (ag 2) ao))) ao))) ao))))))
theorem yO (z:Zs mg)(d:bY K mg "told_on" kG ["table","keys","telling","turn"])(iK:bR P w K mg base 1 "stretch_of" ["low","high"] eh)(eN:bR P w K mg base 1 "is_tell" ["telling"] bK)(kQ:kC P w K mg base 2 "table_of" ["pairs"] (f7 (!HS.bt w)))(mB:bR P w K mg base 2 "stepped" ["plot","turn","reach"] hJ)(rV:bR P w K mg base 2 "blend" ["one","other","word"] (jZ (!HS.bt w)))(dh:bR P w K mg base 1 "last_reach" ["plot"] cF)(Jad:gk K mg "NO_SPOTS" (.tup [(.tup [(.bl false),(.tup [])]),(.tup [])])):kC P w K mg base 3 "told_on" ["table","keys","telling","turn"] (dR (!HS.bt w)) :=
 okN (k:=2) d cW λf Ah A outer s H E hr=>
  (am (aQ 4 cW.nd (bf (ag 2) al))
  (am (aQ 5 cW.nd (aX iK (hr.mono ∅) (ah (bx (bf (ag 2) al)) (ah (bx (bf (ag 2) al)) ao))))
  (am (aQ 6 cW.nd (JC2 hr.units rfl rfl (z 1 _ rfl) (ah (ag 0) ao)))
  (am (d9 (wJ (aX eN (hr.mono ∅) (ah (bx (ag 2)) ao)))
  (aD (du (Ln hr.units (ag 6) (ag 4) (iC Jad))))
  bX)
  (am (aQ 7 cW.nd (i7 ao))
  (am (JF0 rfl (JEu (ag 6)) (yY rfl (dj (dM 8 cW.nd) (dj (dM 9 cW.nd) mC)))
  (aD (d9 (wL hr.units (HY (Lu (ag 8)) yt (tH (ag 1))) (HY (Lu (ag 4)) yt (tH (ag 1))))
  (am (aQ 10 cW.nd (Ic (Ky (p0 (wJ (aX eN (hr.mono ∅) (ah (bx (ag 2)) ao))) (nR (wL hr.units (ag 8) (ag 4))))) fZ fZ))
  (aD (du (lD (ag 7) (ah (cw (ah (ag 8) (ah (aX mB (hr.mono ∅) (ah (bx (ag 9)) (ah (bx (ag 3)) (ah (bx (aX rV (hr.mono ∅) (ah (bx (aX dh (hr.mono ∅) (ah (bx (ag 9)) ao))) (ah (bx (ag 5)) (ah (bx (ag 10)) ao))))) ao)))) ao))) ao)))))
  (aD (du (lD (ag 7) (ah (cw (ah (ag 8) (ah (ag 9) ao))) ao)))))) PassesOwn.never)
  (aD (bi (lC kQ (hr.mono ∅) (ah (ag 7) ao))))))))))
theorem vW (z:Zs mg)(d:bY K mg "_law_cell" jn ["script","k"])  : bR P w K mg base 1 "_law_cell" ["script","k"] cE :=
 okP (k:=0) d tt λf Ah A outer s H E hr=>
  (am (d9 (NF (ag 1) (ot rfl (z 2 _ rfl) (ah (ag 0) ao)))
  (aD (bi (bf (ag 0) (ag 1))))
  bX)
  (aD (bi al)))
theorem vV (z:Zs mg)(d:bY K mg "_law_stir" jm ["cell","k"])  : bR P w K mg base 1 "_law_stir" ["cell","k"] aV :=
 okP (k:=0) d jp λf Ah A outer s H E hr=>
  (am (aQ 2 jp.nd (cI (qg (cY (cI (ag 0) al) al) al) al))
  (am (aQ 2 jp.nd (cI (cY (cY (qg (ag 2) (ag 2)) (qg (ag 1) al)) al) al))
  (aD (bi (cI (qg (ag 2) (ag 2)) al)))))
theorem rN (z:Zs mg)(d:bY K mg "_law_shapes" eS ["cell"])(bu:bR P w K mg base 1 "_law_stir" ["cell","k"] aV):bR P w K mg base 2 "_law_shapes" ["cell"] df :=
 okP (k:=1) d bG λf Ah A outer s H E hr=>
  (am (aQ 1 bG.nd (aX bu (hr.mono ∅) (ah (bx (ag 0)) (ah al ao))))
  (am (aQ 2 bG.nd (JGt fZ (gN [0] ["k"] ["cell"] rfl (show aG (ai eS) _ ["k"] ["cell"] by ac_rfl) (Eo rfl (z 6 _ rfl) (cY al (cI (ag 1) al))) (λcl C s₂ H₂ fp=>{(dM 0 (show(["k","cell"]:Tn).Nodup by decide)),jF,(Gc fZ (cI (i8 (aX bu (hr.mono ∅) (ah (bx (ag 1)) (ah (bx (cY al (ag 0))) ao))) al) al))}))))
  (am (aQ 3 bG.nd (cI (i8 (ag 1) al) (JE9 rfl (z 2 _ rfl) (ah (ag 2) ao))))
  (am (aQ 4 bG.nd (i7 ao))
  (am (ly rfl (Eo rfl (z 6 _ rfl) (cY al (cI (i8 (ag 1) al) al))) (dM 5 bG.nd)
  (am (aQ 6 bG.nd (cY al (cI (i8 (aX bu (hr.mono ∅) (ah (bx (ag 0)) (ah (bx (cY al (ag 5))) ao))) al) (bf (i7 (ah al (ah al (ah al ao)))) (cI (i8 (ag 1) al) al)))))
  (am (aQ 7 bG.nd (cY (cY (F9 (ag 2) yt (tH (ag 3))) (Gc fZ (ag 5))) (F9 (ag 2) (tH (cY (ag 3) al)) yt)))
  (aD (du (lD (ag 4) (ah (cw (ah (ag 7) (ah (cI (i8 (aX bu (hr.mono ∅) (ah (bx (ag 0)) (ah (bx (cY al (ag 5))) ao))) al) (cY (ag 6) al)) (ah (ag 6) ao)))) ao)))))) PassesOwn.never)
  (aD (bi (ag 4))))))))
theorem pQ (z:Zs mg)(d:bY K mg "_law_telling" d5 ["cell","shapes","scale"])(bu:bR P w K mg base 1 "_law_stir" ["cell","k"] aV):bR P w K mg base 2 "_law_telling" ["cell","shapes","scale"] bW :=
 okP (k:=1) d aU λf Ah A outer s H E hr=>
  (am (aQ 3 aU.nd (aX bu (hr.mono ∅) (ah (bx (ag 0)) (ah al ao))))
  (am (F1 (bf (ag 1) (cI (ag 3) (ot rfl (z 2 _ rfl) (ah (ag 1) ao)))) (yY rfl (dj (dM 4 aU.nd) (dj (dM 5 aU.nd) (dj (dM 6 aU.nd) mC)))))
  (am (aQ 7 aU.nd (i7 (ah al (ah al (ah (w4 al) (ah (cI (ag 0) (wZ al al)) (ah (wY al (cI (ag 0) (wZ al al))) ao)))))))
  (am (aQ 8 aU.nd (JGs rfl (z 5 _ rfl) (ah (gN [7,0] ["k"] ["menu","cell"] rfl (show aG (ai d5) _ ["k"] ["menu","cell"] by ac_rfl) (Eo rfl (z 6 _ rfl) (ag 6)) (λcl C s₂ H₂ fp=>{(dM 0 (show(["k","menu","cell"]:Tn).Nodup by decide)),jF,(bf (ag 1) (cI (i8 (aX bu (hr.mono ∅) (ah (bx (ag 2)) (ah (bx (cY al (ag 0))) ao))) al) al))})) ao)))
  (am (aQ 9 aU.nd (qg (wY (cI (i8 (ag 3) al) al) al) (ag 2)))
  (am (aQ 10 aU.nd (cY (ag 9) (qg (cY al (cI (i8 (ag 3) al) al)) (ag 2))))
  (am (d9 (nY hr.units (cI (i8 (ag 3) al) al) al)
  (aD (aQ 9 aU.nd Gb))
  bX)
  (am (d9 (nY hr.units (cI (i8 (ag 3) al) al) al)
  (aD (aQ 10 aU.nd Gb))
  bX)
  (am (d9 (nY hr.units (cI (i8 (ag 3) al) al) al)
  (aD (bi (cw (ah fZ (ah (ag 4) (ah (Lm (ag 8) yt (tH (ag 5))) (ah (ag 9) (ah (ag 10) ao))))))))
  bX)
  (aD (bi (cw (ah fZ (ah (ag 4) (ah (ag 8) (ah (ag 9) (ah (ag 10) ao)))))))))))))))))
theorem ua (z:Zs mg)(d:bY K mg "_law_asked" iu ["book","telling"])(Jah:dG P w K mg base 5 "strike" qC ["self","name","key","low","high"] (cP (!HS.bt w)))(Jan:dG P w K mg base 5 "tell" qC ["self","name","row","low","high"] (dO (!HS.bt w))):m6 P w K mg base 6 "_law_asked" ["book","telling"] (cu (!HS.bt w)) :=
 okW (k:=5) d rc λf Ah A outer s H E hr=>
  (am (d9 (nY hr.units (bf (ag 1) al) fZ)
  (aD (bi (kL cf.n Jan (hr.mono ∅) (ag 0) (ah (bf (ag 1) al) (ah (bf (ag 1) al) (ah (bf (ag 1) al) (ah (bf (ag 1) al) ao)))))))
  bX)
  (aD (bi (kL cf.n Jah (hr.mono ∅) (ag 0) (ah (bf (ag 1) al) (ah (bf (ag 1) al) (ah (bf (ag 1) al) (ah (bf (ag 1) al) ao))))))))
theorem rM (z:Zs mg)(d:bY K mg "_law_slices" eR ["book","shapes","turn"])(kR:kC P w K mg base 2 "slice_of" ["table","turn"] eI)(Jak:dG P w K mg base 2 "table" qC ["self","name"] cx):m6 P w K mg base 3 "_law_slices" ["book","shapes","turn"] aL :=
 okW (k:=2) d pJ λf Ah A outer s H E hr=>
  (aD (bi (gN [0,2] ["shape"] ["book","turn"] rfl (show aG (ai eR) _ ["shape"] ["book","turn"] by ac_rfl) (e8 (ag 1)) (λcl C s₂ H₂ fp=>{(dM 0 (show(["shape","book","turn"]:Tn).Nodup by decide)),jF,(bx (lC kR (hr.mono ∅) (ah (kL cf.n Jak (hr.mono ∅) (ag 1) (ah (bf (ag 0) al) ao)) (ah (ag 2) ao))))}))))
theorem LO {f:A3}(z:Zs mg)(F:nQ K "law" "law" n5 f fd)(iL:bR P w K mg base 2 "_law_shapes" ["cell"] df)(Jaf:dG P w K mg base 1 "__init__" qC ["self","shapes"] bV)(Jaa:dG P w K mg base 1 "tables" qC ["self"] aO)(iM:bR P w K mg base 1 "_law_cell" ["script","k"] cE)(dg:m6 P w K mg base 3 "_law_slices" ["book","shapes","turn"] aL)(gP:bR P w K mg base 2 "_law_telling" ["cell","shapes","scale"] bW)(gz:m6 P w K mg base 6 "_law_asked" ["book","telling"] (cu (!HS.bt w)))(bu:bR P w K mg base 1 "_law_stir" ["cell","k"] aV):b9 P w K mg base j7 7 f fd ["script"] (zt K 1 (t6 (!HS.bt w))) :=
 Jr (k:=6) F cz λAh A outer s H E hr=>
  (am (aQ 1 cz.nd (aX iL (hr.mono ∅) (ah (bx (aX iM (hr.mono ∅) (ah (bx (ag 0)) (ah al ao)))) ao)))
  (am (aQ 2 cz.nd (bf (i7 (ah al (ah al (ah (wZ al al) ao)))) (cI (aX iM (hr.mono ∅) (ah (bx (ag 0)) (ah al ao))) al)))
  (am (aQ 3 cz.nd (nG cf.n cf.mks cf.kp Jaf (hr.mono ∅) (ah (ag 1) ao)))
  (am (aQ 4 cz.nd (i7 (ah (bx (gw dg (hr.mono ∅) (ah (ag 3) (ah (ag 1) (ah al ao))))) ao)))
  (am (aQ 5 cz.nd (i7 ao))
  (am (aQ 6 cz.nd (jR cf.n Jaa (hr.mono ∅) (ag 3)))
  (am (l9 7 [6] ["shape"] ["held"] rfl (show aG (ai n5) _ ["shape"] ["held"] by ac_rfl) cz.nd (e8 (ag 1)) (λcl C s₂ H₂ fp=>{(dM 0 (show(["shape","held"]:Tn).Nodup by decide)),jF,(bx (oq rfl (z 0 _ rfl) (ah (qh hr.units (ag 1) (bf (ag 0) al)) ao)))}))
  (am (ly rfl (e8 (HY (ag 0) yt (tH al))) (dM 8 cz.nd)
  (am (aQ 9 cz.nd (aX gP (hr.mono ∅) (ah (bx (ag 8)) (ah (bx (ag 1)) (ah (bx (ag 2)) ao)))))
  (am (du (gw gz (hr.mono ∅) (ah (ag 3) (ah (ag 9) ao))))
  (am (du (lD (ag 5) (ah (ag 9) ao)))
  (am (aQ 10 cz.nd (ot rfl (z 2 _ rfl) (ah (ag 5) ao)))
  (am (aQ 11 cz.nd (i7 (ah (wY (ag 10) al) ao)))
  (am (d9 (wL hr.units (cI (ag 10) al) al)
  (aD (du (lD (ag 11) (ah (cI (aX bu (hr.mono ∅) (ah (bx (ag 8)) (ah al ao))) (ag 10)) ao))))
  bX)
  (am (ly rfl (e8 (ag 11)) (dM 12 cz.nd)
  (aD (d9 (sS hr.units (bx (gw dg (hr.mono ∅) (ah (ag 3) (ah (ag 1) (ah (ag 12) ao))))) (bf (ag 4) (ag 12)))
  (aD (bi rC))
  bX)) PassesOwn.never)
  (am (d9 (Ky (p0 (wL hr.units (cI (ag 10) al) al) (nR (sS hr.units (bx (gw dg (hr.mono ∅) (ah (ag 3) (ah (ag 1) (ah (wY al (cI (ag 8) (wZ al al))) ao))))) (bf (ag 4) al)))))
  (aD (bi rC))
  bX)
  (am (du (lD (ag 4) (ah (bx (gw dg (hr.mono ∅) (ah (ag 3) (ah (ag 1) (ah (ag 10) ao))))) ao)))
  (am (aQ 13 cz.nd (jR cf.n Jaa (hr.mono ∅) (ag 3)))
  (am (ly rfl (Eo rfl (z 6 _ rfl) (ot rfl (z 2 _ rfl) (ah (ag 1) ao))) (dM 14 cz.nd)
  (am (d9 (sS hr.units (qh hr.units (ag 6) (bf (bf (ag 1) (ag 14)) al)) (bf (ag 7) (ag 14)))
  (aD (bi rC))
  bX)
  (aD (d9 (Ky (p0 (sS hr.units (bf (bf (ag 1) (ag 14)) al) (bf (ag 9) al)) (nR (sS hr.units (qh hr.units (ag 13) (bf (bf (ag 1) (ag 14)) al)) (bf (ag 7) (ag 14))))))
  (aD (bi rC))
  bX))) PassesOwn.never)
  (am (aQ 6 cz.nd (ag 13))
  (aD (l9 7 [13] ["shape"] ["tables"] rfl (show aG (ai n5) _ ["shape"] ["tables"] by ac_rfl) cz.nd (e8 (ag 1)) (λcl C s₂ H₂ fp=>{(dM 0 (show(["shape","tables"]:Tn).Nodup by decide)),jF,(bx (oq rfl (z 0 _ rfl) (ah (qh hr.units (ag 1) (bf (ag 0) al)) ao)))}))))))))))))))) PassesOwn.never)
  (am (aQ 15 cz.nd (nG cf.n cf.mks cf.kp Jaf (hr.mono ∅) (ah (ag 1) ao)))
  (am (ly rfl (e8 (ag 5)) (dM 9 cz.nd)
  (aD (du (gw gz (hr.mono ∅) (ah (ag 15) (ah (ag 9) ao))))) PassesOwn.never)
  (aD (bi (Lp hr.u65 (jR cf.n Jaa (hr.mono ∅) (ag 15)) (jR cf.n Jaa (hr.mono ∅) (ag 3)))))))))))))))
end
set_option maxHeartbeats 4000000 in
def JL {l:PySem.W.OpenLaw}{w:AF}{K:AP}{h:AD}{mg:Td}{fa qC:A3}(X:K.In h)(G:h.Ns mainGlobals mg)(hfa:mg "law" = some (.ref fa))
  (aC:PySem.W.nsIn K mainGlobals "Book" = some (some (.ref qC))) (pg:PySem.W.plainGet K qC Str.empty=true) (hd:PySem.W.hasDictIn K qC=true) (po:PySem.W.plainOver K qC=true) (sa:PySem.W.findIn K (.ref qC) "__setattr__" = some (some (.builtin "object.__setattr__"))) (mk:PySem.W.makesIn K qC=true) (kc:PySem.W.keepIn K (.ref qC)=true)
  (n_shape_list:PySem.W.findIn K (.ref qC) "shape_list" = some none)
  (n_tellings:PySem.W.findIn K (.ref qC) "tellings" = some none)
  (n_tables_now:PySem.W.findIn K (.ref qC) "tables_now" = some none)
  (a0:GN K qC "__init__" "Book.__init__" fJ)
  (a1:GN K qC "take" "Book.take" iA)
  (a2:GN K qC "tell" "Book.tell" iz)
  (a3:GN K qC "strike" "Book.strike" fX)
  (a4:GN K qC "table" "Book.table" gJ)
  (a5:GN K qC "tables" "Book.tables" d6)
  (a6:FK K "truth_by" jj)
  (a7:FK K "stretch_of" gG)
  (a8:FK K "blend" jo)
  (a9:FK K "reach_at" jl)
  (a10:FK K "all_spots" iw)
  (a11:FK K "table_of" eX)
  (a12:FK K "slice_of" eY)
  (a13:FK K "shape_of" jk)
  (a14:FK K "check_width" fW)
  (a15:FK K "check_stretch" eE)
  (a16:FK K "is_tell" kI)
  (a17:FK K "check_telling" eD)
  (a18:FK K "last_reach" gH)
  (a19:FK K "stepped" kH)
  (a20:FK K "told_on" kG)
  (a21:FK K "_law_cell" jn)
  (a22:FK K "_law_stir" jm)
  (a23:FK K "_law_shapes" eS)
  (a24:FK K "_law_telling" d5)
  (a25:FK K "_law_asked" iu)
  (a26:FK K "_law_slices" eR)
  (a27:FK K "law" n5)
  {Jay:A3} {Jbg:Nat} {Jbh:AB (Tg)} {Jat:A3} {Ja5:Nat} {Ja6:AB (Tg)} {Jav:A3} {Jba:Nat} {Jbb:AB (Tg)} {Jas:A3} {Ja1:Nat} {Ja2:AB (Tg)} {Ja9:A3} {Jbw:Nat} {Jbx:AB (Tg)} {Jaz:A3} {Jbi:Nat} {Jbj:AB (Tg)} {Ja0:A3} {Jbk:Nat} {Jbl:AB (Tg)} {Jau:A3} {Ja7:Nat} {Ja8:AB (Tg)} (Jao:PySem.W.nsIn K mainGlobals "NO_NUMBERS" = some (some (.ref Jay))) (Jap:K.lookup Jay=some {.type "tuple",none,.seq ([(.bool false),(.ref Jat)]:Te).toArray Jbg,Jbh}) (Jai:K.lookup Jat=some {.type "tuple",none,.seq ([]:Te).toArray Ja5,Ja6}) (Jal:PySem.W.nsIn K mainGlobals "ALL_NUMBERS" = some (some (.ref Jav))) (Jam:K.lookup Jav=some {.type "tuple",none,.seq ([(.bool true),(.ref Jas)]:Te).toArray Jba,Jbb}) (Jae:K.lookup Jas=some {.type "tuple",none,.seq ([]:Te).toArray Ja1,Ja2}) (Jaw:PySem.W.nsIn K mainGlobals "NO_SPOTS" = some (some (.ref Ja9))) (Jax:K.lookup Ja9=some {.type "tuple",none,.seq ([(.ref Ja0),(.ref Jaz)]:Te).toArray Jbw,Jbx}) (Jaq:K.lookup Jaz=some {.type "tuple",none,.seq ([]:Te).toArray Jbi,Jbj}) (Jar:K.lookup Ja0=some {.type "tuple",none,.seq ([(.bool false),(.ref Jau)]:Te).toArray Jbk,Jbl}) (Jaj:K.lookup Jau=some {.type "tuple",none,.seq ([]:Te).toArray Ja7,Ja8}) (z0:PySem.W.nsIn K mainGlobals "list" = some none) (z1:PySem.W.nsIn K mainGlobals "dict" = some none) (z2:PySem.W.nsIn K mainGlobals "len" = some none) (z3:PySem.W.nsIn K mainGlobals "set" = some none) (z4:PySem.W.nsIn K mainGlobals "sorted" = some none) (z5:PySem.W.nsIn K mainGlobals "tuple" = some none) (z6:PySem.W.nsIn K mainGlobals "range" = some none) :
  ∃fd:FuncData,(∀(s:A1) (v:A2),BindsTo s fd {[v],[]} [("script",v)])/\∀base:AD,K.In base->base.Ns mainGlobals mg->b9 l.prog w K mg base j7 7 fa fd ["script"] (λvs H Q E=>∀b,zt K 1 (t6 b) vs H Q E):=by
 have z:Zs mg:=(im (zbw X G z0) (im (zbw X G z1) (im (zbw X G z2) (im (zbw X G z3) (im (zbw X G z4) (im (zbw X G z5) (im (zbw X G z6) JE4)))))));have Jab:gk K mg "NO_NUMBERS" (.tup [(.bl false),(.tup [])]):=ph (zb8 X G Jao) (jK Jap (show 2<=sizeLine by decide) (ff Ct (ff (jK Jai (show 0<=sizeLine by decide) gD) gD)));have Jag:gk K mg "ALL_NUMBERS" (.tup [(.bl true),(.tup [])]):=ph (zb8 X G Jal) (jK Jam (show 2<=sizeLine by decide) (ff Ct (ff (jK Jae (show 0<=sizeLine by decide) gD) gD)));have Jad:gk K mg "NO_SPOTS" (.tup [(.tup [(.bl false),(.tup [])]),(.tup [])]):=ph (zb8 X G Jaw) (jK Jax (show 2<=sizeLine by decide) (ff (jK Jar (show 2<=sizeLine by decide) (ff Ct (ff (jK Jaj (show 0<=sizeLine by decide) gD) gD))) (ff (jK Jaq (show 0<=sizeLine by decide) gD) gD)));have cf:CF K mg qC:={{aC,zb8 X G aC,⟨pg,hd,po,sa⟩},n_shape_list,n_tellings,n_tables_now,mk,kc};have Jbr:=a0.at_ (ps:=["self","shapes"]) (λ_ _ _ _ _ _=>ww λ_ _=>rfl);have Jbs:=a1.at_ (ps:=["self","telling"]) (λ_ _ _ _ _ _=>ww λ_ _=>rfl);have Jbt:=a2.at_ (ps:=["self","name","row","low","high"]) (λ_ _ _ _ _ _=>Pj λ_ _ _ _ _=>rfl);have Jbc:=a3.at_ (ps:=["self","name","key","low","high"]) (λ_ _ _ _ _ _=>Pj λ_ _ _ _ _=>rfl);have Jbm:=a4.at_ (ps:=["self","name"]) (λ_ _ _ _ _ _=>ww λ_ _=>rfl);have Jbd:=a5.at_ (ps:=["self"]) (λ_ _ _ _ _ _=>Fe λ_=>rfl);have Jby:=a6.at_ (ps:=["word","one","other"]) X G (λ_ _ _ _ _ _=>JS λ_ _ _=>rfl);have Jbn:=a7.at_ (ps:=["low","high"]) X G (λ_ _ _ _ _ _=>ww λ_ _=>rfl);have Jb8:=a8.at_ (ps:=["one","other","word"]) X G (λ_ _ _ _ _ _=>JS λ_ _ _=>rfl);have Jbz:=a9.at_ (ps:=["plot","turn"]) X G (λ_ _ _ _ _ _=>ww λ_ _=>rfl);have Jbu:=a10.at_ (ps:=["plots"]) X G (λ_ _ _ _ _ _=>Fe λ_=>rfl);have Jb0:=a11.at_ (ps:=["pairs"]) X G (λ_ _ _ _ _ _=>Fe λ_=>rfl);have Jb1:=a12.at_ (ps:=["table","turn"]) X G (λ_ _ _ _ _ _=>ww λ_ _=>rfl);have Jb2:=a13.at_ (ps:=["shapes","name"]) X G (λ_ _ _ _ _ _=>ww λ_ _=>rfl);have Jbe:=a14.at_ (ps:=["numbers","width"]) X G (λ_ _ _ _ _ _=>ww λ_ _=>rfl);have Ja3:=a15.at_ (ps:=["low","high"]) X G (λ_ _ _ _ _ _=>ww λ_ _=>rfl);have Jb5:=a16.at_ (ps:=["telling"]) X G (λ_ _ _ _ _ _=>Fe λ_=>rfl);have Ja4:=a17.at_ (ps:=["shapes","telling"]) X G (λ_ _ _ _ _ _=>ww λ_ _=>rfl);have Jbo:=a18.at_ (ps:=["plot"]) X G (λ_ _ _ _ _ _=>Fe λ_=>rfl);have Jb6:=a19.at_ (ps:=["plot","turn","reach"]) X G (λ_ _ _ _ _ _=>JS λ_ _ _=>rfl);have Jb7:=a20.at_ (ps:=["table","keys","telling","turn"]) X G (λ_ _ _ _ _ _=>Pk λ_ _ _ _=>rfl);have Jb3:=a21.at_ (ps:=["script","k"]) X G (λ_ _ _ _ _ _=>ww λ_ _=>rfl);have Jb4:=a22.at_ (ps:=["cell","k"]) X G (λ_ _ _ _ _ _=>ww λ_ _=>rfl);have Jbp:=a23.at_ (ps:=["cell"]) X G (λ_ _ _ _ _ _=>Fe λ_=>rfl);have Jbf:=a24.at_ (ps:=["cell","shapes","scale"]) X G (λ_ _ _ _ _ _=>JS λ_ _ _=>rfl);have Jbv:=a25.at_ (ps:=["book","telling"]) X G (λ_ _ _ _ _ _=>ww λ_ _=>rfl);have Jbq:=a26.at_ (ps:=["book","shapes","turn"]) X G (λ_ _ _ _ _ _=>JS λ_ _ _=>rfl);obtain⟨fdL,FL,bL⟩:=a27.law (ps:=["script"]) X G hfa (λ_ _ _ _ _ _=>Fe λ_=>rfl);refine{fdL,λs v=>bL s [v] rfl,λbase _ _=>?_};have Jaf:=ue (P:=l.prog) (w:=w) (base:=base) cf z Jbr;have Jaa:=pS (P:=l.prog) (w:=w) (base:=base) cf z Jbd
 have iJ:=vQ (P:=l.prog) (w:=w) (base:=base) cf z Jby
 have iK:=rL (P:=l.prog) (w:=w) (base:=base) cf z Jbn Jab Jag;have kS:=vU (P:=l.prog) (w:=w) (base:=base) cf z Jbz;have jD:=ub (P:=l.prog) (w:=w) (base:=base) cf z Jbu;have cG:=vT (P:=l.prog) (w:=w) (base:=base) cf z Jb2;have gQ:=pR (P:=l.prog) (w:=w) (base:=base) cf z Jbe;have fw:=nj (P:=l.prog) (w:=w) (base:=base) cf z Ja3;have eN:=yQ (P:=l.prog) (w:=w) (base:=base) cf z Jb5;have dh:=rO (P:=l.prog) (w:=w) (base:=base) cf z Jbo;have iM:=vW (P:=l.prog) (w:=w) (base:=base) cf z Jb3;have bu:=vV (P:=l.prog) (w:=w) (base:=base) cf z Jb4;have Jak:=rP (P:=l.prog) (w:=w) (base:=base) cf z Jbm cG;have rV:=JEo (P:=l.prog) (w:=w) (base:=base) cf z Jb8 iJ;have kQ:=vR (P:=l.prog) (w:=w) (base:=base) cf z Jb0 jD Jad;have kR:=vS (P:=l.prog) (w:=w) (base:=base) cf z Jb1 kS Jab;have fu:=ni (P:=l.prog) (w:=w) (base:=base) cf z Ja4 cG gQ fw eN;have mB:=yP (P:=l.prog) (w:=w) (base:=base) cf z Jb6 dh;have iL:=rN (P:=l.prog) (w:=w) (base:=base) cf z Jbp bu;have gP:=pQ (P:=l.prog) (w:=w) (base:=base) cf z Jbf bu;have mz:=yO (P:=l.prog) (w:=w) (base:=base) cf z Jb7 iK eN kQ mB rV dh Jad;have dg:=rM (P:=l.prog) (w:=w) (base:=base) cf z Jbq kR Jak;have Jac:=ud (P:=l.prog) (w:=w) (base:=base) cf z Jbs fu mz cG;have Jan:=uc (P:=l.prog) (w:=w) (base:=base) cf z Jbt Jac;have Jah:=pT (P:=l.prog) (w:=w) (base:=base) cf z Jbc Jac;have gz:=ua (P:=l.prog) (w:=w) (base:=base) cf z Jbv Jah Jan;exact(LO (P:=l.prog) (w:=w) (base:=base) cf z FL iL Jaf Jaa iM dg gP gz bu).imp λ_ _ _ _ h=>h _
end
end LW
namespace LW
open HW
def sO (a0 a1:R)(U:ac):bV [a0,a1] U=(jN [some a0,some a1] U).bind r9:=rfl
def sN (bt:A7)(a0 a1:R)(U:ac):bF bt [a0,a1] U=(jM bt [some a0,some a1,none,none,none] U).bind r9:=rfl
def sM (bt:A7)(a0 a1 a2 a3 a4:R)(U:ac):dO bt [a0,a1,a2,a3,a4] U=(jL bt [some a0,some a1,some a2,some a3,some a4] U).bind r9:=rfl
def pG (bt:A7)(a0 a1 a2 a3 a4:R)(U:ac):cP bt [a0,a1,a2,a3,a4] U=(gU bt [some a0,some a1,some a2,some a3,some a4] U).bind r9:=rfl
def qY (a0 a1:R)(U:ac):cx [a0,a1] U=(iX [some a0,some a1] U).bind r9:=rfl
def pF (a0:R)(U:ac):aO [a0] U=(gT [some a0] U).bind r9:=rfl
def nV (a0 a1 a2:D):bB [a0,a1,a2]=gc (iR [some (.v a0),some (.v a1),some (.v a2)] []):=rfl
def qU (a0 a1:D):eh [a0,a1]=gc (iS [some (.v a0),some (.v a1)] []):=rfl
def JB4 (bt:A7)(a0 a1 a2:D):jZ bt [a0,a1,a2]=gc (sB bt [some (.v a0),some (.v a1),some (.v a2),none,none,none,none,none,none,none,none,none] []):=rfl
def u0 (a0 a1:D):dI [a0,a1]=gc (k7 [some (.v a0),some (.v a1),none,none] []):=rfl
def uX (bt:A7)(a0:D):f7 bt [a0]=qy (kX bt [some (.v a0),none,none,none,none] []):=rfl
def uY (a0 a1:D):eI [a0,a1]=qy (kY [some (.v a0),some (.v a1),none] []):=rfl
def uZ (a0 a1:D):bO [a0,a1]=gc (kZ [some (.v a0),some (.v a1),none] []):=rfl
def pE (a0 a1:D):dB [a0,a1]=gc (gS [some (.v a0),some (.v a1),none] []):=rfl
def ng (a0 a1:D):cL [a0,a1]=gc (fG [some (.v a0),some (.v a1)] []):=rfl
def p5 (a0:D):bK [a0]=gc (fV [some (.v a0)] []):=rfl
def nc (a0 a1:D):bj [a0,a1]=gc (dH [some (.v a0),some (.v a1),none] []):=rfl
def qX (a0:D):cF [a0]=gc (iW [some (.v a0)] []):=rfl
def yc (a0 a1 a2:D):hJ [a0,a1,a2]=gc (j5 [some (.v a0),some (.v a1),some (.v a2)] []):=rfl
def yb (bt:A7)(a0 a1 a2 a3:D):dR bt [a0,a1,a2,a3]=qy (mI bt [some (.v a0),some (.v a1),some (.v a2),some (.v a3),none,none,none,none,none,none,none] []):=rfl
def u4 (a0 a1:D):cE [a0,a1]=gc (iV [some (.v a0),some (.v a1)] []):=rfl
def u3 (a0 a1:D):aV [a0,a1]=gc (k8 [some (.v a0),some (.v a1),none] []):=rfl
def qW (a0:D):df [a0]=gc (iU [some (.v a0),none,none,none,none,none,none,none] []):=rfl
def pC (a0 a1 a2:D):bW [a0,a1,a2]=gc (eV [some (.v a0),some (.v a1),some (.v a2),none,none,none,none,none,none,none,none] []):=rfl
def sL (bt:A7)(a0 a1:R)(U:ac):cu bt [a0,a1] U=(gF bt [some a0,some a1] U).bind r9:=rfl
def qV (a0 a1 a2:R)(U:ac):aL [a0,a1,a2] U=(iT [some a0,some a1,some a2] U).bind r9:=rfl
def J6 (bt:A7)(a0:D):t6 bt [a0]=gc (CK bt [some (.v a0),none,none,none,none,none,none,none,none,none,none,none,none,none,none,none] []):=rfl
abbrev Rc:=A7×Th
abbrev rD (r:Rc):D:=.tup [.bl r.1,.tup (r.2.map .int)]
abbrev sD (p:Int×Rc):D:=.tup [.int p.1,rD p.2]
def gO {n:Nat}{xs:P4 D}(h:okDs n xs=true):dQ (n+1) (.tup xs)=true:=by simpa[dQ] using h
def Br {n:Nat}{xs:P4 D}(h:okDs n xs=true):dQ (n+1) (.fl xs)=true:=by simpa[dQ] using h
def cZ {n:Nat}{x:D}{xs:P4 D}(h:dQ n x=true)(h':okDs n xs=true):okDs n (x::xs)=true:=by simp[okDs,h,h']
def jU {n:Nat}:okDs n []=true:=by cases n <;> rfl
def vG {n:Nat}(r:Rc):dQ (n+2) (rD r)=true:=gO (cZ LH (cZ (gO (jV _)) jU))
def IN {n:Nat}(p:Int×Rc):dQ (n+3) (sD p)=true:=gO (cZ IP (cZ (vG _) jU))
theorem xk {Z:Type}{n:Nat}{f:Z->D}(h:∀a,dQ n (f a)=true):∀xs:P4 Z,okDs n (xs.map f)=true
 |[]=>jU
 |x::xs=>cZ (h x) (xk h xs)
abbrev pD (g:Rc)(qs:P4 (Int×Rc)):D:=.tup [rD g,.tup (qs.map sD)]
def vH {n:Nat}(g:Rc)(qs:P4 (Int×Rc)):dQ (n+5) (pD g qs)=true:=gO (cZ (vG _) (cZ (gO (xk (λp=>IN p) qs)) jU))
def Bq (r:Rc):dQ 60 (rD r)=true:=vG r
def LG (g:Rc)(qs:P4 (Int×Rc)):dQ 60 (pD g qs)=true:=vH g qs
def uv (r s:Rc):jh (rD r) (rD s)=decide (r=s):=by let⟨a,xs⟩:=r;let⟨b,ys⟩:=s;rwa[rD,nN,wa,wb,si,cp,eu,fO,fP,qD,zbT,Prod.mk.injEq];cases a <;> cases b <;> simp
def Mt (p q:Int×Rc):jh (sD p) (sD q)=decide (p=q):=by let⟨a,r⟩:=p;let⟨b,s⟩:=q;have:=uv r s;rwa[sD,nN,wa,wb,si,cp,eu,fO,fP,zbT,Prod.mk.injEq,zcQ] at this ⊢;rw[this];congr 1
theorem xN {Z:Type}[DecidableEq Z]{f:Z->D}(h:∀a b,jh (f a) (f b)=decide (a=b)):∀xs ys:P4 Z,eqDs (xs.map f) (ys.map f)=decide (xs=ys)
 |[],[]=>by simp[cp,eu,fO,fP]
 |[],_::_=>by simp[cp,eu,fO,fP]
 |_::_,[]=>by simp[cp,eu,fO,fP]
 |x::xs,y::ys=>by rwa[Ak,cp,eu,fO,fP,h,xN h xs ys,List.cons.injEq,zcQ]
def Mu (g h:Rc)(ps qs:P4 (Int×Rc)):jh (pD g ps) (pD h qs)=decide (g=h/\ps=qs):=by
 show(jh (rD g) (rD h)&&(eqDs (ps.map sD) (qs.map sD)&&true))=_
 rw[uv,xN Mt,zbT,zcQ]
theorem oW:∀xs:Th,flatDs (xs.map .int)=true
 |[]=>rfl
 |x::xs=>by simp[flatDs,cN,oW xs]
def xD (r:Rc):cN (rD r)=true:=by simp[rD,cN,flatDs,oW]
theorem ul:∀ps:P4 (Int×Rc),flatDs (ps.map sD)=true
 |[]=>rfl
 |p::ps=>by
  show((true&&(cN (rD p.2)&&true))&&flatDs (ps.map sD))=true
  rw[xD,ul ps];rfl
def xE (g:Rc)(ps:P4 (Int×Rc)):cN (pD g ps)=true:=by have:=xD g;rwa[pD,cN,flatDs,ul,zbT] at *;exact this
abbrev Up (ps:P4 (Int×Rc)):Prop:=ps.Pairwise λa b=>a.1<b.1
def NA:Rc->P4 (Int×Rc)->Prop
 |_,[]=>True
 |g,p::ps=>p.2≠g/\NA p.2 ps
noncomputable def ra:Rc->P4 (Int×Rc)->Int->Rc
 |g,[],_=>g
 |g,p::ps,t=>if t<p.1 then g else ra p.2 ps t
def mJ {Z:Type}{f:Z->D}{xs:P4 Z}{k:Nat}{a:Z}(h:xs[k]?=some a):L2.kB (xs.map f) (k:Int)=some (f a):=sC ∅ (by simp[h])
noncomputable def lst:Rc->P4 (Int×Rc)->Rc
 |g,[]=>g
 |_,p::ps=>lst p.2 ps
theorem yl {Z:Type}{x y:Z}{l:P4 Z}:(x::l).set 0 y=y::l:=rfl
theorem sets {Z:Type}{x y:Z}{l:P4 Z}{n:Nat}:(x::l).set (n+1) y=x::l.set n y:=rfl
def Af {n m:Nat}(h:n<=m)(hm:m<=10000:=by decide):n<sizeLine:=by have:sizeLine=2 ^ 24:=rfl;omega
def N0 {Z:Type}{x:Z}{l:P4 Z}:(x::l)[0]?=some x:=rfl
structure J0 where
 p:Bool
 q:Bool
 last:Bool
 out:Th
noncomputable def aY (w:A7->A7->A7)(a b:Th)(s:J0)(e:Int):J0 :=
 let p:=if a.contains e then !s.p else s.p
 let q:=if b.contains e then !s.q else s.q
 {p,q,w p q,if w p q != s.last then s.out++[e] else s.out}
noncomputable def ig (w:A7->A7->A7)(a b:Th)(p q:A7)(es:Th):J0:=es.foldl (aY w a b) {p,q,w p q,[]}
noncomputable def cb (a b:Th):Th:=f9 (HS.aK (HS.aK [] a) (HS.aK [] b))
noncomputable def lu (e:Int):D:=.tup [.int e,.bl true]
theorem mT:∀(a:Th),mj (a.map lu)=some (a.map λe=>(.inl e,.bl true))
 |[]=>rfl
 |e::a=>by have ih:=mT a;rwa[Ak,lu] at ih ⊢;rwa[mj,ih,EB]
def JC4 (A4:P4 (L2.aE×D))(k x:L2.aE)(v:D):((fI A4 k v).any λkv=>decide (kv.1=x))=((A4.any λkv=>decide (kv.1=x)) || decide (k=x)):=by
 unfold fI;split
 ·rename_i h;have hm:((A4.map λkv=>if kv.1=k then (kv.1,v) else kv).any λkv=>decide (kv.1=x))=A4.any λkv=>decide (kv.1=x):=by rw[zcz];congr 1;funext kv;rwa[Function.comp];split <;> rfl
  rw[hm];by_cases e:k=x
  ·subst e;rw[h];rfl
  ·simp[e]
 ·rw[List.any_append];simp
theorem ou (x:L2.aE):∀(ps A4:P4 (L2.aE×D)),((aM A4 ps).any λkv=>decide (kv.1=x))=((A4.any λkv=>decide (kv.1=x)) || ps.any λkv=>decide (kv.1=x))
 |[],A4=>by simp[aM]
 |p::ps,A4=>by have ih:=ou x ps (fI A4 p.1 p.2);rwa[aM,E4] at ih ⊢;rw[ih,JC4,Er,Bool.or_assoc]
theorem y6 (a:Th)(e:Int):((aM [] (a.map λe=>((.inl e:L2.aE),D.bl true))).any λkv=>decide (kv.1=.inl e))=a.contains e:=by
 rw[ou];rwa[List.any_nil,Bool.false_or,zcz];induction a with
 |nil=>rfl
 |cons x a ih=>
  rw[Er,ih,List.contains_cons];congr 1;rwa[Function.comp];by_cases h:x=e
  ·subst h;simp
  ·have h':¬ e=x:=λz=>h z.symm;simp[h,h']
def pp {a:Th}{U:ac}{O:Lo}:bJ (bD 0) c8 (bM (af (ae 0) (af (fK (.bl true)) aj))) (a.map .int) (ca 1 [] O) U=some (a.map lu,U):=by
 have:=uF (g:=bD 0) (c:=c8) (f:=bM (af (ae 0) (af (fK (.bl true)) aj))) (U:=U) (λO=>∃x,O=[x]) (λ_=>true) (λd=>.tup [d,.bl true]) (xs:=a.map .int) (O:=ca 1 [] O) {none,rfl} (by intro x hx O hO;let⟨y,rfl⟩:=hO;refine{[some (.v x)],rfl,{_,rfl},rfl,λ_=>?_};rwa[B7,cU,lO,dF,Jx,gR,dE];exact xF rfl (show 2<=sizeLine by decide))
 rw[this,List.filter_eq_self.mpr (λ_ _=>rfl),Du];rfl
abbrev CB:FS:=(az (gW (fB (aw (Em false) (ae 10) (ae 7)))
  (aI 3 (pW (ae 3)))
  aZ)
  (az (gW (fB (aw (Em false) (ae 10) (ae 8)))
  (aI 4 (pW (ae 4)))
  aZ)
  (az (aI 11 (aW bB 3 (af (bA (ae 2)) (af (bA (ae 3)) (af (bA (ae 4)) aj)))))
  (az (gW (fB (aw (jg true) (ae 11) (ae 6)))
  (bE (qA gg (ae 9) (af (ae 10) aj)))
  aZ)
  (aI 6 (ae 11))))))
theorem Qz {Z:Type}{x y:Z}{l:P4 Z}:(x::y::l)[1]?=some y:=rfl
theorem Qx {Z:Type}{x y z u:Z}{l:P4 Z}:(x::y::z::u::l)[3]?=some u:=rfl
theorem NZ {Z:Type}{x y z u v:Z}{l:P4 Z}:(x::y::z::u::v::l)[4]?=some v:=rfl
def JB2 (a b:Th):(HS.aK (HS.aK [] a) (HS.aK [] b)).length<=a.length+b.length:=by have h1:=HS.jY (HS.aK [] b) (HS.aK [] a);have h2:=HS.jY b [];have h3:=HS.jY a [];rwa[GZ] at h2 h3;omega
theorem qr:∀(es:Th),hZ (es.map .int)=some es
 |[]=>rfl
 |e::es=>by simp[hZ,qr es]
def xH {bt:A7}{es:Th}{U:ac}(hl:es.length<4000):vp bt [.v (.tup (es.map .int))] U=some (.s bt (HS.aK [] es),U):=by rwa[vp,dw,qr,BZ,A8 hl]
def GC {bt:A7}{xs ys:Th}{U:ac}(hl:xs.length+ys.length<64):JV bt (.s bt xs) (.s bt ys) U=some (.s bt (HS.aK xs ys),U):=by rwa[JV,hl,and_self,if_true]
def JA9 {bt:A7}{es:Th}{U:ac}(hl:es.length<64):jP bt [.s bt es] U=some (.p U.length,U++[.lst ((f9 es).map .int)]):=by rwa[jP,hl,and_self,if_true]
def xL {n:Nat}{a:Th}{U:ac}(h:U[n]?=some (.lst (a.map lu))):o9 [.p n] U=some (.p U.length,U++[.dct (aM [] (a.map λe=>(.inl e,.bl true)))]):=by rwa[o9,h,mT,BZ]
def Cc {n:Nat}{a:Th}{e:Int}{U:ac}(h:U[n]?=some (.dct (aM [] (a.map λe=>(.inl e,.bl true))))):Em false (.v (.int e)) (.p n) U=some (.v (.bl (a.contains e)),U):=by rwa[Em,h,C8,if_false,y6]
def J8 (w:A7->A7->A7)(wd:Str)(hw:∀(x y:A7) (U:ac),l0 (some ([.v (.str wd),.v (.bl x),.v (.bl y)],U)) bB 3=some (.v (.bl (w x y)),U))
  (a b:Th) (s:J0) (e:Int) (x0 x1 x5 x10 Au:QI R) (c0 c2 c5:au) (hs:s.out.length<64) :
  JT (bD 10 (.v (.int e)) [x0,x1,some (.v (.str wd)),some (.v (.bl s.p)),some (.v (.bl s.q)),x5,some (.v (.bl s.last)),ba 1,ba 3,ba 4,x10,Au] [c0,.dct (aM [] (a.map λe=>(.inl e,.bl true))),c2,.dct (aM [] (b.map λe=>(.inl e,.bl true))),.lst (s.out.map .int),c5]) CB
   = some (.nx [x0,x1,some (.v (.str wd)),some (.v (.bl (aY w a b s e).p)),some (.v (.bl (aY w a b s e).q)),x5,some (.v (.bl (aY w a b s e).last)),ba 1,ba 3,ba 4,cS e,some (.v (.bl (aY w a b s e).last))] [c0,.dct (aM [] (a.map λe=>(.inl e,.bl true))),c2,.dct (aM [] (b.map λe=>(.inl e,.bl true))),.lst ((aY w a b s e).out.map .int),c5]):=by
 rw[Cd,ut];rwa[yl,sets,CB,mD,jH,uu,ja,mY,lO,fF,gf,Cc (n:=1) (a:=a) Qz,Ch]
 have T1:sQ (some (a.contains e,[c0,.dct (aM [] (a.map λe=>(.inl e,.bl true))),c2,.dct (aM [] (b.map λe=>(.inl e,.bl true))),.lst (s.out.map .int),c5])) (aI 3 (pW (ae 3))) aZ [x0,x1,some (.v (.str wd)),some (.v (.bl s.p)),some (.v (.bl s.q)),x5,some (.v (.bl s.last)),ba 1,ba 3,ba 4,cS e,Au]
   = some (.nx [x0,x1,some (.v (.str wd)),some (.v (.bl (aY w a b s e).p)),some (.v (.bl s.q)),x5,some (.v (.bl s.last)),ba 1,ba 3,ba 4,cS e,Au] [c0,.dct (aM [] (a.map λe=>(.inl e,.bl true))),c2,.dct (aM [] (b.map λe=>(.inl e,.bl true))),.lst (s.out.map .int),c5]):=by
  unfold aY;cases a.contains e <;> rfl
 rw[T1];rwa[gB,mD,jH,uu,ja,mY,lO,fF,gf,Cc (n:=3) (a:=b) Qx,Ch]
 have T2:sQ (some (b.contains e,[c0,.dct (aM [] (a.map λe=>(.inl e,.bl true))),c2,.dct (aM [] (b.map λe=>(.inl e,.bl true))),.lst (s.out.map .int),c5])) (aI 4 (pW (ae 4))) aZ [x0,x1,some (.v (.str wd)),some (.v (.bl (aY w a b s e).p)),some (.v (.bl s.q)),x5,some (.v (.bl s.last)),ba 1,ba 3,ba 4,cS e,Au]
   = some (.nx [x0,x1,some (.v (.str wd)),some (.v (.bl (aY w a b s e).p)),some (.v (.bl (aY w a b s e).q)),x5,some (.v (.bl s.last)),ba 1,ba 3,ba 4,cS e,Au] [c0,.dct (aM [] (a.map λe=>(.inl e,.bl true))),c2,.dct (aM [] (b.map λe=>(.inl e,.bl true))),.lst (s.out.map .int),c5]):=by
  unfold aY;cases b.contains e <;> rfl
 rw[T2];rwa[gB,mD,fA,xM,cU,xJ,mY,lO,Ce,dF,gR,dE,hw,lP,yl,sets,jH,uu,ja,fF,gf,Js,Ch];have e1:(aY w a b s e).last=w (aY w a b s e).p (aY w a b s e).q:=rfl
 have e2:(aY w a b s e).out=if w (aY w a b s e).p (aY w a b s e).q != s.last then s.out++[e] else s.out:=rfl
 rw[e1,e2];generalize w (aY w a b s e).p (aY w a b s e).q=here
 by_cases hc:here=s.last
 ·have c1:(!(here == s.last))=false:=by simp[hc]
  have c2:(here != s.last)=false:=by simp[hc]
  rw[c1,c2];rwa[JA,ED,gB,fA,mY,lO,lP,yl,sets,C8,if_false]
 ·have c1:(!(here == s.last))=true:=by simp[hc]
  have c2:(here != s.last)=true:=by simp[hc]
  rw[c1,c2];rwa[Jz,xK,GD,mY,lO,Jw (n:=4) (xs:=s.out.map .int) NZ,cU,dF,gR,dE,Jv,JG (n:=4) (xs:=s.out.map .int) NZ (by rw[Ay];exact Af (m:=64) ∅),Cf,gB,fA,lP,yl,sets,if_true,Cy,Ak,D1]
theorem Qy {Z:Type}{x y z:Z}{l:P4 Z}:(x::y::z::l)[2]?=some z:=rfl
theorem uK (w:A7->A7->A7)(a b:Th):∀(es:Th) (s:J0),(es.foldl (aY w a b) s).out.length<=s.out.length+es.length
 |[],s=>by simp
 |e::es,s=>by
  have h1:=uK w a b es (aY w a b s e);have h2:(aY w a b s e).out.length<=s.out.length+1:=by
   have:(aY w a b s e).out=if w (aY w a b s e).p (aY w a b s e).q != s.last then s.out++[e] else s.out:=rfl
   rw[this];split <;> simp
  rwa[E4,C3];omega
set_option maxHeartbeats 4000000 in
def JCa (bt:A7)(w:A7->A7->A7)(wd:Str)(hw:∀(x y:A7) (U:ac),l0 (some ([.v (.str wd),.v (.bl x),.v (.bl y)],U)) bB 3=some (.v (.bl (w x y)),U))
  (p q:A7) (a b:Th) (hl:a.length+b.length<64) :
  jZ bt [.tup [.bl p,.tup (a.map .int)],.tup [.bl q,.tup (b.map .int)],.str wd]=some (.tup [.bl (w p q),.tup ((ig w a b p q (cb a b)).out.map .int)]):=by
 rw[JB4];have i0:∀(x:A7) (es:Th),L2.kB [D.bl x,.tup (es.map .int)] 0=some (.bl x):=λ_ _=>rfl;have i1:∀(x:A7) (es:Th),L2.kB [D.bl x,.tup (es.map .int)] 1=some (.tup (es.map .int)):=λ_ _=>rfl
 have la:(a.map D.int).length<=sizeLine:=by rw[Ay];exact Ek (Af (m:=64) ∅)
 have lb:(b.map D.int).length<=sizeLine:=by rw[Ay];exact Ek (Af (m:=64) ∅)
 have ml:=JB2 a b;have ma:=HS.jY a [];have mb:=HS.jY b [];rwa[GZ] at ma mb
 simp only[sB,mD,fA,ja,lO,mY,fF,Jx,gf,v8 (i0 _ _),lP,yl,sets,gB,xM,cU,xJ,Ce,dF,gR,dE,hw,
  o5,EG,xI,v8 (i1 _ _),Ca,uq (U1:=[]) la pp,GZ,Dd,mF,xL (n:=0) (a:=a) N0,C3,HP,zb3]
 rw[uq (U1:=[.lst (a.map lu),.dct (aM [] (a.map λe=>(.inl e,.bl true)))]) lb pp]
 simp only[C3,GZ,zb3,Nat.reduceAdd,HP,Dd,dF,gR,dE,mF,xL (n:=2) (a:=b) Qy,lP,yl,sets,gB,mD,fA,B9,JEa (rs:=[]) (ds:=[]) rfl ∅,
  o0,xI,o5,cU,ja,lO,mY,fF,Jx,gf,v8 (i1 _ _),xH (es:=a) (show a.length<4000 by omega),xH (es:=b) (show b.length<4000 by omega),GC (xs:=HS.aK [] a) (ys:=HS.aK [] b) (show(HS.aK [] a).length+(HS.aK [] b).length<64 by omega),
  JA9 (es:=HS.aK (HS.aK [] a) (HS.aK [] b)) (show(HS.aK (HS.aK [] a) (HS.aK [] b)).length<64 by omega)]
 rw[JD (n:=5) (xs:=(f9 (HS.aK (HS.aK [] a) (HS.aK [] b))).map .int) rfl,Cb,lQ]
 have hul:(cb a b).length<64:=by unfold cb;rw[(dL _).length_eq];omega
 let⟨O',U',el,x10,Au,rfl,rfl⟩:=xq (g:=bD 10) (b:=CB) (xs:=(cb a b).map .int)
  (O:=[some (.v (.tup [.bl p,.tup (a.map .int)])),some (.v (.tup [.bl q,.tup (b.map .int)])),some (.v (.str wd)),some (.v (.bl p)),some (.v (.bl q)),some (.v (.bl (w p q))),some (.v (.bl (w p q))),ba 1,ba 3,ba 4,none,none])
  (U:=[.lst (a.map lu),.dct (aM [] (a.map λe=>(.inl e,.bl true))),.lst (b.map lu),.dct (aM [] (b.map λe=>(.inl e,.bl true))),.lst [],.fz ((cb a b).map .int)])
  (λi O U=>∃x10 Au,O=[some (.v (.tup [.bl p,.tup (a.map .int)])),some (.v (.tup [.bl q,.tup (b.map .int)])),some (.v (.str wd)),some (.v (.bl (ig w a b p q ((cb a b).take i)).p)),some (.v (.bl (ig w a b p q ((cb a b).take i)).q)),some (.v (.bl (w p q))),some (.v (.bl (ig w a b p q ((cb a b).take i)).last)),ba 1,ba 3,ba 4,x10,Au] /\
   U=[.lst (a.map lu),.dct (aM [] (a.map λe=>(.inl e,.bl true))),.lst (b.map lu),.dct (aM [] (b.map λe=>(.inl e,.bl true))),.lst ((ig w a b p q ((cb a b).take i)).out.map .int),.fz ((cb a b).map .int)])
  {none,none,rfl,rfl} (by
   rintro i x O U hx ⟨x10,Au,rfl,rfl⟩;rw[Bh] at hx;let⟨e,he,rfl⟩:=DX.mp hx;have hil:=(Bv.mp he).1
   have ht:(cb a b).take (i+1)=(cb a b).take i++[e]:=by rw[List.take_succ,he];rfl
   have hb:ig w a b p q ((cb a b).take (i+1))=aY w a b (ig w a b p q ((cb a b).take i)) e:=by unfold ig;rw[ht,List.foldl_append];rfl
   have G3:(ig w a b p q ((cb a b).take i)).out.length<64:=by
    have:=uK w a b ((cb a b).take i) {p,q,w p q,[]}
    rwa[GZ,zb5,zb3] at this
    unfold ig;omega
   rw[hb]
   exact{_,_,J8 w wd hw a b _ e _ _ _ _ _ _ _ _ G3,_,_,rfl,rfl})
 have el':=el;rw[Ay,List.take_length] at el';refine(AI (λo=>gc (Kj o _)) el').trans ?_;rwa[gB,mE,B7,cU,mY,lO,dF,o5,gR,dE,mF,JD9 (n:=4) (xs:=(ig w a b p q (cb a b)).out.map .int) NZ];rw[xF (ds:=[.bl (w p q),.tup ((ig w a b p q (cb a b)).out.map .int)]) rfl (show 2<=sizeLine by decide),EC,JE]
def JAj (xs:Th)(k z:Int):z∈HS.cC xs k ↔ z∈xs\/z=k:=by
 unfold HS.cC;split
 ·rename_i h;exact{.inl,λq=>q.elim id λe=>e ▸ h}
 ·simp
theorem nJ (z:Int):∀(ns xs:Th),z∈HS.aK xs ns ↔ z∈xs\/z∈ns
 |[],xs=>by simp[HS.aK]
 |n::ns,xs=>by have ih:=nJ z ns (HS.cC xs n);rwa[HS.aK,E4] at ih ⊢;rw[ih,JAj,Ax,or_assoc]
theorem mo:∀(ns xs:Th),xs.Nodup->(HS.aK xs ns).Nodup
 |[],xs,h=>h
 |n::ns,xs,h=>mo ns _ (HS.oA h)
def ji (a b:Th):(cb a b).Nodup/\(cb a b).Pairwise (·<=·)/\∀z,z∈cb a b ↔ z∈a\/z∈b:=by unfold cb;refine{(dL _).nodup_iff.mpr (mo _ _ (mo _ _ zcl)),iI _,λz=>?_};rw[(dL _).mem_iff,nJ,nJ,nJ];simp
theorem J4 {l:Th}(h1:l.Nodup)(h2:l.Pairwise (·<=·)):l.Pairwise (·<·):=by
 induction l with
 |nil=>exact .nil
 |cons x l ih=>
  let⟨a,b⟩:=CR.mp h1;let⟨c,d⟩:=DL.mp h2;refine DL.mpr {λy hy=>?_,ih b d};have:=c y hy;have:x≠y:=λe=>a (e ▸ hy);omega
def zD (a b:Th):(cb a b).Pairwise (·<·):=J4 (ji a b).1 (ji a b).2.1
noncomputable def xo (b:A7)(n:Nat):A7:=if n%2=0 then b else !b
def qO (b:A7)(n:Nat):xo b (n+1) = !(xo b n):=by
 unfold xo;by_cases h:n%2=0
 ·rw[A8 h,A6 ∅]
 ·rw[A6 h,A8 ∅,Bool.not_not]
def uV (b:A7)(n:Nat):xo (!b) n = !(xo b n):=by unfold xo;split <;> simp
noncomputable def W (w:A7->A7->A7)(r s:Rc):Rc:=(w r.1 s.1,(ig w r.2 s.2 r.1 s.1 (cb r.2 s.2)).out)
def JEf (bt:A7)(w:A7->A7->A7)(wd:Str)(hw:∀x y:A7,bB [.str wd,.bl x,.bl y]=some (.bl (w x y)))(r s:Rc)(hl:r.2.length+s.2.length<64):jZ bt [rD r,rD s,.str wd]=some (rD (W w r s)) :=
 JCa bt w wd (λx y U=>JCf (ds:=[.str wd,.bl x,.bl y]) rfl rfl (hw x y)) r.1 s.1 r.2 s.2 hl
theorem GK (w:A7->A7->A7)(a b:Th):∀(es:Th) (s:J0),s.last=w s.p s.q ->
  (es.foldl (aY w a b) s).p=xo s.p (es.filter λe=>a.contains e).length/\(es.foldl (aY w a b) s).q=xo s.q (es.filter λe=>b.contains e).length /\
  (es.foldl (aY w a b) s).last=w (es.foldl (aY w a b) s).p (es.foldl (aY w a b) s).q/\∃l,(es.foldl (aY w a b) s).out=s.out++l/\l.Sublist es/\(es.foldl (aY w a b) s).last=xo s.last l.length
 |[],s,h=>{rfl,rfl,h,[],by simp,List.Sublist.refl _,rfl}
 |e::es,s,h=>by
  let⟨h1,h2,h3,l,h4,h5,h6⟩:=GK w a b es (aY w a b s e) rfl;rw[E4];refine{?_,?_,h3,?_}
  ·rw[h1]
   have:(aY w a b s e).p=if a.contains e then !s.p else s.p:=rfl
   rw[this]
   by_cases c:a.contains e=true
   ·rw[A8 c,zco ‹c›,C3,qO,uV]
   ·rw[A6 c,zcp ‹c›]
  ·rw[h2]
   have:(aY w a b s e).q=if b.contains e then !s.q else s.q:=rfl
   rw[this]
   by_cases c:b.contains e=true
   ·rw[A8 c,zco ‹c›,C3,qO,uV]
   ·rw[A6 c,zcp ‹c›]
  ·have ho:(aY w a b s e).out=if (aY w a b s e).last != s.last then s.out++[e] else s.out:=rfl
   by_cases c:(aY w a b s e).last=s.last
   ·have c':((aY w a b s e).last != s.last)=false:=by rw[c];simp
    rw[c',A6 ∅] at ho;rw[ho] at h4;refine{l,h4,h5.cons e,?_};rw[h6,c]
   ·have c':((aY w a b s e).last != s.last)=true:=by simpa using c
    rw[c',A8 rfl] at ho;rw[ho] at h4;refine{e::l,by rw[h4];simp,h5.cons₂ e,?_};rw[h6,C3,qO,←uV]
    congr 1
    generalize (aY w a b s e).last=x at c;generalize s.last=y at c;cases x <;> cases y <;> simp_all
def Ff {a:Th}(h:a.Pairwise (·<·)):a.Nodup:=h.imp λh=>by omega
def GL (w:A7->A7->A7)(r s:Rc):(W w r s).2.Sublist (cb r.2 s.2):=by
 let⟨_,_,_,l,h4,h5,_⟩:=GK w r.2 s.2 (cb r.2 s.2) {r.1,s.1,w r.1 s.1,[]} rfl
 show((cb r.2 s.2).foldl (aY w r.2 s.2) {r.1,s.1,w r.1 s.1,[]}).out.Sublist _
 rw[h4,Dd];exact h5
def OZ (w:A7->A7->A7)(r s:Rc):(W w r s).2.Pairwise (·<·):=(zD _ _).sublist (GL w r s)
noncomputable def lv:A7->P4 Int->Int->A7
 |b,[],_=>b
 |b,x::xs,d=>if d<x then b else lv (!b) xs d
abbrev Pv (r:Rc)(d:Int):A7:=lv r.1 r.2 d
structure Pf (g:Rc)(qs:List (Int×Rc)):Prop where
 gu:g.2.Pairwise (·<·)
 up:Up qs
 dif:NA g qs
 ru:∀q∈qs,q.2.2.Pairwise (·<·)
noncomputable def li (b:A7):Int:=if b=true then 1 else 0
noncomputable def cn:P4 Rc->Int->Int
 |[],_=>0
 |r::rs,d=>li (Pv r d)+cn rs d
noncomputable def c0:P4 Rc->Int
 |[]=>0
 |r::rs=>li r.1+c0 rs
abbrev JA2 (rs:P4 Rc)(d:Int):A7:=rs.any λr=>Pv r d
abbrev A0 (rs:P4 Rc):A7:=rs.any (·.1)
noncomputable def wk (h:Int->A7):A7->P4 Int->Th
 |_,[]=>[]
 |s,e::es=>if h e=s then wk h s es else e::wk h (h e) es
structure QM (rs:List Rc)(es:Th):Prop where
 up:es.Pairwise (·<·)
 all:∀x,x∈es ↔ ∃r∈rs,x∈r.2
abbrev Un (rs:P4 Rc)(es:Th):Rc:=(A0 rs,wk (JA2 rs) (A0 rs) es)
def bH {Z:Type}{l:P4 Z}{i:Nat}{a:Z}(h:l[i]?=some a):i<l.length:=(Bv.mp h).1
def BC {Z:Type}{cs:P4 Z}{c:Z}:(cs++[c])[cs.length]?=some c:=by simp
def KO:1<=sizeLine:=by decide
def dA {U:ac}{c c':au}:(U++[c]).set U.length c'=U++[c']:=by simp
abbrev NO:Rc:=(false,[])
abbrev Pl:=Rc×P4 (Int×Rc)
abbrev jc (p:Pl):D:=pD p.1 p.2
structure BP (ES TS:Th)(p:Pl):Prop where
 pf:Pf p.1 p.2
 ge:∀e∈p.1.2,e∈ES
 re:∀q∈p.2,∀e∈q.2.2,e∈ES
 te:∀q∈p.2,q.1∈TS
open L2
section
variable {κ:Type}[DecidableEq κ]
theorem mn:∀(l m:P4 κ),l.Nodup->(∀x∈l,x∈m)->l.length<=m.length
 |[],_,_,_=>DH _
 |x::l,m,hn,h=>by
  let⟨h1,h2⟩:=CR.mp hn;have hx:=h x BG;have:=mn l (m.erase x) h2 λy hy=>(List.mem_erase_of_ne (λe=>by subst e;exact h1 hy)).mpr (h y (BR _ hy));rw[List.length_erase_of_mem hx] at this
  have:0<m.length:=List.length_pos_of_mem hx;rwa[C3];omega
abbrev Hl (κ:Type):=P4 (κ×Nat×P4 D)
abbrev A4 (l:Hl κ):P4 (κ×R):=l.map λp=>(p.1,R.p p.2.1)
noncomputable def cJ:Hl κ->κ->Nat->D->Hl κ
 |[],k,a,d=>[(k,a,[d])]
 |p::l,k,a,d=>if p.1=k then (p.1,p.2.1,p.2.2++[d])::l else p::cJ l k a d
noncomputable def cont:Hl κ->κ->P4 D
 |[],_=>[]
 |p::l,k=>if p.1=k then p.2.2 else cont l k
noncomputable def adr:Hl κ->κ->QI Nat
 |[],_=>none
 |p::l,k=>if p.1=k then some p.2.1 else adr l k
theorem mG (k x:κ)(a:Nat)(d:D):∀l:Hl κ,cont (cJ l k a d) x=cont l x++(if k=x then [d] else [])
 |[]=>by by_cases q:k=x <;> simp[cJ,cont,q]
 |p::l=>by
  have ih:=mG k x a d l;rw[cJ];by_cases q:p.1=k
  ·rw[A8 q,cont,cont];by_cases z:p.1=x
   ·rw[A8 z,A8 z,A8 (q.symm.trans z)]
   ·rw[A6 z,A6 z,A6 (λw=>z (q.trans w)),Cg]
  ·rw[A6 q,cont,cont];by_cases z:p.1=x
   ·rw[A8 z,A8 z,A6 (λw=>q (z.trans w.symm)),Cg]
   ·rw[A6 z,A6 z,ih]
theorem kM (k x:κ)(a:Nat)(d:D):∀l:Hl κ,x∈(cJ l k a d).map (·.1) ↔ x∈l.map (·.1)\/x=k
 |[]=>by simp[cJ]
 |p::l=>by
  have ih:=kM k x a d l;rw[cJ];by_cases q:p.1=k
  ·rw[A8 q];rwa[Ak,Ax];constructor
   ·exact .inl
   ·rintro(h|h)
    ·exact h
    ·exact .inl (h.trans q.symm)
  ·rw[A6 q];rwa[Ak,Ax,ih,or_assoc]
theorem tN (k:κ)(a:Nat)(d:D):∀l:Hl κ,(l.map (·.1)).Nodup->((cJ l k a d).map (·.1)).Nodup
 |[],_=>by simp[cJ]
 |p::l,h=>by
  rw[Ak,CR] at h;rw[cJ];by_cases q:p.1=k
  ·rw[A8 q,Ak,CR];exact h
  ·rw[A6 q,Ak,CR];refine{λz=>?_,tN k a d l h.2};rcases (kM k p.1 a d l).mp z with z|z
   ·exact h.1 z
   ·exact q z
theorem tO (k:κ)(a:Nat)(d:D):∀l:Hl κ,(cJ l k a d).length<=l.length+1
 |[]=>by simp[cJ]
 |p::l=>by
  have ih:=tO k a d l;rw[cJ];split
  ·simp
  ·rwa[C3];omega
theorem lR {k:κ}:∀{l:Hl κ},adr l k=none ↔ k∉l.map (·.1)
 |[]=>by simp[adr]
 |p::l=>by
  have ih:=lR (k:=k) (l:=l);rw[adr];by_cases q:p.1=k
  ·rw[A8 q];simp[q]
  ·rw[A6 q,ih,Ak,Ax,not_or];exact{λh=>{λz=>q z.symm,h},λh=>h.2}
theorem iY {k:κ}{a:Nat}:∀{l:Hl κ},adr l k=some a->(k,a,cont l k)∈l
 |[],h=>by cases h
 |p::l,h=>by
  rw[adr] at h;rw[cont];by_cases q:p.1=k
  ·rw[A8 q] at h ⊢
   cases h;rw[←q];exact BG
  ·rw[A6 q] at h ⊢;exact BR _ (iY h)
structure HD (C:List (κ×R)->au)(n:Nat)(U:ac)(l:Hl κ):Prop where
 dict:U[n]?=some (C (A4 l))
 nd:(n::l.map λp=>p.2.1).Nodup
 cell:∀p∈l,U[p.2.1]?=some (.lst p.2.2)
theorem xu {k:κ}{a b:Nat}{d:D}:∀{l:Hl κ},k∈l.map (·.1)->A4 (cJ l k b d)=A4 l/\(cJ l k b d).map (λp=>p.2.1)=l.map λp=>p.2.1
 |[],h=>by cases h
 |p::l,h=>by
  rw[cJ];by_cases q:p.1=k
  ·rw[A8 q];exact{rfl,rfl}
  ·rw[A6 q];have:=xu (a:=a) (b:=b) (d:=d) (l:=l) (by
    rw[Ak] at h;rcases Ax.mp h with w|w
    ·exact AH w.symm q
    ·exact w)
   exact{AI (_ :: ·) this.1,AI (_ :: ·) this.2}
theorem xb {k:κ}{b:Nat}{d:D}:∀{l:Hl κ} {p},(l.map (·.1)).Nodup->p∈cJ l k b d->k∈l.map (·.1)->(p∈l/\p.1≠k)\/(p.1=k/\adr l k=some p.2.1/\p.2.2=cont l k++[d])
 |[],p,_,_,h=>by cases h
 |q::l,p,nd,hp,h=>by
  rw[Ak,CR] at nd;rw[cJ] at hp;rw[adr,cont];by_cases z:q.1=k
  ·rw[A8 z] at hp ⊢;rw[A8 z];rcases Ax.mp hp with rfl|hp
   ·exact .inr {z,rfl,rfl}
   ·exact .inl {BR _ hp,λw=>nd.1 (by rw[z,←w];exact EM hp)}
  ·rw[A6 z] at hp ⊢;rw[A6 z];rcases Ax.mp hp with rfl|hp
   ·exact .inl {BG,z}
   ·rcases xb nd.2 hp (by
     rw[Ak] at h;rcases Ax.mp h with w|w
     ·exact AH w.symm z
     ·exact w) with w|w
    ·exact .inl {BR _ w.1,w.2}
    ·exact .inr w
theorem qi {k:κ}{b:Nat}{d:D}:∀{l:Hl κ},k∉l.map (·.1)->cJ l k b d=l++[(k,b,[d])]
 |[],_=>rfl
 |p::l,h=>by rw[Ak,Ax,not_or] at h;rw[cJ,A6 (λz=>h.1 z.symm),qi h.2];rfl
variable {C:P4 (κ×R)->au}{n:Nat}{U:ac}{l:Hl κ}
def HD.lt (h:HD C n U l):n<U.length:=bH h.dict
def HD.adr (h:HD C n U l){k:κ}{a:Nat}(e:adr l k=some a):U[a]?=some (.lst (cont l k)):=h.cell _ (iY e)
def HD.adrN (h:HD C n U l){k:κ}{a:Nat}(e:LW.adr l k=some a):a≠n:=λz=>by subst z;exact(CR.mp h.nd).1 (Bm.mpr {_,iY e,rfl})
def HD.old (h:HD C n U l)(nk:(l.map (·.1)).Nodup){k:κ}{a:Nat}(e:LW.adr l k=some a)(d:D)(b:Nat):HD C n ((U++[au.lst []]).set a (.lst (cont l k++[d]))) (cJ l k b d):=by
 have hk:k∈l.map (·.1):=by refine Classical.byContradiction λz=>?_;rw[lR.mpr z] at e;cases e
 have la:=bH (h.adr e);let⟨k1,k2⟩:=xu (a:=a) (b:=b) (d:=d) hk;refine{?_,by rw[k2];exact h.nd,λp hp=>?_}
 ·rw[Bp (h.adrN e),BY h.lt,k1];exact h.dict
 ·rcases xb nk hp hk with⟨w,w2⟩|⟨w1,w2,w3⟩
  ·have:a≠p.2.1:=λz=>by
    have m1:=iY e;have:=(CR.mp h.nd).2;let⟨i,hi,e1⟩:=Hb m1;let⟨j,hj,e2⟩:=Hb w;have Dg:i=j:=(HU (xs:=l.map λp=>p.2.1) (h₀:=by simpa using hi) (h₁:=by simpa using hj) this).mp (by rw[zbQ,zbQ,e1,e2];exact z);subst Dg;rw[e1] at e2;exact w2 (by rw[←e2])
   have hc:=h.cell p w;rw[Bp this,BY (bH hc)];exact hc
  ·rw[e] at w2
   cases w2;rw[w3,DN (by simp;omega)]
def HD.new (h:HD C n U l){k:κ}(hk:k∉l.map (·.1))(d:D):HD C n (((U++[au.lst []]).set n (C (A4 l++[(k,.p U.length)]))).set U.length (.lst [d])) (cJ l k U.length d):=by
 have hn:=h.lt;rw[qi hk];refine{?_,?_,λp hp=>?_}
 ·rw[Bp ∅,DN (by simp;omega)];simp[A4]
 ·rw[Cy,←HP,EI];refine{h.nd,by simp,λx hx y hy=>?_};rwa[Ak,D1,Bg] at hy;subst hy;rcases Ax.mp hx with rfl|hx
  ·omega
  ·let⟨p,hp,rfl⟩:=Bm.mp hx;have:=bH (h.cell p hp);omega
 ·rcases DI.mp hp with hp|hp
  ·have hc:=h.cell p hp;have:=bH hc;have pn:n≠p.2.1:=λz=>(CR.mp h.nd).1 (by rw[z];exact EM (f:=λp:κ×Nat×P4 D=>p.2.1) hp);rw[Bp ∅,Bp pn,BY this];exact hc
  ·rw[Bg] at hp;subst hp;rw[DN ∅]
end
abbrev tC (l:P4 (Th×R)):au:=.dtr l
abbrev En:=Th×Pl
abbrev bm (e:En):D:=.tup [.key e.1,jc e.2]
theorem qQ (k:Th):∀l:Hl (Th),i6 (A4 l) k=(adr l k).map R.p
 |[]=>rfl
 |p::l=>by
  have ih:=qQ k l;unfold i6 at ih ⊢;rw[adr];rwa[A4,Ak];by_cases q:p.1=k
  ·rw[zbX (by simp[q]),A8 q];rfl
  ·rw[zbY (by simp[q]),A6 q];exact ih
def JA1 {fo fk:FE}{O:Lo}{U:ac}{n a:Nat}{k:Th}{l:Hl (Th)}(ho:fo O U=some (.p n,U))(hk:fk O U=some (.v (.key k),U))(h:HD tC n U l)(e:adr l k=some a)(hl:l.length<1000):oY fo fk (dN aj) O U=some (.p a,U++[.lst []]):=by
 have h1:gC U n=some (A4 l):=by rwa[gC,h.dict]
 have h2:gC (U++[au.lst []]) n=some (A4 l):=by rwa[gC,BY h.lt,h.dict]
 have hL:dN aj O U=some (.p U.length,U++[au.lst []]):=rfl;have hl':(A4 l).length<1000:=by simpa using hl
 have hv:=qQ k l;rw[e,EB] at hv;rwa[oY,ho,BZ,h1,zci,if_true,hk,hL,h2,hl',hv]
def JA3 {fo fk:FE}{O:Lo}{U:ac}{n:Nat}{k:Th}{l:Hl (Th)}(ho:fo O U=some (.p n,U))(hk:fk O U=some (.v (.key k),U))(h:HD tC n U l)(e:adr l k=none)(hl:l.length<1000):oY fo fk (dN aj) O U=some (.p U.length,(U++[au.lst []]).set n (tC (A4 l++[(k,.p U.length)]))):=by
 have h1:gC U n=some (A4 l):=by rwa[gC,h.dict]
 have h2:gC (U++[au.lst []]) n=some (A4 l):=by rwa[gC,BY h.lt,h.dict]
 have hL:dN aj O U=some (.p U.length,U++[au.lst []]):=rfl;have hl':(A4 l).length<1000:=by simpa using hl
 have hv:=qQ k l;rw[e,Option.map_none] at hv;rwa[oY,ho,BZ,h1,zci,if_true,hk,hL,h2,hl',hv]
structure TB (U:ac)(l:Hl (Th))(N:Nat):Prop where
 hd:HD tC 0 U l
 nk:(l.map (·.1)).Nodup
 ln:l.length<=N
 cl:∀k,(cont l k).length<=N
theorem Da (bt:A7){x0 x4:QI R}{e:En}{U:ac}{l:Hl (Th)}{N:Nat}(h:TB U l N)(hN:N<900) :
  ∃U' b,em bt [x0,ba 0,some (.v (.key e.1)),some (.v (jc e.2)),x4] U=some (.nx [x0,ba 0,some (.v (.key e.1)),some (.v (jc e.2)),x4] U')/\TB U' (cJ l e.1 b (jc e.2)) (N+1):=by
 have zc:(cont l e.1).length<sizeLine:=gK (by have:=h.cl e.1;omega);have z0:(0:Nat)<sizeLine:=gK ∅
 have hl:l.length<1000:=by have:=h.ln;omega
 have lt:=h.hd.lt
 have sb:∀(U':ac) (b:Nat),HD tC 0 U' (cJ l e.1 b (jc e.2))->TB U' (cJ l e.1 b (jc e.2)) (N+1):=λU' b hh=>{hh,tN _ _ _ _ h.nk,by have:=tO e.1 b (jc e.2) l;have:=h.ln;omega,λk=>by
  rw[mG,Bb];have:=h.cl k;split
  ·simp;omega
  ·simp;omega}
 cases q:adr l e.1 with
 |some a=>
  have ga:=h.hd.adr q
  have g2:(U++[au.lst []])[a]?=some (.lst (cont l e.1)):=by rw[BY (bH ga)];exact ga
  have hs:=JA1 (fo:=ae 1) (fk:=ae 2) (O:=[x0,ba 0,some (.v (.key e.1)),some (.v (jc e.2)),x4]) rfl rfl h.hd q hl;refine{_,0,?_,sb _ 0 (h.hd.old h.nk q (jc e.2) 0)};push_cast [em,hs,g2,zc]
 |none=>
  have hs:=JA3 (fo:=ae 1) (fk:=ae 2) (O:=[x0,ba 0,some (.v (.key e.1)),some (.v (jc e.2)),x4]) rfl rfl h.hd q hl
  have g2:((U++[au.lst []]).set 0 (tC (A4 l++[(e.1,.p U.length)])))[U.length]?=some (.lst []):=by
   rw[Bp ∅];exact BC
  refine{_,U.length,?_,sb _ _ (h.hd.new (lR.mp q) (jc e.2))};push_cast [em,hs,g2,z0,Dd]
theorem wH (bt:A7){x0 x4:QI R}:∀(es:P4 En) {U:ac} {l:Hl (Th)} {N:Nat} (x2 x3:QI R),TB U l N->N+es.length<900 ->
  ∃U' l' y2 y3,eK (nt 2 (aH (bD 2) (aH (bD 3) cT))) (em bt) (es.map bm) [x0,ba 0,x2,x3,x4] U=some (.nx [x0,ba 0,y2,y3,x4] U')/\TB U' l' (N+es.length) /\
   (∀x,cont l' x=cont l x++(es.filter λe=>decide (e.1=x)).map λe=>jc e.2)/\(∀x,x∈l'.map (·.1) ↔ x∈l.map (·.1)\/x∈es.map (·.1))
 |[],U,l,N,x2,x3,h,_=>{U,l,x2,x3,rfl,h,λx=>by simp,λx=>by simp}
 |e::es,U,l,N,x2,x3,h,hN=>by
  rw[C3] at hN;let⟨U1,b,e1,h1⟩:=Da bt (x0:=x0) (x4:=x4) (e:=e) h ∅;let⟨U2,l2,y2,y3,e2,h2,c2,k2⟩:=wH bt (x0:=x0) (x4:=x4) es (some (.v (.key e.1))) (some (.v (jc e.2))) h1 ∅;refine{U2,l2,y2,y3,?_,by rw[C3,show N+(es.length+1)=N+1+es.length by omega];exact h2,λx=>?_,λx=>?_}
  ·rw[Ak,hV]
   have hg:nt 2 (aH (bD 2) (aH (bD 3) cT)) (.v (bm e)) [x0,ba 0,x2,x3,x4] U=some ([x0,ba 0,some (.v (.key e.1)),some (.v (jc e.2)),x4],U):=rfl;rw[hg,ut,e1,xp];exact e2
  ·rw[c2,mG,Bf,zbF]
   by_cases z:e.1=x <;> simp[z]
  ·rw[k2,kM,Ak,Ax,or_assoc]
abbrev fE (bt:A7):FE:=bM (af (ae 0) (af (aW c6 1 (af (bA (B4 (ae 1) (ae 0))) aj)) aj))
theorem uy (bt:A7){l:Hl (Th)}(F:P4 Int->Pl)(hnd:(0::l.map λp=>p.2.1).Nodup)(nk:(l.map (·.1)).Nodup):∀(rows:Ta) (U:ac) (x0:QI R),rows.Nodup->(∀r∈rows,c6 [.fl (cont l r)]=some (jc (F r)))->U[0]?=some (tC (A4 l))->(∀r∈rows,∃a,adr l r=some a/\U[a]?=some (.lst (cont l r))) ->
  ∃U',bJ (bD 0) c8 (fE bt) (rows.map D.key) [x0,ba 0] U=some (rows.map λr=>bm (r,F r),U')
 |[],U,x0,_,_,_,_=>{U,rfl}
 |r::rows,U,x0,hr,hF,h0,hc=>by
  let⟨n1,n2⟩:=CR.mp hr;let⟨a,ea,ga⟩:=hc r BG
  have a0:a≠0:=λz=>by
   subst z;exact(CR.mp hnd).1 (Bm.mpr {_,iY ea,rfl})
  have hF0:=hF r BG
  let⟨U',e⟩:=uy bt F hnd nk rows (U.set a (.fz (cont l r))) (some (.v (.key r))) n2 (λx hx=>hF x (BR _ hx)) (by rw[Bp a0];exact h0) (λx hx=>by
   let⟨b,eb,gb⟩:=hc x (BR _ hx);refine{b,eb,?_}
   have:a≠b:=λz=>by
    subst z;have m1:=iY ea;have m2:=iY eb;let⟨i,hi,e1⟩:=Hb m1;let⟨j,hj,e2⟩:=Hb m2;have Dg:i=j:=(HU (xs:=l.map λp=>p.2.1) (h₀:=by simpa using hi) (h₁:=by simpa using hj) (CR.mp hnd).2).mp (by rw[zbQ,zbQ,e1,e2]);subst Dg;rw[e1] at e2;exact n1 (by have:=AI Prod.fst e2;simp only at this;rw[this];exact hx)
   rw[Bp this];exact gb)
  refine{U',?_};have hv:=qQ r l;rw[ea,EB] at hv;rw[Ak,bJ];push_cast [BZ,h0,tC,hv,ga,hF0,e]
theorem m5 {Z:Type}{c:FT}{f:FE}{U:ac}{rest:Lo}(e out:Z->D)(p:Z->A7):∀(xs:P4 Z) (x0:QI R),(∀a∈xs,c (some (.v (e a))::rest) U=some (p a,U))->(∀a∈xs,p a=true->f (some (.v (e a))::rest) U=some (.v (out a),U))->bJ (bD 0) c f (xs.map e) (x0::rest) U=some ((xs.filter p).map out,U)
 |[],_,_,_=>rfl
 |a::xs,x0,h,h'=>by
  have h1:=h a BG;have ih:=m5 e out p xs (some (.v (e a))) (λb hb=>h b (BR _ hb)) (λb hb=>h' b (BR _ hb))
  cases hp:p a with
  |true=>
   have h2:=h' a BG hp;rwa[Ak,bJ,bD,zck,BZ,h1,hp,if_true,h2,ih,zbF]
  |false=>rwa[Ak,bJ,bD,zck,BZ,h1,hp,C8,if_false,ih,zbF]
abbrev JAb (T:P4 En):au:=.lst (T.map bm)
abbrev MA:D:=.tup [.tup [.bl false,.tup []],.tup []]
def JGo:dQ 60 MA=true:=rfl
abbrev zo:Pl:=(NO,[])
noncomputable def JX (e:En):A7:=!decide (e.2=zo)
def JH (p:Pl):jh (jc p) MA=decide (p=zo) :=
 (Mu p.1 NO p.2 []).trans (decide_eq_decide.mpr {λh=>Prod.ext h.1 h.2,λh=>by rw[h];exact{rfl,rfl}})
def JBy (p:Pl):c6 [.fl [jc p]]=some (jc p):=rfl
theorem kT {Z β:Type}[DecidableEq β]{f:Z->β}:∀{es:P4 Z} {e:Z},(es.map f).Nodup->e∈es->(es.filter λx=>decide (f x=f e))=[e]
 |[],_,_,h=>nomatch h
 |x::es,e,nd,h=>by
  let⟨n1,n2⟩:=CR.mp nd;rcases Ax.mp h with rfl|h
  ·rw[zco ∅];congr 1;refine List.filter_eq_nil_iff.mpr λy hy=>?_;rwa[decide_eq_true_eq];exact λz=>n1 (z ▸ EM hy)
  ·rw[zcp (by rwa[decide_eq_true_eq];exact λz=>n1 (z ▸ EM h))];exact kT n2 h
def zU (bt:A7){w:Nat}{es:P4 En}(hn:es.length<=63)(nd:(es.map (·.1)).Nodup)(hrw:∀e∈es,e.1.length=w):∃T:P4 En,f7 bt [.fl (es.map bm)]=some (.lst (T.map bm))/\zq (T.map (·.1))/\∀e,e∈T ↔ e∈es/\e.2≠zo:=by
 rw[uX];let⟨U,l,y2,y3,e,tb,c,k⟩:=wH bt (x0:=some (.v (.fl (es.map bm)))) (x4:=none) es (U:=[.dtr []]) (l:=[]) (N:=0) none none {{rfl,by simp,λ_ h=>nomatch h},by simp,by simp,λk=>by simp[cont]} ∅;have k':∀x,x∈l.map (·.1) ↔ x∈es.map (·.1):=λx=>by rw[k];simp
 have kl:l.length<=63:=by have:=mn (l.map (·.1)) (es.map (·.1)) tb.nk λx hx=>(k' x).mp hx;rw[Ay,Ay] at this;omega
 have hF':∃F:P4 Int->Pl,∀e∈es,F e.1=e.2:=by
  have h:∀r,∃p:Pl,∀e∈es,e.1=r->e.2=p:=λr=>by
   by_cases hr:∃e∈es,e.1=r
   ·let⟨e,he,rfl⟩:=hr;refine{e.2,λx hx hz=>?_};have h1:=kT nd he;have h2:x∈es.filter λy=>decide (y.1=e.1):=zcc.mpr {hx,by simpa using hz};rw[h1] at h2;rw[Bg.mp h2]
   ·exact{zo,λe he hz=>AH {e,he,hz} hr}
  exact{λr=>Classical.choose (h r),λe he=>(Classical.choose_spec (h e.1) e he rfl).symm}
 let⟨F,hF⟩:=hF';have hc:∀e∈es,cont l e.1=[jc e.2]:=λe he=>by
  rw[c]
  show[]++_=_
  rw[Dd,kT nd he];rfl
 have rnd:(cM (l.map (·.1))).Nodup:=(dJ _).nodup_iff.mpr tb.nk;have rm:∀r,r∈cM (l.map (·.1)) ↔ r∈es.map (·.1):=λr=>by rw[(dJ _).mem_iff];exact k' r
 have hA:∀r∈cM (l.map (·.1)),c6 [.fl (cont l r)]=some (jc (F r)):=λr hr=>by let⟨e,he,rfl⟩:=Bm.mp ((rm r).mp hr);rw[hc e he,hF e he];exact JBy _
 have few:(A4 l).length<64/\((A4 l).length<2\/∀p∈A4 l,p.1≠[]):=by
  refine{by rw[Ay];omega,?_};have hw:∀x∈l.map (·.1),x.length=w:=λx hx=>by let⟨e,he,rfl⟩:=Bm.mp ((k' x).mp hx);exact hrw e he
  by_cases z:w=0
  ·refine .inl ?_;have:=mn (l.map (·.1)) [[]] tb.nk λx hx=>by
    have:=hw x hx;rw[z] at this
    rw[zcm.mp this];exact BG
   rw[Ay] at this ⊢;simp at this;omega
  ·refine .inr λp hp e=>?_;let⟨q,hq,rfl⟩:=Bm.mp hp;have:=hw q.1 (EM hq);simp only at e;rw[e] at this
   simp at this;omega
 have g0:(U++[au.fz ((cM (l.map (·.1))).map D.key)])[0]?=some (tC (A4 l)):=by rw[BY tb.hd.lt];exact tb.hd.dict
 let⟨U2,ce⟩:=uy bt F tb.hd.nd tb.nk (cM (l.map (·.1))) (U++[au.fz ((cM (l.map (·.1))).map D.key)]) none rnd hA g0 (λr hr=>by
  cases q:adr l r with
  |none=>exact AH ((dJ _).mem_iff.mp hr) (lR.mp q)
  |some a=>exact{a,rfl,by have:=tb.hd.adr q;rw[BY (bH this)];exact this})
 have rl:(cM (l.map (·.1))).length<=63:=by rw[(dJ _).length_eq,Ay];exact kl
 refine{((cM (l.map (·.1))).map λr=>(r,F r)).filter JX,?_,?_}
 ·have z1:(cM (l.map (·.1))).length<=sizeLine:=bQ ∅;have cf:∀U:ac,bJ (bD 0) (fB (aw (jg true) (aw bg (ae 0) (fK (.int 1))) (fK (.tup [(.tup [(.bl false),(.tup [])]),(.tup [])])))) (ae 0) ((cM (l.map (·.1))).map λr=>bm (r,F r)) [none] U=some ((((cM (l.map (·.1))).map λr=>(r,F r)).filter JX).map bm,U):=λU=>by
   have:=m5 (c:=fB (aw (jg true) (aw bg (ae 0) (fK (.int 1))) (fK MA))) (f:=ae 0) (U:=U) (rest:=[]) bm bm JX ((cM (l.map (·.1))).map λr=>(r,F r)) none (λe _=>by push_cast [LG,JGo,JH,JX]) (λe _ _=>by push_cast [HW.ML])
   rw[Du] at this
   exact this
  have km:(A4 l).map (·.1)=l.map (·.1):=by unfold A4;rw[Du];rfl
  have lk:(U++[au.lst ((cM (l.map (·.1))).map D.key)])[U.length]?=some (.lst ((cM (l.map (·.1))).map D.key)):=BC;have hd0:U[0]?=some (.dtr (A4 l)):=tb.hd.dict;have sr:qd [.p 0] U=some (.p U.length,U++[.lst ((cM (l.map (·.1))).map D.key)]):=by rw[J1,hd0,NB,BZ,A8 few,km]
  have lk2:(U2++[au.lst ((cM (l.map (·.1))).map λr=>bm (r,F r))])[U2.length]?=some (.lst ((cM (l.map (·.1))).map λr=>bm (r,F r))):=BC;push_cast [kX,e,sr,lk,dA,Ay,z1,ce,lk2,cf,BC]
 ·refine{?_,λe=>?_}
  ·have h1:=oO tb.nk;have h2:((cM (l.map (·.1))).map λr=>(r,F r)).Pairwise λx y=>DU.iH x.1 y.1=true:=H9.mpr h1;exact H9.mpr (h2.sublist List.filter_sublist)
  ·rw[zcc,Bm];constructor
   ·rintro⟨⟨r,hr,rfl⟩,h2⟩;let⟨e,he,rfl⟩:=Bm.mp ((rm r).mp hr);rw[hF e he] at h2 ⊢;exact{he,by simpa[JX] using h2}
   ·rintro⟨he,h2⟩;exact{{e.1,(rm e.1).mpr (EM he),by rw[hF e he]},by simpa[JX] using h2}
end LW
namespace HW
open L2
abbrev Tx (l:P4 Nat):Str:=⟨l.toArray⟩
def kF {l:P4 Nat}:(Tx l).length=l.length:=by simp[Str.length]
def J7 {l r:P4 Nat}:(Tx l == Tx r)=(l == r):=by rw[Bool.eq_iff_iff,beq_iff_eq,beq_iff_eq];exact{λe=>by injection e with e;injection e,λe=>by rw[e]}
section
variable {O:Lo}{U:ac}{a b l:P4 Nat}{c:Nat}{i:Int}{x:R}
def Aa:ez (.v (.str (Tx a))) (.v (.str (Tx b))) U=if a.length+b.length<=sizeLine then some (.v (.str (Tx (a++b))),U) else none:=by
 show(if (Tx a).length+(Tx b).length<=sizeLine then some (R.v (.str (Tx a++Tx b)),U) else none)=_
 rw[kF,kF];have:Tx a++Tx b=Tx (a++b):=by show Str.append _ _=_;simp[Str.append]
 rw[this]
def FZ (h:0<=i)(hl:l.length<2 ^ 63)(hc:l[i.toNat]?=some c):Gp (.v (.str (Tx l))) (.v (.int i)) U=some (.v (.str (Tx [c])),U):=by
 have hi:=(Bv.mp hc).1;have e:(Tx l).cps[i.toNat]?=some c:=by simpa using hc
 unfold Gp;dsimp only;rw[A8 {h,by omega,by rw[kF];omega},e];rfl
def JFu (h:l.length<=sizeLine):yJ [.v (.str (Tx l))] U=some (.v (.int l.length),U):=by unfold yJ;dsimp only;rw[kF,A8 h]
noncomputable def Fp (o:QI (R×ac))(fl fh:FO)(O:Lo):QI (R×ac):=o.bind λa=>(fl O a.2).bind λl=>(fh O l.2).bind λh=>Aj a.1 l.1 h.1 h.2
noncomputable def Fo (x:R)(o:QI (QI Int×ac))(fh:FO)(O:Lo):QI (R×ac):=o.bind λl=>(fh O l.2).bind λh=>Aj x l.1 h.1 h.2
noncomputable def Fn (x:R)(l:QI Int)(o:QI (QI Int×ac)):QI (R×ac):=o.bind λh=>Aj x l h.1 h.2
def KQ {fa fl fh}:B5 fa fl fh O U=Fp (fa O U) fl fh O:=rfl
def JFt {fl fh}:Fp (some (x,U)) fl fh O=Fo x (fl O U) fh O:=rfl
def JFs {fh}{l:QI Int}:Fo x (some (l,U)) fh O=Fn x l (fh O U):=rfl
def JFr {l h:QI Int}:Fn x l (some (h,U))=Aj x l h U:=rfl
def JDr (l:P4 Nat)(n:Nat)(h:n<=l.length):Txt.slice (Tx l) (some (n:Int)) none=Tx (l.drop n):=by have:=PySem.StrLaws.sliceText_from (x:=Tx l) (i:=n) ‹h›;refine Eq.trans (show Txt.slice (Tx l) (some (n:Int)) none=PySem.StrLaws.sliceText (Tx l) (some (n:Int)) none from rfl) (this.trans ?_);rwa[Tx,HZ];congr 2;exact List.take_of_length_le ∅
def KY (l:P4 Nat)(n:Nat)(h:n<=l.length):Txt.slice (Tx l) none (some (n:Int))=Tx (l.take n):=by have:=PySem.StrLaws.sliceText_to (x:=Tx l) (j:=n) ‹h›;refine Eq.trans (show Txt.slice (Tx l) none (some (n:Int))=PySem.StrLaws.sliceText (Tx l) none (some (n:Int)) from rfl) (this.trans ?_);simp[Tx]
def JDl {n:Nat}(h:n<=l.length)(hl:l.length<=sizeLine):Aj (.v (.str (Tx l))) (some (n:Int)) none U=some (.v (.str (Tx (l.drop n))),U):=by unfold Aj;dsimp only;rw[kF,A8 hl,JDr l n h]
def KP {n:Nat}(h:n<=l.length)(hl:l.length<=sizeLine):Aj (.v (.str (Tx l))) none (some (n:Int)) U=some (.v (.str (Tx (l.take n))),U):=by unfold Aj;dsimp only;rw[kF,A8 hl,KY l n h]
def KS {n:Nat}(h:∀c∈l,c<1114112):dQ n (.str (Tx l))=true:=by cases n <;> (show PyData.strOk (Tx l)=true;unfold PyData.strOk;simpa using h)
end
end HW
namespace LW
open HW
def c7 (i:Int){j:Int}(h:0<j):0<=i%j/\i%j<j:={zcP _ ∅,zcF _ h}
def sI {cs:P4 au}{c:au}:(cs++[c])[cs.length]?=some c:=by simp
def ir (c k:Int)(hk:0<=k/\k<1000):∃n:Int,aV [.int c,.int k]=some (.int n)/\0<=n/\n<2147483629:=by have b1:=c7 c (j:=2147483629) ∅;have b2:=c7 ((c%2147483629+1)*1103515245) (j:=2147483629) ∅;obtain⟨x,hx⟩:∃x,x=(c%2147483629+1)*1103515245%2147483629:={_,rfl};have b3:=c7 (x*x+k*69621+12345) (j:=2147483587) ∅;refine{_,?_,c7 (((x*x+k*69621+12345)%2147483587)*((x*x+k*69621+12345)%2147483587)) (j:=2147483629) ∅};rw[u3];push_cast [k8,oZ (i:=c) (j:=2147483629) ∅,j3 (i:=c%2147483629+1) (j:=1103515245) ∅,oZ (i:=(c%2147483629+1)*1103515245) (j:=2147483629) ∅,←hx,j3 (i:=x) (j:=x) ∅,j3 (i:=k) (j:=69621) ∅,oZ (i:=x*x+k*69621+12345) (j:=2147483587) ∅,j3 (i:=(x*x+k*69621+12345)%2147483587) (j:=(x*x+k*69621+12345)%2147483587) ∅,oZ (j:=2147483629) ∅]
theorem uC:∀(g:Rc) (l:P4 (Int×Rc)) (p:Int×Rc),NA g l->p.2≠lst g l->NA g (l++[p])
 |_,[],_,_,h=>{h,trivial}
 |_,q::l,p,hd,h=>{hd.1,uC q.2 l p hd.2 h}
theorem sK:∀l:Th,unkDs (l.map D.int)=l.map .int
 |[]=>by rwa[D1,unkDs]
 |i::l=>by rwa[Ak,unkDs,cq,sK l]
noncomputable def oD:QI Int->D
 |none=>.non
 |some i=>.int i
noncomputable def st:QI Int->QI Int->Rc
 |none,none=>(true,[])
 |none,some h=>(true,[h])
 |some l,none=>(false,[l])
 |some l,some h=>(false,[l,h])
theorem ve {lo hi:QI Int}(h:∀l r,lo=some l->hi=some r->l<r):eh [oD lo,oD hi]=some (rD (st lo hi)):=by
 rw[qU]
 cases lo with
 |none=>cases hi <;> rfl
 |some l=>
  cases hi with
  |none=>rfl
  |some r=>
   have:=h l r rfl rfl;have hz:decide (r<=l)=false:=Bz ∅;push_cast [iS,oD,hz,yR,st,rD,Ak,D1]
theorem t7:∀(g:Rc) (qs:P4 (Int×Rc)) (q:Int×Rc),qs.getLast?=some q->lst g qs=q.2
 |_,[],_,h=>by cases h
 |_,[p],q,h=>by cases h;rfl
 |_,p::p'::qs,q,h=>t7 p.2 (p'::qs) q ‹h›
def JEh {Z:Type}(f:Z->D)(xs:P4 Z)(x:Z)(h:xs.getLast?=some x):L2.kB (xs.map f) (-1)=some (f x):=by
 have Bd:xs≠[]:=λz=>by rw[z] at h;cases h
 have hp:=List.length_pos_iff.mpr Bd;have h1:(xs.map f)[(xs.length-1)]?=some (f x):=by rw[Bh,←List.getLast?_eq_getElem?,h];rfl
 have h2:L2.CY (xs.map f).length (-1)=some (xs.length-1):=by unfold L2.CY;rw[Ay,A6 ∅,A8 ∅];congr 1;omega
 unfold L2.kB;rw[h2];exact h1
theorem xt (p:Pl):cF [jc p]=some (rD (lst p.1 p.2)):=by
 let⟨g,qs⟩:=p;rw[qX]
 cases hq:qs.getLast? with
 |none=>
  have:qs=[]:=List.getLast?_eq_none_iff.mp hq;subst this;rfl
 |some q=>
  have h1:=JEh sD qs q hq;have Bd:qs≠[]:=λz=>by rw[z] at hq;cases hq
  have h2:(qs.map sD).isEmpty=false:=by
   cases qs with
   |nil=>exact AH rfl Bd
   |cons _ _=>rfl
  push_cast [iW,pD,h2,h1,sD,t7 g qs q hq,Bool.not_false]
noncomputable def Hg (p:Pl)(t:Int)(r:Rc):Pl:=if r=lst p.1 p.2 then p else (p.1,p.2++[(t,r)])
def vf (p:Pl)(t:Int)(r:Rc)(hn:p.2.length<2000):hJ [jc p,.int t,rD r]=some (jc (Hg p t r)):=by
 have hl:=xt p;let⟨g,qs⟩:=p;have hn:qs.length<2000:=hn;rw[yc];unfold Hg;by_cases c:r=lst g qs
 ·have c':decide (r=lst g qs)=true:=Cn c;rw[A8 c];push_cast [j5,hl,Bq,uv,c']
 ·have c':decide (r=lst g qs)=false:=Bz c;rw[A6 c];have z:(qs.map sD).length+1<=sizeLine:=bQ (by rw[Ay];omega);push_cast [j5,hl,Bq,uv,c',pD,KO,z,Cy];rwa[jc,pD,Cy,Ak,D1,sD]
def JFv {ES TS:Th}{p:Pl}{a:Int}{r:Rc}(hp:BP ES TS p)(h:∀q∈p.2,q.1<a)(hr:r.2.Pairwise (·<·))(he:∀e∈r.2,e∈ES)(ha:a∈TS):BP ES TS (Hg p a r):=by
 unfold Hg;by_cases c:r=lst p.1 p.2
 ·rw[A8 c];exact hp
 ·rw[A6 c];have sp:∀q∈p.2++[(a,r)],q∈p.2\/q=(a,r):=λq hq=>by
   rcases DI.mp hq with z|z
   ·exact .inl z
   ·exact .inr (Bg.mp z)
  refine{{hp.pf.gu,?_,uC p.1 p.2 _ hp.pf.dif c,λq hq=>?_},hp.ge,λq hq=>?_,λq hq=>?_}
  ·exact List.pairwise_append.mpr {hp.pf.up,zcn _ _,λx hx y hy=>by rw[Bg.mp hy];exact h x hx}
  ·rcases sp q hq with z|rfl
   ·exact hp.pf.ru q z
   ·exact hr
  ·rcases sp q hq with z|rfl
   ·exact hp.re q z
   ·exact he
  ·rcases sp q hq with z|rfl
   ·exact hp.te q z
   ·exact ha
abbrev ND (a b:A7):A7:=a || b
abbrev NC (a b:A7):A7:=a&&!b
def k1:dQ 60 (.str "both")=true:=by decide
def k2:dQ 60 (.str "either")=true:=by decide
def k3:dQ 60 (.str "less")=true:=by decide
def Qv:jh (.str "either") (.str "both")=false:=by decide
def Qu:jh (.str "either") (.str "either")=true:=by decide
def Qt:jh (.str "less") (.str "both")=false:=by decide
def Qs:jh (.str "less") (.str "either")=false:=by decide
def Qr:jh (.str "less") (.str "less")=true:=by decide
def Kc (x y:A7):bB [.str "either",.bl x,.bl y]=some (.bl (ND x y)):=by rw[nV];cases x <;> push_cast [iR,k1,k2,Qv,Qu,ND,Bool.true_or,Bool.false_or]
def Fg (x y:A7):bB [.str "less",.bl x,.bl y]=some (.bl (NC x y)):=by rw[nV];cases x <;> push_cast [iR,k1,k2,k3,Qt,Qs,Qr,NC,Bool.true_and,Bool.false_and]
def q5:jh (.str "tell") (.str "tell")=true:=by decide
def q6:jh (.str "strike") (.str "tell")=false:=by decide
def k5:dQ 60 (.str "tell")=true:=by decide
def k6:dQ 60 (.str "strike")=true:=by decide
structure Tl where
 tl:Bool
 said:Th
 lo:Option Int
 hi:Option Int
 nm:Str
abbrev dk (x:Tl):D:=.key x.said
abbrev bC (x:Tl):D:=.tup [.str (if x.tl=true then "tell" else "strike"),.str x.nm,dk x,oD x.lo,oD x.hi]
abbrev C4 (x:Tl):D:=.tup [.str (if x.tl=true then "tell" else "strike"),.str x.nm,.tup (x.said.map .int),oD x.lo,oD x.hi]
abbrev Tl.Ok (x:Tl):Prop:=∀l r,x.lo=some l->x.hi=some r->l<r
noncomputable def J2 (x:Tl)(row:Th):A7->A7->A7:=if x.tl=true/\row=x.said then ND else NC
noncomputable def hG (x:Tl)(keys:Nat)(a:Int)(e:En):En:=if e.1.take keys=x.said.take keys then (e.1,Hg e.2 a (W (J2 x e.1) (lst e.2.1 e.2.2) (st x.lo x.hi))) else e
def wG (x:Tl):bK [bC x]=some (.bl x.tl):=by
 rw[p5];let⟨b,s,lo,hi,nm⟩:=x;cases b
 ·push_cast [fV,C8,if_false,k5,k6,q6]
 ·push_cast [fV,if_true,k5,q5]
def uE (r:Th)(k:Nat):pd (r.map D.int) none (some (k:Int))=(r.take k).map .int:=by
 unfold pd;have h1:HT.cH (r.map D.int).length 0 none=0:=rfl;have h2:HT.cH (r.map D.int).length (r.map D.int).length (some (k:Int))=min k (r.map D.int).length:=by exact HT.wR _ _ _
 rw[h1,h2,List.drop_zero,Nat.sub_zero,List.map_take,List.take_eq_take_iff.mpr];simp
def qT (r:Th):lZ (.v (.key r))=.v (.tup (r.map .int)):=rfl
def zE (l:Th):lZ (.v (.tup (l.map .int)))=.v (.tup (l.map .int)):=by show R.v (.tup (unkDs (l.map .int)))=_;rw[sK]
def Cm {x y:R}{a b:Th}(hx:lZ x=.v (.tup (a.map .int)))(hy:lZ y=.v (.tup (b.map .int)))(U:ac):jJ false x y U=some (.v (.bl (decide (a=b))),U):=by
 have o:∀l:Th,dQ 60 (.tup (l.map .int))=true:=λl=>gO (jV l);have q:jh (.tup (a.map .int)) (.tup (b.map .int))=decide (a=b):=(nN _ _).trans (qD a b);unfold jJ;rw[hx,hy]
 show((if (dQ 60 (.tup (a.map .int))&&dQ 60 (.tup (b.map .int)))=true then some (R.v (.bl (jh (.tup (a.map .int)) (.tup (b.map .int)))),qS U) else none).bind λr=>some (r.1,U))=_
 rw[o,o,q];rfl
def JCh (a b:Th)(U:ac):jJ false (.v (.tup (a.map .int))) (.v (.tup (b.map .int))) U=some (.v (.bl (decide (a=b))),U):=Cm (zE a) (zE b) U
def JCg (a b:Th)(U:ac):jJ false (.v (.key a)) (.v (.key b)) U=some (.v (.bl (decide (a=b))),U):=Cm (qT a) (qT b) U
section
variable {ES TS:Th}
def JBz (bt:A7){x:Tl}(ho:x.Ok){keys:Nat}{a:Int}{e:En}(hp:BP ES TS e.2)(hE:ES.length<=18)(hT:TS.length<=70){x0 x6 x8 x9 x10:QI R}{A4:P4 (Th×D)}{acc:P4 En}(hn:acc.length<100) :
  ∃D5,dW bt [x0,cS ((keys:Int)),some (.v (bC x)),cS a,some (.v (dk x)),some (.v (rD (st x.lo x.hi))),x6,ba 1,some (.v (.key e.1)),some (.v (jc e.2)),x10] [.fzt A4,.lst (acc.map bm)] =
   some (.nx [x0,cS ((keys:Int)),some (.v (bC x)),cS a,some (.v (dk x)),some (.v (rD (st x.lo x.hi))),x6,ba 1,some (.v (.key e.1)),some (.v (jc e.2)),D5] [.fzt A4,.lst ((acc++[hG x keys a e]).map bm)]):=by
 have hb:=hp.pf.ru
 have hl:(lst e.2.1 e.2.2).2.length<=18/\(lst e.2.1 e.2.2).2.Pairwise (·<·)/\∀z∈(lst e.2.1 e.2.2).2,z∈ES:=by
  have key:∀(g:Rc) (qs:P4 (Int×Rc)),lst g qs=g\/∃q∈qs,lst g qs=q.2:=λg qs=>by
   induction qs generalizing g with
   |nil=>exact .inl rfl
   |cons q qs ih=>
    rcases ih q.2 with h|⟨x,hx,h⟩
    ·exact .inr {q,BG,h}
    ·exact .inr {x,BR _ hx,h}
  have fin:∀r:Rc,r.2.Pairwise (·<·)->(∀z∈r.2,z∈ES)->r.2.length<=18/\r.2.Pairwise (·<·)/\∀z∈r.2,z∈ES:=λr h1 h2=>
   {DK (mn _ _ (Ff h1) h2) hE,h1,h2}
  rcases key e.2.1 e.2.2 with h|⟨q,hq,h⟩ <;> rw[h]
  ·exact fin _ hp.pf.gu hp.ge
  ·exact fin _ (hp.pf.ru q hq) (hp.re q hq)
 have hs2:(st x.lo x.hi).2.length<=2:=by cases x.lo <;> cases x.hi <;> simp[st]
 have hpn:e.2.2.length<2000:=by
  have:=mn (e.2.2.map (·.1)) TS (Ff (H9.mpr hp.pf.up)) λz hz=>by let⟨q,hq,rfl⟩:=Bm.mp hz;exact hp.te q hq
  rw[Ay] at this;omega
 have ha:(acc.map bm).length<sizeLine:=gK (by rw[Ay];omega);have t1:=wG x;have la:=xt e.2;have ct:=λ(r:Th)=>uE r keys;have ek:=λU:ac=>JCh (e.1.take keys) (x.said.take keys) U;unfold hG
 by_cases c:e.1.take keys=x.said.take keys
 ·have c':decide (e.1.take keys=x.said.take keys)=true:=Cn c
  rw[A8 c]
  have wd:∃wd:Str,(∀u v:A7,bB [.str wd,.bl u,.bl v]=some (.bl (J2 x e.1 u v)))/\(GB (g6 (oX (aW bK 1 (af (bA (ae 2)) aj))) (fB (aw (jJ false) (ae 8) (ae 4)))) (fK (.str "either")) (fK (.str "less")))
    [x0,cS ((keys:Int)),some (.v (bC x)),cS a,some (.v (dk x)),some (.v (rD (st x.lo x.hi))),x6,ba 1,some (.v (.key e.1)),some (.v (jc e.2)),x10] [.fzt A4,.lst (acc.map bm)]=some (.v (.str wd),[.fzt A4,.lst (acc.map bm)]):=by
   unfold J2
   cases IB:x.tl with
   |false=>
    refine{"less",λu v=>by rw[A6 ∅];exact Fg u v,?_};rw[IB] at t1;push_cast [t1]
   |true=>
    rw[IB] at t1;have ek2:=λU:ac=>JCg e.1 x.said U;have sd:dk x=.key x.said:=rfl
    by_cases z:e.1=x.said
    ·refine{"either",λu v=>by rw[A8 {rfl,z}];exact Kc u v,?_}
     rw[Cn z] at ek2;push_cast [t1,sd,ek2]
    ·refine{"less",λu v=>by rw[A6 (λq=>z q.2)];exact Fg u v,?_}
     rw[Bz z] at ek2;push_cast [t1,sd,ek2]
  obtain⟨wd,hw,hif⟩:=wd;have bl:=JEf bt (J2 x e.1) wd hw (lst e.2.1 e.2.2) (st x.lo x.hi) ∅;have sp:=vf e.2 a (W (J2 x e.1) (lst e.2.1 e.2.2) (st x.lo x.hi)) hpn;refine{some (.v (.str wd)),?_};rw[c'] at ek;unfold dW;generalize GB (g6 (oX (aW bK 1 (af (bA (ae 2)) aj))) (fB (aw (jJ false) (ae 8) (ae 4)))) (fK (.str "either")) (fK (.str "less"))=F at hif ⊢;push_cast [JY,BZ,qT,ct,ek,hif,la,bl,sp,ha,Cy]
 ·have c':decide (e.1.take keys=x.said.take keys)=false:=Bz c
  rw[c'] at ek;rw[A6 c];refine{x10,?_};push_cast [dW,JY,BZ,qT,ct,ek,ha,Cy]
end
def oK (x:Tl)(keys:Nat)(a:Int)(e:En):(hG x keys a e).1=e.1:=by unfold hG;split <;> rfl
abbrev pA (e:En):Th×D:=(e.1,jc e.2)
theorem qk:∀T:P4 En,jw (T.map bm)=some (T.map pA)
 |[]=>rfl
 |e::T=>by
  rw[Ak,Ak];unfold jw
  show(jw (T.map bm)).map _=_
  rw[qk T];rfl
theorem ow:∀(T:P4 En) (k0:P4 (Th×D)),(k0.map (·.1)++T.map (·.1)).Nodup->jT k0 (T.map pA)=k0++T.map pA
 |[],k0,_=>by simp[jT]
 |e::T,k0,nd=>by
  have hn:¬ (k0.any λp=>decide (p.1=e.1))=true:=λz=>by let⟨p,hp,h⟩:=zb7.mp z;have h:p.1=e.1:=‹h›;exact(EI.mp nd).2.2 p.1 (EM hp) e.1 ∅ h
  show jT (AZ k0 e.1 (jc e.2)) (T.map pA)=_
  unfold AZ;rw[A6 hn,ow T _ ‹nd›];simp
theorem qP (k:Th):∀T:P4 En,(m9 (T.map pA) k=none ↔ k∉T.map (·.1))
 |[]=>by simp[m9]
 |e::T=>by
  have ih:=qP k T;unfold m9 at ih ⊢;rw[Ak];by_cases z:e.1=k
  ·rw[zbX ‹z›];simp[z]
  ·rw[zbY ‹z›,ih];simp[Ne.symm z]
noncomputable def cQ (x:Tl)(T:P4 En):P4 En:=if x.tl=true/\x.said∉T.map (·.1) then T++[(x.said,zo)] else T
theorem ic:∀es:P4 En,flatDs (es.map bm)=true
 |[]=>rfl
 |e::es=>by
  have h1:cN (bm e)=true:=by
   have:=xE e.2.1 e.2.2
   show flatDs [.key e.1,jc e.2]=true
   rwa[flatDs,cN] at this ⊢;simpa using this
  rw[Ak,flatDs,h1,ic es];rfl
section
variable {ES TS:Th}{w:Nat}{T:P4 En}
def JB6 (bt:A7){x:Tl}(ho:x.Ok){keys:Nat}{a:Int}(hb:∀e∈T,BP ES TS e.2)(hE:ES.length<=18)(hT:TS.length<=70)(hr:∀e∈T,e.1.length=w)(hs:x.tl=true->x.said.length=w)(nd:(T.map (·.1)).Nodup)(hn:T.length<=62) :
  ∃A:P4 En,dR bt [.fl (T.map bm),.int (keys:Int),bC x,.int a]=some (.lst (A.map bm))/\zq (A.map (·.1))/\∀e,e∈A ↔ e∈(cQ x T).map (hG x keys a)/\e.2≠zo:=by
 have n0:BP ES TS zo:={{.nil,.nil,trivial,λ_ h=>nomatch h},(λ_ h=>nomatch h),(λ_ h=>nomatch h),λ_ h=>nomatch h}
 have eb:∀e∈cQ x T,BP ES TS e.2/\e.1.length=w:=λe he=>by
  unfold cQ at he;split at he
  ·rename_i c
   rcases DI.mp he with h|h
   ·exact{hb e h,hr e h}
   ·rw[Bg.mp h];exact{n0,hs c.1}
  ·exact{hb e he,hr e he}
 have en:((cQ x T).map (·.1)).Nodup:=by
  unfold cQ;split
  ·rename_i c
   rw[Cy,EI]
   exact{nd,by simp,λp hp q hq=>by
    have hq:q=x.said:=by simpa using hq
    rw[hq];rintro rfl;exact c.2 hp}
  ·exact nd
 have el:(cQ x T).length<=63:=by
  unfold cQ;split
  ·rw[Bb];simp;omega
  ·omega
 let⟨A,hA,hu,hm⟩:=zU bt (w:=w) (es:=(cQ x T).map (hG x keys a)) (by rw[Ay];omega) (by rw[Du,show((λe:En=>e.1) ∘ hG x keys a)=λe=>e.1 from funext λe=>oK x keys a e];exact en) (λe he=>by
  let⟨y,hy,rfl⟩:=Bm.mp he
  rw[oK];exact(eb y hy).2)
 refine{A,?_,hu,hm};rw[yb];have se:=ve ho;have t1:=wG x;have ix2:∀U:ac,bg (.v (bC x)) (.v (.int 2)) U=some (.v (dk x),U):=λU=>rfl;have ix3:∀U:ac,bg (.v (bC x)) (.v (.int 3)) U=some (.v (oD x.lo),U):=λU=>rfl;have ix4:∀U:ac,bg (.v (bC x)) (.v (.int 4)) U=some (.v (oD x.hi),U):=λU=>rfl
 have dt:qF [.v (.fl (T.map bm))] []=some (.p 0,[.dt (T.map pA)]):=by
  unfold qF
  show((jw (T.map bm)).bind λA4=>if (T.map bm).length<1000 then some (R.p 0,[au.dt (jT [] A4)]) else none)=_
  rw[qk,BZ,A8 (by rw[Ay];omega),ow T [] ‹nd›];rfl
 have s4:(gW (oX (aW bK 1 (af (bA (ae 2)) aj))) (bE (y4 (ae 6) (ae 4) (fK (.tup [(.tup [(.bl false),(.tup [])]),(.tup [])])))) aZ)
   [some (.v (.fl (T.map bm))),cS ((keys:Int)),some (.v (bC x)),cS a,some (.v (dk x)),some (.v (rD (st x.lo x.hi))),ba 0,none,none,none,none] [.dt (T.map pA)] =
   some (.nx [some (.v (.fl (T.map bm))),cS ((keys:Int)),some (.v (bC x)),cS a,some (.v (dk x)),some (.v (rD (st x.lo x.hi))),ba 0,none,none,none,none] [.dt ((cQ x T).map pA)]):=by
  cases IB:x.tl with
  |false=>
   rw[IB] at t1
   have:cQ x T=T:=by unfold cQ;rw[A6 (by simp[IB])]
   rw[this];push_cast [t1]
  |true=>
   rw[IB] at t1;have sd:dk x=.key x.said:=rfl
   have sT:(y4 (ae 6) (ae 4) (fK (.tup [(.tup [(.bl false),(.tup [])]),(.tup [])]))) [some (.v (.fl (T.map bm))),cS ((keys:Int)),some (.v (bC x)),cS a,some (.v (dk x)),some (.v (rD (st x.lo x.hi))),ba 0,none,none,none,none] [.dt (T.map pA)] =
     (if (T.map pA).length<1000 then some (match m9 (T.map pA) x.said with|some r=>(.v r,[.dt (T.map pA)])|none=>(.v MA,[.dt (T.map pA++[(x.said,MA)])])) else none):=by rw[sd];rfl
   rw[A8 (by rw[Ay];omega)] at sT
   by_cases z:x.said∈T.map (·.1)
   ·have:cQ x T=T:=by unfold cQ;rw[A6 (λq=>q.2 z)]
    rw[this]
    cases hv:m9 (T.map pA) x.said with
    |none=>exact AH z ((qP _ _).mp hv)
    |some r=>
     rw[hv] at sT;push_cast [t1,sT]
   ·have:cQ x T=T++[(x.said,zo)]:=by unfold cQ;rw[A8 {IB,z}]
    rw[this,Cy];rw[(qP _ _).mpr z] at sT;push_cast [t1,sT];rfl
 let⟨⟨acc,x8,x9,x10⟩,e,h1⟩:=lF (g:=nt 2 (aH (bD 8) (aH (bD 9) cT))) (b:=dW bt) bm
  (λs:P4 En×QI R×QI R×QI R=>([some (.v (.fl (T.map bm))),cS ((keys:Int)),some (.v (bC x)),cS a,some (.v (dk x)),some (.v (rD (st x.lo x.hi))),ba 0,ba 1,s.2.1,s.2.2.1,s.2.2.2],[au.fzt ((cQ x T).map pA),.lst (s.1.map bm)]))
  (λs rem=>s.1++rem.map (hG x keys a)=(cQ x T).map (hG x keys a)/\∀e∈rem,e∈cQ x T) (cQ x T) ([],none,none,none) {rfl,λ_ h=>h} (by
   rintro⟨acc,x8,x9,x10⟩ e rem ⟨h1,h2⟩
   have DG:acc.length<100:=by
    have:=AI List.length h1;simp at this;omega
   let⟨D5,q⟩:=JBz bt ho (keys:=keys) (a:=a) (eb e (h2 e BG)).1 hE hT (x0:=some (.v (.fl (T.map bm)))) (x6:=some (.p 0)) (x8:=x8) (x9:=x9) (x10:=x10) (A4:=(cQ x T).map pA) DG;refine{(acc++[hG x keys a e],some (.v (.key e.1)),some (.v (jc e.2)),D5),?_,by rw[Bf];exact h1,λz hz=>h2 z (BR _ hz)};have hg:nt 2 (aH (bD 8) (aH (bD 9) cT)) (.v (bm e)) [some (.v (.fl (T.map bm))),cS ((keys:Int)),some (.v (bC x)),cS a,some (.v (dk x)),some (.v (rD (st x.lo x.hi))),ba 0,ba 1,x8,x9,x10] [au.fzt ((cQ x T).map pA),.lst (acc.map bm)]=some ([some (.v (.fl (T.map bm))),cS ((keys:Int)),some (.v (bC x)),cS a,some (.v (dk x)),some (.v (rD (st x.lo x.hi))),ba 0,ba 1,some (.v (.key e.1)),some (.v (jc e.2)),x10],[au.fzt ((cQ x T).map pA),.lst (acc.map bm)]):=rfl;rw[hg,ut]
   exact q)
 have h1:acc=(cQ x T).map (hG x keys a):=by simpa using h1.1
 subst h1
 have fi:(Ey (ae 6)) [some (.v (.fl (T.map bm))),cS ((keys:Int)),some (.v (bC x)),cS a,some (.v (dk x)),some (.v (rD (st x.lo x.hi))),ba 0,ba 1,none,none,none] [.dt ((cQ x T).map pA),.lst []]=some ((cQ x T).map bm,[.fzt ((cQ x T).map pA),.lst []]):=by
  show some ((((cQ x T).map pA).map NY,_))=_
  rw[Du];rfl
 have fl:=ic A;have e:eK (nt 2 (aH (bD 8) (aH (bD 9) cT))) (dW bt) ((cQ x T).map bm) [some (.v (.fl (T.map bm))),cS ((keys:Int)),some (.v (bC x)),cS a,some (.v (dk x)),some (.v (rD (st x.lo x.hi))),ba 0,ba 1,none,none,none] [au.fzt ((cQ x T).map pA),.lst []]=_:=e;generalize hL:(gW (oX (aW bK 1 (af (bA (ae 2)) aj))) (bE (y4 (ae 6) (ae 4) (fK (.tup [(.tup [(.bl false),(.tup [])]),(.tup [])])))) aZ)=L at s4;rw[mI,hL];push_cast [ix2,ix3,ix4,se,dt,s4,fi,e,hA,fl]
end
theorem fM:∀a:Th,DU.iH a a=false
 |[]=>rfl
 |x::a=>by simp[DU.iH,fM a]
def BB {l:Ta}(h:zq l):l.Nodup:=h.imp λ{a b} h e=>by subst e;rw[fM] at h;cases h
section
variable {ES TS:Th}{T A:P4 En}{x:Tl}{keys:Nat}{a:Int}
def jI {e:En}:e∈cQ x T ↔ e∈T\/(x.tl=true/\x.said∉T.map (·.1)/\e=(x.said,zo)):=by
 unfold cQ;split
 ·rename_i c;rw[DI,Bg];exact or_congr Iff.rfl {λh=>{c.1,c.2,h},λh=>h.2.2}
 ·rename_i c;exact{.inl,λh=>h.resolve_right λq=>c {q.1,q.2.1}}
def JB7 (ho:x.Ok)(hb:∀e∈T,BP ES TS e.2)(ha:∀e∈T,∀q∈e.2.2,q.1<a)(hA:∀e,e∈A ↔ e∈(cQ x T).map (hG x keys a)/\e.2≠zo)(hs:∀z∈(st x.lo x.hi).2,z∈ES)(haT:a∈TS):∀e∈A,BP ES TS e.2/\e.2≠zo:=λe he=>by
 let⟨h1,h2⟩:=(hA e).mp he;refine{?_,h2};let⟨y,hy,rfl⟩:=Bm.mp h1;have G0:BP ES TS y.2/\∀q∈y.2.2,q.1<a:=by
  rcases jI.mp hy with h|⟨_,_,rfl⟩
  ·exact{hb y h,ha y h}
  ·exact{{{.nil,.nil,trivial,λ_ h=>nomatch h},(λ_ h=>nomatch h),(λ_ h=>nomatch h),λ_ h=>nomatch h},λ_ h=>nomatch h}
 unfold hG;split
 ·refine JFv G0.1 G0.2 (OZ _ _ _) (λz hz=>?_) haT;have:=(GL _ _ _).subset hz;rcases ((ji _ _).2.2 z).mp this with h|h
  ·have key:∀(g:Rc) (qs:P4 (Int×Rc)),(∀w∈g.2,w∈ES)->(∀q∈qs,∀w∈q.2.2,w∈ES)->∀w∈(lst g qs).2,w∈ES:=λg qs=>by
    induction qs generalizing g with
    |nil=>exact λh _=>h
    |cons q qs ih=>exact λ_ h2=>ih q.2 (h2 q BG) λp hp=>h2 p (BR _ hp)
   exact key _ _ G0.1.ge G0.1.re z h
  ·exact hs z h
 ·exact G0.1
end
def tw (g:Rc)(qs:P4 (Int×Rc))(t:Int):dI [pD g qs,.int t]=some (rD (ra g qs t)):=by
 rw[u0];push_cast [k7,pD];generalize hA:R.v (D.tup [rD g,.tup (List.map sD qs)])=A;clear hA;have key:∀(qs:P4 (Int×Rc)) (g:Rc) (x3:QI R),∃x3',
   eK (bD 3) fN (qs.map sD) [some A,cS t,some (.v (rD g)),x3] []=some (.nx [some A,cS t,some (.v (rD (ra g qs t))),x3'] []):=by
  intro qs
  induction qs with
  |nil=>intro g x3;exact{x3,rfl}
  |cons p ps ih=>
   intro g x3;rw[Ak,hV]
   by_cases e:t<p.1
   ·refine{some (.v (sD p)),?_}
    have he:decide (t<p.1)=true:=Cn e;push_cast [fN,sD,he];rw[ra,A8 e]
   ·let⟨x',hh⟩:=ih p.2 (some (.v (sD p)))
    refine{x',?_};have he:decide (t<p.1)=false:=Bz e;push_cast [fN,sD,he] at hh ⊢;rw[hh,ra,A6 e]
 let⟨x',h⟩:=key qs g none;rw[h];push_cast [HW.ML]
def dU (i:Int){j:Int}(h:0<j)(U:ac):bU (.v (.int i)) (.v (.int j)) U=some (.v (.int (i%j)),U):=oZ h
def jb (i:Int){j:Int}(h:0<j)(h2:j<2 ^ 30)(U:ac):iP (.v (.int i)) (.v (.int j)) U=some (.v (.int (i / j)),U):=JF ∅ ∅
def Bc (l:Th)(i:Int)(h:0<=i/\i<(l.length:Int)):∃x∈l,L2.kB (l.map D.int) i=some (.int x):=by
 obtain⟨j,rfl⟩:∃j:Nat,(j:Int)=i:={i.toNat,zcC h.1};have hj:j<l.length:=by omega
 exact{l[j],HR hj,mJ (Bl hj)}
noncomputable def lG:P4 Nat:=[97,98,99,100,101,102,103,104,105,106,107,108,109,110,111,112,113,114,115,116,117,118,119,120,121,122]
def JE2:(Str.ofString "abcdefghijklmnopqrstuvwxyz")=Tx lG:=by decide
def JE3:(Str.ofString "kmz")=Tx [107,109,122]:=by decide
def JGp:∀c∈lG,c<1000:=by decide
theorem BJ:∀l:P4 Nat,Str.join ⟨#[]⟩ (l.map λc=>Tx [c])=Tx l
 |[]=>rfl
 |[a]=>rfl
 |a::b::t=>by
  have ih:=BJ (b::t);rwa[Ak] at ih ⊢;rw[Str.join,ih]
  ·exact Str.ext' (Array.toList_inj.mp (by
    show(([a].toArray++#[])++(b::t).toArray).toList=_
    simp))
  all_goals simp
theorem wF:∀l:P4 Nat,l4 (l.map λc=>D.str (Tx [c]))=some (l.map λc=>Tx [c])
 |[]=>rfl
 |a::l=>by rwa[Ak,l4,wF l,BZ]
def JBe (l:P4 Nat)(hl:l.length<=40):JoinOk ⟨#[]⟩ (l.map λc=>Tx [c])=true:=by
 unfold JoinOk Builtin.Str.tooLong;have h:∀(l:P4 Nat) (s:Nat),(l.map λc=>Tx [c]).foldl (λt w=>t+w.length+(⟨#[]⟩:Str).length) s=s+l.length:=by
  intro l;induction l with
  |nil=>intro s;simp
  |cons a l ih=>
   intro s;rw[Ak,E4,ih,kF]
   show s+1+0+_=_
   rw[C3];omega
 have h:=h l 0;rw[←List.foldl_toArray'] at h
 ·rwa[Bool.not_eq_true',decide_eq_false_iff_not,Nat.not_lt];refine DK (Nat.le_of_eq h) ?_;have h4:(4000:Nat)<=sizeLine:=by decide
  omega
 ·rfl
def JEp {n:Nat}{U:ac}{l:P4 Nat}(h:U[n]?=some (.lst (l.map λc=>D.str (Tx [c]))))(hl:l.length<=40):qp (.v (.str "")) (.p n) U=some (.v (.str (Tx l)),U):=by
 have e:(Str.ofString "")=⟨#[]⟩:=by decide
 show((j9 (.p n) U).bind λds=>(l4 ds).bind λts=>if JoinOk (Str.ofString "") ts=true then some (R.v (.str (Txt.join (Str.ofString "") ts)),U) else none)=_
 rw[EE,h,Jy,BZ,wF,BZ,e,A8 (JBe l hl)];rw[show Txt.join ⟨#[]⟩ (l.map λc=>Tx [c])=Tx l from(PySem.StrLaws.glued_eq_join _ _).trans (BJ l)]
theorem pj {Z:Type}{f:FE}{rest:Lo}{U:ac}(e:Z->D)(P:D->Prop):∀(xs:P4 Z) (x0:QI R),(∀a∈xs,∃d,P d/\f (some (.v (e a))::rest) U=some (.v d,U))->∃ds,bJ (bD 0) c8 f (xs.map e) (x0::rest) U=some (ds,U)/\ds.length=xs.length/\∀d∈ds,P d
 |[],_,_=>{[],rfl,rfl,λ_ h=>nomatch h}
 |a::xs,x0,h=>by
  let⟨d,hd,h1⟩:=h a BG;let⟨ds,ih,hl,hp⟩:=pj e P xs (some (.v (e a))) λb hb=>h b (BR _ hb);refine{d::ds,?_,by simp[hl],λz hz=>?_}
  ·rwa[Ak,bJ,bD,zck,BZ,c8,if_true,h1,ih]
  ·rcases Ax.mp hz with rfl|hz
   ·exact hd
   ·exact hp z hz
theorem zC {Z:Type}(e:Z->D)(Q:Z->Prop):∀ds:P4 D,(∀d∈ds,∃a,Q a/\d=e a)->∃l:P4 Z,ds=l.map e/\∀a∈l,Q a
 |[],_=>{[],rfl,λ_ h=>nomatch h}
 |d::ds,h=>by let⟨a,ha,rfl⟩:=h d BG;let⟨l,rfl,hl⟩:=zC e Q ds λx hx=>h x (BR _ hx);exact{a::l,rfl,λx hx=>(Ax.mp hx).elim (λe=>e ▸ ha) (hl x)}
structure Sh where
 nm:Str
 ks:Nat
 w:Nat
abbrev bZ (s:Sh):D:=.tup [.str s.nm,.int (s.ks:Int),.int (s.w:Int)]
def okN (x:Str):Prop:=∃l:P4 Nat,x=Tx l/\∀c∈l,c<1000
def okN.ok {x:Str}(h:okN x)(n:Nat):dQ n (.str x)=true:=by let⟨l,rfl,h⟩:=h;exact KS λc hc=>by have:=h c hc;omega
structure GS (shs:List Sh):Prop where
 pos:0<shs.length
 le:shs.length<=3
 nd:(shs.map (·.nm)).Nodup
 ok:∀s∈shs,(s.ks<=s.w/\s.w<=8)/\okN s.nm
abbrev Bu (l:P4 Nat)(p c:Nat):P4 Nat:=l.take p++[c]++l.drop (p+1)
def JCv {l:P4 Nat}{p c d:Nat}(h:Tx (Bu l p c)=Tx (Bu l p d)):c=d:=by
 have h:=(J7 (l:=Bu l p c) (r:=Bu l p d));rename_i h0;rw[h0] at h;have h:Bu l p c=Bu l p d:=by simpa using h
 have h:=List.append_cancel_right h;simpa using List.append_cancel_left h
def yk (cell:Int):∃shs:P4 Sh,GS shs/\df [.int cell]=some (.fl (shs.map bZ)):=by
 rw[qW];let⟨n,hn,hn0,hn1⟩:=ir cell 1 ∅;have b8:=c7 n (j:=8) ∅;obtain⟨m,hm⟩:∃m:Nat,(1+n%8).toNat=m:={_,rfl};have hmi:(m:Int)=1+n%8:=by omega
 obtain⟨ds,hc,hl,hp⟩:=pj (f:=aw Gp (fK (.str "abcdefghijklmnopqrstuvwxyz")) (aw bU (aw iP (aW aV 2 (af (bA (ae 1)) (af (bA (aw ez (fK (.int 70)) (ae 0))) aj))) (fK (.int 3))) (fK (.int 26)))) (rest:=[cS cell]) (U:=[]) (λi:Nat=>D.int (i:Int)) (λd=>∃c:Nat,c<1000/\d=D.str (Tx [c])) (List.range m) none (λk hk=>by
  have hk:=Hh.mp hk;let⟨a,ha,ha0,ha1⟩:=ir cell (70+(k:Int)) ∅;have b:=c7 (a / 3) (j:=26) ∅;have Al:(a / 3%26).toNat<lG.length:=by show _<26;omega
  have hx:=FZ (U:=[]) (l:=lG) (i:=a / 3%26) (c:=lG[(a / 3%26).toNat]) b.1 ∅ (Bl Al);rw[←JE2] at hx;refine{_,{_,JGp _ (HR Al),rfl},?_};push_cast [ha,jb a (j:=3) ∅ ∅,dU (a / 3) (j:=26) ∅,hx])
 let⟨l,rfl,hl2⟩:=zC (λc:Nat=>D.str (Tx [c])) (·<1000) ds hp;have hl:l.length=m:=by simpa using hl
 have z0:((List.range m).map λi=>D.int (i:Nat)).length<=sizeLine:=bQ (by simp;omega);have bp:=c7 (n / 8) (j:=(m:Int)) ∅;obtain⟨p,hpi⟩:∃p:Nat,(p:Int)=n / 8%(m:Int):={(n / 8%(m:Int)).toNat,by omega};have hpl:p<l.length:=by omega
 have zl:l.length<=sizeLine:=bQ ∅;have jv:=JEp (n:=0) (U:=[au.lst (l.map λc=>D.str (Tx [c]))]) (l:=l) rfl ∅;have lv:=JFu (U:=[au.lst (l.map λc=>D.str (Tx [c]))]) zl;have b3:=c7 (n / 64) (j:=3) ∅;obtain⟨q,hq⟩:∃q:Nat,(1+n / 64%3).toNat=q:={_,rfl};have hmi':(l.length:Int)=(m:Int):=by omega
 push_cast [iU,hn,dU n (j:=8) ∅,sf (j:=1+n%8) ∅,hm,z0,hc,GZ,Dd,jv,lv,hmi',jb n (j:=8) ∅ ∅,dU (n / 8) (j:=(m:Int)) ∅,←hpi,jb n (j:=64) ∅ ∅,dU (n / 64) (j:=3) ∅,sf (j:=1+n / 64%3) ∅,hq];have b256:=c7 (n / 256) (j:=3) ∅;have to:=λU=>KP (U:=U) (l:=l) (n:=p) ∅ zl;have fr:=λU=>JDl (U:=U) (l:=l) (n:=p+1) ∅ zl;have pc:(p:Int)+1=((p+1:Nat):Int):=by omega
 let⟨O',U',e,shs,x5,x6,x7,rfl,⟨cs,rfl⟩,h1,h2,h3⟩:=oP (g:=bD 5) (b:=f8) (O:=[cS cell,cS n,some (.v (.str (Tx l))),cS ((p:Int)),ba 1,none,none,none]) (U:=[au.lst (l.map λc=>D.str (Tx [c])),.lst []]) q
  (λi O U=>∃(shs:P4 Sh) (x5 x6 x7:QI R),O=[cS cell,cS n,some (.v (.str (Tx l))),cS ((p:Int)),ba 1,x5,x6,x7]/\(∃cs:P4 au,U=.lst (l.map λc=>D.str (Tx [c])) :: .lst (shs.map bZ)::cs)/\shs.length=i/\(∀s∈shs,((s.ks<=s.w/\s.w<=8)/\okN s.nm)/\∃k c,k<i/\[107,109,122][k]?=some c/\s.nm=Tx (Bu l p c))/\(shs.map (·.nm)).Nodup)
  {[],none,none,none,rfl,{[],rfl},rfl,(λ_ h=>nomatch h),.nil} (by
   rintro i hi O U ⟨shs,x5,x6,x7,rfl,⟨cs,rfl⟩,h1,h2,h3⟩;have hi3:i<3:=∅;let⟨a,ha,ha0,ha1⟩:=ir cell (80+(i:Int)) ∅;let⟨b,hb,hb0,Ih⟩:=ir cell (90+(i:Int)) ∅;let⟨x,hx,Hm⟩:=Bc [3,3,8] (n / 256%3) b256;have hx0:0<x/\x<=8:=(by simp at hx;omega);have Hm:L2.kB [D.int 3,.int 3,.int 8] (n / 256%3)=some (.int x):=Hm;have bw:=c7 (a / 3) (j:=x) hx0.1;obtain⟨w,hw⟩:∃w:Nat,(w:Int)=1+a / 3%x:={(1+a / 3%x).toNat,by omega};have bk:=c7 (b / 3) (j:=(w:Int)+1) ∅;obtain⟨ks,IS⟩:∃ks:Nat,(ks:Int)=b / 3%((w:Int)+1):={(b / 3%((w:Int)+1)).toNat,by omega};have hc3:∃c,[107,109,122][i]?=some c/\c<1000:=by have:i=0\/i=1\/i=2:=∅;rcases this with rfl|rfl|rfl <;> exact{_,rfl,by decide}
   let⟨c,hc,Ie⟩:=hc3;have kx:=λU=>FZ (U:=U) (l:=[107,109,122]) (i:=(i:Int)) (c:=c) ∅ ∅ ‹hc›;rw[←JE3] at kx;have ad1:∀U:ac,ez (.v (.str (Tx (l.take p)))) (.v (.str (Tx [c]))) U=some (.v (.str (Tx (l.take p++[c]))),U):=λU=>by rw[Aa,A8 (bQ (by simp;omega))]
   have ad2:∀U:ac,ez (.v (.str (Tx (l.take p++[c])))) (.v (.str (Tx (l.drop (p+1))))) U=some (.v (.str (Tx (Bu l p c))),U):=λU=>by rw[Aa,A8 (bQ (by simp;omega))]
   have zs:(shs.map bZ).length<sizeLine:=gK (by simp;omega);refine{_,_,?_,shs++[{Tx (Bu l p c),ks,w}],cS ((i:Int)),cS ((w:Int)),some (.v (.str (Tx (Bu l p c)))),rfl,{cs++[.lst [.int 3,.int 3,.int 8]],rfl},by simp[h1],λs hs=>?_,?_}
   ·push_cast [f8,ha,hb,jb a (j:=3) ∅ ∅,jb b (j:=3) ∅ ∅,jb n (j:=256) ∅ ∅,dU (n / 256) (j:=3) ∅,sI,Hm,dU (a / 3) (j:=x) hx0.1,←hw,KQ,JFt,JFs,JFr,to,pc,fr,kx,ad1,ad2,dU (b / 3) (j:=(w:Int)+1) ∅,←IS,zs,Cy]
   ·rcases DI.mp hs with hs|hs
    ·let⟨q1,k,c',q2,q3,q4⟩:=h2 s hs;exact{q1,k,c',by omega,q3,q4}
    ·rw[Bg.mp hs];refine{{{?_,?_},{_,rfl,λz hz=>?_}},i,c,by omega,hc,rfl}
     ·show ks<=w;omega
     ·show w<=8;omega
     ·rcases DI.mp hz with hz|hz
      ·rcases DI.mp hz with hz|hz
       ·exact hl2 z (List.mem_of_mem_take hz)
       ·rw[Bg.mp hz];exact Ie
      ·exact hl2 z (List.mem_of_mem_drop hz)
   ·rw[Cy,EI];refine{h3,by simp,λu hu v hv z=>?_};have hv:v=Tx (Bu l p c):=‹hv›;let⟨s,hs,rfl⟩:=Bm.mp hu;let⟨_,k,c',q2,q3,q4⟩:=h2 s hs;rw[q4,hv] at z;have:=JCv z;subst this;have nd:([107,109,122]:P4 Nat).Nodup:=∅;have:=(List.getElem?_inj (by simp;omega) nd).mp (q3.trans hc.symm);omega)
 rw[e];push_cast [HW.ML];exact{shs,{by omega,by omega,h3,λs hs=>(h2 s hs).1},rfl}
abbrev Gm (e:Th×Rc):D:=.tup [.key e.1,rD e.2]
abbrev l7 (e:Th×Rc):D:=.tup [.key e.1,pD e.2 []]
noncomputable def SL (t:Int)(T:P4 En):P4 (Th×Rc):=(T.map λe=>(e.1,ra e.2.1 e.2.2 t)).filter λe=>!decide (e.2=NO)
theorem wg {Z:Type}(k v:Z->D){c:FT}{f:FE}{rest:Lo}{U:ac}(p:Z->A7)(out:Z->D):∀(T:P4 Z) (x0 x1:QI R),(∀e∈T,c (some (.v (k e))::some (.v (v e))::rest) U=some (p e,U))->(∀e∈T,p e=true->f (some (.v (k e))::some (.v (v e))::rest) U=some (.v (out e),U)) ->
  bJ (nt 2 (aH (bD 0) (aH (bD 1) cT))) c f (T.map λe=>.tup [k e,v e]) (x0::x1::rest) U=some ((T.filter p).map out,U)
 |[],_,_,_,_=>rfl
 |e::T,x0,x1,h,h'=>by
  have h1:=h e BG;have ih:=wg k v p out T (some (.v (k e))) (some (.v (v e))) (λb hb=>h b (BR _ hb)) (λb hb=>h' b (BR _ hb));have hg:nt 2 (aH (bD 0) (aH (bD 1) cT)) (.v (.tup [k e,v e])) (x0::x1::rest) U=some (some (.v (k e))::some (.v (v e))::rest,U):=rfl
  cases hp:p e with
  |true=>
   have h2:=h' e BG hp;rwa[Ak,bJ,hg,BZ,h1,hp,if_true,h2,ih,zbF]
  |false=>rwa[Ak,bJ,hg,BZ,h1,hp,C8,if_false,ih,zbF]
def LI:dQ 60 (.tup [.bl false,.tup []])=true:=by decide
def Mw (r:Rc):jh (rD r) (.tup [.bl false,.tup []])=decide (r=NO):=uv r (false,[])
def JAx {T:P4 En}(hn:T.length<100)(t:Int):eI [.fl (T.map bm),.int t]=some (.lst ((SL t T).map l7)):=by
 rw[uY];have hk:(SL t T).length<=T.length:=by unfold SL;exact DK (List.length_filter_le _ _) ∅
 have z1:(T.map bm).length<=sizeLine:=bQ (by rw[Ay];omega);have z2:((T.map λe=>(e.1,ra e.2.1 e.2.2 t)).map Gm).length<=sizeLine:=bQ (by rw[Ay,Ay];omega);have z3:((SL t T).map l7).length<=sizeLine:=bQ (by rw[Ay];omega);have c0:bJ (nt 2 (aH (bD 0) (aH (bD 1) cT))) c8 (bM (af (ae 0) (af (aW dI 2 (af (bA (ae 1)) (af (bA (ae 2)) aj))) aj))) (T.map bm) [none,none,cS t] []=some ((T.filter λ_=>true).map (λe=>Gm (e.1,ra e.2.1 e.2.2 t)),[]) :=
  wg (λe:En=>.key e.1) (λe=>jc e.2) (rest:=[cS t]) (λ_=>true) (λe=>Gm (e.1,ra e.2.1 e.2.2 t)) T none none (λe he=>rfl) (λe _ _=>by have h1:=tw e.2.1 e.2.2 t;push_cast [h1,Gm])
 have hf:(T.filter λ_=>true).map (λe=>Gm (e.1,ra e.2.1 e.2.2 t))=(T.map λe=>(e.1,ra e.2.1 e.2.2 t)).map Gm:=by rw[List.filter_eq_self.mpr λ_ _=>rfl,Du];rfl
 rw[hf] at c0;have c1:∀U:ac,bJ (nt 2 (aH (bD 0) (aH (bD 1) cT))) (fB (aw (jg true) (ae 1) (fK (.tup [.bl false,.tup []])))) (bM (af (ae 0) (af (bM (af (ae 1) (af (bM aj) aj))) aj))) ((T.map λe=>(e.1,ra e.2.1 e.2.2 t)).map Gm) [none,none] U=some ((SL t T).map l7,U):=λU=>
  wg (λe:Th×Rc=>.key e.1) (λe=>rD e.2) (rest:=[]) (λe=>!decide (e.2=NO)) l7 (T.map λe=>(e.1,ra e.2.1 e.2.2 t)) none none (λe he=>by push_cast [Bq,LI,Mw]) (λe he _=>by push_cast [l7,pD,D1])
 have c0':bJ (nt 2 (aH (bD 0) (aH (bD 1) cT))) c8 (bM (af (ae 0) (af (aW dI 2 (af (bA (ae 1)) (af (bA (ae 2)) aj))) aj))) (T.map bm) (ca 2 [1] [some (.v (.fl (T.map bm))),cS t,none]) []=some ((T.map λe=>(e.1,ra e.2.1 e.2.2 t)).map Gm,[]):=c0;have bl:∀x0 x1 x2:QI R,ca 2 [] [x0,x1,x2]=[none,none]:=λ_ _ _=>rfl;push_cast [kY,z1,c0',z2,bl,c1,z3]
theorem n8 {Z:Type}{r:Z->Z->Prop}(irr:∀a,¬ r a a)(tr:∀a b c,r a b->r b c->r a c):∀{l1 l2:P4 Z},l1.Pairwise r->l2.Pairwise r->(∀a,a∈l1 ↔ a∈l2)->l1=l2
 |[],[],_,_,_=>rfl
 |[],y::_,_,_,h=>nomatch (h y).mpr BG
 |x::_,[],_,_,h=>nomatch (h x).mp BG
 |x::l1,y::l2,h1,h2,h=>by
  have p1:=DL.mp h1;have p2:=DL.mp h2;have e:x=y:=by
   rcases Ax.mp ((h x).mp BG) with z|z
   ·exact z
   ·rcases Ax.mp ((h y).mpr BG) with z'|z'
    ·exact z'.symm
    ·exact AH (tr _ _ _ (p1.1 _ z') (p2.1 _ z)) (irr _)
  subst e;refine AI _ (n8 irr tr p1.2 p2.2 λa=>{λha=>?_,λha=>?_})
  ·rcases Ax.mp ((h a).mp (BR _ ha)) with z|z
   ·subst z;exact AH (p1.1 _ ha) (irr _)
   ·exact z
  ·rcases Ax.mp ((h a).mpr (BR _ ha)) with z|z
   ·subst z;exact AH (p2.1 _ ha) (irr _)
   ·exact z
theorem AL {a t:Int}(r:Rc)(ht:t<a):∀(qs:P4 (Int×Rc)) (g:Rc),ra g (qs++[(a,r)]) t=ra g qs t
 |[],g=>by rw[Dd,ra,ra,A8 ht]
 |q::qs,g=>by
  rw[HP,ra,ra];split
  ·rfl
  ·exact AL r ht qs q.2
def AK {x:Tl}{keys:Nat}{a t:Int}(e:En)(ht:t<a):(hG x keys a e).1=e.1/\ra (hG x keys a e).2.1 (hG x keys a e).2.2 t=ra e.2.1 e.2.2 t:=by
 unfold hG;split
 ·refine{rfl,?_};unfold Hg;dsimp only;split
  ·rfl
  ·exact AL _ ht _ _
 ·exact{rfl,rfl}
def wp {t:Int}{T:P4 En}{z:Th×Rc}:z∈SL t T ↔ ∃e∈T,z=(e.1,ra e.2.1 e.2.2 t)/\z.2≠NO:=by
 unfold SL;rw[zcc,Bm];constructor
 ·rintro⟨⟨e,he,rfl⟩,h⟩;exact{e,he,rfl,by simpa using h}
 ·rintro⟨e,he,rfl,h⟩;exact{{e,he,rfl},by simpa using h}
def GM {t:Int}{T:P4 En}(h:zq (T.map (·.1))):(SL t T).Pairwise λx y=>DU.iH x.1 y.1=true:=by unfold SL;refine List.Pairwise.filter _ ?_;unfold zq at h;rw[H9] at h ⊢;exact h
def JD8 {x:Tl}{keys:Nat}{a t:Int}{T A:P4 En}(hA:∀e,e∈A ↔ e∈(cQ x T).map (hG x keys a)/\e.2≠zo)(uA:zq (A.map (·.1)))(uT:zq (T.map (·.1)))(ht:t<a):SL t A=SL t T:=by
 refine n8 (r:=λx y=>DU.iH x.1 y.1=true) (λz h=>by rw[fM] at h;cases h) (λ_ _ _=>DU.eM _ _ _) (GM uA) (GM uT) λz=>?_;rw[wp,wp];constructor
 ·rintro⟨e,he,rfl,hz⟩;let⟨h1,_⟩:=(hA e).mp he;let⟨y,hy,rfl⟩:=Bm.mp h1;let⟨q1,q2⟩:=AK (x:=x) (keys:=keys) y ht;rcases jI.mp hy with h|⟨_,_,rfl⟩
  ·exact{y,h,by rw[q1,q2],hz}
  ·exact AH q2 (λq=>hz (by rw[q2];rfl))
 ·rintro⟨e,he,rfl,hz⟩;let⟨q1,q2⟩:=AK (x:=x) (keys:=keys) e ht;refine{hG x keys a e,(hA _).mpr {Bm.mpr {e,jI.mpr (.inl he),rfl},λz=>hz ?_},by rw[q1,q2],hz};rw[z] at q2;exact q2.symm
theorem xV {T:P4 En}(hp:∀e∈T,e.2.1=NO/\∀q∈e.2.2,0<q.1){t:Int}(ht:t<=0):SL t T=[]:=by
 refine List.eq_nil_iff_forall_not_mem.mpr λz h=>?_;let⟨e,he,rfl,hz⟩:=wp.mp h;let⟨h1,h2⟩:=hp e he;refine hz ?_
 show ra e.2.1 e.2.2 t=NO
 cases hq:e.2.2 with
 |nil=>rw[ra];exact h1
 |cons q qs=>rw[ra,A8 (by have:=h2 q (by rw[hq];exact BG);omega)];exact h1
def Lw {Z:Type}(f:Z->D)(xs:P4 Z)(i:Int)(hx:0<xs.length):∃x∈xs,L2.kB (xs.map f) (i%(xs.length:Int))=some (f x):=by
 obtain⟨j,hj⟩:∃j:Nat,(j:Int)=i%(xs.length:Int):={(i%(xs.length:Int)).toNat,by rw[zcC (zcP _ ∅)]};have Al:j<xs.length:=by have:=zcF i (b:=(xs.length:Int)) ∅;omega
 exact{xs[j],HR Al,by rw[←hj];exact mJ (Bl Al)}
noncomputable def EL (sc:Int):Th:=(List.range 18).map λi:Nat=>((i:Int)-3)*sc
def JP (sc:Int):(EL sc).length=18:=by simp[EL]
def CU {sc k:Int}(h1 : -3<=k)(h2:k<=14):k*sc∈EL sc:=Bm.mpr {(k+3).toNat,Hh.mpr ∅,by rw[zcC ∅];congr 1;omega}
structure GT (sc:Int)(shs:List Sh)(x:Tl):Prop where
 ok:x.Ok
 ed:∀z∈(st x.lo x.hi).2,z∈EL sc
 nm:okN x.nm
 sh:∃s∈shs,s.nm=x.nm/\x.said.length=if x.tl=true then s.w else s.ks
section
variable {O:Lo}{U:ac}{x:R}
noncomputable def Fv (o:QI (R×ac))(fl fh:FO)(O:Lo):QI (R×ac):=o.bind λa=>(fl O a.2).bind λl=>(fh O l.2).bind λh=>F0 a.1 l.1 h.1 h.2
noncomputable def Fu (x:R)(o:QI (QI Int×ac))(fh:FO)(O:Lo):QI (R×ac):=o.bind λl=>(fh O l.2).bind λh=>F0 x l.1 h.1 h.2
noncomputable def Ft (x:R)(l:QI Int)(o:QI (QI Int×ac)):QI (R×ac):=o.bind λh=>F0 x l h.1 h.2
def Qn {fa:FE}{fl fh:FO}:Ez fa fl fh O U=Fv (fa O U) fl fh O:=rfl
def Qm {fl fh:FO}:Fv (some (x,U)) fl fh O=Fu x (fl O U) fh O:=rfl
def Ql {fh:FO}{l:QI Int}:Fu x (some (l,U)) fh O=Ft x l (fh O U):=rfl
def Qk {l h:QI Int}:Ft x l (some (h,U))=F0 x l h U:=rfl
def Qj (r:Th)(k:Nat)(U:ac):F0 (.v (.key r)) none (some (k:Int)) U=some (.v (.key (r.take k)),U):=by
 have:ze r none (some (k:Int))=r.take k:=by unfold ze;have h1:HT.cH r.length 0 none=0:=rfl;have h2:HT.cH r.length r.length (some (k:Int))=min k r.length:=HT.wR _ _ _;rw[h1,h2,List.drop_zero,Nat.sub_zero,List.take_eq_take_iff.mpr];simp
 show some (R.v (.key (ze r none (some (k:Int)))),U)=_
 rw[this]
end
def vd (c s:Int)(hs:0<s){shs:P4 Sh}(g:GS shs):∃x:Tl,GT s shs x/\bW [.int c,.fl (shs.map bZ),.int s]=some (bC x):=by
 rw[pC];let⟨n,hn,hn0,hn1⟩:=ir c 2 ∅;let⟨sh,BV,a1⟩:=Lw bZ shs n g.pos;let⟨⟨hk,hw⟩,Dp⟩:=g.ok sh BV;have mS:=λU=>dU n (j:=(shs.length:Int)) (by have:=g.pos;omega) U;obtain⟨P,hP⟩:∃P:Int,P=10 ^ (50:Int).toNat:={_,rfl};have ER:∀U:ac,j8 (.v (.int 10)) (.v (.int 50)) U=some (.v (.int P),U):=λU=>by rw[v7 ∅,hP]
 have hP0:0<P:=by rw[hP];exact Int.pow_pos ∅
 clear hP;have sz5:5<=sizeLine:=by decide
 let⟨ds,hc,hl,hp⟩:=pj (f:=aw bg (ae 1) (aw bU (aw iP (aW aV 2 (af (bA (ae 2)) (af (bA (aw ez (fK (.int 20)) (ae 0))) aj))) (fK (.int 5))) (fK (.int 5)))) (rest:=[ba 0,cS c]) (U:=[au.lst [.int 0,.int 1,.int (-1),.int (c%P),.int (0-c%P)]]) (λi:Nat=>D.int (i:Int)) (λd=>∃i:Int,True/\d=D.int i) (List.range sh.w) none (λk hk=>by have hk:=Hh.mp hk;let⟨a,ha,ha0,ha1⟩:=ir c (20+(k:Int)) ∅;have b:=c7 (a / 5) (j:=5) ∅;obtain⟨x,-,hx⟩:=Bc [0,1,-1,c%P,0-c%P] (a / 5%5) b;have hx:L2.kB [D.int 0,.int 1,.int (-1),.int (c%P),.int (0-c%P)] (a / 5%5)=some (.int x):=hx;refine{_,{x,trivial,rfl},?_};push_cast [ha,jb a (j:=5) ∅ ∅,dU (a / 5) (j:=5) ∅,hx])
 obtain⟨r,rfl,-⟩:=zC D.int (λ_=>True) ds hp;have hl:r.length=sh.w:=by simpa using hl
 have z0:(List.range sh.w).length<=sizeLine:=bQ (by simp;omega);have b12:=c7 (n / 8) (j:=12) ∅;have b6:=c7 (n / 96) (j:=6) ∅;have m1:∀U:ac,oM (.v (.int (n / 8%12-3))) (.v (.int s)) U=some (.v (.int ((n / 8%12-3)*s)),U):=λU=>j3 ∅;have m2:∀U:ac,oM (.v (.int (1+n / 96%6))) (.v (.int s)) U=some (.v (.int ((1+n / 96%6)*s)),U):=λU=>j3 ∅;have hgt:0<(1+n / 96%6)*s:=Int.mul_pos ∅ hs;obtain⟨lw,hlw⟩:∃lw,lw=(n / 8%12-3)*s:={_,rfl};obtain⟨up,hup⟩:∃up,up=lw+(1+n / 96%6)*s:={_,rfl};have ct:=Qj r sh.ks;have ev:∀(b1 b2 b3:A7),(n / 600%5 == 0)=b1->(n / 3000%5 == 0)=b2->(n / 15000%3 == 0)=b3 ->
   gc (eV [cS c,some (.v (.fl (shs.map bZ))),cS s,none,none,none,none,none,none,none,none] [])=some (bC {!b3,if b3 then r.take sh.ks else r,if b1 then none else some lw,if b2 then none else some up,sh.nm}):=by
  intro b1 b2 b3 e1 e2 e3;cases b1 <;> cases b2 <;> cases b3 <;> push_cast [eV,hn,Ay,mS,a1,ER,dU c (j:=P) hP0,sz5,sf (j:=(sh.w:Int)) ∅,HZ,z0,hc,BH,BZ,jb n (j:=8) ∅ ∅,dU (n / 8) (j:=12) ∅,m1,jb n (j:=96) ∅ ∅,dU (n / 96) (j:=6) ∅,m2,←hlw,←hup,jb n (j:=600) ∅ ∅,dU (n / 600) (j:=5) ∅,jb n (j:=3000) ∅ ∅,dU (n / 3000) (j:=5) ∅,jb n (j:=15000) ∅ ∅,dU (n / 15000) (j:=3) ∅,e1,e2,e3,Qn,Qm,Ql,Qk,ct,C8,if_false,zbS,Bool.not_false,oD] <;> rfl
 have m1':lw∈EL s:=by rw[hlw];exact CU ∅ ∅
 have m2':up∈EL s:=by rw[hup,hlw,←Int.add_mul];exact CU ∅ ∅
 have ed:∀lo hi:QI Int,(∀z,lo=some z->z∈EL s)->(∀z,hi=some z->z∈EL s)->∀z∈(st lo hi).2,z∈EL s:=λlo hi h1 h2=>by
  cases lo <;> cases hi <;> simp[st] at h1 h2 ⊢
  ·exact h2
  ·exact h1
  ·exact{h1,h2}
 refine{_,{?_,ed _ _ (λz hz=>?_) (λz hz=>?_),Dp,sh,BV,rfl,?_},ev _ _ _ rfl rfl rfl}
 ·intro l u h1 h2;dsimp only at h1 h2;split at h1
  ·cases h1
  ·split at h2
   ·cases h2
   ·cases h1;cases h2;omega
 ·dsimp only at hz;split at hz
  ·cases hz
  ·cases hz;exact m1'
 ·dsimp only at hz;split at hz
  ·cases hz
  ·cases hz;exact m2'
 ·dsimp only
  cases(n / 15000%3 == 0)
  ·simpa using hl
  ·simp;omega
def xO (a b:Str):jh (.str a) (.str b)=(a == b):=rfl
section
variable {O:Lo}{U:ac}{n:Nat}
noncomputable def uJ (o:QI au)(c f:Str)(U:ac):QI (R×ac):=match o with|some (.ob c' fs)=>if c'=c then (fs.lookup f).bind λd=>some (d,U) else none|_=>none
noncomputable def zO (o:QI (R×ac))(c f:Str):QI (R×ac):=o.bind λo=>match o.1 with|.p n=>uJ o.2[n]? c f o.2|_=>none
theorem lf {c f:Str}{fo:FE}:dD c f fo O U=zO (fo O U) c f:=by
 unfold dD zO;refine AI _ (funext λo=>?_);unfold pN
 cases o.1 with
 |p n=>
  dsimp only
  cases e:o.2[n]? with
  |none=>rfl
  |some c'=>
   cases c' with
   |ob c' fs=>
    show(if c'=c then some fs else none).bind _=if c'=c then _ else none
    split <;> rfl
   |_=>rfl
 |_=>rfl
def ip {c f:Str}:zO (some (.p n,U)) c f=uJ U[n]? c f U:=rfl
abbrev zu (a b c:Nat):P4 (Str×R):=[("shape_list",.p a),("tellings",.p b),("tables_now",.p c)]
def Qq:(("tellings" : Str) == "shape_list")=false:=by decide
def Qp:(("tables_now" : Str) == "shape_list")=false:=by decide
def Qo:(("tables_now" : Str) == "tellings")=false:=by decide
def OW {a b c:Nat}:uJ (some (.ob "Book" (zu a b c))) "Book" "shape_list" U=some (.p a,U):=by simp[uJ,Dj]
def P6 {a b c:Nat}:uJ (some (.ob "Book" (zu a b c))) "Book" "tellings" U=some (.p b,U):=by simp[uJ,Dj,Qq]
def Nt {a b c:Nat}:uJ (some (.ob "Book" (zu a b c))) "Book" "tables_now" U=some (.p c,U):=by simp[uJ,Dj,Qp,Qo]
def kW {nm:Str}{w:MW}{fo:FE}{fa:FA}{rs:P4 R}{U1:ac}{a b c s:Nat}(ho:fo O U=some (.p s,U))(hs:U[s]?=some (.ob "Book" (zu a b c)))(h1:(nm == "shape_list")=false)(h2:(nm == "tellings")=false)(h3:(nm == "tables_now")=false)(ha:fa O U=some (rs,U1))(hl:rs.length+1=n):dC "Book" nm w n fo fa O U=w (.p s::rs) U1:=by simp[dC,ho,pN,hs,Dj,h1,h2,h3,ha,hl]
noncomputable def Ku (o:QI (P4 R×ac))(f:MW)(n:Nat):QI (R×ac):=o.bind λa=>if a.1.length=n then f a.1 a.2 else none
theorem GV {f:MW}{fa:FA}:cm f n fa O U=Ku (fa O U) f n:=rfl
theorem zy {f:MW}{rs:P4 R}:Ku (some (rs,U)) f n=if rs.length=n then f rs U else none:=rfl
end
def ky {a b:FS}{O O1:Lo}{U U1:ac}(ha:a O U=some (.nx O1 U1)):az a b O U=b O1 U1:=by rw[mD,ha,gB]
def rZ {shs:P4 Sh}(g:GS shs){s t:Sh}(hs:s∈shs)(ht:t∈shs)(e:s.nm=t.nm):s=t:=by let⟨i,hi,rfl⟩:=Hb hs;let⟨j,hj,rfl⟩:=Hb ht;have:i=j:=(HU (xs:=shs.map (·.nm)) (h₀:=by simpa using hi) (h₁:=by simpa using hj) g.nd).mp ‹e›;subst this;rfl
def oe {shs:P4 Sh}(g:GS shs){s:Sh}(hs:s∈shs):bO [.fl (shs.map bZ),.str s.nm]=some (bZ s):=by
 rw[uZ];have key:∀(l:P4 Sh) (x2:QI R),(∀t∈l,t∈shs)->s∈l->eK (bD 2) et (l.map bZ) [some (.v (.fl (shs.map bZ))),some (.v (.str s.nm)),x2] []=some (.rt (.v (bZ s)) []):=by
  intro l;induction l with
  |nil=>intro _ _ h;cases h
  |cons t l ih=>
   intro x2 hl hm;have o1:=(g.ok t (hl t BG)).2.ok 60;have o2:=(g.ok s hs).2.ok 60;rw[Ak,hV]
   cases c:(t.nm == s.nm) with
   |true=>
    have:=rZ g (hl t BG) hs ‹c›;subst this;push_cast [et,o1,xO,c]
   |false=>
    have hm:s∈l:=(Ax.mp hm).resolve_left λe=>(by rw[e] at c;simp at c);have e:et [some (.v (.fl (shs.map bZ))),some (.v (.str s.nm)),some (.v (bZ t))] []=some (.nx [some (.v (.fl (shs.map bZ))),some (.v (.str s.nm)),some (.v (bZ t))] []):=by push_cast [et,o1,o2,xO,c]
    rwa[Cd,ut,Ea,D9];rw[e,xp];exact ih _ (λt ht=>hl t (BR _ ht)) hm
 have k:=key shs none (λ_ h=>h) hs;push_cast [kZ];rw[k];push_cast [HW.ML]
def sJ (key:Th){k:Nat}(h:key.length=k):dB [.tup (key.map .int),.int (k:Int)]=some .non:=by
 rw[pE];have e:((key.length:Int) == (k:Int))=true:=by rw[h];exact beq_self_eq_true _
 push_cast [gS,Ay,e,zbS]
theorem so {lo hi:QI Int}(h:∀l r,lo=some l->hi=some r->l<r):cL [oD lo,oD hi]=some .non:=by
 rw[ng]
 cases lo with
 |none=>cases hi <;> rfl
 |some l=>
  cases hi with
  |none=>rfl
  |some r=>
   have:=h l r rfl rfl;have hz:decide (r<=l)=false:=Bz ∅;push_cast [fG,oD,hz]
def Kx (x:Tl):bK [C4 x]=some (.bl x.tl):=by
 rw[p5];let⟨b,s,lo,hi,nm⟩:=x;cases b
 ·push_cast [fV,C8,if_false,k5,k6,q6]
 ·push_cast [fV,if_true,k5,q5]
theorem JB8 {sc:Int}{shs:P4 Sh}(g:GS shs){x:Tl}(h:GT sc shs x):bj [.fl (shs.map bZ),C4 x]=some .non:=by
 rw[nc];let⟨s,hs,hn,hl⟩:=h.sh;have se:=oe g hs;rw[hn] at se;have ix4:∀U:ac,bg (.v (C4 x)) (.v (.int 4)) U=some (.v (oD x.hi),U):=λU=>rfl;have ix3:∀U:ac,bg (.v (C4 x)) (.v (.int 3)) U=some (.v (oD x.lo),U):=λU=>rfl;have ix2:∀U:ac,bg (.v (C4 x)) (.v (.int 2)) U=some (.v (.tup (x.said.map .int)),U):=λU=>rfl;have ix1:∀U:ac,bg (.v (C4 x)) (.v (.int 1)) U=some (.v (.str x.nm),U):=λU=>rfl;have te:=Kx x;have ch:=so h.ok;have fl:cN (bZ s)=true:=rfl
 cases ht:x.tl with
 |true=>
  rw[ht] at te hl;have w:=sJ x.said hl;rw[A8 rfl] at w;push_cast [dH,ix1,ix2,ix3,ix4,se,fl,te,w,ch]
 |false=>
  rw[ht] at te hl;have w:=sJ x.said hl;rw[A6 ∅] at w;push_cast [dH,ix1,ix2,ix3,ix4,se,fl,te,w,ch]
open L2
structure Bk (U:ac)(s a b c:Nat)(shs:List Sh)(xs:List Tl)(kv:List (aE×D)):Prop where
 ob:U[s]?=some (.ob "Book" (zu a b c))
 sl:U[a]?=some (.lst (shs.map bZ))
 tl:U[b]?=some (.lst (xs.map bC))
 tb:U[c]?=some (.dct kv)
 ab:a≠b
section
variable {U:ac}{s a b c:Nat}{shs:P4 Sh}{xs:P4 Tl}{kv:P4 (aE×D)}
def Bk.app (h:Bk U s a b c shs xs kv)(cs:P4 au):Bk (U++cs) s a b c shs xs kv:=by
 have f:∀{i:Nat} {x:au},U[i]?=some x->(U++cs)[i]?=some x:=λ{i x} e=>by rw[BY (bH e)];exact e
 exact{f h.ob,f h.sl,f h.tl,f h.tb,h.ab}
def JE7 (x:Tl):cq (bC x)=C4 x:=by
 have o:∀o:QI Int,cq (oD o)=oD o:=λo=>by cases o <;> rwa[oD,cq]
 rwa[bC,C4,dk,cq,unkDs,o]
def JE8 (s:Sh):cq (bZ s)=bZ s:=by rwa[bZ,cq,unkDs]
theorem wx:∀l:P4 Sh,unkDs (l.map bZ)=l.map bZ
 |[]=>by rwa[D1,unkDs]
 |s::l=>by rw[Ak,unkDs,JE8,wx l]
end
noncomputable def JZ (n:Nat):Th:=(List.range (n+1)).map λi:Nat=>(i:Int)
def JD7 (n:Nat):(JZ n).length=n+1:=by simp[JZ]
def nO {n:Nat}{q:Int}:q∈JZ n ↔ 0<=q/\q<=n:=by unfold JZ;rw[Bm];exact{λh=>by let⟨i,hi,rfl⟩:=h;have:=Hh.mp hi;omega,λh=>{q.toNat,Hh.mpr ∅,by omega}}
def BP.mono {ES TS ES' TS':Th}{p:Pl}(h:BP ES TS p)(h1:∀e∈ES,e∈ES')(h2:∀e∈TS,e∈TS'):BP ES' TS' p:={h.pf,λe he=>h1 e (h.ge e he),λq hq e he=>h1 e (h.re q hq e he),λq hq=>h2 _ (h.te q hq)}
structure ij (sc:Int)(sh:Sh)(xs:List Tl)(T:List En):Prop where
 bp:∀e∈T,BP (EL sc) (JZ xs.length) e.2
 rw:∀e∈T,e.1.length=sh.w
 up:zq (T.map (·.1))
 ln:T.length<=xs.length
 ps:∀e∈T,e.2.1=NO/\∀q∈e.2.2,0<q.1
 ne:∀e∈T,e.2≠zo
def ij.more {sc:Int}{sh:Sh}{xs:P4 Tl}{T:P4 En}(h:ij sc sh xs T){x:Tl}(hx:x.nm≠sh.nm):ij sc sh (xs++[x]) T :=
 {λe he=>(h.bp e he).mono (λz hz=>hz) (λz hz=>by rw[nO] at hz ⊢;rw[Bb];simp;omega),h.rw,h.up,by have:=h.ln;rw[Bb];simp;omega,h.ps,h.ne}
def yX (bt:A7){sc:Int}{sh:Sh}{xs:P4 Tl}{T:P4 En}(h:ij sc sh xs T)(hk:sh.ks<=sh.w){x:Tl}(hx:x.nm=sh.nm)(ho:x.Ok)(he:∀z∈(st x.lo x.hi).2,z∈EL sc)(hs:x.tl=true->x.said.length=sh.w)(hn:xs.length<=62) :
  ∃A:P4 En,dR bt [.fl (T.map bm),.int (sh.ks:Int),bC x,.int ((xs.length:Int)+1)]=some (.lst (A.map bm))/\ij sc sh (xs++[x]) A/\∀t,t<(xs.length:Int)+1->SL t A=SL t T:=by
 let⟨A,hA,hu,hm⟩:=JB6 bt ho (keys:=sh.ks) (a:=(xs.length:Int)+1) h.bp (by rw[JP];omega) (by rw[JD7];omega) h.rw hs (BB h.up) (by have:=h.ln;omega)
 have te:∀e∈T,∀q∈e.2.2,q.1<(xs.length:Int)+1:=λe he q hq=>by
  have:=nO.mp ((h.bp e he).te q hq);omega
 have bp':∀e∈T,BP (EL sc) (JZ (xs++[x]).length) e.2:=λe he=>(h.bp e he).mono (λz hz=>hz) (λz hz=>by rw[nO] at hz ⊢;rw[Bb];simp;omega);have bp:=JB7 ho bp' te hm he (nO.mpr (by rw[Bb];simp;omega))
 have De:∀e∈A,e.1.length=sh.w/\e.1∈(cQ x T).map (·.1):=λe he=>by
  obtain⟨h1,-⟩:=(hm e).mp he;let⟨y,hy,rfl⟩:=Bm.mp h1;rw[oK];refine{?_,EM hy};rcases jI.mp hy with h2|⟨h2,_,rfl⟩
  ·exact h.rw y h2
  ·exact hs h2
 have ps':∀e∈A,e.2.1=NO/\∀q∈e.2.2,0<q.1:=λe he=>by
  obtain⟨h1,-⟩:=(hm e).mp he;let⟨y,hy,rfl⟩:=Bm.mp h1
  have G0:y.2.1=NO/\∀q∈y.2.2,0<q.1:=by
   rcases jI.mp hy with h2|⟨_,_,rfl⟩
   ·exact h.ps y h2
   ·exact{rfl,λ_ h=>nomatch h}
  unfold hG;split
  ·unfold Hg
   dsimp only;split
   ·exact G0
   ·refine{G0.1,λq hq=>?_}
    rcases DI.mp hq with z|z
    ·exact G0.2 q z
    ·rw[Bg.mp z];show(0:Int)<_;omega
  ·exact G0
 refine{A,hA,{λe he=>(bp e he).1,λe he=>(De e he).1,hu,?_,ps',λe he=>(bp e he).2},λt ht=>JD8 hm hu h.up ht}
 have:=mn (A.map (·.1)) ((cQ x T).map (·.1)) (BB hu) λz hz=>by let⟨e,he,rfl⟩:=Bm.mp hz;exact(De e he).2
 rw[Ay,Ay] at this
 have el:(cQ x T).length<=T.length+1:=by
  unfold cQ;split
  ·simp
  ·omega
 have:=h.ln;rw[Bb];simp;omega
noncomputable def bP (shs:P4 Sh)(Ts:Str->P4 En):P4 (aE×D):=shs.map λs=>(.inr (some s.nm),.fl ((Ts s.nm).map bm))
theorem qR {shs:P4 Sh}(Ts:Str->P4 En){s:Sh}(hs:s∈shs):kE ((bP shs Ts).map λp=>(p.1,R.v p.2)) (.inr (some s.nm))=some (.v (.fl ((Ts s.nm).map bm))):=by
 unfold bP;induction shs with
 |nil=>cases hs
 |cons t l ih=>
  unfold kE at ih ⊢;rw[Ak,Ak];by_cases c:t.nm=s.nm
  ·rw[zbX (by simp[c]),c];rfl
  ·rw[zbY (by simp[c])];exact ih ((Ax.mp hs).resolve_left λe=>c (by rw[e]))
def JGy {shs:P4 Sh}(Ts:Str->P4 En){s:Sh}(hs:s∈shs)(A:P4 En):fI (bP shs Ts) (.inr (some s.nm)) (.fl (A.map bm))=bP shs λnm=>if nm=s.nm then A else Ts nm:=by
 have h1:((bP shs Ts).any λkv=>decide (kv.1=.inr (some s.nm)))=true:=zb7.mpr {_,EM hs,by simp};unfold fI;rw[A8 h1];unfold bP;rw[Du];refine zcb λt _=>?_;rwa[Function.comp];by_cases c:t.nm=s.nm
 ·rw[A8 (by rw[c]),A8 c]
 ·rw[A6 ‹c›,A6 c]
def CO (bt:A7)(shs:P4 Sh)(x:Tl)(n:Nat)(Ts Eg:Str->P4 En):Prop:=∀s∈shs,(s.nm=x.nm->dR bt [.fl ((Ts s.nm).map bm),.int (s.ks:Int),bC x,.int ((n:Int)+1)]=some (.lst ((Eg s.nm).map bm)))/\(s.nm≠x.nm->Eg s.nm=Ts s.nm)/\∀t,t<(n:Int)+1->SL t (Eg s.nm)=SL t (Ts s.nm)
section
variable {U:ac}{s a b c:Nat}{shs:P4 Sh}{xs:P4 Tl}{sc:Int}
def wI (bt:A7)(g:GS shs){Ts:Str->P4 En}(h:Bk U s a b c shs xs (bP shs Ts)){x:Tl}(gx:GT sc shs x)(hT:∀s∈shs,ij sc s xs (Ts s.nm))(hn:xs.length<=62) :
  ∃(r:D) (U':ac) (Eg:Str->P4 En),bF bt [.p s,.v (bC x)] U=some (.v r,U')/\Bk U' s a b c shs (xs++[x]) (bP shs Eg)/\(∀s∈shs,ij sc s (xs++[x]) (Eg s.nm))/\CO bt shs x xs.length Ts Eg/\∀i y,i≠b->i≠c->U[i]?=some y->U'[i]?=some y:=by
 let⟨sh,BV,Dp,hwd⟩:=gx.sh;let⟨A,hA,gA,slA⟩:=yX bt (hT sh BV) (g.ok sh BV).1.1 Dp.symm gx.ok gx.ed (λe=>by rw[hwd,A8 e]) hn
 have Dz:s≠b:=λe=>by have h1:=h.ob;rw[e,h.tl] at h1;cases h1
 have IE:s≠c:=λe=>by have h1:=h.ob;rw[e,h.tb] at h1;cases h1
 have hac:a≠c:=λe=>by have h1:=h.sl;rw[e,h.tb] at h1;cases h1
 have hbc:b≠c:=λe=>by have h1:=h.tl;rw[e,h.tb] at h1;cases h1
 have lb:=bH h.tl;have lc:=bH h.tb;obtain⟨ν,hν⟩:∃ν,ν=U.set b (.lst ((xs++[x]).map bC)):={_,rfl}
 have n1:ν[s]?=some (.ob "Book" (zu a b c)):=by rw[hν,Bp (Ne.symm Dz)];exact h.ob
 have n2:ν[a]?=some (.lst (shs.map bZ)):=by rw[hν,Bp (Ne.symm h.ab)];exact h.sl
 have n3:ν[b]?=some (.lst ((xs++[x]).map bC)):=by rw[hν,DN lb]
 have n4:ν[c]?=some (.dct (bP shs Ts)):=by rw[hν,Bp hbc];exact h.tb
 have len:ν.length=U.length:=by rw[hν];simp
 refine{.int ((xs.length:Int)+1),(ν++[au.fz (A.map bm)]).set c (.dct (bP shs λnm=>if nm=sh.nm then A else Ts nm)),λnm=>if nm=sh.nm then A else Ts nm,?_,?_,?_,?_,?_}
 ·rw[sN]
  have ix1:∀U:ac,bg (.v (bC x)) (.v (.int 1)) U=some (.v (.str x.nm),U):=λU=>rfl
  have ck:uk bj [.fl (shs.map bZ),bC x]=some .non:=by
   have e:unkDs [.fl (shs.map bZ),bC x]=[.fl (shs.map bZ),C4 x]:=by
    rw[unkDs,unkDs,JE7];rwa[unkDs,cq,wx]
   exact(AI bj e).trans (JB8 g gx)
  have se:=oe g BV;rw[Dp] at se;have fl:cN (bZ sh)=true:=rfl;have fln:cN .non=true:=rfl
  have e1:bE (gd (uk bj) 2 (af (dD "Book" "shape_list" (ae 0)) (af (ae 1) aj))) [ba s,some (.v (bC x)),none,none,none] U=some (.nx [ba s,some (.v (bC x)),none,none,none] U):=by
   push_cast [lf,ip,h.ob,OW,h.sl,ck,fln]
  have e2:aI 2 (aw bg (ae 1) (fK (.int 1))) [ba s,some (.v (bC x)),none,none,none] U=some (.nx [ba s,some (.v (bC x)),some (.v (.str x.nm)),none,none] U):=by
   push_cast [ix1]
  have e3:aI 3 (aw bg (gd bO 2 (af (dD "Book" "shape_list" (ae 0)) (af (ae 2) aj))) (fK (.int 1))) [ba s,some (.v (bC x)),some (.v (.str x.nm)),none,none] U=some (.nx [ba s,some (.v (bC x)),some (.v (.str x.nm)),cS ((sh.ks:Int)),none] U):=by
   push_cast [lf,ip,h.ob,OW,h.sl,se,fl]
  have zl:(xs.map bC).length<sizeLine:=gK (by rw[Ay];omega)
  have e4:bE (qA gg (dD "Book" "tellings" (ae 0)) (af (ae 1) aj)) [ba s,some (.v (bC x)),some (.v (.str x.nm)),cS ((sh.ks:Int)),none] U=some (.nx [ba s,some (.v (bC x)),some (.v (.str x.nm)),cS ((sh.ks:Int)),none] ν):=by
   rw[hν,Cy];push_cast [lf,ip,h.ob,P6,h.tl,zl]
  have ln1:(((xs++[x]).map bC).length:Int)=(xs.length:Int)+1:=by simp
  have e5:aI 4 (eA jd (af (dD "Book" "tellings" (ae 0)) aj)) [ba s,some (.v (bC x)),some (.v (.str x.nm)),cS ((sh.ks:Int)),none] ν=some (.nx [ba s,some (.v (bC x)),some (.v (.str x.nm)),cS ((sh.ks:Int)),cS (((xs.length:Int)+1))] ν):=by
   push_cast [lf,ip,n1,P6,n3,ln1]
  have vr:=qR Ts BV;rw[Dp] at vr
  have kv1:pO (.p c) ν=some ((bP shs Ts).map λp=>(p.1,R.v p.2)):=by rw[GR,n4];rfl
  have kf:kz (.v (.str x.nm))=some (.inr (some x.nm)):=rfl
  have fx:je (dD "Book" "tables_now" (ae 0)) (ae 2) [ba s,some (.v (bC x)),some (.v (.str x.nm)),cS ((sh.ks:Int)),cS (((xs.length:Int)+1))] ν=some (.v (.fl ((Ts sh.nm).map bm)),ν):=by
   have:dD "Book" "tables_now" (ae 0) [ba s,some (.v (bC x)),some (.v (.str x.nm)),cS ((sh.ks:Int)),cS (((xs.length:Int)+1))] ν=some (.p c,ν):=by push_cast [lf,ip,n1,Nt]
   rw[GU,this,zx]
   show wB (.p c) (some (.v (.str x.nm),ν))=_
   rw[zw,kv1]
   show(kE _ (.inr (some x.nm))).bind _=_
   rw[vr,Dp];rfl
  have flA:=ic A
  have cA:(ν++[au.fz (A.map bm)])[s]?=some (.ob "Book" (zu a b c)):=by rw[BY (bH n1)];exact n1
  have cB:(ν++[au.fz (A.map bm)])[c]?=some (.dct (bP shs Ts)):=by rw[BY (bH n4)];exact n4
  have zk:(bP shs Ts).length<sizeLine:=gK (by unfold bP;rw[Ay];have:=g.le;omega);have pk:=JGy Ts BV A;rw[Dp] at pk;have HE:(ν++[au.lst (A.map bm)]).set ν.length (.fz (A.map bm))=ν++[au.fz (A.map bm)]:=dA;rw[Dp] at fx
  have e6:yn (bA (iO (dR bt) 4 (af (je (dD "Book" "tables_now" (ae 0)) (ae 2)) (af (ae 3) (af (ae 1) (af (ae 4) aj)))))) (rX (dD "Book" "tables_now" (ae 0)) (ae 2)) [ba s,some (.v (bC x)),some (.v (.str x.nm)),cS ((sh.ks:Int)),cS (((xs.length:Int)+1))] ν=some (.nx [ba s,some (.v (bC x)),some (.v (.str x.nm)),cS ((sh.ks:Int)),cS (((xs.length:Int)+1))] ((ν++[au.fz (A.map bm)]).set c (.dct (bP shs λnm=>if nm=sh.nm then A else Ts nm)))):=by
   rw[Dp] at hA;push_cast [fx,hA,flA,sI,HE,lf,ip,cA,Nt,cB,zk,kf,pk,Dp]
  rw[jM,ky e1,ky e2,ky e3,ky e4,ky e5,ky e6];rfl
 ·have lcν:c<(ν++[au.fz (A.map bm)]).length:=by rw[Bb,len];omega
  have f:∀{i:Nat} {y:au},i≠c->ν[i]?=some y->((ν++[au.fz (A.map bm)]).set c (.dct (bP shs λnm=>if nm=sh.nm then A else Ts nm)))[i]?=some y:=λ{i y} hi e=>by
   rw[Bp (Ne.symm hi),BY (bH e)];exact e
  exact{f IE n1,f hac n2,f hbc n3,DN lcν,h.ab}
 ·intro t ht
  dsimp only
  by_cases e:t.nm=sh.nm
  ·rw[A8 e,rZ g ht BV e];exact gA
  ·rw[A6 e];exact(hT t ht).more λz=>e (z ▸ Dp ▸ rfl)
 ·intro t ht
  dsimp only
  by_cases e:t.nm=sh.nm
  ·rw[A8 e]
   obtain rfl:=rZ g ht BV e;exact{λ_=>hA,λz=>AH Dp z,slA}
  ·rw[A6 e]
   exact{λz=>AH (z.trans Dp.symm) e,λ_=>rfl,λ_ _=>rfl}
 ·intro i y hb hc e
  have:ν[i]?=some y:=by rw[hν,Bp (Ne.symm hb)];exact e
  rw[Bp (Ne.symm hc),BY (bH this)];exact this
end
def JEe (ns:Th)(k:Nat):∃c,cE [.fl (ns.map .int),.int (k:Int)]=some (.int c):=by
 rw[u4];by_cases h:k<ns.length
 ·have c0:decide ((k:Int)<(ns.length:Int))=true:=Cn ∅;have c1:L2.kB (ns.map D.int) (k:Int)=some (.int ns[k]):=mJ (Bl h);exact{ns[k],by push_cast [iV,Ay,c0,c1]}
 ·have c0:decide ((k:Int)<(ns.length:Int))=false:=Bz ∅;exact{0,by push_cast [iV,Ay,c0]}
theorem qG (x0:QI R)(U:ac):∀(l:P4 Sh) (x0:QI R) (U:ac),bJ (bD 0) c8 (bM (af (aw bg (ae 0) (fK (.int 0))) (af (bA (dN aj)) aj))) (l.map bZ) [x0] U=some (l.map λs=>.tup [.str s.nm,.fl []],U++List.replicate l.length (au.fz []))
 |[],x0,U=>by rwa[D1,GZ,List.replicate_zero,Cg];rfl
 |s::l,x0,U=>by
  have h1:(bM (af (aw bg (ae 0) (fK (.int 0))) (af (bA (dN aj)) aj))) [some (.v (bZ s))] U=some (.v (.tup [.str s.nm,.fl []]),U++[au.fz []]):=by have HE:(U++[au.lst []]).set U.length (.fz [])=U++[au.fz []]:=dA;push_cast [sI,HE]
  have ih:=qG x0 U l (some (.v (bZ s))) (U++[au.fz []]);rwa[Ak,bJ,bD,zck,BZ,c8,if_true,h1,ih];simp[List.replicate_succ]
theorem tT:∀l:P4 Sh,jx (l.map λs=>.tup [.str s.nm,.fl []])=some (l.map λs=>(.inr (some s.nm),.fl []))
 |[]=>rfl
 |s::l=>by rw[Ak,jx,tT l];rfl
theorem w6:∀(l:P4 Sh) (k0:P4 (aE×D)),(k0.map (·.1)++l.map λs=>(.inr (some s.nm):aE)).Nodup->aM k0 (l.map λs=>((.inr (some s.nm):aE),D.fl []))=k0++l.map λs=>(.inr (some s.nm),D.fl [])
 |[],k0,_=>by simp[aM]
 |s::l,k0,nd=>by
  have hn:¬ (k0.any λp=>decide (p.1=.inr (some s.nm)))=true:=λz=>by let⟨p,hp,h⟩:=zb7.mp z;have h:p.1=.inr (some s.nm):=‹h›;exact(EI.mp nd).2.2 p.1 (EM hp) _ ∅ h
  show aM (fI k0 (.inr (some s.nm)) (.fl [])) (l.map _)=_
  unfold fI;rw[A6 hn,w6 l _ ‹nd›];simp
section
variable {U U':ac}{s a b c:Nat}{r:D}
theorem uP (bt:A7){x:Tl}(hs:U[s]?=some (.ob "Book" (zu a b c)))(h:bF bt [.p s,.v (bC x)] U=some (.v r,U')):cu bt [.p s,.v (bC x)] U=some (.v r,U'):=by
 rw[sL];let⟨tl,said,lo,hi,nm⟩:=x;have sz5:5<=sizeLine:=by decide
 have ix4:∀U:ac,bg (.v (bC ⟨tl,said,lo,hi,nm⟩)) (.v (.int 4)) U=some (.v (oD hi),U):=λU=>rfl;have ix3:∀U:ac,bg (.v (bC ⟨tl,said,lo,hi,nm⟩)) (.v (.int 3)) U=some (.v (oD lo),U):=λU=>rfl;have ix2:∀U:ac,bg (.v (bC ⟨tl,said,lo,hi,nm⟩)) (.v (.int 2)) U=some (.v (dk ⟨tl,said,lo,hi,nm⟩),U):=λU=>rfl;have ix1:∀U:ac,bg (.v (bC ⟨tl,said,lo,hi,nm⟩)) (.v (.int 1)) U=some (.v (.str nm),U):=λU=>rfl;have fa:(af (aw bg (ae 1) (fK (.int 1))) (af (aw bg (ae 1) (fK (.int 2))) (af (aw bg (ae 1) (fK (.int 3))) (af (aw bg (ae 1) (fK (.int 4))) aj)))) [ba s,some (.v (bC ⟨tl,said,lo,hi,nm⟩))] U=some ([.v (.str nm),.v (dk ⟨tl,said,lo,hi,nm⟩),.v (oD lo),.v (oD hi)],U):=by push_cast [ix1,ix2,ix3,ix4]
 cases tl with
 |true=>
  have m1:=kW (nm:="tell") (w:=dO bt) (n:=5) (fo:=ae 0) (O:=[ba s,some (.v (bC {true,said,lo,hi,nm}))]) (s:=s) rfl hs ∅ ∅ ∅ fa rfl;have m2:=kW (nm:="take") (w:=bF bt) (n:=2) (fo:=ae 0) (fa:=af (bM (af (fK (.str "tell")) (af (ae 1) (af (ae 2) (af (ae 3) (af (ae 4) aj)))))) aj) (O:=[ba s,some (.v (.str nm)),some (.v (dk {true,said,lo,hi,nm})),some (.v (oD lo)),some (.v (oD hi))]) (U:=U) (U1:=U) (s:=s) (rs:=[.v (bC {true,said,lo,hi,nm})]) rfl hs ∅ ∅ ∅ (by push_cast [sz5];rfl) rfl;have w1:dO bt [.p s,.v (.str nm),.v (dk {true,said,lo,hi,nm}),.v (oD lo),.v (oD hi)] U=some (.v r,U'):=by rw[sM,jL,mE,m2,h];rfl
  have ix0:∀U:ac,bg (.v (bC {true,said,lo,hi,nm})) (.v (.int 0)) U=some (.v (.str "tell"),U):=λU=>rfl;rw[gF];push_cast [ix0,k5,q5];rw[m1,w1];rfl
 |false=>
  have m1:=kW (nm:="strike") (w:=cP bt) (n:=5) (fo:=ae 0) (O:=[ba s,some (.v (bC {false,said,lo,hi,nm}))]) (s:=s) rfl hs ∅ ∅ ∅ fa rfl;have m2:=kW (nm:="take") (w:=bF bt) (n:=2) (fo:=ae 0) (fa:=af (bM (af (fK (.str "strike")) (af (ae 1) (af (ae 2) (af (ae 3) (af (ae 4) aj)))))) aj) (O:=[ba s,some (.v (.str nm)),some (.v (dk {false,said,lo,hi,nm})),some (.v (oD lo)),some (.v (oD hi))]) (U:=U) (U1:=U) (s:=s) (rs:=[.v (bC {false,said,lo,hi,nm})]) rfl hs ∅ ∅ ∅ (by push_cast [sz5];rfl) rfl;have w1:cP bt [.p s,.v (.str nm),.v (dk {false,said,lo,hi,nm}),.v (oD lo),.v (oD hi)] U=some (.v r,U'):=by rw[pG,gU,mE,m2,h];rfl
  have ix0:∀U:ac,bg (.v (bC {false,said,lo,hi,nm})) (.v (.int 0)) U=some (.v (.str "strike"),U):=λU=>rfl;rw[gF];push_cast [ix0,k5,k6,q6];rw[m1,w1];rfl
end
section
variable {U:ac}{s a b c:Nat}{shs:P4 Sh}{xs:P4 Tl}{sh:Sh}
def yg (g:GS shs)(hs:sh∈shs){Ts:Str->P4 En}(h:Bk U s a b c shs xs (bP shs Ts)):cx [.p s,.v (.str sh.nm)] U=some (.p U.length,U++[.lst ((Ts sh.nm).map bm)]):=by
 rw[qY];have se:=oe g hs;have fl:cN (bZ sh)=true:=rfl;have vr:=qR Ts hs;have kv1:pO (.p c) U=some ((bP shs Ts).map λp=>(p.1,R.v p.2)):=by rw[GR,h.tb];rfl
 have fx:je (dD "Book" "tables_now" (ae 0)) (ae 1) [ba s,some (.v (.str sh.nm))] U=some (.v (.fl ((Ts sh.nm).map bm)),U):=by
  have:dD "Book" "tables_now" (ae 0) [ba s,some (.v (.str sh.nm))] U=some (.p c,U):=by push_cast [lf,ip,h.ob,Nt]
  rw[GU,this,zx]
  show wB (.p c) (some (.v (.str sh.nm),U))=_
  rw[zw,kv1]
  show(kE _ (.inr (some sh.nm))).bind _=_
  rw[vr];rfl
 have e1:bE (gd bO 2 (af (dD "Book" "shape_list" (ae 0)) (af (ae 1) aj))) [ba s,some (.v (.str sh.nm))] U=some (.nx [ba s,some (.v (.str sh.nm))] U):=by push_cast [lf,ip,h.ob,OW,h.sl,se,fl]
 rw[iX,ky e1];push_cast [mE,o5,cU,fx,dF,gR,dE,mF];rfl
theorem mH {Z:Type}{f:FE}{rest:Lo}{U:ac}(e d:Z->D):∀(xs:P4 Z) (x0:QI R) (Cq:P4 au),(∀a∈xs,∀cs,∃cs',f (some (.v (e a))::rest) (U++cs)=some (.v (d a),U++cs++cs')) ->
  ∃cs,bJ (bD 0) c8 f (xs.map e) (x0::rest) (U++Cq)=some (xs.map d,U++Cq++cs)
 |[],_,Cq,_=>{[],by rw[Cg];rfl}
 |a::xs,x0,Cq,h=>by
  let⟨c1,h1⟩:=h a BG Cq;let⟨c2,h2⟩:=mH e d xs (some (.v (e a))) (Cq++c1) λb hb=>h b (BR _ hb);have hg:bD 0 (.v (e a)) (x0::rest) (U++Cq)=some (some (.v (e a))::rest,U++Cq):=rfl;rw[←Bf] at h2;refine{c1++c2,?_};rw[←Bf (U++Cq)];rwa[Ak,bJ,hg,BZ,c8,if_true,h1,h2]
theorem xC:∀es:P4 (Th×Rc),flatDs (es.map l7)=true
 |[]=>rfl
 |e::es=>by
  have h1:cN (l7 e)=true:=by
   have:=xE e.2 []
   show flatDs [.key e.1,pD e.2 []]=true
   rwa[flatDs,cN] at this ⊢;simpa using this
  rw[Ak,flatDs,h1,xC es];rfl
abbrev gL (shs:P4 Sh)(Ts:Str->P4 En)(t:Int):P4 D:=shs.map λsh=>.fl ((SL t (Ts sh.nm)).map l7)
def yj (g:GS shs){Ts:Str->P4 En}(h:Bk U s a b c shs xs (bP shs Ts))(hn:∀sh∈shs,(Ts sh.nm).length<100)(t:Int) :
  ∃cs,aL [.p s,.v (.fl (shs.map bZ)),.v (.int t)] U=some (.p (U++cs).length,U++cs++[.lst (gL shs Ts t)]):=by
 rw[qV];have z1:(shs.map bZ).length<=sizeLine:=bQ (by rw[Ay];have:=g.le;omega);have z2:(gL shs Ts t).length<=sizeLine:=bQ (by rw[Ay];have:=g.le;omega)
 obtain⟨cs,hc⟩:=mH (f:=bA (iO eI 2 (af (dC "Book" "table" cx 2 (ae 1) (af (aw bg (ae 0) (fK (.int 0))) aj)) (af (ae 2) aj)))) (rest:=[ba s,cS t]) (U:=U) bZ (λsh=>.fl ((SL t (Ts sh.nm)).map l7)) shs none [] λsh BV cs=>by
  have b2:=h.app cs;generalize U++cs=ν at b2 ⊢;have m7:=kW (nm:="table") (w:=cx) (n:=2) (fo:=ae 1) (fa:=af (aw bg (ae 0) (fK (.int 0))) aj) (O:=[some (.v (bZ sh)),ba s,cS t]) (U:=ν) (s:=s) (rs:=[.v (.str sh.nm)]) (U1:=ν) rfl b2.ob ∅ ∅ ∅ rfl rfl;rw[yg g BV b2] at m7;have sl:=JAx (hn sh BV) t;have fs:=xC (SL t (Ts sh.nm));have fk:=ic (Ts sh.nm);have HE:(ν++[au.lst ((Ts sh.nm).map bm)]++[au.lst ((SL t (Ts sh.nm)).map l7)]).set (ν++[au.lst ((Ts sh.nm).map bm)]).length (.fz ((SL t (Ts sh.nm)).map l7))=ν++[au.lst ((Ts sh.nm).map bm)]++[au.fz ((SL t (Ts sh.nm)).map l7)]:=dA
  have g0:(ν++[au.lst ((Ts sh.nm).map bm)])[ν.length]?=some (.lst ((Ts sh.nm).map bm)):=by simp
  have g1:(ν++[au.lst ((Ts sh.nm).map bm)]++[au.lst ((SL t (Ts sh.nm)).map l7)])[(ν++[au.lst ((Ts sh.nm).map bm)]).length]?=some (.lst ((SL t (Ts sh.nm)).map l7)):=by simp
  refine{[au.lst ((Ts sh.nm).map bm)]++[.fz ((SL t (Ts sh.nm)).map l7)],?_};rw[←Bf];push_cast [m7,sI,g0,fk,sl,fs,g1,HE]
 rw[Cg] at hc;refine{cs,?_};have bl:∀x0 x1 x2:QI R,ca 1 [0,2] [x0,x1,x2]=[none,x0,x2]:=λ_ _ _=>rfl;push_cast [iT,z1,bl,hc,z2];rfl
end
theorem pi {Z:Type}{f:FE}{rest:Lo}{U:ac}(k v d:Z->D):∀(xs:P4 Z) (x0 x1:QI R) (Cq:P4 au),(∀a∈xs,∀cs,∃cs',f (some (.v (k a))::some (.v (v a))::rest) (U++cs)=some (.v (d a),U++cs++cs')) ->
  ∃cs,bJ (nt 2 (aH (bD 0) (aH (bD 1) cT))) c8 f (xs.map λa=>.tup [k a,v a]) (x0::x1::rest) (U++Cq)=some (xs.map d,U++Cq++cs)
 |[],_,_,Cq,_=>{[],by rw[Cg];rfl}
 |a::xs,x0,x1,Cq,h=>by
  let⟨c1,h1⟩:=h a BG Cq;let⟨c2,h2⟩:=pi k v d xs (some (.v (k a))) (some (.v (v a))) (Cq++c1) λb hb=>h b (BR _ hb);have hg:nt 2 (aH (bD 0) (aH (bD 1) cT)) (.v (.tup [k a,v a])) (x0::x1::rest) (U++Cq)=some (some (.v (k a))::some (.v (v a))::rest,U++Cq):=rfl;rw[←Bf] at h2;refine{c1++c2,?_};rw[←Bf (U++Cq)];rwa[Ak,bJ,hg,BZ,c8,if_true,h1,h2]
theorem tU (Ts:Str->P4 En):∀l:P4 Sh,jx (l.map λs=>.tup [.str s.nm,.fl ((Ts s.nm).map bm)])=some (bP l Ts)
 |[]=>rfl
 |s::l=>by rw[Ak,jx,tU Ts l];rfl
theorem w9 (Ts:Str->P4 En):∀(l:P4 Sh) (k0:P4 (aE×D)),(k0.map (·.1)++l.map λs=>(.inr (some s.nm):aE)).Nodup->aM k0 (bP l Ts)=k0++bP l Ts
 |[],k0,_=>by simp[aM,bP]
 |s::l,k0,nd=>by
  have hn:¬ (k0.any λp=>decide (p.1=.inr (some s.nm)))=true:=λz=>by let⟨p,hp,h⟩:=zb7.mp z;have h:p.1=.inr (some s.nm):=‹h›;exact(EI.mp nd).2.2 p.1 (EM hp) _ ∅ h
  show aM (fI k0 (.inr (some s.nm)) (.fl ((Ts s.nm).map bm))) (bP l Ts)=_
  unfold fI;rw[A6 hn,w9 Ts l _ ‹nd›];simp[bP]
section
variable {U:ac}{s a b c:Nat}{shs:P4 Sh}{xs:P4 Tl}{sh:Sh}
def p7 (g:GS shs){Ts:Str->P4 En}(h:Bk U s a b c shs xs (bP shs Ts))(hn:∀sh∈shs,(Ts sh.nm).length<100):∃cs,aO [.p s] U=some (.p (U++cs).length,U++cs++[au.dct (bP shs Ts)]):=by
 rw[pF];have IE:s≠c:=λe=>by have h1:=h.ob;rw[e,h.tb] at h1;cases h1
 have lc:=bH h.tb;obtain⟨ν,hν⟩:∃ν,ν=U.set c (.hk (bP shs Ts)):={_,rfl};have n1:ν[s]?=some (.ob "Book" (zu a b c)):=by rw[hν,Bp (Ne.symm IE)];exact h.ob
 have n2:ν[c]?=some (.hk (bP shs Ts)):=by rw[hν,DN lc]
 have f0:∀{U:ac},U[s]?=some (.ob "Book" (zu a b c))->dD "Book" "tables_now" (ae 0) [ba s] U=some (.p c,U):=λ{U} e=>by push_cast [lf,ip,e,Nt]
 have fi:mX (dD "Book" "tables_now" (ae 0)) [ba s] ν=some (shs.map λsh=>.tup [.str sh.nm,.fl ((Ts sh.nm).map bm)],ν):=by
  unfold mX;rw[f0 n1]
  show(match ν[c]? with|some (.hk A4)=>_|_=>_)=_
  rw[n2]
  show some ((bP shs Ts).map _,ν)=_
  unfold bP;rw[Du];rfl
 let⟨cs,hc⟩:=pi (f:=bM (af (ae 0) (af (bA (eA eC (af (ae 1) aj))) aj))) (rest:=[]) (U:=ν) (λsh:Sh=>D.str sh.nm) (λsh=>D.fl ((Ts sh.nm).map bm)) (λsh=>.tup [.str sh.nm,.fl ((Ts sh.nm).map bm)]) shs none none [] λsh BV cs=>by generalize ν++cs=ν;have z1:((Ts sh.nm).map bm).length<=sizeLine:=bQ (by rw[Ay];have:=hn sh BV;omega);have fk:=ic (Ts sh.nm);have HE:(ν++[au.lst ((Ts sh.nm).map bm)]).set ν.length (.fz ((Ts sh.nm).map bm))=ν++[au.fz ((Ts sh.nm).map bm)]:=dA;exact{[.fz ((Ts sh.nm).map bm)],by push_cast [sI,fk,HE,z1]}
 rw[Cg] at hc;have z1:(shs.map λsh=>D.tup [.str sh.nm,.fl ((Ts sh.nm).map bm)]).length<=sizeLine:=bQ (by rw[Ay];have:=g.le;omega);have hp:aM [] (bP shs Ts)=bP shs Ts:=w9 Ts shs [] (by rw[D1,Dd];unfold List.Nodup;rw[H9];exact(H9.mp g.nd).imp λh e=>h ‹e›)
 have bl:∀x0:QI R,ca 2 [] [x0]=[none,none]:=λ_=>rfl;have fc:bS [] 2 (mX (dD "Book" "tables_now" (ae 0))) (nt 2 (aH (bD 0) (aH (bD 1) cT))) c8 (bM (af (ae 0) (af (bA (eA eC (af (ae 1) aj))) aj))) [ba s] ν=some (.p (ν++cs).length,ν++cs++[au.lst (shs.map λsh=>D.tup [.str sh.nm,.fl ((Ts sh.nm).map bm)])]):=by push_cast [fi,z1,bl,hc]
 have fd:eA ie (af (bS [] 2 (mX (dD "Book" "tables_now" (ae 0))) (nt 2 (aH (bD 0) (aH (bD 1) cT))) c8 (bM (af (ae 0) (af (bA (eA eC (af (ae 1) aj))) aj)))) aj) [ba s] ν=some (.p (ν++cs++[au.lst (shs.map λsh=>D.tup [.str sh.nm,.fl ((Ts sh.nm).map bm)])]).length,ν++cs++[au.lst (shs.map λsh=>D.tup [.str sh.nm,.fl ((Ts sh.nm).map bm)])]++[au.dct (bP shs Ts)]):=by
  rw[o5,cU,fc]
  show ie [.p (ν++cs).length] _=_
  unfold ie;have g1:(ν++cs++[au.lst (shs.map λsh=>D.tup [.str sh.nm,.fl ((Ts sh.nm).map bm)])])[(ν++cs).length]?=some (.lst (shs.map λsh=>D.tup [.str sh.nm,.fl ((Ts sh.nm).map bm)])):=by simp
  rwa[g1,tU,BZ,hp]
 refine{cs++[au.lst (shs.map λsh=>D.tup [.str sh.nm,.fl ((Ts sh.nm).map bm)])],?_};have hb:qB (dD "Book" "tables_now" (ae 0)) (eA ie (af (bS [] 2 (mX (dD "Book" "tables_now" (ae 0))) (nt 2 (aH (bD 0) (aH (bD 1) cT))) c8 (bM (af (ae 0) (af (bA (eA eC (af (ae 1) aj))) aj)))) aj)) [ba s] U=some (.p (U++(cs++[au.lst (shs.map λsh=>D.tup [.str sh.nm,.fl ((Ts sh.nm).map bm)])])).length,U++(cs++[au.lst (shs.map λsh=>D.tup [.str sh.nm,.fl ((Ts sh.nm).map bm)])])++[au.dct (bP shs Ts)]):=by
  unfold qB;simp only[f0 h.ob,h.tb,←hν,fd,BZ];have g2:(ν++cs++[au.lst (shs.map λsh=>D.tup [.str sh.nm,.fl ((Ts sh.nm).map bm)])]++[au.dct (bP shs Ts)])[c]?=some (.hk (bP shs Ts)):=by rw[Bf,Bf,BY (bH n2)];exact n2
  have lν:ν.length=U.length:=by rw[hν];simp
  rwa[g2];have e1:(ν++cs++[au.lst (shs.map λsh=>D.tup [.str sh.nm,.fl ((Ts sh.nm).map bm)])]++[au.dct (bP shs Ts)]).set c (.dct (bP shs Ts))=U++(cs++[au.lst (shs.map λsh=>D.tup [.str sh.nm,.fl ((Ts sh.nm).map bm)])])++[au.dct (bP shs Ts)]:=by
   have e2:ν.set c (.dct (bP shs Ts))=U:=by
    rw[hν,List.set_set];refine List.ext_getElem? λi=>?_;by_cases z:i=c
    ·subst z;rw[DN lc,h.tb]
    ·rw[Bp (Ne.symm z)]
   rw[Bf,Bf,List.set_append_left _ _ ∅,e2,Bf,Bf]
  rw[e1];simp[lν]
 rw[gT,mE,hb];rfl
end
def rY {O:Lo}{U U1:ac}{s:Nat}{f:Str}{fv:FE}{v:R}{fs:P4 (Str×R)}(h:fv (some (.p s)::O) U=some (v,U1))(hs:U1[s]?=some (.ob "Book" fs))(hl:fs.length<1000):lz "Book" f (ae 0) fv (some (.p s)::O) U=some (.nx (some (.p s)::O) (U1.set s (.ob "Book" (tM f v fs)))):=by
 unfold lz;rw[h]
 show(pN "Book" U1 (.p s)).bind _=_
 have:pN "Book" U1 (.p s)=some fs:=by simp[pN,hs]
 rw[this,BZ,A8 hl]
def vm (U:ac)(x y:au)(r:P4 au):(U++x::r).set U.length y=U++y::r:=by rw[List.set_append_right _ _ (Ao _),Nat.sub_self];rfl
def rW (U:ac)(x:au)(r:P4 au):(U++x::r)[U.length]?=some x:=by rw[DO (Ao _),Nat.sub_self];rfl
def JCy {shs:P4 Sh}(g:GS shs)(U:ac):∃U' c,bV [.p U.length,.v (.fl (shs.map bZ))] (U++[.ob "Book" []])=some (.v .non,U')/\Bk U' U.length (U.length+1) (U.length+2) c shs [] (bP shs λ_=>[])/\U.length<=c/\∀(i:Nat) (y:au),U[i]?=some y->U'[i]?=some y:=by
 have z0:shs.length<=sizeLine:=bQ (by have:=g.le;omega);have zl:(shs.map bZ).length<=sizeLine:=by rw[Ay];exact z0
 have e1:lz "Book" "shape_list" (ae 0) (eA eC (af (ae 1) aj)) [ba U.length,some (.v (.fl (shs.map bZ)))] (U++[.ob "Book" []])=some (.nx [ba U.length,some (.v (.fl (shs.map bZ)))] (U++[.ob "Book" [("shape_list",.p (U.length+1))],.lst (shs.map bZ)])):=by
  have h1:eA eC (af (ae 1) aj) [ba U.length,some (.v (.fl (shs.map bZ)))] (U++[au.ob "Book" []])=some (.p (U.length+1),U++au.ob "Book" []::[.lst (shs.map bZ)]):=by have:(U++[au.ob "Book" []]).length=U.length+1:=∅;push_cast [zl,this,Bf,HP,Dd]
  rw[rY h1 (rW ..) ∅,vm];rfl
 have e2:lz "Book" "tellings" (ae 0) (dN aj) [ba U.length,some (.v (.fl (shs.map bZ)))] (U++[.ob "Book" [("shape_list",.p (U.length+1))],.lst (shs.map bZ)])=some (.nx [ba U.length,some (.v (.fl (shs.map bZ)))] (U++[.ob "Book" [("shape_list",.p (U.length+1)),("tellings",.p (U.length+2))],.lst (shs.map bZ),.lst []])):=by
  have h1:dN aj [ba U.length,some (.v (.fl (shs.map bZ)))] (U++[au.ob "Book" [("shape_list",.p (U.length+1))],.lst (shs.map bZ)])=some (.p (U.length+2),U++au.ob "Book" [("shape_list",.p (U.length+1))]::[.lst (shs.map bZ),.lst []]):=by have:(U++[au.ob "Book" [("shape_list",.p (U.length+1))],.lst (shs.map bZ)]).length=U.length+2:=∅;push_cast [this,Bf,HP,Dd]
  rw[rY h1 (rW ..) ∅,vm];rfl
 obtain⟨ν,hν⟩:∃ν:ac,ν=U++[.ob "Book" [("shape_list",.p (U.length+1)),("tellings",.p (U.length+2))],.lst (shs.map bZ),.lst []]:={_,rfl};have cr:=qG none [] shs none ν;obtain⟨cs,Ib⟩:∃cs:P4 au,cs=List.replicate shs.length (au.fz [])++[.lst (shs.map λs=>.tup [.str s.nm,.fl []])]:={_,rfl};have nd:(([]:P4 (aE×D)).map (·.1)++shs.map λs=>(.inr (some s.nm):aE)).Nodup:=by
  have:(shs.map λs=>(.inr (some s.nm):aE))=(shs.map (·.nm)).map λn=>.inr (some n):=by rw[Du];rfl
  rw[D1,Dd,this];exact List.Pairwise.map _ (λa b h e=>h ‹e›) g.nd
 have pu:=w6 shs [] nd;rw[Dd] at pu;have dS:ie [.p (ν++List.replicate shs.length (au.fz [])).length] (ν++cs)=some (.p (ν++cs).length,ν++cs++[.dct (bP shs λ_=>[])]):=by unfold ie;rw[Ib,←Bf];dsimp only;rw[BC];dsimp only;rw[tT,BZ,pu];rfl
 have ev:eA ie (af (bS [] 1 (bI (ae 1)) (bD 0) c8 (bM (af (aw bg (ae 0) (fK (.int 0))) (af (bA (dN aj)) aj)))) aj) [ba U.length,some (.v (.fl (shs.map bZ)))] ν=some (.p (ν++cs).length,ν++cs++[.dct (bP shs λ_=>[])]):=by
  have:bS [] 1 (bI (ae 1)) (bD 0) c8 (bM (af (aw bg (ae 0) (fK (.int 0))) (af (bA (dN aj)) aj))) [ba U.length,some (.v (.fl (shs.map bZ)))] ν=some (.p (ν++List.replicate shs.length (au.fz [])).length,ν++cs):=by rw[Ib,←Bf];push_cast [Ay,z0,cr]
  rw[o5,cU,this,dF,gR,dE,mF,dS]
 obtain⟨c,hc⟩:∃c,c=(ν++cs).length:={_,rfl};rw[←hc] at ev;have ev':eA ie (af (bS [] 1 (bI (ae 1)) (bD 0) c8 (bM (af (aw bg (ae 0) (fK (.int 0))) (af (bA (dN aj)) aj)))) aj) [ba U.length,some (.v (.fl (shs.map bZ)))] ν=some (.p c,U++au.ob "Book" [("shape_list",.p (U.length+1)),("tellings",.p (U.length+2))]::([.lst (shs.map bZ),.lst []]++cs++[.dct (bP shs λ_=>[])])):=by rw[ev,hν];simp
 have e3:=rY (f:="tables_now") ev' (rW ..) ∅;rw[vm] at e3;refine{U++au.ob "Book" (zu (U.length+1) (U.length+2) c)::([.lst (shs.map bZ),.lst []]++cs++[.dct (bP shs λ_=>[])]),c,?_,{rW ..,?_,?_,?_,by omega},by rw[hc,hν,Bf,Bb];omega,λi y e=>?_}
 rotate_left
 ·rw[DO ∅];simp
 ·rw[DO ∅,show U.length+2-U.length=2 by omega];rfl
 ·have:∀x:au,(U++x::([au.lst (shs.map bZ),.lst []]++cs)).length=c:=λx=>by rw[hc,hν];simp
  have h2:=this (au.ob "Book" (zu (U.length+1) (U.length+2) c));rw[←HP,←Bf,DO ∅,h2,Nat.sub_self];rfl
 ·rw[BY (bH e)];exact e
 ·rw[sO,jN,ky e1,ky e2,←hν,e3];rfl
mutual
theorem o8:∀d:D,jh d d=true
 |.non=>rfl
 |.bl b=>by simp[jh]
 |.int i=>by simp[jh]
 |.str x=>by simp[jh]
 |.tup xs=>eqDs_self xs
 |.fl xs=>eqDs_self xs
 |.fd _ _=>rfl
 |.key _=>rfl
theorem eqDs_self:∀l:P4 D,eqDs l l=true
 |[]=>rfl
 |x::xs=>by rw[cp,o8 x,eqDs_self xs];rfl
end
inductive E5 (bt:Bool) (shs:List Sh):List Tl->(Str->List En)->Prop
 |nil:E5 bt shs [] (λ_=>[])
 |snoc {xs:List Tl} {x:Tl} {Ts Eg:Str->List En}:E5 bt shs xs Ts->CO bt shs x xs.length Ts Eg->E5 bt shs (xs++[x]) Eg
theorem E5.same {bt:A7}{shs:P4 Sh}{xs:P4 Tl}{Ts:Str->P4 En}(h:E5 bt shs xs Ts):∀{ys:P4 Tl} {Us:Str->P4 En},E5 bt shs ys Us->ys=xs->∀s∈shs,(Ts s.nm).map bm=(Us s.nm).map bm:=by
 induction h with
 |nil=>
  intro ys Us h e s hs
  cases h with
  |nil=>rfl
  |snoc _ _=>exact AH e ∅
 | @snoc xs x Ts Eg _ t ih=>
  intro ys Us h e s hs
  cases h with
  |nil=>exact AH e.symm ∅
  | @snoc ys y Us Us' r u=>
   let⟨e1,e2⟩:=List.append_inj' e rfl;obtain rfl:y=x:=‹e2›;have q:=ih r e1 s hs;let⟨t1,t2,_⟩:=t s hs;let⟨u1,u2,_⟩:=u s hs;by_cases c:s.nm=y.nm
   ·have h1:=t1 c;have h2:=u1 c;rw[←q,e1,h1] at h2;injection h2 with h2
    injection h2
   ·rw[t2 c,u2 c];exact q
def o7 {d:D}(ok:dQ 60 (cq d)=true)(neg:A7)(U:ac):jJ neg (.v d) (.v d) U=some (.v (.bl (!neg)),U):=by unfold jJ;rw[show lZ (.v d)=.v (cq d) from rfl];unfold jg;rw[show kq (.v (cq d)) (qS U)=some (cq d) from rfl,BZ,BZ,ok,o8];cases neg <;> rfl
def ql (T:P4 En):dQ 60 (cq (.fl (T.map bm)))=true:=by
 have:∀T:P4 En,okDs 59 (unkDs (T.map bm))=true:=λT=>by
  induction T with
  |nil=>rfl
  |cons e T ih=>
   rw[Ak,unkDs,okDs,ih];have h1:cq (bm e)=.tup [.tup (e.1.map .int),cq (jc e.2)]:=(by rwa[bm,cq,unkDs]);have ui:∀l:Th,unkDs (l.map D.int)=l.map .int:=λl=>by
    induction l with
    |nil=>rfl
    |cons i l ih=>rw[Ak,unkDs,ih];rfl
   have ur:∀r:Rc,cq (rD r)=rD r:=λr=>(by rwa[rD,cq,unkDs,ui]);have us:∀qs:P4 (Int×Rc),unkDs (qs.map sD)=qs.map sD:=λqs=>by
    induction qs with
    |nil=>rfl
    |cons q qs ih=>rwa[Ak,unkDs,cq,ui,ih,sD,rD]
   have h2:cq (jc e.2)=jc e.2:=(by rwa[jc,pD,cq,unkDs,ui,us,rD]);rw[h1,h2,zbT];exact gO (cZ (gO (jV _)) (cZ (vH (n:=53) _ _) jU))
 exact Br (n:=59) (this T)
theorem Mv {shs:P4 Sh}{Ts Us:Str->P4 En}(h:∀s∈shs,(Ts s.nm).map bm=(Us s.nm).map bm):v9 (bP shs Ts) (bP shs Us)=true:=by
 unfold bP;induction shs with
 |nil=>rfl
 |cons s l ih=>
  rw[Ak,Ak,v9,h s BG,ih λt ht=>h t (BR _ ht),ql,o8];simp
end LW
namespace LW
open HW L2
def oJ (shs:P4 Sh)(Ts:Str->P4 En)(t:Int):dQ 60 (cq (.fl (gL shs Ts t)))=true:=by
 have h1:∀l:P4 (Th×Rc),okDs 58 (unkDs (l.map l7))=true:=λl=>by
  induction l with
  |nil=>rfl
  |cons e l ih=>
   rw[Ak,unkDs,okDs,ih];have ui:∀l:Th,unkDs (l.map D.int)=l.map .int:=λl=>by
    induction l with
    |nil=>rfl
    |cons i l ih=>rw[Ak,unkDs,ih];rfl
   have h1:cq (l7 e)=.tup [.tup (e.1.map .int),pD e.2 []]:=(by rwa[l7,pD,rD,cq,unkDs,ui,D1]);rw[h1,zbT];exact gO (cZ (gO (jV _)) (cZ (vH (n:=52) e.2 []) jU))
 have h2:okDs 59 (unkDs (gL shs Ts t))=true:=by
  induction shs with
  |nil=>rfl
  |cons s l ih=>
   rw[gL,Ak,unkDs,okDs,ih,zbT];exact Br (n:=58) (h1 _)
 exact Br (n:=59) h2
def xP (a b:Int)(neg:A7)(U:ac):jJ neg (.v (.int a)) (.v (.int b)) U=some (.v (.bl (if neg then !(a == b) else a == b)),U):=rfl
def JEb {a b:Str}(ha:dQ 60 (.str a)=true)(hb:dQ 60 (.str b)=true)(neg:A7)(U:ac):jJ neg (.v (.str a)) (.v (.str b)) U=some (.v (.bl (if neg then !(a == b) else a == b)),U):=by unfold jJ;rw[show lZ (.v (.str a))=.v (.str a) from rfl,show lZ (.v (.str b))=.v (.str b) from rfl];unfold jg;rw[show kq (.v (.str a)) (qS U)=some (.str a) from rfl,show kq (.v (.str b)) (qS U)=some (.str b) from rfl,BZ,BZ,ha,hb];rfl
section
variable {U:ac}{s a b c q:Nat}{shs:P4 Sh}{xs:P4 Tl}{sh:Sh}{O:Lo}
def jQ (g:GS shs){Ts:Str->P4 En}(h:Bk U s a b c shs xs (bP shs Ts))(hn:∀sh∈shs,(Ts sh.nm).length<100){ft:FE}{t:Int}(h3:ae 3 O U=some (.p s,U))(h1:ae 1 O U=some (.v (.fl (shs.map bZ)),U))(ht:ft O U=some (.v (.int t),U)) :
  ∃cs,bA (cm aL 3 (af (ae 3) (af (ae 1) (af ft aj)))) O U=some (.v (.fl (gL shs Ts t)),U++cs):=by
 let⟨cs,e⟩:=yj g h hn t;refine{cs++[.fz (gL shs Ts t)],?_};rw[←Bf];have se:(U++cs++[au.lst (gL shs Ts t)]).set (U++cs).length (.fz (gL shs Ts t))=U++cs++[.fz (gL shs Ts t)]:=dA;generalize gL shs Ts t=l at e se ⊢;rwa[xJ,GV,cU,h3,dF,h1,dE,ht,gR,zy,C3,GZ,Nat.reduceAdd,zb3,if_true,e,JB,sI,JC,se]
def we {Ts:Str->P4 En}(hs:sh∈shs){fo fk:FE}(h1:fo O U=some (.p q,U))(h2:fk O U=some (.v (.str sh.nm),U))(hq:U[q]?=some (.dct (bP shs Ts))):je fo fk O U=some (.v (.fl ((Ts sh.nm).map bm)),U):=by
 have kv1:pO (.p q) U=some ((bP shs Ts).map λp=>(p.1,R.v p.2)):=by rw[GR,hq];rfl
 rw[GU,h1,zx,h2,zw,kv1]
 show(kE _ (.inr (some sh.nm))).bind _=_
 rw[qR Ts hs];rfl
abbrev jA (shs:P4 Sh)(Ts:Str->P4 En):P4 D:=shs.map λsh=>.fl ((Ts sh.nm).map bm)
def xw (g:GS shs){Ts:Str->P4 En}(hn:∀sh∈shs,(Ts sh.nm).length<100){j:Nat}(hb:ca 1 [j] O=[none,ba q])(h1:ae 1 O U=some (.v (.fl (shs.map bZ)),U))(hq:U[q]?=some (.dct (bP shs Ts))) :
  ∃cs,bS [j] 1 (bI (ae 1)) (bD 0) c8 (bA (eA eC (af (je (ae 1) (aw bg (ae 0) (fK (.int 0)))) aj))) O U=some (.p (U++cs).length,U++cs++[.lst (jA shs Ts)]):=by
 have z1:(shs.map bZ).length<=sizeLine:=bQ (by rw[Ay];have:=g.le;omega);have z2:(jA shs Ts).length<=sizeLine:=bQ (by rw[Ay];have:=g.le;omega)
 let⟨cs,hc⟩:=mH (f:=bA (eA eC (af (je (ae 1) (aw bg (ae 0) (fK (.int 0)))) aj))) (rest:=[ba q]) (U:=U) bZ (λsh=>.fl ((Ts sh.nm).map bm)) shs none [] λsh BV cs=>by
  have Ho:(U++cs)[q]?=some (.dct (bP shs Ts)):=by rw[BY (bH hq)];exact hq
  generalize U++cs=ν at Ho ⊢;have z1:((Ts sh.nm).map bm).length<=sizeLine:=bQ (by rw[Ay];have:=hn sh BV;omega);have HE:(ν++[au.lst ((Ts sh.nm).map bm)]).set ν.length (.fz ((Ts sh.nm).map bm))=ν++[au.fz ((Ts sh.nm).map bm)]:=dA;have d1:=we (O:=[some (.v (bZ sh)),ba q]) (fo:=ae 1) (fk:=aw bg (ae 0) (fK (.int 0))) BV rfl rfl Ho;have fk:=ic (Ts sh.nm);exact{[.fz ((Ts sh.nm).map bm)],by push_cast [xJ,o5,cU,d1,dF,gR,dE,mF,sI,fk,HE,z1]}
 rw[Cg] at hc;refine{cs,?_};push_cast [h1,z1,hb,hc,z2]
end
abbrev rl (ns:Th)(shs:P4 Sh)(sc:Int)(s pa te he ke:Nat)(x8 x9 x10 Au B8 BD BA:QI R):Lo:=[some (.v (.fl (ns.map .int))),some (.v (.fl (shs.map bZ))),cS sc,ba s,ba pa,ba te,ba he,ba ke,x8,x9,x10,Au,B8,BD,BA,none]
abbrev cK (shs:P4 Sh)(Ts:Str->P4 En)(n:Nat):P4 D:=(List.range n).map λt:Nat=>.fl (gL shs Ts (t:Int))
structure pZ (bt:Bool)(sc:Int)(shs:List Sh)(s a b c pa te he ke:Nat)(U:ac)(xs:List Tl)(Ts:Str->List En):Prop where
 bk:Bk U s a b c shs xs (bP shs Ts)
 pc:U[pa]?=some (.lst (cK shs Ts (xs.length+1)))
 tc:U[te]?=some (.lst (xs.map bC))
 hd:U[he]?=some (.dct (bP shs Ts))
 kd:U[ke]?=some (.lst (jA shs Ts))
 gt:∀x∈xs,GT sc shs x
 ok:∀s∈shs,ij sc s xs (Ts s.nm)
 rn:E5 bt shs xs Ts
 hc:he≠c
 kb:ke≠b
 kp:ke≠pa
 kt:ke≠te
structure Ap (a b pa te:Nat):Prop where
 pb:pa≠b
 tb:te≠b
 pt:pa≠te
 ha:pa≠a
 ta:te≠a
section
variable {bt:A7}{shs:P4 Sh}{s a b c pa te he ke:Nat}{U:ac}{xs:P4 Tl}{Ts:Str->P4 En}{ns:Th}{sc:Int}
def Pw {l:P4 D}{i:Int}{d:D}(h:U[pa]?=some (.lst l))(e:L2.kB l i=some d):bg (.p pa) (.v (.int i)) U=some (.v d,U):=by push_cast [h,e]
def xi {n:Nat}{t:Int}(h0:0<=t)(h1:t<(n:Int)):L2.kB (cK shs Ts n) t=some (.fl (gL shs Ts t)):=by let⟨k,rfl⟩:=Int.eq_ofNat_of_zero_le h0;exact mJ (f:=λt:Nat=>D.fl (gL shs Ts (t:Int))) (by rw[List.getElem?_range ∅])
def Kb (g:GS shs)(h:Bk U s a b c shs xs (bP shs Ts))(hn:∀sh∈shs,(Ts sh.nm).length<100){n:Nat}(hp:U[pa]?=some (.lst (cK shs Ts n))){t:Int}(h0:0<=t)(h1:t<(n:Int))(x8 x9 x10 Au BD BA:QI R) :
  ∃cs,j1 bt (rl ns shs sc s pa te he ke x8 x9 x10 Au (some (.v (.int t))) BD BA) U=some (.nx (rl ns shs sc s pa te he ke x8 x9 x10 Au (some (.v (.int t))) BD BA) (U++cs)):=by
 let⟨cs,e⟩:=jQ g h hn (O:=rl ns shs sc s pa te he ke x8 x9 x10 Au (some (.v (.int t))) BD BA) (ft:=ae 12) (t:=t) rfl rfl rfl
 have hp':(U++cs)[pa]?=some (.lst (cK shs Ts n)):=by rw[BY (bH hp)];exact hp
 have ix:=Pw hp' (xi (Ts:=Ts) h0 h1);have ek:=o7 (oJ shs Ts t) true (U++cs);refine{cs,?_};generalize gL shs Ts t=l at e ix ek;rw[j1,jH,uu,ja,e,fF];push_cast [ix,ek,zbS]
theorem LM (g:GS shs)(h:Bk U s a b c shs xs (bP shs Ts))(hn:∀sh∈shs,(Ts sh.nm).length<100){n:Nat}(hp:U[pa]?=some (.lst (cK shs Ts n)))(x8 x9 x10 Au B8 BD BA:QI R)(ts:Th)(ht:∀t∈ts,0<=t/\t<(n:Int)) :
  ∃cs CA,eK (bD 12) (j1 bt) (ts.map .int) (rl ns shs sc s pa te he ke x8 x9 x10 Au B8 BD BA) U=some (.nx (rl ns shs sc s pa te he ke x8 x9 x10 Au CA BD BA) (U++cs)):=by
 induction ts generalizing U B8 with
 |nil=>exact{[],B8,by rw[Cg];rfl}
 |cons t ts ih=>
  let⟨h0,h1⟩:=ht t BG;let⟨c1,e1⟩:=Kb (bt:=bt) (ns:=ns) (sc:=sc) (te:=te) (he:=he) (ke:=ke) g h hn hp h0 h1 x8 x9 x10 Au BD BA;let⟨c2,y,e2⟩:=ih (h.app c1) (by rw[BY (bH hp)];exact hp) (some (.v (.int t))) λt ht'=>ht t (BR _ ht');refine{c1++c2,y,?_};have hg:bD 12 (.v (D.int t)) (rl ns shs sc s pa te he ke x8 x9 x10 Au B8 BD BA) U=some (rl ns shs sc s pa te he ke x8 x9 x10 Au (some (.v (.int t))) BD BA,U):=rfl;rw[Ak,hV,hg,ut,e1,xp,e2,Bf]
def Ka (g:GS shs){x:Tl}(gx:GT sc shs x){Us:Str->P4 En}(hh:U[he]?=some (.dct (bP shs Ts)))(hk:U[ke]?=some (.lst (jA shs Ts))){q:Nat}(hq:U[q]?=some (.dct (bP shs Us)))(hU:∀s∈shs,s.nm≠x.nm->Us s.nm=Ts s.nm){k:Nat}(hl:k<shs.length)(x8 x10 Au B8:QI R) :
  j0 bt (rl ns shs sc s pa te he ke x8 (some (.v (bC x))) x10 Au B8 (some (.p q)) (some (.v (.int (k:Int))))) U=some (.nx (rl ns shs sc s pa te he ke x8 (some (.v (bC x))) x10 Au B8 (some (.p q)) (some (.v (.int (k:Int))))) U):=by
 obtain⟨O,hO⟩:∃O:Lo,O=rl ns shs sc s pa te he ke x8 (some (.v (bC x))) x10 Au B8 (some (.p q)) (some (.v (.int (k:Int)))):={_,rfl};obtain⟨sh,BV⟩:∃sh,sh=shs[k]:={_,rfl};have hm:sh∈shs:=BV ▸ HR _
 have e1:shs[k]?=some sh:=by rw[BV];exact Bl hl
 have a1:L2.kB (shs.map bZ) (k:Int)=some (bZ sh):=mJ e1;have a2:L2.kB (jA shs Ts) (k:Int)=some (.fl ((Ts sh.nm).map bm)):=mJ (f:=λsh:Sh=>D.fl ((Ts sh.nm).map bm)) e1
 have nm:aw bg (aw bg (ae 1) (ae 14)) (fK (.int 0)) O U=some (.v (.str sh.nm),U):=by
  have i0:bg (.v (bZ sh)) (.v (.int 0)) U=some (.v (.str sh.nm),U):=rfl;rw[hO];push_cast [a1,i0]
 have kp:aw bg (ae 7) (ae 14) O U=some (.v (.fl ((Ts sh.nm).map bm)),U):=by
  rw[hO];push_cast [hk,a2]
 have d1:=we (O:=O) (fo:=ae 6) hm (by rw[hO];rfl) nm hh;have d2:=we (O:=O) (fo:=ae 13) hm (by rw[hO];rfl) nm hq;have ek:=o7 (ql (Ts sh.nm)) true U
 have tl:aw bg (ae 9) (fK (.int 1)) O U=some (.v (.str x.nm),U):=by rw[hO];rfl
 have es:=JEb ((g.ok sh hm).2.ok 60) (gx.nm.ok 60) true U;rw[←hO,j0]
 have s1:gW (fB (aw (jJ true) (je (ae 6) (aw bg (aw bg (ae 1) (ae 14)) (fK (.int 0)))) (aw bg (ae 7) (ae 14)))) (bT (fK (.bl false))) aZ O U=some (.nx O U):=by
  rw[jH,uu,ja,d1,fF,kp,gf,ek];rfl
 have t1:fB (aw (jJ true) (aw bg (aw bg (ae 1) (ae 14)) (fK (.int 0))) (aw bg (ae 9) (fK (.int 1)))) O U=some (!(sh.nm == x.nm),U):=by
  rw[uu,ja,nm,fF,tl,gf,es];rfl
 rw[ky s1,jH,xG,t1,uo]
 by_cases e:sh.nm=x.nm
 ·rw[show(sh.nm == x.nm)=true by simp[e]];rfl
 ·rw[show(sh.nm == x.nm)=false by simp[e]]
  rw[hU sh hm e] at d2
  have t2:fB (aw (jJ true) (je (ae 13) (aw bg (aw bg (ae 1) (ae 14)) (fK (.int 0)))) (aw bg (ae 7) (ae 14))) O U=some (false,U):=by
   rw[uu,ja,d2,fF,kp,gf,ek];rfl
  rw[Bool.not_false,A8 rfl,t2];rfl
end
section
variable {bt:A7}{shs:P4 Sh}{s a b c pa te he ke:Nat}{U:ac}{xs:P4 Tl}{Ts:Str->P4 En}{ns:Th}{sc:Int}
def Bk.set {kv:P4 (aE×D)}(h:Bk U s a b c shs xs kv){i:Nat}{y:au}(h1:i≠s)(h2:i≠a)(h3:i≠b)(h4:i≠c):Bk (U.set i y) s a b c shs xs kv:=by
 have f:∀{j:Nat} {z:au},i≠j->U[j]?=some z->(U.set i y)[j]?=some z:=λ{j z} hi e=>by rw[Bp hi];exact e
 exact{f h1 h.ob,f h2 h.sl,f h3 h.tl,f h4 h.tb,h.ab}
def yz {x:Tl}{n:Nat}{Us:Str->P4 En}(td:CO bt shs x n Ts Us):cK shs Ts (n+1)=cK shs Us (n+1):=by
 refine zcb λt ht=>?_;have:=Hh.mp ht;have:gL shs Ts (t:Int)=gL shs Us (t:Int):=zcb λsh BV=>by rw[(td sh BV).2.2 (t:Int) ∅]
 rw[this]
def yi (hp:∀s∈shs,ij sc s xs (Ts s.nm)){t:Int}(ht:t<=0):gL shs Ts t=gL shs Ts 0 :=
 zcb λsh BV=>by rw[xV (hp sh BV).ps ht,xV (hp sh BV).ps (zcS 0)]
def yA (n:Nat):cK shs Ts (n+1)++[.fl (gL shs Ts (n+1:Nat))]=cK shs Ts (n+1+1):=by rw[cK,cK,List.range_succ (n:=n+1),Cy];rfl
def iE {i j:Nat}{x y:au}(h1:U[i]?=some x)(h2:U[j]?=some y)(h:x≠y):i≠j:=λe=>h (by rw[e,h2] at h1;cases h1;rfl)
def keep {i:Nat}{y:au}(h:U[i]?=some y)(cs:P4 au):(U++cs)[i]?=some y:=by rw[BY (bH h)];exact h
def Gn {i j:Nat}{y z:au}(h:U[i]?=some y)(hj:j≠i):(U.set j z)[i]?=some y:=by rw[Bp hj];exact h
def LU (g:GS shs)(hs:0<sc)(ap:Ap a b pa te)(h:pZ bt sc shs s a b c pa te he ke U xs Ts)(hn:xs.length<=49)(cell:Int)(x9 x10 Au B8 BD BA:QI R)(rest:FS) :
  ∃x U' Us CA D4,GT sc shs x/\Bk U' s a b c shs (xs++[x]) (bP shs Us)/\U'[pa]?=some (.lst (cK shs Us (xs.length+1)))/\U'[te]?=some (.lst ((xs++[x]).map bC))/\U'[he]?=some (.dct (bP shs Ts))/\U'[ke]?=some (.lst (jA shs Ts))/\(∀s∈shs,ij sc s (xs++[x]) (Us s.nm))/\CO bt shs x xs.length Ts Us /\
   (az (aI 9 (aW bW 3 (af (bA (ae 8)) (af (bA (ae 1)) (af (bA (ae 2)) aj)))))
  (az (bE (cm (cu bt) 2 (af (ae 3) (af (ae 9) aj))))
  (az (bE (qA gg (ae 5) (af (ae 9) aj)))
  (az (aI 10 (eA jd (af (ae 5) aj)))
  (az (aI 11 (dN (af (aw l6 (ae 10) (fK (.int 1))) aj)))
  (az (gW (fB (aw (jJ false) (aw bU (ae 10) (fK (.int 3))) (fK (.int 0))))
  (bE (qA gg (ae 11) (af (aw bU (aW aV 2 (af (bA (ae 8)) (af (fK (.int 5)) aj))) (ae 10)) aj)))
  aZ)
  (az (gM (bI (ae 11)) (bD 12)
  (j1 bt)) rest))))))) (rl ns shs sc s pa te he ke (some (.v (.int cell))) x9 x10 Au B8 BD BA) U=rest (rl ns shs sc s pa te he ke (some (.v (.int cell))) (some (.v (bC x))) (some (.v (.int ((xs.length:Int)+1)))) D4 CA BD BA) U':=by
 let⟨x,gx,ht⟩:=vd cell sc hs g;let⟨r,U1,Us,e2,b1,ok1,td,k1⟩:=wI bt g h.bk gx h.ok ∅;have e2:=uP bt h.bk.ob e2;have pac:pa≠c:=iE h.pc h.bk.tb ∅;have tec:te≠c:=iE h.tc h.bk.tb ∅;have hb:he≠b:=iE h.hd h.bk.tl ∅;have kc:ke≠c:=iE h.kd h.bk.tb ∅;have p1:=k1 pa _ ap.pb pac h.pc;rw[yz td] at p1;have t1:=k1 te _ ap.tb tec h.tc;have h1:=k1 he _ hb h.hc h.hd;have q1:=k1 ke _ h.kb kc h.kd;have tes:te≠s:=iE t1 b1.ob ∅;have hte:te≠he:=iE t1 h1 ∅;obtain⟨U2,Hv⟩:∃U2,U2=U1.set te (.lst ((xs++[x]).map bC)):={_,rfl}
 have b2:Bk U2 s a b c shs (xs++[x]) (bP shs Us):=by rw[Hv];exact b1.set tes ap.ta ap.tb tec
 have k2:∀{i:Nat} {y:au},te≠i->U1[i]?=some y->U2[i]?=some y:=λ{i y} hi e=>by rw[Hv];exact Gn e hi
 have p2:=k2 (Ne.symm ap.pt) p1
 have t2:U2[te]?=some (.lst ((xs++[x]).map bC)):=by rw[Hv,DN (bH t1)]
 have h2:=k2 hte h1;have q2:=k2 (Ne.symm h.kt) q1
 have Dl:∀sh∈shs,(Us sh.nm).length<100:=λsh BV=>by have:=(ok1 sh BV).ln;rw[Bb] at this;simp at this;omega
 have zl:(xs.map bC).length<sizeLine:=gK (by rw[Ay];omega)
 have ln:(((xs++[x]).map bC).length:Int)=(xs.length:Int)+1:=by simp
 have s1:aI 9 (aW bW 3 (af (bA (ae 8)) (af (bA (ae 1)) (af (bA (ae 2)) aj)))) (rl ns shs sc s pa te he ke (some (.v (.int cell))) x9 x10 Au B8 BD BA) U=some (.nx (rl ns shs sc s pa te he ke (some (.v (.int cell))) (some (.v (bC x))) x10 Au B8 BD BA) U):=by
  push_cast [ht]
 have s2:bE (cm (cu bt) 2 (af (ae 3) (af (ae 9) aj))) (rl ns shs sc s pa te he ke (some (.v (.int cell))) (some (.v (bC x))) x10 Au B8 BD BA) U=some (.nx (rl ns shs sc s pa te he ke (some (.v (.int cell))) (some (.v (bC x))) x10 Au B8 BD BA) U1):=by
  push_cast [GV,zy,e2]
 have s3:bE (qA gg (ae 5) (af (ae 9) aj)) (rl ns shs sc s pa te he ke (some (.v (.int cell))) (some (.v (bC x))) x10 Au B8 BD BA) U1=some (.nx (rl ns shs sc s pa te he ke (some (.v (.int cell))) (some (.v (bC x))) x10 Au B8 BD BA) U2):=by
  rw[Hv,Cy];push_cast [t1,zl]
 have s4:aI 10 (eA jd (af (ae 5) aj)) (rl ns shs sc s pa te he ke (some (.v (.int cell))) (some (.v (bC x))) x10 Au B8 BD BA) U2=some (.nx (rl ns shs sc s pa te he ke (some (.v (.int cell))) (some (.v (bC x))) (some (.v (.int ((xs.length:Int)+1)))) Au B8 BD BA) U2):=by
  push_cast [t2,ln]
 obtain⟨O,hO⟩:∃O:Lo,O=rl ns shs sc s pa te he ke (some (.v (.int cell))) (some (.v (bC x))) (some (.v (.int ((xs.length:Int)+1)))) (some (.p U2.length)) B8 BD BA:={_,rfl}
 have s5:aI 11 (dN (af (aw l6 (ae 10) (fK (.int 1))) aj)) (rl ns shs sc s pa te he ke (some (.v (.int cell))) (some (.v (bC x))) (some (.v (.int ((xs.length:Int)+1)))) Au B8 BD BA) U2=some (.nx O (U2++[.lst [.int ((xs.length:Int)+1-1)]])):=by
  rw[hO];push_cast [KO]
 obtain⟨ts,hts,s6⟩:∃ts:Th,(∀t∈ts,0<=t/\t<((xs.length+1:Nat):Int))/\gW (fB (aw (jJ false) (aw bU (ae 10) (fK (.int 3))) (fK (.int 0)))) (bE (qA gg (ae 11) (af (aw bU (aW aV 2 (af (bA (ae 8)) (af (fK (.int 5)) aj))) (ae 10)) aj))) aZ O (U2++[.lst [.int ((xs.length:Int)+1-1)]])=some (.nx O (U2++[.lst (ts.map .int)])):=by
  have t1:fB (aw (jJ false) (aw bU (ae 10) (fK (.int 3))) (fK (.int 0))) O (U2++[.lst [.int ((xs.length:Int)+1-1)]])=some (((xs.length:Int)+1)%3 == 0,U2++[.lst [.int ((xs.length:Int)+1-1)]]):=by
   rw[hO];push_cast [dU ((xs.length:Int)+1) (j:=3) ∅,xP]
  rw[jH,t1]
  by_cases e:((xs.length:Int)+1)%3=0
  ·obtain⟨n,hn1,n0,-⟩:=ir cell 5 ∅
   have nb:=c7 n (j:=(xs.length:Int)+1) ∅;refine{[(xs.length:Int)+1-1,n%((xs.length:Int)+1)],λt ht=>?_,?_}
   ·rcases Ax.mp ht with rfl|ht
    ·omega
    ·rw[Bg.mp ht];omega
   rw[show(((xs.length:Int)+1)%3 == 0)=true by simp[e]];have z:([D.int ((xs.length:Int)+1-1)]:P4 D).length<sizeLine:=gK ∅;have se:(U2++[au.lst [.int ((xs.length:Int)+1-1)]]).set U2.length (.lst ([.int ((xs.length:Int)+1-1)]++[.int (n%((xs.length:Int)+1))]))=U2++[.lst ([.int ((xs.length:Int)+1-1)]++[.int (n%((xs.length:Int)+1))])]:=dA;have mS:=λU=>dU n (j:=(xs.length:Int)+1) ∅ U;rw[hO];generalize (xs.length:Int)+1-1=v at z se ⊢;generalize hl : [D.int v]=l at z se ⊢;push_cast [hn1,mS,sI,z,se];rw[←hl];rfl
  ·refine{[(xs.length:Int)+1-1],λt ht=>by rw[Bg.mp ht];omega,?_}
   rw[show(((xs.length:Int)+1)%3 == 0)=false by simp[e]];rfl
 let⟨cs,CA,lp⟩:=LM (bt:=bt) (ns:=ns) (sc:=sc) (te:=te) (he:=he) (ke:=ke) g (b2.app [.fz (ts.map .int)]) Dl (keep p2 _) (some (.v (.int cell))) (some (.v (bC x))) (some (.v (.int ((xs.length:Int)+1)))) (some (.p U2.length)) B8 BD BA ts hts
 have s7:gM (bI (ae 11)) (bD 12) (j1 bt) O (U2++[.lst (ts.map .int)])=some (.nx (rl ns shs sc s pa te he ke (some (.v (.int cell))) (some (.v (bC x))) (some (.v (.int ((xs.length:Int)+1)))) (some (.p U2.length)) CA BD BA) (U2++[.fz (ts.map .int)]++cs)):=by
  have se:(U2++[au.lst (ts.map .int)]).set U2.length (.fz (ts.map .int))=U2++[.fz (ts.map .int)]:=dA
  have:bI (ae 11) O (U2++[.lst (ts.map .int)])=some (ts.map .int,U2++[.fz (ts.map .int)]):=by
   rw[hO];push_cast [sI,se]
  rw[o0,this,lQ,hO];exact lp
 refine{x,U2++[.fz (ts.map .int)]++cs,Us,CA,ba U2.length,gx,(b2.app _).app _,keep (keep p2 _) _,keep (keep t2 _) _,keep (keep h2 _) _,keep (keep q2 _) _,ok1,td,?_};rw[ky s1,ky s2,ky s3,ky s4,ky s5,ky s6,ky s7]
end
section
variable {bt:A7}{shs:P4 Sh}{s a b c pa te he ke:Nat}{U:ac}{xs:P4 Tl}{Ts Us:Str->P4 En}{ns:Th}{sc:Int}
def LL (g:GS shs){x:Tl}(gx:GT sc shs x)(hh:U[he]?=some (.dct (bP shs Ts)))(hk:U[ke]?=some (.lst (jA shs Ts))){q:Nat}(hq:U[q]?=some (.dct (bP shs Us)))(hU:∀s∈shs,s.nm≠x.nm->Us s.nm=Ts s.nm)(x8 x10 Au B8 BA:QI R) :
  ∃C6,gM (pV (eA jd (af (ae 1) aj))) (bD 14) (j0 bt) (rl ns shs sc s pa te he ke x8 (some (.v (bC x))) x10 Au B8 (some (.p q)) BA) U=some (.nx (rl ns shs sc s pa te he ke x8 (some (.v (bC x))) x10 Au B8 (some (.p q)) C6) U):=by
 let⟨O',U',e,⟨y,hy⟩,hm⟩:=oP (g:=bD 14) (b:=j0 bt) (O:=rl ns shs sc s pa te he ke x8 (some (.v (bC x))) x10 Au B8 (some (.p q)) BA) (U:=U) shs.length (λi O ν=>(∃y,O=rl ns shs sc s pa te he ke x8 (some (.v (bC x))) x10 Au B8 (some (.p q)) y)/\ν=U) {{BA,rfl},rfl} (by
  rintro i hi O ν ⟨⟨y,rfl⟩,rfl⟩;have hg:bD 14 (.v (.int (i:Int))) (rl ns shs sc s pa te he ke x8 (some (.v (bC x))) x10 Au B8 (some (.p q)) y) ν=some (rl ns shs sc s pa te he ke x8 (some (.v (bC x))) x10 Au B8 (some (.p q)) (some (.v (.int (i:Int)))),ν):=rfl;rw[hg,ut]
  exact{_,_,Ka g gx hh hk hq hU hi x8 x10 Au B8,{_,rfl},rfl})
 rw[hy,hm] at e;refine{y,?_}
 have hb : -(2 ^ 62)<=(shs.length:Int)/\(shs.length:Int)<2 ^ 62:=by have:=g.le;omega
 have fi:pV (eA jd (af (ae 1) aj)) (rl ns shs sc s pa te he ke x8 (some (.v (bC x))) x10 Au B8 (some (.p q)) BA) U=some ((List.range shs.length).map λi=>.int ((i:Nat):Int),U):=by
  rw[Mf]
  have:eA jd (af (ae 1) aj) (rl ns shs sc s pa te he ke x8 (some (.v (bC x))) x10 Au B8 (some (.p q)) BA) U=some (.v (.int (shs.length:Int)),U):=by push_cast [Ay]
  rw[this,sf hb,HZ]
 rw[o0,fi,lQ];exact e
def LS (g:GS shs)(ap:Ap a b pa te)(h:pZ bt sc shs s a b c pa te he ke U xs Ts){U':ac}{x:Tl}(gx:GT sc shs x)(bk:Bk U' s a b c shs (xs++[x]) (bP shs Us))(hp:U'[pa]?=some (.lst (cK shs Us (xs.length+1))))(ht:U'[te]?=some (.lst ((xs++[x]).map bC)))(hh:U'[he]?=some (.dct (bP shs Ts)))(hk:U'[ke]?=some (.lst (jA shs Ts)))(ok:∀s∈shs,ij sc s (xs++[x]) (Us s.nm))(td:CO bt shs x xs.length Ts Us)(hn:xs.length<=49)(cell:Int)(Au B8 BD BA:QI R) :
  ∃ν HL HG D3 C6,(az (gW (g6 (fB (aw (jJ false) (aw bU (ae 10) (fK (.int 8))) (fK (.int 1)))) (fB (aw (jJ true) (bA (cm aL 3 (af (ae 3) (af (ae 1) (af (aw l6 (fK (.int 0)) (aw bU (ae 8) (aw j8 (fK (.int 10)) (fK (.int 40))))) aj))))) (aw bg (ae 4) (fK (.int 0))))))
  (bT (fK (.bl false)))
  aZ)
  (az (bE (qA gg (ae 4) (af (bA (cm aL 3 (af (ae 3) (af (ae 1) (af (ae 10) aj))))) aj)))
  (az (aI 13 (dC "Book" "tables" aO 1 (ae 3) aj))
  (az (gM (pV (eA jd (af (ae 1) aj))) (bD 14)
  (j0 bt))
  (az (aI 6 (ae 13))
  (aI 7 (bS [13] 1 (bI (ae 1)) (bD 0) c8 (bA (eA eC (af (je (ae 1) (aw bg (ae 0) (fK (.int 0)))) aj)))))))))) (rl ns shs sc s pa te he ke (some (.v (.int cell))) (some (.v (bC x))) (some (.v (.int ((xs.length:Int)+1)))) Au B8 BD BA) U'=some (.nx (rl ns shs sc s pa te HL HG (some (.v (.int cell))) (some (.v (bC x))) (some (.v (.int ((xs.length:Int)+1)))) Au B8 D3 C6) ν)/\pZ bt sc shs s a b c pa te HL HG ν (xs++[x]) Us:=by
 obtain⟨P,hP⟩:∃P:Int,P=10 ^ (40:Int).toNat:={_,rfl}
 have ER:∀U:ac,j8 (.v (.int 10)) (.v (.int 40)) U=some (.v (.int P),U):=λU=>by rw[v7 ∅,hP]
 have hP0:0<P:=by rw[hP];exact Int.pow_pos ∅
 clear hP;have bz:=c7 cell (j:=P) hP0
 have Dl:∀sh∈shs,(Us sh.nm).length<100:=λsh BV=>by have:=(ok sh BV).ln;rw[Bb] at this;simp at this;omega
 obtain⟨O,hO⟩:∃O:Lo,O=rl ns shs sc s pa te he ke (some (.v (.int cell))) (some (.v (bC x))) (some (.v (.int ((xs.length:Int)+1)))) Au B8 BD BA:={_,rfl}
 have v3:∀Y:ac,ae 3 O Y=some (.p s,Y):=λY=>by rw[hO];rfl
 have v1:∀Y:ac,ae 1 O Y=some (.v (.fl (shs.map bZ)),Y):=λY=>by rw[hO];rfl
 have v4:∀Y:ac,ae 4 O Y=some (.p pa,Y):=λY=>by rw[hO];rfl
 have v10:∀Y:ac,ae 10 O Y=some (.v (.int ((xs.length:Int)+1)),Y):=λY=>by rw[hO];rfl
 have vn:∀Y:ac,(aw l6 (fK (.int 0)) (aw bU (ae 8) (aw j8 (fK (.int 10)) (fK (.int 40))))) O Y=some (.v (.int (0-cell%P)),Y):=λY=>by
  rw[hO];push_cast [ER,dU cell (j:=P) hP0]
 have t1:fB (aw (jJ false) (aw bU (ae 10) (fK (.int 8))) (fK (.int 1))) O U'=some (((xs.length:Int)+1)%8 == 1,U'):=by
  rw[hO];push_cast [dU ((xs.length:Int)+1) (j:=8) ∅,xP]
 obtain⟨c1,s1⟩:∃c1,gW (g6 (fB (aw (jJ false) (aw bU (ae 10) (fK (.int 8))) (fK (.int 1)))) (fB (aw (jJ true) (bA (cm aL 3 (af (ae 3) (af (ae 1) (af (aw l6 (fK (.int 0)) (aw bU (ae 8) (aw j8 (fK (.int 10)) (fK (.int 40))))) aj))))) (aw bg (ae 4) (fK (.int 0)))))) (bT (fK (.bl false))) aZ O U'=some (.nx O (U'++c1)):=by
  let⟨cs,e⟩:=jQ g bk Dl (v3 _) (v1 _) (vn _);have ix:=Pw (keep hp cs) (xi (Ts:=Us) (n:=xs.length+1) (zcS 0) ∅);have ek:=o7 (oJ shs Us 0) true (U'++cs);rw[yi ok ∅] at e;rw[jH,xG,t1,uo]
  by_cases q:((xs.length:Int)+1)%8=1
  ·refine{cs,?_}
   have t2:fB (aw (jJ true) (bA (cm aL 3 (af (ae 3) (af (ae 1) (af (aw l6 (fK (.int 0)) (aw bU (ae 8) (aw j8 (fK (.int 10)) (fK (.int 40))))) aj))))) (aw bg (ae 4) (fK (.int 0)))) O U'=some (false,U'++cs):=by
    rw[uu,ja,e,fF,ja,v4,fF,show fK (.int 0) O (U'++cs)=some (.v (.int 0),U'++cs) from rfl,gf,ix,gf,ek];rfl
   rw[show(((xs.length:Int)+1)%8 == 1)=true by simp[q],A8 rfl,t2];rfl
  ·refine{[],?_}
   rw[show(((xs.length:Int)+1)%8 == 1)=false by simp[q],Cg];rfl
 let⟨c2,e2⟩:=jQ g (bk.app c1) Dl (v3 _) (v1 _) (v10 _);obtain⟨κ,hκ⟩:∃κ,κ=(U'++c1++c2).set pa (.lst (cK shs Us ((xs++[x]).length+1))):={_,rfl};have pas:pa≠s:=iE hp bk.ob ∅;have pac:pa≠c:=iE hp bk.tb ∅;have pah:pa≠he:=iE hp hh ∅
 have s2:bE (qA gg (ae 4) (af (bA (cm aL 3 (af (ae 3) (af (ae 1) (af (ae 10) aj))))) aj)) O (U'++c1)=some (.nx O κ):=by
  have zl:(cK shs Us (xs.length+1)).length<sizeLine:=gK (by rw[Ay,List.length_range];omega);have pm:=yA (shs:=shs) (Ts:=Us) xs.length;have hp2:=keep (keep hp c1) c2;rw[hκ,Bb];rw[show((xs.length:Int)+1)=((xs.length+1:Nat):Int) by omega] at e2;generalize hd:D.fl (gL shs Us ((xs.length+1:Nat):Int))=d at pm e2;rw[show cK shs Us (xs.length + [x].length+1)=cK shs Us (xs.length+1)++[d] from pm.symm];generalize cK shs Us (xs.length+1)=l at zl hp2 ⊢;have hp1:=keep hp c1
  have ar:af (bA (cm aL 3 (af (ae 3) (af (ae 1) (af (ae 10) aj))))) aj O (U'++c1)=some ([.v d],U'++c1++c2):=by rw[cU,e2];rfl
  push_cast [xK,GD,v4,Jt,hp1,Ju,ar,hp2,zl]
 have kk:∀{i:Nat} {y:au},pa≠i->U'[i]?=some y->κ[i]?=some y:=λ{i y} hi e=>by rw[hκ];exact Gn (keep (keep e c1) c2) hi
 have b3:Bk κ s a b c shs (xs++[x]) (bP shs Us):=by rw[hκ];exact((bk.app c1).app c2).set pas ap.ha ap.pb pac
 have p3:κ[pa]?=some (.lst (cK shs Us ((xs++[x]).length+1))):=by rw[hκ,DN (bH (keep (keep hp c1) c2))]
 obtain⟨c3,e3⟩:=p7 g b3 Dl;have m3:=kW (nm:="tables") (w:=aO) (n:=1) (fo:=ae 3) (fa:=aj) (O:=O) (U:=κ) (s:=s) (rs:=[]) (U1:=κ) (v3 _) b3.ob ∅ ∅ ∅ rfl rfl;rw[e3] at m3;obtain⟨q,hq⟩:∃q,q=(κ++c3).length:={_,rfl};obtain⟨ν,hν⟩:∃ν,ν=κ++c3++[au.dct (bP shs Us)]:={_,rfl};rw[←hq,←hν] at m3
 have nq:ν[q]?=some (.dct (bP shs Us)):=by rw[hq,hν];exact sI
 have kn:∀{i:Nat} {y:au},κ[i]?=some y->ν[i]?=some y:=λ{i y} e=>by rw[hν];exact keep (keep e _) _
 have s3:aI 13 (dC "Book" "tables" aO 1 (ae 3) aj) O κ=some (.nx (rl ns shs sc s pa te he ke (some (.v (.int cell))) (some (.v (bC x))) (some (.v (.int ((xs.length:Int)+1)))) Au B8 (some (.p q)) BA) ν):=by
  rw[fA,m3,hO];rfl
 let⟨C6,s4⟩:=LL (bt:=bt) (ns:=ns) (sc:=sc) (s:=s) (pa:=pa) (te:=te) g gx (kn (kk pah hh)) (kn (kk (Ne.symm h.kp) hk)) nq (λt ht=>(td t ht).2.1) (some (.v (.int cell))) (some (.v (.int ((xs.length:Int)+1)))) Au B8 BA;let⟨c5,e5⟩:=xw (q:=q) (O:=rl ns shs sc s pa te q ke (some (.v (.int cell))) (some (.v (bC x))) (some (.v (.int ((xs.length:Int)+1)))) Au B8 (some (.p q)) C6) (U:=ν) (j:=13) g Dl rfl rfl nq
 have lq:∀{i:Nat} {y:au},κ[i]?=some y->q≠i:=λ{i y} e z=>by have:=bH e;rw[hq,Bb] at z;omega
 have ln:∀{i:Nat} {y:au},κ[i]?=some y->(ν++c5).length≠i:=λ{i y} e z=>by have:=bH (kn e);rw[Bb] at z;omega
 refine{ν++c5++[.lst (jA shs Us)],q,(ν++c5).length,ba q,C6,?_,?_}
 ·rw[←hO,ky s1,ky s2,ky s3,ky s4,ky (show aI 6 (ae 13) _ ν=some (.nx (rl ns shs sc s pa te q ke (some (.v (.int cell))) (some (.v (bC x))) (some (.v (.int ((xs.length:Int)+1)))) Au B8 (some (.p q)) C6) ν) from rfl),fA,e5];rfl
 ·have t3:=kk ap.pt ht
  have rr:∀y∈xs++[x],GT sc shs y:=λy hy=>by
   rcases DI.mp hy with hy|hy
   ·exact h.gt y hy
   ·rw[Bg.mp hy];exact gx
  have fin:∀{i:Nat} {y:au},κ[i]?=some y->(ν++c5++[au.lst (jA shs Us)])[i]?=some y:=λe=>keep (keep (kn e) _) _;refine{{fin b3.ob,fin b3.sl,fin b3.tl,fin b3.tb,b3.ab},fin p3,fin t3,keep (keep nq _) _,sI,rr,ok,.snoc h.rn td,lq b3.tb,ln b3.tl,ln p3,ln t3}
def J9 (g:GS shs)(hs:0<sc)(ap:Ap a b pa te)(h:pZ bt sc shs s a b c pa te he ke U xs Ts)(hn:xs.length<=49)(cell:Int)(x9 x10 Au B8 BD BA:QI R) :
  ∃x ν Us HL HG y9 D5 D4 CA D3 C6,nL bt (rl ns shs sc s pa te he ke (some (.v (.int cell))) x9 x10 Au B8 BD BA) U=some (.nx (rl ns shs sc s pa te HL HG (some (.v (.int cell))) y9 D5 D4 CA D3 C6) ν)/\pZ bt sc shs s a b c pa te HL HG ν (xs++[x]) Us:=by
 let⟨x,U',Us,CA,D4,gx,bk,hp,ht,hh,hk,ok,td,e⟩:=LU (ns:=ns) g hs ap h hn cell x9 x10 Au B8 BD BA _;let⟨ν,HL,HG,D3,C6,e',go⟩:=LS (ns:=ns) g ap h gx bk hp ht hh hk ok td hn cell D4 CA BD BA;exact{x,ν,Us,HL,HG,_,_,_,_,D3,C6,e.trans e',go}
end
abbrev rm (ns:Th)(shs:P4 Sh)(sc:Int)(s pa te he ke:Nat)(x8 x9 x10 Au B8 BD BA:QI R)(s2:Nat):Lo:=[some (.v (.fl (ns.map .int))),some (.v (.fl (shs.map bZ))),cS sc,ba s,ba pa,ba te,ba he,ba ke,x8,x9,x10,Au,B8,BD,BA,ba s2]
section
variable {bt:A7}{shs:P4 Sh}{s a b c pa te he ke s2 a2 b2 c2:Nat}{U:ac}{xs:P4 Tl}{Ts:Str->P4 En}{ns:Th}{sc:Int}
def xm (g:GS shs){O:Lo}(U:ac)(h1:ae 1 O U=some (.v (.fl (shs.map bZ)),U)):∃U' c,jG "Book" bV 2 (af (ae 1) aj) O U=some (.p U.length,U')/\Bk U' U.length (U.length+1) (U.length+2) c shs [] (bP shs λ_=>[])/\U.length<=c/\∀(i:Nat) (y:au),U[i]?=some y->U'[i]?=some y:=by
 let⟨U',c,e,bk,k⟩:=JCy g U;refine{U',c,?_,bk,k};have:af (ae 1) aj O U=some ([.v (.fl (shs.map bZ))],U):=by rw[cU,h1];rfl
 unfold jG;rw[this]
 show(bV [.p U.length,.v (.fl (shs.map bZ))] (U++[.ob "Book" []])).bind _=_
 rw[e];rfl
def l5 (g:GS shs)(h:Bk U s a b c shs xs (bP shs Ts))(hn:∀sh∈shs,(Ts sh.nm).length<100){O:Lo}{j:Nat}(hj:ae j O U=some (.p s,U)):∃cs,dC "Book" "tables" aO 1 (ae j) aj O U=some (.p (U++cs).length,U++cs++[au.dct (bP shs Ts)]):=by obtain⟨cs,e⟩:=p7 g h hn;have m3:=kW (nm:="tables") (w:=aO) (n:=1) (fo:=ae j) (fa:=aj) (O:=O) (U:=U) (s:=s) (rs:=[]) (U1:=U) hj h.ob ∅ ∅ ∅ rfl rfl;exact{cs,m3.trans e}
def LK (g:GS shs)(gt:∀x∈xs,GT sc shs x)(hl:xs.length<=50)(ho:s<s2)(hb:b<s2)(ha:a<s2)(hc:c<s2)(hs2:s2<=b2)(hc2:s2<=c2)(x8 x9 x10 Au B8 BD BA:QI R)(b1:Bk U s a b c shs xs (bP shs Ts))(bk:Bk U s2 a2 b2 c2 shs [] (bP shs λ_=>[])) :
  ∃U' Us y9,eK (bD 9) (lH bt) (xs.map bC) (rm ns shs sc s pa te he ke x8 x9 x10 Au B8 BD BA s2) U=some (.nx (rm ns shs sc s pa te he ke x8 y9 x10 Au B8 BD BA s2) U')/\Bk U' s a b c shs xs (bP shs Ts)/\Bk U' s2 a2 b2 c2 shs xs (bP shs Us)/\E5 bt shs xs Us/\∀s∈shs,ij sc s xs (Us s.nm):=by
 let⟨⟨ys,U',Us,y9⟩,e,h1,h2,h3,h4,h5⟩:=lF (g:=bD 9) (b:=lH bt) bC
  (λz:P4 Tl×ac×(Str->P4 En)×QI R=>(rm ns shs sc s pa te he ke x8 z.2.2.2 x10 Au B8 BD BA s2,z.2.1))
  (λz rem=>z.1++rem=xs/\Bk z.2.1 s a b c shs xs (bP shs Ts)/\Bk z.2.1 s2 a2 b2 c2 shs z.1 (bP shs z.2.2.1)/\E5 bt shs z.1 z.2.2.1/\∀s∈shs,ij sc s z.1 (z.2.2.1 s.nm)) xs ([],U,λ_=>[],x9) {rfl,b1,bk,.nil,λs _=>{(λ_ h=>nomatch h),(λ_ h=>nomatch h),.nil,Ao _,(λ_ h=>nomatch h),(λ_ h=>nomatch h)}} (by
   rintro⟨ys,U,Us,x9⟩ x rem ⟨h1,h2,h3,h4,h5⟩;dsimp only at h1 h2 h3 h4 h5
   have hx:x∈xs:=by rw[←h1];simp
   have hy:ys.length<=62:=by have:=AI List.length h1;rw[Bb] at this;omega
   let⟨r,U1,Vs,e,b3,ok,td,k⟩:=wI bt g h3 (gt x hx) h5 hy;have e:=uP bt h3.ob e;refine{(ys++[x],U1,Vs,some (.v (bC x))),?_,by rw[Bf];exact h1,?_,b3,.snoc h4 td,ok}
   ·have hg:bD 9 (.v (bC x)) (rm ns shs sc s pa te he ke x8 x9 x10 Au B8 BD BA s2) U=some (rm ns shs sc s pa te he ke x8 (some (.v (bC x))) x10 Au B8 BD BA s2,U):=rfl
    rw[hg,ut,lH];push_cast [GV,zy,e]
   ·exact{k _ _ ∅ ∅ h2.ob,k _ _ ∅ ∅ h2.sl,k _ _ ∅ ∅ h2.tl,k _ _ ∅ ∅ h2.tb,h2.ab})
 dsimp only at h1 h2 h3 h4 h5;rw[Cg] at h1;subst h1;exact{U',Us,y9,e,h2,h3,h4,h5}
end
def BF (bt:A7)(ns:Th)(hl:ns.length<=63):t6 bt [.fl (ns.map .int)]=some (.bl true):=by
 rw[J6];let⟨c0,hc0⟩:=JEe ns 0;have hc0:cE [.fl (ns.map .int),.int 0]=some (.int c0):=hc0;let⟨shs,g,BV⟩:=yk c0;obtain⟨P,hP⟩:∃P:Int,P=10 ^ (40:Int).toNat:={_,rfl};have ER:∀U:ac,j8 (.v (.int 10)) (.v (.int 40)) U=some (.v (.int P),U):=λU=>by rw[v7 ∅,hP]
 have hP0:0<P:=by rw[hP];exact Int.pow_pos ∅
 clear hP;let⟨sc,hsm,IE⟩:=Bc [1,1,P] (c0%3) (c7 c0 (j:=3) ∅);have hs0:0<sc:=by
  rcases Ax.mp hsm with rfl|h
  ·decide
  ·rcases Ax.mp h with rfl|h
   ·decide
   ·rw[Bg.mp h];exact hP0
 have IE:L2.kB [D.int 1,.int 1,.int P] (c0%3)=some (.int sc):=IE;have s1:aI 1 (aW df 1 (af (bA (aW cE 2 (af (bA (ae 0)) (af (fK (.int 0)) aj)))) aj)) [some (.v (.fl (ns.map .int))),none,none,none,none,none,none,none,none,none,none,none,none,none,none,none] []=some (.nx [some (.v (.fl (ns.map .int))),some (.v (.fl (shs.map bZ))),none,none,none,none,none,none,none,none,none,none,none,none,none,none] []):=by push_cast [hc0,BV]
 have s2:aI 2 (aw bg (dN (af (fK (.int 1)) (af (fK (.int 1)) (af (aw j8 (fK (.int 10)) (fK (.int 40))) aj)))) (aw bU (aW cE 2 (af (bA (ae 0)) (af (fK (.int 0)) aj))) (fK (.int 3)))) [some (.v (.fl (ns.map .int))),some (.v (.fl (shs.map bZ))),none,none,none,none,none,none,none,none,none,none,none,none,none,none] []=some (.nx [some (.v (.fl (ns.map .int))),some (.v (.fl (shs.map bZ))),cS sc,none,none,none,none,none,none,none,none,none,none,none,none,none] [.lst [.int 1,.int 1,.int P]]):=by push_cast [hc0,ER,dU c0 (j:=3) ∅,IE]
 obtain⟨U0,c,e3,b0,-,-⟩:=xm (O:=[some (.v (.fl (ns.map .int))),some (.v (.fl (shs.map bZ))),cS sc,none,none,none,none,none,none,none,none,none,none,none,none,none]) g [au.lst [.int 1,.int 1,.int P]] rfl;have Hw:∀sh∈shs,((λ_=>[]:Str->P4 En) sh.nm).length<100:=λ_ _=>by show 0<100;decide
 let⟨d1,e4⟩:=jQ (O:=[some (.v (.fl (ns.map .int))),some (.v (.fl (shs.map bZ))),cS sc,ba 1,none,none,none,none,none,none,none,none,none,none,none,none]) (ft:=fK (.int 0)) (t:=0) g b0 Hw rfl rfl rfl;obtain⟨pa,hpa⟩:∃pa,pa=(U0++d1).length:={_,rfl};obtain⟨U1,hU1⟩:∃U1:ac,U1=U0++d1++[.lst (cK shs (λ_=>[]) 1)]++[.lst []]:={_,rfl};have s4:aI 4 (dN (af (bA (cm aL 3 (af (ae 3) (af (ae 1) (af (fK (.int 0)) aj))))) aj)) [some (.v (.fl (ns.map .int))),some (.v (.fl (shs.map bZ))),cS sc,ba 1,none,none,none,none,none,none,none,none,none,none,none,none] U0=some (.nx [some (.v (.fl (ns.map .int))),some (.v (.fl (shs.map bZ))),cS sc,ba 1,ba pa,none,none,none,none,none,none,none,none,none,none,none] (U0++d1++[.lst (cK shs (λ_=>[]) 1)])):=by rw[fA,B9,cU,e4,hpa];rfl
 have s5:aI 5 (dN aj) [some (.v (.fl (ns.map .int))),some (.v (.fl (shs.map bZ))),cS sc,ba 1,ba pa,none,none,none,none,none,none,none,none,none,none,none] (U0++d1++[.lst (cK shs (λ_=>[]) 1)])=some (.nx [some (.v (.fl (ns.map .int))),some (.v (.fl (shs.map bZ))),cS sc,ba 1,ba pa,ba ((pa+1)),none,none,none,none,none,none,none,none,none,none] U1):=by
  have:(U0++d1++[au.lst (cK shs (λ_=>[]) 1)]).length=pa+1:=by rw[Bb,hpa];rfl
  rw[hU1];push_cast [this]
 have b1:Bk U1 1 2 3 c shs [] (bP shs λ_=>[]):=by rw[hU1];exact((b0.app _).app _).app _
 have p1:U1[pa]?=some (.lst (cK shs (λ_=>[]) 1)):=by rw[hU1,hpa];exact keep sI _
 have t1:U1[pa+1]?=some (.lst []):=by
  have:(U0++d1++[au.lst (cK shs (λ_=>[]) 1)]).length=pa+1:=by rw[Bb,hpa];rfl
  rw[hU1,←this];exact sI
 have l3:3<pa:=by have:=bH b0.tl;rw[hpa,Bb];exact Bi this ∅
 have lc:c<pa:=by have:=bH b0.tb;rw[hpa,Bb];omega
 let⟨d2,e6⟩:=l5 (O:=[some (.v (.fl (ns.map .int))),some (.v (.fl (shs.map bZ))),cS sc,ba 1,ba pa,ba ((pa+1)),none,none,none,none,none,none,none,none,none,none]) (j:=3) g b1 Hw rfl;obtain⟨he,hhe⟩:∃he,he=(U1++d2).length:={_,rfl};obtain⟨U2,Hv⟩:∃U2:ac,U2=U1++d2++[au.dct (bP shs λ_=>[])]:={_,rfl};rw[←hhe,←Hv] at e6;have h2:U2[he]?=some (.dct (bP shs λ_=>[])):=by rw[hhe,Hv];exact sI
 let⟨d3,e7⟩:=xw (q:=he) (O:=[some (.v (.fl (ns.map .int))),some (.v (.fl (shs.map bZ))),cS sc,ba 1,ba pa,ba ((pa+1)),ba he,none,none,none,none,none,none,none,none,none]) (U:=U2) (j:=6) g Hw rfl rfl h2;obtain⟨ke,hke⟩:∃ke,ke=(U2++d3).length:={_,rfl};obtain⟨U3,hU3⟩:∃U3:ac,U3=U2++d3++[.lst (jA shs λ_=>[])]:={_,rfl};rw[←hke,←hU3] at e7;have lp:=bH t1;have k13:∀{i:Nat} {y:au},U1[i]?=some y->U3[i]?=some y:=λe=>by rw[hU3,Hv];exact keep (keep (keep (keep e _) _) _) _
 have l1h:U1.length<=he:=by rw[hhe,Bb];omega
 have l2k:U2.length<=ke:=by rw[hke,Bb];omega
 have lhk:he<U2.length:=bH h2;have ap:Ap 2 3 pa (pa+1):={by omega,by omega,by omega,by omega,by omega};have g0:pZ bt sc shs 1 2 3 c pa (pa+1) he ke U3 [] λ_=>[] :=
  {{k13 b1.ob,k13 b1.sl,k13 b1.tl,k13 b1.tb,b1.ab},k13 p1,k13 t1,by rw[hU3];exact keep (keep h2 _) _,by rw[hU3,hke];exact sI,(λ_ h=>nomatch h),(λs _=>{(λ_ h=>nomatch h),(λ_ h=>nomatch h),.nil,Ao _,(λ_ h=>nomatch h),(λ_ h=>nomatch h)}),.nil,by omega,by omega,by omega,by omega}
 have cut50:pd (ns.map D.int) none (some 50)=(ns.take 50).map .int:=uE ns 50;have gA:pZ bt sc shs 1 2 3 c pa (pa+1) he ke (U3++[.fz ((ns.take 50).map .int)]) [] λ_=>[] :=
  {g0.bk.app _,keep g0.pc _,keep g0.tc _,keep g0.hd _,keep g0.kd _,g0.gt,g0.ok,g0.rn,g0.hc,g0.kb,g0.kp,g0.kt}
 let⟨⟨xs,U4,Ts,GW,Ex,y8,y9,D5,D4,CA,D3,C6⟩,eL,h4,hx⟩:=lF (g:=bD 8) (b:=nL bt) D.int
  (λz:P4 Tl×ac×(Str->P4 En)×Nat×Nat×QI R×QI R×QI R×QI R×QI R×QI R×QI R=>(rl ns shs sc 1 pa (pa+1) z.2.2.2.1 z.2.2.2.2.1 z.2.2.2.2.2.1 z.2.2.2.2.2.2.1 z.2.2.2.2.2.2.2.1 z.2.2.2.2.2.2.2.2.1 z.2.2.2.2.2.2.2.2.2.1 z.2.2.2.2.2.2.2.2.2.2.1 z.2.2.2.2.2.2.2.2.2.2.2,z.2.1))
  (λz rem=>pZ bt sc shs 1 2 3 c pa (pa+1) z.2.2.2.1 z.2.2.2.2.1 z.2.1 z.1 z.2.2.1/\z.1.length+rem.length<=50) (ns.take 50) ([],U3++[.fz ((ns.take 50).map .int)],λ_=>[],he,ke,none,none,none,none,none,none,none) {gA,by simp;omega} (by rintro⟨xs,U,Ts,he,ke,x8,x9,x10,Au,B8,BD,BA⟩ cell rem ⟨h,hn⟩;have hn:xs.length+(rem.length+1)<=50:=hn;have h:pZ bt sc shs 1 2 3 c pa (pa+1) he ke U xs Ts:=h;let⟨x,ν,Us,HL,HG,y9,D5,D4,CA,D3,C6,e,h'⟩:=J9 (ns:=ns) g hs0 ap h ∅ cell x9 x10 Au B8 BD BA;refine{(xs++[x],ν,Us,HL,HG,cS cell,y9,D5,D4,CA,D3,C6),?_,h',by simp;omega};have hg:bD 8 (.v (D.int cell)) (rl ns shs sc 1 pa (pa+1) he ke x8 x9 x10 Au B8 BD BA) U=some (rl ns shs sc 1 pa (pa+1) he ke (some (.v (.int cell))) x9 x10 Au B8 BD BA,U):=rfl;rw[hg,ut];exact e)
 have h4:pZ bt sc shs 1 2 3 c pa (pa+1) GW Ex U4 xs Ts:=h4;have hx:xs.length<=50:=hx;have s8:gM (bI (GA (ae 0) jy (i9 (fK (.int 50))))) (bD 8) (nL bt) (rl ns shs sc 1 pa (pa+1) he ke none none none none none none none) U3=some (.nx (rl ns shs sc 1 pa (pa+1) GW Ex y8 y9 D5 D4 CA D3 C6) U4):=by
  have se1:(U3++[au.lst ((ns.take 50).map .int)]).set U3.length (.fz ((ns.take 50).map .int))=U3++[.fz ((ns.take 50).map .int)]:=dA;have:bI (GA (ae 0) jy (i9 (fK (.int 50)))) (rl ns shs sc 1 pa (pa+1) he ke none none none none none none none) U3=some ((ns.take 50).map .int,U3++[.fz ((ns.take 50).map .int)]):=by push_cast [cut50,sI,se1]
  rw[o0,this,lQ];exact eL
 let⟨U5,c5,e9,b5,c5n,k5⟩:=xm (O:=rl ns shs sc 1 pa (pa+1) GW Ex y8 y9 D5 D4 CA D3 C6) g U4 rfl;have t5:=k5 _ _ h4.tc;have q3:=bH h4.bk.tl;have qc:=bH h4.bk.tb;have qt:=bH h4.tc;let⟨U6,Us,y9',e10,b6,b7,rU,okU⟩:=LK (bt:=bt) (ns:=ns) (sc:=sc) (pa:=pa) (te:=pa+1) (he:=GW) (ke:=Ex) (s:=1) (a:=2) (b:=3) (c:=c) (s2:=U4.length) g h4.gt hx ∅ ∅ ∅ ∅ ∅ c5n y8 y9 D5 D4 CA D3 C6 (Bk.set (U:=U5) (i:=pa+1) (y:=.fz (xs.map bC)) {k5 _ _ h4.bk.ob,k5 _ _ h4.bk.sl,k5 _ _ h4.bk.tl,k5 _ _ h4.bk.tb,h4.bk.ab} ∅ ∅ ∅ ∅) (b5.set ∅ ∅ ∅ ∅);have s10:gM (bI (ae 5)) (bD 9) (lH bt) (rm ns shs sc 1 pa (pa+1) GW Ex y8 y9 D5 D4 CA D3 C6 U4.length) U5=some (.nx (rm ns shs sc 1 pa (pa+1) GW Ex y8 y9' D5 D4 CA D3 C6 U4.length) U6):=by
  have:bI (ae 5) (rm ns shs sc 1 pa (pa+1) GW Ex y8 y9 D5 D4 CA D3 C6 U4.length) U5=some (xs.map bC,U5.set (pa+1) (.fz (xs.map bC))):=by push_cast [t5]
  rw[o0,this,lQ];exact e10
 have lU:∀sh∈shs,(Us sh.nm).length<100:=λsh BV=>by have:=(okU sh BV).ln;omega
 have lT:∀sh∈shs,(Ts sh.nm).length<100:=λsh BV=>by have:=(h4.ok sh BV).ln;omega
 let⟨d7,e11⟩:=l5 (O:=rm ns shs sc 1 pa (pa+1) GW Ex y8 y9' D5 D4 CA D3 C6 U4.length) (j:=15) g b7 lU rfl;let⟨d8,e12⟩:=l5 (O:=rm ns shs sc 1 pa (pa+1) GW Ex y8 y9' D5 D4 CA D3 C6 U4.length) (j:=3) g ((b6.app d7).app [au.dct (bP shs Us)]) lT rfl;have ec:GG (.p (U6++d7).length) (.p (U6++d7++[au.dct (bP shs Us)]++d8).length) (U6++d7++[au.dct (bP shs Us)]++d8++[au.dct (bP shs Ts)])=some (.v (.bl true),U6++d7++[au.dct (bP shs Us)]++d8++[au.dct (bP shs Ts)]):=by have g1:(U6++d7++[au.dct (bP shs Us)]++d8++[au.dct (bP shs Ts)])[(U6++d7).length]?=some (.dct (bP shs Us)):=keep (keep sI _) _;have g2:(U6++d7++[au.dct (bP shs Us)]++d8++[au.dct (bP shs Ts)])[(U6++d7++[au.dct (bP shs Us)]++d8).length]?=some (.dct (bP shs Ts)):=sI;have eq:=Mv (shs:=shs) (Ts:=Us) (Us:=Ts) λs hs=>rU.same h4.rn rfl s hs;rwa[GG,g1,g2,eq,if_true]
 rw[CK,ky s1,ky s2,ky (show aI 3 (jG "Book" bV 2 (af (ae 1) aj)) _ _=some (.nx [some (.v (.fl (ns.map .int))),some (.v (.fl (shs.map bZ))),cS sc,ba 1,none,none,none,none,none,none,none,none,none,none,none,none] U0) by rw[fA,e3];rfl),ky s4,ky s5,
  ky (show aI 6 (dC "Book" "tables" aO 1 (ae 3) aj) _ _=some (.nx [some (.v (.fl (ns.map .int))),some (.v (.fl (shs.map bZ))),cS sc,ba 1,ba pa,ba ((pa+1)),ba he,none,none,none,none,none,none,none,none,none] U2) by rw[fA,e6];rfl),
  ky (show aI 7 _ _ _=some (.nx (rl ns shs sc 1 pa (pa+1) he ke none none none none none none none) U3) by rw[fA,e7];rfl),ky s8,
  ky (show aI 15 _ _ _=some (.nx (rm ns shs sc 1 pa (pa+1) GW Ex y8 y9 D5 D4 CA D3 C6 U4.length) U5) by rw[fA,e9];rfl),ky s10,mE,ja,e11,fF,e12,gf,ec]
 rfl
end LW
structure PySem.W.Fast:Prop where
 (tw10170357802902883645 tw10199218640123169104 tw10245342008400355043 tw10267649397266561808 tw10272943378592347520 tw10274041131963279461 tw10278048542314007927 tw10353210657403337378 tw10383857889000791465 tw1040883390242778425 tw10458170345817516880 tw10469028438738418789 tw10530701357354262632 tw10541368672010563214 tw1064064720043469984 tw10665473901162454376 tw10697693999499467008 tw10770134723619740134 tw10787817135321979842 tw10834486034014306530 tw11001040504250248620 tw11056123226087046093 tw11083107640654271451 tw11111460684707796555 tw11138952517487544248 tw11151912189838377068 tw11170296469692715825 tw1124680084513888008 tw11300695336768964722 tw11324430546905585226 tw11332687713978176488 tw11343386782062226155 tw11366034934865985743 tw11428667255495821321 tw11429907155514111413 tw11453901812064195849 tw11584842332281305966 tw1183733404669010990 tw12053244230446866336 tw12130152092118570158 tw1216510677321335325 tw12167006170406838592 tw12210347352430680065 tw12269167482428836289 tw12312490117705018051 tw12396784008136679987 tw12427689891114155837 tw12431119620604427695 tw12488965616618303133 tw1249850531133261292 tw12499119946173342008 tw12667449713037949843 tw12709678052724542364 tw12741180621167400992 tw12769412952410064824 tw12888562229432248673 tw12986413506638215424 tw12997504496717107515 tw13024530853568561537 tw13055816318361171060 tw13155286485253419361 tw13174666065035895058 tw13216411787706847655 tw132907801927429416 tw13361750589705402995 tw13394745413020816247 tw13493587181052210185 tw13601719578423443273 tw13636094618484809957 tw1365854221767827948 tw13661802091493744990 tw13754082837859275332 tw13804980609831153253 tw14055942923366449645 tw14069699646763841249 tw1412014473560316198 tw14143934029788102836 tw141567632274427305 tw14188377220123597821 tw14392945300288726340 tw14530479314114991486 tw14569853874591752966 tw14610863758752110355 tw14665421912010413704 tw14699739404087231475 tw14765898594164346171 tw1484911784241668849 tw14961574770779516084 tw14986915767465696105 tw15065063565611196087 tw15196229555626263046 tw15230907439364748055 tw15297129779688331471 tw15303815434456992815 tw15380671865555716991 tw15397424014941100608 tw15502645462212464567 tw15704611118692601769 tw15714365823360894748 tw15752455036425808855 tw15781299300867747190 tw15794745702307820779 tw1589107078362057420 tw15912773737216349318 tw15947974504842935345 tw16059643642713085123 tw16096226546805459253 tw16130565000461893784 tw16154016084491707552 tw161954344570033875 tw16199373961501802913 tw1620568846255218 tw16252712929474568288 tw16253305796397105756 tw16321157484391721620 tw16397693724953570916 tw16470726411849691117 tw16511711511626891299 tw16632633181262896817 tw1668754366993020330 tw16706461511664827202 tw16724941097882401524 tw16752383779192161582 tw16758956048412231877 tw16790609154671657201 tw16828482696754898489 tw16915024560515312584 tw17009857415047358058 tw17011158079861020756 tw17022219653916258694 tw17046673857773847027 tw17060626761502704243 tw17084727082043028411 tw17115869326847176623 tw17147564761614794292 tw17173433820193998760 tw1719147645024919770 tw1727542757378967354 tw17343033568890811037 tw17368936601823026196 tw1742677699561909745 tw1746034260518405353 tw17464783088041431129 tw17526538712758386752 tw17558024256997116522 tw17577279759754944407 tw1758502821138838637 tw17606939099578305823 tw17747751578534774121 tw17791382472166741528 tw17864450227266429666 tw17901206299683774192 tw17945006528825827386 tw17966010569249498676 tw18098263538970979742 tw1811857825800980424 tw18125694849502648598 tw18144582095588981102 tw18260173034619258560 tw18366301217237998644 tw18420017463469065792 tw18441140241704361969 tw18446642642385660053 tw1888773851993413742 tw2027779122446782327 tw2077415846145314702 tw2117366456857264566 tw2203982713836531416 tw2236237936107979025 tw2264454806104027712 tw2352759242089741887 tw2442994784627038978 tw2501997669963376481 tw2561130342587650478 tw2579998535381785247 tw2602852290714515251 tw2658735201805900293 tw2874756864770616563 tw2891430725676729647 tw2908727254281314072 tw29218516681458720 tw2934337012568255858 tw2949310683156036788 tw2975298800090417196 tw3038294962834789280 tw305422134449766485 tw3059645333914187758 tw3086291178304696463 tw3108958241365349821 tw3191937354671485310 tw3201359225683141543 tw3253432643167720025 tw3301853294185659128 tw3312907958961397445 tw3351598680393048586 tw3398796979911234884 tw3423055132868994252 tw3435252084000384179 tw3458820216912373433 tw3459721677294198554 tw3506712759359982185 tw3687044521022910645 tw3712342671102287013 tw371720889236664162 tw3788829497178601718 tw3932126657268017950 tw3948209548090875286 tw3998430571903789153 tw3998892678714869927 tw401606599031950718 tw4047742069554736889 tw4052306318534993561 tw4053949574277569914 tw4088388830326426188 tw4103146970449204338 tw4111790079390196218 tw418117403308951521 tw4215335523756705019 tw4244027829489991492 tw4296091500155735407 tw4305969999190061471 tw4461867102279092788 tw4495913990557824839 tw4608914796099279833 tw4613801587755661817 tw4630468079419697882 tw4779434549525560869 tw4789537657583026093 tw4839602361389759022 tw4854547941240023494 tw4887554416546840527 tw4888593507629249263 tw4965829856995044193 tw497232267969251729 tw5025669758314306350 tw5045876113858912526 tw5077898302646372555 tw5105323662406430733 tw5317747136920218725 tw5363002338367078727 tw5451475006726317072 tw5457847957801195179 tw5527136506951624696 tw5591468618812196736 tw5656824450145488208 tw5707010605020950277 tw5707375492563517202 tw5715446398122108740 tw5742471104499442153 tw5793798398213410542 tw5804262600496267379 tw5818002536443717185 tw590527104681705269 tw5906736078345091862 tw5992885493719023650 tw5993890672675592108 tw599783133249864644 tw6025415777574842382 tw6031513041053183007 tw6088218116841041345 tw6110220613284626971 tw6111776206197571977 tw6170428246323133759 tw6215428799984558166 tw6278825141259048468 tw6288299424052667049 tw6319512987613044993 tw6367498672393864544 tw6389183680297144834 tw6440567989966594402 tw6440812547805590199 tw6473518660301307827 tw6492273993345389086 tw6557154851807071605 tw6592229081858661765 tw6686085938503142146 tw6686642542686179042 tw6721311172023072339 tw6801284899088905621 tw6881132363265310616 tw6894565570283406934 tw6921884142105491065 tw6955545890025140379 tw7009371785390483539 tw7066393746818375485 tw7131161462790996380 tw7297366142745691864 tw7310215157559806135 tw7355279380584399748 tw7376206541634541182 tw7495385101352034069 tw753941036389288168 tw7548492869667612685 tw7556955268911014786 tw7569711658189115273 tw7608400888415037678 tw7610259684967875750 tw7634531680567571830 tw7645277750567873504 tw7670344710536838584 tw7691820395474529370 tw7765243783827846013 tw7805556701827094553 tw7823239119680673059 tw7845697745810770523 tw7931650585108733587 tw7953722451044096844 tw8017110022221182453 tw8033165460273974272 tw8064181298239908051 tw8126227506916023889 tw8192580275291046744 tw8338736228551943793 tw8616133049732402397 tw8652034414161208883 tw8745317544883744102 tw8776107734110670504 tw8791390484108502192 tw8851743100453933849 tw8852391816690649366 tw8853555777690526811 tw8859780296321553972 tw8872596739537188137 tw8957217564883865045 tw9011095834521878836 tw9147816462582388470 tw9155376162245100192 tw9224571363673003436 tw9230736054974712574 tw9237099855898748154 tw9240082187912268718 tw9258098632339575032 tw9337061485441139550 tw9354606988884105858 tw9370204427456285680 tw9374981145810461725 tw9390769435125117679 tw9427032302582671010 tw9551545066438543314 tw9572481719245374945 tw9594340323805981301 tw9619652934544574216 tw9801629246322618101 tw9874318181171334329:True)
open PySem.W PyProof.Rows
set_option maxRecDepth 100000 in
set_option maxHeartbeats 0 in
theorem PySem.Challenge.cw_heldwhen_k32_whole_past_stays_holds : PySem.Challenge.rw_heldwhen_k32_whole_past_stays.Holds := by
 w_on; o_law; k_head; (case hw => w_witness2)
 k_fill
 refine L2.zB (l := PySem.Challenge.rw_heldwhen_k32_whole_past_stays) (n := 63) (k := 7) (x := "script") (CX := L2.j7) (sp := fun K => (fun vs H Q E => ∀ b, HW.zt K 1 (LW.t6 b) vs H Q E)) rfl (by decide) rfl ⟨rfl, by decide, by decide⟩ (fun w h Yz => PySem.W.kIn_of Yz) ?F (fun K H a ns hl E2 hS => fun b => HW.IU E2 hS (LW.BF b ns hl)) fun _ _ _ _ z => z
 case F =>
  intro w mg fa h KX G hmg
  refine' LW.JL KX G hmg ?aC ?pg ?hd ?po ?sa ?mk ?kc ?n_shape_list ?n_tellings ?n_tables_now ?a0 ?a1 ?a2 ?a3 ?a4 ?a5 ?a6 ?a7 ?a8 ?a9 ?a10 ?a11 ?a12 ?a13 ?a14 ?a15 ?a16 ?a17 ?a18 ?a19 ?a20 ?a21 ?a22 ?a23 ?a24 ?a25 ?a26 ?a27 ?Jao ?Jap ?Jai ?Jal ?Jam ?Jae ?Jaw ?Jax ?Jaq ?Jar ?Jaj ?z0 ?z1 ?z2 ?z3 ?z4 ?z5 ?z6
  (case aC | pg | hd | po | sa | mk | kc | n_shape_list | n_tellings | n_tables_now => k_is)
  (case a0 | a1 | a2 | a3 | a4 | a5 => exact ⟨_, by k_is, by k_is, _, _, _, _, _, _, _, _, _, by k_is, by k_is, by k_is⟩)
  (case a6 | a7 | a8 | a9 | a10 | a11 | a12 | a13 | a14 | a15 | a16 | a17 | a18 | a19 | a20 | a21 | a22 | a23 | a24 | a25 | a26 | a27 => exact ⟨_, by k_is, _, _, _, _, _, _, _, _, _, by k_is, by k_is, by k_is⟩)
  (case Jao | Jap | Jai | Jal | Jam | Jae | Jaw | Jax | Jaq | Jar | Jaj | z0 | z1 | z2 | z3 | z4 | z5 | z6 => k_is)
