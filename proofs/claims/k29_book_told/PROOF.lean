import PyProof.Rows.All
import Wide.All
import OpenK.AllK
import Wide.FinOn
import Lean
import PyProof.EqAt
import PyProof.EqKinds
import PyProof.TupleCall
import PyProof.IsiH_tuple
import PyProof.NsDelKeeps
import PyProof.FString4
import PyProof.ExcBaseAll.ValueError
import PyProof.ForAny
import KE.KIsAll
import KE.KSortTup
import KE.KLam
import KE.KNestM
import PyProof.StrWalks
import PyProof.SliceStr2
import PyProof.StrBlockI
import KE.KIntText
import PyProof.StrCalls2
import PyProof.StrLawsTight
import PyProof.Rows.FStrParts
import PyProof.Rows.StrInSeq3
import PyProof.TupleKey
import PyProof.IsRules
import PyProof.SumWalkG
import PyProof.EnumFor
import PyProof.EnumStmt
import PyProof.EnumMake
import PyProof.StrBlock2
import PyProof.ZipIter
import PyProof.ListNew
import PyProof.DictIter
import PyProof.DictFindH
import PyProof.ListRange
import PyProof.TupleOfGen
import PyProof.LongRange
import PyProof.DictValues
import KE.KDictList
import KE.KEqDict
import PyProof.P3In
import PySem.Challenge.RW_heldwhen_k29_book_told
local macro_rules | `(tactic| exists $t) => `(tactic| with_unfolding_all exact $t)
local macro_rules | `(tactic| decide) => `(tactic| decide +kernel)
local macro_rules | `(tactic| ac_rfl) => `(tactic| (constructor <;> first | rfl | decide +kernel))
local macro_rules | `({$x:term,$xs:term,*}) => `(⟨$x,$xs,*⟩)
local macro_rules | `(∅) => `(by first|omega|decide +kernel|simp)
local macro_rules | `(‹$x›) => `(by simpa using $x)
local macro_rules | `(tactic| let ⟨$xs,*⟩ := $e) => do
  let rec go (n : Nat) (s : Lean.Syntax) : Lean.MacroM (Lean.TSyntax `rcasesPat) := match n with
    | 0 => Lean.Macro.throwUnsupported
    | n+1 => match s with
      | `(term| ⟨$ys,*⟩) => do
        let zs ← ys.getElems.mapM fun y => do let z ← go n y.raw; `(Lean.Parser.Tactic.rcasesPatLo| $z:rcasesPat)
        `(rcasesPat| ⟨$zs,*⟩)
      | `(term| _) => `(rcasesPat| _)
      | s => `(rcasesPat| $(⟨s⟩):ident)
  let zs ← xs.getElems.mapM fun y => do let z ← go 9 y.raw; `(Lean.Parser.Tactic.rcasesPatLo| $z:rcasesPat)
  `(tactic| obtain ⟨$zs,*⟩ := $e)
local macro_rules | `(tactic| rwa [$rs,*] $[$l:location]?) => do
  let ys ← rs.getElems.mapM fun r => `(Lean.Parser.Tactic.simpLemma| $(⟨r.raw[1]⟩):term)
  `(tactic| simp only [$ys,*] $[$l]?)
set_option Elab.async false
set_option linter.all false
set_option genSizeOf false
set_option genInjectivity false
set_option maxRecDepth 100000
noncomputable section
open PySem PySem.Spec SetTable Builtin.List
abbrev R4.{u}:=@List.{u}
abbrev AA.{u}:=@Option.{u}
abbrev AP:=Shared
abbrev AU:=Value
abbrev Aa:=Addr
abbrev Ad:=Bool
abbrev Aj:=Program
abbrev Al.{u}:=@Array.{u}
abbrev Am:=Heap
abbrev An:=World
abbrev Ar:=Around
abbrev As:=Expr
abbrev B8:=Stmt
abbrev BO:=Obj
def Ac:=@if_neg
def Ae:=@if_pos
def Au:=@absurd
def Av:=@congrArg
namespace Y0
open PyProof.Rows
def Az:=@Option.bind_eq_some_iff
def Ak:=@wpAny_bind
abbrev Ax:=PySem.W.Frag
def Ay:=@wpAny_pure
def BK:=@Heap.get?_push_of_some
def BH:=@List.map_cons
def BR:=@List.length_map
def BL:=@Nat.le_refl
def Bu:=@List.getElem?_append_left
def Bd:=@Heap.get?_push_size
def BQ:=@Heap.lt_size
def BY:=@Option.bind_some
def C0:=@List.getElem?_eq_getElem
def BV:=@List.mem_cons
def Br:=@List.mem_cons_of_mem
def Be:=@List.mem_cons_self
def CA:=@List.getElem?_eq_some_iff
def BX:=@Nat.ne_of_lt
def Bx:=@List.append_assoc
def C7:=@List.getElem?_set_ne
def Bz:=@List.size_toArray
def By:=@List.getElem?_map
def C4:=@Bool.false_eq_true
def CC:=@Nat.lt_of_lt_of_le
def D0:=@Array.getElem?_eq_getElem
def DH:=@List.getElem?_append_right
def CP:=@List.mem_singleton
def Cp:=@List.mem_of_getElem?
def CT:=@wpAny_setState_of
def CK:=@List.length_cons
def D3:=@List.mem_append_right
def Ci:=@List.length_append
def DO:=@Heap.get?_update_other
def DN:=@Option.map_eq_some_iff
def CI:=@decide_eq_false
def Cw:=@wpAny_newObj_type
def Co:=@wpAny_call_entry
def Cf:=@List.nodup_cons
def E9:=@List.getElem?_set_self
def CR:=@wpAny_holding
def EJ:=@Heap.get?_update_self
def Cn:=@Nat.lt_irrefl
def DL:=@List.append_nil
def DK:=@List.map_append
def D2:=@decide_eq_true
def Ca:=@List.mem_map
def Dd:=@List.mem_append
def Et:=@Around.under_plainId
def EI:=@List.pairwise_cons
def Ec:=@Array.length_toList
def EZ:=@List.mem_map_of_mem
def GC:=@List.drop_eq_getElem_cons
def EB:=@List.not_mem_nil
def Cr:=@Nat.zero_le
def J5:=@Array.getD_eq_getD_getElem?
def EA:=@codeAny_builtin
def Fm:=@Array.getElem?_toList
def EM:=@Bool.and_eq_true
def EK:=@List.lookup_cons
def GD:=@wpAny_callSpecial?_slot
def DR:=@Nat.ne_of_gt
def F5:=@Bool.false_ne_true
def E8:=@Heap.size_push
def EH:=@List.nil_append
def D9:=@sizeLine_eq
def F3:=@List.nodup_append
def E7:=@List.any_cons
def Dk:=@Nat.le_trans
def Dj:=@List.map_nil
def EY:=@Option.map_some
def EX:=@List.foldl_cons
def EW:=@PySem.W.kia_one
def Fi:=@PySem.W.mg_none_of
def E6:=@List.map_map
def Fh:=@wpAny_askSetting
def zbn:=@List.getD_eq_getElem?_getD
def Fy:=@Int.toNat_natCast
def J0:=@List.getElem_of_mem
def Fg:=@List.length_nil
def E5:=@wpAny_mono
def Ff:=@plainId_quiet
def IT:=@List.getElem_inj
def IS:=@wpAny_isInstance
def Fe:=@Nat.le_of_lt
def Fd:=@codeAny_mono
def Fc:=@wpAny_typeOf
def zby:=@List.filterMap_cons_some
def zbz:=@List.pairwise_map
def zbA:=@Nat.lt_succ_of_lt
def GB:=@Bool.not_true
def zbC:=@List.length_take
def zbD:=@List.getElem_mem
def J3:=@wpAny_fieldsOf
def J2:=@wpAny_setField
def zbG:=@List.cons_append
def zbH:=@List.find?_cons_of_pos
def zbI:=@List.find?_cons_of_neg
def zbJ:=@wpAny_isOneOf_itemiter
def zbK:=@builtinLookup_eq_fast
def J1:=@wpAny_attempt
def zbM:=@wpAny_dictEntries
def Fj:=@wpAny_rule
def zbO:=@List.pairwise_iff_getElem
def Fz:=@Nat.le_succ
def zbQ:=@List.mem_range
def zbR:=@Nat.lt_succ_self
def zbS:=@Option.getD_some
def zbT:=@List.getElem_map
def zbU:=@List.getElem?_replicate
def zbV:=@wpAny_Call_Name_kw
def zbW:=@List.find?_cons
def zbX:=@wpAny_typeNameOfWhole_itemiter
def zbY:=@wpAny_setField_rec
def zbZ:=@PySem.W.cellsFrom_some
def zb0:=@wpAny_truthy_bool
def zb1:=@wpAny_pyIter_slot
def zb2:=@Nat.lt_trans
def zb3:=@List.getElem?_eq_none
def zb4:=@Nat.zero_add
def zb5:=@wpAny_notOrdered_dict
def zb6:=@List.mem_append_left
def zb7:=@Array.getElem_toList
def zb8:=@List.filter_cons
def zb9:=@PySem.W.mg_of
def zca:=@wpAny_field
def zcb:=@List.filterMap_cons
def zcc:=@wpAny_passesOwn
def zcd:=@typeLookup_type
def zce:=@wpAny_dictEpoch
def zcf:=@Option.isSome_iff_exists
def zcg:=@Option.isSome_some
def zch:=@Nat.lt_of_le_of_lt
def zci:=@List.filterMap_cons_none
def zcj:=@List.set_cons_zero
def zck:=@List.nodup_nil
def zcl:=@List.length_eq_zero_iff
def zcm:=@List.pairwise_singleton
def zcn:=@List.filter_cons_of_pos
def zco:=@List.filter_cons_of_neg
def zcp:=@wpAny_Call_method
def zcq:=@List.drop_of_length_le
def zcr:=@Array.getElem?_eq_none
def zcs:=@Bool.and_true
def zct:=@List.length_drop
def zcu:=@List.any_eq_true
def zcv:=@List.drop_length
def zcw:=@wpAny_specialOf
def zcx:=@List.mem_filter
def zcy:=@List.mem_iff_getElem
def zcz:=@codeAny_of_tree
def zcA:=@codeAny_call_builtin
def zcB:=@wpAny_updateSeq
def zcC:=@List.any_map
def zcD:=@List.eq_nil_of_length_eq_zero
def zcE:=@PySem.W.plainGet_of
def zcF:=@Int.toNat_of_nonneg
def zcG:=@wpAny_seqItems
def zcH:=@PySem.W.callWith_K
def zcI:=@Int.emod_lt_of_pos
def zcJ:=@List.getElem_range
def zcK:=@wpAny_letOwnedTupleGo_items
def zcL:=@wpAny_pyIter_list
def zcM:=@PySem.W.kitx_list
def zcN:=@PySem.W.kitx_dict
def zcO:=@Nat.lt_or_ge
def zcP:=@Heap.size_update
def zcQ:=@List.ext_getElem
def zcR:=@Nat.succ_le_succ
def zcS:=@wpAny_execs_nil
def zcT:=@List.of_mem_zip
def zcU:=@Int.emod_nonneg
def zcV:=@Bool.decide_and
def zcW:=@wpAny_of_eq
end Y0
open Y0
namespace Y1z
abbrev Ta:=R4 (R4 Int)
abbrev Tb:=AU->AP->Prop
abbrev Tc:=R4 (Aa×BO)
abbrev Td:=Str->AA AU
abbrev Te:=R4 AU
abbrev Tf:=R4 Aa
abbrev Tg:=AA AU
abbrev Th:=R4 Int
abbrev Ti:=Al AU
abbrev Tj:=R4 As
abbrev Tk:=R4 B8
abbrev Tn:=R4 Str
end Y1z
open Y1z
namespace L2
open PyProof.Rows
section
variable {prog:Aj}{w:An}{A:Ar}{E:Tb}{s:AP}
def l5 {Q:Int->AP->Prop}(h:Q 0xFCA86420 {s with toks:=s.toks+1}):wpAny (model prog w) A (pyHash .none) Q E s:=by
 have hT:s.TypeIs .none "NoneType":=rfl
 show wpAny _ _ (pyHashByItsType .none) _ _ s
 unfold pyHashByItsType;refine Ak (wpAny_cRoomFor_byValue rfl ?_);refine Ak (zcw hT F.slot_NoneType_hash.lookup ?_);rw[Ac ∅];refine Ak (zcw hT F.slot_NoneType_hash.lookup ?_);rw[Ac ∅]
 show wpAny _ _ (callSpecialIfBoundUnlessNone? .none "__hash__" _ >>= _) Q E s
 refine Ak (wpAny_callSpecialIfBoundUnlessNone?_slot hT F.slot_NoneType_hash
  (Co F.slot_NoneType_hash hT F.entry_NoneType_hash
   (show wpAny _ _ (do ret (←mkInt 0xFCA86420)) _ _ s from wpAny_ret_mkInt ?_) (F.args_NoneType_hash_1 _)))
 show wpAny _ _ (if (decide (-(2:Int) ^ 63<=0xFCA86420)&&decide ((0xFCA86420:Int)<2 ^ 63))=true then _ else _) Q E _
 rw[Ae ∅];exact Ay h
def l6 {Q:Ad->AP->Prop}(h:Q true s):wpAny (model prog w) A (eqBool .none .none) Q E s:=by unfold eqBool;refine CR ?_;rw[Ae ∅];exact Ak (Fj (Ay h))
end
abbrev aE:=Sum Int (AA Str)
noncomputable def lz:aE->AU->Ad
 |.inl k,v=>Value.isInt k v
 |.inr (some x),v=>Value.isStrOf x v
 |.inr none,v=>v == .none
noncomputable def P4 (w:An):aE->Int
 |.inl k=>hashInt k
 |.inr (some x)=>hashStr w x
 |.inr none=>0xFCA86420
theorem bg:∀{k:aE} {v:AU},lz k v=true->(∃i t,k=Sum.inl i/\v=Value.int i t)\/(∃x t,k=Sum.inr (some x)/\v=Value.str x t)\/(k=Sum.inr none/\v=Value.none)
 |.inl i,v,h=>by let⟨t,e⟩:=Value.isInt_shape (k:=i) (v:=v) h;exact .inl {i,t,rfl,e}
 |.inr (some x),v,h=>by let⟨t,e⟩:=Value.isStrOf_shape (x:=x) (v:=v) h;exact .inr (.inl {x,t,rfl,e})
 |.inr none,v,h=>.inr (.inr {rfl,eq_of_beq h})
def JAg (i:Int)(t:Tok):lz (.inl i) (.int i t)=true:=by simp[lz,Value.isInt]
def zZ (x:Str)(t:Tok):lz (.inr (some x)) (.str x t)=true:=by simp[lz,Value.isStrOf]
def JAf:lz (.inr none) .none=true:=by simp[lz]
def KQ (a b:Int):decide ((Sum.inl a:aE)=Sum.inl b)=(a == b):=by
 by_cases e:a=b
 ·subst e;simp
 ·have h:¬ (Sum.inl a:aE)=Sum.inl b:=λq=>e (Sum.inl.inj q);rw[CI h];exact(beq_eq_false_iff_ne.mpr e).symm
def KP (a b:Str):decide ((Sum.inr (some a):aE)=Sum.inr (some b))=decide (a=b):=by
 by_cases e:a=b
 ·subst e;simp
 ·have h:¬ (Sum.inr (some a):aE)=Sum.inr (some b):=λq=>e (Option.some.inj (Sum.inr.inj q));rw[CI h,CI e]
noncomputable def bi (prog:Aj)(w:An):PySem.KeyKind prog w aE where
 is:=lz
 hash:=P4 w
 inj:=λv a b ha hb=>by
  rcases bg ha with⟨i,t,rfl,rfl⟩|⟨x,t,rfl,rfl⟩|⟨rfl,rfl⟩
  ·rcases bg hb with⟨j,u,rfl,e⟩|⟨y,u,rfl,e⟩|⟨rfl,e⟩
   ·injection e with e1 _;rw[e1]
   ·exact nomatch e
   ·exact nomatch e
  ·rcases bg hb with⟨j,u,rfl,e⟩|⟨y,u,rfl,e⟩|⟨rfl,e⟩
   ·exact nomatch e
   ·injection e with e1 _;rw[e1]
   ·exact nomatch e
  ·rcases bg hb with⟨j,u,rfl,e⟩|⟨y,u,rfl,e⟩|⟨rfl,e⟩
   ·exact nomatch e
   ·exact nomatch e
   ·rfl
 byValue:=λk v h=>by
  rcases bg h with⟨i,t,rfl,rfl⟩|⟨x,t,rfl,rfl⟩|⟨rfl,rfl⟩ <;> rfl
 pyHash:=λhv h=>by
  rcases bg hv with⟨i,t,rfl,rfl⟩|⟨x,t,rfl,rfl⟩|⟨rfl,rfl⟩
  ·exact wpAny_pyHash_int h
  ·exact wpAny_pyHash_str h
  ·exact l5 h
 eqBool:=λhu hv h=>by
  rcases bg hu with⟨i,t,rfl,rfl⟩|⟨x,t,rfl,rfl⟩|⟨rfl,rfl⟩
  ·rcases bg hv with⟨j,u,rfl,rfl⟩|⟨y,u,rfl,rfl⟩|⟨rfl,rfl⟩
   ·rw[KQ] at h;exact wpAny_eqBool_int h
   ·exact SeqAt.EqAt.int_str i t y u _ _ _ _ ‹h›
   ·exact SeqAt.EqAt.int_none i t _ _ _ _ ‹h›
  ·rcases bg hv with⟨j,u,rfl,rfl⟩|⟨y,u,rfl,rfl⟩|⟨rfl,rfl⟩
   ·exact SeqAt.EqAt.str_int x t j u _ _ _ _ ‹h›
   ·rw[KP] at h;exact wpAny_eqBool_str h
   ·exact SeqAt.EqAt.str_none x t _ _ _ _ ‹h›
  ·rcases bg hv with⟨j,u,rfl,rfl⟩|⟨y,u,rfl,rfl⟩|⟨rfl,rfl⟩
   ·exact SeqAt.EqAt.none_int j u _ _ _ _ ‹h›
   ·exact SeqAt.EqAt.none_str y u _ _ _ _ ‹h›
   ·exact l6 ‹h›
 «strs»:=λk x t v h=>by
  rcases bg h with⟨i,u,rfl,e⟩|⟨y,u,rfl,e⟩|⟨rfl,e⟩
  ·exact nomatch e
  ·injection e with e1 _
   subst e1;cases v <;> rfl
  ·exact nomatch e
def vf (prog:Aj)(w:An)(i:Int)(t:Tok):(bi prog w).is (.inl i) (.int i t)=true:=JAg i t
def ve (prog:Aj)(w:An)(x:Str)(t:Tok):(bi prog w).is (.inr (some x)) (.str x t)=true:=zZ x t
set_option genInjectivity true in
inductive V where
 |non|bl (b:Bool)|int (i:Int)|str (x:Str)|byt (b:Array UInt8)|flt (b:UInt64)|ref (a:Addr)|ty (n:String)
 deriving DecidableEq
def aP:V->AU->Prop
 |.non,u=>u=Value.none
 |.bl b,u=>u=Value.bool b
 |.int i,u=>∃t,u=Value.int i t
 |.str x,u=>∃t,u=Value.str x t
 |.byt b,u=>∃t,u=Value.bytes b t
 |.flt b,u=>∃t,u=Value.float b t
 |.ref a,u=>u=Value.ref a
 |.ty n,u=>u=Value.type n
abbrev aM:R4 V->R4 AU->Prop:=Paired aP
def aM.length {xs:R4 V}{us:Te}(r:aM xs us):xs.length=us.length:=Paired.length r
theorem aM.get:∀{xs:R4 V} {us:Te} {i:Nat} {x:V},aM xs us->xs[i]?=some x->∃u,us[i]?=some u/\aP x u
 |_,_,_,_,.nil,e=>by simp at e
 |_,_,0,_,.cons r _,e=>by simp at e;subst e;exact{_,rfl,r}
 |_,_,i+1,x,.cons _ t,e=>by let⟨u,h1,h2⟩:=aM.get (i:=i) (x:=x) t ‹e›;exact{u,by simpa using h1,h2}
theorem aM.set {x:V}{u:AU}(r:aP x u):∀{xs:R4 V} {us:Te} (i:Nat),aM xs us->aM (xs.set i x) (us.set i u)
 |_,_,_,.nil=>.nil
 |_,_,0,.cons _ t=>.cons r t
 |_,_,i+1,.cons q t=>.cons q (aM.set r i t)
theorem aM.append:∀{xs ys:R4 V} {us ws:Te},aM xs us->aM ys ws->aM (xs++ys) (us++ws)
 |_,_,_,_,.nil,s=>s
 |_,_,_,_,.cons r t,s=>.cons r (aM.append t s)
theorem aM.take:∀{xs:R4 V} {us:Te} (n:Nat),aM xs us->aM (xs.take n) (us.take n)
 |_,_,0,_=>.nil
 |_,_,_+1,.nil=>.nil
 |_,_,n+1,.cons r t=>.cons r (aM.take n t)
theorem aM.drop:∀{xs:R4 V} {us:Te} (n:Nat),aM xs us->aM (xs.drop n) (us.drop n)
 |_,_,0,r=>r
 |_,_,_+1,.nil=>.nil
 |_,_,n+1,.cons _ t=>aM.drop n t
def lq:AA V->AA AU->Prop
 |some v,some u=>aP v u
 |none,none=>True
 |_,_=>False
def KV {κ:Type}:R4 (κ×V)->R4 (κ×AU)->Prop:=Paired λ(p:κ×V) (q:κ×AU)=>p.1=q.1/\aP p.2 q.2
noncomputable def kV:aE->V
 |.inl i=>.int i
 |.inr (some x)=>.str x
 |.inr none=>.non
inductive HO where
 |lst (xs:List V)
 |tup (xs:List V)
 |dK (Ab:List (aE×V))|dT (Ab:List (List aE×V))
 |set (S:Int->Bool) (n:Nat)
 |ins (C dx:Addr) (fs:List (Str×V))
 |own (x:Addr)
 |xd (fs:List (Str×V))
 |met (f x:Addr)
 |rng (lo hi:Int)
 |frz (o:Obj) (u:HO)
 |tbl (ps:Ti)
 |ext (φ:Heap->Prop)
abbrev Hp:=Aa->AA HO
noncomputable def upd (H:Hp)(a:Aa)(o:HO):Hp:=λb=>if b=a then some o else H b
def aN {H:Hp}{a:Aa}{o:HO}:upd H a o a=some o:=by unfold upd;rw[Ae rfl]
def aq {H:Hp}{a b:Aa}{o:HO}(h:b≠a):upd H a o b=H b:=by unfold upd;rw[Ac h]
def Ic {H:Hp}{a b:Aa}{o u:HO}(h:H a=some o)(h':H b=some u)(d:o≠u):a≠b:=by intro e;subst e;rw[h] at h';exact d (Option.some.inj h')
def gQ {H:Hp}{a b:Aa}{o:HO}(h:H a=some o)(h':H b=none):a≠b:=by intro e;subst e;rw[h] at h';cases h'
def jC (h:Am)(a:Aa)(items:Ti):Prop:=IsTup h a items/\∀o,h.get? a=some o->o.dict=none
def jC.new (h:Am)(items:Ti):jC (h.push {cls:=.type "tuple",data:=.seq items}) h.objs.size items:={IsTup.new _ _,λo e=>by rw[Bd _ rfl] at e;cases e;rfl}
section
variable (P:Aj)(w:An)
def be (H:Hp)(h:Am)(a:Aa):HO->Prop
 |.lst xs=>xs.length<=sizeLine/\∃(its:Te) (n:Nat),aM xs its/\h.get? a=some {cls:=.type "list",data:=.seq its.toArray n}
 |.tup xs=>xs.length<=sizeLine/\∃its:Te,aM xs its/\jC h a its.toArray
 |.dK Ab=>Ab.length<=sizeLine/\(a == sysModules)=false/\∃vs,KV Ab vs/\h.DictOf (bi P w) a vs
 |.dT Ab=>Ab.length<=sizeLine/\(a == sysModules)=false/\∃xs:R4 (R4 aE×Aa×AU),
   Paired (λ(p:R4 aE×V) (q:R4 aE×Aa×AU)=>p.1=q.1/\H q.2.1=some (.tup (p.1.map kV))/\aP p.2 q.2.2) Ab xs /\
   ∃o es ep,h.get? a=some o/\o.ExactDict/\o.data=.dict es ep/\es.toList=xs.map (entryOfKey (tupleKind (bi P w)))/\(xs.map (·.1)).Nodup
 |.set S n=>h.SetOf (intKind P w) a S n
 |.ins C dx fs=>H dx=some (.own a)/\fs.length<=1000/\dx≠a/\h.get? a=some (PySem.W.instObj C dx) /\
   ∃mA,h.Ns1 dx mA/\(∀f,lq (fs.lookup f) (mA f))/\PySem.Within mA (fs.map (·.1))
 |.own _=>∃o,h.get? a=some o
 |.xd fs=>∃mA,h.Ns1 a mA/\∀f,lq (fs.lookup f) (mA f)
 |.rng lo hi=>∃t u v,h.get? a=some {cls:=.type "range",data:=.fields #[.int lo t,.int hi u,.int 1 v]}
 |.frz o u=>h.get? a=some o/\be H h a u
 |.tbl ps=>h.get? a=some {cls:=.none,data:=.fields ps}
 |.met f x=>h.get? a=some (PySem.W.methodObj (.ref f) (.ref x))
 |.ext φ=>φ h/\(∃o,h.get? a=some o)/\∀h1 h2:Am,φ h1->(∀o,h1.get? a=some o->h2.get? a=some o)->φ h2
def f7 (H:Hp)(h:Am):Prop:=∀a o,H a=some o->be P w H h a o
end
section
variable {P:Aj}{w:An}{H H':Hp}{h h':Am}{a:Aa}{o:HO}
theorem be.lt (x:be P w H h a o):a<h.objs.size:=by
 cases o with
 |lst xs=>let⟨_,_,_,_,e⟩:=x;exact BQ e
 |tup xs=>let⟨_,_,_,p⟩:=x;exact p.1.lt
 |dK Ab=>let⟨_,_,_,_,o,_,_,e,_⟩:=x;exact BQ e
 |dT Ab=>let⟨_,_,_,_,o,_,_,e,_⟩:=x;exact BQ e
 |set S n=>let⟨o,_,_,_,e,_⟩:=x;exact BQ e
 |ins C dx fs=>let⟨_,_,_,e,_⟩:=x;exact BQ e
 |own y=>let⟨_,e⟩:=x;exact BQ e
 |xd fs=>let⟨_,⟨_,_,_,e,_⟩,_⟩:=x;exact BQ e
 |rng lo hi=>let⟨_,_,_,e⟩:=x;exact BQ e
 |frz ob u=>let⟨e,_⟩:=x;exact BQ e
 |tbl ps=>exact BQ (show h.get? a=some _ from x)
 |met f y=>exact BQ (show h.get? a=some _ from x)
 |ext φ=>let⟨_,⟨_,e⟩,_⟩:=x;exact BQ e
theorem Paired.mapP {Z β:Type}{F G:Z->β->Prop}{l₁:R4 Z}{l₂:R4 β}(h:Paired F l₁ l₂)(f:∀a b,F a b->G a b):Paired G l₁ l₂:=by
 induction h with
 |nil=>exact .nil
 |cons r t ih=>exact .cons (f _ _ r) ih
theorem be.stay (x:be P w H h a o)(k:∀b u,(b=a\/H b=some (.own a))->h.get? b=some u->h'.get? b=some u)
  (ho:∀b,H b=some (.own a)->H' b=some (.own a)) (ht:∀b xs,H b=some (.tup xs)->H' b=some (.tup xs)):be P w H' h' a o:=by
 induction o with
 |lst xs=>let⟨z,its,n,r,e⟩:=x;exact{z,its,n,r,k _ _ (.inl rfl) e}
 |tup xs=>let⟨z,its,r,⟨ob,e,c⟩,dn⟩:=x;exact{z,its,r,{ob,k _ _ (.inl rfl) e,c},λo q=>by rw[k _ _ (.inl rfl) e] at q;cases q;exact dn _ e}
 |dK Ab=>let⟨z,y,vs,r,ob,es,ep,e,c⟩:=x;exact{z,y,vs,r,ob,es,ep,k _ _ (.inl rfl) e,c}
 |dT Ab=>
  let⟨z,y,xs,r,ob,es,ep,e,c⟩:=x;exact{z,y,xs,Paired.mapP r λp q z=>{z.1,ht _ _ z.2.1,z.2.2},ob,es,ep,k _ _ (.inl rfl) e,c}
 |set S n=>let⟨ob,es,ep,t,e,c⟩:=x;exact{ob,es,ep,t,k _ _ (.inl rfl) e,c}
 |ins C dx fs=>
  let⟨d,z,ne,e,mA,⟨od,es,ep,e2,c⟩,r⟩:=x;exact{ho _ d,z,ne,k _ _ (.inl rfl) e,mA,{od,es,ep,k _ _ (.inr d) e2,c},r}
 |own y=>let⟨ob,e⟩:=x;exact{ob,k _ _ (.inl rfl) e}
 |xd fs=>let⟨mA,⟨od,es,ep,e,c⟩,r⟩:=x;exact{mA,{od,es,ep,k _ _ (.inl rfl) e,c},r}
 |rng lo hi=>let⟨t,u,v,e⟩:=x;exact{t,u,v,k _ _ (.inl rfl) e}
 |frz ob u ih=>let⟨e,q⟩:=x;exact{k _ _ (.inl rfl) e,ih q}
 |tbl ps=>
  have e:h.get? a=some {cls:=.none,data:=.fields ps}:=x
  show h'.get? a=some {cls:=.none,data:=.fields ps}
  exact k a _ (.inl rfl) e
 |met f y=>
  have e:h.get? a=some (PySem.W.methodObj (.ref f) (.ref y)):=x
  show h'.get? a=some (PySem.W.methodObj (.ref f) (.ref y))
  exact k a _ (.inl rfl) e
 |ext φ=>let⟨p,⟨o,e⟩,st⟩:=x;exact{st _ _ p λo q=>k _ _ (.inl rfl) q,{o,k _ _ (.inl rfl) e},st}
def f7.lt (x:f7 P w H h)(e:H a=some o):a<h.objs.size:=(x a o e).lt
theorem f7.fresh (x:f7 P w H h)(e:h.objs.size<=a):H a=none:=by
 cases q:H a with
 |none=>rfl
 |some u=>exact Au (CC (x.lt q) e) (Cn _)
def f7.kept (x:f7 P w H h)(k:∀b u,h.get? b=some u->h'.get? b=some u):f7 P w H h':=λa o e=>
 (x a o e).stay (λb u _ q=>k b u q) (λ_ q=>q) λ_ _ q=>q
def f7.laid (x:f7 P w H h)(k:∀b u,h.get? b=some u->h'.get? b=some u)(hp:h.objs.size<=a)(new:be P w (upd H a o) h' a o):f7 P w (upd H a o) h':=λb u e=>by
 have hn:=x.fresh hp;by_cases hb:b=a
 ·subst hb;rw[aN] at e;cases e;exact new
 ·rw[aq hb] at e;exact(x b u e).stay (λc v _ q=>k c v q) (λc q=>by rw[aq (gQ q hn)];exact q) λc xs q=>by rw[aq (gQ q hn)];exact q
end
def Rd (H:Hp)(a:Aa)(u:HO):Prop:=H a=some u\/∃o,H a=some (.frz o u)
def Rd.ok {H:Hp}{h:Am}{a:Aa}{u:HO}(r:Rd H a u)(x:f7 P w H h):be P w H h a u:=by
 rcases r with r|⟨o,r⟩
 ·exact x a u r
 ·let⟨_,q⟩:=x a _ r;exact q
def OB:AA HO->Prop
 |some (.lst _)=>True
 |some (.dK _)=>True
 |some (.dT _)=>True
 |some (.set _ _)=>True
 |some (.ins _ _ _)=>True
 |some (.ext _)=>True
 |_=>False
section
variable {P:Aj}{w:An}{H:Hp}{h h':Am}{x e:Aa}{o':HO}
def f7.write (ok:f7 P w H h)(mu:OB (H x))(he:e=x\/H e=some (.own x))(k:∀b u,b≠e->h.get? b=some u->h'.get? b=some u)(heo:∃u,h'.get? e=some u)
  (new:be P w (upd H x o') h' x o'):f7 P w (upd H x o') h':=λb u q=>by
 have nown:∀c y,H c=some (.own y)->c≠x:=λc y r z=>by subst z;rw[r] at mu;exact mu
 have ntup:∀c xs,H c=some (.tup xs)->c≠x:=λc xs r z=>by subst z;rw[r] at mu;exact mu
 by_cases hb:b=x
 ·subst hb;rw[aN] at q;cases q;exact new
 ·rw[aq hb] at q
  by_cases Jp:b=e
  ·have q':H b=some (.own x):=by
    rcases he with z|z
    ·exact Au (Jp.trans z) hb
    ·rw[Jp];exact z
   rw[q] at q';cases q';let⟨v,hv⟩:=heo;exact{v,by rw[Jp];exact hv}
  ·refine(ok b u q).stay (λc v hc r=>k c v ?_ r) (λc r=>by rw[aq (nown c b r)];exact r) λc xs r=>by rw[aq (ntup c xs r)];exact r
   rcases hc with rfl|hc
   ·exact Jp
   ·rintro rfl
    rcases he with z|z
    ·exact nown c b hc z
    ·rw[hc] at z;cases z;exact hb rfl
end
structure Un (fs ex:Tf)(H H':Hp)(h h':Heap):Prop where
 keep:∀b o,h.get? b=some o->H b=none->b∉fs->b∉ex->h'.get? b=some o
 slot:∀b o,h.get? b=some o->H b=none->b∈fs->b∉ex->∃sl,h'.get? b=some {o with slots:=sl}
 free:∀b o,h.get? b=some o->H b=none->b∉ex->H' b=none
 there:∀b o,h.get? b=some o->b∉ex->∃o',h'.get? b=some o'
 tups:∀b xs,H b=some (.tup xs)->H' b=some (.tup xs)
 frzs:∀b o u,H b=some (.frz o u)->H' b=some (.frz o u)
 tbls:∀b ps,H b=some (.tbl ps)->∃more,H' b=some (.tbl (ps++more))
section
variable {fs ex:Tf}{H H1:Hp}{h h1 h':Am}{a x e:Aa}{o:HO}
def Un.any (u:Un fs ex H H1 h h1){b:Aa}{ob:BO}(q:h.get? b=some ob)(n:H b=none)(hx:b∉ex):∃sl,h1.get? b=some {ob with slots:=sl}:=by
 by_cases hb:b∈fs
 ·exact u.slot b ob q n hb hx
 ·exact{ob.slots,u.keep b ob q n hb hx}
def Un.kept (k:∀b u,h.get? b=some u->h'.get? b=some u):Un fs ex H H h h' :=
 {λb ob q _ _ _=>k b ob q,λb ob q _ _ _=>{ob.slots,k b ob q},λ_ _ _ n _=>n,λb ob q _=>{ob,k b ob q},λ_ _ q=>q,λ_ _ _ q=>q,λ_ ps q=>{#[],by rw[q];simp}}
def Un.refl:Un fs ex H H h h:=Un.kept λ_ _ q=>q
def Un.laid (k:∀b u,h.get? b=some u->h'.get? b=some u)(hp:h.objs.size<=a)(hn:H a=none):Un fs ex H (upd H a o) h h' where
 keep:=λb u q _ _ _=>k b u q
 slot:=λb u q _ _ _=>{u.slots,k b u q}
 free:=λb u q n _=>by rw[aq (BX (CC (BQ q) hp))];exact n
 there:=λb u q _=>{u,k b u q}
 tups:=λb xs q=>by rw[aq (gQ q hn)];exact q
 frzs:=λb u xs q=>by rw[aq (gQ q hn)];exact q
 tbls:=λb ps q=>{#[],by rw[aq (gQ q hn),q];simp}
def Un.write (mu:OB (H x))(he:e=x\/H e=some (.own x))(k:∀b u,b≠e->h.get? b=some u->h'.get? b=some u)(heo:∃u,h'.get? e=some u):Un fs ex H (upd H x o) h h':=by
 have hx:∀b,H b=none->b≠x:=λb n z=>by subst z;rw[n] at mu;exact mu
 have hb:∀b,H b=none->b≠e:=λb n z=>by
  subst z;rcases he with r|r
  ·exact hx b n r
  ·rw[n] at r;cases r
 have hm:∀b u,H b=some u->¬ OB (some u)->b≠x:=λb u q nm z=>by subst z;rw[q] at mu;exact nm mu
 refine{λb u q n _ _=>k b u (hb b n) q,λb u q n _ _=>{u.slots,k b u (hb b n) q},λb u q n _=>by rw[aq (hx b n)];exact n,λb u q _=>?_,
  λb xs q=>by rw[aq (hm b _ q λz=>z)];exact q,λb u xs q=>by rw[aq (hm b _ q λz=>z)];exact q,λb ps q=>{#[],by rw[aq (hm b _ q λz=>z),q];simp}}
 by_cases Jp:b=e
 ·subst Jp;exact heo
 ·exact{u,k b u Jp q}
end
noncomputable def OH (h:Am)(H:Hp):Tf:=(List.range h.objs.size).filter λa=>(H a).isSome
noncomputable def tK (h:Am)(H:Hp):Am:=PySem.W.hideAll h (OH h H)
def JAl (h:Am)(H:Hp):(tK h H).objs.size=h.objs.size:=PySem.W.hideAll_size _ _
def JC2 {h:Am}{H:Hp}{b:Aa}{o:BO}(e:h.get? b=some o)(n:H b=none):(tK h H).get? b=some o :=
 PySem.W.hideAll_get _ e λhm=>by have q:(H b).isSome=true:=(zcx.mp hm).2;rw[n] at q;simp at q
theorem JE6 {h:Am}{H:Hp}{b:Aa}{o:BO}(e:(tK h H).get? b=some o):h.get? b=some o/\H b=none:=by
 have e':h.get? b=some o:=PySem.W.of_hideAll (OH h H) e;refine{e',?_}
 cases q:H b with
 |none=>rfl
 |some x=>
  have hm:b∈OH h H:=zcx.mpr {zbQ.mpr (BQ e'),by simp[q]};have z:(tK h H).get? b=none:=PySem.W.hideAll_none (OH h H) hm;rw[z] at e;cases e
noncomputable def GF (g h:Am)(L:Aa):Tc:=(List.range h.objs.size).filterMap λa=>if a=L\/(g.get? a).isSome=true then none else (h.get? a).map λo=>(a,o)
noncomputable def rest (g h:Am)(L d:Aa):Tc:=(GF g h L).filter λp=>decide (p.1≠d)
structure Mod (K:Ax)(mg:Td)(base:Heap):Prop where
 kin:K.In base
 glob:base.Ns mainGlobals mg
 blt:∃mb,base.Ns builtinsNs mb/\∀x:Str,x≠"__name__"->mb x=bootBuiltins x
 nolimit:base.NoLimit
structure Cx where
 prog:Program
 w:World
 K:Ax
 mg:Td
 base:Heap
 A:Around
 N:Tn
 s₀:Shared
 H₀:Hp
 env:Env
 outer:List Env
 stack:List Env
 ex:Tf
 fn:Str->Bool
 calm:Bool
 pn:Tc
 xe:Tb
noncomputable def Ao (l:R4 Env):Tf:=l.filterMap (·.frame)
abbrev Cx.fs (X:Cx):Tf:=Ao X.outer
def Pw (sc:Scope)(x:Str):Prop:=sc.names.lookup x=some .local\/sc.names.lookup x=some .cell\/sc.names.lookup x=some .free
def GM (sc:Scope)(x:Str):Prop:=sc.names.lookup x=some .local\/sc.names.lookup x=some .cell
def Re (env:Env)(h:Am)(m:Td)(x:Str)(u:AU):Prop :=
 (env.kindOf x=some .local/\m x=some u)\/((env.kindOf x=some .cell\/env.kindOf x=some .free)/\∃c,env.cells.lookup x=some c/\h.IsCell c (some u))
structure Cx.Ok (X:Cx):Prop where
 mod:Mod X.K X.mg X.base
 kind:X.env.scope.kind=.function
 glob:X.env.globals=mainGlobals
 blt:X.env.builtins=builtinsNs
 above:X.s₀.heap.objs.size<=X.env.locals
 inj:∀x y c,X.env.cells.lookup x=some c->X.env.cells.lookup y=some c->x=y
 has:∀x,(X.env.kindOf x=some .cell\/X.env.kindOf x=some .free)->∃c,X.env.cells.lookup x=some c
 cab:∀x c,X.fn x=true->X.env.cells.lookup x=some c->X.s₀.heap.objs.size<=c
 hd:X.calm=true->X.A.handled=none
 frames:X.A.frames=some X.stack
 stk:X.stack=X.outer\/(X.stack=X.env::X.outer/\X.env.frame=some X.env.locals)
 exf:∀b∈X.ex,b≠X.env.locals/\∀x c,X.env.cells.lookup x=some c->c≠b
 bs:∀b o,X.base.get? b=some o->X.s₀.heap.get? b=some o/\X.H₀ b=none
 bsz:X.base.objs.size<=X.s₀.heap.objs.size
 noex:∀b o,X.base.get? b=some o->b∉X.ex
 exfs:∀b∈X.ex,b∉X.fs
 funs:X.s₀.heap.FunFrames X.base X.outer
 frf:∀b∈X.fs,X.H₀ b=none
structure az (X:Cx)(AB:Tc)(Y:List (Option V))(H:Hp)(s:Shared):Prop where
 ok:X.Ok
 os:s.os=X.s₀.os
 bare:AllBare s.gens
 base:Un X.fs X.ex X.H₀ H X.s₀.heap s.heap
 loc:∃m,s.heap.Ns X.env.locals m/\∀(i:Nat) (x:Str) (v:V),X.N[i]?=some x->Y[i]?=some (some v)->Pw X.env.scope x->∃u,aP v u/\Re X.env s.heap m x u
 cell:∀x c,X.env.cells.lookup x=some c->∃v,s.heap.IsCell c v
 free:H X.env.locals=none
 freeC:∀x c,X.env.cells.lookup x=some c->H c=none
 pin:∀p∈X.pn++AB,s.heap.get? p.1=some p.2/\H p.1=none/\p.1≠X.env.locals/\p.1∉X.fs/\∀v,p.2.data≠.cell v
 hok:f7 X.prog X.w H s.heap
 len:Y.length=X.N.length
section
variable {X:Cx}{AB:Tc}{Y:R4 (AA V)}{H H':Hp}{s:AP}{h':Am}
def Cx.Ok.nofr (ok:X.Ok){b:Aa}{o:BO}(e:X.base.get? b=some o):b∉X.fs:=λhb=>by have:=(ok.funs.mem hb).1;rw[e] at this;cases this
def az.bs (I:az X AB Y H s):∀b o,X.base.get? b=some o->s.heap.get? b=some o/\H b=none:=λb o e=>
 {I.base.keep b o (I.ok.bs b o e).1 (I.ok.bs b o e).2 (I.ok.nofr e) (I.ok.noex b o e),I.base.free b o (I.ok.bs b o e).1 (I.ok.bs b o e).2 (I.ok.noex b o e)}
def az.bk (I:az X AB Y H s):∀b o,X.base.get? b=some o->s.heap.get? b=some o:=λb o e=>(I.bs b o e).1
def az.mod (I:az X AB Y H s):Mod X.K X.mg X.base:=I.ok.mod
def az.kIn (I:az X AB Y H s):X.K.In s.heap:=I.ok.mod.kin.keeps I.bk
def az.lt (I:az X AB Y H s):X.env.locals<s.heap.objs.size:=let ⟨_,hn,_⟩:=I.loc;hn.lt
def az.sz (I:az X AB Y H s):X.s₀.heap.objs.size<=s.heap.objs.size:=Dk I.ok.above (Fe I.lt)
def az.nofs (I:az X AB Y H s){a:Aa}(h:s.heap.objs.size<=a):a∉X.fs:=λhb=>by let⟨_,o,ho,_⟩:=I.ok.funs.mem hb;exact Au (CC (BQ ho) (Dk I.sz h)) (Cn _)
def az.cne (I:az X AB Y H s):∀x c,X.env.cells.lookup x=some c->c≠X.env.locals:=λx c e z=>by let⟨v,o,ho,hd⟩:=I.cell x c e;let⟨m,⟨o',es,ep,DV,hd',_⟩,_⟩:=I.loc;rw[z,DV] at ho;cases ho;rw[hd'] at hd;cases hd
def az.funs (I:az X AB Y H s):s.heap.FunFrames X.base X.outer:=by
 have all:∀(l:R4 Env),(∀b∈Ao l,b∈X.fs)->X.s₀.heap.FunFrames X.base l->s.heap.FunFrames X.base l:=by
  intro l;induction l with
  |nil=>intro _ _;trivial
  |cons env r ih=>
   intro hs hl;let⟨hk,⟨L,o,hf,hn,ho,hd⟩,hr⟩:=hl;have hL:L∈X.fs:=hs L (by unfold Ao;rw[zcb,hf];exact Be);let⟨sl,e⟩:=I.base.slot L o ho (I.ok.frf L hL) hL λz=>I.ok.exfs L z hL;exact{hk,{L,_,hf,hn,e,hd},ih (λb hb=>hs b (by unfold Ao;rw[zcb,hf];exact Br _ hb)) hr}
 exact all X.outer (λ_ hb=>hb) I.ok.funs
def az.stack (I:az X AB Y H s):s.heap.FunFrames X.base X.stack:=by
 rcases I.ok.stk with e|⟨e,hf⟩
 ·rw[e];exact I.funs
 ·rw[e];let⟨m,hn,_⟩:=I.loc;refine .cons (by rw[I.ok.kind];decide) hf hn ?_ I.funs;exact Heap.get?_none_of_le (Dk I.ok.bsz I.ok.above)
def az.stkSub (I:az X AB Y H s):∀b∈Ao X.stack,b∈X.env.locals::X.fs:=λb hb=>by
 rcases I.ok.stk with e|⟨e,hf⟩
 ·rw[e] at hb;exact Br _ hb
 ·rw[e] at hb;unfold Ao at hb;rw[zcb,hf] at hb;exact hb
def az.stkFree (I:az X AB Y H s):∀b∈Ao X.stack,H b=none:=λb hb=>by
 rcases BV.mp (I.stkSub b hb) with e|hb
 ·rw[e];exact I.free
 ·let⟨_,o,ho,_⟩:=I.ok.funs.mem hb;exact I.base.free b o ho (I.ok.frf b hb) λz=>I.ok.exfs b z hb
def az.step {g':Al GenState}{t':Nat}{d':Drawn}{ch:Tf}(I:az X AB Y H s)
  (Fw:∀b∈ch,(b∈X.ex\/X.s₀.heap.objs.size<=b)/\b≠X.env.locals/\(∀x c,X.env.cells.lookup x=some c->c≠b)/\∀p∈X.pn++AB,p.1≠b)
  (keep:∀b o,b≠X.env.locals->b∉X.fs->b∉ch->s.heap.get? b=some o->H b=none->h'.get? b=some o)
  (slot:∀b o,b≠X.env.locals->b∈X.fs->b∉ch->s.heap.get? b=some o->H b=none->∃sl,h'.get? b=some {o with slots:=sl}) (free:∀b o,b∉ch->s.heap.get? b=some o->H b=none->H' b=none)
  (there:∀b o,b∉ch->s.heap.get? b=some o->∃o',h'.get? b=some o')
  (tups:∀b xs,H b=some (.tup xs)->H' b=some (.tup xs)) (frzs:∀b o u,H b=some (.frz o u)->H' b=some (.frz o u)) (tbls:∀b ps,H b=some (.tbl ps)->∃more,H' b=some (.tbl (ps++more)))
  (ns:∀m,s.heap.Ns X.env.locals m->h'.Ns X.env.locals m) (hok:f7 X.prog X.w H' h') (hg:AllBare g') :
  az X AB Y H' {s with heap:=h',gens:=g',drawn:=d',toks:=t'}:=by
 have neL:∀b o,X.s₀.heap.get? b=some o->b≠X.env.locals:=λb o e=>BX (CC (BQ e) I.ok.above)
 have neC:∀b o,X.s₀.heap.get? b=some o->b∉X.ex->b∉ch:=λb o e hx hb=>by
  rcases (Fw b hb).1 with z|z
  ·exact hx z
  ·exact Au (CC (BQ e) z) (Cn _)
 have cellK:∀x c,X.env.cells.lookup x=some c->∀v,s.heap.IsCell c v->h'.IsCell c v:=λx c e v ⟨o,ho,hd⟩=>by
  have nch:c∉ch:=λz=>(Fw c z).2.2.1 x c e rfl
  by_cases hc:c∈X.fs
  ·let⟨sl,q⟩:=slot c o (I.cne x c e) hc nch ho (I.freeC x c e)
   exact{_,q,hd}
  ·exact{o,keep c o (I.cne x c e) hc nch ho (I.freeC x c e),hd}
 refine{I.ok,I.os,hg,{λb o e n hb hx=>?_,λb o e n hb hx=>?_,λb o e n hx=>?_,λb o e hx=>?_,λb xs e=>tups b xs (I.base.tups b xs e),λb o xs e=>frzs b o xs (I.base.frzs b o xs e),λb ps e=>?_},?_,λx c e=>?_,?_,λx c e=>?_,λp hp=>?_,hok,I.len}
 ·exact keep b o (neL b o e) hb (neC b o e hx) (I.base.keep b o e n hb hx) (I.base.free b o e n hx)
 ·let⟨sl,e1⟩:=I.base.slot b o e n hb hx
  let⟨sl',e2⟩:=slot b _ (neL b o e) hb (neC b o e hx) e1 (I.base.free b o e n hx);exact{sl',e2}
 ·let⟨o',e1⟩:=I.base.there b o e hx
  exact free b o' (neC b o e hx) e1 (I.base.free b o e n hx)
 ·let⟨o',e1⟩:=I.base.there b o e hx
  exact there b o' (neC b o e hx) e1
 ·let⟨m1,e1⟩:=I.base.tbls b ps e
  let⟨m2,e2⟩:=tbls b _ e1;exact{m1++m2,by rw[e2,Array.append_assoc]}
 ·let⟨m,hn,hl⟩:=I.loc
  refine{m,ns m hn,λi x v e1 e2 e3=>?_};let⟨u,r,l⟩:=hl i x v e1 e2 e3;refine{u,r,?_};rcases l with l|⟨k,c,e,z⟩
  ·exact .inl l
  ·exact .inr {k,c,e,cellK x c e _ z}
 ·let⟨v,z⟩:=I.cell x c e
  exact{v,cellK x c e v z}
 ·let⟨m,⟨o,_,_,ho,_⟩,_⟩:=I.loc
  exact free _ o (λz=>(Fw _ z).2.1 rfl) ho I.free
 ·let⟨v,o,ho,hd⟩:=I.cell x c e
  exact free c o (λz=>(Fw c z).2.2.1 x c e rfl) ho (I.freeC x c e)
 ·let⟨e,n,ne,nf,d⟩:=I.pin p hp
  have nch:p.1∉ch:=λz=>(Fw p.1 z).2.2.2 p hp rfl;exact{keep p.1 p.2 ne nf nch e n,free p.1 p.2 nch e n,ne,nf,d}
def az.un {t':Nat}(I:az X AB Y H s)(u:Un X.fs [] H H' s.heap h')(hok:f7 X.prog X.w H' h'):az X AB Y H' {s with heap:=h',toks:=t'}:=by let⟨m,⟨o,es,ep,ho,r⟩,_⟩:=id I.loc;let⟨sl,hL⟩:=u.any ho I.free ∅;exact I.step (g':=s.gens) (d':=s.drawn) (ch:=[]) (λ_ z=>nomatch z) (λb o _ hb _ e n=>u.keep b o e n hb ∅) (λb o _ hb _ e n=>u.slot b o e n hb ∅) (λb o _ e n=>u.free b o e n ∅) (λb o _ e=>u.there b o e ∅) u.tups u.frzs u.tbls (λm' hm=>by let⟨o',BZ,ep',DV,r'⟩:=hm;rw[ho] at DV;cases DV;exact{_,BZ,ep',hL,r'}) hok I.bare
def az.call {g':Al GenState}{t':Nat}{d':Drawn}{ch:Tf}(I:az X AB Y H s)(u:Un (Ao X.stack) ch H H' s.heap h')(hok:f7 X.prog X.w H' h')(hg:AllBare g')
  (Fw:∀b∈ch,(b∈X.ex\/X.s₀.heap.objs.size<=b)/\b≠X.env.locals/\(∀x c,X.env.cells.lookup x=some c->c≠b)/\∀p∈X.pn++AB,p.1≠b) :
  az X AB Y H' {s with heap:=h',gens:=g',drawn:=d',toks:=t'}:=by
 let⟨m,⟨o,es,ep,ho,r⟩,_⟩:=id I.loc;let⟨sl,hL⟩:=u.any ho I.free λz=>(Fw _ z).2.1 rfl
 exact I.step (ch:=ch) Fw (λb o hL hb hc e n=>u.keep b o e n (λz=>(BV.mp (I.stkSub b z)).elim hL hb) hc) (λb o _ _ hc e n=>u.any e n hc) (λb o hc e n=>u.free b o e n hc) (λb o hc e=>u.there b o e hc) u.tups u.frzs u.tbls (λm' hm=>by
  let⟨o',BZ,ep',DV,r'⟩:=hm;rw[ho] at DV;cases DV
  exact{_,BZ,ep',hL,r'}) hok hg
def az.turned {t':Nat}{it:Aa}(I:az X AB Y H s)(k:∀b o,b≠it->s.heap.get? b=some o->h'.get? b=some o)(hn:H it=none)(hL:it≠X.env.locals)
  (h1:it∈X.ex\/X.s₀.heap.objs.size<=it) (h2:∀x c,X.env.cells.lookup x=some c->c≠it) (h3:∀p∈X.pn++AB,p.1≠it):az X AB Y H {s with heap:=h',toks:=t'}:=by
 have nit:∀b u,H b=some u->b≠it:=λb u e z=>by rw[z,hn] at e;cases e
 refine I.step (g':=s.gens) (d':=s.drawn) (ch:=[it]) (λb hb=>?_) (λb o _ _ hc e _=>k b o (λz=>hc (by simp[z])) e) (λb o _ _ hc e _=>{o.slots,k b o (λz=>hc (by simp[z])) e}) (λ_ _ _ _ n=>n)
  (λb o hc e=>{o,k b o (λz=>hc (by simp[z])) e}) (λ_ _ e=>e) (λ_ _ _ e=>e) (λb ps e=>{#[],by rw[e];simp}) (λm hm=>?_) (λb u e=>?_) I.bare
 ·have e:b=it:=by simpa using hb
  subst e;exact{h1,hL,h2,h3}
 ·let⟨o,es,ep,ho,r⟩:=hm
  exact{o,es,ep,k _ o (Ne.symm hL) ho,r}
 ·refine(I.hok b u e).stay (λc v hc q=>k c v ?_ q) (λ_ q=>q) λ_ _ q=>q
  rcases hc with z|z
  ·rw[z];exact nit b u e
  ·exact nit c _ z
def az.tok (I:az X AB Y H s)(t:Nat):az X AB Y H {s with toks:=t}:=I.un (h':=s.heap) (t':=t) Un.refl I.hok
def az.kept {t':Nat}(I:az X AB Y H s)(k:∀b u,s.heap.get? b=some u->h'.get? b=some u):az X AB Y H {s with heap:=h',toks:=t'}:=I.un (Un.kept k) (I.hok.kept k)
def az.laid {a:Aa}{o:HO}{t':Nat}(I:az X AB Y H s)(k:∀b u,s.heap.get? b=some u->h'.get? b=some u)(hp:s.heap.objs.size<=a)(new:be X.prog X.w (upd H a o) h' a o) :
  az X AB Y (upd H a o) {s with heap:=h',toks:=t'}:=I.un (Un.laid k hp (I.hok.fresh hp)) (I.hok.laid k hp new)
def az.write {x e:Aa}{o:HO}{t':Nat}(I:az X AB Y H s)(mu:OB (H x))(he:e=x\/H e=some (.own x))(k:∀b u,b≠e->s.heap.get? b=some u->h'.get? b=some u)(heo:∃u,h'.get? e=some u)
  (new:be X.prog X.w (upd H x o) h' x o):az X AB Y (upd H x o) {s with heap:=h',toks:=t'}:=I.un (Un.write mu he k heo) (I.hok.write mu he k heo new)
def az.pins_of {J6:Tc}(I:az X AB Y H s)(h:∀p∈J6,s.heap.get? p.1=some p.2/\H p.1=none/\p.1≠X.env.locals/\p.1∉X.fs/\∀v,p.2.data≠.cell v):az X J6 Y H s :=
 {I.ok,I.os,I.bare,I.base,I.loc,I.cell,I.free,I.freeC,λp hp=>(Dd.mp hp).elim (λz=>I.pin p (zb6 _ z)) (h p),I.hok,I.len}
def vd {N:Tn}(hN:N.Nodup){i j:Nat}{x:Str}(a:N[i]?=some x)(b:N[j]?=some x):i=j:=by let⟨h1,e1⟩:=CA.mp a;let⟨h2,e2⟩:=CA.mp b;exact(IT hN).mp (e1.trans e2.symm)
def rJ {M:Model}{A:Ar}{E:Tb}{i:Nat}{x:Str}{v:V}{u:AU}{Q:Unit->AP->Prop}(I:az X AB Y H s)(hN:X.N.Nodup)(hi:X.N[i]?=some x)(hx:GM X.env.scope x)(r:aP v u)
  (h:∀s',az X AB (Y.set i (some v)) H s'->(∃a,Heap.SameBut a s.heap s'.heap/\(a=X.env.locals\/X.env.cells.lookup x=some a))->Q () s') (hf:X.fn x=true\/X.env.scope.names.lookup x=some .local:=by first|exact .inl rfl|exact .inr rfl|assumption):wpAny M A (storeName X.env x u) Q E s:=by
 let⟨m,hn,hl⟩:=id I.loc
 have hcls:(X.env.scope.kind == .class || (X.env.scope.kind == .module&&X.env.locals != X.env.globals))=false:=by rw[I.ok.kind];rfl
 have hiY:i<Y.length:=by rw[I.len];exact(CA.mp hi).1
 have cne:=I.cne
 have tracked:∀{a:Aa} {h':Am},(∃o,s.heap.get? a=some o/\H a=none)->Heap.SameBut a s.heap h'->f7 X.prog X.w H h':=λ{a h'} ha hs b ob e=>by
  let⟨_,_,JE⟩:=ha;refine(I.hok b ob e).stay (λc w' hc q=>(hs.2 c ?_).trans q) (λ_ q=>q) λ_ _ q=>q;rintro rfl;rcases hc with rfl|hc
  ·rw[JE] at e;cases e
  ·rw[JE] at hc;cases hc
 rcases hx with hk|hk
 ·refine wpAny_storeName_local hk hn (λh' Fu hs=>?_) hcls
  let⟨oL,_,_,FD,_⟩:=id hn;refine h _ {I.ok,I.os,I.bare,{λb o e n hb hx=>?_,λb o e n hb hx=>?_,I.base.free,λb o e hx=>?_,I.base.tups,I.base.frzs,I.base.tbls},{_,Fu,λj y v' e1 e2 e3=>?_},λy c e=>?_,I.free,I.freeC,λp hp=>?_,tracked {oL,FD,I.free} hs,by simpa using I.len} {_,hs,.inl rfl}
  ·exact(hs.2 b (BX (CC (BQ e) I.ok.above))).trans (I.base.keep b o e n hb hx)
  ·let⟨sl,e1⟩:=I.base.slot b o e n hb hx
   exact{sl,(hs.2 b (BX (CC (BQ e) I.ok.above))).trans e1}
  ·let⟨o',e1⟩:=I.base.there b o e hx
   exact{o',(hs.2 b (BX (CC (BQ e) I.ok.above))).trans e1}
  ·by_cases hj:j=i
   ·subst hj
    rw[hi] at e1;cases e1;rw[E9 hiY] at e2;cases e2;exact{u,r,.inl {hk,by simp}}
   ·rw[C7 (Ne.symm hj)] at e2
    let⟨u',r',q⟩:=hl j y v' e1 e2 e3;refine{u',r',?_};rcases q with⟨k,e⟩|⟨k,c,e,z⟩
    ·refine .inl {k,?_}
     have:y≠x:=λe=>hj (vd hN e1 (e ▸ hi));simp[this,e]
    ·exact .inr {k,c,e,z.sameBut hs (cne y c e)}
  ·let⟨w',z⟩:=I.cell y c e
   exact{w',z.sameBut hs (cne y c e)}
  ·let⟨e,n,ne,nf,d⟩:=I.pin p hp
   exact{(hs.2 p.1 ne).trans e,n,ne,nf,d}
 ·have hfn:X.fn x=true:=by
   rcases hf with z|z
   ·exact z
   ·rw[z] at hk;cases hk
  let⟨c,hc⟩:=I.ok.has x (.inl hk);let⟨w',z⟩:=I.cell x c hc;refine wpAny_storeName_cell I.ok.kind hk hc z (λh' JG hs=>?_);let⟨oc,hoc,hocd⟩:=id z;refine h {s with heap:=h'} {I.ok,I.os,I.bare,{λb o e n hb hx=>?_,λb o e n hb hx=>?_,I.base.free,λb o e hx=>?_,I.base.tups,I.base.frzs,I.base.tbls},{m,hn.sameBut hs (Ne.symm (cne x c hc)),λj y v' e1 e2 e3=>?_},λy c' e=>?_,I.free,I.freeC,λp hp=>?_,tracked {oc,hoc,I.freeC x c hc} hs,by simpa using I.len} {c,hs,.inr hc}
  ·exact(hs.2 b (BX (CC (BQ e) (I.ok.cab x c hfn hc)))).trans (I.base.keep b o e n hb hx)
  ·let⟨sl,e1⟩:=I.base.slot b o e n hb hx
   exact{sl,(hs.2 b (BX (CC (BQ e) (I.ok.cab x c hfn hc)))).trans e1}
  ·let⟨o',e1⟩:=I.base.there b o e hx
   exact{o',(hs.2 b (BX (CC (BQ e) (I.ok.cab x c hfn hc)))).trans e1}
  ·by_cases hj:j=i
   ·subst hj
    rw[hi] at e1;cases e1;rw[E9 hiY] at e2;cases e2;exact{u,r,.inr {.inl hk,c,hc,JG}}
   ·rw[C7 (Ne.symm hj)] at e2
    let⟨u',r',q⟩:=hl j y v' e1 e2 e3;refine{u',r',?_};rcases q with q|⟨k,c',e,z'⟩
    ·exact .inl q
    ·refine .inr {k,c',e,z'.sameBut hs ?_}
     rintro rfl;exact hj (vd hN e1 (I.ok.inj _ _ _ e hc ▸ hi))
  ·by_cases hcc:c'=c
   ·subst hcc;exact{_,JG}
   ·let⟨w2,z2⟩:=I.cell y c' e
    exact{w2,z2.sameBut hs hcc}
  ·let⟨e,n,ne,nf,d⟩:=I.pin p hp
   refine{(hs.2 p.1 ?_).trans e,n,ne,nf,d};intro q;rw[q,hoc] at e;have q':oc=p.2:=Option.some.inj e;exact d w' (by rw[←q'];exact hocd)
def eB {M:Model}{A:Ar}{E:Tb}{i:Nat}{x:Str}{v:V}{u:AU}{Q:Unit->AP->Prop}(I:az X AB Y H s)(hN:X.N.Nodup)(hi:X.N[i]?=some x)(hx:GM X.env.scope x)(r:aP v u)
  (h:∀s',az X AB (Y.set i (some v)) H s'->Q () s') (hf:X.fn x=true\/X.env.scope.names.lookup x=some .local:=by first|exact .inl rfl|exact .inr rfl|assumption):wpAny M A (storeName X.env x u) Q E s :=
 rJ I hN hi hx r (λs' I' _=>h s' I') hf
def az.call' {s':AP}{ch:Tf}(I:az X AB Y H s)(ho:s'.os=s.os)(u:Un (Ao X.stack) ch H H' s.heap s'.heap)(hok:f7 X.prog X.w H' s'.heap)(hg:AllBare s'.gens)
  (Fw:∀b∈ch,(b∈X.ex\/X.s₀.heap.objs.size<=b)/\b≠X.env.locals/\(∀x c,X.env.cells.lookup x=some c->c≠b)/\∀p∈X.pn++AB,p.1≠b):az X AB Y H' s':=by
 let⟨h',g',d',t',o'⟩:=s';have e:o'=s.os:=ho;subst e;exact I.call (g':=g') (t':=t') (d':=d') u hok hg Fw
end
abbrev XK:=AU->AA Aa->Hp->Prop
abbrev St:=R4 (AA V)
abbrev VK:=V->Hp->Prop
abbrev TE:=St->Hp->VK->Prop
abbrev TT:=St->Hp->(Ad->Hp->Prop)->Prop
abbrev TA:=St->Hp->(R4 V->Hp->Prop)->Prop
structure gB where
 nx:St->Hp->Prop
 rt:VK
 bk:St->Hp->Prop:=λ_ _=>False
 ct:St->Hp->Prop:=λ_ _=>False
abbrev TS:=gB->St->Hp->Prop
def EP (X:Cx)(AB:Tc)(Y:St)(Q:VK)(u:AU)(s':AP):Prop:=∃v H',az X AB Y H' s'/\aP v u/\Q v H'
def TP (X:Cx)(AB:Tc)(Y:St)(Q:Ad->Hp->Prop)(b:Ad)(s':AP):Prop:=∃H',az X AB Y H' s'/\Q b H'
def JAd (X:Cx)(AB:Tc)(Y:St)(Q:R4 V->Hp->Prop)(us:Te)(s':AP):Prop:=∃vs H',az X AB Y H' s'/\aM vs us/\Q vs H'
def SP (X:Cx)(AB:Tc)(D:gB)(f:Flow)(s':AP):Prop :=
 match f with
 |.next=>∃Y' H',az X AB Y' H' s'/\D.nx Y' H'
 |.brk=>∃Y' H',az X AB Y' H' s'/\D.bk Y' H'
 |.cont=>∃Y' H',az X AB Y' H' s'/\D.ct Y' H'
 |.ret u=>∃v Y' H',az X AB Y' H' s'/\aP v u/\D.rt v H'
def PE (X:Cx)(e:As)(t:TE):Prop :=
 ∀(AB:Tc) (s:AP) (Y:St) (H:Hp) (Q:VK),az X AB Y H s->t Y H Q->wpAny (model X.prog X.w) X.A (eval e X.env) (EP X AB Y Q) X.xe s
def PT (X:Cx)(e:As)(t:TT):Prop :=
 ∀(AB:Tc) (s:AP) (Y:St) (H:Hp) (Q:Ad->Hp->Prop),az X AB Y H s->t Y H Q->wpAny (model X.prog X.w) X.A (isTrue e X.env (eval e X.env)) (TP X AB Y Q) X.xe s
def PW (X:Cx)(e:As)(t:TT):Prop :=
 ∀(whole:Sem AU) (AB:Tc) (s:AP) (Y:St) (H:Hp) (Q:Ad->Hp->Prop),az X AB Y H s->t Y H Q->wpAny (model X.prog X.w) X.A (isTrue e X.env whole) (TP X AB Y Q) X.xe s
def PW.pt {t:TT}(h:PW X e t):PT X e t:=h _
def PA (X:Cx)(es:Tj)(t:TA):Prop :=
 ∀(pos:Pos) (AB:Tc) (s:AP) (Y:St) (H:Hp) (Q:R4 V->Hp->Prop),az X AB Y H s->t Y H Q->wpAny (model X.prog X.w) X.A (spliced (backTo pos (starEach es X.env))) (JAd X AB Y Q) X.xe s
def PS (X:Cx)(st:B8)(t:TS):Prop :=
 ∀(AB:Tc) (s:AP) (Y:St) (H:Hp) (D:gB),az X AB Y H s->t D Y H->wpAny (model X.prog X.w) X.A (exec st X.env) (SP X AB D) X.xe s
def oG (X:Cx)(st:Tk)(t:TS):Prop :=
 ∀(AB:Tc) (s:AP) (Y:St) (H:Hp) (D:gB),az X AB Y H s->t D Y H->wpAny (model X.prog X.w) X.A (execs st X.env) (SP X AB D) X.xe s
def cP {Z:Type}{t:Sem Z}{Q Q':Z->AP->Prop}{M:Model}{E:Tb}{s:AP}(h:wpAny M A t Q E s)(hQ:∀a s,Q a s->Q' a s):wpAny M A t Q' E s:=E5 h hQ λ_ _ x=>x
section
variable {X:Cx}
def MD (i:Nat):TE:=λY H Q=>∃v,Y[i]?=some (some v)/\Q v H
def tC (v:V):TE:=λ_ H Q=>Q v H
def Kk {i:Nat}{x:Str}(hN:X.N[i]?=some x)(hv:Pw X.env.scope x)(hd:(x == ("__debug__" : Str))=false:=by decide)(FV:(x == ("__classdict__" : Str))=false:=by decide):PE X (.Name x pos) (MD i):=by
 intro AB s Y H Q I h;let⟨v,e,h⟩:=h;let⟨m,hn,hl⟩:=I.loc;let⟨u,r,l⟩:=hl i x v hN e hv;have fin:EP X AB Y Q u s:={v,H,I,r,h};rcases l with⟨hk,hm⟩|⟨hk,c,hc,JF⟩
 ·exact wpAny_Name (wpAny_loadName_local I.ok.kind hk hn hm fin) hd
 ·rcases hk with hk|hk
  ·exact wpAny_Name (wpAny_loadName_cell I.ok.kind hk hc JF fin) hd
  ·exact wpAny_Name (wpAny_loadName_free I.ok.kind hk hc JF fin FV) hd
def Ko {i j pos}:PE X (.Constant (.int i) j pos) (tC (.int i)):=λ_ _ _ H _ I h=>wpAny_Constant_int {.int i,H,I.tok _,{_,rfl},h}
def ND {b j pos}:PE X (.Constant (.bool b) j pos) (tC (.bl b)):=λ_ _ _ H _ I h=>Constant_bool {.bl b,H,I,rfl,h}
def wY {j pos}:PE X (.Constant .none j pos) (tC .non):=λ_ _ _ H _ I h=>Constant_none {.non,H,I,rfl,h}
def Kl {x j pos}:PE X (.Constant (.str x) j pos) (tC (.str x)):=λ_ _ _ H _ I h=>Calls.Constant_str {.str x,H,I.tok _,{_,rfl},h}
def Gl (X:Cx)(x:Str):Prop:=X.env.kindOf x=some .globalImplicit
def tu {E:Tb}{s:AP}{H:Hp}{x:Str}{u:AU}{pos:Pos}{Q:Tb}(I:az X AB Y H s)(hg:Gl X x)(hm:X.mg x=some u)(h:Q u s)
  (hd:(x == ("__debug__" : Str))=false:=by decide):wpAny (model X.prog X.w) X.A (eval (.Name x pos) X.env) Q E s :=
 Calls.Name_function_global I.ok.kind hg (Calls.loadGlobal_global (by rw[I.ok.glob];exact I.mod.glob.keeps I.bk) hm h) hd
def p9 {E:Tb}{s:AP}{H:Hp}{x:Str}{u:AU}{pos:Pos}{Q:Tb}(I:az X AB Y H s)(hg:Gl X x)(hm:X.mg x=none)(hv:bootBuiltins x=some u)(h:Q u s)
  (hn:x≠"__name__":=by decide) (hd:(x == ("__debug__" : Str))=false:=by decide):wpAny (model X.prog X.w) X.A (eval (.Name x pos) X.env) Q E s:=by
 let⟨mb,h1,h2⟩:=I.mod.blt;exact Calls.Name_function_global I.ok.kind hg (Calls.loadGlobal_builtin (by rw[I.ok.glob];exact I.mod.glob.keeps I.bk) hm (by rw[I.ok.blt];exact h1.keeps I.bk) ((h2 x hn).trans hv) h) hd
def Fk {x:Str}{v:V}{u:AU}(hg:Gl X x)(hm:X.mg x=some u)(r:aP v u)(hd:(x == ("__debug__" : Str))=false:=by decide):PE X (.Name x pos) (tC v) :=
 λ_ _ _ H _ I h=>tu I hg hm {v,H,I,r,h} hd
def JEx {x:Str}{v:V}{u:AU}(hg:Gl X x)(hm:X.mg x=none)(hv:bootBuiltins x=some u)(r:aP v u)(hn:x≠"__name__":=by decide)(hd:(x == ("__debug__" : Str))=false:=by decide):PE X (.Name x pos) (tC v) :=
 λ_ _ _ H _ I h=>p9 I hg hm hv {v,H,I,r,h} hn hd
variable {a b:As}{ta tb:TE}{pos:Pos}
def tB (t:TE):TT:=λY H Q=>t Y H λx H1=>∃c,x=.bl c/\Q c H1
variable {tA tB':TT}{rest:Tj}
def MN (t u:TT):TT:=λY H Q=>t Y H λc H1=>if c=true then u Y H1 Q else Q false H1
def Rz (t u:TT):TT:=λY H Q=>t Y H λc H1=>if c=true then Q true H1 else u Y H1 Q
def MI (t:TT):TT:=λY H Q=>t Y H λc H1=>Q (!c) H1
theorem JDb (ha:PT X a tA):PW X (.BoolOp .And [a] pos) tA:=by
 intro wh AB s Y H Q I h;refine isTrue_and (cP (ha AB s Y H Q I h) λc s1 e=>?_)
 cases c with
 |true=>exact isTrue_and_nil e
 |false=>exact e
theorem JFy (ha:PT X a tA):PW X (.BoolOp .Or [a] pos) tA:=by
 intro wh AB s Y H Q I h;refine isTrue_or (cP (ha AB s Y H Q I h) λc s1 e=>?_)
 cases c with
 |false=>exact isTrue_or_nil e
 |true=>exact e
theorem JFz (ha:PT X a tA)(hb:PW X (.BoolOp .And (b::rest) pos) tB'):PW X (.BoolOp .And (a::b::rest) pos) (MN tA tB'):=by
 intro wh AB s Y H Q I h;refine isTrue_and (cP (ha AB s Y H _ I h) λc s1 hh=>?_);let⟨H1,I1,q1⟩:=hh
 cases c with
 |true=>exact hb wh AB s1 Y H1 Q I1 q1
 |false=>exact{H1,I1,q1}
theorem Ny (ha:PT X a tA)(hb:PW X (.BoolOp .Or (b::rest) pos) tB'):PW X (.BoolOp .Or (a::b::rest) pos) (Rz tA tB'):=by
 intro wh AB s Y H Q I h;refine isTrue_or (cP (ha AB s Y H _ I h) λc s1 hh=>?_);let⟨H1,I1,q1⟩:=hh
 cases c with
 |true=>exact{H1,I1,q1}
 |false=>exact hb wh AB s1 Y H1 Q I1 q1
def Kd (ha:PT X a tA):PT X (.UnaryOp .Not a pos) (MI tA):=by intro AB s Y H Q I h;exact isTrue_not (ha AB s Y H (λc H1=>Q (!c) H1) I h)
def HB (ta tb:TE):TE:=λY H Q=>ta Y H λx H1=>∃c,x=.bl c/\if c=true then tb Y H1 Q else Q (.bl false) H1
def MH (ta tb:TE):TE:=λY H Q=>ta Y H λx H1=>∃c,x=.bl c/\if c=true then Q (.bl true) H1 else tb Y H1 Q
def Hw (ta:TE):TE:=λY H Q=>ta Y H λx H1=>∃c,x=.bl c/\Q (.bl (!c)) H1
def Km {op}{t:TE}(h:PE X a t):PE X (.BoolOp op [a] pos) t:=λAB s Y H Q I hw=>BoolOp_one (h AB s Y H Q I hw)
theorem Ks (ha:PE X a ta)(hb:PE X (.BoolOp .And (b::rest) pos) tb):PE X (.BoolOp .And (a::b::rest) pos) (HB ta tb):=by
 intro AB s Y H Q I h;refine BoolOp_and (cP (ha AB s Y H _ I h) λv s1 hh=>?_);let⟨x,H1,I1,r1,q1⟩:=hh;let⟨c,rfl,q1⟩:=q1;cases r1;refine zb0 ?_
 cases c with
 |true=>exact hb AB s1 Y H1 Q I1 q1
 |false=>exact{.bl false,H1,I1,rfl,q1}
theorem NC (ha:PE X a ta)(hb:PE X (.BoolOp .Or (b::rest) pos) tb):PE X (.BoolOp .Or (a::b::rest) pos) (MH ta tb):=by
 intro AB s Y H Q I h;refine BoolOp_or (cP (ha AB s Y H _ I h) λv s1 hh=>?_);let⟨x,H1,I1,r1,q1⟩:=hh;let⟨c,rfl,q1⟩:=q1;cases r1;refine zb0 ?_
 cases c with
 |false=>exact hb AB s1 Y H1 Q I1 q1
 |true=>exact{.bl true,H1,I1,rfl,q1}
def Kn (ha:PE X a ta):PE X (.UnaryOp .Not a pos) (Hw ta):=by intro AB s Y H Q I h;refine UnaryOp_ (cP (ha AB s Y H _ I h) λv s1 hh=>?_);let⟨x,H1,I1,r1,q1⟩:=hh;let⟨c,rfl,q1⟩:=q1;cases r1;exact not_of (zb0 {.bl (!c),H1,I1,rfl,q1})
def RA (t:TT)(ta tb:TE):TE:=λY H Q=>t Y H λc H1=>if c=true then ta Y H1 Q else tb Y H1 Q
theorem JCg {c:As}(hc:PT X c tA)(ha:PE X a ta)(hb:PE X b tb):PE X (.IfExp c a b pos) (RA tA ta tb):=by
 intro AB s Y H Q I h;refine wpAny_IfExp (cP (hc AB s Y H _ I h) λd s1 hh=>?_);let⟨H1,I1,q1⟩:=hh
 cases d with
 |true=>exact ha AB s1 Y H1 Q I1 q1
 |false=>exact hb AB s1 Y H1 Q I1 q1
end
def iM (K:Ax)(H:Hp)(a:Aa)(xs:R4 V):Prop :=
 Rd H a (.lst xs) \/
  ∃(o:BO) (its:Ti) (n:Nat),K.lookup a=some o/\o.cls=.type "list"/\(o.dict=none/\o.slots = #[])/\o.data=.seq its n/\its.size<=sizeLine/\aM xs its.toList
def gY (K:Ax)(H:Hp)(a:Aa)(xs:R4 V):Prop :=
 Rd H a (.tup xs) \/
  ∃(o:BO) (its:Ti) (n:Nat),K.lookup a=some o/\o.cls=.type "tuple"/\o.dict=none/\o.data=.seq its n/\its.size<=sizeLine/\aM xs its.toList
noncomputable def Q5:AU->AA V
 |.none=>some .non
 |.bool b=>some (.bl b)
 |.int i _=>some (.int i)
 |.str x _=>some (.str x)
 |.bytes b _=>some (.byt b)
 |.float b _=>some (.flt b)
 |.ref a=>some (.ref a)
 |.type n=>some (.ty n)
 |_=>none
theorem aP.abs {x:V}{u:AU}(r:aP x u):Q5 u=some x:=by
 cases x with
 |non=>cases r;rfl
 |bl _=>cases r;rfl
 |int _=>let⟨t,rfl⟩:=r;rfl
 |str _=>let⟨t,rfl⟩:=r;rfl
 |byt _=>let⟨t,rfl⟩:=r;rfl
 |flt _=>let⟨t,rfl⟩:=r;rfl
 |ref _=>cases r;rfl
 |ty _=>cases r;rfl
def aP.inj {x y:V}{u:AU}(r:aP x u)(q:aP y u):x=y:=Option.some.inj (r.abs.symm.trans q.abs)
theorem aM.inj {xs ys:R4 V}{us:Te}(h:aM xs us):aM ys us->xs=ys:=by
 induction h generalizing ys with
 |nil=>intro q;cases q;rfl
 |cons r t ih=>intro q;cases q with|cons r' t'=>rw[r.inj r',ih t']
section
variable {X:Cx}{AB:Tc}{Y:St}{H:Hp}{s:AP}{a:Aa}{xs ys:R4 V}
def iM.of {K:Ax}(h:H a=some (.lst xs)):iM K H a xs:=.inl (.inl h)
def gY.of {K:Ax}(h:H a=some (.tup xs)):gY K H a xs:=.inl (.inl h)
def az.list (I:az X AB Y H s)(h:iM X.K H a xs):∃its:Te,aM xs its/\PlainL s.heap a its.toArray/\xs.length<=sizeLine:=by
 rcases h with h|⟨o,its,n,hk,hc,hd,hs,hz,r⟩
 ·let⟨z,its,n,r,e⟩:=h.ok I.hok;exact{its,r,{_,n,e,rfl,rfl,rfl},z}
 ·refine{its.toList,r,{o,n,I.kIn a o hk,hc,hd.1,by simpa using hs},?_};have e:=r.length;rwa[Ec] at e;omega
def az.tuple (I:az X AB Y H s)(h:gY X.K H a xs):∃its:Te,aM xs its/\IsTup s.heap a its.toArray/\xs.length<=sizeLine:=by
 rcases h with h|⟨o,its,n,hk,hc,hn,hs,hz,r⟩
 ·let⟨z,its,r,p⟩:=h.ok I.hok;exact{its,r,p.1,z}
 ·refine{its.toList,r,{o,I.kIn a o hk,hc,n,by simpa using hs},?_};have e:=r.length;rwa[Ec] at e;omega
def az.list_inj (I:az X AB Y H s)(h:iM X.K H a xs)(h':iM X.K H a ys):xs=ys:=by
 let⟨its,r,⟨o,n,e,_,_,d⟩,_⟩:=I.list h;let⟨its',r',⟨o',n',e',_,_,d'⟩,_⟩:=I.list h';rw[e] at e';cases e';rw[d] at d';injection d' with d1 _
 have:its=its':=by simpa using Av Array.toList d1
 subst this;exact r.inj r'
def az.tuple_inj (I:az X AB Y H s)(h:gY X.K H a xs)(h':gY X.K H a ys):xs=ys:=by
 let⟨its,r,⟨o,e,_,n,d⟩,_⟩:=I.tuple h;let⟨its',r',⟨o',e',_,n',d'⟩,_⟩:=I.tuple h';rw[e] at e';cases e';rw[d] at d';injection d' with d1 _
 have:its=its':=by simpa using Av Array.toList d1
 subst this;exact r.inj r'
end
abbrev Cx.wish (X:Cx)(E:Tb):Cx:={X with xe:=E}
abbrev Cx.nox (X:Cx):Cx:=X.wish λ_ _=>False
def Cx.Ok.wish {X:Cx}(ok:X.Ok)(E:Tb):(X.wish E).Ok :=
 {ok.mod,ok.kind,ok.glob,ok.blt,ok.above,ok.inj,ok.has,ok.cab,ok.hd,ok.frames,ok.stk,ok.exf,ok.bs,ok.bsz,ok.noex,ok.exfs,ok.funs,ok.frf}
def Cx.Ok.unwish {X:Cx}{E:Tb}(ok:(X.wish E).Ok):X.Ok :=
 {ok.mod,ok.kind,ok.glob,ok.blt,ok.above,ok.inj,ok.has,ok.cab,ok.hd,ok.frames,ok.stk,ok.exf,ok.bs,ok.bsz,ok.noex,ok.exfs,ok.funs,ok.frf}
section
variable {X:Cx}{AB:Tc}{Y:St}{H:Hp}{s:AP}{E:Tb}
def az.wish (I:az X AB Y H s)(E:Tb):az (X.wish E) AB Y H s:={I.ok.wish E,I.os,I.bare,I.base,I.loc,I.cell,I.free,I.freeC,I.pin,I.hok,I.len}
def az.unwish (I:az (X.wish E) AB Y H s):az X AB Y H s:={I.ok.unwish,I.os,I.bare,I.base,I.loc,I.cell,I.free,I.freeC,I.pin,I.hok,I.len}
theorem SP.unwish {D:gB}{f:Flow}{s':AP}(h:SP (X.wish E) AB D f s'):SP X AB D f s':=by
 cases f with
 |next=>let⟨Y',H',I,q⟩:=h;exact{Y',H',I.unwish,q}
 |brk=>let⟨Y',H',I,q⟩:=h;exact{Y',H',I.unwish,q}
 |cont=>let⟨Y',H',I,q⟩:=h;exact{Y',H',I.unwish,q}
 |ret u=>let⟨v,Y',H',I,r,q⟩:=h;exact{v,Y',H',I.unwish,r,q}
def oG.nox {st:Tk}{t:TS}(h:oG X.nox st t):oG X st t:=λAB s Y H D I hw=>
 E5 (h AB s Y H D (I.wish _) hw) (λ_ _ q=>q.unwish) λ_ _ z=>False.elim z
end
section
variable {X:Cx}{st:B8}{rest:Tk}{t u:TS}{e:As}{te:TE}{pos:Pos}
def Hx:TS:=λD Y H=>D.nx Y H
def ME (t u:TS):TS:=λD Y H=>t {D with nx:=u D} Y H
def JEo:oG X [] Hx:=λ_ _ Y H _ I h=>zcS {Y,H,I,h}
theorem JB7 (h1:PS X st t)(h2:oG X rest u):oG X (st::rest) (ME t u):=by
 intro AB s Y H D I h;refine wpAny_execs_cons (cP (h1 AB s Y H {D with nx:=u D} I h) λf s1 q=>?_)
 cases f with
 |next=>
  let⟨Y',H',I',q⟩:=q;exact h2 AB s1 Y' H' D I' q
 |ret v=>exact q
 |brk=>exact q
 |cont=>exact q
theorem Fa (h1:PS X st t):oG X [st] t:=by
 intro AB s Y H D I h;refine wpAny_execs_cons (cP (h1 AB s Y H D I h) λf s1 q=>?_)
 cases f with
 |next=>exact zcS q
 |ret v=>exact q
 |brk=>exact q
 |cont=>exact q
def az.quiet {H:Hp}{s:AP}(I:az X AB Y H s):interactive X.env=false:=by simp[interactive,I.ok.kind]
def HA (te:TE):TS:=λD Y H=>te Y H λ_ H1=>D.nx Y H1
def JEp (he:PE X e te)(hs:swapsWith e none pos.line X.env=pure false:=by rfl):PS X (.Expr e pos) (HA te):=by intro AB s Y H D I h;exact wpAny_Expr_any (cP (he AB s Y H _ I h) λv s1 ⟨x,H1,I1,r1,q1⟩=>{Y,H1,I1,q1}) I.quiet hs
def MG (te:TE):TS:=λD Y H=>te Y H D.rt
def Kf (he:PE X e te):PS X (.Return (some e) pos) (MG te):=by intro AB s Y H D I h;exact wpAny_Return_some (cP (he AB s Y H _ I h) λv s1 ⟨x,H1,I1,r1,q1⟩=>{x,Y,H1,I1,r1,q1})
def MJ (c:TT)(t u:TS):TS:=λD Y H=>c Y H λb H1=>if b=true then t D Y H1 else u D Y H1
theorem Nz {c:As}{a b:Tk}{tc:TT}(hc:PT X c tc)(ha:oG X a t)(hb:oG X b u):PS X (.If c a b pos) (MJ tc t u):=by
 intro AB s Y H D I h;refine wpAny_If (cP (hc AB s Y H _ I h) λd s1 hh=>?_);let⟨H1,I1,q1⟩:=hh
 cases d with
 |true=>exact ha AB s1 Y H1 D I1 q1
 |false=>exact hb AB s1 Y H1 D I1 q1
end
abbrev TG:=V->St->Hp->(St->Hp->Prop)->Prop
abbrev Ep:=R4 V->St->Hp->(St->Hp->Prop)->Prop
def PG (X:Cx)(target:As)(t:TG):Prop :=
 ∀(AB:Tc) (s:AP) (Y:St) (H:Hp) (v:V) (u:AU) (Q:St->Hp->Prop),az X AB Y H s->aP v u->t v Y H Q ->
  wpAny (model X.prog X.w) X.A (assign target X.env u) (λ_ s'=>∃Y' H',az X AB Y' H' s'/\Q Y' H') X.xe s
def Er (X:Cx)(ts:Tj)(t:Ep):Prop :=
 ∀(AB:Tc) (s:AP) (Y:St) (H:Hp) (vs:R4 V) (us:Te) (Q:St->Hp->Prop),az X AB Y H s->aM vs us->t vs Y H Q ->
  wpAny (model X.prog X.w) X.A (assignInOrder ((assignEach ts X.env).map (·.2)) us) (λ_ s'=>∃Y' H',az X AB Y' H' s'/\Q Y' H') X.xe s
abbrev GK:=V->V->V->Hp->(Hp->Prop)->Prop
def wp (X:Cx)(t:GK):Prop :=
 ∀(AB:Tc) (s:AP) (Y:St) (H:Hp) (o i v:V) (ov iv u:AU) (Q:Hp->Prop),az X AB Y H s->aP o ov->aP i iv->aP v u->t o i v H Q ->
  wpAny (model X.prog X.w) X.A (setItem ov iv u) (λ_ s'=>∃H',az X AB Y H' s'/\Q H') X.xe s
section
variable {X:Cx}{pos:Pos}
def r9 (i:Nat):TG:=λv Y H Q=>Q (Y.set i (some v)) H
def JEt {i:Nat}{x:Str}(hN:X.N.Nodup)(hi:X.N[i]?=some x)(hx:GM X.env.scope x)(hf:X.fn x=true\/X.env.scope.names.lookup x=some .local:=by first|exact .inl rfl|exact .inr rfl|assumption):PG X (.Name x pos) (r9 i):=by intro AB s Y H v u Q I r h;exact wpAny_assign_Name (eB I hN hi hx r (λs' I'=>{_,H,I',h}) hf)
noncomputable def Od:Ep:=λvs Y H Q=>vs=[]/\Q Y H
noncomputable def Iq (t:TG)(u:Ep):Ep:=λvs Y H Q=>∃v r,vs=v::r/\t v Y H λY' H'=>u r Y' H' Q
def JEs:Er X [] Od:=by intro AB s Y H vs us Q I r h;let⟨e,h⟩:=h;subst e;cases r;exact assignInOrder_nil {Y,H,I,h}
theorem JCd {e:As}{es:Tj}{t:TG}{u:Ep}(h1:PG X e t)(h2:Er X es u)
  (hs:(assignEach (e::es) X.env).map (·.2)=assign e X.env::(assignEach es X.env).map (·.2):=by rfl):Er X (e::es) (Iq t u):=by
 intro AB s Y H vs us Q I r h;let⟨v,vr,e1,h⟩:=h;subst e1
 cases r with
 |cons r rr=>
  rw[hs];refine assignInOrder_cons (cP (h1 AB s Y H _ _ _ I r h) λ_ s1 hh=>?_);let⟨Y1,H1,I1,q1⟩:=hh;exact h2 AB s1 Y1 H1 _ _ Q I1 rr q1
def Oc (K:Ax)(n:Nat)(t:Ep):TG:=λv Y H Q=>∃a xs,v=.ref a/\gY K H a xs/\xs.length=n/\t xs Y H Q
def Ki {es:Tj}{k:Nat}{t:Ep}{n:Nat}(hc:X.calm=true)(h:Er X es t)
  (hn:(assignEach es X.env).length=n:=by rfl) (Cj:(assignEach es X.env).findIdx? (·.1)=none:=by rfl):PG X (.Tuple es k pos) (Oc X.K n t):=by
 intro AB s Y H v u Q I r hw;let⟨a,xs,e1,hq,hl,hw⟩:=hw;subst e1;cases r;let⟨its,rv,ht,hz⟩:=I.tuple hq;refine assign_Tuple_tuple (I.ok.hd hc) ht (by simp[hn,←hl,rv.length]) Cj λh' hx=>?_;have I1:az X AB Y H {s with heap:=h'}:=I.kept (t':=s.toks) λb o e=>hx b o (BX (BQ e)) e;exact h AB _ Y H xs _ Q I1 ‹rv› hw
def tO (to ti:TE)(t:GK):TG:=λv Y H Q=>to Y H λo H1=>ti Y H1 λi H2=>t o i v H2 λH3=>Q Y H3
def Kj {o i:As}{to ti:TE}{t:GK}(ho:PE X o to)(hi:PE X i ti)(hs:wp X t)
  (ha:∀v,assign (.Subscript o i pos) X.env v=(do
   let ov ←holding [v] (eval o X.env)
   let iv ←holding [v,ov] (eval i X.env)
   standAt pos
   holding [v,ov,iv] (setItem ov iv v)
   release [v,ov,iv] []):=by intro _;rfl):PG X (.Subscript o i pos) (tO to ti t):=by
 intro AB s Y H v u Q I r h;rw[ha];refine Ak (CR (cP (ho AB s Y H _ I h) λov s1 hh=>?_));let⟨x,H1,I1,r1,q1⟩:=hh;refine Ak (CR (cP (hi AB s1 Y H1 _ I1 q1) λiv s2 hh=>?_));let⟨y,H2,I2,r2,q2⟩:=hh;refine Ak (wpAny_standAt (Ak (CR (cP (hs AB s2 Y H2 x y v ov iv u _ I2 r1 r2 r q2) λ_ s3 hh=>?_))));let⟨H3,I3,q3⟩:=hh;exact wpAny_release {Y,H3,I3,q3}
def Bm (te:TE)(g:TG):TS:=λD Y H=>te Y H λx H1=>g x Y H1 D.nx
def Kh {tg e:As}{te:TE}{g:TG}(he:PE X e te)(hg:PG X tg g)(hs:swapsWithSole [tg] e pos.line X.env=pure false:=by rfl)(hw:swappedStores [tg] e X.env=pure none:=by rfl)
  (h1:(assignEach [tg] X.env).map (·.2)=[assign tg X.env]:=by rfl):PS X (.Assign [tg] e pos) (Bm te g):=by
 intro AB s Y H D I h;refine wpAny_Assign_stores (cP (he AB s Y H _ I h) λv s1 hh=>?_) hs hw;let⟨x,H1,I1,r1,q1⟩:=hh;rw[h1];exact cP (hg AB s1 Y H1 x v _ I1 r1 q1) λ_ s2 q=>q
def Ke {i:Nat}{x:Str}{te:TE}{pos':Pos}(hN:X.N.Nodup)(hi:X.N[i]?=some x)(hx:GM X.env.scope x)(he:PE X e te)(hs:swapsWith e (some (.Name x pos')) pos.line X.env=pure false:=by rfl)(hf:X.fn x=true\/X.env.scope.names.lookup x=some .local:=by first|exact .inl rfl|exact .inr rfl|assumption) :
  PS X (.Assign [.Name x pos'] e pos) (Bm te (r9 i)):=by
 intro AB s Y H D I h;refine wpAny_Assign_Name (cP (he AB s Y H _ I h) λv s1 hh=>?_) hs;let⟨y,H1,I1,r1,q1⟩:=hh;exact eB I1 hN hi hx r1 (λs2 I2=>{_,H1,I2,q1}) hf
end
structure It where
 go:Nat->Hp->Prop
 yld:Nat->Hp->V->Hp->Prop
 stop:Nat->Hp->Prop
def mN (X:Cx)(AB:Tc)(H:Hp)(b:Aa):Prop :=
 H b=none/\b≠X.env.locals/\b∉X.fs/\(b∈X.ex\/X.s₀.heap.objs.size<=b)/\(∀x c,X.env.cells.lookup x=some c->c≠b)/\∀p∈X.pn++AB,p.1≠b
def az.fpOk {H H':Hp}{s:AP}{b:Aa}(I:az X AB Y H s)(hb:s.heap.objs.size<=b)(hn:H' b=none):mN X AB H' b:=by
 refine{hn,DR (CC I.lt hb),I.nofs hb,.inr (Dk I.sz hb),λx c e z=>?_,λp hp z=>?_}
 ·let⟨v,q⟩:=I.cell x c e;exact Au (CC q.lt (by rw[z];exact hb)) (Cn _)
 ·exact Au (CC (BQ (I.pin p hp).1) (by rw[z];exact hb)) (Cn _)
structure xM (P:Program)(w:World)(K:Ax)(tg:Expr)(J:It)(fp:Tf)(it:Addr)(tn:Nat->Heap->Prop):Prop where
 mem:it∈fp
 obj:∀i h,tn i h->∀b∈fp,∃o,h.get? b=some o/\∀v,o.data≠.cell v
 keep:∀i h h',tn i h->(∀b∈fp,∀o,h.get? b=some o->h'.get? b=some o)->tn i h'
 item:∀(X:Cx),X.prog=P->X.w=w->X.K=K->X.calm=true->∀(i:Nat) (AB:Tc) (s:Shared) (Y:St) (H:Hp) (E:Tb),az X AB Y H s->(∀b∈fp,mN X AB H b)->tn i s.heap->J.go i H ->
  wpAny (model P w) X.A (pyNext (.ref it)) (λr s1=>∃u,r=some u /\
   wpAny (model P w) X.A (letOwnedTupleGo tg (.ref it) u) (λ_ s2=>∃x H',az X AB Y H' s2/\aP x u/\J.yld i H x H'/\tn (i+1) s2.heap/\∀b∈fp,H' b=none) E s1) E s
 done:∀(X:Cx),X.prog=P->X.w=w->X.K=K->X.calm=true->∀(i:Nat) (AB:Tc) (s:Shared) (Y:St) (H:Hp) (E:Tb),az X AB Y H s->(∀b∈fp,mN X AB H b)->tn i s.heap->J.stop i H ->
  wpAny (model P w) X.A (pyNext (.ref it)) (λr s1=>r=none/\az X AB Y H s1) E s
 self:∀(A:Around) (i:Nat) (s:Shared) (Q:Tb) (E:Tb),tn i s.heap->Q (.ref it) s->wpAny (model P w) A (pyIter (.ref it)) Q E s
abbrev TI:=St->Hp->(It->Hp->Prop)->Prop
def R7 (X:Cx)(AB:Tc)(Y:St)(tg:As)(R:It->Hp->Prop)(itv:AU)(s2:AP):Prop :=
 ∃(it:Aa) (fp:Tf) (tn:Nat->Am->Prop) (J:It) (H':Hp),itv=.ref it/\az X AB Y H' s2/\xM X.prog X.w X.K tg J fp it tn/\tn 0 s2.heap/\(∀b∈fp,mN X AB H' b)/\R J H'
def PI (X:Cx)(tg iter:As)(wi:TI):Prop :=
 ∀(AB:Tc) (s:AP) (Y:St) (H:Hp) (R:It->Hp->Prop),az X AB Y H s->wi Y H R ->
  wpAny (model X.prog X.w) X.A (eval iter X.env) (λv s1=>wpAny (model X.prog X.w) X.A (pyIter v) (R7 X AB Y tg R) X.xe s1) X.xe s
def Dl {M : Model} {A : Ar} {E : Tb} {s : AP} {tg : As} {it : Aa} {u : AU} {o : BO} {n : String} {vs : Ti} {Q : Unit -> AP -> Prop} (ho : s.heap.get? it = some o) (hc : o.cls = .type n) (hd : o.data = .fields vs)
    (hn : ["enumerate", "zip", "dict_itemiterator", "dict_reverseitemiterator", "odict_iterator", "itertools.zip_longest", "itertools.pairwise"].contains n = false) (hQ : Q () s) : wpAny M A (letOwnedTupleGo tg (.ref it) u) Q E s := by
  unfold letOwnedTupleGo
  cases tg <;> first
    | exact Ay hQ
    | (cases u <;> first
        | exact Ay hQ
        | (refine Ak (wpAny_load ho ?_)
           rw[hc, hd]
           show wpAny M A (if (["enumerate", "zip", "dict_itemiterator", "dict_reverseitemiterator", "odict_iterator", "itertools.zip_longest", "itertools.pairwise"].contains n&&vs[0]? == some (rawInt _)) = true then _ else _) Q E s
           rw[Ac (by intro h; rw[hn, Bool.false_and] at h; cases h)]
           exact Ay hQ))
def Rg (K:Ax)(a:Aa):It :=
 {λi H=>∃xs x,iM K H a xs/\xs[i]?=some x,λi H x H'=>H'=H/\∀xs,iM K H a xs->xs[i]?=some x,λi H=>∃xs,iM K H a xs/\xs.length<=i}
def Rf (K:Ax)(a:Aa):It :=
 {λi H=>∃xs x,gY K H a xs/\xs[i]?=some x,λi H x H'=>H'=H/\∀xs,gY K H a xs->xs[i]?=some x,λi H=>∃xs,gY K H a xs/\xs.length<=i}
def Py (lo:Int)(n:Nat):It:={λi _=>i<n,λi H x H'=>H'=H/\x=.int (lo+i),λi _=>n<=i}
def zv {K:Ax}{tg:As}(a it:Aa):xM P w K tg (Rg K a) [it] it (λi h=>h.IsListIter it a i) where
 mem:=by simp
 obj:=λi h st b hb=>by
  have e:b=it:=by simpa using hb
  subst e;let⟨o,e,c,d⟩:=st;exact{o,e,λv z=>by rw[d] at z;cases z}
 keep:=λi h h' st k=>st.at λo e=>k it ∅ o e
 item:=by intro X hP hw hK hc i AB s Y H E I hf st hg;subst hP hw hK;let⟨xs,x,hq,hx⟩:=hg;let⟨its,rv,p,hz⟩:=I.list hq;let⟨u,hu,ru⟩:=rv.get hx;let⟨f0,f1,f2,f3,f4,f5⟩:=hf it ∅;refine wpAny_pyNext_list_item st p.isList (x:=u) ‹hu› λh' CV sb=>?_;have I1:az X AB Y H {s with heap:=h'}:=I.turned (t':=s.toks) (λb o hb e=>(sb.2 b hb).trans e) f0 f1 f3 f4 f5;let⟨o,e,c,d⟩:=id CV;exact{u,rfl,Dl (s:={s with heap:=h'}) e c d ∅ {x,H,I1,ru,{rfl,λys hy=>by rw[I.list_inj hy hq];exact hx},CV,λb hb=>(hf b hb).1}}
 done:=by intro X hP hw hK hc i AB s Y H E I hf st hg;subst hP hw hK;let⟨xs,hq,hx⟩:=hg;let⟨its,rv,p,hz⟩:=I.list hq;let⟨f0,f1,f2,f3,f4,f5⟩:=hf it ∅;have hl:=rv.length;exact wpAny_pyNext_list_end (I.ok.hd hc) st p.isList (by simp;omega) λh' eb=>{rfl,I.turned (t':=s.toks) (λb o hb e=>eb b o hb e) f0 f1 f3 f4 f5}
 self:=λ_ _ _ _ _ st h=>wpAny_pyIter_listiter st h
def wD {K:Ax}{tg:As}(a it:Aa):xM P w K tg (Rf K a) [it] it (λi h=>h.IsTupleIter it a i) where
 mem:=by simp
 obj:=λi h st b hb=>by
  have e:b=it:=by simpa using hb
  subst e;let⟨o,e,c,d⟩:=st;exact{o,e,λv z=>by rw[d] at z;cases z}
 keep:=λi h h' st k=>st.at λo e=>k it ∅ o e
 item:=by intro X hP hw hK hc i AB s Y H E I hf st hg;subst hP hw hK;let⟨xs,x,hq,hx⟩:=hg;let⟨its,rv,p,hz⟩:=I.tuple hq;let⟨u,hu,ru⟩:=rv.get hx;let⟨f0,f1,f2,f3,f4,f5⟩:=hf it ∅;refine wpAny_pyNext_tuple_item st (show s.heap.IsTuple a its.toArray from p) (x:=u) ‹hu› λh' CV sb=>?_;have I1:az X AB Y H {s with heap:=h'}:=I.turned (t':=s.toks) (λb o hb e=>(sb.2 b hb).trans e) f0 f1 f3 f4 f5;let⟨o,e,c,d⟩:=id CV;exact{u,rfl,Dl (s:={s with heap:=h'}) e c d ∅ {x,H,I1,ru,{rfl,λys hy=>by rw[I.tuple_inj hy hq];exact hx},CV,λb hb=>(hf b hb).1}}
 done:=by intro X hP hw hK hc i AB s Y H E I hf st hg;subst hP hw hK;let⟨xs,hq,hx⟩:=hg;let⟨its,rv,p,hz⟩:=I.tuple hq;let⟨f0,f1,f2,f3,f4,f5⟩:=hf it ∅;have hl:=rv.length;exact wpAny_pyNext_tuple_end (I.ok.hd hc) st (show s.heap.IsTuple a its.toArray from p) (by simp;omega) λh' eb=>{rfl,I.turned (t':=s.toks) (λb o hb e=>eb b o hb e) f0 f1 f3 f4 f5}
 self:=λ_ _ _ _ _ st h=>wpAny_pyIter_tupleiter st h
def wE {w:An}{K:Ax}{tg:As}(it:Aa)(lo:Int)(n:Nat):xM P w K tg (Py lo n) [it] it (λi h=>IsRangeIter h it (lo+(i:Nat)*1) ((n:Int)-(i:Nat)) 1) where
 mem:=by simp
 obj:=λi h st b hb=>by
  have e:b=it:=by simpa using hb
  subst e;exact{_,st,λv z=>by
   have z':Data.fields _=Data.cell v:=z
   cases z'}
 keep:=λi h h' st k=>k it ∅ _ st
 item:=by intro X hP hw hK hc i AB s Y H E I hf st hg;subst hP hw hK;obtain⟨f0,f1,f2,f3,f4,f5⟩:=hf it ∅;have W:=Walks.range (prog:=X.prog) (w:=X.w) (I.ok.hd hc) it lo 1 n;refine W.item i s _ _ hg st λv h' tk hv CV kk=>?_;obtain⟨t,rfl⟩:=hv;have I1:az X AB Y H {s with heap:=h',toks:=tk}:=I.turned (λb o hb e=>kk b o ‹hb› e) f0 f1 f3 f4 f5;refine{_,rfl,Dl (s:={s with heap:=h',toks:=tk}) (n:="range_iterator") CV rfl rfl ∅ {.int (lo+i),H,I1,{t,?_},{rfl,rfl},CV,λb hb=>(hf b hb).1}};rw[Int.mul_one]
 done:=by intro X hP hw hK hc i AB s Y H E I hf st hg;subst hP hw hK;let⟨f0,f1,f2,f3,f4,f5⟩:=hf it ∅;exact wpAny_pyNext_range_end (I.ok.hd hc) st (by have:n<=i:=hg;omega) λh' eb=>{rfl,I.turned (t':=s.toks) (λb o hb e=>eb b o hb e) f0 f1 f3 f4 f5}
 self:=λ_ _ _ _ _ st h=>wpAny_pyIter_rangeiter st h
section
variable {X:Cx}{tg:As}
def JBd {H:Hp}{s:AP}{R:It->Hp->Prop}{E:Tb}{lo hi:Int}{t u v:Tok}{tk:Nat}(I:az X AB Y H s)(h1 : -(2 ^ 62)<=lo)(h2:lo<2 ^ 62)(h3 : -(2 ^ 62)<=hi)(h4:hi<2 ^ 62)
  (q:R (Py lo (hi-lo).toNat) H):wpAny (model X.prog X.w) X.A (pyIter (.ref s.heap.objs.size)) (R7 X AB Y tg R) E {s with heap:=s.heap.push {cls:=.type "range",data:=.fields #[.int lo t,.int hi u,.int 1 v]},toks:=tk}:=by
 refine wpAny_pyIter_range (IsRange.new ..) (small_one h1 h2 h3 h4) ?_;have I1:az X AB Y H {s with heap:=s.heap.push {cls:=.type "range",data:=.fields #[.int lo t,.int hi u,.int 1 v]},toks:=tk}:=I.kept λb o e=>BK _ e
 refine{(s.heap.push {cls:=.type "range",data:=.fields #[.int lo t,.int hi u,.int 1 v]}).objs.size,[(s.heap.push {cls:=.type "range",data:=.fields #[.int lo t,.int hi u,.int 1 v]}).objs.size],_,_,H,rfl,
  I1.kept (t':=tk) λb o e=>BK _ e,wE _ lo (hi-lo).toNat,?_,λb hb=>?_,q}
 ·have e1:lo+((0:Nat):Int)*1=lo:=by simp
  have e2:(((hi-lo).toNat:Nat):Int)-((0:Nat):Int)=Builtin.Range.rangeSize lo hi 1:=by rw[rangeSize_one];split <;> omega
  show IsRangeIter _ _ (lo+((0:Nat):Int)*1) ((((hi-lo).toNat:Nat):Int)-((0:Nat):Int)) 1
  rw[e1,e2];exact Bd _ rfl
 ·have e:b=(s.heap.push {cls:=.type "range",data:=.fields #[.int lo t,.int hi u,.int 1 v]}).objs.size:=by simpa using hb
  subst e;exact I1.fpOk (BL _) (I1.hok.fresh (BL _))
def Io (ta:TA):TI:=λY H R=>ta Y H λvs H1=>∃j:Int,vs=[.int j]/\-(2 ^ 62)<=j/\j<2 ^ 62/\R (Py 0 j.toNat) H1
theorem zM {a:As}{ta:TA}{p pos:Pos}(hg:Gl X "range")(hm:X.mg "range" = none)(ha:PA X [a] ta)(hs:starEach [a] X.env=[(false,eval a X.env)]:=by rfl):PI X tg (.Call (.Name "range" p) [a] [] pos) (Io ta):=by
 intro AB s Y H R I h;refine Call_ (p9 I hg hm boot_range (PyProof.Rows.callWith_type1 (cP (ha pos AB s Y H _ I h) λus s1 hh=>?_) hs rfl));let⟨vs,H1,I1,r1,q1⟩:=hh;let⟨j,e,q1,q2,q⟩:=q1;subst e
 cases r1 with
 |cons r rr=>
  cases rr;let⟨t,rfl⟩:=r;exact call_range_1 (JBd I1 ∅ ∅ q1 q2 ‹q›)
def Je (wi:TI)(g:TG)(tb:TS):TS:=λD Y H=>wi Y H λJ H1=>∃W:Nat->Nat->St->Hp->Prop,(∃m,W 0 m Y H1)/\∀i m Y H,W i m Y H ->
 (J.stop i H/\D.nx Y H)\/(J.go i H/\∃N:St->Hp->Prop,(∀Y' H',N Y' H'->∃m',m'<m/\W (i+1) m' Y' H')/\∀x H',J.yld i H x H'->g x Y H' λY2 H2=>tb {D with nx:=N,ct:=N,bk:=D.nx} Y2 H2)
noncomputable def lI (fp:Tf)(h:Am):Tc:=fp.filterMap λb=>(h.get? b).map λo=>(b,o)
def eX {fp:Tf}{h:Am}{b:Aa}{o:BO}(hb:b∈fp)(e:h.get? b=some o):(b,o)∈lI fp h:=List.mem_filterMap.mpr {b,hb,by rw[e];rfl}
theorem rT {fp:Tf}{h:Am}{p:Aa×BO}(hp:p∈lI fp h):p.1∈fp/\h.get? p.1=some p.2:=by
 let⟨b,hb,e⟩:=List.mem_filterMap.mp hp
 cases q:h.get? b with
 |none=>rw[q] at e;cases e
 |some o=>
  rw[q] at e;have e':(b,o)=p:=Option.some.inj e;subst e';exact{hb,q}
def az.pinned {H:Hp}{s:AP}{fp:Tf}(I:az X AB Y H s)(hf:∀b∈fp,mN X AB H b)(ho:∀b∈fp,∃o,s.heap.get? b=some o/\∀v,o.data≠.cell v):az X (AB++lI fp s.heap) Y H s :=
 I.pins_of λp hp=>(Dd.mp hp).elim (λz=>I.pin p (D3 _ z)) λz=>by let⟨hb,e⟩:=rT z;let⟨f0,f1,f2,_⟩:=hf p.1 hb;let⟨o,e',d⟩:=ho p.1 hb;rw[e] at e';cases e';exact{e,f0,f1,f2,d}
def az.unpinned {AB pl:Tc}{H:Hp}{s:AP}(I:az X (AB++pl) Y H s):az X AB Y H s:=I.pins_of λp hp=>I.pin p (D3 _ (zb6 _ hp))
def Ck {iter:As}{body:Tk}{wi:TI}{g:TG}{tb:TS}{pos:Pos}(hp:PassesOwn (model X.prog X.w) X.A X.env X.xe)(hc:X.calm=true)(hi:PI X tg iter wi)(hg:PG X tg g)(hb:oG X body tb)
  (hs:∀x,foldedSetIterable iter X.env x=pure x:=by intro _;rfl):PS X (.For tg iter body [] pos) (Je wi g tb):=by
 intro AB s Y H D I h;refine wpAny_For (cP (hi AB s Y H _ I h) λv s1 h1=>cP h1 λitv s2 h2=>?_) hs;let⟨it,fp,tn,J,H2,e,I2,T,JM,f2,W,⟨m0,w0⟩,turn⟩:=h2;subst e;have stat:∀{H':Hp},(∀b∈fp,H' b=none)->∀b∈fp,mN X AB H' b:=λhn b hb=>{hn b hb,(f2 b hb).2};refine codeAny_forLoop_any (λn s'=>∃i Y' H',az X AB Y' H' s'/\tn i s'.heap/\(∀b∈fp,H' b=none)/\W i n Y' H') ?_ m0 {0,Y,H2,I2,JM,λb hb=>(f2 b hb).1,w0};rintro n s3 ⟨i,Y3,H3,I3,JL,fr3,w3⟩;rcases turn i n Y3 H3 w3 with⟨stop,qn⟩|⟨go,N,hN,step⟩
 ·refine zcc hp (cP (T.done X rfl rfl rfl hc i AB s3 Y3 H3 X.xe I3 (stat fr3) JL stop) λr s4 hh=>?_)
  let⟨hr,I4⟩:=hh;subst hr;exact zcS {Y3,H3,I4,qn}
 ·refine zcc hp (cP (T.item X rfl rfl rfl hc i AB s3 Y3 H3 X.xe I3 (stat fr3) JL go) λr s4 hh=>?_)
  let⟨u,hr,h4⟩:=hh;subst hr;refine zcc hp (cP h4 λ_ s5 hh=>?_);let⟨x,H5,I5,r5,y5,Gb,fr5⟩:=hh;have I5':=I5.pinned (stat fr5) (T.obj _ _ Gb);refine zcc hp (cP (hg _ s5 Y3 H5 x u _ I5' r5 (step x H5 y5)) λ_ s6 hh=>?_);let⟨Y6,H6,I6,q6⟩:=hh;refine zcc hp (cP (hb _ s6 Y6 H6 _ I6 q6) λf s7 q7=>?_)
  have again:∀{Y7:St} {H7:Hp},az X (AB++lI fp s5.heap) Y7 H7 s7->N Y7 H7->∃m,m<n/\∃i Y' H',az X AB Y' H' s7/\tn i s7.heap/\(∀b∈fp,H' b=none)/\W i m Y' H':=λ{Y7 H7} I7 n7=>by
   let⟨m',hm,w7⟩:=hN Y7 H7 n7;refine{m',hm,i+1,Y7,H7,I7.unpinned,T.keep _ _ _ Gb λb hb o e=>(I7.pin (b,o) (D3 _ (D3 _ (eX hb e)))).1,λb hb=>?_,w7};let⟨o,e,d⟩:=T.obj _ _ Gb b hb;exact(I7.pin (b,o) (D3 _ (D3 _ (eX hb e)))).2.1
  cases f with
  |next=>let⟨Y7,H7,I7,n7⟩:=q7;exact again I7 n7
  |cont=>let⟨Y7,H7,I7,n7⟩:=q7;exact again I7 n7
  |brk=>let⟨Y7,H7,I7,q7⟩:=q7;exact{Y7,H7,I7.unpinned,q7}
  |ret v=>let⟨x7,Y7,H7,I7,r7,q7⟩:=q7;exact{x7,Y7,H7,I7.unpinned,r7,q7}
end
abbrev R2:=V->V->Hp->VK->Prop
def jN (X:Cx)(f:AU->AU->Sem AU)(r:R2):Prop :=
 ∀(AB:Tc) (s:AP) (Y:St) (H:Hp) (x y:V) (v u:AU) (Q:VK),az X AB Y H s->aP x v->aP y u->r x y H Q ->
  wpAny (model X.prog X.w) X.A (f v u) (EP X AB Y Q) X.xe s
def Q7 (X:Cx)(f:AU->Sem AU)(r:V->Hp->VK->Prop):Prop :=
 ∀(AB:Tc) (s:AP) (Y:St) (H:Hp) (x:V) (v:AU) (Q:VK),az X AB Y H s->aP x v->r x H Q ->
  wpAny (model X.prog X.w) X.A (f v) (EP X AB Y Q) X.xe s
def g7 (X:Cx)(f:AU)(r:R4 V->Hp->VK->Prop):Prop :=
 ∀(AB:Tc) (s:AP) (Y:St) (H:Hp) (xs:R4 V) (us:Te) (Q:VK),az X AB Y H s->aM xs us->r xs H Q ->
  wpAny (model X.prog X.w) X.A (call f us) (EP X AB Y Q) X.xe s
def Q8 (X:Cx)(r:V->Hp->(Ad->Hp->Prop)->Prop):Prop :=
 ∀(AB:Tc) (s:AP) (Y:St) (H:Hp) (x:V) (v:AU) (Q:Ad->Hp->Prop),az X AB Y H s->aP x v->r x H Q ->
  wpAny (model X.prog X.w) X.A (truthy v) (TP X AB Y Q) X.xe s
def Jc (r:R2)(ta tb:TE):TE:=λY H Q=>ta Y H λx H1=>tb Y H1 λy H2=>r x y H2 Q
def Ry (r:V->Hp->VK->Prop)(ta:TE):TE:=λY H Q=>ta Y H λx H1=>r x H1 Q
def rI (C:Int->Int->Prop)(g:Int->Int->V):R2:=λx y H Q=>∃i j,x=.int i/\y=.int j/\C i j/\Q (g i j) H
def zG (g:Int->Int->V):R2:=λx y H Q=>∃i j,x=.int i/\y=.int j/\Q (g i j) H
def rU (g:Int->V):V->Hp->VK->Prop:=λx H Q=>∃i,x=.int i/\Q (g i) H
section
variable {X:Cx}{a b:As}{ta tb:TE}{pos:Pos}
def GA (ha:PE X a ta)(hb:PE X b tb){s:AP}{H:Hp}{R:V->V->Hp->Prop}(I:az X AB Y H s)
  (h:ta Y H λx H1=>tb Y H1 λy H2=>R x y H2) {Q:Tb} {f:AU->AU->Sem AU}
  (hf:∀v u s2 x y H2,az X AB Y H2 s2->aP x v->aP y u->R x y H2->wpAny (model X.prog X.w) X.A (f v u) Q X.xe s2) :
  wpAny (model X.prog X.w) X.A (eval a X.env) (λv s₁=>wpAny (model X.prog X.w) X.A (eval b X.env) (λu s₂=>wpAny (model X.prog X.w) X.A (f v u) Q X.xe s₂) X.xe s₁) X.xe s:=by
 refine cP (ha AB s Y H _ I h) λv s1 hh=>?_;let⟨x,H1,I1,r1,q1⟩:=hh;refine cP (hb AB s1 Y H1 _ I1 q1) λu s2 hh=>?_;let⟨y,H2,I2,r2,q2⟩:=hh;exact hf v u s2 x y H2 I2 r1 r2 q2
def pT {op:Operator}{r:R2}(ho:jN X (binaryOp op) r)(ha:PE X a ta)(hb:PE X b tb):PE X (.BinOp a op b pos) (Jc r ta tb):=by intro AB s Y H Q I h;exact wpAny_BinOp (GA ha hb I h λv u s2 x y H2 I2 rx ry q=>ho AB s2 Y H2 x y v u Q I2 rx ry q)
def NB {op:UnaryOp}{r:V->Hp->VK->Prop}(ho:Q7 X (unaryOp op) r)(ha:PE X a ta):PE X (.UnaryOp op a pos) (Ry r ta):=by intro AB s Y H Q I h;exact UnaryOp_ (cP (ha AB s Y H _ I h) λv s1 ⟨x,H1,I1,r1,q1⟩=>ho AB s1 Y H1 x v Q I1 r1 q1)
def OL {f:AU->AU->Sem AU}{C:Int->Int->Prop}{g:Int->Int->Int}
  (rule:∀(i j:Int) (t u:Tok) (s:AP) (Q:Tb) (E:Tb),C i j->Q (.int (g i j) s.toks) {s with toks:=s.toks+1}->wpAny (model X.prog X.w) X.A (f (.int i t) (.int j u)) Q E s) :
  jN X f (rI C λi j=>.int (g i j)):=by
 intro AB s Y H x y v u Q I rx ry h;let⟨i,j,rfl,rfl,hc,q⟩:=h;let⟨t,rfl⟩:=rx;let⟨t',rfl⟩:=ry;exact rule i j t t' s _ _ hc {.int (g i j),H,I.tok _,{_,rfl},q}
def NH {f:AU->AU->Sem AU}{g:Int->Int->Int}
  (rule:∀(i j:Int) (t u:Tok) (s:AP) (Q:Tb) (E:Tb),Q (.int (g i j) s.toks) {s with toks:=s.toks+1}->wpAny (model X.prog X.w) X.A (f (.int i t) (.int j u)) Q E s) :
  jN X f (zG λi j=>.int (g i j)):=by
 intro AB s Y H x y v u Q I rx ry h;let⟨i,j,rfl,rfl,q⟩:=h;let⟨t,rfl⟩:=rx;let⟨t',rfl⟩:=ry;exact rule i j t t' s _ _ {.int (g i j),H,I.tok _,{_,rfl},q}
def KB {f:AU->AU->Sem AU}{g:Int->Int->Ad}
  (rule:∀(i j:Int) (t u:Tok) (s:AP) (Q:Tb) (E:Tb),Q (.bool (g i j)) s->wpAny (model X.prog X.w) X.A (f (.int i t) (.int j u)) Q E s) :
  jN X f (zG λi j=>.bl (g i j)):=by
 intro AB s Y H x y v u Q I rx ry h;let⟨i,j,rfl,rfl,q⟩:=h;let⟨t,rfl⟩:=rx;let⟨t',rfl⟩:=ry;exact rule i j t t' s _ _ {.bl (g i j),H,I,rfl,q}
def LI (i j:Int):Prop:=0<j/\j<1073741824
def LH (i j:Int):Prop:=0<=j/\j<=1000000/\i.natAbs<2 ^ 64
def Ej (i j:Int):Prop:=(-(2 ^ 64)<i/\i<2 ^ 64)\/(-(2 ^ 64)<j/\j<2 ^ 64)
def Ej.ok {i j:Int}(h:Ej i j):IntMulOk i j:=by
 rcases h with⟨h1,h2⟩|⟨h1,h2⟩
 ·exact .of_left (intBits_le_64 h1 h2)
 ·exact .of_right (intBits_le_64 h1 h2)
def KA:jN X (binaryOp .Add) (zG λi j=>.int (i+j)):=NH λ_ _ _ _ _ _ _ q=>add_int q
def Kt:jN X (binaryOp .Sub) (zG λi j=>.int (i-j)):=NH λ_ _ _ _ _ _ _ q=>sub_int q
def Kw:jN X (binaryOp .Mult) (rI Ej λi j=>.int (i*j)):=OL λ_ _ _ _ _ _ _ hc q=>mul_int q hc.ok
def JE2:jN X (binaryOp .FloorDiv) (rI LI λi j=>.int (i / j)):=OL λi j _ _ _ _ _ hc q=>by have h1:(0:Int)<j:=hc.1;have h2:j<1073741824:=hc.2;exact floordiv_int ∅ (by rw[Int.fdiv_eq_ediv_of_nonneg i ∅];exact q) (.inl (PyProof.noPylong_small ∅))
def Kx:jN X (binaryOp .Mod) (rI (λ_ j=>0<j) λi j=>.int (i%j)):=OL λi j _ _ _ _ _ hc q=>by have h1:(0:Int)<j:=hc;exact mod_int' ∅ (by rw[Int.fmod_eq_emod_of_nonneg i ∅];exact q)
def Ku:jN X (binaryOp .Pow) (rI LH λi j=>.int (i ^ j.toNat)):=OL λ_ _ _ _ _ _ _ hc q=>pow_int_small hc.1 hc.2.1 hc.2.2 q
def Sg {f:AU->Sem AU}{g:Int->Int}
  (rule:∀(i:Int) (t:Tok) (s:AP) (Q:Tb) (E:Tb),Q (.int (g i) s.toks) {s with toks:=s.toks+1}->wpAny (model X.prog X.w) X.A (f (.int i t)) Q E s) :
  Q7 X f (rU λi=>.int (g i)):=by
 intro AB s Y H x v Q I rx h;let⟨i,rfl,q⟩:=h;let⟨t,rfl⟩:=rx;exact rule i t s _ _ {.int (g i),H,I.tok _,{_,rfl},q}
def JFp:Q7 X (unaryOp .USub) (rU λi=>.int (-i)):=Sg λ_ _ _ _ _ q=>neg_int q
end
section
variable {X:Cx}{a b c:As}{ta tb:TE}{pos:Pos}
def Ds {H:Hp}{s:AP}{Q:VK}{k k':Ad}(I:az X AB Y H s)(q:Q (.bl k) H)(e:k=k'):EP X AB Y Q (.bool k') s:=by subst e;exact{.bl k,H,I,rfl,q}
def NE:jN X (compareOp .Lt) (zG λi j=>.bl (decide (i<j))):=KB λ_ _ _ _ _ _ _ q=>lt_int q
def NF:jN X (compareOp .LtE) (zG λi j=>.bl (decide (i<=j))):=KB λ_ _ _ _ _ _ _ q=>le_int q
def NG:jN X (compareOp .Gt) (zG λi j=>.bl (decide (j<i))):=KB λ_ _ _ _ _ _ _ q=>gt_int q
def Ky:jN X (compareOp .Is) (λx y H Q=>y=.non/\Q (.bl (decide (x=.non))) H):=by
 intro AB s Y H x y v u Q I rx ry h;let⟨rfl,q⟩:=h;cases ry;refine is_none_gen (Ds I q ?_)
 cases x <;> first
  |(cases rx;rfl)
  |(let⟨t,rfl⟩:=rx;rfl)
def JE1:jN X (compareOp .IsNot) (λx y H Q=>y=.non/\Q (.bl (!decide (x=.non))) H):=by
 intro AB s Y H x y v u Q I rx ry h;let⟨rfl,q⟩:=h;cases ry;refine isnot_none_gen (Ds I q ?_)
 cases x <;> first
  |(cases rx;rfl)
  |(let⟨t,rfl⟩:=rx;rfl)
def jN.or {f:AU->AU->Sem AU}{r r':R2}(h:jN X f r)(h':jN X f r'):jN X f (λx y H Q=>r x y H Q\/r' x y H Q):=by
 intro AB s Y H x y v u Q I rx ry q;rcases q with q|q
 ·exact h AB s Y H x y v u Q I rx ry q
 ·exact h' AB s Y H x y v u Q I rx ry q
def eV (b:As){op:CmpOp}(h:op≠.In:=by decide)(h2:op≠.NotIn:=by decide):behindInMarks op b=false:=by
 have e1:(op == CmpOp.In)=false:=by cases op <;> first|rfl|exact Au rfl h
 have e2:(op == CmpOp.NotIn)=false:=by cases op <;> first|rfl|exact Au rfl h2
 cases b <;> simp[behindInMarks,e1,e2]
def oN {op:CmpOp}{r:R2}(ho:jN X (compareOp op) r)(ha:PE X a ta)(hb:PE X b tb)(hm:behindInMarks op b=false):PE X (.Compare a [op] [b] pos) (Jc r ta tb):=by intro AB s Y H Q I h;exact wpAny_Compare1 (GA ha hb I h λv u s2 x y H2 I2 rx ry q=>ho AB s2 Y H2 x y v u Q I2 rx ry q) hm
def Hu (t:TE):TT:=λY H Q=>t Y H λx H'=>∃k,x=.bl k/\Q k H'
def yz {op:CmpOp}{r:R2}(ho:jN X (compareOp op) r)(ha:PE X a ta)(hb:PE X b tb)(hm:behindInMarks op b=false):PT X (.Compare a [op] [b] pos) (Hu (Jc r ta tb)):=by intro AB s Y H Q I h;refine wpAny_isTrue_Compare1 (cP (ha AB s Y H _ I h) λv s1 hh=>?_) hm;let⟨x,H1,I1,r1,q1⟩:=hh;refine cP (hb AB s1 Y H1 _ I1 q1) λu s2 hh=>?_;let⟨y,H2,I2,r2,q2⟩:=hh;refine cP (ho AB s2 Y H2 x y v u _ I2 r1 r2 q2) λc s3 hh=>?_;let⟨z,H3,I3,r3,k,e,q3⟩:=hh;subst e;cases r3;exact zb0 {H3,I3,q3}
def GI (K:Ax)(x:V)(H:Hp)(k:Ad):Prop :=
 match x with
 |.non=>k=false
 |.bl b=>k=b
 |.int i=>k=(i != 0)
 |.str y=>y.length<=sizeLine/\k=((y.length:Int) != 0)
 |.byt y=>y.size<=sizeLine/\k=((y.size:Int) != 0)
 |.ref p=>(∃xs,iM K H p xs/\k = !xs.isEmpty)\/(∃xs,gY K H p xs/\k = !xs.isEmpty)\/∃Ab,H p=some (.dK Ab)/\k = !Ab.isEmpty
 |_=>False
def xt {κ:Type}{Ab:R4 (κ×V)}{vs:R4 (κ×AU)}(r:KV Ab vs):(!vs.isEmpty) = !Ab.isEmpty:=by cases r <;> rfl
def qg {xs:R4 V}{its:Te}(r:aM xs its):(!its.toArray.isEmpty) = !xs.isEmpty:=by cases r <;> simp
def lK:(sizeLine:Nat)<2 ^ 63:=by rw[D9];decide
theorem wG:Q8 X (λx H Q=>∃k,GI X.K x H k/\Q k H):=by
 intro AB s Y H x v Q I rx h;let⟨k,e,q⟩:=h;have hl:=lK;have hs:sizeLine=16777216:=D9
 cases x with
 |non=>
  cases rx;have e':k=false:=e;subst e';exact truthy_none {H,I,q}
 |bl b=>
  cases rx;have e':k=b:=e;subst e';exact zb0 {H,I,q}
 |int i=>
  let⟨t,rfl⟩:=rx;have e':k=(i != 0):=e;subst e';exact PySem.P.truthy_int {H,I,q}
 |str y=>
  let⟨t,rfl⟩:=rx;obtain⟨hy,e'⟩:y.length<=sizeLine/\k=((y.length:Int) != 0):=e;subst e';exact PySem.P.truthy_str ∅ {H,I.tok _,q}
 |byt y=>
  let⟨t,rfl⟩:=rx;obtain⟨hy,e'⟩:y.size<=sizeLine/\k=((y.size:Int) != 0):=e;subst e';exact PySem.W.truthy_bytes ∅ {H,I.tok _,q}
 |ref p=>
  cases rx;have e':(∃xs,iM X.K H p xs/\k = !xs.isEmpty)\/(∃xs,gY X.K H p xs/\k = !xs.isEmpty)\/∃Ab,H p=some (.dK Ab)/\k = !Ab.isEmpty:=e;rcases e' with⟨xs,hx,e'⟩|⟨xs,hx,e'⟩|⟨Ab,hx,e'⟩
  ·subst e';let⟨its,r,pl,hz⟩:=I.list hx;have hlen:=r.length;exact wpAny_truthy_list pl.isList (by rwa[Bz];omega) {H,I.tok _,by rw[qg r];exact q}
  ·subst e';let⟨its,r,pl,hz⟩:=I.tuple hx;have hlen:=r.length;exact truthy_tuple pl (by rwa[Bz];omega) {H,I.tok _,by rw[qg r];exact q}
  ·subst e';obtain⟨hz,hS,vs,r,m⟩:Ab.length<=sizeLine/\(p == sysModules)=false/\∃vs,KV Ab vs/\s.heap.DictOf (bi X.prog X.w) p vs:=I.hok p _ hx;have hlen:Ab.length=vs.length:=Paired.length r;exact wpAny_truthy_dict hS m ∅ {H,I.tok _,by rw[xt r];exact q}
 |_=>exact(show False from e).elim
def JB6 (ha:PE X a ta)(he:∀whole,isTrue a X.env whole=(do let v ←whole;standAt a.pos;holding [v] (truthy v))) :
  PT X a (λY H Q=>ta Y H λx H'=>∃k,GI X.K x H' k/\Q k H'):=by
 intro AB s Y H Q I h;exact isTrue_plain (cP (ha AB s Y H _ I h) λv s1 ⟨x,H1,I1,r1,q1⟩=>wG AB s1 Y H1 x v Q I1 r1 q1) (he _)
def w5:jN X (binaryOp .Add) (λx y H Q=>∃i j,x=.str i/\y=.str j/\i.length+j.length<=sizeLine/\Q (.str (i++j)) H):=by intro AB s Y H x y v u Q I rx ry h;let⟨i,j,rfl,rfl,hz,q⟩:=h;let⟨t,rfl⟩:=rx;let⟨t',rfl⟩:=ry;exact add_str (λt' tk=>{.str (i++j),H,I.tok _,{_,rfl},q}) hz
def wo (b:As):Prop:=∀o i,subscripted b false o i=operate [o,i] (getItem o i)
def u5 (ha:PE X a ta)(hb:PE X b tb)(hs:wo b) :
  PE X (.Subscript a b pos) (Jc (λx y H Q=>∃z i c,x=.str z/\y=.int i/\0<=i/\i<2 ^ 63/\i<z.length/\z.cps[i.toNat]?=some c/\Q (.str ⟨#[c]⟩) H) ta tb):=by
 intro AB s Y H Q I h;refine Subscript_ (GA ha hb I h λv u s2 x y H2 I2 rx ry q=>?_);let⟨z,i,c,rfl,rfl,h0,h63,h1,hc,q⟩:=q;let⟨t,rfl⟩:=rx;let⟨t',rfl⟩:=ry;have e:seqIndex? i z.length=some i.toNat:=PySem.StrLaws.seqIndex_nonneg h0 h1
 exact tail_any (typeIs_str s2 z t) slot_str_getitem.lookup (getItem_str (c:=c) (by
  have e1:decide (i < -(2 ^ 63:Int))=false:=CI ∅;have e2:decide (i >= 2 ^ 63)=false:=CI ∅
  rw[e1,e2] <;> rfl) (by rw[e];exact hc) {.str ⟨#[c]⟩,H2,I2.tok _,{_,rfl},q}) (hs _ _)
theorem iP {x:V}{us:Te}(r:aM [x] us):∃u,us=[u]/\aP x u:=by
 cases r with
 |cons r1 r2=>cases r2;exact{_,rfl,r1}
end
structure xO (h:Heap)(x dx C:Addr)(mA:Td):Prop where
 obj:h.get? x=some (PySem.W.instObj C dx)
 ns:h.Ns1 dx mA
 ne:dx≠x
def zU {h:Am}{dx:Aa}{mA:Td}(n:h.Ns1 dx mA):∃od,h.get? dx=some od/\∀name,PySem.W.lookIn name od=some (mA name):=by
 let⟨o,es,ep,ho,hd,hk,_,hm⟩:=n;refine{o,ho,λname=>?_};have e:=hm name;unfold nsFind findBy at e;rw[←Array.find?_toList] at e;unfold PySem.W.lookIn;rw[hd];dsimp only;split
 ·rename_i y q;rw[q] at e;exact Av some e
 ·rename_i q;rw[q] at e;have a:es.toList.any (·.refKey)=false:=by rw[List.any_eq_false];intro y hy;let⟨z,t,CG⟩:=hk y (Array.mem_toList_iff.mp hy);simp[DictEntry.refKey,CG]
  have a':¬ es.toList.any (·.refKey)=true:=by rw[a];exact F5
  rw[Ac a'];exact Av some e
def xO.look {h:Am}{x dx C:Aa}{mA:Td}(I:xO h x dx C mA):∃od,PySem.W.InstAt h x (PySem.W.instObj C dx) C (some od)/\∀name,PySem.W.lookIn name od=some (mA name) :=
 let ⟨od,ho,hl⟩:=zU I.ns
 {od,{I.obj,rfl,rfl,ho},hl}
section
variable {prog:Aj}{w:An}{A:Ar}{E:Tb}{s:AP}{K:Ax}{x dx C f:Aa}{mA:Td}{name:Str}{v:AU}
def JD8 {expr:Ad}{Q:Tb}(X:K.In s.heap)(I:xO s.heap x dx C mA)(hg:PySem.W.plainGet K C name=true)(hh:PySem.W.hasDictIn K C=true)
  (ha:PySem.W.findIn K (.ref C) name=some none) (hv:mA name=some v) (hv':PySem.W.handedIn v=true) (h:Q v {s with toks:=s.toks+1}) :
  wpAny (model prog w) A (getAttr (.ref x) name expr) Q E s:=by
 let⟨od,J,hl⟩:=I.look;exact PySem.W.get_value X J (zcE hg).1 (PySem.W.findObj_own hh ha rfl (by rw[hl,hv])) hv' h
def JC3 {pl:Sem Ad}{Q:AU×R4 AU->AP->Prop}(X:K.In s.heap)(I:xO s.heap x dx C mA)(hg:PySem.W.plainGet K C name=true)
  (hf:PySem.W.findIn K (.ref C) name=some (some (.ref f))) (ht:PySem.W.isFn K (.ref f)=true) (hv:mA name=none) (h:Q (.ref f,[.ref x]) s) :
  wpAny (model prog w) A (getMethod (.ref x) name pl) Q E s:=by
 let⟨od,J,hl⟩:=I.look;exact PySem.W.method_fn X J (zcE hg).1 (zcE hg).2 hf (beq_iff_eq.mp ht) (by show(PySem.W.lookIn name od).map (·.isSome)=some false;rw[hl,hv];rfl) h
def JDm {ns:Tn}{Q:Unit->AP->Prop}(X:K.In s.heap)(I:xO s.heap x dx C mA)
  (hs:PySem.W.findIn K (.ref C) "__setattr__" = some (some (.builtin "object.__setattr__"))) (hp:PySem.W.plainOver K C=true) (ht:PySem.W.takerIn K C name=some none) (hh:PySem.W.hasDictIn K C=true)
  (hw:PySem.Within mA ns) (hsz:ns.length<=sizeLine)
  (h:∀h',xO h' x dx C (λy=>if y=name then some v else mA y)->Heap.SameBut dx s.heap h'->Q () {s with heap:=h',toks:=s.toks+2}) :
  wpAny (model prog w) A (setAttr (.ref x) name v) Q E s:=by
 let⟨od,J,hl⟩:=I.look;refine PySem.W.set_plain X J hs (PySem.W.osa_open (s:={s with toks:=s.toks+1}) (r:=none) X J hp ht λb=>?_);let⟨cd,hc,hd'⟩:=PySem.W.any_some hh;have hx:s.heap.get? x=some {.ref C,some dx,.plain,#[]}:=I.obj;refine Ak (Ay (Ak (Ak (wpAny_loadPart hx (Ak (PySem.W.Looks.here (s:={s with toks:=s.toks+1}) (PySem.W.looks_clsIn X hc) ?_))))));rw[hd'];refine Ay (a:=some dx) (Ak (Ay (Ak ?_)));refine wpAny_nsSet1 (s:={s with toks:=s.toks+1}) I.ns λh' hn2 hs2=>?_;let⟨oD,esD,epD,hoD,hdD,hcD⟩:=hn2.count (PySem.Within.cons name v hw);refine Ak (wpAny_lookBehind hoD (by rw[hdD];exact pastItsLine_dict (Dk hcD (by rw[CK];omega))) ?_);exact Ay (h _ {(hs2.2 _ (Ne.symm I.ne)).trans I.obj,hn2,I.ne} hs2)
def JB3 {R:Result->AP->Prop}{vs:Te}{kw:R4 (Str×AU)}(X:K.In s.heap)(hm:PySem.W.makesIn K C=true)
  (hi:PySem.W.findIn K (.ref C) "__init__" = some (some (.ref f))) (hf:PySem.W.typeIn K (.ref f)=some (.type "function"))
  (h:codeAny (model prog w) (A.under (.builtin "type.__call__" {.ref C::vs,kw})) (.call (.ref f) {.ref (s.heap.objs.size+1)::vs,kw}) (PySem.W.InitBack (s.heap.objs.size+1) R)
   {s with heap:=(s.heap.push PySem.W.emptyDict).push (PySem.W.instObj C s.heap.objs.size)}) :
  codeAny (model prog w) A (.call (.ref C) {vs,kw}) R s:=by
 let⟨hh,g,d,t,os⟩:=s;exact PySem.W.make_core (PySem.W.makes_of X hm) (PySem.W.looks_findIn X hi) (λself=>PySem.W.bind_fn X self hf) (.inl rfl) h
end
noncomputable def je (f:Str)(v:V):R4 (Str×V)->R4 (Str×V)
 |[]=>[(f,v)]
 |(g,x)::r=>if g=f then (g,v)::r else (g,x)::je f v r
theorem nU (f g:Str)(v:V):∀fs:R4 (Str×V),(je f v fs).lookup g=if g=f then some v else fs.lookup g
 |[]=>by
  show List.lookup g [(f,v)]=_
  by_cases h:g=f
  ·have hb:(g == f)=true:=beq_iff_eq.mpr h;rwa[List.lookup,hb,Ae h]
  ·have hb:(g == f)=false:=beq_eq_false_iff_ne.mpr h;rwa[List.lookup,hb,Ac h]
 |(k,x)::r=>by
  have ih:=nU f g v r;rw[show je f v ((k,x)::r)=(if k=f then (k,v)::r else (k,x)::je f v r) from rfl];by_cases hk:k=f
  ·rw[Ae hk];by_cases h:g=k
   ·have hb:(g == k)=true:=beq_iff_eq.mpr h;rwa[List.lookup,hb,Ae (h.trans hk)]
   ·have hb:(g == k)=false:=beq_eq_false_iff_ne.mpr h;rwa[List.lookup,hb,Ac (λe:g=f=>h (e.trans hk.symm))]
  ·rw[Ac hk];by_cases h:g=k
   ·have hb:(g == k)=true:=beq_iff_eq.mpr h;rwa[List.lookup,hb,Ac (λe:g=f=>hk (h.symm.trans e))]
   ·have hb:(g == k)=false:=beq_eq_false_iff_ne.mpr h;rwa[List.lookup,hb];exact ih
theorem ng (f:Str)(v:V):∀fs:R4 (Str×V),f∈(je f v fs).map (·.1)/\∀g,g∈fs.map (·.1)->g∈(je f v fs).map (·.1)
 |[]=>{by simp[je],λg h=>by simp at h}
 |(k,x)::r=>by
  let⟨i1,i2⟩:=ng f v r;rw[show je f v ((k,x)::r)=(if k=f then (k,v)::r else (k,x)::je f v r) from rfl];by_cases hk:k=f
  ·rw[Ae hk];subst hk;exact{by simp,λg h=>by simpa using h}
  ·rw[Ac hk];refine{?_,λg h=>?_}
   ·rw[BH];exact Br _ i1
   ·rw[BH] at h ⊢;rcases BV.mp h with e|e
    ·exact BV.mpr (.inl e)
    ·exact Br _ (i2 g e)
theorem nW (f:Str)(v:V):∀fs:R4 (Str×V),(je f v fs).length<=fs.length+1
 |[]=>by simp[je]
 |(k,x)::r=>by
  have ih:=nW f v r;rw[show je f v ((k,x)::r)=(if k=f then (k,v)::r else (k,x)::je f v r) from rfl];by_cases hk:k=f
  ·rw[Ae hk,CK,CK];omega
  ·rw[Ac hk,CK,CK];omega
theorem lq.some_of {v:V}{o:Tg}(r:lq (some v) o):∃u,o=some u/\aP v u:=by
 cases o with
 |none=>exact(show False from r).elim
 |some u=>exact{u,rfl,r}
theorem lq.none_of {o:Tg}(r:lq none o):o=none:=by
 cases o with
 |none=>rfl
 |some u=>exact(show False from r).elim
theorem JAm {v:V}{u:AU}(r:aP v u):PySem.W.handedIn u=true:=by
 cases v with
 |non=>cases(show u=Value.none from r);rfl
 |bl b=>cases(show u=Value.bool b from r);rfl
 |int i=>let⟨t,e⟩:=(show ∃t,u=Value.int i t from r);cases e;rfl
 |str x=>let⟨t,e⟩:=(show ∃t,u=Value.str x t from r);cases e;rfl
 |byt b=>let⟨t,e⟩:=(show ∃t,u=Value.bytes b t from r);cases e;rfl
 |flt b=>let⟨t,e⟩:=(show ∃t,u=Value.float b t from r);cases e;rfl
 |ref a=>cases(show u=Value.ref a from r);rfl
 |ty n=>cases(show u=Value.type n from r);rfl
section
variable {P:Aj}{w:An}{H:Hp}{h:Am}{a C dx:Aa}{fs:R4 (Str×V)}
def tI (hok:f7 P w H h)(e:H a=some (.ins C dx fs)):∃mA,xO h a dx C mA/\(∀f,lq (fs.lookup f) (mA f))/\PySem.Within mA (fs.map (·.1))/\fs.length<=1000/\H dx=some (.own a):=by let⟨d,z,ne,ob,mA,n,r,q⟩:=(show be P w H h a (.ins C dx fs) from hok a _ e);exact{mA,{ob,n,ne},r,q,z,d}
end
structure Es (K:Ax)(C:Addr):Prop where
 pg:PySem.W.plainGet K C Str.empty=true
 hd:PySem.W.hasDictIn K C=true
 po:PySem.W.plainOver K C=true
 sa:PySem.W.findIn K (.ref C) "__setattr__" = some (some (.builtin "object.__setattr__"))
def Es.get {K:Ax}{C:Aa}(c:Es K C)(f:Str):PySem.W.plainGet K C f=true:=c.pg
def ff (K:Ax)(C:Aa)(f:Str):Prop:=PySem.W.findIn K (.ref C) f=some none
def ff.taker {K:Ax}{C:Aa}{f:Str}(n:ff K C f):PySem.W.takerIn K C f=some none:=by unfold PySem.W.takerIn;rw[show PySem.W.findIn K (.ref C) f=some none from n];rfl
structure Ef (K:Ax)(C:Addr)(m:Str)(f:Addr):Prop where
 at_:PySem.W.findIn K (.ref C) m=some (some (.ref f))
 fn:PySem.W.isFn K (.ref f)=true
 kp:PySem.W.keepIn K (.ref f)=true
section
variable {X:Cx}{AB:Tc}{Y:St}{H:Hp}{s:AP}{a C dx:Aa}{fs:R4 (Str×V)}{f:Str}{v:V}{A:Ar}{E:Tb}
def xw {b:Ad}{Q:Tb}(I:az X AB Y H s)(e:H a=some (.ins C dx fs))(c:Es X.K C)(n:ff X.K C f)(l:fs.lookup f=some v)
  (h:∀u s',az X AB Y H s'->aP v u->Q u s'):wpAny (model X.prog X.w) A (getAttr (.ref a) f b) Q E s:=by
 let⟨mA,Ozz,r,_,_,_⟩:=tI I.hok e;let⟨u,hu,ru⟩:=lq.some_of (v:=v) (o:=mA f) (by rw[←l];exact r f);exact JD8 I.kIn Ozz (c.get f) c.hd n hu (JAm ru) (h u _ (I.tok _) ru)
def qh {m:Str}{g:Aa}{pl:Sem Ad}{Q:AU×R4 AU->AP->Prop}(I:az X AB Y H s)(e:H a=some (.ins C dx fs))(c:Es X.K C)(k:Ef X.K C m g)(l:fs.lookup m=none)
  (h:Q (.ref g,[.ref a]) s):wpAny (model X.prog X.w) A (getMethod (.ref a) m pl) Q E s:=by
 let⟨mA,Ozz,r,_,_,_⟩:=tI I.hok e;have hn:mA m=none:=lq.none_of (by rw[←l];exact r m);exact JC3 I.kIn Ozz (c.get m) k.at_ k.fn hn h
def wO {y:V}{u:AU}{Q:Unit->AP->Prop}(I:az X AB Y H s)(e:H a=some (.ins C dx fs))(c:Es X.K C)(n:ff X.K C f)(hl:fs.length<1000)(ry:aP y u)
  (h:∀s',az X AB Y (upd H a (.ins C dx (je f y fs))) s'->Q () s'):wpAny (model X.prog X.w) A (setAttr (.ref a) f u) Q E s:=by
 let⟨mA,Ozz,r,wi,_,ho⟩:=tI I.hok e
 have hz:(fs.map (·.1)).length<=sizeLine:=by rw[BR,D9];omega
 refine JDm I.kIn Ozz c.sa c.po n.taker c.hd wi hz λh' O'z sb=>h _ ?_;have hd:∃o,h'.get? dx=some o:=let ⟨o,_,_,e',_⟩:=O'z.ns;{o,e'};refine I.write (x:=a) (e:=dx) (by rw[e];exact True.intro) (.inr ho) (λb q hb z=>(sb.2 b hb).trans z) hd ?_;refine{by rw[aq Ozz.ne];exact ho,?_,Ozz.ne,O'z.obj,_,O'z.ns,λg=>?_,λg hg=>?_}
 ·have:=nW f y fs;omega
 ·show lq ((je f y fs).lookup g) (if g=f then some u else mA g)
  rw[nU]
  by_cases q:g=f
  ·rw[Ae q,Ae q];exact ry
  ·rw[Ac q,Ac q];exact r g
 ·by_cases q:g=f
  ·rw[q];exact(ng f y fs).1
  ·refine(ng f y fs).2 g (wi g λz=>hg ?_)
   show(if g=f then some u else mA g)=none
   rw[Ac q];exact z
def az.made (I:az X AB Y H s):az X AB Y (upd (upd H s.heap.objs.size (.own (s.heap.objs.size+1))) (s.heap.objs.size+1) (.ins C s.heap.objs.size []))
  {s with heap:=(s.heap.push PySem.W.emptyDict).push (PySem.W.instObj C s.heap.objs.size)}:=by
 have e1:(s.heap.push PySem.W.emptyDict).get? s.heap.objs.size=some PySem.W.emptyDict:=Bd s.heap rfl
 have e2:((s.heap.push PySem.W.emptyDict).push (PySem.W.instObj C s.heap.objs.size)).get? (s.heap.objs.size+1)=some (PySem.W.instObj C s.heap.objs.size):=by
  have:=Bd (s.heap.push PySem.W.emptyDict) (o:=PySem.W.instObj C s.heap.objs.size) rfl
  (rw[E8] at this;assumption)
 have e3:(s.heap.push PySem.W.emptyDict).Ns s.heap.objs.size (λ_=>none):={PySem.W.emptyDict,#[],_,e1,rfl,(λe he=>Au he ∅),λ_=>rfl};have I1:=I.laid (a:=s.heap.objs.size) (o:=.own (s.heap.objs.size+1)) (h':=s.heap.push PySem.W.emptyDict) (t':=s.toks) (λb u q=>BK _ q) (BL _) {_,e1};refine I1.laid (a:=s.heap.objs.size+1) (o:=.ins C s.heap.objs.size []) (t':=s.toks) (λb u q=>BK _ q) (Nat.le_of_eq (E8 _ _)) ?_;have ne:s.heap.objs.size≠s.heap.objs.size+1:=BX (zbR _);refine{by rw[aq ne,aN],Cr _,ne,e2,λ_=>none,(Heap.Ns1.of_empty e3).at λo q=>BK _ q,λ_=>True.intro,λy hy=>Au rfl hy}
def JE9 {prog:Aj}{w:An}{env:Env}{e:As}{f:Str}{pos:Pos}{s:AP}{Q:Tb}(hb:attributeBase e f env (eval e env)=eval e env)
  (h:wpAny (model prog w) A (eval e env) (λo s₁=>wpAny (model prog w) A (getAttr o f true) Q E s₁) E s):wpAny (model prog w) A (eval (.Attribute e f pos) env) Q E s :=
 Attribute_any_ h (by rw[arm_eval_Attribute,hb])
end
def MK (K:Ax)(ta:TE)(f:Str):TE:=λY H Q=>ta Y H λx H1=>∃a C dx fs v,x=.ref a/\H1 a=some (.ins C dx fs)/\Es K C/\ff K C f/\fs.lookup f=some v/\Q v H1
def MX (K:Ax)(ta tv:TE)(f:Str):TS:=λD Y H=>tv Y H λy H1=>ta Y H1 λx H2=>∃a C dx fs,x=.ref a/\H2 a=some (.ins C dx fs)/\Es K C/\ff K C f/\fs.length<1000 /\
 D.nx Y (upd H2 a (.ins C dx (je f y fs)))
section
variable {X:Cx}{o e value:As}{f:Str}{pos pos':Pos}{ta tv:TE}
def Kq (he:PE X e ta)(hb:attributeBase e f X.env (eval e X.env)=eval e X.env):PE X (.Attribute e f pos) (MK X.K ta f):=by intro AB s Y H Q I h;refine JE9 hb (cP (he AB s Y H _ I h) λu s1 hh=>?_);let⟨x,H1,I1,rx,a,C,dx,fs,v,ex,ea,c,n,l,q⟩:=hh;subst ex;obtain rfl:u=Value.ref a:=rx;exact xw I1 ea c n l λu' s2 I2 ru=>{v,H1,I2,ru,q}
def Kg (ha:PE X o ta)(hv:PE X value tv)(hs:swapsWith value (some (.Attribute o f pos')) pos.line X.env=pure false):PS X (.Assign [.Attribute o f pos'] value pos) (MX X.K ta tv f):=by intro AB s Y H D I h;refine plainObj_wpAny_Assign_Attribute (cP (hv AB s Y H _ I h) λu s1 hh=>?_) hs;let⟨y,H1,I1,ry,q⟩:=hh;refine cP (ha AB s1 Y H1 _ I1 q) λov s2 hh=>?_;let⟨x,H2,I2,rx,a,C,dx,fs,ex,ea,c,n,l,q2⟩:=hh;subst ex;obtain rfl:ov=Value.ref a:=rx;exact wO I2 ea c n l ry λs3 I3=>{Y,_,I3,q2}
end
structure bG (k:Nat)(A:Around):Prop where
 hd:A.handled=none
 dp:A.depth+3*k+5<recursionLimit
 un:A.units+16*k+200<cLine
def bG.mono {j k:Nat}(r:bG k A)(h:j<=k):bG j A:={r.hd,by have:=r.dp;omega,by have:=r.un;omega}
def bG.deeper {k:Nat}{A:Ar}(r:bG (k+1) A)(env:Env):bG k (A.deeper env) :=
 {r.hd,by have:=r.dp;show A.depth+1+3*k+5<_;omega,by have:=r.un;show A.units+3+16*k+200<_;omega}
def xh {A:Ar}{C:Aa}{us:Te}{kw:R4 (Str×AU)}:(A.under (.builtin "type.__call__" {.ref C::us,kw})).depth=A.depth+1:=by first|rfl|simp[Around.under,Code.weight,Code.isCreation,Code.isGuard,Code.isCaller,Code.frames,Code.isFrame,guardIds]
def xg {A:Ar}{C:Aa}{us:Te}{kw:R4 (Str×AU)}:(A.under (.builtin "type.__call__" {.ref C::us,kw})).units=A.units+1:=by first|rfl|simp[Around.under,Code.cUnits,Code.frames,Code.isFrame]
def bG.make {k:Nat}{A:Ar}(r:bG (k+1) A)(C:Aa)(us:Te)(kw:R4 (Str×AU)):bG k (A.under (.builtin "type.__call__" {.ref C::us,kw})) :=
 {r.hd,by have:=r.dp;rw[xh];omega,by have:=r.un;rw[xg];omega}
def bG.depth {k:Nat}{A:Ar}(r:bG k A):A.depth<recursionLimit:=by have:=r.dp;omega
def bG.units {k:Nat}{A:Ar}(r:bG k A):A.units+64<cLine:=by have:=r.un;omega
def wJ:TA:=λ_ H Q=>Q [] H
def nN (ta:TE)(tr:TA):TA:=λY H Q=>ta Y H λx H1=>tr Y H1 λxs H2=>Q (x::xs) H2
section
variable {X:Cx}{e:As}{es:Tj}{te:TE}{t:TA}{pos:Pos}
def pZ:PA X [] wJ:=λ_ _ _ _ H Q I h=>Calls.spliced_nil {[],H,I,.nil,h}
def jf (ha:PE X e te)(hr:PA X es t)(hs:starEach (e::es) X.env=(false,eval e X.env)::starEach es X.env:=by rfl):PA X (e::es) (nN te t):=by
 intro pos AB s Y H Q I h;rw[hs]
 show wpAny _ _ (spliced ((false,eval e X.env)::backTo pos (starEach es X.env))) _ _ s
 refine Calls.spliced_cons (cP (ha AB s Y H _ I h) λu s1 hh=>?_);let⟨x,H1,I1,r1,q1⟩:=hh;exact cP (hr pos AB s1 Y H1 _ I1 q1) λus s2 ⟨xs,H2,I2,r2,q2⟩=>{x::xs,H2,I2,.cons r1 r2,q2}
def Jb (t:TA):TE:=λY H Q=>t Y H λxs H1=>xs.length<=sizeLine/\∀p,H1 p=none->Q (.ref p) (upd H1 p (.tup xs))
def Jd (t:TA):TE:=λY H Q=>t Y H λxs H1=>xs.length<=sizeLine/\∀p,H1 p=none->Q (.ref p) (upd H1 p (.lst xs))
def Ct {x1}(h:PA X es t):PE X (.Tuple es x1 pos) (Jb t):=by intro AB s Y H Q I hq;refine wpAny_Tuple_spliced (cP (h pos AB s Y H _ I hq) λus s1 hh=>?_);let⟨xs,H1,I1,r,z,q⟩:=hh;refine{by rw[←r.length];exact z,?_};have hf:H1 s1.heap.objs.size=none:=I1.hok.fresh (BL _);refine{.ref s1.heap.objs.size,upd H1 s1.heap.objs.size (.tup xs),I1.laid (t':=s1.toks) (λb u e=>BK _ e) (BL _) ?_,rfl,q _ hf};exact{z,us,r,jC.new _ _}
def Cv (h:PA X es t):PE X (.List es pos) (Jd t):=by intro AB s Y H Q I hq;refine wpAny_List_spliced (cP (h pos AB s Y H _ I hq) λus s1 hh=>?_);let⟨xs,H1,I1,r,z,q⟩:=hh;refine{by rw[←r.length];exact z,?_};have hf:H1 s1.heap.objs.size=none:=I1.hok.fresh (BL _);refine{.ref s1.heap.objs.size,upd H1 s1.heap.objs.size (.lst xs),I1.laid (t':=s1.toks) (λb u e=>BK _ e) (BL _) ?_,rfl,q _ hf};exact{z,us,0,r,Bd _ rfl}
end
abbrev Sp:=R4 V->Hp->VK->XK->Prop
abbrev zm:=R4 Env->Hp->AP->XK->Tb
structure xP (P:Program)(w:World)(K:Ax)(mg:Td)(base:Heap)(A:Around)(outer:List Env)(s:Shared)(H:Hp):Prop where
 frames:A.frames=some outer
 mod:Mod K mg base
 bs:∀b o,base.get? b=some o->s.heap.get? b=some o/\H b=none
 bsz:base.objs.size<=s.heap.objs.size
 funs:s.heap.FunFrames base outer
 frf:∀b∈Ao outer,H b=none
 hok:f7 P w H s.heap
 bare:AllBare s.gens
def CE (outer:R4 Env)(P:Aj)(w:An)(H:Hp)(s:AP)(Q:VK)(u:AU)(s':AP):Prop :=
 ∃v H',s'.os=s.os/\AllBare s'.gens/\Un (Ao outer) [] H H' s.heap s'.heap/\f7 P w H' s'.heap/\aP v u/\Q v H'
def JBz (CX:zm)(outer:R4 Env)(P:Aj)(w:An)(H:Hp)(s:AP)(Q:VK)(E:XK)(r:Result)(s':AP):Prop :=
 match r with
 |.ok (.ret u)=>CE outer P w H s Q u s'
 |.ok _=>False
 |.error e=>CX outer H s E e s'
structure cw (P:Program)(w:World)(K:Ax)(mg:Td)(base:Heap)(CX:zm)(k:Nat)(f:Addr)(fd:FuncData)(ps:Tn)(sp:Sp):Prop where
 len:∀vs H Q E,sp vs H Q E->vs.length=ps.length
 run:∀(A:Around) (outer:List Env) (s:Shared) (H:Hp) (args:Args) (us:Te) (vs:List V) (Q:VK) (E:XK),bG k A->xP P w K mg base A outer s H->BindsTo s fd args (ps.zip us)->aM vs us->sp vs H Q E ->
  codeAny (model P w) A (.call (.ref f) args) (JBz CX outer P w H s Q E) s
def cw.imp {P:Aj}{w:An}{K:Ax}{mg:Td}{base:Am}{CX:zm}{k:Nat}{f:Aa}{fd:FuncData}{ps:Tn}{sp sp':Sp}(F:cw P w K mg base CX k f fd ps sp)
  (h:∀vs H Q E,sp' vs H Q E->sp vs H Q E):cw P w K mg base CX k f fd ps sp' :=
 {λvs H Q E q=>F.len vs H Q E (h _ _ _ _ q),λA outer s H args us vs Q E hr he hb hv hs=>F.run A outer s H args us vs Q E hr he hb hv (h _ _ _ _ hs)}
def xP.make {K:Ax}{mg:Td}{base:Am}{outer:R4 Env}{s:AP}{H:Hp}(e:xP P w K mg base A outer s H)(C:Aa)(us:Te)(kw:R4 (Str×AU)) :
  xP P w K mg base (A.under (.builtin "type.__call__" {.ref C::us,kw})) outer s H:={by first|exact e.frames|(simpa[Around.under,Code.envs,Code.isFrame,pushEnvs] using e.frames),e.mod,e.bs,e.bsz,e.funs,e.frf,e.hok,e.bare}
section
variable {X:Cx}{AB:Tc}{Y:St}{H:Hp}{s s':AP}
def az.env0 (I:az X AB Y H s):xP X.prog X.w X.K X.mg X.base X.A X.stack s H :=
 {I.ok.frames,I.ok.mod,I.bs,Dk I.ok.bsz I.sz,I.stack,I.stkFree,I.hok,I.bare}
def az.after {Q:VK}{u:AU}(I:az X AB Y H s)(h:CE X.stack X.prog X.w H s Q u s'):EP X AB Y Q u s':=by let⟨v,H',os,bare,un,hok,r,q⟩:=h;let⟨hh,g,d,t,JP⟩:=s';obtain rfl:JP=s.os:=os;exact{v,H',I.call (h':=hh) (g':=g) (d':=d) (t':=t) (ch:=[]) un hok bare (λb z=>Au z ∅),r,q}
end
def uA (sp:Sp)(Cm:R4 V)(E:XK)(t:TA):TE:=λY H Q=>t Y H λvs H1=>sp (vs++Cm) H1 Q E
def Bh (C:Aa)(m:Str)(sp:Sp)(Cm:R4 V)(E:XK)(ta:TE)(t:TA):TE:=λY H Q=>ta Y H λx H1=>∃a dx fs,x=.ref a/\H1 a=some (.ins C dx fs)/\fs.lookup m=none /\
 t Y H1 λvs H2=>sp (x::(vs++Cm)) H2 Q E
def Hy (C:Aa)(sp:Sp)(Cm:R4 V)(E:XK)(t:TA):TE:=λY H Q=>t Y H λvs H1=>∀x dx,H1 x=none->H1 dx=none->dx≠x ->
 sp (.ref x::(vs++Cm)) (upd (upd H1 dx (.own x)) x (.ins C dx [])) (λv H2=>v=.non/\Q (.ref x) H2) E
def fR (K:Ax)(fd:FuncData)(ps:Tn)(ds:Te):Prop :=
 ∀(s:AP) (us:Te),K.In s.heap->(us++ds).length=ps.length->BindsTo s fd {us,[]} (ps.zip (us++ds))
def fR.all {K:Ax}{ps:Tn}(h:∀us:Te,us.length=ps.length->bindArgs fd {us,[]}=pure (ps.zip us)):fR K fd ps []:=λs us _ hl=>by rw[DL] at hl ⊢;exact .of_eq (h us hl)
def lZ (CX:zm)(X:Cx)(E:XK):Prop:=∀(AB:Tc) (Y:St) (H:Hp) (s:AP) (e:AU) (s':AP),az X AB Y H s->CX X.stack H s E e s'->X.xe e s'
section
variable {X:Cx}{CX:zm}{k:Nat}{f C:Aa}{fd:FuncData}{ps:Tn}{sp:Sp}{Cm:R4 V}{ds:Te}{E:XK}{x m:Str}{p pos apos:Pos}{e o:As}{es:Tj}{ta:TE}{t:TA}
theorem wU {AB:Tc}{Y:St}{H:Hp}{s:AP}{Q:VK}{us:Te}{vs:R4 V}(F:cw X.prog X.w X.K X.mg X.base CX k f fd ps sp)(hr:bG k X.A)(hb:fR X.K fd ps ds)(hd:aM Cm ds)(hx:lZ CX X E)
  (I:az X AB Y H s) (r:aM vs us) (h:sp (vs++Cm) H Q E):wpAny (model X.prog X.w) X.A (call (.ref f) us) (EP X AB Y Q) X.xe s:=by
 have r2:aM (vs++Cm) (us++ds):=r.append hd
 have hl:(us++ds).length=ps.length:=by rw[←r2.length];exact F.len _ _ _ _ h
 refine wpAny_call (Fd (F.run X.A X.stack s H {us,[]} (us++ds) (vs++Cm) Q E hr I.env0 (hb s us I.kIn hl) r2 h) λr s' hq=>?_)
 cases r with
 |error e=>exact hx AB Y H s e s' I hq
 |ok fl=>
  cases fl with
  |ret u=>exact I.after hq
  |next=>exact False.elim hq
  |brk=>exact False.elim hq
  |cont=>exact False.elim hq
def oO (F:cw X.prog X.w X.K X.mg X.base CX k f fd ps sp)(hr:bG k X.A)(hg:Gl X x)(hm:X.mg x=some (.ref f))(hk:PySem.W.keepIn X.K (.ref f)=true)(hb:fR X.K fd ps ds)(hd:aM Cm ds)(hx:lZ CX X E)
  (ha:PA X (e::es) t) (C2:(x == ("__debug__" : Str))=false:=by decide) (he:starEach (e::es) X.env=(false,eval e X.env)::starEach es X.env:=by rfl) (hpl:(backTo pos (starEach es X.env)).any (·.1)=false:=by rfl) :
  PE X (.Call (.Name x p) (e::es) [] pos) (uA sp Cm E t):=by
 intro AB s Y H Q I h;refine zbV (tu I hg hm ?_ C2);refine zcH (h₀:=X.base) I.ok.mod.kin hk (cP (ha pos AB s Y H _ I h) λus s1 hh=>?_) he hpl;let⟨vs,H1,I1,r,q⟩:=hh;refine{I1.kIn,?_};exact wU F hr hb hd hx I1 r q
def JEu {pl:Sem Ad}(he:PE X o ta)(c:Es X.K C)(hm:Ef X.K C m f)(F:cw X.prog X.w X.K X.mg X.base CX k f fd ps sp)(hr:bG k X.A)(hb:fR X.K fd ps ds)(hd:aM Cm ds)(hx:lZ CX X E)(ha:PA X (e::es) t)
  (Cj:starEach (e::es) X.env=(false,eval e X.env)::starEach es X.env:=by rfl) (hpl:(backTo pos (starEach es X.env)).any (·.1)=false:=by rfl)
  (ht:eval (.Call (.Attribute o m apos) (e::es) [] pos) X.env=(do
   let ov ←eval o X.env
   standAt apos.atName
   let (f,first) ←holding [ov] (getMethod ov m pl)
   callWith pos f first (backTo pos (starEach (e::es) X.env)) (backToKw pos (keywordEach [] X.env))):=by rfl) :
  PE X (.Call (.Attribute o m apos) (e::es) [] pos) (Bh C m sp Cm E ta t):=by
 intro AB s Y H Q I h;refine PySem.W.methodCall_KW (pl:=pl) (cP (he AB s Y H _ I h) λu s1 hh=>?_) ht;let⟨x,H1,I1,rx,a,dx,fs,ex,ea,l,q⟩:=hh;subst ex;obtain rfl:u=Value.ref a:=rx;refine qh I1 ea c hm l ?_;refine zcH (first:=[.ref a]) (h₀:=X.base) I.ok.mod.kin hm.kp (cP (ha pos AB s1 Y H1 _ I1 q) λus s2 hh=>?_) Cj hpl;let⟨vs,H2,I2,r,q2⟩:=hh;refine{I2.kIn,?_};exact wU (us:=.ref a::us) (vs:=.ref a::vs) F hr hb hd hx I2 (.cons rfl r) q2
def JCe {pl:Sem Ad}(he:PE X o ta)(c:Es X.K C)(hm:Ef X.K C m f)(F:cw X.prog X.w X.K X.mg X.base CX k f fd ps sp)(hr:bG k X.A)(hb:fR X.K fd ps ds)(hd:aM Cm ds)(hx:lZ CX X E)
  (ht:eval (.Call (.Attribute o m apos) [] [] pos) X.env=(do
   let ov ←eval o X.env
   standAt apos.atName
   let (f,first) ←holding [ov] (getMethod ov m pl)
   callWith pos f first (backTo pos (starEach [] X.env)) (backToKw pos (keywordEach [] X.env))):=by rfl) :
  PE X (.Call (.Attribute o m apos) [] [] pos) (Bh C m sp Cm E ta wJ):=by
 intro AB s Y H Q I h;refine PySem.W.methodCall_KW (pl:=pl) (cP (he AB s Y H _ I h) λu s1 hh=>?_) ht;let⟨x,H1,I1,rx,a,dx,fs,ex,ea,l,q⟩:=hh;subst ex;obtain rfl:u=Value.ref a:=rx;refine qh I1 ea c hm l ?_;exact PySem.W.callWith_K0 (first:=[.ref a]) I1.kIn hm.kp (wU (us:=[.ref a]) (vs:=[.ref a]) F hr hb hd hx I1 (.cons rfl .nil) q)
structure Mk (K:Ax)(C f:Addr):Prop where
 makes:PySem.W.makesIn K C=true
 init:PySem.W.findIn K (.ref C) "__init__" = some (some (.ref f))
 fn:PySem.W.isFn K (.ref f)=true
 kp:PySem.W.keepIn K (.ref C)=true
theorem JAz {AB:Tc}{Y:St}{H:Hp}{s:AP}{Q:VK}{us:Te}{vs:R4 V}(M:Mk X.K C f)(F:cw X.prog X.w X.K X.mg X.base CX k f fd ps sp)(hr:bG (k+1) X.A)(hb:fR X.K fd ps ds)(hd:aM Cm ds)
  (hx:lZ CX X E) (I:az X AB Y H s) (r:aM vs us)
  (h:∀x dx,H x=none->H dx=none->dx≠x->sp (.ref x::(vs++Cm)) (upd (upd H dx (.own x)) x (.ins C dx [])) (λv H2=>v=.non/\Q (.ref x) H2) E) :
  wpAny (model X.prog X.w) X.A (call (.ref C) us) (EP X AB Y Q) X.xe s:=by
 have hq:=h (s.heap.objs.size+1) s.heap.objs.size (I.hok.fresh (Fz _)) (I.hok.fresh (BL _)) (BX (zbR _));have I2:=az.made (C:=C) I;have r2:aM (V.ref (s.heap.objs.size+1)::(vs++Cm)) (Value.ref (s.heap.objs.size+1)::(us++ds)):=.cons rfl (r.append hd)
 have hl:(Value.ref (s.heap.objs.size+1)::us++ds).length=ps.length:=by
  have e:=r2.length;rw[F.len _ _ _ _ hq] at e;exact e.symm
 refine wpAny_call (JB3 (f:=f) I.kIn M.makes M.init (beq_iff_eq.mp M.fn) (Fd (F.run _ X.stack _ _ {Value.ref (s.heap.objs.size+1)::us,[]} (Value.ref (s.heap.objs.size+1)::(us++ds)) _ _ E (hr.make C us [])
  (I2.env0.make C us []) (hb _ (Value.ref (s.heap.objs.size+1)::us) I2.kIn hl) r2 hq) λr s' hq'=>?_))
 cases r with
 |error e=>exact hx AB Y _ _ e s' I2 hq'
 |ok fl=>
  cases fl with
  |ret u=>
   let⟨v,H',I3,rv,ev,q3⟩:=I2.after hq';subst ev;exact{rv,{V.ref (s.heap.objs.size+1),H',I3,rfl,q3}}
  |next=>exact False.elim hq'
  |brk=>exact False.elim hq'
  |cont=>exact False.elim hq'
def JEv (M:Mk X.K C f)(F:cw X.prog X.w X.K X.mg X.base CX k f fd ps sp)(hr:bG (k+1) X.A)(hg:Gl X x)(hm:X.mg x=some (.ref C))(hb:fR X.K fd ps ds)(hd:aM Cm ds)(hx:lZ CX X E)
  (ha:PA X (e::es) t) (C2:(x == ("__debug__" : Str))=false:=by decide) (he:starEach (e::es) X.env=(false,eval e X.env)::starEach es X.env:=by rfl) (hpl:(backTo pos (starEach es X.env)).any (·.1)=false:=by rfl) :
  PE X (.Call (.Name x p) (e::es) [] pos) (Hy C sp Cm E t):=by
 intro AB s Y H Q I h;refine zbV (tu I hg hm ?_ C2);refine zcH (h₀:=X.base) I.ok.mod.kin M.kp (cP (ha pos AB s Y H _ I h) λus s1 hh=>?_) he hpl;let⟨vs,H1,I1,r,q⟩:=hh;refine{I1.kIn,?_};exact JAz M F hr hb hd hx I1 r q
end
structure aA (N P:Tn)(sc:Scope):Prop where
 kind:sc.kind=.function
 co:sc.isCoroutine=false
 gen:sc.isGenerator=false
 nd:N.Nodup
 pre:N.take P.length=P
 par:∀x∈P,sc.names.lookup x=some .local\/sc.names.lookup x=some .cell
 nofree:∀y∈sc.names,y.2≠.free
theorem sv {kindOf:Str->AA NameKind}{x:Str}:∀{binds:R4 (Str×AU)} {m:Td},(∀v,(x,v)∉binds)->bindL kindOf binds m x=m x
 |[],_,_=>rfl
 |(n,v)::r,m,h=>by
  unfold bindL;rw[sv λw hw=>h w (Br _ hw)];split
  ·have:x≠n:=by rintro rfl;exact h v Be
   simp[this]
  ·rfl
theorem sx {kindOf:Str->AA NameKind}{x:Str}:∀{binds:R4 (Str×AU)} {m:Td},(∀v,(x,v)∉binds)->bindC kindOf binds m x=m x
 |[],_,_=>rfl
 |(n,v)::r,m,h=>by
  unfold bindC;rw[sx λw hw=>h w (Br _ hw)];split
  ·rfl
  ·have:x≠n:=by rintro rfl;exact h v Be
   simp[this]
theorem sw {kindOf:Str->AA NameKind}{x:Str}{v:AU}:∀{P:Tn} {vs:Te} {i:Nat} {m:Td},P.Nodup->P[i]?=some x->vs[i]?=some v->kindOf x=some .local ->
  bindL kindOf (P.zip vs) m x=some v
 |[],_,_,_,_,h,_,_=>by simp at h
 |_::_,[],_,_,_,_,h,_=>by simp at h
 |p::P,w::vs,0,m,nd,h1,h2,hk=>by
  simp at h1 h2;subst h1;subst h2
  show bindL kindOf ((p,w)::P.zip vs) m p=_
  unfold bindL;rw[sv λv hv=>(Cf.mp nd).1 (zcT hv).1,Ae hk];simp
 |p::P,w::vs,i+1,m,nd,h1,h2,hk=>by
  show bindL kindOf ((p,w)::P.zip vs) m x=_
  unfold bindL;exact sw (i:=i) (Cf.mp nd).2 ‹h1› ‹h2› hk
theorem sy {kindOf:Str->AA NameKind}{x:Str}{v:AU}:∀{P:Tn} {vs:Te} {i:Nat} {m:Td},P.Nodup->P[i]?=some x->vs[i]?=some v->kindOf x≠some .local ->
  bindC kindOf (P.zip vs) m x=some v
 |[],_,_,_,_,h,_,_=>by simp at h
 |_::_,[],_,_,_,_,h,_=>by simp at h
 |p::P,w::vs,0,m,nd,h1,h2,hk=>by
  simp at h1 h2;subst h1;subst h2
  show bindC kindOf ((p,w)::P.zip vs) m p=_
  unfold bindC;rw[sx λv hv=>(Cf.mp nd).1 (zcT hv).1,Ac hk];simp
 |p::P,w::vs,i+1,m,nd,h1,h2,hk=>by
  show bindC kindOf ((p,w)::P.zip vs) m x=_
  unfold bindC;exact sy (i:=i) (Cf.mp nd).2 ‹h1› ‹h2› hk
noncomputable def fJ (N:Tn)(vs:R4 V):St:=vs.map some++List.replicate (N.length-vs.length) none
noncomputable def jL (CX:zm)(P:Aj)(w:An)(K:Ax)(mg:Td)(base:Am)(N:Tn)(qual:Str)(scope:Scope)(f:Aa)(cd:AU)(A:Ar)(outer:R4 Env)(s:AP)(H:Hp)(E:XK):Cx where
 prog:=P
 w:=w
 K:=K
 mg:=mg
 base:=base
 A:=A.deeper (envOfC qual scope s.heap.objs.size f cd)
 N:=N
 s₀:=s
 H₀:=H
 env:=envOfC qual scope s.heap.objs.size f cd
 outer:=outer
 stack:=envOfC qual scope s.heap.objs.size f cd::outer
 ex:=[]
 calm:=true
 fn:=λ_=>true
 pn:=[]
 xe:=λe s'=>wpAny (model P w) (A.deeper (envOfC qual scope s.heap.objs.size f cd)) (leaving (envOfC qual scope s.heap.objs.size f cd) e) (λ_ Gh=>CX outer H s E e Gh) (λe' Gh=>CX outer H s E e' Gh) s'
def wc {sc:Scope}{n:Nat}{x:Str}(h:sc.names.lookup x=some .cell):∃c,(cellsFrom n sc.names []).lookup x=some c:=by have q:=zbZ sc.names n [] (.inl h);exact zcf.mp q
def JAk {CX:zm}{P:Aj}{w:An}{K:Ax}{mg:Td}{base:Am}{N ps:Tn}{qual:Str}{scope:Scope}{f:Aa}{cd:AU}{A:Ar}{outer:R4 Env}{s s1:AP}{H:Hp}{E:XK}{us:Te}{vs:R4 V}
  (S:aA N ps scope) (hd:A.handled=none) (e0:xP P w K mg base A outer s H) (hl:vs.length=ps.length) (r:aM vs us)
  (x:InCallC s s.heap.objs.size (bindL (envOfC qual scope s.heap.objs.size f cd).kindOf (ps.zip us) λ_=>none) (cellsFrom (s.heap.objs.size+1) scope.names []) (bindC (envOfC qual scope s.heap.objs.size f cd).kindOf (ps.zip us) λ_=>none) s1) :
  az (jL CX P w K mg base N qual scope f cd A outer s H E) [] (fJ N vs) H s1:=by
 have hpl:ps.length<=N.length:=by have:=Av List.length S.pre;rw[zbC] at this;omega
 let⟨h1,tk,rfl,hk⟩:=x.done;have noA:∀b:Aa,b∉(jL CX P w K mg base N qual scope f cd A outer s H E).ex:=λb z=>Au (show b∈([]:Tf) from z) ∅
 refine{{e0.mod,S.kind,rfl,rfl,BL _,λy z c h1 h2=>?_,λy hy=>?_,λy c _ h=>?_,λ_=>hd,Around.frames_deeper e0.frames,.inr {rfl,rfl},λb z=>Au z (noA b),e0.bs,e0.bsz,λb _ _=>noA b,λb z=>Au z (noA b),e0.funs,e0.frf},
  rfl,e0.bare,Un.kept hk,{_,x.toInCall.ns,λi y v h1 h2 h3=>?_},λy c h=>{_,x.cell y c h},e0.hok.fresh (BL _),λy c h=>?_,λp hp=>Au (show p∈([]:Tc) from hp) ∅,e0.hok.kept hk,?_}
 ·exact name_of_addr x.apart (PySem.mem_of_lookup h1) (PySem.mem_of_lookup h2)
 ·have hy:scope.names.lookup y=some .cell\/scope.names.lookup y=some .free:=hy
  rcases hy with hy|hy
  ·exact wc hy
  ·exact Au rfl (S.nofree _ (PySem.mem_of_lookup hy))
 ·exact Fe (x.above y c (PySem.mem_of_lookup h))
 ·have hi:i<vs.length:=by
   unfold fJ at h2
   by_cases hi:i<vs.length
   ·exact hi
   ·rw[DH ‹hi›] at h2
    rw[zbU] at h2;split at h2 <;> cases h2
  have ha:vs[i]?=some v:=by
   unfold fJ at h2;rw[Bu ‹hi›,By] at h2
   cases e:vs[i]? with
   |none=>rw[e] at h2;cases h2
   |some a=>rw[e] at h2;cases h2;rfl
  let⟨u,hu,rv⟩:=r.get ha
  have hp:ps[i]?=some y:=by
   rw[←S.pre,List.getElem?_take_of_lt ∅];exact h1
  have ndP:ps.Nodup:=by rw[←S.pre];exact S.nd.sublist (List.take_sublist _ _)
  refine{u,rv,?_};rcases S.par y (Cp hp) with k|k
  ·exact .inl {k,sw ndP hp hu k}
  ·let⟨c,e⟩:=wc (n:=s.heap.objs.size+1) k
   refine .inr {.inl k,c,e,?_};have q:=x.cell y c e;rw[sy ndP hp hu (by show scope.names.lookup y≠_;rw[k];decide)] at q;exact q
 ·exact e0.hok.fresh (Fe (x.above y c (PySem.mem_of_lookup h)))
 ·unfold fJ
  show _=N.length
  rw[Ci,BR,List.length_replicate];omega
theorem Oe {CX:zm}{P:Aj}{w:An}{K:Ax}{mg:Td}{base:Am}{k:Nat}{f:Aa}{name qual:Str}{params:Arguments}{body:Tk}{scope:Scope}{dV kV doc pm BG ct oc:AU}{an od:AA Aa}
  {Fn:Al (Tg)} {N ps:Tn} {sp:Sp} (lk:K.lookup f=some {oc,od,.func (PySem.W.fnOf name qual params body scope dV kV doc pm an BG ct),Fn}) (FV:PySem.W.codeIn K BG qual=true) (S:aA N ps scope)
  (len:∀vs H Q E,sp vs H Q E->vs.length=ps.length)
  (BN:∀(A:Ar) (outer:R4 Env) (s:AP) (H:Hp) (vs:R4 V) (Q:VK) (E:XK),bG k (A.deeper (envOfC qual scope s.heap.objs.size f BG))->sp vs H Q E ->
   ∃t,oG (jL CX P w K mg base N qual scope f BG A outer s H E) body t/\t {nx:=λ_ H'=>Q .non H',rt:=Q} (fJ N vs) H) :
  cw P w K mg base CX (k+1) f (PySem.W.fnOf name qual params body scope dV kV doc pm an BG ct) ps sp:=by
 refine{len,λA outer s H args us vs Q E hr e0 hb r Ex=>?_};have hl:=len _ _ _ _ Ex;have KX:K.In s.heap:=e0.mod.kin.keeps λb o e=>(e0.bs b o e).1;have lim:s.heap.NoLimit:=e0.mod.nolimit.keeps λb o e=>(e0.bs b o e).1
 have hkind:∀y∈ps.zip us,scope.names.lookup y.1=some .local\/(scope.names.lookup y.1=some .cell/\((cellsFrom (s.heap.objs.size+1) scope.names []).lookup y.1).isSome=true):=λ⟨n,v⟩ hy=>by
  rcases S.par n (zcT hy).1 with q|q
  ·exact .inl q
  ·exact .inr {q,zbZ _ _ _ (.inl q)}
 refine codeAny_call_function hr.depth (KX _ _ lk) rfl S.co S.gen rfl (PySem.W.codeRec_of KX FV) (hb _ _ _ _ ?_);refine wpAny_newFunctionEnv_cells S.kind hkind λenv he s1 x=>?_;subst he;refine{lim.keeps x.toInCall.keep,codeAny_func ?_};let⟨t,ht,hq⟩:=BN A outer s H vs Q E (hr.deeper _) Ex;have I:az (jL CX P w K mg base N qual scope f BG A outer s H E) [] (fJ N vs) H s1:=JAk S hr.hd e0 hl r x;refine E5 (ht [] s1 (fJ N vs) H _ I hq) (λfl s' hs=>?_) λe s' hs=>hs
 have fin:∀{Y':St} {H':Hp} {v:V} {u:AU},az (jL CX P w K mg base N qual scope f BG A outer s H E) [] Y' H' s'->aP v u->Q v H'->CE outer P w H s Q u s' :=
  λ{Y' H' v u} J rv q=>{v,H',J.os,J.bare,J.base,J.hok,rv,q}
 cases fl with
 |ret u=>
  let⟨v,Y',H',J,rv,q⟩:=hs;exact fin J rv q
 |next=>
  let⟨Y',H',J,q⟩:=hs;exact fin (v:=V.non) (u:=Value.none) J rfl q
 |brk=>
  let⟨_,_,_,q⟩:=hs;exact False.elim q
 |cont=>
  let⟨_,_,_,q⟩:=hs;exact False.elim q
section
variable {X:Cx}{x:Str}{p pos:Pos}{e:As}{es:Tj}{t:TA}{id T:String}{r:R4 V->Hp->VK->Prop}
def ML (r:R4 V->Hp->VK->Prop)(t:TA):TE:=λY H Q=>t Y H λvs H1=>r vs H1 Q
def j5 (hc:g7 X (.builtin id) r)(hg:Gl X x)(hm:X.mg x=none)(hv:bootBuiltins x=some (.builtin id))(ha:PA X (e::es) t)(hn:x≠"__name__":=by decide)(C2:(x == ("__debug__" : Str))=false:=by decide)
  (he:starEach (e::es) X.env=(false,eval e X.env)::starEach es X.env:=by rfl) (hpl:(backTo pos (starEach es X.env)).any (·.1)=false:=by rfl):PE X (.Call (.Name x p) (e::es) [] pos) (ML r t):=by
 intro AB s Y H Q I h;refine zbV (p9 I hg hm hv ?_ hn C2);exact PyProof.Rows.callWith_builtin1 (cP (ha pos AB s Y H _ I h) λus s1 ⟨vs,H1,I1,r1,q1⟩=>hc AB s1 Y H1 vs us Q I1 r1 q1) he hpl
def dA (hc:g7 X (.type T) r)(hg:Gl X x)(hm:X.mg x=none)(hv:bootBuiltins x=some (.type T))(ha:PA X (e::es) t)(hn:x≠"__name__":=by decide)(C2:(x == ("__debug__" : Str))=false:=by decide)
  (he:starEach (e::es) X.env=(false,eval e X.env)::starEach es X.env:=by rfl) (hpl:(backTo pos (starEach es X.env)).any (·.1)=false:=by rfl):PE X (.Call (.Name x p) (e::es) [] pos) (ML r t):=by
 intro AB s Y H Q I h;refine zbV (p9 I hg hm hv ?_ hn C2);exact PyProof.Rows.callWith_type1 (cP (ha pos AB s Y H _ I h) λus s1 ⟨vs,H1,I1,r1,q1⟩=>hc AB s1 Y H1 vs us Q I1 r1 q1) he hpl
end
end L2
namespace HT
open PyProof.Rows
section
variable {prog:Aj}{w:An}{A:Ar}{E:Tb}{s:AP}
def Gx {t b:Aa}{vs ws:Te}{Q:Tb}(ht:IsTup s.heap t vs.toArray)(hb:IsTup s.heap b ws.toArray)(hv:vs≠[])
  (h1:ws=[]->Q (.ref t) s) (h2:ws≠[]->Q (.ref s.heap.objs.size) {s with heap:=s.heap.push {cls:=.type "tuple",data:=.seq (vs++ws).toArray}})
  (hsz:vs.length+ws.length<=sizeLine):wpAny (model prog w) A (binaryOp .Add (.ref t) (.ref b)) Q E s:=by
 let⟨⟨cls,dd,data,sl⟩,ho,hc,n,hd⟩:=id ht;let⟨⟨cls2,dd2,data2,sl2⟩,Fs,Gz,n2,hd2⟩:=id hb;simp only at hc hd Gz hd2;subst hc hd Gz hd2
 have e:vs.toArray++ws.toArray=(vs++ws).toArray:=by simp
 by_cases hw:ws=[]
 ·exact concat_meets {_,ho,rfl} {_,Fs,rfl} noFill_tuple_add seq_tuple_add PySem.F.slot_tuple_add PySem.F.entry_tuple_add (PySem.F.args_tuple_add_2 _ _)
   (tuple_addW1 t b vs.toArray ws.toArray n n2 dd dd2 sl sl2 ‹hv› (by simp[hw])) {ho,Fs,h1 hw}
 ·refine concat_meets {_,ho,rfl} {_,Fs,rfl} noFill_tuple_add seq_tuple_add PySem.F.slot_tuple_add PySem.F.entry_tuple_add (PySem.F.args_tuple_add_2 _ _)
   (tuple_addW2 t b vs.toArray ws.toArray n n2 dd dd2 sl sl2 ‹hv› ‹hw› (by rw[Bz,Bz];exact hsz)) {ho,Fs,?_}
  rw[e];exact h2 hw
noncomputable def cO (n d:Nat):AA Int->Nat
 |none=>d
 |some v=>if v<0 then (v+(n:Int)).toNat else min v.toNat n
def yl (n d k:Nat):cO n d (some (k:Int))=min k n:=by
 show(if (k:Int)<0 then ((k:Int)+(n:Int)).toNat else min (k:Int).toNat n)=min k n
 rw[Ac ∅,Fy]
theorem JGy (n d:Nat)(hd:d<=n)(o:AA Int):cO n d o<=n:=by
 cases o with
 |none=>exact hd
 |some v=>
  show(if v<0 then (v+(n:Int)).toNat else min v.toNat n)<=n
  by_cases hv:v<0
  ·rw[Ae hv];omega
  ·rw[Ac hv];exact Nat.min_le_right _ _
def zh (v:Int)(n d:Nat):(if v<0 then max (v+(n:Int)) 0 else min v (n:Int))=((cO n d (some v):Nat):Int):=by
 show(if v<0 then max (v+(n:Int)) 0 else min v (n:Int))=(((if v<0 then (v+(n:Int)).toNat else min v.toNat n):Nat):Int)
 by_cases hv:v<0
 ·rwa[Ae hv];omega
 ·rwa[Ac hv];omega
def xL (lo hi:AA Int)(n:Nat):Builtin.Slice.sliceAdjust lo hi 1 (n:Int)=(((cO n 0 lo:Nat):Int),((cO n n hi:Nat):Int)):=by
 have h1:¬ ((1:Int)<0):=by omega
 unfold Builtin.Slice.sliceAdjust;rwa[h1,if_false];refine Prod.ext ?_ ?_
 ·cases lo with
  |none=>rfl
  |some v=>exact zh v n 0
 ·cases hi with
  |none=>rfl
  |some v=>exact zh v n n
def wX (i j:Nat):Builtin.Slice.slicePlaces (i:Int) (j:Int) 1=j-i:=by
 unfold Builtin.Slice.slicePlaces;have h1:(1:Int)>0:=by omega
 rwa[h1,if_true,Int.ediv_one];split <;> omega
theorem pB {v:AU}{o:AA Int}{Q:AA Int->AP->Prop}(p:IsPart v o)(h:Q o s):wpAny (model prog w) A (Builtin.Slice.slicePartIndex v) Q E s:=by
 cases p with
 |none=>exact slicePart_none h
 |int i t=>exact slicePart_int h
def iS {sl:Aa}{vl vu:AU}{lo hi:AA Int}{n:Nat}{Q:Int×Int×Nat->AP->Prop}(hs:s.heap.IsSliceOf sl vl vu .none)(pl:IsPart vl lo)(pu:IsPart vu hi)
  (h:Q (((cO n 0 lo:Nat):Int),1,cO n n hi-cO n 0 lo) s):wpAny (model prog w) A (Builtin.Slice.sliceApplied (.ref sl) (pure (n:Int))) Q E s:=by
 let⟨os,Jg,Jn,hds⟩:=id hs;unfold Builtin.Slice.sliceApplied Builtin.Slice.sliceFields;refine Ak (Ak (zca Jg hds (x:=vl) rfl (Ak (zca Jg hds (x:=vu) rfl (Ak (zca Jg hds (x:=.none) rfl (Ay ?_)))))));refine Ak (slicePart_none ?_)
 show wpAny _ _ (if ((1:Int) == 0)=true then _ else _) _ _ s
 rw[Ac ∅];refine Ak (pB pl (Ak (pB pu (Ak (Ay ?_)))))
 show wpAny _ _ (match Builtin.Slice.sliceAdjust lo hi 1 (n:Int) with|(lo,hi)=>pure (lo,(1:Int),Builtin.Slice.slicePlaces lo hi 1)) _ _ s
 rw[xL lo hi n]
 show wpAny _ _ (pure (((cO n 0 lo:Nat):Int),(1:Int),Builtin.Slice.slicePlaces ((cO n 0 lo:Nat):Int) ((cO n n hi:Nat):Int) 1)) _ _ s
 rw[wX];exact Ay h
def JCb (xs:Ti)(i k:Nat):((List.range k).filterMap λ(m:Nat)=>xs[((i:Int)+(m:Int)*1).toNat]?).toArray=((xs.toList.drop i).take k).toArray:=by
 have e:(λ(m:Nat)=>xs[((i:Int)+(m:Int)*1).toNat]?)=λm=>xs[i+m]?:=by
  funext m;have:((i:Int)+(m:Int)*1).toNat=i+m:=by omega
  rw[this]
 rw[e];have:=pick_run xs i k;rw[List.filterMap_map] at this
 have e2:((λx=>xs[x]?) ∘ λx=>i+x)=λm=>xs[i+m]?:=rfl;rw[e2] at this
 rw[this]
def mC {t sl:Aa}{items:Ti}{vl vu:AU}{lo hi:AA Int}{Q:Tb}(ht:IsTup s.heap t items)(hs:s.heap.IsSliceOf sl vl vu .none)(pl:IsPart vl lo)(pu:IsPart vu hi)
  (hw:¬ (cO items.size 0 lo=0/\cO items.size items.size hi=items.size))
  (h:Q (.ref s.heap.objs.size) {s with heap:=s.heap.push {cls:=.type "tuple",data:=.seq ((items.toList.drop (cO items.size 0 lo)).take (cO items.size items.size hi-cO items.size 0 lo)).toArray}})
  (hsz:items.size<=sizeLine):wpAny (model prog w) A (getItem (.ref t) (.ref sl)) Q E s:=by
 have ED:sizeOk (.seq ((items.toList.drop (cO items.size 0 lo)).take (cO items.size items.size hi-cO items.size 0 lo)).toArray):=by
  show((items.toList.drop (cO items.size 0 lo)).take (cO items.size items.size hi-cO items.size 0 lo)).toArray.size<=sizeLine
  rw[Bz,zbC,zct,Ec];omega
 have hj:cO items.size items.size hi<=items.size:=JGy _ _ (BL _) hi;obtain⟨os,Jg,Jn,hds⟩:=id hs;have hTs:s.TypeIs (.ref sl) "slice":={os,Jg,Jn};unfold getItem
 try with_reducible refine CR ?_
 first|refine Ak (Ay ?_)|skip
 refine Ak (wpAny_sequenceKey ht.typeIs ∅ ?_)
 refine Ak (GD (name:=Str.ofString "__getitem__") ht.typeIs PyProof.Rows.slot_tuple_getitem
  (Co PyProof.Rows.slot_tuple_getitem ht.typeIs entry_tuple_getitem ?_ (args_tuple_getitem _ _)))
 show wpAny _ _ (Builtin.Tuple.tupleItemsOf (.ref t) >>= _) _ _ s
 refine Ak (tupleItemsOf_ ht ?_);refine Ak (Fc hTs ?_);rw[Ae ∅];refine Ak (iS hs pl pu ?_)
 have Ft:¬ ((((cO items.size 0 lo:Nat):Int) == 0&&(1:Int) == 1&&(cO items.size items.size hi-cO items.size 0 lo) == items.size)=true):=by
  intro q;rw[EM,EM] at q;have q1:((cO items.size 0 lo:Nat):Int)=0:=eq_of_beq q.1.1;have q2:cO items.size items.size hi-cO items.size 0 lo=items.size:=eq_of_beq q.2;exact hw {by omega,by omega}
 show wpAny _ _ (if (((cO items.size 0 lo:Nat):Int) == 0&&(1:Int) == 1&&(cO items.size items.size hi-cO items.size 0 lo) == items.size)=true then _ else _) _ _ s
 rw[Ac Ft,JCb]
 first
  |exact Ak (m:=Builtin.Tuple.tupleExact _) (Cw (Ay {_,rfl,Ay h}) ED)
  |exact Ak (m:=Builtin.Tuple.tupleExact _) (Cw (Ak (Ay (Ay {_,rfl,Ay h}))) ED)
  |exact Ak (Ak (m:=Builtin.Tuple.tupleExact _) (Cw (Ay (Ay {_,rfl,Ay h})) ED))
  |exact Ak (Ak (m:=Builtin.Tuple.tupleExact _) (Cw (Ay {_,rfl,Ay h}) ED))
end
end HT
namespace L2
open PyProof.Rows
abbrev TO:=St->Hp->(AA Int->Hp->Prop)->Prop
def PO (X:Cx)(e:AA As)(t:TO):Prop :=
 ∀(AB:Tc) (s:AP) (Y:St) (H:Hp) (Q:AA Int->Hp->Prop),az X AB Y H s->t Y H Q ->
  wpAny (model X.prog X.w) X.A (evalPart e X.env) (λu s'=>∃o H',az X AB Y H' s'/\IsPart u o/\Q o H') X.xe s
def yh:TO:=λ_ H Q=>Q none H
def Hv (t:TE):TO:=λY H Q=>t Y H λx H1=>∃i,x=.int i/\Q (some i) H1
section
variable {X:Cx}{e:As}{te:TE}{lo hi:AA As}{tl th:TO}{pos p2:Pos}
def JEr:PO X none yh:=by intro AB s Y H Q I h;rw[evalPart_none];exact Ay {none,H,I,.none,h}
def JEq (h:PE X e te):PO X (some e) (Hv te):=by intro AB s Y H Q I hw;rw[evalPart_some];refine cP (h AB s Y H _ I hw) λu s1 hh=>?_;let⟨x,H1,I1,r1,q1⟩:=hh;let⟨i,rfl,q⟩:=q1;let⟨t,rfl⟩:=r1;exact{some i,H1,I1,.int i t,q}
def AJ (X:Cx)(r:V->AA Int->AA Int->Hp->VK->Prop):Prop :=
 ∀(AB:Tc) (s:AP) (Y:St) (H:Hp) (x:V) (v vl vu:AU) (lo hi:AA Int) (sl:Aa) (Q:VK),az X AB Y H s->aP x v->s.heap.IsSliceOf sl vl vu .none->IsPart vl lo->IsPart vu hi->r x lo hi H Q ->
  ∃T id,typeLookup (.type T) "__getitem__" = pure (some (.builtin id))/\s.TypeIs v T/\wpAny (model X.prog X.w) X.A (getItem v (.ref sl)) (EP X AB Y Q) X.xe s
def AJ.or {r r':V->AA Int->AA Int->Hp->VK->Prop}(h:AJ X r)(h':AJ X r'):AJ X (λx lo hi H Q=>r x lo hi H Q\/r' x lo hi H Q):=by
 intro AB s Y H x v vl vu lo hi sl Q I rx hs pl pu q;rcases q with q|q
 ·exact h AB s Y H x v vl vu lo hi sl Q I rx hs pl pu q
 ·exact h' AB s Y H x v vl vu lo hi sl Q I rx hs pl pu q
def OJ (r:V->AA Int->AA Int->Hp->VK->Prop)(te:TE)(tl th:TO):TE:=λY H Q=>te Y H λx H1=>tl Y H1 λl H2=>th Y H2 λu H3=>r x l u H3 Q
def pS {r:V->AA Int->AA Int->Hp->VK->Prop}(hr:AJ X r)(he:PE X e te)(hl:PO X lo tl)(hu:PO X hi th):PE X (.Subscript e (.Slice lo hi none p2) pos) (OJ r te tl th):=by
 intro AB s Y H Q I h;refine Subscript_ (cP (he AB s Y H _ I h) λv s1 hh=>?_);obtain⟨x,H1,I1,r1,q1⟩:=hh;refine wpAny_Slice (cP (hl AB s1 Y H1 _ I1 q1) λvl s2 hh=>?_);obtain⟨l,H2,I2,pl,q2⟩:=hh;refine cP (hu AB s2 Y H2 _ I2 q2) λvu s3 hh=>?_;obtain⟨u,H3,I3,pu,q3⟩:=hh;rw[evalPart_none];refine Ay ?_;have I4:az X AB Y H3 {s3 with heap:=s3.heap.push {cls:=.type "slice",data:=.fields #[vl,vu,.none]}}:=I3.kept (t':=s3.toks) λb ob q=>BK _ q;obtain⟨T,id,hT,ht,hg⟩:=hr AB {s3 with heap:=s3.heap.push {cls:=.type "slice",data:=.fields #[vl,vu,.none]}} Y H3 x v vl vu l u s3.heap.objs.size Q I4 r1 (Heap.IsSliceOf.new ..) pl pu q3
 show wpAny (model X.prog X.w) X.A (subscriptTail e (.Slice lo hi none p2) v (.ref s3.heap.objs.size)) (EP X AB Y Q) X.xe {s3 with heap:=s3.heap.push {cls:=.type "slice",data:=.fields #[vl,vu,.none]}}
 exact tail_any (ops:=[.ref s3.heap.objs.size,v]) ht hT hg (by with_unfolding_all rfl)
noncomputable def oE (xs:R4 V)(lo hi:AA Int):R4 V:=(xs.drop (HT.cO xs.length 0 lo)).take (HT.cO xs.length xs.length hi-HT.cO xs.length 0 lo)
def n8 (xs:R4 V)(lo hi:AA Int):(oE xs lo hi).length<=xs.length:=by unfold oE;rw[zbC,zct];omega
def Na (K:Ax):V->AA Int->AA Int->Hp->VK->Prop:=λx lo hi H Q=>∃a xs,x=.ref a/\gY K H a xs /\
 ¬ (HT.cO xs.length 0 lo=0/\HT.cO xs.length xs.length hi=xs.length)/\∀p,H p=none->Q (.ref p) (upd H p (.tup (oE xs lo hi)))
def JGt:AJ X (Na X.K):=by
 intro AB s Y H x v vl vu lo hi sl Q I rx hs pl pu h;let⟨a,xs,rfl,hx,hw,q⟩:=h;cases rx;let⟨its,r,ht,hz⟩:=I.tuple hx;have hlen:its.toArray.size=xs.length:=by rw[Bz];exact r.length.symm
 refine{"tuple",_,PyProof.Rows.slot_tuple_getitem.lookup,ht.typeIs,?_};refine HT.mC ht hs pl pu (by rw[hlen];exact hw) ?_ (by rw[hlen];exact hz);rw[hlen];refine{.ref s.heap.objs.size,_,I.laid (t':=s.toks) (o:=.tup (oE xs lo hi)) (λb ob q=>BK _ q) (BL _) ?_,rfl,q _ (I.hok.fresh (BL _))};exact{Dk (n8 xs lo hi) hz,_,(r.drop (HT.cO xs.length 0 lo)).take (HT.cO xs.length xs.length hi-HT.cO xs.length 0 lo),jC.new _ _}
def HM (K:Ax):R2:=λx y H Q=>∃a b xs ys,x=.ref a/\y=.ref b/\gY K H a xs/\gY K H b ys/\xs≠[]/\xs.length+ys.length<=sizeLine /\
 (ys=[]->Q (.ref a) H)/\(ys≠[]->∀p,H p=none->Q (.ref p) (upd H p (.tup (xs++ys))))
theorem aM.nil_iff {xs:R4 V}{us:Te}(r:aM xs us):us=[] ↔ xs=[]:=by
 cases r with
 |nil=>simp
 |cons _ _=>simp
def JE3:jN X (binaryOp .Add) (HM X.K):=by intro AB s Y H x y v u Q I rx ry h;let⟨a,b,xs,ys,rfl,rfl,ha,hb,hx,hz,q1,q2⟩:=h;cases rx;cases ry;let⟨its,r1,p1,_⟩:=I.tuple ha;let⟨F8,r2,p2,_⟩:=I.tuple hb;refine HT.Gx p1 p2 (λz=>hx (r1.nil_iff.mp z)) (λz=>{.ref a,H,I,rfl,q1 (r2.nil_iff.mp z)}) (λz=>?_) (by rw[←r1.length,←r2.length];exact hz);refine{.ref s.heap.objs.size,_,I.laid (t':=s.toks) (o:=.tup (xs++ys)) (λb ob q=>BK _ q) (BL _) ?_,rfl,q2 (λw=>z (r2.nil_iff.mpr w)) _ (I.hok.fresh (BL _))};exact{by rw[Ci];exact hz,_,r1.append r2,jC.new _ _}
end
noncomputable def El (n:Nat)(i:Int):AA Nat:=if 0<=i then (if i<n then some i.toNat else none) else if -(n:Int)<=i then some (i+n).toNat else none
noncomputable def iJ {Z:Type}(xs:R4 Z)(i:Int):AA Z:=(El xs.length i).bind λj=>xs[j]?
def yQ {n:Nat}{i:Int}{j:Nat}(h:El n i=some j):seqIndex? i n=some j/\j<n/\-(n:Int)<=i/\i<n:=by
 unfold El at h;by_cases h0:0<=i
 ·rw[Ae h0] at h;by_cases h1:i<n
  ·rw[Ae h1] at h;have e:i.toNat=j:=Option.some.inj h;exact{by rw[seqIndex_of h0 h1,e],by omega,by omega,h1}
  ·rw[Ac h1] at h;cases h
 ·rw[Ac h0] at h;by_cases h1 : -(n:Int)<=i
  ·rw[Ae h1] at h;have e:(i+n).toNat=j:=Option.some.inj h;exact{by rw[seqIndex_neg ∅ h1,e],by omega,h1,by omega}
  ·rw[Ac h1] at h;cases h
theorem ue {Z:Type}{xs:R4 Z}{i:Int}{v:Z}(h:iJ xs i=some v):∃j,seqIndex? i xs.length=some j/\xs[j]?=some v/\j<xs.length/\-(xs.length:Int)<=i/\i<xs.length:=by
 unfold iJ at h
 cases e:El xs.length i with
 |none=>rw[e] at h;cases h
 |some j=>
  rw[e] at h;let⟨h1,h2,h3,h4⟩:=yQ e;exact{j,h1,h,h2,h3,h4}
def uh (b:As):Prop:=∀o i,subscripted b false o i=operate [o,i] (getItem o i)
def GO (X:Cx)(r:R2):Prop :=
 ∀(value slice:As) (AB:Tc) (s:AP) (Y:St) (H:Hp) (x y:V) (v u:AU) (Q:VK),az X AB Y H s->aP x v->aP y u->r x y H Q ->
  subscripted slice false v u=operate [v,u] (getItem v u)->wpAny (model X.prog X.w) X.A (subscriptTail value slice v u) (EP X AB Y Q) X.xe s
def Rb (X:Cx)(id:String)(r:V->R4 V->Hp->VK->Prop):Prop :=
 ∀(AB:Tc) (s:AP) (Y:St) (H:Hp) (x:V) (xs:R4 V) (v:AU) (us:Te) (Q:VK),az X AB Y H s->aP x v->aM xs us->r x xs H Q ->
  wpAny (model X.prog X.w) X.A (call (.builtin id) (v::us)) (EP X AB Y Q) X.xe s
section
variable {X:Cx}{a b:As}{ta tb:TE}{pos:Pos}
def GO.or {r r':R2}(h:GO X r)(h':GO X r'):GO X (λx y H Q=>r x y H Q\/r' x y H Q):=by
 intro value slice AB s Y H x y v u Q I rx ry q hs;rcases q with q|q
 ·exact h value slice AB s Y H x y v u Q I rx ry q hs
 ·exact h' value slice AB s Y H x y v u Q I rx ry q hs
def HY {r:R2}(hr:GO X r)(ha:PE X a ta)(hb:PE X b tb)(hs:uh b):PE X (.Subscript a b pos) (Jc r ta tb):=by intro AB s Y H Q I h;exact Subscript_ (GA ha hb I h λv u s2 x y H2 I2 rx ry q=>hr a b AB s2 Y H2 x y v u Q I2 rx ry q (hs _ _))
def Nh (K:Ax):R2:=λx y H Q=>∃p xs i v,x=.ref p/\y=.int i/\iM K H p xs/\iJ xs i=some v/\Q v H
def Nf (K:Ax):R2:=λx y H Q=>∃p xs i v,x=.ref p/\y=.int i/\gY K H p xs/\iJ xs i=some v/\Q v H
def Ng:R2:=λx y H Q=>∃z i c,x=.str z/\y=.int i/\z.length<=sizeLine/\iJ z.cps.toList i=some c/\Q (.str ⟨#[c]⟩) H
def JEk:GO X (Nh X.K):=by
 intro value slice AB s Y H x y v u Q I rx ry h hs;let⟨p,xs,i,z,rfl,rfl,hq,he,q⟩:=h;cases rx;let⟨t,rfl⟩:=ry;let⟨its,r,pl,hz⟩:=I.list hq;let⟨j,h1,h2,h3,h4,h5⟩:=ue he;let⟨w,ew,EC⟩:=r.get h2;have hl:=r.length;have hn:=lK;have fin:EP X AB Y Q w s:={z,H,I,EC,q};by_cases h0:0<=i
 ·have hj:i.toNat=j:=by
   rw[seqIndex_of h0 h5] at h1;exact Option.some.inj h1
  exact item_listR pl.isList h0 ∅ (by rw[hj];simpa using ew) fin hs
 ·have hj:(i+(its.toArray.size:Int)).toNat=j:=by
   rw[seqIndex_neg ∅ h4] at h1;rw[Bz,←hl];exact Option.some.inj h1
  exact subscriptTail_builtinR (x:=w) pl.isList.typeIs slot_list_getitem.lookup
   (wpAny_getItem_list_neg (Q:=λr s'=>r=w/\EP X AB Y Q r s') pl.isList ∅ (by rw[Bz] <;> omega) ∅ (by rw[hj];simpa using ew) {rfl,fin}) hs
def KU:GO X (Nf X.K):=by
 intro value slice AB s Y H x y v u Q I rx ry h hs;let⟨p,xs,i,z,rfl,rfl,hq,he,q⟩:=h;cases rx;let⟨t,rfl⟩:=ry;let⟨its,r,pl,hz⟩:=I.tuple hq;let⟨j,h1,h2,h3,h4,h5⟩:=ue he;let⟨w,ew,EC⟩:=r.get h2;have hl:=r.length;have hn:=lK;have fin:EP X AB Y Q w s:={z,H,I,EC,q};exact subscriptTail_builtinR (x:=w) pl.typeIs slot_tuple_getitem.lookup
  (getItem_tuple (j:=j) (Q:=λr s'=>r=w/\EP X AB Y Q r s') pl ∅ ∅ (by rw[Bz,←hl];exact h1) ‹ew› {rfl,fin}) hs
def KW:GO X Ng:=by
 intro value slice AB s Y H x y v u Q I rx ry h hs;let⟨z,i,c,rfl,rfl,hz,he,q⟩:=h;let⟨t,rfl⟩:=rx;let⟨t',rfl⟩:=ry;let⟨j,h1,h2,h3,h4,h5⟩:=ue he;have hl:z.cps.toList.length=z.length:=by simp[Str.length]
 rw[hl] at h1 h4 h5;have hn:=lK;exact tail_any (typeIs_str s z t) slot_str_getitem.lookup (getItem_str (c:=c) (by have e1:decide (i < -(2 ^ 63:Int))=false:=CI ∅;have e2:decide (i >= 2 ^ 63)=false:=CI ∅;rw[e1,e2,Bool.or_false]) (by rw[h1];simpa using h2) {.str ⟨#[c]⟩,H,I.tok _,{_,rfl},q}) hs
def PR (K:Ax):R2:=λx y H Q=>Nh K x y H Q\/Nf K x y H Q\/Ng x y H Q
def C9:GO X (PR X.K):=JEk.or (KU.or KW)
def xf (its:Te)(n j:Nat)(u:AU):Obj.mapSeq (·.setIfInBounds j u) {cls:=.type "list",data:=.seq its.toArray n}={cls:=.type "list",data:=.seq (its.set j u).toArray n}:=by simp[Obj.mapSeq]
def az.lst {H:Hp}{s:AP}{p:Aa}{xs:R4 V}(I:az X AB Y H s)(h:H p=some (.lst xs)) :
  ∃(its:Te) (n:Nat),aM xs its/\s.heap.get? p=some {cls:=.type "list",data:=.seq its.toArray n}/\xs.length<=sizeLine:=by
 let⟨z,its,n,r,e⟩:=I.hok p _ h;exact{its,n,r,e,z}
def az.lstUpd {H:Hp}{s:AP}{p:Aa}{xs ys:R4 V}{its its':Te}{n n':Nat}{f:BO->BO}(I:az X AB Y H s)(h:H p=some (.lst xs))
  (ho:s.heap.get? p=some {cls:=.type "list",data:=.seq its.toArray n}) (hf:f {cls:=.type "list",data:=.seq its.toArray n}={cls:=.type "list",data:=.seq its'.toArray n'}) (r:aM ys its') (hz:ys.length<=sizeLine) (t:Nat) :
  az X AB Y (upd H p (.lst ys)) {s with heap:=s.heap.update p f,toks:=t}:=by
 have e:(s.heap.update p f).get? p=some {cls:=.type "list",data:=.seq its'.toArray n'}:=by
  rw[EJ f ho (by rw[hf] <;> rfl),hf]
 refine I.write (x:=p) (e:=p) (by rw[h];trivial) (.inl rfl) (λb u hb q=>(DO _ _ (Ne.symm hb)).trans q) {_,e} ?_;exact{hz,its',n',r,e}
def B2:V->V->V->Hp->(Hp->Prop)->Prop:=λo i v H Q=>∃p xs k j,o=.ref p/\i=.int k/\H p=some (.lst xs)/\El xs.length k=some j/\Q (upd H p (.lst (xs.set j v)))
def JBi:wp X B2:=by
 intro AB s Y H o i v ov iv u Q I ro ri rv h;let⟨p,xs,k,j,rfl,rfl,hp,hj,q⟩:=h;cases ro;let⟨t,rfl⟩:=ri;let⟨its,n,r,ho,hz⟩:=I.lst hp;let⟨h1,h2,h3,h4⟩:=yQ hj;have hl:=r.length;have hn:=lK;have I':az X AB Y (upd H p (.lst (xs.set j v))) {s with heap:=s.heap.update p (Obj.mapSeq (·.setIfInBounds j u))} :=
  I.lstUpd hp ho (xf its n j u) (r.set rv j) (by rw[List.length_set];exact hz) s.toks
 by_cases h0:0<=k
 ·have hk:k.toNat=j:=by
   rw[seqIndex_of h0 h4] at h1;exact Option.some.inj h1
  exact PySem.W.ki_setAt ho h0 ∅ (by rw[Bz,←hl];exact h4) (by rw[hk];exact{_,I',q})
 ·have hk:(k+(its.toArray.size:Int)).toNat=j:=by
   rw[seqIndex_neg ∅ h3] at h1;rw[Bz,←hl];exact Option.some.inj h1
  exact PySem.W.ki_setBack ho ∅ (by rw[Bz,←hl];exact h3) ∅ (by rw[hk];exact{_,I',q})
def sP (lo hi:AA Int)(n:Nat):(sliceBounds lo hi none n).1=((HT.cO n 0 lo:Nat):Int)/\(sliceBounds lo hi none n).2.1=((HT.cO n n hi:Nat):Int)/\(sliceBounds lo hi none n).2.2=1:=by
 refine{?_,?_,rfl}
 ·cases lo with
  |none=>simp[sliceBounds,HT.cO]
  |some i=>
   rwa[sliceBounds,HT.cO,Option.getD_none,show(1:Int)>0 by decide,if_true];by_cases h:i<0
   ·rwa[h,if_true] <;> omega
   ·rwa[h,if_false] <;> omega
 ·cases hi with
  |none=>simp[sliceBounds,HT.cO]
  |some i=>
   rwa[sliceBounds,HT.cO,Option.getD_none,show(1:Int)>0 by decide,if_true];by_cases h:i<0
   ·rwa[h,if_true] <;> omega
   ·rwa[h,if_false] <;> omega
def qR (its:Te)(lo hi:AA Int):slicePick its.toArray lo hi none=((its.drop (HT.cO its.length 0 lo)).take (HT.cO its.length its.length hi-HT.cO its.length 0 lo)).toArray:=by let⟨h1,h2,h3⟩:=sP lo hi its.toArray.size;unfold slicePick;rw[h1,h2,h3];rwa[sliceRange_one,pick_run,Bz] <;> rfl
def Nc (K:Ax):V->AA Int->AA Int->Hp->VK->Prop:=λx lo hi H Q=>∃a xs,x=.ref a/\iM K H a xs/\∀p,H p=none->Q (.ref p) (upd H p (.lst (oE xs lo hi)))
def JDj:AJ X (Nc X.K):=by intro AB s Y H x v vl vu lo hi sl Q I rx hs pl pu h;obtain⟨a,xs,rfl,hx,q⟩:=h;cases rx;obtain⟨its,r,ht,hz⟩:=I.list hx;have hlen:=r.length;refine{"list",_,slot_list_getitem.lookup,ht.isList.typeIs,?_};refine wpAny_getItem_list_slice ht.isList hs pl pu .none ∅ ?_ (by rw[Bz] <;> omega);rw[qR,←hlen];refine{.ref s.heap.objs.size,_,I.laid (t':=s.toks) (o:=.lst (oE xs lo hi)) (λb ob q=>BK _ q) (BL _) ?_,rfl,q _ (I.hok.fresh (BL _))};exact{Dk (n8 xs lo hi) hz,_,0,(r.drop (HT.cO xs.length 0 lo)).take (HT.cO xs.length xs.length hi-HT.cO xs.length 0 lo),Bd _ rfl}
noncomputable def mD:V->Ad
 |.non=>true
 |.bl _=>true
 |.int _=>true
 |.str _=>true
 |_=>false
noncomputable def Iz:V->V->Ad
 |.non,.non=>true
 |.bl a,.bl b=>a == b
 |.bl a,.int b=>(if a then 1 else 0) == b
 |.int a,.bl b=>a == (if b then 1 else 0)
 |.int a,.int b=>a == b
 |.str a,.str b=>a == b
 |_,_=>false
theorem Ly {s:AP}{y x:V}{u v:AU}(ry:aP y u)(rx:aP x v)(fy:mD y=true)(fx:mD x=true):SeqAt.EqAt A s u v (Iz y x):=by
 cases y with
 |non=>
  cases ry
  cases x with
  |non=>cases rx;exact SeqAt.EqAt.same _
  |bl b=>cases rx;exact SeqAt.EqAt.none_bool b
  |int b=>let⟨t,rfl⟩:=rx;exact SeqAt.EqAt.none_int b t
  |str b=>let⟨t,rfl⟩:=rx;exact SeqAt.EqAt.none_str b t
  |_=>exact Au (show false=true from fx) F5
 |bl a=>
  cases ry
  cases x with
  |non=>cases rx;exact SeqAt.EqAt.bool_none a
  |bl b=>cases rx;exact SeqAt.EqAt.bool_bool a b
  |int b=>let⟨t,rfl⟩:=rx;exact SeqAt.EqAt.bool_int a b t
  |str b=>let⟨t,rfl⟩:=rx;exact SeqAt.EqAt.bool_str a b t
  |_=>exact Au (show false=true from fx) F5
 |int a=>
  let⟨t',rfl⟩:=ry
  cases x with
  |non=>cases rx;exact SeqAt.EqAt.int_none a t'
  |bl b=>cases rx;exact SeqAt.EqAt.int_bool a t' b
  |int b=>let⟨t,rfl⟩:=rx;exact SeqAt.EqAt.int_int a t' b t
  |str b=>let⟨t,rfl⟩:=rx;exact SeqAt.EqAt.int_str a t' b t
  |_=>exact Au (show false=true from fx) F5
 |str a=>
  let⟨t',rfl⟩:=ry
  cases x with
  |non=>cases rx;exact SeqAt.EqAt.str_none a t'
  |bl b=>cases rx;exact SeqAt.EqAt.str_bool a t' b
  |int b=>let⟨t,rfl⟩:=rx;exact SeqAt.EqAt.str_int a t' b t
  |str b=>let⟨t,rfl⟩:=rx;exact SeqAt.EqAt.str_str a t' b t
  |_=>exact Au (show false=true from fx) F5
 |_=>exact Au (show false=true from fy) F5
noncomputable def Gp (x:V)(u:AU):Ad:=match u with
 |.none=>Iz .non x
 |.bool b=>Iz (.bl b) x
 |.int i _=>Iz (.int i) x
 |.str z _=>Iz (.str z) x
 |_=>false
theorem DJ {x y:V}{u:AU}(r:aP y u)(f:mD y=true):Gp x u=Iz y x:=by
 cases y with
 |non=>cases r;rfl
 |bl b=>cases r;rfl
 |int i=>let⟨t,rfl⟩:=r;rfl
 |str z=>let⟨t,rfl⟩:=r;rfl
 |_=>exact Au (show false=true from f) F5
theorem ug {x:V}:∀{xs:R4 V} {us:Te},aM xs us->xs.all mD=true->us.any (Gp x)=xs.any λy=>Iz y x
 |_,_,.nil,_=>rfl
 |y::xs,u::us,.cons r t,f=>by rw[List.all_cons,EM] at f;rw[E7,E7,DJ r f.1,ug t f.2]
theorem p6 {s:AP}{x:V}{v:AU}(rx:aP x v)(fx:mD x=true):∀{xs:R4 V} {us:Te},aM xs us->xs.all mD=true->∀u∈us,SeqAt.EqAt A s u v (Gp x u)
 |_,_,.nil,_=>λu hu=>by cases hu
 |y::xs,u::us,.cons r t,f=>λu' hu=>by
  rw[List.all_cons,EM] at f;rcases BV.mp hu with rfl|hu
  ·rw[DJ r f.1];exact Ly r rx f.1 fx
  ·exact p6 rx fx t f.2 u' hu
noncomputable def OR (x:V)(xs:R4 V):Ad:=xs.any λy=>Iz y x
def PU (K:Ax)(neg:Ad):R2:=λx y H Q=>∃p xs,y=.ref p/\(iM K H p xs\/gY K H p xs)/\mD x=true/\xs.all mD=true/\Q (.bl (if neg then !OR x xs else OR x xs)) H
def zP:jN X (compareOp .In) (PU X.K false):=by
 intro AB s Y H x y v u Q I rx ry h;let⟨p,xs,rfl,hq,fx,fs,q⟩:=h;cases ry;rcases hq with hq|hq
 ·let⟨its,r,pl,hz⟩:=I.list hq;refine SeqAt.in_listAt (Gp x) pl.isList (λw hw=>p6 rx fx r fs w ‹hw›) {.bl _,H,I,rfl,?_};rw[show its.toArray.any (Gp x)=its.any (Gp x) by simp,ug r fs];exact q
 ·let⟨its,r,pl,hz⟩:=I.tuple hq;refine SeqAt.in_tupleAt (Gp x) pl (λw hw=>p6 rx fx r fs w ‹hw›) {.bl _,H,I,rfl,?_};rw[show its.toArray.any (Gp x)=its.any (Gp x) by simp,ug r fs];exact q
def ub:g7 X (.builtin "len") (λxs H Q=>∃p ys,xs=[.ref p]/\(iM X.K H p ys\/gY X.K H p ys)/\Q (.int ys.length) H):=by
 intro AB s Y H xs us Q I r h;let⟨p,ys,rfl,hq,q⟩:=h;let⟨u,rfl,rx⟩:=iP r;cases rx;have hn:=lK;rcases hq with hq|hq
 ·let⟨its,r',pl,hz⟩:=I.list hq;have hlen:=r'.length;exact Calls.call_len_list pl.isList (by rwa[Bz] <;> omega) {.int ys.length,H,I.tok _,{s.toks+1,by rw[Bz,hlen]},q}
 ·let⟨its,r',pl,hz⟩:=I.tuple hq;have hlen:=r'.length;exact len_tuple pl (by rwa[Bz] <;> omega) {.int ys.length,H,I.tok _,{s.toks+1,by rw[Bz,hlen]},q}
def ua:g7 X (.builtin "len") (λxs H Q=>∃z,xs=[.str z]/\z.length<=sizeLine/\Q (.int z.length) H):=by intro AB s Y H xs us Q I r h;obtain⟨z,rfl,hz,q⟩:=h;obtain⟨u,rfl,t,rfl⟩:=iP r;have hn:=lK;exact len_str ∅ {.int z.length,H,I.tok _,{_,rfl},q}
def t9:g7 X (.type "list") (λxs H Q=>∃p ys,xs=[.ref p]/\(iM X.K H p ys\/gY X.K H p ys)/\∀l,H l=none->Q (.ref l) (upd H l (.lst ys))):=by
 intro AB s Y H xs us Q I r h;let⟨p,ys,rfl,hq,q⟩:=h;let⟨u,rfl,rx⟩:=iP r;cases rx;have fin:∀(its:Te),aM ys its->ys.length<=sizeLine->∀(h':Am) (c':Nat),(∀b o',s.heap.get? b=some o'->h'.get? b=some o') ->
   h'.get? s.heap.objs.size=some {cls:=.type "list",dict:=none,data:=.seq its.toArray c',slots:=#[]}->EP X AB Y Q (.ref s.heap.objs.size) {s with heap:=h'}:=λits r' hz h' c' kp e=>
  {.ref s.heap.objs.size,_,I.laid (t':=s.toks) kp (BL _) (show be X.prog X.w _ h' _ (.lst ys) from{hz,its,c',r',e}),rfl,q _ (I.hok.fresh (BL _))}
 rcases hq with hq|hq
 ·let⟨its,r',pl,hz⟩:=I.list hq;have hlen:=r'.length;let⟨o,ho,hc,n,hd⟩:=pl.isList;exact call_list_seq p (.inl rfl) ho hc hd (λh' c' kp e=>fin its r' hz h' c' kp e) (by rwa[Bz] <;> omega)
 ·let⟨its,r',pl,hz⟩:=I.tuple hq;have hlen:=r'.length;let⟨o,ho,hc,n,hd⟩:=pl;exact call_list_seq p (.inr rfl) ho hc hd (λh' c' kp e=>fin its r' hz h' c' kp e) (by rwa[Bz] <;> omega)
def lA:g7 X (.type "tuple") (λxs H Q=>∃p ys,xs=[.ref p]/\((iM X.K H p ys/\∀l,H l=none->Q (.ref l) (upd H l (.tup ys)))\/(gY X.K H p ys/\Q (.ref p) H))):=by
 intro AB s Y H xs us Q I r h;let⟨p,ys,rfl,h⟩:=h;let⟨u,rfl,rx⟩:=iP r;cases rx;rcases h with⟨hq,q⟩|⟨hq,q⟩
 ·obtain⟨its,r',pl,hz⟩:=I.list hq;have hlen:=r'.length;refine call_tuple_list pl.isList (λh' kp=>?_) (by rwa[Bz] <;> omega);have I1:az X AB Y H {s with heap:=h'}:=I.kept (t':=s.toks) kp;have I2:az X AB Y (upd H h'.objs.size (.tup ys)) {s with heap:=h'.push {cls:=.type "tuple",data:=.seq its.toArray}} :=
   I1.laid (t':=s.toks) (λb o e=>BK _ e) (BL _) (show be X.prog X.w _ _ _ (.tup ys) from{hz,its,r',jC.new _ _})
  exact{.ref h'.objs.size,_,I2,rfl,q _ (I1.hok.fresh (BL _))}
 ·let⟨its,r',pl,hz⟩:=I.tuple hq;exact call_tuple_same pl {.ref p,H,I,rfl,q}
def OG (K:Ax)(T:String)(x:V)(H:Hp):Prop:=match x with
 |.str _=>T = "str"
 |.int _=>T = "int"
 |.ref p=>(T = "list"/\∃xs,iM K H p xs)\/(T = "tuple"/\∃o,K.lookup p=some o/\o.cls=.type "tuple"/\o.dict=none) \/
   (T = "dict"/\((∃Ab,H p=some (.dK Ab))\/∃Ab,H p=some (.dT Ab)))\/(T = "set"/\∃S n,H p=some (.set S n))
 |_=>False
theorem AX {H:Hp}{s:AP}{T:String}{x:V}{v:AU}(I:az X AB Y H s)(r:aP x v)(ty:OG X.K T x H) :
  s.TypeIs v T/\∀a,v=.ref a->∃ob,s.heap.get? a=some ob/\ob.dict=none:=by
 cases x with
 |str z=>
  obtain⟨t,rfl⟩:=r;cases(show T = "str" from ty);exact{typeIs_str s z t,λ_ e=>nomatch e}
 |int i=>
  obtain⟨t,rfl⟩:=r;cases(show T = "int" from ty);exact{typeIs_int s i t,λ_ e=>nomatch e}
 |ref p=>
  cases r;rcases ty with⟨rfl,xs,hq⟩|⟨rfl,o,hk,hc,hd⟩|⟨rfl,hk⟩|⟨rfl,S,n,hk⟩
  ·let⟨its,_,pl,_⟩:=I.list hq
   refine{pl.isList.typeIs,λa e=>?_};cases e;let⟨o,n,e,c,hd,_⟩:=pl;exact{o,e,hd}
  ·refine{{o,I.kIn p o hk,hc},λa e=>?_}
   cases e;exact{o,I.kIn _ o hk,hd}
  ·have z:∃o,s.heap.get? p=some o/\o.ExactDict:=by
    rcases hk with⟨Ab,hk⟩|⟨Ab,hk⟩
    ·let⟨_,_,_,_,o,_,_,e,ex,_⟩:=I.hok p _ hk
     exact{o,e,ex}
    ·let⟨_,_,_,_,o,_,_,e,ex,_⟩:=I.hok p _ hk
     exact{o,e,ex}
   let⟨o,e,ex⟩:=z;refine{{o,e,ex.1},λa e2=>?_};cases e2;exact{o,e,ex.2.1}
  ·let⟨o,_,_,_,e,ex,_⟩:=I.hok p _ hk
   refine{{o,e,ex.1},λa e2=>?_};cases e2;exact{o,e,ex.2.1}
 |_=>exact False.elim ty
def MM (K:Ax)(T:String)(r:V->R4 V->Hp->VK->Prop)(to:TE):TE:=λY H Q=>to Y H λx H1=>OG K T x H1/\r x [] H1 Q
def PJ (K:Ax)(T:String)(r:V->R4 V->Hp->VK->Prop)(to:TE)(t:TA):TE:=λY H Q=>to Y H λx H1=>OG K T x H1/\t Y H1 λxs H2=>r x xs H2 Q
variable {o e:As}{es:Tj}{to:TE}{t:TA}{name:Str}{apos BA:Pos}{T id:String}{r:V->R4 V->Hp->VK->Prop}
def Kr (pa:PlainAttrs T)(slot:Slot T name id)(hty:typeOf (.builtin id)=pure (.type "method_descriptor"))(hm:Rb X id r)(ho:PE X o to)
  (BU:attributeBase o name X.env (eval o X.env)=eval o X.env:=by rfl) (BS:(apos.endLine == BA.line)=true:=by rfl):PE X (.Call (.Attribute o name apos) [] [] BA) (MM X.K T r to):=by
 intro AB s Y H Q I h;refine wpAny_Call_method0_late BU BS (cP (ho AB s Y H _ I h) λv s1 hh=>?_);let⟨x,H1,I1,r1,ty,q1⟩:=hh;let⟨h1,h2⟩:=AX I1 r1 ty;exact{T,id,pa,slot,hty,h1,h2,Calls.callWith_builtin rfl (PySem.evalArgs_none (hm AB s1 Y H1 x [] v [] Q I1 r1 .nil q1))}
def HZ (pa:PlainAttrs T)(slot:Slot T name id)(hty:typeOf (.builtin id)=pure (.type "method_descriptor"))(hm:Rb X id r)(ho:PE X o to)(ha:PA X (e::es) t)
  (BU:attributeBase o name X.env (eval o X.env)=eval o X.env:=by rfl)
  (FQ:((backTo BA (starEach (e::es) X.env)).all (λx=>!x.1)&&(backToKw BA (keywordEach [] X.env)).all (λx=>x.1.isSome)
   && decide ((e::es).length+([]:R4 Keyword).length+(if ([]:R4 Keyword).isEmpty then 0 else 1)<30))=true:=by rfl)
  (BS:(apos.endLine == BA.line)=true:=by rfl) (hs:starEach (e::es) X.env=(false,eval e X.env)::starEach es X.env:=by rfl) (CU:(backTo BA (starEach es X.env)).any (·.1)=false:=by rfl) :
  PE X (.Call (.Attribute o name apos) (e::es) [] BA) (PJ X.K T r to t):=by
 intro AB s Y H Q I h;refine wpAny_Call_method_late BU FQ BS rfl (cP (ho AB s Y H _ I h) λv s1 hh=>?_);let⟨x,H1,I1,r1,ty,q1⟩:=hh;let⟨h1,h2⟩:=AX I1 r1 ty;refine{T,id,pa,slot,hty,h1,h2,?_};have hA:=ha BA AB s1 Y H1 _ I1 q1;rw[hs] at hA ⊢;refine Calls.callWith_builtin (by show(false || (backTo BA (starEach es X.env)).any (·.1))=false;rw[CU] <;> rfl) (Calls.evalArgs_plain ?_);exact cP hA λus s2 ⟨vs,H2,I2,r2,q2⟩=>hm AB s2 Y H2 x vs v us Q I2 r1 r2 q2
end
def R8 (X:Cx)(id:String)(r:V->R4 V->Hp->VK->Prop):Prop :=
 ∀(AB:Tc) (s:AP) (Y:St) (H:Hp) (x:V) (xs:R4 V) (v:AU) (us:Te) (Q:VK),az X AB Y H s->aP x v->aM xs us->r x xs H Q ->
  wpAny (model X.prog X.w) X.A (call (.builtin id) (v::us)) (EP X AB Y Q) X.xe s
def aM.one {x:V}{us:Te}(h:aM [x] us):∃u,us=[u]/\aP x u:=by cases h with|cons r t=>cases t;exact{_,rfl,r}
theorem aM.zero:∀{us:Te},aM [] us->us=[]
 |_,.nil=>rfl
section
variable {X:Cx}{AB:Tc}{Y:St}{H:Hp}{s:AP}{l:Aa}{xs ys:R4 V}
def az.lset {its its':Te}{n:Nat}{f:Al AU->Ti}{t':Nat}(I:az X AB Y H s)(hH:H l=some (.lst xs))
  (e:s.heap.get? l=some {cls:=.type "list",data:=.seq its.toArray n}) (hf:f its.toArray=its'.toArray) (hv:aM ys its') (hz:ys.length<=sizeLine) :
  az X AB Y (upd H l (.lst ys)) {s with heap:=s.heap.update l (Obj.mapSeq f),toks:=t'}:=by
 have q:=PySem.IsL.update e f;rw[hf] at q;refine I.write (x:=l) (e:=l) (by rw[hH];exact trivial) (.inl rfl) (λb' u hb hu=>(DO s.heap (Obj.mapSeq f) (Ne.symm hb)).trans hu) {_,q} ?_;exact{hz,its',_,hv,q}
def az.lnew {its:Te}{t':Nat}(I:az X AB Y H s)(hv:aM ys its)(hz:ys.length<=sizeLine) :
  az X AB Y (upd H s.heap.objs.size (.lst ys)) {s with heap:=s.heap.push {cls:=.type "list",data:=.seq its.toArray},toks:=t'} :=
 I.laid (λ_ _ q=>BK _ q) (BL _) {hz,its,0,hv,Bd _ rfl}
def az.fresh (I:az X AB Y H s):H s.heap.objs.size=none:=I.hok.fresh (BL _)
def az.lstM (I:az X AB Y H s)(hH:H l=some (.lst xs)):xs.length<=sizeLine/\∃(its:Te) (n:Nat),aM xs its/\xs.length=its.length/\s.heap.get? l=some {cls:=.type "list",data:=.seq its.toArray n}:=by obtain⟨z,its,n,r,e⟩:=I.hok l _ hH;exact{z,its,n,r,r.length,e}
end
section
variable {X:Cx}
def yt:V->R4 V->Hp->VK->Prop:=λx vs H Q=>∃l xs y,x=.ref l/\vs=[y]/\H l=some (.lst xs)/\xs.length<sizeLine/\Q .non (upd H l (.lst (xs++[y])))
def zT:R8 X "list.append" yt:=by intro AB s Y H x vs v us Q I rx rv h;obtain⟨l,xs,y,rfl,rfl,hH,hz,q⟩:=h;cases rx;obtain⟨u,rfl,ru⟩:=rv.one;obtain⟨z,its,n,r,hl,e⟩:=I.lstM hH;refine call_meets F.slot_list_append {_,e,rfl} F.entry_list_append (F.args_list_append_2 _ _) (PySem.list_append l its.toArray n u (by rw[Bz];omega)) {e,?_};refine{.non,_,I.lset (its':=its++[u]) hH e ∅ (r.append (.cons ru .nil)) ?_,rfl,q};rw[Ci,List.length_singleton];omega
def B7:V->R4 V->Hp->VK->Prop:=λx vs H Q=>∃l xs,x=.ref l/\vs=[]/\H l=some (.lst xs)/\Q .non (upd H l (.lst []))
def JBy:R8 X "list.clear" B7:=by intro AB s Y H x vs v us Q I rx rv h;obtain⟨l,xs,rfl,rfl,hH,q⟩:=h;cases rx;have hus:=rv.zero;subst hus;obtain⟨z,its,n,r,hl,e⟩:=I.lstM hH;refine call_meets F.slot_list_clear {_,e,rfl} F.entry_list_clear (F.args_list_clear_1 _) (AutoSeq1.list_clear_list_0 l its.toArray n (by rw[Bz];omega)) {e,?_};exact{.non,_,I.lset (its':=[]) (ys:=[]) hH e rfl .nil (Cr _),rfl,q}
def Nl:R2:=λx y H Q=>∃l b xs zs,x=.ref l/\y=.ref b/\H l=some (.lst xs)/\H b=some (.lst zs)/\xs.length+zs.length<=sizeLine/\∀p,H p=none->Q (.ref p) (upd H p (.lst (xs++zs)))
def Kz:jN X (binaryOp .Add) Nl:=by
 intro AB s Y H x y v u Q I rx ry h;let⟨l,b,xs,zs,rfl,rfl,hH,hB,hz,q⟩:=h;cases rx;cases ry;let⟨z,its,n,r,hl,e⟩:=I.lstM hH;let⟨z2,F8,n2,r2,hl2,e2⟩:=I.lstM hB;refine PySem.P.add_list e e2 ?_ (by rw[Bz,Bz];omega);have ea:its.toArray++F8.toArray=(its++F8).toArray:=by simp
 rw[ea];exact{.ref _,_,I.lnew (t':=s.toks) (r.append r2) (by rw[Ci];omega),rfl,q _ I.fresh}
end
section
variable {κ:Type}[DecidableEq κ]
noncomputable def dg (Ab:R4 (κ×V))(k:κ):AA V:=(Ab.find? λkv=>decide (kv.1=k)).map (·.2)
noncomputable def eP (Ab:R4 (κ×V))(k:κ)(v:V):R4 (κ×V) :=
 if (Ab.any λkv=>decide (kv.1=k))=true then Ab.map (λkv=>if kv.1=k then (kv.1,v) else kv) else Ab++[(k,v)]
def md {p:κ×V}{r:R4 (κ×V)}{k:κ}(e:p.1=k):dg (p::r) k=some p.2:=by simp[dg,zbW,e]
def iQ {p:κ×V}{r:R4 (κ×V)}{k:κ}(e:¬ p.1=k):dg (p::r) k=dg r k:=by simp[dg,zbW,e]
theorem pb (k:κ):∀Ab:R4 (κ×V),(Ab.any λkv=>decide (kv.1=k))=(dg Ab k).isSome
 |[]=>rfl
 |p::r=>by
  rw[E7];by_cases e:p.1=k
  ·rwa[md e,D2 e,Bool.true_or,zcg]
  ·rw[iQ e,CI e,Bool.false_or];exact pb k r
def j7 (Ab:R4 (κ×V))(k:κ)(v:V):(eP Ab k v).length<=Ab.length+1:=by
 unfold eP;split
 ·rw[BR];omega
 ·rw[Ci,CK,Fg];omega
def uX {Ab:R4 (κ×V)}{k:κ}(v:V)(h:dg Ab k=none):eP Ab k v=Ab++[(k,v)]:=by unfold eP;rw[pb,h];exact Ac ∅
theorem lq.isSome_eq {o:AA V}{u:Tg}(r:lq o u):o.isSome=u.isSome:=by
 cases o with
 |none=>cases u with
  |none=>rfl
  |some _=>exact(show False from r).elim
 |some _=>cases u with
  |none=>exact(show False from r).elim
  |some _=>rfl
theorem KV.val {Ab:R4 (κ×V)}{vs:R4 (κ×AU)}(r:KV Ab vs)(k:κ):lq (dg Ab k) (valueAt vs k):=by
 unfold KV at r;induction r with
 |nil=>exact True.intro
 | @cons p q ps qs h t ih=>
  let⟨h1,h2⟩:=h;by_cases e:p.1=k
  ·have e':q.1=k:=h1.symm.trans e;have b:valueAt (q::qs) k=some q.2:=(by simp[valueAt,zbW,e']);rw[md e,b];exact h2
  ·have e':¬ q.1=k:=λz=>e (h1.trans z);have b:valueAt (q::qs) k=valueAt qs k:=(by simp[valueAt,zbW,e']);rw[iQ e,b];exact ih
theorem KV.any {Ab:R4 (κ×V)}{vs:R4 (κ×AU)}(r:KV Ab vs)(k:κ):(Ab.any λkv=>decide (kv.1=k))=vs.any λkv=>decide (kv.1=k):=by
 unfold KV at r;induction r with
 |nil=>rfl
 |cons h t ih=>rw[E7,E7,ih,h.1]
theorem KV.repl {Ab:R4 (κ×V)}{vs:R4 (κ×AU)}(r:KV Ab vs)(k:κ){y:V}{u:AU}(ry:aP y u) :
  KV (Ab.map λkv=>if kv.1=k then (kv.1,y) else kv) (vs.map λkv=>if kv.1=k then (kv.1,u) else kv):=by
 unfold KV at r ⊢
 induction r with
 |nil=>exact .nil
 | @cons p q ps qs h t ih=>
  rw[BH,BH];refine .cons ?_ ih;let⟨h1,h2⟩:=h
  by_cases e:p.1=k
  ·rw[Ae e,Ae (h1.symm.trans e)];exact{h1,ry}
  ·rw[Ac e,Ac (λz=>e (h1.trans z))];exact{h1,h2}
def KV.put {Ab:R4 (κ×V)}{vs:R4 (κ×AU)}(r:KV Ab vs)(k:κ){y:V}{u:AU}(ry:aP y u):KV (eP Ab k y) (stored vs k u):=by
 unfold eP stored;rw[r.any k];by_cases e:(vs.any λkv=>decide (kv.1=k))=true
 ·rw[Ae e,Ae e];exact r.repl k ry
 ·rw[Ac e,Ac e];exact Paired.snoc r {rfl,ry}
def KV.length {Ab:R4 (κ×V)}{vs:R4 (κ×AU)}(r:KV Ab vs):Ab.length=vs.length:=Paired.length r
end
theorem vH {k:aE}{u:AU}(r:aP (kV k) u):(bi P w).is k u=true:=by
 cases k with
 |inl i=>let⟨t,e⟩:=(show ∃t,u=Value.int i t from r);subst e;exact vf P w i t
 |inr o=>cases o with
  |some x=>let⟨t,e⟩:=(show ∃t,u=Value.str x t from r);subst e;exact ve P w x t
  |none=>have e:u=Value.none:=r;subst e;exact JAf
theorem rY :∀{ks:R4 aE} {us:Te},aM (ks.map kV) us->ItemsAre (bi P w) ks us
 |[],_,r=>by rw[Dj] at r;cases r;exact .nil
 |k::ks,_,r=>by
  rw[BH] at r
  cases r with
  |cons h t=>exact .cons (vH h) (rY t)
abbrev KT (H:Hp):R4 (R4 aE×V)->R4 (R4 aE×Aa×AU)->Prop:=Paired λp q=>p.1=q.1/\H q.2.1=some (.tup (p.1.map kV))/\aP p.2 q.2.2
theorem KT.val {H:Hp}{Ab:R4 (R4 aE×V)}{xs:R4 (R4 aE×Aa×AU)}(r:KT H Ab xs)(k:R4 aE):lq (dg Ab k) ((atKey xs k).map (·.2)):=by
 induction r with
 |nil=>exact True.intro
 | @cons p q ps qs h t ih=>
  let⟨h1,_,h2⟩:=h;by_cases e:p.1=k
  ·have e':q.1=k:=h1.symm.trans e;have b:atKey (q::qs) k=some q.2:=(by simp[atKey,zbW,e']);rw[md e,b];exact h2
  ·have e':¬ q.1=k:=λz=>e (h1.trans z);have b:atKey (q::qs) k=atKey qs k:=(by simp[atKey,zbW,e']);rw[iQ e,b];exact ih
theorem KT.repl {H:Hp}{Ab:R4 (R4 aE×V)}{xs:R4 (R4 aE×Aa×AU)}(r:KT H Ab xs)(k:R4 aE){y:V}{u:AU}(ry:aP y u) :
  KT H (Ab.map λkv=>if kv.1=k then (kv.1,y) else kv) (xs.map (putAt k u)):=by
 induction r with
 |nil=>exact .nil
 | @cons p q ps qs h t ih=>
  rw[BH,BH];refine .cons ?_ ih;let⟨h1,h2,h3⟩:=h;unfold putAt
  by_cases e:p.1=k
  ·rw[Ae e,Ae (h1.symm.trans e)];exact{h1,h2,ry}
  ·rw[Ac e,Ac (λz=>e (h1.trans z))];exact{h1,h2,h3}
def KT.put {H:Hp}{Ab:R4 (R4 aE×V)}{xs:R4 (R4 aE×Aa×AU)}(r:KT H Ab xs)(k:R4 aE){b:Aa}{y:V}{u:AU}(hb:H b=some (.tup (k.map kV)))(ry:aP y u) :
  KT H (eP Ab k y) (storedH xs k b u):=by
 have e:(Ab.any λkv=>decide (kv.1=k))=(atKey xs k).isSome:=by
  rw[pb,(r.val k).isSome_eq,Option.isSome_map]
 unfold eP storedH;rw[e]
 by_cases q:(atKey xs k).isSome=true
 ·rw[Ae q,Ae q];exact r.repl k ry
 ·rw[Ac q,Ac q];exact Paired.snoc r {rfl,hb,ry}
def KT.keeps {H H':Hp}{Ab:R4 (R4 aE×V)}{xs:R4 (R4 aE×Aa×AU)}(r:KT H Ab xs)(ht:∀b ys,H b=some (.tup ys)->H' b=some (.tup ys)):KT H' Ab xs :=
 Paired.mapP r λ_ _ z=>{z.1,ht _ _ z.2.1,z.2.2}
section
variable {P:Aj}{w:An}{H:Hp}{h:Am}{a:Aa}
def HH {u:HO}(ok:f7 P w H h)(e:Rd H a u):be P w H h a u:=e.ok ok
def vX {Ab:R4 (aE×V)}(ok:f7 P w H h)(e:Rd H a (.dK Ab)):Ab.length<=sizeLine/\(a == sysModules)=false/\∃vs,KV Ab vs/\h.DictOf (bi P w) a vs :=
 show be P w H h a (.dK Ab) from HH ok e
def DP {Ab:R4 (aE×V)}(ok:f7 P w H h)(e:H a=some (.dK Ab)):Ab.length<=sizeLine/\(a == sysModules)=false/\∃vs,KV Ab vs/\h.DictOf (bi P w) a vs:=vX ok (.inl e)
def nh {ks:R4 aE}(ok:f7 P w H h)(e:H a=some (.tup (ks.map kV))):(tupleKind (bi P w)).is h ks a:=by let⟨_,its,r,⟨o,h1,h2,n,h3⟩,_⟩:=(show be P w H h a (.tup (ks.map kV)) from ok a _ e);exact{o,its.toArray,n,h1,h2,h3,by simpa using rY r}
def vW {Ab:R4 (R4 aE×V)}(ok:f7 P w H h)(e:Rd H a (.dT Ab)):Ab.length<=sizeLine/\(a == sysModules)=false /\
  ∃xs,KT H Ab xs/\h.DictOfH (tupleKind (bi P w)) a xs:=by
 let⟨z,y,xs,r,o,es,ep,h1,h2,h3,h4,h5⟩:=(show be P w H h a (.dT Ab) from HH ok e);refine{z,y,xs,r,o,es,ep,h1,h2,h3,h4,λx hx=>?_,h5}
 have all:∀{l:R4 (R4 aE×V)} {m:R4 (R4 aE×Aa×AU)},KT H l m->∀x∈m,(tupleKind (bi P w)).is h x.1 x.2.1:=by
  intro l m q
  induction q with
  |nil=>intro x hx;exact nomatch hx
  | @cons p q ps qs hq t ih=>
   intro x hx;rcases BV.mp hx with e|hx
   ·subst e
    exact nh ok (by rw[←hq.1];exact hq.2.1)
   ·exact ih x hx
 exact all r x hx
def IC {Ab:R4 (R4 aE×V)}(ok:f7 P w H h)(e:H a=some (.dT Ab)):Ab.length<=sizeLine/\(a == sysModules)=false /\
  ∃xs,KT H Ab xs/\h.DictOfH (tupleKind (bi P w)) a xs:=vW ok (.inl e)
end
def GU (H:Hp)(a:Aa)(y:V)(r:AA V):Prop :=
 (∃Ab k,Rd H a (.dK Ab)/\y=kV k/\r=dg Ab k)\/∃Ab k b,Rd H a (.dT Ab)/\y=.ref b/\H b=some (.tup (k.map kV))/\r=dg Ab k
def GR (H:Hp)(a:Aa)(y v:V)(H':Hp):Prop :=
 (∃Ab k,H a=some (.dK Ab)/\y=kV k/\Ab.length<sizeLine/\H'=upd H a (.dK (eP Ab k v))) \/
 ∃Ab k b,H a=some (.dT Ab)/\y=.ref b/\H b=some (.tup (k.map kV))/\Ab.length<sizeLine/\H'=upd H a (.dT (eP Ab k v))
def GR.k {H:Hp}{a:Aa}{Ab:R4 (aE×V)}{k:aE}{v:V}(e:H a=some (.dK Ab))(hl:Ab.length<sizeLine):GR H a (kV k) v (upd H a (.dK (eP Ab k v))):=.inl {Ab,k,e,rfl,hl,rfl}
section
variable {X:Cx}{AB:Tc}{Y:St}{H:Hp}{s:AP}{a:Aa}{y v:V}{u r:AU}{o:AA V}{A:Ar}{E:Tb}
def az.big (I:az X AB Y H s):sysModules<s.heap.objs.size:=by have h:mainGlobals<s.heap.objs.size:=(I.mod.glob.keeps I.bk).lt;exact zb2 ∅ h
def JAt {Q:Tb}(hu:A.units+1<cLine)(I:az X AB Y H s)(g:GU H a y (some v))(ry:aP y u)(h:∀w' s',az X AB Y H s'->aP v w'->Q w' s') :
  wpAny (model X.prog X.w) A (getItem (.ref a) u) Q E s:=by
 rcases g with⟨Ab,k,e,ey,l⟩|⟨Ab,k,b,e,ey,eb,l⟩
 ·subst ey
  let⟨z,hd,vs,rel,dd⟩:=vX I.hok e;let⟨w',hw,EC⟩:=lq.some_of (v:=v) (o:=valueAt vs k) (by rw[l];exact rel.val k);exact wpAny_getItem_of (vH ry) dd.mapOf hw (h w' _ (I.tok _) EC)
 ·subst ey
  cases(show u=Value.ref b from ry);let⟨z,hd,xs,rel,dd⟩:=vW I.hok e;let⟨w',hw,EC⟩:=lq.some_of (v:=v) (o:=(atKey xs k).map (·.2)) (by rw[l];exact rel.val k);let⟨p,hp,hp2⟩:=DN.mp hw;refine wpAny_getItem_heap (tupleKind_room_in1 hu) (nh I.hok eb) dd hp ?_;rw[hp2];exact h w' _ (I.tok _) EC
def Q2 {Q:Tb}(hu:A.units+1<cLine)(I:az X AB Y H s)(g:GU H a y o)(ry:aP y u)(h:∀s',az X AB Y H s'->Q (.bool o.isSome) s') :
  wpAny (model X.prog X.w) A (compareOp .In u (.ref a)) Q E s:=by
 rcases g with⟨Ab,k,e,ey,l⟩|⟨Ab,k,b,e,ey,eb,l⟩
 ·subst ey
  let⟨z,hd,vs,rel,dd⟩:=vX I.hok e;refine wpAny_in_of (vH ry) hd dd.mapOf ?_;rw[←(rel.val k).isSome_eq,←l];exact h _ (I.tok _)
 ·subst ey
  cases(show u=Value.ref b from ry);let⟨z,hd,xs,rel,dd⟩:=vW I.hok e;refine wpAny_in_heap (tupleKind_room_in1 hu) (nh I.hok eb) hd dd ?_;have q:=(rel.val k).isSome_eq;rw[Option.isSome_map] at q;rw[←q,←l];exact h _ (I.tok _)
def tY {h':Am}{t':Nat}{ob:HO}(I:az X AB Y H s)(mu:OB (H a))(hs:Heap.SameBut a s.heap h')(he:∃q,h'.get? a=some q)(new:be X.prog X.w (upd H a ob) h' a ob) :
  az X AB Y (upd H a ob) {s with heap:=h',toks:=t'} :=
 I.write (x:=a) (e:=a) mu (.inl rfl) (λb q hb z=>(hs.2 b hb).trans z) he new
def Lz {H':Hp}{h':Am}{Ab:R4 (aE×V)}{vs:R4 (aE×AU)}(z:Ab.length<=sizeLine)(hd:(a == sysModules)=false)(rel:KV Ab vs)(dd:h'.DictOf (bi P w) a vs) :
  be P w H' h' a (.dK Ab):={z,hd,vs,rel,dd}
def JAs {H':Hp}{Q:Unit->AP->Prop}(hu:A.units+1<cLine)(I:az X AB Y H s)(g:GR H a y v H')(ry:aP y u)(rv:aP v r)(h:∀s',az X AB Y H' s'->Q () s') :
  wpAny (model X.prog X.w) A (setItem (.ref a) u r) Q E s:=by
 rcases g with⟨Ab,k,e,ey,l,eH⟩|⟨Ab,k,b,e,ey,eb,l,eH⟩
 ·subst ey eH
  let⟨z,hd,vs,rel,dd⟩:=DP I.hok e
  have hz:vs.length<=sizeLine:=by rw[←rel.length];exact z
  have hl:(eP Ab k v).length<=sizeLine:=by have:=j7 Ab k v;omega
  refine wpAny_setItem_pairs (hsz:=hz) (vH ry) dd λh' dd' hs=>h _ ?_;have he:∃q,h'.get? a=some q:=let ⟨q,_,_,hq,_⟩:=dd';{q,hq};exact tY I (by rw[e];exact True.intro) hs he (Lz hl hd (rel.put k rv) dd')
 ·subst ey eH
  cases(show u=Value.ref b from ry);let⟨z,hd,xs,rel,dd⟩:=IC I.hok e
  have hz:xs.length<=sizeLine:=by rw[←Paired.length rel];exact z
  have hl:(eP Ab k v).length<=sizeLine:=by have:=j7 Ab k v;omega
  refine wpAny_setItem_heap (hsz:=hz) (tupleKind_room_in1 hu) (nh I.hok eb) dd λh' dd' hs=>h _ ?_;let⟨q,es,ep,hq,h2,h3,h4,_,h5⟩:=dd';refine tY I (by rw[e];exact True.intro) hs {q,hq} {hl,hd,_,(rel.put k eb rv).keeps λc ys ec=>?_,q,es,ep,hq,h2,h3,h4,h5};rw[aq (Ic ec e (λz=>nomatch z))];exact ec
end
def GL (i:As):Prop:=∀ov iv,subscripted i false ov iv=operate [ov,iv] (getItem ov iv)
def JDf {prog:Aj}{w:An}{A:Ar}{E:Tb}{s:AP}{env:Env}{value slice:As}{pos:Pos}{T id:String}{Q:Tb}
  (hl:typeLookup (.type T) "__getitem__" = pure (some (.builtin id))) (hs:GL slice)
  (h:wpAny (model prog w) A (eval value env) (λo s₁=>wpAny (model prog w) A (eval slice env) (λi s₂=>s₂.TypeIs o T/\wpAny (model prog w) A (getItem o i) Q E s₂) E s₁) E s) :
  wpAny (model prog w) A (eval (.Subscript value slice pos) env) Q E s:=by
 refine Subscript_ (E5 h (λo s₁ h₁=>E5 h₁ (λi s₂ h₂=>?_) λ_ _ x=>x) λ_ _ x=>x);let⟨hT,h₂⟩:=h₂;unfold subscriptTail;refine Ak ?_;rw[getitemInPython_of_ne hT.not_modules];refine Ak (zcw hT hl ?_)
 have fin:wpAny (model prog w) A (subscripted slice false o i) (λr s₃=>wpAny (model prog w) A (letTemporaryGo value o r >>=λ_=>pure r) Q E s₃) E s₂:=by
  rw[hs o i];exact wpAny_operating (E5 h₂ (λr s₃ h₃=>Ak (wpAny_letTemporaryGo (Ay h₃))) λ_ _ x=>x)
 first
  |exact Ay (Ak fin)
  |exact Ak (Ay (Ak fin))
  |exact Ak fin
def vZ {H:Hp}{s:AP}{a:Aa}{y:V}{o:AA V}(I:az X AB Y H s)(g:GU H a y o):s.TypeIs (.ref a) "dict":=by
 rcases g with⟨Ab,k,e,_,_⟩|⟨Ab,k,b,e,_,_,_⟩
 ·let⟨_,_,vs,_,dd⟩:=vX I.hok e;exact dd.typeIs
 ·let⟨_,_,xs,_,dd⟩:=vW I.hok e;exact dd.typeIs
def Bl (td ty:TE):TE:=λY H Q=>td Y H λx H1=>ty Y H1 λy H2=>∃a v,x=.ref a/\GU H2 a y (some v)/\Q v H2
section
variable {X:Cx}{o i:As}{pos:Pos}{td ty:TE}
def yD (hu:X.A.units+1<cLine)(ho:PE X o td)(hi:PE X i ty)(hs:GL i):PE X (.Subscript o i pos) (Bl td ty):=by intro AB s Y H Q I h;refine JDf PySem.F.slot_dict_getitem.lookup hs (cP (ho AB s Y H _ I h) λu s1 hh=>?_);let⟨x,H1,I1,rx,q1⟩:=hh;refine cP (hi AB s1 Y H1 _ I1 q1) λiv s2 hh=>?_;let⟨y,H2,I2,ry,a,v,ex,g,q2⟩:=hh;subst ex;obtain rfl:u=Value.ref a:=rx;exact{vZ I2 g,JAt hu I2 g ry λw' s3 I3 EC=>{v,H2,I3,EC,q2}}
end
def JCs {H:Hp}(h:Am)(hb:sysModules<h.objs.size):be P w H (h.push {cls:=.type "dict",data:=.dict #[]}) h.objs.size (.dT []) :=
 {Cr _,beq_eq_false_iff_ne.mpr (Ne.symm (BX hb)),[],.nil,_,#[],0,Bd _ rfl,{rfl,rfl,rfl},rfl,rfl,zck}
def Bj:TE:=λ_ H Q=>∀p,H p=none->Q (.ref p) (upd H p (.dT []))
section
variable {X:Cx}{pos:Pos}
def JBq:PE X (.Dict [] [] pos) Bj:=λAB s Y H Q I h=>
 wpAny_Dict_empty {.ref s.heap.objs.size,_,I.laid (a:=s.heap.objs.size) (o:=.dT []) (t':=s.toks) (λ_ _ q=>BK _ q) (BL _) (JCs s.heap I.big),rfl,h _ (I.hok.fresh (BL _))}
end
structure M1 (X:Cx)(o:Expr)(m:Str)(apos:Pos)(e:Expr)(BA:Pos):Prop where
 base:attributeBase o m X.env (eval o X.env)=eval o X.env
 few:((backTo BA (starEach [e] X.env)).all (λx=>!x.1)&&(backToKw BA (keywordEach [] X.env)).all (λx=>x.1.isSome)
  && decide (([e]:Tj).length+([]:List Keyword).length+(if ([]:List Keyword).isEmpty then 0 else 1)<30))=true
 line:(apos.endLine == BA.line)=true
 trees:backTo BA (starEach [e] X.env)=[(false,eval e X.env)]
structure M2 (X:Cx)(o:Expr)(m:Str)(apos:Pos)(e f:Expr)(BA:Pos):Prop where
 base:attributeBase o m X.env (eval o X.env)=eval o X.env
 few:((backTo BA (starEach [e,f] X.env)).all (λx=>!x.1)&&(backToKw BA (keywordEach [] X.env)).all (λx=>x.1.isSome)
  && decide (([e,f]:Tj).length+([]:List Keyword).length+(if ([]:List Keyword).isEmpty then 0 else 1)<30))=true
 line:(apos.endLine == BA.line)=true
 trees:backTo BA (starEach [e,f] X.env)=[(false,eval e X.env),(false,eval f X.env)]
def Sa (H:Hp)(a:Aa):Prop:=(∃Ab,Rd H a (.dK Ab))\/∃Ab,Rd H a (.dT Ab)
def xu {H:Hp}{s:AP}{a:Aa}(I:az X AB Y H s)(d:Sa H a) :
  s.TypeIs (.ref a) "dict"/\(∀b,Value.ref a=.ref b->∃ob,s.heap.get? b=some ob/\ob.dict=none)/\(a == sysModules)=false:=by
 rcases d with⟨Ab,e⟩|⟨Ab,e⟩
 ·let⟨_,hd,vs,_,dd⟩:=vX I.hok e
  refine{dd.typeIs,λb q=>?_,hd};cases q;let⟨ob,_,_,h1,h2,_⟩:=dd;exact{ob,h1,h2.2.1}
 ·let⟨_,hd,xs,_,dd⟩:=vW I.hok e
  refine{dd.typeIs,λb q=>?_,hd};cases q;let⟨ob,_,_,h1,h2,_⟩:=dd;exact{ob,h1,h2.2.1}
end L2
namespace Att
open PySem.W PySem.Calls PyProof.Rows
theorem oB {P:Params}{h:Am}:∀(ns:Th) (vs:Te),WellAll P h vs (ns.map WData.int)->IntsAre vs ns:=by
 intro ns;induction ns with
 |nil=>
  intro vs w;rw[Dj] at w;cases w;exact .nil
 |cons n ns ih=>
  intro vs w;rw[BH] at w
  cases w with
  |cons a b=>
   cases a;exact .cons _ _ (ih _ b)
theorem zD {l:OpenLaw}{n:Nat}(hn:l.most=some n){P:Params}{h:Am}{args:R4 WData}{vals:Te}
  (Gm:l.row.toRowW.claim.pre args=true) (hwl:WellAll P h vals args) :
  ∃a vs ns,vals=[Value.ref a]/\args=[WData.list (ns.map WData.int)]/\h.get? a=some {cls:=.type "list",data:=.seq vs.toArray}/\IntsAre vs ns/\ns.length<=n:=by
 have D6:WShape.hasAll [] args [.list .int]=true:=(pre_splitW Gm).1;have hc:l.pre.holds [] {args:=args}=true:=(pre_splitW Gm).2;let⟨d,r,rfl,h1,h2⟩:=hasAllW_cons D6;obtain rfl:=hasAllW_nil h2;let⟨xs,rfl,h3⟩:=hasW_list h1;let⟨ns,rfl⟩:=items_int h3
 have hlen:ns.length<=n:=by
  unfold OpenLaw.pre at hc
  have h4:(WTm.not (.lt (.lit (.int (n:Int))) (.len (.arg 0)))).holds [] {args:=[.list (ns.map .int)]}=true:=by
   have h4:=(holds_andW hc).1;rw[hn] at h4;exact h4
  have h5:=condW_of h4 (w_not (w_lt w_lit (w_len_list (w_arg rfl))));rw[BR] at h5;refine Nat.le_of_not_lt λq=>?_
  have q':(n:Int)<((ns.length:Nat):Int):=by omega
  first
   |(rw[D2 q'] at h5;exact Au h5 ∅)
   |(simp at h5;omega)
 cases hwl with
 |cons w1 w2=>
  cases w2
  cases w1 with
  |list ho hall=>exact{_,_,ns,rfl,rfl,ho,oB ns _ hall,hlen}
def zJ (l:OpenLaw)(args:R4 WData):l.row.toRowW.claim.post args (.bool true) args=true :=
 postW_of (r:=l.row.toRowW) (X:=(true == true))
  (show WShape.has [] (.bool true) .bool=true by first|rfl|decide|simp[WShape.has,WShape.arms,WShape.armsAll])
  (show(WTm.eq .res (.lit (.bool true))).value [] {args:=args,res:=some (.bool true),after:=args}=some (.bool (true == true)) from w_eq_bool (w_res rfl) w_lit) rfl
def attach_call {l:OpenLaw}{n:Nat}{q:Aj}{loose:Tn}{XP:(Td)->Am->Prop}{YP:An->Am->Prop}{d:DefRec}
  (hn:l.most=some n) (hdf:d.params.defaults=[])
  (call:∀(w:An) (s₀ s₁:AP) (mg mb:Td) (fa:Aa) (o:BO) (pm cd doc:AU) (a:Aa) (vs:Te) (ns:Th),
   Ground q loose [] XP w s₀ mg mb s₁.heap->YP w s₁.heap ->
   s₁.heap.get? fa=some o->o.data=.func (docDef d.name d.params d.body d.scope pm cd doc)->s₁.heap.CodeRec cd d.name->mg d.name=some (.ref fa) ->
   s₁.heap.get? a=some {cls:=.type "list",data:=.seq vs.toArray}->IntsAre vs ns->ns.length<=n->s₁.gens = #[] ->
   codeAny (model l.prog w) callerA (.call (.ref fa) {[.ref a],[]}) (λr s'=>r=.ok (.ret (.bool true))/\OldK s₁.heap s'.heap/\s'.os=s₁.os/\AllBare s'.gens) s₁) :
  WalkO q loose XP YP l.row.toRowW d [] (λf vs=>PySem.call f vs):=by
 intro w s₀ s₁ mg mb G Yz fa o pm cd doc dV kV ho hd FV hD hmg hg args vals as Gm hlay hrd hwl hlo;obtain rfl:dV=.none:=Dflts.none hD hdf;obtain rfl:kV=.none:=Dflts.noKw hD;let⟨a,vs,ns,rfl,rfl,Jh,hints,hlen⟩:=zD hn Gm hwl;refine enter_call (Fd (call w s₀ s₁ mg mb fa o pm cd doc a vs ns G Yz ho (fd_plain hd) FV hmg Jh hints hlen hg) λr s' hq=>?_);let⟨rfl,h2,h3,h4⟩:=hq;exact{.inl {.bool true,.bool true,[],rfl,λ_=>rfl,.bool true,zJ l _,λ_=>{List.Pairwise.nil,λ_ hm=>(nomatch hm)}},h2,h3,h4}
end Att
namespace L2
open PyProof.Rows
theorem d7:∀{vs:Te} {ns:Th},IntsAre vs ns->aM (ns.map V.int) vs
 |_,_,.nil=>.nil
 |_,_,.cons n t h=>.cons {t,rfl} (d7 h)
def Ee (H:Hp):Prop:=∀b,H b=none\/∃o xs,H b=some (.frz o (.lst xs))
theorem JBo {P:Aj}{w:An}{K:Ax}{mg mb:Td}{CX:zm}{k:Nat}{fa a:Aa}{fd:FuncData}{x:Str}{sp:Sp}{s₁:AP}{vs:Te}{ns:Th}
  (KX:K.In s₁.heap) (hns:s₁.heap.Ns mainGlobals mg) (hb:s₁.heap.Ns builtinsNs mb) (hbb:∀x:Str,x≠"__name__"->mb x=bootBuiltins x) (hlim:s₁.heap.NoLimit) (hg:s₁.gens = #[])
  (ha:s₁.heap.get? a=some {cls:=.type "list",data:=.seq vs.toArray}) (hi:IntsAre vs ns) (hl:ns.length<=sizeLine) (hr:bG k callerA)
  (F:∀base:Am,K.In base->base.Ns mainGlobals mg->cw P w K mg base CX k fa fd [x] sp) (hbind:∀(s:AP) (u:AU),BindsTo s fd {[u],[]} [(x,u)])
  (Ex:∀H:Hp,Ee H->iM K H a (ns.map V.int)->sp [.ref a] H (λv _=>v=.bl true) λ_ _ _=>False)
  (hCX:∀H e s',CX [] H s₁ (λ_ _ _=>False) e s'->False) :
  codeAny (model P w) callerA (.call (.ref fa) {[.ref a],[]}) (λr s'=>r=.ok (.ret (.bool true))/\OldK s₁.heap s'.heap/\s'.os=s₁.os/\AllBare s'.gens) s₁:=by
 have rv:=d7 hi;have lenV:=hi.length
 have core:∀H:Hp,Ee H->iM K H a (ns.map V.int)->f7 P w H s₁.heap->(∀b,H b≠none->b=a)->(H a≠none->K.lookup a=none) ->
   codeAny (model P w) callerA (.call (.ref fa) {[.ref a],[]}) (λr s'=>r=.ok (.ret (.bool true))/\OldK s₁.heap s'.heap/\s'.os=s₁.os/\AllBare s'.gens) s₁:=by
  intro H F0 hS hok hA hK;have base_of:∀{b:Aa} {o:BO},s₁.heap.get? b=some o->H b=none->(tK s₁.heap H).get? b=some o:=λe n=>JC2 e n
  have noA:∀{b:Aa} {o:BO} {es:Al DictEntry} {ep:Nat},s₁.heap.get? b=some o->o.data=.dict es ep->H b=none:=λ{b o es ep} e d=>by
   cases q:H b with
   |none=>rfl
   |some u=>
    have e':b=a:=hA b (by rw[q];simp);subst e';rw[ha] at e;cases e;have d':Data.seq vs.toArray _=Data.dict es ep:=d;cases d'
  have nsK:∀{b:Aa} {m:Td},s₁.heap.Ns b m->(tK s₁.heap H).Ns b m:=λ{b m} ⟨o,es,ep,e,d,r⟩=>{o,es,ep,base_of e (noA e d),d,r}
  have hKb:K.In (tK s₁.heap H):=λb o e=>base_of (KX b o e) (by
   cases q:H b with
   |none=>rfl
   |some u=>
    have e':b=a:=hA b (by rw[q];simp);subst e'
    rw[hK (by rw[q];simp)] at e;cases e)
  have hM:Mod K mg (tK s₁.heap H):={hKb,nsK hns,{mb,nsK hb,hbb},let ⟨mc,h1,h2⟩:=hlim;{mc,nsK h1,h2}};have e0:xP P w K mg (tK s₁.heap H) callerA [] s₁ H:={rfl,hM,λb o e=>JE6 e,Nat.le_of_eq (JAl _ _),trivial,λb hb=>Au (show b∈([]:Tf) from hb) ∅,hok,.of_eq hg};refine Fd ((F _ hKb (nsK hns)).run callerA [] s₁ H {[.ref a],[]} [.ref a] [.ref a] _ _ hr e0 (hbind s₁ (.ref a)) (.cons rfl .nil) (Ex H F0 hS)) λr s' h=>?_
  cases r with
  |error e=>exact(hCX H e s' h).elim
  |ok fl=>
   cases fl with
   |next=>exact False.elim h
   |brk=>exact False.elim h
   |cont=>exact False.elim h
   |ret u=>
    let⟨v,H',os,bare,un,hok',r',q⟩:=h;have q':v=.bl true:=q;subst q';obtain rfl:u=Value.bool true:=r';refine{rfl,OldK.of_keep λb o e=>?_,os,bare}
    cases q:H b with
    |none=>exact un.keep b o e q (by intro z;exact Au (show b∈([]:Tf) from z) ∅) ∅
    |some u=>
     rcases F0 b with z|⟨ob,xs,z⟩
     ·rw[q] at z;cases z
     ·have z2:=un.frzs b ob _ z
      let⟨e1,_⟩:=hok b _ z;let⟨e2,_⟩:=hok' b _ z2;rw[e] at e1;cases e1;exact e2
 cases hk:K.lookup a with
 |some o=>
  have e:=KX a o hk;rw[ha] at e;cases e;refine core (λ_=>none) (λ_=>.inl rfl) (.inr {_,vs.toArray,_,hk,rfl,{rfl,rfl},rfl,by rw[Bz,lenV];exact hl,by simpa using rv}) (λb u z=>by have z':(none:AA HO)=some u:=z;cases z') (λb z=>Au rfl z) λz=>Au rfl z
 |none=>
  refine core (λb=>if b=a then some (.frz {cls:=.type "list",data:=.seq vs.toArray} (.lst (ns.map V.int))) else none) (λb=>?_) (.inl (.inr {{cls:=.type "list",data:=.seq vs.toArray},Ae rfl})) (λb u z=>?_) (λb z=>?_) λ_=>hk
  ·by_cases hb:b=a
   ·exact .inr {_,_,Ae hb}
   ·exact .inl (Ac hb)
  ·by_cases hb:b=a
   ·have z':=(Ae hb).symm.trans z
    cases z';subst hb;exact{ha,by rw[BR];exact hl,vs,_,rv,ha}
   ·have z':=(Ac hb).symm.trans z
    cases z'
  ·by_cases hb:b=a
   ·exact hb
   ·exact Au (Ac hb) z
def JD0 {l:PySem.W.OpenLaw}{n k:Nat}{q:Aj}{loose:Tn}{XP:(Td)->Am->Prop}{YP:An->Am->Prop}{d:DefRec}{K:Params->Ax}{CX:An->zm}{sp:An->Sp}{x:Str}
  (hn:l.most=some n) (hn2:n<=sizeLine) (hdf:d.params.defaults=[]) (hr:bG k callerA)
  (hY:∀(w:An) (h:Am),YP w h->(K w.params).In h)
  (F:∀(w:An) (mg:Td) (fa:Aa) (h:Am),(K w.params).In h->h.Ns mainGlobals mg->mg d.name=some (.ref fa) ->
   ∃fd:FuncData,(∀(s:AP) (u:AU),BindsTo s fd {[u],[]} [(x,u)]) /\
    ∀base:Am,(K w.params).In base->base.Ns mainGlobals mg->cw l.prog w (K w.params) mg base (CX w) k fa fd [x] (sp w))
  (Ex:∀(w:An) (H:Hp) (a:Aa) (ns:Th),ns.length<=n->Ee H->iM (K w.params) H a (ns.map V.int)->sp w [.ref a] H (λv _=>v=.bl true) λ_ _ _=>False)
  (hCX:∀(w:An) (H:Hp) (s:AP) (e:AU) (s':AP),CX w [] H s (λ_ _ _=>False) e s'->False) :
  PySem.W.WalkO q loose XP YP l.row.toRowW d [] (λf vs=>PySem.call f vs):=by
 refine Att.attach_call hn hdf λw s₀ s₁ mg mb fa o pm cd doc a vs ns G Yz ho hd FV hmg Jh hints hlen hg=>?_;have KX:=hY w _ Yz;let⟨fd,hb,hF⟩:=F w mg fa _ KX G.T.g hmg;exact JBo KX G.T.g G.T.b G.T.builtins G.T.nolimit hg Jh hints (Dk hlen hn2) hr hF hb (λH F0 hS=>Ex w H a ns hlen F0 hS) λH e s'=>hCX w H s₁ e s'
def AR {l:PySem.W.OpenLaw}{n k:Nat}{q:Aj}{loose:Tn}{XP:(Td)->Am->Prop}{YP:An->Am->Prop}{d:DefRec}{K:Params->Ax}{CX:zm}{sp:Ax->Sp}{x:Str}
  (hn:l.most=some n) (hn2:n<=sizeLine) (hdf:d.params.defaults=[]) (hr:bG k callerA)
  (hY:∀(w:An) (h:Am),YP w h->(K w.params).In h)
  (F:∀(w:An) (mg:Td) (fa:Aa) (h:Am),(K w.params).In h->h.Ns mainGlobals mg->mg d.name=some (.ref fa) ->
   ∃fd:FuncData,(∀(s:AP) (u:AU),BindsTo s fd {[u],[]} [(x,u)]) /\
    ∀base:Am,(K w.params).In base->base.Ns mainGlobals mg->cw l.prog w (K w.params) mg base CX k fa fd [x] (sp (K w.params)))
  (Ex:∀(K:Ax) (H:Hp) (a:Aa) (ns:Th),ns.length<=n->Ee H->iM K H a (ns.map V.int)->sp K [.ref a] H (λv _=>v=.bl true) λ_ _ _=>False)
  (hCX:∀(H:Hp) (s:AP) (e:AU) (s':AP),CX [] H s (λ_ _ _=>False) e s'->False) :
  PySem.W.WalkO q loose XP YP l.row.toRowW d [] (λf vs=>PySem.call f vs) :=
 JD0 (K:=K) (CX:=λ_=>CX) (sp:=λw=>sp (K w.params)) hn hn2 hdf hr hY F (λw H a ns h1 h2 h3=>Ex (K w.params) H a ns h1 h2 h3) λ_ H s e s'=>hCX H s e s'
noncomputable def fF (s:B8)(j:Nat):B8:=match s with
 |.ClassDef _ _ _ body _ _ _ _ _ _ _=>body.getD j (.Pass {0,0,0,0})
 |_=>.Pass {0,0,0,0}
noncomputable def gr (s:B8):Arguments:=match s with
 |.FunctionDef _ a _ _ _ _ _ _ _ _=>a
 |_=>{posonlyargs:=[],args:=[],vararg:=none,kwonlyargs:=[],kw_defaults:=[],kwarg:=none,defaults:=[]}
noncomputable def bC (s:B8):Tk:=match s with
 |.FunctionDef _ _ b _ _ _ _ _ _ _=>b
 |_=>[]
noncomputable def aj (s:B8):Scope:=match s with
 |.FunctionDef _ _ _ _ _ _ sc _ _ _=>sc
 |_=>{kind:=.function,names:=[],isGenerator:=false,isCoroutine:=false}
abbrev lf:zm:=λ_ _ _ _ _ _=>False
abbrev JC5:XK:=λ_ _ _=>False
def pV:lZ lf X JC5:=λ_ _ _ _ _ _ _ h=>h.elim
structure o7 (K:Ax)(x qual:Str)(st:Stmt)(f:Addr)(fd:FuncData):Prop where
 ex:∃(oc:Value) (od:Option Addr) (kV doc pm:Value) (an:Option Addr) (BG ct:Value) (Fn:Array (Tg)),
  fd=PySem.W.fnOf x qual (gr st) (bC st) (aj st) .none kV doc pm an BG ct/\K.lookup f=some {oc,od,.func fd,Fn}/\PySem.W.codeIn K BG qual=true
 kp:PySem.W.keepIn K (.ref f)=true
section
variable {P:Aj}{w:An}{K:Ax}{mg:Td}{base:Am}
def o7.ok {x qual:Str}{st:B8}{f:Aa}{fd:FuncData}{N ps:Tn}{k:Nat}{sp:Sp}(F:o7 K x qual st f fd)(S:aA N ps (aj st))(len:∀vs H Q E,sp vs H Q E->vs.length=ps.length)
  (BN:∀(BG:AU) (A:Ar) (outer:R4 Env) (s:AP) (H:Hp) (vs:R4 V) (Q:VK) (E:XK),bG k (A.deeper (envOfC qual (aj st) s.heap.objs.size f BG))->sp vs H Q E ->
   ∃t,oG (jL lf P w K mg base N qual (aj st) f BG A outer s H E).nox (bC st) t/\t {nx:=λ_ H'=>Q .non H',rt:=Q} (fJ N vs) H):cw P w K mg base lf (k+1) f fd ps sp:=by
 let⟨oc,od,kV,doc,pm,an,BG,ct,Fn,rfl,lk,FV⟩:=F.ex;refine Oe lk FV S len λA outer s H vs Q E hr Ex=>?_;let⟨t,h,q⟩:=BN BG A outer s H vs Q E hr Ex;exact{t,h.nox,q}
def o7.binds {x qual:Str}{st:B8}{f:Aa}{fd:FuncData}{ps:Tn}(F:o7 K x qual st f fd)
  (h:∀(kV doc pm:AU) (an:AA Aa) (BG ct:AU) (us:Te),us.length=ps.length->bindArgs (PySem.W.fnOf x qual (gr st) (bC st) (aj st) .none kV doc pm an BG ct) {us,[]}=pure (ps.zip us)):fR K fd ps []:=by
 let⟨oc,od,kV,doc,pm,an,BG,ct,Fn,rfl,lk,FV⟩:=F.ex;exact .all (h kV doc pm an BG ct)
def xx {x qual:Str}{st:B8}{f:Aa}{oc:AU}{od an:AA Aa}{Fn:Al (Tg)}{kV doc pm BG ct:AU}(l:K.lookup f=some {oc,od,.func (PySem.W.fnOf x qual (gr st) (bC st) (aj st) .none kV doc pm an BG ct),Fn})
  (c:PySem.W.codeIn K BG qual=true) (k:PySem.W.keepIn K (.ref f)=true):o7 K x qual st f (PySem.W.fnOf x qual (gr st) (bC st) (aj st) .none kV doc pm an BG ct):={{oc,od,kV,doc,pm,an,BG,ct,Fn,rfl,l,c},k}
end
end L2
namespace HS
theorem JCk (xs:Al Nat)(j:Nat)(hs:xs.toList.Pairwise (·<·)):∀(fuel lo hi:Nat),hi-lo<=fuel->lo<=hi->hi<=xs.size ->
  (∀i (h:i<xs.size),i<lo->xs[i]<j)->(∀i (h:i<xs.size),hi<=i->j<=xs[i]) ->
  SetTable.below.go xs j fuel lo hi<=xs.size/\(∀i (h:i<xs.size),i<SetTable.below.go xs j fuel lo hi->xs[i]<j)/\(∀i (h:i<xs.size),SetTable.below.go xs j fuel lo hi<=i->j<=xs[i]):=by
 intro fuel
 have mono:∀i k (hi:i<xs.size) (hk:k<xs.size),i<=k->xs[i]<=xs[k]:=λi k hi hk h=>by
  rcases zcO i k with h|h
  ·have:=zbO.mp hs i k ‹hi› ‹hk› h
   simp at this;omega
  ·have:i=k:=by omega
   subst this;omega
 induction fuel with
 |zero=>
  intro lo hi hf hle hsz h1 h2
  have:lo=hi:=by omega
  subst this;exact{hsz,h1,h2}
 |succ fuel ih=>
  intro lo hi hf hle hsz h1 h2;unfold SetTable.below.go
  by_cases BD:lo<hi
  ·rw[Ae BD]
   dsimp only
   have hm:(lo+hi) / 2<xs.size:=by omega
   have hg:xs.getD ((lo+hi) / 2) j=xs[(lo+hi) / 2]:=by simp[Array.getD,hm]
   rw[hg];split
   ·rename_i hc
    exact ih _ _ ∅ ∅ hsz (λi h EG=>zch (mono i _ h hm ∅) hc) h2
   ·rename_i hc
    exact ih _ _ ∅ ∅ ∅ h1 (λi h EG=>Dk ∅ (mono _ i hm h EG))
  ·rw[Ac BD]
   have:lo=hi:=by omega
   subst this;exact{hsz,h1,h2}
def wl {xs:Al Nat}(j:Nat)(hs:xs.toList.Pairwise (·<·)) :
  SetTable.below xs j<=xs.size/\(∀i (h:i<xs.size),i<SetTable.below xs j->xs[i]<j)/\(∀i (h:i<xs.size),SetTable.below xs j<=i->j<=xs[i]) :=
 JCk xs j hs xs.size 0 xs.size ∅ ∅ ∅ (λ_ _ h=>by omega) (λ_ h h'=>by omega)
def sA (t:SetTable):Prop:=t.plain=true->t.place.toList.Pairwise (·<·)
def tH {xs:Al Nat}{j:Nat}(hs:xs.toList.Pairwise (·<·))(hn:xs[SetTable.below xs j]?≠some j):(insertAt xs (SetTable.below xs j) j).toList.Pairwise (·<·):=by
 let⟨b1,b2,b3⟩:=wl j hs;rw[toList_insertAt];generalize SetTable.below xs j=p at *;rw[List.pairwise_append];refine{hs.sublist (List.take_sublist _ _),EI.mpr {λy hy=>?_,hs.sublist (List.drop_sublist _ _)},λx hx y hy=>?_}
 ·let⟨i,hi,rfl⟩:=zcy.mp hy;rwa[zct,Ec] at hi;rw[List.getElem_drop,zb7];have h1:=b3 (p+i) ∅ ∅;rcases Nat.lt_or_eq_of_le h1 with h|h
  ·exact h
  ·exfalso;rcases Nat.eq_zero_or_pos i with rfl|hi0
   ·exact hn (by rw[D0 ∅];rwa[Nat.add_zero] at h;rw[←h])
   ·have h2:=b3 p ∅ ∅;have h3:=zbO.mp hs p (p+i) (by simp;omega) (by simp;omega) ∅;rwa[zb7] at h3;omega
 ·let⟨i,hi,rfl⟩:=zcy.mp hx;rwa[zbC,Ec] at hi;rw[List.getElem_take,zb7];have h1:=b2 i ∅ ∅;rcases BV.mp hy with rfl|hy
  ·exact h1
  ·let⟨k,hk,rfl⟩:=zcy.mp hy;rwa[zct,Ec] at hk;rw[List.getElem_drop,zb7];have:=b3 (p+k) ∅ ∅;omega
theorem pO (t:SetTable)(hashAt:Nat->Int)(h:Int):∀(fuel:Nat) (p:Probe),(∀d,p.dummy=some d->t.place[SetTable.below t.place d]?≠some d) ->
  ∀j dm,probe.go t hashAt h fuel p=some (.empty j dm)->t.place[SetTable.below t.place j]?≠some j/\∀d,dm=some d->t.place[SetTable.below t.place d]?≠some d
 |0,_,_,_,_,e=>by simp[probe.go] at e
 |fuel+1,p,hp,j,dm,e=>by
  unfold probe.go at e
  have adv:∀q:Probe,(t.advance q).dummy=q.dummy:=λq=>by
   unfold advance;split <;> rfl
  split at e
  ·rename_i hs
   cases e;refine{?_,hp};intro hq;unfold SetTable.slot at hs;simp[hq] at hs
  ·rename_i hs
   refine pO t hashAt h fuel _ (λd hd=>?_) j dm e;rw[adv] at hd;cases hd;intro hq;unfold SetTable.slot at hs;simp[hq] at hs
  ·split at e
   ·cases e
   ·exact pO t hashAt h fuel _ (λd hd=>hp d (by (rw[adv] at hd;assumption))) j dm e
def rj {t:SetTable}{h:Int}{j:Nat}{b:Ad}(e:t.freeSlot h=some (j,b)):t.place[SetTable.below t.place j]?≠some j:=by
 unfold freeSlot at e;split at e
 ·rename_i j' dm hp
  cases e;let⟨h1,h2⟩:=pO t _ h _ _ (by intro d hd;simp[probeStart] at hd) _ _ hp
  cases dm with
  |none=>exact h1
  |some d=>exact h2 d rfl
 ·cases e
def fq (t:SetTable)(n:Nat):sA (t.standIn n):=λh=>by simp[standIn] at h
def tw {t:SetTable}(es:Al (Int×AU))(h:Int)(x:AU)(r:sA t):sA (layNew t es h x).2.1/\(layNew t es h x).2.1.led=t.led:=by
 unfold layNew;split
 ·rename_i slot wd hf;dsimp only;unfold orStandIn;split
  ·refine{λhp=>?_,rfl};exact tH (r hp) (rj hf)
  ·exact{fq _ _,rfl}
 ·exact{fq _ _,rfl}
def lL {mask finger moves:Nat}{led plain:Ad}{hs:Al Int}{t':SetTable}{o:Al Nat}(e:laid mask finger moves led plain hs=some (t',o)):t'.place.toList.Pairwise (·<·)/\t'.led=led:=by
 unfold laid at e;rwa[bind,Option.bind,pure] at e;split at e
 ·cases e
 ·cases e;refine{?_,rfl};rw[zbz,List.pairwise_filterMap];refine List.Pairwise.imp ?_ (List.pairwise_lt_range);intro a b hab x hx y hy;rwa[DN] at hx hy;let⟨_,_,rfl⟩:=hx;let⟨_,_,rfl⟩:=hy;exact hab
def pH (t:SetTable)(es:Al (Int×AU))(wanted:Nat):sA (relayAll t es wanted).2.1/\(relayAll t es wanted).2.1.led=t.led:=by
 unfold relayAll;split
 ·rename_i t' order h;dsimp only;split
  ·exact{λ_=>(lL h).1,(lL h).2}
  ·exact{fq _ _,rfl}
 ·exact{fq _ _,rfl}
open PyProof.Rows
noncomputable def val (e:Int×AU):Int:=match e.2 with|.int n _=>n|_=>0
def LF (e:Int×AU):Prop:=∃n t,e=(hashInt n,.int n t)
structure cU (led:Bool)(es:Array (Int×Value))(t:SetTable)(xs:Th):Prop where
 el:∀e∈es.toList,LF e
 pm:(es.toList.map val).Perm xs
 nd:xs.Nodup
 bd:es.size<scanBound
 ft:t.fits es.size=true
 rs:sA t
 ld:t.led=led
structure oF (led:Bool)(es:Array (Int×Value))(t:SetTable):Prop where
 bd:es.size<scanBound
 ft:t.fits es.size=true
 rs:sA t
 ld:t.led=led
def cU.w {led:Ad}{es:Al (Int×AU)}{t:SetTable}{xs:Th}(g:cU led es t xs):oF led es t:={g.bd,g.ft,g.rs,g.ld}
def c8 (led:Ad)(o:BO)(xs:Th):Prop:=∃es ep t,o.ExactSet/\o.data=.set es ep t/\cU led es t xs
def c8.len {led:Ad}{es:Al (Int×AU)}{t:SetTable}{xs:Th}(g:cU led es t xs):es.size=xs.length:=by have:=g.pm.length_eq;simpa using this
def IA {prog:Aj}{l:R4 (Int×AU)}(h:∀e∈l,LF e):ElemsOf (intKind prog w) l:=λe he=>by let⟨n,t,rfl⟩:=h e he;exact{{n,intKind_is _ _ _ _,rfl},rfl}
def Df {prog:Aj}{e:Int×AU}(h:LF e)(k:Int):(intKind prog w).is k e.2=true ↔ val e=k:=by let⟨n,t,rfl⟩:=h;simp[intKind,Value.isInt,val]
section
variable {prog:Aj}{w:An}{A:Ar}{E:Tb}{s:AP}
noncomputable def cJ (xs:Th)(k:Int):Th:=if k∈xs then xs else xs++[k]
def pP {xs:Th}{k:Int}(h:xs.Nodup):(cJ xs k).Nodup:=by
 unfold cJ;split
 ·exact h
 ·rename_i hk;rw[F3];exact{h,by simp,λa ha b hb=>by simp at hb;subst hb;exact λe=>hk (e ▸ ha)}
def eB {a:Aa}{o:BO}{es BZ:Al (Int×AU)}{ep:Nat}{t t':SetTable}{Q:Unit->AP->Prop}(ho:s.heap.get? a=some o)(hx:o.ExactSet)(hd:o.data=.set es ep t)
  (hb:BZ.size<scanBound)
  (h:∀h',Heap.SameBut a s.heap h'->h'.get? a=some {o with data:=.set BZ (ep+1) t'}->Q () {s with heap:=h'}):wpAny (model prog w) A (storeSet a BZ t') Q E s:=by
 refine wpAny_storeSet_of ho hd (h _ (Heap.SameBut.update s.heap a _) ?_) (fits_of_scanBound hb);have q:=EJ (Obj.putSet BZ t') ho (by rw[putSet_of BZ t' hd];rfl)
 (rw[putSet_of BZ t' hd] at q;assumption)
def yS {g:Ad->Sem Unit}(hg:g=λb=>match b with|true=>rule "set.scan.the-table-gave-way" | false=>pure ()){b:Ad}{Q:Unit->AP->Prop}(h:Q () s):wpAny (model prog w) A (g b) Q E s:=by
 subst hg;cases b
 ·exact Ay h
 ·exact Fj h
theorem Eb {a:Aa}{led:Ad}{o:BO}{xs:Th}{k:Int}{tk:Tok}{Q:Ad->AP->Prop}(ho:s.heap.get? a=some o)(hS:c8 led o xs)(JB:xs.length+1<scanBound)
  (h:∀h' o' b,Heap.SameBut a s.heap h'->h'.get? a=some o'->c8 led o' (cJ xs k)->Q b {s with heap:=h'}) :
  wpAny (model prog w) A (setAddHashed a (.int k tk) (hashInt k)) Q E s:=by
 let⟨es,ep,t,hx,hd,G⟩:=hS;have hlen:=c8.len G;unfold setAddHashed setAddHashedIn;refine CR (Ak (CT ho hd G.ft ?_));dsimp only;rw[byScan_of (knd:=intKind prog w) (x:=.int k tk) rfl G.bd (IA G.el),Ae rfl];unfold setAddByScan;refine Ak (Ak (Fj (Ak ?_)));refine wpAny_setScan_of (knd:=intKind prog w) (k:=k) (intKind_is _ _ _ _) ho hd G.ft (IA G.el) ?_
 cases hr:List.findIdx? (λe=>(intKind prog w).is k e.2) es.toList with
 |some j=>
  let⟨hj,hpj,_⟩:=List.findIdx?_eq_some_iff_getElem.mp hr
  have Jk:k∈xs:=by
   refine G.pm.mem_iff.mp (Ca.mpr {_,zbD hj,?_});exact(Df (G.el _ (zbD hj)) k).mp hpj
  dsimp only;refine Ay (Ay ?_);have:=h s.heap o false (Heap.SameBut.refl a s.heap) ho
  unfold cJ at this
  rw[Ae Jk] at this
  have e:s={s with heap:=s.heap}:=by cases s;rfl
  rw[e];exact this {es,ep,t,hx,hd,G}
 |none=>
  have Jf:k∉xs:=λhk=>by
   let⟨e,he,hv⟩:=Ca.mp (G.pm.mem_iff.mpr hk);have:=List.findIdx?_eq_none_iff.mp hr e he;rw[(Df (G.el e he) k).mpr hv] at this;cases this
  dsimp only;have p1:=layNew_perm t es (hashInt k) (.int k tk);have f1:=layNew_fits t es (hashInt k) (.int k tk);have r1:=tw es (hashInt k) (.int k tk) G.rs;generalize hL:layNew t es (hashInt k) (.int k tk)=L at p1 f1 r1;let⟨CW,t1,wd,gv⟩:=L;have hL':layNew t es ((intKind prog w).hash k) (.int k tk)=(CW,t1,wd,gv):=hL
  try rw[hL']
  dsimp only at p1 f1 r1 ⊢;rw[Array.toList_push] at p1
  have G1:cU led CW t1 (cJ xs k):=by
   have hm:(CW.toList.map val).Perm (xs++[k]):=by
    refine(p1.map val).trans ?_;rw[DK];exact G.pm.append (List.Perm.refl _)
   have hsz:CW.size=xs.length+1:=by have:=hm.length_eq;simpa using this
   refine{λe he=>?_,?_,pP G.nd,by omega,f1,r1.1,r1.2.trans G.ld}
   ·rcases Dd.mp (p1.mem_iff.mp he) with he|he
    ·exact G.el e he
    ·rw[CP] at he;exact{k,tk,he}
   ·unfold cJ;rw[Ac Jf];exact hm
  refine Ak (yS rfl ?_)
  have tail:∀t2,t2=t1->wpAny (model prog w) A (do
    storeSet a CW t2
    if (!wd&&t2.tooFull)=true then do
      (match (relayAll t2 CW (grown CW.size)).2.2 with|true=>rule "set.scan.the-table-gave-way" | false=>pure ())
      storeSet a (relayAll t2 CW (grown CW.size)).1 (relayAll t2 CW (grown CW.size)).2.1
      pure (some true)
     else pure (some true)) (λr s'=>wpAny (model prog w) A (match r with|some added=>pure added|none=>setAddHashedIn a (.int k tk) ((intKind prog w).hash k) 99999) Q E s') E s:=by
   intro t2 ht2;subst ht2;refine Ak (eB ho hx hd G1.bd λh1 b1 g1=>?_);split
   ·have p2:=relayAll_perm t2 CW (grown CW.size)
    have f2:=relayAll_fits t2 CW (grown CW.size);have r2:=pH t2 CW (grown CW.size);generalize relayAll t2 CW (grown CW.size)=Rl at p2 f2 r2 ⊢;let⟨es2,t3,gv2⟩:=Rl;dsimp only at p2 f2 r2 ⊢
    have hsz:es2.size=CW.size:=by have:=p2.length_eq;simpa using this
    refine Ak (yS (g:=λb=>match b with|true=>rule "set.scan.the-table-gave-way" | false=>pure ()) rfl ?_);refine Ak (eB (s:={s with heap:=h1}) g1 hx rfl (by rw[hsz];exact G1.bd) λh2 b2 g2=>Ay (Ay ?_));refine h h2 _ true (b1.trans b2) g2 {es2,_,t3,hx,rfl,λe he=>G1.el e (p2.mem_iff.mp he),(p2.map val).trans G1.pm,G1.nd,by rw[hsz];exact G1.bd,f2,r2.1,r2.2.trans G1.ld}
   ·exact Ay (Ay (h h1 _ true b1 g1 {CW,_,t2,hx,rfl,G1}))
  split
  ·refine Ak ?_
   rw[hashByValue_scannable 8 (x:=.int k tk) rfl];exact Ay (tail _ rfl)
  ·exact Ak (Ay (tail _ rfl))
end
def uB:isSubtype (.type "tuple") (.type "set")=pure false:=by rw[isSubtype_type];kernel_rfl
def uC:isSubtype (.type "tuple") (.type "frozenset")=pure false:=by rw[isSubtype_type];kernel_rfl
def pQ (xs:Th)(k:Int):(cJ xs k).length<=xs.length+1:=by unfold cJ;split <;> simp
noncomputable def aK (xs:Th)(ns:Th):Th:=ns.foldl cJ xs
abbrev bh (led:Ad):BO:={cls:=.type "set",dict:=none,data:=.set #[] 0 (.fresh 0 0 led)}
def jp (led:Ad):c8 led (bh led) [] :=
 {#[],0,_,{rfl,rfl,rfl},rfl,{λ_ h=>by simp at h,List.Perm.refl _,zck,by decide,by rfl,λ_=>List.Pairwise.nil,rfl}}
section
variable {prog:Aj}{w:An}{A:Ar}{R:Result->AP->Prop}{I:Aa}{fp wr:Tf}{G:Al GenState->Al GenState->Prop}{n:Nat}{P:Nat->AU->Prop}{St:Nat->AP->Prop}
theorem nM (W:WalksS prog w A.in1 I fp wr G n P St)(S:Aa)(CQ:S∉fp){led:Ad}(ms:Th)(hms:ms.length=n)(hval:∀i v,P i v->∃t,v=.int (ms.getD i 0) t) :
  ∀(k i:Nat) (s:AP) (o:BO) (xs:Th),n-i=k->i<=n->St i s->s.heap.get? S=some o->c8 led o xs->xs.length+k+1<scanBound ->
   (∀s' o',Moved (S::wr) G s s'->s'.heap.get? S=some o'->c8 led o' (aK xs (ms.drop i))->R (.ok (.ret .none)) s') ->
   codeAny (model prog w) A (.builtin "set.update.loop" {[.ref S,.ref I],[]}) R s:=by
 have nw:S∉wr:=λh=>CQ (W.sub _ h);have up:∀b∈wr,b∈S::wr:=λb hb=>Br _ hb;intro k
 induction k with
 |zero=>
  intro i s o xs hk hi Cj ho hS hb hR
  have Jk:i=n:=by omega
  subst Jk;refine EA F.entry_set_update_loop ?_;rw[Et F.plain_set_update_loop _];refine(show wpAny _ A.in1 (pyNext (.ref I) >>= _) _ _ s from Ak (W.done s _ _ Cj λs' hm=>?_));refine(show wpAny _ A.in1 (ret Value.none) _ _ s' from Ay (hR s' o (hm.mono up) (hm.heap S _ nw ho) ?_));rw[zcq ∅];exact hS
 |succ k ih=>
  intro i s o xs hk hi Cj ho hS hb hR
  have BD:i<n:=by omega
  refine EA F.entry_set_update_loop ?_;rw[Et F.plain_set_update_loop _];refine(show wpAny _ A.in1 (pyNext (.ref I) >>= _) _ _ s from Ak (W.item i s _ _ BD Cj λv s' hP hst' hm=>?_));let⟨t,rfl⟩:=hval i v hP;have DV:=hm.heap S _ nw ho;refine(show wpAny _ A.in1 (holding [Value.int (ms.getD i 0) t] (setAdd S (.int (ms.getD i 0) t)) >>= _) _ _ s' from Ak (CR ?_));unfold setAdd;refine CR (Ak ((intKind prog w).pyHash (k:=ms.getD i 0) (intKind_is _ _ _ _) ?_));refine Eb (s:={s' with toks:=s'.toks+1}) DV hS ∅ λh' o' _ Ey Fs Ez=>?_
  have DX:ms.drop i=ms.getD i 0::ms.drop (i+1):=by
   have hl:i<ms.length:=by omega
   rw[GC hl];simp[List.getD,hl]
  refine Ay {Ff F.plain_set_update_loop _,ih (i+1) _ o' _ ∅ BD (W.frame _ s' _ _ hst' (Fz _) λb hb o e=>?_) Fs Ez (by have:=pQ xs (ms.getD i 0);omega) λs2 o2 hm2 q2 g2=>?_}
  ·rw[Ey.2 b (λh:b=S=>CQ (h ▸ hb))];exact e
  ·refine hR s2 o2 (Moved.trans W.gtrans ((hm.mono up).then_heap (Fz _) λb o hb e=>?_) hm2) q2 (by rw[DX];exact g2)
   rw[Ey.2 b (λh:b=S=>hb (by rw[h];exact Be))];exact e
end
section
variable {prog:Aj}{w:An}{A:Ar}{E:Tb}{s:AP}
def KL (a:AU){Q₁:Tb}(h:Q₁ (.ref s.heap.objs.size) {s with heap:=s.heap.push (bh (!w.params.followText "set-order"))}) :
  codeAny (model prog w) A (.call (.builtin "set.__new__") {[.type "set",a],[]}) (wants Q₁ E) s:=by
 refine zcz (show wpAny _ A.in1 (do checkBuiltinCall "set.__new__" {[.type "set",a],[]};again (.builtin "set.__new__" {[.type "set",a],[]})) _ _ s from ?_);refine Ak (zcW (F.newCall_set_1 a) (Ay {Ff F.plain_set_new _,EA F.entry_set_new ?_}));rw[Et F.plain_set_new _];have JR:=sub_set_self;unfold Builtin.«set.__new__» Builtin.Frozenset.newClass;obtain⟨hp,g,d,tk,os⟩:=s;dsimp only;wp_walk;refine Fh (Ay ?_);dsimp only;rwa[newObj];exact Ak (wpAny_alloc (Ay (Ay h)))
set_option maxHeartbeats 3200000 in
theorem uG {l:Aa}{ol io:BO}{cn:String}{P:Ad->Am->BO->Prop}{Q:Tb}(Fp:s.heap.get? l=some ol)(Cu:ol.cls=.type cn)
  (hs1:isSubtype (.type cn) (.type "set")=pure false) (hs2:isSubtype (.type cn) (.type "frozenset")=pure false) (C1:(Value.type cn == Value.type "dict")=false)
  (hpy:∀(t:AP) (A':Ar) (E':Tb) (Q':Tb),t.heap.get? l=some ol->Q' (.ref t.heap.objs.size) {t with heap:=t.heap.push io}->wpAny (model prog w) A' (pyIter (.ref l)) Q' E' t)
  (FN:∀(led:Ad) (R':Result->AP->Prop),l≠(s.heap.push (bh led)).objs.size->s.heap.objs.size∉[(s.heap.push (bh led)).objs.size,l] ->
   (∀s' o',Moved [s.heap.objs.size,(s.heap.push (bh led)).objs.size] (λa b=>b=a) {s with heap:=(s.heap.push (bh led)).push io} s'->s'.heap.get? s.heap.objs.size=some o'->P led s'.heap o'->R' (.ok (.ret .none)) s') ->
   codeAny (model prog w) A.in1.in1 (.builtin "set.update.loop" {[.ref s.heap.objs.size,.ref (s.heap.push (bh led)).objs.size],[]}) R' {s with heap:=(s.heap.push (bh led)).push io})
  (h:∀(h':Am) (tk:Nat) (o:BO),h'.get? s.heap.objs.size=some o->P (!w.params.followText "set-order") h' o ->
   (∀b o,s.heap.get? b=some o->h'.get? b=some o)->s.toks<=tk->Q (.ref s.heap.objs.size) {s with heap:=h',toks:=tk}) :
  wpAny (model prog w) A (call (.type "set") [.ref l]) Q E s:=by
 obtain⟨c,tl,hmro⟩:=F.called_set.mro;have hmade:=F.called_set.made;have JR:=F.called_set.sub;refine wpAny_call (zcz (show wpAny _ _ (callAny (.type "set") _) _ _ _ from ?_));refine Ay {Code.quiet_builtin _ ∅,EA F.entry_type_call ?_};rw[Around.under_plain (weight_type_call_type "set" [.ref l] []) rfl];have h1:=F.called_set.notType;have h2:=F.called_set.canCreate;have hct:=F.typeCall_set_1 (.ref l)
 repeat (any_goals (first|assumption|wp_step))
 refine Fd (KL (.ref l) (E:=E) (Q₁:=λobj s₁=>obj=.ref s.heap.objs.size/\s₁={s with heap:=s.heap.push (bh (!w.params.followText "set-order"))}) {rfl,rfl}) λr s₁ hr=>?_;generalize DW:(!w.params.followText "set-order")=led at *
 cases r with
 |error e=>exact hr
 |ok fl=>
  cases fl with
  |ret obj=>
   obtain⟨rfl,rfl⟩:=hr;have hS:(s.heap.push (bh led)).get? s.heap.objs.size=some (bh led):=Bd _ rfl;have hT:Shared.TypeIs {s with heap:=s.heap.push (bh led)} (.ref s.heap.objs.size) "set":={_,hS,rfl};have hli:=F.called_set.init.lookup;have hbi:=F.called_set.init.bind (.ref s.heap.objs.size)
   repeat (any_goals (first|assumption|wp_step))
   refine Fd (zcA (R:=wants (λr s₂=>r=.none/\∃h' tk o,s₂={s with heap:=h',toks:=tk}/\h'.get? s.heap.objs.size=some o/\P led h' o /\
     (∀b o,s.heap.get? b=some o->h'.get? b=some o)/\s.toks<=tk) E) F.called_set.init.plain F.entry_set_init (check_set_init_1 hT ?_)) λr₂ s₂ JV=>?_
   ·let⟨ocls,odict,odata,JO⟩:=ol
    simp only at Cu;subst Cu;have hol':(s.heap.push (bh led)).get? l=some {cls:=.type cn,dict:=odict,data:=odata,slots:=JO}:=BK _ Fp;unfold Builtin.«set.__init__» noKeywords Builtin.Frozenset.updateFrom;generalize hPI:pyIter=PI
    wp_walk;subst hPI
    refine hpy _ _ _ _ hol' (Ak (wpAny_runValue ?_));have hlS:l<s.heap.objs.size:=BQ Fp
    refine FN led _ (by rw[E8];exact BX (zbA hlS)) (by
     rw[E8];rwa[BV,EB,or_false,not_or]
     exact{BX (zbR _),DR hlS}) λs' o' hm DV FW=>?_
    let⟨h',g',d',CD,JP⟩:=s';have eg:g'=s.gens:=hm.gens;have ed:d'=s.drawn:=hm.drawn;have eo:JP=s.os:=hm.os;subst eg;subst ed;subst eo;refine(show wpAny _ _ _ _ _ _ from Ay (show wpAny _ _ (ret Value.none) _ _ _ from Ay {rfl,h',CD,o',rfl,DV,FW,λb o e=>?_,hm.toks}));have hbs:=BQ e;refine hm.heap b o ?_ (BK _ (BK _ e));rw[E8];rwa[BV,EB,or_false,not_or];exact{BX hbs,BX (zbA hbs)}
   ·cases r₂ with
    |error e=>exact JV
    |ok fl2=>
     cases fl2 with
     |ret r=>
      let⟨rfl,h',tk,o,rfl,ho,FW,Cs,ht⟩:=JV
      repeat (any_goals (first|assumption|wp_step))
      exact h _ _ o ho FW Cs ht
     |_=>exact JV.elim
  |_=>exact hr.elim
def JDl {l:Aa}{its:Ti}{ns:Th}{Q:Tb}
  (hh:A.handled=none) (hl:s.heap.IsTuple l its) (hi:IntsAre its.toList ns) (hb:its.size+1<scanBound)
  (h:∀(h':Am) (tk:Nat) (o:BO),h'.get? s.heap.objs.size=some o->c8 (!w.params.followText "set-order") o (aK [] ns) ->
   (∀b o,s.heap.get? b=some o->h'.get? b=some o)->s.toks<=tk->Q (.ref s.heap.objs.size) {s with heap:=h',toks:=tk}) :
  wpAny (model prog w) A (call (.type "set") [.ref l]) Q E s:=by
 have hh3:A.in1.in1.in1.handled=none:=by simp[hh]
 have EE:=hl;let⟨ol,Fp,Cu,nl,hdl⟩:=hl;refine uG (P:=λled _ o=>c8 led o (aK [] ns)) Fp Cu uB uC ∅ (λt A' E' Q' e q=>wpAny_pyIter_tuple {_,e,Cu,nl,hdl} q) (λled R' Ji CQ k=>?_) h
 exact nM ((Walks.tuple hh3 _ l Ji its).toS) s.heap.objs.size CQ (led:=led) ns (by have:=IntsAre.length hi;simpa using this.symm)
  (λi v hv=>IntsAre.int_at hi i v (by rw[Fm];exact hv)) (its.size-0) 0 _ (bh led) [] ∅ (Cr _)
  {{_,Bd _ rfl,rfl,rfl},EE.at λo e=>BK _ (BK _ e)} (BK _ (Bd _ rfl)) (jp led) ‹hb› k
end
def bu:Slot "set_iterator" "__next__" "set_iterator.__next__":=by
 refine .of (owner:="set_iterator") (n:="__next__") ?_ ∅ ∅ ∅ ?_ ?_
 ·rw[zcd,zbK];kernel_rfl
 ·first|exact .inl ∅|exact .inr ∅
 ·rw[isSubtype_type];kernel_rfl
def fH:entryFor table "set_iterator.__next__" = some Builtin.«set_iterator.__next__»:=entryFor_of_tree (by kernel_rfl)
def gw (a:AU):argsOk "set_iterator.__next__" {[a],[]}:=by unfold argsOk;kernel_rfl
def tV:entryFor table "set.__iter__" = some Builtin.«frozenset.__iter__» :=
 entryFor_alias (id':="frozenset.__iter__") (by kernel_rfl) (by first|rfl|decide) ∅ (by kernel_rfl)
theorem lT {Z:Type}:∀{l:R4 Z} {i:Nat} (h:i<l.length),(l[i]::l.eraseIdx i).Perm l
 |x::xs,0,_=>by simp
 |x::xs,i+1,h=>by rwa[List.getElem_cons_succ,List.eraseIdx_cons_succ];exact(List.Perm.swap _ _ _).trans ((lT ‹h›).cons x)
section
variable {Z:Type}{M:Model}{A:Ar}{E:Tb}{s:AP}
def JAv {src:Source}{n:Nat}{Q:Nat->AP->Prop}(hn:0<n)(h:∀i d,i<n->Q i {s with drawn:=d}):wpAny M A (choose src n) Q E s :=
 λ_ _ _=>{Nat.pos_iff_ne_zero.mp hn,h _ _ (Nat.mod_lt _ hn)}
theorem JFi (n:Nat):∀(xs:R4 Z) (s:AP) (Q:R4 Z->AP->Prop),xs.length=n->(∀ys d,ys.Perm xs->Q ys {s with drawn:=d})->wpAny M A (drawOrder n xs) Q E s:=by
 induction n with
 |zero=>
  intro xs s Q hl h;have e:xs=[]:=zcl.mp hl;subst e;exact Ay (h [] s.drawn (List.Perm.refl _))
 |succ n ih=>
  intro xs s Q hl h
  cases xs with
  |nil=>cases hl
  |cons x xs=>
   unfold drawOrder;refine Ak (JAv ∅ λi d hi=>?_);rw[C0 hi];dsimp only;refine Ak (ih _ _ _ (by rw[List.length_eraseIdx_of_lt hi];simp at hl;simp;omega) λys d' hp=>Ay ?_);exact h _ d' ((hp.cons _).trans (lT hi))
end
abbrev bt (w:An):Ad:=w.params.followText "set-order"
noncomputable def j9 (f:AU)(i:Nat)(a:Aa)(n ep:Nat):BO:={cls:=.type "set_iterator",data:=.fields #[f,.int i 0,.ref a,.int n 0,.int ep 0]}
def De {s:AP}{I:Aa}{f:AU}{i:Nat}{a:Aa}{n ep:Nat}(h:s.heap.get? I=some (j9 f i a n ep)):s.TypeIs (.ref I) "set_iterator":={_,h,rfl}
def JCl {t:SetTable}(r:t.place.toList.Pairwise (·<·))(i:Nat)(hi:i<=t.place.size):SetTable.below t.place (if h:0<i then t.place[i-1]'∅+1 else 0)=i:=by
 let⟨b1,b2,b3⟩:=wl (if h:0<i then t.place[i-1]'∅+1 else 0) r;generalize hB:SetTable.below t.place (if h:0<i then t.place[i-1]'∅+1 else 0)=B at *;have lt:∀(x y:Nat) (hx:x<t.place.size) (hy:y<t.place.size),x<y->t.place[x]<t.place[y]:=λx y hx hy hxy=>by have:=zbO.mp r x y ‹hx› ‹hy› hxy;simpa using this
 rcases Nat.lt_trichotomy B i with h|h|h
 ·exfalso;have hp:0<i:=by omega
  rwa[hp,dite_true] at b3;have h1:=b3 B ∅ (BL _);rcases zcO B (i-1) with h2|h2
  ·have:=lt B (i-1) ∅ ∅ h2;omega
  ·have:B=i-1:=by omega
   subst this;omega
 ·exact h
 ·exfalso;have h1:=b2 i ∅ h;by_cases hp:0<i
  ·rwa[hp,dite_true] at h1;have:=lt (i-1) i ∅ ∅ ∅;omega
  ·rwa[hp,dite_false] at h1;omega
section
variable {prog:Aj}{w:An}{A:Ar}{E:Tb}{s:AP}
def xa {led:Ad}{a:Aa}{o:BO}{es:Al (Int×AU)}{ep:Nat}{t:SetTable}{i:Nat}{Q:AA (AU×Nat)->AP->Prop}(hb:bt w=false)(hl:led=true)
  (ho:s.heap.get? a=some o) (hd:o.data=.set es ep t) (G:oF led es t) (D8:(!t.plain&&decide (es.size>1))=false) (hi:i<=es.size) (hp:t.place.size=es.size)
  (h:Q (if BD:i<es.size then some (es[i].2,t.place[i]+1) else none) s) :
  wpAny (model prog w) A (setNext a (if h:0<i then t.place[i-1]'∅+1 else 0) i ep) Q E s:=by
 have r:t.place.toList.Pairwise (·<·):=by
  cases hpl:t.plain with
  |true=>exact G.rs hpl
  |false=>
   have h1:¬ es.size>1:=by simpa[hpl] using D8
   have:t.place.toList.length<=1:=by simp;omega
   match hq:t.place.toList,this with
   |[],_=>exact List.Pairwise.nil
   |[x],_=>exact zcm _ _
 unfold setNext;refine Ak (CT ho hd G.ft ?_);dsimp only;unfold setsByText;refine Ak (Ak (Fh (Ay ?_)));dsimp only;rw[show((model prog w).w.params.followText "set-order")=false from hb];simp only[C4,↓reduceIte];split
 ·rename_i hc
  have:(!t.plain&&decide (es.size>1))=true:=hc;rw[D8] at this;cases this
 ·refine Ak (show wpAny _ _ (if (!t.led&&!es.isEmpty)=true then unsupported "set:maker-not-led" else pure ()) _ _ _ from ?_)
  rw[Ac (by rw[G.ld,hl];simp)];refine Ay ?_;rw[JCl r i ∅];refine Ay ?_
  by_cases BD:i<es.size
  ·have h2:i<t.place.size:=by omega
   rw[dif_pos BD] at h;rw[D0 BD,D0 h2];exact h
  ·rw[dif_neg BD] at h
   rw[zcr ∅];exact h
theorem yA {Z:Type}(nx:Nat->Nat):∀(fuel k:Nat) (left:R4 Z) (out:Al Z),left.length=fuel->(pickOrder.go nx fuel k left out).toList.Perm (out.toList++left)
 |0,k,[],out,_=>by unfold pickOrder.go;simp
 |fuel+1,k,x::xs,out,hl=>by unfold pickOrder.go;have BD:nx k%(x::xs).length<(x::xs).length:=Nat.mod_lt _ ∅;generalize nx k%(x::xs).length=j at BD;rw[C0 BD];dsimp only;refine(yA nx fuel (k+1) _ _ (by rw[List.length_eraseIdx_of_lt BD];simp at hl;simp;omega)).trans ?_;rw[Array.toList_push,Bx];exact(List.Perm.refl _).append (lT BD)
def mZ {Z:Type}(nx:Nat->Nat)(xs:Al Z):(pickOrder nx xs).toList.Perm xs.toList:=by have:=yA nx xs.size 0 xs.toList #[] ∅;simpa[pickOrder] using this
def zR {led:Ad}{a:Aa}{o:BO}{es:Al (Int×AU)}{ep:Nat}{t:SetTable}{sl i:Nat}{Q:AA (AU×Nat)->AP->Prop}(hb:bt w=true)
  (ho:s.heap.get? a=some o) (hd:o.data=.set es ep t) (G:oF led es t)
  (h:Q (((pickOrder (w.params.setOrder a ep) es)[i]?).map λe=>(e.2,sl)) s) :
  wpAny (model prog w) A (setNext a sl i ep) Q E s:=by
 unfold setNext;refine Ak (CT ho hd G.ft ?_);dsimp only;unfold setsByText;refine Ak (Ak (Fh (Ay ?_)));dsimp only;rw[show((model prog w).w.params.followText "set-order")=true from hb];simp only[bne_self_eq_false,C4,↓reduceIte];unfold setWalk setsByText;refine Ak (Ak (CT ho hd G.ft (Ak (Ak (Fh (Ay ?_))))));dsimp only;rw[show((model prog w).w.params.followText "set-order")=true from hb];simp only[↓reduceIte];refine Ak (Fh (Ay (Ay ?_)));exact h
end
section
variable {prog:Aj}{w:An}{A:Ar}{E:Tb}{s:AP}
def zf {M:Model}{E:Tb}{s:AP}{A:Ar}{Q:Fin->AP->Prop}(hh:A.handled=none)
  (h:∀h' a,(∀b o,s.heap.get? b=some o->h'.get? b=some o)->Shared.TypeIs {s with heap:=h'} (.ref a) "StopIteration"->E (.ref a) {s with heap:=h'}) :
  wpAny M A (newExc (.type "StopIteration") [] >>=λe=>raiseNew e) Q E s:=by
 refine Ak ?_;rwa[newExc,newTuple];refine Ak (Cw ?_ (by size_fits));refine Ak (m:=firstArgMember _ _) (zcW (a:=Value.none) (by first|rfl|(rwa[firstArgMember];rfl)) ?_);refine Cw ?_ (by size_fits);rwa[raiseNew];refine Ak (wpAny_handled ?_);rw[hh];refine Ak (Ay (wpAny_throw (h _ _ (λb o e=>BK _ (BK _ e)) ?_)));exact{_,Bd _ rfl,rfl}
def JEl {led:Ad}{I a:Aa}{o:BO}{es:Al (Int×AU)}{ep:Nat}{t:SetTable}{i sl sl':Nat}{x:AU}{Q:AA AU->AP->Prop}
  (hI:s.heap.get? I=some (j9 (.int sl 0) i a es.size ep)) (ho:s.heap.get? a=some o) (hd:o.data=.set es ep t) (G:oF led es t)
  (hnx:∀A' E' (Q':AA (AU×Nat)->AP->Prop),Q' (some (x,sl')) s->wpAny (model prog w) A' (setNext a sl i ep) Q' E' s)
  (h:∀h',h'.get? I=some (j9 (.int sl' 0) (i+1) a es.size ep)->Heap.SameBut I s.heap h'->Q (some x) {s with heap:=h'}):wpAny (model prog w) A (pyNext (.ref I)) Q E s:=by
 unfold pyNext;refine Ak (J1 (GD (name:=Str.ofString "__next__") (De hI) bu (Co bu (De hI) fH ?_ (gw _))));unfold Builtin.«set_iterator.__next__»;refine Ak (show wpAny _ _ (pure (Value.ref I,([]:Te))) _ _ _ from Ay ?_);refine Ak (J3 hI rfl ?_);dsimp only;unfold setEntries;refine Ak (Ak (CT ho hd G.ft (Ay ?_)));dsimp only;rw[Ac ∅];refine Ak (show wpAny _ _ (setNext a sl i ep) _ _ _ from hnx _ _ _ ?_);dsimp only;refine Ak (J2 hI rfl ∅ ?_);have h1:=EJ (Obj.mapFields (·.setIfInBounds 0 (rawInt (sl':Int)))) hI rfl;refine Ak (J2 (s:={s with heap:=_}) h1 rfl ∅ ?_);have h2:=EJ (Obj.mapFields (·.setIfInBounds 1 (rawInt ((i:Int)+1)))) h1 rfl;refine Ay {x,rfl,Ay (h _ (h2.trans ?_) ((Heap.SameBut.update ..).trans (Heap.SameBut.update ..)))};rfl
def K2 {led:Ad}{I a:Aa}{o:BO}{es:Al (Int×AU)}{ep:Nat}{t:SetTable}{i sl:Nat}{Q:AA AU->AP->Prop}(hh:A.handled=none)
  (hI:s.heap.get? I=some (j9 (.int sl 0) i a es.size ep)) (ho:s.heap.get? a=some o) (hd:o.data=.set es ep t) (G:oF led es t)
  (hnx:∀A' E' (Q':AA (AU×Nat)->AP->Prop),Q' none s->wpAny (model prog w) A' (setNext a sl i ep) Q' E' s)
  (h:∀h',(∀b o,b∉[I]->s.heap.get? b=some o->h'.get? b=some o)->Q none {s with heap:=h'}):wpAny (model prog w) A (pyNext (.ref I)) Q E s:=by
 unfold pyNext;refine Ak (J1 (GD (name:=Str.ofString "__next__") (De hI) bu (Co bu (De hI) fH ?_ (gw _))));unfold Builtin.«set_iterator.__next__»;refine Ak (show wpAny _ _ (pure (Value.ref I,([]:Te))) _ _ _ from Ay ?_);refine Ak (J3 hI rfl ?_);dsimp only;unfold setEntries;refine Ak (Ak (CT ho hd G.ft (Ay ?_)));dsimp only;rw[Ac ∅];refine Ak (show wpAny _ _ (setNext a sl i ep) _ _ _ from hnx _ _ _ ?_);dsimp only;refine Ak (J2 hI rfl ∅ ?_);refine zf (show A.in1.handled=none from hh) λh' b kp hT=>?_;refine Ak (IS (T:="StopIteration") (b:=true) hT isSubtype_stop ?_);exact Ay (h _ λb o hb e=>kp b o (by rw[DO _ _ (λq:I=b=>hb (by simp[q]))];exact e))
def JC0 {led:Ad}{I a tp:Aa}{o:BO}{es:Al (Int×AU)}{ep:Nat}{t:SetTable}{i:Nat}{pl:R4 Nat}{x:Int×AU}{p:Nat}{Q:AA AU->AP->Prop}
  (hI:s.heap.get? I=some (j9 (.ref tp) i a es.size ep)) (htp:s.heap.get? tp=some {cls:=.type "tuple",data:=.seq (pl.map λi:Nat=>rawInt i).toArray})
  (ho:s.heap.get? a=some o) (hd:o.data=.set es ep t) (G:oF led es t) (hp:pl[i]?=some p) (hx:es[p]?=some x)
  (h:∀h',h'.get? I=some (j9 (.ref tp) (i+1) a es.size ep)->Heap.SameBut I s.heap h'->Q (some x.2) {s with heap:=h'}):wpAny (model prog w) A (pyNext (.ref I)) Q E s:=by
 unfold pyNext;refine Ak (J1 (GD (name:=Str.ofString "__next__") (De hI) bu (Co bu (De hI) fH ?_ (gw _))));unfold Builtin.«set_iterator.__next__»;refine Ak (show wpAny _ _ (pure (Value.ref I,([]:Te))) _ _ _ from Ay ?_);refine Ak (J3 hI rfl ?_);dsimp only;unfold setEntries;refine Ak (Ak (CT ho hd G.ft (Ay ?_)));dsimp only;rw[Ac ∅];refine Ak (zcG htp rfl ?_);dsimp only
 have hq:(pl.map λi:Nat=>rawInt i).toArray[((i:Nat):Int).toNat]?=some (.int p 0):=by simp[hp,rawInt]
 rw[hq];dsimp only;unfold setNextDrawn;refine Ak (Ak (CT ho hd G.ft ?_));dsimp only;rw[Ac ∅];rwa[Fy,hx];refine Ay (Ak (J2 hI rfl ∅ ?_));have h1:=EJ (Obj.mapFields (·.setIfInBounds 1 (rawInt ((i:Int)+1)))) hI rfl;exact Ay {x.2,rfl,Ay (h _ (h1.trans rfl) (Heap.SameBut.update ..))}
def JEm {led:Ad}{I a tp:Aa}{o:BO}{es:Al (Int×AU)}{ep:Nat}{t:SetTable}{i:Nat}{pl:R4 Nat}{Q:AA AU->AP->Prop}(hh:A.handled=none)
  (hI:s.heap.get? I=some (j9 (.ref tp) i a es.size ep)) (htp:s.heap.get? tp=some {cls:=.type "tuple",data:=.seq (pl.map λi:Nat=>rawInt i).toArray})
  (ho:s.heap.get? a=some o) (hd:o.data=.set es ep t) (G:oF led es t) (hp:pl.length<=i)
  (h:∀h',(∀b o,b∉[I]->s.heap.get? b=some o->h'.get? b=some o)->Q none {s with heap:=h'}):wpAny (model prog w) A (pyNext (.ref I)) Q E s:=by
 unfold pyNext;refine Ak (J1 (GD (name:=Str.ofString "__next__") (De hI) bu (Co bu (De hI) fH ?_ (gw _))));unfold Builtin.«set_iterator.__next__»;refine Ak (show wpAny _ _ (pure (Value.ref I,([]:Te))) _ _ _ from Ay ?_);refine Ak (J3 hI rfl ?_);dsimp only;unfold setEntries;refine Ak (Ak (CT ho hd G.ft (Ay ?_)));dsimp only;rw[Ac ∅];refine Ak (zcG htp rfl ?_);dsimp only
 have hq:(pl.map λi:Nat=>rawInt i).toArray[((i:Nat):Int).toNat]?=none:=by simp;omega
 rw[hq];dsimp only;refine Ak (J2 hI rfl ∅ ?_);have h1:=EJ (Obj.mapFields (·.setIfInBounds 0 (rawInt 0))) hI rfl;refine Ak (J2 (s:={s with heap:=_}) h1 rfl ∅ ?_);refine zf (show A.in1.handled=none from hh) λh' b kp hT=>?_;refine Ak (IS (T:="StopIteration") (b:=true) hT isSubtype_stop ?_);refine Ay (h _ λb o hb e=>kp b o ?_);have ne:I≠b:=λq=>hb (by simp[q]);rw[DO _ _ ne,DO _ _ ne];exact e
end
def mi:Slot "set_iterator" "__iter__" "set_iterator.__iter__":=by
 refine .of (owner:="set_iterator") (n:="__iter__") ?_ ∅ ∅ ∅ ?_ ?_
 ·rw[zcd,zbK];kernel_rfl
 ·first|exact .inl ∅|exact .inr ∅
 ·rw[isSubtype_type];kernel_rfl
def uf (a:AU):argsOk "set_iterator.__iter__" {[a],[]}:=by unfold argsOk;kernel_rfl
def rA:entryFor table "set_iterator.__iter__" = some Builtin.«dict_keyiterator.__iter__» :=
 entryFor_alias (id':="dict_keyiterator.__iter__") (by kernel_rfl) (by first|rfl|decide) ∅ (by kernel_rfl)
section
variable {prog:Aj}{w:An}{A:Ar}{E:Tb}{s:AP}
def yj {I:Aa}{f:AU}{i:Nat}{a:Aa}{n ep:Nat}{Q:Tb}(hI:s.heap.get? I=some (j9 f i a n ep))(h:Q (.ref I) s):wpAny (model prog w) A (pyIter (.ref I)) Q E s:=by refine zb1 (De hI) mi (Co mi (De hI) rA ?_ (uf _));exact(show wpAny _ _ (ret (.ref I)) _ _ s from Ay {_,rfl,"set_iterator",_,De hI,bu.lookup,h})
end
variable  {prog:Aj}{w:An}
abbrev LO (ord:R4 (Int×AU))(i:Nat)(x:AU):Prop:=(ord[i]?).map (·.2)=some x
def AQ {A:Ar}(hh:A.handled=none){led:Ad}{I a:Aa}(C1:a≠I){o:BO}{es:Al (Int×AU)}{ep:Nat}{t:SetTable}(hd:o.data=.set es ep t)(G:oF led es t)
  (ord:R4 (Int×AU)) (hl:ord.length=es.size) (sl:Nat->Nat)
  (hnx:∀i (s:AP) A' E' (Q':AA (AU×Nat)->AP->Prop),i<=es.size->s.heap.get? a=some o->Q' ((ord[i]?).map λe=>(e.2,sl (i+1))) s->wpAny (model prog w) A' (setNext a (sl i) i ep) Q' E' s) :
  Walks prog w A I [I,a] [I] ord.length (LO ord) (λi h=>h.get? I=some (j9 (.int (sl i) 0) i a es.size ep)/\h.get? a=some o) where
 sub:=λb hb=>by simp at hb;simp[hb]
 frame:=λ_ _ _ st hk=>{hk I ∅ _ st.1,hk a ∅ _ st.2}
 item:=λi s Q E hi st hQ=>by
  have hx:ord[i]?=some ord[i]:=C0 hi;refine JEl (x:=ord[i].2) (sl':=sl (i+1)) st.1 st.2 hd G (λA' E' Q' q=>hnx i s A' E' Q' ∅ st.2 (by rw[hx];exact q)) λh' hI' hs=>?_;refine hQ _ h' s.toks (by simp[LO,hx]) {hI',hs.extBut a o C1 st.2} λb o hb e=>hs.extBut b o (λh=>hb (by simp[h])) e
 done:=λs Q E st hQ=>by
  refine K2 hh st.1 st.2 hd G (λA' E' Q' q=>hnx _ s A' E' Q' ∅ st.2 (by rw[zb3 ∅];exact q)) λh' hk=>hQ h' s.toks hk
 self:=λ_ _ _ _ st hQ=>yj st.1 hQ
def IN {A:Ar}(hh:A.handled=none){led:Ad}{I a tp:Aa}(C1:a≠I)(hnt:tp≠I){o:BO}{es:Al (Int×AU)}{ep:Nat}{t:SetTable}(hd:o.data=.set es ep t)(G:oF led es t)
  (pl:R4 Nat) (hpl:∀p∈pl,p<es.size) :
  Walks prog w A I [I,a,tp] [I] pl.length (LO (pl.filterMap (es[·]?))) (λi h=>h.get? I=some (j9 (.ref tp) i a es.size ep)/\h.get? a=some o/\h.get? tp=some {cls:=.type "tuple",data:=.seq (pl.map λi:Nat=>rawInt i).toArray}) where
 sub:=λb hb=>by simp at hb;simp[hb]
 frame:=λ_ _ _ st hk=>{hk I ∅ _ st.1,hk a ∅ _ st.2.1,hk tp ∅ _ st.2.2}
 item:=λi s Q E hi st hQ=>by
  have hp:pl[i]?=some pl[i]:=C0 hi;have hx:es[pl[i]]?=some (es[pl[i]]'(hpl _ (zbD hi))):=D0 _
  have hmap:pl.filterMap (es[·]?)=pl.pmap (λp h=>es[p]'h) hpl:=by
   clear hQ st hp hx hi
   induction pl with
   |nil=>rfl
   |cons p ps ih=>rw[zby (b:=es[p]'(hpl p ∅)) (D0 _),ih (λq hq=>hpl q (by simp[hq]))];rfl
  refine JC0 st.1 st.2.2 st.2.1 hd G hp hx λh' hI' hs=>?_;refine hQ _ h' s.toks ?_ {hI',hs.extBut a o C1 st.2.1,hs.extBut tp _ hnt st.2.2} λb o hb e=>hs.extBut b o (λh=>hb (by simp[h])) e;rw[hmap];simp[LO,hp]
 done:=λs Q E st hQ=>JEm hh st.1 st.2.2 st.2.1 hd G (BL _) λh' hk=>hQ h' s.toks hk
 self:=λ_ _ _ _ st hQ=>yj st.1 hQ
def ko {es:Al (Int×AU)}{pl:R4 Nat}(h:pl.Perm (List.range es.size)):(pl.filterMap (es[·]?)).Perm es.toList :=
 (h.filterMap _).trans (by rw[filterMap_getElem?_range])
def xy {es:Al (Int×AU)}{pl:R4 Nat}(h:pl.Perm (List.range es.size)):(pl.filterMap (es[·]?)).length=pl.length:=by rw[(ko h).length_eq,h.length_eq];simp
noncomputable def pA (t:SetTable)(i:Nat):Nat:=if h:0<i/\i<=t.place.size then t.place[i-1]'∅+1 else 0
section
variable {prog:Aj}{w:An}{A:Ar}{E:Tb}{s:AP}
def Db {a:Aa}{o:BO}{es:Al (Int×AU)}{ep:Nat}{t:SetTable}{Q:Tb}(ho:s.heap.get? a=some o)(hx:o.ExactSet)(hd:o.data=.set es ep t)(G:oF (!bt w) es t)
  (h:∀(h':Am) (d:Drawn) (I:Aa) (fp:Tf) (St:Nat->Am->Prop) (ord:R4 (Int×AU)),(∀A',A'.handled=none->Walks prog w A' I fp [I] ord.length (LO ord) St)->St 0 h'->(∀b∈fp,b=a\/s.heap.objs.size<=b) ->
   (∀b o,s.heap.get? b=some o->h'.get? b=some o)->s.heap.objs.size<=I->ord.Perm es.toList->Q (.ref I) {s with heap:=h',drawn:=d}) :
  wpAny (model prog w) A (pyIter (.ref a)) Q E s:=by
 have BD:=BQ ho;have hT:s.TypeIs (.ref a) "set":={o,ho,hx.1}
 have hpz:t.place.size=es.size:=by have:=G.ft;simp[fits] at this;exact this.1
 refine zb1 hT F.slot_set_iter (Co F.slot_set_iter hT tV ?_ (F.args_set_iter_1 _));unfold Builtin.«frozenset.__iter__» Builtin.Frozenset.slot0 Builtin.Frozenset.sizeOf;refine Ak (Ak (show wpAny _ _ (pure (Value.ref a,([]:Te))) _ _ _ from Ay (show wpAny _ _ (pure a) _ _ _ from Ay ?_)));unfold setEntries;refine Ak (Ak (Ak (CT ho hd G.ft (Ay (Ay ?_)))));dsimp only;unfold setDrawn setsByText;refine Ak (Ak (CT ho hd G.ft (Ak (Ak (Fh (Ay (Ay ?_)))))));dsimp only;split
 ·rename_i hc
  have D8:(!bt w&&(!t.plain&&decide (es.size>1)))=true:=hc;rwa[EM] at D8;refine Ak (JFi es.size (List.range es.size) _ _ ∅ λpl d hp=>?_);unfold newTuple;refine Ak (Cw ?_ (show(pl.map λi:Nat=>rawInt i).toArray.size<=sizeLine by have:=fits_of_scanBound G.bd;rw[Bz,BR,hp.length_eq,List.length_range];exact this));unfold setEpoch;refine Ak (Ak (CT (BK _ ho) hd G.ft (Ay ?_)));unfold newFields;refine Ak (Cw (Ay {_,rfl,"set_iterator",_,{_,Bd _ rfl,rfl},bu.lookup,?_}));have hz:(s.heap.push {cls:=.type "tuple",data:=.seq (pl.map λi:Nat=>rawInt i).toArray}).objs.size=s.heap.objs.size+1:=E8 ..;refine h _ d _ [_,a,s.heap.objs.size] _ (pl.filterMap (es[·]?)) (λA' hA=>by rw[xy hp];exact IN hA (I:=(s.heap.push {cls:=.type "tuple",data:=.seq (pl.map λi:Nat=>rawInt i).toArray}).objs.size) (tp:=s.heap.objs.size) (by rw[hz];exact BX (zbA BD)) (by rw[hz];exact BX (zbR _)) hd G pl (λp hp'=>by simpa using hp.mem_iff.mp hp')) ?_ ?_ ?_ ?_ (ko hp)
  ·exact{Bd _ rfl,BK _ (BK _ ho),BK _ (Bd _ rfl)}
  ·intro b hb
   rwa[BV,EB,or_false] at hb;rcases hb with rfl|rfl|rfl
   ·right;rw[hz];exact Fz _
   ·left;rfl
   ·right;exact BL _
  ·exact λb o e=>BK _ (BK _ e)
  ·rw[hz];exact Fz _
 ·rename_i hc
  have D8:¬ (!bt w&&(!t.plain&&decide (es.size>1)))=true:=hc;refine Ak (Ay ?_);unfold setEpoch;refine Ak (Ak (CT ho hd G.ft (Ay ?_)));unfold newFields;refine Ak (Cw (Ay {_,rfl,"set_iterator",_,{_,Bd _ rfl,rfl},bu.lookup,?_}));have kp:∀b o,s.heap.get? b=some o->(s.heap.push (j9 (.int ((0:Nat):Int) 0) 0 a es.size ep)).get? b=some o:=λb o e=>BK _ e
  have fpo:∀b∈[s.heap.objs.size,a],b=a\/s.heap.objs.size<=b:=λb hb=>by
   rwa[BV,EB,or_false] at hb;rcases hb with rfl|rfl
   ·right;exact BL _
   ·left;rfl
  cases hb:bt w with
  |true=>
   refine h _ s.drawn _ [s.heap.objs.size,a] _ (pickOrder (w.params.setOrder a ep) es).toList (λA' hA=>AQ hA (BX BD) hd G _ (by have:=(mZ (w.params.setOrder a ep) es).length_eq;simpa using this) (λ_=>0) ?_) {Bd _ rfl,kp _ _ ho} fpo kp (BL _) (mZ _ _);intro i s' A' E' Q' hi DV q;exact zR hb DV hd G (by rw[Fm] at q;exact q)
  |false=>
   rw[hb] at D8 G
   have EO:(!t.plain&&decide (es.size>1))=false:=by simpa using D8
   refine h _ s.drawn _ [s.heap.objs.size,a] _ es.toList (λA' hA=>AQ hA (BX BD) hd G es.toList ∅ (pA t) ?_) {Bd _ rfl,kp _ _ ho} fpo kp (BL _) (List.Perm.refl _);intro i s' A' E' Q' hi DV q
   have e1:pA t i=(if h:0<i then t.place[i-1]'∅+1 else 0):=by
    by_cases h0:0<i
    ·unfold pA;rw[dif_pos {h0,by omega},dif_pos h0]
    ·unfold pA;rw[dif_neg (λh=>h0 h.1),dif_neg h0]
   rw[e1];refine xa hb rfl DV hd G EO hi hpz ?_
   by_cases BD:i<es.size
   ·rw[dif_pos BD]
    rw[Fm,D0 BD] at q;rwa[EY] at q;unfold pA at q;rw[dif_pos {by omega,by omega}] at q;exact q
   ·rw[dif_neg BD]
    rw[zb3 (by simp;omega)] at q;exact q
def JFc {ord:R4 (Int×AU)}{acc:Ti}(h:ItemsOf (LO ord) acc ord.length):acc.toList=ord.map (·.2):=by
 refine List.ext_getElem? λi=>?_;rw[By,Fm];rcases zcO i ord.length with hi|hi
 ·have hs:i<acc.size:=by rw[h.1];exact hi
  have:=h.2 i acc[i] (D0 hs);rw[D0 hs];exact this.symm
 ·rw[zb3 hi,zcr (by rw[h.1];exact hi)];rfl
theorem JBs {ord:R4 (Int×AU)}(h:∀e∈ord,LF e):IntsAre (ord.map (·.2)) (ord.map val):=by
 induction ord with
 |nil=>exact .nil
 |cons e r ih=>
  let⟨n,t,rfl⟩:=h _ (Be ..);exact .cons n t (ih λe he=>h e (Br _ he))
def JC1 {a : Aa} {Q : Ad -> AP -> Prop} (hT : s.TypeIs (.ref a) "set") (h : Q false s) : wpAny (model prog w) A (listLengthHint (.ref a)) Q E s := by
  unfold listLengthHint
  refine Ak (zcw hT F.slot_set_len.lookup ?_)
  have Ex : splitId "set.__len__" = some ("set", "__len__") := by decide
  rwa[Ex]
  refine Ak (IS hT sub_set_self ?_)
  simp only[GB, C4, ↓reduceIte]
  refine (show wpAny _ _ (do let .ref _ ← typeOf (Value.ref a) | return false
                             let some k ← asInt? (← call (.builtin "len") [.ref a]) | unsupported "internal:len-gave-no-int"
                             return k != 0) _ _ _ from Ak (Fc hT (Ay h)))
def JAu {a:Aa}{o:BO}{es:Al (Int×AU)}{ep:Nat}{t:SetTable}{Q:R4 AU->AP->Prop}(hh:A.handled=none)(ho:s.heap.get? a=some o)(hx:o.ExactSet)(hd:o.data=.set es ep t)(G:oF (!bt w) es t)
  (h:∀(ord:R4 (Int×AU)) (h':Am) (d:Drawn) (tk:Nat),ord.Perm es.toList->(∀b o,s.heap.get? b=some o->h'.get? b=some o)->s.toks<=tk->s.heap.objs.size<=h'.objs.size->Q (ord.map (·.2)) {s with heap:=h',drawn:=d,toks:=tk}) :
  wpAny (model prog w) A (collect (.ref a)) Q E s:=by
 have BD:=BQ ho;unfold collect;refine Ak (wpAny_runValue (EA F.entry_proto_collect ?_));rw[Et F.plain_proto_collect _];refine(show wpAny _ A.in1 (newList [] >>=λl=>again (.builtin "list.__iadd__" {[l,.ref a],[]})) _ _ s from Ak (Cw ?_));refine Ay {Ff F.plain_list_iadd _,EA F.entry_list_iadd ?_};rw[Et F.plain_list_iadd _];refine(show wpAny _ A.in1 (listExtendWith (.ref s.heap.objs.size) (.ref a) (.ref s.heap.objs.size)) _ _ _ from ?_);unfold listExtendWith;have ho1:(s.heap.push {cls:=.type "list",data:=.seq ([]:Te).toArray}).get? a=some o:=BK _ ho;have hT:Shared.TypeIs {s with heap:=s.heap.push {cls:=.type "list",data:=.seq ([]:Te).toArray}} (.ref a) "set":={o,ho1,hx.1};refine Ak (Fc hT ?_)
 have h1:listSameRef (.ref s.heap.objs.size) (.ref a)=false:=by simp[listSameRef,DR BD]
 rwa[h1,show(Value.type "set" == Value.type "list")=false by decide,show(Value.type "set" == Value.type "tuple")=false by decide,Bool.or_false,C4,if_false];refine Ak (Db ho1 hx hd G λh1 d I fp St ord W st hfp kp hI FC=>?_);have hTa:Shared.TypeIs {s with heap:=h1,drawn:=d} (.ref a) "set":={o,kp _ _ ho1,hx.1};refine Ak (CR (JC1 hTa ?_))
 refine(show wpAny _ A.in1 (rule "list.extend.makes-room" >>=λ_=>listTouch (.ref s.heap.objs.size) >>=λ_=>
  again (.builtin "list.extend.loop" {[.ref s.heap.objs.size,.ref I,.ref s.heap.objs.size],[]})) _ _ _ from Ak (Fj (Ak ?_)))
 have hL:h1.get? s.heap.objs.size=some {cls:=.type "list",data:=.seq ([]:Te).toArray}:=kp _ _ (Bd _ rfl);have hsz:(s.heap.push {cls:=.type "list",data:=.seq ([]:Te).toArray}).objs.size=s.heap.objs.size+1:=E8 ..
 have CQ:s.heap.objs.size∉fp:=λhm=>by
  rcases hfp _ hm with e|e
  ·exact Cn _ (e ▸ BD)
  ·rw[hsz] at e;exact Cn _ e
 refine(show wpAny _ A.in1 (updateSeq s.heap.objs.size (·.push .none) >>=λ_=>updateSeq s.heap.objs.size (·.pop)) _ _ _ from Ak (zcB hL rfl ?_));have hL2:=EJ (Obj.mapSeq (·.push Value.none)) hL rfl;refine zcB (s:={s with heap:=_,drawn:=d}) hL2 rfl ?_;have hL3:=EJ (Obj.mapSeq (·.pop)) hL2 rfl
 have oth:∀b o,b≠s.heap.objs.size->h1.get? b=some o->((h1.update s.heap.objs.size (Obj.mapSeq (·.push Value.none))).update s.heap.objs.size (Obj.mapSeq (·.pop))).get? b=some o :=
  λb o hb e=>(DO _ _ (Ne.symm hb)).trans ((DO _ _ (Ne.symm hb)).trans e)
 have W1:=W A.in1 (show A.in1.handled=none from hh)
 have Fp:ord.length=es.size:=by have:=FC.length_eq;simpa using this
 refine Ay {Ff F.plain_extend_loop _,codeAny_extend_loopS W1.toS (by rw[Fp];exact fits_of_scanBound G.bd) _ CQ _ ord.length 0 _ _ _ rfl (Cr _)
  (W1.frame 0 h1 _ st λb hb o e=>oth b o (λq=>CQ (q ▸ hb)) e) hL3 (ItemsOf.nil _) λs' acc c hm FW DZ=>?_}
 refine(show wpAny _ A (load s.heap.objs.size >>= _) _ _ s' from Ak (wpAny_load FW ?_));dsimp only;let⟨h',g',d',CD,JP⟩:=s';have eg:g'=s.gens:=hm.gens;have ed:d'=d:=hm.drawn;have eo:JP=s.os:=hm.os;subst eg;subst ed;subst eo;refine Ay ?_;rw[JFc DZ];refine h ord h' d' CD FC (λb o e=>hm.heap b o (λhb=>?_) (oth b o (λq=>?_) (kp _ _ (BK _ e)))) hm.toks (Fe (BQ FW))
 ·have Jq:=BQ e
  rwa[BV,EB,or_false] at hb;rcases hb with q|q
  ·exact Cn _ (q ▸ Jq)
  ·rw[hsz,←q] at hI;exact Cn _ (CC Jq (Nat.le_of_succ_le hI))
 ·exact Cn _ (q ▸ BQ e)
def wb {a:Aa}{o:BO}{xs:Th}{Q:R4 AU->AP->Prop}(hh:A.handled=none)(ho:s.heap.get? a=some o)(hS:c8 (!bt w) o xs)
  (h:∀(vs:Te) (ns:Th) (h':Am) (d:Drawn) (tk:Nat),IntsAre vs ns->ns.Perm xs->(∀b o,s.heap.get? b=some o->h'.get? b=some o)->s.toks<=tk->s.heap.objs.size<=h'.objs.size->Q vs {s with heap:=h',drawn:=d,toks:=tk}) :
  wpAny (model prog w) A (collect (.ref a)) Q E s:=by
 let⟨es,ep,t,hx,hd,G⟩:=hS;exact JAu hh ho hx hd G.w λord h' d tk FC k1 k2 k3=>h _ _ h' d tk (JBs λe he=>G.el e (FC.mem_iff.mp he)) ((FC.map val).trans G.pm) k1 k2 k3
def wM {a:Aa}{o:BO}{xs:Th}{Q:Tb}(hh:A.handled=none)(ho:s.heap.get? a=some o)(hS:c8 (!bt w) o xs)(Fx:xs.length<64)
  (h:∀(out:Ti) (ns:Th) (h':Am) (d:Drawn) (tk:Nat) (l:Aa) (c:Nat),IntsAre out.toList ns->ns.Perm xs->ns.Pairwise (·<=·)->(∀b o,s.heap.get? b=some o->h'.get? b=some o)->s.toks<=tk ->
   s.heap.objs.size<=l->h'.get? l=some (seqObj "list" out c)->Q (.ref l) {s with heap:=h',drawn:=d,toks:=tk}) :
  wpAny (model prog w) A (call (.builtin "sorted") [.ref a]) Q E s:=by
 refine Calls.call_function_entry kind_sorted plain_sorted entry_sorted (args_sorted1 _) ?_;unfold Builtin.«sorted»;refine Ak (m:=checkCount "sorted" 1 1 _) (Ay (Ak (wb (show A.in1.handled=none from hh) ho hS λvs ns h' d tk hI hp kp ht hge=>?_)))
 have hvl:vs.length=xs.length:=by rw[IntsAre.length hI,hp.length_eq]
 refine Ak (wpAny_newList ?_ (by rw[hvl,D9];omega));have FD:(h'.push (seqObj "list" vs.toArray 0)).get? h'.objs.size=some (seqObj "list" vs.toArray 0):=Bd _ rfl;refine Ak (CR (Co (s:={s with heap:=h'.push (seqObj "list" vs.toArray 0),drawn:=d,toks:=tk}) slot_list_sort {_,FD,rfl} entry_list_sort (list_sort_tree FD hI ∅ λout ns' a1 a2 a3=>{_,rfl,?_}) (args_list_sort _)))
 obtain⟨c,hc⟩:∃c,(sortedHeap (h'.push (seqObj "list" vs.toArray 0)) h'.objs.size vs out).get? h'.objs.size=some (seqObj "list" out c):=by
  unfold sortedHeap;obtain⟨e1,q1⟩:∃e1,((h'.push (seqObj "list" vs.toArray 0)).update h'.objs.size (Obj.mapSeq λ_=>#[])).get? h'.objs.size=some (seqObj "list" #[] e1):={_,get?_update_seq FD (λ_=>#[])};exact{_,get?_update_seq (BK _ (BK _ q1)) (λ_=>out)}
 refine Ay {_,rfl,h out ns' _ d tk h'.objs.size c a1 (a2.trans hp) a3 (λb o e=>?_) ht hge hc};have hb:=kp b o e;have ne:h'.objs.size≠b:=DR (BQ hb);unfold sortedHeap;rw[DO _ _ ne];refine BK _ (BK _ ?_);rw[DO _ _ ne];exact BK _ hb
end
noncomputable def Bq (M i:Nat):Nat:=(i*5+1)%M
noncomputable def Ek (M:Nat):Nat->Nat->Nat
 |0,i=>i
 |t+1,i=>Ek M t (Bq M i)
theorem oP (M:Nat):∀s t i,Ek M (s+t) i=Ek M t (Ek M s i)
 |0,t,i=>by rw[zb4];rfl
 |s+1,t,i=>by rw[Nat.succ_add];exact oP M s t _
noncomputable def eF:R4 Nat:=[7,15,31,63,127,255]
def JBt:∀m∈eF,Ek (m+1) (m+1) 0=0:=by decide
def u7:∀m∈eF,∀j<m+1,∃t<m+1,Ek (m+1) t 0=j:=by
 have:∀m∈eF,∀j<m+1,((List.range (m+1)).any λt=>Ek (m+1) t 0 == j)=true:=by decide
 intro m hm j hj;let⟨t,ht,e⟩:=zcu.mp (this m hm j hj);exact{t,by simpa using ht,by simpa using e}
def JE0 {m:Nat}(hm:m∈eF){i j:Nat}(hi:i<m+1)(hj:j<m+1):∃t<m+1,Ek (m+1) t i=j:=by
 let⟨s,hs,rfl⟩:=u7 m hm i hi;let⟨t,ht,rfl⟩:=u7 m hm j hj;rcases zcO t s with h|h
 ·refine{m+1-s+t,by omega,?_};rw[←oP,show s+(m+1-s+t)=(m+1)+t by omega,oP,JBt m hm]
 ·refine{t-s,by omega,?_};rw[←oP,show s+(t-s)=t by omega]
theorem qi (m:Nat)(owner:Al (AA Nat)):∀fuel i p r,layClean.free m owner fuel i p=some r->owner[r]?=some none
 |0,i,p,r,e=>by simp[layClean.free] at e
 |fuel+1,i,p,r,e=>by
  unfold layClean.free at e;split at e
  ·rename_i k hk
   cases e;have:=List.find?_some hk;rwa[Array.getD] at this
   split at this
   ·rename_i BD;rw[D0 BD];simpa using this
   ·simp at this
  ·exact qi m owner fuel _ _ r e
noncomputable def lF (m:Nat):Nat->Nat->Nat->Nat×Nat
 |0,i,p=>(i,p)
 |t+1,i,p=>lF m t (leap m i p).1 (leap m i p).2
theorem sf (m:Nat)(owner:Al (AA Nat)):∀fuel i p,layClean.free m owner fuel i p=none->∀t<fuel,owner[(lF m t i p).1]?≠some none
 |0,i,p,_,t,ht=>by omega
 |fuel+1,i,p,e,t,ht=>by
  unfold layClean.free at e;split at e
  ·cases e
  ·rename_i hk
   cases t with
   |zero=>
    intro hq;have h0:=List.find?_eq_none.mp hk 0 (by have:i<=runEnd m i:=(by unfold runEnd;split <;> omega);simp;omega)
    rwa[lF] at hq;let⟨BD,hq⟩:=Array.getElem?_eq_some_iff.mp hq;simp[Array.getD,BD,hq] at h0
   |succ t=>exact sf m owner fuel _ _ e t ∅
theorem BB (m:Nat):∀t i p,(lF m t i p).2=p / 32 ^ t
 |0,i,p=>by simp[lF]
 |t+1,i,p=>by unfold lF;rw[BB m t];rwa[leap];rw[Nat.div_div_eq_div_mul,Nat.pow_succ,Nat.mul_comm]
theorem uH (m:Nat):∀s t i p,lF m (s+t) i p=lF m t (lF m s i p).1 (lF m s i p).2
 |0,t,i,p=>by rw[zb4];rfl
 |s+1,t,i,p=>by rw[Nat.succ_add];exact uH m s t _ _
theorem rN (m:Nat):∀t i,(lF m t i 0).1=Ek (m+1) t i
 |0,i=>rfl
 |t+1,i=>by
  have e:leap m i 0=(Bq (m+1) i,0):=by simp[leap,Bq]
  unfold lF Ek;rw[e];exact rN m t _
theorem yk (m:Nat):∀t i p,i<m+1->(lF m t i p).1<m+1
 |0,i,p,h=>h
 |t+1,i,p,h=>yk m t _ _ (Nat.mod_lt _ ∅)
theorem JEc {m:Nat}(hm:m∈eF){owner:Al (AA Nat)}(h:Int){j:Nat}(hj:j<m+1)(hf:owner[j]?=some none) :
  ∃r,layClean.free m owner (turns m) (bits h%(m+1)) (bits h)=some r/\owner[r]?=some none:=by
 cases e:layClean.free m owner (turns m) (bits h%(m+1)) (bits h) with
 |some r=>exact{r,rfl,qi m owner _ _ _ r e}
 |none=>
  exfalso
  have hn:=sf m owner _ _ _ e
  have hb:bits h<2 ^ 64:=by
   unfold bits;have:=zcI h (show(0:Int)<2 ^ 64 by decide);have:=zcU h (show(2 ^ 64:Int)≠0 by decide);omega
  have hp:(lF m 13 (bits h%(m+1)) (bits h)).2=0:=by
   rw[BB];exact Nat.div_eq_of_lt (zb2 hb ∅)
  have hi:(lF m 13 (bits h%(m+1)) (bits h)).1<m+1:=yk m _ _ _ (Nat.mod_lt _ ∅);let⟨t,ht,e⟩:=JE0 hm hi hj;refine hn (13+t) (by unfold turns;omega) ?_;rw[uH,hp,rN,e];exact hf
noncomputable def fV (M:Nat)(owner:Al (AA Nat)):R4 (Nat×Nat):=(List.range M).filterMap λj=>(owner.getD j none).map (j,·)
theorem yU {Z β:Type}{f g:Z->AA β}:∀{l:R4 Z},(∀y∈l,g y=f y)->l.filterMap g=l.filterMap f
 |[],_=>rfl
 |x::l,h=>by have ih:=yU (l:=l) λy hy=>h y (by simp[hy]);rwa[zcb,h x ∅,ih]
theorem Dr {f g:Nat->AA (Nat×Nat)}{j:Nat}{v:Nat×Nat}(hf:f j=none)(hg:g j=some v)(hx:∀x,x≠j->g x=f x):∀{l:R4 Nat},l.Nodup->j∈l->(l.filterMap g).Perm (v::l.filterMap f)
 |[],_,h=>by simp at h
 |x::l,hn,h=>by
  let⟨h1,h2⟩:=Cf.mp hn;by_cases e:x=j
  ·subst e;have:l.filterMap g=l.filterMap f:=yU λy hy=>hx y λz=>h1 (z ▸ hy);rw[zby hg,zci hf,this]
  ·have hj:j∈l:=by
    rcases BV.mp h with q|q
    ·exact Au q.symm e
    ·exact q
   have ih:=Dr hf hg hx h2 hj
   cases q:f x with
   |none=>rw[zci (by rw[hx x e];exact q),zci q];exact ih
   |some u=>
    rw[zby (by rw[hx x e];exact q),zby q];exact(ih.cons u).trans (.swap _ _ _)
def JBl {M k r:Nat}{owner:Al (AA Nat)}(hs:owner.size=M)(hr:owner[r]?=some none):(fV M (owner.setIfInBounds r (some k))).Perm ((r,k)::fV M owner):=by
 let⟨BD,hq⟩:=Array.getElem?_eq_some_iff.mp hr;refine Dr (j:=r) (v:=(r,k)) ?_ ?_ ?_ List.nodup_range (zbQ.mpr ∅)
 ·simp[Array.getD,BD,hq]
 ·simp[Array.getD,BD]
 ·intro x hx;rwa[Array.getD,Array.size_setIfInBounds];split
  ·rename_i h;have e:(owner.setIfInBounds r (some k))[x]'‹h›=owner[x]:=Array.getElem_setIfInBounds_ne _ (Ne.symm hx);exact Av _ e
  ·rfl
def zV {M:Nat}{owner:Al (AA Nat)}(hs:owner.size=M)(h:∀j<M,owner[j]?≠some none):(fV M owner).length=M:=by
 have:∀l:R4 Nat,(∀j∈l,j<M)->(l.filterMap λj=>(owner.getD j none).map (j,·)).length=l.length:=by
  intro l;induction l with
  |nil=>intro _;rfl
  |cons x l ih=>
   intro hl;have hx:=hl x ∅;have BD:x<owner.size:=by omega
   cases q:owner[x] with
   |none=>exact Au (by rw[D0 BD,q]) (h x hx)
   |some v=>
    rw[zby (b:=(x,v)) (by simp[Array.getD,BD,q])];rw[CK,ih λj hj=>hl j (by simp[hj]),CK]
 have:=this (List.range M) ∅;simpa[fV] using this
theorem yT {m:Nat}(hm:m∈eF):∀(hs:Th) (owner:Al (AA Nat)) (k:Nat),owner.size=m+1->((fV (m+1) owner).map (·.2)).Perm (List.range k)->k+hs.length<=m+1 ->
  ∃Dm,(hs.foldl (init:=some (owner,k)) λacc h=>do
   let (owner,k) ←acc
   let j ←layClean.free m owner (turns m) (bits h%(m+1)) (bits h)
   pure (owner.setIfInBounds j (some k),k+1))=some (Dm,k+hs.length)/\Dm.size=m+1/\((fV (m+1) Dm).map (·.2)).Perm (List.range (k+hs.length))
 |[],owner,k,h1,h2,h3=>{owner,by simp,h1,by simpa using h2}
 |h::hs,owner,k,h1,h2,h3=>by
  have hex:∃j,j<m+1/\owner[j]?=some none:=by
   refine Classical.byContradiction λhc=>?_;have:=zV h1 λj hj q=>hc {j,hj,q};have h4:=h2.length_eq;simp at h4 h3;omega
  let⟨j,hj,hf⟩:=hex;let⟨r,e,hr⟩:=JEc hm h hj hf
  have ih:=yT hm hs (owner.setIfInBounds r (some k)) (k+1) ‹h1› (by
   refine((JBl h1 hr).map (·.2)).trans ?_;rw[BH,List.range_succ]
   exact(h2.cons k).trans (List.perm_append_singleton k _).symm) (by simp at h3;omega)
  let⟨o',e1,e2,e3⟩:=ih;refine{o',?_,e2,?_}
  ·rw[EX]
   rwa[bind,Option.bind,e,pure];rw[show k+(h::hs).length=k+1+hs.length by simp;omega];exact e1
  ·rw[show k+(h::hs).length=k+1+hs.length by simp;omega];exact e3
def JCy {m:Nat}(hm:m∈eF)(hs:Al Int)(hl:hs.size<=m+1):∃owner,layClean m hs=some owner/\owner.size=m+1/\((fV (m+1) owner).map (·.2)).Perm (List.range hs.size):=by
 let⟨o,e1,e2,e3⟩:=yT hm hs.toList (Array.replicate (m+1) none) 0 ∅ (by
  have:fV (m+1) (Array.replicate (m+1) none)=[]:=by unfold fV;rw[List.filterMap_eq_nil_iff];intro j hj;simp at hj;simp[Array.getD,hj]
  rw[this];exact .refl _) ‹hl›
 refine{o,?_,e2,by simpa using e3};unfold layClean;rw[←Array.foldl_toList,e1];rfl
def JEf {m finger moves:Nat}{led plain:Ad}(hm:m∈eF)(hs:Al Int)(hl:hs.size<=m) :
  ∃t o,laid m finger moves led plain hs=some (t,o)/\o.toList.Perm (List.range hs.size)/\t.fits hs.size=true/\t.place.toList.Pairwise (·<·)/\t.led=led/\t.plain=plain/\t.mask=m/\t.dummies = #[]/\t.place.size=hs.size:=by
 let⟨owner,e,e2,e3⟩:=JCy hm hs ∅
 have hlen:(fV (m+1) owner).length=hs.size:=by have:=e3.length_eq;simpa using this
 have JC:laid m finger moves led plain hs=some (({mask:=m,place:=((fV (m+1) owner).map (·.1)).toArray,dummies:=#[],finger,led,moves,plain}:SetTable),((fV (m+1) owner).map (·.2)).toArray):=by
  unfold laid;rw[e];rfl
 refine{_,_,JC,by simpa using e3,?_,(lL JC).1,rfl,rfl,rfl,rfl,by simpa using hlen};simp[fits,SetTable.fill,hlen];omega
def JDz:∀n<256,sizeAbove n-1∈eF/\n<sizeAbove n/\sizeAbove n<=256:=by decide
def cU.perm {led:Ad}{es:Al (Int×AU)}{t:SetTable}{xs ys:Th}(g:cU led es t xs)(p:xs.Perm ys):cU led es t ys :=
 {g.el,g.pm.trans p,p.nodup_iff.mp g.nd,g.bd,g.ft,g.rs,g.ld}
def cU.place {led:Ad}{es:Al (Int×AU)}{t:SetTable}{xs:Th}(g:cU led es t xs):t.place.size=es.size/\t.fill<=t.mask:=by have:=g.ft;simp[fits] at this;exact this
section
variable {prog:Aj}{w:An}{A:Ar}{E:Tb}{s:AP}
def vq {led l' plain:Ad}{es:Al (Int×AU)}{t:SetTable}{xs:Th}(G:cU led es t xs){m finger moves:Nat}(hm:m∈eF)(hl:xs.length<=m)(hl':l'=led) :
  ∃t' o,laid m finger moves l' plain (es.map (·.1))=some (t',o)/\cU led (o.filterMap (es[·]?)) t' xs/\(o.filterMap (es[·]?)).size=es.size/\t'.mask=m/\t'.dummies = #[]:=by
 have hz:=c8.len G;let⟨t',o,e,h1,h2,h3,h4,h5,h6,h7,h8⟩:=JEf (finger:=finger) (moves:=moves) (led:=l') (plain:=plain) hm (es.map (·.1)) (by rw[Array.size_map];omega);rw[Array.size_map] at h1 h2 h8
 have hp:(o.filterMap (es[·]?)).toList.Perm es.toList:=by rw[Array.toList_filterMap];exact ko h1
 have hsz:(o.filterMap (es[·]?)).size=es.size:=by have:=hp.length_eq;(rw[Ec,Ec] at this;assumption)
 exact{t',o,e,{λx hx=>G.el x (hp.mem_iff.mp hx),(hp.map val).trans G.pm,G.nd,by rw[hsz];exact G.bd,by rw[hsz];exact h2,λ_=>h3,h4.trans hl'},hsz,h6,h7}
def JA0 {led:Ad}{a:Aa}{o:BO}{es:Al (Int×AU)}{ep:Nat}{t:SetTable}{xs:Th}{wanted:Nat}{Q:Unit->AP->Prop}(ho:s.heap.get? a=some o)(hx:o.ExactSet)(hd:o.data=.set es ep t)(G:cU led es t xs)(hw:wanted<256)(hl:xs.length<=wanted)
  (h:∀h' BZ t',Heap.SameBut a s.heap h'->h'.get? a=some {o with data:=.set BZ (ep+1) t'}->cU led BZ t' xs->t'.mask∈eF->wanted<=t'.mask->t'.dummies = #[]->Q () {s with heap:=h'}) :
  wpAny (model prog w) A (setRelay a wanted) Q E s:=by
 obtain⟨m1,m2,m3⟩:=JDz wanted hw;unfold setRelay;refine Ak (CT ho hd G.ft ?_);dsimp only;rw[Ac (by rw[D9];omega)];obtain⟨t',ord,e,G',hsz,hm,hdm⟩:=vq (l':=t.led) (plain:=t.plain) (finger:=t.finger) (moves:=t.movedTo (sizeAbove wanted-1)) G m1 ∅ G.ld;have e':t.relaid (es.map (·.1)) wanted=some (t',ord):=e;rw[e'];refine Ak (show wpAny _ _ (if ((ord.filterMap (es[·]?)).size != es.size)=true then (do unsupported "internal:set-table-lost-an-element";pure (ord.filterMap (es[·]?),t')) else pure (ord.filterMap (es[·]?),t')) _ _ _ from ?_);rw[Ac (by simp[hsz])];refine Ay (eB ho hx hd G'.bd λh' b1 g1=>?_);exact h h' _ t' b1 g1 G' (by rw[hm];exact m1) (by rw[hm];omega) hdm
def JDp {led:Ad}{a:Aa}{o:BO}{es:Al (Int×AU)}{ep:Nat}{t:SetTable}{xs:Th}{more:Nat}{Q:Unit->AP->Prop}(ho:s.heap.get? a=some o)(hx:o.ExactSet)(hd:o.data=.set es ep t)(G:cU led es t xs)(hw:xs.length+more<128)
  (h:∀h' BZ ep' t',Heap.SameBut a s.heap h'->h'.get? a=some {o with data:=.set BZ ep' t'}->cU led BZ t' xs->((t'=t/\(t.fill+more)*5<t.mask*3)\/(t'.mask∈eF/\xs.length+more<=t'.mask/\t'.dummies = #[]))->Q () {s with heap:=h'}) :
  wpAny (model prog w) A (setRoomFor a more) Q E s:=by
 have hz:=c8.len G;have hpl:=G.place;unfold setRoomFor;refine Ak (CT ho hd G.ft ?_);dsimp only;unfold roomFor
 by_cases hc:(t.fill+more)*5 >= t.mask*3
 ·rw[Ae hc]
  dsimp only;refine JA0 ho hx hd G ∅ ∅ λh' BZ t' b g G' m1 m2 m3=>h h' BZ _ t' b g G' (.inr {m1,by omega,m3})
 ·rw[Ac hc]
  dsimp only;refine Ay ?_
  have e:s={s with heap:=s.heap}:=by cases s;rfl
  have hoo:s.heap.get? a=some {o with data:=.set es ep t}:=by rw[ho];let⟨c1,c2,c3,c4⟩:=o;simp only at hd;subst hd;rfl
  rw[e];exact h s.heap es ep t (Heap.SameBut.refl a s.heap) hoo G (.inl {rfl,by omega})
end
def zL {xs ys:Th}(p:xs.Perm ys)(k:Int):(cJ xs k).Perm (cJ ys k):=by
 unfold cJ;by_cases h:k∈xs
 ·rw[Ae h,Ae (p.mem_iff.mp h)];exact p
 ·rw[Ac h,Ac (λq=>h (p.mem_iff.mpr q))];exact p.append (.refl _)
def zK (xs:Th)(a b:Int):(cJ (cJ xs a) b).Perm (cJ (cJ xs b) a):=by
 have h1:∀x k,k∈cJ xs x ↔ k∈xs\/k=x:=λx k=>by
  unfold cJ;split
  ·rename_i h;exact{.inl,λq=>q.elim id λe=>e ▸ h}
  ·simp
 by_cases ha:a∈xs
 ·by_cases hb:b∈xs
  ·simp[cJ,ha,hb]
  ·simp[cJ,ha,hb]
 ·by_cases hb:b∈xs
  ·simp[cJ,ha,hb]
  ·by_cases e:a=b
   ·subst e;exact .refl _
   ·have e1:cJ (cJ xs a) b=xs++([a]++[b]):=by
     have:b∉xs++[a]:=by simp[hb,Ne.symm e]
     rw[show cJ xs a=xs++[a] by simp[cJ,ha]];unfold cJ;rw[Ac this,Bx]
    have e2:cJ (cJ xs b) a=xs++([b]++[a]):=by
     have:a∉xs++[b]:=by simp[ha,e]
     rw[show cJ xs b=xs++[b] by simp[cJ,hb]];unfold cJ;rw[Ac this,Bx]
    rw[e1,e2];exact(List.Perm.refl xs).append (.swap _ _ _)
theorem rV:∀{ns:Th} {xs ys:Th},xs.Perm ys->(aK xs ns).Perm (aK ys ns)
 |[],_,_,p=>p
 |n::ns,_,_,p=>rV (ns:=ns) (zL p n)
theorem JB1 {ns ms:Th}(p:ns.Perm ms):∀(xs:Th),(aK xs ns).Perm (aK xs ms):=by
 induction p with
 |nil=>exact λ_=>.refl _
 |cons x _ ih=>exact λxs=>ih _
 |swap x y l=>exact λxs=>rV (zK xs y x)
 |trans _ _ h1 h2=>exact λxs=>(h1 xs).trans (h2 xs)
def yG {ns:Th}(h:ns.Nodup):(aK [] ns).Perm ns:=by
 have:∀{es acc:Th},(acc++es).Nodup->aK acc es=acc++es:=by
  intro es;induction es with
  |nil=>intro acc _;simp[aK]
  |cons e es ih=>
   intro acc h;have hn:e∉acc:=λhe=>by rw[F3] at h;exact h.2.2 e he e ∅ rfl
   have:=ih (acc:=acc++[e]) ‹h›;rwa[aK,EX,cJ,Ac hn] at this ⊢;rw[this];simp
 rw[this ‹h›];simp
theorem kR:∀(ns xs:Th),(aK xs ns).length<=xs.length+ns.length
 |[],xs=>by simp[aK]
 |n::ns,xs=>by have h1:=kR ns (cJ xs n);have h2:=pQ xs n;rwa[aK,EX,CK] at h1 ⊢;omega
section
variable {prog:Aj}{w:An}{A:Ar}{E:Tb}{s:AP}
def JFf {led:Ad}{r:Aa}{or oo:BO}{es eo:Al (Int×AU)}{ep eq:Nat}{ts to:SetTable}{ys:Th}{Q:Unit->AP->Prop}(hr:s.heap.get? r=some or)(EN:or.ExactSet)(D8:or.data=.set es ep ts)(Gr:cU led es ts [])
  (hm:ts.mask∈eF) (hdm:ts.dummies = #[]) (hl:ys.length<=ts.mask) (ER:oo.data=.set eo eq to) (Go:cU led eo to ys)
  (h:∀h' o',Heap.SameBut r s.heap h'->h'.get? r=some o'->c8 led o' ys->Q () {s with heap:=h'}) {k:Sem Unit} :
  wpAny (model prog w) A (match ts.road to with
   |.slotForSlot=>storeSet r eo {to with finger:=ts.finger,led:=ts.led&&to.led,moves:=ts.moves,plain:=ts.plain&&to.plain}
   |.clean=>do
    let (es,t) ←(do
     let some (t,order):=laid ts.mask ts.finger ts.moves (led:=ts.led&&to.led) (plain:=ts.plain&&to.plain) (eo.map (·.1))|unsupported "internal:set-table-without-room"
     let BZ:=order.filterMap (eo[·]?)
     if BZ.size != eo.size then unsupported "internal:set-table-lost-an-element"
     pure (BZ,t):Sem (Al (Int×AU)×SetTable))
    storeSet r es t
   |.oneByOne=>k) Q E s:=by
 have hes:es.size=0:=c8.len Gr
 have hpz:ts.place.size=0:=by rw[Gr.place.1,hes]
 have FP:ts.fill=0:=by unfold SetTable.fill;rw[hpz,hdm];rfl
 have DW:(ts.led&&to.led)=led:=by rw[Gr.ld,Go.ld];simp
 unfold road;rw[FP];rwa[bne_self_eq_false,C4,if_false]
 by_cases hc:(ts.mask == to.mask&&to.dummies.isEmpty)=true
 ·rw[Ae hc]
  refine eB hr EN D8 Go.bd λh' b g=>h h' _ b g {eo,_,_,EN,rfl,{Go.el,Go.pm,Go.nd,Go.bd,Go.ft,λhp=>?_,DW}};rwa[EM] at hp;exact Go.rs hp.2
 ·rw[Ac hc]
  dsimp only;let⟨t',ord,e,G',hsz,Fv,hdm'⟩:=vq (l':=ts.led&&to.led) (plain:=ts.plain&&to.plain) (finger:=ts.finger) (moves:=ts.moves) Go hm hl DW;rw[e];dsimp only;rw[Ac (by simp[hsz])];refine Ak (Ay (eB hr EN D8 G'.bd λh' b g=>h h' _ b g {_,_,t',EN,rfl,G'}))
def JAx {sets:Tf}{Q:Ad->AP->Prop}(h:∀a∈sets,∃o es ep t,s.heap.get? a=some o/\o.data=.set es ep t/\t.fits es.size=true/\∀e∈es.toList,LF e)(hQ:Q true s):wpAny (model prog w) A (setsQuiet sets) Q E s:=by
 unfold setsQuiet;refine Ak (wpAny_forIn_list _ (λrest b s'=>b=(none,())/\s'=s/\∀a∈rest,a∈sets) _ ?_ ?_ _ _ {rfl,rfl,λa ha=>ha})
 ·rintro a rest b s' ⟨rfl,rfl,hs⟩;let⟨o,es,ep,t,ho,hd,hf,he⟩:=h a (hs a ∅);unfold setEntries;refine Ak (Ak (CT ho hd hf (Ay (Ak ?_))));dsimp only;refine forIn_array_ _ (λrest b Gh=>b=(none,())/\Gh=s'/\∀e∈rest,LF e) _ ?_ ?_ _ _ {rfl,rfl,he}
  ·rintro e rest' b Gh ⟨rfl,rfl,hE⟩;let⟨n,tk,rfl⟩:=hE e ∅;exact Ay {rfl,rfl,λe he=>hE e (by simp[he])}
  ·rintro b Gh ⟨rfl,rfl,_⟩;exact Ay {rfl,rfl,λa ha=>hs a (by simp[ha])}
 ·rintro b s' ⟨rfl,rfl,_⟩;exact Ay hQ
def zp {led:Ad}(DW:led = !bt w){r o:Aa}(C1:r≠o){or oo:BO}{es eo:Al (Int×AU)}{ep eq:Nat}{ts to:SetTable}{xs ys:Th}{Q:Al (Int×AU)->AP->Prop}(hr:s.heap.get? r=some or)(EN:or.ExactSet)(D8:or.data=.set es ep ts)(Gr:cU led es ts xs)
  (ho:s.heap.get? o=some oo) (ER:oo.data=.set eo eq to) (Go:cU led eo to ys)
  (h:∀ord h' o' d,ord.toList.Perm eo.toList->Heap.SameBut r s.heap h'->h'.get? r=some o'->c8 led o' xs->Q ord {s with heap:=h',drawn:=d}) :
  wpAny (model prog w) A (setWalkUnseen o [r] (some r)) Q E s:=by
 have hS:c8 led or xs:={es,ep,ts,EN,D8,Gr};have same:∀(ord:Al (Int×AU)) d,ord.toList.Perm eo.toList->Q ord {s with drawn:=d}:=λord d p=>h ord s.heap or d p (Heap.SameBut.refl r s.heap) hr hS;unfold setWalkUnseen;refine Ak (CT ho ER Go.ft ?_);dsimp only;unfold setsByText;refine Ak (Ak (Fh (Ay ?_)));dsimp only;have hbt:(model prog w).w.params.followText "set-order" = bt w:=rfl;rw[hbt]
 by_cases hc:(bt w || (to.led&&to.plain) || decide (eo.size<=1))=true
 ·rw[Ae hc]
  unfold setWalk setsByText;refine Ak (CT ho ER Go.ft ?_);dsimp only;refine Ak (Ak (Fh (Ay ?_)));dsimp only;rw[hbt]
  cases hb:bt w with
  |true=>
   simp only[↓reduceIte];exact Ak (Fh (Ay (same _ s.drawn (mZ _ _))))
  |false=>
   simp only[C4,↓reduceIte];rw[hb] at hc DW;split
   ·rename_i EO
    have EO:(!to.plain&&decide (eo.size>1))=true:=EO;rwa[EM,Bool.not_eq_true',decide_eq_true_eq] at EO
    exfalso
    simp[EO.1] at hc;omega
   ·refine Ak (show wpAny _ _ (if (!to.led&&decide (eo.size>1))=true then unsupported "set:maker-not-led" else pure ()) _ _ _ from ?_)
    rw[Ac (by rw[Go.ld,DW];simp)];exact Ay (Ay (same eo s.drawn (.refl _)))
 ·rw[Ac hc]
  refine Ak (JAx (λb hb=>?_) ?_)
  ·rwa[BV,EB,or_false] at hb
   rcases hb with rfl|rfl
   ·exact{oo,eo,eq,to,ho,ER,Go.ft,Go.el}
   ·exact{or,es,ep,ts,hr,D8,Gr.ft,Gr.el}
  ·simp only[GB,C4,↓reduceIte]
   refine Ak (Fj (Ak (CT hr D8 Gr.ft ?_)));dsimp only;split
   ·refine Ak (eB hr EN D8 Gr.bd λh' b g=>Ay ?_)
    refine h eo h' _ s.drawn (.refl _) b g {es,_,_,EN,rfl,{Gr.el,Gr.pm,Gr.nd,Gr.bd,Gr.ft,λhp=>?_,by rw[Gr.ld,Go.ld];simp}};rwa[EM] at hp;exact Gr.rs hp.1
   ·exact Ay (same eo s.drawn (.refl _))
def vg {led:Ad}(DW:led = !bt w){r o:Aa}(C1:r≠o){or oo:BO}{es eo:Al (Int×AU)}{ep eq:Nat}{ts to:SetTable}{xs ys:Th}{each:Sem Unit}{Q:Unit->AP->Prop}(hr:s.heap.get? r=some or)(EN:or.ExactSet)(D8:or.data=.set es ep ts)(Gr:cU led es ts xs)
  (Jl:xs=[]->ts.mask∈eF/\ts.dummies = #[])
  (ho:s.heap.get? o=some oo) (ER:oo.data=.set eo eq to) (Go:cU led eo to ys) (hz:xs.length+ys.length<128)
  (heach:∀(s':AP) (Q':Unit->AP->Prop),s'.heap.get? o=some oo->Q' () s'->wpAny (model prog w) A each Q' E s')
  (h:∀h' o' d,Heap.SameBut r s.heap h'->h'.get? r=some o'->c8 led o' (aK xs ys)->Q () {s with heap:=h',drawn:=d}) :
  wpAny (model prog w) A (setMerge r o each) Q E s:=by
 have J8:=c8.len Go;unfold setMerge;rw[Ac ‹C1›];refine Ak (CT ho ER Go.ft ?_);dsimp only
 by_cases Jm:eo.isEmpty=true
 ·rw[Ae Jm]
  have hy:ys=[]:=by
   have:eo.size=0:=by simpa[Array.isEmpty] using Jm
   exact zcD ∅
  subst hy;exact Ay (h s.heap or s.drawn (Heap.SameBut.refl r s.heap) hr {es,ep,ts,EN,D8,Gr})
 ·rw[Ac Jm]
  refine Ak (JDp hr EN D8 Gr ∅ λh1 CW ep1 t1 b1 g1 G1 c1=>?_)
  have ho1:h1.get? o=some oo:=by rw[b1.2 o (Ne.symm C1)];exact ho
  refine Ak (CT g1 rfl G1.ft ?_);dsimp only
  by_cases hx:xs=[]
  ·subst hx
   have hm:t1.mask∈eF/\t1.dummies = #[]/\ys.length<=t1.mask:=by
    rcases c1 with⟨rfl,q⟩|⟨m1,m2,m3⟩
    ·let⟨m1,m2⟩:=Jl rfl
     exact{m1,m2,by rwa[J8] at q;omega}
    ·exact{m1,m3,by simpa[J8] using m2}
   refine JFf (s:={s with heap:=h1}) g1 EN rfl G1 hm.1 hm.2.1 hm.2.2 ER Go λh2 o2 b2 g2 S2=>?_;let⟨e2,q2,t2,x2,d2,G2⟩:=S2;exact h h2 o2 s.drawn (b1.trans b2) g2 {e2,q2,t2,x2,d2,cU.perm G2 (yG Go.nd).symm}
  ·have FP:(t1.fill != 0)=true:=by
    have h0:0<xs.length:=List.length_pos_iff.mpr hx;have:=G1.place.1;have:=c8.len G1;refine bne_iff_ne.mpr ?_;unfold SetTable.fill;omega
   unfold road;rw[Ae FP];dsimp only;refine Ak (zp (s:={s with heap:=h1}) DW C1 g1 EN rfl G1 ho1 ER Go λord h2 o2 d hp b2 g2 S2=>?_)
   have Fs:h2.get? o=some oo:=by rw[b2.2 o (Ne.symm C1)];exact ho1
   refine Ak (forIn_array_ _ (λrest _ s'=>∃h3 o3 zs,s'={s with heap:=h3,drawn:=d}/\Heap.SameBut r s.heap h3/\h3.get? r=some o3/\c8 led o3 zs/\aK zs (rest.map val)=aK xs (ord.toList.map val)/\(∀e∈rest,LF e)/\zs.length+rest.length<=127) _ ?_ ?_ _ _
    {h2,o2,xs,rfl,b1.trans b2,g2,S2,rfl,λe he=>Go.el e (hp.mem_iff.mp he),by have:=hp.length_eq;rwa[Ec] at this ⊢;omega})
   ·rintro e rest b s' ⟨h3,o3,zs,rfl,b3,g3,S3,m3,e3,l3⟩
    let⟨n,tk,rfl⟩:=e3 e ∅
    have ho3:h3.get? o=some oo:=by rw[b3.2 o (Ne.symm C1)];exact ho
    dsimp only;refine Ak (CR (Eb (s:={s with heap:=h3,drawn:=d}) g3 S3 (by simp at l3;unfold scanBound;omega) λh4 o4 bb b4 g4 S4=>?_))
    have ho4:h4.get? o=some oo:=by rw[b4.2 o (Ne.symm C1)];exact ho3
    refine Ak (heach _ _ ho4 (Ak (CT (s:={s with heap:=h4,drawn:=d}) ho4 ER Go.ft ?_)));dsimp only;rw[Ac ∅];refine Ay {h4,o4,cJ zs n,rfl,b3.trans b4,g4,S4,m3,λe he=>e3 e (by simp[he]),?_};have:=pQ zs n;simp at l3;omega
   ·rintro b s' ⟨h3,o3,zs,rfl,b3,g3,S3,m3,_,_⟩
    have m3:zs=aK xs (ord.toList.map val):=m3;let⟨e4,q4,t4,x4,d4,G4⟩:=S3;refine Ay (h h3 o3 d b3 g3 {e4,q4,t4,x4,d4,cU.perm G4 ?_});rw[m3];exact JB1 ((hp.map val).trans Go.pm) xs
end
def xE:entryFor table "set.__or__" = some Builtin.«frozenset.__or__» :=
 entryFor_alias (id':="frozenset.__or__") (by kernel_rfl) (by first|rfl|decide) ∅ (by kernel_rfl)
theorem JB0 {xs ys:Th}(h:∀y∈ys,y∈xs):aK xs ys=xs:=by
 induction ys with
 |nil=>rfl
 |cons y ys ih=>
  have:cJ xs y=xs:=by unfold cJ;rw[Ae (h y ∅)]
  rwa[aK,EX,this];exact ih λz hz=>h z (by simp[hz])
section
variable {prog:Aj}{w:An}{A:Ar}{E:Tb}{s:AP}
def nJ {a:Aa}{Q:Ad->AP->Prop}(hT:s.TypeIs (.ref a) "set")(h:Q true s):wpAny (model prog w) A (Builtin.Frozenset.isAnySet (.ref a)) Q E s:=by unfold Builtin.Frozenset.isAnySet;unfold orM;exact Ak (IS hT sub_set_self (Ay h))
def JFj {l:Aa}{ol:BO}{xs:Th}{Q:Tb}(hl:s.heap.get? l=some ol)(Sl:c8 (!bt w) ol xs)(hz:xs.length<128)
  (h:∀h' d o',(∀b o,s.heap.get? b=some o->h'.get? b=some o)->h'.get? s.heap.objs.size=some o'->c8 (!bt w) o' xs->(xs=[]->o'=bh (!bt w))->Q (.ref s.heap.objs.size) {s with heap:=h',drawn:=d}) :
  wpAny (model prog w) A (Builtin.Frozenset.copyOf l) Q E s:=by
 obtain⟨eo,eq,to,hx,hd,Go⟩:=Sl;have BD:=BQ hl;have hT:s.TypeIs (.ref l) "set":={ol,hl,hx.1};unfold Builtin.Frozenset.copyOf Builtin.Frozenset.baseOf;refine Ak (Ak (IS hT sub_set_self (Ay ?_)));simp only[↓reduceIte];unfold newSet setsByText;refine Ak (Ak (Ak (Fh (Ay ?_))));dsimp only;refine Cw ?_;refine Ak (show wpAny _ _ (pure s.heap.objs.size) _ _ _ from Ay ?_);have hS:(s.heap.push (bh (!bt w))).get? s.heap.objs.size=some (bh (!bt w)):=Bd _ rfl
 by_cases hxs:xs=[]
 ·subst hxs
  have Jm:eo.isEmpty=true:=by have:=c8.len Go;simpa[Array.isEmpty] using this
  unfold setMerge;rw[Ac ‹DR BD›];refine Ak (Ak (CT (BK _ hl) hd Go.ft ?_));dsimp only;rw[Ae Jm];exact Ay (Ay (h _ s.drawn (bh (!bt w)) (λc u e=>BK _ e) hS (jp _) λ_=>rfl))
 ·let⟨fe,fp,ft,fx,fd,Gf⟩:=jp (!bt w)
  cases fd;refine Ak (vg (s:={s with heap:=s.heap.push (bh (!bt w))}) rfl (DR BD) hS fx rfl Gf (λ_=>{show(7:Nat)∈eF by decide,rfl}) (BK _ hl) hd Go ‹hz› (λs' Q' _ q=>Ay q) λh' o' d b g S=>Ay ?_)
  have hk:∀c u,s.heap.get? c=some u->h'.get? c=some u:=λc u e=>by
   rw[b.2 c (BX (BQ e))];exact BK _ e
  let⟨e4,q4,t4,x4,d4,G4⟩:=S;exact h h' d o' hk g {e4,q4,t4,x4,d4,cU.perm G4 (yG Go.nd)} λz=>Au z hxs
def jP {l r:Aa}{ol or:BO}{xs ys:Th}{Q:Tb}(hl:s.heap.get? l=some ol)(Sl:c8 (!bt w) ol xs)(hr:s.heap.get? r=some or)(Sr:c8 (!bt w) or ys)(hz:xs.length+ys.length<128)
  (h:∀h' d o',(∀b o,s.heap.get? b=some o->h'.get? b=some o)->h'.get? s.heap.objs.size=some o'->c8 (!bt w) o' (aK xs ys)->Q (.ref s.heap.objs.size) {s with heap:=h',drawn:=d}) :
  wpAny (model prog w) A (binaryOp .BitOr (.ref l) (.ref r)) Q E s:=by
 have hTl:s.TypeIs (.ref l) "set":=by obtain⟨_,_,_,hx,_⟩:=Sl;exact{ol,hl,hx.1}
 have hTr:s.TypeIs (.ref r) "set":=by obtain⟨_,_,_,hx,_⟩:=Sr;exact{or,hr,hx.1}
 refine wpAny_binaryOp_same hTl hTr F.fills_set_or F.slot_set_or (Co F.slot_set_or hTl xE ?_ (F.args_set_or_2 _ _))
 refine(show wpAny _ _ (do
  let (self,other) ←Builtin.Frozenset.slot1 "__or__" {[.ref l,.ref r],[]}
  if !(←Builtin.Frozenset.isAnySet self <&&> Builtin.Frozenset.isAnySet other) then rule s!"frozenset.{"__or__"}.declined";return ←ret .notImplemented
  ret (←(do
   let result ←Builtin.Frozenset.copyOf (←Builtin.Frozenset.addrOf self)
   if other != .ref l then holding [result] (Builtin.Frozenset.updateFrom s!"frozenset.{"__or__"}" (←Builtin.Frozenset.addrOf result) other)
   return result:Sem AU))) _ _ _ from ?_)
 refine Ak (show wpAny _ _ (pure (Value.ref l,Value.ref r)) _ _ _ from Ay ?_);dsimp only;unfold andM;refine Ak (Ak (nJ hTl ?_));refine(show wpAny _ _ (Builtin.Frozenset.isAnySet (.ref r)) _ _ _ from nJ hTr ?_);simp only[GB,C4,↓reduceIte];refine Ak ?_;refine Ak (show wpAny _ _ (pure l) _ _ _ from Ay ?_);refine Ak (JFj hl Sl ∅ λh1 d1 o1 k1 g1 S1 f1=>?_)
 have fin:∀h' d o',(∀b o,s.heap.get? b=some o->h'.get? b=some o)->h'.get? s.heap.objs.size=some o'->c8 (!bt w) o' (aK xs ys) ->
   wpAny (model prog w) A.in1 (pure (Value.ref s.heap.objs.size)) (λa s'=>wpAny (model prog w) A.in1 (ret a) (λfin s'=>∃v,fin=Fin.done (Flow.ret v)/\v≠Value.notImplemented/\Q v s') E s') E {s with heap:=h',drawn:=d} :=
  λh' d o' k g S=>Ay (Ay {_,rfl,by simp,h h' d o' k g S})
 by_cases hlr:r=l
 ·subst hlr
  rw[Ac ∅];refine fin h1 d1 o1 k1 g1 ?_;rw[hl] at hr;cases hr;let⟨e1,q1,t1,x1,d1',G1⟩:=Sl;let⟨e2,q2,t2,x2,d2,G2⟩:=Sr;rw[d1'] at d2;cases d2;rw[JB0 λy hy=>(G1.pm.symm.trans G2.pm).mem_iff.mpr hy];exact S1
 ·rw[Ae ‹hlr›]
  have hr1:=k1 _ _ hr;have hrl:=BQ hr
  have hT1:Shared.TypeIs {s with heap:=h1,drawn:=d1} (.ref r) "set":=by obtain⟨_,_,_,hx,_⟩:=Sr;exact{or,hr1,hx.1}
  refine Ak (show wpAny _ _ (pure s.heap.objs.size) _ _ _ from Ay ?_);refine Ak (CR ?_);unfold Builtin.Frozenset.updateFrom;refine Ak (nJ hT1 ?_);simp only[↓reduceIte];refine Ak (show wpAny _ _ (pure r) _ _ _ from Ay ?_);unfold Builtin.Frozenset.merge;let⟨eo,eq,to,hxo,ER,Go⟩:=Sr;refine Ak (wpAny_setEpoch_of hr1 ER Go.ft ?_)
  have Jm:xs=[]->∀e q t,o1.data=.set e q t->t.mask∈eF/\t.dummies = #[]:=λz e q t ed=>by
   rw[f1 z] at ed;cases ed;exact{show(7:Nat)∈eF by decide,rfl}
  let⟨e1,q1,t1,x1,dd1,G1⟩:=S1;refine vg (s:={s with heap:=h1,drawn:=d1}) rfl (DR hrl) g1 x1 dd1 G1 (λz=>Jm z _ _ _ dd1) hr1 ER Go hz (λs' Q' q' z=>?_) λh' o' d b g S=>?_
  ·unfold Builtin.Frozenset.unchanged
   refine Ak (wpAny_setEpoch_of q' ER Go.ft ?_);rw[Ac ∅];exact Ay z
  ·refine fin h' d o' (λc u e=>?_) g S
   rw[b.2 c (BX (BQ e))];exact k1 c u e
end
section
variable {prog:Aj}{w:An}{A:Ar}{E:Tb}{s:AP}
set_option maxHeartbeats 3200000 in
def JDn {l:Aa}{its:Ti}{ns:Th}{Q:Tb}
  (hh:A.handled=none) (hl:s.heap.IsList l its) (hi:IntsAre its.toList ns) (hb:its.size+1<scanBound)
  (h:∀(h':Am) (tk:Nat) (o:BO),h'.get? s.heap.objs.size=some o->c8 (!w.params.followText "set-order") o (aK [] ns) ->
   (∀b o,s.heap.get? b=some o->h'.get? b=some o)->s.toks<=tk->Q (.ref s.heap.objs.size) {s with heap:=h',toks:=tk}) :
  wpAny (model prog w) A (call (.type "set") [.ref l]) Q E s:=by
 have hh3:A.in1.in1.in1.handled=none:=by simp[hh]
 have EE:=hl;let⟨ol,Fp,Cu,nl,hdl⟩:=hl;refine uG (P:=λled _ o=>c8 led o (aK [] ns)) Fp Cu F.sub_list_set F.sub_list_frozenset ∅ (λt A' E' Q' e q=>zcL {_,e,Cu,nl,hdl} q) (λled R' Ji CQ k=>?_) h
 exact nM ((Walks.list hh3 _ l Ji its).toS) s.heap.objs.size CQ (led:=led) ns (by have:=IntsAre.length hi;simpa using this.symm)
  (λi v hv=>IntsAre.int_at hi i v (by rw[Fm];exact hv)) (its.size-0) 0 _ (bh led) [] ∅ (Cr _)
  {{_,Bd _ rfl,rfl,rfl},(EE.push _).push _} (BK _ (Bd _ rfl)) (jp led) ‹hb› k
end
def tq:typeLookup (.type "list") "keys" = pure none:=by rw[zcd,zbK];kernel_rfl
section
variable {prog:Aj}{w:An}{A:Ar}{E:Tb}{h:Am}{g:Al GenState}{d:Drawn}{t:Nat}{os:OsState}{a:Aa}{its:Ti}{n:Nat}
set_option maxHeartbeats 2000000 in
def xc {tk:Tok}{Q:Fin->AP->Prop}(hh:A.handled=none)(hx:h.get? a=some {cls:=.type "list",data:=.seq its n})
  (hq:∀h' CD e,Heap.NewAttrErr h h' e (.ref a) "keys"->E (.ref e) {h',g,d,CD,os}) :
  wpAny (model prog w) A (Builtin.«object.__getattribute__» {[.ref a,.str "keys" tk],[]}) Q E {h,g,d,t,os}:=by
 have hT:(⟨h,g,d,t,os⟩:AP).TypeIs (.ref a) "list":={_,hx,rfl};have f4:=tq
 repeat (any_goals (first|assumption|wp_step))
 exact wpAny_raiseAttrError hh hq (attrMsg_fits ∅ (by size_fits))
def JEd {tk:Tok}{Q:Tb}(hh:A.handled=none)(hx:h.get? a=some {cls:=.type "list",data:=.seq its n})
  (hq:∀h' CD e,Heap.NewAttrErr h h' e (.ref a) "keys"->E (.ref e) {h',g,d,CD,os}) :
  wpAny (model prog w) A (getAttrBy (.ref a) (.str "keys" tk) false) Q E {h,g,d,t,os}:=by
 have hT:(⟨h,g,d,t,os⟩:AP).TypeIs (.ref a) "list":={_,hx,rfl};have f2:=F.slot_list_getattribute.lookup;have f3:=F.slot_list_getattribute.bind (.ref a)
 repeat (any_goals (first|assumption|wp_step))
 refine zcA F.slot_list_getattribute.plain F.entry_list_ga (F.slot_list_getattribute.check _ _ _ _ _ _ _ _ hT (F.args_list_getattribute_2 _ _) ?_);refine xc (show A.in1.handled=none from hh) hx λh' CD e JQ=>?_;obtain⟨t',u',he⟩:=JQ.there;have f1:=sub_AttributeError;have f5:typeLookup (.type "list") "__getattr__" = pure none:=am_miss_of_fast (by kernel_rfl);refine(show wpAny _ _ (getattributeRaised _ _ _ _ _ _ _) _ _ _ from ?_);unfold getattributeRaised
 repeat (any_goals (first|assumption|wp_step))
 exact hq _ _ _ JQ
def JE7 {Q:AA AU->AP->Prop}(hh:A.handled=none)(hx:h.get? a=some {cls:=.type "list",data:=.seq its n})
  (hq:∀h' CD,(∀c u,h.get? c=some u->h'.get? c=some u)->Q none {h',g,d,CD,os}) :
  wpAny (model prog w) A (getAttr? (.ref a) "keys") Q E {h,g,d,t,os}:=by
 unfold getAttr? getAttrBy?;refine Ak (wpAny_mkText (Ak (J1 (JEd hh hx λh' CD e JQ=>?_))));obtain⟨t',u',he⟩:=JQ.there;exact Ak (IS (T:="AttributeError") {_,he,rfl} sub_AttributeError (Ay (hq _ _ JQ.keeps)))
end
def gq:entryFor table "dict.update.loop" = some Builtin.«dict.update.loop»:=entryFor_of_tree (by kernel_rfl)
def cK:plainId "dict.update.loop" = true:=by decide
section
variable {prog:Aj}{w:An}{A:Ar}{R:Result->AP->Prop}{I:Aa}{fp wr:Tf}{n:Nat}{P:Nat->AU->Prop}{St:Nat->Am->Prop}
structure gZ (h:Heap)(v key val:Value):Prop where
 ex:∃a o c,v=.ref a/\h.get? a=some o/\o.cls=.type "tuple"/\o.data=.seq #[key,val] c
def gZ.keep {h h':Am}{v key val:AU}(p:gZ h v key val)(k:∀a o,v=.ref a->h.get? a=some o->h'.get? a=some o):gZ h' v key val:=by let⟨a,o,c,rfl,h1,h2,h3⟩:=p.ex;exact{a,o,c,rfl,k a o rfl h1,h2,h3}
noncomputable def putAll {K:Type}[DecidableEq K](Ab:R4 (K×AU))(ps:R4 (K×AU)):R4 (K×AU):=ps.foldl (λa p=>stored a p.1 p.2) Ab
theorem At {K:Type}[DecidableEq K]{knd:KeyKind prog w K}(W:Walks prog w A.in1 I fp wr n P St)(S:Aa)(CQ:S∉fp)(ps:R4 (K×AU))(hps:ps.length=n)(h₀:Am)
  (hP:∀i v,P i v->∃k x key,ps[i]?=some (k,x)/\knd.is k key=true/\gZ h₀ v key x/\∀a,v=.ref a->a≠S/\a∉wr) :
  ∀(k i:Nat) (s:AP) (c:Int) (Ab:R4 (K×AU)),n-i=k->i<=n->St i s.heap->(∀b o,b≠S->b∉wr->h₀.get? b=some o->s.heap.get? b=some o)->s.heap.DictOf knd S Ab->Ab.length+k<=sizeLine ->
   (∀h' tk,(∀b o,b≠S->b∉wr->s.heap.get? b=some o->h'.get? b=some o)->s.toks<=tk\/True->h'.DictOf knd S (putAll Ab (ps.drop i))->R (.ok (.ret .none)) {s with heap:=h',toks:=tk}) ->
   codeAny (model prog w) A (.builtin "dict.update.loop" {[.ref S,.ref I,.int c 0,.none],[]}) R s:=by
 have nw:S∉wr:=λh=>CQ (W.sub _ h);intro k
 induction k with
 |zero=>
  intro i s c Ab hk hi Cj h0 hS hb hR
  have Jk:i=n:=by omega
  subst Jk;refine EA gq ?_;rw[Et cK _];refine(show wpAny _ A.in1 (pyNext (.ref I) >>= _) _ _ s from Ak (W.done s _ _ Cj λh' tk Cs=>?_));refine(show wpAny _ A.in1 (do Builtin.Dict.addKeywords S [];ret Value.none) _ _ _ from Ak (show wpAny _ _ (pure ()) _ _ _ from Ay (Ay ?_)));refine hR h' tk (λb o _ hb e=>Cs b o hb e) (.inr trivial) ?_;rw[zcq ∅];let⟨o,es,ep,ho,r⟩:=hS;exact{o,es,ep,Cs S o nw ho,r}
 |succ k ih=>
  intro i s c Ab hk hi Cj h0 hS hb hR
  have BD:i<n:=by omega
  refine EA gq ?_;rw[Et cK _];refine(show wpAny _ A.in1 (pyNext (.ref I) >>= _) _ _ s from Ak (W.item i s _ _ BD Cj λv h1 tk1 hPv JT Gw=>?_));let⟨kk,x,key,hpi,CG,F9,Jr⟩:=hP i v hPv;have Dy:gZ h1 v key x:=F9.keep λa o e q=>Gw a o (Jr a e).2 (h0 a o (Jr a e).1 (Jr a e).2 q);let⟨a,o,cc,rfl,ho,hc,hd⟩:=Dy.ex
  have hS1:h1.DictOf knd S Ab:=by
   let⟨o,es,ep,ho,r⟩:=hS;exact{o,es,ep,Gw S o nw ho,r}
  refine Ak (CR (Ak (wpAny_tryCatch ?_)));unfold Builtin.Dict.pairItems;refine Ak (Fc (T:="tuple") {o,ho,hc} ?_);rw[Ae ∅];refine Ak (zcG ho hd (Ay ?_));refine(show wpAny _ _ (holding [key,x] (dictSet S key x)) _ _ _ from CR (wpAny_dictSet_pairs (s:={s with heap:=h1,toks:=tk1}) CG hS1 (λh2 Ez Ey=>?_) ∅))
  have DX:ps.drop i=(kk,x)::ps.drop (i+1):=by
   let⟨hl,e⟩:=CA.mp hpi;rw[GC hl,e]
  have hlen:(stored Ab kk x).length<=Ab.length+1:=stored_length_le Ab kk x;refine Ay {Ff cK _,ih (i+1) {s with heap:=h2,toks:=tk1+1} (c+1) _ ∅ BD (W.frame _ h1 _ JT λb hb o e=>?_) (λb o n1 n2 e=>?_) Ez ∅ λh' CD Cs ht hD=>?_}
  ·rw[Ey.2 b (λh:b=S=>CQ (h ▸ hb))];exact e
  ·rw[Ey.2 b n1];exact Gw b o n2 (h0 b o n1 n2 e)
  ·refine hR h' CD (λb o n1 n2 e=>Cs b o n1 n2 ?_) (.inr trivial) (by rw[DX];exact hD)
   show h2.get? b=some o
   rw[Ey.2 b n1];exact Gw b o n2 e
end
def CS:mroOf (.type "dict")=pure [.type "dict",.type "object"]:=by rw[mroOf_type];kernel_rfl
def tm:typeLookup (.type "dict") "__new__" = pure (some (.builtin "dict.__new__")):=by rw[zcd,zbK];kernel_rfl
def uF:Slot "dict" "__init__" "dict.__init__":=by
 refine .of (owner:="dict") (n:="__init__") ?_ ∅ ∅ ∅ ?_ ?_
 ·rw[zcd,zbK];kernel_rfl
 ·first|exact .inl ∅|exact .inr ∅
 ·rw[isSubtype_type];kernel_rfl
def fQ:TypeCalled "dict" "dict.__new__" "dict.__init__" :=
 {by decide,by decide,{_,_,CS},madeBy_type CS tm ∅,by decide,by rw[isSubtype_type];kernel_rfl,uF}
def wC (a:AU):checkTypeCall "dict" {[a],[]}=pure ():=by kernel_rfl
def zS (a:AU):checkBuiltinCall "dict.__new__" {[.type "dict",a],[]}=pure ():=by kernel_rfl
def vU:entryFor table "dict.__new__" = some Builtin.«dict.__new__»:=entryFor_of_tree (by kernel_rfl)
def nQ:plainId "dict.__new__" = true:=by decide
def tW:entryFor table "dict.__init__" = some Builtin.«dict.__init__»:=entryFor_of_tree (by kernel_rfl)
def px:isSubtype (.type "dict") (.type "dict")=pure true:=by rw[isSubtype_type];kernel_rfl
def vz:builtinKind "dict.__init__" = some .slot:=by kernel_rfl
def sO:splitId "dict.__init__" = some ("dict","__init__"):=by kernel_rfl
def wN:Manifest.signature? "dict.__init__" = some {.positional,"dict","dict",.self,[{"other",.posOnly,false},{"kwargs",.varKw,false}]}:=by kernel_rfl
section
variable {prog:Aj}{w:An}{A:Ar}{E:Tb}{s:AP}
abbrev cD:BO:={cls:=.type "dict",dict:=none,data:=.dict #[]}
def JCu (a:AU){Q₁:Tb}(h:Q₁ (.ref s.heap.objs.size) {s with heap:=s.heap.push cD}) :
  codeAny (model prog w) A (.call (.builtin "dict.__new__") {[.type "dict",a],[]}) (wants Q₁ E) s:=by
 refine zcz (show wpAny _ A.in1 (do checkBuiltinCall "dict.__new__" {[.type "dict",a],[]};again (.builtin "dict.__new__" {[.type "dict",a],[]})) _ _ s from ?_);refine Ak (zcW (zS a) (Ay {Ff nQ _,EA vU ?_}));rw[Et nQ _];have JR:=px;have hmro:=CS;unfold Builtin.«dict.__new__»;obtain⟨hp,g,d,tk,os⟩:=s;dsimp only
 repeat (any_goals (first|assumption|wp_step))
def t5 {M:Model}{self a:AU}{Q:Unit->AP->Prop}(hT:s.TypeIs self "dict")(hQ:Q () s) :
  wpAny M A (checkBuiltinCall "dict.__init__" {[self,a],[]}) Q E s:=by
 rwa[checkBuiltinCall,vz,sO,wN];refine Ak (IS hT px ?_);rwa[GB,C4,if_false];unfold Bind.checkArgs;dsimp only;refine Ak (m:=Bind.printed "dict" true _ _) (PyProof.Rows.printed_name ∅ ?_);refine Ak (m:=Bind.printed "dict" false _ _) (PyProof.Rows.printed_name ∅ ?_)
 have hrn:(Manifest.Receiver.self == Manifest.Receiver.none)=false:=by decide
 have hn:(if (Manifest.Receiver.self == Manifest.Receiver.none)=true then [self,a].length else [self,a].length-1)=1:=by simp[hrn]
 rw[hn];rwa[Dj]
 have hc:Bind.check ⟨.positional,"dict","dict",.self,[{"other",.posOnly,false},{"kwargs",.varKw,false}]⟩ "dict" "dict" 1 []=pure ():=by kernel_rfl
 rw[hc];exact wpAny_onRaise (Ay hQ)
set_option maxHeartbeats 3200000 in
theorem so {l:Aa}{its:Ti}{c:Nat}{D:Am->Prop}{Q:Tb}(hh:A.handled=none)(hl:s.heap.get? l=some {cls:=.type "list",data:=.seq its c})
  (FN:∀(h2:Am) (tk2:Nat) (R':Result->AP->Prop),(∀b o,(s.heap.push cD).get? b=some o->h2.get? b=some o)->l≠h2.objs.size->s.heap.objs.size∉[h2.objs.size,l]->h2.IsList l its->h2.get? s.heap.objs.size=some cD ->
   (∀h' CD,(∀b o,b≠s.heap.objs.size->b∉[h2.objs.size]->(h2.push {cls:=.type "list_iterator",data:=.fields #[.ref l,.int 0 0]}).get? b=some o->h'.get? b=some o)->D h'->R' (.ok (.ret .none)) {s with heap:=h',toks:=CD}) ->
   codeAny (model prog w) A.in1 (.builtin "dict.update.loop" {[.ref s.heap.objs.size,.ref h2.objs.size,.int 0 0,.none],[]}) R' {s with heap:=h2.push {cls:=.type "list_iterator",data:=.fields #[.ref l,.int 0 0]},toks:=tk2})
  (h:∀(h':Am) (tk:Nat),D h'->(∀b o,s.heap.get? b=some o->h'.get? b=some o)->Q (.ref s.heap.objs.size) {s with heap:=h',toks:=tk}) :
  wpAny (model prog w) A (call (.type "dict") [.ref l]) Q E s:=by
 obtain⟨cc,tl,hmro⟩:=fQ.mro;have hmade:=fQ.made;have JR:=fQ.sub;refine wpAny_call (zcz (show wpAny _ _ (callAny (.type "dict") _) _ _ _ from ?_));refine Ay {Code.quiet_builtin _ ∅,EA F.entry_type_call ?_};rw[Around.under_plain (weight_type_call_type "dict" [.ref l] []) rfl];have h1:=fQ.notType;have h2:=fQ.canCreate;have hct:=wC (.ref l)
 repeat (any_goals (first|assumption|wp_step))
 refine Fd (JCu (.ref l) (E:=E) (Q₁:=λobj s₁=>obj=.ref s.heap.objs.size/\s₁={s with heap:=s.heap.push cD}) {rfl,rfl}) λr s₁ hr=>?_
 cases r with
 |error e=>exact hr
 |ok fl=>
  cases fl with
  |ret obj=>
   obtain⟨rfl,rfl⟩:=hr;have hS:(s.heap.push cD).get? s.heap.objs.size=some cD:=Bd _ rfl;have hT:Shared.TypeIs {s with heap:=s.heap.push cD} (.ref s.heap.objs.size) "dict":={_,hS,rfl};have hli:=fQ.init.lookup;have hbi:=fQ.init.bind (.ref s.heap.objs.size)
   repeat (any_goals (first|assumption|wp_step))
   refine Fd (zcA (R:=wants (λr s₂=>r=.none/\∃h' tk,s₂={s with heap:=h',toks:=tk}/\D h' /\
     (∀b o,s.heap.get? b=some o->h'.get? b=some o)) E) fQ.init.plain tW (t5 hT ?_)) λr₂ s₂ JV=>?_
   ·have hlS:l<s.heap.objs.size:=BQ hl
    have hl1:(s.heap.push cD).get? l=some {cls:=.type "list",data:=.seq its c}:=BK _ hl;have hTl:Shared.TypeIs {s with heap:=s.heap.push cD} (.ref l) "list":={_,hl1,rfl};unfold Builtin.«dict.__init__» Builtin.Dict.selfAndRest Builtin.Dict.notOrdered;refine Ak (Ak ?_);rw[Ae ∅];refine Ak (Fc hT ?_);rw[Ac ∅];refine Ay (Ak (show wpAny _ _ (pure s.heap.objs.size) _ _ _ from Ay (Ay ?_)));refine(show wpAny _ _ (Builtin.Dict.updateFrom "dict.__init__" s.heap.objs.size (.ref l) [] .none) _ _ _ from ?_);unfold Builtin.Dict.updateFrom;refine Ak (Fc hTl ?_);rw[Ae ∅];refine Ak (JE7 (show A.in1.in1.handled=none from hh) hl1 λh2 tk2 Eu=>?_);rw[Ae (show(none:Tg).isNone=true from rfl)];have hl2:=Eu _ _ hl1;have Ez:=Eu _ _ hS;have hl3:h2.IsList l its:={_,hl2,rfl,c,rfl};refine Ak (Fj (Ak (zcL hl3 ?_)));have hlI:l≠h2.objs.size:=BX (BQ hl2);have hSI:s.heap.objs.size≠h2.objs.size:=BX (BQ Ez)
    have CQ:s.heap.objs.size∉[h2.objs.size,l]:=by
     rwa[BV,EB,or_false,not_or];exact{hSI,DR hlS}
    refine Ay {Ff cK _,FN h2 tk2 _ Eu hlI CQ hl3 Ez λh' CD Cs hD=>?_};refine{rfl,h',CD,rfl,hD,λb o e=>Cs b o (BX (BQ e)) ?_ (BK _ (Eu _ _ (BK _ e)))};rwa[BV,EB,or_false];exact BX (BQ (Eu _ _ (BK _ e)))
   ·cases r₂ with
    |error e=>exact JV
    |ok fl2=>
     cases fl2 with
     |ret r=>
      let⟨rfl,h',tk,rfl,FW,Cs⟩:=JV
      repeat (any_goals (first|assumption|wp_step))
      exact h _ _ FW Cs
     |_=>exact JV.elim
  |_=>exact hr.elim
def JCt {K:Type}[DecidableEq K]{knd:KeyKind prog w K}{l:Aa}{its:Ti}{c:Nat}{ps:R4 (K×AU)}{Q:Tb}
  (hh:A.handled=none) (hl:s.heap.get? l=some {cls:=.type "list",data:=.seq its c}) (hps:ps.length=its.size) (hz:its.size<=sizeLine)
  (hP:∀(i:Nat) v,its[i]?=some v->∃k x key,ps[i]?=some (k,x)/\knd.is k key=true/\gZ s.heap v key x)
  (h:∀(h':Am) (tk:Nat),h'.DictOf knd s.heap.objs.size (putAll [] ps)->(∀b o,s.heap.get? b=some o->h'.get? b=some o)->Q (.ref s.heap.objs.size) {s with heap:=h',toks:=tk}) :
  wpAny (model prog w) A (call (.type "dict") [.ref l]) Q E s:=by
 refine so hh hl (λh2 tk2 R' Eu hlI CQ hl3 Ez kk=>?_) h
 refine At (Walks.list (by simp[hh]) h2.objs.size l hlI its) s.heap.objs.size CQ ps hps s.heap (λi v hv=>?_) (its.size-0) 0 _ 0 [] ∅ (Cr _)
  {{_,Bd _ rfl,rfl,rfl},hl3.push _} (λb o _ _ e=>BK _ (Eu _ _ (BK _ e)))
  {cD,#[],0,BK _ Ez,{rfl,rfl,rfl},rfl,λe he=>by simp at he,.nil,zck} ‹hz› λh' CD Cs _ hD=>kk h' CD Cs ‹hD›
 let⟨k,x,key,e1,e2,e3⟩:=hP i v hv;refine{k,x,key,e1,e2,e3,λa e=>?_};let⟨a',o',c',q1,q2,_,_⟩:=e3.ex;rw[q1] at e;cases e;refine{BX (BQ q2),?_};rwa[BV,EB,or_false];exact BX (BQ (Eu _ _ (BK _ q2)))
end
end HS
namespace L2
open PyProof.Rows
def mL (H:Hp)(q:Str)(ps:Ti):Prop:=TriplesOk ps.toList/\∀pos cv,codeAmong pos ps.toList=some cv->∃c' oc vs t,cv=.ref c'/\H c'=some (.frz oc (.ext λ_=>True))/\oc.data=.fields vs/\vs[1]?=some (.str q t)
def mL.mono {H H':Hp}{q:Str}{ps:Ti}(g:mL H q ps)(k:∀b o u,H b=some (.frz o u)->H' b=some (.frz o u)):mL H' q ps :=
 {g.1,λpos cv e=>let ⟨c',oc,vs,t,e1,e2,r⟩:=g.2 pos cv e;{c',oc,vs,t,e1,k _ _ _ e2,r}}
structure Eg (x:Str)(caps:Tn)(sc:Scope)(cl:List (Str×Addr)):Prop where
 kind:sc.kind=.function
 co:sc.isCoroutine=false
 gen:sc.isGenerator=false
 nd:(x::caps).Nodup
 par:sc.names.lookup x=some .local
 nocell:∀y∈sc.names,y.2≠.cell
 free:∀y,sc.names.lookup y=some .free->∃c,cl.lookup y=some c
 inj:∀y z c,cl.lookup y=some c->cl.lookup z=some c->y=z
end L2
namespace HW
open L2
inductive D where
 |non|bl (b:Bool)|int (i:Int)|str (x:Str)
 |tup (xs:List D)|fl (xs:List D)|fd (ks:List aE) (ds:List D)|key (ks:Th)
structure OC where
 qual:Str
 params:Arguments
 body:Expr
 scope:Scope
 x:Str
 caps:Tn
inductive R where
 |v (d:D)|p (n:Nat)|s (b:Bool) (xs:Th)|x (c:Str)|f (L:OC) (ds:List D)
inductive au where
 |lst (xs:List D)|fz (xs:List D)|dct (Ab:List (aE×D))|fzd (Ab:List (aE×D))|dr (Ab:List (aE×R))|lr (xs:List R)|dt (Ab:List (Th×D))|tb (P:Nat) (q:Str)|ob (c:Str) (fs:List (Str×R))|tr (xs:List R)|fzr (Ab:List (aE×R))|dtr (Ab:List (Th×R))|fzt (Ab:List (Th×D))|hk (Ab:List (aE×D))
abbrev ac:=R4 au
abbrev Lo:=R4 (AA R)
abbrev FE:=Lo->ac->AA (R×ac)
abbrev FT:=Lo->ac->AA (Ad×ac)
abbrev FA:=Lo->ac->AA (R4 R×ac)
inductive oZ where
 |nx (O:Lo) (U:ac)|rt (d:R) (U:ac)|bk (O:Lo) (U:ac)|ct (O:Lo) (U:ac)
abbrev FS:=Lo->ac->AA oZ
def GQ (K:Ax)(H:Hp)(a:Aa)(vs:R4 V):Prop:=(∃o,H a=some (.frz o (.lst vs)))\/iM K (λ_=>none) a vs
mutual
def ak (K:Ax)(H:Hp):D->V->Prop
 |.non,v=>v=.non
 |.bl b,v=>v=.bl b
 |.int i,v=>v=.int i
 |.str x,v=>v=.str x
 |.tup xs,v=>∃a vs,v=.ref a/\gY K H a vs/\RelDs K H xs vs
 |.fl xs,v=>∃a vs,v=.ref a/\GQ K H a vs/\RelDs K H xs vs
 |.fd ks ds,v=>∃a o es,v=.ref a/\H a=some (.frz o (.dK es))/\es.map (·.1)=ks/\RelDs K H ds (es.map (·.2))
 |.key ks,v=>∃a,v=.ref a/\H a=some (.tup (ks.map V.int))
def RelDs (K:Ax)(H:Hp):R4 D->R4 V->Prop
 |[],vs=>vs=[]
 |x::xs,vs=>∃v r,vs=v::r/\ak K H x v/\RelDs K H xs r
end
structure AE (K:Ax)(H:Hp)(L:OC)(ds:List D)(a:Addr)(cl:List (Str×Addr))(pm E2:Value)(c':Addr):Prop where
 fn:H a=some (.frz (PySem.W.kla_obj "<lambda>" L.qual L.params L.body L.scope cl pm c' E2) (.ext λ_=>True))
 code:∃oc vs t,H c'=some (.frz oc (.ext λ_=>True))/\oc.data=.fields vs/\vs[1]?=some (.str L.qual t)
 len:ds.length=L.caps.length
 cell:∀y c,cl.lookup y=some c->∃z o,H c=some (.frz o (.ext λ_=>True))/\o.data=.cell z
 cap:∀(i:Nat) y d,L.caps[i]?=some y->ds[i]?=some d->∃c o u vy,L.scope.names.lookup y=some .free/\cl.lookup y=some c/\H c=some (.frz o (.ext λ_=>True))/\o.data=.cell (some u)/\aP vy u/\ak K H d vy
 sc:Eg L.x L.caps L.scope cl
def av (K:Ax)(m:Tf)(H:Hp):R->V->Prop
 |.v d,v=>ak K H d v
 |.p n,v=>∃a,v=.ref a/\m[n]?=some a
 |.s b xs,v=>∃a o,v=.ref a/\H a=some (.frz o (.ext λ_=>True))/\HS.c8 b o xs
 |.x c,v=>∃a vs C,v=.ref a/\H a=some (.frz {cls:=.ref C,dict:=none,data:=.fields vs,slots:=#[]} (.ext λ_=>True))/\PySem.W.nsIn K mainGlobals c=some (some (.ref C))
 |.f L ds,v=>∃a cl pm E2 c',v=.ref a/\AE K H L ds a cl pm E2 c'
def aL (K:Ax)(m:Tf)(H:Hp):R4 R->R4 V->Prop
 |[],vs=>vs=[]
 |x::xs,vs=>∃v r,vs=v::r/\av K m H x v/\aL K m H xs r
def g6 (K:Ax)(m:Tf)(H:Hp):au->Aa->Prop
 |.lst xs,a=>∃vs,H a=some (.lst vs)/\RelDs K H xs vs
 |.fz xs,a=>∃o vs,H a=some (.frz o (.lst vs))/\RelDs K H xs vs
 |.dct Ab,a=>∃es,H a=some (.dK es)/\es.map (·.1)=Ab.map (·.1)/\RelDs K H (Ab.map (·.2)) (es.map (·.2))
 |.fzd Ab,a=>∃o es,H a=some (.frz o (.dK es))/\es.map (·.1)=Ab.map (·.1)/\RelDs K H (Ab.map (·.2)) (es.map (·.2))
 |.dr Ab,a=>∃es,H a=some (.dK es)/\es.map (·.1)=Ab.map (·.1)/\aL K m H (Ab.map (·.2)) (es.map (·.2))
 |.lr xs,a=>∃vs,H a=some (.lst vs)/\aL K m H xs vs
 |.tb P q,a=>a=P/\∃ps,H P=some (.tbl ps)/\mL H q ps
 |.ob c fs,a=>∃C dx es,PySem.W.nsIn K mainGlobals c=some (some (.ref C))/\H a=some (.ins C dx es)/\es.map (·.1)=fs.map (·.1)/\aL K m H (fs.map (·.2)) (es.map (·.2))
 |.tr xs,a=>∃vs,H a=some (.tup vs)/\aL K m H xs vs
 |.fzr Ab,a=>∃o es,H a=some (.frz o (.dK es))/\es.map (·.1)=Ab.map (·.1)/\aL K m H (Ab.map (·.2)) (es.map (·.2))
 |.dtr Ab,a=>∃es,H a=some (.dT es)/\es.map (·.1)=Ab.map (λp=>p.1.map Sum.inl)/\aL K m H (Ab.map (·.2)) (es.map (·.2))
 |.dt Ab,a=>∃es,H a=some (.dT es)/\es.map (·.1)=Ab.map (λp=>p.1.map Sum.inl)/\RelDs K H (Ab.map (·.2)) (es.map (·.2))
 |.fzt Ab,a=>∃o es,H a=some (.frz o (.dT es))/\es.map (·.1)=Ab.map (λp=>p.1.map Sum.inl)/\RelDs K H (Ab.map (·.2)) (es.map (·.2))
 |.hk Ab,a=>∃o es,H a=some (.frz o (.frz o (.dK es)))/\es.map (·.1)=Ab.map (·.1)/\RelDs K H (Ab.map (·.2)) (es.map (·.2))
structure aG (K:Ax)(m:Tf)(H:Hp)(U:ac):Prop where
 nd:m.Nodup
 len:m.length=U.length
 cell:∀(i:Nat) c a,U[i]?=some c->m[i]?=some a->g6 K m H c a
structure TF (H H':Hp):Prop where
 tup:∀a xs,H a=some (.tup xs)->H' a=some (.tup xs)
 frz:∀a o u,H a=some (.frz o u)->H' a=some (.frz o u)
structure cV (m:Tf)(H:Hp)(m':Tf)(H':Hp):Prop where
 ext:∃e,m'=m++e/\∀a∈e,H a=none
 tf:TF H H'
 keep:∀a o,H a=some o->a∉m->H' a=some o
 live:∀a,H' a=none->H a=none
def dJ (K:Ax)(m:Tf)(H:Hp)(O:Lo)(Y:St):Prop :=
 O.length=Y.length/\∀(i:Nat) d,O[i]?=some (some d)->∃v,Y[i]?=some (some v)/\av K m H d v
section
variable {K:Ax}{H H' H1 H2:Hp}
def TF.refl:TF H H:={λ_ _ h=>h,λ_ _ _ h=>h}
def TF.trans (a:TF H H1)(b:TF H1 H2):TF H H2:={λ_ _ h=>b.tup _ _ (a.tup _ _ h),λ_ _ _ h=>b.frz _ _ _ (a.frz _ _ _ h)}
def TF.of (h:∀a o,H a=some o->H' a=some o):TF H H':={λ_ _ e=>h _ _ e,λ_ _ _ e=>h _ _ e}
def gY.tf {a vs}(t:TF H H')(h:gY K H a vs):gY K H' a vs:=by
 rcases h with(h|⟨o,h⟩)|h
 ·exact .inl (.inl (t.tup _ _ h))
 ·exact .inl (.inr {o,t.frz _ _ _ h})
 ·exact .inr h
def GQ.tf {a vs}(t:TF H H')(h:GQ K H a vs):GQ K H' a vs:=by
 rcases h with⟨o,h⟩|h
 ·exact .inl {o,t.frz _ _ _ h}
 ·exact .inr h
def GQ.sq {a vs}(h:GQ K H a vs):iM K H a vs:=by
 rcases h with⟨o,h⟩|(h|⟨_,h⟩)|h
 ·exact .inl (.inr {o,h})
 ·cases h
 ·cases h
 ·exact .inr h
mutual
theorem ak.tf (t:TF H H'):∀(d:D) (v:V),ak K H d v->ak K H' d v
 |.non,_,h=>by simpa only[ak] using h
 |.bl _,_,h=>by simpa only[ak] using h
 |.int _,_,h=>by simpa only[ak] using h
 |.str _,_,h=>by simpa only[ak] using h
 |.tup xs,v,h=>by rwa[ak] at h ⊢;let⟨a,vs,e,s,r⟩:=h;exact{a,vs,e,gY.tf t s,RelDs.tf t xs vs r}
 |.fl xs,v,h=>by rwa[ak] at h ⊢;let⟨a,vs,e,s,r⟩:=h;exact{a,vs,e,s.tf t,RelDs.tf t xs vs r}
 |.fd ks ds,v,h=>by rwa[ak] at h ⊢;let⟨a,o,es,e,s,k,r⟩:=h;exact{a,o,es,e,t.frz _ _ _ s,k,RelDs.tf t ds _ r}
 |.key ks,v,h=>by rwa[ak] at h ⊢;let⟨a,e,q⟩:=h;exact{a,e,t.tup _ _ q}
theorem RelDs.tf (t:TF H H'):∀(ds:R4 D) (vs:R4 V),RelDs K H ds vs->RelDs K H' ds vs
 |[],_,h=>by simpa only[RelDs] using h
 |d::ds,vs,h=>by rwa[RelDs] at h ⊢;let⟨v,r,e,h1,h2⟩:=h;exact{v,r,e,ak.tf t d v h1,RelDs.tf t ds r h2}
end
def AE.tf {L ds a cl pm E2 c'}(t:TF H H')(h:AE K H L ds a cl pm E2 c'):AE K H' L ds a cl pm E2 c':=by
 refine{t.frz _ _ _ h.fn,?_,h.len,λy c e=>?_,λi y d e1 e2=>?_,h.sc}
 ·let⟨oc,vs,u,e,r⟩:=h.code;exact{oc,vs,u,t.frz _ _ _ e,r}
 ·let⟨z,o,q,r⟩:=h.cell y c e;exact{z,o,t.frz _ _ _ q,r}
 ·let⟨c,o,u,vy,k1,k2,k3,k4,k5,k6⟩:=h.cap i y d e1 e2;exact{c,o,u,vy,k1,k2,t.frz _ _ _ k3,k4,k5,ak.tf t _ _ k6}
def cV.refl:cV m H m H:={{[],by simp},.refl,λ_ _ h _=>h,λ_ h=>h}
def cV.trans (x:cV m H m1 H1)(y:cV m1 H1 m2 H2):cV m H m2 H2:=by
 let⟨e1,rfl,f1⟩:=x.ext;let⟨e2,rfl,f2⟩:=y.ext;refine{{e1++e2,by simp,λa ha=>?_},x.tf.trans y.tf,λa o h n=>?_,λa h=>x.live a (y.live a h)}
 ·rcases Dd.mp ha with h|h
  ·exact f1 a h
  ·exact x.live a (f2 a h)
 ·refine y.keep a o (x.keep a o h n) λz=>?_;rcases Dd.mp z with z|z
  ·exact n z
  ·rw[f1 a z] at h;cases h
theorem av.ext (x:cV m H m' H'){d:R}{v:V}(h:av K m H d v):av K m' H' d v:=by
 cases d with
 |v d=>exact ak.tf x.tf d v h
 |p n=>
  let⟨a,e,q⟩:=h;let⟨e1,rfl,_⟩:=x.ext;refine{a,e,?_};let⟨hl,hq⟩:=CA.mp q;rw[Bu hl];exact q
 |s b xs=>
  let⟨a,o,e,q,r⟩:=h;exact{a,o,e,x.tf.frz _ _ _ q,r}
 |x c=>
  let⟨a,vs,C,e,q,r⟩:=h;exact{a,vs,C,e,x.tf.frz _ _ _ q,r}
 |f L ds=>
  let⟨a,cl,pm,E2,c',e,q⟩:=h;exact{a,cl,pm,E2,c',e,q.tf x.tf}
theorem aL.ext (x:cV m H m' H'):∀{ds:R4 R} {vs:R4 V},aL K m H ds vs->aL K m' H' ds vs
 |[],_,h=>h
 |_::_,_,⟨v,r,e,h1,h2⟩=>{v,r,e,h1.ext x,aL.ext x h2}
def dJ.ext (x:cV m H m' H')(h:dJ K m H O Y):dJ K m' H' O Y :=
 {h.1,λi d e=>let ⟨v,q,r⟩:=h.2 i d e;{v,q,r.ext x}}
theorem av.tfm (t:TF H H')(y:∃e,m'=m++e){d:R}{v:V}(h:av K m H d v):av K m' H' d v:=by
 cases d with
 |v d=>exact ak.tf t d v h
 |p n=>
  let⟨a,e,q⟩:=h;let⟨e1,rfl⟩:=y;refine{a,e,?_};let⟨hl,hq⟩:=CA.mp q;rw[Bu hl];exact q
 |s b xs=>
  let⟨a,o,e,q,r⟩:=h;exact{a,o,e,t.frz _ _ _ q,r}
 |x c=>
  let⟨a,vs,C,e,q,r⟩:=h;exact{a,vs,C,e,t.frz _ _ _ q,r}
 |f L ds=>
  let⟨a,cl,pm,E2,c',e,q⟩:=h;exact{a,cl,pm,E2,c',e,q.tf t}
theorem aL.tfm (t:TF H H')(y:∃e,m'=m++e):∀{ds:R4 R} {vs:R4 V},aL K m H ds vs->aL K m' H' ds vs
 |[],_,h=>h
 |_::_,_,⟨v,r,e,h1,h2⟩=>{v,r,e,h1.tfm t y,aL.tfm t y h2}
theorem g6.same (s:∀a o,H a=some o->H' a=some o)(y:∃e,m'=m++e){c:au}{a:Aa}(h:g6 K m H c a):g6 K m' H' c a:=by
 cases c with
 |lst xs=>let⟨vs,e,r⟩:=h;exact{vs,s _ _ e,RelDs.tf (.of s) _ _ r}
 |fz xs=>let⟨o,vs,e,r⟩:=h;exact{o,vs,s _ _ e,RelDs.tf (.of s) _ _ r}
 |dct Ab=>let⟨es,e,k,r⟩:=h;exact{es,s _ _ e,k,RelDs.tf (.of s) _ _ r}
 |fzd Ab=>let⟨o,es,e,k,r⟩:=h;exact{o,es,s _ _ e,k,RelDs.tf (.of s) _ _ r}
 |fzt Ab=>let⟨o,es,e,k,r⟩:=h;exact{o,es,s _ _ e,k,RelDs.tf (.of s) _ _ r}
 |hk Ab=>let⟨o,es,e,k,r⟩:=h;exact{o,es,s _ _ e,k,RelDs.tf (.of s) _ _ r}
 |dr Ab=>let⟨es,e,k,r⟩:=h;exact{es,s _ _ e,k,aL.tfm (.of s) y r}
 |lr xs=>let⟨vs,e,r⟩:=h;exact{vs,s _ _ e,aL.tfm (.of s) y r}
 |dt Ab=>let⟨es,e,k,r⟩:=h;exact{es,s _ _ e,k,RelDs.tf (.of s) _ _ r}
 |tb P q=>let⟨e,ps,k,r⟩:=h;exact{e,ps,s _ _ k,r.mono λb o u g=>s _ _ g}
 |ob c fs=>let⟨C,dx,es,n,e,k,r⟩:=h;exact{C,dx,es,n,s _ _ e,k,aL.tfm (.of s) y r}
 |tr xs=>let⟨vs,e,r⟩:=h;exact{vs,s _ _ e,aL.tfm (.of s) y r}
 |fzr Ab=>let⟨o,es,e,k,r⟩:=h;exact{o,es,s _ _ e,k,aL.tfm (.of s) y r}
 |dtr Ab=>let⟨es,e,k,r⟩:=h;exact{es,s _ _ e,k,aL.tfm (.of s) y r}
theorem g6.some {c:au}{a:Aa}(h:g6 K m H c a):∃o,H a=some o:=by
 cases c with
 |lst xs=>let⟨vs,e,r⟩:=h;exact{_,e}
 |fz xs=>let⟨o,vs,e,r⟩:=h;exact{_,e}
 |dct Ab=>let⟨es,e,k,r⟩:=h;exact{_,e}
 |fzd Ab=>let⟨o,es,e,k,r⟩:=h;exact{_,e}
 |fzt Ab=>let⟨o,es,e,k,r⟩:=h;exact{_,e}
 |hk Ab=>let⟨o,es,e,k,r⟩:=h;exact{_,e}
 |dr Ab=>let⟨es,e,k,r⟩:=h;exact{_,e}
 |lr xs=>let⟨vs,e,r⟩:=h;exact{_,e}
 |dt Ab=>let⟨es,e,k,r⟩:=h;exact{_,e}
 |tb P q=>let⟨e,ps,k,r⟩:=h;exact{_,e ▸ k}
 |ob c fs=>let⟨C,dx,es,n,e,k,r⟩:=h;exact{_,e}
 |tr xs=>let⟨vs,e,r⟩:=h;exact{_,e}
 |fzr Ab=>let⟨o,es,e,k,r⟩:=h;exact{_,e}
 |dtr Ab=>let⟨es,e,k,r⟩:=h;exact{_,e}
def aG.same (h:aG K m H U)(s:∀a o,H a=some o->H' a=some o):aG K m H' U :=
 {h.nd,h.len,λi c a e1 e2=>(h.cell i c a e1 e2).same s {[],by simp}}
def aG.mem (h:aG K m H U){a:Aa}(ha:a∈m):∃o,H a=some o:=by
 let⟨i,hi,e⟩:=J0 ha;have EG:i<U.length:=by rw[←h.len];exact hi
 exact(h.cell i U[i] a (C0 EG) (by rw[←e];exact C0 hi)).some
def aG.fresh (h:aG K m H U){p:Aa}(hp:H p=none):p∉m:=λz=>by let⟨o,e⟩:=h.mem z;rw[hp] at e;cases e
def aG.nil:aG K [] H []:={.nil,rfl,λi c a e=>by simp at e}
def cx {p:Aa}{o:HO}(hp:H p=none):∀a u,H a=some u->upd H p o a=some u:=λa u e=>by unfold upd;rw[Ac (λz=>by rw[z,hp] at e;cases e)];exact e
def pd {p:Aa}{o:HO}{a:Aa}(h:upd H p o a=none):H a=none:=by
 unfold upd at h;split at h
 ·cases h
 ·exact h
def br {p:Aa}{o:HO}:upd H p o p=some o:=by unfold upd;rw[Ae rfl]
def cV.new {p:Aa}{o:HO}(hp:H p=none):cV m H m (upd H p o) :=
 {{[],by simp},.of (cx hp),λa u e _=>cx hp a u e,λ_ h=>pd h}
def cV.newH {p:Aa}{o:HO}(hp:H p=none):cV m H (m++[p]) (upd H p o) :=
 {{[p],rfl,λa h=>by rw[CP.mp h];exact hp},.of (cx hp),λa u e _=>cx hp a u e,λ_ h=>pd h}
def aG.newH {p:Aa}{o:HO}{c:au}(h:aG K m H U)(hp:H p=none)(hc:g6 K (m++[p]) (upd H p o) c p):aG K (m++[p]) (upd H p o) (U++[c]):=by
 refine{?_,by simp[h.len],λi c' a e1 e2=>?_}
 ·refine F3.mpr {h.nd,by simp,λa ha b hb=>?_};rw[CP.mp hb];rintro rfl;exact h.fresh hp ha
 ·by_cases hi:i<m.length
  ·rw[Bu hi] at e2;rw[Bu (by rw[←h.len];exact hi)] at e1;exact(h.cell i c' a e1 e2).same (cx hp) {[p],rfl}
  ·rw[DH ∅] at e2;rw[DH (by have:=h.len;omega)] at e1;have hl:=h.len;have:i-m.length=0:=by
    cases q:i-m.length with
    |zero=>rfl
    |succ k=>rw[q] at e2;simp at e2
   have e3:i-U.length=0:=∅;rw[this] at e2;rw[e3] at e1;simp at e1 e2;subst e1 e2;exact hc
def cV.put {a:Aa}{o o':HO}(ha:a∈m)(e:H a=some o)(ho:∀xs,o≠.tup xs)(hf:∀x u,o≠.frz x u):cV m H m (upd H a o'):=by
 have ne:∀b u,H b=some u->u≠o->b≠a:=λb u q n z=>by rw[z,e] at q;exact n (Option.some.inj q).symm
 refine{{[],by simp},{λb xs q=>?_,λb x u q=>?_},λb u q n=>?_,λb h=>pd h}
 ·unfold upd;rw[Ac (ne b _ q λz=>ho xs z.symm)];exact q
 ·unfold upd;rw[Ac (ne b _ q λz=>hf x u z.symm)];exact q
 ·unfold upd;rw[Ac (λz:b=a=>n (by rw[z];exact ha))];exact q
def aG.put {n:Nat}{a:Aa}{o o':HO}{c:au}(h:aG K m H U)(hn:m[n]?=some a)(e:H a=some o)(ho:∀xs,o≠.tup xs)(hf:∀x u,o≠.frz x u)(hc:g6 K m (upd H a o') c a):aG K m (upd H a o') (U.set n c):=by
 have ha:a∈m:=Cp hn;have x:cV m H m (upd H a o'):=.put ha e ho hf;refine{h.nd,by simp[h.len],λi c' b e1 e2=>?_};by_cases hi:i=n
 ·subst hi;rw[hn] at e2;cases e2;rw[E9 (by have:=(CA.mp hn).1;have:=h.len;omega)] at e1;cases e1;exact hc
 ·rw[C7 (Ne.symm hi)] at e1;have nb:b≠a:=by rintro rfl;let⟨h1,q1⟩:=CA.mp e2;let⟨h2,q2⟩:=CA.mp hn;exact hi ((IT h.nd).mp (q1.trans q2.symm))
  have at':∀u,H b=some u->upd H a o' b=some u:=λu q=>by unfold upd;rw[Ac nb];exact q
  have z:=h.cell i c' b e1 e2
  cases c' with
  |lst xs=>let⟨vs,e,r⟩:=z;exact{vs,at' _ e,RelDs.tf x.tf _ _ r}
  |fz xs=>let⟨o,vs,e,r⟩:=z;exact{o,vs,at' _ e,RelDs.tf x.tf _ _ r}
  |dct Ab=>let⟨es,e,k,r⟩:=z;exact{es,at' _ e,k,RelDs.tf x.tf _ _ r}
  |fzd Ab=>let⟨o,es,e,k,r⟩:=z;exact{o,es,at' _ e,k,RelDs.tf x.tf _ _ r}
  |fzt Ab=>let⟨o,es,e,k,r⟩:=z;exact{o,es,at' _ e,k,RelDs.tf x.tf _ _ r}
  |hk Ab=>let⟨o,es,e,k,r⟩:=z;exact{o,es,at' _ e,k,RelDs.tf x.tf _ _ r}
  |dr Ab=>let⟨es,e,k,r⟩:=z;exact{es,at' _ e,k,aL.tfm x.tf {[],by simp} r}
  |lr xs=>let⟨vs,e,r⟩:=z;exact{vs,at' _ e,aL.tfm x.tf {[],by simp} r}
  |dt Ab=>let⟨es,e,k,r⟩:=z;exact{es,at' _ e,k,RelDs.tf x.tf _ _ r}
  |tb P q=>let⟨e,ps,k,r⟩:=z;subst e;exact{rfl,ps,at' _ k,r.mono x.tf.frz}
  |ob c fs=>let⟨C,dx,es,n,e,k,r⟩:=z;exact{C,dx,es,n,at' _ e,k,aL.tfm x.tf {[],by simp} r}
  |tr xs=>let⟨vs,e,r⟩:=z;exact{vs,at' _ e,aL.tfm x.tf {[],by simp} r}
  |fzr Ab=>let⟨o,es,e,k,r⟩:=z;exact{o,es,at' _ e,k,aL.tfm x.tf {[],by simp} r}
  |dtr Ab=>let⟨es,e,k,r⟩:=z;exact{es,at' _ e,k,aL.tfm x.tf {[],by simp} r}
end
def ax (K:Ax)(f:FE):TE:=λY H Q=>∃O U m d U',dJ K m H O Y/\aG K m H U/\f O U=some (d,U') /\
 ∀v H' m',cV m H m' H'->aG K m' H' U'->av K m' H' d v->Q v H'
def eN (K:Ax)(f:FT):TT:=λY H Q=>∃O U m b U',dJ K m H O Y/\aG K m H U/\f O U=some (b,U') /\
 ∀H' m',cV m H m' H'->aG K m' H' U'->Q b H'
def gM (K:Ax)(f:FA):TA:=λY H Q=>∃O U m ds U',dJ K m H O Y/\aG K m H U/\f O U=some (ds,U') /\
 ∀vs H' m',cV m H m' H'->aG K m' H' U'->aL K m' H' ds vs->Q vs H'
def gB.of (K:Ax)(m:Tf)(H:Hp)(D:gB):oZ->Prop
 |.nx O U=>∀Y H' m',cV m H m' H'->aG K m' H' U->dJ K m' H' O Y->D.nx Y H'
 |.bk O U=>∀Y H' m',cV m H m' H'->aG K m' H' U->dJ K m' H' O Y->D.bk Y H'
 |.ct O U=>∀Y H' m',cV m H m' H'->aG K m' H' U->dJ K m' H' O Y->D.ct Y H'
 |.rt d U=>∀v H' m',cV m H m' H'->aG K m' H' U->av K m' H' d v->D.rt v H'
def fA (K:Ax)(f:FS):TS:=λD Y H=>∃O U m out,dJ K m H O Y/\aG K m H U/\f O U=some out/\gB.of K m H D out
noncomputable def ae (i:Nat):FE:=λO U=>match O[i]? with|some (some d)=>some (d,U)|_=>none
noncomputable def fK (d:D):FE:=λ_ U=>some (.v d,U)
noncomputable def aw (g:R->R->ac->AA (R×ac))(fa fb:FE):FE:=λO U=>(fa O U).bind λa=>(fb O a.2).bind λb=>g a.1 b.1 b.2
noncomputable def jM (g:R->ac->AA (R×ac))(fa:FE):FE:=λO U=>(fa O U).bind λa=>g a.1 a.2
def o0 (K:Ax)(g:R->R->ac->AA (R×ac))(r:R2):Prop :=
 ∀m H U x y d U' v u Q,aG K m H U->av K m H x v->av K m H y u->g x y U=some (d,U')->(∀w H' m',cV m H m' H'->aG K m' H' U'->av K m' H' d w->Q w H')->r v u H Q
def Sb (K:Ax)(g:R->ac->AA (R×ac))(r:V->Hp->VK->Prop):Prop :=
 ∀m H U x d U' v Q,aG K m H U->av K m H x v->g x U=some (d,U')->(∀w H' m',cV m H m' H'->aG K m' H' U'->av K m' H' d w->Q w H')->r v H Q
def zj (K:Ax)(g:R4 R->ac->AA (R×ac))(r:R4 V->Hp->VK->Prop):Prop :=
 ∀m H U xs d U' vs Q,aG K m H U->aL K m H xs vs->g xs U=some (d,U')->(∀w H' m',cV m H m' H'->aG K m' H' U'->av K m' H' d w->Q w H')->r vs H Q
noncomputable def ai:FA:=λ_ U=>some ([],U)
noncomputable def af (fa:FE)(fr:FA):FA:=λO U=>(fa O U).bind λa=>(fr O a.2).bind λr=>some (a.1::r.1,r.2)
noncomputable def dR (g:R4 R->ac->AA (R×ac))(fa:FA):FE:=λO U=>(fa O U).bind λa=>g a.1 a.2
section
variable {K:Ax}{Y:St}{H:Hp}{Q:VK}
def JG4 {i:Nat}(h:ax K (ae i) Y H Q):MD i Y H Q:=by
 let⟨O,U,m,d,U',hl,hs,e,k⟩:=h;unfold ae at e;split at e
 ·rename_i d' q
  cases e;let⟨v,q1,q2⟩:=hl.2 i _ q;exact{v,q1,k v H m .refl hs q2}
 ·cases e
def j2 {d:D}{v:V}(hv:∀m H,av K m H (.v d) v)(h:ax K (fK d) Y H Q):tC v Y H Q:=by let⟨O,U,m,d',U',hl,hs,e,k⟩:=h;cases e;exact k v H m .refl hs (hv _ _)
def gL {g r fa fb}(hg:o0 K g r)(h:ax K (aw g fa fb) Y H Q):Jc r (ax K fa) (ax K fb) Y H Q:=by let⟨O,U,m,d,U',hl,hs,e,k⟩:=h;let⟨⟨x,U1⟩,e1,e⟩:=Az.mp e;let⟨⟨y,U2⟩,e2,e⟩:=Az.mp e;refine{O,U,m,x,U1,hl,hs,e1,λv H1 m1 x1 s1 r1=>?_};refine{O,U1,m1,y,U2,hl.ext x1,s1,e2,λu H2 m2 x2 s2 r2=>?_};exact hg m2 H2 U2 x y d U' v u Q s2 (r1.ext x2) r2 e λw H3 m3 x3 s3 r3=>k w H3 m3 ((x1.trans x2).trans x3) s3 r3
def MY {g r fa}(hg:Sb K g r)(h:ax K (jM g fa) Y H Q):Ry r (ax K fa) Y H Q:=by let⟨O,U,m,d,U',hl,hs,e,k⟩:=h;let⟨⟨x,U1⟩,e1,e⟩:=Az.mp e;refine{O,U,m,x,U1,hl,hs,e1,λv H1 m1 x1 s1 r1=>?_};exact hg m1 H1 U1 x d U' v Q s1 r1 e λw H3 m3 x3 s3 r3=>k w H3 m3 (x1.trans x3) s3 r3
def BM {Q:R4 V->Hp->Prop}(h:gM K ai Y H Q):wJ Y H Q:=by let⟨O,U,m,ds,U',hl,hs,e,k⟩:=h;cases e;exact k [] H m .refl hs rfl
def JC6 {fa fr}{Q:R4 V->Hp->Prop}(h:gM K (af fa fr) Y H Q):nN (ax K fa) (gM K fr) Y H Q:=by let⟨O,U,m,ds,U',hl,hs,e,k⟩:=h;let⟨⟨x,U1⟩,e1,e⟩:=Az.mp e;let⟨⟨xs,U2⟩,e2,e⟩:=Az.mp e;cases e;refine{O,U,m,x,U1,hl,hs,e1,λv H1 m1 x1 s1 r1=>?_};refine{O,U1,m1,xs,U2,hl.ext x1,s1,e2,λvs H2 m2 x2 s2 r2=>?_};exact k (v::vs) H2 m2 (x1.trans x2) s2 {v,vs,rfl,r1.ext x2,r2}
def jE {g r fa}(hg:zj K g r)(h:ax K (dR g fa) Y H Q):ML r (gM K fa) Y H Q:=by let⟨O,U,m,d,U',hl,hs,e,k⟩:=h;let⟨⟨xs,U1⟩,e1,e⟩:=Az.mp e;refine{O,U,m,xs,U1,hl,hs,e1,λvs H1 m1 x1 s1 r1=>?_};exact hg m1 H1 U1 xs d U' vs Q s1 r1 e λw H3 m3 x3 s3 r3=>k w H3 m3 (x1.trans x3) s3 r3
end
noncomputable def fB (fa:FE):FT:=λO U=>(fa O U).bind λa=>match a.1 with|.v (.bl b)=>some (b,a.2)|_=>none
noncomputable def AY:R->ac->AA Ad
 |.v .non,_=>some false
 |.v (.bl b),_=>some b
 |.v (.int i),_=>some (i != 0)
 |.v (.str x),_=>if x.length<=sizeLine then some ((x.length:Int) != 0) else none
 |.v (.tup xs),_=>some (!xs.isEmpty)
 |.v (.fl xs),_=>some (!xs.isEmpty)
 |.v (.fd _ _),_=>none
 |.v (.key _),_=>none
 |.s _ _,_=>none
 |.x _,_=>none
 |.f _ _,_=>none
 |.p n,U=>match U[n]? with|some (.lst xs)=>some (!xs.isEmpty)|some (.fz xs)=>some (!xs.isEmpty)|some (.dct Ab)=>some (!Ab.isEmpty)|_=>none
noncomputable def dG (fa:FE):FT:=λO U=>(fa O U).bind λa=>(AY a.1 a.2).bind λb=>some (b,a.2)
noncomputable def mh (t u:FT):FT:=λO U=>(t O U).bind λc=>if c.1=true then u O c.2 else some (false,c.2)
noncomputable def gE (t u:FT):FT:=λO U=>(t O U).bind λc=>if c.1=true then some (true,c.2) else u O c.2
noncomputable def d8 (t:FT):FT:=λO U=>(t O U).bind λc=>some (!c.1,c.2)
noncomputable def vR (fa fb:FE):FE:=λO U=>(fa O U).bind λa=>match a.1 with|.v (.bl c)=>if c=true then fb O a.2 else some (.v (.bl false),a.2)|_=>none
noncomputable def OV (fa fb:FE):FE:=λO U=>(fa O U).bind λa=>match a.1 with|.v (.bl c)=>if c=true then some (.v (.bl true),a.2) else fb O a.2|_=>none
noncomputable def rq (fa:FE):FE:=λO U=>(fa O U).bind λa=>match a.1 with|.v (.bl c)=>some (.v (.bl (!c)),a.2)|_=>none
noncomputable def Iu (t:FT)(fa fb:FE):FE:=λO U=>(t O U).bind λc=>if c.1=true then fa O c.2 else fb O c.2
theorem RelDs.length {K:Ax}{H:Hp}:∀{ds:R4 D} {vs:R4 V},RelDs K H ds vs->ds.length=vs.length
 |[],_,h=>by rwa[RelDs] at h;subst h;rfl
 |_::_,_,h=>by rwa[RelDs] at h;let⟨v,r,rfl,_,h2⟩:=h;simp[RelDs.length h2]
def RelDs.empty {K:Ax}{H:Hp}{ds:R4 D}{vs:R4 V}(h:RelDs K H ds vs):ds.isEmpty=vs.isEmpty:=by have:=h.length;cases ds <;> cases vs <;> simp_all
section
variable {K:Ax}{Y:St}{H:Hp}{Q:VK}{B:Ad->Hp->Prop}
def PM {fa}(h:eN K (fB fa) Y H B):tB (ax K fa) Y H B:=by
 let⟨O,U,m,d,U',hl,hs,e,k⟩:=h;let⟨⟨x,U1⟩,e1,e⟩:=Az.mp e;split at e
 ·rename_i b q
  cases e;subst q;exact{O,U,m,_,U1,hl,hs,e1,λv H1 m1 x1 s1 r1=>{_,by simpa only[av,ak] using r1,k H1 m1 x1 s1}}
 ·cases e
def yp {fa}(h:eN K (fB fa) Y H B):Hu (ax K fa) Y H B:=PM h
theorem wG {m:Tf}{U:ac}{x:R}{b:Ad}{v:V}(s:aG K m H U)(r:av K m H x v)(e:AY x U=some b):GI K v H b:=by
 cases x with
 |v d=>
  cases d with
  |non=>cases e;cases r;rfl
  |bl c=>cases e;rwa[av,ak] at r;subst r;rfl
  |int i=>cases e;rwa[av,ak] at r;subst r;rfl
  |str x=>
   rwa[av,ak] at r;subst r
   delta AY at e
   dsimp only at e;split at e
   ·rename_i z;cases e;exact{z,rfl}
   ·cases e
  |tup xs=>
   cases e;rwa[av,ak] at r;let⟨a,vs,rfl,q,r⟩:=r;exact .inr (.inl {vs,q,by rw[r.empty]})
  |fl xs=>
   cases e;rwa[av,ak] at r;let⟨a,vs,rfl,q,r⟩:=r;exact .inl {vs,q.sq,by rw[r.empty]}
  |fd ks ds=>cases e
  |key ks=>cases e
 |s b xs=>cases e
 |x _=>cases e
 |f _ _=>cases e
 |p n=>
  let⟨a,rfl,ha⟩:=r
  delta AY at e
  dsimp only at e;split at e
  ·rename_i xs q
   cases e;let⟨vs,e,r⟩:=s.cell n _ a q ha;exact .inl {vs,.inl (.inl e),by rw[r.empty]}
  ·rename_i xs q
   cases e;let⟨o,vs,e,r⟩:=s.cell n _ a q ha;exact .inl {vs,.inl (.inr {o,e}),by rw[r.empty]}
  ·rename_i Ab q
   cases e;let⟨es,e,k,r⟩:=s.cell n _ a q ha;refine .inr (.inr {es,e,?_});have:=Av List.length k;cases es <;> cases Ab <;> simp_all
  ·cases e
def JG7 {fa}(h:eN K (dG fa) Y H B):(λY H (Q:Ad->Hp->Prop)=>ax K fa Y H λx H1=>∃k,GI K x H1 k/\Q k H1) Y H B:=by let⟨O,U,m,d,U',hl,hs,e,k⟩:=h;let⟨⟨x,U1⟩,e1,e⟩:=Az.mp e;let⟨b,e2,e⟩:=Az.mp e;cases e;exact{O,U,m,x,_,hl,hs,e1,λv H1 m1 x1 s1 r1=>{_,wG s1 r1 e2,k H1 m1 x1 s1}}
theorem EQ {t u}(h:eN K (mh t u) Y H B):MN (eN K t) (eN K u) Y H B:=by
 let⟨O,U,m,d,U',hl,hs,e,k⟩:=h;let⟨⟨c,U1⟩,e1,e⟩:=Az.mp e;refine{O,U,m,c,U1,hl,hs,e1,λH1 m1 x1 s1=>?_}
 cases c with
 |true=>exact{O,U1,m1,d,U',hl.ext x1,s1,e,λH2 m2 x2 s2=>k H2 m2 (x1.trans x2) s2}
 |false=>cases e;exact k H1 m1 x1 s1
theorem Jz {t u}(h:eN K (gE t u) Y H B):Rz (eN K t) (eN K u) Y H B:=by
 let⟨O,U,m,d,U',hl,hs,e,k⟩:=h;let⟨⟨c,U1⟩,e1,e⟩:=Az.mp e;refine{O,U,m,c,U1,hl,hs,e1,λH1 m1 x1 s1=>?_}
 cases c with
 |false=>exact{O,U1,m1,d,U',hl.ext x1,s1,e,λH2 m2 x2 s2=>k H2 m2 (x1.trans x2) s2}
 |true=>cases e;exact k H1 m1 x1 s1
def JDq {t}(h:eN K (d8 t) Y H B):MI (eN K t) Y H B:=by let⟨O,U,m,d,U',hl,hs,e,k⟩:=h;let⟨⟨c,U1⟩,e1,e⟩:=Az.mp e;cases e;exact{O,U,m,c,U1,hl,hs,e1,λH1 m1 x1 s1=>k H1 m1 x1 s1}
def JGm {fa fb}(h:ax K (vR fa fb) Y H Q):HB (ax K fa) (ax K fb) Y H Q:=by
 let⟨O,U,m,d,U',hl,hs,e,k⟩:=h;let⟨⟨x,U1⟩,e1,e⟩:=Az.mp e;split at e
 ·rename_i c q;subst q;refine{O,U,m,_,U1,hl,hs,e1,λv H1 m1 x1 s1 r1=>{c,by simpa only[av,ak] using r1,?_}}
  cases c with
  |true=>exact{O,U1,m1,d,U',hl.ext x1,s1,e,λw H2 m2 x2 s2 r2=>k w H2 m2 (x1.trans x2) s2 r2}
  |false=>cases e;exact k _ H1 m1 x1 s1 (by rwa[av,ak])
 ·cases e
def M0 {fa fb}(h:ax K (OV fa fb) Y H Q):MH (ax K fa) (ax K fb) Y H Q:=by
 let⟨O,U,m,d,U',hl,hs,e,k⟩:=h;let⟨⟨x,U1⟩,e1,e⟩:=Az.mp e;split at e
 ·rename_i c q;subst q;refine{O,U,m,_,U1,hl,hs,e1,λv H1 m1 x1 s1 r1=>{c,by simpa only[av,ak] using r1,?_}}
  cases c with
  |false=>exact{O,U1,m1,d,U',hl.ext x1,s1,e,λw H2 m2 x2 s2 r2=>k w H2 m2 (x1.trans x2) s2 r2}
  |true=>cases e;exact k _ H1 m1 x1 s1 (by rwa[av,ak])
 ·cases e
def JF6 {fa}(h:ax K (rq fa) Y H Q):Hw (ax K fa) Y H Q:=by
 let⟨O,U,m,d,U',hl,hs,e,k⟩:=h;let⟨⟨x,U1⟩,e1,e⟩:=Az.mp e;split at e
 ·rename_i c q
  cases e;subst q;exact{O,U,m,_,U1,hl,hs,e1,λv H1 m1 x1 s1 r1=>{c,by simpa only[av,ak] using r1,k _ H1 m1 x1 s1 (by rwa[av,ak])}}
 ·cases e
theorem M5 {t fa fb}(h:ax K (Iu t fa fb) Y H Q):RA (eN K t) (ax K fa) (ax K fb) Y H Q:=by
 let⟨O,U,m,d,U',hl,hs,e,k⟩:=h;let⟨⟨c,U1⟩,e1,e⟩:=Az.mp e;refine{O,U,m,c,U1,hl,hs,e1,λH1 m1 x1 s1=>?_}
 cases c with
 |true=>exact{O,U1,m1,d,U',hl.ext x1,s1,e,λw H2 m2 x2 s2 r2=>k w H2 m2 (x1.trans x2) s2 r2}
 |false=>exact{O,U1,m1,d,U',hl.ext x1,s1,e,λw H2 m2 x2 s2 r2=>k w H2 m2 (x1.trans x2) s2 r2}
end
noncomputable def vals:R4 R->AA (R4 D)
 |[]=>some []
 |.v d::r=>(vals r).bind λds=>some (d::ds)
 |.p _::_=>none
 |.s _ _::_=>none
 |.x _::_=>none
 |.f _ _::_=>none
theorem l9 {K:Ax}{m:Tf}{H:Hp}:∀{rs:R4 R} {ds:R4 D} {vs:R4 V},vals rs=some ds->aL K m H rs vs->RelDs K H ds vs
 |[],_,_,e,h=>by cases e;rwa[RelDs];exact h
 |.v d::r,_,_,e,⟨v,vs,rfl,h1,h2⟩=>by let⟨ds,e1,e⟩:=Az.mp e;cases e;rwa[RelDs];exact{v,vs,rfl,h1,l9 e1 h2}
 |.p _::_,_,_,e,_=>by cases e
 |.s _ _::_,_,_,e,_=>by cases e
 |.x _::_,_,_,e,_=>by cases e
 |.f _ _::_,_,_,e,_=>by cases e
noncomputable def bZ (fa:FA):FE:=λO U=>(fa O U).bind λa=>(vals a.1).bind λds=>if ds.length<=sizeLine then some (.v (.tup ds),a.2) else none
noncomputable def bV (fa:FA):FE:=λO U=>(fa O U).bind λa=>(vals a.1).bind λds=>if ds.length<=sizeLine then some (.p a.2.length,a.2++[.lst ds]) else none
section
variable {K:Ax}{m:Tf}{Y:St}{H:Hp}{Q:VK}{U:ac}
def kQ {ds:R4 D}{vs:R4 V}{p:Aa}(s:aG K m H U)(r:RelDs K H ds vs)(hp:H p=none):cV m H m (upd H p (.tup vs))/\aG K m (upd H p (.tup vs)) U/\av K m (upd H p (.tup vs)) (.v (.tup ds)) (.ref p):=by refine{.new hp,s.same (cx hp),?_};rwa[av,ak];exact{p,vs,rfl,.inl (.inl br),RelDs.tf (.of (cx hp)) _ _ r}
def hU {ds:R4 D}{vs:R4 V}{p:Aa}(s:aG K m H U)(r:RelDs K H ds vs)(hp:H p=none):cV m H (m++[p]) (upd H p (.lst vs))/\aG K (m++[p]) (upd H p (.lst vs)) (U++[.lst ds])/\av K (m++[p]) (upd H p (.lst vs)) (.p U.length) (.ref p):=by refine{.newH hp,s.newH hp {vs,br,RelDs.tf (.of (cx hp)) _ _ r},p,rfl,?_};rw[←s.len];simp
def JG5 {fa}(h:ax K (bZ fa) Y H Q):Jb (gM K fa) Y H Q:=by
 let⟨O,U,m,d,U',hl,hs,e,k⟩:=h;let⟨⟨xs,U1⟩,e1,e⟩:=Az.mp e;let⟨ds,e2,e⟩:=Az.mp e;split at e
 ·rename_i z
  cases e;refine{O,U,m,xs,_,hl,hs,e1,λvs H1 m1 x1 s1 r1=>?_};have r2:=l9 e2 r1;refine{by rw[←r2.length];exact z,λp hp=>?_};let⟨a,b,c⟩:=kQ s1 r2 hp;exact k _ _ _ (x1.trans a) b c
 ·cases e
def JF8 {fa}(h:ax K (bV fa) Y H Q):Jd (gM K fa) Y H Q:=by
 let⟨O,U,m,d,U',hl,hs,e,k⟩:=h;let⟨⟨xs,U1⟩,e1,e⟩:=Az.mp e;let⟨ds,e2,e⟩:=Az.mp e;split at e
 ·rename_i z
  cases e;refine{O,U,m,xs,_,hl,hs,e1,λvs H1 m1 x1 s1 r1=>?_};have r2:=l9 e2 r1;refine{by rw[←r2.length];exact z,λp hp=>?_};let⟨a,b,c⟩:=hU s1 r2 hp;exact k _ _ _ (x1.trans a) b c
 ·cases e
end
noncomputable def aO:FS:=λO U=>some (.nx O U)
noncomputable def aF (a b:FS):FS:=λO U=>(a O U).bind λo=>match o with|.nx O' U'=>b O' U'|o=>some o
noncomputable def bK (f:FE):FS:=λO U=>(f O U).bind λa=>some (.nx O a.2)
noncomputable def bB (f:FE):FS:=λO U=>(f O U).bind λa=>some (.rt a.1 a.2)
noncomputable def f8 (t:FT)(a b:FS):FS:=λO U=>(t O U).bind λc=>if c.1=true then a O c.2 else b O c.2
noncomputable def aR (i:Nat)(f:FE):FS:=λO U=>(f O U).bind λa=>some (.nx (O.set i (some a.1)) a.2)
section
variable {K:Ax}{m m' m1:Tf}{Y:St}{H H' H1:Hp}{D:gB}{U:ac}{O:Lo}
theorem gB.of_ext {o:oZ}(x:cV m H m1 H1)(h:gB.of K m H D o):gB.of K m1 H1 D o:=by
 cases o with
 |nx O U=>exact λY H' m' y=>h Y H' m' (x.trans y)
 |bk O U=>exact λY H' m' y=>h Y H' m' (x.trans y)
 |ct O U=>exact λY H' m' y=>h Y H' m' (x.trans y)
 |rt d U=>exact λY H' m' y=>h Y H' m' (x.trans y)
def dJ.set {d:R}{v:V}(h:dJ K m H O Y)(r:av K m H d v)(i:Nat):dJ K m H (O.set i (some d)) (Y.set i (some v)):=by
 refine{by simp[h.1],λj d' e=>?_};by_cases hj:j=i
 ·subst hj;by_cases hi:j<O.length
  ·rw[E9 hi] at e
   cases e;exact{v,E9 (by rw[←h.1];exact hi),r}
  ·rw[zb3 (by simp;omega)] at e
   cases e
 ·rw[C7 (Ne.symm hj)] at e;let⟨u,q1,q2⟩:=h.2 j d' e;exact{u,by rw[C7 (Ne.symm hj)];exact q1,q2}
def JDt (h:fA K aO D Y H):Hx D Y H:=by let⟨O,U,m,o,hl,hs,e,k⟩:=h;cases e;exact k Y H m .refl hs hl
theorem JF2 {a b}(h:fA K (aF a b) D Y H):ME (fA K a) (fA K b) D Y H:=by
 let⟨O,U,m,o,hl,hs,e,k⟩:=h;let⟨o1,e1,e⟩:=Az.mp e;refine{O,U,m,o1,hl,hs,e1,?_}
 cases o1 with
 |nx O1 U1=>exact λY1 H1 m1 x1 s1 l1=>{O1,U1,m1,o,l1,s1,e,gB.of_ext x1 k}
 |bk O1 U1=>cases e;exact k
 |ct O1 U1=>cases e;exact k
 |rt d U1=>cases e;exact k
def JDy {f}(h:fA K (bK f) D Y H):HA (ax K f) D Y H:=by let⟨O,U,m,o,hl,hs,e,k⟩:=h;let⟨⟨x,U1⟩,e1,e⟩:=Az.mp e;cases e;exact{O,U,m,x,U1,hl,hs,e1,λv H1 m1 x1 s1 r1=>k Y H1 m1 x1 s1 (hl.ext x1)}
def JF4 {f}(h:fA K (bB f) D Y H):MG (ax K f) D Y H:=by let⟨O,U,m,o,hl,hs,e,k⟩:=h;let⟨⟨x,U1⟩,e1,e⟩:=Az.mp e;cases e;exact{O,U,m,x,U1,hl,hs,e1,k}
theorem JGb {t a b}(h:fA K (f8 t a b) D Y H):MJ (eN K t) (fA K a) (fA K b) D Y H:=by
 let⟨O,U,m,o,hl,hs,e,k⟩:=h;let⟨⟨c,U1⟩,e1,e⟩:=Az.mp e;refine{O,U,m,c,U1,hl,hs,e1,λH1 m1 x1 s1=>?_}
 cases c with
 |true=>exact{O,U1,m1,o,hl.ext x1,s1,e,gB.of_ext x1 k}
 |false=>exact{O,U1,m1,o,hl.ext x1,s1,e,gB.of_ext x1 k}
def BJ {i f}(h:fA K (aR i f) D Y H):Bm (ax K f) (r9 i) D Y H:=by let⟨O,U,m,o,hl,hs,e,k⟩:=h;let⟨⟨x,U1⟩,e1,e⟩:=Az.mp e;cases e;exact{O,U,m,x,U1,hl,hs,e1,λv H1 m1 x1 s1 r1=>k _ H1 m1 x1 s1 ((hl.ext x1).set r1 i)}
end
abbrev FG:=R->Lo->ac->AA (Lo×ac)
def nP (K:Ax)(g:FG):TG:=λv Y H Q=>∃O U m d O' U',dJ K m H O Y/\aG K m H U/\av K m H d v/\g d O U=some (O',U') /\
 ∀Y' H' m',cV m H m' H'->aG K m' H' U'->dJ K m' H' O' Y'->Q Y' H'
abbrev IF:=R4 R->Lo->ac->AA (Lo×ac)
noncomputable def uO (K:Ax)(g:IF):Ep:=λvs Y H Q=>∃O U m ds O' U',dJ K m H O Y/\aG K m H U/\aL K m H ds vs/\g ds O U=some (O',U') /\
 ∀Y' H' m',cV m H m' H'->aG K m' H' U'->dJ K m' H' O' Y'->Q Y' H'
noncomputable def bU (i:Nat):FG:=λd O U=>some (O.set i (some d),U)
noncomputable def f9:IF:=λds O U=>match ds with|[]=>some (O,U)|_=>none
noncomputable def bm (g:FG)(r:IF):IF:=λds O U=>match ds with|[]=>none|d::ds=>(g d O U).bind λa=>r ds a.1 a.2
noncomputable def vN (n:Nat)(g:IF):FG:=λd O U=>match d with|.v (.tup xs)=>if xs.length=n then g (xs.map .v) O U else none|_=>none
noncomputable def zE (f:FE)(g:FG):FS:=λO U=>(f O U).bind λa=>(g a.1 O a.2).bind λb=>some (.nx b.1 b.2)
section
variable {K:Ax}{m m1:Tf}{Y:St}{H H1:Hp}{D:gB}{U:ac}{O:Lo}{v:V}{Q:St->Hp->Prop}
def JGf {i}(h:nP K (bU i) v Y H Q):r9 i v Y H Q:=by let⟨O,U,m,d,O',U',hl,hs,r,e,k⟩:=h;cases e;exact k _ H m .refl hs (hl.set r i)
theorem JA5 {vs}(h:uO K f9 vs Y H Q):Od vs Y H Q:=by
 let⟨O,U,m,ds,O',U',hl,hs,r,e,k⟩:=h
 cases ds with
 |nil=>cases e;exact{r,k Y H m .refl hs hl}
 |cons d ds=>cases e
theorem zF {g r vs}(h:uO K (bm g r) vs Y H Q):Iq (nP K g) (uO K r) vs Y H Q:=by
 let⟨O,U,m,ds,O',U',hl,hs,rr,e,k⟩:=h
 cases ds with
 |nil=>cases e
 |cons d ds=>
  let⟨v,vr,rfl,r1,r2⟩:=rr;let⟨⟨O1,U1⟩,e1,e⟩:=Az.mp e;refine{v,vr,rfl,O,U,m,d,O1,U1,hl,hs,r1,e1,λY1 H1 m1 x1 s1 l1=>?_};exact{O1,U1,m1,ds,O',U',l1,s1,r2.ext x1,e,λY2 H2 m2 x2 s2 l2=>k Y2 H2 m2 (x1.trans x2) s2 l2}
theorem RelDs.rs:∀{ds:R4 HW.D} {vs:R4 V},RelDs K H ds vs->aL K m H (ds.map .v) vs
 |[],_,h=>by rwa[RelDs] at h;exact h
 |d::ds,_,h=>by rwa[RelDs] at h;let⟨v,r,rfl,h1,h2⟩:=h;exact{v,r,rfl,h1,RelDs.rs h2}
def JGe {n g}(h:nP K (vN n g) v Y H Q):Oc K n (uO K g) v Y H Q:=by
 let⟨O,U,m,d,O',U',hl,hs,r,e,k⟩:=h;unfold vN at e;split at e
 ·rename_i xs;split at e
  ·rename_i hn;rwa[av,ak] at r;let⟨a,vs,rfl,q,rr⟩:=r;exact{a,vs,rfl,q,by rw[←rr.length];exact hn,O,U,m,_,O',U',hl,hs,rr.rs,e,k}
  ·cases e
 ·cases e
def JGl {f g}(h:fA K (zE f g) D Y H):Bm (ax K f) (nP K g) D Y H:=by let⟨O,U,m,o,hl,hs,e,k⟩:=h;let⟨⟨x,U1⟩,e1,e⟩:=Az.mp e;let⟨⟨O2,U2⟩,e2,e⟩:=Az.mp e;cases e;exact{O,U,m,x,U1,hl,hs,e1,λv H1 m1 x1 s1 r1=>{O,U1,m1,x,O2,U2,hl.ext x1,s1,r1,e2,λY2 H2 m2 x2 s2 l2=>k Y2 H2 m2 (x1.trans x2) s2 l2}}
end
def ez:HO->Prop
 |.lst _=>True
 |.set _ _=>True
 |.dK _=>True
 |.dT _=>True
 |_=>False
def OK (t:TE):TE:=λY H Q=>t Y H λv H1=>Q v H1\/∃a u,H1 a=some u/\ez u/\∀o,Q v (upd H1 a (.frz o u))
noncomputable def Em:R->ac->AA (D×ac)
 |.v d,U=>some (d,U)
 |.s _ _,_=>none
 |.x _,_=>none
 |.f _ _,_=>none
 |.p n,U=>match U[n]? with|some (.lst xs)=>some (.fl xs,U.set n (.fz xs))|some (.fz xs)=>some (.fl xs,U)|some (.dct Ab)=>some (.fd (Ab.map (·.1)) (Ab.map (·.2)),U.set n (.fzd Ab))|some (.fzd Ab)=>some (.fd (Ab.map (·.1)) (Ab.map (·.2)),U)|_=>none
noncomputable def c7 (f:FE):FE:=λO U=>(f O U).bind λa=>(Em a.1 a.2).bind λb=>some (.v b.1,b.2)
section
variable {K:Ax}{m:Tf}{Y:St}{H:Hp}{U:ac}{Q:VK}
theorem Ir {x:R}{d:D}{U':ac}{v:V}{B:Hp->Prop}(hs:aG K m H U)(r:av K m H x v)(e:Em x U=some (d,U'))
  (k:∀H',cV m H m H'->aG K m H' U'->ak K H' d v->B H'):B H\/∃a u,H a=some u/\ez u/\∀o,B (upd H a (.frz o u)):=by
 cases x with
 |v d'=>cases e;exact .inl (k H .refl hs r)
 |s b xs=>cases e
 |x _=>cases e
 |f _ _=>cases e
 |p n=>
  let⟨a,rfl,ha⟩:=r;rwa[Em] at e;split at e
  ·rename_i xs q
   cases e;let⟨vs,ea,rr⟩:=hs.cell n _ a q ha;refine .inr {a,_,ea,trivial,λo=>?_};have x:cV m H m (upd H a (.frz o (.lst vs))):=.put (Cp ha) ea ∅ ∅;refine k _ x (hs.put ha ea ∅ ∅ {o,vs,br,RelDs.tf x.tf _ _ rr}) ?_;rwa[ak];exact{a,vs,rfl,.inl {o,br},RelDs.tf x.tf _ _ rr}
  ·rename_i xs q
   cases e;let⟨o,vs,ea,rr⟩:=hs.cell n _ a q ha;refine .inl (k H .refl hs ?_);rwa[ak];exact{a,vs,rfl,.inl {o,ea},rr}
  ·rename_i Ab q
   cases e;let⟨es,ea,ke,rr⟩:=hs.cell n _ a q ha;refine .inr {a,_,ea,trivial,λo=>?_};have x:cV m H m (upd H a (.frz o (.dK es))):=.put (Cp ha) ea ∅ ∅;refine k _ x (hs.put ha ea ∅ ∅ {o,es,br,ke,RelDs.tf x.tf _ _ rr}) ?_;rwa[ak];exact{a,o,es,rfl,br,ke,RelDs.tf x.tf _ _ rr}
  ·rename_i Ab q
   cases e;let⟨o,es,ea,ke,rr⟩:=hs.cell n _ a q ha;refine .inl (k H .refl hs ?_);rwa[ak];exact{a,o,es,rfl,ea,ke,rr}
  ·cases e
def HI {f}(h:ax K (c7 f) Y H Q):OK (ax K f) Y H Q:=by let⟨O,U,m,d,U',hl,hs,e,k⟩:=h;let⟨⟨x,U1⟩,e1,e⟩:=Az.mp e;let⟨⟨d1,U2⟩,e2,e⟩:=Az.mp e;cases e;refine{O,U,m,x,U1,hl,hs,e1,λv H1 m1 x1 s1 r1=>?_};exact Ir (B:=λH'=>Q v H') s1 r1 e2 λH' y s2 r2=>k v H' m1 (x1.trans y) s2 r2
end
abbrev FI:=Lo->ac->AA (R4 D×ac)
structure GP (K:Ax)(J:It)(xs:List D)(P:Hp->Prop):Prop where
 st:∀H H',TF H H'->P H->P H'
 stop:∀i H,P H->xs.length<=i->J.stop i H
 go:∀(i:Nat) d H,xs[i]?=some d->P H->J.go i H
 yld:∀(i:Nat) d H x H',xs[i]?=some d->P H->J.yld i H x H'->H'=H/\ak K H d x
def BW (K:Ax)(f:FI):TI:=λY H R=>∃O U m xs U',dJ K m H O Y/\aG K m H U/\f O U=some (xs,U') /\
 ∀J P H' m',cV m H m' H'->aG K m' H' U'->GP K J xs P->P H'->R J H'
noncomputable def fN (g:FG)(b:FS):R4 D->Lo->ac->AA oZ
 |[],O,U=>some (.nx O U)
 |x::xs,O,U=>(g (.v x) O U).bind λa=>(b a.1 a.2).bind λo=>match o with
  |.nx O' U'=>fN g b xs O' U'
  |.ct O' U'=>fN g b xs O' U'
  |.bk O' U'=>some (.nx O' U')
  |.rt d U'=>some (.rt d U')
noncomputable def iV (i:FI)(g:FG)(b:FS):FS:=λO U=>(i O U).bind λa=>fN g b a.1 O a.2
noncomputable def cq (f:FE):FI:=λO U=>(c7 f O U).bind λa=>match a.1 with|.v (.fl xs)=>some (xs,a.2)|.v (.tup xs)=>some (xs,a.2)|_=>none
def K6 (K:Ax)(tl:TE):TI:=λY H R=>tl Y H λx H1=>∃a,x=.ref a/\(((∃xs,iM K H1 a xs)/\R (Rg K a) H1)\/((∃xs,gY K H1 a xs)/\R (Rf K a) H1))
noncomputable def oC (f:FE):FI:=λO U=>(f O U).bind λa=>match a.1 with|.v (.int j)=>if -(2 ^ 62)<=j/\j<2 ^ 62 then some ((List.range j.toNat).map λi=>.int (i:Nat),a.2) else none|_=>none
section
variable {K:Ax}{m:Tf}{Y:St}{H:Hp}{U:ac}{R:It->Hp->Prop}
theorem RelDs.get:∀{ds:R4 D} {vs:R4 V} {i:Nat} {d:D},RelDs K H ds vs->ds[i]?=some d->∃v,vs[i]?=some v/\ak K H d v
 |[],_,_,_,_,e=>by simp at e
 |x::xs,vs,0,d,h,e=>by rwa[RelDs] at h;let⟨v,r,rfl,h1,h2⟩:=h;simp at e;subst e;exact{v,rfl,h1}
 |x::xs,vs,i+1,d,h,e=>by rwa[RelDs] at h;let⟨v,r,rfl,h1,h2⟩:=h;let⟨u,q1,q2⟩:=RelDs.get (i:=i) h2 ‹e›;exact{u,by simpa using q1,q2}
def K0 {a vs xs}(r0:RelDs K H xs vs):GP K (Rg K a) xs (λH=>GQ K H a vs/\RelDs K H xs vs) where
 st:=λH H' t ⟨f,r⟩=>{f.tf t,RelDs.tf t _ _ r}
 stop:=λi H ⟨f,r⟩ hi=>{vs,f.sq,by rw[←r.length];exact hi}
 go:=λi d H e ⟨f,r⟩=>let ⟨v,q,_⟩:=r.get e;{vs,v,f.sq,q}
 yld:=λi d H x H' e ⟨f,r⟩ ⟨e1,e2⟩=>by let⟨v,q,rv⟩:=r.get e;have:=e2 vs f.sq;rw[q] at this;cases this;exact{e1,rv}
def KY {a vs xs}(r0:RelDs K H xs vs):GP K (Rf K a) xs (λH=>gY K H a vs/\RelDs K H xs vs) where
 st:=λH H' t ⟨f,r⟩=>{gY.tf t f,RelDs.tf t _ _ r}
 stop:=λi H ⟨f,r⟩ hi=>{vs,f,by rw[←r.length];exact hi}
 go:=λi d H e ⟨f,r⟩=>let ⟨v,q,_⟩:=r.get e;{vs,v,f,q}
 yld:=λi d H x H' e ⟨f,r⟩ ⟨e1,e2⟩=>by let⟨v,q,rv⟩:=r.get e;have:=e2 vs f;rw[q] at this;cases this;exact{e1,rv}
def KZ (lo:Int)(n:Nat):GP K (Py lo n) ((List.range n).map λk=>.int (lo+(k:Nat))) (λ_=>True) where
 st:=λ_ _ _ _=>trivial
 stop:=λi H _ hi=>by show n<=i;simpa using hi
 go:=λi d H e _=>by
  have:=(CA.mp e).1
  show i<n;simpa using this
 yld:=λi d H x H' e _ ⟨e1,e2⟩=>by
  have hi:=(CA.mp e).1;have EG:i<n:=by simpa using hi
  refine{e1,?_};simp[EG] at e;subst e e2;rwa[ak]
def JDu {f}(h:BW K (cq f) Y H R):K6 K (OK (ax K f)) Y H R:=by
 let⟨O,U,m,xs,U',hl,hs,e,k⟩:=h;let⟨⟨x,U1⟩,e1,e⟩:=Az.mp e;refine HI {O,U,m,x,U1,hl,hs,e1,λv H1 m1 x1 s1 r1=>?_};split at e
 ·rename_i ys q
  cases e;simp only at q;subst q;rwa[av,ak] at r1;let⟨a,vs,rfl,f,r⟩:=r1;exact{a,rfl,.inl {{vs,f.sq},k _ _ H1 m1 x1 s1 (K0 r) {f,r}}}
 ·rename_i ys q
  cases e;simp only at q;subst q;rwa[av,ak] at r1;let⟨a,vs,rfl,f,r⟩:=r1;exact{a,rfl,.inr {{vs,f},k _ _ H1 m1 x1 s1 (KY r) {f,r}}}
 ·cases e
def JGc {f}(h:BW K (oC f) Y H R):Io (gM K (af f ai)) Y H R:=by
 let⟨O,U,m,xs,U',hl,hs,e,k⟩:=h;let⟨⟨x,U1⟩,e1,e⟩:=Az.mp e;refine{O,U,m,[x],U1,hl,hs,by simp[af,ai,e1],λvs H1 m1 x1 s1 r1=>?_};split at e
 ·rename_i j q;split at e
  ·rename_i z
   cases e;simp only at q;subst q;let⟨v,r,rfl,r1,r2⟩:=r1;have r2:r=[]:=r2;rwa[av,ak] at r1;subst r1 r2;have:=KZ (K:=K) 0 j.toNat;rwa[Int.zero_add] at this
   exact{j,rfl,z.1,z.2,k _ _ H1 m1 x1 s1 this trivial}
  ·cases e
 ·cases e
end
end HW
namespace HW
variable {K:Ax}
open L2
abbrev MF:=R4 D->AA D
def wq (H H':Hp):Prop:=∀a o,H a=some o->H' a=some o
noncomputable def AG (K:Ax)(n:Nat)(f:MF):Sp:=λvs H Q _=>∃ds d,ds.length=n/\RelDs K H ds vs/\f ds=some d/\∀v H',wq H H'->ak K H' d v->Q v H'
noncomputable def fin:oZ->AA D
 |.rt r U=>(Em r U).bind λa=>some a.1
 |.nx _ _=>some .non
 |_=>none
noncomputable def ir (k:Nat)(b:FS):MF:=λds=>(b (ds.map (λd=>some (.v d))++List.replicate (k-ds.length) none) []).bind fin
noncomputable def bn (f:MF)(n:Nat)(fa:FA):FE:=λO U=>(fa O U).bind λa=>(vals a.1).bind λds=>if ds.length=n then (f ds).bind λd=>some (.v d,a.2) else none
section
variable {K:Ax}{m:Tf}{Y:St}{H H':Hp}{U:ac}{Q:VK}
theorem wq.ext (s:wq H H'):cV m H m H':={{[],by simp},.of s,λa o e _=>s a o e,λa h=>by
 cases q:H a with
 |none=>rfl
 |some o=>rw[s a o q] at h;cases h}
def JC7 {f n fa}{E:XK}(h:ax K (bn f n fa) Y H Q):uA (AG K n f) [] E (gM K fa) Y H Q:=by
 let⟨O,U,m,d,U',hl,hs,e,k⟩:=h;let⟨⟨xs,U1⟩,e1,e⟩:=Az.mp e;let⟨ds,e2,e⟩:=Az.mp e;split at e
 ·rename_i hn;let⟨d1,e3,e⟩:=Az.mp e;cases e;refine{O,U,m,xs,_,hl,hs,e1,λvs H1 m1 x1 s1 r1=>?_};refine{ds,d1,hn,by simpa using l9 e2 r1,e3,λv H2 z r2=>?_};exact k v H2 m1 (x1.trans z.ext) (s1.same z) r2
 ·cases e
def rK {N:Tn}{ds:R4 D}{vs:R4 V}(r:RelDs K H ds vs):dJ K [] H (ds.map (λd=>some (.v d))++List.replicate (N.length-ds.length) none) (L2.fJ N vs):=by
 have hl:=r.length;unfold L2.fJ;refine{by simp[hl],λi d e=>?_};by_cases hi:i<ds.length
 ·rw[Bu ‹hi›,By] at e
  cases q:ds[i]? with
  |none=>rw[q] at e;cases e
  |some d'=>
   rw[q] at e;cases e;let⟨v,q1,q2⟩:=r.get q;exact{v,by rw[Bu (by simp;omega),By,q1];rfl,q2}
 ·rw[DH ‹hi›,zbU] at e;split at e <;> cases e
noncomputable def Fq (Q:VK):VK:=λv H=>Q v H\/∃a u,H a=some u/\ez u/\∀o,Q v (upd H a (.frz o u))
def cV.sam (x:cV [] H m H'):wq H H':=λa o e=>x.keep a o e ∅
theorem JGz {N:Tn}{b:FS}{ds:R4 D}{vs:R4 V}{d:D}{E:XK}(r:RelDs K H ds vs)(e:ir N.length b ds=some d)(k:∀v H',wq H H'->ak K H' d v->Q v H') :
  fA K b {nx:=λ_ H'=>Fq Q .non H',rt:=Fq Q} (L2.fJ N vs) H:=by
 let⟨o,e1,e⟩:=Az.mp e;refine{_,[],[],o,rK r,.nil,e1,?_}
 cases o with
 |nx O U=>
  cases e;exact λY H' m' x _ _=>.inl (k _ _ x.sam (by rwa[ak]))
 |bk O U=>cases e
 |ct O U=>cases e
 |rt q U=>
  let⟨⟨d1,U1⟩,e2,e⟩:=Az.mp e;cases e;intro v H' m' x s r';exact Ir (B:=λH'=>Q v H') s r' e2 λH2 y s2 r2=>k v H2 (x.trans y).sam r2
end
noncomputable def xv (C:Int->Int->Ad)(f:Int->Int->D):R->R->ac->AA (R×ac)
 |.v (.int i),.v (.int j),U=>if C i j=true then some (.v (f i j),U) else none
 |_,_,_=>none
def gI {C:Int->Int->Ad}{C':Int->Int->Prop}{f:Int->Int->D}{g:Int->Int->V}(hC:∀i j,C i j=true->C' i j)(hg:∀H i j,ak K H (f i j) (g i j)):o0 K (xv C f) (rI C' g):=by
 intro m H U x y d U' v u Q s rx ry e k;unfold xv at e;split at e
 ·rename_i i j;split at e
  ·rename_i z
   cases e;rwa[av,ak] at rx ry;subst rx ry;exact{i,j,rfl,rfl,hC i j z,k _ H m .refl s (hg H i j)}
  ·cases e
 ·cases e
def OU {f:Int->Int->D}{g:Int->Int->V}(hg:∀H i j,ak K H (f i j) (g i j)):o0 K (xv (λ_ _=>true) f) (zG g):=by
 intro m H U x y d U' v u Q s rx ry e k;unfold xv at e;split at e
 ·rename_i i j;split at e
  ·cases e;rwa[av,ak] at rx ry;subst rx ry;exact{i,j,rfl,rfl,k _ H m .refl s (hg H i j)}
  ·cases e
 ·cases e
abbrev zy:=xv (λ_ _=>true) λi j=>.int (i-j)
abbrev p5:=xv (λi j=>decide (-(2 ^ 64)<i/\i<2 ^ 64) || decide (-(2 ^ 64)<j/\j<2 ^ 64)) λi j=>.int (i*j)
abbrev jr:=xv (λ_ j=>decide (0<j/\j<1073741824)) λi j=>.int (i / j)
abbrev c6:=xv (λ_ j=>decide (0<j)) λi j=>.int (i%j)
abbrev qW:=xv (λi j=>decide (0<=j/\j<=1000000/\i.natAbs<2 ^ 64)) λi j=>.int (i ^ j.toNat)
abbrev NM:=xv (λ_ _=>true) λi j=>.bl (decide (i<j))
abbrev NP:=xv (λ_ _=>true) λi j=>.bl (decide (i<=j))
abbrev OT:=xv (λ_ _=>true) λi j=>.bl (decide (j<i))
noncomputable def xb:R->ac->AA (R×ac)
 |.v (.int i),U=>some (.v (.int (-i)),U)
 |_,_=>none
section
variable {K:Ax}
def B5 {H:Hp}{i:Int}:ak K H (.int i) (.int i):=by rwa[ak]
def PV {H:Hp}{i:Ad}:ak K H (.bl i) (.bl i):=by rwa[ak]
def NW:o0 K zy (zG λi j=>.int (i-j)):=OU λ_ _ _=>B5
def NZ:o0 K p5 (rI Ej λi j=>.int (i*j)):=gI (λi j h=>by simpa[Ej] using h) λ_ _ _=>B5
def N8:o0 K jr (rI LI λi j=>.int (i / j)):=gI (λi j h=>by simpa[LI] using h) λ_ _ _=>B5
def N0:o0 K c6 (rI (λ_ j=>0<j) λi j=>.int (i%j)):=gI (λi j h=>by simpa using h) λ_ _ _=>B5
def NX:o0 K qW (rI LH λi j=>.int (i ^ j.toNat)):=gI (λi j h=>by simpa[LH] using h) λ_ _ _=>B5
def Qd:o0 K NM (zG λi j=>.bl (decide (i<j))):=OU λ_ _ _=>PV
def Qe:o0 K NP (zG λi j=>.bl (decide (i<=j))):=OU λ_ _ _=>PV
def Qg:o0 K OT (zG λi j=>.bl (decide (j<i))):=OU λ_ _ _=>PV
def NY:Sb K xb (rU λi=>.int (-i)):=by
 intro m H U x d U' v Q s rx e k;unfold xb at e;split at e
 ·rename_i i
  cases e;rwa[av,ak] at rx;subst rx;exact{i,rfl,k _ H m .refl s (by rwa[av,ak])}
 ·cases e
end
noncomputable def GG:R->R->ac->AA (R×ac)
 |.v (.int i),.v (.int j),U=>some (.v (.int (i+j)),U)
 |.v (.str x),.v (.str y),U=>if x.length+y.length<=sizeLine then some (.v (.str (x++y)),U) else none
 |.v (.tup xs),.v (.tup ys),U=>if xs≠[]/\xs.length+ys.length<=sizeLine then some (.v (.tup (xs++ys)),U) else none
 |.p a,.p b,U=>match U[a]?,U[b]? with|some (.lst xs),some (.lst ys)=>if xs.length+ys.length<=sizeLine then some (.p U.length,U++[.lst (xs++ys)]) else none|_,_=>none
 |_,_,_=>none
def Nm:R2:=λx y H Q=>∃i j,x=.str i/\y=.str j/\i.length+j.length<=sizeLine/\Q (.str (i++j)) H
def PP (r r':R2):R2:=λx y H Q=>r x y H Q\/r' x y H Q
def HP (K:Ax):R2:=PP (zG λi j=>.int (i+j)) (PP Nm (PP (HM K) Nl))
theorem RelDs.append {K:Ax}{H:Hp}:∀{xs ys:R4 D} {vs ws:R4 V},RelDs K H xs vs->RelDs K H ys ws->RelDs K H (xs++ys) (vs++ws)
 |[],_,_,_,h,h'=>by rwa[RelDs] at h;subst h;exact h'
 |x::xs,_,_,_,h,h'=>by
  rwa[RelDs] at h;let⟨v,r,rfl,h1,h2⟩:=h
  show RelDs K H (x::(xs++_)) _
  rwa[RelDs];exact{v,r++_,rfl,h1,RelDs.append h2 h'}
def RelDs.nil_iff {H:Hp}{xs:R4 D}{vs:R4 V}(h:RelDs K H xs vs):xs=[] ↔ vs=[]:=by have:=h.length;cases xs <;> cases vs <;> simp_all
def Ob :o0 K GG (HP K):=by
 intro m H U x y d U' v u Q s rx ry e k;unfold GG at e;split at e
 ·cases e;rwa[av,ak] at rx ry;subst rx ry;exact .inl {_,_,rfl,rfl,k _ H m .refl s (by rwa[av,ak])}
 ·split at e
  ·rename_i z
   cases e;rwa[av,ak] at rx ry;subst rx ry;exact .inr (.inl {_,_,rfl,rfl,z,k _ H m .refl s (by rwa[av,ak])})
  ·cases e
 ·split at e
  ·rename_i z
   cases e;rwa[av,ak] at rx ry;let⟨a,vs,rfl,qa,ra⟩:=rx;let⟨b,ws,rfl,qb,rb⟩:=ry;refine .inr (.inr (.inl {a,b,vs,ws,rfl,rfl,qa,qb,λh=>z.1 (ra.nil_iff.mpr h),by rw[←ra.length,←rb.length];exact z.2,λh=>?_,λh p hp=>?_}))
   ·refine k _ H m .refl s ?_;have:=rb.nil_iff.mpr h;subst this;rwa[av,ak,DL];exact{a,vs,rfl,qa,ra}
   ·let⟨x1,x2,x3⟩:=kQ s (ra.append rb) hp;exact k _ _ _ x1 x2 x3
  ·cases e
 ·split at e
  ·rename_i xs ys qa qb;split at e
   ·rename_i z
    cases e;let⟨a',rfl,ha⟩:=rx;let⟨b',rfl,hb⟩:=ry;let⟨vs,ea,ra⟩:=s.cell _ _ a' qa ha;let⟨ws,eb,rb⟩:=s.cell _ _ b' qb hb;refine .inr (.inr (.inr {a',b',vs,ws,rfl,rfl,ea,eb,by rw[←ra.length,←rb.length];exact z,λp hp=>?_}));let⟨x1,x2,x3⟩:=hU s (ra.append rb) hp;exact k _ _ _ x1 x2 x3
   ·cases e
  ·cases e
 ·cases e
noncomputable def dF:R->ac->AA (R4 D)
 |.v (.tup xs),_=>some xs
 |.v (.fl xs),_=>some xs
 |.p n,U=>match U[n]? with|some (.lst xs)=>some xs|some (.fz xs)=>some xs|_=>none
 |_,_=>none
noncomputable def lh:R->ac->AA (R4 D)
 |.v (.fl xs),_=>some xs
 |.p n,U=>match U[n]? with|some (.lst xs)=>some xs|some (.fz xs)=>some xs|_=>none
 |_,_=>none
section
variable {K:Ax}{m:Tf}{H:Hp}{U:ac}
def jh {x:R}{xs:R4 D}{v:V}(s:aG K m H U)(r:av K m H x v)(e:lh x U=some xs):∃a vs,v=.ref a/\iM K H a vs/\RelDs K H xs vs:=by
 unfold lh at e;split at e
 ·cases e;rwa[av,ak] at r;let⟨a,vs,rfl,q,r⟩:=r;exact{a,vs,rfl,q.sq,r}
 ·let⟨a,rfl,ha⟩:=r;split at e
  ·rename_i q
   cases e;let⟨vs,e,r⟩:=s.cell _ _ a q ha;exact{a,vs,rfl,.inl (.inl e),r}
  ·rename_i q
   cases e;let⟨o,vs,e,r⟩:=s.cell _ _ a q ha;exact{a,vs,rfl,.inl (.inr {o,e}),r}
  ·cases e
 ·cases e
theorem iY {x:R}{xs:R4 D}{v:V}(s:aG K m H U)(r:av K m H x v)(e:dF x U=some xs):∃a vs,v=.ref a/\(iM K H a vs\/gY K H a vs)/\RelDs K H xs vs:=by
 cases x with
 |v d=>
  cases d with
  |tup ys=>
   cases e;rwa[av,ak] at r;let⟨a,vs,rfl,q,r⟩:=r;exact{a,vs,rfl,.inr q,r}
  |fl ys=>let⟨a,vs,q1,q2,q3⟩:=jh s r (xs:=xs) e;exact{a,vs,q1,.inl q2,q3}
  |non=>cases e
  |bl _=>cases e
  |int _=>cases e
  |str _=>cases e
  |fd _ _=>cases e
  |key _=>cases e
 |p n=>let⟨a,vs,q1,q2,q3⟩:=jh s r (xs:=xs) e;exact{a,vs,q1,.inl q2,q3}
 |s _ _=>cases e
 |x _=>cases e
 |f _ _=>cases e
end
noncomputable def bz:R->R->ac->AA (R×ac)
 |x,.v (.int i),U=>(dF x U).bind λxs=>(iJ xs i).bind λd=>some (.v d,U)
 |_,_,_=>none
noncomputable def fW:R4 R->ac->AA (R×ac)
 |[x],U=>(dF x U).bind λxs=>some (.v (.int xs.length),U)
 |_,_=>none
def JFb {H:Hp}{xs:R4 D}{vs:R4 V}{i:Int}{d:D}(r:RelDs K H xs vs)(e:iJ xs i=some d):∃v,iJ vs i=some v/\ak K H d v:=by let⟨j,e1,e2⟩:=Az.mp e;let⟨v,q1,q2⟩:=r.get e2;exact{v,by unfold iJ;rw[←r.length,e1];exact q1,q2}
def Qf :o0 K bz (PR K):=by
 intro m H U x y d U' v u Q s rx ry e k;unfold bz at e;split at e
 ·rename_i i;let⟨xs,e1,e⟩:=Az.mp e;let⟨d1,e2,e⟩:=Az.mp e;cases e;rwa[av,ak] at ry;subst ry;let⟨a,vs,rfl,q,r⟩:=iY s rx e1;let⟨w,q1,q2⟩:=JFb r e2;rcases q with q|q
  ·exact .inl {a,vs,i,w,rfl,rfl,q,q1,k _ H m .refl s q2}
  ·exact .inr (.inl {a,vs,i,w,rfl,rfl,q,q1,k _ H m .refl s q2})
 ·cases e
def PQ (K:Ax):R4 V->Hp->VK->Prop:=λxs H Q=>∃p ys,xs=[.ref p]/\(iM K H p ys\/gY K H p ys)/\Q (.int ys.length) H
def mX {m:Tf}{H:Hp}{x:R}{vs:R4 V}(r:aL K m H [x] vs):∃v,vs=[v]/\av K m H x v:=by let⟨v,r,rfl,h1,h2⟩:=r;have h2:r=[]:=h2;subst h2;exact{v,rfl,h1}
def N1 :zj K fW (PQ K):=by
 intro m H U xs d U' vs Q s r e k;unfold fW at e;split at e
 ·rename_i x;let⟨ys,e1,e⟩:=Az.mp e;cases e;let⟨v,rfl,r1⟩:=mX r;let⟨a,ws,rfl,q,r⟩:=iY s r1 e1;exact{a,ws,rfl,q,k _ H m .refl s (by rwa[av,ak];rw[r.length])}
 ·cases e
noncomputable def fO:R4 R->ac->AA (R×ac)
 |[x],U=>(dF x U).bind λxs=>some (.p U.length,U++[.lst xs])
 |_,_=>none
def Nd (K:Ax):R4 V->Hp->VK->Prop:=λxs H Q=>∃p ys,xs=[.ref p]/\(iM K H p ys\/gY K H p ys)/\∀l,H l=none->Q (.ref l) (upd H l (.lst ys))
def K9 :zj K fO (Nd K):=by
 intro m H U xs d U' vs Q s r e k;unfold fO at e;split at e
 ·rename_i x;let⟨ys,e1,e⟩:=Az.mp e;cases e;let⟨v,rfl,r1⟩:=mX r;let⟨a,ws,rfl,q,r⟩:=iY s r1 e1;refine{a,ws,rfl,q,λp hp=>?_};let⟨x1,x2,x3⟩:=hU s r hp;exact k _ _ _ x1 x2 x3
 ·cases e
noncomputable def zw:R4 R->ac->AA (R×ac)
 |[x],U=>(dF x U).bind λxs=>some (.v (.tup xs),U)
 |_,_=>none
def M9 (K:Ax):R4 V->Hp->VK->Prop:=λxs H Q=>∃p ys,xs=[.ref p]/\((iM K H p ys/\∀l,H l=none->Q (.ref l) (upd H l (.tup ys)))\/(gY K H p ys/\Q (.ref p) H))
def NV :zj K zw (M9 K):=by
 intro m H U xs d U' vs Q s r e k;unfold zw at e;split at e
 ·rename_i x;let⟨ys,e1,e⟩:=Az.mp e;cases e;let⟨v,rfl,r1⟩:=mX r;let⟨a,ws,rfl,q,r⟩:=iY s r1 e1;rcases q with q|q
  ·refine{a,ws,rfl,.inl {q,λp hp=>?_}};let⟨x1,x2,x3⟩:=kQ s r hp;exact k _ _ _ x1 x2 x3
  ·refine{a,ws,rfl,.inr {q,k _ H m .refl s ?_}};rwa[av,ak];exact{a,ws,rfl,q,r}
 ·cases e
noncomputable def iK:R->R4 R->ac->AA (R×ac)
 |.p n,[.v d],U=>match U[n]? with|some (.lst xs)=>if xs.length<sizeLine then some (.v .non,U.set n (.lst (xs++[d]))) else none|_=>none
 |_,_,_=>none
def Pz (K:Ax)(g:R->R4 R->ac->AA (R×ac))(r:V->R4 V->Hp->VK->Prop):Prop :=
 ∀m H U x xs d U' v vs Q,aG K m H U->av K m H x v->aL K m H xs vs->g x xs U=some (d,U')->(∀w H' m',cV m H m' H'->aG K m' H' U'->av K m' H' d w->Q w H')->r v vs H Q
def Oa :Pz K iK yt:=by
 intro m H U x xs d U' v vs Q s rx rs e k;unfold iK at e;split at e
 ·split at e
  ·rename_i ys q;split at e
   ·rename_i z
    cases e;let⟨a,rfl,ha⟩:=rx;let⟨w,rfl,EC⟩:=mX rs;let⟨ws,ea,ra⟩:=s.cell _ _ a q ha;have x:cV m H m (upd H a (.lst (ws++[w]))):=.put (Cp ha) ea ∅ ∅;refine{a,ws,w,rfl,rfl,ea,by rw[←ra.length];exact z,k _ _ m x (s.put ha ea ∅ ∅ {_,br,?_}) (by rwa[av,ak])};refine RelDs.tf x.tf _ _ (ra.append ?_);rwa[RelDs];exact{w,[],rfl,EC,rfl}
   ·cases e
  ·cases e
 ·cases e
noncomputable def cG (g:FG)(c:FT)(f:FE):R4 D->Lo->ac->AA (R4 D×ac)
 |[],_,U=>some ([],U)
 |x::xs,O,U=>(g (.v x) O U).bind λa=>(c a.1 a.2).bind λb=>if b.1=true then (f a.1 b.2).bind λy=>match y.1 with
   |.v d=>(cG g c f xs a.1 y.2).bind λr=>some (d::r.1,r.2)
   |_=>none
  else cG g c f xs a.1 b.2
noncomputable def bT (k:Nat)(ix:R4 Nat)(O:Lo):Lo:=List.replicate k none++ix.map λi=>(O[i]?).join
noncomputable def dE (ix:R4 Nat)(k:Nat)(i:FI)(g:FG)(c:FT)(f:FE):FE:=λO U=>(i O U).bind λa=>if a.1.length<=sizeLine then
 (cG g c f a.1 (bT k ix O) a.2).bind λr=>some (.p r.2.length,r.2++[.lst r.1]) else none
noncomputable def dP:FT:=λ_ U=>some (true,U)
open PyProof.Rows
section
variable {X:Cx}
def PE.imp {t t':TE}(h:PE X e t)(k:∀{Y H Q},t' Y H Q->t Y H Q):PE X e t':=λAB s Y H Q I q=>h AB s Y H Q I (k q)
def PT.imp {t t':TT}(h:PT X e t)(k:∀{Y H Q},t' Y H Q->t Y H Q):PT X e t':=λAB s Y H Q I q=>h AB s Y H Q I (k q)
def PW.imp {t t':TT}(h:PW X e t)(k:∀{Y H Q},t' Y H Q->t Y H Q):PW X e t':=λwh AB s Y H Q I q=>h wh AB s Y H Q I (k q)
def PA.imp {e:Tj}{t t':TA}(h:PA X e t)(k:∀{Y H Q},t' Y H Q->t Y H Q):PA X e t':=λpos AB s Y H Q I q=>h pos AB s Y H Q I (k q)
def PS.imp {e:B8}{t t':TS}(h:PS X e t)(k:∀{D Y H},t' D Y H->t D Y H):PS X e t':=λAB s Y H Q I q=>h AB s Y H Q I (k q)
def oG.imp {e:Tk}{t t':TS}(h:oG X e t)(k:∀{D Y H},t' D Y H->t D Y H):oG X e t':=λAB s Y H Q I q=>h AB s Y H Q I (k q)
def PI.imp {tg e:As}{t t':TI}(h:PI X tg e t)(k:∀{Y H R},t' Y H R->t Y H R):PI X tg e t':=λAB s Y H R I q=>h AB s Y H R I (k q)
def PG.imp {t t':TG}(h:PG X e t)(k:∀{v Y H Q},t' v Y H Q->t v Y H Q):PG X e t':=λAB s Y H v u Q I r q=>h AB s Y H v u Q I r (k q)
def Er.imp {e:Tj}{t t':Ep}(h:Er X e t)(k:∀{v Y H Q},t' v Y H Q->t v Y H Q):Er X e t':=λAB s Y H v u Q I r q=>h AB s Y H v u Q I r (k q)
end
section
variable {P:Aj}{w:An}{H H0:Hp}{h h0:Am}{a:Aa}{u:HO}{fs ex:Tf}
def ez.ne {b:Aa}{v:HO}(e:H a=some u)(hu:ez u)(q:H b=some v)(n:¬ ez v):b≠a:=λz=>by rw[z,e] at q;cases q;exact n hu
def f7.frz (ok:f7 P w H h)(e:H a=some u)(hu:ez u):∃o,f7 P w (upd H a (.frz o u)) h:=by
 have ho:∃o,h.get? a=some o:=by
  have z:=ok a u e
  cases u with
  |lst xs=>let⟨_,_,_,_,q⟩:=z;exact{_,q}
  |set S n=>let⟨o,_,_,_,q,_⟩:=z;exact{_,q}
  |dK Ab=>let⟨_,_,_,_,o,_,_,q,_⟩:=z;exact{_,q}
  |dT Ab=>let⟨_,_,_,_,o,_,_,q,_⟩:=z;exact{_,q}
  |_=>exact hu.elim
 let⟨o,ho⟩:=ho;refine{o,λb v q=>?_};have own:∀c y,H c=some (.own y)->upd H a (.frz o u) c=some (.own y):=λc y r=>by rw[L2.aq (ez.ne e hu r λz=>z)];exact r
 have tup:∀c xs,H c=some (.tup xs)->upd H a (.frz o u) c=some (.tup xs):=λc xs r=>by rw[L2.aq (ez.ne e hu r λz=>z)];exact r
 by_cases hb:b=a
 ·subst hb;rw[L2.aN] at q;cases q;exact{ho,(ok b u e).stay (λc v _ q=>q) (λc r=>own c _ r) tup}
 ·rw[L2.aq hb] at q;exact(ok b v q).stay (λc v _ q=>q) (λc r=>own c _ r) tup
def Un.frz {o:BO}(un:Un fs ex H0 H h0 h)(e:H a=some u)(hu:ez u):Un fs ex H0 (upd H a (.frz o u)) h0 h where
 keep:=un.keep
 slot:=un.slot
 free:=λb ob q n hx=>by have z:=un.free b ob q n hx;rw[L2.aq (λy=>by rw[y,e] at z;cases z)];exact z
 there:=un.there
 tups:=λb xs q=>by rw[L2.aq (ez.ne e hu (un.tups b xs q) λz=>z)];exact un.tups b xs q
 frzs:=λb ob v q=>by rw[L2.aq (ez.ne e hu (un.frzs b ob v q) λz=>z)];exact un.frzs b ob v q
 tbls:=λb ps q=>by let⟨more,r⟩:=un.tbls b ps q;exact{more,by rw[L2.aq (ez.ne e hu r λz=>z)];exact r}
def az.frz {s:AP}(I:az X AB Y H s)(e:H a=some u)(hu:ez u):∃o,az X AB Y (upd H a (.frz o u)) s:=by
 let⟨o,ok⟩:=f7.frz I.hok e hu;have nn:∀b,H b=none->upd H a (.frz o u) b=none:=λb z=>by rw[L2.aq (λy=>by rw[y,e] at z;cases z)];exact z
 refine{o,I.ok,I.os,I.bare,Un.frz I.base e hu,I.loc,I.cell,nn _ I.free,λx c q=>nn _ (I.freeC x c q),λp hp=>?_,ok,I.len};let⟨q1,q2,q3⟩:=I.pin p hp;exact{q1,nn _ q2,q3}
end
def wZ {t:TE}(h:PE X e t):PE X e (OK t):=λAB s Y H Q I q=>by
 refine cP (h AB s Y H _ I q) λv s1 hh=>?_;let⟨x,H1,I1,r1,q1⟩:=hh;rcases q1 with q1|⟨a,u,e,hu,q1⟩
 ·exact{x,H1,I1,r1,q1}
 ·let⟨o,I2⟩:=az.frz I1 e hu;exact{x,_,I2,r1,q1 o}
theorem cw.fz {mg:Td}{base:Am}{CX:zm}{k:Nat}{f:Aa}{ps:Tn}{sp:Sp}(F:cw P w K mg base CX k f fd ps sp) :
  cw P w K mg base CX k f fd ps (λvs H Q E=>sp vs H (Fq Q) E):=by
 refine{λvs H Q E h=>F.len vs H _ E h,λA outer s H args us vs Q E hr he hb hv hs=>?_};refine Fd (F.run A outer s H args us vs (Fq Q) E hr he hb hv hs) λr s' hq=>?_
 cases r with
 |error e=>exact hq
 |ok fl=>
  cases fl with
  |next=>exact hq
  |brk=>exact hq
  |cont=>exact hq
  |ret u=>
   let⟨v,H',os,bare,un,hok,rv,q⟩:=hq;rcases q with q|⟨a,u',e,hu,q⟩
   ·exact{v,H',os,bare,un,hok,rv,q}
   ·let⟨o,ok⟩:=f7.frz hok e hu
    exact{v,_,os,bare,Un.frz un e hu,ok,rv,q o}
def o7.okP {P:Aj}{w:An}{K:Ax}{mg:Td}{base:Am}{x qual:Str}{st:B8}{f:Aa}{fd:FuncData}{N ps:Tn}{k:Nat}{b:FS}(F:o7 K x qual st f fd)(S:aA N ps (aj st))
  (BN:∀(BG:AU) (A:Ar) (outer:R4 Env) (s:AP) (H:Hp) (E:XK),bG k (A.deeper (envOfC qual (aj st) s.heap.objs.size f BG))->oG (jL lf P w K mg base N qual (aj st) f BG A outer s H E).nox (bC st) (fA K b)) :
  cw P w K mg base lf (k+1) f fd ps (AG K ps.length (ir N.length b)):=by
 have G:cw P w K mg base lf (k+1) f fd ps (λvs H Q _=>vs.length=ps.length/\fA K b {nx:=λ_ H'=>Q .non H',rt:=Q} (L2.fJ N vs) H) :=
  L2.o7.ok F S (λvs H Q E h=>h.1) λBG A outer s H vs Q E hr h=>{_,BN BG A outer s H E hr,h.2}
 refine(cw.fz G).imp λvs H Q E ⟨ds,d,hn,r,e,k⟩=>{by rw[←r.length];exact hn,JGz (E:=E) r e k}
def yB {X:Cx}{tg l:As}{tl:TE}(hl:PE X l tl):PI X tg l (K6 X.K tl):=by
 intro AB s Y H R I h;refine cP (hl AB s Y H _ I h) λv s1 hh=>?_;let⟨x,H1,I1,r1,q1⟩:=hh;let⟨a,e,q1⟩:=q1;subst e;cases r1;rcases q1 with⟨⟨xs,hq⟩,q⟩|⟨⟨xs,hq⟩,q⟩
 ·let⟨its,rv,p,hz⟩:=I1.list hq;refine zcL p.isList ?_;refine{s1.heap.objs.size,[s1.heap.objs.size],_,_,H1,rfl,I1.kept (t':=s1.toks) λb o e=>BK _ e,zv a _,{_,Bd _ rfl,rfl,rfl},λb hb=>?_,q};have e:b=s1.heap.objs.size:=by simpa using hb
  subst e;exact I1.fpOk (BL _) (I1.hok.fresh (BL _))
 ·let⟨its,rv,p,hz⟩:=I1.tuple hq;refine wpAny_pyIter_tuple (show s1.heap.IsTuple a its.toArray from p) ?_;refine{s1.heap.objs.size,[s1.heap.objs.size],_,_,H1,rfl,I1.kept (t':=s1.toks) λb o e=>BK _ e,wD a _,{_,Bd _ rfl,rfl,rfl},λb hb=>?_,q};have e:b=s1.heap.objs.size:=by simpa using hb
  subst e;exact I1.fpOk (BL _) (I1.hok.fresh (BL _))
theorem gK {env:Env}:∀{names:R4 (Str×NameKind)} {x:Str},
  (names.map λ(n,k)=>if (k == NameKind.free&&env.scope.kind == .function&&env.kindOf n == some .cell) then (n,NameKind.cell) else (n,k)).lookup x =
   (names.lookup x).map λk=>if (k == NameKind.free&&env.scope.kind == .function&&env.kindOf x == some .cell) then NameKind.cell else k
 |[],_=>rfl
 |(n,k)::r,x=>by
  have ih:=@gK env r x
  show List.lookup x ((if (k == NameKind.free&&env.scope.kind == .function&&env.kindOf n == some .cell)=true then (n,NameKind.cell) else (n,k))::_)=_
  cases hx:x == n with
  |true=>
   have:x=n:=eq_of_beq hx;subst this;rwa[EK,hx,EY]
   by_cases hc:(k == NameKind.free&&env.scope.kind == .function&&env.kindOf x == some .cell)=true
   ·simp[hc]
   ·simp[hc]
  |false=>
   by_cases hc:(k == NameKind.free&&env.scope.kind == .function&&env.kindOf n == some .cell)=true
   ·rw[Ae hc];rwa[EK,hx];exact ih
   ·rw[Ac hc];rwa[EK,hx];exact ih
theorem jt {env:Env}:∀(names:R4 (Str×NameKind)) (acc:R4 (Str×Aa)),(∀x c,acc.lookup x=some c->env.cells.lookup x=some c) ->
  (∀y∈names,y.2=.free->∃c,env.cells.lookup y.1=some c) ->
  ∃cl:R4 (Str×Aa),(forIn names acc λ(x:Str×NameKind) (r:R4 (Str×Aa))=>(if (x.2 == NameKind.free)=true then do let a ←cellOf env x.1;pure (ForInStep.yield ((x.1,a)::r)) else pure (ForInStep.yield r):Sem (ForInStep (R4 (Str×Aa)))))=pure cl /\
   (∀x c,cl.lookup x=some c->env.cells.lookup x=some c)/\(∀x c,acc.lookup x=some c->∃c',cl.lookup x=some c')/\∀y∈names,y.2=.free->∃c,cl.lookup y.1=some c
 |[],acc,h1,_=>{acc,rfl,h1,λx c e=>{c,e},λy hy=>by simp at hy}
 |(n,k)::r,acc,h1,h2=>by
  by_cases hk:k=.free
  ·subst hk
   let⟨c,hc⟩:=h2 (n,.free) Be rfl
   have step:∀x c',List.lookup x ((n,c)::acc)=some c'->env.cells.lookup x=some c':=λx c' e=>by
    rw[EK] at e
    cases hx:x == n with
    |true=>rw[hx] at e;have:x=n:=eq_of_beq hx;subst this;rw[hc];exact e
    |false=>rw[hx] at e;exact h1 x c' e
   let⟨cl,e,p1,p2,p3⟩:=jt r ((n,c)::acc) step λy hy=>h2 y (Br _ hy);have hn:∃c',List.lookup n ((n,c)::acc)=some c':={c,by rw[EK];simp};refine{cl,?_,p1,λx c' e'=>?_,λy hy hf=>?_}
   ·rw[List.forIn_cons]
    show((cellOf env n >>=λa=>pure (ForInStep.yield ((n,a)::acc))) >>= _)=_
    unfold cellOf;rw[hc];exact e
   ·cases hx:x == n with
    |true=>have:x=n:=eq_of_beq hx;subst this;let⟨c'',q⟩:=hn;exact p2 _ _ q
    |false=>exact p2 x c' (by rw[EK,hx];exact e')
   ·rcases BV.mp hy with rfl|hy
    ·let⟨c'',q⟩:=hn;exact p2 _ _ q
    ·exact p3 y hy hf
  ·let⟨cl,e,p1,p2,p3⟩:=jt r acc h1 λy hy=>h2 y (Br _ hy)
   have hb:(k == NameKind.free)=false:=by simpa using hk
   refine{cl,?_,p1,p2,λy hy hf=>?_}
   ·rw[List.forIn_cons]
    rwa[hb,C4,if_false];exact e
   ·rcases BV.mp hy with rfl|hy
    ·exact Au hf hk
    ·exact p3 y hy hf
def qD {env:Env}{scope:Scope}(h:∀y∈scope.names,y.2=.free->∃c,env.cells.lookup y.1=some c) :
  ∃cl,closureFor scope env=pure cl/\(∀x c,cl.lookup x=some c->env.cells.lookup x=some c)/\∀y∈scope.names,y.2=.free->∃c,cl.lookup y.1=some c:=by
 let⟨cl,e,p1,_,p3⟩:=jt (env:=env) scope.names [] (λx c e=>by simp at e) h;refine{cl,?_,p1,p3};unfold closureFor
 first
  |(show(forIn scope.names [] _ >>=λr=>pure r)=_;rw[e];rfl)
  |(rwa[bind_pure];exact e)
structure aH (osc scope:Scope)(own:Tn)(caps:Tn):Prop where
 kind:scope.kind=.function
 cell:∀y∈scope.names,y.2=.cell->scope.names.lookup y.1=some .cell
 loc:∀y∈scope.names,y.2=.local->scope.names.lookup y.1=some .local
 free:∀y∈scope.names,y.2=.free->osc.names.lookup y.1=some .cell\/osc.names.lookup y.1=some .free
 cap:∀y∈caps,(y,NameKind.free)∈scope.names/\scope.names.lookup y=some .free
 nd:(own++caps).Nodup
noncomputable def aD (X:Cx)(scope:Scope)(cl:R4 (Str×Aa))(C:Aa)(s₂:AP)(H₂:Hp)(fp:Tf)(N:Tn):Cx :=
 {X with N:=N,s₀:=s₂,H₀:=H₂,env:=compEnvC scope cl C X.env,outer:=X.stack,stack:=X.stack,ex:=fp,fn:=λx=>scope.names.lookup x == some .cell,pn:=[],xe:=λ_ _=>False}
def p8 {names:R4 (Str×NameKind)}{x:Str}{k:NameKind}(h:names.lookup x=some k):(x,k)∈names:=PySem.mem_of_lookup h
structure OF (X:Cx)(scope:Scope)(lo:Nat)(cl:List (Str×Addr)):Prop where
 src:∀x c,cl.lookup x=some c->(X.env.cells.lookup x=some c/\scope.names.lookup x≠some .cell)\/lo<c
 inj:∀x y c,cl.lookup x=some c->cl.lookup y=some c->x=y
 has:∀y∈scope.names,y.2=.free\/y.2=.cell->∃c,cl.lookup y.1=some c
 fr:∀y,scope.names.lookup y=some .free->∃c,cl.lookup y=some c/\X.env.cells.lookup y=some c
theorem qH {X:Cx}{scope:Scope}{own caps:Tn}(n:aH X.env.scope scope own caps){cl:R4 (Str×Aa)}{C:Aa}{x:Str}{k:NameKind}(h:(compEnvC scope cl C X.env).kindOf x=some k)(hk:k=.cell\/k=.free) :
  ∃k,(x,k)∈scope.names/\(k=.free\/k=.cell):=by
 have h':(relabel scope X.env).names.lookup x=some k:=h;unfold relabel at h';rw[gK] at h'
 cases q:scope.names.lookup x with
 |none=>rw[q] at h';cases h'
 |some k0=>
  rw[q,EY] at h';have m:=p8 q;have h2:=Option.some.inj h'
  by_cases hf:k0=.free
  ·subst hf;exact{_,m,.inl rfl}
  ·have hb:(k0 == NameKind.free)=false:=by simpa using hf
   rwa[hb,Bool.false_and,C4,if_false] at h2;rcases hk with hk|hk
   ·exact{_,m,.inr (h2.trans hk)}
   ·exact Au (h2.trans hk) hf
def xJ {X:Cx}{scope:Scope}{cl:R4 (Str×Aa)}{C:Aa}{x:Str}(h:scope.names.lookup x=some .free) :
  (compEnvC scope cl C X.env).kindOf x=some .cell\/(compEnvC scope cl C X.env).kindOf x=some .free:=by
 show(relabel scope X.env).names.lookup x=some .cell\/(relabel scope X.env).names.lookup x=some .free
 unfold relabel;rw[gK,h];rwa[EY];split
 ·exact .inl rfl
 ·exact .inr rfl
def OF.ne {H:Hp}{lo b:Nat}{cl:R4 (Str×Aa)}(B:OF X scope lo cl)(f:mN X AB H b)(hb:b<lo){x:Str}{c:Aa}(e:cl.lookup x=some c):c≠b:=by
 rcases B.src x c e with⟨z,_⟩|z
 ·exact f.2.2.2.2.1 x c z
 ·exact Ne.symm (BX (zb2 hb z))
def JCi {X:Cx}{H₂:Hp}{s₂:AP}{scope:Scope}{own caps:Tn}{cl:R4 (Str×Aa)}{C:Aa}{fp:Tf}(I:az X AB Y H₂ s₂)(n:aH X.env.scope scope own caps)
  (B:OF X scope s₂.heap.objs.size cl) (hC:s₂.heap.objs.size<=C) (hfs:∀b∈fp,b<s₂.heap.objs.size) (hf:∀b∈fp,mN X AB H₂ b) :
  (aD X scope cl C s₂ H₂ fp (own++caps)).Ok:=by
 refine{I.ok.mod,n.kind,I.ok.glob,I.ok.blt,hC,B.inj,λx hx=>?_,λx c h _=>?_,I.ok.hd,I.ok.frames,.inl rfl,λb hb=>{BX (CC (hfs b hb) hC),λx c e=>B.ne (hf b hb) (hfs b hb) e},
  I.bs,Dk I.ok.bsz I.sz,λb o e hb=>?_,λb hb z=>?_,I.stack,I.stkFree}
 ·rcases hx with hx|hx
  ·let⟨k,m,hk⟩:=qH n hx (.inl rfl);exact B.has _ m hk
  ·let⟨k,m,hk⟩:=qH n hx (.inr rfl);exact B.has _ m hk
 ·rcases B.src x c (by assumption) with⟨_,z⟩|z
  ·exact Au (eq_of_beq h) z
  ·exact Fe z
 ·rcases (hf b hb).2.2.2.1 with z|z
  ·exact I.ok.noex b o e z
  ·exact Au (CC (CC (BQ e) I.ok.bsz) z) (Cn _)
 ·rcases BV.mp (I.stkSub b z) with e|e
  ·exact(hf b hb).2.1 e
  ·exact(hf b hb).2.2.1 e
noncomputable def ii (own:L2.St)(ix:R4 Nat)(Y:L2.St):L2.St:=own++ix.map λi=>(Y[i]?).join
def wj {X:Cx}{H₂:Hp}{s₂:AP}{scope:Scope}{own caps:Tn}{ix:R4 Nat}{cl:R4 (Str×Aa)}{C:Aa}{fp:Tf}{h₁:Am}{tk:Nat}(I:az X AB Y H₂ s₂)(n:aH X.env.scope scope own caps)
  (B:OF X scope s₂.heap.objs.size cl) (hC:s₂.heap.objs.size<=C) (hfs:∀b∈fp,b<s₂.heap.objs.size) (hf:∀b∈fp,mN X AB H₂ b)
  (JZ:∀x c,cl.lookup x=some c->s₂.heap.objs.size<c->h₁.IsCell c none) (CB:ix.length=caps.length) (E0:∀(j i:Nat) y,ix[j]?=some i->caps[j]?=some y->X.N[i]?=some y)
  (old:∀b o,s₂.heap.get? b=some o->h₁.get? b=some o) {m:Td} (hns:h₁.Ns C m) :
  az (aD X scope cl C s₂ H₂ fp (own++caps)) [] (ii (own.map λ_=>none) ix Y) H₂ {s₂ with heap:=h₁,toks:=tk}:=by
 refine{JCi I n B hC hfs hf,rfl,I.bare,Un.kept old,{m,hns,λi x v e1 e2 hv=>?_},λx c e=>?_,I.hok.fresh hC,λx c e=>(B.src x c e).elim (λz=>I.freeC x c z.1) λz=>I.hok.fresh (Fe z),λp hp=>?_,I.hok.kept old,?_}
 ·have e1:(own++caps)[i]?=some x:=e1
  unfold ii at e2
  by_cases hi:i<own.length
  ·rw[Bu ‹hi›,By] at e2
   cases q:own[i]? with
   |none=>rw[q] at e2;cases e2
   |some y=>rw[q] at e2;cases e2
  ·rw[DH ‹hi›] at e2
   rw[DH ∅] at e1;rwa[BR] at e2;generalize i-own.length=j at e1 e2;rw[By] at e2
   cases q:ix[j]? with
   |none=>rw[q] at e2;cases e2
   |some i'=>
    rw[q] at e2;have e3:(Y[i']?).join=some v:=Option.some.inj e2
    have e4:Y[i']?=some (some v):=by
     cases z:Y[i']? with
     |none=>rw[z] at e3;cases e3
     |some w'=>rw[z] at e3;cases w' with
      |none=>cases e3
      |some _=>cases e3;rfl
    have hN:=E0 j i' x q e1;let⟨mm,hl⟩:=n.cap x (Cp e1);have hk:X.env.kindOf x=some .cell\/X.env.kindOf x=some .free:=n.free _ mm rfl;let⟨m0,hn0,EE⟩:=I.loc
    have vis:Pw X.env.scope x:=by
     rcases hk with hk|hk
     ·exact .inr (.inl hk)
     ·exact .inr (.inr hk)
    let⟨u,r,l⟩:=EE i' x v hN e4 vis;refine{u,r,.inr {xJ hl,?_}};let⟨c,hc,hcx⟩:=B.fr x hl;rcases l with⟨l,_⟩|⟨_,c',JG,z⟩
    ·exfalso
     rcases hk with hk|hk <;> rw[hk] at l <;> cases l
    ·rw[JG] at hcx;cases hcx
     let⟨o,ho,hd⟩:=z;exact{_,hc,o,old _ _ ho,hd}
 ·rcases B.src x c e with⟨z,_⟩|z
  ·let⟨v,o,ho,hd⟩:=I.cell x c z
   exact{v,o,old _ _ ho,hd}
  ·exact{none,JZ x c e z}
 ·exact Au (show p∈([]:Tc) from hp) ∅
 ·show(ii _ ix Y).length=(own++caps).length
  unfold ii;simp[CB]
def mK (X:Cx)(ifs:Tj)(t:TT):Prop :=
 ∀(AB:Tc) (s:AP) (Y:L2.St) (H:Hp) (Q:Ad->Hp->Prop),az X AB Y H s->t Y H Q ->
  wpAny (model X.prog X.w) X.A (forIn ifs true λc r=>if r=true then do let ok ←isTrue c X.env (eval c X.env);pure (ForInStep.yield ok) else pure (ForInStep.yield r)) (TP X AB Y Q) X.xe s
def MB:TT:=λ_ H Q=>Q true H
def u4:mK X [] MB:=λAB s Y H Q I h=>wpAny_tests_nil {H,I,h}
def JCa {c:As}{t:TT}(h:PT X c t):mK X [c] t:=λAB s Y H Q I q=>wpAny_tests_one (h AB s Y H Q I q)
theorem wa {prog:Aj}{w:An}{A:Ar}{R:Result->AP->Prop}{s:AP}{elt target iter:As}{ifs:Tj}{scope:Scope}{pos:Pos}{it acc:AU}{env:Env}(I:Nat->AP->Prop)
  (turn:∀n s,I n s->wpAny (model prog w) A (pyNext it) (λr s₁=>match r with
   |none=>R (.ok .next) s₁
   |some v=>wpAny (model prog w) A (letOwnedTupleGo target it v) (λ_ s₁'=>wpAny (model prog w) A (assign target env v) (λ_ s₂=>
     wpAny (model prog w) A (forIn ifs true λc r=>if r=true then do let ok ←isTrue c env (eval c env);pure (ForInStep.yield ok) else pure (ForInStep.yield r)) (λok s₃=>
      if ok=true then wpAny (model prog w) A (eval elt env) (λx s₄=>
       wpAny (model prog w) A (call (.builtin "list.append") [acc,x]) (λ_ s₅=>∃m,m<n/\I m s₅) (λ_ _=>False) s₄) (λ_ _=>False) s₃
      else ∃m,m<n/\I m s₃) (λ_ _=>False) s₂) (λ_ _=>False) s₁') (λ_ _=>False) s₁) (λ_ _=>False) s)
  (n:Nat) (h:I n s):codeAny (model prog w) A (.compLoop (.ListComp elt [{target,iter,ifs,0}] scope pos) 0 it acc env) R s:=by
 refine codeAny_loop rfl I (λn s hI=>?_) n h
 show wpAny _ A ((compTurn (.ListComp elt [{target,iter,ifs,0}] scope pos) 0 it acc env).onRaise (λx=>do noteFrame x env;theTreesLotGoes x)) _ _ s
 refine wpAny_noted ?_;rw[compTurn_list];refine Ak (wpAny_standAt (Ak (E5 (turn n s hI) (λr s₁ h₁=>?_) λ_ _ h'=>h'.elim)))
 cases r with
 |none=>exact Ay h₁
 |some v=>
  refine Ak (E5 h₁ (λ_ s₁' h1'=>?_) λ_ _ h'=>h'.elim);refine Ak (E5 h1' (λ_ s₂ h₂=>Ak (E5 h₂ (λok s₃ h₃=>?_) λ_ _ h'=>h'.elim)) λ_ _ h'=>h'.elim)
  cases ok with
  |false=>exact Ay {rfl,h₃}
  |true=>
   exact Ak (Ak (E5 h₃ (λx s₄ h₄=>Ak (E5 h₄ (λ_ s₅ h₅=>Ay (Ay {rfl,h₅})) λ_ _ h'=>h'.elim)) λ_ _ h'=>h'.elim))
def az.adopt {X:Cx}{H:Hp}{s:AP}{a:Aa}{o:HO}(I:az X AB Y H s)(f:mN X AB H a)(hs:X.s₀.heap.objs.size<=a)(new:be X.prog X.w (upd H a o) s.heap a o):az X AB Y (upd H a o) s:=by
 let⟨f0,f1,f2,f3,f4,f5⟩:=f;have ne:∀b u,H b=some u->b≠a:=λb u e z=>by rw[z,f0] at e;cases e
 refine{I.ok,I.os,I.bare,{I.base.keep,I.base.slot,λb ob q n JQ=>?_,I.base.there,λb xs q=>?_,λb ob u q=>?_,λb ps q=>?_},I.loc,I.cell,?_,λx c q=>?_,λp hp=>?_,λb u q=>?_,I.len}
 ·rw[L2.aq (BX (CC (BQ q) hs))];exact I.base.free b ob q n JQ
 ·rw[L2.aq (ne _ _ (I.base.tups b xs q))];exact I.base.tups b xs q
 ·rw[L2.aq (ne _ _ (I.base.frzs b ob u q))];exact I.base.frzs b ob u q
 ·let⟨more,r⟩:=I.base.tbls b ps q;exact{more,by rw[L2.aq (ne _ _ r)];exact r}
 ·rw[L2.aq (Ne.symm f1)];exact I.free
 ·rw[L2.aq (f4 x c q)];exact I.freeC x c q
 ·let⟨q1,q2,q3⟩:=I.pin p hp;exact{q1,by rw[L2.aq (f5 p hp)];exact q2,q3}
 ·by_cases hb:b=a
  ·subst hb;rw[L2.aN] at q;cases q;exact new
  ·rw[L2.aq hb] at q;exact(I.hok b u q).stay (λc v _ q=>q) (λc r=>by rw[L2.aq (ne _ _ r)];exact r) λc xs r=>by rw[L2.aq (ne _ _ r)];exact r
def rH (ix:R4 Nat)(own:Tn)(wi:TI)(g:TG)(tc:TT)(te:TE):TE:=λY H Q=>wi Y H λJ H1=>
 ∃W:Nat->Nat->R4 V->L2.St->Hp->Prop,(∃n,W 0 n [] (ii (own.map λ_=>none) ix Y) H1)/\∀i n ys τ H,W i n ys τ H ->
  (J.stop i H/\∀p,H p=none->Q (.ref p) (upd H p (.lst ys))) \/
  (J.go i H/\ys.length<sizeLine/\∀x H',J.yld i H x H'->g x τ H' λτ2 H2=>tc τ2 H2 λb H3=>if b=true then te τ2 H3 λy H4=>∃n',n'<n/\W (i+1) n' (ys++[y]) τ2 H4 else ∃n',n'<n/\W (i+1) n' ys τ2 H3)
theorem kY:∀(names:R4 (Str×NameKind)) (k:Nat) (acc:R4 (Str×Aa)),cellsFrom k names acc=cellsFrom k names []++acc
 |[],_,_=>rfl
 |(x,d)::r,k,acc=>by
  unfold cellsFrom;split
  ·rw[kY r (k+1) ((x,k)::acc),kY r (k+1) [(x,k)],Bx];rfl
  ·exact kY r k acc
theorem qE {x:Str}{c:Aa}:∀(names:R4 (Str×NameKind)) (k:Nat) (acc:R4 (Str×Aa)),(x,c)∈cellsFrom k names acc->(x,c)∈acc\/(x,NameKind.cell)∈names
 |[],_,_,h=>.inl h
 |(y,d)::r,k,acc,h=>by
  unfold cellsFrom at h;split at h
  ·rename_i hk;rcases qE r (k+1) _ h with h|h
   ·rcases BV.mp h with e|e
    ·cases e;rw[←eq_of_beq hk];exact .inr Be
    ·exact .inl e
   ·exact .inr (Br _ h)
  ·exact(qE r k acc h).imp id (Br _)
theorem ji {x:Str}:∀(a b:R4 (Str×Aa)),(a++b).lookup x=(a.lookup x).or (b.lookup x)
 |[],_=>rfl
 |(y,c)::a,b=>by
  rw[zbG,EK,EK];split
  ·rfl
  ·exact ji a b
def AC {X:Cx}{s₂ s₃:AP}{H₂:Hp}{E:Tb}{scope:Scope}{own caps:Tn}{cl:R4 (Str×Aa)}{Q:Env->AP->Prop}(I:az X AB Y H₂ s₂)(n:aH X.env.scope scope own caps)(hs:s₂.heap.objs.size<s₃.heap.objs.size)
  (Cu:∀x c,cl.lookup x=some c->X.env.cells.lookup x=some c) (DY:∀y∈scope.names,y.2=.free->∃c,cl.lookup y.1=some c)
  (hQ:∀(h₁:Am) (cl':R4 (Str×Aa)) (m:Td),(∀b o,s₃.heap.get? b=some o->h₁.get? b=some o)->h₁.Ns s₃.heap.objs.size m->OF X scope s₂.heap.objs.size cl'->(∀x c,cl'.lookup x=some c->s₂.heap.objs.size<c->h₁.IsCell c none) ->
   Q {compEnvC scope cl' s₃.heap.objs.size X.env with scope:=scope} {s₃ with heap:=h₁}) :
  wpAny (model X.prog X.w) X.A (newFunctionEnv scope X.env.globals cl [] X.env.qual none .none (some X.env)) Q E s₃:=by
 rwa[newFunctionEnv,zcg,if_true];refine Ak (wpAny_alloc ?_);refine Ak (wpAny_layCells _ (λname kind cells=>by cases hkc:kind == NameKind.cell <;> simp[hkc]) _ _ _ _ ?_);have ok:=cellsFrom_ok scope.names (s₃.heap.push {cls:=.type "dict",data:=.dict #[]}) (s₃.heap.objs.size+1) [] {λ_ _ hm=>(nomatch hm),List.Pairwise.nil} (by rw[E8];exact BL _);have e1:=kY scope.names (s₃.heap.push {cls:=.type "dict",data:=.dict #[]}).objs.size cl;refine Ay (hQ _ _ _ (λb o e=>pushCells_keeps _ _ b o (BK _ e)) ((Heap.Ns.new s₃.heap (.type "dict")).keeps (pushCells_keeps _ _)) ?_ ?_)
 all_goals
  rw[e1];generalize F0:cellsFrom (s₃.heap.push {cls:=.type "dict",data:=.dict #[]}).objs.size scope.names []=Ozz at ok e1;have own:∀{x c},Ozz.lookup x=some c->(pushCells (s₃.heap.push {cls:=.type "dict",data:=.dict #[]}) scope.names).IsCell c none/\s₂.heap.objs.size<c:=λ{x c} h=>{(ok.empty x c (PySem.mem_of_lookup h)).1,zb2 hs (ok.empty x c (PySem.mem_of_lookup h)).2}
  have ol:∀{x c},cl.lookup x=some c->c<s₂.heap.objs.size:=λ{x c} h=>by
   let⟨v,o,q,_⟩:=I.cell x c (Cu x c h);exact BQ q
  have spl:∀{x c},(Ozz++cl).lookup x=some c->Ozz.lookup x=some c\/(Ozz.lookup x=none/\cl.lookup x=some c):=λ{x c} h=>by
   rw[ji] at h
   cases q:Ozz.lookup x with
   |none=>rw[q] at h;exact .inr {rfl,h}
   |some d=>rw[q] at h;exact .inl h
 ·refine{λx c h=>?_,λx y c h1 h2=>?_,λy hy hk=>?_,λy hy=>?_}
  ·rcases spl h with h|⟨h1,h2⟩
   ·exact .inr (own h).2
   ·refine .inl {Cu x c h2,λz=>?_}
    have:=zbZ scope.names (s₃.heap.push {cls:=.type "dict",data:=.dict #[]}).objs.size [] (.inl z);rw[F0,h1] at this;cases this
  ·rcases spl h1 with h1|⟨_,h1⟩ <;> rcases spl h2 with h2|⟨_,h2⟩
   ·exact PySem.name_of_addr ok.apart (PySem.mem_of_lookup h1) (PySem.mem_of_lookup h2)
   ·exact Au (zb2 (own h1).2 (ol h2)) (Cn _)
   ·exact Au (zb2 (own h2).2 (ol h1)) (Cn _)
   ·exact I.ok.inj x y c (Cu x c h1) (Cu y c h2)
  ·rw[ji]
   cases q:Ozz.lookup y.1 with
   |some d=>exact{d,rfl}
   |none=>
    rcases hk with hk|hk
    ·exact DY y hy hk
    ·have:=zbZ scope.names (s₃.heap.push {cls:=.type "dict",data:=.dict #[]}).objs.size [] (.inl (n.cell y hy hk))
     rw[F0,q] at this;cases this
  ·let⟨c,hc⟩:=DY _ (p8 hy) rfl
   refine{c,?_,Cu y c hc};rw[ji]
   cases q:Ozz.lookup y with
   |none=>exact hc
   |some d=>
    rw[←F0] at q;rcases qE _ _ _ (PySem.mem_of_lookup q) with z|z
    ·cases z
    ·have:=n.cell _ z rfl
     rw[hy] at this;cases this
 ·intro x c h hc
  rcases spl h with h|⟨_,h⟩
  ·exact(own h).1
  ·exact Au (zb2 hc (ol h)) (Cn _)
def su {X:Cx}{AB:Tc}{Y:L2.St}{s₂:AP}{H₂:Hp}{E:Tb}{elt tg iter:As}{ifs:Tj}{scope:Scope}{pos:Pos}{own caps:Tn}{ix:R4 Nat}{g:TG}{tc:TT}{te:TE}{Q:VK}{cl:R4 (Str×Aa)}
  {it:Aa} {fp:Tf} {tn:Nat->Am->Prop} {J:It} {RR:AU->Aa->Result->AP->Prop}
  (hc:X.calm=true) (I:az X AB Y H₂ s₂) (T:xM X.prog X.w X.K tg J fp it tn) (st:tn 0 s₂.heap) (hf:∀b∈fp,mN X AB H₂ b) (n:aH X.env.scope scope own caps)
  (Cu:∀x c,cl.lookup x=some c->X.env.cells.lookup x=some c) (DY:∀y∈scope.names,y.2=.free->∃c,cl.lookup y.1=some c)
  (CB:ix.length=caps.length) (E0:∀(j i:Nat) y,ix[j]?=some i->caps[j]?=some y->X.N[i]?=some y)
  (hg:∀cl C,PG (aD X scope cl C s₂ H₂ fp (own++caps)) tg g) (ht:∀cl C,mK (aD X scope cl C s₂ H₂ fp (own++caps)) ifs tc) (he:∀cl C,PE (aD X scope cl C s₂ H₂ fp (own++caps)) elt te)
  (W:Nat->Nat->R4 V->L2.St->Hp->Prop) (hW0:∃n,W 0 n [] (ii (own.map λ_=>none) ix Y) H₂)
  (hW:∀i n ys τ H,W i n ys τ H->(J.stop i H/\∀p,H p=none->Q (.ref p) (upd H p (.lst ys))) \/
   (J.go i H/\ys.length<sizeLine/\∀x H',J.yld i H x H'->g x τ H' λτ2 H2=>tc τ2 H2 λb H3=>if b=true then te τ2 H3 λy H4=>∃n',n'<n/\W (i+1) n' (ys++[y]) τ2 H4 else ∃n',n'<n/\W (i+1) n' ys τ2 H3))
  (hRR:∀(D C:Aa) (s':AP) m H' ys,s'.heap.Ns C m->az X AB Y (upd H' D (.lst ys)) s'->mN X AB (upd H' D (.lst ys)) C->Q (.ref D) (upd H' D (.lst ys))->RR (.ref D) C (.ok .next) s') :
  wpAny (model X.prog X.w) X.A (newList []) (λacc s₃=>wpAny (model X.prog X.w) X.A (newFunctionEnv scope X.env.globals cl [] X.env.qual none .none (some X.env)) (λcenv s₄=>
   codeAny (model X.prog X.w) X.A (.compStart (.ListComp elt [{tg,iter,ifs,0}] scope pos) 0 (.ref it) acc {cenv with scope:=relabel scope X.env}) (RR acc cenv.locals) s₄) E s₃) E s₂:=by
 refine Cw (AC (s₂:=s₂) I n (by show s₂.heap.objs.size<(s₂.heap.push _).objs.size;rw[E8];exact zbR _) Cu DY λh₁ cl m₁ kp1 Gu B JZ=>?_);dsimp only at Gu kp1 ⊢;generalize hH2:s₂.heap.push {cls:=.type "list",dict:=none,data:=.seq ([]:Te).toArray}=H2 at Gu kp1 ⊢
 have hC:H2.objs.size=s₂.heap.objs.size+1:=by rw[←hH2,E8]
 have below:∀b,b<s₂.heap.objs.size->b≠H2.objs.size/\b≠s₂.heap.objs.size:=λb hb=>{by rw[hC];exact BX (zbA hb),BX hb}
 have hDC:s₂.heap.objs.size≠H2.objs.size:=by rw[hC];exact BX (zbR _)
 have old:∀b o,s₂.heap.get? b=some o->h₁.get? b=some o:=λb o e=>kp1 b o (hH2 ▸ BK _ e);have DZ:h₁.get? s₂.heap.objs.size=some {cls:=.type "list",data:=.seq ([]:Te).toArray}:=kp1 _ _ (hH2 ▸ Bd _ rfl)
 have IP:∀b∈fp,b<s₂.heap.objs.size:=λb hb=>by let⟨o,e,_⟩:=T.obj _ _ st b hb;exact BQ e
 have Jv:s₂.heap.objs.size<=H2.objs.size:=by rw[hC];exact Fz _
 have hfC:∀b∈fp,b<H2.objs.size:=λb hb=>CC (IP b hb) Jv;have st₁:tn 0 h₁:=T.keep 0 _ _ st λb _ o e=>old b o e;have I₀:=wj (tk:=s₂.toks) I n B Jv IP hf JZ CB E0 old Gu;clear Gu kp1
 have cellD:∀x c,cl.lookup x=some c->c≠s₂.heap.objs.size:=λx c e=>by
  rcases B.src x c e with⟨z,_⟩|z
  ·let⟨v,o,q,_⟩:=I.cell x c z;exact BX (BQ q)
  ·exact Ne.symm (BX z)
 have stkD:∀b∈Ao X.stack,b<s₂.heap.objs.size:=λb hb=>by
  rcases BV.mp (I.stkSub b hb) with e|e
  ·rw[e];exact I.lt
  ·let⟨_,o,q,_⟩:=I.funs.mem e;exact BQ q
 have fpok:∀{ps:Tc} {H:Hp},(∀b∈fp,H b=none)->(∀p∈ps,p.1∉fp)->∀b∈fp,mN (aD X scope cl H2.objs.size s₂ H₂ fp (own++caps)) ps H b:=λ{ps H} hn hp b hb=>
  {hn b hb,BX (hfC b hb),λz=>by
   rcases BV.mp (I.stkSub b z) with e|e
   ·exact(hf b hb).2.1 e
   ·exact(hf b hb).2.2.1 e,.inl hb,λx c e=>B.ne (hf b hb) (IP b hb) e,λp hp' z=>hp p (by simpa[aD] using hp') (z ▸ hb)}
 have Dfp:s₂.heap.objs.size∉fp:=λz=>Cn _ (IP _ z)
 have pinD:∀{H:Hp} {h:Am} {its:Te} {k:Nat},H s₂.heap.objs.size=none->h.get? s₂.heap.objs.size=some {cls:=.type "list",data:=.seq its.toArray k} ->
   ∀p∈[((s₂.heap.objs.size,{cls:=.type "list",data:=.seq its.toArray k}):Aa×BO)],h.get? p.1=some p.2/\H p.1=none/\p.1≠H2.objs.size/\p.1∉Ao X.stack/\∀v,p.2.data≠.cell v:=λ{H h its k} hn e p hp=>by
  rw[CP.mp hp];exact{e,hn,hDC,λz=>Cn _ (stkD _ z),λv z=>by cases z}
 have fN:∀s₃:AP,s₃={s₂ with heap:=h₁} ->
   codeAny (model X.prog X.w) X.A (.compLoop (.ListComp elt [{tg,iter,ifs,0}] scope pos) 0 (.ref it) (.ref s₂.heap.objs.size) (compEnvC scope cl H2.objs.size X.env)) (RR (.ref s₂.heap.objs.size) H2.objs.size) s₃:=by
  rintro s₃ rfl;let⟨n0,hW0⟩:=hW0
  refine wa (λn s'=>∃i ys its k τ H,az (aD X scope cl H2.objs.size s₂ H₂ fp (own++caps)) [(s₂.heap.objs.size,{cls:=.type "list",data:=.seq its.toArray k})] τ H s'/\tn i s'.heap/\(∀b∈fp,H b=none)/\aM ys its/\ys.length<=sizeLine/\W i n ys τ H) ?_ n0
   {0,[],[],0,_,H₂,I₀.pins_of (pinD (I.hok.fresh (BL _)) DZ),st₁,λb hb=>(hf b hb).1,.nil,Cr _,hW0}
  rintro n s3 ⟨i,ys,its,k,τ,H,I3,JL,fr3,rv,hz,w3⟩;have hD3:=I3.pin _ (D3 _ Be)
  have pfp:∀p∈[((s₂.heap.objs.size,{cls:=.type "list",data:=.seq its.toArray k}):Aa×BO)],p.1∉fp:=λp hp=>by rw[CP.mp hp];exact Dfp
  rcases hW i n ys τ H w3 with⟨stop,q⟩|⟨go,BD,step⟩
  ·refine cP (T.done (aD X scope cl H2.objs.size s₂ H₂ fp (own++caps)) rfl rfl rfl hc i _ s3 τ H (λ_ _=>False) I3 (fpok fr3 pfp) JL stop) λr s4 hh=>?_
   let⟨hr,I4⟩:=hh;subst hr;have hD4:=I4.pin _ (D3 _ Be);let⟨m,hm,_⟩:=id I4.loc;have IX:az X AB Y H s4:=I.call' (ch:=fp) I4.os I4.base I4.hok I4.bare λb hb=>{(hf b hb).2.2.2.1,(hf b hb).2.1,(hf b hb).2.2.2.2};have fD:mN X AB H s₂.heap.objs.size:=I.fpOk (BL _) hD4.2.1;have IY:=az.adopt (o:=.lst ys) IX fD I.sz {hz,its,k,rv,hD4.1};exact hRR _ _ s4 m H ys hm IY (I.fpOk Jv (by rw[L2.aq (Ne.symm hDC)];exact I4.free)) (q _ hD4.2.1)
  ·refine cP (T.item (aD X scope cl H2.objs.size s₂ H₂ fp (own++caps)) rfl rfl rfl hc i _ s3 τ H (λ_ _=>False) I3 (fpok fr3 pfp) JL go) λr s4 hh=>?_
   let⟨u,hr,h4⟩:=hh;subst hr;refine cP h4 λ_ s5 hh=>?_;let⟨x,H5,I5,r5,y5,Gb,fr5⟩:=hh;have I5':=I5.pinned (fpok fr5 pfp) (T.obj _ _ Gb);refine cP (hg _ _ _ s5 τ H5 x u _ I5' r5 (step x H5 y5)) λ_ s6 hh=>?_;let⟨Y6,H6,I6,q6⟩:=hh;refine cP (ht _ _ _ s6 Y6 H6 _ I6 q6) λok s7 hh=>?_;let⟨H7,I7,q7⟩:=hh;have memD:∀p∈lI fp s5.heap,p.1≠s₂.heap.objs.size:=λp hp z=>Dfp (z ▸ (rT hp).1)
   cases ok with
   |true=>
    refine cP (he _ _ _ s7 Y6 H7 _ I7 q7) λu8 s8 hh=>?_;let⟨y,H8,I8,r8,n',Fu,w8⟩:=hh;have hD8:=I8.pin (s₂.heap.objs.size,_) (D3 _ (zb6 _ Be));refine append_at (hsz:=by rw[Bz,←rv.length];exact hz) hD8.1 λh9 sb hD9=>?_;have I8':az (aD X scope cl H2.objs.size s₂ H₂ fp (own++caps)) (lI fp s5.heap) Y6 H8 s8:=I8.pins_of λp hp=>I8.pin p (D3 _ (D3 _ hp))
    have I9:az (aD X scope cl H2.objs.size s₂ H₂ fp (own++caps)) (lI fp s5.heap) Y6 H8 {s8 with heap:=h9}:=I8'.turned (t':=s8.toks) (it:=s₂.heap.objs.size) (λb o hb e=>sb.extBut b o hb e) hD8.2.1 hDC (.inr (BL _))
     cellD λp hp=>memD p (by simpa[aD] using hp)
    have e9:(its.toArray.push u8)=(its++[u8]).toArray:=by simp
    rw[e9] at hD9;refine{n',Fu,i+1,ys++[y],its++[u8],k+1,Y6,H8,I9.pins_of (pinD hD8.2.1 hD9),T.keep _ _ _ Gb λb hb o e=>(I9.pin (b,o) (D3 _ (eX hb e))).1,λb hb=>?_,rv.append (.cons r8 .nil),by rw[Ci];exact BD,w8};let⟨o,e,d⟩:=T.obj _ _ Gb b hb;exact(I9.pin (b,o) (D3 _ (eX hb e))).2.1
   |false=>
    let⟨n',Fu,w8⟩:=q7;have hD7:=I7.pin (s₂.heap.objs.size,_) (D3 _ (zb6 _ Be));refine{n',Fu,i+1,ys,its,k,Y6,H7,I7.pins_of (pinD hD7.2.1 hD7.1),T.keep _ _ _ Gb λb hb o e=>(I7.pin (b,o) (D3 _ (D3 _ (eX hb e)))).1,λb hb=>?_,rv,hz,w8};let⟨o,e,d⟩:=T.obj _ _ Gb b hb;exact(I7.pin (b,o) (D3 _ (D3 _ (eX hb e)))).2.1
 exact codeAny_compStart_list (fN _ rfl) (T.self _ 0 _ _ _ st₁ (fN _ rfl))
def pU {X:Cx}{elt tg iter:As}{ifs:Tj}{scope:Scope}{pos:Pos}{own caps:Tn}{ix:R4 Nat}{wi:TI}{g:TG}{tc:TT}{te:TE}(hc:X.calm=true)(n:aH X.env.scope scope own caps)
  (CB:ix.length=caps.length) (E0:∀(j i:Nat) y,ix[j]?=some i->caps[j]?=some y->X.N[i]?=some y) (hi:PI X tg iter wi)
  (hb:∀cl C s₂ H₂ fp,PG (aD X scope cl C s₂ H₂ fp (own++caps)) tg g/\mK (aD X scope cl C s₂ H₂ fp (own++caps)) ifs tc/\PE (aD X scope cl C s₂ H₂ fp (own++caps)) elt te)
  (hs:∀x,foldedSetIterable iter X.env x=pure x:=by intro _;rfl):PE X (.ListComp elt [{tg,iter,ifs,0}] scope pos) (rH ix own wi g tc te):=by
 intro AB s Y H Q I h;let⟨cl,FU,Cu,DY⟩:=qD (env:=X.env) (scope:=scope) λy hy hf=>I.ok.has y.1 (n.free y hy hf);rw[eval_ListComp];refine wpAny_comprehension_free (use:=none) rfl hs FU n.kind n.loc (cP (hi AB s Y H _ I h) λv s1 h1=>cP h1 λitv s2 h2=>?_);let⟨it,fp,tn,J,H2,e,I2,T,JM,f2,W,w0,turn⟩:=h2;subst e;refine su (RR:=λacc C=>compPost (model X.prog X.w) X.A X.xe none (EP X AB Y Q) acc C) hc I2 T JM f2 n Cu DY CB E0 (λcl C=>(hb cl C s2 H2 fp).1) (λcl C=>(hb cl C s2 H2 fp).2.1) (λcl C=>(hb cl C s2 H2 fp).2.2) W w0 turn ?_;intro D C s' m H' ys hm IY fC q;refine{m,hm,λh' sb=>{.ref D,_,IY.turned (t':=s'.toks) (it:=C) (λb o hb e=>sb.extBut b o hb e) fC.1 fC.2.1 fC.2.2.2.1 fC.2.2.2.2.1 fC.2.2.2.2.2,rfl,q}}
def JB8 {X:Cx}{elt tg iter:As}{ifs:Tj}{scope:Scope}{pos DS py:Pos}{own caps:Tn}{ix:R4 Nat}{wi:TI}{g:TG}{tc:TT}{te:TE}{i:Nat}{y:Str}(hc:X.calm=true)(n:aH X.env.scope scope own caps)
  (hN:X.N.Nodup) (hy:X.N[i]?=some y) (J8:GM X.env.scope y)
  (CB:ix.length=caps.length) (E0:∀(j i:Nat) y,ix[j]?=some i->caps[j]?=some y->X.N[i]?=some y) (hi:PI X tg iter wi)
  (hb:∀cl C s₂ H₂ fp,PG (aD X scope cl C s₂ H₂ fp (own++caps)) tg g/\mK (aD X scope cl C s₂ H₂ fp (own++caps)) ifs tc/\PE (aD X scope cl C s₂ H₂ fp (own++caps)) elt te)
  (hsw:swapsWith (.ListComp elt [{tg,iter,ifs,0}] scope pos) (some (.Name y py)) DS.line X.env=pure true)
  (hs:∀x,foldedSetIterable iter X.env x=pure x:=by intro _;rfl) (hf:X.fn y=true\/X.env.scope.names.lookup y=some .local:=by first|exact .inl rfl|exact .inr rfl|assumption) :
  PS X (.Assign [.Name y py] (.ListComp elt [{tg,iter,ifs,0}] scope pos) DS) (Bm (rH ix own wi g tc te) (r9 i)):=by
 intro AB s Y H Zz I h;let⟨cl,FU,Cu,DY⟩:=qD (env:=X.env) (scope:=scope) λy hy hf=>I.ok.has y.1 (n.free y hy hf);rw[exec_Assign_Name_used _ _ _ _ hsw];refine Ak (wpAny_standAt (Ak ?_))
 show wpAny _ X.A (do let _ ←comprehension (.ListComp elt [{tg,iter,ifs,0}] scope pos) scope X.env _ (newList []) false (eval iter X.env) (some (assign (.Name y py) X.env))) _ _ s
 refine Ak (E5 (wpAny_comprehension_free (use:=some (assign (.Name y py) X.env)) (Q:=λ_ s'=>SP X AB Zz .next s') rfl hs FU n.kind n.loc (cP (hi AB s Y H _ I h) λv s1 h1=>cP h1 λitv s2 h2=>?_)) (λ_ s' hq=>Ay (Ay hq)) λ_ _ e=>e);let⟨it,fp,tn,J,H2,e,I2,T,JM,f2,W,w0,turn⟩:=h2;subst e;refine su (Q:=λx H1=>r9 i x Y H1 Zz.nx) (RR:=λacc C=>compPost (model X.prog X.w) X.A X.xe (some (assign (.Name y py) X.env)) (λ_ s'=>SP X AB Zz .next s') acc C) hc I2 T JM f2 n Cu DY CB E0 (λcl C=>(hb cl C s2 H2 fp).1) (λcl C=>(hb cl C s2 H2 fp).2.1) (λcl C=>(hb cl C s2 H2 fp).2.2) W w0 turn ?_;intro D C s' m H' ys hm IY fC q
 show wpAny _ X.A (assign (.Name y py) X.env (.ref D)) _ _ _
 refine wpAny_assign_Name (rJ (v:=.ref D) IY hN hy J8 rfl (λGh IZ hh=>?_) hf);let⟨a,sa,ha⟩:=hh
 have nC:C≠a:=by
  rcases ha with ha|ha
  ·rw[ha];exact fC.2.1
  ·exact Ne.symm (fC.2.2.2.2.1 _ _ ha)
 refine{m,hm.sameBut sa nC,λh' sb=>{_,_,IZ.turned (t':=Gh.toks) (it:=C) (λb o hb e=>sb.extBut b o hb e) fC.1 fC.2.1 fC.2.2.2.1 fC.2.2.2.2.1 fC.2.2.2.2.2,q}}
section
variable {K:Ax}{m:Tf}{Y:L2.St}{H:Hp}{U:ac}
def BI {B:Ad->Hp->Prop}(h:eN K dP Y H B):MB Y H B:=by let⟨O,U,m,d,U',hl,hs,e,k⟩:=h;cases e;exact k H m .refl hs
def nH {O:Lo}{k:Nat}{ix:R4 Nat}{own:Tn}(hk:own.length=k)(h:dJ K m H O Y):dJ K m H (bT k ix O) (ii (own.map λ_=>none) ix Y):=by
 subst hk;unfold bT ii;refine{by simp,λi d e=>?_};by_cases hi:i<own.length
 ·rw[Bu ‹hi›,zbU] at e;split at e <;> cases e
 ·rw[DH ‹hi›] at e;rw[DH ‹hi›];rwa[List.length_replicate,BR] at e ⊢;generalize i-own.length=j at e ⊢;rw[By] at e ⊢
  cases q:ix[j]? with
  |none=>rw[q] at e;cases e
  |some i'=>
   rw[q] at e;have e3:(O[i']?).join=some d:=Option.some.inj e;have e4:O[i']?=some (some d):=by
    cases z:O[i']? with
    |none=>rw[z] at e3;cases e3
    |some w'=>rw[z] at e3;cases w' with
     |none=>cases e3
     |some _=>cases e3;rfl
   let⟨v,q1,q2⟩:=h.2 i' d e4;exact{v,by simp[q1],q2}
end
mutual
noncomputable def jQ:D->PyData
 |.non=>.none
 |.bl b=>.bool b
 |.int i=>.int i
 |.str x=>.str x
 |.tup xs=>.tuple (toPys xs)
 |.fl xs=>.list (toPys xs)
 |.fd _ _=>.none
 |.key _=>.none
noncomputable def toPys:R4 D->R4 PyData
 |[]=>[]
 |x::xs=>jQ x::toPys xs
end
mutual
noncomputable def cR:Nat->D->Ad
 |_,.non=>true
 |_,.bl _=>true
 |_,.int _=>true
 |_,.str x=>PyData.strOk x
 |_,.fd _ _=>false
 |_,.key _=>false
 |0,.tup _=>false
 |0,.fl _=>false
 |n+1,.tup xs=>okDs n xs
 |n+1,.fl xs=>okDs n xs
noncomputable def okDs:Nat->R4 D->Ad
 |_,[]=>true
 |n,x::xs=>cR n x&&okDs n xs
end
mutual
noncomputable def iD:D->D->Ad
 |.bl a,y=>match y with|.bl b=>a == b|.int j=>(if a then 1 else 0) == j|_=>false
 |.int i,y=>match y with|.bl b=>i == (if b then 1 else 0)|.int j=>i == j|_=>false
 |.str x,y=>match y with|.str z=>x == z|_=>false
 |.tup xs,y=>match y with|.tup ys=>eqDs xs ys|_=>false
 |.fl xs,y=>match y with|.fl ys=>eqDs xs ys|_=>false
 |_,y=>match y with|.non=>true|.fd _ _=>true|.key _=>true|_=>false
noncomputable def eqDs:R4 D->R4 D->Ad
 |[],[]=>true
 |x::xs,y::ys=>iD x y&&eqDs xs ys
 |_,_=>false
end
theorem oX (xs ys:R4 D):iD (.tup xs) (.tup ys)=eqDs xs ys:=rfl
theorem xC (xs ys:R4 D):iD (.fl xs) (.fl ys)=eqDs xs ys:=rfl
theorem xD (a b:Ad):iD (.bl a) (.bl b)=(a == b):=rfl
theorem tU (i j:Int):iD (.int i) (.int j)=(i == j):=rfl
theorem eM:eqDs [] []=true:=rfl
theorem cE (x y:D)(xs ys:R4 D):eqDs (x::xs) (y::ys)=(iD x y&&eqDs xs ys):=rfl
theorem gm (y:D)(ys:R4 D):eqDs [] (y::ys)=false:=rfl
theorem gp (y:D)(ys:R4 D):eqDs (y::ys) []=false:=rfl
mutual
theorem nE:∀a b:D,PyData.eqv (jQ a) (jQ b)=iD a b
 |.non,b=>by cases b <;> rfl
 |.bl _,b=>by cases b <;> rfl
 |.int _,b=>by cases b <;> rfl
 |.str _,b=>by cases b <;> rfl
 |.tup xs,b=>by
  cases b with
  |tup ys=>exact eqDs_py xs ys
  |_=>rfl
 |.fl xs,b=>by
  cases b with
  |fl ys=>exact eqDs_py xs ys
  |_=>rfl
 |.fd _ _,b=>by cases b <;> rfl
 |.key _,b=>by cases b <;> rfl
theorem eqDs_py:∀a b:R4 D,PyData.eqvAll (toPys a) (toPys b)=eqDs a b
 |[],b=>by cases b <;> rfl
 |x::xs,b=>by
  cases b with
  |nil=>rfl
  |cons y ys=>rw[cE,←nE x y,←eqDs_py xs ys];rfl
end
mutual
theorem w9:∀(n:Nat) (d:D),cR n d=true->(jQ d).canLay0=true/\(jQ d).depth<=n
 |_,.non,_=>by simp[jQ,PyData.canLay0,PyData.depth]
 |_,.bl _,_=>by simp[jQ,PyData.canLay0,PyData.depth]
 |_,.int _,_=>by simp[jQ,PyData.canLay0,PyData.depth]
 |n,.str x,h=>by
  have h:PyData.strOk x=true:=by cases n <;> simpa[cR] using h
  simp[jQ,PyData.canLay0,PyData.depth,h]
 |n,.fd _ _,h=>by cases n <;> simp[cR] at h
 |n,.key _,h=>by cases n <;> simp[cR] at h
 |0,.tup _,h=>by simp[cR] at h
 |0,.fl _,h=>by simp[cR] at h
 |n+1,.tup xs,h=>by let⟨a,b⟩:=okDs_py n xs (by simpa[cR] using h);rwa[jQ,PyData.canLay0,PyData.depth];exact{a,by omega}
 |n+1,.fl xs,h=>by let⟨a,b⟩:=okDs_py n xs (by simpa[cR] using h);rwa[jQ,PyData.canLay0,PyData.depth];exact{a,by omega}
theorem okDs_py:∀(n:Nat) (ds:R4 D),okDs n ds=true->PyData.canLayAll0 (toPys ds)=true/\PyData.depthAll (toPys ds)<=n
 |_,[],_=>by simp[toPys,PyData.canLayAll0,PyData.depthAll]
 |n,x::xs,h=>by
  have h':cR n x=true/\okDs n xs=true:=by cases n <;> simpa[okDs] using h
  let⟨a1,b1⟩:=w9 n x h'.1;let⟨a2,b2⟩:=okDs_py n xs h'.2;rwa[toPys,PyData.canLayAll0,PyData.depthAll,a1,a2,Bool.and_self,true_and];omega
end
def d9 {d:D}(h:cR 60 d=true):SeqAt.shaped (jQ d)=true:=by let⟨a,b⟩:=w9 60 d h;unfold SeqAt.shaped;rw[a,Bool.true_and];exact D2 ∅
section
variable {X:Cx}{AB:Tc}{Y:L2.St}{H:Hp}{s:AP}
mutual
theorem mo (I:az X AB Y H s):∀(k:Nat) (d:D) (v:V) (u:AU),cR k d=true->ak X.K H d v->aP v u->∃as,Reads s.heap u (jQ d) as
 |_,.non,v,u,_,h,r=>by rwa[ak] at h;subst h;cases r;exact{_,.none}
 |_,.bl b,v,u,_,h,r=>by rwa[ak] at h;subst h;cases r;exact{_,.bool b}
 |_,.int i,v,u,_,h,r=>by rwa[ak] at h;subst h;let⟨t,rfl⟩:=r;exact{_,.int i t}
 |_,.str x,v,u,_,h,r=>by rwa[ak] at h;subst h;let⟨t,rfl⟩:=r;exact{_,.str x t}
 |_,.fd _ _,v,u,hk,h,r=>by simp[cR] at hk
 |_,.key _,v,u,hk,h,r=>by simp[cR] at hk
 |0,.tup xs,v,u,hk,h,r=>by simp[cR] at hk
 |0,.fl xs,v,u,hk,h,r=>by simp[cR] at hk
 |k+1,.tup xs,v,u,hk,h,r=>by rwa[ak] at h;let⟨a,vs,rfl,q,h⟩:=h;cases r;let⟨its,rv,⟨o,e,c,n,hd⟩,_⟩:=I.tuple q;let⟨as,ra⟩:=readss_of I k xs vs its (by simpa[cR] using hk) h rv;exact{_,.tuple e c hd ‹ra›}
 |k+1,.fl xs,v,u,hk,h,r=>by rwa[ak] at h;let⟨a,vs,rfl,q,h⟩:=h;cases r;let⟨its,rv,⟨o,n,e,c,_,hd⟩,_⟩:=I.list q.sq;let⟨as,ra⟩:=readss_of I k xs vs its (by simpa[cR] using hk) h rv;exact{_,.list e c hd ‹ra›}
theorem readss_of (I:az X AB Y H s):∀(k:Nat) (ds:R4 D) (vs:R4 V) (us:Te),okDs k ds=true->RelDs X.K H ds vs->aM vs us->∃as,ReadsAll s.heap us (toPys ds) as
 |_,[],vs,us,_,h,r=>by rwa[RelDs] at h;subst h;cases r;exact{_,.nil}
 |k,d::ds,vs,us,hk,h,r=>by
  have hk:cR k d=true/\okDs k ds=true:=by cases k <;> simpa[okDs] using hk
  rwa[RelDs] at h;let⟨v,vr,rfl,h1,h2⟩:=h
  cases r with
  |cons r1 r2=>
   let⟨as,q1⟩:=mo I k d v _ hk.1 h1 r1;let⟨bs,q2⟩:=readss_of I k ds vr _ hk.2 h2 r2;exact{_,.cons q1 q2}
end
end
noncomputable def eA:R->ac->AA D
 |.v d,_=>some d
 |.p n,U=>match U[n]? with|some (.lst xs)=>some (.fl xs)|some (.fz xs)=>some (.fl xs)|_=>none
 |_,_=>none
noncomputable def kX (neg:Ad):R->R->ac->AA (R×ac):=λx y U=>(eA x U).bind λa=>(eA y U).bind λb=>if (cR 60 a&&cR 60 b)=true then some (.v (.bl (if neg then !iD a b else iD a b)),U) else none
def E4 (K:Ax)(neg:Ad):R2:=λv u H Q=>∃m U x y d,aG K m H U/\av K m H x v/\av K m H y u/\kX neg x y U=some (.v (.bl d),U)/\Q (.bl d) H
def F6 {neg:Ad}:o0 K (kX neg) (E4 K neg):=by
 intro m H U x y d U' v u Q s rx ry e k;have e0:=e;unfold kX at e;let⟨a,e1,e⟩:=Az.mp e;let⟨b,e2,e⟩:=Az.mp e;split at e
 ·cases e;exact{m,U,x,y,_,s,rx,ry,e0,k _ H m .refl s (by rwa[av,ak])}
 ·cases e
theorem cI {X:Cx}{H:Hp}{s:AP}{m:Tf}{U:ac}{x:R}{d:D}{v:V}{u:AU}(I:az X AB Y H s)(S:aG X.K m H U)(r:av X.K m H x v)(ru:aP v u)(e:eA x U=some d)(hk:cR 60 d=true):∃as,Reads s.heap u (jQ d) as:=by
 cases x with
 |v d'=>cases e;exact mo I 60 _ _ _ hk r ru
 |s _ _=>cases e
 |x _=>cases e
 |f _ _=>cases e
 |p n=>
  have hl:∃xs,d=.fl xs/\lh (.p n) U=some xs:=by
   rwa[eA] at e;split at e
   ·rename_i xs q;cases e;exact{xs,rfl,by simp[lh,q]}
   ·rename_i xs q;cases e;exact{xs,rfl,by simp[lh,q]}
   ·cases e
  let⟨xs,rfl,e2⟩:=hl;let⟨a,vs,rfl,q,rr⟩:=jh S r e2;cases ru;let⟨its,rv,⟨o,n',e,c,_,hd⟩,_⟩:=I.list q;let⟨as,ra⟩:=readss_of I 59 xs vs its (by simpa[cR] using hk) rr rv;exact{_,.list e c hd ‹ra›}
def sZ {X:Cx}(hu:X.A.units+64<cLine):jN X (compareOp .Eq) (E4 X.K false):=by
 intro AB s Y H v u v' u' Q I rv ru q;let⟨m,U,x,y,d,S,rx,ry,e,q⟩:=q;unfold kX at e;let⟨a,e1,e⟩:=Az.mp e;let⟨b,e2,e⟩:=Az.mp e;split at e
 ·rename_i z;rw[EM] at z;cases e;let⟨as,r1⟩:=cI I S rx rv e1 z.1;let⟨bs,r2⟩:=cI I S ry ru e2 z.2;exact eq_dataH r1 r2 (d9 z.1) (d9 z.2) hu {_,H,I,by rw[nE];rfl,q}
 ·cases e
def w4 {X:Cx}(hu:X.A.units+64<cLine):jN X (compareOp .NotEq) (E4 X.K true):=by
 intro AB s Y H v u v' u' Q I rv ru q;let⟨m,U,x,y,d,S,rx,ry,e,q⟩:=q;unfold kX at e;let⟨a,e1,e⟩:=Az.mp e;let⟨b,e2,e⟩:=Az.mp e;split at e
 ·rename_i z;rw[EM] at z;cases e;let⟨as,r1⟩:=cI I S rx rv e1 z.1;let⟨bs,r2⟩:=cI I S ry ru e2 z.2;exact ne_dataH r1 r2 (d9 z.1) (d9 z.2) hu {_,H,I,by rw[nE];rfl,q}
 ·cases e
noncomputable def Af (neg:Ad)(c:D):R->ac->AA (R×ac):=λx U=>match c,x with
 |.non,.v .non=>some (.v (.bl (!neg)),U)
 |.bl b,.v (.bl a)=>some (.v (.bl (if neg then !(a == b) else a == b)),U)
 |_,_=>some (.v (.bl neg),U)
def E3 (neg:Ad)(c:V):R2:=λx y H Q=>y=c/\Q (.bl (if neg then !decide (x=c) else decide (x=c))) H
section
variable {X:Cx}
def JBv:jN X (compareOp .Is) (E3 false .non):=Ky
def u9:jN X (compareOp .IsNot) (E3 true .non):=JE1
end
def K5 {m:Tf}{H:Hp}{neg:Ad}{c:D}{cv v:V}{x d:R}{U U':ac}(hc:(c=.non/\cv=.non)\/∃b,c=.bl b/\cv=.bl b)(r:av K m H x v)(e:Af neg c x U=some (d,U')) :
  U'=U/\d=.v (.bl (if neg then !decide (v=cv) else decide (v=cv))):=by
 have fin:v≠cv->some (R.v (.bl neg),U)=some (d,U')->U'=U/\d=.v (.bl (if neg then !decide (v=cv) else decide (v=cv))):=λh e=>by
  cases e;cases neg <;> simp[h]
 have nn:∀d0,d0≠.non->ak K H d0 v->v≠.non:=λd0 h1 h2 z=>by
  subst z;cases d0 <;> rwa[ak] at h2 <;> first|exact h1 rfl|(let⟨_,_,_,h,_⟩:=h2;cases h;done)|(let⟨_,_,h,_⟩:=h2;cases h;done)|(let⟨_,h,_⟩:=h2;cases h;done)|cases h2
 have nb:∀d0 b,(∀a,d0≠.bl a)->ak K H d0 v->v≠.bl b:=λd0 b h1 h2 z=>by
  subst z;cases d0 <;> rwa[ak] at h2 <;> first|exact h1 _ rfl|(let⟨_,_,_,h,_⟩:=h2;cases h;done)|(let⟨_,_,h,_⟩:=h2;cases h;done)|(let⟨_,h,_⟩:=h2;cases h;done)|cases h2
 have np:∀n,av K m H (.p n) v->v≠.non/\∀b,v≠.bl b:=λn ⟨a,e,_⟩=>{λz=>(by rw[e] at z;cases z),λb z=>(by rw[e] at z;cases z)};have ns:∀b' n,av K m H (.s b' n) v->v≠.non/\∀b,v≠.bl b:=λb' n ⟨a,_,e,_⟩=>{λz=>(by rw[e] at z;cases z),λb z=>(by rw[e] at z;cases z)};have nx:∀c,av K m H (.x c) v->v≠.non/\∀b,v≠.bl b:=λc ⟨a,_,_,e,_⟩=>{λz=>(by rw[e] at z;cases z),λb z=>(by rw[e] at z;cases z)};have nf:∀L ds,av K m H (.f L ds) v->v≠.non/\∀b,v≠.bl b:=λL ds ⟨a,_,_,_,_,e,_⟩=>{λz=>(by rw[e] at z;cases z),λb z=>(by rw[e] at z;cases z)};rcases hc with⟨rfl,rfl⟩|⟨b,rfl,rfl⟩
 ·cases x with
  |v d0=>
   by_cases h0:d0=.non
   ·subst h0
    have r:v=.non:=by simpa only[av,ak] using r
    subst r;cases e;cases neg <;> simp
   ·have:=nn d0 h0 r
    cases d0 <;> first|exact Au rfl h0|exact fin this e
  |p n=>have:=(np n r).1;exact fin this e
  |s b' n=>have:=(ns b' n r).1;exact fin this e
  |x c=>have:=(nx c r).1;exact fin this e
  |f L ds=>have:=(nf L ds r).1;exact fin this e
 ·cases x with
  |v d0=>
   by_cases h0:∃a,d0=.bl a
   ·let⟨a,rfl⟩:=h0
    have r:v=.bl a:=by simpa only[av,ak] using r
    subst r;cases e;cases neg <;> cases a <;> cases b <;> simp
   ·have:=nb d0 b (λa z=>h0 {a,z}) r
    cases d0 <;> first|exact Au {_,rfl} h0|exact fin this e
  |p n=>have:=(np n r).2 b;exact fin this e
  |s b' n=>have:=(ns b' n r).2 b;exact fin this e
  |x c=>have:=(nx c r).2 b;exact fin this e
  |f L ds=>have:=(nf L ds r).2 b;exact fin this e
def M4 {H:Hp}{Q:VK}{fa:FE}{neg:Ad}{c:D}{cv:V}(hc:(c=.non/\cv=.non)\/∃b,c=.bl b/\cv=.bl b)(h:ax K (jM (Af neg c) fa) Y H Q):Jc (E3 neg cv) (ax K fa) (tC cv) Y H Q:=by let⟨O,U,m,d,U',hl,hs,e,k⟩:=h;let⟨⟨x,U1⟩,e1,e⟩:=Az.mp e;refine{O,U,m,x,U1,hl,hs,e1,λv H1 m1 x1 s1 r1=>{rfl,?_}};let⟨rfl,rfl⟩:=K5 hc r1 e;exact k _ H1 m1 x1 s1 (by rwa[av,ak])
noncomputable def IR:R->ac->AA String
 |.v .non,_=>some "NoneType"
 |.v (.bl _),_=>some "bool"
 |.v (.int _),_=>some "int"
 |.v (.str _),_=>some "str"
 |.v (.tup _),_=>some "tuple"
 |.v (.fl _),_=>some "list"
 |.v (.fd _ _),_=>some "dict"
 |.v (.key _),_=>some "tuple"
 |.p n,U=>match U[n]? with|some (.lst _)=>some "list" | some (.fz _)=>some "list" | some (.dct _)=>some "dict" | some (.dr _)=>some "dict" | _=>none
 |.s _ _,_=>none
 |.x _,_=>none
 |.f _ _,_=>none
noncomputable def eu (T:String):R->ac->AA (R×ac):=λx U=>(IR x U).bind λt=>some (.v (.bl (t == T || (t == "bool" && T == "int"))),U)
def oe (K:Ax)(T:String):Prop:=∀t∈["NoneType","bool","int","str","tuple","list","dict"],PySem.W.kitOne K (.type t) (.type T)=some (t == T || (t == "bool" && T == "int"))
def Ni (K:Ax)(T:String):R4 V->Hp->VK->Prop:=λvs H Q=>∃m U x v d,vs=[v,.ty T]/\aG K m H U/\av K m H x v/\eu T x U=some (.v (.bl d),U)/\Q (.bl d) H
def JCh {X : Cx} {T : String} (hT : oe X.K T) : g7 X (.builtin "isinstance") (Ni X.K T) := by
  intro AB s Y H vs us Q I rv q
  obtain⟨m, U, x, v, d, rfl, S, rx, e, q⟩ := q
  obtain⟨t, e1, e⟩ := Az.mp e
  cases e
  cases rv with
  | cons r1 rr=>
    cases rr with
    | cons r2 rr=>
      cases rr
      cases r2
      have fin : ∀ tk, EP X AB Y Q (.bool (t == T || (t == "bool" && T == "int"))) { s with toks := tk } :=λtk=> {.bl _, H, I.tok tk, rfl, q}
      cases x with
      | v d0=>
        cases d0 with
        | non => cases e1; have r : v = .non := by simpa only [av, ak] using rx
                 subst r; cases r1; exact EW PySem.W.kitx_none I.kIn True.intro (hT _ ∅) (λz=> nomatch z) fin
        | bl b => cases e1; have r : v = .bl b := by simpa only [av, ak] using rx
                  subst r; cases r1; exact EW PySem.W.kitx_bool I.kIn True.intro (hT _ ∅) (λz=> nomatch z) fin
        | int i => cases e1; have r : v = .int i := by simpa only [av, ak] using rx
                   subst r; obtain⟨t, rfl⟩ := r1; exact EW PySem.W.kitx_int I.kIn True.intro (hT _ ∅) (λz=> nomatch z) fin
        | str i => cases e1; have r : v = .str i := by simpa only [av, ak] using rx
                   subst r; obtain⟨t, rfl⟩ := r1; exact EW PySem.W.kitx_str I.kIn True.intro (hT _ ∅) (λz=> nomatch z) fin
        | tup xs=>
          cases e1
          rwa[av, ak] at rx
          obtain⟨a, ws, rfl, q', _⟩ := rx
          cases r1
          obtain⟨its, _, ⟨o, h1, h2, _⟩, _⟩ := I.tuple q'
          exact EW PySem.W.kitx_tuple I.kIn {o, h1, h2} (hT _ ∅) (λz=> nomatch z) fin
        | fl xs=>
          cases e1
          rwa[av, ak] at rx
          obtain⟨a, ws, rfl, q', _⟩ := rx
          cases r1
          obtain⟨its, _, ⟨o, n, h1, h2, _⟩, _⟩ := I.list q'.sq
          exact EW zcM I.kIn {o, h1, h2} (hT _ ∅) (λz=> nomatch z) fin
        | fd ks ds=>
          cases e1
          rwa[av, ak] at rx
          obtain⟨a, o', es, rfl, q', _⟩ := rx
          cases r1
          obtain⟨_, _, _, vs, _, p⟩ := (show be X.prog X.w H s.heap a (.frz o' (.dK es)) from I.hok a _ q')
          obtain⟨o, BZ, ep, h1, h2, _⟩ := p
          exact EW zcN I.kIn {o, h1, h2.1} (hT _ ∅) (λz=> nomatch z) fin
        | key ks=>
          cases e1
          rwa[av, ak] at rx
          obtain⟨a, rfl, q'⟩ := rx
          cases r1
          obtain⟨its, _, ⟨o, h1, h2, _⟩, _⟩ := I.tuple (.inl (.inl q'))
          exact EW PySem.W.kitx_tuple I.kIn {o, h1, h2} (hT _ ∅) (λz=> nomatch z) fin
      | s _ _=> cases e1
      | x _=> cases e1
      | f _ _=> cases e1
      | p n=>
        obtain⟨a, rfl, ha⟩ := rx
        cases r1
        delta IR at e1
        dsimp only at e1
        split at e1
        · rename_i xs z
          cases e1
          obtain⟨ws, q', _⟩ := S.cell n _ a z ha
          obtain⟨its, _, ⟨o, n, h1, h2, _⟩, _⟩ := I.list (.inl (.inl q'))
          exact EW zcM I.kIn {o, h1, h2} (hT _ ∅) (λz=> nomatch z) fin
        · rename_i xs z
          cases e1
          obtain⟨o', ws, q', _⟩ := S.cell n _ a z ha
          obtain⟨its, _, ⟨o, n, h1, h2, _⟩, _⟩ := I.list (.inl (.inr {o', q'}))
          exact EW zcM I.kIn {o, h1, h2} (hT _ ∅) (λz=> nomatch z) fin
        · rename_i Ab z
          cases e1
          obtain⟨es, q', _⟩ := S.cell n _ a z ha
          obtain⟨_, _, vs, _, p⟩ := (show be X.prog X.w H s.heap a (.dK es) from I.hok a _ q')
          obtain⟨o, BZ, ep, h1, h2, _⟩ := p
          exact EW zcN I.kIn {o, h1, h2.1} (hT _ ∅) (λz=> nomatch z) fin
        · rename_i Ab z
          cases e1
          obtain⟨es, q', _⟩ := S.cell n _ a z ha
          obtain⟨_, _, vs, _, p⟩ := (show be X.prog X.w H s.heap a (.dK es) from I.hok a _ q')
          obtain⟨o, BZ, ep, h1, h2, _⟩ := p
          exact EW zcN I.kIn {o, h1, h2.1} (hT _ ∅) (λz=> nomatch z) fin
        · cases e1
def JGa {H:Hp}{Q:VK}{fa:FE}{T:String}(h:ax K (jM (eu T) fa) Y H Q):ML (Ni K T) (nN (ax K fa) (nN (tC (.ty T)) wJ)) Y H Q:=by let⟨O,U,m,d,U',hl,hs,e,k⟩:=h;let⟨⟨x,U1⟩,e1,e⟩:=Az.mp e;have e0:=e;let⟨t,e2,e⟩:=Az.mp e;cases e;exact{O,U,m,x,_,hl,hs,e1,λv H1 m1 x1 s1 r1=>{m1,_,x,v,_,rfl,s1,r1,e0,k _ H1 m1 x1 s1 (by rwa[av,ak])}}
end HW
namespace HW
variable {K:Ax}
open PyProof.Rows L2 HS
noncomputable def Ah (x:Int):R4 Int->Th
 |[]=>[x]
 |y::ys=>if x<=y then x::y::ys else y::Ah x ys
noncomputable def gT:R4 Int->Th
 |[]=>[]
 |x::xs=>Ah x (gT xs)
theorem nq (x:Int):∀xs,(Ah x xs).Perm (x::xs)
 |[]=>.refl _
 |y::ys=>by
  unfold Ah;split
  ·exact .refl _
  ·exact((nq x ys).cons y).trans (.swap _ _ _)
theorem dY:∀xs,(gT xs).Perm xs
 |[]=>.refl _
 |x::xs=>(nq x _).trans ((dY xs).cons x)
theorem nX (x:Int):∀{xs:Th},xs.Pairwise (·<=·)->(Ah x xs).Pairwise (·<=·)
 |[],_=>zcm _ _
 |y::ys,h=>by
  unfold Ah;let⟨h1,h2⟩:=EI.mp h;split
  ·rename_i hxy;refine EI.mpr {λz hz=>?_,h};rcases BV.mp hz with rfl|hz
   ·exact hxy
   ·exact Int.le_trans hxy (h1 z hz)
  ·rename_i hxy;refine EI.mpr {λz hz=>?_,nX x h2};rcases BV.mp ((nq x ys).mem_iff.mp hz) with rfl|hz
   ·omega
   ·exact h1 z hz
theorem jj:∀xs,(gT xs).Pairwise (·<=·)
 |[]=>.nil
 |x::xs=>nX x (jj xs)
theorem pz:∀{xs ys:Th},xs.Pairwise (·<=·)->ys.Pairwise (·<=·)->xs.Perm ys->xs=ys
 |[],ys,_,_,p=>(List.Perm.nil_eq p)
 |x::xs,[],_,_,p=>Au p.length_eq ∅
 |x::xs,y::ys,hx,hy,p=>by
  let⟨J9,hx2⟩:=EI.mp hx;let⟨hy1,hy2⟩:=EI.mp hy;have e:x=y:=by
   have h1:x∈y::ys:=p.mem_iff.mp ∅;have h2:y∈x::xs:=p.mem_iff.mpr ∅;rcases BV.mp h1 with h|h
   ·exact h
   ·rcases BV.mp h2 with h'|h'
    ·exact h'.symm
    ·exact Int.le_antisymm (J9 y h') (hy1 x h)
  subst e;rw[pz hx2 hy2 ((List.perm_cons _).mp p)]
def vI {xs ns:Th}(h:ns.Pairwise (·<=·))(p:ns.Perm xs):ns=gT xs:=pz h (jj xs) (p.trans (dY xs).symm)
theorem d7:∀{ns:Th} {its:Te},aM (ns.map V.int) its->IntsAre its ns
 |[],its,h=>by cases h;exact .nil
 |n::ns,its,h=>by
  cases h with
  |cons r t=>let⟨tk,rfl⟩:=r;exact .cons n tk (d7 t)
theorem nj:∀{ns:Th} {its:Te},IntsAre its ns->aM (ns.map V.int) its
 |_,_,.nil=>.nil
 |_,_,.cons n t h=>.cons {t,rfl} (nj h)
abbrev fG (o:BO):HO:=.frz o (.ext λ_=>True)
def PN (K:Ax)(b:Ad):R4 V->Hp->VK->Prop:=λvs H Q=>∃p ns,vs=[.ref p]/\gY K H p (ns.map V.int)/\ns.length<4000/\∀l o,H l=none->c8 b o (aK [] ns)->Q (.ref l) (upd H l (fG o))
def JAw {X:Cx}(hc:X.calm=true):g7 X (.type "set") (PN X.K (!HS.bt X.w)):=by intro AB s Y H vs us Q I r h;obtain⟨p,ns,rfl,hq,hn,q⟩:=h;obtain⟨u,rfl,rx⟩:=iP r;cases rx;obtain⟨its,r',pl,hz⟩:=I.tuple hq;have hI:=d7 r';have hl:its.length=ns.length:=IntsAre.length hI;obtain⟨o',DV,JG,n',hd'⟩:=pl;refine JDl (its:=its.toArray) (ns:=ns) (I.ok.hd hc) {o',DV,JG,n',hd'} ‹hI› (by simp[scanBound,hl];omega) λh' tk o ho hS kp ht=>?_;exact{.ref s.heap.objs.size,_,I.laid (t':=tk) kp (BL _) (show be X.prog X.w _ h' _ (fG o) from{ho,trivial,{o,ho},λ_ _ _ _=>trivial}),rfl,q _ _ (I.hok.fresh (BL _)) hS}
def sW (b:Ad):R4 V->Hp->VK->Prop:=λvs H Q=>∃p o xs,vs=[.ref p]/\H p=some (fG o)/\c8 b o xs/\xs.length<64/\∀l,H l=none->Q (.ref l) (upd H l (.lst ((gT xs).map V.int)))
def az.drw {H:Hp}{s:AP}(I:az X AB Y H s)(d:Drawn):az X AB Y H {s with drawn:=d} :=
 {I.ok,I.os,I.bare,I.base,I.loc,I.cell,I.free,I.freeC,I.pin,I.hok,I.len}
def t7 {X:Cx}(hc:X.calm=true):g7 X (.builtin "sorted") (sW (!HS.bt X.w)):=by
 intro AB s Y H vs us Q I r h;let⟨p,o,xs,rfl,hp,hS,Fx,q⟩:=h;let⟨u,rfl,rx⟩:=iP r;cases rx;have ho:s.heap.get? p=some o:=(I.hok p _ hp).1;refine wM (I.ok.hd hc) ho hS Fx λout ns h' d tk l c a1 a2 a3 kp ht hl hL=>?_;have e:=vI a3 a2;subst e;have hlen:(gT xs).length=xs.length:=(dY xs).length_eq;have I1:az X AB Y (upd H l (.lst ((gT xs).map V.int))) {s with heap:=h',toks:=tk} :=
  I.laid (t':=tk) kp hl (show be X.prog X.w _ h' _ (.lst _) from{by rw[BR,hlen,D9];omega,out.toList,c,nj a1,by simpa[seqObj] using hL})
 exact{.ref l,_,az.drw I1 d,rfl,q _ (I.hok.fresh hl)}
noncomputable def iZ:R4 D->AA (Th)
 |[]=>some []
 |.int n::r=>(iZ r).map (n :: ·)
 |_=>none
theorem mB:∀{ds:R4 D} {ns:Th},iZ ds=some ns->ds=ns.map D.int
 |[],ns,e=>by cases e;rfl
 |d::r,ns,e=>by cases d <;> rwa[iZ] at e <;> first|cases e|skip;let⟨ms,e1,rfl⟩:=DN.mp e;rw[mB e1];rfl
theorem mz {K:Ax}{H:Hp}:∀{ns:Th} {vs:R4 V},RelDs K H (ns.map D.int) vs->vs=ns.map V.int
 |[],vs,h=>h
 |n::ns,vs,h=>by
  let⟨v,r,rfl,h1,h2⟩:=h;have h1:v=.int n:=by simpa only[ak] using h1
  rw[h1,mz h2];rfl
theorem pI {K:Ax}{H:Hp}:∀{ns:Th},RelDs K H (ns.map D.int) (ns.map V.int)
 |[]=>rfl
 |n::ns=>{_,_,rfl,by rwa[ak],pI}
noncomputable def yi (b:Ad):R4 R->ac->AA (R×ac)
 |[.s c xs],U=>if c=b/\xs.length<64 then some (.p U.length,U++[.lst ((gT xs).map D.int)]) else none
 |_,_=>none
def Do {b:Ad}:zj K (yi b) (sW b):=by
 intro m H U xs d U' vs Q s r e k;unfold yi at e;split at e
 ·rename_i c ys;split at e
  ·rename_i hn;let⟨rfl,hn⟩:=hn;cases e;let⟨v,rfl,r1⟩:=mX r;let⟨a,o,rfl,q,hS⟩:=r1;refine{a,o,ys,rfl,q,hS,hn,λl hl=>k _ _ (m++[l]) (.newH hl) (s.newH hl {_,aN,pI}) {l,rfl,?_}};rw[←s.len];simp
  ·cases e
 ·cases e
def B0 (b:Ad):R2:=λx y H Q=>∃p q o o' xs ys,x=.ref p/\y=.ref q/\H p=some (fG o)/\H q=some (fG o')/\c8 b o xs/\c8 b o' ys/\xs.length+ys.length<64/\∀l u,H l=none->c8 b u (aK xs ys)->Q (.ref l) (upd H l (fG u))
def JBu {X:Cx}:jN X (binaryOp .BitOr) (B0 (!HS.bt X.w)):=by intro AB s Y H x y v u Q I rx ry h;let⟨p,q,o,o',xs,ys,rfl,rfl,hp,hq,S1,S2,hz,k⟩:=h;cases rx;cases ry;refine jP (I.hok p _ hp).1 S1 (I.hok q _ hq).1 S2 ∅ λh' d u kp g S=>?_;have I1:az X AB Y (upd H s.heap.objs.size (fG u)) {s with heap:=h',toks:=s.toks}:=I.laid (t':=s.toks) kp (BL _) (show be X.prog X.w _ h' _ (fG u) from{g,trivial,{u,g},λ_ _ _ _=>trivial});exact{.ref s.heap.objs.size,_,az.drw I1 d,rfl,k _ _ (I.hok.fresh (BL _)) S}
noncomputable def LN (b:Ad):R->R->ac->AA (R×ac)
 |.s c xs,.s c' ys,U=>if c=b/\c'=b/\xs.length+ys.length<64 then some (.s b (aK xs ys),U) else none
 |_,_,_=>none
def uL {H:Hp}{l:Aa}{o:HO}(hl:H l=none):∀a o',H a=some o'->upd H l o a=some o':=λa o' e=>by rw[aq (λz=>by rw[z,hl] at e;cases e)];exact e
def Qc {b:Ad}:o0 K (LN b) (B0 b):=by
 intro m H U x y d U' v u Q s rx ry e k;unfold LN at e;split at e
 ·split at e
  ·rename_i hc;let⟨rfl,rfl,hz⟩:=hc;cases e;let⟨p,o,rfl,hp,S1⟩:=rx;let⟨q,o',rfl,hq,S2⟩:=ry;exact{p,q,o,o',_,_,rfl,rfl,hp,hq,S1,S2,hz,λl w hl S=>k _ _ m (.new hl) (s.same (uL hl)) {l,w,rfl,aN,S}}
  ·cases e
 ·cases e
def HJ (K:Ax)(b:Ad):R4 V->Hp->VK->Prop:=λvs H Q=>∃p ns,vs=[.ref p]/\(iM K H p (ns.map V.int)\/gY K H p (ns.map V.int))/\ns.length<4000/\∀l o,H l=none->c8 b o (aK [] ns)->Q (.ref l) (upd H l (fG o))
def JAb {X:Cx}(hc:X.calm=true):g7 X (.type "set") (HJ X.K (!HS.bt X.w)):=by
 intro AB s Y H vs us Q I r h;let⟨p,ns,rfl,hq,hn,q⟩:=h;rcases hq with hq|hq
 ·let⟨u,rfl,rx⟩:=iP r
  cases rx;let⟨its,r',pl,hz⟩:=I.list hq;have hI:=d7 r';have hl:its.length=ns.length:=IntsAre.length hI;refine JDn (its:=its.toArray) (ns:=ns) (I.ok.hd hc) pl.isList ‹hI› (by simp[scanBound,hl];omega) λh' tk o ho hS kp ht=>?_;exact{.ref s.heap.objs.size,_,I.laid (t':=tk) kp (BL _) (show be X.prog X.w _ h' _ (fG o) from{ho,trivial,{o,ho},λ_ _ _ _=>trivial}),rfl,q _ _ (I.hok.fresh (BL _)) hS}
 ·exact JAw hc AB s Y H _ us Q I r {p,ns,rfl,hq,hn,q}
noncomputable def wQ (b:Ad):R4 R->ac->AA (R×ac)
 |[x],U=>(dF x U).bind λds=>(iZ ds).bind λns=>if ns.length<4000 then some (.s b (aK [] ns),U) else none
 |_,_=>none
def K7 {b:Ad}:zj K (wQ b) (HJ K b):=by
 intro m H U xs d U' vs Q s r e k;unfold wQ at e;split at e
 ·let⟨ds,e0,e⟩:=Az.mp e;let⟨ns,e1,e⟩:=Az.mp e;split at e
  ·rename_i hn
   cases e;let⟨v,rfl,r1⟩:=mX r;let⟨a,ws,rfl,q,rr⟩:=iY s r1 e0;rw[mB e1] at rr;rw[mz rr] at q;exact{a,ns,rfl,q,hn,λl o hl hS=>k _ _ m (.new hl) (s.same (uL hl)) {l,o,rfl,aN,hS}}
  ·cases e
 ·cases e
def uQ (K:Ax)(b:Ad):R4 V->Hp->VK->Prop:=λvs H Q=>sW b vs H Q\/∃p ns,vs=[.ref p]/\iM K H p (ns.map V.int)/\ns.length<64/\∀l,H l=none->Q (.ref l) (upd H l (.lst ((gT ns).map V.int)))
def t8 {X:Cx}(hc:X.calm=true):g7 X (.builtin "sorted") (uQ X.K (!HS.bt X.w)):=by
 intro AB s Y H vs us Q I r h;rcases h with h|⟨p,ns,rfl,hq,Fx,q⟩
 ·exact t7 hc AB s Y H vs us Q I r h
 ·let⟨u,rfl,rx⟩:=iP r
  cases rx;obtain⟨its,r',pl,hz⟩:=I.list hq;have hI:=d7 r';have hl:its.length=ns.length:=IntsAre.length hI;refine sorted_ints (vs:=its) (ns:=ns) pl.isList hI ∅ λout ns' a1 a2 a3=>?_;have e:=vI a3 a2;subst e;have hlen:(gT ns).length=ns.length:=(dY ns).length_eq;have hsz:((s.heap.push (seqObj "list" #[] 0)).update s.heap.objs.size (Obj.mapSeq (·++its.toArray))).objs.size=s.heap.objs.size+1:=by rw[zcP,size_push']
  have FD:(((s.heap.push (seqObj "list" #[] 0)).update s.heap.objs.size (Obj.mapSeq (·++its.toArray))).push (seqObj "list" its.toArray 0)).get? (s.heap.objs.size+1)=some (seqObj "list" its.toArray 0):=by rw[←hsz];exact Bd _ rfl
  obtain⟨c,hcx⟩:∃c,(sortedAll s.heap its out).get? (s.heap.objs.size+1)=some (seqObj "list" out c):=by unfold sortedAll sortedHeap;obtain⟨e1,q1⟩:∃e1,((((s.heap.push (seqObj "list" #[] 0)).update s.heap.objs.size (Obj.mapSeq (·++its.toArray))).push (seqObj "list" its.toArray 0)).update (s.heap.objs.size+1) (Obj.mapSeq λ_=>#[])).get? (s.heap.objs.size+1)=some (seqObj "list" #[] e1):={_,get?_update_seq FD (λ_=>#[])};exact{_,get?_update_seq (BK _ (BK _ q1)) (λ_=>out)}
  have kp:∀b o,s.heap.get? b=some o->(sortedAll s.heap its out).get? b=some o:=λb o e=>by have hb:=BQ e;have n1:s.heap.objs.size+1≠b:=DR (zbA hb);have n0:s.heap.objs.size≠b:=DR hb;unfold sortedAll sortedHeap;rw[DO _ _ n1];refine BK _ (BK _ ?_);rw[DO _ _ n1];refine BK _ ?_;rw[DO _ _ n0];exact BK _ e
  exact{.ref (s.heap.objs.size+1),_,I.laid (t':=s.toks) kp (Fz _) (show be X.prog X.w _ _ _ (.lst _) from{by rw[BR,hlen,D9];omega,out.toList,c,nj a1,by simpa[seqObj] using hcx}),rfl,q _ (I.hok.fresh (Fz _))}
noncomputable def kL (b:Ad):R4 R->ac->AA (R×ac)
 |[.s c xs],U=>if c=b/\xs.length<64 then some (.p U.length,U++[.lst ((gT xs).map D.int)]) else none
 |[x],U=>(lh x U).bind λds=>(iZ ds).bind λns=>if ns.length<64 then some (.p U.length,U++[.lst ((gT ns).map D.int)]) else none
 |_,_=>none
def JAo {b:Ad}:zj K (kL b) (uQ K b):=by
 intro m H U xs d U' vs Q s r e k;unfold kL at e;split at e
 ·exact .inl (Do m H U _ d U' vs Q s r e k)
 ·rename_i x _;let⟨ds,e0,e⟩:=Az.mp e;let⟨ns,e1,e⟩:=Az.mp e;split at e
  ·rename_i hn
   cases e;let⟨v,rfl,r1⟩:=mX r;let⟨a,ws,rfl,q,rr⟩:=jh s r1 e0;rw[mB e1] at rr;rw[mz rr] at q;refine .inr {a,ns,rfl,q,hn,λl hl=>k _ _ (m++[l]) (.newH hl) (s.newH hl {_,aN,pI}) {l,rfl,?_}};rw[←s.len];simp
  ·cases e
 ·cases e
noncomputable def OS (neg:Ad):R->R->ac->AA (R×ac)
 |.v (.int i),y,U=>(dF y U).bind λds=>(iZ ds).bind λns=>some (.v (.bl (if neg then !ns.contains i else ns.contains i)),U)
 |_,_,_=>none
theorem vK {i:Int}:∀{ns:Th},OR (.int i) (ns.map V.int)=ns.contains i
 |[]=>rfl
 |n::ns=>by
  have ih:=vK (i:=i) (ns:=ns);unfold OR at ih ⊢;rw[BH,E7,ih,List.contains_cons]
  show(n == i || ns.contains i)=_
  rw[show(n == i)=(i == n) from Bool.eq_iff_iff.mpr {λh=>beq_iff_eq.mpr (beq_iff_eq.mp h).symm,λh=>beq_iff_eq.mpr (beq_iff_eq.mp h).symm}]
theorem sg:∀{ns:Th},(ns.map V.int).all mD=true
 |[]=>rfl
 |n::ns=>by rw[BH,List.all_cons,sg];rfl
def N6 {neg:Ad}:o0 K (OS neg) (PU K neg):=by
 intro m H U x y d U' v u Q s rx ry e k;unfold OS at e;split at e
 ·let⟨ds,e0,e⟩:=Az.mp e;let⟨ns,e1,e⟩:=Az.mp e;cases e;rwa[av,ak] at rx;subst rx;let⟨a,ws,rfl,q,rr⟩:=iY s ry e0;rw[mB e1] at rr;rw[mz rr] at q;refine{a,ns.map V.int,rfl,q,rfl,sg,k _ H m .refl s ?_};rwa[av,ak,vK]
 ·cases e
def d5 (K:Ax)(H:Hp):R4 V->R4 (aE×V)->Prop:=Paired λv kv=>∃t,v=.ref t/\gY K H t [kV kv.1,kv.2]
noncomputable def mv (Ab ps:R4 (aE×V)):R4 (aE×V):=ps.foldl (λa p=>eP a p.1 p.2) Ab
theorem uW:∀(ps Ab:R4 (aE×V)),(mv Ab ps).length<=Ab.length+ps.length
 |[],Ab=>by simp[mv]
 |p::ps,Ab=>by have h1:=uW ps (eP Ab p.1 p.2);have h2:=j7 Ab p.1 p.2;rwa[mv,EX,CK] at h1 ⊢;omega
theorem uV:∀{ps:R4 (aE×V)} {qs:R4 (aE×AU)} {Ab:R4 (aE×V)} {vs:R4 (aE×AU)},KV Ab vs->KV ps qs->KV (mv Ab ps) (HS.putAll vs qs)
 |_,_,_,_,r,.nil=>r
 |p::ps,q::qs,_,_,r,.cons e t=>by let⟨e1,e2⟩:=e;rwa[mv,HS.putAll,EX];rw[←e1];exact uV (ps:=ps) (qs:=qs) (KV.put r p.1 e2) t
def JBr {X : Cx} {H : Hp} {s : AP} (I : az X AB Y H s) : ∀ {ws : R4 V} {Ab : R4 (aE × V)} {its : Te}, d5 X.K H ws Ab -> aM ws its ->
    ∃ ps : R4 (aE × AU), KV Ab ps /\ ps.length = its.length /\ ∀ (i : Nat) v, its[i]? = some v -> ∃ k x key, ps[i]? = some (k, x) /\ (bi X.prog X.w).is k key = true /\ gZ s.heap v key x := by
  intro ws Ab its p v
  induction p generalizing its with
  | nil=> cases v; exact{[], .nil, rfl,λi v e=> by simp at e}
  | @cons _ kv _ _ hp tp ih=>
   obtain⟨k, y⟩ := kv
   cases v with
   | cons hv tv=>
    obtain⟨ps, a1, a2, a3⟩ := ih tv
    obtain⟨t, rfl, hs⟩ := hp
    cases hv
    obtain⟨js, r, ⟨o, ho, hc, n, hd⟩, _⟩ := I.tuple hs
    cases r with
    | cons r1 rr=>
      cases rr with
      | cons r2 rr=>
        cases rr
        rename_i key x
        refine{(k, x) :: ps, .cons {rfl, r2} a1, by simp[a2],λi v e=> ?_}
        cases i with
        | zero=> simp at e; subst e; exact{k, x, key, rfl, vH r1, {t, o, n, rfl, ho, hc, hd}}
        | succ i=> simpa using a3 i v ‹e›
def yr (K:Ax):R4 V->Hp->VK->Prop:=λvs H Q=>∃p ws Ab,vs=[.ref p]/\H p=some (.lst ws)/\d5 K H ws Ab/\∀l,H l=none->Q (.ref l) (upd H l (.dK (mv [] Ab)))
def nG {X:Cx}(hc:X.calm=true):g7 X (.type "dict") (yr X.K):=by
 intro AB s Y H vs us Q I r h;let⟨p,ws,Ab,rfl,hH,hp,q⟩:=h;let⟨u,rfl,rx⟩:=iP r;cases rx;let⟨z,its,n,rv,hl,e⟩:=I.lstM hH;let⟨ps,a1,a2,a3⟩:=JBr I hp rv;have hk:Ab.length=its.length:=by have:=Paired.length a1;omega
 refine JCt (knd:=bi X.prog X.w) (ps:=ps) (I.ok.hd hc) e ‹a2› (by simp;omega) (λi v hv=>a3 i v ‹hv›) λh' tk hD kp=>?_;have hz:(mv [] Ab).length<=sizeLine:=by have:=uW Ab [];simp at this;omega
 exact{.ref s.heap.objs.size,_,I.laid (t':=tk) kp (BL _) (show be X.prog X.w _ h' _ (.dK _) from{hz,beq_eq_false_iff_ne.mpr (DR I.big),_,uV .nil a1,hD}),rfl,q _ (I.hok.fresh (BL _))}
noncomputable def m6:R4 D->AA (R4 (aE×D))
 |[]=>some []
 |.tup [.int i,d]::r=>(m6 r).map ((.inl i,d) :: ·)
 |_=>none
noncomputable def hJ (Ab:R4 (aE×D))(k:aE)(v:D):R4 (aE×D):=if (Ab.any λkv=>decide (kv.1=k))=true then Ab.map (λkv=>if kv.1=k then (kv.1,v) else kv) else Ab++[(k,v)]
noncomputable def aQ (Ab ps:R4 (aE×D)):R4 (aE×D):=ps.foldl (λa p=>hJ a p.1 p.2) Ab
def KD (K:Ax)(H:Hp)(Ab:R4 (aE×D))(es:R4 (aE×V)):Prop:=es.map (·.1)=Ab.map (·.1)/\RelDs K H (Ab.map (·.2)) (es.map (·.2))
def KD.nil {H:Hp}:KD K H [] []:={rfl,rfl}
def KD.any {H:Hp}{Ab:R4 (aE×D)}{es:R4 (aE×V)}(r:KD K H Ab es)(k:aE):(es.any λkv=>decide (kv.1=k))=(Ab.any λkv=>decide (kv.1=k)):=by
 have h1:∀{β:Type} (l:R4 (aE×β)),(l.any λkv=>decide (kv.1=k))=((l.map (·.1)).any λx=>decide (x=k)):=λl=>by rw[zcC];rfl
 rw[h1,h1,r.1]
def KD.cons {K:Ax}{H:Hp}{k k':aE}{d:D}{v:V}{Ab:R4 (aE×D)}{es:R4 (aE×V)}:KD K H ((k,d)::Ab) ((k',v)::es) ↔ k'=k/\ak K H d v/\KD K H Ab es:=by
 constructor
 ·rintro⟨h1,h2⟩;rwa[BH,List.cons.injEq] at h1;let⟨w,r,e,h3,h4⟩:=h2;rwa[BH,List.cons.injEq] at e;let⟨rfl,rfl⟩:=e;exact{h1.1,h3,h1.2,h4}
 ·rintro⟨rfl,h1,h2,h3⟩;exact{by simp[h2],{_,_,rfl,h1,h3}}
theorem KD.repl {K:Ax}{H:Hp}{k:aE}{d:D}{v:V}(rd:ak K H d v):∀{Ab:R4 (aE×D)} {es:R4 (aE×V)},KD K H Ab es->KD K H (Ab.map λkv=>if kv.1=k then (kv.1,d) else kv) (es.map λkv=>if kv.1=k then (kv.1,v) else kv)
 |[],[],_=>.nil
 |[],e::es,h=>by have:=h.1;simp at this
 |q::Ab,[],h=>by have:=h.1;simp at this
 |(a,x)::Ab,(b,y)::es,h=>by
  let⟨rfl,h1,h2⟩:=KD.cons.mp h;have ih:=KD.repl (k:=k) rd h2;rw[BH,BH];by_cases e:b=k
  ·rw[Ae e,Ae e];exact KD.cons.mpr {rfl,rd,ih}
  ·rw[Ac e,Ac e];exact KD.cons.mpr {rfl,h1,ih}
theorem KD.snoc {K:Ax}{H:Hp}{k:aE}{d:D}{v:V}(rd:ak K H d v):∀{Ab:R4 (aE×D)} {es:R4 (aE×V)},KD K H Ab es->KD K H (Ab++[(k,d)]) (es++[(k,v)])
 |[],[],_=>KD.cons.mpr {rfl,rd,.nil}
 |[],e::es,h=>by have:=h.1;simp at this
 |q::Ab,[],h=>by have:=h.1;simp at this
 |(a,x)::Ab,(b,y)::es,h=>by let⟨rfl,h1,h2⟩:=KD.cons.mp h;exact KD.cons.mpr {rfl,h1,KD.snoc rd h2}
def KD.put {H:Hp}{k:aE}{d:D}{v:V}{Ab:R4 (aE×D)}{es:R4 (aE×V)}(r:KD K H Ab es)(rd:ak K H d v):KD K H (hJ Ab k d) (eP es k v):=by
 unfold hJ eP;rw[r.any k];split
 ·exact r.repl rd
 ·exact r.snoc rd
theorem KD.putAll {K:Ax}{H:Hp}:∀{ps:R4 (aE×D)} {qs:R4 (aE×V)} {Ab:R4 (aE×D)} {es:R4 (aE×V)},KD K H Ab es->KD K H ps qs->KD K H (aQ Ab ps) (mv es qs)
 |[],[],_,_,r,_=>r
 |[],e::es,_,_,_,h=>by have:=h.1;simp at this
 |q::Ab,[],_,_,_,h=>by have:=h.1;simp at this
 |(a,x)::ps,(b,y)::qs,_,_,r,h=>by let⟨rfl,h1,h2⟩:=KD.cons.mp h;exact KD.putAll (ps:=ps) (qs:=qs) (r.put h1) h2
theorem rQ {K:Ax}{H:Hp}:∀{ds:R4 D} {ws:R4 V} {Ab:R4 (aE×D)},m6 ds=some Ab->RelDs K H ds ws->∃qs,d5 K H ws qs/\KD K H Ab qs
 |[],ws,Ab,e,r=>by cases e;have r:ws=[]:=r;subst r;exact{[],.nil,.nil}
 |d::ds,ws,Ab,e,r=>by
  let⟨v,JK,rfl,r1,r2⟩:=r;unfold m6 at e;split at e
  ·cases e;rename_i h;cases h
  ·rename_i i x r' h
   cases h;let⟨ks,e1,rfl⟩:=DN.mp e;let⟨qs,p1,p2⟩:=rQ e1 r2;rwa[ak] at r1;let⟨a,vs,rfl,hq,hr⟩:=r1;let⟨v1,t1,rfl,h1,hr⟩:=hr;let⟨v2,t2,rfl,h2,hr⟩:=hr;have hr:t2=[]:=hr;subst hr;have h1:v1=.int i:=(by simpa only[ak] using h1);subst h1;exact{(.inl i,v2)::qs,.cons {a,rfl,hq} p1,KD.cons.mpr {rfl,h2,p2}}
  ·cases e
noncomputable def qu:R4 R->ac->AA (R×ac)
 |[.p n],U=>match U[n]? with
  |some (.lst ds)=>(m6 ds).bind λAb=>some (.p U.length,U++[.dct (aQ [] Ab)])
  |_=>none
 |_,_=>none
def Lc {K:Ax}:zj K qu (yr K):=by
 intro m H U xs d U' vs Q s r e k;unfold qu at e;split at e
 ·rename_i n;split at e
  ·rename_i ds hn;let⟨Ab,e1,e⟩:=Az.mp e;cases e;let⟨v,rfl,r1⟩:=mX r;let⟨a,rfl,ha⟩:=r1;let⟨ws,ea,ra⟩:=s.cell _ _ a hn ha;let⟨qs,p1,p2⟩:=rQ e1 ra;refine{a,ws,qs,rfl,ea,p1,λl hl=>?_};have x:cV m H (m++[l]) (upd H l (.dK (mv [] qs))):=.newH hl;have hk:=KD.putAll (K:=K) (H:=H) .nil p2;refine k _ _ (m++[l]) x (s.newH hl {_,aN,hk.1,RelDs.tf x.tf _ _ hk.2}) {l,rfl,?_};rw[←s.len];simp
  ·cases e
 ·cases e
def yq (neg:Ad):R2:=λx y H Q=>∃p Ab k,y=.ref p/\x=kV k/\Rd H p (.dK Ab)/\Q (.bl (if neg then !(dg Ab k).isSome else (dg Ab k).isSome)) H
def zQ {X:Cx}(hu:X.A.units+64<cLine):jN X (compareOp .In) (yq false):=by intro AB s Y H x y v u Q I rx ry h;let⟨p,Ab,k,rfl,rfl,hR,q⟩:=h;cases ry;exact Q2 ∅ I (.inl {Ab,k,hR,rfl,rfl}) rx λs' I'=>{.bl _,H,I',rfl,q}
theorem mP (k:aE):∀(es:R4 (aE×V)),(dg es k).isSome=es.any λkv=>decide (kv.1=k)
 |[]=>rfl
 |(a,v)::es=>by
  have ih:=mP k es;unfold dg at ih ⊢;by_cases e:a=k
  ·simp[e]
  ·simpa[e] using ih
noncomputable def F1 (neg:Ad):R->R->ac->AA (R×ac)
 |.v (.int i),.p n,U=>match U[n]? with
  |some (.dct Ab)=>some (.v (.bl (if neg then !(Ab.any λkv=>decide (kv.1=.inl i)) else Ab.any λkv=>decide (kv.1=.inl i))),U)
  |some (.fzd Ab)=>some (.v (.bl (if neg then !(Ab.any λkv=>decide (kv.1=.inl i)) else Ab.any λkv=>decide (kv.1=.inl i))),U)
  |_=>OS neg (.v (.int i)) (.p n) U
 |x,y,U=>OS neg x y U
def N5 {K:Ax}{neg:Ad}:o0 K (F1 neg) (λx y H Q=>PU K neg x y H Q\/yq neg x y H Q):=by
 intro m H U x y d U' v u Q s rx ry e k;unfold F1 at e;split at e
 ·rename_i i n;split at e
  ·rename_i Ab hn
   cases e;rwa[av,ak] at rx;subst rx;let⟨a,rfl,ha⟩:=ry;let⟨es,ea,e1,e2⟩:=s.cell _ _ a hn ha;refine .inr {a,es,.inl i,rfl,rfl,.inl ea,k _ H m .refl s ?_};have hv:=(mP (.inl i) es).trans (KD.any (K:=K) (H:=H) {e1,e2} (.inl i));rw[hv];rwa[av,ak]
  ·rename_i Ab hn
   cases e;rwa[av,ak] at rx;subst rx;let⟨a,rfl,ha⟩:=ry;let⟨o,es,ea,e1,e2⟩:=s.cell _ _ a hn ha;refine .inr {a,es,.inl i,rfl,rfl,.inr {o,ea},k _ H m .refl s ?_};have hv:=(mP (.inl i) es).trans (KD.any (K:=K) (H:=H) {e1,e2} (.inl i));rw[hv];rwa[av,ak]
  ·exact .inl (N6 m H U _ _ d U' v u Q s rx ry e k)
 ·exact .inl (N6 m H U _ _ d U' v u Q s rx ry e k)
end HW
namespace HW
open PyProof.Rows L2
mutual
noncomputable def dq:D->Ad
 |.tup xs=>flatDs xs
 |.fl _=>false
 |.fd _ _=>false
 |_=>true
noncomputable def flatDs:R4 D->Ad
 |[]=>true
 |x::xs=>dq x&&flatDs xs
end
noncomputable def Pt:R->ac->AA D
 |.v d,_=>some d
 |.p n,U=>match U[n]? with
  |some (.lst xs)=>some (.fl xs)|some (.fz xs)=>some (.fl xs)
  |some (.dct Ab)=>some (.fd (Ab.map (·.1)) (Ab.map (·.2)))|some (.fzd Ab)=>some (.fd (Ab.map (·.1)) (Ab.map (·.2)))
  |_=>none
 |.s _ _,_=>none
 |.x _,_=>none
 |.f _ _,_=>none
noncomputable def iO:R4 R->ac->AA (R4 D)
 |[],_=>some []
 |x::xs,U=>(Pt x U).bind λd=>(iO xs U).bind λds=>some (d::ds)
noncomputable def gU (f:MF)(n:Nat)(fa:FA):FE:=λO U=>(fa O U).bind λa=>(iO a.1 a.2).bind λds=>if ds.length=n then (f ds).bind λd=>if dq d=true then some (.v d,a.2) else none else none
abbrev MC:=R4 D->AA au
noncomputable def si:au->Ad
 |.lst xs=>flatDs xs
 |.dct Ab=>flatDs (Ab.map (·.2))
 |_=>false
noncomputable def Dt:oZ->AA au
 |.rt (.p n) U=>match U[n]? with|some (.lst xs)=>some (.lst xs)|some (.dct Ab)=>some (.dct Ab)|_=>none
 |_=>none
noncomputable def BE (k:Nat)(b:FS):MC:=λds=>(b (ds.map (λd=>some (.v d))++List.replicate (k-ds.length) none) []).bind Dt
noncomputable def lQ (f:MC)(n:Nat)(fa:FA):FE:=λO U=>(fa O U).bind λa=>(iO a.1 a.2).bind λds=>if ds.length=n then (f ds).bind λc=>if si c=true then some (.p a.2.length,a.2++[c]) else none else none
noncomputable def rB:R->R4 R->ac->AA (R×ac)
 |.p n,[],U=>match U[n]? with|some (.lst _)=>some (.v .non,U.set n (.lst []))|_=>none
 |_,_,_=>none
section
variable {P:Aj}{w:An}{H H0:Hp}{h h0:Am}{a:Aa}{u:HO}{o:BO}{fs ex:Tf}
def f7.thaw (ok:f7 P w H h)(e:H a=some (.frz o u))(hu:ez u):f7 P w (upd H a u) h:=by
 have ne:∀c v,H c=some v->v≠.frz o u->c≠a:=λc v q n z=>by rw[z,e] at q;exact n (Option.some.inj q).symm
 have own:∀c y,H c=some (.own y)->upd H a u c=some (.own y):=λc y r=>by rw[L2.aq (ne c _ r ∅)];exact r
 have tup:∀c xs,H c=some (.tup xs)->upd H a u c=some (.tup xs):=λc xs r=>by rw[L2.aq (ne c _ r ∅)];exact r
 intro b v q;by_cases hb:b=a
 ·subst hb;rw[L2.aN] at q;cases q;exact(ok b _ e).2.stay (λc v _ q=>q) (λc r=>own c _ r) tup
 ·rw[L2.aq hb] at q;exact(ok b v q).stay (λc v _ q=>q) (λc r=>own c _ r) tup
def Un.thaw (un:Un fs ex (upd H0 a (.frz o u)) H h0 h)(e:H0 a=some u)(hu:ez u):Un fs ex H0 (upd H a u) h0 h:=by
 have nn:∀b,H0 b=none->b≠a:=λb z y=>by rw[y,e] at z;cases z
 have nf:∀b v,H0 b=some v->¬ ez v->b≠a:=λb v q n=>ez.ne e hu q n;refine{λb ob q n hb hx=>un.keep b ob q (by rw[L2.aq (nn b n)];exact n) hb hx,λb ob q n hb hx=>un.slot b ob q (by rw[L2.aq (nn b n)];exact n) hb hx,λb ob q n hx=>?_,un.there,λb xs q=>?_,λb ob v q=>?_,λb ps q=>?_}
 ·rw[L2.aq (nn b n)];exact un.free b ob q (by rw[L2.aq (nn b n)];exact n) hx
 ·have hb:=nf b _ q λz=>z;rw[L2.aq hb];exact un.tups b xs (by rw[L2.aq hb];exact q)
 ·have hb:=nf b _ q λz=>z;rw[L2.aq hb];exact un.frzs b ob v (by rw[L2.aq hb];exact q)
 ·have hb:=nf b _ q λz=>z;let⟨more,r⟩:=un.tbls b ps (by rw[L2.aq hb];exact q);exact{more,by rw[L2.aq hb];exact r}
end
noncomputable def bor (sp:Sp):Sp:=λvs H Q E=>sp vs H Q E\/∃a u,H a=some u/\ez u/\∀o,sp vs (upd H a (.frz o u)) (λv H2=>Q v (upd H2 a u)) E
noncomputable def borN:Nat->Sp->Sp
 |0,sp=>sp
 |n+1,sp=>bor (borN n sp)
def cw.bor {K:Ax}{mg:Td}{base:Am}{k:Nat}{f:Aa}{ps:Tn}{sp:Sp}(F:cw P w K mg base lf k f fd ps sp) :
  cw P w K mg base lf k f fd ps (HW.bor sp):=by
 refine{λvs H Q E h=>?_,λA outer s H args us vs Q E hr he hb hv hs=>?_}
 ·rcases h with h|⟨a,u,e,hu,h⟩
  ·exact F.len vs H Q E h
  ·exact F.len _ _ _ _ (h {cls:=.none,data:=.fields #[]})
 ·rcases hs with hs|⟨a,u,e,hu,hs⟩
  ·exact F.run A outer s H args us vs Q E hr he hb hv hs
  ·let⟨o,ok⟩:=f7.frz he.hok e hu
   have nn:∀b,H b=none->upd H a (.frz o u) b=none:=λb z=>by rw[L2.aq (λy=>by rw[y,e] at z;cases z)];exact z
   refine Fd (F.run A outer s (upd H a (.frz o u)) args us vs _ E hr {he.frames,he.mod,λb ob q=>{(he.bs b ob q).1,nn b (he.bs b ob q).2},he.bsz,he.funs,λb hb=>nn b (he.frf b hb),ok,he.bare} hb hv (hs o)) λr s' hq=>?_
   cases r with
   |error e=>exact hq
   |ok fl=>
    cases fl with
    |next=>exact hq
    |brk=>exact hq
    |cont=>exact hq
    |ret x=>
     let⟨v,H',os,bare,un,hok,rv,q⟩:=hq;exact{v,_,os,bare,Un.thaw un e hu,f7.thaw hok (un.frzs a o u L2.aN) hu,rv,q}
theorem cw.borN {K:Ax}{mg:Td}{base:Am}{k:Nat}{f:Aa}{ps:Tn}{sp:Sp}(F:cw P w K mg base lf k f fd ps sp) :
  ∀n,cw P w K mg base lf k f fd ps (HW.borN n sp)
 |0=>F
 |n+1=>cw.bor (cw.borN F n)
noncomputable def qJ (H H2:Hp):Hp:=λb=>match H b with|some u=>some u|none=>H2 b
def Cz (H H1:Hp):Prop:=∀b,H1 b=H b\/∃u o,H b=some u/\ez u/\H1 b=some (.frz o u)
section
variable {K:Ax}{H H1 H2:Hp}
def Cz.refl:Cz H H:=λ_=>.inl rfl
def Cz.upd {a:Aa}{u:HO}{o:BO}(c:Cz H H1)(e:H1 a=some u)(hu:ez u):Cz H (upd H1 a (.frz o u)):=λb=>by
 by_cases hb:b=a
 ·subst hb;rw[L2.aN];rcases c b with z|⟨u',o',_,_,z⟩
  ·exact .inr {u,o,by rw[←z,e],hu,rfl}
  ·rw[e] at z;cases z;exact hu.elim
 ·rw[L2.aq hb];exact c b
def Cz.trans (c:Cz H H1)(c':Cz H1 H2):Cz H H2:=λb=>by
 rcases c' b with z|⟨u,o,z1,z2,z3⟩
 ·rw[z];exact c b
 ·rcases c b with y|⟨u',o',_,_,y⟩
  ·exact .inr {u,o,by rw[←y,z1],z2,z3}
  ·rw[z1] at y;cases y;exact z2.elim
def Cz.tf (c:Cz H H1):TF H H1:=by
 refine{λa xs e=>?_,λa o u e=>?_}
 ·rcases c a with z|⟨u,o,z1,z2,z3⟩
  ·rw[z,e]
  ·rw[e] at z1;cases z1;exact z2.elim
 ·rcases c a with z|⟨u',o',z1,z2,z3⟩
  ·rw[z,e]
  ·rw[e] at z1;cases z1;exact z2.elim
theorem JEz (s:wq H H2):qJ H H2=H2:=by
 funext b;unfold qJ
 cases e:H b with
 |none=>rfl
 |some u=>exact(s b u e).symm
def oH:wq H (qJ H H2):=λa o e=>by unfold qJ;rw[e]
def JEy {a:Aa}{u v:HO}(e:H a=some u):upd (qJ (upd H a v) H2) a u=qJ H H2:=by
 funext b;by_cases hb:b=a
 ·subst hb;rw[L2.aN];unfold qJ;rw[e]
 ·rw[L2.aq hb];unfold qJ;rw[L2.aq hb]
def JF5 {a:Aa}{xs:R4 V}(c:Cz H H1)(s:wq H1 H2)(h:gY K H2 a xs):gY K (qJ H H2) a xs:=by
 have back:∀v,¬ ez v->(∀o u,v=.frz o u->¬ ez u)->H2 a=some v->qJ H H2 a=some v:=λv nf nz e=>by
  unfold qJ
  cases q:H a with
  |none=>exact e
  |some u=>
   rcases c a with z|⟨u',o',z1,z2,z3⟩
   ·rw[q] at z;rw[s a u z] at e;exact e
   ·rw[s a _ z3] at e
    cases e;exact Au z2 (nz o' u' rfl)
 rcases h with(h|⟨o,h⟩)|h
 ·exact .inl (.inl (back _ (λz=>z) (λ_ _ z=>by cases z) h))
 ·exact .inl (.inr {o,back _ (λz=>z) (λo u z=>by cases z;exact λz=>z) h})
 ·exact .inr h
theorem JD2 {a:Aa}{xs:R4 V}(c:Cz H H1)(s:wq H1 H2)(e:H2 a=some (.tup xs)):qJ H H2 a=some (.tup xs):=by
 unfold qJ
 cases q:H a with
 |none=>exact e
 |some u=>
  rcases c a with z|⟨u',o',z1,z2,z3⟩
  ·rw[q] at z;rw[s a u z] at e;exact e
  ·rw[s a _ z3] at e
   cases e
mutual
theorem vP (c:Cz H H1)(s:wq H1 H2):∀(d:D) (v:V),dq d=true->ak K H2 d v->ak K (qJ H H2) d v
 |.non,_,_,h=>by simpa only[ak] using h
 |.bl _,_,_,h=>by simpa only[ak] using h
 |.int _,_,_,h=>by simpa only[ak] using h
 |.str _,_,_,h=>by simpa only[ak] using h
 |.tup xs,v,f,h=>by rwa[ak] at h ⊢;let⟨a,vs,e,q,r⟩:=h;exact{a,vs,e,JF5 c s q,flats_ovr c s xs vs (by simpa only[dq] using f) r}
 |.fl _,_,f,_=>by simp[dq] at f
 |.fd _ _,_,f,_=>by simp[dq] at f
 |.key _,_,_,h=>by rwa[ak] at h ⊢;let⟨a,e,q⟩:=h;exact{a,e,JD2 c s q}
theorem flats_ovr (c:Cz H H1)(s:wq H1 H2):∀(ds:R4 D) (vs:R4 V),flatDs ds=true->RelDs K H2 ds vs->RelDs K (qJ H H2) ds vs
 |[],_,_,h=>by simpa only[RelDs] using h
 |d::ds,vs,f,h=>by
  rwa[RelDs] at h ⊢;let⟨v,r,e,h1,h2⟩:=h;have f':dq d=true/\flatDs ds=true:=by simpa[flatDs] using f
  exact{v,r,e,vP c s d v f'.1 h1,flats_ovr c s ds r f'.2 h2}
end
end
noncomputable def Bs (K:Ax)(n:Nat)(f:R4 D->AA (Hp->V->Hp->Prop)):Sp:=λvs H Q _=>∃ds P,ds.length=n/\RelDs K H ds vs/\f ds=some P/\∀v H',wq H H'->P H v H'->Q v H'
section
variable {K:Ax}{m:Tf}{Y:L2.St}{H H0:Hp}{U:ac}{Q:VK}
theorem KN {n:Nat}{f:R4 D->AA (Hp->V->Hp->Prop)}{P:Hp->V->Hp->Prop}{E:XK}(hs:aG K m H0 U):∀(rs:R4 R) (vs vsP:R4 V) (ds dsP:R4 D) (H1:Hp) (Q:VK),Cz H0 H1->RelDs K H1 dsP vsP->aL K m H0 rs vs->iO rs U=some ds ->
  f (dsP++ds)=some P->(dsP++ds).length=n->(∀v H2 EV,Cz H1 EV->wq EV H2->P EV v H2->Q v (qJ H1 H2))->borN rs.length (Bs K n f) (vsP++vs) H1 Q E
 |[],vs,vsP,ds,dsP,H1,Q,c,rp,rr,ev,ef,el,k=>by
  cases ev;have rr:vs=[]:=rr;subst rr;rw[DL] at ef el ⊢;exact{dsP,P,el,rp,ef,λv H' s p=>by have:=k v H' H1 .refl s p;(rw[JEz s] at this;assumption)}
 |r::rs,vs,vsP,ds,dsP,H1,Q,c,rp,rr,ev,ef,el,k=>by
  let⟨v,ws,rfl,r1,r2⟩:=rr;let⟨d,e1,ev⟩:=Az.mp ev;let⟨es,e2,ev⟩:=Az.mp ev;cases ev
  have app:∀{Z:Type} (a:R4 Z) (x:Z) (b:R4 Z),a++x::b=a++[x]++b:=λa x b=>by simp
  rw[app] at ef el ⊢
  have go:∀(EV:Hp) (Q':VK),Cz H1 EV->ak K EV d v->(∀v H2 Fb,Cz EV Fb->wq Fb H2->P Fb v H2->Q' v (qJ EV H2))->borN rs.length (Bs K n f) (vsP++[v]++ws) EV Q' E:=λEV Q' c' rd k'=>
   KN hs rs ws (vsP++[v]) es (dsP++[d]) EV Q' (c.trans c') (RelDs.append (RelDs.tf c'.tf _ _ rp) (by rwa[RelDs];exact{_,_,rfl,rd,rfl})) r2 e2 ef el k'
  cases r with
  |v d'=>
   cases e1;exact .inl (go H1 Q .refl (ak.tf c.tf _ _ r1) k)
  |s _ _=>cases e1
  |x _=>cases e1
  |f _ _=>cases e1
  |p i=>
   let⟨a,rfl,ha⟩:=r1;have e1:(match U[i]? with|some (.lst xs)=>some (D.fl xs)|some (.fz xs)=>some (D.fl xs)|some (.dct Ab)=>some (D.fd (Ab.map (·.1)) (Ab.map (·.2)))|some (.fzd Ab)=>some (D.fd (Ab.map (·.1)) (Ab.map (·.2)))|_=>none)=some d:=e1
   have lent:∀u,ez u->H0 a=some u->(∀H3 o,H3 a=some (.frz o u)->TF H0 H3->ak K H3 d (.ref a))->borN (rs.length+1) (Bs K n f) (vsP++[V.ref a]++ws) H1 Q E:=λu hu e0 rd=>by
    rcases c a with z|⟨u',o',z1,z2,z3⟩
    ·rw[e0] at z
     refine .inr {a,u,z,hu,λo=>?_};have c1:Cz H1 (upd H1 a (.frz o u)):=Cz.refl.upd z hu
     exact go _ _ c1 (rd _ o L2.aN (c.tf.trans c1.tf)) λv H2 Fb c2 s2 p=>by
      rw[JEy z];exact k v H2 Fb (c1.trans c2) s2 p
    ·rw[e0] at z1;cases z1
     exact .inl (go H1 Q .refl (rd _ o' z3 c.tf) k)
   have known:∀o u,H0 a=some (.frz o u)->ak K H1 d (.ref a)->borN (rs.length+1) (Bs K n f) (vsP++[V.ref a]++ws) H1 Q E:=λo u e0 rd=>.inl (go H1 Q .refl rd k);split at e1
   ·rename_i xs q
    cases e1;let⟨JK,ea,ra⟩:=hs.cell _ _ a q ha
    exact lent (.lst JK) trivial ea λH3 o e3 t=>by rwa[ak];exact{a,JK,rfl,.inl {o,e3},RelDs.tf t _ _ ra}
   ·rename_i xs q
    cases e1;let⟨o,JK,ea,ra⟩:=hs.cell _ _ a q ha;exact known o _ ea (by rwa[ak];exact{a,JK,rfl,.inl {o,c.tf.frz _ _ _ ea},RelDs.tf c.tf _ _ ra})
   ·rename_i Ab q
    cases e1;let⟨BZ,ea,e1,e2⟩:=hs.cell _ _ a q ha
    exact lent (.dK BZ) trivial ea λH3 o e3 t=>by rwa[ak];exact{a,o,BZ,rfl,e3,e1,RelDs.tf t _ _ e2}
   ·rename_i Ab q
    cases e1;let⟨o,BZ,ea,e1,e2⟩:=hs.cell _ _ a q ha;exact known o _ ea (by rwa[ak];exact{a,o,BZ,rfl,c.tf.frz _ _ _ ea,e1,RelDs.tf c.tf _ _ e2})
   ·cases e1
noncomputable def pX (K:Ax)(f:MF):R4 D->AA (Hp->V->Hp->Prop):=λds=>(f ds).map λd _ v H'=>ak K H' d v
noncomputable def cX (K:Ax)(f:MC):R4 D->AA (Hp->V->Hp->Prop):=λds=>(f ds).map λc H v H'=>∃a,v=.ref a/\H a=none/\g6 K [] H' c a
def MS {n:Nat}{f:MF}{vs:R4 V}{E:XK}(h:Bs K n (pX K f) vs H Q E):AG K n f vs H Q E:=by let⟨ds,P,el,r,ef,k⟩:=h;let⟨d,e,rfl⟩:=DN.mp ef;exact{ds,d,el,r,e,k}
theorem wv:∀{rs:R4 R} {ds:R4 D},iO rs U=some ds->rs.length=ds.length
 |[],_,h=>by cases h;rfl
 |r::rs,ds,h=>by let⟨d,_,h⟩:=Az.mp h;let⟨es,e2,h⟩:=Az.mp h;cases h;simp[wv e2]
def JA9 {f n fa}{E:XK}(h:ax K (gU f n fa) Y H Q):uA (borN n (Bs K n (pX K f))) [] E (gM K fa) Y H Q:=by
 let⟨O,U,m,d,U',hl,hs,e,k⟩:=h;let⟨⟨xs,U1⟩,e1,e⟩:=Az.mp e;let⟨ds,e2,e⟩:=Az.mp e;split at e
 ·rename_i hn;let⟨d1,e3,e⟩:=Az.mp e;split at e
  ·rename_i hf
   cases e;refine{O,U,m,xs,_,hl,hs,e1,λvs H1 m1 x1 s1 r1=>?_};have hx:xs.length=n:=(wv e2).trans hn
   show borN n (Bs K n (pX K f)) (vs++[]) H1 Q E
   rw[DL,←hx];refine KN (dsP:=[]) (vsP:=[]) (P:=λ_ v H'=>ak K H' d1 v) s1 xs vs ds H1 Q .refl rfl r1 e2 ?_ (by simp[hn,hx]) λv H2 EV c s p=>?_
   ·rw[EH];unfold pX;rw[e3];rfl
   ·exact k v _ m1 (x1.trans (wq.ext oH)) (s1.same oH) (vP c s _ _ hf p)
  ·cases e
 ·cases e
def JBa {f n fa}{E:XK}(h:ax K (lQ f n fa) Y H Q):uA (borN n (Bs K n (cX K f))) [] E (gM K fa) Y H Q:=by
 let⟨O,U,m,d,U',hl,hs,e,k⟩:=h;let⟨⟨xs,U1⟩,e1,e⟩:=Az.mp e;let⟨ds,e2,e⟩:=Az.mp e;split at e
 ·rename_i hn;let⟨c1,e3,e⟩:=Az.mp e;split at e
  ·rename_i hf
   cases e;refine{O,U,m,xs,_,hl,hs,e1,λvs H1 m1 x1 s1 r1=>?_};have hx:xs.length=n:=(wv e2).trans hn
   show borN n (Bs K n (cX K f)) (vs++[]) H1 Q E
   rw[DL,←hx];refine KN (dsP:=[]) (vsP:=[]) (P:=λH v H'=>∃a,v=.ref a/\H a=none/\g6 K [] H' c1 a) s1 xs vs ds H1 Q .refl rfl r1 e2 ?_ (by simp[hn,hx]) λv H2 EV c s p=>?_
   ·rw[EH];unfold cX;rw[e3];rfl
   ·let⟨a,rfl,ha,hc⟩:=p;have h1a:H1 a=none:=by
     rcases c a with z|⟨u,o,_,_,z⟩
     ·rw[←z,ha]
     ·rw[ha] at z;cases z
    have at':∀u,H2 a=some u->qJ H1 H2 a=some u:=λu q=>(by unfold qJ;rw[h1a];exact q);have JG:g6 K (m1++[a]) (qJ H1 H2) c1 a:=by
     cases c1 with
     |lst xs=>let⟨vs,q,r⟩:=hc;exact{vs,at' _ q,flats_ovr c s _ _ hf r}
     |dct Ab=>let⟨es,q,q2,r⟩:=hc;exact{es,at' _ q,q2,flats_ovr c s _ _ hf r}
     |fz xs=>cases hf
     |fzt Ab=>cases hf
     |hk Ab=>cases hf
     |fzd Ab=>cases hf
     |dr Ab=>cases hf
     |lr xs=>cases hf
     |dt Ab=>cases hf
     |tb _ _=>cases hf
     |ob _ _=>cases hf
     |tr _=>cases hf
     |fzr _=>cases hf
     |dtr _=>cases hf
    have Fu:a∉m1:=s1.fresh h1a;have ext:cV m1 H1 (m1++[a]) (qJ H1 H2):=by have z:=wq.ext (m:=m1) (oH (H:=H1) (H2:=H2));exact{{[a],rfl,λb hb=>by rw[CP.mp hb];exact h1a},z.tf,z.keep,z.live}
    have srel:aG K (m1++[a]) (qJ H1 H2) (U1++[c1]):=by
     have s1':=s1.same (oH (H:=H1) (H2:=H2));refine{F3.mpr {s1.nd,by simp,λb hb b' hb'=>?_},by simp[s1.len],λi c' b q1 q2=>?_}
     ·rw[CP.mp hb'];rintro rfl;exact Fu hb
     ·by_cases hi:i<m1.length
      ·rw[Bu hi] at q2;rw[Bu (by rw[←s1.len];exact hi)] at q1;exact(s1'.cell i c' b q1 q2).same (λ_ _ z=>z) {[a],rfl}
      ·have hl:=s1.len;rw[DH ∅] at q2;rw[DH ∅] at q1;have z:i-m1.length=0:=by
        cases q:i-m1.length with
        |zero=>rfl
        |succ k=>rw[q] at q2;simp at q2
       have z':i-U1.length=0:=∅;rw[z] at q2;rw[z'] at q1;simp at q1 q2;subst q1 q2;exact JG
    exact k _ _ (m1++[a]) (x1.trans ext) srel {a,rfl,by rw[←s1.len];simp}
  ·cases e
 ·cases e
end
theorem o7.okN {P:Aj}{w:An}{K:Ax}{mg:Td}{base:Am}{x qual:Str}{st:B8}{f:Aa}{fd:FuncData}{N ps:Tn}{k:Nat}{b:FS}(F:o7 K x qual st f fd)(S:aA N ps (aj st))
  (BN:∀(BG:AU) (A:Ar) (outer:R4 Env) (s:AP) (H:Hp) (E:XK),bG k (A.deeper (envOfC qual (aj st) s.heap.objs.size f BG))->oG (jL lf P w K mg base N qual (aj st) f BG A outer s H E).nox (bC st) (fA K b)) :
  cw P w K mg base lf (k+1) f fd ps (Bs K ps.length (cX K (BE N.length b))):=by
 have G:cw P w K mg base lf (k+1) f fd ps (λvs H Q _=>vs.length=ps.length/\fA K b {nx:=λ_ H'=>Q .non H',rt:=Q} (L2.fJ N vs) H) :=
  L2.o7.ok F S (λvs H Q E h=>h.1) λBG A outer s H vs Q E hr h=>{_,BN BG A outer s H E hr,h.2}
 refine G.imp λvs H Q E hh=>?_;let⟨ds,P',hn,r,e,k⟩:=hh;refine{by rw[←r.length];exact hn,?_};let⟨c,ec,rfl⟩:=DN.mp e;let⟨o,e1,e2⟩:=Az.mp ec;refine{_,[],[],o,rK r,.nil,e1,?_}
 cases o with
 |nx O U=>cases e2
 |bk O U=>cases e2
 |ct O U=>cases e2
 |rt d U=>
  cases d with
  |v d=>cases e2
  |s b xs=>cases e2
  |x _=>cases e2
  |f _ _=>cases e2
  |p n=>
   intro v H' m' x s' r';let⟨a,rfl,ha⟩:=r';unfold Dt at e2;have cell:∀c',U[n]?=some c'->g6 K m' H' c' a:=λc' q=>s'.cell n c' a q ha
   have free:H a=none:=by
    let⟨e,rfl,f⟩:=x.ext;exact f a ‹Cp ha›
   simp only at e2;split at e2
   ·rename_i xs q;cases e2;exact k _ _ x.sam {a,rfl,free,cell _ q}
   ·rename_i Ab q;cases e2;exact k _ _ x.sam {a,rfl,free,cell _ q}
   ·cases e2
def N9 {K:Ax}:Pz K rB B7:=by
 intro m H U x xs d U' v vs Q s rx rs e k;unfold rB at e;split at e
 ·rename_i n;split at e
  ·rename_i ys q
   cases e;let⟨a,rfl,ha⟩:=rx;have rs:vs=[]:=rs;subst rs;let⟨ws,ea,ra⟩:=s.cell _ _ a q ha;have x:cV m H m (upd H a (.lst [])):=.put (Cp ha) ea ∅ ∅;exact{a,ws,rfl,rfl,ea,k _ _ m x (s.put ha ea ∅ ∅ {_,br,rfl}) (by rwa[av,ak])}
  ·cases e
 ·cases e
end HW
namespace HW
variable {K:Ax}
open PyProof.Rows L2
def HN (K:Ax):R2:=λx y H Q=>∃a b ys,x=.ref a/\y=.ref b/\gY K H a []/\gY K H b ys/\ys.length<=sizeLine/\Q (.ref b) H
def JE4 {X:Cx}:jN X (binaryOp .Add) (HN X.K):=by
 intro AB s Y H x y v u Q I rx ry h;let⟨a,b,ys,rfl,rfl,ha,hb,hz,q⟩:=h;cases rx;cases ry;let⟨its,r1,p1,_⟩:=I.tuple ha;let⟨F8,r2,p2,_⟩:=I.tuple hb;cases r1;let⟨⟨cls,dd,data,sl⟩,ho,hc,n,hd⟩:=id p1;let⟨⟨cls2,dd2,data2,sl2⟩,Fs,Gz,n2,hd2⟩:=id p2;simp only at hc hd Gz hd2;subst hc hd Gz hd2;exact concat_meets {_,ho,rfl} {_,Fs,rfl} noFill_tuple_add seq_tuple_add PySem.F.slot_tuple_add PySem.F.entry_tuple_add (PySem.F.args_tuple_add_2 _ _)
  (tuple_addW0 a b #[] F8.toArray n n2 dd dd2 sl sl2 ∅) {ho,Fs,{.ref b,H,I,rfl,q}}
noncomputable def dQ:R->R->ac->AA (R×ac)
 |.v (.tup []),.v (.tup ys),U=>if ys.length<=sizeLine then some (.v (.tup ys),U) else none
 |x,y,U=>GG x y U
def Ld :o0 K dQ (λx y H Q=>HP K x y H Q\/HN K x y H Q):=by
 intro m H U x y d U' v u Q s rx ry e k;unfold dQ at e;split at e
 ·split at e
  ·rename_i z
   cases e;have ry':=ry;rwa[av,ak] at rx ry;let⟨a,vs,rfl,qa,ra⟩:=rx;let⟨b,ws,rfl,qb,rb⟩:=ry;have ra:vs=[]:=(by simpa only[RelDs] using ra);subst ra;exact .inr {a,b,ws,rfl,rfl,qa,qb,by rw[←rb.length];exact z,k _ H m .refl s ry'}
  ·cases e
 ·exact .inl (Ob m H U _ _ d U' v u Q s rx ry e k)
def B3:V->V->V->Hp->(Hp->Prop)->Prop:=λo i v H Q=>∃p Ab k,o=.ref p/\i=kV k/\H p=some (.dK Ab)/\Ab.length<sizeLine/\Q (upd H p (.dK (eP Ab k v)))
def JBj {X:Cx}(hu:X.A.units+1<cLine):wp X B3:=by intro AB s Y H o i v ov iv u Q I ro ri rv h;let⟨p,Ab,k,rfl,rfl,hp,hl,q⟩:=h;cases ro;exact JAs hu I (GR.k hp hl) ri rv λs' I'=>{_,I',q}
def wp.or {t u:GK}(h:wp X t)(h':wp X u):wp X (λo i v H Q=>t o i v H Q\/u o i v H Q):=λAB s Y H o i v ov iv z Q I ro ri rv q=>by
 rcases q with q|q
 ·exact h AB s Y H o i v ov iv z Q I ro ri rv q
 ·exact h' AB s Y H o i v ov iv z Q I ro ri rv q
noncomputable def ly:R->AA aE
 |.v (.int i)=>some (.inl i)
 |.v (.str x)=>some (.inr (some x))
 |.v .non=>some (.inr none)
 |_=>none
noncomputable def wW (o i:R)(dv:D)(U:ac):AA ac:=match o with
 |.p n=>match U[n]? with
  |some (.lst xs)=>(match i with|.v (.int k)=>(El xs.length k).bind λj=>some (U.set n (.lst (xs.set j dv)))|_=>none)
  |some (.dct Ab)=>if Ab.length<sizeLine then (ly i).bind λk=>some (U.set n (.dct (hJ Ab k dv))) else none
  |_=>none
 |_=>none
noncomputable def tO (fo fi:FE):FG:=λd O U=>match d with|.v dv=>(fo O U).bind λo=>(fi O o.2).bind λi=>(wW o.1 i.1 dv i.2).bind λU'=>some (O,U')|_=>none
theorem RelDs.setAt {K:Ax}{H:Hp}{d:D}{v:V}(h:ak K H d v):∀{ds:R4 D} {vs:R4 V} (j:Nat),RelDs K H ds vs->RelDs K H (ds.set j d) (vs.set j v)
 |[],vs,j,r=>by have r:vs=[]:=r;subst r;exact rfl
 |_::_,_,0,⟨v',r,e,h1,h2⟩=>by subst e;exact{v,r,rfl,h,h2}
 |_::_,_,j+1,⟨v',r,e,h1,h2⟩=>by subst e;exact{v',_,rfl,h1,RelDs.setAt h j h2}
def yO {m:Tf}{H:Hp}{x:R}{v:V}{k:aE}(r:av K m H x v)(e:ly x=some k):v=kV k:=by
 unfold ly at e;split at e
 ·cases e;simpa only[av,ak,kV] using r
 ·cases e;simpa only[av,ak,kV] using r
 ·cases e;simpa only[av,ak,kV] using r
 ·cases e
def Ka {K:Ax}{m:Tf}{H:Hp}{U U':ac}{o i:R}{dv:D}{vo vi v:V}{Q:Hp->Prop}(s:aG K m H U)(ro:av K m H o vo)(ri:av K m H i vi)(rv:ak K H dv v)(e:wW o i dv U=some U')
  (k:∀H',cV m H m H'->aG K m H' U'->Q H'):B2 vo vi v H Q\/B3 vo vi v H Q:=by
 unfold wW at e;split at e
 ·rename_i n
  split at e
  ·rename_i xs q
   split at e
   ·rename_i j
    let⟨w,e1,e⟩:=Az.mp e;cases e;let⟨a,rfl,ha⟩:=ro
    have ri:vi=.int j:=by simpa only[av,ak] using ri
    subst ri;let⟨ws,ea,ra⟩:=s.cell _ _ a q ha;have x:cV m H m (upd H a (.lst (ws.set w v))):=.put (Cp ha) ea ∅ ∅;exact .inl {a,ws,j,w,rfl,rfl,ea,by rw[←ra.length];exact e1,k _ x (s.put ha ea ∅ ∅ {_,br,RelDs.tf x.tf _ _ (RelDs.setAt rv w ra)})}
   ·cases e
  ·rename_i Ab q
   split at e
   ·rename_i hl
    let⟨w,e1,e⟩:=Az.mp e;cases e;let⟨a,rfl,ha⟩:=ro;let⟨es,ea,q1,q2⟩:=s.cell _ _ a q ha;have kd:KD K H Ab es:={q1,q2};have kd':=kd.put (k:=w) rv;have x:cV m H m (upd H a (.dK (eP es w v))):=.put (Cp ha) ea ∅ ∅;exact .inr {a,es,w,rfl,yO ri e1,ea,by have:=Av List.length q1;simp at this;omega,k _ x (s.put ha ea ∅ ∅ {_,br,kd'.1,RelDs.tf x.tf _ _ kd'.2})}
   ·cases e
  ·cases e
 ·cases e
def JDx {fo fi:FE}{v:V}{H:Hp}{Q:L2.St->Hp->Prop}(h:nP K (tO fo fi) v Y H Q):L2.tO (ax K fo) (ax K fi) (λo i v H Q=>B2 o i v H Q\/B3 o i v H Q) v Y H Q:=by
 let⟨O,U,m,d,O',U',hl,hs,r,e,k⟩:=h;unfold tO at e;split at e
 ·rename_i dv;let⟨⟨o,U1⟩,e1,e⟩:=Az.mp e;let⟨⟨i,U2⟩,e2,e⟩:=Az.mp e;let⟨U3,e3,e⟩:=Az.mp e;cases e;refine{O,U,m,o,U1,hl,hs,e1,λvo H1 m1 x1 s1 r1=>?_};refine{O,U1,m1,i,U2,hl.ext x1,s1,e2,λvi H2 m2 x2 s2 r2=>?_};exact Ka s2 (r1.ext x2) r2 (ak.tf (x1.tf.trans x2.tf) _ _ r) e3 λH3 x3 s3=>k Y H3 m2 ((x1.trans x2).trans x3) s3 (hl.ext ((x1.trans x2).trans x3))
 ·cases e
noncomputable def Q4 (lt:Int->Int->Ad)(ns:Th):Int:=ns.getD (argBest (λi j=>lt (ns.getD i 0) (ns.getD j 0)) (ns.length-1)) 0
end HW
namespace HS
open PyProof.Rows L2
section
variable {prog:Aj}{w:An}{A:Ar}{E:Tb}{s:AP}
def Ai {a:Aa}{Q:Ad->AP->Prop}(hT:s.TypeIs (.ref a) "dict")(h:Q false s):wpAny (model prog w) A (listLengthHint (.ref a)) Q E s:=PySem.W.kdl_hint_dict hT h
end
end HS
namespace HW
open PyProof.Rows L2 HS
noncomputable def FZ:R4 aE->AA (Th)
 |[]=>some []
 |.inl n::r=>(FZ r).map (n :: ·)
 |_=>none
end HW
namespace HW
variable {K:Ax}
open PyProof.Rows L2
def iL (K:Ax)(mg:Td)(x:Str)(d:D):Prop:=∃u v,mg x=some u/\aP v u/\∀H,ak K H d v
def GV (K:Ax)(d:D)(v:V)(u:AU):Prop:=aP v u/\∀H,ak K H d v
def zn (K:Ax)(ds:R4 D)(vs:R4 V)(us:Te):Prop:=aM vs us/\∀H,RelDs K H ds vs
def ie :zn K [] [] []:={.nil,λ_=>rfl}
def fP {d:D}{v:V}{u:AU}{ds:R4 D}{vs:R4 V}{us:Te}(h:GV K d v u)(h':zn K ds vs us):zn K (d::ds) (v::vs) (u::us) :=
 {.cons h.1 h'.1,λH=>by rwa[RelDs];exact{_,_,rfl,h.2 H,h'.2 H}}
def DU {b:Ad}:GV K (.bl b) (.bl b) (.bool b):={rfl,λH=>by rwa[ak]}
def kB {K:Ax}{a:Aa}{us:Te}{n:Nat}{sl:Al (Tg)}{ds:R4 D}{vs:R4 V}(h:K.lookup a=some {.type "tuple",none,.seq us.toArray n,sl})(hz:us.length<=sizeLine)(r:zn K ds vs us):GV K (.tup ds) (.ref a) (.ref a) :=
 {rfl,λH=>by rwa[ak];exact{a,vs,rfl,.inr {_,us.toArray,n,h,rfl,rfl,rfl,by simpa using hz,by simpa using r.1},r.2 H}}
def qw {mg:Td}{x:Str}{u:AU}{d:D}{v:V}(hm:mg x=some u)(r:GV K d v u):iL K mg x d:={u,v,hm,r.1,r.2}
def Bp (i j c:Int):Prop:=c≠0/\-(2 ^ 30)<c/\c<2 ^ 30
instance {i j c:Int}:Decidable (Bp i j c):=by unfold Bp;infer_instance
end HW
namespace L2
open PyProof.Rows
section
variable {X:Cx}{AB:Tc}{Y:St}{H:Hp}{s:AP}{h':Am}
def az.turnedL {t':Nat}{its:Tf}(I:az X AB Y H s)(k:∀b o,b∉its->s.heap.get? b=some o->h'.get? b=some o)
  (hf:∀it∈its,H it=none/\it≠X.env.locals/\(it∈X.ex\/X.s₀.heap.objs.size<=it)/\(∀x c,X.env.cells.lookup x=some c->c≠it)/\∀p∈X.pn++AB,p.1≠it):az X AB Y H {s with heap:=h',toks:=t'}:=by
 have nit:∀b u,H b=some u->b∉its:=λb u e z=>by rw[(hf b z).1] at e;cases e
 refine I.step (g':=s.gens) (d':=s.drawn) (ch:=its) (λb hb=>?_) (λb o _ _ hc e _=>k b o hc e) (λb o _ _ hc e _=>{o.slots,k b o hc e}) (λ_ _ _ _ n=>n)
  (λb o hc e=>{o,k b o hc e}) (λ_ _ e=>e) (λ_ _ _ e=>e) (λb ps e=>{#[],by rw[e];simp}) (λm hm=>?_) (λb u e=>?_) I.bare
 ·let⟨_,hL,h1,h2,h3⟩:=hf b hb
  exact{h1,hL,h2,h3}
 ·let⟨o,es,ep,ho,r⟩:=hm
  exact{o,es,ep,k _ o (λz=>(hf _ z).2.1 rfl) ho,r}
 ·refine(I.hok b u e).stay (λc v hc q=>k c v ?_ q) (λ_ q=>q) λ_ _ q=>q
  rcases hc with z|z
  ·rw[z];exact nit b u e
  ·exact nit c _ z
end
def yx {h:Am}{o:BO}{b:Aa}(hb:b<h.objs.size):(h.push o).get? b=h.get? b:=by unfold Heap.get? Heap.push;simp[Array.getElem?_push,BX hb]
end L2
namespace HW
open PyProof.Rows L2
structure Eh (K:Ax)(J:It)(xs:List D)(P:Hp->Prop):Prop where
 st:∀H H',TF H H'->P H->P H'
 stop:∀i H,P H->xs.length<=i->J.stop i H
 go:∀(i:Nat) d H,xs[i]?=some d->P H->J.go i H
 yld:∀(i:Nat) d H x H',xs[i]?=some d->P H->J.yld i H x H'->(∀a o,H a=some o->H' a=some o)/\ak K H' d x
def qV (K:Ax)(f:FI):TI:=λY H R=>∃O U m xs U',dJ K m H O Y/\aG K m H U/\f O U=some (xs,U') /\
 ∀J P H' m',cV m H m' H'->aG K m' H' U'->Eh K J xs P->P H'->R J H'
def kA {m:Tf}{H H':Hp}(s:∀a o,H a=some o->H' a=some o):cV m H m H' :=
 {{[],by simp,λ_ z=>nomatch z},{λa xs e=>s _ _ e,λa o x e=>s _ _ e},λa o e _=>s _ _ e,λa e=>by
  cases q:H a with
  |none=>rfl
  |some o=>rw[s _ _ q] at e;cases e}
section
variable {K:Ax}{m:Tf}{Y:L2.St}{H:Hp}{U:ac}{D:gB}
def yn {fi g b}(h:fA K (iV fi g b) D Y H):Je (qV K fi) (nP K g) (fA K b) D Y H:=by
 let⟨O,U,m,o,hl,hs,e,k⟩:=h;let⟨⟨xs,U1⟩,e1,e⟩:=Az.mp e;refine{O,U,m,xs,U1,hl,hs,e1,λJ P H1 m1 x1 s1 ok p1=>?_};refine{λi n Y H=>n=xs.length-i/\i<=xs.length/\P H/\∃O U m,dJ K m H O Y/\aG K m H U/\fN g b (xs.drop i) O U=some o/\gB.of K m H D o,
  {_,rfl,Cr _,p1,O,U1,m1,dJ.ext x1 hl,s1,by simpa using e,gB.of_ext x1 k},?_}
 rintro i n Y H ⟨rfl,hi,p,O,U,m,hl,hs,e,k⟩;by_cases BD:i<xs.length
 ·have hx:xs[i]?=some xs[i]:=C0 BD;rw[GC BD,fN] at e;let⟨⟨O1,U1⟩,e1,e⟩:=Az.mp e;let⟨o1,e2,e⟩:=Az.mp e;refine .inr {ok.go i _ H hx p,λY H=>i+1<=xs.length/\P H/\∃O U m,dJ K m H O Y/\aG K m H U/\fN g b (xs.drop (i+1)) O U=some o/\gB.of K m H D o,
   λY' H' z=>{xs.length-(i+1),by omega,rfl,z},λx H' y=>?_}
  let⟨xe,rx⟩:=ok.yld i _ H x H' hx p y;have x0:cV m H m H':=kA xe;refine{O,U,m,.v xs[i],O1,U1,dJ.ext x0 hl,hs.same xe,rx,e1,λY1 H1 m1 x1 s1 l1=>?_};have x1:=x0.trans x1;refine{O1,U1,m1,o1,l1,s1,e2,?_}
  cases o1 with
  |nx O2 U2=>exact λY2 H2 m2 x2 s2 l2=>{BD,ok.st _ _ (x1.trans x2).tf p,O2,U2,m2,l2,s2,e,gB.of_ext (x1.trans x2) k}
  |ct O2 U2=>exact λY2 H2 m2 x2 s2 l2=>{BD,ok.st _ _ (x1.trans x2).tf p,O2,U2,m2,l2,s2,e,gB.of_ext (x1.trans x2) k}
  |bk O2 U2=>cases e;exact λY2 H2 m2 x2 s2 l2=>k Y2 H2 m2 (x1.trans x2) s2 l2
  |rt d U2=>cases e;exact λv H2 m2 x2 s2 l2=>k v H2 m2 (x1.trans x2) s2 l2
 ·have:i=xs.length:=by omega
  subst this;rw[zcv,fN] at e;cases e;exact .inl {ok.stop _ H p (BL _),k Y H m .refl hs hl}
def JGg {fi g b}(h:fA K (iV fi g b) D Y H):Je (BW K fi) (nP K g) (fA K b) D Y H :=
 let ⟨O,U,m,xs,U',hl,hs,e,k⟩:=yn h
 {O,U,m,xs,U',hl,hs,e,λJ P H' m' x s ok p=>k J P H' m' x s {ok.st,ok.stop,ok.go,λi d H x H' e p y=>by let⟨rfl,r⟩:=ok.yld i d H x H' e p y;exact{λ_ _ z=>z,r}} p}
end
def jZ {H:Hp}{T:Aa}{o':HO}(h:H T=none)(a:Aa)(o:HO)(e:H a=some o):upd H T o' a=some o:=by
 have ne:a≠T:=λz=>by rw[z,h] at e;cases e
 rw[aq ne];exact e
end HW
namespace HS
open PyProof.Rows
end HS
namespace HW
open PyProof.Rows L2 HS
end HW
namespace HS
open PyProof.Rows
end HS
namespace HW
open PyProof.Rows L2 HS
end HW
namespace HX
def Kp (G:Aa->Prop)(S:Tf)(h h':Am):Prop:=∀b o,G b->h.get? b=some o->(b∉S->h'.get? b=some o)/\∃sl,h'.get? b=some {o with slots:=sl}
abbrev eO (C:AU)(vs:Ti):BO:={cls:=C,dict:=none,data:=.fields vs,slots:=#[]}
structure Fl (G:Addr->Prop)(h:Heap)(e:Addr)(C fl:Value):Prop where
 is:∃vs T ts c,¬ G e/\¬ G T/\T≠e/\h.get? e=some (eO C vs)/\vs[1]?=some (.ref T)/\h.get? T=some (eO c ts)/\ts[3]?=some fl
 all:∀b,G b->∃o,h.get? b=some o
def Kp.trans {G S h h1 h2}(a:Kp G S h h1)(b:Kp G S h1 h2):Kp G S h h2:=λc o g q=>by let⟨a1,sl,a2⟩:=a c o g q;refine{λz=>(b c o g (a1 z)).1 z,?_};let⟨_,sl',b2⟩:=b c _ g a2;exact{sl',b2}
end HX
namespace HW
open PyProof.Rows L2
abbrev JAa (K:Ax)(c:Str)(C:Aa):Prop:=PySem.W.nsIn K mainGlobals c=some (some (.ref C))
structure SI (K:Ax)(D:Addr):Prop where
 dc:PySem.W.hasDictIn K D=true
 ga:PySem.W.findIn K (.ref D) "__getattribute__" = some (some (.builtin "BaseException.__getattribute__"))
 gn:PySem.W.findIn K (.ref D) "__getattr__" = some none
 fi:PySem.W.findIn K (.ref D) "__class__" = some (some (.builtin "object.__class__"))
 mr:PySem.W.mroIn K D (.type "object")=some true
 mb:PySem.W.mroIn K D (.type "BaseException")=some true
 gt:PySem.W.specialIn K (.builtin "object.__class__") "__get__" = some (some (.builtin "getset_descriptor.__get__"))
 tk:PySem.W.takesIn K (.builtin "object.__class__")=some true
end HW
namespace HW
open L2
end HW
namespace HX
end HX
namespace HW
open PyProof.Rows L2
def Nb:V->AA Int->AA Int->Hp->VK->Prop:=λx lo hi H Q=>∃z,x=.str z/\z.length<=sizeLine/\Q (.str (Txt.slice z lo hi)) H
theorem JGu:AJ X Nb:=by
 intro AB s Y H x v vl vu lo hi sl Q I rx hs pl pu h;obtain⟨z,rfl,hz,q⟩:=h;obtain⟨t,rfl⟩:=rx;refine{"str",_,PySem.F.slot_str_getitem.lookup,typeIs_str _ _ _,?_};have fin:∀(l u:AA (Int×Tok)),lo=l.map (·.1)->hi=u.map (·.1)->s.heap.IsSlice sl l u none->wpAny (model X.prog X.w) X.A (getItem (.str z t) (.ref sl)) (EP X AB Y Q) X.xe s:=λl u e1 e2 hS=>by subst e1 e2;refine wpAny_getItem_str_slice (l:=l) (u:=u) (st:=none) hS rfl ?_;exact post_val_or_str {Dk (Txt.slice_le z _ _) hz,λt' k=>{.str _,H,I.tok k,{_,rfl},q}}
 cases pl with
 |none=>
  cases pu with
  |none=>exact fin none none rfl rfl hs
  |int j tj=>exact fin none (some (j,tj)) rfl rfl hs
 |int i ti=>
  cases pu with
  |none=>exact fin (some (i,ti)) none rfl rfl hs
  |int j tj=>exact fin (some (i,ti)) (some (j,tj)) rfl rfl hs
section
variable {K:Ax}{H:Hp}{Q:VK}
noncomputable def Bw (x:R)(lo hi:AA Int)(U:ac):AA (R×ac):=match x with
 |.v (.str z)=>if z.length<=sizeLine then some (.v (.str (Txt.slice z lo hi)),U) else none
 |_=>none
noncomputable def Ij:R->R->ac->AA (R×ac)
 |.v (.str z),.v (.int i),U=>if 0<=i/\i<2 ^ 63/\i<z.length then (z.cps[i.toNat]?).bind λc=>some (.v (.str ⟨#[c]⟩),U) else none
 |_,_,_=>none
def N3:o0 K Ij (λx y H Q=>∃z i c,x=.str z/\y=.int i/\0<=i/\i<2 ^ 63/\i<z.length/\z.cps[i.toNat]?=some c/\Q (.str ⟨#[c]⟩) H):=by
 intro m H U x y d U' v u Q s rx ry e k;unfold Ij at e;split at e
 ·rename_i z i;split at e
  ·rename_i c;let⟨c',e1,e⟩:=Az.mp e;cases e;rwa[av,ak] at rx ry;subst rx ry;exact{z,i,c',rfl,rfl,c.1,c.2.1,c.2.2,e1,k _ H m .refl s (by rwa[av,ak])}
  ·cases e
 ·cases e
noncomputable def zW:R4 R->ac->AA (R×ac)
 |[.v (.str z)],U=>if z.length<=sizeLine then some (.v (.int z.length),U) else none
 |_,_=>none
def La:zj K zW (λxs H Q=>∃z,xs=[.str z]/\z.length<=sizeLine/\Q (.int z.length) H):=by
 intro m H U xs d U' vs Q s r e k;unfold zW at e;split at e
 ·rename_i z;split at e
  ·rename_i hz
   cases e;let⟨v,rfl,r1⟩:=mX r;rwa[av,ak] at r1;subst r1;exact{z,rfl,hz,k _ H m .refl s (by rwa[av,ak])}
  ·cases e
 ·cases e
end
theorem pp:∀{its:Te} {ts:Tn},aM (ts.map V.str) its->∃l:R4 (Str×Tok),its=strValues l/\l.map (·.1)=ts
 |its,[],r=>by
  have:=r.length
  cases its with
  |nil=>exact{[],rfl,rfl}
  |cons a b=>simp at this
 |its,x::ts,r=>by
  cases r with
  |cons r1 r2=>
   let⟨l,e1,e2⟩:=pp r2;let⟨t,rfl⟩:=r1;exact{(x,t)::l,by rw[e1];rfl,by rw[BH,e2]}
def HL (K:Ax):V->R4 V->Hp->VK->Prop:=λx ys H Q=>∃a p ts,x=.str a/\ys=[.ref p]/\iM K H p (ts.map V.str)/\JoinOk a ts=true/\Q (.str (Txt.join a ts)) H
def FB {X:Cx}:Rb X "str.join" (HL X.K):=by intro AB s Y H x xs v us Q I rx rv h;obtain⟨a,p,ts,rfl,rfl,hq,hok,q⟩:=h;obtain⟨t,rfl⟩:=rx;obtain⟨u,rfl,ru⟩:=iP rv;cases ru;obtain⟨its,r',pl,hz⟩:=I.list hq;obtain⟨l,rfl,e2⟩:=pp r';exact SC.join pl.isList e2 hok λt' k=>{.str _,H,I.tok k,{_,rfl},q}
structure Sc (K:Ax)(g:R->R->ac->Option (R×ac))(r:V->List V->Hp->VK->Prop):Prop where
 str:∀{x y U z},g x y U=some z->∃a,x=.v (.str a)
 go:∀{m H U x y d U' v u} {Q:VK},aG K m H U->av K m H x v->av K m H y u->g x y U=some (d,U')->(∀w H' m',cV m H m' H'->aG K m' H' U'->av K m' H' d w->Q w H')->r v [u] H Q
section
variable {K:Ax}{Y:L2.St}{H:Hp}{Q:VK}
def JGk {g r fa fb}(hg:Sc K g r)(h:ax K (aw g fa fb) Y H Q):PJ K "str" r (ax K fa) (nN (ax K fb) wJ) Y H Q:=by obtain⟨O,U,m,d,U',hl,hs,e,k⟩:=h;obtain⟨⟨x,U1⟩,e1,e⟩:=Az.mp e;obtain⟨⟨y,U2⟩,e2,e⟩:=Az.mp e;obtain⟨a,hx⟩:=hg.str e;simp only at hx;subst hx;refine{O,U,m,_,U1,hl,hs,e1,λv H1 m1 x1 s1 r1=>?_};have r1':=r1;rwa[av,ak] at r1';subst r1';refine{rfl,O,U1,m1,_,_,hl.ext x1,s1,e2,λu H2 m2 x2 s2 r2=>?_};exact hg.go s2 (r1.ext x2) r2 e λw H3 m3 x3 s3 r3=>k w H3 m3 ((x1.trans x2).trans x3) s3 r3
noncomputable def mR:R4 D->AA (Tn)
 |[]=>some []
 |.str x::r=>(mR r).bind λl=>some (x::l)
 |_=>none
theorem rF:∀{ds:R4 D} {ts:Tn} {vs:R4 V},mR ds=some ts->RelDs K H ds vs->vs=ts.map V.str
 |[],ts,vs,e,r=>by cases e;rwa[RelDs] at r;exact r
 |d::ds,ts,vs,e,r=>by
  cases d with
  |str x=>
   let⟨l,e1,e2⟩:=Az.mp e;cases e2;rwa[RelDs] at r;let⟨v,r',rfl,h1,h2⟩:=r;rwa[ak] at h1;rw[h1,rF e1 h2];rfl
  |non=>cases e
  |bl _=>cases e
  |int _=>cases e
  |tup _=>cases e
  |fl _=>cases e
  |fd _ _=>cases e
  |key _=>cases e
noncomputable def rX:R->R->ac->AA (R×ac)
 |.v (.str a),y,U=>(lh y U).bind λds=>(mR ds).bind λts=>if JoinOk a ts=true then some (.v (.str (Txt.join a ts)),U) else none
 |_,_,_=>none
def Lb:Sc K rX (HL K) where
 str:=λ{x y U z} e=>by
  unfold rX at e;split at e
  ·exact{_,rfl}
  ·cases e
 go:=λ{m H U x y d U' v u Q} s rx ry e k=>by
  unfold rX at e;split at e
  ·rename_i a;let⟨ds,e1,e⟩:=Az.mp e;let⟨ts,e2,e⟩:=Az.mp e;split at e
   ·rename_i hok
    cases e;rwa[av,ak] at rx;subst rx;let⟨p,vs,rfl,q,rr⟩:=jh s ry e1;rw[rF e2 rr] at q;exact{a,p,ts,rfl,rfl,q,hok,k _ H m .refl s (by rwa[av,ak])}
   ·cases e
  ·cases e
end
end HW
namespace HS
open PyProof.Rows
def Px (xs:Al Keyed)(lo hi:Nat):Prop:=∀i j,lo<=i->i<=j->j<hi->K xs i<=K xs j
def oZ (lo hi:Nat)(xs ys:Al Keyed):Prop:=∀k,¬ (lo<=k/\k<hi)->ys[k]?=xs[k]?
structure SB (a₀:Array Keyed)(st:SortSt):Prop where
 perm:(arrOf st).Perm a₀
 kind:kindOf st=oneType'
 ok:failedOf st=none
structure SN (a₀:Array Keyed)(lo hi:Nat)(st CV:SortSt):Prop where
 b:SB a₀ CV
 pend:pendingOf CV=pendingOf st
 out:oZ lo hi (arrOf st) (arrOf CV)
section
def IK (xs:Al Keyed):Prop:=∀i,i<xs.size->∃t q,xs[i]?=some (.int (K xs i) t,q)
end
noncomputable def kk (p:Keyed):Int:=numOf p.1
def Le (x y:Keyed):Prop:=kk x<=kk y
structure Mg (A B Ozz:List Keyed)(ia ib:Nat):Prop where
 perm:(Ozz++A.drop ia++B.drop ib).Perm (A++B)
 srt:Ozz.Pairwise Le
 toA:∀x∈Ozz,∀y∈A.drop ia,Le x y
 toB:∀x∈Ozz,∀y∈B.drop ib,Le x y
 len:Ozz.length=ia+ib
structure R6 (st CV:SortSt):Prop where
 kind:kindOf CV=kindOf st
 arr:arrOf CV=arrOf st
 pend:pendingOf CV=pendingOf st
 ok:failedOf CV=failedOf st
section
structure SO (a b:Array Keyed):Prop where
 ka:IK a
 kb:IK b
 sa:Px a 0 a.size
 sb:Px b 0 b.size
 na:0<a.size
 nb:0<b.size
end
structure Mh (A B Ozz:List Keyed)(na nb:Nat):Prop where
 perm:(A.take na++B.take nb++Ozz).Perm (A++B)
 srt:Ozz.Pairwise Le
 toA:∀x∈A.take na,∀y∈Ozz,Le x y
 toB:∀x∈B.take nb,∀y∈Ozz,Le x y
structure Wb (xs ys:Array Keyed)(lo hi:Nat):Prop where
 perm:ys.Perm xs
 out:oZ lo hi xs ys
 src:∀q,lo<=q->q<hi->∃r,lo<=r/\r<hi/\K ys q=K xs r
 srt:Px ys lo hi
def Oz (xs:Al Keyed):R4 (Nat×Nat×Nat)->Nat->Nat->Prop
 |[],b,e=>b=e
 |(a,n,_)::r,b,e=>a=b/\0<n/\Px xs a (a+n)/\Oz xs r (b+n) e
structure Ra (a₀:Array Keyed)(st:SortSt)(lo:Nat):Prop where
 b:SB a₀ st
 r:Oz (arrOf st) (pendingOf st).toList 0 lo
open L2
end HS
namespace HW
open PyProof.Rows L2 HS
end HW
namespace HS
open PyProof.Rows
end HS
namespace HW
open PyProof.Rows L2 HS
end HW
namespace HW
open PyProof.Rows L2
def KR (K:Ax)(m:Tf)(H:Hp)(Ab:R4 (aE×R))(es:R4 (aE×V)):Prop:=es.map (·.1)=Ab.map (·.1)/\aL K m H (Ab.map (·.2)) (es.map (·.2))
noncomputable def i7 (Ab:R4 (aE×R))(k:aE):AA R:=(Ab.find? λkv=>decide (kv.1=k)).map (·.2)
section
variable {K:Ax}{m m':Tf}{H H':Hp}
def KR.nil:KR K m H [] []:={rfl,rfl}
def KR.cons {k k':aE}{d:R}{v:V}{Ab:R4 (aE×R)}{es:R4 (aE×V)}:KR K m H ((k,d)::Ab) ((k',v)::es) ↔ k'=k/\av K m H d v/\KR K m H Ab es:=by
 constructor
 ·rintro⟨h1,h2⟩;rwa[BH,List.cons.injEq] at h1;let⟨w,r,e,h3,h4⟩:=h2;rwa[BH,List.cons.injEq] at e;let⟨rfl,rfl⟩:=e;exact{h1.1,h3,h1.2,h4}
 ·rintro⟨rfl,h1,h2,h3⟩;exact{by simp[h2],{_,_,rfl,h1,h3}}
theorem KR.snoc {k:aE}{d:R}{v:V}(rd:av K m H d v):∀{Ab:R4 (aE×R)} {es:R4 (aE×V)},KR K m H Ab es->KR K m H (Ab++[(k,d)]) (es++[(k,v)])
 |[],[],_=>KR.cons.mpr {rfl,rd,.nil}
 |[],e::es,h=>by have:=h.1;simp at this
 |q::Ab,[],h=>by have:=h.1;simp at this
 |(a,x)::Ab,(b,y)::es,h=>by let⟨rfl,h1,h2⟩:=KR.cons.mp h;exact KR.cons.mpr {rfl,h1,KR.snoc rd h2}
theorem KR.val:∀{Ab:R4 (aE×R)} {es:R4 (aE×V)} (k:aE),KR K m H Ab es->(i7 Ab k=none/\dg es k=none)\/∃d v,i7 Ab k=some d/\dg es k=some v/\av K m H d v
 |[],es,k,h=>by
  have:es=[]:=by simpa using h.1
  subst this;exact .inl {rfl,rfl}
 |(a,d)::Ab,[],k,h=>by have:=h.1;simp at this
 |(a,d)::Ab,(b,v)::es,k,h=>by
  let⟨rfl,h1,h2⟩:=KR.cons.mp h;by_cases e:b=k
  ·refine .inr {d,v,?_,?_,h1}
   ·simp[i7,e]
   ·simp[dg,e]
  ·have ih:=KR.val k h2;have e1:i7 ((b,d)::Ab) k=i7 Ab k:=(by simp[i7,e]);have e2:dg ((b,v)::es) k=dg es k:=iQ e;rw[e1,e2];exact ih
def KR.ext (x:cV m H m' H'){Ab:R4 (aE×R)}{es:R4 (aE×V)}(h:KR K m H Ab es):KR K m' H' Ab es:={h.1,aL.ext x h.2}
end
theorem pL:∀(ps Ab:R4 (aE×V)),(Ab++ps).map (·.1) |>.Nodup->mv Ab ps=Ab++ps
 |[],Ab,_=>by simp[mv]
 |p::ps,Ab,h=>by
  have e:eP Ab p.1 p.2=Ab++[p]:=by
   refine uX _ ?_
   cases q:dg Ab p.1 with
   |none=>rfl
   |some v=>
    exfalso;unfold dg at q;let⟨kv,q1,q2⟩:=DN.mp q;have h1:=List.mem_of_find?_eq_some q1;have h2:=List.find?_some q1;rwa[decide_eq_true_eq] at h2;rw[DK,F3] at h;exact h.2.2 kv.1 (EZ h1) p.1 ∅ h2
  have ih:=pL ps (Ab++[p]) ‹h›;unfold mv at ih ⊢;rw[EX,e,ih];simp
section
variable {K:Ax}{H:Hp}
theorem d5.tf {H H':Hp}(t:TF H H'){ws:R4 V}{es:R4 (aE×V)}(h:d5 K H ws es):d5 K H' ws es:=by
 unfold d5 at h ⊢;induction h with
 |nil=>exact .nil
 |cons h _ ih=>let⟨a,e,q⟩:=h;exact .cons {a,e,gY.tf t q} ih
theorem d5.snoc {H:Hp}{ws:R4 V}{es:R4 (aE×V)}{v:V}{e:aE×V}(h:d5 K H ws es)(q:∃t,v=.ref t/\gY K H t [kV e.1,e.2]):d5 K H (ws++[v]) (es++[e]):=by
 unfold d5 at h ⊢;induction h with
 |nil=>exact .cons q .nil
 |cons h _ ih=>exact .cons h ih
end
noncomputable def qY (x:R)(U:ac):AA (R4 (aE×R)):=match x with
 |.v (.fd ks ds)=>if ks.length=ds.length then some (ks.zip (ds.map R.v)) else none
 |.p n=>match U[n]? with|some (.dct Ab)=>some (Ab.map λp=>(p.1,R.v p.2))|some (.fzd Ab)=>some (Ab.map λp=>(p.1,R.v p.2))|some (.dr Ab)=>some Ab|some (.fzr Ab)=>some Ab|_=>none
 |_=>none
theorem oI {K:Ax}{m:Tf}{H:Hp}:∀{ds:R4 D} {vs:R4 V},RelDs K H ds vs->aL K m H (ds.map R.v) vs
 |[],_,h=>h
 |_::_,_,⟨v,r,e,h1,h2⟩=>{v,r,e,h1,oI h2}
def FM {K:Ax}{m:Tf}{H:Hp}{U:ac}{x:R}{v:V}{Ab:R4 (aE×R)}(s:aG K m H U)(r:av K m H x v)(e:qY x U=some Ab):∃a es,v=.ref a/\Rd H a (.dK es)/\KR K m H Ab es:=by
 unfold qY at e;split at e
 ·rename_i ks ds;split at e
  ·rename_i hl
   cases e;rwa[av,ak] at r;let⟨a,o,es,rfl,ea,e1,e2⟩:=r;refine{a,es,rfl,.inr {o,ea},?_,?_}
   ·rw[List.map_fst_zip (by simp[hl]),e1]
   ·rw[List.map_snd_zip (by simp[hl])];exact oI e2
  ·cases e
 ·rename_i n;let⟨a,rfl,ha⟩:=r;split at e
  ·rename_i kv q
   cases e;let⟨es,ea,e1,e2⟩:=s.cell _ _ a q ha;refine{a,es,rfl,.inl ea,by simp[e1,Function.comp_def],?_};have:=oI (m:=m) e2;simpa[Function.comp_def] using this
  ·rename_i kv q
   cases e;let⟨o,es,ea,e1,e2⟩:=s.cell _ _ a q ha;refine{a,es,rfl,.inr {o,ea},by simp[e1,Function.comp_def],?_};have:=oI (m:=m) e2;simpa[Function.comp_def] using this
  ·rename_i kv q
   cases e;let⟨es,ea,e1,e2⟩:=s.cell _ _ a q ha;exact{a,es,rfl,.inl ea,e1,e2}
  ·rename_i kv q
   cases e;let⟨o,es,ea,e1,e2⟩:=s.cell _ _ a q ha;exact{a,es,rfl,.inr {o,ea},e1,e2}
  ·cases e
 ·cases e
noncomputable def kq (fo fk:FE):FE:=λO U=>(fo O U).bind λo=>(fk O o.2).bind λk=>(qY o.1 k.2).bind λAb=>(ly k.1).bind λkey=>(i7 Ab key).bind λr=>some (r,k.2)
def JGj {K:Ax}{H:Hp}{Q:VK}{fo fk}(h:ax K (kq fo fk) Y H Q):Bl (ax K fo) (ax K fk) Y H Q:=by
 let⟨O,U,m,d,U',hl,hs,e,kk⟩:=h;let⟨⟨o,U1⟩,e1,e⟩:=Az.mp e;let⟨⟨k,U2⟩,e2,e⟩:=Az.mp e;let⟨Ab,e4,e⟩:=Az.mp e;let⟨key,e5,e⟩:=Az.mp e;let⟨r,e6,e⟩:=Az.mp e;cases e;refine{O,U,m,o,U1,hl,hs,e1,λvo H1 m1 x1 s1 r1=>?_};refine{O,U1,m1,k,U2,hl.ext x1,s1,e2,λvk H2 m2 x2 s2 r2=>?_};let⟨a,es,rfl,hR,hK⟩:=FM s2 (r1.ext x2) e4;have hk:=yO r2 e5;rcases KR.val key hK with⟨n1,n2⟩|⟨dd,vv,n1,n2,n3⟩
 ·rw[n1] at e6;cases e6
 ·rw[n1] at e6;cases e6;exact{a,vv,rfl,.inl {es,key,hR,hk,n2.symm},kk _ H2 m2 (x1.trans x2) s2 n3}
end HW
namespace F2
open PySem.W PyProof.Rows
section
variable {r:Nat->Int}{n:Nat}{s:AP}{cmp:Nat->Nat->(Ad->AP->Prop)->AP->Prop}
abbrev key (r:Nat->Int)(p:Al Nat)(k:Nat):Int:=r (p.getD k 0)
def Up (r:Nat->Int)(p:Al Nat)(a:Nat):Prop:=∀i j,i<j->j<a->key r p i<key r p j
def Dn (r:Nat->Int)(p:Al Nat)(a:Nat):Prop:=∀i j,i<j->j<a->key r p j<key r p i
structure Pm (n:Nat)(p:Array Nat):Prop where
 pm:p.toList.Perm (List.range n)
def Pm.size {p:Al Nat}(h:Pm n p):p.size=n:=by have:=h.pm.length_eq;simpa using this
def Pm.lt {p:Al Nat}(h:Pm n p){k:Nat}(hk:k<n):p.getD k 0<n:=by
 have hs:=h.size;have hm:p.getD k 0∈p.toList:=by have:p[k]?=some p[k]:=D0 ∅;rw[J5,this,zbS];simp
 have:=h.pm.mem_iff.mp hm;simpa using this
def Pm.inj {p:Al Nat}(h:Pm n p){i j:Nat}(hi:i<n)(hj:j<n)(e:p.getD i 0=p.getD j 0):i=j:=by
 have hs:=h.size;have nd:p.toList.Nodup:=h.pm.nodup_iff.mpr List.nodup_range;have ei:p[i]?=some p[i]:=D0 ∅;have ej:p[j]?=some p[j]:=D0 ∅;rw[J5,J5,ei,ej,zbS,zbS] at e;have e':p.toList[i]'(by simpa using(by omega:i<p.size))=p.toList[j]'(by simpa using(by omega:j<p.size)):=by simpa using e
 exact(IT nd).mp e'
structure Rk (r:Nat->Int)(n:Nat)(s:Shared)(cmp:Nat->Nat->(Bool->Shared->Prop)->Shared->Prop):Prop where
 inj:∀i j,i<n->j<n->r i=r j->i=j
 ask:∀i j,i<n->j<n->∀C:Bool->Shared->Prop,C (decide (r i<r j)) s->cmp i j C s
def Rk.ne (R:Rk r n s cmp){p:Al Nat}(h:Pm n p){i j:Nat}(hi:i<n)(hj:j<n)(ne:i≠j):key r p i≠key r p j:=λe=>ne (h.inj hi hj (R.inj _ _ (h.lt hi) (h.lt hj) e))
theorem xK (R:Rk r n s cmp){p:Al Nat}(h:Pm n p){Q:Nat->AP->Prop}:∀(f a:Nat),1<=a->a+f<=n->Up r p a->(∀m,a<=m->m<=a+f->Up r p m->(m=a+f\/key r p m<key r p (m-1))->Q m s)->(kas_asc p f a).kasWp cmp Q s
 |0,a,_,_,hu,k=>k a (BL _) (BL _) hu (.inl rfl)
 |f+1,a,h1,h2,hu,k=>by
  refine R.ask _ _ (h.lt ∅) (h.lt ∅) _ ?_;by_cases hc:key r p a<key r p (a-1)
  ·have hd:decide (r (p.getD a 0)<r (p.getD (a-1) 0))=true:=D2 hc;rw[hd];exact k a (BL _) ∅ hu (.inr hc)
  ·have hd:decide (r (p.getD a 0)<r (p.getD (a-1) 0))=false:=CI hc;rw[hd];have C1:=R.ne h (show a<n by omega) (show a-1<n by omega) ∅;refine xK R h f (a+1) ∅ ∅ (λi j EF hj=>?_) λm m1 m2 m3 m4=>k m ∅ ∅ m3 (by rcases m4 with q|q;exact .inl ∅;exact .inr q);by_cases hja:j=a
   ·subst hja;have:key r p i<=key r p (j-1):=by
     by_cases hi:i=j-1
     ·rw[hi];exact Int.le_refl _
     ·exact Int.le_of_lt (hu i (j-1) ∅ ∅)
    omega
   ·exact hu i j EF ∅
theorem zg (R:Rk r n s cmp){p:Al Nat}(h:Pm n p){Q:Al Nat×Nat×Nat->AP->Prop}:∀(f a:Nat),1<=a->a+f<=n->Dn r p a->(∀m,a<=m->m<=a+f->Dn r p m->Q (p,m,0) s)->(kas_desc f p a 0).kasWp cmp Q s
 |0,a,_,_,hu,k=>k a (BL _) (BL _) hu
 |f+1,a,h1,h2,hu,k=>by
  refine R.ask _ _ (h.lt ∅) (h.lt ∅) _ ?_;have C1:=R.ne h (show a<n by omega) (show a-1<n by omega) ∅;by_cases hc:key r p a<key r p (a-1)
  ·have hd:decide (r (p.getD a 0)<r (p.getD (a-1) 0))=true:=D2 hc;rw[hd];refine zg R h f (a+1) ∅ ∅ (λi j EF hj=>?_) λm m1 m2 m3=>k m ∅ ∅ m3;by_cases hja:j=a
   ·subst hja;have:key r p (j-1)<=key r p i:=by
     by_cases hi:i=j-1
     ·rw[hi];exact Int.le_refl _
     ·exact Int.le_of_lt (hu i (j-1) ∅ ∅)
    omega
   ·exact hu i j EF ∅
  ·have hd:decide (r (p.getD a 0)<r (p.getD (a-1) 0))=false:=CI hc;rw[hd];refine R.ask _ _ (h.lt ∅) (h.lt ∅) _ ?_;have hd2:decide (r (p.getD (a-1) 0)<r (p.getD a 0))=true:=D2 (show key r p (a-1)<key r p a by omega);rw[hd2];exact k a (BL _) ∅ hu
def BF {p:Al Nat}(h:Pm n p){m k:Nat}(hm:m<=n)(hk:k<m):(kas_rev p 0 m).getD k 0=p.getD (m-1-k) 0:=by
 have hs:=h.size;have:=getElem?_mirror_all (xs:=p) (i:=0) (j:=m) ∅ k;rw[Ae ∅] at this
 unfold kas_rev;rw[J5,this,J5];congr 2;omega
def JG3 {p:Al Nat}(h:Pm n p){m:Nat}:Pm n (kas_rev p 0 m):=⟨(Array.perm_iff_toList_perm.mp (mirror_perm p 0 m _)).trans h.pm⟩
def JBe (R:Rk r n s cmp){p:Al Nat}(h:Pm n p){Q:Nat×Al Nat->AP->Prop}{a:Nat}(h1:1<=a)(h2:a<=n)(hd:Dn r p a)(k:∀m p',Pm n p'->Up r p' m->1<=m->m<=n->Q (m,p') s):(kas_tail3 a n p).kasWp cmp Q s:=by unfold kas_tail3;rw[KasT.kasWp_bind];have hr:=JG3 h (m:=a);refine xK R hr (n-a) a h1 ∅ (λi j EF hj=>?_) λm m1 m2 m3 _=>k m _ hr m3 ∅ ∅;unfold key;rw[BF h h2 ∅,BF h h2 ∅];exact hd (a-1-j) (a-1-i) ∅ ∅
def JCv (R:Rk r n s cmp){p:Al Nat}(h:Pm n p)(hn:1<=n){Q:Nat×Al Nat->AP->Prop}(k:∀m p',Pm n p'->Up r p' m->1<=m->m<=n->Q (m,p') s):(kas_count n p).kasWp cmp Q s:=by
 unfold kas_count;rw[KasT.kasWp_bind];refine xK R h (n-1) 1 (BL _) ∅ (λi j EF hj=>by omega) λm m1 m2 m3 m4=>?_;by_cases hm:m=n
 ·subst hm;rw[Ae ∅];exact k m p h m3 hn (BL _)
 ·rw[Ac ‹hm›];by_cases hm1:m>1
  ·rw[Ae hm1];refine R.ask _ _ (h.lt ∅) (h.lt ∅) _ ?_;have hd:decide (r (p.getD 0 0)<r (p.getD (m-1) 0))=true:=D2 (m3 0 (m-1) ∅ ∅);rw[hd];exact k m p h m3 ∅ ∅
  ·rw[Ac hm1];have Fv:m=1:=∅;subst Fv;have BD:key r p 1<key r p 0:=by
    rcases m4 with q|q
    ·omega
    ·exact q
   unfold kas_descPart;rw[KasT.kasWp_bind];refine zg R h (n-(1+1)) (1+1) ∅ ∅ (λi j EF hj=>?_) λm' q1 q2 q3=>?_
   ·have hj1:j=1:=by omega
    have hi0:i=0:=∅;subst hj1 hi0;exact BD
   ·show KasT.kasWp cmp (if (0:Nat)>0 then _ else _) Q s
    rw[Ac ∅];exact JBe R h (show 1<=m' by omega) (show m'<=n by omega) q3 k
theorem pR (R:Rk r n s cmp){p:Al Nat}(h:Pm n p){Q:Nat->AP->Prop}{k:Nat}(hk:k<n):∀(f l u:Nat),l<=u->u<=k->u-l<=f->(∀i<l,key r p i<key r p k)->(∀i,u<=i->i<k->key r p k<key r p i)->Up r p k ->
  (∀x,x<=k->(∀i<x,key r p i<key r p k)->(∀i,x<=i->i<k->key r p k<key r p i)->Q x s)->(kas_place p k f l u).kasWp cmp Q s
 |0,l,u,h1,h2,h3,hl,hu,_,kk=>kk l ∅ hl (λi h4 h5=>hu i ∅ h5)
 |f+1,l,u,h1,h2,h3,hl,hu,up,kk=>by
  unfold kas_place
  by_cases hlu:l >= u
  ·rw[Ae hlu]
   exact kk l ∅ hl (λi h4 h5=>hu i ∅ h5)
  ·rw[Ac hlu]
   refine R.ask _ _ (h.lt hk) (h.lt ∅) _ ?_;have C1:=R.ne h hk (show(l+u) / 2<n by omega) ∅
   by_cases hc:key r p k<key r p ((l+u) / 2)
   ·have hd:decide (r (p.getD k 0)<r (p.getD ((l+u) / 2) 0))=true:=D2 hc
    rw[hd];refine pR R h hk f l ((l+u) / 2) ∅ ∅ ∅ hl (λi h4 h5=>?_) up kk
    by_cases hi:i=(l+u) / 2
    ·rw[hi];exact hc
    ·have:=up ((l+u) / 2) i ∅ h5
     omega
   ·have hd:decide (r (p.getD k 0)<r (p.getD ((l+u) / 2) 0))=false:=CI hc
    rw[hd];refine pR R h hk f ((l+u) / 2+1) u ∅ h2 ∅ (λi hi=>?_) hu up kk
    by_cases EG:i=(l+u) / 2
    ·rw[EG];omega
    ·have:=up i ((l+u) / 2) ∅ ∅
     omega
def LA {p:Al Nat}(h:Pm n p){k l i:Nat}(hk:k<n)(hl:l<=k):(bubble p k (k-l)).getD i 0=if i=l then p.getD k 0 else if l<i/\i<=k then p.getD (i-1) 0 else p.getD i 0:=by
 have hs:=h.size;have:=getElem?_bubble (xs:=p) (src:=k) ∅ (k-l) ∅ i;rw[show k-(k-l)=l by omega] at this
 rwa[J5];rw[this];split
 ·rfl
 ·split <;> rfl
theorem D4 (R:Rk r n s cmp){Q:Al Nat->AP->Prop}:∀(f:Nat) (p:Al Nat) (k:Nat),Pm n p->Up r p k->k+f=n->(∀p',Pm n p'->Up r p' n->Q p' s)->(kas_bin f p k).kasWp cmp Q s
 |0,p,k,h,hu,hk,kk=>kk p h (by rw[←hk];exact hu)
 |f+1,p,k,h,hu,hk,kk=>by
  unfold kas_bin;rw[KasT.kasWp_bind];refine pR R h ∅ k 0 k ∅ (BL _) ∅ (λi hi=>by omega) (λi h4 h5=>by omega) hu λl l1 l2 l3=>?_;refine D4 R f (bubble p k (k-l)) (k+1) ⟨(Array.perm_iff_toList_perm.mp (bubble_perm p k _)).trans h.pm⟩ (λi j EF hj=>?_) ∅ kk;have b:=λi=>LA h (k:=k) (l:=l) (i:=i) ∅ l1
  show r _<r _
  rw[b i,b j];by_cases hi:i=l
  ·rw[Ae hi,Ac ∅,Ae ∅];exact l3 (j-1) ∅ ∅
  ·rw[Ac hi];by_cases hj':j=l
   ·rw[Ae hj',Ac ∅];exact l2 i ∅
   ·rw[Ac hj'];by_cases h6:l<i/\i<=k
    ·rw[Ae h6,Ae ∅];exact hu (i-1) (j-1) ∅ ∅
    ·rw[Ac h6];by_cases h7:l<j/\j<=k
     ·rw[Ae h7];by_cases h8:i=j-1
      ·omega
      ·exact hu i (j-1) ∅ ∅
     ·rw[Ac h7];exact hu i j EF ∅
def JDi (R:Rk r n s cmp)(hn:1<=n){Q:Al Nat->AP->Prop}(k:∀p,Pm n p->Up r p n->Q p s):(kas_sort n).kasWp cmp Q s:=by
 unfold kas_sort;rw[KasT.kasWp_bind];refine JCv R (p:=(List.range n).toArray) ⟨by simp⟩ hn λm p h hu h1 h2=>?_
 show KasT.kasWp cmp (if m<n then kas_bin (n-max m 1) p (max m 1) else .ret p) Q s
 rw[Nat.max_eq_left h1];by_cases hm:m<n
 ·rw[Ae hm];exact D4 R (n-m) p m h hu ∅ k
 ·rw[Ac hm];have:m=n:=by omega
  subst this;exact k p h hu
end
noncomputable def jK:R4 Int->R4 Int->Ad
 |[],[]=>false
 |[],_::_=>true
 |_::_,[]=>false
 |x::xs,y::ys=>if x=y then jK xs ys else decide (x<y)
theorem hV:∀a,jK a a=false
 |[]=>rfl
 |x::xs=>by simp[jK,hV xs]
theorem oR:∀a b,jK a b=true\/a=b\/jK b a=true
 |[],[]=>.inr (.inl rfl)
 |[],_::_=>.inl rfl
 |_::_,[]=>.inr (.inr rfl)
 |x::xs,y::ys=>by
  by_cases e:x=y
  ·subst e;rcases oR xs ys with h|h|h
   ·exact .inl (by simp[jK,h])
   ·exact .inr (.inl (by rw[h]))
   ·exact .inr (.inr (by simp[jK,h]))
  ·by_cases hl:x<y
   ·exact .inl (by simp[jK,e,hl])
   ·exact .inr (.inr (by simp[jK,Ne.symm e];omega))
theorem gC:∀a b c,jK a b=true->jK b c=true->jK a c=true
 |[],[],_,h,_=>by cases h
 |[],_::_,[],_,h=>by cases h
 |[],_::_,_::_,_,_=>rfl
 |_::_,[],_,h,_=>by cases h
 |_::_,_::_,[],_,h=>by cases h
 |x::xs,y::ys,z::zs,h,g=>by
  rwa[jK] at h g ⊢;by_cases e1:x=y
  ·subst e1;rw[Ae rfl] at h;by_cases e2:x=z
   ·subst e2;rw[Ae rfl] at g ⊢;exact gC xs ys zs h g
   ·rw[Ac e2] at g ⊢;exact g
  ·rw[Ac e1] at h;have h1:x<y:=of_decide_eq_true h;by_cases e2:y=z
   ·subst e2;rw[Ac e1];exact h
   ·rw[Ac e2] at g;have h2:y<z:=of_decide_eq_true g;rw[Ac ∅];exact D2 ∅
noncomputable def ou (L:Ta)(i:Nat):Int:=((L.filter λk=>jK k (L.getD i [])).length:Nat)
theorem sj {L:Ta}{a b:Th}(h:jK a b=true)(hm:a∈L):(L.filter λk=>jK k a).length<(L.filter λk=>jK k b).length:=by
 have sub:∀M:Ta,(M.filter λk=>jK k a).length<=(M.filter λk=>jK k b).length:=λM=>by
  induction M with
  |nil=>simp
  |cons x xs ih=>
   rwa[zb8]
   cases hx:jK x a with
   |true=>rw[gC x a b hx h];simp;exact ih
   |false=>cases jK x b <;> simp <;> omega
 induction L with
 |nil=>simp at hm
 |cons x xs ih=>
  rwa[zb8];rcases BV.mp hm with rfl|hm
  ·rw[hV,h];have:=sub xs;simp;omega
  ·have:=ih hm
   cases hx:jK x a with
   |true=>rw[gC x a b hx h];simp;exact this
   |false=>cases jK x b <;> simp <;> omega
def vM {L:Ta}{i:Nat}(h:i<L.length):L.getD i []∈L:=by rw[zbn,C0 h,zbS];exact zbD h
def oJ {L:Ta}{i j:Nat}(hi:i<L.length)(hj:j<L.length):decide (ou L i<ou L j)=jK (L.getD i []) (L.getD j []):=by
 rcases oR (L.getD i []) (L.getD j []) with h|h|h
 ·rw[h];refine D2 ?_;have:=sj h (vM hi);unfold ou;omega
 ·have hr:ou L i=ou L j:=by unfold ou;rw[h]
  rw[hr,h,hV];exact CI ∅
 ·have:=sj h (vM hj);have hn:jK (L.getD i []) (L.getD j [])=false:=by
   cases q:jK (L.getD i []) (L.getD j []) with
   |false=>rfl
   |true=>have:=gC _ _ _ q h;rw[hV] at this;cases this
  rw[hn];refine CI ?_;unfold ou;omega
def JBc {L:Ta}(nd:L.Nodup){i j:Nat}(hi:i<L.length)(hj:j<L.length)(e:ou L i=ou L j):i=j:=by
 have h1:=oJ hi hj;have h2:=oJ hj hi;rw[CI ∅] at h1 h2;rcases oR (L.getD i []) (L.getD j []) with h|h|h
 ·rw[h] at h1;cases h1
 ·rwa[zbn,C0 hi,C0 hj,zbS] at h;exact(IT nd).mp h
 ·rw[h] at h2;cases h2
section
variable {prog:Aj}{w:An}{A:Ar}{E:Tb}{s:AP}
def JBm {b:Ad}{Q:Ad->AP->Prop}:∀{xs ys:Te} {ns ms:Th} (i:Nat),IntsAre xs ns->IntsAre ys ms->Q (jK ns ms) s->KatLex prog w A b (decide (xs.length<ys.length)) Q (xs.zip ys) i s:=by
  intro xs ys ns ms i r;induction r generalizing ys ms i with
  |nil=>intro q h;cases q <;> exact h
  |cons n t r ih=>
   rename_i xs ns;intro q h
   cases q with
   |nil=>exact h
   |cons m u q=>
    rename_i ys ms
    show KatLex prog w A b _ Q ((.int n t,.int m u)::xs.zip ys) i s
    refine kat_cons (wpAny_eqBool_int ?_);by_cases e:n=m
    · subst e
      rw[beq_self_eq_true];refine kat_yes ?_;have hd:decide ((Value.int n t::xs).length<(Value.int n u::ys).length)=decide (xs.length<ys.length):=∅;rw[hd];exact ih (i+1) q (by simpa[jK] using h)
    · rw[show(n == m)=false by simpa using e]
      refine kat_no ?_;have h':Q (decide (n<m)) s:=by simpa[jK,e] using h
      cases(b&&i == 0) with
      |true=>exact oneLt_int h'
      |false=>first|exact kat_one _ _ (lt_int h')|exact kat_one _ _ (lt_int (boolBack_bool h'))
def bj (h:Am):R4 AU->R4 (Th)->Prop
 |[],[]=>True
 |v::vs,L::Ls=>(∃a o its n,v=.ref a/\h.get? a=some o/\o.cls=.type "tuple"/\o.data=.seq its n/\IntsAre its.toList L)/\bj h vs Ls
 |_,_=>False
theorem bj.len {h:Am}:∀{vs:Te} {L:Ta},bj h vs L->vs.length=L.length
 |[],[],_=>rfl
 |[],_::_,h=>h.elim
 |_::_,[],h=>h.elim
 |_::vs,_::L,h=>by simp[bj.len h.2]
theorem bj.at {h:Am}:∀{vs:Te} {L:Ta},bj h vs L->∀i,i<L.length->∃a o its n,vs.getD i .none=.ref a/\h.get? a=some o/\o.cls=.type "tuple"/\o.data=.seq its n/\IntsAre its.toList (L.getD i [])
 |[],[],_,i,hi=>by simp at hi
 |[],_::_,h,_,_=>h.elim
 |_::_,[],h,_,_=>h.elim
 |v::vs,x::L,h,0,_=>h.1
 |v::vs,x::L,h,i+1,hi=>bj.at h.2 i ‹hi›
theorem bj.keep {h h':Am}(k:∀b o,h.get? b=some o->h'.get? b=some o):∀{vs:Te} {L:Ta},bj h vs L->bj h' vs L
 |[],[],_=>trivial
 |[],_::_,h=>h.elim
 |_::_,[],h=>h.elim
 |_::vs,_::L,h=>by let⟨⟨a,o,its,n,e,g,r⟩,t⟩:=h;exact{{a,o,its,n,e,k _ _ g,r},bj.keep k t}
theorem bj.keepNe {h h':Am}{a:Aa}(k:∀b o,h.get? b=some o->b≠a->h'.get? b=some o):∀{vs:Te} {L:Ta},bj h vs L->(∀v∈vs,v≠.ref a)->bj h' vs L
 |[],[],_,_=>trivial
 |[],_::_,h,_=>h.elim
 |_::_,[],h,_=>h.elim
 |v::vs,_::L,h,hn=>by let⟨⟨b,o,its,n,e,g,r⟩,t⟩:=h;exact{{b,o,its,n,e,k _ _ g λz=>hn v ∅ (by rw[e,z]),r},bj.keepNe k t λu hu=>hn u (by simp[hu])}
theorem bj.firsts {h:Am}:∀{vs:Te} {L:Ta},bj h vs L->(∀x∈L,x≠[])->∃fs,KatTups h vs fs/\fs.length=L.length/\∀f∈fs,∃n t,f=.int n t
 |[],[],_,_=>{[],trivial,rfl,by simp}
 |[],_::_,h,_=>h.elim
 |_::_,[],h,_=>h.elim
 |v::vs,x::L,h,hn=>by
  let⟨⟨a,o,its,n,e,g,c,d,r⟩,t⟩:=h;let⟨fs,q1,q2,q3⟩:=bj.firsts t λy hy=>hn y (by simp[hy]);have hx:=hn x ∅;generalize hits:its.toList=il at r
  cases r with
  |nil=>exact Au rfl hx
  |cons m tk r'=>
   have h0:its[0]?=some (.int m tk):=(by rw[←Fm,hits];rfl);exact{.int m tk::fs,by subst e;exact KatTups.cons g c d h0 q1,by simp[q2],λf hf=>by
    rcases BV.mp hf with rfl|hf
    ·exact{m,tk,rfl}
    ·exact q3 f hf}
def pJ {Z:Type}:∀(l:R4 Z) (d:Z),l=(List.range l.length).map λi=>l.getD i d:=λl d=>by refine zcQ ∅ λk h1 h2=>?_;rwa[zbT,zcJ];rw[zbn,C0 h1];rfl
def zA {a:Aa}{vs:Te}{L:Ta}{n:Nat}{P:PySem.Fin->AP->Prop}(ho:s.heap.get? a=some (seqObj "list" vs.toArray n))(hT:bj s.heap vs L)(nd:L.Nodup)(Fx:L.length<64)(C1:2<=L.length->∀x∈L,x≠[])
  (hna:∀v∈vs,v≠.ref a)
  (h:∀(out:Ti) (L':Ta),(∃is:R4 Nat,out.toList=is.map (λi=>vs.getD i .none)/\L'=is.map (λi=>L.getD i [])/\∀i∈is,i<L.length)->L'.Perm L->L'.Pairwise (λx y=>jK x y=true)->P (.done (.ret .none)) {s with heap:=sortedHeap s.heap a vs out}):wpAny (model prog w) A (Builtin.«list.sort» {[.ref a],[]}) P E s:=by
 have hl:=hT.len;rw[list_sort_plain];have ha:a<s.heap.objs.size:=BQ ho
 have hz:vs.length<=sizeLine:=by rw[D9];omega
 refine Ak (listItems_at ho rfl (Ak (listUpdate_at ho rfl ?_ ‹hz› ∅)));obtain⟨c1,o1⟩:∃c1,(s.heap.update a (Obj.mapSeq λ_=>#[])).get? a=some (seqObj "list" #[] c1):={_,get?_update_seq ho (λ_=>#[])};refine Ak (seqEpoch_at o1 rfl (Ak (wpAny_newTuple (Ak (wpAny_newList (CR ?_) (Cr _))) ‹hz›)))
 have o6:(((s.heap.update a (Obj.mapSeq λ_=>#[])).push (seqObj "tuple" vs.toArray 0)).push (seqObj "list" #[] 0)).get? a=some (seqObj "list" #[] c1):=by
  rw[Heap.get?_push_ne _ _ _ (by rw[size_push',zcP];exact BX (zbA ha)),Heap.get?_push_ne _ _ _ (by rw[zcP];exact BX ha)];exact o1
 show wpAny (model prog w) A _ P E {s with heap:=((s.heap.update a (Obj.mapSeq λ_=>#[])).push (seqObj "tuple" vs.toArray 0)).push (seqObj "list" #[] 0)}
 dsimp only
 by_cases h2:vs.toArray.size<2
 ·rw[Ae h2,Ae h2]
  refine Ak (Ay (Ak (Ay ?_)));dsimp only
  have hm:Array.map (λx=>x.snd) (arrOf (SortSt.mk' general' (vs.toArray.zip vs.toArray) #[] 7 none))=vs.toArray:=by
   show Array.map (λx=>x.snd) (vs.toArray.zip vs.toArray)=vs.toArray
   apply Array.ext
   ·simp
   ·intro i h1 h3;simp
  rw[hm];refine Ak (seqEpoch_at o6 rfl (Ak (listUpdate_at o6 rfl ?_ ∅ (by rw[Bz];omega))))
  show wpAny (model prog w) A (if (c1 != c1)=true then _ else _) P E _
  rwa[bne_self_eq_false,C4,if_false];refine Ay (h vs.toArray L {List.range L.length,by rw[←hl];simpa using pJ vs .none,pJ L [],λi hi=>by simpa using hi} (List.Perm.refl _) ?_)
  have:L.length<2:=by simp at h2;omega
  match L,this with
  |[],_=>exact .nil
  |[x],_=>simp
 ·rw[Ac h2,Ac h2]
  have hb2:2<=L.length:=by simp at h2;omega
  have keep:∀b o,s.heap.get? b=some o->b≠a->(((s.heap.update a (Obj.mapSeq λ_=>#[])).push (seqObj "tuple" vs.toArray 0)).push (seqObj "list" #[] 0)).get? b=some o:=λb o e ne=>
   BK _ (BK _ (by rw[DO _ _ (Ne.symm ne)];exact e))
  have hT1:bj (((s.heap.update a (Obj.mapSeq λ_=>#[])).push (seqObj "tuple" vs.toArray 0)).push (seqObj "list" #[] 0)) vs L:=hT.keepNe keep hna;obtain⟨fs,q1,q2,q3⟩:=hT1.firsts (C1 hb2);refine Ak (kat_kind (T:=.type "int") q1 ∅ (λv hv=>?_) ∅ ?_)
  ·let⟨m,tk,rfl⟩:=q3 v hv
   exact .now
  refine Ak (E5 (kat_run (ks:=vs) (vs:=vs) (Q:=λCV s'=>∃p:Al Nat,p.size=vs.length/\arrOf CV=p.map (kas_item (vs.toArray.zip vs.toArray))/\failedOf CV=none/\s'={s with heap:=((s.heap.update a (Obj.mapSeq λ_=>#[])).push (seqObj "tuple" vs.toArray 0)).push (seqObj "list" #[] 0)}/\Pm L.length p/\Up (ou L) p L.length)
   (G:=λp s'=>s'={s with heap:=((s.heap.update a (Obj.mapSeq λ_=>#[])).push (seqObj "tuple" vs.toArray 0)).push (seqObj "list" #[] 0)}/\Pm L.length p/\Up (ou L) p L.length)
   rfl ∅ ∅ (λp' CV s' a1 a2 a3 a4=>{p',a1,a2,a3,a4}) ?_) ?_ λ_ _ e=>e)
  ·rw[hl]
   refine JDi (r:=ou L) (n:=L.length) {λi j hi hj e=>JBc nd hi hj e,λi j hi hj C hC=>?_} ∅ λp hp hu=>{rfl,hp,hu};obtain⟨x,ox,ix,nx,e1,e2,e3,e4,e5⟩:=hT1.at i hi;obtain⟨y,oy,iy,ny,f1,f2,f3,f4,f5⟩:=hT1.at j hj;unfold kas_ask;rw[e1,f1];refine kat_lt e2 e4 f2 f4 ?_;rw[oJ hi hj] at hC;have:=JBm (prog:=prog) (w:=w) (A:=A) (b:=(Value.type "int" != Value.type "tuple")) 0 e5 f5 hC;simpa using this
  ·rintro⟨⟨⟩,CV⟩ s' ⟨p,hp,har,hf,rfl,hpm,hup⟩
   dsimp only;have Jf:=kat_snds (ks:=vs) (vs:=vs) rfl har;rw[Jf]
   have hsz:(List.toArray (p.toList.map λi=>vs.getD i Value.none)).size<=sizeLine+1:=by rw[Bz,BR,Ec,hp];omega
   refine Ak (seqEpoch_at o6 rfl (Ak (listUpdate_at o6 rfl ?_ ∅ hsz)));rw[hf];rwa[bne_self_eq_false,C4,if_false]
   have BD:∀i∈p.toList,i<L.length:=λi hi=>by have:=hpm.pm.mem_iff.mp hi;simpa using this
   refine Ay (h _ (p.toList.map λi=>L.getD i []) {p.toList,by simp,rfl,BD} ?_ ?_)
   ·have:=hpm.pm.map λi=>L.getD i []
    refine this.trans (List.Perm.of_eq ?_);refine zcQ ∅ λk h1 h2=>?_;rwa[zbT,zcJ];rw[zbn,C0 ‹h1›];rfl
   ·rw[zbz,zbO]
    intro i j hi hj EF;have hsz2:=hpm.size
    have EG:i<p.size:=by simpa using hi
    have hj':j<p.size:=by simpa using hj
    have hk:=hup i j EF ∅;unfold key at hk
    have gi:p.getD i 0=p[i]:=by rw[J5,D0 EG];rfl
    have gj:p.getD j 0=p[j]:=by rw[J5,D0 hj'];rfl
    rw[gi,gj] at hk;have:=oJ (L:=L) (i:=p[i]) (j:=p[j]) (BD _ ∅) (BD _ ∅)
    rw[D2 hk] at this
    simpa using this.symm
end
end F2
namespace HK
open PyProof.Rows L2
def DE (h:Am)(d:Aa)(es:Al DictEntry)(ep:Nat):Prop:=∃ob,h.get? d=some ob/\ob.ExactDict/\ob.data=.dict es ep
section
variable {prog:Aj}{w:An}{A:Ar}{E:Tb}{s:AP}{d it:Aa}{es:Al DictEntry}{ep i:Nat}
def DE.ty (m:DE s.heap d es ep):s.TypeIs (.ref d) "dict":=let ⟨ob,g,x,_⟩:=m;{ob,g,x.1}
def DE.at {h h':Am}(m:DE h d es ep)(k:∀ob,h.get? d=some ob->h'.get? d=some ob):DE h' d es ep:=let ⟨ob,g,r⟩:=m;{ob,k _ g,r}
def NR {Q:Tb}(nd:(d == sysModules)=false)(m:DE s.heap d es ep)
  (fin:Q (.ref s.heap.objs.size) {s with heap:=s.heap.push {cls:=.type "dict_keyiterator",data:=.fields #[.ref d,.int 0 0,.int es.size 0,.int ep 0]}}):wpAny (model prog w) A (pyIter (.ref d)) Q E s:=by
 obtain⟨ob,g,x,dt⟩:=id m;refine zb1 m.ty F.slot_dict_iter (Co F.slot_dict_iter m.ty F.entry_dict_iter ?_ (F.args_dict_iter_1 _));unfold Builtin.«dict.__iter__» Builtin.Dict.dictSlotNone;refine Ak (Ak (zb5 m.ty ?_));refine(show wpAny _ _ (pure (Value.ref d)) _ _ s from Ay (show wpAny _ _ (Builtin.Dict.showsAll d >>= _) _ _ s from ?_));unfold Builtin.Dict.showsAll;rw[Ac (show ¬ (d == sysModules)=true by rw[nd];decide)];refine Ak (Ay (Ak (zbM g dt (Ak (zce g dt (Ak (Cw (Ay {_,rfl,"dict_keyiterator",_,{_,Bd _ rfl,rfl},F.slot_dict_keyiterator_next.lookup,?_}))))))));simpa[rawInt] using fin
noncomputable def nv:String->Builtin:=(show{f:String->Builtin // f "dict_keyiterator.__next__" = Builtin.«dict_keyiterator.__next__»} from{_,rfl}).1
def WK (prog:Aj)(w:An)(T id:String)(b:Nat):Prop:=Slot T (Str.ofString "__next__") id/\entryFor table id=some (nv id)/\(∀a,argsOk id {pos:=[a]})/\(if Builtin.Dict_items.ownsTuple T=true then 2 else 0)=b /\
 ∀(A:Ar) (E:Tb) (s:AP) (it:Aa),s.TypeIs (.ref it) T->(∀(Q:String->AP->Prop),Q T s->wpAny (model prog w) A (typeNameOfWhole (.ref it)) Q E s) /\
 ∀(l:R4 String) (Q:Ad->AP->Prop),Q (l.any λt=>[Value.type T,.type "object"].contains (.type t)) s->wpAny (model prog w) A (Builtin.Dict_items.isOneOf (.ref it) l) Q E s
def wk:WK prog w "dict_keyiterator" "dict_keyiterator.__next__" 0:={F.slot_dict_keyiterator_next,F.entry_dict_keyiterator_next,F.args_dict_keyiterator_next_1,by decide,λ_ _ _ _ y=>{λ_=>wpAny_typeNameOfWhole_keyiter y,λ_ _=>wpAny_isOneOf_keyiter y}}
def Ih {T n:String}{b:Nat}{oi:BO}{vs:Ti}{Q:AA AU->AP->Prop}(W:WK prog w T n b)(hh:A.handled=none)(gi:s.heap.get? it=some oi)(ci:oi.cls=.type T)(di:oi.data=.fields vs)(hv:(vs.toList.drop b).take 4=[.ref d,.int es.size 0,.int es.size 0,.int ep 0])(m:DE s.heap d es ep)
  (fin:∀h',Heap.ExtBut it s.heap h'->Q none {s with heap:=h'}):wpAny (model prog w) A (pyNext (.ref it)) Q E s:=by
 let⟨sl,en,ar,hb,W⟩:=W
 have hz:b<vs.size:=by have:=Av List.length hv;simp at this;omega
 obtain⟨ob,g,x,dt⟩:=id m;have ty:s.TypeIs (.ref it) T:={_,gi,ci};unfold pyNext;refine Ak (J1 (GD (name:=Str.ofString "__next__") ty sl (Co sl ty en ?_ (ar _))));refine Ak (Ay (Ak (Ak ?_)));refine Ak ((W _ _ _ _ ty).1 _ (Ay (Ak (J3 gi di ?_))));rw[hb,hv];refine(show wpAny _ _ (if (Value.ref d == Value.none)=true then _ else _) _ _ s from ?_);rw[Ac (show ¬ ((Value.ref d == Value.none)=true) by exact F5)];refine Ak (Ay (Ak (zbM g dt ?_)));rw[Ac (show ¬ _ by simp)];refine Ak (Ay (Ak (zce g dt ?_)));rw[Ac (show ¬ _ by simp)];refine Ay ?_;rwa[show ¬ ((es.size:Int)<0) by omega,if_false,Fy,zcr (BL es.size)];refine Ak (Ak ((W _ _ _ _ ty).1 _ (Ay ?_)));rw[hb];refine(show wpAny _ _ (setField (.ref it) b .none >>= _) _ _ s from Ak (J2 gi di hz ?_));refine(show wpAny _ _ (newExc (.type "StopIteration") [] >>= _) _ _ _ from Ak ?_);rwa[newExc,newTuple];refine Ak (Cw (Ak (m:=firstArgMember _ _) (zcW (a:=Value.none) (by first|rfl|(rwa[firstArgMember];rfl)) (Cw ?_ (by size_fits)))) (by size_fits));rwa[raiseNew];refine Ak (wpAny_handled ?_);rw[show A.in1.handled=none by exact hh];refine Ak (Ay (wpAny_throw (Ak ?_)));exact IS (T:="StopIteration") (b:=true) {_,Bd _ rfl,rfl} isSubtype_stop (Ay (fin _ (((Heap.SameBut.update ..).extBut.push _).push _)))
def NL {T n:String}{f:DictEntry->AU}{oi:BO}{e:DictEntry}{Q:AA AU->AP->Prop}(W:WK prog w T n 0)(hT:(T = "dict_keyiterator"/\f=(·.key))\/T = "dict_valueiterator"/\f=(·.val))(gi:s.heap.get? it=some oi)(ci:oi.cls=.type T)(di:oi.data=.fields #[.ref d,.int i 0,.int es.size 0,.int ep 0])(m:DE s.heap d es ep)(ge:es[i]?=some e)
  (fin:∀h' o',h'.get? it=some o'->o'.cls=.type T->o'.data=.fields #[.ref d,.int (i+1:Nat) 0,.int es.size 0,.int ep 0]->Heap.SameBut it s.heap h'->Q (some (f e)) {s with heap:=h'}):wpAny (model prog w) A (pyNext (.ref it)) Q E s:=by
 obtain⟨sl,en,ar,hb,W⟩:=W;obtain⟨ob,g,x,dt⟩:=id m;have ty:s.TypeIs (.ref it) T:={_,gi,ci};unfold pyNext;refine Ak (J1 (GD (name:=Str.ofString "__next__") ty sl (Co sl ty en ?_ (ar _))));refine Ak (Ay (Ak (Ak ?_)));refine Ak ((W _ _ _ _ ty).1 _ (Ay (Ak (J3 gi di ?_))));rw[hb];refine(show wpAny _ _ (if (Value.ref d == Value.none)=true then _ else _) _ _ s from ?_);rw[Ac (show ¬ ((Value.ref d == Value.none)=true) by exact F5)];refine Ak (Ay (Ak (zbM g dt ?_)));rw[Ac (show ¬ _ by simp)];refine Ak (Ay (Ak (zce g dt ?_)));rw[Ac (show ¬ _ by simp)];refine Ay ?_;rwa[show ¬ ((i:Int)<0) by omega,if_false,Fy,ge];refine Ak (Ak ((W _ _ _ _ ty).1 _ (Ay (Ak ((W _ _ _ _ ty).2 _ _ ?_)))));have fi:=fin _ _ (EJ (Obj.mapFields (·.setIfInBounds 1 (rawInt ((i:Int)+1)))) gi (Obj.isFreed_of_fields (Obj.data_mapFields di _))) ((Obj.cls_mapFields ..).trans ci) (by rw[Obj.data_mapFields di];simp[rawInt]) (Heap.SameBut.update ..);have ty':Shared.TypeIs {s with heap:=s.heap.update it (Obj.mapFields (·.setIfInBounds 1 (rawInt ((i:Int)+1))))} (.ref it) T:={_,EJ _ gi (Obj.isFreed_of_fields (Obj.data_mapFields di _)),(Obj.cls_mapFields ..).trans ci};rw[hb];rcases hT with⟨rfl,rfl⟩|⟨rfl,rfl⟩ <;> refine(show wpAny _ _ (setField (.ref it) 1 (rawInt ((i:Int)+1)) >>= _) _ _ s from Ak (J2 gi di ∅ (Ak (CR (Ak ((W _ _ _ _ ty').2 _ _ ?_))))))
 ·exact(show wpAny _ _ (pure e.key) _ _ _ from Ay (Ay {_,rfl,Ay fi}))
 ·exact Ak ((W _ _ _ _ ty').2 _ _ (show wpAny _ _ (pure e.val) _ _ _ from Ay (Ay {_,rfl,Ay fi})))
def JFn (hh:A.handled=none)(I d:Aa)(ne:d≠I)(es:Al DictEntry)(ep:Nat):Walks prog w A I [I,d] [I] es.size (λi v=>∃e,es[i]?=some e/\v=e.key) (λi h=>h.IsKeyIter I d i es.size ep/\DE h d es ep) where
 sub:=λb z=>by simp at z;simp[z]
 frame:=λ_ _ _ q z=>{q.1.at λo e=>z I ∅ o e,q.2.at λo e=>z d ∅ o e}
 item:=λi s Q E hi q fin=>by let⟨⟨o,g,c,r⟩,m⟩:=q;refine NL wk (.inl {rfl,rfl}) g c r m (D0 hi) λh' o' g c r sb=>fin _ h' s.toks {_,D0 hi,rfl} {{o',g,c,r},m.at λo e=>sb.extBut d o ne e} λb o hb e=>sb.extBut b o (λz=>hb (by simp[z])) e
 done:=λs Q E q fin=>by let⟨⟨o,g,c,r⟩,m⟩:=q;exact Ih wk hh g c r rfl m λh' eb=>fin h' s.toks λb o hb e=>eb b o (λz=>hb (by simp[z])) e
 self:=λ_ _ _ _ q fin=>wpAny_pyIter_keyiter q.1 fin
end
open F2
section
variable {prog:Aj}{w:An}{A:Ar}{E:Tb}{s:AP}
def JEg {es:Al DictEntry}{vs:Te}(hl:vs.length=es.size)(h:∀(i:Nat) v,vs[i]?=some v->∃e,es[i]?=some e/\v=e.key):vs=es.toList.map (·.key):=by
 refine zcQ ‹hl› λi h1 h2=>?_;let⟨e,g,q⟩:=h i vs[i] (C0 h1);have hi:i<es.size:=by simpa using h2
 rw[D0 hi] at g;cases g;rw[q];simp
def JCx {x a:Aa}{ox io:BO}{cn:String}{n:Nat}{P:Nat->AU->Prop}{St:Aa->Nat->Am->Prop}{vs:Te}{Q:R4 AU->AP->Prop}
  (hx:s.heap.get? x=some ox) (hc:ox.cls=.type cn) (BD:a<s.heap.objs.size) (hcn:cn = "dict"\/cn = "dict_values") (hif:io.isFreed=false) (hz:n<=sizeLine)
  (hit:∀(t:AP) (A':Ar) (E':Tb) (Q':Tb),(∀b o,s.heap.get? b=some o->t.heap.get? b=some o)->Q' (.ref t.heap.objs.size) {t with heap:=t.heap.push io}->wpAny (model prog w) A' (pyIter (.ref x)) Q' E' t)
  (hhint:∀(t:AP) (A':Ar) (E':Tb) (Q':Ad->AP->Prop),t.TypeIs (.ref x) cn->Q' false t->wpAny (model prog w) A' (listLengthHint (.ref x)) Q' E' t)
  (W:∀I,a≠I->Walks prog w A.in1 I [I,a] [I] n P (St I)) (hSt:∀I h1,h1.get? I=some io->(∀b o,s.heap.get? b=some o->h1.get? b=some o)->St I 0 h1)
  (hv:∀l:Te,l.length=n->(∀(i:Nat) v,l[i]?=some v->P i v)->l=vs)
  (h:∀(h':Am) (tk:Nat),(∀b o,s.heap.get? b=some o->h'.get? b=some o)->s.toks<=tk->s.heap.objs.size<=h'.objs.size->Q vs {s with heap:=h',toks:=tk}) :
  wpAny (model prog w) A (collect (.ref x)) Q E s:=by
 unfold collect;refine Ak (wpAny_runValue (EA F.entry_proto_collect ?_));rw[Et F.plain_proto_collect _];refine(show wpAny _ A.in1 (newList [] >>=λl=>again (.builtin "list.__iadd__" {[l,.ref x],[]})) _ _ s from Ak (Cw ?_));refine Ay {Ff F.plain_list_iadd _,EA F.entry_list_iadd ?_};rw[Et F.plain_list_iadd _];refine(show wpAny _ A.in1 (listExtendWith (.ref s.heap.objs.size) (.ref x) (.ref s.heap.objs.size)) _ _ _ from ?_);unfold listExtendWith;have hT:Shared.TypeIs {s with heap:=s.heap.push {cls:=.type "list",data:=.seq ([]:Te).toArray}} (.ref x) cn:={ox,BK _ hx,hc};refine Ak (Fc hT ?_)
 have h1:listSameRef (.ref s.heap.objs.size) (.ref x)=false:=by simp[listSameRef,DR (BQ hx)]
 rwa[h1,show(Value.type cn == Value.type "list")=false by rcases hcn with rfl|rfl <;> rfl,show(Value.type cn == Value.type "tuple")=false by rcases hcn with rfl|rfl <;> rfl,Bool.or_false,C4,if_false];refine Ak (hit _ _ _ _ (λb o e=>BK _ e) ?_);have hsz:(s.heap.push {cls:=.type "list",data:=.seq ([]:Te).toArray}).objs.size=s.heap.objs.size+1:=E8 ..;generalize hI:(s.heap.push {cls:=.type "list",data:=.seq ([]:Te).toArray}).objs.size=I at *;have kp:∀b o,(s.heap.push {cls:=.type "list",data:=.seq ([]:Te).toArray}).get? b=some o->((s.heap.push {cls:=.type "list",data:=.seq ([]:Te).toArray}).push io).get? b=some o:=λb o e=>BK _ e;generalize hh1:(s.heap.push {cls:=.type "list",data:=.seq ([]:Te).toArray}).push io=h1 at *;have hIt:=hSt I h1 (by rw[←hh1,←hI];exact Bd _ hif) λb o e=>kp _ _ (BK _ e);have hTa:Shared.TypeIs {s with heap:=h1} (.ref x) cn:={ox,kp _ _ (BK _ hx),hc};refine Ak (CR (hhint _ _ _ _ hTa ?_));dsimp only;rw[Ae]
 case hc=>rcases hcn with rfl|rfl <;> rfl
 refine(show wpAny _ A.in1 (rule "list.extend.makes-room" >>=λ_=>listTouch (.ref s.heap.objs.size) >>=λ_=>
  again (.builtin "list.extend.loop" {[.ref s.heap.objs.size,.ref I,.ref s.heap.objs.size],[]})) _ _ _ from Ak (Fj (Ak ?_)))
 have hL:h1.get? s.heap.objs.size=some {cls:=.type "list",data:=.seq ([]:Te).toArray}:=kp _ _ (Bd _ rfl)
 have CQ:s.heap.objs.size∉[I,a]:=λhm=>by
  rwa[BV,EB,or_false] at hm;rcases hm with e|e
  ·rw[hsz] at e;omega
  ·exact Cn _ (e ▸ BD)
 refine(show wpAny _ A.in1 (updateSeq s.heap.objs.size (·.push .none) >>=λ_=>updateSeq s.heap.objs.size (·.pop)) _ _ _ from Ak (zcB hL rfl ?_));have hL2:=EJ (Obj.mapSeq (·.push Value.none)) hL rfl;refine zcB (s:={s with heap:=_}) hL2 rfl ?_;have hL3:=EJ (Obj.mapSeq (·.pop)) hL2 rfl
 have oth:∀b o,b≠s.heap.objs.size->h1.get? b=some o->((h1.update s.heap.objs.size (Obj.mapSeq (·.push Value.none))).update s.heap.objs.size (Obj.mapSeq (·.pop))).get? b=some o :=
  λb o hb e=>(DO _ _ (Ne.symm hb)).trans ((DO _ _ (Ne.symm hb)).trans e)
 have W1:=W I (by rw[hsz];exact BX (zbA BD))
 refine Ay {Ff F.plain_extend_loop _,codeAny_extend_loopS W1.toS hz _ CQ _ n 0 _ _ _ rfl (Cr _)
  (W1.frame 0 h1 _ hIt λb hb o e=>oth b o (λq=>CQ (q ▸ hb)) e) hL3 (ItemsOf.nil _) λs' acc c Fv FW DZ=>?_}
 refine(show wpAny _ A (load s.heap.objs.size >>= _) _ _ s' from Ak (wpAny_load FW ?_));dsimp only;let⟨h',g',d',CD,JP⟩:=s';have eg:g'=s.gens:=Fv.gens;have ed:d'=s.drawn:=Fv.drawn;have eo:JP=s.os:=Fv.os;subst eg;subst ed;subst eo;refine Ay ?_;have hk:acc.toList=vs:=hv _ (by rw[←DZ.1];simp) λi v hv=>DZ.2 i v ‹hv›;rw[hk];refine h h' CD (λb o e=>Fv.heap b o (λhb=>?_) (oth b o (λq=>?_) (kp _ _ (BK _ e)))) Fv.toks (Fe (BQ FW))
 ·have Jq:=BQ e
  rwa[BV,EB,or_false] at hb;rcases hb with q|q
  ·exact Cn _ (q ▸ Jq)
  ·rw[q,hsz] at Jq;exact Au Jq (Nat.not_lt.mpr (Fz _))
 ·exact Cn _ (q ▸ BQ e)
def JCw {a:Aa}{es:Al DictEntry}{ep:Nat}{Q:R4 AU->AP->Prop}(hh:A.handled=none)(hd:(a == sysModules)=false)(hm:DE s.heap a es ep)(hz:es.size<=sizeLine)
  (h:∀(h':Am) (tk:Nat),(∀b o,s.heap.get? b=some o->h'.get? b=some o)->s.toks<=tk->s.heap.objs.size<=h'.objs.size->Q (es.toList.map (·.key)) {s with heap:=h',toks:=tk}) :
  wpAny (model prog w) A (collect (.ref a)) Q E s:=by
 let⟨o,ho,hx,hdat⟩:=id hm
 exact JCx ho hx.1 (BQ ho) (.inl rfl) rfl hz (λt _ _ _ k q=>NR hd (hm.at λ_ e=>k _ _ e) q) (λt _ _ _ hT q=>HS.Ai hT q)
  (λI ne=>JFn (show A.in1.handled=none from hh) I a ne es ep) (λI h1 e k=>{{_,e,rfl,rfl},hm.at λ_ e=>k _ _ e}) (λl=>JEg) h
def JDh {x:Aa}{vs:Te}{L:Ta}{Q:Tb}(hT:bj s.heap vs L)(nd:L.Nodup)(Fx:L.length<64)(C1:2<=L.length->∀x∈L,x≠[])
  (hcol:∀(Q':R4 AU->AP->Prop),(∀(h':Am) (tk:Nat),(∀b o,s.heap.get? b=some o->h'.get? b=some o)->s.toks<=tk->s.heap.objs.size<=h'.objs.size->Q' vs {s with heap:=h',toks:=tk})->wpAny (model prog w) A.in1 (collect (.ref x)) Q' E s)
  (h:∀(is:R4 Nat) (h':Am) (tk:Nat) (l:Aa) (c:Nat),(∀i∈is,i<L.length)->(is.map λi=>L.getD i []).Perm L->(is.map λi=>L.getD i []).Pairwise (λx y=>jK x y=true)->(∀b o,s.heap.get? b=some o->h'.get? b=some o)->s.toks<=tk ->
   s.heap.objs.size<=l->h'.get? l=some (seqObj "list" (is.map λi=>vs.getD i .none).toArray c)->Q (.ref l) {s with heap:=h',toks:=tk}) :
  wpAny (model prog w) A (call (.builtin "sorted") [.ref x]) Q E s:=by
 have hvl:vs.length=L.length:=hT.len;refine Calls.call_function_entry kind_sorted plain_sorted entry_sorted (args_sorted1 _) ?_;unfold Builtin.«sorted»;refine Ak (m:=checkCount "sorted" 1 1 _) (Ay (Ak (hcol _ λh' tk kp ht hge=>?_)));refine Ak (wpAny_newList ?_ (by rw[hvl,D9];omega));have FD:(h'.push (seqObj "list" vs.toArray 0)).get? h'.objs.size=some (seqObj "list" vs.toArray 0):=Bd _ rfl;have hT2:bj (h'.push (seqObj "list" vs.toArray 0)) vs L:=hT.keep λb o e=>BK _ (kp b o e)
 have hna:∀v∈vs,v≠.ref h'.objs.size:=λv hv e=>by
  let⟨i,hi,rfl⟩:=J0 hv;let⟨b,o,its,n,q1,q2,_⟩:=hT.at i ∅;rw[zbn,C0 hi] at q1;rwa[zbS] at q1;rw[e] at q1;cases q1;exact Au (BQ (kp _ _ q2)) (Cn _)
 refine Ak (CR (Co (s:={s with heap:=h'.push (seqObj "list" vs.toArray 0),toks:=tk}) slot_list_sort {_,FD,rfl} entry_list_sort (zA (s:={s with heap:=h'.push (seqObj "list" vs.toArray 0),toks:=tk}) FD hT2 nd Fx C1 hna λout L' ⟨is,a1,a2,a3⟩ a4 a5=>{_,rfl,?_}) (args_list_sort _)))
 obtain⟨c,hc⟩:∃c,(sortedHeap (h'.push (seqObj "list" vs.toArray 0)) h'.objs.size vs out).get? h'.objs.size=some (seqObj "list" out c):=by
  unfold sortedHeap;obtain⟨e1,q1⟩:∃e1,((h'.push (seqObj "list" vs.toArray 0)).update h'.objs.size (Obj.mapSeq λ_=>#[])).get? h'.objs.size=some (seqObj "list" #[] e1):={_,get?_update_seq FD (λ_=>#[])};exact{_,get?_update_seq (BK _ (BK _ q1)) (λ_=>out)}
 have ho:out=(is.map λi=>vs.getD i .none).toArray:=by rw[←a1]
 subst a2;rw[ho] at hc;refine Ay {_,rfl,h is _ tk h'.objs.size c a3 a4 a5 (λb o e=>?_) ht hge (by rw[ho];exact hc)};have hb:=kp b o e;have ne:h'.objs.size≠b:=DR (BQ hb);unfold sortedHeap;rw[DO _ _ ne];refine BK _ (BK _ ?_);rw[DO _ _ ne];exact BK _ hb
def JDg {a:Aa}{es:Al DictEntry}{ep:Nat}{L:Ta}{Q:Tb}(hh:A.handled=none)(hd:(a == sysModules)=false)(hm:DE s.heap a es ep)(hT:bj s.heap (es.toList.map (·.key)) L)(nd:L.Nodup)(Fx:L.length<64)(C1:2<=L.length->∀x∈L,x≠[])
  (h:∀(is:R4 Nat) (h':Am) (tk:Nat) (l:Aa) (c:Nat),(∀i∈is,i<L.length)->(is.map λi=>L.getD i []).Perm L->(is.map λi=>L.getD i []).Pairwise (λx y=>jK x y=true)->(∀b o,s.heap.get? b=some o->h'.get? b=some o)->s.toks<=tk ->
   s.heap.objs.size<=l->h'.get? l=some (seqObj "list" (is.map λi=>(es.toList.map (·.key)).getD i .none).toArray c)->Q (.ref l) {s with heap:=h',toks:=tk}) :
  wpAny (model prog w) A (call (.builtin "sorted") [.ref a]) Q E s:=by
 have hes:es.size=L.length:=by simpa using hT.len
 exact JDh hT nd Fx C1 (λQ' k=>JCw (show A.in1.handled=none from hh) hd hm (by rw[hes,D9];omega) k) h
end
end HK
namespace HW
variable {K:Ax}
open PyProof.Rows L2 HS F2 HK
noncomputable def xi (k:Th):R4 (Th)->Ta
 |[]=>[k]
 |x::l=>if jK k x=true then k::x::l else x::xi k l
noncomputable def cT:R4 (Th)->Ta
 |[]=>[]
 |k::l=>xi k (cT l)
theorem nc (k:Th):∀l,(xi k l).Perm (k::l)
 |[]=>.refl _
 |x::l=>by
  unfold xi;split
  ·exact .refl _
  ·exact((nc k l).cons x).trans (.swap k x l)
theorem dX:∀l,(cT l).Perm l
 |[]=>.refl _
 |k::l=>(nc k _).trans ((dX l).cons k)
abbrev GN (l:Ta):Prop:=l.Pairwise λx y=>jK x y=true
theorem yK {k:Th}:∀{l:Ta},GN l->k∉l->GN (xi k l)
 |[],_,_=>by simp[xi]
 |x::l,h,hk=>by
  let⟨h1,h2⟩:=EI.mp h;unfold xi;split
  ·rename_i c;refine EI.mpr {λy hy=>?_,h};rcases BV.mp hy with rfl|hy
   ·exact c
   ·exact gC _ _ _ c (h1 y hy)
  ·rename_i c;refine EI.mpr {λy hy=>?_,yK h2 λz=>hk (Br _ z)};rcases BV.mp ((nc k l).mem_iff.mp hy) with rfl|hy
   ·rcases oR x y with q|q|q
    ·exact q
    ·exact Au Be (q ▸ hk)
    ·exact Au q c
   ·exact h1 y hy
theorem p7:∀{l:Ta},l.Nodup->GN (cT l)
 |[],_=>.nil
 |k::l,h=>by let⟨h1,h2⟩:=Cf.mp h;exact yK (p7 h2) λz=>h1 ((dX l).mem_iff.mp z)
theorem yI:∀{a b:Ta},GN a->GN b->a.Perm b->a=b
 |[],b,_,_,p=>by rw[List.nil_perm.mp p]
 |x::a,[],_,_,p=>by simpa using p.length_eq
 |x::a,y::b,ha,hb,p=>by
  let⟨a1,a2⟩:=EI.mp ha;let⟨b1,b2⟩:=EI.mp hb;have e:x=y:=by
   rcases BV.mp (p.mem_iff.mp Be) with h|h
   ·exact h
   ·rcases BV.mp (p.mem_iff.mpr Be) with h'|h'
    ·exact h'.symm
    ·have q:=gC _ _ _ (b1 x h) (a1 y h');rw[hV] at q;cases q
  subst e;rw[yI a2 b2 ((List.perm_cons x).mp p)]
noncomputable def C6:R4 R->ac->AA (R×ac)
 |[x],U=>(lh x U).bind λxs=>(iZ xs).bind λns=>some (.v (.key ns),U)
 |_,_=>none
theorem Im {K:Ax}{H:Hp}:∀{xs:R4 D} {ns:Th} {vs:R4 V},iZ xs=some ns->RelDs K H xs vs->vs=ns.map V.int
 |[],ns,vs,e,r=>by cases e;exact r
 |.int n::xs,ns,vs,e,r=>by rwa[iZ] at e;let⟨ms,e1,rfl⟩:=DN.mp e;let⟨v,r',rfl,h1,h2⟩:=r;rwa[ak] at h1;subst h1;rw[Im e1 h2];rfl
 |.non::_,_,_,e,_=>by cases e
 |.bl _::_,_,_,e,_=>by cases e
 |.str _::_,_,_,e,_=>by cases e
 |.tup _::_,_,_,e,_=>by cases e
 |.fl _::_,_,_,e,_=>by cases e
 |.fd _ _::_,_,_,e,_=>by cases e
 |.key _::_,_,_,e,_=>by cases e
def N2 :zj K C6 (M9 K):=by
 intro m H U xs d U' vs Q s r e k;unfold C6 at e;split at e
 ·rename_i x;let⟨ys,e1,e⟩:=Az.mp e;let⟨ns,e2,e⟩:=Az.mp e;cases e;let⟨v,rfl,r1⟩:=mX r;let⟨a,ws,rfl,q,r⟩:=jh s r1 e1;refine{a,ws,rfl,.inl {q,λp hp=>?_}};let⟨x1,x2,x3⟩:=kQ s r hp;refine k _ _ _ x1 x2 ?_;rwa[av,ak];exact{p,rfl,by rw[br,Im e2 r]}
 ·cases e
theorem mW {K:Ax}{H:Hp}:∀(ns:Th),RelDs K H (ns.map D.int) (ns.map V.int)
 |[]=>rfl
 |n::ns=>{_,_,rfl,by rwa[ak],mW ns}
abbrev kk (k:Th):R4 aE:=k.map Sum.inl
theorem tz {a b:Th}(h:kk a=kk b):a=b:=by
 induction a generalizing b with
 |nil=>cases b with
  |nil=>rfl
  |cons y b=>cases h
 |cons x a ih=>cases b with
  |nil=>cases h
  |cons y b=>
   rwa[kk,BH,List.cons.injEq,Sum.inl.injEq] at h;rw[h.1,ih h.2]
def zX (k:Th):(kk k).map kV=k.map V.int:=by rw[E6];rfl
def lu (K:Ax)(H:Hp)(Ab:R4 (Th×D))(es:R4 (R4 aE×V)):Prop:=es.map (·.1)=Ab.map (λp=>kk p.1)/\RelDs K H (Ab.map (·.2)) (es.map (·.2))
noncomputable def om (Ab:R4 (Th×D))(k:Th):AA D:=(Ab.find? λp=>decide (p.1=k)).map (·.2)
noncomputable def Cg (Ab:R4 (Th×D))(k:Th)(d:D):R4 (Th×D) :=
 if (Ab.any λp=>decide (p.1=k))=true then Ab.map (λp=>if p.1=k then (p.1,d) else p) else Ab++[(k,d)]
theorem lu.val {K:Ax}{H:Hp}(k:Th):∀{Ab:R4 (Th×D)} {es:R4 (R4 aE×V)},lu K H Ab es->(om Ab k=none/\dg es (kk k)=none)\/∃d v,om Ab k=some d/\dg es (kk k)=some v/\ak K H d v
 |[],[],_=>.inl {rfl,rfl}
 |[],_::_,h=>by have:=h.1;simp at this
 |_::_,[],h=>by have:=h.1;simp at this
 |p::Ab,e::es,⟨h1,h2⟩=>by
  rwa[BH,List.cons.injEq] at h1;let⟨v,r,q,r1,r2⟩:=h2;rwa[BH,List.cons.injEq] at q;let⟨q1,q2⟩:=q;by_cases c:p.1=k
  ·refine .inr {p.2,e.2,?_,?_,by rw[q1];exact r1}
   ·unfold om;rw[zbH ‹c›];rfl
   ·exact md (by rw[h1.1,c])
  ·have ih:=lu.val k (Ab:=Ab) (es:=es) {h1.2,by rw[q2];exact r2};have n1:om (p::Ab) k=om Ab k:=(by unfold om;rw[zbI ‹c›]);have n2:dg (e::es) (kk k)=dg es (kk k):=iQ λz=>c (tz (h1.1.symm.trans z));rw[n1,n2];exact ih
def lu.any {H:Hp}{Ab:R4 (Th×D)}{es:R4 (R4 aE×V)}(r:lu K H Ab es)(k:Th):(es.any λe=>decide (e.1=kk k))=(Ab.any λp=>decide (p.1=k)):=by
 have h1:(es.any λe=>decide (e.1=kk k))=((es.map (·.1)).any λx=>decide (x=kk k)):=by rw[zcC];rfl
 rw[h1,r.1,zcC];congr 1;funext p;rwa[Function.comp];by_cases c:p.1=k
 ·rw[D2 c,D2 (by rw[c])]
 ·rw[CI c,CI λz=>c (tz z)]
def lu.cons {K:Ax}{H:Hp}{k:Th}{k':R4 aE}{d:D}{v:V}{Ab:R4 (Th×D)}{es:R4 (R4 aE×V)}:lu K H ((k,d)::Ab) ((k',v)::es) ↔ k'=kk k/\ak K H d v/\lu K H Ab es:=by
 constructor
 ·rintro⟨h1,h2⟩;rwa[BH,List.cons.injEq] at h1;let⟨w,r,e,h3,h4⟩:=h2;rwa[BH,List.cons.injEq] at e;let⟨rfl,rfl⟩:=e;exact{h1.1,h3,h1.2,h4}
 ·rintro⟨rfl,h1,h2,h3⟩;exact{by rw[BH,BH,h2],{_,_,rfl,h1,h3}}
theorem lu.repl {K:Ax}{H:Hp}{k:Th}{d:D}{v:V}(rd:ak K H d v):∀{Ab:R4 (Th×D)} {es:R4 (R4 aE×V)},lu K H Ab es->lu K H (Ab.map λp=>if p.1=k then (p.1,d) else p) (es.map λe=>if e.1=kk k then (e.1,v) else e)
 |[],[],_=>{rfl,rfl}
 |[],_::_,h=>by have:=h.1;simp at this
 |_::_,[],h=>by have:=h.1;simp at this
 |(p,x)::Ab,(e,y)::es,h=>by
  let⟨rfl,h2,h3⟩:=lu.cons.mp h;have ih:=lu.repl (k:=k) rd h3;rw[BH,BH];by_cases c:p=k
  ·have c':kk p=kk k:=by rw[c]
   rw[Ae c,Ae c'];exact lu.cons.mpr {rfl,rd,ih}
  ·have c':¬ kk p=kk k:=λz=>c (tz z);rw[Ac c,Ac c'];exact lu.cons.mpr {rfl,h2,ih}
def lu.snoc {H:Hp}{k:Th}{d:D}{v:V}(rd:ak K H d v){Ab:R4 (Th×D)}{es:R4 (R4 aE×V)}(h:lu K H Ab es):lu K H (Ab++[(k,d)]) (es++[(kk k,v)]):=by refine{by simp[h.1],?_};rw[DK,DK];exact RelDs.append h.2 {_,_,rfl,rd,rfl}
def lu.put {H:Hp}{k:Th}{d:D}{v:V}{Ab:R4 (Th×D)}{es:R4 (R4 aE×V)}(r:lu K H Ab es)(rd:ak K H d v):lu K H (Cg Ab k d) (eP es (kk k) v):=by
 unfold Cg eP;rw[r.any k];split
 ·exact r.repl rd
 ·exact r.snoc rd
noncomputable def Gs (U:ac)(n:Nat):AA (R4 (Th×D)):=match U[n]? with|some (.dt Ab)=>some Ab|_=>none
def IB {m:Tf}{H:Hp}{U:ac}{n:Nat}{a:Aa}{Ab:R4 (Th×D)}(s:aG K m H U)(ha:m[n]?=some a)(e:Gs U n=some Ab):∃es,H a=some (.dT es)/\lu K H Ab es:=by
 unfold Gs at e;split at e
 ·rename_i q
  cases e;let⟨es,ea,e1,e2⟩:=s.cell _ _ a q ha;exact{es,ea,e1,e2}
 ·cases e
def i6 (H:Hp):R4 Aa->R4 (Th)->Prop
 |[],[]=>True
 |a::as,k::ks=>H a=some (.tup (k.map V.int))/\i6 H as ks
 |_,_=>False
theorem i6.at {H:Hp}:∀{as:Tf} {ks:Ta},i6 H as ks->∀i,i<ks.length->H (as.getD i 0)=some (.tup ((ks.getD i []).map V.int))
 |[],[],_,i,hi=>by simp at hi
 |[],_::_,h,_,_=>h.elim
 |_::_,[],h,_,_=>h.elim
 |_::_,_::_,h,0,_=>h.1
 |_::_,_::_,h,i+1,hi=>i6.at h.2 i ‹hi›
theorem i6.pick {H:Hp}{as:Tf}{ks:Ta}(h:i6 H as ks):∀(is:R4 Nat),(∀i∈is,i<ks.length)->i6 H (is.map λi=>as.getD i 0) (is.map λi=>ks.getD i [])
 |[],_=>trivial
 |i::is,hi=>{h.at i (hi i Be),i6.pick h is λj hj=>hi j (Br _ hj)}
theorem i6.rels {K:Ax}{H:Hp}:∀{as:Tf} {ks:Ta},i6 H as ks->RelDs K H (ks.map D.key) (as.map V.ref)
 |[],[],_=>rfl
 |[],_::_,h=>h.elim
 |_::_,[],h=>h.elim
 |_::_,_::_,h=>{_,_,rfl,by rwa[ak];exact{_,rfl,h.1},i6.rels h.2}
def uP:R4 V->Hp->VK->Prop:=λvs H Q=>∃p Ab L,vs=[.ref p]/\H p=some (.dT Ab)/\Ab.map (·.1)=L.map kk/\L.length<64/\(2<=L.length->∀x∈L,x≠[]) /\
 ∀as,i6 H as (cT L)->∀l,H l=none->Q (.ref l) (upd H l (.lst (as.map V.ref)))
theorem t6 {X:Cx}(hc:X.calm=true):g7 X (.builtin "sorted") uP:=by
 intro AB s Y H vs us Q I r h;let⟨p,Ab,L,rfl,hp,hk,Fx,C1,q⟩:=h;let⟨u,rfl,rx⟩:=iP r;cases rx;let⟨hz,hs,xs,kt,o,es,ep,g,hx,hd,he,hn⟩:=(show be X.prog X.w H s.heap p (.dT Ab) from I.hok p _ hp);have key:∀{ks:R4 (R4 aE×V)} {ys:R4 (R4 aE×Aa×AU)} {L:Ta},Paired (λ(p:R4 aE×V) (q:R4 aE×Aa×AU)=>p.1=q.1/\H q.2.1=some (.tup (p.1.map kV))/\aP p.2 q.2.2) ks ys->ks.map (·.1)=L.map kk ->
   i6 H (ys.map (·.2.1)) L/\bj s.heap (ys.map λy=>.ref y.2.1) L/\ys.map (·.1)=L.map kk:=by
  intro ks ys L kt
  induction kt generalizing L with
  |nil=>intro e;cases L with
   |nil=>exact{trivial,trivial,rfl}
   |cons _ _=>cases e
  | @cons a b ps qs h1 h2 ih=>
   intro e
   cases L with
   |nil=>cases e
   |cons k L=>
    rwa[BH,List.cons.injEq] at e;let⟨i1,i2,i3⟩:=ih e.2
    have hb:H b.2.1=some (.tup (k.map V.int)):=by rw[h1.2.1,e.1,zX]
    let⟨_,its,rv,⟨ob,g1,g2,n,g3⟩,_⟩:=(show be X.prog X.w H s.heap b.2.1 (.tup (k.map V.int)) from I.hok _ _ hb);exact{{hb,i1},{{b.2.1,ob,its.toArray,n,rfl,g1,g2,g3,by simpa using d7 rv},i2},by simp only[BH,i3,←h1.1,e.1]}
 let⟨pa,ta,ka⟩:=key kt hk;have JD:es.toList.map (·.key)=xs.map λy=>.ref y.2.1:=by rw[he,E6];rfl
 have nd:L.Nodup:=by rw[ka] at hn;exact(zbz.mp hn).imp λh e=>h (by rw[e])
 refine JDg (I.ok.hd hc) hs {o,g,hx,hd} (by rw[JD];exact ta) nd Fx C1 λis h' tk l c i1 i2 i3 kp ht hl hL=>?_;have hpk:=pa.pick is i1;have heq:(is.map λi=>L.getD i [])=cT L:=yI i3 (p7 nd) (i2.trans (dX L).symm);rw[heq] at hpk;have hlen:is.length=L.length:=by simpa using i2.length_eq
 refine{.ref l,_,I.laid (t':=tk) kp hl (show be X.prog X.w _ h' _ (.lst ((is.map λi=>(xs.map (·.2.1)).getD i 0).map V.ref)) from{by rw[BR,BR,hlen,D9];omega,(is.map λi=>(es.toList.map (·.key)).getD i .none),c,?_,by simpa[seqObj] using hL}),rfl,q _ hpk _ (I.hok.fresh hl)};rw[JD];have hxl:xs.length=L.length:=by simpa using Av List.length ka
 clear hpk heq i2 i3 hL hlen;induction is with
 |nil=>exact .nil
 |cons i is ih=>
  have hi:i<xs.length:=by rw[hxl];exact i1 i Be
  refine .cons ?_ (ih λj hj=>i1 j (Br _ hj))
  show _=Value.ref _
  simp[zbn,C0 hi]
def K4 {X:Cx}{H:Hp}{s:AP}(I:az X AB Y H s){b:Aa}{zs:R4 V}(h:iM X.K H b zs):∃(its:Te) (n:Nat),aM zs its/\s.heap.get? b=some {cls:=.type "list",data:=.seq its.toArray n}:=by
 rcases h with h|⟨o,its,n,hk,hc,hd,hs,hz,r⟩
 ·let⟨z,its,n,r,e⟩:=h.ok I.hok;exact{its,n,r,e}
 ·refine{its.toList,n,r,?_};have e:=I.kIn b o hk;let⟨c,d,dt,sl⟩:=o;simp only at hc hd hs;let⟨hd,hl⟩:=hd;subst hc hd hs hl;simpa using e
noncomputable def MV:R->ac->AA (R4 D)
 |.p a,U=>(match U[a]? with|some (.lst xs)=>some xs|some (.fz xs)=>some xs|_=>none)
 |.v (.fl xs),_=>some xs
 |_,_=>none
theorem JDo {m:Tf}{H:Hp}{U:ac}(s:aG K m H U){x:R}{v:V}{xs:R4 D}(e:MV x U=some xs)(r:av K m H x v):∃a vs,v=.ref a/\iM K H a vs/\RelDs K H xs vs:=by
 refine jh s r ?_;rw[←e]
 cases x with
 |v d=>cases d <;> rfl
 |_=>rfl
end HW
namespace PySem
section
variable {prog:Aj}{w:An}{K:Type}[DecidableEq K]{knd:HeapKind prog w K}{A:Ar}{E:Tb}{s:AP}
def qZ {d a:Aa}{xs:R4 (K×Aa×AU)}{k:K}{dflt:AU}{Q:Tb}(hu:knd.room A)(CG:knd.is s.heap k a)(hm:s.heap.DictOfH knd d xs)
  (h1:∀v,(atKey xs k).map (·.2)=some v->Q v {s with toks:=s.toks+knd.draws k})
  (h2:atKey xs k=none->∀h',h'.DictOfH knd d (storedH xs k a dflt)->Heap.SameBut d s.heap h'->Q dflt {s with heap:=h',toks:=s.toks+knd.draws k})
  (hsz:xs.length<=sizeLine) :
  wpAny (model prog w) A (dictSetDefault d (.ref a) dflt) Q E s:=by
 let⟨o,es,ep,ho,hc,hd,he,his,hn⟩:=hm;unfold dictSetDefault
 try with_reducible refine CR ?_
 refine Ak (knd.pyHash hu CG ?_);refine Ak (wpAny_dictFind_heap (s:={s with toks:=s.toks+knd.draws k}) hu CG ho hd he his hn ?_ ?_)
 ·intro Ft
  have hnot:k∉xs.map (·.1):=not_mem_keys_of_get Ft
  refine Ak (Fj (Ak (wpAny_updateDictKeys (hz:=by have e:=size_of_entries he;omega) (s:={s with toks:=s.toks+knd.draws k}) ho hd (Ay (h2 (atKey_none_of_get Ft) _ {_,_,ep+1,EJ _ ho (Obj.isFreed_of_dict (Obj.data_mapDictKeys hd _)),
   hc.mapDictKeys _,Obj.data_mapDictKeys hd _,?_,?_,?_} (Heap.SameBut.update ..))))))
  ·rw[storedH_new (atKey_none_of_get Ft)]
   simp[he,entryOfKey]
  ·rw[storedH_new (atKey_none_of_get Ft)]
   intro x hx;rcases Dd.mp hx with hx|hx
   ·exact knd.keeps (his x hx) ho hd (Heap.SameBut.update ..)
   ·rwa[CP] at hx
    subst hx;exact knd.keeps CG ho hd (Heap.SameBut.update ..)
  ·rw[storedH_new (atKey_none_of_get Ft)]
   rw[DK,F3];refine{hn,by simp,?_};intro x hx y hy;rwa[BH,Dj,CP] at hy;subst hy;exact λe=>hnot (e ▸ hx)
 ·intro j p hj
  refine Ak (zbM (s:={s with toks:=s.toks+knd.draws k}) ho hd ?_);rw[entry_at he j,hj];exact Ak (Fj (Ay (h1 _ (by rw[atKey_of_get hn hj];rfl))))
def lj (knd:HeapKind prog w K){k:K}{a:Aa}(d:Aa)(hd:(d == sysModules)=false)(dflt:AU) :
  MeetsIn prog w (Builtin.«dict.setdefault» {[.ref d,.ref a,dflt],[]}) (λA R s=>knd.room A.in1/\knd.is s.heap k a/\∃xs,s.heap.DictOfH knd d xs/\xs.length<=sizeLine /\
   (∀v,(atKey xs k).map (·.2)=some v->R (.ok (.ret v)) {s with toks:=s.toks+knd.draws k}) /\
   (atKey xs k=none->∀h',h'.DictOfH knd d (storedH xs k a dflt)->Heap.SameBut d s.heap h'->R (.ok (.ret dflt)) {s with heap:=h',toks:=s.toks+knd.draws k})) :=
 .of_wp λA R s hh=>by
  let⟨hu,CG,xs,hm,hz,h1,h2⟩:=hh;unfold Builtin.«dict.setdefault»;refine Ak ?_;unfold Builtin.Dict.keyAndDefault;refine Ak (zb5 hm.typeIs ?_)
  show wpAny _ _ (pure (d,Value.ref a,some dflt)) _ _ s
  refine Ay ?_
  show wpAny _ _ (if (d == sysModules)=true then _ else (dictSetDefault d (.ref a) dflt >>= _)) _ _ s
  rw[Ac (by rw[hd];exact F5)];exact Ak (qZ (hsz:=hz) hu CG hm (λv hv=>Ay {v,rfl,h1 v hv}) λhn h' Fv hs'=>Ay {dflt,rfl,h2 hn h' Fv hs'})
end
end PySem
namespace HW
variable {K:Ax}
open PyProof.Rows L2
def Bg (td ty tx:TE):TE:=λY H Q=>td Y H λx H1=>∃a,x=.ref a/\Sa H1 a/\ty Y H1 λy H2=>tx Y H2 λz H3=>∃Ab k b,H3 a=some (.dT Ab)/\y=.ref b/\H3 b=some (.tup (k.map kV))/\Ab.length<sizeLine /\
 (∀v,dg Ab k=some v->Q v H3)/\(dg Ab k=none->Q z (upd H3 a (.dT (Ab++[(k,z)]))))
def yC {X:Cx}(hu:X.A.units+1<cLine){o e f:As}{apos BA:Pos}{td ty tx:TE}(ho:PE X o td)(he:PE X e ty)(hf:PE X f tx)(m:M2 X o "setdefault" apos e f BA):PE X (.Call (.Attribute o "setdefault" apos) [e,f] [] BA) (Bg td ty tx):=by
 intro AB s Y H Q I h;refine zcp m.base m.few m.line PySem.F.plainAttrs_dict PySem.F.slot_dict_setdefault PySem.F.type_dict_setdefault (cP (ho AB s Y H _ I h) λu s1 hh=>?_);let⟨x,H1,I1,rx,a,ex,d,q1⟩:=hh;subst ex;obtain rfl:u=Value.ref a:=rx;let⟨t1,t2,_⟩:=xu I1 d;refine{t1,t2,?_};rw[m.trees];refine Calls.callWith_builtin rfl (Calls.evalArgs_plain (Calls.spliced_cons (cP (he AB s1 Y H1 _ I1 q1) λiv s2 hh=>?_)));let⟨y,H2,I2,ry,q2⟩:=hh;refine Calls.spliced_cons (cP (hf AB s2 Y H2 _ I2 q2) λfv s3 hh=>Calls.spliced_nil ?_);let⟨z,H3,I3,rz,Ab,k,b,ea,ey,eb,hz,qa,qb⟩:=hh;subst ey;cases(show iv=Value.ref b from ry);let⟨zz,hd,xs,rel,dd⟩:=IC I3.hok ea;have hxz:xs.length<=sizeLine:=by rw[←Paired.length rel];exact zz
 refine call_meetsIn PySem.F.slot_dict_setdefault dd.typeIs PySem.F.entry_dict_setdefault (PySem.F.args_dict_setdefault_3 _ _ _) (lj (tupleKind (bi X.prog X.w)) (k:=k) a hd fv) {tupleKind_room_in1 hu,nh I3.hok eb,xs,dd,hxz,λv hv=>?_,λhn h' dd' hs=>?_}
 ·have r:=rel.val k;rw[hv] at r
  cases q:dg Ab k with
  |none=>rw[q] at r;exact r.elim
  |some v'=>rw[q] at r;exact{v',H3,I3.tok _,r,qa v' q}
 ·have r:=rel.val k;rw[hn] at r
  cases q:dg Ab k with
  |some v'=>rw[q] at r;exact r.elim
  |none=>
   have rp:=rel.put k eb rz;rw[uX _ q] at rp;let⟨q',es,ep,hq,h2,h3,h4,_,h5⟩:=dd';refine{z,_,tY (ob:=.dT (Ab++[(k,z)])) I3 (by rw[ea];exact True.intro) hs {q',hq} {by rw[Ci];exact hz,hd,_,rp.keeps λc ys ec=>?_,q',es,ep,hq,h2,h3,h4,h5},rz,qb q};rw[aq (Ic ec ea (λz=>nomatch z))];exact ec
def oj (K:Ax)(m:Tf)(H:Hp)(Ab:R4 (Th×R))(es:R4 (R4 aE×V)):Prop:=es.map (·.1)=Ab.map (λp=>kk p.1)/\aL K m H (Ab.map (·.2)) (es.map (·.2))
noncomputable def jD (Ab:R4 (Th×R))(k:Th):AA R:=(Ab.find? λp=>decide (p.1=k)).map (·.2)
section
variable {K:Ax}{m m':Tf}{H H':Hp}
def oj.nil:oj K m H [] []:={rfl,rfl}
def oj.cons {k:Th}{k':R4 aE}{d:R}{v:V}{Ab:R4 (Th×R)}{es:R4 (R4 aE×V)}:oj K m H ((k,d)::Ab) ((k',v)::es) ↔ k'=kk k/\av K m H d v/\oj K m H Ab es:=by
 constructor
 ·rintro⟨h1,h2⟩;rwa[BH,List.cons.injEq] at h1;let⟨w,r,e,h3,h4⟩:=h2;rwa[BH,List.cons.injEq] at e;let⟨rfl,rfl⟩:=e;exact{h1.1,h3,h1.2,h4}
 ·rintro⟨rfl,h1,h2,h3⟩;exact{by simp[h2],{_,_,rfl,h1,h3}}
theorem oj.snoc {k:Th}{d:R}{v:V}(rd:av K m H d v):∀{Ab:R4 (Th×R)} {es:R4 (R4 aE×V)},oj K m H Ab es->oj K m H (Ab++[(k,d)]) (es++[(kk k,v)])
 |[],[],_=>oj.cons.mpr {rfl,rd,.nil}
 |[],e::es,h=>by have:=h.1;simp at this
 |q::Ab,[],h=>by have:=h.1;simp at this
 |(a,x)::Ab,(b,y)::es,h=>by let⟨rfl,h1,h2⟩:=oj.cons.mp h;exact oj.cons.mpr {rfl,h1,oj.snoc rd h2}
theorem oj.val:∀{Ab:R4 (Th×R)} {es:R4 (R4 aE×V)} (k:Th),oj K m H Ab es->(jD Ab k=none/\dg es (kk k)=none)\/∃d v,jD Ab k=some d/\dg es (kk k)=some v/\av K m H d v
 |[],es,k,h=>by
  have:es=[]:=by simpa using h.1
  subst this;exact .inl {rfl,rfl}
 |(a,d)::Ab,[],k,h=>by have:=h.1;simp at this
 |(a,d)::Ab,(b,v)::es,k,h=>by
  let⟨rfl,h1,h2⟩:=oj.cons.mp h;by_cases e:a=k
  ·refine .inr {d,v,?_,?_,h1}
   ·simp[jD,e]
   ·simp[dg,e]
  ·have ih:=oj.val k h2;have e1:jD ((a,d)::Ab) k=jD Ab k:=(by simp[jD,e]);have e2:dg ((kk a,v)::es) (kk k)=dg es (kk k):=iQ λz=>e (tz z);rw[e1,e2];exact ih
def oj.ext (x:cV m H m' H'){Ab:R4 (Th×R)}{es:R4 (R4 aE×V)}(h:oj K m H Ab es):oj K m' H' Ab es:={h.1,aL.ext x h.2}
def oj.len {Ab:R4 (Th×R)}{es:R4 (R4 aE×V)}(h:oj K m H Ab es):es.length=Ab.length:=by simpa using Av List.length h.1
end
noncomputable def ic (U:ac)(n:Nat):AA (R4 (Th×R)):=match U[n]? with|some (.dtr Ab)=>some Ab|_=>none
def tX {m:Tf}{H:Hp}{U:ac}{n:Nat}{a:Aa}{Ab:R4 (Th×R)}(s:aG K m H U)(ha:m[n]?=some a)(e:ic U n=some Ab):U[n]?=some (.dtr Ab)/\∃es,H a=some (.dT es)/\oj K m H Ab es:=by
 unfold ic at e;split at e
 ·rename_i q
  cases e;let⟨es,ea,e1,e2⟩:=s.cell _ _ a q ha;exact{q,es,ea,e1,e2}
 ·cases e
noncomputable def Gg:FE:=λ_ U=>some (.p U.length,U++[.dtr []])
def JGi {H:Hp}{Q:VK}(h:ax K Gg Y H Q):Bj Y H Q:=by let⟨O,U,m,d,U',hl,hs,e,k⟩:=h;cases e;intro p hp;have x:cV m H (m++[p]) (upd H p (.dT [])):=.newH hp;exact k _ _ (m++[p]) x (hs.newH hp {[],br,rfl,rfl}) {p,rfl,by rw[←hs.len];simp}
noncomputable def qm (fo fk fx:FE):FE:=λO U=>(fo O U).bind λo=>match o.1 with
 |.p n=>if (ic o.2 n).isSome=true then (fk O o.2).bind λk=>match k.1 with
  |.v (.key ks)=>(fx O k.2).bind λx=>(ic x.2 n).bind λAb=>if Ab.length<1000 then some (match jD Ab ks with|some r=>(r,x.2)|none=>(x.1,x.2.set n (.dtr (Ab++[(ks,x.1)])))) else none
  |_=>none
  else none
 |_=>none
def JDs {H:Hp}{Q:VK}{fo fk fx}(h:ax K (qm fo fk fx) Y H Q):Bg (ax K fo) (ax K fk) (ax K fx) Y H Q:=by
 let⟨O,U,m,d,U',hl,hs,e,kc⟩:=h;let⟨⟨o,U1⟩,e1,e⟩:=Az.mp e;split at e
 ·rename_i n hn;simp only at hn;subst hn;split at e
  ·rename_i h0;let⟨⟨k,U2⟩,e2,e⟩:=Az.mp e;split at e
   ·rename_i ks Jj;simp only at Jj;subst Jj;let⟨⟨x,U3⟩,e3,e⟩:=Az.mp e;let⟨Ab,e4,e⟩:=Az.mp e;split at e
    ·rename_i BD;refine{O,U,m,_,U1,hl,hs,e1,λvo H1 m1 x1 s1 r1=>?_};let⟨kvs0,e0⟩:=zcf.mp h0;let⟨a,rfl,ha⟩:=r1;let⟨_,es,hR,hK⟩:=tX s1 ha e0;refine{a,rfl,.inr {es,.inl hR},?_};refine{O,U1,m1,_,U2,hl.ext x1,s1,e2,λvk H2 m2 x2 s2 r2=>?_};refine{O,U2,m2,x,U3,hl.ext (x1.trans x2),s2,e3,λvx H3 m3 x3 s3 r3=>?_};have x13:=(x1.trans x2).trans x3;have Js:m3[n]?=some a:=by let⟨a',ea',q⟩:=av.ext (x2.trans x3) (show av K m1 H1 (.p n) (.ref a) from{a,rfl,ha});cases ea';exact q
     let⟨q3,BZ,Ju,IM⟩:=tX s3 Js e4;have r2':=r2.ext x3;rwa[av,ak] at r2';let⟨b,rfl,hb⟩:=r2';refine{BZ,kk ks,b,Ju,rfl,by rw[zX];exact hb,?_,λv hv=>?_,λhv=>?_}
     ·rw[IM.len];exact CC BD (by rw[D9];omega)
     ·rcases oj.val ks IM with⟨n1,n2⟩|⟨dd,vv,n1,n2,n3⟩
      ·rw[n2] at hv;cases hv
      ·rw[n2] at hv;cases hv;rwa[n1] at e;cases e;exact kc _ H3 m3 x13 s3 n3
     ·rcases oj.val ks IM with⟨n1,n2⟩|⟨dd,vv,n1,n2,n3⟩
      ·rwa[n1] at e
       cases e;have y:cV m3 H3 m3 (upd H3 a (.dT (BZ++[(kk ks,vx)]))):=.put (Cp Js) Ju ∅ ∅;have kr:=oj.snoc (k:=ks) (r3.ext y) (IM.ext y);exact kc _ _ m3 (x13.trans y) (s3.put Js Ju ∅ ∅ {_,br,kr.1,kr.2}) (r3.ext y)
      ·rw[n2] at hv;cases hv
    ·cases e
   ·cases e
  ·cases e
 ·cases e
noncomputable def Du (fo fk:FE):FE:=λO U=>(fo O U).bind λo=>(fk O o.2).bind λk=>match o.1,k.1 with
 |.p n,.v (.key ks)=>(ic k.2 n).bind λAb=>(jD Ab ks).bind λd=>some (d,k.2)
 |_,_=>none
def JG6 {H:Hp}{Q:VK}{fo fk}(h:ax K (Du fo fk) Y H Q):Bl (ax K fo) (ax K fk) Y H Q:=by
 let⟨O,U,m,d,U',hl,hs,e,kk'⟩:=h;let⟨⟨o,U1⟩,e1,e⟩:=Az.mp e;let⟨⟨k,U2⟩,e2,e⟩:=Az.mp e;dsimp only at e;split at e
 ·rename_i n ks e0;let⟨Ab,e3,e⟩:=Az.mp e;let⟨dd,e4,e⟩:=Az.mp e;cases e;refine{O,U,m,_,U1,hl,hs,e1,λvo H1 m1 x1 s1 r1=>?_};refine{O,U1,m1,_,_,hl.ext x1,s1,e2,λvk H2 m2 x2 s2 r2=>?_};let⟨a,rfl,ha⟩:=r1.ext x2;rwa[av,ak] at r2;let⟨b,rfl,hb⟩:=r2;let⟨_,es,ea,kd⟩:=tX s2 ha e3;rcases oj.val ks kd with⟨n1,n2⟩|⟨d',v',n1,n2,n3⟩
  ·rw[n1] at e4;cases e4
  ·rw[n1] at e4;cases e4;exact{a,v',rfl,.inr {es,kk ks,b,.inl ea,rfl,by rw[zX];exact hb,n2.symm},kk' _ H2 m2 (x1.trans x2) s2 n3}
 ·cases e
noncomputable def rL:R4 R->ac->AA (R×ac)
 |[.p n],U=>(ic U n).bind λAb=>if Ab.length<64/\(Ab.length<2\/∀p∈Ab,p.1≠[]) then some (.p U.length,U++[.lst ((cT (Ab.map (·.1))).map D.key)]) else none
 |_,_=>none
def JD9 {K:Ax}:zj K rL uP:=by
 intro m H U xs d U' vs Q s r e k;unfold rL at e;split at e
 ·rename_i n;let⟨Ab,e1,e⟩:=Az.mp e;split at e
  ·rename_i hc
   cases e;let⟨v,rfl,r1⟩:=mX r;let⟨a,rfl,ha⟩:=r1;let⟨_,es,ea,kd⟩:=tX s ha e1;refine{a,es,Ab.map (·.1),rfl,ea,by rw[kd.1,E6];rfl,by simpa using hc.1,λh2 x hx=>?_,λas pa l hl=>?_}
   ·rw[BR] at h2;let⟨p,hp,rfl⟩:=Ca.mp hx;rcases hc.2 with h|h
    ·omega
    ·exact h p hp
   ·let⟨x1,x2,x3⟩:=hU s (pa.rels (K:=K)) hl;exact k _ _ _ x1 x2 x3
  ·cases e
 ·cases e
mutual
noncomputable def cu:D->D
 |.tup xs=>.tup (unkDs xs)
 |.fl xs=>.fl (unkDs xs)
 |.key ks=>.tup (ks.map D.int)
 |.fd ks ds=>.fd ks ds
 |.non=>.non
 |.bl b=>.bl b
 |.int i=>.int i
 |.str x=>.str x
noncomputable def unkDs:R4 D->R4 D
 |[]=>[]
 |x::xs=>cu x::unkDs xs
end
theorem rC:∀xs:R4 D,unkDs xs=xs.map cu
 |[]=>by rwa[unkDs,Dj]
 |x::xs=>by rwa[unkDs,BH,rC xs]
section
variable {K:Ax}{H:Hp}
mutual
theorem ak.unk:∀(d:D) (v:V),ak K H d v->ak K H (cu d) v
 |.non,_,h=>by simpa only[cu] using h
 |.bl _,_,h=>by simpa only[cu] using h
 |.int _,_,h=>by simpa only[cu] using h
 |.str _,_,h=>by simpa only[cu] using h
 |.fd _ _,_,h=>by simpa only[cu] using h
 |.tup xs,v,h=>by rwa[cu,ak] at h ⊢;let⟨a,vs,e,s,r⟩:=h;exact{a,vs,e,s,RelDs.unk xs vs r}
 |.fl xs,v,h=>by rwa[cu,ak] at h ⊢;let⟨a,vs,e,s,r⟩:=h;exact{a,vs,e,s,RelDs.unk xs vs r}
 |.key ks,v,h=>by rwa[cu,ak] at h ⊢;let⟨a,e,q⟩:=h;exact{a,_,e,.inl (.inl q),mW ks}
theorem RelDs.unk:∀(ds:R4 D) (vs:R4 V),RelDs K H ds vs->RelDs K H (unkDs ds) vs
 |[],_,h=>by simpa only[unkDs] using h
 |d::ds,vs,h=>by rwa[unkDs,RelDs] at h ⊢;let⟨v,r,e,h1,h2⟩:=h;exact{v,r,e,ak.unk d v h1,RelDs.unk ds r h2}
end
end
noncomputable def uk {Z:Type}(f:R4 D->Z):R4 D->Z:=λds=>f (unkDs ds)
def zq (ds:R4 D):(unkDs ds).length=ds.length:=by rw[rC,BR]
def MR {n:Nat}{f:MF}{vs:R4 V}{H:Hp}{Q:VK}{E:XK}(h:AG K n (uk f) vs H Q E):AG K n f vs H Q E:=by let⟨ds,d,hl,r,e,k⟩:=h;exact{unkDs ds,d,(zq ds).trans hl,RelDs.unk ds vs r,e,k}
noncomputable def jO:R->R
 |.v d=>.v (cu d)
 |x=>x
noncomputable def LZ:au->au
 |.lst xs=>.lst (unkDs xs)
 |.fz xs=>.fz (unkDs xs)
 |c=>c
noncomputable def lg (U:ac):ac:=U.map LZ
theorem g6.unk {m:Tf}{H:Hp}{c:au}{a:Aa}(h:g6 K m H c a):g6 K m H (LZ c) a:=by
 cases c with
 |lst xs=>let⟨vs,e,r⟩:=h;exact{vs,e,RelDs.unk xs vs r}
 |fz xs=>let⟨o,vs,e,r⟩:=h;exact{o,vs,e,RelDs.unk xs vs r}
 |_=>exact h
def aG.unk {m:Tf}{H:Hp}{U:ac}(s:aG K m H U):aG K m H (lg U) :=
 {s.nd,by rw[s.len,lg,BR],λi c a e1 e2=>by rw[lg,By] at e1;let⟨c',q1,q2⟩:=DN.mp e1;subst q2;exact(s.cell i c' a q1 e2).unk}
theorem av.unk {m:Tf}{H:Hp}{x:R}{v:V}(h:av K m H x v):av K m H (jO x) v:=by
 cases x with
 |v d=>exact ak.unk d v h
 |_=>exact h
noncomputable def fS (neg:Ad):R->R->ac->AA (R×ac):=λx y U=>(kX neg (jO x) (jO y) (lg U)).bind λr=>some (r.1,U)
def Dp {neg:Ad}:o0 K (fS neg) (E4 K neg):=by
 intro m H U x y d U' v u Q s rx ry e k;let⟨⟨r,U1⟩,e1,e⟩:=Az.mp e;cases e;have e0:=e1;unfold kX at e1;let⟨a,q1,e1⟩:=Az.mp e1;let⟨b,q2,e1⟩:=Az.mp e1;split at e1
 ·cases e1;exact{m,lg U,jO x,jO y,_,s.unk,rx.unk,ry.unk,e0,k _ H m .refl s (by rwa[av,ak])}
 ·cases e1
end HW
namespace L2
open PyProof.Rows
noncomputable def vT (o:BO):Nat:=match o.data with|.dict _ ep=>ep|_=>0
def JA1 {k:aE}{u:AU}(h:(bi P w).is k u=true):aP (kV k) u:=by
 rcases bg (show lz k u=true from h) with⟨i,t,rfl,rfl⟩|⟨x,t,rfl,rfl⟩|⟨rfl,rfl⟩
 ·exact{t,rfl}
 ·exact{t,rfl}
 ·rfl
end L2
namespace HW
open PyProof.Rows L2
noncomputable def kD:aE->D
 |.inl i=>.int i
 |.inr (some x)=>.str x
 |.inr none=>.non
def KS {K:Ax}{H:Hp}(k:aE):ak K H (kD k) (kV k):=by rcases k with i|(_|x) <;> rwa[kD,kV,ak]
end HW
namespace HW
abbrev LD (h:Am)(z TI TO T:Aa)(fl:Ad):Prop :=
 h.get? z=some {cls:=.type "zip",dict:=none,data:=.fields #[rawInt T,.bool fl,.bool false,.ref TI,.ref TO],slots:=#[]}
open L2 PyProof.Rows
structure SM (h:Heap)(S z TI TO i1 i2 l1 l2:Addr)(xs ys:Ti)(k:Nat):Prop where
 st:(k=0/\IsZip h z TI TO .none/\IsPair h TO .none .none)\/∃T fl oT,LD h z TI TO T fl/\h.get? T=some oT/\T∉[S,z,TO,i1,i2]
 ti:IsPair h TI (.ref i1) (.ref i2)
 h1:h.IsListIter i1 l1 k
 h2:h.IsListIter i2 l2 k
 l1:h.IsList l1 xs
 l2:h.IsList l2 ys
 to:∃o,h.get? TO=some o
end HW
namespace HK
open PyProof.Rows L2
def JCr:entryFor table "dict_itemiterator.__iter__" = some Builtin.«dict_keyiterator.__iter__»:=entryFor_alias (id':="dict_keyiterator.__iter__") (by kernel_rfl) rfl ∅ (by kernel_rfl)
section
variable {prog:Aj}{w:An}{A:Ar}{E:Tb}{s:AP}{d it v:Aa}{es:Al DictEntry}{ep i:Nat}{ok ov:AU}
def Dc {Q:Tb}(nd:(d == sysModules)=false)(m:DE s.heap d es ep)
  (fin:Q (.ref s.heap.objs.size) {s with heap:=s.heap.push {cls:=.type "dict_items",data:=.fields #[.ref d]}}):wpAny (model prog w) A (call (.builtin "dict.items") [.ref d]) Q E s:=by
 refine Co F.slot_dict_items m.ty F.entry_dict_items ?_ (F.args_dict_items_1 _);unfold Builtin.«dict.items» Builtin.Dict.noArgs;refine Ak (Ak (zb5 m.ty (show wpAny _ _ (pure d) _ _ s from Ay (show wpAny _ _ (Builtin.Dict.showsAll d >>= _) _ _ s from ?_))));unfold Builtin.Dict.showsAll;rw[Ac (show ¬ (d == sysModules)=true by rw[nd];decide)];exact Ak (Ay (Ak (Cw (Ay {_,rfl,fin}))))
def Il {Q:Tb}(y:s.heap.IsItemsView v d)(m:DE s.heap d es ep)
  (fin:Q (.ref s.heap.objs.size) {s with heap:=s.heap.push {cls:=.type "dict_itemiterator",data:=.fields #[.none,.bool false,.ref d,.int 0 0,.int es.size 0,.int ep 0,.none,.none]}}):wpAny (model prog w) A (pyIter (.ref v)) Q E s:=by
 obtain⟨ob,g,x,dt⟩:=id m;obtain⟨oy,gy,cy,dy⟩:=id y;refine zb1 y.typeIs F.slot_dict_items_iter (Co F.slot_dict_items_iter y.typeIs F.entry_dict_items_iter ?_ (F.args_dict_items_iter_1 _));unfold Builtin.«dict_items.__iter__» Builtin.Dict_items.dictOf Builtin.Dict_items.newIterator;refine Ak (Ay (Ak (Ak (zca gy dy (x:=.ref d) rfl (Ay (Ak (Ak (zbM g dt (Ak (zce g dt ?_))))))))));rwa[show Builtin.Dict_items.ownsTuple "dict_itemiterator" = true by decide,if_true];refine Cw (Ay {_,rfl,"dict_itemiterator",_,{_,Bd _ rfl,rfl},F.slot_dict_itemiterator_next.lookup,?_}) (by simp[sizeOk,Builtin.Dict_items.ownedTupleFields,D9]);simpa[rawInt,Builtin.Dict_items.ownedTupleFields] using fin
def Ik {n:Nat}{Q:Tb}(k:IsItemIter s.heap it d i n ep ok ov)(h:Q (.ref it) s):wpAny (model prog w) A (pyIter (.ref it)) Q E s:=by
 have ty:s.TypeIs (.ref it) "dict_itemiterator":={_,k,rfl};refine zb1 ty F.slot_dict_itemiterator_iter (Co F.slot_dict_itemiterator_iter ty JCr ?_ (F.args_dict_itemiterator_iter_1 _))
 show wpAny _ _ (ret (.ref it)) _ _ s
 exact Ay {_,rfl,"dict_itemiterator",_,ty,F.slot_dict_itemiterator_next.lookup,h}
def Ib {e:DictEntry}{Q:AA AU->AP->Prop}(k:IsItemIter s.heap it d i es.size ep ok ov)(m:DE s.heap d es ep)(ge:es[i]?=some e)
  (fin:∀h',IsItemIterOut h' it d (i+1) es.size ep e.key e.val s.heap.objs.size->h'.get? s.heap.objs.size=some {cls:=.type "tuple",data:=.seq #[e.key,e.val]}->h'.objs.size=s.heap.objs.size+1 ->
   (∀b o,b≠it->s.heap.get? b=some o->h'.get? b=some o)->Q (some (.ref s.heap.objs.size)) {s with heap:=h'}):wpAny (model prog w) A (pyNext (.ref it)) Q E s:=by
 obtain⟨hp,gs,dr,tk,os⟩:=s;obtain⟨ob,g,x,dt⟩:=id m;have ty:Shared.TypeIs ⟨hp,gs,dr,tk,os⟩ (.ref it) "dict_itemiterator":={_,k,rfl};have lt:=BQ k;unfold pyNext;refine Ak (J1 (GD (name:=Str.ofString "__next__") ty F.slot_dict_itemiterator_next (Co F.slot_dict_itemiterator_next ty F.entry_dict_itemiterator_next ?_ (F.args_dict_itemiterator_next_1 _))));refine Ak (Ay (Ak (Ak ?_)))
 first|refine Ak (zbX ty (Ay (Ak (J3 k rfl ?_))))|refine Ak (wpAny_typeNameOf_itemiter ty (Ay (Ak (J3 k rfl ?_))))
 rwa[show Builtin.Dict_items.ownsTuple "dict_itemiterator" = true by decide,if_true];refine(show wpAny _ _ (if (Value.ref d == Value.none)=true then _ else _) _ _ _ from ?_);rw[Ac (show ¬ ((Value.ref d == Value.none)=true) by exact F5)];refine Ak (Ay (Ak (zbM g dt ?_)));rw[Ac (show ¬ _ by simp)];refine Ak (Ay (Ak (zce g dt ?_)));rw[Ac (show ¬ _ by simp)];refine Ay ?_;rwa[show ¬ ((i:Int)<0) by omega,if_false,Fy,ge];refine Ak ?_
 first|refine Ak (zbX ty (Ay (Ak (zbJ ty ?_))))|refine Ak (wpAny_typeNameOf_itemiter ty (Ay (Ak (zbJ ty ?_))))
 refine(show wpAny _ _ (setField (.ref it) 3 (rawInt ((i:Int)+1)) >>= _) _ _ _ from Ak (zbY k ∅ λh₁ k₁ c₁=>?_));have c₁:Heap.SameBut it hp h₁:=c₁
 have k₁:IsItemIter h₁ it d (i+1) es.size ep ok ov:=by
  unfold IsItemIter;rw[show((i+1:Nat):Int)=(i:Int)+1 by omega];simpa[rawInt] using k₁
 refine Ak (CR (Ak (zbJ (s:={h₁,gs,dr,tk,os}) {_,k₁,rfl} (Ak (zbJ (s:={h₁,gs,dr,tk,os}) {_,k₁,rfl} ?_)))));refine(show wpAny _ _ (Builtin.Dict_items.pairFromOwner (.ref it) 6 e.key e.val) _ _ _ from ?_);unfold Builtin.Dict_items.pairFromOwner;refine Ak (wpAny_newTuple ?_);have kk:∀b o,b≠it->hp.get? b=some o->(h₁.push {cls:=.type "tuple",data:=.seq #[e.key,e.val]}).get? b=some o:=λb o hb q=>BK _ (c₁.extBut b o hb q);have k₂:IsItemIter (h₁.push {cls:=.type "tuple",data:=.seq #[e.key,e.val]}) it d (i+1) es.size ep ok ov:=BK _ k₁
 have gt:(h₁.push {cls:=.type "tuple",data:=.seq #[e.key,e.val]}).get? hp.objs.size=some {cls:=.type "tuple",data:=.seq #[e.key,e.val]}:=by rw[←c₁.1];exact Bd _ rfl
 have sz:(h₁.push {cls:=.type "tuple",data:=.seq #[e.key,e.val]}).objs.size=hp.objs.size+1:=by rw[E8,c₁.1]
 refine(show wpAny _ _ (Builtin.Dict_items.ownedTupleIsFree (.ref it) >>= _) _ _ {h₁.push {cls:=.type "tuple",data:=.seq #[e.key,e.val]},gs,dr,tk,os} from ?_);rw[c₁.1];generalize h₁.push {cls:=.type "tuple",data:=.seq #[e.key,e.val]}=h₂ at kk k₂ gt sz;clear k₁ c₁;unfold Builtin.Dict_items.ownedTupleIsFree;refine Ak (Ak (zca k₂ rfl (x:=.none) rfl (Ay ?_)));rwa[if_true];refine Ak (zca k₂ rfl (x:=ok) rfl (Ak (zca k₂ rfl (x:=ov) rfl ?_)))
 have key:∀h₃,Heap.SameBut it h₂ h₃->h₃.get? hp.objs.size=some {cls:=.type "tuple",data:=.seq #[e.key,e.val]}/\h₃.objs.size=hp.objs.size+1/\∀b o,b≠it->hp.get? b=some o->h₃.get? b=some o:=λh₃ c=>
  {c.extBut _ _ (DR lt) gt,c.1.trans sz,λb o hb q=>c.extBut b o hb (kk b o hb q)}
 refine Ak (zbY k₂ ∅ λh₃ k₃ c₃=>?_);have k₃:IsItemIter h₃ it d (i+1) es.size ep e.key ov:=k₃;refine Ak (zbY k₃ ∅ λh₄ k₄ c₄=>?_);have k₄:IsItemIter h₄ it d (i+1) es.size ep e.key e.val:=k₄;refine Ak (zbY k₄ ∅ λh₅ k₅ c₅=>?_);have k₅:IsItemIterOut h₅ it d (i+1) es.size ep e.key e.val hp.objs.size:=k₅;refine Ak (zbY k₅ ∅ λh₆ k₆ c₆=>?_);have k₆:IsItemIterOut h₆ it d (i+1) es.size ep e.key e.val hp.objs.size:=k₆;let⟨a1,a2,a3⟩:=key h₆ (((Heap.SameBut.trans c₃ c₄).trans c₅).trans c₆);exact Ak (wpAny_letGo (Ay (Ay {_,rfl,Ay (fin h₆ k₆ a1 a2 a3)})))
def wi:WK prog w "dict_itemiterator" "dict_itemiterator.__next__" 2:={F.slot_dict_itemiterator_next,F.entry_dict_itemiterator_next,F.args_dict_itemiterator_next_1,by decide,λ_ _ _ _ y=>{λ_=>zbX y,λ_ _=>zbJ y}}
def Ig {Q:AA AU->AP->Prop}(hh:A.handled=none)(k:IsItemIter s.heap it d es.size es.size ep ok ov)(m:DE s.heap d es ep)
  (fin:∀h',Heap.ExtBut it s.heap h'->Q none {s with heap:=h'}):wpAny (model prog w) A (pyNext (.ref it)) Q E s:=Ih wi hh k rfl rfl rfl m fin
end
end HK
namespace L2
open PyProof.Rows HK
def Ri (a:Aa)(o:BO)(es:R4 (R4 aE×V)):It :=
 {λi H=>H a=some (.frz o (.dT es))/\i<es.length,λi H v H'=>∃T b kv,es[i]?=some kv/\v=.ref T/\H T=none/\H b=some (.tup (kv.1.map kV))/\H'=upd H T (.tup [.ref b,kv.2]),λi H=>H a=some (.frz o (.dT es))/\es.length<=i}
noncomputable def lp (o:BO):Al DictEntry:=match o.data with|.dict es _=>es|_=>#[]
def Dq {H:Hp}{h:Am}{a:Aa}{o:BO}{es:R4 (R4 aE×V)}(ok:f7 P w H h)(e:H a=some (.frz o (.dT es))) :
  (a == sysModules)=false/\DE h a (lp o) (vT o)/\(lp o).size=es.length/\∀(i:Nat) kv,es[i]?=some kv->∃b u,aP kv.2 u/\H b=some (.tup (kv.1.map kV))/\∃en,(lp o)[i]?=some en/\en.key=.ref b/\en.val=u:=by
 let⟨q1,_,q3,xs,q4,o',BZ,ep,r1,r2,r3,r4,r5⟩:=(show be P w H h a (.frz o (.dT es)) from ok a _ e);have z:=q1.symm.trans r1;cases z
 have e1:lp o=BZ:=by unfold lp;rw[r3]
 have e2:vT o=ep:=by unfold vT;rw[r3]
 rw[e1,e2];refine{q3,{o,r1,r2,r3},?_,λi kv hi=>?_}
 ·rw[←Ec,r4,BR,←Paired.length q4]
 ·have key:∀{es:R4 (R4 aE×V)} {xs:R4 (R4 aE×Aa×AU)} {i:Nat} {kv},Paired (λ(p:R4 aE×V) (q:R4 aE×Aa×AU)=>p.1=q.1/\H q.2.1=some (.tup (p.1.map kV))/\aP p.2 q.2.2) es xs->es[i]?=some kv->∃x,xs[i]?=some x/\H x.2.1=some (.tup (kv.1.map kV))/\aP kv.2 x.2.2:=by
   intro es xs i kv p
   induction p generalizing i with
   |nil=>intro z;simp at z
   |cons r t ih=>
    intro z
    cases i with
    |zero=>rwa[List.getElem?_cons_zero,Option.some.injEq] at z;subst z;exact{_,rfl,r.2.1,r.2.2}
    |succ i=>let⟨x,h1,h2⟩:=ih ‹z›;exact{x,by simpa using h1,h2}
  let⟨x,h1,h2,h3⟩:=key q4 hi;refine{x.2.1,x.2.2,h3,h2,entryOfKey (tupleKind (bi P w)) x,?_,rfl,rfl};rw[←Fm,r4,By,h1];rfl
def wF {K:Ax}{elts:Tj}{x1}(a it:Aa)(o:BO)(es:R4 (R4 aE×V)):xM P w K (.Tuple elts x1 pos) (Ri a o es) [it] it (λi h=>i<=(lp o).size/\∃ok ov,IsItemIter h it a i (lp o).size (vT o) ok ov) where
 mem:=by simp
 obj:=λi h st b hb=>by
  have e:b=it:=by simpa using hb
  subst e;let⟨_,ok,ov,q⟩:=st;exact{_,q,λv z=>by
   have z':Data.fields _=Data.cell v:=z
   cases z'}
 keep:=λi h h' st k=>by let⟨z,ok,ov,q⟩:=st;exact{z,ok,ov,k it ∅ _ q}
 item:=by
  intro X hP hw hK hc i AB s Y H E I hf st hg;subst hP hw hK;obtain⟨hq,hi⟩:=hg;obtain⟨_,ok,ov,st⟩:=st;obtain⟨hd,de,hsz,at_⟩:=Dq I.hok hq;have hx:es[i]?=some es[i]:=C0 hi;obtain⟨b,u,ru,hb,en,g1,g2,g3⟩:=at_ i _ hx;have ilt:it<s.heap.objs.size:=BQ st;have nT:H s.heap.objs.size=none:=I.hok.fresh (BL _);refine Ib st de g1 λh1 o1 hT hsz1 kk=>{_,rfl,zcK o1 λh2 he2 sb=>?_};rw[g2,g3] at hT;have tup:be X.prog X.w (upd H s.heap.objs.size (.tup [.ref b,es[i].2])) (s.heap.push {cls:=.type "tuple",data:=.seq #[.ref b,u]}) s.heap.objs.size (.tup [.ref b,es[i].2]) :=
   {(by decide:2<=sizeLine),[.ref b,u],.cons rfl (.cons ru .nil),jC.new _ _}
  have I1:=I.laid (t':=s.toks) (λb o q=>BK _ q) (BL _) tup;have hT2:h2.get? s.heap.objs.size=some {cls:=.type "tuple",data:=.seq #[.ref b,u]}:=(sb.2 _ (DR ilt)).trans hT;have I2:az X AB Y (upd H s.heap.objs.size (.tup [.ref b,es[i].2])) {s with heap:=h2,toks:=s.toks}:=by
   refine az.turnedL (s:={s with heap:=s.heap.push {cls:=.type "tuple",data:=.seq #[.ref b,u]}}) (its:=[it]) I1 (λc o hc q=>?_) λc hc=>?_
   ·have Jo:c≠it:=λz=>hc (by simp[z]);by_cases ET:c=s.heap.objs.size
    ·subst ET;have q:(s.heap.push {cls:=.type "tuple",data:=.seq #[.ref b,u]}).get? s.heap.objs.size=some o:=q;rw[Bd _ rfl] at q;cases q;exact hT2
    ·have q:(s.heap.push {cls:=.type "tuple",data:=.seq #[.ref b,u]}).get? c=some o:=q;have BD:c<s.heap.objs.size:=by have h0:=BQ q;rw[E8] at h0;exact Nat.lt_of_le_of_ne (Nat.le_of_lt_succ h0) ET
     have q0:s.heap.get? c=some o:=(by rw[←q];exact(yx BD).symm);exact(sb.2 c Jo).trans (kk c o Jo q0)
   ·let⟨f0,f1,f2,f3,f4,f5⟩:=hf c hc;have ET:c≠s.heap.objs.size:=by have z:c=it:=‹hc›;rw[z];exact BX ilt
    exact{by rw[aq ET];exact f0,f1,f3,f4,f5}
  refine{.ref s.heap.objs.size,_,I2,rfl,{_,b,_,hx,rfl,nT,hb,rfl},{by rw[hsz];exact hi,_,_,he2},λc hc=>?_};have ET:c≠s.heap.objs.size:=by have z:c=it:=‹hc›;rw[z];exact BX ilt
  rw[aq ET];exact(hf c hc).1
 done:=by
  intro X hP hw hK hc i AB s Y H E I hf st hg;subst hP hw hK;let⟨hq,hi⟩:=hg;let⟨z,ok,ov,st⟩:=st;let⟨hd,de,hsz,_⟩:=Dq I.hok hq;let⟨f0,f1,f2,f3,f4,f5⟩:=hf it ∅;have EG:i=(lp o).size:=by omega
  rw[EG] at st;exact Ig (I.ok.hd hc) st de λh' eb=>{rfl,I.turned (t':=s.toks) (λb o hb e=>eb b o hb e) f0 f1 f3 f4 f5}
 self:=λ_ _ _ _ _ st h=>by let⟨_,ok,ov,st⟩:=st;exact Ik st h
def Di (tl:TE):TI:=λY H R=>tl Y H λx H1=>∃a o es,x=.ref a/\H1 a=some (.frz o (.dT es))/\R (Ri a o es) H1
def JCc {X:Cx}{elts:Tj}{x1}{pt apos BA:Pos}{o:As}{tl:TE}(hl:PE X o tl)(BU:attributeBase o "items" X.env (eval o X.env)=eval o X.env)(BS:(apos.endLine == BA.line)=true) :
  PI X (.Tuple elts x1 pt) (.Call (.Attribute o "items" apos) [] [] BA) (Di tl):=by
 intro AB s Y H R I h;refine zcp BU rfl BS PySem.F.plainAttrs_dict PySem.F.slot_dict_items PySem.F.type_dict_items (cP (hl AB s Y H _ I h) λu s1 hh=>?_);obtain⟨x,H1,I1,rx,a,o,es,ex,hq,q⟩:=hh;subst ex;obtain rfl:u=Value.ref a:=rx;obtain⟨t1,t2,_⟩:=xu I1 (.inr {es,.inr {o,hq}});refine{t1,t2,Calls.callWith_builtin rfl (PySem.evalArgs_none ?_)};obtain⟨hd,de,hsz,at_⟩:=Dq I1.hok hq;refine Dc hd de ?_;refine Il (v:=s1.heap.objs.size) (d:=a) {_,Bd _ rfl,rfl,rfl} (de.at λob g=>BK _ g) ?_;have I2:az X AB Y H1 {s1 with heap:=s1.heap.push {cls:=.type "dict_items",data:=.fields #[.ref a]}}:=I1.kept (t':=s1.toks) λb o e=>BK _ e;refine{_,[_],_,_,H1,rfl,I2.kept (t':=s1.toks) λb o e=>BK _ e,wF a _ o es,{Cr _,_,_,Bd _ rfl},λb hb=>?_,q};have e:=CP.mp hb;rw[e];exact I2.fpOk (BL _) (I2.hok.fresh (BL _))
end L2
namespace HW
variable {K:Ax}
open PyProof.Rows L2
noncomputable def RE:R->ac->AA (R4 (Th×D)×ac)
 |.p n,U=>match U[n]? with|some (.dt Ab)=>some (Ab,U.set n (.fzt Ab))|some (.fzt Ab)=>some (Ab,U)|_=>none
 |_,_=>none
abbrev P5 (p:Th×D):D:=.tup [.key p.1,p.2]
noncomputable def Gc (f:FE):FI:=λO U=>(f O U).bind λa=>(RE a.1 a.2).bind λb=>some (b.1.map P5,b.2)
def lu.tf {H H':Hp}{Ab:R4 (Th×D)}{es:R4 (R4 aE×V)}(t:TF H H')(h:lu K H Ab es):lu K H' Ab es:={h.1,RelDs.tf t _ _ h.2}
theorem lu.at {H:Hp}{Ab:R4 (Th×D)}{es:R4 (R4 aE×V)}(h:lu K H Ab es){i:Nat}{p:Th×D}(e:Ab[i]?=some p):∃v,es[i]?=some (kk p.1,v)/\ak K H p.2 v:=by
 let⟨v,q,r⟩:=h.2.get (i:=i) (d:=p.2) (by rw[By,e];rfl);have k1:(es.map (·.1))[i]?=some (kk p.1):=by rw[h.1,By,e];rfl
 rw[By] at q k1
 cases z:es[i]? with
 |none=>rw[z] at q;cases q
 |some y=>
  rw[z] at q k1;have q:=Option.some.inj q;have k1:=Option.some.inj k1;exact{v,Av some (Prod.ext k1 q),r}
def Da {a:Aa}{o:BO}{es:R4 (R4 aE×V)}{Ab:R4 (Th×D)}:Eh K (Ri a o es) (Ab.map P5) (λH=>H a=some (.frz o (.dT es))/\lu K H Ab es) where
 st:=λH H' t p=>{t.frz _ _ _ p.1,p.2.tf t}
 stop:=λi H p hi=>{p.1,by have:=Av List.length p.2.1;simp at this hi;omega}
 go:=λi d H e p=>{p.1,by
  have h1:=(CA.mp e).1;have:=Av List.length p.2.1;simp at this h1;omega}
 yld:=λi d H x H' e p y=>by let⟨T,b,kv,e1,e2,e3,e4,e5⟩:=y;rw[By] at e;let⟨q,hq,hd⟩:=DN.mp e;let⟨v,z,r⟩:=p.2.at hq;rw[e1] at z;cases z;subst e2 e5 hd;refine{jZ e3,?_};rwa[ak];refine{T,[.ref b,v],rfl,gY.of aN,?_};rwa[RelDs,ak];exact{_,_,rfl,{b,rfl,by rw[jZ e3 b _ e4,zX]},_,_,rfl,ak.tf (kA (m:=[]) (jZ e3)).tf _ _ r,rfl}
theorem JGd {H:Hp}{R:It->Hp->Prop}{f}(h:qV K (Gc f) Y H R):Di (OK (ax K f)) Y H R:=by
 let⟨O,U,m,xs,U',hl,hs,e,k⟩:=h;let⟨⟨x,U1⟩,e1,e⟩:=Az.mp e;let⟨⟨Ab,U2⟩,e2,e⟩:=Az.mp e;cases e;refine{O,U,m,x,U1,hl,hs,e1,λv H1 m1 x1 s1 r1=>?_}
 cases x with
 |p n=>
  let⟨a,rfl,ha⟩:=r1;rwa[RE] at e2;split at e2
  ·rename_i Ab q
   cases e2;let⟨es,ea,ke,rr⟩:=s1.cell n _ a q ha;refine .inr {a,_,ea,trivial,λo=>?_};have x:cV m1 H1 m1 (upd H1 a (.frz o (.dT es))):=.put (Cp ha) ea ∅ ∅;exact{a,o,es,rfl,br,k _ _ _ m1 (x1.trans x) (s1.put ha ea ∅ ∅ {o,es,br,ke,RelDs.tf x.tf _ _ rr}) Da {br,ke,RelDs.tf x.tf _ _ rr}}
  ·rename_i Ab q
   cases e2;let⟨o,es,ea,ke,rr⟩:=s1.cell n _ a q ha;exact .inl {a,o,es,rfl,ea,k _ _ _ m1 x1 s1 Da {ea,ke,rr}}
  ·cases e2
 |_=>cases e2
end HW
namespace HS
open PyProof.Rows
def OD (S:Aa)(wr:Tf)(h h':Am):Prop:=∀b o,b≠S->b∉wr->h.get? b=some o->h'.get? b=some o
noncomputable def Kc {K:Type}[DecidableEq K](xs ps:R4 (K×Aa×AU)):R4 (K×Aa×AU):=ps.foldl (λa p=>storedH a p.1 p.2.1 p.2.2) xs
def uD {K:Type}[DecidableEq K]{xs:R4 (K×Aa×AU)}{k:K}{a:Aa}{v:AU}{x:K×Aa×AU}(h:x∈storedH xs k a v):(∃y∈xs,y.1=x.1/\y.2.1=x.2.1)\/(x.1=k/\x.2.1=a):=by
 unfold storedH at h;split at h
 ·let⟨y,hy,rfl⟩:=Ca.mp h;refine .inl {y,hy,?_};unfold putAt;split <;> exact{rfl,rfl}
 ·rcases Dd.mp h with h|h
  ·exact .inl {x,h,rfl,rfl}
  ·rw[CP.mp h];exact .inr {rfl,rfl}
def uE {K:Type}[DecidableEq K](xs:R4 (K×Aa×AU))(k:K)(a:Aa)(v:AU):(storedH xs k a v).length<=xs.length+1:=by unfold storedH;split <;> simp
section
variable {prog:Aj}{w:An}{A:Ar}{E:Tb}{s:AP}{R:Result->AP->Prop}{I:Aa}{fp wr:Tf}{n:Nat}{P:Nat->AU->Prop}{St:Nat->Am->Prop}
theorem xF {K:Type}[DecidableEq K]{knd:HeapKind prog w K}(W:Walks prog w A.in1 I fp wr n P St)(S:Aa)(CQ:S∉fp)(JB:knd.room A.in1)(ps:R4 (K×Aa×AU))(hps:ps.length=n)(h₀:Am)
  (hP:∀i v,P i v->∃p,ps[i]?=some p/\gZ h₀ v (.ref p.2.1) p.2.2/\(∀h,OD S wr h₀ h->knd.is h p.1 p.2.1)/\∀a,v=.ref a->a≠S/\a∉wr) :
  ∀(k i:Nat) (s:AP) (c:Int) (xs:R4 (K×Aa×AU)),n-i=k->i<=n->St i s.heap->OD S wr h₀ s.heap->s.heap.DictOfH knd S xs->(∀x∈xs,∀h,OD S wr h₀ h->knd.is h x.1 x.2.1)->xs.length+k<=sizeLine ->
   (∀h' tk,OD S wr s.heap h'->h'.DictOfH knd S (Kc xs (ps.drop i))->R (.ok (.ret .none)) {s with heap:=h',toks:=tk}) ->
   codeAny (model prog w) A (.builtin "dict.update.loop" {[.ref S,.ref I,.int c 0,.none],[]}) R s:=by
 have nw:S∉wr:=λh=>CQ (W.sub _ h);intro k
 induction k with
 |zero=>
  intro i s c xs hk hi Cj h0 hS ha hb hR
  have Jk:i=n:=by omega
  subst Jk;refine EA gq ?_;rw[Et cK _];refine(show wpAny _ A.in1 (pyNext (.ref I) >>= _) _ _ s from Ak (W.done s _ _ Cj λh' tk Cs=>?_));refine(show wpAny _ A.in1 (do Builtin.Dict.addKeywords S [];ret Value.none) _ _ _ from Ak (show wpAny _ _ (pure ()) _ _ _ from Ay (Ay ?_)));refine hR h' tk (λb o _ hb e=>Cs b o hb e) ?_;rw[zcq ∅];let⟨o,es,ep,ho,r1,r2,r3,r4,r5⟩:=hS;exact{o,es,ep,Cs S o nw ho,r1,r2,r3,λx hx=>ha x hx h' λb o n1 n2 e=>Cs b o n2 (h0 b o n1 n2 e),r5}
 |succ k ih=>
  intro i s c xs hk hi Cj h0 hS ha hb hR
  have BD:i<n:=by omega
  refine EA gq ?_;rw[Et cK _];refine(show wpAny _ A.in1 (pyNext (.ref I) >>= _) _ _ s from Ak (W.item i s _ _ BD Cj λv h1 tk1 hPv JT Gw=>?_));let⟨p,hpi,F9,CG,Jr⟩:=hP i v hPv;have h01:OD S wr h₀ h1:=λb o n1 n2 e=>Gw b o n2 (h0 b o n1 n2 e);have Dy:gZ h1 v (.ref p.2.1) p.2.2:=F9.keep λa o e q=>Gw a o (Jr a e).2 (h0 a o (Jr a e).1 (Jr a e).2 q);let⟨a,o,cc,rfl,ho,hc,hd⟩:=Dy.ex
  have hS1:h1.DictOfH knd S xs:=by
   let⟨o,es,ep,ho,r1,r2,r3,r4,r5⟩:=hS;exact{o,es,ep,Gw S o nw ho,r1,r2,r3,λx hx=>ha x hx h1 h01,r5}
  refine Ak (CR (Ak (wpAny_tryCatch ?_)));unfold Builtin.Dict.pairItems;refine Ak (Fc (T:="tuple") {o,ho,hc} ?_);rw[Ae ∅];refine Ak (zcG ho hd (Ay ?_));refine(show wpAny _ _ (holding [.ref p.2.1,p.2.2] (dictSet S (.ref p.2.1) p.2.2)) _ _ _ from CR (wpAny_dictSet_heap (s:={s with heap:=h1,toks:=tk1}) JB (CG h1 h01) hS1 (λh2 Ez Ey=>?_) ∅))
  have DX:ps.drop i=p::ps.drop (i+1):=by
   let⟨hl,e⟩:=CA.mp hpi;rw[GC hl,e]
  have hlen:=uE xs p.1 p.2.1 p.2.2;refine Ay {Ff cK _,ih (i+1) {s with heap:=h2,toks:=tk1+knd.draws p.1} (c+1) _ ∅ BD (W.frame _ h1 _ JT λb hb o e=>?_) (λb o n1 n2 e=>?_) Ez (λx hx=>?_) ∅ λh' CD Cs hD=>?_}
  ·rw[Ey.2 b (λh:b=S=>CQ (h ▸ hb))];exact e
  ·rw[Ey.2 b n1];exact h01 b o n1 n2 e
  ·rcases uD hx with⟨y,hy,e1,e2⟩|⟨e1,e2⟩
   ·rw[←e1,←e2];exact ha y hy
   ·rw[e1,e2];exact CG
  ·refine hR h' CD (λb o n1 n2 e=>Cs b o n1 n2 ?_) (by rw[DX];exact hD)
   show h2.get? b=some o
   rw[Ey.2 b n1];exact Gw b o n2 e
def JAr {K:Type}[DecidableEq K]{kn:KeyKind prog w K}{l:Aa}{its:Ti}{c:Nat}{ps:R4 (R4 K×Aa×AU)}{Q:Tb}
  (hu:A.units+32<cLine) (hh:A.handled=none) (hl:s.heap.get? l=some {cls:=.type "list",data:=.seq its c}) (hps:ps.length=its.size) (hz:its.size<=sizeLine)
  (hP:∀(i:Nat) v,its[i]?=some v->∃p,ps[i]?=some p/\gZ s.heap v (.ref p.2.1) p.2.2/\(tupleKind kn).is s.heap p.1 p.2.1)
  (h:∀(h':Am) (tk:Nat),h'.DictOfH (tupleKind kn) s.heap.objs.size (Kc [] ps)->(∀b o,s.heap.get? b=some o->h'.get? b=some o)->Q (.ref s.heap.objs.size) {s with heap:=h',toks:=tk}) :
  wpAny (model prog w) A (call (.type "dict") [.ref l]) Q E s:=by
 refine so hh hl (λh2 tk2 R' Eu hlI CQ hl3 Ez kk=>?_) h
 refine xF (Walks.list (by simp[hh]) h2.objs.size l hlI its) s.heap.objs.size CQ (show _<cLine by show A.units+1+1<cLine;omega) ps hps s.heap (λi v hv=>?_) (its.size-0) 0 _ 0 [] ∅ (Cr _)
  {{_,Bd _ rfl,rfl,rfl},hl3.push _} (λb o _ _ e=>BK _ (Eu _ _ (BK _ e)))
  {cD,#[],0,BK _ Ez,{rfl,rfl,rfl},rfl,rfl,λe he=>by simp at he,zck} (λx hx=>nomatch hx) ‹hz› λh' CD Cs hD=>kk h' CD Cs ‹hD›
 let⟨p,e1,e3,e2⟩:=hP i v hv;refine{p,e1,e3,λh kp=>?_,λa e=>?_}
 ·let⟨o,items,n,g1,g2,g3,g4⟩:=e2
  refine{o,items,n,kp _ _ (BX (BQ g1)) ?_ g1,g2,g3,g4};rwa[BV,EB,or_false];exact BX (BQ (Eu _ _ (BK _ g1)))
 let⟨a',o',c',q1,q2,_,_⟩:=e3.ex;rw[q1] at e;cases e;refine{BX (BQ q2),?_};rwa[BV,EB,or_false];exact BX (BQ (Eu _ _ (BK _ q2)))
end
end HS
namespace HW
open PyProof.Rows L2 HS
def xN (K:Ax)(H:Hp):R4 V->R4 (R4 aE×V)->Prop:=Paired λv kv=>∃t b,v=.ref t/\gY K H t [.ref b,kv.2]/\H b=some (.tup (kv.1.map kV))
noncomputable def uU (Ab ps:R4 (R4 aE×V)):R4 (R4 aE×V):=ps.foldl (λa p=>eP a p.1 p.2) Ab
def Ch {Z:Type}[DecidableEq Z](Ab:R4 (Z×V))(k:Z)(v:V):(eP Ab k v).length<=Ab.length+1:=by unfold eP;split <;> simp
theorem uT:∀(ps Ab:R4 (R4 aE×V)),(uU Ab ps).length<=Ab.length+ps.length
 |[],_=>by simp[uU]
 |p::ps,Ab=>by
  have:=uT ps (eP Ab p.1 p.2);have:=Ch Ab p.1 p.2
  show(uU (eP Ab p.1 p.2) ps).length<=_
  rw[CK];omega
theorem JB5 {H:Hp}{ps:R4 (R4 aE×V)}{qs:R4 (R4 aE×Aa×AU)}(r:KT H ps qs):∀{Ab:R4 (R4 aE×V)} {xs:R4 (R4 aE×Aa×AU)},KT H Ab xs->KT H (uU Ab ps) (Kc xs qs):=by
 induction r with
 |nil=>intro Ab xs h;exact h
 | @cons a b _ _ h t ih=>
  intro Ab xs q;have:=KT.put q _ h.2.1 h.2.2;refine ih (show KT H (eP Ab a.1 a.2) (storedH xs b.1 b.2.1 b.2.2) from ?_);rw[←h.1];exact this
theorem zO {X:Cx}{H:Hp}{s:AP}(I:az X AB Y H s){ws:R4 V}{Ab:R4 (R4 aE×V)}(p:xN X.K H ws Ab):∀{its:Te},aM ws its ->
  ∃ps:R4 (R4 aE×Aa×AU),KT H Ab ps/\ps.length=its.length/\∀(i:Nat) v,its[i]?=some v->∃p,ps[i]?=some p/\gZ s.heap v (.ref p.2.1) p.2.2/\(tupleKind (bi X.prog X.w)).is s.heap p.1 p.2.1:=by
 induction p with
 |nil=>intro its v;cases v;exact{[],.nil,rfl,λi v e=>by simp at e}
 | @cons _ kv _ _ hp tp ih=>
  intro its v
  cases v with
  |cons hv tv=>
   let⟨ps,a1,a2,a3⟩:=ih tv;let⟨t,b,rfl,hs,hb⟩:=hp;cases hv;let⟨js,r,⟨o,ho,hc,n,hd⟩,_⟩:=I.tuple hs
   cases r with
   |cons r1 rr=>
    cases rr with
    |cons r2 rr=>
     cases rr;cases r1
     rename_i x
     refine{(kv.1,b,x)::ps,.cons {rfl,hb,r2} a1,by simp[a2],λi v e=>?_}
     cases i with
     |zero=>simp at e;subst e;exact{_,rfl,{t,o,n,rfl,ho,hc,hd},nh I.hok hb}
     |succ i=>simpa using a3 i v ‹e›
def B6 (K:Ax):R4 V->Hp->VK->Prop:=λvs H Q=>∃p ws Ab,vs=[.ref p]/\iM K H p ws/\xN K H ws Ab/\ws.length<=sizeLine/\∀l,H l=none->Q (.ref l) (upd H l (.dT (uU [] Ab)))
def xH {X:Cx}(hu:X.A.units+64<cLine)(hc:X.calm=true):g7 X (.type "dict") (B6 X.K):=by
 intro AB s Y H vs us Q I r h;let⟨p,ws,Ab,rfl,hH,hp,hws,q⟩:=h;let⟨u,rfl,rx⟩:=iP r;cases rx;let⟨its,n,rv,e⟩:=K4 I hH;let⟨ps,a1,a2,a3⟩:=zO I hp rv;have hk:Ab.length=its.length:=by have:=Paired.length a1;omega
 have hi:=rv.length;refine JAr (kn:=bi X.prog X.w) (ps:=ps) ∅ (I.ok.hd hc) e ‹a2› (by simp;omega) (λi v hv=>a3 i v ‹hv›) λh' tk hD kp=>?_;have hz:(uU [] Ab).length<=sizeLine:=by have:=uT Ab [];simp at this;omega
 let⟨o,es,ep,g1,g2,g3,g4,_,g5⟩:=hD;have fr:=I.hok.fresh (BL s.heap.objs.size);refine{.ref s.heap.objs.size,_,I.laid (t':=tk) kp (BL _) (show be X.prog X.w _ h' _ (.dT _) from{hz,beq_eq_false_iff_ne.mpr (DR I.big),_,(JB5 a1 .nil).keeps λb ys eb=>?_,o,es,ep,g1,g2,g3,g4,g5}),rfl,q _ fr};rw[aq (λz=>by rw[z,fr] at eb;cases eb)];exact eb
noncomputable def j6:R4 D->AA (R4 (Th×D))
 |[]=>some []
 |d::r=>match d with|.tup [.key k,x]=>(j6 r).map ((k,x) :: ·)|_=>none
noncomputable def kO (Ab ps:R4 (Th×D)):R4 (Th×D):=ps.foldl (λa p=>Cg a p.1 p.2) Ab
noncomputable def ss:R4 R->ac->AA (R×ac)
 |[x],U=>(MV x U).bind λds=>(j6 ds).bind λAb=>if ds.length<1000 then some (.p U.length,U++[.dt (kO [] Ab)]) else none
 |_,_=>none
theorem pW {K:Ax}{H:Hp}:∀{ds:R4 D} {ws:R4 V} {Ab:R4 (Th×D)},j6 ds=some Ab->RelDs K H ds ws->∃qs,xN K H ws qs/\∀{k0 e0},lu K H k0 e0->lu K H (kO k0 Ab) (uU e0 qs)
 |[],ws,Ab,e,r=>by cases e;have r:ws=[]:=r;subst r;exact{[],.nil,λh=>h}
 |d::ds,ws,Ab,e,r=>by
  let⟨v,JK,rfl,r1,r2⟩:=r;unfold j6 at e;split at e
  ·rename_i k x;let⟨ks,e1,rfl⟩:=DN.mp e;let⟨qs,p1,p2⟩:=pW e1 r2;rwa[ak] at r1;let⟨a,vs,rfl,hq,hr⟩:=r1;let⟨v1,t1,rfl,h1,hr⟩:=hr;let⟨v2,t2,rfl,h2,hr⟩:=hr;have hr:t2=[]:=hr;subst hr;rwa[ak] at h1;let⟨b,rfl,hb⟩:=h1;exact{(kk k,v2)::qs,.cons {a,b,rfl,hq,by rw[zX];exact hb} p1,λh=>p2 (h.put h2)}
  ·cases e
def JEa {K:Ax}:zj K ss (B6 K):=by
 intro m H U xs d U' vs Q s r e k;unfold ss at e;split at e
 ·let⟨ds,e0,e⟩:=Az.mp e;let⟨Ab,e1,e⟩:=Az.mp e;split at e
  ·rename_i BD
   cases e;let⟨v,rfl,r1⟩:=mX r;let⟨a,ws,rfl,ea,ra⟩:=JDo s e0 r1;let⟨qs,p1,p2⟩:=pW e1 ra;refine{a,ws,qs,rfl,ea,p1,by rw[←ra.length,D9];omega,λl hl=>?_};have x:cV m H (m++[l]) (upd H l (.dT (uU [] qs))):=.newH hl;have hk:=p2 (k0:=[]) (e0:=[]) {rfl,rfl};refine k _ _ (m++[l]) x (s.newH hl {_,aN,hk.1,RelDs.tf x.tf _ _ hk.2}) {l,rfl,?_};rw[←s.len];simp
  ·cases e
 ·cases e
noncomputable def Ap (fo fk fx:FE):FE:=λO U=>(fo O U).bind λo=>match o.1 with
 |.p n=>if (Gs o.2 n).isSome=true then (fk O o.2).bind λk=>match k.1 with
  |.v (.key ks)=>(fx O k.2).bind λx=>match x.1 with
   |.v d=>(Gs x.2 n).bind λAb=>if Ab.length<1000 then some (match om Ab ks with|some r=>(.v r,x.2)|none=>(.v d,x.2.set n (.dt (Ab++[(ks,d)])))) else none
   |_=>none
  |_=>none
  else none
 |_=>none
def JF3 {K:Ax}{H:Hp}{Q:VK}{fo fk fx}(h:ax K (Ap fo fk fx) Y H Q):Bg (ax K fo) (ax K fk) (ax K fx) Y H Q:=by
 let⟨O,U,m,d,U',hl,hs,e,kc⟩:=h;let⟨⟨o,U1⟩,e1,e⟩:=Az.mp e;split at e
 ·rename_i n hn;simp only at hn;subst hn;split at e
  ·rename_i h0;let⟨⟨k,U2⟩,e2,e⟩:=Az.mp e;split at e
   ·rename_i ks Jj;simp only at Jj;subst Jj;let⟨⟨x,U3⟩,e3,e⟩:=Az.mp e;split at e
    ·rename_i dx hx;simp only at hx;subst hx;let⟨Ab,e4,e⟩:=Az.mp e;split at e
     ·rename_i BD;refine{O,U,m,_,U1,hl,hs,e1,λvo H1 m1 x1 s1 r1=>?_};let⟨kvs0,e0⟩:=zcf.mp h0;let⟨a,rfl,ha⟩:=r1;let⟨es,hR,hK⟩:=IB s1 ha e0;refine{a,rfl,.inr {es,.inl hR},?_};refine{O,U1,m1,_,U2,hl.ext x1,s1,e2,λvk H2 m2 x2 s2 r2=>?_};refine{O,U2,m2,_,U3,hl.ext (x1.trans x2),s2,e3,λvx H3 m3 x3 s3 r3=>?_};have x13:=(x1.trans x2).trans x3;have Js:m3[n]?=some a:=by let⟨a',ea',q⟩:=av.ext (x2.trans x3) (show av K m1 H1 (.p n) (.ref a) from{a,rfl,ha});cases ea';exact q
      let⟨BZ,Ju,IM⟩:=IB s3 Js e4;have r2':=r2.ext x3;rwa[av,ak] at r2';let⟨b,rfl,hb⟩:=r2';refine{BZ,kk ks,b,Ju,rfl,by rw[zX];exact hb,?_,λv hv=>?_,λhv=>?_}
      ·have:=Av List.length IM.1;simp at this
       rw[this];exact CC BD (by rw[D9];omega)
      ·rcases lu.val ks IM with⟨n1,n2⟩|⟨dd,vv,n1,n2,n3⟩
       ·rw[n2] at hv;cases hv
       ·rw[n2] at hv;cases hv;rwa[n1] at e;cases e;exact kc _ H3 m3 x13 s3 n3
      ·rcases lu.val ks IM with⟨n1,n2⟩|⟨dd,vv,n1,n2,n3⟩
       ·rwa[n1] at e
        cases e;have y:cV m3 H3 m3 (upd H3 a (.dT (BZ++[(kk ks,vx)]))):=.put (Cp Js) Ju ∅ ∅;have kr:=lu.snoc (k:=ks) (ak.tf y.tf _ _ r3) (IM.tf y.tf);exact kc _ _ m3 (x13.trans y) (s3.put Js Ju ∅ ∅ {_,br,kr.1,kr.2}) (ak.tf y.tf _ _ r3)
       ·rw[n2] at hv;cases hv
     ·cases e
    ·cases e
   ·cases e
  ·cases e
 ·cases e
end HW
namespace HS
open PyProof.Rows
noncomputable def LC (t:SetTable):Nat->Probe->Probe
 |0,p=>p
 |n+1,p=>LC t n (t.advance p)
noncomputable def fr (m i p:Nat):Probe:={j:=i,more:=runEnd m i-i,i:=i,perturb:=p,dummy:=none}
section
variable {prog:Aj}{w:An}
abbrev R9 (prog:Aj)(w:An)(h:Am)(ks:Th)(a:Aa):Prop:=IsTupleKey (intKind prog w) h ks a
theorem items_int {prog:Aj}{ks:Th}{vs:Te}(h:ItemsAre (intKind prog w) ks vs):∀v∈vs,∃n t,v=.int n t:=by
 induction h with
 |nil=>intro v hv;simp at hv
 | @cons k v' ks vs h1 _ ih=>
  intro v hv;rcases BV.mp hv with rfl|hv
  ·cases v with
   |int n t=>exact{n,t,rfl}
   |_=>simp[intKind,Value.isInt] at h1
  ·exact ih v hv
structure Q9 (prog:Program)(w:World)(led:Bool)(h:Heap)(es:Array (Int×Value))(t:SetTable)(vs:Te):Prop where
 W:oF led es t
 ms:t.mask∈eF
 dm:t.dummies = #[]
 pl:t.plain=true
 lo:t.place.size*5<t.mask*3
 pm:(es.toList.map (·.2)).Perm vs
 el:∀e∈es.toList,∃b ls,e.2=.ref b/\R9 prog w h ls b
end
end HS
namespace HW
open PyProof.Rows L2 HS F2
end HW
namespace HK
open PyProof.Rows L2 HS F2
end HK
namespace HW
open PyProof.Rows L2 HS F2 HK
noncomputable def LQ (f:FE):FE:=λO U=>(f O U).bind λa=>some (jO a.1,a.2)
def M6 {K:Ax}{H:Hp}{Q:VK}{f}(h:ax K (LQ f) Y H Q):ax K f Y H Q:=by let⟨O,U,m,d,U',hl,hs,e,k⟩:=h;let⟨⟨x,U1⟩,e1,e⟩:=Az.mp e;cases e;exact{O,U,m,_,_,hl,hs,e1,λv H' m' x1 s1 r1=>k v H' m' x1 s1 r1.unk}
end HW
namespace HK
open PyProof.Rows L2 F2
section
variable {prog:Aj}{w:An}{A:Ar}{E:Tb}{s:AP}{d:Aa}{es:Al DictEntry}{ep:Nat}
def JD1 {Q:Tb}(nd:(d == sysModules)=false)(m:DE s.heap d es ep)
  (fin:Q (.ref s.heap.objs.size) {s with heap:=s.heap.push {cls:=.type "dict_values",data:=.fields #[.ref d]}}):wpAny (model prog w) A (call (.builtin "dict.values") [.ref d]) Q E s:=by
 refine Co F.slot_dict_values m.ty F.entry_dict_values ?_ (F.args_dict_values_1 _);refine Ak ?_;unfold Builtin.Dict.noArgs;refine Ak (zb5 m.ty ?_)
 show wpAny _ _ (pure d) _ _ s
 refine Ay ?_
 show wpAny _ _ (Builtin.Dict.showsAll d >>= _) _ _ s
 unfold Builtin.Dict.showsAll;rw[Ac (show ¬ (d == sysModules)=true by rw[nd];decide)];exact Ak (Ay (Ak (Cw (Ay {_,rfl,fin}))))
end
end HK
namespace PySem
end PySem
namespace HW
open PyProof.Rows L2 HK F2
end HW
namespace HS
open PyProof.Rows
def OE (t:SetTable)(h:Int)(j:Nat):Prop:=∃n,(LC t n (t.probeStart h)).j=j/\∀k<n,t.slot (LC t k (t.probeStart h)).j≠.empty
def Rn (es:Al (Int×AU))(t:SetTable):Prop:=∀(i:Nat) (e:Int×AU) (j:Nat),es[i]?=some e->t.place[i]?=some j->OE t e.1 j
section
variable {prog:Aj}{w:An}
structure SG (prog:Program)(w:World)(TH:List Int->Int)(led:Bool)(h:Heap)(es:Array (Int×Value))(t:SetTable)(vs:Te):Prop where
 T:Q9 prog w led h es t vs
 ch:Rn es t
 hh:∀e∈es.toList,∃b ls,e.2=.ref b/\R9 prog w h ls b/\e.1=TH ls
end
end HS
namespace HW
open PyProof.Rows L2 HS F2
noncomputable def SE (acc:Ta)(k:Th):Ta:=if k∈acc then acc else acc++[k]
noncomputable def dd (L:Ta):Ta:=L.foldl SE []
end HW
namespace HW
variable {K:Ax}
open PyProof.Rows L2
open Classical in
noncomputable def Sy (cl:R4 (Str×Aa))(H:Hp):Hp:=λb=>if (∃y,cl.lookup y=some b) then none else H b
structure SH (P:Addr)(q:Str)(H H':Hp):Prop where
 keep:∀b o,b≠P->H b=some o->H' b=some o
 tab:∃ps,H' P=some (.tbl ps)/\mL H' q ps
structure Rj (K:Ax)(x:Str)(st:Stmt)(f:Addr)(fd:FuncData)(c:Addr):Prop where
 ex:∃(oc:Value) (od:Option Addr) (kV doc pm:Value) (an:Option Addr) (ct:Value) (Fn:Array (Tg)),
  fd=PySem.W.fnOf x x (gr st) (bC st) (aj st) .none kV doc pm an (.ref c) ct/\K.lookup f=some {oc,od,.func fd,Fn}/\PySem.W.codeIn K (.ref c) x=true
 kp:PySem.W.keepIn K (.ref f)=true
section
variable {K:Ax}{m:Tf}{H:Hp}
theorem aL.length:∀{ds:R4 R} {vs:R4 V},aL K m H ds vs->ds.length=vs.length
 |[],_,h=>by cases(show _=[] from h);rfl
 |_::_,_,⟨v,r,e,h1,h2⟩=>by subst e;simp[aL.length h2]
theorem aL.get:∀{ds:R4 R} {vs:R4 V} {i:Nat} {d:R},aL K m H ds vs->ds[i]?=some d->∃v,vs[i]?=some v/\av K m H d v
 |[],_,_,_,_,e=>by simp at e
 |_::_,_,0,_,⟨v,r,e,h1,h2⟩,q=>by subst e;simp at q;subst q;exact{v,rfl,h1}
 |_::_,_,i+1,_,⟨v,r,e,h1,h2⟩,q=>by subst e;simp at q;let⟨w,a,b⟩:=aL.get h2 q;exact{w,by simpa using a,b}
def JCm {xs:R4 R}{vs:R4 V}{i:Int}{d:R}(r:aL K m H xs vs)(e:iJ xs i=some d):∃v,iJ vs i=some v/\av K m H d v:=by let⟨j,e1,e2⟩:=Az.mp e;let⟨v,q1,q2⟩:=r.get e2;exact{v,by unfold iJ;rw[←r.length,e1];exact q1,q2}
end
noncomputable def ow (U:ac)(n:Nat):AA (R4 R):=match U[n]? with|some (.lr xs)=>some xs|_=>none
def Ie {m:Tf}{H:Hp}{U:ac}{n:Nat}{a:Aa}{xs:R4 R}(s:aG K m H U)(ha:m[n]?=some a)(e:ow U n=some xs):∃vs,H a=some (.lst vs)/\aL K m H xs vs:=by
 unfold ow at e;split at e
 ·rename_i q;cases e;exact s.cell _ _ a q ha
 ·cases e
noncomputable def Eo (fa:FA):FE:=λO U=>(fa O U).bind λa=>if a.1.length<=sizeLine then some (.p a.2.length,a.2++[.lr a.1]) else none
noncomputable def jH:R->R->ac->AA (R×ac)
 |.p n,.v (.int i),U=>(ow U n).bind λxs=>(iJ xs i).bind λd=>some (d,U)
 |_,_,_=>none
section
variable {K:Ax}{m:Tf}{Y:L2.St}{H:Hp}{Q:VK}{U:ac}
def M7 {fa}(h:ax K (Eo fa) Y H Q):Jd (gM K fa) Y H Q:=by
 let⟨O,U,m,d,U',hl,hs,e,k⟩:=h;let⟨⟨xs,U1⟩,e1,e⟩:=Az.mp e;split at e
 ·rename_i z
  cases e;refine{O,U,m,xs,_,hl,hs,e1,λvs H1 m1 x1 s1 r1=>?_};refine{by rw[←r1.length];exact z,λp hp=>?_};have x2:cV m1 H1 (m1++[p]) (upd H1 p (.lst vs)):=.newH hp;exact k _ _ _ (x1.trans x2) (s1.newH hp {vs,br,r1.ext x2}) {p,rfl,by rw[←s1.len];simp}
 ·cases e
def N4:o0 K jH (PR K):=by
 intro m H U x y d U' v u Q s rx ry e k;unfold jH at e;split at e
 ·rename_i n i;let⟨xs,e1,e⟩:=Az.mp e;let⟨d1,e2,e⟩:=Az.mp e;cases e;rwa[av,ak] at ry;subst ry;let⟨a,rfl,ha⟩:=rx;let⟨vs,ea,r⟩:=Ie s ha e1;let⟨w,q1,q2⟩:=JCm r e2;exact .inl {a,vs,i,w,rfl,rfl,iM.of ea,q1,k _ H m .refl s q2}
 ·cases e
end
abbrev MW:=R4 R->ac->AA (R×ac)
noncomputable def nu:oZ->AA (R×ac)
 |.rt r U=>some (r,U)
 |.nx _ U=>some (.v .non,U)
 |_=>none
noncomputable def j1 (k:Nat)(b:FS):MW:=λrs U=>(b (rs.map some++List.replicate (k-rs.length) none) U).bind nu
noncomputable def LM (K:Ax)(n:Nat)(f:MW):Sp:=λvs H Q _=>∃U m rs d U',rs.length=n/\aG K m H U/\aL K m H rs vs/\f rs U=some (d,U') /\
 ∀v H' m',cV m H m' H'->aG K m' H' U'->av K m' H' d v->Q v H'
def JBg {m:Tf}{H:Hp}{N:Tn}{rs:R4 R}{vs:R4 V}(r:aL K m H rs vs):dJ K m H (rs.map some++List.replicate (N.length-rs.length) none) (L2.fJ N vs):=by
 have hl:=r.length;refine{by simp[L2.fJ,hl],λi d e=>?_};by_cases hi:i<rs.length
 ·rw[Bu ‹hi›,By] at e
  cases q:rs[i]? with
  |none=>rw[q] at e;cases e
  |some x=>
   rw[q] at e;cases e;let⟨v,q1,q2⟩:=r.get q;refine{v,?_,q2};unfold L2.fJ;rw[Bu (by simp;omega),By,q1];rfl
 ·rw[DH ‹hi›,zbU] at e;split at e <;> cases e
theorem o7.okW {P:Aj}{w:An}{K:Ax}{mg:Td}{base:Am}{x qual:Str}{st:B8}{f:Aa}{fd:FuncData}{N ps:Tn}{k:Nat}{b:FS}(F:o7 K x qual st f fd)(S:aA N ps (aj st))
  (BN:∀(BG:AU) (A:Ar) (outer:R4 Env) (s:AP) (H:Hp) (E:XK),bG k (A.deeper (envOfC qual (aj st) s.heap.objs.size f BG))->oG (jL lf P w K mg base N qual (aj st) f BG A outer s H E).nox (bC st) (fA K b)) :
  cw P w K mg base lf (k+1) f fd ps (LM K ps.length (j1 N.length b)):=by
 have G:cw P w K mg base lf (k+1) f fd ps (λvs H Q _=>vs.length=ps.length/\fA K b {nx:=λ_ H'=>Q .non H',rt:=Q} (L2.fJ N vs) H) :=
  L2.o7.ok F S (λvs H Q E h=>h.1) λBG A outer s H vs Q E hr h=>{_,BN BG A outer s H E hr,h.2}
 refine G.imp λvs H Q E hh=>?_;let⟨U,m,rs,d,U',hn,hs,r,e,k⟩:=hh;refine{by rw[←r.length];exact hn,?_};let⟨o,e1,e⟩:=Az.mp e;refine{_,U,m,o,JBg r,hs,e1,?_}
 cases o with
 |nx O U1=>cases e;exact λY H' m' x1 s1 _=>k _ H' m' x1 s1 (by rwa[av,ak])
 |rt d U1=>cases e;exact λv H' m' x1 s1 r1=>k _ H' m' x1 s1 r1
 |bk O U1=>cases e
 |ct O U1=>cases e
noncomputable def dH (f:MW)(n:Nat)(fa:FA):FE:=λO U=>(fa O U).bind λa=>if a.1.length=n then f a.1 a.2 else none
structure mO (K:Ax)(mg:Td)(c:Str)(C:Addr):Prop where
 ns:PySem.W.nsIn K mainGlobals c=some (some (.ref C))
 mg:mg c=some (.ref C)
 cl:Es K C
noncomputable def qX (c:Str)(U:ac)(x:R):AA (R4 (Str×R)):=match x with
 |.p n=>(match U[n]? with|some (.ob c' fs)=>if c'=c then some fs else none|_=>none)
 |_=>none
noncomputable def uY (f:Str)(v:R):R4 (Str×R)->R4 (Str×R)
 |[]=>[(f,v)]
 |(g,x)::r=>if g=f then (g,v)::r else (g,x)::uY f v r
def FR (K:Ax)(m:Tf)(H:Hp)(fs:R4 (Str×R))(es:R4 (Str×V)):Prop:=es.map (·.1)=fs.map (·.1)/\aL K m H (fs.map (·.2)) (es.map (·.2))
section
variable {K:Ax}{m m':Tf}{H H':Hp}
def FR.cons {k k':Str}{d:R}{v:V}{fs:R4 (Str×R)}{es:R4 (Str×V)}:FR K m H ((k,d)::fs) ((k',v)::es) ↔ k'=k/\av K m H d v/\FR K m H fs es:=by
 constructor
 ·rintro⟨h1,h2⟩;rwa[BH,List.cons.injEq] at h1;let⟨w,r,e,h3,h4⟩:=h2;rwa[BH,List.cons.injEq] at e;let⟨rfl,rfl⟩:=e;exact{h1.1,h3,h1.2,h4}
 ·rintro⟨rfl,h1,h2,h3⟩;exact{by simp[h2],{_,_,rfl,h1,h3}}
theorem FR.look:∀{fs:R4 (Str×R)} {es:R4 (Str×V)} (f:Str),FR K m H fs es->(fs.lookup f=none/\es.lookup f=none)\/∃d v,fs.lookup f=some d/\es.lookup f=some v/\av K m H d v
 |[],es,f,h=>by
  have:es=[]:=by simpa using h.1
  subst this;exact .inl {rfl,rfl}
 |(a,d)::fs,[],f,h=>by have:=h.1;simp at this
 |(a,d)::fs,(b,v)::es,f,h=>by
  let⟨rfl,h1,h2⟩:=FR.cons.mp h;rwa[EK]
  cases q:f == b with
  |true=>exact .inr {d,v,rfl,rfl,h1}
  |false=>exact FR.look f h2
theorem FR.put {f:Str}{d:R}{v:V}(rd:av K m H d v):∀{fs:R4 (Str×R)} {es:R4 (Str×V)},FR K m H fs es->FR K m H (uY f d fs) (je f v es)
 |[],es,h=>by
  have:es=[]:=by simpa using h.1
  subst this;exact FR.cons.mpr {rfl,rd,rfl,rfl}
 |(a,x)::fs,[],h=>by have:=h.1;simp at this
 |(a,x)::fs,(b,y)::es,h=>by
  let⟨rfl,h1,h2⟩:=FR.cons.mp h;unfold uY je;by_cases q:b=f
  ·rw[Ae q,Ae q];exact FR.cons.mpr {rfl,rd,h2}
  ·rw[Ac q,Ac q];exact FR.cons.mpr {rfl,h1,FR.put rd h2}
def FR.ext (x:cV m H m' H'){fs:R4 (Str×R)}{es:R4 (Str×V)}(h:FR K m H fs es):FR K m' H' fs es:={h.1,aL.ext x h.2}
def FR.len {fs:R4 (Str×R)}{es:R4 (Str×V)}(h:FR K m H fs es):es.length=fs.length:=by simpa using Av List.length h.1
def CN {mg:Td}{c:Str}{C:Aa}{U:ac}{x:R}{v:V}{fs:R4 (Str×R)}(N:mO K mg c C)(s:aG K m H U)(r:av K m H x v)(e:qX c U x=some fs) :
  ∃n a dx es,x=.p n/\m[n]?=some a/\v=.ref a/\H a=some (.ins C dx es)/\FR K m H fs es:=by
 unfold qX at e;split at e
 ·rename_i n
  split at e
  ·rename_i c' gs q
   split at e
   ·rename_i hc
    cases e;subst hc;let⟨a,rfl,ha⟩:=r;let⟨C',dx,es,h1,h2,h3,h4⟩:=s.cell _ _ a q ha;rw[N.ns] at h1;cases h1;exact{n,a,dx,es,rfl,ha,rfl,h2,h3,h4}
   ·cases e
  ·cases e
 ·cases e
end
noncomputable def db (c f:Str)(fo:FE):FE:=λO U=>(fo O U).bind λo=>(qX c o.2 o.1).bind λfs=>(fs.lookup f).bind λd=>some (d,o.2)
noncomputable def mn (c f:Str)(fo fv:FE):FS:=λO U=>(fv O U).bind λv=>(fo O v.2).bind λo=>(qX c o.2 o.1).bind λfs=>if fs.length<1000 then (match o.1 with|.p n=>some (.nx O (o.2.set n (.ob c (uY f v.1 fs))))|_=>none) else none
noncomputable def bv (c nm:Str)(f:MW)(n:Nat)(fo:FE)(fa:FA):FE:=λO U=>(fo O U).bind λo=>(qX c o.2 o.1).bind λfs=>if (fs.lookup nm).isNone=true then (fa O o.2).bind λa=>if a.1.length+1=n then f (o.1::a.1) a.2 else none else none
section
variable {K:Ax}{Y:L2.St}{H:Hp}{Q:VK}{mg:Td}{c:Str}{C:Aa}
def JA8 {f:MW}{n:Nat}{fa}{E:XK}(h:ax K (dH f n fa) Y H Q):uA (LM K n f) [] E (gM K fa) Y H Q:=by
 let⟨O,U,m,d,U',hl,hs,e,k⟩:=h;let⟨⟨xs,U1⟩,e1,e⟩:=Az.mp e;split at e
 ·rename_i hn;refine{O,U,m,xs,U1,hl,hs,e1,λvs H1 m1 x1 s1 r1=>?_};exact{U1,m1,xs,d,U',hn,s1,by rw[DL];exact r1,e,λv H' m' x2 s2 r2=>k v H' m' (x1.trans x2) s2 r2}
 ·cases e
def JGh {f:Str}{fo}(N:mO K mg c C)(hf:ff K C f)(h:ax K (db c f fo) Y H Q):MK K (ax K fo) f Y H Q:=by
 let⟨O,U,m,d,U',hl,hs,e,k⟩:=h;let⟨⟨o,U1⟩,e1,e⟩:=Az.mp e;let⟨fs,e2,e⟩:=Az.mp e;let⟨d',e3,e⟩:=Az.mp e;cases e;refine{O,U,m,o,U1,hl,hs,e1,λv H1 m1 x1 s1 r1=>?_};let⟨n,a,dx,es,rfl,ha,rfl,ea,fr⟩:=CN N s1 r1 e2;rcases fr.look f with⟨z,_⟩|⟨d0,v0,z1,z2,z3⟩
 ·rw[z] at e3;cases e3
 ·rw[z1] at e3;cases e3;exact{a,C,dx,es,v0,rfl,ea,N.cl,hf,z2,k _ H1 m1 x1 s1 z3}
def JDr {f:Str}{fo fv}{D:gB}(N:mO K mg c C)(hf:ff K C f)(h:fA K (mn c f fo fv) D Y H):MX K (ax K fo) (ax K fv) f D Y H:=by
 let⟨O,U,m,o,hl,hs,e,k⟩:=h;let⟨⟨v,U1⟩,e1,e⟩:=Az.mp e;let⟨⟨ob,U2⟩,e2,e⟩:=Az.mp e;let⟨fs,e3,e⟩:=Az.mp e;split at e
 ·rename_i BD;refine{O,U,m,v,U1,hl,hs,e1,λy H1 m1 x1 s1 r1=>?_};refine{O,U1,m1,ob,U2,hl.ext x1,s1,e2,λvo H2 m2 x2 s2 r2=>?_};let⟨n,a,dx,es,rfl,ha,rfl,ea,fr⟩:=CN N s2 r2 e3;dsimp only at e;cases e;have x:cV m2 H2 m2 (upd H2 a (.ins C dx (je f y es))):=.put (Cp ha) ea ∅ ∅;refine{a,C,dx,es,rfl,ea,N.cl,hf,by rw[fr.len];exact BD,?_};have x3:=(x1.trans x2).trans x;have fr2:=(FR.put (f:=f) (r1.ext x2) fr).ext x;exact k _ _ m2 x3 (s2.put ha ea ∅ ∅ {C,dx,_,N.ns,br,fr2.1,fr2.2}) (hl.ext x3)
 ·cases e
def ym {nm:Str}{f:MW}{n:Nat}{fo fa}{E:XK}(N:mO K mg c C)(h:ax K (bv c nm f n fo fa) Y H Q):Bh C nm (LM K n f) [] E (ax K fo) (gM K fa) Y H Q:=by
 let⟨O,U,m,d,U',hl,hs,e,k⟩:=h;let⟨⟨o,U1⟩,e1,e⟩:=Az.mp e;let⟨fs,e2,e⟩:=Az.mp e;split at e
 ·rename_i Ft;let⟨⟨xs,U2⟩,e3,e⟩:=Az.mp e;split at e
  ·rename_i hn;refine{O,U,m,o,U1,hl,hs,e1,λv H1 m1 x1 s1 r1=>?_};let⟨i,a,dx,es,rfl,ha,rfl,ea,fr⟩:=CN N s1 r1 e2;have hlook:es.lookup nm=none:=by
    rcases fr.look nm with⟨_,z⟩|⟨d0,v0,z1,z2,z3⟩
    ·exact z
    ·rw[z1] at Ft;cases Ft
   refine{a,dx,es,rfl,ea,hlook,?_};refine{O,U1,m1,xs,U2,hl.ext x1,s1,e3,λvs H2 m2 x2 s2 r2=>?_};exact{U2,m2,.p i::xs,d,U',by simpa using hn,s2,{_,_,rfl,r1.ext x2,by rw[DL];exact r2},e,λv H' m' x3 s3 r3=>k v H' m' ((x1.trans x2).trans x3) s3 r3}
  ·cases e
 ·cases e
end
noncomputable def o9 (U:ac):R4 R->AA (R4 D)
 |[]=>some []
 |x::xs=>(eA x U).bind λd=>if cR 60 d=true then (o9 U xs).bind λds=>some (d::ds) else none
noncomputable def GW:R->ac->AA (R4 D)
 |.p n,U=>(ow U n).bind λxs=>o9 U xs
 |_,_=>none
theorem l8 {X:Cx}{H:Hp}{s:AP}{m:Tf}{U:ac}(I:az X AB Y H s)(S:aG X.K m H U):∀{xs:R4 R} {ds:R4 D} {vs:R4 V} {us:Te},aL X.K m H xs vs->aM vs us->o9 U xs=some ds->∃as,ReadsAll s.heap us (toPys ds) as
 |[],_,_,_,h,r,e=>by cases e;cases(show _=[] from h);cases r;exact{_,.nil}
 |x::xs,_,_,_,⟨v,vr,rfl,h1,h2⟩,r,e=>by
  let⟨d,e1,e⟩:=Az.mp e;split at e
  ·rename_i hk;let⟨ds,e2,e⟩:=Az.mp e;cases e
   cases r with
   |cons r1 r2=>
    let⟨as,q1⟩:=cI I S h1 r1 e1 hk;let⟨bs,q2⟩:=l8 I S h2 r2 e2;exact{_,.cons q1 q2}
  ·cases e
def ul {X:Cx}{H:Hp}{s:AP}{m:Tf}{U:ac}{x:R}{ds:R4 D}{v:V}{u:AU}(I:az X AB Y H s)(S:aG X.K m H U)(r:av X.K m H x v)(ru:aP v u)(e:GW x U=some ds):∃as,Reads s.heap u (jQ (.fl ds)) as:=by
 unfold GW at e;split at e
 ·rename_i n;let⟨xs,e1,e⟩:=Az.mp e;let⟨a,rfl,ha⟩:=r;let⟨vs,ea,rr⟩:=Ie S ha e1;cases ru;let⟨its,rv,⟨o,n',e',c,_,hd⟩,_⟩:=I.list (iM.of ea);let⟨as,ra⟩:=l8 I S rr rv e;exact{_,.list e' c hd ‹ra›}
 ·cases e
def JBb {f:FE}{H:Hp}{Q Q':VK}(h:ax K f Y H Q)(k:∀v H',Q v H'->Q' v H'):ax K f Y H Q' :=
 let ⟨O,U,m,d,U',hl,hs,e,q⟩:=h
 {O,U,m,d,U',hl,hs,e,λv H' m' x s r=>k v H' (q v H' m' x s r)}
open HS
noncomputable def eK (c:Str)(f:MW)(n:Nat)(fa:FA):FE:=λO U=>(fa O U).bind λa=>if a.1.length+1=n then (f (.p a.2.length::a.1) (a.2++[.ob c []])).bind λr=>match r.1 with|.v .non=>some (.p a.2.length,r.2)|_=>none else none
def JA4 {mg:Td}{c:Str}{C:Aa}{H:Hp}{Q:VK}{f:MW}{n:Nat}{fa:FA}{E:XK}(N:mO K mg c C)(h:ax K (eK c f n fa) Y H Q):Hy C (LM K n f) [] E (gM K fa) Y H Q:=by
 let⟨O,U,m,d,U',hl,hs,e,k⟩:=h;let⟨⟨xs,U0⟩,e0,e⟩:=Az.mp e;dsimp only at e;split at e
 ·rename_i hn;let⟨⟨r,U1⟩,e1,e⟩:=Az.mp e;dsimp only at e;split at e
  ·cases e;refine{O,U,m,xs,U0,hl,hs,e0,λvs H1 m1 x1 s1 r1=>?_};intro x dx hx hdx C1;have y1:cV m1 H1 m1 (upd H1 dx (.own x)):=.new hdx;have t1:=s1.same (cx hdx (o:=HO.own x));have J9:upd H1 dx (.own x) x=none:=(by unfold upd;rw[Ac (Ne.symm C1)];exact hx);have y2:cV m1 (upd H1 dx (.own x)) (m1++[x]) (upd (upd H1 dx (.own x)) x (.ins C dx [])):=.newH J9;have s2:=t1.newH (c:=.ob c []) J9 {C,dx,[],N.ns,br,rfl,rfl};have hp:(m1++[x])[U0.length]?=some x:=(by rw[←s1.len];simp);refine{_,_,.p U0.length::xs,_,_,by simpa using hn,s2,{_,_,rfl,{x,rfl,hp},by rw[DL];exact r1.ext (y1.trans y2)},e1,λv H' m' x3 s3 r3=>?_};refine{by simpa only[av,ak] using r3,k _ H' m' ((x1.trans (y1.trans y2)).trans x3) s3 ?_};exact av.ext x3 (show av K (m1++[x]) _ (.p U0.length) (.ref x) from{x,rfl,hp})
  ·cases e
 ·cases e
noncomputable def m5:R4 D->AA (R4 (aE×D))
 |[]=>some []
 |.tup [.str i,d]::r=>(m5 r).map ((.inr (some i),d) :: ·)
 |_=>none
theorem pY {K:Ax}{H:Hp}:∀{ds:R4 D} {ws:R4 V} {Ab:R4 (aE×D)},m5 ds=some Ab->RelDs K H ds ws->∃qs,d5 K H ws qs/\KD K H Ab qs
 |[],ws,Ab,e,r=>by cases e;have r:ws=[]:=r;subst r;exact{[],.nil,.nil}
 |d::ds,ws,Ab,e,r=>by
  let⟨v,JK,rfl,r1,r2⟩:=r;unfold m5 at e;split at e
  ·cases e;rename_i h;cases h
  ·rename_i i x r' h
   cases h;let⟨ks,e1,rfl⟩:=DN.mp e;let⟨qs,p1,p2⟩:=pY e1 r2;rwa[ak] at r1;let⟨a,vs,rfl,hq,hr⟩:=r1;let⟨v1,t1,rfl,h1,hr⟩:=hr;let⟨v2,t2,rfl,h2,hr⟩:=hr;have hr:t2=[]:=hr;subst hr;have h1:v1=.str i:=(by simpa only[ak] using h1);subst h1;exact{(.inr (some i),v2)::qs,.cons {a,rfl,hq} p1,KD.cons.mpr {rfl,h2,p2}}
  ·cases e
noncomputable def n5:R4 R->ac->AA (R×ac)
 |[.p n],U=>match U[n]? with
  |some (.lst ds)=>(m5 ds).bind λAb=>some (.p U.length,U++[.dct (aQ [] Ab)])
  |_=>none
 |_,_=>none
def JEb {K:Ax}:zj K n5 (yr K):=by
 intro m H U xs d U' vs Q s r e k;unfold n5 at e;split at e
 ·rename_i n;split at e
  ·rename_i ds hn;let⟨Ab,e1,e⟩:=Az.mp e;cases e;let⟨v,rfl,r1⟩:=mX r;let⟨a,rfl,ha⟩:=r1;let⟨ws,ea,ra⟩:=s.cell _ _ a hn ha;let⟨qs,p1,p2⟩:=pY e1 ra;refine{a,ws,qs,rfl,ea,p1,λl hl=>?_};have x:cV m H (m++[l]) (upd H l (.dK (mv [] qs))):=.newH hl;have hk:=KD.putAll (K:=K) (H:=H) .nil p2;refine k _ _ (m++[l]) x (s.newH hl {_,aN,hk.1,RelDs.tf x.tf _ _ hk.2}) {l,rfl,?_};rw[←s.len];simp
  ·cases e
 ·cases e
end HW
namespace HW
open PyProof.Rows L2 HK
section
variable {P:Aj}{w:An}{H H0 H2:Hp}{h h0:Am}{a:Aa}{o:BO}{es:R4 (aE×V)}{fs ex:Tf}
abbrev oU (o:BO)(es:R4 (aE×V)):HO:=.frz o (.frz o (.dK es))
def f7.hold (ok:f7 P w H h)(e:H a=some (.dK es)):∃o,f7 P w (upd H a (oU o es)) h:=by
 let⟨o,ok1⟩:=f7.frz ok e trivial;refine{o,λb v q=>?_};have e1:upd H a (.frz o (.dK es)) a=some (.frz o (.dK es)):=L2.aN;have own:∀c y,upd H a (.frz o (.dK es)) c=some (.own y)->upd H a (oU o es) c=some (.own y):=λc y r=>by
  by_cases hc:c=a
  ·subst hc;rw[L2.aN] at r;cases r
  ·rw[L2.aq hc] at r ⊢;exact r
 have tup:∀c xs,upd H a (.frz o (.dK es)) c=some (.tup xs)->upd H a (oU o es) c=some (.tup xs):=λc xs r=>by
  by_cases hc:c=a
  ·subst hc;rw[L2.aN] at r;cases r
  ·rw[L2.aq hc] at r ⊢;exact r
 by_cases hb:b=a
 ·subst hb;rw[L2.aN] at q;cases q;exact{(ok1 b _ e1).1,(ok1 b _ e1).stay (λc v _ q=>q) (λc r=>own c _ r) tup}
 ·rw[L2.aq hb] at q;exact(ok1 b v (by rw[L2.aq hb];exact q)).stay (λc v _ q=>q) (λc r=>own c _ r) tup
def f7.give (ok:f7 P w H h)(e:H a=some (oU o es)):f7 P w (upd H a (.dK es)) h:=by
 have ne:∀c v,H c=some v->v≠oU o es->c≠a:=λc v q n z=>by rw[z,e] at q;exact n (Option.some.inj q).symm
 have own:∀c y,H c=some (.own y)->upd H a (.dK es) c=some (.own y):=λc y r=>by rw[L2.aq (ne c _ r ∅)];exact r
 have tup:∀c xs,H c=some (.tup xs)->upd H a (.dK es) c=some (.tup xs):=λc xs r=>by rw[L2.aq (ne c _ r ∅)];exact r
 intro b v q;by_cases hb:b=a
 ·subst hb;rw[L2.aN] at q;cases q;exact(ok b _ e).2.2.stay (λc v _ q=>q) (λc r=>own c _ r) tup
 ·rw[L2.aq hb] at q;exact(ok b v q).stay (λc v _ q=>q) (λc r=>own c _ r) tup
def Un.hold (un:Un fs ex H0 H h0 h)(e:H a=some (.dK es)):Un fs ex H0 (upd H a (oU o es)) h0 h where
 keep:=un.keep
 slot:=un.slot
 free:=λb ob q n hx=>by have z:=un.free b ob q n hx;rw[L2.aq (λy=>by rw[y,e] at z;cases z)];exact z
 there:=un.there
 tups:=λb xs q=>by rw[L2.aq (ez.ne e trivial (un.tups b xs q) λz=>z)];exact un.tups b xs q
 frzs:=λb ob v q=>by rw[L2.aq (ez.ne e trivial (un.frzs b ob v q) λz=>z)];exact un.frzs b ob v q
 tbls:=λb ps q=>by let⟨more,r⟩:=un.tbls b ps q;exact{more,by rw[L2.aq (ez.ne e trivial r λz=>z)];exact r}
def Un.give {h2:Am}(un0:Un fs ex H0 H h0 h)(e0:H a=some (.dK es))(un:Un fs ex H0 H2 h0 h2)(e:H2 a=some (oU o es)):Un fs ex H0 (upd H2 a (.dK es)) h0 h2 where
 keep:=un.keep
 slot:=un.slot
 free:=λb ob q n hx=>by have z:=un.free b ob q n hx;rw[L2.aq (λy=>by rw[y,e] at z;cases z)];exact z
 there:=un.there
 tups:=λb xs q=>by rw[L2.aq (ez.ne e0 trivial (un0.tups b xs q) λz=>z)];exact un.tups b xs q
 frzs:=λb ob v q=>by rw[L2.aq (ez.ne e0 trivial (un0.frzs b ob v q) λz=>z)];exact un.frzs b ob v q
 tbls:=λb ps q=>by let⟨more,r⟩:=un0.tbls b ps q;have hb:=ez.ne e0 trivial r λz=>z;let⟨more,r⟩:=un.tbls b ps q;exact{more,by rw[L2.aq hb];exact r}
def az.hold {s:AP}(I:az X AB Y H s)(e:H a=some (.dK es)):∃o,az X AB Y (upd H a (oU o es)) s:=by
 let⟨o,ok⟩:=f7.hold I.hok e;have nn:∀b,H b=none->upd H a (oU o es) b=none:=λb z=>by rw[L2.aq (λy=>by rw[y,e] at z;cases z)];exact z
 refine{o,I.ok,I.os,I.bare,Un.hold I.base e,I.loc,I.cell,nn _ I.free,λx c q=>nn _ (I.freeC x c q),λp hp=>?_,ok,I.len};let⟨q1,q2,q3⟩:=I.pin p hp;exact{q1,nn _ q2,q3}
def az.give {Y Y2:L2.St}{s s2:AP}(I0:az X AB Y H s)(e0:H a=some (.dK es))(I:az X AB Y2 H2 s2)(e:H2 a=some (oU o es)):az X AB Y2 (upd H2 a (.dK es)) s2:=by
 have nn:∀b,H2 b=none->upd H2 a (.dK es) b=none:=λb z=>by rw[L2.aq (λy=>by rw[y,e] at z;cases z)];exact z
 refine{I.ok,I.os,I.bare,Un.give I0.base e0 I.base e,I.loc,I.cell,nn _ I.free,λx c q=>nn _ (I.freeC x c q),λp hp=>?_,f7.give I.hok e,I.len};let⟨q1,q2,q3⟩:=I.pin p hp;exact{q1,nn _ q2,q3}
end
def Hz (t:TE):TE:=λY H Q=>∃a es,H a=some (.dK es)/\∀o,t Y (upd H a (oU o es)) (λv H2=>H2 a=some (oU o es)/\Q v (upd H2 a (.dK es)))
def JEw {t:TE}(h:PE X e t):PE X e (Hz t):=λAB s Y H Q I q=>by let⟨a,es,e0,q⟩:=q;let⟨o,I1⟩:=az.hold I e0;refine cP (h AB s Y _ _ I1 (q o)) λv s1 hh=>?_;let⟨x,H2,I2,r,e2,q2⟩:=hh;exact{x,_,az.give I e0 I2 e2,r,q2}
structure Tw (H H':Hp):Prop where
 tup:∀a xs,H a=some (.tup xs)->H' a=some (.tup xs)
 frz:∀a o u,(∀o' u',u≠.frz o' u')->H a=some (.frz o u)->H' a=some (.frz o u)
section
variable {K:Ax}{H H':Hp}
def Tw.sqT {a vs}(t:Tw H H')(h:gY K H a vs):gY K H' a vs:=by
 rcases h with(h|⟨o,h⟩)|h
 ·exact .inl (.inl (t.tup _ _ h))
 ·exact .inl (.inr {o,t.frz _ _ _ ∅ h})
 ·exact .inr h
def Tw.fat {a vs}(t:Tw H H')(h:GQ K H a vs):GQ K H' a vs:=by
 rcases h with⟨o,h⟩|h
 ·exact .inl {o,t.frz _ _ _ ∅ h}
 ·exact .inr h
mutual
theorem Tw.rel (t:Tw H H'):∀(d:D) (v:V),ak K H d v->ak K H' d v
 |.non,_,h=>by simpa only[ak] using h
 |.bl _,_,h=>by simpa only[ak] using h
 |.int _,_,h=>by simpa only[ak] using h
 |.str _,_,h=>by simpa only[ak] using h
 |.tup xs,v,h=>by rwa[ak] at h ⊢;let⟨a,vs,e,s,r⟩:=h;exact{a,vs,e,t.sqT s,Tw.rels t xs vs r}
 |.fl xs,v,h=>by rwa[ak] at h ⊢;let⟨a,vs,e,s,r⟩:=h;exact{a,vs,e,t.fat s,Tw.rels t xs vs r}
 |.fd ks ds,v,h=>by rwa[ak] at h ⊢;let⟨a,o,es,e,s,k,r⟩:=h;exact{a,o,es,e,t.frz _ _ _ ∅ s,k,Tw.rels t ds _ r}
 |.key ks,v,h=>by rwa[ak] at h ⊢;let⟨a,e,q⟩:=h;exact{a,e,t.tup _ _ q}
theorem Tw.rels (t:Tw H H'):∀(ds:R4 D) (vs:R4 V),RelDs K H ds vs->RelDs K H' ds vs
 |[],_,h=>by simpa only[RelDs] using h
 |d::ds,vs,h=>by rwa[RelDs] at h ⊢;let⟨v,r,e,h1,h2⟩:=h;exact{v,r,e,Tw.rel t d v h1,Tw.rels t ds r h2}
end
def Tw.lam {L ds a cl pm E2 c'}(t:Tw H H')(h:AE K H L ds a cl pm E2 c'):AE K H' L ds a cl pm E2 c':=by
 have f:∀{a o},H a=some (.frz o (.ext λ_=>True))->H' a=some (.frz o (.ext λ_=>True)):=λ{a o} q=>t.frz _ _ _ ∅ q;refine{f h.fn,?_,h.len,λy c e=>?_,λi y d e1 e2=>?_,h.sc}
 ·let⟨oc,vs,u,e,r⟩:=h.code;exact{oc,vs,u,f e,r}
 ·let⟨z,o,q,r⟩:=h.cell y c e;exact{z,o,f q,r}
 ·let⟨c,o,u,vy,k1,k2,k3,k4,k5,k6⟩:=h.cap i y d e1 e2;exact{c,o,u,vy,k1,k2,f k3,k4,k5,Tw.rel t _ _ k6}
theorem Tw.relR (t:Tw H H'){d:R}{v:V}(h:av K m H d v):av K m H' d v:=by
 cases d with
 |v d=>exact Tw.rel t d v h
 |p n=>exact h
 |s b xs=>
  let⟨a,o,e,q,r⟩:=h;exact{a,o,e,t.frz _ _ _ ∅ q,r}
 |x c=>
  let⟨a,vs,C,e,q,r⟩:=h;exact{a,vs,C,e,t.frz _ _ _ ∅ q,r}
 |f L ds=>
  let⟨a,cl,pm,E2,c',e,q⟩:=h;exact{a,cl,pm,E2,c',e,t.lam q}
theorem Tw.relRs (t:Tw H H'):∀{ds:R4 R} {vs:R4 V},aL K m H ds vs->aL K m H' ds vs
 |[],_,h=>h
 |_::_,_,⟨v,r,e,h1,h2⟩=>{v,r,e,t.relR h1,Tw.relRs t h2}
def xU {a:Aa}{o:BO}{es:R4 (aE×V)}{u:HO}(e:H a=some (oU o es)):Tw H (upd H a u):=by
 refine{λb xs q=>?_,λb ob v n q=>?_}
 ·rw[L2.aq (λz=>by rw[z,e] at q;cases q)];exact q
 ·rw[L2.aq (λz=>by rw[z,e] at q;cases q;exact n _ _ rfl)];exact q
def aG.give {U:ac}{n:Nat}{a:Aa}{o:BO}{es:R4 (aE×V)}{Ab:R4 (aE×D)}(h:aG K m H U)(hn:m[n]?=some a)(hc:U[n]?=some (.hk Ab))(e:H a=some (oU o es)):aG K m (upd H a (.dK es)) (U.set n (.dct Ab)):=by
 have t:Tw H (upd H a (.dK es)):=xU e;have BD:=(CA.mp hc).1;refine{h.nd,by simp[h.len],λi c' b e1 e2=>?_};by_cases hi:i=n
 ·subst hi;rw[hn] at e2;cases e2;rw[E9 BD] at e1;cases e1;let⟨o',BZ,q,k,r⟩:=h.cell _ _ _ hc hn;rw[e] at q;cases q;exact{es,L2.aN,k,t.rels _ _ r}
 ·rw[C7 (Ne.symm hi)] at e1;have nb:b≠a:=by rintro rfl;let⟨h1,q1⟩:=CA.mp e2;let⟨h2,q2⟩:=CA.mp hn;exact hi ((IT h.nd).mp (q1.trans q2.symm))
  have at':∀u,H b=some u->upd H a (.dK es) b=some u:=λu q=>by rw[L2.aq nb];exact q
  have z:=h.cell i c' b e1 e2
  cases c' with
  |lst xs=>let⟨vs,e,r⟩:=z;exact{vs,at' _ e,t.rels _ _ r}
  |fz xs=>let⟨o,vs,e,r⟩:=z;exact{o,vs,at' _ e,t.rels _ _ r}
  |dct Ab=>let⟨es,e,k,r⟩:=z;exact{es,at' _ e,k,t.rels _ _ r}
  |fzd Ab=>let⟨o,es,e,k,r⟩:=z;exact{o,es,at' _ e,k,t.rels _ _ r}
  |fzt Ab=>let⟨o,es,e,k,r⟩:=z;exact{o,es,at' _ e,k,t.rels _ _ r}
  |hk Ab=>let⟨o,es,e,k,r⟩:=z;exact{o,es,at' _ e,k,t.rels _ _ r}
  |dr Ab=>let⟨es,e,k,r⟩:=z;exact{es,at' _ e,k,t.relRs r}
  |lr xs=>let⟨vs,e,r⟩:=z;exact{vs,at' _ e,t.relRs r}
  |dt Ab=>let⟨es,e,k,r⟩:=z;exact{es,at' _ e,k,t.rels _ _ r}
  |tb P q=>
   let⟨e,ps,k,r⟩:=z;subst e;exact{rfl,ps,at' _ k,r.1,λpos cv q=>let ⟨c',oc,vs,t',e1,e2,r'⟩:=r.2 pos cv q;{c',oc,vs,t',e1,t.frz _ _ _ ∅ e2,r'}}
  |ob c fs=>let⟨C,dx,es,n,e,k,r⟩:=z;exact{C,dx,es,n,at' _ e,k,t.relRs r}
  |tr xs=>let⟨vs,e,r⟩:=z;exact{vs,at' _ e,t.relRs r}
  |fzr Ab=>let⟨o,es,e,k,r⟩:=z;exact{o,es,at' _ e,k,t.relRs r}
  |dtr Ab=>let⟨es,e,k,r⟩:=z;exact{es,at' _ e,k,t.relRs r}
end
noncomputable def sk (fo f:FE):FE:=λO U=>match fo O U with
 |some (.p n,_)=>match U[n]? with
  |some (.dct Ab)=>(f O (U.set n (.hk Ab))).bind λr=>match r.2[n]? with
   |some (.hk kvs')=>some (r.1,r.2.set n (.dct kvs'))
   |_=>none
  |_=>none
 |_=>none
end HW
namespace L2
open PyProof.Rows HK HW
def tJ {H:Hp}{h:Am}{a:Aa}{o:BO}{es:R4 (aE×V)}(ok:f7 P w H h)(e:H a=some (oU o es)) :
  (a == sysModules)=false/\DE h a (lp o) (vT o)/\(lp o).size=es.length/\∀(i:Nat) kv,es[i]?=some kv->∃ku u,aP (kV kv.1) ku/\aP kv.2 u/\∃en,(lp o)[i]?=some en/\en.key=ku/\en.val=u:=by
 let⟨q1,_,_,q3,xs,q4,o',BZ,ep,r1,r2,r3,r4,r5,r6⟩:=(show be P w H h a (oU o es) from ok a _ e);have z:=q1.symm.trans r1;cases z
 have e1:lp o=BZ:=by unfold lp;rw[r3]
 have e2:vT o=ep:=by unfold vT;rw[r3]
 rw[e1,e2]
 have len:BZ.size=es.length:=by rw[←Ec,r5.length,←Paired.length q4]
 refine{q3,{o,r1,r2,r3},len,λi kv hi=>?_}
 have key:∀{es:R4 (aE×V)} {xs:R4 (aE×AU)} {ds:R4 DictEntry} {i:Nat} {kv},KV es xs->Pairs (bi P w) ds xs->es[i]?=some kv->∃en,ds[i]?=some en/\aP (kV kv.1) en.key/\aP kv.2 en.val:=by
  intro es xs ds i kv p
  induction p generalizing i ds with
  |nil=>intro _ z;simp at z
  |cons r t ih=>
   intro pr z
   cases pr with
   |cons h1 h2 h3=>
    cases i with
    |zero=>
     rwa[List.getElem?_cons_zero,Option.some.injEq] at z;subst z;refine{_,rfl,?_,by rw[h2];exact r.2};rw[r.1];exact JA1 h1
    |succ i=>let⟨en,g1,g2⟩:=ih h3 ‹z›;exact{en,by simpa using g1,g2}
 let⟨en,g1,g2,g3⟩:=key q4 r5 hi;exact{en.key,en.val,g2,g3,en,by rw[←Fm];exact g1,rfl,rfl}
def Rh (a:Aa)(o:BO)(es:R4 (aE×V)):It :=
 {λi H=>H a=some (oU o es)/\i<es.length,λi H v H'=>∃T kv,es[i]?=some kv/\v=.ref T/\H T=none/\H'=upd H T (.tup [kV kv.1,kv.2]),λi H=>H a=some (oU o es)/\es.length<=i}
def ux {K:Ax}{elts:Tj}{x1}(a it:Aa)(o:BO)(es:R4 (aE×V)):xM P w K (.Tuple elts x1 pos) (Rh a o es) [it] it (λi h=>i<=(lp o).size/\∃ok ov,IsItemIter h it a i (lp o).size (vT o) ok ov) where
 mem:=by simp
 obj:=λi h st b hb=>by
  have e:b=it:=by simpa using hb
  subst e;let⟨_,ok,ov,q⟩:=st;exact{_,q,λv z=>by
   have z':Data.fields _=Data.cell v:=z
   cases z'}
 keep:=λi h h' st k=>by let⟨z,ok,ov,q⟩:=st;exact{z,ok,ov,k it ∅ _ q}
 item:=by
  intro X hP hw hK hc i AB s Y H E I hf st hg;subst hP hw hK;obtain⟨hq,hi⟩:=hg;obtain⟨_,ok,ov,st⟩:=st;obtain⟨hd,de,hsz,at_⟩:=tJ I.hok hq;have hx:es[i]?=some es[i]:=C0 hi;obtain⟨ku,u,rk,ru,en,g1,g2,g3⟩:=at_ i _ hx;have ilt:it<s.heap.objs.size:=BQ st;have nT:H s.heap.objs.size=none:=I.hok.fresh (BL _);refine Ib st de g1 λh1 o1 hT hsz1 kk=>{_,rfl,zcK o1 λh2 he2 sb=>?_};rw[g2,g3] at hT;have tup:be X.prog X.w (upd H s.heap.objs.size (.tup [kV es[i].1,es[i].2])) (s.heap.push {cls:=.type "tuple",data:=.seq #[ku,u]}) s.heap.objs.size (.tup [kV es[i].1,es[i].2]) :=
   {(by decide:2<=sizeLine),[ku,u],.cons rk (.cons ru .nil),jC.new _ _}
  have I1:=I.laid (t':=s.toks) (λb o q=>BK _ q) (BL _) tup;have hT2:h2.get? s.heap.objs.size=some {cls:=.type "tuple",data:=.seq #[ku,u]}:=(sb.2 _ (DR ilt)).trans hT;have I2:az X AB Y (upd H s.heap.objs.size (.tup [kV es[i].1,es[i].2])) {s with heap:=h2,toks:=s.toks}:=by
   refine az.turnedL (s:={s with heap:=s.heap.push {cls:=.type "tuple",data:=.seq #[ku,u]}}) (its:=[it]) I1 (λc o hc q=>?_) λc hc=>?_
   ·have Jo:c≠it:=λz=>hc (by simp[z]);by_cases ET:c=s.heap.objs.size
    ·subst ET;have q:(s.heap.push {cls:=.type "tuple",data:=.seq #[ku,u]}).get? s.heap.objs.size=some o:=q;rw[Bd _ rfl] at q;cases q;exact hT2
    ·have q:(s.heap.push {cls:=.type "tuple",data:=.seq #[ku,u]}).get? c=some o:=q;have BD:c<s.heap.objs.size:=by have h0:=BQ q;rw[E8] at h0;exact Nat.lt_of_le_of_ne (Nat.le_of_lt_succ h0) ET
     have q0:s.heap.get? c=some o:=(by rw[←q];exact(yx BD).symm);exact(sb.2 c Jo).trans (kk c o Jo q0)
   ·let⟨f0,f1,f2,f3,f4,f5⟩:=hf c hc;have ET:c≠s.heap.objs.size:=by have z:c=it:=‹hc›;rw[z];exact BX ilt
    exact{by rw[aq ET];exact f0,f1,f3,f4,f5}
  refine{.ref s.heap.objs.size,_,I2,rfl,{_,_,hx,rfl,nT,rfl},{by rw[hsz];exact hi,_,_,he2},λc hc=>?_};have ET:c≠s.heap.objs.size:=by have z:c=it:=‹hc›;rw[z];exact BX ilt
  rw[aq ET];exact(hf c hc).1
 done:=by
  intro X hP hw hK hc i AB s Y H E I hf st hg;subst hP hw hK;let⟨hq,hi⟩:=hg;let⟨z,ok,ov,st⟩:=st;let⟨hd,de,hsz,_⟩:=tJ I.hok hq;let⟨f0,f1,f2,f3,f4,f5⟩:=hf it ∅;have EG:i=(lp o).size:=by omega
  rw[EG] at st;exact Ig (I.ok.hd hc) st de λh' eb=>{rfl,I.turned (t':=s.toks) (λb o hb e=>eb b o hb e) f0 f1 f3 f4 f5}
 self:=λ_ _ _ _ _ st h=>by let⟨_,ok,ov,st⟩:=st;exact Ik st h
def JEn {H:Hp}{s:AP}{a:Aa}{o:BO}{es:R4 (aE×V)}(I:az X AB Y H s)(e:H a=some (oU o es)):s.TypeIs (.ref a) "dict"/\(∀b,Value.ref a=.ref b->∃ob,s.heap.get? b=some ob/\ob.dict=none)/\(a == sysModules)=false:=by obtain⟨hd,⟨ob,g,x,dt⟩,_⟩:=tJ I.hok e;exact{{ob,g,x.1},λb z=>by cases z;exact{ob,g,x.2.1},hd}
def yR (tl:TE):TI:=λY H R=>tl Y H λx H1=>∃a o es,x=.ref a/\H1 a=some (oU o es)/\R (Rh a o es) H1
def zN {X:Cx}{elts:Tj}{x1}{pt apos BA:Pos}{o:As}{tl:TE}(hl:PE X o tl)(BU:attributeBase o "items" X.env (eval o X.env)=eval o X.env)(BS:(apos.endLine == BA.line)=true) :
  PI X (.Tuple elts x1 pt) (.Call (.Attribute o "items" apos) [] [] BA) (yR tl):=by
 intro AB s Y H R I h;refine zcp BU rfl BS PySem.F.plainAttrs_dict PySem.F.slot_dict_items PySem.F.type_dict_items (cP (hl AB s Y H _ I h) λu s1 hh=>?_);obtain⟨x,H1,I1,rx,a,o,es,ex,hq,q⟩:=hh;subst ex;obtain rfl:u=Value.ref a:=rx;obtain⟨t1,t2,_⟩:=JEn I1 hq;refine{t1,t2,Calls.callWith_builtin rfl (PySem.evalArgs_none ?_)};obtain⟨hd,de,hsz,at_⟩:=tJ I1.hok hq;refine Dc hd de ?_;refine Il (v:=s1.heap.objs.size) (d:=a) {_,Bd _ rfl,rfl,rfl} (de.at λob g=>BK _ g) ?_;have I2:az X AB Y H1 {s1 with heap:=s1.heap.push {cls:=.type "dict_items",data:=.fields #[.ref a]}}:=I1.kept (t':=s1.toks) λb o e=>BK _ e;refine{_,[_],_,_,H1,rfl,I2.kept (t':=s1.toks) λb o e=>BK _ e,ux a _ o es,{Cr _,_,_,Bd _ rfl},λb hb=>?_,q};have e:=CP.mp hb;rw[e];exact I2.fpOk (BL _) (I2.hok.fresh (BL _))
end L2
namespace HW
variable {K:Ax}
open PyProof.Rows L2
section
variable {K:Ax}{Y:L2.St}{H:Hp}{Q:VK}
def JA7 {ix:R4 Nat}{k:Nat}{own:Tn}{fi:FI}{g:FG}{c:FT}{f:FE}(hk:own.length=k)(h:ax K (dE ix k fi g c f) Y H Q):rH ix own (qV K fi) (nP K g) (eN K c) (ax K f) Y H Q:=by
 let⟨O,U,m,d,U',hl,hs,e,kk⟩:=h;let⟨⟨xs,U1⟩,e1,e⟩:=Az.mp e;split at e
 ·rename_i hz;let⟨⟨r,Ur⟩,e2,e⟩:=Az.mp e;cases e;refine{O,U,m,xs,U1,hl,hs,e1,λJ P H1 m1 x1 s1 ok p1=>?_};refine{λi n ys τ H=>n=xs.length-i/\i<=xs.length/\ys.length<=i/\P H/\∃O U m ds r',dJ K m H O τ/\aG K m H U/\RelDs K H ds ys/\cG g c f (xs.drop i) O U=some (r',Ur)/\r=ds++r' /\
   ∀v H' m',cV m H m' H'->aG K m' H' (Ur++[.lst r])->av K m' H' (.p Ur.length) v->Q v H',
   {_,rfl,Cr _,BL _,p1,_,U1,m1,[],r,nH hk (hl.ext x1),s1,by rwa[RelDs],by simpa using e2,rfl,λv H' m' x2 s2 r2=>kk v H' m' (x1.trans x2) s2 r2},?_}
  rintro i n ys τ H ⟨rfl,hi,hy,p,O,U,m,ds,r',hl,hs,rs,e,er,kk⟩;by_cases BD:i<xs.length
  ·have hx:xs[i]?=some xs[i]:=C0 BD;rw[GC BD,cG] at e;let⟨⟨O1,U2⟩,q1,e⟩:=Az.mp e;let⟨⟨b,U3⟩,q2,e⟩:=Az.mp e;refine .inr {ok.go i _ H hx p,zch hy (CC BD hz),λx H' y=>?_};let⟨xe,rx⟩:=ok.yld i _ H x H' hx p y;have x0:cV m H m H':=kA xe;refine{O,U,m,.v xs[i],O1,U2,dJ.ext x0 hl,hs.same xe,rx,q1,λY1 H1 m1 x1 s1 l1=>?_};have x1:=x0.trans x1;refine{O1,U2,m1,b,U3,l1,s1,q2,λH2 m2 x2 s2=>?_}
   cases b with
   |true=>
    rwa[if_true] at e ⊢;let⟨⟨y',U4⟩,q3,e⟩:=Az.mp e;refine{O1,U3,m2,y',U4,l1.ext x2,s2,q3,λw H3 m3 x3 s3 r3=>?_}
    cases y' with
    |p _=>cases e
    |s _ _=>cases e
    |x _=>cases e
    |f _ _=>cases e
    |v d1=>
     let⟨⟨r1,U5⟩,q4,e⟩:=Az.mp e;cases e;have x4:=(x1.trans x2).trans x3;refine{_,(by omega:xs.length-(i+1)<xs.length-i),rfl,BD,by rw[Ci];exact zcR hy,ok.st _ _ x4.tf p,O1,U4,m3,ds++[d1],r1,l1.ext (x2.trans x3),s3,
      (RelDs.tf x4.tf _ _ rs).append (by rwa[RelDs];exact{w,[],rfl,r3,rfl}),q4,by rw[er,Bx];rfl,λv H' m' x5 s5 r5=>kk v H' m' (x4.trans x5) s5 r5}
   |false=>
    rwa[C4,if_false] at e ⊢;have x4:=x1.trans x2;exact{_,(by omega:xs.length-(i+1)<xs.length-i),rfl,BD,Nat.le_succ_of_le hy,ok.st _ _ x4.tf p,O1,U3,m2,ds,r',l1.ext x2,s2,RelDs.tf x4.tf _ _ rs,e,er,λv H' m' x5 s5 r5=>kk v H' m' (x4.trans x5) s5 r5}
  ·have:i=xs.length:=by omega
   subst this;rw[zcv,cG] at e;cases e;refine .inl {ok.stop _ H p (BL _),λp hp=>?_};let⟨a1,a2,a3⟩:=hU hs rs hp;rw[DL] at er;subst er;exact kk _ _ _ a1 a2 a3
 ·cases e
def yo {ix:R4 Nat}{k:Nat}{own:Tn}{fi:FI}{g:FG}{c:FT}{f:FE}(hk:own.length=k)(h:ax K (dE ix k fi g c f) Y H Q):rH ix own (BW K fi) (nP K g) (eN K c) (ax K f) Y H Q :=
 let ⟨O,U,m,xs,U',hl,hs,e,k⟩:=JA7 hk h
 {O,U,m,xs,U',hl,hs,e,λJ P H' m' x s ok p=>k J P H' m' x s {ok.st,ok.stop,ok.go,λi d H x H' e p y=>by let⟨rfl,r⟩:=ok.yld i d H x H' e p y;exact{λ_ _ z=>z,r}} p}
end
noncomputable def ql (f:FE):FI:=λO U=>(f O U).bind λa=>match a.1 with
 |.p n=>match a.2[n]? with
  |some (.hk Ab)=>some (Ab.map λp=>.tup [HW.kD p.1,p.2],a.2)
  |_=>none
 |_=>none
def JDw {H:Hp}{Q:VK}{fo f:FE}(h:ax K (sk fo f) Y H Q):Hz (ax K f) Y H Q:=by
 let⟨O,U,m,d,U',hl,hs,e,k⟩:=h;unfold sk at e;split at e
 ·rename_i n _ hn;split at e
  ·rename_i Ab q;let⟨⟨r,U2⟩,e2,e⟩:=Az.mp e;dsimp only at e;split at e
   ·rename_i kvs' q2
    cases e;obtain⟨a,ha⟩:∃a,m[n]?=some a:={_,C0 (by have:=(CA.mp q).1;have:=hs.len;omega)};let⟨es,ea,ke,rr⟩:=hs.cell n _ a q ha;refine{a,es,ea,λo=>?_};have x:cV m H m (upd H a (oU o es)):=.put (Cp ha) ea ∅ ∅;refine{O,_,m,_,U2,hl.ext x,hs.put ha ea ∅ ∅ (c:=.hk Ab) {o,es,br,ke,RelDs.tf x.tf _ _ rr},e2,λv H2 m2 x2 s2 r2=>?_};have e3:H2 a=some (oU o es):=x2.tf.frz _ _ _ br;let⟨ex,rfl,fr⟩:=x2.ext;have ha2:(m++ex)[n]?=some a:=(by rw[Bu (CA.mp ha).1];exact ha);refine{e3,k v _ (m++ex) ?_ (aG.give s2 ha2 q2 e3) ((xU e3).relR r2)};have nn:∀b,b≠a->upd H a (oU o es) b=H b:=λb hb=>L2.aq hb;refine{{ex,rfl,λb hb=>?_},{λb xs z=>?_,λb ob u z=>?_},λb ob z hb=>?_,λb z=>?_}
    ·have:=fr b hb;by_cases E1:b=a
     ·subst E1;rw[br] at this;cases this
     ·rw[nn b E1] at this;exact this
    ·have E1:b≠a:=λy=>by rw[y,ea] at z;cases z
     rw[L2.aq E1];exact x2.tf.tup _ _ (by rw[nn b E1];exact z)
    ·have E1:b≠a:=λy=>by rw[y,ea] at z;cases z
     rw[L2.aq E1];exact x2.tf.frz _ _ _ (by rw[nn b E1];exact z)
    ·have E1:b≠a:=λy=>hb (y ▸ Cp ha);rw[L2.aq E1];exact x2.keep _ _ (by rw[nn b E1];exact z) hb
    ·by_cases E1:b=a
     ·subst E1;rw[br] at z;cases z
     ·rw[L2.aq E1] at z;have:=x2.live b z;rw[nn b E1] at this;exact this
   ·cases e
  ·cases e
 ·cases e
def K1 {a:Aa}{o:BO}{es:R4 (aE×V)}{Ab:R4 (aE×D)}:Eh K (Rh a o es) (Ab.map λp=>.tup [HW.kD p.1,p.2]) (λH=>H a=some (oU o es)/\KD K H Ab es) where
 st:=λH H' t p=>{t.frz _ _ _ p.1,p.2.1,RelDs.tf t _ _ p.2.2}
 stop:=λi H p hi=>{p.1,by have:=Av List.length p.2.1;simp at this hi;omega}
 go:=λi d H e p=>{p.1,by
  have h1:=(CA.mp e).1;have:=Av List.length p.2.1;simp at this h1;omega}
 yld:=λi d H x H' e p y=>by
  let⟨T,kv,e1,e2,e3,e5⟩:=y;rw[By] at e;let⟨q,hq,hd⟩:=DN.mp e;have hk:kv.1=q.1:=by
   have:=Av (λl=>l[i]?) p.2.1;rwa[By,e1,hq,EY] at this
   exact Option.some.inj this
  have hv:ak K H q.2 kv.2:=by let⟨v,z1,z2⟩:=RelDs.get p.2.2 (i:=i) (d:=q.2) (by rw[By,hq];rfl);rw[By,e1] at z1;cases z1;exact z2
  subst e2 e5 hd;refine{jZ e3,?_};rwa[ak];refine{T,[kV kv.1,kv.2],rfl,gY.of aN,?_};rwa[RelDs];exact{_,_,rfl,by rw[hk];exact KS q.1,_,_,rfl,ak.tf (kA (m:=[]) (jZ e3)).tf _ _ hv,rfl}
def JDv {H:Hp}{R:It->Hp->Prop}{f}(h:qV K (ql f) Y H R):yR (ax K f) Y H R:=by
 let⟨O,U,m,xs,U',hl,hs,e,k⟩:=h;let⟨⟨x,U1⟩,e1,e⟩:=Az.mp e;refine{O,U,m,x,U1,hl,hs,e1,λv H1 m1 x1 s1 r1=>?_};dsimp only at e;split at e
 ·rename_i n;split at e
  ·rename_i Ab q
   cases e;let⟨a,rfl,ha⟩:=r1;let⟨o,es,ea,ke,rr⟩:=s1.cell n _ a q ha;exact{a,o,es,rfl,ea,k _ _ _ m1 x1 s1 K1 {ea,ke,rr}}
  ·cases e
 ·cases e
noncomputable def Lx:R4 (aE×D)->R4 (aE×D)->Ad
 |[],[]=>true
 |p::r,q::t=>decide (p.1=q.1)&&(cR 60 (cu p.2)&&cR 60 (cu q.2))&&iD (cu p.2) (cu q.2)&&Lx r t
 |_,_=>false
theorem hits {X:Cx}{H:Hp}{s:AP}(I:az X AB Y H s){A:Ar}(hu:A.in1.units+64<cLine){kb:R4 (aE×AU)}:∀{as bs:R4 (aE×D)} {es fs:R4 (aE×V)} {va vb:R4 (aE×AU)},Lx as bs=true->KD X.K H as es->KD X.K H bs fs->KV es va->KV fs vb ->
  (∀p∈vb,valueAt kb p.1=some p.2)->va.length=vb.length/\PySem.W.KeqHits A.in1 s kb va true:=by
 intro as
 induction as with
 |nil=>
  intro bs es fs va vb e k1 k2 r1 r2 hv
  cases bs with
  |cons _ _=>cases e
  |nil=>
   let⟨q1,_⟩:=k1;let⟨q2,_⟩:=k2
   cases es with
   |cons _ _=>cases q1
   |nil=>
    cases fs with
    |cons _ _=>cases q2
    |nil=>cases r1;cases r2;exact{rfl,.nil}
 |cons p r ih=>
  intro bs es fs va vb e k1 k2 r1 r2 hv
  cases bs with
  |nil=>cases e
  |cons q t=>
   rwa[Lx,EM,decide_eq_true_eq] at e;let⟨⟨⟨e1,e2,e3⟩,e4⟩,e5⟩:=e
   cases es with
   |nil=>exact Au k1.1 ∅
   |cons pe es=>
    cases fs with
    |nil=>exact Au k2.1 ∅
    |cons qf fs=>
     let⟨x1,x2,x3⟩:=KD.cons.mp k1;let⟨y1,y2,y3⟩:=KD.cons.mp k2
     cases r1 with
     |cons ra r1=>
      cases r2 with
      |cons rb r2=>
       rename_i b1 t1 b2 t2
       let⟨l,hh⟩:=ih e5 x3 y3 r1 r2 λp hp=>hv p (Br _ hp);let⟨as',q1⟩:=mo I 60 _ _ _ e2 (ak.unk _ _ x2) ra.2;let⟨bs',q2⟩:=mo I 60 _ _ _ e3 (ak.unk _ _ y2) rb.2;have ea:=PySem.W.keq_at (A:=A) q1 q2 (d9 e2) (d9 e3) hu;rw[nE,e4] at ea;refine{Av (· + 1) l,?_};have h0:=hv _ (Be ..);have:=PySem.W.KeqHits.hit (A:=A.in1) (s:=s) (kb:=kb) (k:=b1.1) (v:=b1.2) (by rw[←ra.1,x1,e1,←y1,rb.1];exact h0) ea hh;simpa using this
end HW
namespace L2
open PyProof.Rows
end L2
namespace HW
open PyProof.Rows L2
noncomputable def kC (g:FG)(f1 f2:FE):R4 D->Lo->ac->AA (R4 (Str×Nat)×ac)
 |[],O,U=>some ([],U)
 |x::xs,O,U=>(g (.v x) O U).bind λa=>(f1 a.1 a.2).bind λy=>match y.1 with
   |.v (.str t)=>(f2 a.1 y.2).bind λz=>(match z.1 with
    |.p n=>(kC g f1 f2 xs a.1 z.2).bind λr=>some ((t,n)::r.1,r.2)
    |_=>none)
   |_=>none
noncomputable def eQ (l:R4 (Str×Nat)):R4 (aE×R):=l.map λp=>(.inr (some p.1),.p p.2)
noncomputable def Lg (ix:R4 Nat)(k:Nat)(fi:FI)(g:FG)(f1 f2:FE):FE:=λO U=>(fi O U).bind λa=>if a.1.length<=1000 then (kC g f1 f2 a.1 (bT k ix O) a.2).bind λr=>
 if (r.1.map (·.1)).Nodup then some (.p r.2.length,r.2++[.dr (eQ r.1)]) else none else none
section
variable {K:Ax}{Y:L2.St}{H:Hp}{Q:VK}
def M8 {ix:R4 Nat}{k:Nat}{own:Tn}{fi:FI}{g:FG}{f1 f2:FE}(hk:own.length=k)(h:ax K (Lg ix k fi g f1 f2) Y H Q) :
  ML (yr K) (nN (rH ix own (qV K fi) (nP K g) (eN K dP) (Jb (nN (ax K f1) (nN (ax K f2) wJ)))) wJ) Y H Q:=by
 let⟨O,U,m,d,U',hl,hs,e,kk⟩:=h;let⟨⟨xs,U1⟩,e1,e⟩:=Az.mp e;split at e
 ·rename_i hz
  let⟨⟨r,Ur⟩,e2,e⟩:=Az.mp e;split at e
  ·rename_i Gv
   cases e;refine{O,U,m,xs,U1,hl,hs,e1,λJ P H1 m1 x1 s1 ok p1=>?_}
   refine{λi n ys τ H=>n=xs.length-i/\i<=xs.length/\ys.length<=i/\P H/\∃O U m qs r' es,dJ K m H O τ/\aG K m H U/\d5 K H ys es/\KR K m H (eQ qs) es/\kC g f1 f2 (xs.drop i) O U=some (r',Ur)/\r=qs++r' /\
    ∀v H' m',cV m H m' H'->aG K m' H' (Ur++[.dr (eQ r)])->av K m' H' (.p Ur.length) v->Q v H',
    {_,rfl,Cr _,BL _,p1,_,U1,m1,[],r,[],nH hk (hl.ext x1),s1,.nil,.nil,by simpa using e2,rfl,λv H' m' x2 s2 r2=>kk v H' m' (x1.trans x2) s2 r2},?_}
   rintro i n ys τ H ⟨rfl,hi,hy,p,O,U,m,qs,r',es,hl,hs,rs,kr,e,er,kk⟩
   by_cases BD:i<xs.length
   ·have hx:xs[i]?=some xs[i]:=C0 BD
    rw[GC BD,kC] at e;let⟨⟨O1,U2⟩,q1,e⟩:=Az.mp e;refine .inr {ok.go i _ H hx p,zch hy (CC BD (Dk hz (by rw[D9];omega))),λx H' y=>?_};let⟨xe,rx⟩:=ok.yld i _ H x H' hx p y;have x0:cV m H m H':=kA xe;refine{O,U,m,.v xs[i],O1,U2,dJ.ext x0 hl,hs.same xe,rx,q1,λY1 H1 m1 x1 s1 l1=>?_};have x1:=x0.trans x1;refine{O1,U2,m1,true,U2,l1,s1,rfl,λH2 m2 x2 s2=>?_};rwa[if_true];let⟨⟨y',U4⟩,q3,e⟩:=Az.mp e;refine{O1,U2,m2,y',U4,l1.ext x2,s2,q3,λw H3 m3 x3 s3 r3=>?_}
    cases y' with
    |v d1=>
     cases d1 with
     |str t=>
      let⟨⟨z',U5⟩,q4,e⟩:=Az.mp e
      have r3:w=.str t:=by simpa only[av,ak] using r3
      subst r3;refine{O1,U4,m3,z',U5,l1.ext (x2.trans x3),s3,q4,λu H4 m4 x4 s4 r4=>?_}
      cases z' with
      |p nn=>
       let⟨⟨r1,U6⟩,q5,e⟩:=Az.mp e;cases e;refine{by rwa[CK,Fg];rw[D9];omega,λtt JA=>?_};have x5:=((x1.trans x2).trans x3).trans x4;have x6:cV m4 H4 m4 (upd H4 tt (.tup [.str t,u])):=.new JA;have s6:=s4.same (cx JA (o:=.tup [.str t,u]));have x7:=x5.trans x6
       refine{_,(by omega:xs.length-(i+1)<xs.length-i),rfl,BD,by rw[Ci];exact zcR hy,ok.st _ _ x7.tf p,O1,_,_,qs++[(t,nn)],r1,es++[(.inr (some t),u)],l1.ext (((x2.trans x3).trans x4).trans x6),s6,
        (d5.tf x7.tf rs).snoc {tt,rfl,.inl (.inl br)},?_,q5,by rw[er,Bx];rfl,λv H' m' x8 s8 r8=>kk v H' m' (x7.trans x8) s8 r8}
       have z:=KR.snoc (K:=K) (k:=.inr (some t)) (d:=.p nn) (v:=u) (m:=m4) (H:=upd H4 tt (.tup [.str t,u])) (r4.ext x6) (kr.ext x7);simpa[eQ] using z
      |_=>cases e
     |_=>cases e
    |_=>cases e
   ·have:i=xs.length:=by omega
    subst this;rw[zcv,kC] at e;cases e;refine .inl {ok.stop _ H p (BL _),λt ht=>?_};rw[DL] at er;subst er;have x2:cV m H m (upd H t (.lst ys)):=.new ht;refine{t,ys,es,rfl,br,d5.tf x2.tf rs,λl EE=>?_}
    have hn:mv [] es=es:=by
     have:=pL es [] (by
      rw[EH,kr.1];unfold eQ;rw[E6];have Gv:(r.map (·.1)).Nodup:=Gv
      show(r.map λp=>(Sum.inr (some p.1):aE)).Nodup
      unfold List.Nodup at Gv ⊢;rw[zbz] at Gv ⊢
      exact Gv.imp λh z=>h (Option.some.inj (Sum.inr.inj z)))
     simpa using this
    rw[hn];have s2:=hs.same (cx ht (o:=.lst ys));have x3:cV m (upd H t (.lst ys)) (m++[l]) (upd (upd H t (.lst ys)) l (.dK es)):=.newH EE;have z:=kr.ext (x2.trans x3);exact kk _ _ (m++[l]) (x2.trans x3) (s2.newH EE {es,br,z.1,z.2}) {l,rfl,by rw[←hs.len];simp}
  ·cases e
 ·cases e
end
end HW
namespace L2
open PyProof.Rows HK
theorem sC:∀{xs:R4 V} {us:Te},us.length=xs.length->(∀(i:Nat) x u,xs[i]?=some x->us[i]?=some u->aP x u)->aM xs us
 |[],[],_,_=>.nil
 |[],_::_,h,_=>by simp at h
 |_::_,[],h,_=>by simp at h
 |x::xs,u::us,h,k=>.cons (k 0 x u rfl rfl) (sC ‹h› λi x u h1 h2=>k (i+1) x u ‹h1› ‹h2›)
theorem Ii {κ:Type}:∀{Ab:R4 (κ×V)} {vs:R4 (κ×AU)},KV Ab vs->∀(i:Nat) p q,Ab[i]?=some p->vs[i]?=some q->p.1=q.1/\aP p.2 q.2:=by
 intro Ab vs h;unfold KV at h;induction h with
 |nil=>intro i p q h1;cases h1
 |cons r _ ih=>
  intro i p q h1 h2
  cases i with
  |zero=>cases h1;cases h2;exact r
  |succ i=>exact ih i p q ‹h1› ‹h2›
def K3 {k:aE}{v:AU}(h:lz k v=true):aP (kV k) v:=by
 rcases bg h with⟨i,t,rfl,rfl⟩|⟨x,t,rfl,rfl⟩|⟨rfl,rfl⟩
 ·exact{t,rfl}
 ·exact{t,rfl}
 ·rfl
def B4:R4 V->Hp->VK->Prop:=λvs H Q=>∃a es,vs=[.ref a]/\H a=some (.dK es)/\∀l,H l=none->Q (.ref l) (upd H l (.lst (es.map λe=>kV e.1)))
def xG {X:Cx}(hc:X.calm=true):g7 X (.type "list") B4:=by
 intro AB s Y H vs us Q I r h;let⟨a,es,rfl,hH,q⟩:=h;let⟨u,rfl,rx⟩:=iP r;cases rx;let⟨z,hd,vs,rel,o,BZ,ep,h1,h2,h3,h4,h5,h6⟩:=DP I.hok hH;have hlen:es.length=vs.length:=Paired.length rel;refine PySem.W.kdl_call (PySem.W.kdl_dict (knd:=bi X.prog X.w) (kvs:=vs) (ep:=ep) hd) (I.ok.hd hc) {o,BZ,h1,h2,h3,h4,h5,h6} ∅ λh' tk FX c' kp e it=>?_;have rv:aM (es.map λe=>kV e.1) FX.toList:=sC (by have:=it.1;simp;omega) λi x u e1 e2=>by rw[Fm] at e2;let⟨k,y,q1,q2⟩:=it.2 i u e2;rw[By] at e1;let⟨p,e3,rfl⟩:=DN.mp e1;rw[(Ii rel i p _ e3 q1).1];exact K3 q2
 exact{.ref s.heap.objs.size,_,I.laid (t':=tk) kp (BL _) (show be X.prog X.w _ h' _ (.lst _) from{by simpa using z,FX.toList,c',rv,by simpa using e}),rfl,q _ (I.hok.fresh (BL _))}
def Bi (td:TE):TE:=λY H Q=>td Y H λx H1=>∃a es,x=.ref a/\H1 a=some (.dK es)/\∀l,H1 l=none->Q (.ref l) (upd H1 l (.lst (es.map (·.2))))
def JCf {X:Cx}(hc:X.calm=true){o:As}{td:TE}{apos BA p pos:Pos}(hg:Gl X "list")(hm:X.mg "list" = none)(ho:PE X o td)(BU:attributeBase o "values" X.env (eval o X.env)=eval o X.env)(BS:(apos.endLine == BA.line)=true)
  (he:starEach [.Call (.Attribute o "values" apos) [] [] BA] X.env=(false,eval (.Call (.Attribute o "values" apos) [] [] BA) X.env)::starEach [] X.env):PE X (.Call (.Name "list" p) [.Call (.Attribute o "values" apos) [] [] BA] [] pos) (Bi td):=by
 intro AB s Y H Q I h;refine zbV (p9 I hg hm (by decide:bootBuiltins "list" = some (.type "list")) ?_ ∅ ∅);refine PyProof.Rows.callWith_type1 ?_ he rfl;rw[he]
 show wpAny _ _ (spliced ((false,eval (.Call (.Attribute o "values" apos) [] [] BA) X.env)::backTo pos (starEach [] X.env))) _ _ s
 refine Calls.spliced_cons (zcp BU rfl BS PySem.F.plainAttrs_dict PySem.F.slot_dict_values PySem.F.type_dict_values (cP (ho AB s Y H _ I h) λu s1 hh=>?_));obtain⟨x,H1,I1,rx,a,Ab,ex,hq,q⟩:=hh;subst ex;obtain rfl:u=Value.ref a:=rx;obtain⟨t1,t2,_⟩:=xu I1 (.inl {Ab,.inl hq});refine{t1,t2,Calls.callWith_builtin rfl (PySem.evalArgs_none ?_)};obtain⟨z,hd,vs,rel,ob,BZ,ep,h1,h2,h3,h4,h5,h6⟩:=DP I1.hok hq;have hlen:Ab.length=vs.length:=Paired.length rel;have de:DE s1.heap a BZ ep:={ob,h1,h2,h3};refine JD1 hd de ?_;refine(show wpAny _ _ (spliced []) _ _ _ from Calls.spliced_nil ?_);have I2:az X AB Y H1 {s1 with heap:=s1.heap.push {cls:=.type "dict_values",data:=.fields #[.ref a]}}:=I1.kept (t':=s1.toks) λb o e=>BK _ e;refine PySem.W.kdl_call (s:={s1 with heap:=s1.heap.push {cls:=.type "dict_values",data:=.fields #[.ref a]}}) (PySem.W.kdl_values (knd:=bi X.prog X.w) (r:=s1.heap.objs.size) (d:=a) (kvs:=vs) (ep:=ep)) (I1.ok.hd hc) {{_,Bd _ rfl,rfl,rfl},ob,BZ,BK _ h1,h2,h3,h4,h5,h6} ∅ λh' tk FX c' kp e it=>?_
 have rv:aM (Ab.map (·.2)) FX.toList:=sC (by have:=it.1;simp;omega) λi x u e1 e2=>by
  rw[Fm] at e2;let⟨k,q1⟩:=it.2 i u e2;rw[By] at e1;let⟨p,e3,rfl⟩:=DN.mp e1;exact(Ii rel i p _ e3 q1).2
 exact{.ref _,_,I2.laid (t':=tk) kp (BL _) (show be X.prog X.w _ h' _ (.lst _) from{by simpa using z,FX.toList,c',rv,by simpa using e}),rfl,q _ (I2.hok.fresh (BL _))}
end L2
namespace HW
variable {K:Ax}
open PyProof.Rows L2
noncomputable def vm:R4 R->ac->AA (R×ac)
 |[.p n],U=>match U[n]? with|some (.dr Ab)=>some (.p U.length,U++[.lst (Ab.map λp=>kD p.1)])|_=>none
 |_,_=>none
noncomputable def Aq (fo:FE):FE:=λO U=>(fo O U).bind λa=>match a.1 with
 |.p n=>(match a.2[n]? with|some (.dr Ab)=>some (.p a.2.length,a.2++[.lr (Ab.map (·.2))])|_=>none)
 |_=>none
noncomputable def vL (neg:Ad):R->R->ac->AA (R×ac):=λx y U=>(eA (jO x) (lg U)).bind λa=>(eA (jO y) (lg U)).bind λb=>match b with
 |.fl ds=>if (cR 60 a&&okDs 59 ds)=true then some (.v (.bl (if neg then !ds.any λd=>iD d a else ds.any λd=>iD d a)),U) else none
 |_=>none
section
variable {K:Ax}{Y:L2.St}{H:Hp}{Q:VK}
theorem yP:∀ks:R4 aE,RelDs K H (ks.map kD) (ks.map kV)
 |[]=>rfl
 |k::ks=>{_,_,rfl,by rcases k with i|x|_ <;> rfl,yP ks}
def K8:zj K vm B4:=by
 intro m H U xs d U' vs Q s r e k;unfold vm at e;split at e
 ·rename_i n;split at e
  ·rename_i Ab q
   cases e;let⟨v,vr,rfl,⟨a,rfl,ha⟩,rn⟩:=r;cases(show vr=[] from rn);let⟨es,ea,k1,k2⟩:=s.cell n _ a q ha;refine{a,es,rfl,ea,λl hl=>?_};have:(es.map λe=>kV e.1)=(es.map (·.1)).map kV:=(by rw[E6];rfl);have e2:(Ab.map λp=>kD p.1)=(es.map (·.1)).map kD:=(by rw[k1,E6];rfl);let⟨a1,a2,a3⟩:=hU s (yP (H:=H) (es.map (·.1))) hl;rw[this];rw[e2] at k;exact k _ _ _ a1 a2 a3
  ·cases e
 ·cases e
theorem JF9 {fo}(h:ax K (Aq fo) Y H Q):Bi (ax K fo) Y H Q:=by
 let⟨O,U,m,d,U',hl,hs,e,k⟩:=h;let⟨⟨x,U1⟩,e1,e⟩:=Az.mp e;refine{O,U,m,x,U1,hl,hs,e1,λv H1 m1 x1 s1 r1=>?_};dsimp only at e
 cases x with
 |p n=>
  dsimp only at e;split at e
  ·rename_i Ab q
   cases e;let⟨a,rfl,ha⟩:=r1;let⟨es,ea,k1,k2⟩:=s1.cell n _ a q ha;refine{a,es,rfl,ea,λl EE=>?_};have x2:cV m1 H1 (m1++[l]) (upd H1 l (.lst (es.map (·.2)))):=.newH EE;exact k _ _ _ (x1.trans x2) (s1.newH EE {_,br,k2.ext x2}) {l,rfl,by rw[←s1.len];simp}
  ·cases e
 |_=>cases e
def Nj (K:Ax)(neg:Ad):R2:=λv u H Q=>∃m U x y d,aG K m H U/\av K m H x v/\av K m H y u/\vL neg x y U=some (.v (.bl d),U)/\Q (.bl d) H
def Ip {neg:Ad}:o0 K (vL neg) (Nj K neg):=by
 intro m H U x y d U' v u Q s rx ry e k;have e0:=e;unfold vL at e;let⟨a,e1,e⟩:=Az.mp e;let⟨b,e2,e⟩:=Az.mp e;split at e
 ·split at e
  ·cases e;exact{m,U,x,y,_,s,rx,ry,e0,k _ H m .refl s (by rwa[av,ak])}
  ·cases e
 ·cases e
end
theorem Ea (a:D):∀ds:R4 D,((toPys ds).any λy=>PyData.eqv y (jQ a))=ds.any λd=>iD d a
 |[]=>rfl
 |d::ds=>by rw[toPys,E7,E7,Ea a ds,nE]
def CJ {X:Cx}(hu:X.A.units+64<cLine):jN X (compareOp .In) (Nj X.K false):=by
 intro AB s Y H v u v' u' Q I rv ru q;let⟨m,U,x,y,d,S,rx,ry,e,q⟩:=q;unfold vL at e;let⟨a,e1,e⟩:=Az.mp e;let⟨b,e2,e⟩:=Az.mp e;split at e
 ·rename_i ds;split at e
  ·rename_i z;rw[EM] at z;cases e;let⟨as,r1⟩:=cI I S.unk rx.unk rv e1 z.1;let⟨bs,r2⟩:=cI I S.unk ry.unk ru e2 (show cR 60 (.fl ds)=true by simpa[cR] using z.2);let⟨p1,p2⟩:=w9 60 a z.1;let⟨p3,p4⟩:=okDs_py 59 ds z.2;refine SeqAt.in_list_reads (xs:=toPys ds) r2 r1 p3 p1 ∅ {_,H,I,?_,q};rw[Ea];rfl
  ·cases e
 ·cases e
open Classical in
noncomputable def qB (n:Nat)(xs:R4 D)(g:FG)(f:FE):R4 D->Lo->ac->AA (R4 D×ac)
 |[],O,U=>some ([],U)
 |x::r,O,U=>(g (.v x) O U).bind λa=>(f a.1 a.2).bind λy=>match y.1 with
   |.v d=>if y.2[n]?=some (.lst xs) then (qB n xs g f r a.1 y.2).bind λr=>some (d::r.1,r.2) else none
   |_=>none
noncomputable def kz (ix:R4 Nat)(k:Nat)(fo:FE)(g:FG)(f:FE):FE:=λO U=>(fo O U).bind λa=>match a.1 with
 |.p n=>(match a.2[n]? with
  |some (.lst xs)=>if xs.length<=sizeLine then (qB n xs g f xs (bT k ix O) a.2).bind λr=>some (.p r.2.length,r.2++[.lst r.1]) else none
  |_=>none)
 |_=>none
def JA6 {H:Hp}{Q:VK}{ix:R4 Nat}{k:Nat}{own:Tn}{fo:FE}{g:FG}{f:FE}(hk:own.length=k)(h:ax K (kz ix k fo g f) Y H Q):rH ix own (K6 K (ax K fo)) (nP K g) (eN K dP) (ax K f) Y H Q:=by
 let⟨O,U,m,d,U',hl,hs,e,kk⟩:=h;let⟨⟨x,U1⟩,e1,e⟩:=Az.mp e;dsimp only at e;split at e
 ·rename_i nn;split at e
  ·rename_i xs q;split at e
   ·rename_i hz;let⟨⟨r,Ur⟩,e2,e⟩:=Az.mp e;cases e;refine{O,U,m,.p nn,U1,hl,hs,e1,λv H1 m1 x1 s1 r1=>?_};let⟨a,rfl,ha⟩:=r1;let⟨vs,ea,ra⟩:=s1.cell _ _ a q ha;refine{a,rfl,.inl {{vs,iM.of ea},?_}};refine{λi n ys τ H=>n=xs.length-i/\i<=xs.length/\ys.length<=i/\∃O U m ds r',dJ K m H O τ/\aG K m H U/\U[nn]?=some (.lst xs)/\m[nn]?=some a/\RelDs K H ds ys/\qB nn xs g f (xs.drop i) O U=some (r',Ur)/\r=ds++r' /\
     ∀v H' m',cV m H m' H'->aG K m' H' (Ur++[.lst r])->av K m' H' (.p Ur.length) v->Q v H',
     {_,rfl,Cr _,BL _,_,U1,m1,[],r,nH hk (hl.ext x1),s1,q,ha,by rwa[RelDs],by simpa using e2,rfl,λv H' m' x2 s2 r2=>kk v H' m' (x1.trans x2) s2 r2},?_}
    clear ea ra;rintro i n ys τ H ⟨rfl,hi,hy,O,U,m,ds,r',hl,hs,q,ha,rs,e,er,kk⟩;let⟨vs,ea,ra⟩:=hs.cell _ _ a q ha;have hvl:=ra.length;by_cases BD:i<xs.length
    ·have hx:xs[i]?=some xs[i]:=C0 BD;let⟨v,hv,rv⟩:=ra.get hx;rw[GC BD,qB] at e;let⟨⟨O1,U2⟩,q1,e⟩:=Az.mp e;let⟨⟨y',U4⟩,q3,e⟩:=Az.mp e;refine .inr {{vs,v,iM.of ea,hv},zch hy (CC BD hz),λx H' y=>?_};let⟨rfl,y⟩:=y;have hxv:x=v:=(by have:=y vs (iM.of ea);rw[hv] at this;exact(Option.some.inj this).symm);subst hxv;refine{O,U,m,.v xs[i],O1,U2,hl,hs,rv,q1,λY1 H1 m1 x1 s1 l1=>?_};refine{O1,U2,m1,true,U2,l1,s1,rfl,λH2 m2 x2 s2=>?_};rwa[if_true];refine{O1,U2,m2,y',U4,l1.ext x2,s2,q3,λw H3 m3 x3 s3 r3=>?_}
     cases y' with
     |v d1=>
      dsimp only at e;split at e
      ·rename_i q2;let⟨⟨r1,U5⟩,q4,e⟩:=Az.mp e;cases e;have x4:=(x1.trans x2).trans x3;have ha':m3[nn]?=some a:=by let⟨r,hr,_⟩:=x4.1;rw[hr,Bu (CA.mp ha).1];exact ha
       exact{_,(by omega:xs.length-(i+1)<xs.length-i),rfl,BD,by rw[Ci];exact zcR hy,O1,U4,m3,ds++[d1],r1,l1.ext (x2.trans x3),s3,q2,ha',
        (RelDs.tf x4.tf _ _ rs).append (by rwa[RelDs];exact{w,[],rfl,r3,rfl}),q4,by rw[er,Bx];rfl,λv H' m' x5 s5 r5=>kk v H' m' (x4.trans x5) s5 r5}
      ·cases e
     |_=>cases e
    ·have:i=xs.length:=by omega
     subst this;rw[zcv,qB] at e;cases e;refine .inl {{vs,iM.of ea,by omega},λp hp=>?_};let⟨a1,a2,a3⟩:=hU hs rs hp;rw[DL] at er;subst er;exact kk _ _ _ a1 a2 a3
   ·cases e
  ·cases e
 ·cases e
noncomputable def nL:R->ac->AA D
 |.p n,U=>(match ow U n with|some xs=>(o9 U xs).bind λds=>some (.fl ds)|none=>eA (.p n) U)
 |x,U=>eA x U
noncomputable def Gq (neg:Ad):R->R->ac->AA (R×ac):=λx y U=>(nL x U).bind λa=>(nL y U).bind λb=>if (cR 60 a&&cR 60 b)=true then some (.v (.bl (if neg then !iD a b else iD a b)),U) else none
def Nk (K:Ax)(neg:Ad):R2:=λv u H Q=>∃m U x y d,aG K m H U/\av K m H x v/\av K m H y u/\Gq neg x y U=some (.v (.bl d),U)/\Q (.bl d) H
def N7 {neg:Ad}:o0 K (Gq neg) (Nk K neg):=by
 intro m H U x y d U' v u Q s rx ry e k;have e0:=e;unfold Gq at e;let⟨a,e1,e⟩:=Az.mp e;let⟨b,e2,e⟩:=Az.mp e;split at e
 ·cases e;exact{m,U,x,y,_,s,rx,ry,e0,k _ H m .refl s (by rwa[av,ak])}
 ·cases e
def nK {X:Cx}{H:Hp}{s:AP}{m:Tf}{U:ac}{x:R}{d:D}{v:V}{u:AU}(I:az X AB Y H s)(S:aG X.K m H U)(r:av X.K m H x v)(ru:aP v u)(e:nL x U=some d)(hk:cR 60 d=true):∃as,Reads s.heap u (jQ d) as:=by
 unfold nL at e;split at e
 ·split at e
  ·rename_i n _ xs e1;let⟨ds,e2,e⟩:=Az.mp e;cases e;exact ul I S r ru (x:=.p n) (by show(ow U n).bind _=_;rw[e1];exact e2)
  ·exact cI I S r ru e hk
 ·exact cI I S r ru e hk
def Kv {X:Cx}(hu:X.A.units+64<cLine):jN X (compareOp .NotEq) (Nk X.K true):=by
 intro AB s Y H v u v' u' Q I rv ru q;let⟨m,U,x,y,d,S,rx,ry,e,q⟩:=q;unfold Gq at e;let⟨a,e1,e⟩:=Az.mp e;let⟨b,e2,e⟩:=Az.mp e;split at e
 ·rename_i z;rw[EM] at z;cases e;let⟨as,r1⟩:=nK I S rx rv e1 z.1;let⟨bs,r2⟩:=nK I S ry ru e2 z.2;exact ne_dataH r1 r2 (d9 z.1) (d9 z.2) hu {_,H,I,by rw[nE];rfl,q}
 ·cases e
abbrev mV (e:As)(es:Tj)(X:Cx):Prop:=starEach (e::es) X.env=(false,eval e X.env)::starEach es X.env
noncomputable def jk:As->Ad
 |.Starred ..=>true
 |_=>false
def ay {es:Tj}{env:Env}(h:jk e=false):starEach (e::es) env=(false,eval e env)::starEach es env:=by cases e <;> first|rfl|(simp[jk] at h)
theorem aJ {env:Env}{pos:Pos}:∀{es:Tj},es.any jk=false->(backTo pos (starEach es env)).any (·.1)=false
 |[],_=>rfl
 |e::es,h=>by rw[E7,Bool.or_eq_false_iff] at h;rw[ay h.1];have ih:=aJ (env:=env) (pos:=pos) h.2;unfold backTo at ih ⊢;rw[BH,E7,ih];rfl
def wn {es:Tj}{env:Env}(h:jk e=false):(assignEach (e::es) env).map (·.2)=assign e env::(assignEach es env).map (·.2):=by cases e <;> first|rfl|(simp[jk] at h)
def ll {prog:Aj}{w:An}{A:Ar}{E:Tb}{s:AP}{t sl:Aa}{items:Ti}{vl vu:AU}{lo hi:AA Int}{Q:Tb}(ht:IsTup s.heap t items)(hs:s.heap.IsSliceOf sl vl vu .none)(pl:IsPart vl lo)(pu:IsPart vu hi)
  (hw:HT.cO items.size 0 lo=0/\HT.cO items.size items.size hi=items.size)
  (h:Q (.ref t) s):wpAny (model prog w) A (getItem (.ref t) (.ref sl)) Q E s:=by
 obtain⟨os,Jg,Jn,hds⟩:=id hs;have hTs:s.TypeIs (.ref sl) "slice":={os,Jg,Jn};unfold getItem
 try with_reducible refine CR ?_
 first|refine Ak (Ay ?_)|skip
 refine Ak (wpAny_sequenceKey ht.typeIs ∅ ?_)
 refine Ak (GD (name:=Str.ofString "__getitem__") ht.typeIs PyProof.Rows.slot_tuple_getitem
  (Co PyProof.Rows.slot_tuple_getitem ht.typeIs entry_tuple_getitem ?_ (args_tuple_getitem _ _)))
 show wpAny _ _ (Builtin.Tuple.tupleItemsOf (.ref t) >>= _) _ _ s
 refine Ak (tupleItemsOf_ ht ?_);refine Ak (Fc hTs ?_);rw[Ae ∅];refine Ak (HT.iS hs pl pu ?_)
 have hyes:((((HT.cO items.size 0 lo:Nat):Int) == 0&&(1:Int) == 1&&(HT.cO items.size items.size hi-HT.cO items.size 0 lo) == items.size)=true):=by
  rw[hw.1,hw.2];simp
 show wpAny _ _ (if (((HT.cO items.size 0 lo:Nat):Int) == 0&&(1:Int) == 1&&(HT.cO items.size items.size hi-HT.cO items.size 0 lo) == items.size)=true then _ else _) _ _ s
 rw[Ae hyes];refine Ak (m:=Builtin.Tuple.tupleIsExact (.ref t)) (Ak (Fc ht.typeIs (Ay ?_)));rw[Ae ∅];refine Ak (Fj ?_)
 first
  |exact Ay {_,rfl,Ay h}
  |exact Ak (Ay (Ay {_,rfl,Ay h}))
  |exact Ak (Ay {_,rfl,Ay h})
noncomputable def qv (xs:R4 D)(lo hi:AA Int):R4 D:=(xs.drop (HT.cO xs.length 0 lo)).take (HT.cO xs.length xs.length hi-HT.cO xs.length 0 lo)
def JX (K:Ax):V->AA Int->AA Int->Hp->VK->Prop:=λx lo hi H Q=>Nc K x lo hi H Q\/Na K x lo hi H Q \/
 ∃a xs,x=.ref a/\gY K H a xs/\(HT.cO xs.length 0 lo=0/\HT.cO xs.length xs.length hi=xs.length)/\Q (.ref a) H
def JBh {X:Cx}:AJ X (λx lo hi H Q=>∃a xs,x=.ref a/\gY X.K H a xs/\(HT.cO xs.length 0 lo=0/\HT.cO xs.length xs.length hi=xs.length)/\Q (.ref a) H):=by
 intro AB s Y H x v vl vu lo hi sl Q I rx hs pl pu h;let⟨a,xs,rfl,hx,hw,q⟩:=h;cases rx;let⟨its,r,ht,hz⟩:=I.tuple hx;have hlen:its.toArray.size=xs.length:=by rw[Bz];exact r.length.symm
 refine{"tuple",_,PyProof.Rows.slot_tuple_getitem.lookup,ht.typeIs,?_};exact ll ht hs pl pu (by rw[hlen];exact hw) {.ref a,H,I,rfl,q}
def Bv {X:Cx}:AJ X (JX X.K):=AJ.or JDj (AJ.or JGt JBh)
abbrev FO:=Lo->ac->AA (AA Int×ac)
def uN (K:Ax)(f:FO):TO:=λY H Q=>∃O U m o U',dJ K m H O Y/\aG K m H U/\f O U=some (o,U')/\∀H' m',cV m H m' H'->aG K m' H' U'->Q o H'
noncomputable def jG:FO:=λ_ U=>some (none,U)
noncomputable def iW (f:FE):FO:=λO U=>(f O U).bind λa=>match a.1 with|.v (.int i)=>some (some i,a.2)|_=>none
noncomputable def HF (x:R)(lo hi:AA Int)(U:ac):AA (R×ac):=match x with
 |.v (.tup xs)=>some (.v (.tup (qv xs lo hi)),U)
 |x=>(lh x U).bind λxs=>some (.p U.length,U++[.lst (qv xs lo hi)])
noncomputable def Ge (fa:FE)(fl fh:FO):FE:=λO U=>(fa O U).bind λa=>(fl O a.2).bind λl=>(fh O l.2).bind λh=>HF a.1 l.1 h.1 h.2
theorem RelDs.drop {K:Ax}{H:Hp}:∀{xs:R4 D} {vs:R4 V} (n:Nat),RelDs K H xs vs->RelDs K H (xs.drop n) (vs.drop n)
 |_,_,0,h=>h
 |[],_,n+1,h=>by rwa[RelDs] at h;subst h;rwa[List.drop_nil,RelDs]
 |x::xs,_,n+1,h=>by rwa[RelDs] at h;let⟨v,r,rfl,_,h2⟩:=h;exact RelDs.drop n h2
theorem RelDs.take {K:Ax}{H:Hp}:∀{xs:R4 D} {vs:R4 V} (n:Nat),RelDs K H xs vs->RelDs K H (xs.take n) (vs.take n)
 |_,_,0,h=>by rwa[List.take_zero,RelDs]
 |[],_,n+1,h=>by rwa[RelDs] at h;subst h;rwa[List.take_nil,RelDs]
 |x::xs,_,n+1,h=>by rwa[RelDs] at h;let⟨v,r,rfl,h1,h2⟩:=h;rwa[List.take_succ_cons,RelDs];exact{v,_,rfl,h1,RelDs.take n h2}
def RelDs.cut {H:Hp}{xs:R4 D}{vs:R4 V}{lo hi:AA Int}(h:RelDs K H xs vs):RelDs K H (qv xs lo hi) (oE vs lo hi):=by unfold qv oE;rw[h.length];exact(h.drop _).take _
section
variable {K:Ax}{Y:L2.St}{H:Hp}{Q:VK}
def JA3 {Q:AA Int->Hp->Prop}(h:uN K jG Y H Q):yh Y H Q:=by let⟨O,U,m,o,U',hl,hs,e,k⟩:=h;cases e;exact k H m .refl hs
def JA2 {f}{Q:AA Int->Hp->Prop}(h:uN K (iW f) Y H Q):Hv (ax K f) Y H Q:=by
 let⟨O,U,m,o,U',hl,hs,e,k⟩:=h;let⟨⟨x,U1⟩,e1,e⟩:=Az.mp e;split at e
 ·rename_i i q
  cases e;simp only at q;subst q;exact{O,U,m,_,U1,hl,hs,e1,λv H1 m1 x1 s1 r1=>{i,by simpa only[av,ak] using r1,k H1 m1 x1 s1}}
 ·cases e
theorem MU {m:Tf}{U U':ac}{x d:R}{v:V}{lo hi:AA Int}(s:aG K m H U)(r:av K m H x v)(e:HF x lo hi U=some (d,U'))(k:∀w H' m',cV m H m' H'->aG K m' H' U'->av K m' H' d w->Q w H'):JX K v lo hi H Q:=by
 have lst:∀xs,lh x U=some xs->(some (R.p U.length,U++[au.lst (qv xs lo hi)]):AA (R×ac))=some (d,U')->JX K v lo hi H Q:=λxs e1 e2=>by cases e2;let⟨a,vs,rfl,q,rr⟩:=jh s r e1;refine .inl {a,vs,rfl,q,λp hp=>?_};let⟨x1,x2,x3⟩:=hU s (rr.cut (lo:=lo) (hi:=hi)) hp;exact k _ _ _ x1 x2 x3
 have gen:(lh x U).bind (λxs=>some (R.p U.length,U++[au.lst (qv xs lo hi)]))=some (d,U')->JX K v lo hi H Q:=λe=>by let⟨xs,e1,e⟩:=Az.mp e;exact lst xs e1 e
 cases x with
 |p n=>exact gen e
 |s _ n=>exact gen e
 |x n=>exact gen e
 |f L ds=>exact gen e
 |v d0=>
  cases d0 with
  |tup xs=>
   cases e;rwa[av,ak] at r;let⟨a,vs,rfl,q,rr⟩:=r;by_cases hw:HT.cO vs.length 0 lo=0/\HT.cO vs.length vs.length hi=vs.length
   ·refine .inr (.inr {a,vs,rfl,q,hw,k _ H m .refl s ?_});rwa[av,ak];refine{a,vs,rfl,q,?_};have:=rr.cut (lo:=lo) (hi:=hi);unfold oE at this
    rw[hw.1,hw.2] at this
    simpa using this
   ·refine .inr (.inl {a,vs,rfl,q,hw,λp hp=>?_});let⟨x1,x2,x3⟩:=kQ s (rr.cut (lo:=lo) (hi:=hi)) hp;exact k _ _ _ x1 x2 x3
  |non=>exact gen e
  |bl _=>exact gen e
  |int _=>exact gen e
  |str _=>exact gen e
  |fl _=>exact gen e
  |fd _ _=>exact gen e
  |key _=>exact gen e
def MZ {fa fl fh}(h:ax K (Ge fa fl fh) Y H Q):OJ (JX K) (ax K fa) (uN K fl) (uN K fh) Y H Q:=by let⟨O,U,m,d,U',hl,hs,e,k⟩:=h;let⟨⟨x,U1⟩,e1,e⟩:=Az.mp e;let⟨⟨l,U2⟩,e2,e⟩:=Az.mp e;let⟨⟨u,U3⟩,e3,e⟩:=Az.mp e;refine{O,U,m,x,U1,hl,hs,e1,λv H1 m1 x1 s1 r1=>?_};refine{O,U1,m1,l,U2,hl.ext x1,s1,e2,λH2 m2 x2 s2=>?_};refine{O,U2,m2,u,U3,hl.ext (x1.trans x2),s2,e3,λH3 m3 x3 s3=>?_};exact MU s3 (r1.ext (x2.trans x3)) e λw H4 m4 x4 s4 r4=>k w H4 m4 (((x1.trans x2).trans x3).trans x4) s4 r4
noncomputable def Aw (xs:Th)(lo hi:AA Int):Th:=(xs.drop (HT.cO xs.length 0 lo)).take (HT.cO xs.length xs.length hi-HT.cO xs.length 0 lo)
def DT (xs:Th)(lo hi:AA Int):oE (xs.map V.int) lo hi=(Aw xs lo hi).map V.int:=by unfold oE Aw;rw[BR,List.map_take,List.map_drop]
noncomputable def HE (x:R)(lo hi:AA Int)(U:ac):AA (R×ac):=match x with
 |.v (.key ks)=>some (.v (.key (Aw ks lo hi)),U)
 |_=>none
noncomputable def Gd (fa:FE)(fl fh:FO):FE:=λO U=>(fa O U).bind λa=>(fl O a.2).bind λl=>(fh O l.2).bind λh=>HE a.1 l.1 h.1 h.2
def JGw {m:Tf}{U U':ac}{x d:R}{v:V}{lo hi:AA Int}(s:aG K m H U)(r:av K m H x v)(e:HE x lo hi U=some (d,U'))(k:∀w H' m',cV m H m' H'->aG K m' H' U'->av K m' H' d w->Q w H'):JX K v lo hi H Q:=by
 unfold HE at e;split at e
 ·rename_i ks
  cases e;rwa[av,ak] at r;let⟨a,rfl,q⟩:=r;by_cases hw:HT.cO (ks.map V.int).length 0 lo=0/\HT.cO (ks.map V.int).length (ks.map V.int).length hi=(ks.map V.int).length
  ·refine .inr (.inr {a,_,rfl,.inl (.inl q),hw,k _ H m .refl s ?_});rwa[av,ak];refine{a,rfl,?_};rw[q,←DT];unfold oE;rw[hw.1,hw.2,List.drop_zero,Nat.sub_zero,List.take_length]
  ·refine .inr (.inl {a,_,rfl,.inl (.inl q),hw,λp hp=>?_});let⟨x1,x2,x3⟩:=kQ s ((mW ks).cut (lo:=lo) (hi:=hi)) hp;refine k _ _ _ x1 x2 ?_;rwa[av,ak];exact{p,rfl,by rw[br,DT]}
 ·cases e
def JF1 {fa fl fh}(h:ax K (Gd fa fl fh) Y H Q):OJ (JX K) (ax K fa) (uN K fl) (uN K fh) Y H Q:=by let⟨O,U,m,d,U',hl,hs,e,k⟩:=h;let⟨⟨x,U1⟩,e1,e⟩:=Az.mp e;let⟨⟨l,U2⟩,e2,e⟩:=Az.mp e;let⟨⟨u,U3⟩,e3,e⟩:=Az.mp e;refine{O,U,m,x,U1,hl,hs,e1,λv H1 m1 x1 s1 r1=>?_};refine{O,U1,m1,l,U2,hl.ext x1,s1,e2,λH2 m2 x2 s2=>?_};refine{O,U2,m2,u,U3,hl.ext (x1.trans x2),s2,e3,λH3 m3 x3 s3=>?_};exact JGw s3 (r1.ext (x2.trans x3)) e λw H4 m4 x4 s4 r4=>k w H4 m4 (((x1.trans x2).trans x3).trans x4) s4 r4
noncomputable def Dv (fa:FE)(fl fh:FO):FE:=λO U=>(fa O U).bind λa=>(fl O a.2).bind λl=>(fh O l.2).bind λh=>Bw a.1 l.1 h.1 h.2
def JGv {x:R}{lo hi:AA Int}{U U':ac}{d:R}(e:Bw x lo hi U=some (d,U')):∃z,x=.v (.str z)/\z.length<=sizeLine/\d=.v (.str (Txt.slice z lo hi))/\U'=U:=by
 unfold Bw at e;split at e
 ·split at e
  ·rename_i hz
   cases e;exact{_,rfl,hz,rfl,rfl}
  ·cases e
 ·cases e
def JF0 {fa fl fh}(h:ax K (Dv fa fl fh) Y H Q):OJ Nb (ax K fa) (uN K fl) (uN K fh) Y H Q:=by let⟨O,U,m,d,U',hl,hs,e,k⟩:=h;let⟨⟨x,U1⟩,e1,e⟩:=Az.mp e;let⟨⟨l,U2⟩,e2,e⟩:=Az.mp e;let⟨⟨u,U3⟩,e3,e⟩:=Az.mp e;refine{O,U,m,x,U1,hl,hs,e1,λv H1 m1 x1 s1 r1=>?_};refine{O,U1,m1,l,U2,hl.ext x1,s1,e2,λH2 m2 x2 s2=>?_};refine{O,U2,m2,u,U3,hl.ext (x1.trans x2),s2,e3,λH3 m3 x3 s3=>?_};let⟨z,rfl,hz,rfl,rfl⟩:=JGv e;rwa[av,ak] at r1;exact{z,r1,hz,k _ H3 m3 ((x1.trans x2).trans x3) s3 (by rwa[av,ak])}
end
def PO.imp {e:AA As}{t t':TO}(h:PO X e t)(k:∀{Y H Q},t' Y H Q->t Y H Q):PO X e t':=λAB s Y H Q I q=>h AB s Y H Q I (k q)
noncomputable def j0:FS:=λ_ _=>none
namespace R
section
variable {X:Cx}{a b e:As}{es:Tj}{fa fb:FE}{ga:FA}{pos p:Pos}{x:Str}
def al {i j}:PE X (.Constant (.int i) j pos) (ax X.K (fK (.int i))):=PE.imp Ko (j2 λ_ _=>by rwa[av,ak])
def yv (ha:PE X a (ax X.K fa)):PE X (.UnaryOp .USub a pos) (ax X.K (jM xb fa)):=PE.imp (NB JFp ha) (MY NY)
def uR (ha:PE X a (ax X.K fa)):PO X (some a) (uN X.K (iW fa)):=PO.imp (JEq ha) JA2
def JFx {k:Nat}{f:Aa}{fd:FuncData}{ps:Tn}{n:Nat}{mf:MF}(F:cw X.prog X.w X.K X.mg X.base lf k f fd ps (AG X.K n mf))(hr:bG k X.A)(hg:Gl X x)(hm:X.mg x=some (.ref f))(hk:PySem.W.keepIn X.K (.ref f)=true)(hb:fR X.K fd ps [])
  (ha:PA X (e::es) (gM X.K ga)) (C2:(x == ("__debug__" : Str))=false:=by decide) (he:mV e es X:=by exact ay rfl) (hpl:(backTo pos (starEach es X.env)).any (·.1)=false:=by exact aJ rfl) :
  PE X (.Call (.Name x p) (e::es) [] pos) (ax X.K (bn mf n ga)):=PE.imp (oO F hr hg hm hk hb .nil pV ha C2 he hpl) JC7
def kM {d:D}(h:iL X.K X.mg x d)(hg:Gl X x:=by rfl)(hd:(x == ("__debug__" : Str))=false:=by decide):PE X (.Name x pos) (ax X.K (fK d)):=by obtain⟨u,v,hm,r,rd⟩:=h;exact PE.imp (Fk hg hm r hd) (j2 λ_ H=>rd H)
def lx {op:CmpOp}{r:R2}{g:R->R->ac->AA (R×ac)}(ho:jN X (compareOp op) r)(hg:o0 X.K g r)(ha:PE X a (ax X.K fa))(hb:PE X b (ax X.K fb))(hm:behindInMarks op b=false):PT X (.Compare a [op] [b] pos) (eN X.K (fB (aw g fa fb))) :=
 PT.imp (yz ho ha hb hm) λh=>by let⟨O,U,m,d,U',hl,hs,e,k⟩:=yp h;exact gL hg {O,U,m,d,U',hl,hs,e,k}
def My {op:CmpOp}{neg:Ad}{c:D}{cv:V}(hc:(c=.non/\cv=.non)\/∃b,c=.bl b/\cv=.bl b)(ho:jN X (compareOp op) (E3 neg cv))(ha:PE X a (ax X.K fa))(hb:PE X b (tC cv))(hm:behindInMarks op b=false):PT X (.Compare a [op] [b] pos) (eN X.K (fB (jM (Af neg c) fa))) :=
 PT.imp (yz ho ha hb hm) λh=>by let⟨O,U,m,d,U',hl,hs,e,k⟩:=yp h;exact M4 hc {O,U,m,d,U',hl,hs,e,k}
variable {ta:FT}
variable {st:B8}{c tg iter:As}
def g9:PS X st (fA X.K j0):=λAB s Y H D I h=>by let⟨O,U,m,out,hl,hs,e,k⟩:=h;cases e
variable {g:FG}{fi:FI}
def mK.imp {ifs:Tj}{t t':TT}(h:mK X ifs t)(k:∀{Y H Q},t' Y H Q->t Y H Q):mK X ifs t':=λAB s Y H Q I q=>h AB s Y H Q I (k q)
def iw {ifs:Tj}{scope:Scope}(ix:R4 Nat)(own caps:Tn)(hc:X.calm=true)(n:aH X.env.scope scope own caps)(hi:PI X tg iter (BW X.K fi))
  (hb:∀cl C s₂ H₂ fp,PG (aD X scope cl C s₂ H₂ fp (own++caps)) tg (nP X.K g)/\mK (aD X scope cl C s₂ H₂ fp (own++caps)) ifs (eN X.K ta)/\PE (aD X scope cl C s₂ H₂ fp (own++caps)) e (ax X.K fa))
  (CB:ix.map (λi=>X.N[i]?)=caps.map some:=by rfl)
  (hs:∀x,foldedSetIterable iter X.env x=pure x:=by intro _;rfl):PE X (.ListComp e [{tg,iter,ifs,0}] scope pos) (ax X.K (dE ix own.length fi g ta fa)):=by
 refine PE.imp (pU (ix:=ix) hc n ‹Av List.length CB› (λj i y h1 h2=>?_) hi hb hs) (yo rfl);have:=Av (λl=>l[j]?) CB
 rwa[By,h1,h2,EY] at this
 exact Option.some.inj this
def wT (i:Nat){py DS:Pos}{ifs:Tj}{scope:Scope}(ix:R4 Nat)(own caps:Tn)(hc:X.calm=true)(n:aH X.env.scope scope own caps)(hN:X.N.Nodup)(hi:PI X tg iter (BW X.K fi))
  (hb:∀cl C s₂ H₂ fp,PG (aD X scope cl C s₂ H₂ fp (own++caps)) tg (nP X.K g)/\mK (aD X scope cl C s₂ H₂ fp (own++caps)) ifs (eN X.K ta)/\PE (aD X scope cl C s₂ H₂ fp (own++caps)) e (ax X.K fa))
  (hsw:swapsWith (.ListComp e [{tg,iter,ifs,0}] scope pos) (some (.Name x py)) DS.line X.env=pure true:=by rfl)
  (hy:X.N[i]?=some x:=by rfl) (J8:GM X.env.scope x:=by first|exact Or.inl rfl|exact Or.inr rfl)
  (CB:ix.map (λi=>X.N[i]?)=caps.map some:=by rfl)
  (hs:∀x,foldedSetIterable iter X.env x=pure x:=by intro _;rfl) (hf:X.fn x=true\/X.env.scope.names.lookup x=some .local:=by first|exact .inl rfl|exact .inr rfl) :
  PS X (.Assign [.Name x py] (.ListComp e [{tg,iter,ifs,0}] scope pos) DS) (fA X.K (aR i (dE ix own.length fi g ta fa))):=by
 refine PS.imp (JB8 (i:=i) (ix:=ix) hc n hN hy J8 ‹Av List.length CB› (λj i y h1 h2=>?_) hi hb hsw hs hf) λh=>?_
 ·have:=Av (λl=>l[j]?) CB
  rwa[By,h1,h2,EY] at this
  exact Option.some.inj this
 ·have h':=BJ h
  let⟨O,U,m,d,U',hl,hs,e,k⟩:=h';exact yo rfl {O,U,m,d,U',hl,hs,e,k}
end
end R
noncomputable def kh (x:R)(U:ac):Ad:=match x with|.v (.fl _)=>true|.p n=>(match U[n]? with|some (.lst _)=>true|some (.fz _)=>true|_=>false)|_=>false
noncomputable def nY (g:R->R4 R->ac->AA (R×ac))(fa:FE)(ga:FA):FE:=λO U=>(fa O U).bind λa=>if kh a.1 a.2=true then (ga O a.2).bind λb=>g a.1 b.1 b.2 else none
def vJ {m:Tf}{H:Hp}{U:ac}{x:R}{v:V}(s:aG K m H U)(r:av K m H x v)(e:kh x U=true):OG K "list" v H:=by
 have:∃xs,lh x U=some xs:=by
  cases x with
  |v d=>cases d <;> simp_all[kh,lh]
  |s _ _=>simp[kh] at e
  |x _=>simp[kh] at e
  |f _ _=>simp[kh] at e
  |p n=>
   rwa[kh] at e;rwa[lh];split at e
   ·rename_i xs q;exact{xs,by first|rfl|rw[q]}
   ·rename_i xs q;exact{xs,by first|rfl|rw[q]}
   ·cases e
 let⟨xs,e⟩:=this;let⟨a,vs,rfl,q,_⟩:=jh s r e;exact .inl {rfl,vs,q}
def M3 {H:Hp}{Q:VK}{g r fa ga}(hg:Pz K g r)(h:ax K (nY g fa ga) Y H Q):PJ K "list" r (ax K fa) (gM K ga) Y H Q:=by
 let⟨O,U,m,d,U',hl,hs,e,k⟩:=h;let⟨⟨x,U1⟩,e1,e⟩:=Az.mp e;split at e
 ·rename_i hx;let⟨⟨ys,U2⟩,e2,e⟩:=Az.mp e;refine{O,U,m,x,U1,hl,hs,e1,λv H1 m1 x1 s1 r1=>{vJ s1 r1 hx,?_}};refine{O,U1,m1,ys,U2,hl.ext x1,s1,e2,λvs H2 m2 x2 s2 r2=>?_};exact hg m2 H2 U2 x ys d U' v vs Q s2 (r1.ext x2) r2 e λw H3 m3 x3 s3 r3=>k w H3 m3 ((x1.trans x2).trans x3) s3 r3
 ·cases e
def JF7 {H:Hp}{Q:VK}{g r fa}(hg:Pz K g r)(h:ax K (nY g fa ai) Y H Q):MM K "list" r (ax K fa) Y H Q:=by
 let⟨O,U,m,d,U',hl,hs,e,k⟩:=h;let⟨⟨x,U1⟩,e1,e⟩:=Az.mp e;split at e
 ·rename_i hx;exact{O,U,m,x,U1,hl,hs,e1,λv H1 m1 x1 s1 r1=>{vJ s1 r1 hx,hg m1 H1 U1 x [] d U' v [] Q s1 r1 rfl e λw H3 m3 x3 s3 r3=>k w H3 m3 (x1.trans x3) s3 r3}}
 ·cases e
structure cH (K:Ax)(mg:Td)(x:Str)(st:Stmt)(ps:Tn):Prop where
 ex:∃f fd,o7 K x x st f fd/\fR K fd ps []/\mg x=some (.ref f)
structure Rm (K:Ax)(mg:Td)(x:Str)(st:Stmt)(ps:Tn)(c:Addr):Prop where
 ex:∃f fd,Rj K x st f fd c/\fR K fd ps []/\mg x=some (.ref f)
def cm (P:Aj)(w:An)(K:Ax)(mg:Td)(base:Am)(k:Nat)(x:Str)(ps:Tn)(mf:MF):Prop :=
 ∃f fd,cw P w K mg base lf k f fd ps (AG K ps.length mf)/\PySem.W.keepIn K (.ref f)=true/\fR K fd ps []/\mg x=some (.ref f)
def oh (P:Aj)(w:An)(K:Ax)(mg:Td)(base:Am)(k:Nat)(x:Str)(ps:Tn)(mf:MC):Prop :=
 ∃f fd,cw P w K mg base lf k f fd ps (Bs K ps.length (cX K mf))/\PySem.W.keepIn K (.ref f)=true/\fR K fd ps []/\mg x=some (.ref f)
def JEh {mg:Td}{base:Am}{k:Nat}{x:Str}{ps:Tn}{mf:MF}(h:cm P w K mg base k x ps mf):cm P w K mg base k x ps (uk mf) :=
 let ⟨f,fd,F,r⟩:=h
 {f,fd,F.imp λ_ _ _ _ z=>MR z,r}
def og (P:Aj)(w:An)(K:Ax)(mg:Td)(base:Am)(k:Nat)(x:Str)(ps:Tn)(mf:MW):Prop :=
 ∃f fd,cw P w K mg base lf k f fd ps (LM K ps.length mf)/\PySem.W.keepIn K (.ref f)=true/\fR K fd ps []/\mg x=some (.ref f)
structure fg (K:Ax)(C:Addr)(nm qual:Str)(st:Stmt)(ps:Tn):Prop where
 ex:∃f fd,o7 K nm qual st f fd/\fR K fd ps []/\Ef K C nm f
def bW (P:Aj)(w:An)(K:Ax)(mg:Td)(base:Am)(k:Nat)(nm:Str)(C:Aa)(ps:Tn)(mf:MW):Prop :=
 ∃f fd,cw P w K mg base lf k f fd ps (LM K ps.length mf)/\fR K fd ps []/\Ef K C nm f
namespace R
def okP {P:Aj}{w:An}{K:Ax}{mg:Td}{base:Am}{x:Str}{st:B8}{N ps:Tn}{k:Nat}{b:FS}(d:cH K mg x st ps)(S:aA N ps (aj st))
  (BN:∀(f:Aa) (BG:AU) (A:Ar) (outer:R4 Env) (s:AP) (H:Hp) (E:XK),bG k (A.deeper (envOfC x (aj st) s.heap.objs.size f BG))->oG (jL lf P w K mg base N x (aj st) f BG A outer s H E).nox (bC st) (fA K b)) :
  cm P w K mg base (k+1) x ps (ir N.length b):=by
 let⟨f,fd,F,B,M⟩:=d.ex;exact{f,fd,o7.okP F S (BN f),F.kp,B,M}
def bc {X:Cx}{k:Nat}{x:Str}{ps:Tn}{mf:MF}{e:As}{es:Tj}{ga:FA}{p pos:Pos}{n:Nat}(F:cm X.prog X.w X.K X.mg X.base k x ps mf)(hr:bG k X.A)(ha:PA X (e::es) (gM X.K ga))(hg:Gl X x:=by rfl)(hn:ps.length=n:=by rfl)
  (C2:(x == ("__debug__" : Str))=false:=by decide) (he:mV e es X:=by exact ay rfl) (hpl:(backTo pos (starEach es X.env)).any (·.1)=false:=by exact aJ rfl) :
  PE X (.Call (.Name x p) (e::es) [] pos) (ax X.K (bn mf n ga)):=by
 subst hn;let⟨f,fd,F,kp,B,M⟩:=F;exact JFx F hr hg M kp B ha C2 he hpl
def kN {X:Cx}{k:Nat}{x:Str}{ps:Tn}{mf:MF}{e:As}{es:Tj}{ga:FA}{p pos:Pos}{n:Nat}(F:cm X.prog X.w X.K X.mg X.base k x ps mf)(hr:bG k X.A)(ha:PA X (e::es) (gM X.K ga))(hg:Gl X x:=by rfl)(hn:ps.length=n:=by rfl)
  (C2:(x == ("__debug__" : Str))=false:=by decide) (he:mV e es X:=by exact ay rfl) (hpl:(backTo pos (starEach es X.env)).any (·.1)=false:=by exact aJ rfl) :
  PE X (.Call (.Name x p) (e::es) [] pos) (ax X.K (gU mf n ga)):=by
 subst hn;let⟨f,fd,F,kp,B,M⟩:=F;exact PE.imp (oO (cw.borN (F.imp λ_ _ _ _ h=>MS h) ps.length) hr hg M kp B .nil pV ha C2 he hpl) JA9
def okN {P:Aj}{w:An}{K:Ax}{mg:Td}{base:Am}{x:Str}{st:B8}{N ps:Tn}{k:Nat}{b:FS}(d:cH K mg x st ps)(S:aA N ps (aj st))
  (BN:∀(f:Aa) (BG:AU) (A:Ar) (outer:R4 Env) (s:AP) (H:Hp) (E:XK),bG k (A.deeper (envOfC x (aj st) s.heap.objs.size f BG))->oG (jL lf P w K mg base N x (aj st) f BG A outer s H E).nox (bC st) (fA K b)) :
  oh P w K mg base (k+1) x ps (BE N.length b):=by
 let⟨f,fd,F,B,M⟩:=d.ex;exact{f,fd,o7.okN F S (BN f),F.kp,B,M}
def oM {X:Cx}{k:Nat}{x:Str}{ps:Tn}{mf:MC}{e:As}{es:Tj}{ga:FA}{p pos:Pos}{n:Nat}(F:oh X.prog X.w X.K X.mg X.base k x ps mf)(hr:bG k X.A)(ha:PA X (e::es) (gM X.K ga))(hg:Gl X x:=by rfl)(hn:ps.length=n:=by rfl)
  (C2:(x == ("__debug__" : Str))=false:=by decide) (he:mV e es X:=by exact ay rfl) (hpl:(backTo pos (starEach es X.env)).any (·.1)=false:=by exact aJ rfl) :
  PE X (.Call (.Name x p) (e::es) [] pos) (ax X.K (lQ mf n ga)):=by
 subst hn;let⟨f,fd,F,kp,B,M⟩:=F;exact PE.imp (oO (cw.borN F ps.length) hr hg M kp B .nil pV ha C2 he hpl) JBa
def okW {P:Aj}{w:An}{K:Ax}{mg:Td}{base:Am}{x:Str}{st:B8}{N ps:Tn}{k:Nat}{b:FS}(d:cH K mg x st ps)(S:aA N ps (aj st))
  (BN:∀(f:Aa) (BG:AU) (A:Ar) (outer:R4 Env) (s:AP) (H:Hp) (E:XK),bG k (A.deeper (envOfC x (aj st) s.heap.objs.size f BG))->oG (jL lf P w K mg base N x (aj st) f BG A outer s H E).nox (bC st) (fA K b)) :
  og P w K mg base (k+1) x ps (j1 N.length b):=by
 let⟨f,fd,F,B,M⟩:=d.ex;exact{f,fd,o7.okW F S (BN f),F.kp,B,M}
def AH {P:Aj}{w:An}{K:Ax}{mg:Td}{base:Am}{nm qual:Str}{C:Aa}{st:B8}{N ps:Tn}{k:Nat}{b:FS}(d:fg K C nm qual st ps)(S:aA N ps (aj st))
  (BN:∀(f:Aa) (BG:AU) (A:Ar) (outer:R4 Env) (s:AP) (H:Hp) (E:XK),bG k (A.deeper (envOfC qual (aj st) s.heap.objs.size f BG))->oG (jL lf P w K mg base N qual (aj st) f BG A outer s H E).nox (bC st) (fA K b)) :
  bW P w K mg base (k+1) nm C ps (j1 N.length b):=by
 let⟨f,fd,F,B,M⟩:=d.ex;exact{f,fd,o7.okW F S (BN f),B,M}
def jd {X:Cx}{k:Nat}{x:Str}{ps:Tn}{mf:MW}{e:As}{es:Tj}{ga:FA}{p pos:Pos}{n:Nat}(F:og X.prog X.w X.K X.mg X.base k x ps mf)(hr:bG k X.A)(ha:PA X (e::es) (gM X.K ga))(hg:Gl X x:=by rfl)(hn:ps.length=n:=by rfl)
  (C2:(x == ("__debug__" : Str))=false:=by decide) (he:mV e es X:=by exact ay rfl) (hpl:(backTo pos (starEach es X.env)).any (·.1)=false:=by exact aJ rfl) :
  PE X (.Call (.Name x p) (e::es) [] pos) (ax X.K (dH mf n ga)):=by
 subst hn;let⟨f,fd,F,kp,B,M⟩:=F;exact PE.imp (oO F hr hg M kp B .nil pV ha C2 he hpl) JA8
def iu {X:Cx}{k:Nat}{c nm:Str}{C:Aa}{ps:Tn}{mf:MW}{o e:As}{es:Tj}{fo:FE}{ga:FA}{apos pos:Pos}{n:Nat}{pl:Sem Ad}(N:mO X.K X.mg c C)(F:bW X.prog X.w X.K X.mg X.base k nm C ps mf)(hr:bG k X.A)(ho:PE X o (ax X.K fo))(ha:PA X (e::es) (gM X.K ga))(hn:ps.length=n:=by rfl)
  (he:mV e es X:=by exact ay rfl) (hpl:(backTo pos (starEach es X.env)).any (·.1)=false:=by exact aJ rfl)
  (ht:eval (.Call (.Attribute o nm apos) (e::es) [] pos) X.env=(do
   let ov ←eval o X.env
   standAt apos.atName
   let (mth,first) ←holding [ov] (getMethod ov nm pl)
   callWith pos mth first (backTo pos (starEach (e::es) X.env)) (backToKw pos (keywordEach [] X.env))):=by rfl) :
  PE X (.Call (.Attribute o nm apos) (e::es) [] pos) (ax X.K (bv c nm mf n fo ga)):=by
 subst hn;let⟨f,fd,F,B,M⟩:=F;exact PE.imp (JEu ho N.cl M F hr B .nil pV ha he hpl ht) (ym N)
def gk {X:Cx}{k:Nat}{c nm:Str}{C:Aa}{ps:Tn}{mf:MW}{o:As}{fo:FE}{apos pos:Pos}{n:Nat}{pl:Sem Ad}(N:mO X.K X.mg c C)(F:bW X.prog X.w X.K X.mg X.base k nm C ps mf)(hr:bG k X.A)(ho:PE X o (ax X.K fo))(hn:ps.length=n:=by rfl)
  (ht:eval (.Call (.Attribute o nm apos) [] [] pos) X.env=(do
   let ov ←eval o X.env
   standAt apos.atName
   let (mth,first) ←holding [ov] (getMethod ov nm pl)
   callWith pos mth first (backTo pos (starEach [] X.env)) (backToKw pos (keywordEach [] X.env))):=by rfl) :
  PE X (.Call (.Attribute o nm apos) [] [] pos) (ax X.K (bv c nm mf n fo ai)):=by
 subst hn;let⟨f,fd,F,B,M⟩:=F;exact PE.imp (JCe ho N.cl M F hr B .nil pV ht) λh=>JBb (ym N h) λx H1 ⟨a,dx,fs,e,ea,l,t⟩=>{a,dx,fs,e,ea,l,BM t}
def oK {X:Cx}{k:Nat}{c:Str}{C:Aa}{ps:Tn}{mf:MW}{e:As}{es:Tj}{ga:FA}{p pos:Pos}{n:Nat}(N:mO X.K X.mg c C)(hk:PySem.W.makesIn X.K C=true)(hp:PySem.W.keepIn X.K (.ref C)=true)(F:bW X.prog X.w X.K X.mg X.base k "__init__" C ps mf)(hr:bG (k+1) X.A)(ha:PA X (e::es) (gM X.K ga))(hg:Gl X c:=by rfl)(hn:ps.length=n:=by rfl)
  (C2:(c == ("__debug__" : Str))=false:=by decide) (he:mV e es X:=by exact ay rfl) (hpl:(backTo pos (starEach es X.env)).any (·.1)=false:=by exact aJ rfl):PE X (.Call (.Name c p) (e::es) [] pos) (ax X.K (eK c mf n ga)):=by
 subst hn;let⟨f,fd,F,B,M⟩:=F;exact PE.imp (JEv {hk,M.at_,M.fn,hp} F hr hg N.mg B .nil pV ha C2 he hpl) (JA4 N)
def J7 {X:Cx}{kx vx tg iter:As}{f1 f2:FE}{fi:FI}{g:FG}{p pos cp tp:Pos}{x1:Nat}{scope:Scope}(ix:R4 Nat)(own caps:Tn)(hc:X.calm=true)(hg:Gl X "dict")(hm:X.mg "dict" = none)(n:aH X.env.scope scope own caps)(hi:PI X tg iter (qV X.K fi))
  (hb:∀cl C s₂ H₂ fp,PG (aD X scope cl C s₂ H₂ fp (own++caps)) tg (nP X.K g)/\PE (aD X scope cl C s₂ H₂ fp (own++caps)) kx (ax X.K f1)/\PE (aD X scope cl C s₂ H₂ fp (own++caps)) vx (ax X.K f2))
  (CB:ix.map (λi=>X.N[i]?)=caps.map some:=by rfl)
  (hs:∀x,foldedSetIterable iter X.env x=pure x:=by intro _;rfl) (Cj:jk kx=false:=by rfl) (JS:jk vx=false:=by rfl):PE X (.Call (.Name "dict" p) [.ListComp (.Tuple [kx,vx] x1 tp) [{tg,iter,[],0}] scope cp] [] pos) (ax X.K (Lg ix own.length fi g f1 f2)):=by
 refine PE.imp (dA (nG hc) hg hm ∅ (jf (pU (ix:=ix) hc n ‹Av List.length CB› (λj i y h1 h2=>?_) hi (λcl C s₂ H₂ fp=>{(hb cl C s₂ H₂ fp).1,mK.imp u4 BI,Ct (jf (hb cl C s₂ H₂ fp).2.1 (jf (hb cl C s₂ H₂ fp).2.2 pZ (ay JS)) (ay Cj))}) hs) pZ)) (M8 rfl);have:=Av (λl=>l[j]?) CB
 rwa[By,h1,h2,EY] at this
 exact Option.some.inj this
def sX {X:Cx}{e tg iter:As}{fa fo:FE}{g:FG}{pos:Pos}{scope:Scope}(ix:R4 Nat)(own caps:Tn)(hc:X.calm=true)(n:aH X.env.scope scope own caps)(hi:PE X iter (ax X.K fo))
  (hb:∀cl C s₂ H₂ fp,PG (aD X scope cl C s₂ H₂ fp (own++caps)) tg (nP X.K g)/\mK (aD X scope cl C s₂ H₂ fp (own++caps)) [] (eN X.K dP)/\PE (aD X scope cl C s₂ H₂ fp (own++caps)) e (ax X.K fa))
  (CB:ix.map (λi=>X.N[i]?)=caps.map some:=by rfl)
  (hs:∀x,foldedSetIterable iter X.env x=pure x:=by intro _;rfl):PE X (.ListComp e [{tg,iter,[],0}] scope pos) (ax X.K (kz ix own.length fo g fa)):=by
 refine PE.imp (pU (ix:=ix) hc n ‹Av List.length CB› (λj i y h1 h2=>?_) (yB hi) hb hs) (JA6 rfl);have:=Av (λl=>l[j]?) CB
 rwa[By,h1,h2,EY] at this
 exact Option.some.inj this
end R
def j8 {K:Ax}{T:String}(h1:PySem.W.kitOne K (.type "NoneType") (.type T)=some ("NoneType" == T || ("NoneType" == "bool" && T == "int")))
  (h2:PySem.W.kitOne K (.type "bool") (.type T)=some ("bool" == T || ("bool" == "bool" && T == "int"))) (h3:PySem.W.kitOne K (.type "int") (.type T)=some ("int" == T || ("int" == "bool" && T == "int")))
  (h4:PySem.W.kitOne K (.type "str") (.type T)=some ("str" == T || ("str" == "bool" && T == "int"))) (h5:PySem.W.kitOne K (.type "tuple") (.type T)=some ("tuple" == T || ("tuple" == "bool" && T == "int")))
  (h6:PySem.W.kitOne K (.type "list") (.type T)=some ("list" == T || ("list" == "bool" && T == "int"))) (h7:PySem.W.kitOne K (.type "dict") (.type T)=some ("dict" == T || ("dict" == "bool" && T == "int"))):oe K T:=λt ht=>by
 rwa[BV,EB,or_false] at ht;rcases ht with rfl|rfl|rfl|rfl|rfl|rfl|rfl <;> assumption
def zY :oe K "int":=j8 rfl rfl rfl rfl rfl rfl rfl
def qd :oe K "bool":=j8 rfl rfl rfl rfl rfl rfl rfl
def vt :oe K "tuple":=j8 rfl rfl rfl rfl rfl rfl rfl
def qc :oe K "list":=j8 rfl rfl rfl rfl rfl rfl rfl
def xk :oe K "dict":=j8 rfl rfl rfl rfl rfl rfl rfl
def JAc:bootBuiltins "int" = some (.type "int"):=by decide
def qG:bootBuiltins "bool" = some (.type "bool"):=by decide
def wg:bootBuiltins "tuple" = some (.type "tuple"):=by decide
def qF:bootBuiltins "list" = some (.type "list"):=by decide
def xI:bootBuiltins "dict" = some (.type "dict"):=by decide
def KO {H:Hp}{a:Aa}{ns:Th}{mf:MF}(F0:Ee H)(hS:iM K H a (ns.map V.int))(h:mf [.fl (ns.map .int)]=some (.bl true)):AG K 1 mf [.ref a] H (λv _=>v=.bl true) λ_ _ _=>False:=by
 refine{_,_,rfl,?_,h,λv H' _ r=>by simpa only[ak] using r};have rInts:∀{ns:Th},RelDs K H (ns.map .int) (ns.map V.int):=λ{ns}=>by
  induction ns with
  |nil=>rwa[Dj,RelDs]
  |cons n ns ih=>rwa[BH,RelDs];exact{_,_,rfl,by rwa[ak],ih}
 rwa[RelDs];refine{_,_,rfl,?_,rfl};rwa[ak];refine{a,_,rfl,?_,rInts};rcases hS with(hS|⟨o,hS⟩)|hS
 ·rcases F0 a with z|⟨o,xs,z⟩ <;> rw[hS] at z <;> cases z
 ·exact .inl {o,hS}
 ·exact .inr (.inr hS)
namespace R
end R
@[irreducible] def ZE (X:Cx)(e:As)(t:TE):Prop:=L2.PE X e t
@[irreducible] def ZT (X:Cx)(e:As)(t:TT):Prop:=L2.PT X e t
@[irreducible] def ZW (X:Cx)(e:As)(t:TT):Prop:=L2.PW X e t
@[irreducible] def ZA (X:Cx)(e:Tj)(t:TA):Prop:=L2.PA X e t
@[irreducible] def ZS (X:Cx)(e:B8)(t:TS):Prop:=L2.PS X e t
@[irreducible] def AD (X:Cx)(e:Tk)(t:TS):Prop:=L2.oG X e t
@[irreducible] def ZG (X:Cx)(e:As)(t:TG):Prop:=L2.PG X e t
@[irreducible] def Pv (X:Cx)(e:Tj)(t:Ep):Prop:=L2.Er X e t
@[irreducible] def ZO (X:Cx)(e:AA As)(t:TO):Prop:=L2.PO X e t
@[irreducible] def Ed (X:Cx)(e:Tj)(t:TT):Prop:=HW.mK X e t
@[irreducible] def ZI (X:Cx)(tg iter:As)(t:TI):Prop:=L2.PI X tg iter t
section
variable {X:Cx}{a b e:As}{es:Tj}{fa fb:FE}{ga:FA}{pos p p2:Pos}{x:Str}
def ag (i:Nat)(hN:X.N[i]?=some x:=by rfl)(hv:Pw X.env.scope x:=by first|exact Or.inl rfl|exact Or.inr (Or.inl rfl)|exact Or.inr (Or.inr rfl))(hd:(x == ("__debug__" : Str))=false:=by decide)
  (FV:(x == ("__classdict__" : Str))=false:=by decide):ZE X (.Name x pos) (ax X.K (ae i)):=by
 exists PE.imp (Kk hN hv hd FV) JG4
def al {i j}:ZE X (.Constant (.int i) j pos) (ax X.K (fK (.int i))):=by exists R.al
def lG {i j}:ZE X (.Constant (.bool i) j pos) (ax X.K (fK (.bl i))):=by exists PE.imp ND (j2 λ_ _=>by rwa[av,ak])
def gN {i j}:ZE X (.Constant (.str i) j pos) (ax X.K (fK (.str i))):=by exists PE.imp Kl (j2 λ_ _=>by rwa[av,ak])
def HU {j}:ZE X (.Constant .none j pos) (ax X.K (fK .non)):=by exists PE.imp wY (j2 λ_ _=>by rwa[av,ak])
def cZ (ha:ZE X a (ax X.K fa))(hb:ZE X b (ax X.K fb)):ZE X (.BinOp a .Add b pos) (ax X.K (aw dQ fa fb)):=by exists PE.imp (pT ((KA.or (w5.or (JE3.or Kz))).or JE4) ha hb) (gL Ld)
def B9 (ha:ZE X a (ax X.K fa))(hb:ZE X b (ax X.K fb)):ZE X (.BinOp a .Sub b pos) (ax X.K (aw zy fa fb)):=by exists PE.imp (pT Kt ha hb) (gL NW)
def rO (ha:ZE X a (ax X.K fa))(hb:ZE X b (ax X.K fb)):ZE X (.BinOp a .Mult b pos) (ax X.K (aw p5 fa fb)):=by exists PE.imp (pT Kw ha hb) (gL NZ)
def jF (ha:ZE X a (ax X.K fa))(hb:ZE X b (ax X.K fb)):ZE X (.BinOp a .FloorDiv b pos) (ax X.K (aw jr fa fb)):=by exists PE.imp (pT JE2 ha hb) (gL N8)
def da (ha:ZE X a (ax X.K fa))(hb:ZE X b (ax X.K fb)):ZE X (.BinOp a .Mod b pos) (ax X.K (aw c6 fa fb)):=by exists PE.imp (pT Kx ha hb) (gL N0)
def Cb (ha:ZE X a (ax X.K fa))(hb:ZE X b (ax X.K fb)):ZE X (.BinOp a .Pow b pos) (ax X.K (aw qW fa fb)):=by exists PE.imp (pT Ku ha hb) (gL NX)
def Nv (ha:ZE X a (ax X.K fa))(hb:ZE X b (ax X.K fb)):ZE X (.BinOp a .BitOr b pos) (ax X.K (aw (LN (!HS.bt X.w)) fa fb)):=by exists PE.imp (pT JBu ha hb) (gL Qc)
def yv (ha:ZE X a (ax X.K fa)):ZE X (.UnaryOp .USub a pos) (ax X.K (jM xb fa)):=by exists R.yv ha
def Cc (ha:ZE X a (ax X.K fa)):ZE X (.UnaryOp .Not a pos) (ax X.K (rq fa)):=by exists PE.imp (Kn ha) JF6
def PZ (hu:X.A.units+64<cLine)(ha:ZE X a (ax X.K fa))(hb:ZE X b (ax X.K fb)):ZE X (.Compare a [.Eq] [b] pos) (ax X.K (aw (kX false) fa fb)):=by exists PE.imp (oN (sZ hu) ha hb (eV _)) (gL F6)
def PY (hu:X.A.units+64<cLine)(ha:ZE X a (ax X.K fa))(hb:ZE X b (ax X.K fb)):ZE X (.Compare a [.NotEq] [b] pos) (ax X.K (aw (kX true) fa fb)):=by exists PE.imp (oN (w4 hu) ha hb (eV _)) (gL F6)
def Ce {rest:Tj}(ha:ZE X a (ax X.K fa))(hb:ZE X (.BoolOp .And (b::rest) pos) (ax X.K fb)):ZE X (.BoolOp .And (a::b::rest) pos) (ax X.K (vR fa fb)):=by exists PE.imp (Ks ha hb) JGm
def PX {rest:Tj}(ha:ZE X a (ax X.K fa))(hb:ZE X (.BoolOp .Or (b::rest) pos) (ax X.K fb)):ZE X (.BoolOp .Or (a::b::rest) pos) (ax X.K (OV fa fb)):=by exists PE.imp (NC ha hb) M0
def yu {op}(ha:ZE X a (ax X.K fa)):ZE X (.BoolOp op [a] pos) (ax X.K fa):=by exists Km ha
def am:ZA X [] (gM X.K ai):=by exists PA.imp pZ BM
def ah (ha:ZE X e (ax X.K fa))(hr:ZA X es (gM X.K ga))(hs:mV e es X:=by exact ay rfl):ZA X (e::es) (gM X.K (af fa ga)):=by exists PA.imp (jf ha hr hs) JC6
def c9 {x1}(h:ZA X es (gM X.K ga)):ZE X (.Tuple es x1 pos) (ax X.K (bZ ga)):=by exists PE.imp (Ct h) JG5
def gO (h:ZA X es (gM X.K ga)):ZE X (.List es pos) (ax X.K (bV ga)):=by exists PE.imp (Cv h) JF8
def cb (ha:ZE X a (ax X.K fa)):ZE X a (ax X.K (c7 fa)):=by exists PE.imp (wZ ha) HI
def bD (ha:ZE X a (ax X.K fa))(hb:ZE X b (ax X.K fb))(hs:uh b:=by intro _ _;rfl):ZE X (.Subscript a b pos) (ax X.K (aw bz fa fb)):=by exists PE.imp (HY C9 ha hb hs) (gL Qf)
def zI:ZO X none (uN X.K jG):=by exists PO.imp JEr JA3
def uR (ha:ZE X a (ax X.K fa)):ZO X (some a) (uN X.K (iW fa)):=by exists R.uR ha
def No {lo hi:AA As}{fl fh:FO}(ha:ZE X a (ax X.K fa))(hl:ZO X lo (uN X.K fl))(hh:ZO X hi (uN X.K fh)):ZE X (.Subscript a (.Slice lo hi none p2) pos) (ax X.K (Gd fa fl fh)):=by exists PE.imp (pS Bv ha hl hh) JF1
def JY {lo hi:AA As}{fl fh:FO}(ha:ZE X a (ax X.K fa))(hl:ZO X lo (uN X.K fl))(hh:ZO X hi (uN X.K fh)):ZE X (.Subscript a (.Slice lo hi none p2) pos) (ax X.K (Ge fa fl fh)):=by exists PE.imp (pS Bv ha hl hh) MZ
def j3 (hg:Gl X "len")(hm:X.mg "len" = none)(ha:ZA X (e::es) (gM X.K ga))(he:mV e es X:=by exact ay rfl)(hpl:(backTo pos (starEach es X.env)).any (·.1)=false:=by exact aJ rfl) :
  ZE X (.Call (.Name "len" p) (e::es) [] pos) (ax X.K (dR fW ga)):=by
 exists PE.imp (j5 ub hg hm PySem.boot_len ha (he:=he) (hpl:=hpl)) (jE N1)
def HR (hc:X.calm=true)(hg:Gl X "set")(hm:X.mg "set" = none)(ha:ZA X (e::es) (gM X.K ga))(he:mV e es X:=by exact ay rfl)(hpl:(backTo pos (starEach es X.env)).any (·.1)=false:=by exact aJ rfl) :
  ZE X (.Call (.Name "set" p) (e::es) [] pos) (ax X.K (dR (wQ (!HS.bt X.w)) ga)):=by
 exists PE.imp (dA (JAb hc) hg hm ∅ ha (he:=he) (hpl:=hpl)) (jE K7)
def JB4 (hc:X.calm=true)(hg:Gl X "sorted")(hm:X.mg "sorted" = none)(ha:ZA X (e::es) (gM X.K ga))(he:mV e es X:=by exact ay rfl)(hpl:(backTo pos (starEach es X.env)).any (·.1)=false:=by exact aJ rfl) :
  ZE X (.Call (.Name "sorted" p) (e::es) [] pos) (ax X.K (dR (kL (!HS.bt X.w)) ga)):=by
 exists PE.imp (j5 (t8 hc) hg hm ∅ ha (he:=he) (hpl:=hpl)) (jE JAo)
def Cd (hc:X.calm=true)(hg:Gl X "dict")(hm:X.mg "dict" = none)(ha:ZA X (e::es) (gM X.K ga))(he:mV e es X:=by exact ay rfl)(hpl:(backTo pos (starEach es X.env)).any (·.1)=false:=by exact aJ rfl) :
  ZE X (.Call (.Name "dict" p) (e::es) [] pos) (ax X.K (dR qu ga)):=by
 exists PE.imp (dA (nG hc) hg hm ∅ ha (he:=he) (hpl:=hpl)) (jE Lc)
def kM {d:D}(h:iL X.K X.mg x d)(hg:Gl X x:=by rfl)(hd:(x == ("__debug__" : Str))=false:=by decide):ZE X (.Name x pos) (ax X.K (fK d)):=by exists R.kM h hg hd
def JC8 (hg:Gl X "tuple")(hm:X.mg "tuple" = none)(ha:ZA X (e::es) (gM X.K ga))(he:mV e es X:=by exact ay rfl)(hpl:(backTo pos (starEach es X.env)).any (·.1)=false:=by exact aJ rfl) :
  ZE X (.Call (.Name "tuple" p) (e::es) [] pos) (ax X.K (dR zw ga)):=by
 exists PE.imp (dA lA hg hm ∅ ha (he:=he) (hpl:=hpl)) (jE NV)
def mY (hg:Gl X "list")(hm:X.mg "list" = none)(ha:ZA X (e::es) (gM X.K ga))(he:mV e es X:=by exact ay rfl)(hpl:(backTo pos (starEach es X.env)).any (·.1)=false:=by exact aJ rfl) :
  ZE X (.Call (.Name "list" p) (e::es) [] pos) (ax X.K (dR fO ga)):=by
 exists PE.imp (dA t9 hg hm ∅ ha (he:=he) (hpl:=hpl)) (jE K9)
def pK {T:String}{y:Str}(hT:oe X.K T)(hg:Gl X "isinstance")(hm:X.mg "isinstance" = none)(hgT:Gl X y)(hmT:X.mg y=none)(hvT:bootBuiltins y=some (.type T))(ha:ZE X e (ax X.K fa))(hn:y≠"__name__":=by decide)(C2:(y == ("__debug__" : Str))=false:=by decide)
  (he:starEach (e::[.Name y p2]) X.env=(false,eval e X.env)::starEach [.Name y p2] X.env:=by exact ay rfl) (hpl:(backTo pos (starEach [.Name y p2] X.env)).any (·.1)=false:=by rfl) :
  ZE X (.Call (.Name "isinstance" p) [e,.Name y p2] [] pos) (ax X.K (jM (eu T) fa)):=by
 exists PE.imp (j5 (JCh hT) hg hm ∅ (jf ha (jf (JEx (v:=.ty T) hgT hmT hvT rfl hn C2) pZ rfl) he) (he:=he) (hpl:=hpl)) JGa
def iR (ha:ZE X a (ax X.K fa))(he:∀whole,isTrue a X.env whole=(do let v ←whole;standAt a.pos;holding [v] (truthy v)):=by intro _;rfl):ZT X a (eN X.K (dG fa)):=by exists PT.imp (JB6 ha he) JG7
def Mw (ha:ZE X a (ax X.K fa))(hb:ZE X b (ax X.K fb)):ZT X (.Compare a [.Lt] [b] pos) (eN X.K (fB (aw NM fa fb))):=by exists R.lx NE Qd ha hb (eV _)
def Mx (ha:ZE X a (ax X.K fa))(hb:ZE X b (ax X.K fb)):ZT X (.Compare a [.LtE] [b] pos) (eN X.K (fB (aw NP fa fb))):=by exists R.lx NF Qe ha hb (eV _)
def PH (ha:ZE X a (ax X.K fa))(hb:ZE X b (ax X.K fb)):ZT X (.Compare a [.Gt] [b] pos) (eN X.K (fB (aw OT fa fb))):=by exists R.lx NG Qg ha hb (eV _)
def pw (hu:X.A.units+64<cLine)(ha:ZE X a (ax X.K fa))(hb:ZE X b (ax X.K fb)):ZT X (.Compare a [.Eq] [b] pos) (eN X.K (fB (aw (kX false) fa fb))):=by exists R.lx (sZ hu) F6 ha hb (eV _)
def Ja (hu:X.A.units+64<cLine)(ha:ZE X a (ax X.K fa))(hb:ZE X b (ax X.K fb)):ZT X (.Compare a [.NotEq] [b] pos) (eN X.K (fB (aw (kX true) fa fb))):=by exists R.lx (w4 hu) F6 ha hb (eV _)
def MA (hu:X.A.units+64<cLine)(ha:ZE X a (ax X.K fa))(hb:ZE X b (ax X.K fb))(hm:behindInMarks .In b=false:=by rfl):ZT X (.Compare a [.In] [b] pos) (eN X.K (fB (aw (F1 false) fa fb))):=by exists R.lx (zP.or (zQ hu)) N5 ha hb hm
def yf {j}(ha:ZE X a (ax X.K fa)):ZT X (.Compare a [.Is] [.Constant .none j p] pos) (eN X.K (fB (jM (Af false .non) fa))):=by exists R.My (.inl {rfl,rfl}) JBv ha wY (eV _)
def Bf {j}(ha:ZE X a (ax X.K fa)):ZT X (.Compare a [.IsNot] [.Constant .none j p] pos) (eN X.K (fB (jM (Af true .non) fa))):=by exists R.My (.inl {rfl,rfl}) u9 ha wY (eV _)
variable {ta tb:FT}{rest:Tj}
def pq (ha:ZT X a (eN X.K ta)):ZT X (.UnaryOp .Not a pos) (eN X.K (d8 ta)):=by exists PT.imp (Kd ha) JDq
def xQ (ha:ZT X a (eN X.K ta))(hb:ZW X (.BoolOp .And (b::rest) pos) (eN X.K tb)):ZW X (.BoolOp .And (a::b::rest) pos) (eN X.K (mh ta tb)):=by exists PW.imp (JFz ha hb) EQ
def o8 (ha:ZT X a (eN X.K ta))(hb:ZW X (.BoolOp .Or (b::rest) pos) (eN X.K tb)):ZW X (.BoolOp .Or (a::b::rest) pos) (eN X.K (gE ta tb)):=by exists PW.imp (Ny ha hb) Jz
def wu (ha:ZT X a (eN X.K ta)):ZW X (.BoolOp .And [a] pos) (eN X.K ta):=by exists JDb ha
def l7 (ha:ZT X a (eN X.K ta)):ZW X (.BoolOp .Or [a] pos) (eN X.K ta):=by exists JFy ha
def AF (h:ZW X a (eN X.K ta)):ZT X a (eN X.K ta):=by exists h.pt
def J4 {c:As}(hc:ZT X c (eN X.K ta))(ha:ZE X a (ax X.K fa))(hb:ZE X b (ax X.K fb)):ZE X (.IfExp c a b pos) (ax X.K (Iu ta fa fb)):=by exists PE.imp (JCg hc ha hb) M5
variable {st:B8}{sts aa bb:Tk}{sa sb:FS}{c tg iter:As}
def bJ:AD X [] (fA X.K aO):=by exists oG.imp JEo JDt
def ao (h1:ZS X st (fA X.K sa))(h2:AD X sts (fA X.K sb)):AD X (st::sts) (fA X.K (aF sa sb)):=by exists oG.imp (JB7 h1 h2) JF2
def aB (h1:ZS X st (fA X.K sa)):AD X [st] (fA X.K sa):=by exists Fa h1
def g9:ZS X st (fA X.K j0):=by exists R.g9
def dj (he:ZE X e (ax X.K fa))(hs:swapsWith e none pos.line X.env=pure false:=by rfl):ZS X (.Expr e pos) (fA X.K (bK fa)):=by exists PS.imp (JEp he hs) JDy
def aX (he:ZE X e (ax X.K fa)):ZS X (.Return (some e) pos) (fA X.K (bB fa)):=by exists PS.imp (Kf he) JF4
def dz (hc:ZT X c (eN X.K ta))(ha:AD X aa (fA X.K sa))(hb:AD X bb (fA X.K sb)):ZS X (.If c aa bb pos) (fA X.K (f8 ta sa sb)):=by exists PS.imp (Nz hc ha hb) JGb
def aV (i:Nat){pos':Pos}(hN:X.N.Nodup)(he:ZE X e (ax X.K fa))(hi:X.N[i]?=some x:=by rfl)(hx:GM X.env.scope x:=by first|exact Or.inl rfl|exact Or.inr rfl)(hs:swapsWith e (some (.Name x pos')) pos.line X.env=pure false:=by rfl)(hf:X.fn x=true\/X.env.scope.names.lookup x=some .local:=by first|exact .inl rfl|exact .inr rfl) :
  ZS X (.Assign [.Name x pos'] e pos) (fA X.K (aR i fa)):=by
 exists PS.imp (Ke hN hi hx he hs hf) BJ
variable {g:FG}{gs:IF}{fi:FI}
def eZ (i:Nat)(hN:X.N.Nodup)(hi:X.N[i]?=some x:=by rfl)(hx:GM X.env.scope x:=by first|exact Or.inl rfl|exact Or.inr rfl)(hf:X.fn x=true\/X.env.scope.names.lookup x=some .local:=by first|exact .inl rfl|exact .inr rfl):ZG X (.Name x pos) (nP X.K (bU i)):=by exists PG.imp (JEt hN hi hx hf) JGf
def tM:Pv X [] (uO X.K f9):=by exists Er.imp JEs JA5
def gl (h1:ZG X e (nP X.K g))(h2:Pv X es (uO X.K gs))(hs:(assignEach (e::es) X.env).map (·.2)=assign e X.env::(assignEach es X.env).map (·.2):=by exact wn rfl):Pv X (e::es) (uO X.K (bm g gs)):=by exists Er.imp (JCd h1 h2 hs) zF
def F4 {k n:Nat}(hc:X.calm=true)(h:Pv X es (uO X.K gs))(hn:(assignEach es X.env).length=n:=by rfl)(Cj:(assignEach es X.env).findIdx? (·.1)=none:=by rfl):ZG X (.Tuple es k pos) (nP X.K (vN n gs)):=by exists PG.imp (Ki hc h hn Cj) JGe
def Qb (hu : X.A.units + 64 < cLine) (ha : ZE X a (ax X.K fa)) (hb : ZE X b (ax X.K fb)) (hq : ∀ v, assign (.Subscript a b pos) X.env v = (do
      let ov ← holding [v] (eval a X.env)
      let iv ← holding [v, ov] (eval b X.env)
      standAt pos
      holding [v, ov, iv] (setItem ov iv v)
      release [v, ov, iv] []) := by intro _; rfl) : ZG X (.Subscript a b pos) (nP X.K (tO fa fb)) := by
  exists PG.imp (Kj ha hb (wp.or JBi (JBj ∅)) hq) JDx
def i4 (ha:ZE X a (ax X.K fa)):ZI X tg a (BW X.K (cq fa)):=by exists PI.imp (yB (wZ ha)) JDu
def Dh (hg:Gl X "range")(hm:X.mg "range" = none)(ha:ZE X a (ax X.K fa))(hs:starEach [a] X.env=[(false,eval a X.env)]:=by exact ay rfl):ZI X tg (.Call (.Name "range" p) [a] [] pos) (BW X.K (oC fa)):=by exists PI.imp (zM hg hm (ah ha am hs) hs) JGc
def JGx (hc:X.calm=true)(hi:ZI X tg iter (qV X.K fi))(hg:ZG X tg (nP X.K g))(hb:AD X aa (fA X.K sa))(hp:PassesOwn (model X.prog X.w) X.A X.env X.xe)(hs:∀x,foldedSetIterable iter X.env x=pure x:=by intro _;rfl):ZS X (.For tg iter aa [] pos) (fA X.K (iV fi g sa)):=by exists PS.imp (Ck hp hc hi hg hb hs) yn
def mj (hc:X.calm=true)(hi:ZI X tg iter (BW X.K fi))(hg:ZG X tg (nP X.K g))(hb:AD X aa (fA X.K sa))(hp:PassesOwn (model X.prog X.w) X.A X.env X.xe)(hs:∀x,foldedSetIterable iter X.env x=pure x:=by intro _;rfl):ZS X (.For tg iter aa [] pos) (fA X.K (iV fi g sa)):=by exists PS.imp (Ck hp hc hi hg hb hs) JGg
def HG (he:ZE X e (ax X.K fa))(hg:ZG X tg (nP X.K g))(hs:swapsWithSole [tg] e pos.line X.env=pure false:=by rfl)(hw:swappedStores [tg] e X.env=pure none:=by rfl)(h1:(assignEach [tg] X.env).map (·.2)=[assign tg X.env]:=by rfl):ZS X (.Assign [tg] e pos) (fA X.K (zE fa g)):=by exists PS.imp (Kh he hg hs hw h1) JGl
def mE:Ed X [] (eN X.K dP):=by exists R.mK.imp u4 BI
def Of (h:ZT X c (eN X.K ta)):Ed X [c] (eN X.K ta):=by exists JCa h
def iw {ifs:Tj}{scope:Scope}(ix:R4 Nat)(own caps:Tn)(hc:X.calm=true)(n:aH X.env.scope scope own caps)(hi:ZI X tg iter (BW X.K fi))
  (hb:∀cl C s₂ H₂ fp,ZG (aD X scope cl C s₂ H₂ fp (own++caps)) tg (nP X.K g)/\Ed (aD X scope cl C s₂ H₂ fp (own++caps)) ifs (eN X.K ta)/\ZE (aD X scope cl C s₂ H₂ fp (own++caps)) e (ax X.K fa))
  (CB:ix.map (λi=>X.N[i]?)=caps.map some:=by rfl)
  (hs:∀x,foldedSetIterable iter X.env x=pure x:=by intro _;rfl):ZE X (.ListComp e [{tg,iter,ifs,0}] scope pos) (ax X.K (dE ix own.length fi g ta fa)):=by
 exists R.iw ix own caps hc n hi hb CB hs
def wT (i:Nat){py DS:Pos}{ifs:Tj}{scope:Scope}(ix:R4 Nat)(own caps:Tn)(hc:X.calm=true)(n:aH X.env.scope scope own caps)(hN:X.N.Nodup)(hi:ZI X tg iter (BW X.K fi))
  (hb:∀cl C s₂ H₂ fp,ZG (aD X scope cl C s₂ H₂ fp (own++caps)) tg (nP X.K g)/\Ed (aD X scope cl C s₂ H₂ fp (own++caps)) ifs (eN X.K ta)/\ZE (aD X scope cl C s₂ H₂ fp (own++caps)) e (ax X.K fa))
  (hsw:swapsWith (.ListComp e [{tg,iter,ifs,0}] scope pos) (some (.Name x py)) DS.line X.env=pure true:=by rfl)
  (hy:X.N[i]?=some x:=by rfl) (J8:GM X.env.scope x:=by first|exact Or.inl rfl|exact Or.inr rfl)
  (CB:ix.map (λi=>X.N[i]?)=caps.map some:=by rfl)
  (hs:∀x,foldedSetIterable iter X.env x=pure x:=by intro _;rfl) (hf:X.fn x=true\/X.env.scope.names.lookup x=some .local:=by first|exact .inl rfl|exact .inr rfl) :
  ZS X (.Assign [.Name x py] (.ListComp e [{tg,iter,ifs,0}] scope pos) DS) (fA X.K (aR i (dE ix own.length fi g ta fa))):=by
 exists R.wT i ix own caps hc n hN hi hb hsw hy J8 CB hs hf
end
def okP {P:Aj}{w:An}{K:Ax}{mg:Td}{base:Am}{x:Str}{st:B8}{N ps:Tn}{k:Nat}{b:FS}(d:cH K mg x st ps)(S:aA N ps (aj st))
  (BN:∀(f:Aa) (BG:AU) (A:Ar) (outer:R4 Env) (s:AP) (H:Hp) (E:XK),bG k (A.deeper (envOfC x (aj st) s.heap.objs.size f BG))->AD (jL lf P w K mg base N x (aj st) f BG A outer s H E).nox (bC st) (fA K b)) :
  cm P w K mg base (k+1) x ps (ir N.length b):=by
 exists R.okP d S BN
def bc {X:Cx}{k:Nat}{x:Str}{ps:Tn}{mf:MF}{e:As}{es:Tj}{ga:FA}{p pos:Pos}{n:Nat}(F:cm X.prog X.w X.K X.mg X.base k x ps mf)(hr:bG k X.A)(ha:ZA X (e::es) (gM X.K ga))(hg:Gl X x:=by rfl)(hn:ps.length=n:=by rfl)
  (C2:(x == ("__debug__" : Str))=false:=by decide) (he:mV e es X:=by exact ay rfl) (hpl:(backTo pos (starEach es X.env)).any (·.1)=false:=by exact aJ rfl) :
  ZE X (.Call (.Name x p) (e::es) [] pos) (ax X.K (bn mf n ga)):=by
 exists R.bc F hr ha hg hn C2 he hpl
def kN {X:Cx}{k:Nat}{x:Str}{ps:Tn}{mf:MF}{e:As}{es:Tj}{ga:FA}{p pos:Pos}{n:Nat}(F:cm X.prog X.w X.K X.mg X.base k x ps mf)(hr:bG k X.A)(ha:ZA X (e::es) (gM X.K ga))(hg:Gl X x:=by rfl)(hn:ps.length=n:=by rfl)
  (C2:(x == ("__debug__" : Str))=false:=by decide) (he:mV e es X:=by exact ay rfl) (hpl:(backTo pos (starEach es X.env)).any (·.1)=false:=by exact aJ rfl) :
  ZE X (.Call (.Name x p) (e::es) [] pos) (ax X.K (gU mf n ga)):=by
 exists R.kN F hr ha hg hn C2 he hpl
def okN {P:Aj}{w:An}{K:Ax}{mg:Td}{base:Am}{x:Str}{st:B8}{N ps:Tn}{k:Nat}{b:FS}(d:cH K mg x st ps)(S:aA N ps (aj st))
  (BN:∀(f:Aa) (BG:AU) (A:Ar) (outer:R4 Env) (s:AP) (H:Hp) (E:XK),bG k (A.deeper (envOfC x (aj st) s.heap.objs.size f BG))->AD (jL lf P w K mg base N x (aj st) f BG A outer s H E).nox (bC st) (fA K b)) :
  oh P w K mg base (k+1) x ps (BE N.length b):=by
 exists R.okN d S BN
def oM {X:Cx}{k:Nat}{x:Str}{ps:Tn}{mf:MC}{e:As}{es:Tj}{ga:FA}{p pos:Pos}{n:Nat}(F:oh X.prog X.w X.K X.mg X.base k x ps mf)(hr:bG k X.A)(ha:ZA X (e::es) (gM X.K ga))(hg:Gl X x:=by rfl)(hn:ps.length=n:=by rfl)
  (C2:(x == ("__debug__" : Str))=false:=by decide) (he:mV e es X:=by exact ay rfl) (hpl:(backTo pos (starEach es X.env)).any (·.1)=false:=by exact aJ rfl) :
  ZE X (.Call (.Name x p) (e::es) [] pos) (ax X.K (lQ mf n ga)):=by
 exists R.oM F hr ha hg hn C2 he hpl
def okW {P:Aj}{w:An}{K:Ax}{mg:Td}{base:Am}{x:Str}{st:B8}{N ps:Tn}{k:Nat}{b:FS}(d:cH K mg x st ps)(S:aA N ps (aj st))
  (BN:∀(f:Aa) (BG:AU) (A:Ar) (outer:R4 Env) (s:AP) (H:Hp) (E:XK),bG k (A.deeper (envOfC x (aj st) s.heap.objs.size f BG))->AD (jL lf P w K mg base N x (aj st) f BG A outer s H E).nox (bC st) (fA K b)) :
  og P w K mg base (k+1) x ps (j1 N.length b):=by
 exists R.okW d S BN
def AH {P:Aj}{w:An}{K:Ax}{mg:Td}{base:Am}{nm qual:Str}{C:Aa}{st:B8}{N ps:Tn}{k:Nat}{b:FS}(d:fg K C nm qual st ps)(S:aA N ps (aj st))
  (BN:∀(f:Aa) (BG:AU) (A:Ar) (outer:R4 Env) (s:AP) (H:Hp) (E:XK),bG k (A.deeper (envOfC qual (aj st) s.heap.objs.size f BG))->AD (jL lf P w K mg base N qual (aj st) f BG A outer s H E).nox (bC st) (fA K b)) :
  bW P w K mg base (k+1) nm C ps (j1 N.length b):=by
 exists R.AH d S BN
def jd {X:Cx}{k:Nat}{x:Str}{ps:Tn}{mf:MW}{e:As}{es:Tj}{ga:FA}{p pos:Pos}{n:Nat}(F:og X.prog X.w X.K X.mg X.base k x ps mf)(hr:bG k X.A)(ha:ZA X (e::es) (gM X.K ga))(hg:Gl X x:=by rfl)(hn:ps.length=n:=by rfl)
  (C2:(x == ("__debug__" : Str))=false:=by decide) (he:mV e es X:=by exact ay rfl) (hpl:(backTo pos (starEach es X.env)).any (·.1)=false:=by exact aJ rfl) :
  ZE X (.Call (.Name x p) (e::es) [] pos) (ax X.K (dH mf n ga)):=by
 exists R.jd F hr ha hg hn C2 he hpl
def iu {X:Cx}{k:Nat}{c nm:Str}{C:Aa}{ps:Tn}{mf:MW}{o e:As}{es:Tj}{fo:FE}{ga:FA}{apos pos:Pos}{n:Nat}{pl:Sem Ad}(N:mO X.K X.mg c C)(F:bW X.prog X.w X.K X.mg X.base k nm C ps mf)(hr:bG k X.A)(ho:ZE X o (ax X.K fo))(ha:ZA X (e::es) (gM X.K ga))(hn:ps.length=n:=by rfl)
  (he:mV e es X:=by exact ay rfl) (hpl:(backTo pos (starEach es X.env)).any (·.1)=false:=by exact aJ rfl)
  (ht:eval (.Call (.Attribute o nm apos) (e::es) [] pos) X.env=(do
   let ov ←eval o X.env
   standAt apos.atName
   let (mth,first) ←holding [ov] (getMethod ov nm pl)
   callWith pos mth first (backTo pos (starEach (e::es) X.env)) (backToKw pos (keywordEach [] X.env))):=by rfl) :
  ZE X (.Call (.Attribute o nm apos) (e::es) [] pos) (ax X.K (bv c nm mf n fo ga)):=by
 exists R.iu N F hr ho ha hn he hpl ht
def gk {X:Cx}{k:Nat}{c nm:Str}{C:Aa}{ps:Tn}{mf:MW}{o:As}{fo:FE}{apos pos:Pos}{n:Nat}{pl:Sem Ad}(N:mO X.K X.mg c C)(F:bW X.prog X.w X.K X.mg X.base k nm C ps mf)(hr:bG k X.A)(ho:ZE X o (ax X.K fo))(hn:ps.length=n:=by rfl)
  (ht:eval (.Call (.Attribute o nm apos) [] [] pos) X.env=(do
   let ov ←eval o X.env
   standAt apos.atName
   let (mth,first) ←holding [ov] (getMethod ov nm pl)
   callWith pos mth first (backTo pos (starEach [] X.env)) (backToKw pos (keywordEach [] X.env))):=by rfl) :
  ZE X (.Call (.Attribute o nm apos) [] [] pos) (ax X.K (bv c nm mf n fo ai)):=by
 exists R.gk N F hr ho hn ht
def oK {X:Cx}{k:Nat}{c:Str}{C:Aa}{ps:Tn}{mf:MW}{e:As}{es:Tj}{ga:FA}{p pos:Pos}{n:Nat}(N:mO X.K X.mg c C)(hk:PySem.W.makesIn X.K C=true)(hp:PySem.W.keepIn X.K (.ref C)=true)(F:bW X.prog X.w X.K X.mg X.base k "__init__" C ps mf)(hr:bG (k+1) X.A)(ha:ZA X (e::es) (gM X.K ga))(hg:Gl X c:=by rfl)(hn:ps.length=n:=by rfl)
  (C2:(c == ("__debug__" : Str))=false:=by decide) (he:mV e es X:=by exact ay rfl) (hpl:(backTo pos (starEach es X.env)).any (·.1)=false:=by exact aJ rfl):ZE X (.Call (.Name c p) (e::es) [] pos) (ax X.K (eK c mf n ga)):=by
 exists R.oK N hk hp F hr ha hg hn C2 he hpl
def JDa {X:Cx}{es:Tj}{ga:FA}{p pos:Pos}(hc:X.calm=true)(hg:Gl X "dict")(hm:X.mg "dict" = none)(ha:ZA X (e::es) (gM X.K ga))(he:mV e es X:=by exact ay rfl)(hpl:(backTo pos (starEach es X.env)).any (·.1)=false:=by exact aJ rfl) :
  ZE X (.Call (.Name "dict" p) (e::es) [] pos) (ax X.K (dR n5 ga)):=by
 exists PE.imp (dA (nG hc) hg hm ∅ ha (he:=he) (hpl:=hpl)) (jE JEb)
def hG {X:Cx}{c f:Str}{C:Aa}{o:As}{fo:FE}(N:mO X.K X.mg c C)(hf:ff X.K C f)(ho:ZE X o (ax X.K fo))(hb:attributeBase o f X.env (eval o X.env)=eval o X.env:=by rfl):ZE X (.Attribute o f pos) (ax X.K (db c f fo)):=by exists PE.imp (Kq ho hb) (JGh N hf)
def BC {X:Cx}{c f:Str}{C:Aa}{o e:As}{fo fv:FE}{pos pos':Pos}(N:mO X.K X.mg c C)(hf:ff X.K C f)(ho:ZE X o (ax X.K fo))(hv:ZE X e (ax X.K fv))(hs:swapsWith e (some (.Attribute o f pos')) pos.line X.env=pure false:=by rfl):ZS X (.Assign [.Attribute o f pos'] e pos) (fA X.K (mn c f fo fv)):=by exists PS.imp (Kg ho hv hs) (JDr N hf)
def Nx {X:Cx}{es:Tj}{ga:FA}(h:ZA X es (gM X.K ga)):ZE X (.List es pos) (ax X.K (Eo ga)):=by exists PE.imp (Cv h) M7
def j4 {X:Cx}{a b:As}{fa fb:FE}(ha:ZE X a (ax X.K fa))(hb:ZE X b (ax X.K fb))(hs:uh b:=by intro _ _;rfl):ZE X (.Subscript a b pos) (ax X.K (aw jH fa fb)):=by exists PE.imp (HY C9 ha hb hs) (gL N4)
def HQ {X:Cx}{a:As}{fa:FE}{p2 pos:Pos}{lo hi:AA As}{fl fh:FO}(ha:ZE X a (ax X.K fa))(hl:ZO X lo (uN X.K fl))(hh:ZO X hi (uN X.K fh)):ZE X (.Subscript a (.Slice lo hi none p2) pos) (ax X.K (Dv fa fl fh)):=by exists PE.imp (pS JGu ha hl hh) JF0
def HV {X:Cx}{a b:As}{fa fb:FE}(ha:ZE X a (ax X.K fa))(hb:ZE X b (ax X.K fb))(hs:wo b:=by intro _ _;rfl):ZE X (.Subscript a b pos) (ax X.K (aw Ij fa fb)):=by exists PE.imp (u5 ha hb hs) (gL N3)
def JFt {X:Cx}{es:Tj}{ga:FA}{p pos:Pos}(hg:Gl X "len")(hm:X.mg "len" = none)(ha:ZA X (e::es) (gM X.K ga))(he:mV e es X:=by exact ay rfl)(hpl:(backTo pos (starEach es X.env)).any (·.1)=false:=by exact aJ rfl) :
  ZE X (.Call (.Name "len" p) (e::es) [] pos) (ax X.K (dR zW ga)):=by
 exists PE.imp (j5 ua hg hm PySem.boot_len ha (he:=he) (hpl:=hpl)) (jE La)
def JFv {X:Cx}{e o:As}{fa fb:FE}{apos BA:Pos}(ho:ZE X o (ax X.K fa))(hb:ZE X e (ax X.K fb))(BU:attributeBase o "join" X.env (eval o X.env)=eval o X.env:=by rfl)
  (FQ:((backTo BA (starEach [e] X.env)).all (λx=>!x.1)&&(backToKw BA (keywordEach [] X.env)).all (λx=>x.1.isSome)
   && decide ([e].length+([]:R4 Keyword).length+(if ([]:R4 Keyword).isEmpty then 0 else 1)<30))=true:=by rfl)
  (BS:(apos.endLine == BA.line)=true:=by rfl) (hs:starEach [e] X.env=(false,eval e X.env)::starEach [] X.env:=by exact ay rfl) (CU:(backTo BA (starEach [] X.env)).any (·.1)=false:=by exact aJ rfl) :
  ZE X (.Call (.Attribute o "join" apos) [e] [] BA) (ax X.K (aw rX fa fb)):=by
 exists PE.imp (HZ PySem.F.plainAttrs_str PySem.F.slot_str_join PySem.F.type_str_join FB ho (jf hb pZ hs) BU FQ BS hs CU) (JGk Lb)
def uS {X:Cx}{a b:As}{fa fb:FE}(hu:X.A.units+64<cLine)(ha:ZE X a (ax X.K fa))(hb:ZE X b (ax X.K fb))(hs:GL b:=by intro _ _;rfl):ZE X (.Subscript a b pos) (ax X.K (kq fa fb)):=by exists PE.imp (yD ∅ ha hb hs) JGj
def JFu {X:Cx}{es:Tj}{ga:FA}{p pos:Pos}(hg:Gl X "tuple")(hm:X.mg "tuple" = none)(ha:ZA X (e::es) (gM X.K ga))(he:mV e es X:=by exact ay rfl)(hpl:(backTo pos (starEach es X.env)).any (·.1)=false:=by exact aJ rfl):ZE X (.Call (.Name "tuple" p) (e::es) [] pos) (ax X.K (dR C6 ga)):=by exists PE.imp (dA lA hg hm ∅ ha (he:=he) (hpl:=hpl)) (jE N2)
def JGn {X:Cx}{o e f:As}{fa fb fc:FE}{apos BA:Pos}(hu:X.A.units+64<cLine)(ho:ZE X o (ax X.K fa))(he:ZE X e (ax X.K fb))(hf:ZE X f (ax X.K fc))(m:M2 X o "setdefault" apos e f BA:=by exact{rfl,rfl,rfl,rfl}) :
  ZE X (.Call (.Attribute o "setdefault" apos) [e,f] [] BA) (ax X.K (qm fa fb fc)):=by
 exists PE.imp (yC ∅ ho he hf m) JDs
def Nu {X:Cx}:ZE X (.Dict [] [] pos) (ax X.K Gg):=by exists PE.imp JBq JGi
def Nn {X:Cx}{a b:As}{fa fb:FE}(hu:X.A.units+64<cLine)(ha:ZE X a (ax X.K fa))(hb:ZE X b (ax X.K fb))(hs:GL b:=by intro _ _;rfl):ZE X (.Subscript a b pos) (ax X.K (Du fa fb)):=by exists PE.imp (yD ∅ ha hb hs) JG6
def zH {X:Cx}{es:Tj}{ga:FA}{p pos:Pos}(hc:X.calm=true)(hg:Gl X "sorted")(hm:X.mg "sorted" = none)(ha:ZA X (e::es) (gM X.K ga))(he:mV e es X:=by exact ay rfl)(hpl:(backTo pos (starEach es X.env)).any (·.1)=false:=by exact aJ rfl) :
  ZE X (.Call (.Name "sorted" p) (e::es) [] pos) (ax X.K (dR rL ga)):=by
 exists PE.imp (j5 (t6 hc) hg hm ∅ ha (he:=he) (hpl:=hpl)) (jE JD9)
def JD7 {X:Cx}{elts:Tj}{x1}{pt apos BA:Pos}{o:As}{fa:FE}(ho:ZE X o (ax X.K fa))(BU:attributeBase o "items" X.env (eval o X.env)=eval o X.env:=by rfl)(BS:(apos.endLine == BA.line)=true:=by rfl):ZI X (.Tuple elts x1 pt) (.Call (.Attribute o "items" apos) [] [] BA) (qV X.K (Gc fa)):=by exists PI.imp (JCc (wZ ho) BU BS) JGd
def JFw {X:Cx}{fo f:FE}(h:ZE X e (ax X.K f)):ZE X e (ax X.K (sk fo f)):=by exists PE.imp (JEw h) JDw
def NU {X:Cx}{elts:Tj}{x1}{pt apos BA:Pos}{o:As}{fa:FE}(ho:ZE X o (ax X.K fa))(BU:attributeBase o "items" X.env (eval o X.env)=eval o X.env:=by rfl)(BS:(apos.endLine == BA.line)=true:=by rfl):ZI X (.Tuple elts x1 pt) (.Call (.Attribute o "items" apos) [] [] BA) (qV X.K (ql fa)):=by exists PI.imp (zN ho BU BS) JDv
def J7 {X:Cx}{kx vx tg iter:As}{f1 f2:FE}{fi:FI}{g:FG}{p pos cp tp:Pos}{x1:Nat}{scope:Scope}(ix:R4 Nat)(own caps:Tn)(hc:X.calm=true)(hg:Gl X "dict")(hm:X.mg "dict" = none)(n:aH X.env.scope scope own caps)(hi:ZI X tg iter (qV X.K fi))
  (hb:∀cl C s₂ H₂ fp,ZG (aD X scope cl C s₂ H₂ fp (own++caps)) tg (nP X.K g)/\ZE (aD X scope cl C s₂ H₂ fp (own++caps)) kx (ax X.K f1)/\ZE (aD X scope cl C s₂ H₂ fp (own++caps)) vx (ax X.K f2))
  (CB:ix.map (λi=>X.N[i]?)=caps.map some:=by rfl)
  (hs:∀x,foldedSetIterable iter X.env x=pure x:=by intro _;rfl) (Cj:jk kx=false:=by rfl) (JS:jk vx=false:=by rfl):ZE X (.Call (.Name "dict" p) [.ListComp (.Tuple [kx,vx] x1 tp) [{tg,iter,[],0}] scope cp] [] pos) (ax X.K (Lg ix own.length fi g f1 f2)):=by
 exists R.J7 ix own caps hc hg hm n hi hb CB hs Cj JS
def sX {X:Cx}{e tg iter:As}{fa fo:FE}{g:FG}{pos:Pos}{scope:Scope}(ix:R4 Nat)(own caps:Tn)(hc:X.calm=true)(n:aH X.env.scope scope own caps)(hi:ZE X iter (ax X.K fo))
  (hb:∀cl C s₂ H₂ fp,ZG (aD X scope cl C s₂ H₂ fp (own++caps)) tg (nP X.K g)/\Ed (aD X scope cl C s₂ H₂ fp (own++caps)) [] (eN X.K dP)/\ZE (aD X scope cl C s₂ H₂ fp (own++caps)) e (ax X.K fa))
  (CB:ix.map (λi=>X.N[i]?)=caps.map some:=by rfl)
  (hs:∀x,foldedSetIterable iter X.env x=pure x:=by intro _;rfl):ZE X (.ListComp e [{tg,iter,[],0}] scope pos) (ax X.K (kz ix own.length fo g fa)):=by
 exists R.sX ix own caps hc n hi hb CB hs
def JFs {X:Cx}{es:Tj}{ga:FA}{p pos:Pos}(hc:X.calm=true)(hg:Gl X "list")(hm:X.mg "list" = none)(ha:ZA X (e::es) (gM X.K ga))(he:mV e es X:=by exact ay rfl)(hpl:(backTo pos (starEach es X.env)).any (·.1)=false:=by exact aJ rfl) :
  ZE X (.Call (.Name "list" p) (e::es) [] pos) (ax X.K (dR vm ga)):=by
 exists PE.imp (dA (xG hc) hg hm ∅ ha (he:=he) (hpl:=hpl)) (jE K8)
def Nq {X:Cx}{o:As}{fa:FE}{apos BA p pos:Pos}(hc:X.calm=true)(hg:Gl X "list")(hm:X.mg "list" = none)(ho:ZE X o (ax X.K fa))(hb:attributeBase o "values" X.env (eval o X.env)=eval o X.env:=by rfl)(hl:(apos.endLine == BA.line)=true:=by rfl) :
  ZE X (.Call (.Name "list" p) [.Call (.Attribute o "values" apos) [] [] BA] [] pos) (ax X.K (Aq fa)):=by
 exists PE.imp (JCf hc hg hm ho hb hl (ay rfl)) JF9
def Nr {X:Cx}{a b:As}{fa fb:FE}(hu:X.A.units+64<cLine)(ha:ZE X a (ax X.K fa))(hb:ZE X b (ax X.K fb))(hm:behindInMarks .In b=false:=by rfl):ZE X (.Compare a [.In] [b] pos) (ax X.K (aw (vL false) fa fb)):=by exists PE.imp (oN (CJ hu) ha hb hm) (gL Ip)
def Mz {X:Cx}{a b:As}{fa fb:FE}(hu:X.A.units+64<cLine)(ha:ZE X a (ax X.K fa))(hb:ZE X b (ax X.K fb))(hm:behindInMarks .In b=false:=by rfl):ZT X (.Compare a [.In] [b] pos) (eN X.K (fB (aw (vL false) fa fb))):=by exists R.lx (CJ hu) Ip ha hb hm
def Mv {X:Cx}{a b:As}{fa fb:FE}(hu:X.A.units+64<cLine)(ha:ZE X a (ax X.K fa))(hb:ZE X b (ax X.K fb)):ZT X (.Compare a [.NotEq] [b] pos) (eN X.K (fB (aw (Gq true) fa fb))):=by exists R.lx (Kv hu) N7 ha hb (eV _)
def JC9 {X:Cx}{es:Tj}{ga:FA}{p pos:Pos}(hu:X.A.units+64<cLine)(hc:X.calm=true)(hg:Gl X "dict")(hm:X.mg "dict" = none)(ha:ZA X (e::es) (gM X.K ga))(he:mV e es X:=by exact ay rfl)(hpl:(backTo pos (starEach es X.env)).any (·.1)=false:=by exact aJ rfl) :
  ZE X (.Call (.Name "dict" p) (e::es) [] pos) (ax X.K (dR ss ga)):=by
 exists PE.imp (dA (xH hu hc) hg hm ∅ ha (he:=he) (hpl:=hpl)) (jE JEa)
def Np {X:Cx}{o e f:As}{fa fb fc:FE}{apos BA:Pos}(hu:X.A.units+64<cLine)(ho:ZE X o (ax X.K fa))(he:ZE X e (ax X.K fb))(hf:ZE X f (ax X.K fc))(m:M2 X o "setdefault" apos e f BA:=by exact{rfl,rfl,rfl,rfl}) :
  ZE X (.Call (.Attribute o "setdefault" apos) [e,f] [] BA) (ax X.K (Ap fa fb fc)):=by
 exists PE.imp (yC ∅ ho he hf m) JF3
def Nw {X:Cx}{a:As}{fa:FE}(ha:ZE X a (ax X.K fa)):ZE X a (ax X.K (LQ fa)):=by exists PE.imp ha M6
def Nt {X:Cx}{a b:As}{fa fb:FE}(hu:X.A.units+64<cLine)(ha:ZE X a (ax X.K fa))(hb:ZE X b (ax X.K fb)):ZE X (.Compare a [.Eq] [b] pos) (ax X.K (aw (fS false) fa fb)):=by exists PE.imp (oN (sZ hu) ha hb (eV _)) (gL Dp)
def yg {X:Cx}{a b:As}{fa fb:FE}(hu:X.A.units+64<cLine)(ha:ZE X a (ax X.K fa))(hb:ZE X b (ax X.K fb)):ZT X (.Compare a [.Eq] [b] pos) (eN X.K (fB (aw (fS false) fa fb))):=by exists R.lx (sZ hu) Dp ha hb (eV _)
def pv {X:Cx}{a b:As}{fa fb:FE}(hu:X.A.units+64<cLine)(ha:ZE X a (ax X.K fa))(hb:ZE X b (ax X.K fb)):ZT X (.Compare a [.NotEq] [b] pos) (eN X.K (fB (aw (fS true) fa fb))):=by exists R.lx (w4 hu) Dp ha hb (eV _)
section
variable {X:Cx}{e o:As}{es:Tj}{fa:FE}{ga:FA}{apos BA:Pos}
def mq (ho:ZE X o (ax X.K fa))(ha:ZA X (e::es) (gM X.K ga))(BU:attributeBase o "append" X.env (eval o X.env)=eval o X.env:=by rfl)
  (FQ:((backTo BA (starEach (e::es) X.env)).all (λx=>!x.1)&&(backToKw BA (keywordEach [] X.env)).all (λx=>x.1.isSome)
   && decide ((e::es).length+([]:R4 Keyword).length+(if ([]:R4 Keyword).isEmpty then 0 else 1)<30))=true:=by rfl)
  (BS:(apos.endLine == BA.line)=true:=by rfl) (hs:mV e es X:=by exact ay rfl) (CU:(backTo BA (starEach es X.env)).any (·.1)=false:=by exact aJ rfl) :
  ZE X (.Call (.Attribute o "append" apos) (e::es) [] BA) (ax X.K (nY iK fa ga)):=by
 exists PE.imp (HZ PySem.F.plainAttrs_list PySem.F.slot_list_append PySem.F.type_list_append zT ho ha BU FQ BS hs CU) (M3 Oa)
def sY (ho:ZE X o (ax X.K fa))(BU:attributeBase o "clear" X.env (eval o X.env)=eval o X.env:=by rfl)(BS:(apos.endLine == BA.line)=true:=by rfl) :
  ZE X (.Call (.Attribute o "clear" apos) [] [] BA) (ax X.K (nY rB fa ai)):=by
 exists PE.imp (Kr PySem.F.plainAttrs_list PySem.F.slot_list_clear PySem.F.type_list_clear JBy ho BU BS) (JF7 N9)
end
def Lf {P:Aj}{w:An}{K:Ax}{mg:Td}{base:Am}{x qual:Str}{st:B8}{f:Aa}{fd:FuncData}{N ps:Tn}{k:Nat}{b:FS}(F:o7 K x qual st f fd)(S:aA N ps (aj st))
  (BN:∀(BG:AU) (A:Ar) (outer:R4 Env) (s:AP) (H:Hp) (E:XK),bG k (A.deeper (envOfC qual (aj st) s.heap.objs.size f BG))->AD (jL lf P w K mg base N qual (aj st) f BG A outer s H E).nox (bC st) (fA K b)) :
  cw P w K mg base lf (k+1) f fd ps (AG K ps.length (ir N.length b)):=by
 exists o7.okP F S BN
def Sf {P:R4 AU->Prop}(h:P []):∀us:Te,us.length=0->P us:=λus e=>by rw[zcl.mp e];exact h
theorem LX {P:R4 AU->Prop}{n:Nat}(h:∀a us,us.length=n->P (a::us)):∀us:Te,us.length=n+1->P us:=λus e=>by
 cases us with
 |nil=>cases e
 |cons a us=>exact h a us (Nat.succ.inj e)
def AS {P:R4 AU->Prop}(h:∀a,P [a]):∀us:Te,us.length=1->P us:=LX λa=>Sf (P:=λus=>P (a::us)) (h a)
def zo {P:R4 AU->Prop}(h:∀a b,P [a,b]):∀us:Te,us.length=2->P us:=LX λa=>AS (P:=λus=>P (a::us)) (h a)
def LJ {P:R4 AU->Prop}(h:∀a b c,P [a,b,c]):∀us:Te,us.length=3->P us:=LX λa=>zo (P:=λus=>P (a::us)) (h a)
def Rv {P:R4 AU->Prop}(h:∀a b c d,P [a,b,c,d]):∀us:Te,us.length=4->P us:=LX λa=>LJ (P:=λus=>P (a::us)) (h a)
def Ru {P:R4 AU->Prop}(h:∀a b c d e,P [a,b,c,d,e]):∀us:Te,us.length=5->P us:=LX λa=>Rv (P:=λus=>P (a::us)) (h a)
section
variable {K:Ax}{h:Am}{mg:Td}{x:Str}{st:B8}{ps:Tn}
def FK (K:Ax)(x:Str)(st:B8):Prop:=∃f:Aa,PySem.W.nsIn K mainGlobals x=some (some (.ref f))/\∃(oc:AU) (od:AA Aa) (kV dc pm:AU) (an:AA Aa) (cd ct:AU) (sl:Al (Tg)),
 K.lookup f=some {oc,od,.func (PySem.W.fnOf x x (gr st) (bC st) (aj st) .none kV dc pm an cd ct),sl}/\PySem.W.codeIn K cd x=true/\PySem.W.keepIn K (.ref f)=true
abbrev IG (x:Str)(st:B8)(ps:Tn):Prop:=∀(kV doc pm:AU) (an:AA Aa) (BG ct:AU) (us:Te),us.length=ps.length->bindArgs (PySem.W.fnOf x x (gr st) (bC st) (aj st) .none kV doc pm an BG ct) {us,[]}=pure (ps.zip us)
def FK.at_ (a:FK K x st)(X:K.In h)(G:h.Ns mainGlobals mg)(hb:IG x st ps):cH K mg x st ps:=by let⟨f,a,oc,od,kV,dc,pm,an,cd,ct,sl,l,c,k⟩:=a;have F:=xx l c k;exact{_,_,F,F.binds hb,zb9 X G a}
def AL (K:Ax)(C:Aa)(nm qual:Str)(st:B8):Prop:=∃f:Aa,PySem.W.findIn K (.ref C) nm=some (some (.ref f))/\PySem.W.isFn K (.ref f)=true/\∃(oc:AU) (od:AA Aa) (kV dc pm:AU) (an:AA Aa) (cd ct:AU) (sl:Al (Tg)),
 K.lookup f=some {oc,od,.func (PySem.W.fnOf nm qual (gr st) (bC st) (aj st) .none kV dc pm an cd ct),sl}/\PySem.W.codeIn K cd qual=true/\PySem.W.keepIn K (.ref f)=true
def AL.at_ {C:Aa}{nm qual:Str}(a:AL K C nm qual st)(hb:∀(kV doc pm:AU) (an:AA Aa) (BG ct:AU) (us:Te),us.length=ps.length->bindArgs (PySem.W.fnOf nm qual (gr st) (bC st) (aj st) .none kV doc pm an BG ct) {us,[]}=pure (ps.zip us)):fg K C nm qual st ps:=by let⟨f,a,i,oc,od,kV,dc,pm,an,cd,ct,sl,l,c,k⟩:=a;have F:=xx l c k;exact{_,_,F,F.binds hb,{a,i,k}}
def FK.law {fa:Aa}(a:FK K x st)(X:K.In h)(G:h.Ns mainGlobals mg)(e:mg x=some (.ref fa))(hb:IG x st ps):∃fd,o7 K x x st fa fd/\∀(s:AP) (us:Te),us.length=ps.length->BindsTo s fd {us,[]} (ps.zip us):=by let⟨f,a,oc,od,kV,dc,pm,an,cd,ct,sl,l,c,k⟩:=a;have:=e.symm.trans (zb9 X G a);cases this;exact{_,xx l c k,λs us hl=>.of_eq (hb _ _ _ _ _ _ us hl)}
end
end HW
namespace HW
open L2
section
variable {O:Lo}{U U1:ac}{x y:R}{d:D}
theorem mF {O:Lo}:ae 0 (some x::O) U=some (x,U):=rfl
def nZ {i:Nat}{o:AA R}{O:Lo}:ae (i+1) (o::O) U=ae i O U:=by simp[ae]
theorem Ll:fK d O U=some (.v d,U):=rfl
noncomputable def Me (o:AA (R×ac))(g:R->R->ac->AA (R×ac))(fb:FE)(O:Lo):AA (R×ac):=o.bind λa=>(fb O a.2).bind λb=>g a.1 b.1 b.2
noncomputable def Hj (x:R)(o:AA (R×ac))(g:R->R->ac->AA (R×ac)):AA (R×ac):=o.bind λb=>g x b.1 b.2
theorem gW {g fa fb}:aw g fa fb O U=Me (fa O U) g fb O:=rfl
theorem d3 {g fb}:Me (some (x,U)) g fb O=Hj x (fb O U) g:=rfl
theorem dZ {g}:Hj x (some (y,U)) g=g x y U:=rfl
noncomputable def L8 (o:AA (R×ac))(g:R->ac->AA (R×ac)):AA (R×ac):=o.bind λa=>g a.1 a.2
def Iv {g fa}:jM g fa O U=L8 (fa O U) g:=rfl
def Dw {g}:L8 (some (x,U)) g=g x U:=rfl
theorem iC:ai O U=some ([],U):=rfl
noncomputable def Ba (o:AA (R×ac))(fr:FA)(O:Lo):AA (R4 R×ac):=o.bind λa=>(fr O a.2).bind λr=>some (a.1::r.1,r.2)
noncomputable def xZ (x:R)(o:AA (R4 R×ac)):AA (R4 R×ac):=o.bind λr=>some (x::r.1,r.2)
theorem bS {fa fr}:af fa fr O U=Ba (fa O U) fr O:=rfl
theorem ca {fr}:Ba (some (x,U)) fr O=xZ x (fr O U):=rfl
theorem du {xs}:xZ x (some (xs,U))=some (x::xs,U):=rfl
noncomputable def Ms (o:AA (R4 R×ac))(g:R4 R->ac->AA (R×ac)):AA (R×ac):=o.bind λa=>g a.1 a.2
theorem sm {g fa}:dR g fa O U=Ms (fa O U) g:=rfl
theorem nD {g xs}:Ms (some (xs,U)) g=g xs U:=rfl
noncomputable def Rx (o:AA (R×ac)):AA (Ad×ac):=o.bind λa=>match a.1 with|.v (.bl b)=>some (b,a.2)|_=>none
theorem tT {fa}:fB fa O U=Rx (fa O U):=rfl
theorem DI {b}:Rx (some (.v (.bl b),U))=some (b,U):=rfl
noncomputable def A2 (o:AA (R×ac)):AA (Ad×ac):=o.bind λa=>(AY a.1 a.2).bind λb=>some (b,a.2)
def tS {fa}:dG fa O U=A2 (fa O U):=rfl
def OX {b}:A2 (some (.v (.bl b),U))=some (b,U):=rfl
def OW {xs}:A2 (some (.v (.tup xs),U))=some (!xs.isEmpty,U):=rfl
noncomputable def Ht (o:AA (Ad×ac))(u:FT)(O:Lo):AA (Ad×ac):=o.bind λc=>if c.1=true then u O c.2 else some (false,c.2)
noncomputable def Md (o:AA (Ad×ac))(u:FT)(O:Lo):AA (Ad×ac):=o.bind λc=>if c.1=true then some (true,c.2) else u O c.2
noncomputable def Hk (o:AA (Ad×ac)):AA (Ad×ac):=o.bind λc=>some (!c.1,c.2)
def OY {t u}:mh t u O U=Ht (t O U) u O:=rfl
def Oh {b u}:Ht (some (b,U)) u O=if b=true then u O U else some (false,U):=rfl
def lR {t u}:gE t u O U=Md (t O U) u O:=rfl
def jq {b u}:Md (some (b,U)) u O=if b=true then some (true,U) else u O U:=rfl
def oV {t}:d8 t O U=Hk (t O U):=rfl
def Og {b}:Hk (some (b,U))=some (!b,U):=rfl
noncomputable def Bc (o:AA (R×ac))(fb:FE)(O:Lo):AA (R×ac):=o.bind λa=>match a.1 with|.v (.bl c)=>if c=true then fb O a.2 else some (.v (.bl false),a.2)|_=>none
noncomputable def Hi (o:AA (R×ac))(fb:FE)(O:Lo):AA (R×ac):=o.bind λa=>match a.1 with|.v (.bl c)=>if c=true then some (.v (.bl true),a.2) else fb O a.2|_=>none
noncomputable def A7 (o:AA (R×ac)):AA (R×ac):=o.bind λa=>match a.1 with|.v (.bl c)=>some (.v (.bl (!c)),a.2)|_=>none
def Q0 {fa fb}:vR fa fb O U=Bc (fa O U) fb O:=rfl
def Pn {c fb}:Bc (some (.v (.bl c),U)) fb O=if c=true then fb O U else some (.v (.bl false),U):=rfl
def Ix {fa fb}:OV fa fb O U=Hi (fa O U) fb O:=rfl
def Qw {c fb}:Hi (some (.v (.bl c),U)) fb O=if c=true then some (.v (.bl true),U) else fb O U:=rfl
def Qy {fa}:rq fa O U=A7 (fa O U):=rfl
def O6 {c}:A7 (some (.v (.bl c),U))=some (.v (.bl (!c)),U):=rfl
noncomputable def Ml (o:AA (Ad×ac))(fa fb:FE)(O:Lo):AA (R×ac):=o.bind λc=>if c.1=true then fa O c.2 else fb O c.2
def RX {t fa fb}:Iu t fa fb O U=Ml (t O U) fa fb O:=rfl
def QI {c fa fb}:Ml (some (c,U)) fa fb O=if c=true then fa O U else fb O U:=rfl
noncomputable def xW (o:AA (R4 R×ac)):AA (R×ac):=o.bind λa=>(vals a.1).bind λds=>if ds.length<=sizeLine then some (.v (.tup ds),a.2) else none
noncomputable def xX (o:AA (R4 R×ac)):AA (R×ac):=o.bind λa=>(vals a.1).bind λds=>if ds.length<=sizeLine then some (.p a.2.length,a.2++[.lst ds]) else none
theorem Dx {fa}:bZ fa O U=xW (fa O U):=rfl
def yX {rs ds}(h:vals rs=some ds)(hl:ds.length<=sizeLine):xW (some (rs,U))=some (.v (.tup ds),U):=by simp[xW,h,hl]
theorem Lk {fa}:bV fa O U=xX (fa O U):=rfl
def JFh {rs ds}(h:vals rs=some ds)(hl:ds.length<=sizeLine):xX (some (rs,U))=some (.p U.length,U++[.lst ds]):=by simp[xX,h,hl]
noncomputable def uz (o:AA (R×ac)):AA (R×ac):=o.bind λa=>(Em a.1 a.2).bind λb=>some (.v b.1,b.2)
theorem Iy {fa}:c7 fa O U=uz (fa O U):=rfl
theorem DF:uz (some (.v d,U))=some (.v d,U):=rfl
def Lq {n xs}(h:U[n]?=some (.lst xs)):uz (some (.p n,U))=some (.v (.fl xs),U.set n (.fz xs)):=by simp[uz,Em,h]
noncomputable def mQ (o:AA (R4 R×ac))(f:MF)(n:Nat):AA (R×ac):=o.bind λa=>(vals a.1).bind λds=>if ds.length=n then (f ds).bind λd=>some (.v d,a.2) else none
theorem za {f n fa}:bn f n fa O U=mQ (fa O U) f n:=rfl
def JCo {f:MF}{n rs ds}(h:vals rs=some ds)(hl:ds.length=n)(hf:f ds=some d):mQ (some (rs,U)) f n=some (.v d,U):=by simp[mQ,h,hl,hf]
theorem Gj:aO O U=some (.nx O U):=rfl
noncomputable def OI (o:AA oZ)(b:FS):AA oZ:=o.bind λo=>match o with|.nx O' U'=>b O' U'|o=>some o
theorem nA {a b}:aF a b O U=OI (a O U) b:=rfl
theorem hZ {b}:OI (some (.nx O U)) b=b O U:=rfl
def O3z {b}:OI (some (.rt x U)) b=some (.rt x U):=rfl
noncomputable def A9 (o:AA (R×ac))(O:Lo):AA oZ:=o.bind λa=>some (.nx O a.2)
theorem oW {f}:bK f O U=A9 (f O U) O:=rfl
def DG:A9 (some (x,U)) O=some (.nx O U):=rfl
noncomputable def Hh (o:AA (R×ac)):AA oZ:=o.bind λa=>some (.rt a.1 a.2)
theorem lS {f}:bB f O U=Hh (f O U):=rfl
def Gi:Hh (some (x,U))=some (.rt x U):=rfl
noncomputable def uy (o:AA (Ad×ac))(a b:FS)(O:Lo):AA oZ:=o.bind λc=>if c.1=true then a O c.2 else b O c.2
theorem fZ {t a b}:f8 t a b O U=uy (t O U) a b O:=rfl
theorem Ln {a b}:uy (some (true,U)) a b O=a O U:=rfl
theorem Lp {a b}:uy (some (false,U)) a b O=b O U:=rfl
noncomputable def Hg (o:AA (R×ac))(i:Nat)(O:Lo):AA oZ:=o.bind λa=>some (.nx (O.set i (some a.1)) a.2)
theorem iB {i f}:aR i f O U=Hg (f O U) i O:=rfl
theorem mG {i}:Hg (some (x,U)) i O=some (.nx (O.set i (some x)) U):=rfl
noncomputable def Ho (o:AA (R4 D×ac))(g:FG)(b:FS)(O:Lo):AA oZ:=o.bind λa=>fN g b a.1 O a.2
def nB {i g b}:iV i g b O U=Ho (i O U) g b O:=Eq.trans rfl rfl
def kW {xs g b}:Ho (some (xs,U)) g b O=fN g b xs O U:=Eq.trans rfl rfl
noncomputable def A5 (o:AA (R×ac)):AA (R4 D×ac):=o.bind λa=>match a.1 with|.v (.fl xs)=>some (xs,a.2)|.v (.tup xs)=>some (xs,a.2)|_=>none
theorem y0 {f}:cq f O U=A5 (uz (f O U)):=rfl
def DB {xs}:A5 (some (.v (.fl xs),U))=some (xs,U):=rfl
theorem DA {xs}:A5 (some (.v (.tup xs),U))=some (xs,U):=rfl
noncomputable def Mc (o:AA (R×ac)):AA (R4 D×ac):=o.bind λa=>match a.1 with|.v (.int j)=>if -(2 ^ 62)<=j/\j<2 ^ 62 then some ((List.range j.toNat).map λi=>.int (i:Nat),a.2) else none|_=>none
def Iw {f}:oC f O U=Mc (f O U):=Eq.trans rfl rfl
def qo {j:Int}(h : -(2 ^ 62)<=j/\j<2 ^ 62):Mc (some (.v (.int j),U))=some ((List.range j.toNat).map λi=>.int (i:Nat),U):=by
 show(if -(2 ^ 62)<=j/\j<2 ^ 62 then _ else _)=_
 rw[Ae h]
noncomputable def sM (o:AA (R4 D×ac))(ix:R4 Nat)(k:Nat)(g:FG)(c:FT)(f:FE)(O:Lo):AA (R×ac):=o.bind λa=>if a.1.length<=sizeLine then
 (cG g c f a.1 (bT k ix O) a.2).bind λr=>some (.p r.2.length,r.2++[.lst r.1]) else none
theorem Gn {ix k i g c f}:dE ix k i g c f O U=sM (i O U) ix k g c f O:=Eq.trans rfl rfl
def vS {xs:R4 D}{ix k g c f r}(hl:xs.length<=sizeLine)(h:cG g c f xs (bT k ix O) U=some (r,U1)):sM (some (xs,U)) ix k g c f O=some (.p U1.length,U1++[.lst r]):=by simp[sM,h,hl]
def Qh:dP O U=some (true,U):=rfl
noncomputable def Mb (o:AA (R×ac))(fl fh:FO)(O:Lo):AA (R×ac):=o.bind λa=>(fl O a.2).bind λl=>(fh O l.2).bind λh=>HF a.1 l.1 h.1 h.2
noncomputable def Hc (x:R)(o:AA (AA Int×ac))(fh:FO)(O:Lo):AA (R×ac):=o.bind λl=>(fh O l.2).bind λh=>HF x l.1 h.1 h.2
noncomputable def Hb (x:R)(l:AA Int)(o:AA (AA Int×ac)):AA (R×ac):=o.bind λh=>HF x l h.1 h.2
def RH {fa fl fh}:Ge fa fl fh O U=Mb (fa O U) fl fh O:=rfl
def Qv {fl fh}:Mb (some (x,U)) fl fh O=Hc x (fl O U) fh O:=rfl
def Qu {l fh}:Hc x (some (l,U)) fh O=Hb x l (fh O U):=rfl
def Qt {l h}:Hb x l (some (h,U))=HF x l h U:=rfl
def Qr {xs l h}:HF (.v (.tup xs)) l h U=some (.v (.tup (qv xs l h)),U):=rfl
noncomputable def Rw (o:AA (R×ac)):AA (AA Int×ac):=o.bind λa=>match a.1 with|.v (.int i)=>some (some i,a.2)|_=>none
def RM:jG O U=some (none,U):=rfl
def RL {f}:iW f O U=Rw (f O U):=rfl
def Qx {i}:Rw (some (.v (.int i),U))=some (some i,U):=rfl
noncomputable def zx (o:AA (R×ac))(g:R->R4 R->ac->AA (R×ac))(ga:FA)(O:Lo):AA (R×ac):=o.bind λa=>if kh a.1 a.2=true then (ga O a.2).bind λb=>g a.1 b.1 b.2 else none
noncomputable def pj (x:R)(o:AA (R4 R×ac))(g:R->R4 R->ac->AA (R×ac)):AA (R×ac):=o.bind λb=>g x b.1 b.2
theorem yZ {g fa ga}:nY g fa ga O U=zx (fa O U) g ga O:=rfl
def Lj {g ga n xs}(h:U[n]?=some (.lst xs)):zx (some (.p n,U)) g ga O=pj (.p n) (ga O U) g:=by simp[zx,kh,h,pj]
theorem Li {g xs}:pj x (some (xs,U)) g=g x xs U:=rfl
def Lv {n xs}(h:U[n]?=some (.lst xs))(hl:xs.length<sizeLine):iK (.p n) [.v d] U=some (.v .non,U.set n (.lst (xs++[d]))):=by simp[iK,h,hl]
variable {i j:Int}{b c:Ad}{xs:R4 D}
def Qq:zy (.v (.int i)) (.v (.int j)) U=some (.v (.int (i-j)),U):=rfl
def RS:NM (.v (.int i)) (.v (.int j)) U=some (.v (.bl (decide (i<j))),U):=rfl
def RU:NP (.v (.int i)) (.v (.int j)) U=some (.v (.bl (decide (i<=j))),U):=rfl
def RY:OT (.v (.int i)) (.v (.int j)) U=some (.v (.bl (decide (j<i))),U):=rfl
def qp (h:0<j):c6 (.v (.int i)) (.v (.int j)) U=some (.v (.int (i%j)),U):=by simp[c6,xv,h]
def Lu (h:0<j)(h2:j<1073741824):jr (.v (.int i)) (.v (.int j)) U=some (.v (.int (i / j)),U):=by simp[jr,xv,h,h2]
def kU (h : -(2 ^ 64)<i/\i<2 ^ 64):p5 (.v (.int i)) (.v (.int j)) U=some (.v (.int (i*j)),U):=by
 show(if (decide (-(2 ^ 64)<i/\i<2 ^ 64) || decide (-(2 ^ 64)<j/\j<2 ^ 64))=true then _ else _)=_
 rw[Ae (by rw[Bool.or_eq_true];exact .inl (D2 h))]
def Dz (h:0<=j/\j<=1000000/\i.natAbs<2 ^ 64):qW (.v (.int i)) (.v (.int j)) U=some (.v (.int (i ^ j.toNat)),U):=by simp[qW,xv,h]
def Qz:xb (.v (.int i)) U=some (.v (.int (-i)),U):=rfl
theorem Lh:kX true (.v (.bl b)) (.v (.bl c)) U=some (.v (.bl (!(b == c))),U):=rfl
def xB (h:iJ xs i=some d):bz (.v (.tup xs)) (.v (.int i)) U=some (.v d,U):=by simp[bz,dF,h]
def JFg {n}(h:U[n]?=some (.lst xs)):zw [.p n] U=some (.v (.tup xs),U):=by simp[zw,dF,h]
theorem DD {k:Nat}:bU k x O U=some (O.set k (some x),U):=rfl
def ud {Z:Type}{xs:R4 Z}{i:Int}{a:Z}(h0:0<=i)(h:xs[i.toNat]?=some a):iJ xs i=some a:=by unfold iJ El;have hl:=(CA.mp h).1;rw[Ae h0,Ae ∅];simpa using h
noncomputable def g8 (o:AA oZ):AA D:=o.bind fin
def Lr:g8 (some (.rt (.v d) U))=some d:=rfl
end
theorem kP {n:Nat}(xs:Th):okDs n (xs.map D.int)=true:=by
 induction xs with
 |nil=>cases n <;> rfl
 |cons x xs ih=>cases n <;> simpa[okDs,cR] using ih
theorem sn (xs ys:Th):eqDs (xs.map D.int) (ys.map D.int)=decide (xs=ys):=by
 induction xs generalizing ys with
 |nil=>cases ys <;> simp[cE,eM,gm,gp]
 |cons x xs ih=>
  cases ys with
  |nil=>simp[cE,eM,gm,gp]
  |cons y ys=>simp[cE,eM,gm,gp,oX,xC,xD,tU,ih ys];rfl
noncomputable def LK (o:AA (Lo×ac))(b:FS):AA oZ:=o.bind λa=>b a.1 a.2
theorem qq {O:Lo}{U:ac}{b:FS}:LK (some (O,U)) b=b O U:=rfl
def yJ {g:FG}{b:FS}(I:Nat->Lo->ac->Prop){xs:R4 D}{O:Lo}{U:ac}(h0:I 0 O U)
  (hs:∀(i:Nat) x O U,xs[i]?=some x->I i O U->∃O' U',LK (g (.v x) O U) b=some (.nx O' U')/\I (i+1) O' U') :
  ∃O' U',fN g b xs O U=some (.nx O' U')/\I xs.length O' U':=by
 have key:∀(n:Nat) (ys:R4 D) (i:Nat) O U,ys.length=n->xs.drop i=ys->i<=xs.length->I i O U->∃O' U',fN g b ys O U=some (.nx O' U')/\I xs.length O' U':=by
  intro n
  induction n with
  |zero=>
   intro ys i O U hn hd hi h;have:ys=[]:=zcD hn;subst this
   have:i=xs.length:=by
    have:=Av List.length hd;simp at this;omega
   subst this;exact{O,U,rfl,h}
  |succ n ih=>
   intro ys i O U hn hd hi h
   cases ys with
   |nil=>simp at hn
   |cons y ys=>
    have BD:i<xs.length:=by
     have:=Av List.length hd;simp at this;omega
    have hc:=GC BD;rw[hd] at hc
    injection hc with h1 h2
    let⟨O',U',e0,h'⟩:=hs i y O U (by rw[h1];exact C0 BD) h;let⟨⟨O1,U1⟩,e1,e2⟩:=Az.mp e0;let⟨O2,U2,e3,h3⟩:=ih ys (i+1) O' U' ‹hn› h2.symm BD h';exact{O2,U2,by rwa[fN,e1,e2,BY];exact e3,h3}
 exact key xs.length xs 0 O U rfl ∅ (Cr _) h0
theorem v7 {g:FG}{c:FT}{f:FE}{U:ac}(B:Lo->Prop)(p:D->Ad)(e:D->D):∀{xs:R4 D} {O:Lo},B O ->
  (∀x∈xs,∀O,B O->∃O1,g (.v x) O U=some (O1,U)/\B O1/\c O1 U=some (p x,U)/\(p x=true->f O1 U=some (.v (e x),U)))->cG g c f xs O U=some ((xs.filter p).map e,U)
 |[],_,_,_=>rfl
 |x::xs,O,hB,h=>by
  let⟨O1,e1,hB1,e2,e3⟩:=h x (Be) O hB;have ih:=v7 B p e (xs:=xs) hB1 λy hy=>h y (Br _ hy);rwa[cG,e1,BY,e2]
  cases hp:p x with
  |true=>simp[e3 hp,ih,hp]
  |false=>simp[ih,hp]
section
variable {O:Lo}{U:ac}{d:D}
noncomputable def ya (o:AA (R4 R×ac))(f:MF)(n:Nat):AA (R×ac):=o.bind λa=>(iO a.1 a.2).bind λds=>if ds.length=n then (f ds).bind λd=>if dq d=true then some (.v d,a.2) else none else none
def Oo {f n fa}:gU f n fa O U=ya (fa O U) f n:=rfl
end
section
variable {O:Lo}{U:ac}{x y:R}{d e:D}{n:Nat}{xs ys:R4 D}{i j:Int}{b c:Ad}
noncomputable def Pp (o:AA au)(n:Nat)(g:R->R4 R->ac->AA (R×ac))(ga:FA)(O:Lo)(U:ac):AA (R×ac):=match o with|some (.lst _)=>pj (.p n) (ga O U) g|some (.fz _)=>pj (.p n) (ga O U) g|_=>none
theorem xz {g ga}:zx (some (.p n,U)) g ga O=Pp U[n]? n g ga O U:=by
 cases h:U[n]? with
 |none=>simp[zx,kh,Pp,h]
 |some c=>cases c <;> simp[zx,kh,Pp,pj,h]
def xA {g ga}:Pp (some (.lst xs)) n g ga O U=pj (.p n) (ga O U) g:=rfl
noncomputable def Ox (o:AA au)(n:Nat)(d:D)(U:ac):AA (R×ac):=match o with|some (.lst xs)=>if xs.length<sizeLine then some (.v .non,U.set n (.lst (xs++[d]))) else none|_=>none
def Pj:iK (.p n) [.v d] U=Ox U[n]? n d U:=rfl
def Pk:Ox (some (.lst xs)) n d U=if xs.length<sizeLine then some (.v .non,U.set n (.lst (xs++[d]))) else none:=rfl
noncomputable def Ow (o:AA au)(n:Nat)(U:ac):AA (R×ac):=match o with|some (.lst _)=>some (.v .non,U.set n (.lst []))|_=>none
def Pb:rB (.p n) [] U=Ow U[n]? n U:=rfl
def Pc:Ow (some (.lst xs)) n U=some (.v .non,U.set n (.lst [])):=rfl
noncomputable def Q3 (o:AA au):AA (R4 D):=match o with|some (.lst xs)=>some xs|some (.fz xs)=>some xs|_=>none
def QF:dF (.v (.tup xs)) U=some xs:=rfl
def QH:dF (.v (.fl xs)) U=some xs:=rfl
def QG:dF (.p n) U=Q3 U[n]?:=rfl
def Lm:Q3 (some (.lst xs))=some xs:=rfl
noncomputable def Mj (o:AA (R4 D))(i:Int)(U:ac):AA (R×ac):=o.bind λxs=>(iJ xs i).bind λd=>some (.v d,U)
noncomputable def Hn (o:AA D)(U:ac):AA (R×ac):=o.bind λd=>some (.v d,U)
def RW:bz x (.v (.int i)) U=Mj (dF x U) i U:=rfl
def QE:Mj (some xs) i U=Hn (iJ xs i) U:=rfl
def QD:Hn (some d) U=some (.v d,U):=rfl
def QV {a:D}{l:R4 D}:iJ (a::l) 0=some a:=ud ∅ rfl
def QU {a b:D}{l:R4 D}:iJ (a::b::l) 1=some b:=ud ∅ rfl
def QT {a b c:D}{l:R4 D}:iJ (a::b::c::l) 2=some c:=ud ∅ rfl
noncomputable def Hm (o:AA (R4 D))(U:ac):AA (R×ac):=o.bind λxs=>some (.v (.int xs.length),U)
def QC:fW [x] U=Hm (dF x U) U:=rfl
def O7:Hm (some xs) U=some (.v (.int xs.length),U):=rfl
noncomputable def Mi (o:AA (R4 D))(U:ac):AA (R×ac):=o.bind λxs=>some (.p U.length,U++[.lst xs])
def RT:fO [x] U=Mi (dF x U) U:=rfl
def QB:Mi (some xs) U=some (.p U.length,U++[.lst xs]):=rfl
def Qi:eA (.v d) U=some d:=rfl
noncomputable def IW (o p:AA D)(neg:Ad)(U:ac):AA (R×ac):=o.bind λa=>p.bind λb=>if (cR 60 a&&cR 60 b)=true then some (.v (.bl (if neg then !iD a b else iD a b)),U) else none
def QQ:kX b x y U=IW (eA x U) (eA y U) b U:=rfl
def QR:IW (some d) (some e) false U=if (cR 60 d&&cR 60 e)=true then some (.v (.bl (iD d e)),U) else none:=rfl
def QP:IW (some d) (some e) true U=if (cR 60 d&&cR 60 e)=true then some (.v (.bl (!iD d e)),U) else none:=rfl
def KH:cR n (.int i)=true:=by cases n <;> rfl
def NK:cR n (.bl b)=true:=by cases n <;> rfl
def Q1:iD (.int i) (.int j)=(i == j):=rfl
noncomputable def Gy (o:AA au):AA D:=match o with|some (.lst xs)=>some (.fl xs)|some (.fz xs)=>some (.fl xs)|some (.dct Ab)=>some (.fd (Ab.map (·.1)) (Ab.map (·.2)))|some (.fzd Ab)=>some (.fd (Ab.map (·.1)) (Ab.map (·.2)))|_=>none
theorem Oj:g8 (some (.rt (.p n) U))=Gy U[n]?:=by
 cases h:U[n]? with
 |none=>simp[g8,fin,Em,Gy,h]
 |some c=>cases c <;> simp[g8,fin,Em,Gy,h]
def Pa:Gy (some (.lst xs))=some (.fl xs):=rfl
def O9:g8 (some (.nx O U))=some .non:=rfl
noncomputable def Pq (o:AA au)(n:Nat)(U:ac):AA (R×ac):=match o with|some (.lst xs)=>some (.v (.fl xs),U.set n (.fz xs))|some (.fz xs)=>some (.v (.fl xs),U)|some (.dct Ab)=>some (.v (.fd (Ab.map (·.1)) (Ab.map (·.2))),U.set n (.fzd Ab))|some (.fzd Ab)=>some (.v (.fd (Ab.map (·.1)) (Ab.map (·.2))),U)|_=>none
theorem QM:uz (some (.p n,U))=Pq U[n]? n U:=by
 cases h:U[n]? with
 |none=>simp[uz,Em,Pq,h]
 |some c=>cases c <;> simp[uz,Em,Pq,h]
def QN:Pq (some (.lst xs)) n U=some (.v (.fl xs),U.set n (.fz xs)):=rfl
noncomputable def Mr (o:AA D)(xs:R4 R)(U:ac):AA (R4 D):=o.bind λd=>(iO xs U).bind λds=>some (d::ds)
noncomputable def Hs (d:D)(o:AA (R4 D)):AA (R4 D):=o.bind λds=>some (d::ds)
def Qo:iO [] U=some []:=rfl
def RF {rs}:iO (x::rs) U=Mr (Pt x U) rs U:=rfl
def Qn {rs}:Mr (some d) rs U=Hs d (iO rs U):=rfl
def Qm {ds}:Hs d (some ds)=some (d::ds):=rfl
noncomputable def R5 (o:AA au):AA D:=match o with|some (.lst xs)=>some (.fl xs)|some (.fz xs)=>some (.fl xs)|some (.dct Ab)=>some (.fd (Ab.map (·.1)) (Ab.map (·.2)))|some (.fzd Ab)=>some (.fd (Ab.map (·.1)) (Ab.map (·.2)))|_=>none
def QX:Pt (.v d) U=some d:=rfl
def QY:Pt (.p n) U=R5 U[n]?:=rfl
def QZ:R5 (some (.lst xs))=some (.fl xs):=rfl
noncomputable def L6 (o:AA (R4 D))(f:MF)(n:Nat)(U:ac):AA (R×ac):=o.bind λds=>if ds.length=n then (f ds).bind λd=>some (.v d,U) else none
noncomputable def L7 (o:AA D)(U:ac):AA (R×ac):=o.bind λd=>some (.v d,U)
def R3 {rs f n}:mQ (some (rs,U)) f n=L6 (vals rs) f n U:=rfl
def R1 {f:MF}{ds:R4 D}:L6 (some ds) f n U=if ds.length=n then L7 (f ds) U else none:=rfl
def R0:L7 (some d) U=some (.v d,U):=rfl
noncomputable def IU (d:D)(o:AA (R4 D)):AA (R4 D):=o.bind λds=>some (d::ds)
def Ql:vals []=some []:=rfl
def Qk {rs}:vals (.v d::rs)=IU d (vals rs):=by unfold IU;cases h:vals rs <;> simp[vals,h]
def Qj {ds}:IU d (some ds)=some (d::ds):=rfl
noncomputable def G0 (o:AA (R4 D))(f:MF)(n:Nat)(U:ac):AA (R×ac):=o.bind λds=>if ds.length=n then (f ds).bind λd=>if dq d=true then some (.v d,U) else none else none
noncomputable def G5 (o:AA D)(U:ac):AA (R×ac):=o.bind λd=>if dq d=true then some (.v d,U) else none
def RK {rs f n}:ya (some (rs,U)) f n=G0 (iO rs U) f n U:=rfl
def RJ {f:MF}{ds:R4 D}:G0 (some ds) f n U=if ds.length=n then G5 (f ds) U else none:=rfl
def RI:G5 (some d) U=if dq d=true then some (.v d,U) else none:=rfl
noncomputable def Ma (o:AA (R4 D))(U:ac):AA (R×ac):=o.bind λds=>if ds.length<=sizeLine then some (.v (.tup ds),U) else none
def RG {rs}:xW (some (rs,U))=Ma (vals rs) U:=rfl
def Qp {ds}:Ma (some ds) U=if ds.length<=sizeLine then some (.v (.tup ds),U) else none:=rfl
noncomputable def Mf (o:AA (R4 D))(U:ac):AA (R×ac):=o.bind λds=>if ds.length<=sizeLine then some (.p U.length,U++[.lst ds]) else none
def RQ {rs}:xX (some (rs,U))=Mf (vals rs) U:=rfl
def QA {ds}:Mf (some ds) U=if ds.length<=sizeLine then some (.p U.length,U++[.lst ds]) else none:=rfl
noncomputable def Hr (o:AA (R×ac))(g:FG)(O:Lo):AA oZ:=o.bind λa=>(g a.1 O a.2).bind λb=>some (.nx b.1 b.2)
noncomputable def Bb (o:AA (Lo×ac)):AA oZ:=o.bind λb=>some (.nx b.1 b.2)
def QW {f g}:zE f g O U=Hr (f O U) g O:=rfl
def Pi {g}:Hr (some (x,U)) g O=Bb (g x O U):=rfl
def Ph:Bb (some (O,U))=some (.nx O U):=rfl
def QJ {g}:vN n g (.v (.tup xs)) O U=if xs.length=n then g (xs.map .v) O U else none:=rfl
def QL:f9 [] O U=some (O,U):=rfl
noncomputable def Mm (o:AA (Lo×ac))(r:IF)(ds:R4 R):AA (Lo×ac):=o.bind λa=>r ds a.1 a.2
def RZ {g r ds}:bm g r (x::ds) O U=Mm (g x O U) r ds:=rfl
def QK {r ds}:Mm (some (O,U)) r ds=r ds O U:=rfl
def Qs {l h}:HF (.v (.fl xs)) l h U=some (.p U.length,U++[.lst (qv xs l h)]):=rfl
def Os:dQ (.v (.int i)) (.v (.int j)) U=some (.v (.int (i+j)),U):=rfl
theorem Oq:dQ (.v (.tup xs)) (.v (.tup ys)) U=if xs.length+ys.length<=sizeLine then some (.v (.tup (xs++ys)),U) else none:=by
 cases xs with
 |nil=>simp[dQ]
 |cons x xs=>simp[dQ,GG]
noncomputable def G7 (o:AA (R×ac))(fi:FE)(dv:D)(O:Lo):AA (Lo×ac):=o.bind λo=>(fi O o.2).bind λi=>(wW o.1 i.1 dv i.2).bind λU'=>some (O,U')
noncomputable def A4 (x:R)(o:AA (R×ac))(dv:D)(O:Lo):AA (Lo×ac):=o.bind λi=>(wW x i.1 dv i.2).bind λU'=>some (O,U')
noncomputable def A3 (o:AA ac)(O:Lo):AA (Lo×ac):=o.bind λU'=>some (O,U')
def O2z {fo fi}:tO fo fi (.v d) O U=G7 (fo O U) fi d O:=rfl
def O1z {fi}:G7 (some (x,U)) fi d O=A4 x (fi O U) d O:=rfl
def O0:A4 x (some (y,U)) d O=A3 (wW x y d U) O:=rfl
def OZ:A3 (some U) O=some (O,U):=rfl
noncomputable def Ov (o:AA au)(n:Nat)(i:R)(dv:D)(U:ac):AA ac:=match o with
  |some (.lst xs)=>(match i with|.v (.int k)=>(El xs.length k).bind λj=>some (U.set n (.lst (xs.set j dv)))|_=>none)
  |some (.dct Ab)=>if Ab.length<sizeLine then (ly i).bind λk=>some (U.set n (.dct (hJ Ab k dv))) else none
  |_=>none
def O4:wW (.p n) x d U=Ov U[n]? n x d U:=rfl
noncomputable def Mp (o:AA (R4 D×ac)):AA (R×ac):=o.bind λr=>some (.p r.2.length,r.2++[.lst r.1])
def On {ix k g c f}:sM (some (xs,U)) ix k g c f O=if xs.length<=sizeLine then Mp (cG g c f xs (bT k ix O) U) else none:=Eq.trans rfl rfl
def QS {r:R4 D}:Mp (some (r,U))=some (.p U.length,U++[.lst r]):=rfl
def Pg:bT 1 [] O=[none]:=rfl
def Pe {i:Nat}:bT 1 [i] O=[none,(O[i]?).join]:=rfl
def Pd {i j:Nat}:bT 1 [i,j] O=[none,(O[i]?).join,(O[j]?).join]:=rfl
def RV {x:AA R}:(some x).join=x:=rfl
def Gk:lh (.p n) U=Q3 U[n]?:=rfl
noncomputable def yb (o:AA (R4 R×ac))(f:MC)(n:Nat):AA (R×ac):=o.bind λa=>(iO a.1 a.2).bind λds=>if ds.length=n then (f ds).bind λc=>if si c=true then some (.p a.2.length,a.2++[c]) else none else none
noncomputable def G3 (o:AA (R4 D))(f:MC)(n:Nat)(U:ac):AA (R×ac):=o.bind λds=>if ds.length=n then (f ds).bind λc=>if si c=true then some (.p U.length,U++[c]) else none else none
noncomputable def G6 (o:AA au)(U:ac):AA (R×ac):=o.bind λc=>if si c=true then some (.p U.length,U++[c]) else none
def Op {f:MC}{fa}:lQ f n fa O U=yb (fa O U) f n:=rfl
def RP {f:MC}{rs}:yb (some (rs,U)) f n=G3 (iO rs U) f n U:=rfl
def RO {f:MC}{ds:R4 D}:G3 (some ds) f n U=if ds.length=n then G6 (f ds) U else none:=rfl
def RN {k:au}:G6 (some k) U=if si k=true then some (.p U.length,U++[k]) else none:=rfl
def QO:si (.lst xs)=flatDs xs:=rfl
noncomputable def vQ (o:AA oZ):AA au:=o.bind Dt
noncomputable def zi (o:AA au):AA au:=match o with|some (.lst xs)=>some (.lst xs)|some (.dct Ab)=>some (.dct Ab)|_=>none
theorem Ol:vQ (some (.rt (.p n) U))=zi U[n]?:=by
 cases h:U[n]? with
 |none=>simp[vQ,Dt,zi,h]
 |some c=>cases c <;> simp[vQ,Dt,zi,h]
def Om:zi (some (.lst xs))=some (.lst xs):=rfl
theorem O8 {ns:Th}:iZ (ns.map D.int)=some ns:=by
 induction ns with
 |nil=>rfl
 |cons n ns ih=>simp[iZ,ih]
noncomputable def A6 (o:AA aE)(Ab:R4 (aE×D))(n:Nat)(d:D)(U:ac):AA ac:=o.bind λk=>some (U.set n (.dct (hJ Ab k d)))
def O5 {Ab}:Ov (some (.dct Ab)) n x d U=if Ab.length<sizeLine then A6 (ly x) Ab n d U else none:=rfl
def Oi {Ab k}:A6 (some k) Ab n d U=some (U.set n (.dct (hJ Ab k d))):=rfl
def Bn:2<=sizeLine:=by decide
def SK:0<=sizeLine:=by decide
def SJ:3<=sizeLine:=by decide
def iq {n:Nat}(h:n<4000):n<sizeLine:=CC h ∅
def bY {n:Nat}(h:n<4000):n<=sizeLine:=Fe (iq h)
end
theorem FH {Z:Type}{x y:Z}{l:R4 Z}:(x::l).set 0 y=y::l:=rfl
theorem FF {Z:Type}{x y:Z}{l:R4 Z}{n:Nat}:(x::l).set (n+1) y=x::l.set n y:=rfl
def OP {Z:Type}{x:Z}{l:R4 Z}:(x::l)[0]?=some x:=rfl
def OO {Z:Type}{x:Z}{l:R4 Z}{n:Nat}:(x::l)[n+1]?=l[n]?:=rfl
def P1 {Z:Type}{x:Z}{l:R4 Z}:(x::l).length=l.length+1:=rfl
def ON {Z:Type}:([]:R4 Z).length=0:=rfl
def P3 {Z:Type}{x:Z}{l r:R4 Z}:(x::l)++r=x::(l++r):=rfl
def OQ {Z:Type}{r:R4 Z} : []++r=r:=rfl
def P0 {Z β:Type}{f:Z->β}{x:Z}{l:R4 Z}:(x::l).map f=f x::l.map f:=rfl
def OM {Z β:Type}{f:Z->β}:([]:R4 Z).map f=[]:=rfl
def RB {n:Nat}:0+n=n:=zb4 n
def P2 {Z:Type}{a b:Z}:(if false=true then a else b)=b:=rfl
section
variable {g:FG}{b:FS}{O:Lo}{U:ac}
noncomputable def IV (o:AA oZ)(g:FG)(b:FS)(xs:R4 D):AA oZ:=o.bind λo=>match o with
  |.nx O' U'=>fN g b xs O' U'
  |.ct O' U'=>fN g b xs O' U'
  |.bk O' U'=>some (.nx O' U')
  |.rt d U'=>some (.rt d U')
def ee {x:D}{xs:R4 D}:fN g b (x::xs) O U=IV (LK (g (.v x) O U) b) g b xs:=by
 show(g (.v x) O U).bind _=_
 cases e:g (.v x) O U <;> rfl
def vn:fN g b [] O U=some (.nx O U):=rfl
def nS {xs}:IV (some (.nx O U)) g b xs=fN g b xs O U:=rfl
def RC {xs d}:IV (some (.rt d U)) g b xs=some (.rt d U):=rfl
theorem vp {Z Y:Type}(e:Z->D)(S:Y->Lo×ac)(P:Y->R4 Z->Prop):∀(as:R4 Z) (s:Y),P s as ->
  (∀s a r,P s (a::r)->∃s',LK (g (.v (e a)) (S s).1 (S s).2) b=some (.nx (S s').1 (S s').2)/\P s' r) ->
  ∃s',fN g b (as.map e) (S s).1 (S s).2=some (.nx (S s').1 (S s').2)/\P s' []
 |[],s,h,_=>{s,rfl,h}
 |a::as,s,h,k=>by
  let⟨s1,h1,h2⟩:=k s a as h;let⟨s2,h3,h4⟩:=vp e S P as s1 h2 k;exact{s2,by rw[BH,ee,h1,nS,h3],h4}
def lJ (n:Nat)(I:Nat->Lo->ac->Prop)(h0:I 0 O U)
  (hs:∀i<n,∀O U,I i O U->∃O' U',LK (g (.v (.int (i:Int))) O U) b=some (.nx O' U')/\I (i+1) O' U') :
  ∃O' U',fN g b ((List.range n).map λi=>.int ((i:Nat):Int)) O U=some (.nx O' U')/\I n O' U':=by
 let⟨O',U',e,h⟩:=yJ (g:=g) (b:=b) I (xs:=(List.range n).map λi=>D.int ((i:Nat):Int)) h0 λi x O U hx hI=>by
  rw[By] at hx;let⟨k,hk,rfl⟩:=DN.mp hx;let⟨hl,hk⟩:=CA.mp hk;rw[zcJ] at hk;subst hk;exact hs i ‹hl› O U hI
 exact{O',U',e,by simpa using h}
end
theorem qx {Z:Type}{f:FE}{U:ac}{rest:Lo}(e out:Z->D):∀(xs:R4 Z) (x0:AA R),(∀a∈xs,f (some (.v (e a))::rest) U=some (.v (out a),U))->cG (bU 0) dP f (xs.map e) (x0::rest) U=some (xs.map out,U)
 |[],_,_=>rfl
 |a::xs,x0,h=>by have h1:=h a Be;have ih:=qx e out xs (some (.v (e a))) λb hb=>h b (Br _ hb);rwa[BH,cG,bU,zcj,BY,dP,if_true,h1,ih]
section
variable {O:Lo}{U:ac}{x y:R}{d:D}{n:Nat}{i:Int}
noncomputable def SF (o:AA au):AA (R4 (aE×R)):=match o with|some (.dct Ab)=>some (Ab.map λp=>(p.1,R.v p.2))|some (.fzd Ab)=>some (Ab.map λp=>(p.1,R.v p.2))|some (.dr Ab)=>some Ab|some (.fzr Ab)=>some Ab|_=>none
noncomputable def Mo (o:AA (R×ac))(fk:FE)(O:Lo):AA (R×ac):=o.bind λo=>(fk O o.2).bind λk=>(qY o.1 k.2).bind λAb=>(ly k.1).bind λkey=>(i7 Ab key).bind λr=>some (r,k.2)
noncomputable def xY (x:R)(o:AA (R×ac)):AA (R×ac):=o.bind λk=>(qY x k.2).bind λAb=>(ly k.1).bind λkey=>(i7 Ab key).bind λr=>some (r,k.2)
noncomputable def Mn (o:AA (R4 (aE×R)))(y:R)(U:ac):AA (R×ac):=o.bind λAb=>(ly y).bind λkey=>(i7 Ab key).bind λr=>some (r,U)
noncomputable def Hq (o:AA R)(U:ac):AA (R×ac):=o.bind λr=>some (r,U)
def IJ {fo fk}:kq fo fk O U=Mo (fo O U) fk O:=rfl
def AN {fk}:Mo (some (x,U)) fk O=xY x (fk O U):=rfl
def AM:xY x (some (y,U))=Mn (qY x U) y U:=rfl
def Rs:Hq (some x) U=some (x,U):=rfl
def II:qY (.p n) U=SF U[n]?:=rfl
def Rt:Gg O U=some (.p U.length,U++[.dtr []]):=rfl
def Rr:Af true .non (.v (.int i)) U=some (.v (.bl true),U):=rfl
noncomputable def Po (o:AA au):AA (R4 (Th×R)):=match o with|some (.dtr Ab)=>some Ab|_=>none
noncomputable def AZ (o:AA (R4 (Th×R)))(k:Th)(U:ac):AA (R×ac):=o.bind λAb=>(jD Ab k).bind λd=>some (d,U)
noncomputable def A1 (x:R)(o:AA (R×ac)):AA (R×ac):=o.bind λk=>match x,k.1 with
 |.p n,.v (.key ks)=>AZ (Po k.2[n]?) ks k.2
 |_,_=>none
noncomputable def L9 (o:AA (R×ac))(fk:FE)(O:Lo):AA (R×ac):=o.bind λo=>A1 o.1 (fk O o.2)
def Se {fo fk}:Du fo fk O U=L9 (fo O U) fk O:=rfl
def Rq {fk}:L9 (some (x,U)) fk O=A1 x (fk O U):=rfl
def Rp {k}:A1 (.p n) (some (.v (.key k),U))=AZ (Po U[n]?) k U:=rfl
def PC {Ab}:Po (some (.dtr Ab))=some Ab:=rfl
def Ro {Ab k}:AZ (some Ab) k U=Hq (jD Ab k) U:=rfl
def LU:rL [.p n] U=(Po U[n]?).bind λAb=>if Ab.length<64/\(Ab.length<2\/∀p∈Ab,p.1≠[]) then some (.p U.length,U++[.lst ((cT (Ab.map (·.1))).map D.key)]) else none:=rfl
end
end HW
namespace LW
open HW
abbrev dL (i:Int):AA R:=some (.v (.int i))
abbrev bf (n:Nat):AA R:=some (.p n)
end LW
local macro_rules
 | `(tactic| push_cast [$xs,*] $[$loc]?) => do
  let ids : Array (Lean.TSyntax `term) := ("Bn SK SJ FH FF OP OO P1 ON P3 OQ P0 OM RB P2 vn nS RC mF nZ Ll gW d3 dZ Iv Dw iC sm nD tT DI tS OX OW OY Oh lR jq oV Og Q0 Pn Ix Qw Qy O6 RX QI Dx Lk Iy DF za Gj nA hZ O3z oW DG lS Gi fZ Ln Lp nB kW y0 DB DA Iw Qh yZ Li Qq RS RU RY Qz DD Lr qq xz xA Pj Pk QF QH QG Lm RW QE QD QV QU QT QC O7 RT QB Qi QQ QR QP KH NK Q1 Oj Pa QM QN Qo RF Qn Qm QX QY QZ R3 R1 R0 Ql Qk Qj RG Qp RQ QA QW Pi Ph QJ QL RZ QK Os Oq Gk bS ca du iB mG Gn RH Qv Qu Qt Qr RM RL Qx Oo Pb Pc O9 RK RJ RI Qs O2z O1z O0 OZ O4 On QS Pg Pe Pd RV Op RP RO RN QO Ol Om O8 O5 Oi IJ AN AM Rs II Rt Rr Se Rq Rp PC Ro".splitOn " ").toArray.map fun n => ⟨(Lean.mkIdent (String.toName ("HW." ++ n))).raw⟩
  `(tactic| simp -implicitDefEqProofs only [$xs,*, $[$ids:term],*, Nat.reduceAdd, if_true, Bool.and_self] $[$loc]?)
namespace LW
open PyProof.Rows L2 HW
noncomputable def l4 (i:Nat):B8:=PySem.Challenge.pw_heldwhen_k29_book_told.main.body.getD i (.Pass {0,0,0,0})
noncomputable section
abbrev gc:B8:=L2.fF (l4 36) 0
def sV:aA ["self","shapes"] ["self","shapes"] (aj gc):=by ac_rfl
abbrev jc:B8:=L2.fF (l4 36) 1
def gd:aA ["self","telling","name","keys","turn"] ["self","telling"] (aj jc):=by ac_rfl
abbrev jb:B8:=L2.fF (l4 36) 2
def sU:aA ["self","name","row","low","high"] ["self","name","row","low","high"] (aj jb):=by ac_rfl
abbrev gG:B8:=L2.fF (l4 36) 3
def pF:aA ["self","name","key","low","high"] ["self","name","key","low","high"] (aj gG):=by ac_rfl
abbrev jW:B8:=L2.fF (l4 36) 4
def uK:aA ["self"] ["self"] (aj jW):=by ac_rfl
abbrev fT:B8:=L2.fF (l4 36) 5
def ot:aA ["self","turn"] ["self","turn"] (aj fT):=by ac_rfl
abbrev ja:B8:=L2.fF (l4 36) 6
def sS:aA ["self"] ["self"] (aj ja):=by ac_rfl
abbrev ip:B8:=L2.fF (l4 36) 7
def qU:aA ["self","name"] ["self","name"] (aj ip):=by ac_rfl
abbrev eE:B8:=L2.fF (l4 36) 8
def pE:aA ["self"] ["self"] (aj eE):=by ac_rfl
abbrev gH:B8:=L2.fF (l4 36) 10
def pG:aA ["self"] ["self"] (aj gH):=by ac_rfl
abbrev jR:B8:=l4 9
def uI:aA ["word","one","other"] ["word","one","other"] (aj jR):=by ac_rfl
abbrev ik:B8:=l4 13
def qS:aA ["low","high"] ["low","high"] (aj ik):=by ac_rfl
abbrev jV:B8:=l4 14
def cC:aA ["one","other","word","in_one","in_other","first","last","one_borders","other_borders","edges","edge","here"] ["one","other","word"] (aj jV):=by ac_rfl
abbrev i9:B8:=l4 24
def sR:aA ["plots"] ["plots"] (aj i9):=by ac_rfl
abbrev fL:B8:=l4 25
def fM:aA ["pairs","plots","row","plot","entries"] ["pairs"] (aj fL):=by ac_rfl
abbrev jS:B8:=l4 27
def nO:aA ["shapes","name","shape"] ["shapes","name"] (aj jS):=by ac_rfl
abbrev gF:B8:=l4 28
def jY:aA ["numbers","width","many"] ["numbers","width"] (aj gF):=by ac_rfl
abbrev eU:B8:=l4 29
def mU:aA ["low","high"] ["low","high"] (aj eU):=by ac_rfl
abbrev lE:B8:=l4 30
def wS:aA ["telling"] ["telling"] (aj lE):=by ac_rfl
abbrev eT:B8:=l4 31
def iU:aA ["shapes","telling","shape"] ["shapes","telling"] (aj eT):=by ac_rfl
abbrev im:B8:=l4 32
def qT:aA ["plot"] ["plot"] (aj im):=by ac_rfl
abbrev lD:B8:=l4 33
def wR:aA ["plot","turn","reach"] ["plot","turn","reach"] (aj lD):=by ac_rfl
abbrev lC:B8:=l4 34
def dh:aA ["table","keys","telling","turn","said","days","plots","pairs","row","plot","word"] ["table","keys","telling","turn"] (aj lC):=by ac_rfl
abbrev jU:B8:=l4 38
def uJ:aA ["script","k"] ["script","k"] (aj jU):=by ac_rfl
abbrev jT:B8:=l4 39
def jX:aA ["cell","k","number"] ["cell","k"] (aj jT):=by ac_rfl
abbrev fu:B8:=l4 40
def bN:aA ["cell","number","word","place","shapes","k","width","name"] ["cell"] (aj fu):=by ac_rfl
abbrev eC:B8:=l4 41
def aU:aA ["cell","shapes","scale","number","name","keys","width","menu","row","low","high"] ["cell","shapes","scale"] (aj eC):=by ac_rfl
abbrev i8:B8:=l4 42
def sQ:aA ["book","telling"] ["book","telling"] (aj i8):=by ac_rfl
abbrev eD:B8:=l4 43
def dw:aA ["book","shapes","tellings","now","told","k","tables","shape"] ["book","shapes","tellings"] (aj eD):=by ac_rfl
abbrev sN:B8:=l4 44
def gJ:aA ["script","shapes","scale","handed","books","tellings","which","k","telling","turn"] ["script"] (aj sN):=by ac_rfl
abbrev kI:FS:=(aF (mn "Book" "shape_list" (ae 0) (dR fO (af (ae 1) ai)))
  (aF (mn "Book" "tellings" (ae 0) (bV ai))
  (mn "Book" "tables_now" (ae 0) (dR n5 (af (kz [] 1 (ae 1) (bU 0) (bZ (af (aw bz (ae 0) (fK (.int 0))) (af (c7 (bV ai)) ai)))) ai)))))
noncomputable def aT:MW:=j1 2 (kI)
abbrev lX:FS:=(bB (dR fW (af (db "Book" "tellings" (ae 0)) ai)))
noncomputable def dW:MW:=j1 1 (lX)
abbrev gX:FS:=(aF (f8 (gE (fB (aw NM (ae 1) (fK (.int 1)))) (fB (aw OT (ae 1) (dR fW (af (db "Book" "tellings" (ae 0)) ai)))))
  j0
  aO)
  (bB (aw bz (db "Book" "tellings" (ae 0)) (aw zy (ae 1) (fK (.int 1))))))
noncomputable def bQ:MW:=j1 2 (gX)
abbrev kF:FS:=(bB (dR fO (af (db "Book" "tellings" (ae 0)) ai)))
noncomputable def bX:MW:=j1 1 (kF)
abbrev iG:FS:=(bB (sk (db "Book" "tables_now" (ae 0)) (Lg [] 2 (ql (db "Book" "tables_now" (ae 0))) (vN 2 (bm (bU 0) (bm (bU 1) f9))) (ae 0) (dR fO (af (ae 1) ai)))))
noncomputable def aW:MW:=j1 1 (iG)
abbrev iI:FS:=(bB (dR fO (af (db "Book" "shape_list" (ae 0)) ai)))
noncomputable def ba:MW:=j1 1 (iI)
abbrev ju:FS:=(aF (f8 (fB (aw (kX false) (ae 0) (fK (.str "both"))))
  (bB (vR (ae 1) (ae 2)))
  aO)
  (aF (f8 (fB (aw (kX false) (ae 0) (fK (.str "either"))))
  (bB (OV (ae 1) (ae 2)))
  aO)
  (aF (f8 (fB (aw (kX false) (ae 0) (fK (.str "less"))))
  (bB (vR (ae 1) (rq (ae 2))))
  aO)
  (aF (f8 (fB (aw (kX false) (ae 0) (fK (.str "just"))))
  (bB (aw (kX true) (ae 1) (ae 2)))
  aO)
  j0))))
noncomputable def bH:MF:=ir 3 (ju)
abbrev jw:FS:=(aF (f8 (mh (fB (jM (Af false .non) (ae 0))) (fB (jM (Af false .non) (ae 1))))
  (bB (fK (.tup [(.bl true),(.tup [])])))
  aO)
  (aF (f8 (fB (jM (Af false .non) (ae 0)))
  (bB (bZ (af (fK (.bl true)) (af (bZ (af (ae 1) ai)) ai))))
  aO)
  (aF (f8 (fB (jM (Af false .non) (ae 1)))
  (bB (bZ (af (fK (.bl false)) (af (bZ (af (ae 0) ai)) ai))))
  aO)
  (aF (f8 (fB (aw NP (ae 1) (ae 0)))
  (bB (fK (.tup [(.bl false),(.tup [])])))
  aO)
  (bB (bZ (af (fK (.bl false)) (af (bZ (af (ae 0) (af (ae 1) ai))) ai))))))))
noncomputable def eG:MF:=ir 2 (jw)
abbrev wm:FS:=(aF (f8 (fB (aw (kX false) (dR fW (af (ae 0) ai)) (fK (.int 1))))
  (bB (aw bz (ae 0) (fK (.int 0))))
  aO)
  j0)
noncomputable def dk:MF:=ir 1 (wm)
abbrev eJ:FS:=(f8 (fB (aw (kX false) (aw bz (ae 2) (fK (.int 0))) (ae 1)))
  (bB (ae 2))
  aO)
abbrev lV:FS:=(aF (iV (cq (ae 0)) (bU 2)
  eJ)
  j0)
noncomputable def bR:MF:=ir 3 (lV)
abbrev iF:FS:=(aF (aR 2 (dR fW (af (ae 0) ai)))
  (f8 (fB (aw (kX true) (ae 2) (ae 1)))
  j0
  aO))
noncomputable def dM:MF:=ir 3 (iF)
abbrev f6:FS:=(f8 (mh (fB (jM (Af true .non) (ae 0))) (mh (fB (jM (Af true .non) (ae 1))) (fB (aw NP (ae 1) (ae 0)))))
  j0
  aO)
noncomputable def cS:MF:=ir 2 (f6)
abbrev gD:FS:=(bB (aw (kX false) (aw bz (ae 0) (fK (.int 0))) (fK (.str "tell"))))
noncomputable def bP:MF:=ir 1 (gD)
abbrev jz:FS:=(bB (Iu (dG (aw bz (ae 0) (fK (.int 1)))) (aw bz (aw bz (aw bz (ae 0) (fK (.int 1))) (jM xb (fK (.int 1)))) (fK (.int 1))) (aw bz (ae 0) (fK (.int 0)))))
noncomputable def cM:MF:=ir 1 (jz)
abbrev jy:FS:=(aF (f8 (fB (aw NM (ae 1) (dR fW (af (ae 0) ai))))
  (bB (aw bz (ae 0) (ae 1)))
  aO)
  (bB (fK (.int 0))))
noncomputable def cL:MF:=ir 2 (jy)
abbrev lW:FS:=(aF (aR 2 (aw c6 (aw p5 (aw dQ (aw c6 (ae 0) (fK (.int 2147483629))) (fK (.int 1))) (fK (.int 1103515245))) (fK (.int 2147483629))))
  (aF (aR 2 (aw c6 (aw dQ (aw dQ (aw p5 (ae 2) (ae 2)) (aw p5 (ae 1) (fK (.int 69621)))) (fK (.int 12345))) (fK (.int 2147483587))))
  (bB (aw c6 (aw p5 (ae 2) (ae 2)) (fK (.int 2147483629))))))
noncomputable def bE:MF:=ir 3 (lW)
abbrev jA:FS:=(aF (bK (gU bR 2 (af (db "Book" "shape_list" (ae 0)) (af (ae 1) ai))))
  (bB (dR fO (af (kq (db "Book" "tables_now" (ae 0)) (ae 1)) ai))))
noncomputable def aI:MW:=j1 2 (jA)
abbrev uc (bt:Ad):FS:=(aF (aR 3 (aw bz (ae 0) (fK (.int 0))))
  (aF (aR 4 (aw bz (ae 1) (fK (.int 0))))
  (aF (aR 5 (bn bH 3 (af (c7 (ae 2)) (af (c7 (ae 3)) (af (c7 (ae 4)) ai)))))
  (aF (aR 6 (ae 5))
  (aF (aR 7 (dR qu (af (dE [] 1 (cq (aw bz (ae 0) (fK (.int 1)))) (bU 0) dP (bZ (af (ae 0) (af (fK (.bl true)) ai)))) ai)))
  (aF (aR 8 (dR qu (af (dE [] 1 (cq (aw bz (ae 1) (fK (.int 1)))) (bU 0) dP (bZ (af (ae 0) (af (fK (.bl true)) ai)))) ai)))
  (aF (aR 9 (bV ai))
  (aF (iV (cq (dR (kL bt) (af (aw (LN bt) (dR (wQ bt) (af (aw bz (ae 0) (fK (.int 1))) ai)) (dR (wQ bt) (af (aw bz (ae 1) (fK (.int 1))) ai))) ai))) (bU 10)
  (aF (f8 (fB (aw (F1 false) (ae 10) (ae 7)))
  (aR 3 (rq (ae 3)))
  aO)
  (aF (f8 (fB (aw (F1 false) (ae 10) (ae 8)))
  (aR 4 (rq (ae 4)))
  aO)
  (aF (aR 11 (bn bH 3 (af (c7 (ae 2)) (af (c7 (ae 3)) (af (c7 (ae 4)) ai)))))
  (aF (f8 (fB (aw (kX true) (ae 11) (ae 6)))
  (bK (nY iK (ae 9) (af (ae 10) ai)))
  aO)
  (aR 6 (ae 11)))))))
  (bB (bZ (af (ae 5) (af (dR zw (af (ae 9) ai)) ai))))))))))))
noncomputable def kS (bt:Ad):MF:=ir 12 (uc bt)
abbrev eI (bt:Ad):FS:=(bK (nY iK (qm (ae 1) (ae 2) (bV ai)) (af (ae 3) ai)))
abbrev lU (bt:Ad):FS:=(aF (aR 1 Gg)
  (aF (iV (cq (ae 0)) (vN 2 (bm (bU 2) (bm (bU 3) f9)))
  (eI bt))
  (aF (aR 4 (dE [1] 1 (cq (dR rL (af (ae 1) ai))) (bU 0) dP (bZ (af (ae 0) (af (bn dk 1 (af (c7 (Du (ae 1) (ae 0))) ai)) ai)))))
  (bB (dE [] 1 (cq (ae 4)) (bU 0) (fB (aw (kX true) (aw bz (ae 0) (fK (.int 1))) (fK (.tup [(.tup [(.bl false),(.tup [])]),(.tup [])])))) (ae 0))))))
noncomputable def gR (bt:Ad):MC:=BE 5 (lU bt)
abbrev dU:FS:=(aF (aR 2 (gU bR 2 (af (ae 0) (af (aw bz (ae 1) (fK (.int 1))) ai))))
  (aF (bK (bn dM 2 (af (c7 (aw bz (ae 1) (fK (.int 2)))) (af (c7 (Iu (dG (bn bP 1 (af (c7 (ae 1)) ai))) (aw bz (ae 2) (fK (.int 2))) (aw bz (ae 2) (fK (.int 1))))) ai))))
  (bK (bn cS 2 (af (c7 (aw bz (ae 1) (fK (.int 3)))) (af (c7 (aw bz (ae 1) (fK (.int 4)))) ai))))))
noncomputable def bA:MF:=ir 3 (dU)
abbrev kZ:FS:=(aF (f8 (fB (aw (kX false) (ae 2) (bn cM 1 (af (c7 (ae 0)) ai))))
  (bB (ae 0))
  aO)
  (bB (bZ (af (aw bz (ae 0) (fK (.int 0))) (af (aw dQ (aw bz (ae 0) (fK (.int 1))) (bZ (af (bZ (af (ae 1) (af (ae 2) ai))) ai))) ai)))))
noncomputable def iX:MF:=ir 3 (kZ)
abbrev gS:FS:=(aF (aR 6 (aw dQ (fK (.int 1)) (aw c6 (aw jr (bn bE 2 (af (c7 (ae 0)) (af (c7 (aw dQ (fK (.int 80)) (ae 5))) ai))) (fK (.int 3))) (aw bz (bV (af (fK (.int 3)) (af (fK (.int 3)) (af (fK (.int 8)) ai)))) (aw c6 (aw jr (ae 1) (fK (.int 256))) (fK (.int 3)))))))
  (aF (aR 7 (aw dQ (aw dQ (Dv (ae 2) jG (iW (ae 3))) (aw Ij (fK (.str "kmz")) (ae 5))) (Dv (ae 2) (iW (aw dQ (ae 3) (fK (.int 1)))) jG)))
  (bK (nY iK (ae 4) (af (bZ (af (ae 7) (af (aw c6 (aw jr (bn bE 2 (af (c7 (ae 0)) (af (c7 (aw dQ (fK (.int 90)) (ae 5))) ai))) (fK (.int 3))) (aw dQ (ae 6) (fK (.int 1)))) (af (ae 6) ai)))) ai)))))
abbrev jx:FS:=(aF (aR 1 (bn bE 2 (af (c7 (ae 0)) (af (fK (.int 1)) ai))))
  (aF (aR 2 (aw rX (fK (.str "")) (dE [0] 1 (oC (aw dQ (fK (.int 1)) (aw c6 (ae 1) (fK (.int 8))))) (bU 0) dP (aw Ij (fK (.str "abcdefghijklmnopqrstuvwxyz")) (aw c6 (aw jr (bn bE 2 (af (c7 (ae 1)) (af (c7 (aw dQ (fK (.int 70)) (ae 0))) ai))) (fK (.int 3))) (fK (.int 26)))))))
  (aF (aR 3 (aw c6 (aw jr (ae 1) (fK (.int 8))) (dR zW (af (ae 2) ai))))
  (aF (aR 4 (bV ai))
  (aF (iV (oC (aw dQ (fK (.int 1)) (aw c6 (aw jr (ae 1) (fK (.int 64))) (fK (.int 3))))) (bU 5)
  gS)
  (bB (ae 4)))))))
noncomputable def dB:MF:=ir 8 (jx)
abbrev fI:FS:=(aF (aR 3 (bn bE 2 (af (c7 (ae 0)) (af (fK (.int 2)) ai))))
  (aF (zE (aw bz (ae 1) (aw c6 (ae 3) (dR fW (af (ae 1) ai)))) (vN 3 (bm (bU 4) (bm (bU 5) (bm (bU 6) f9)))))
  (aF (aR 7 (bV (af (fK (.int 0)) (af (fK (.int 1)) (af (jM xb (fK (.int 1))) (af (aw c6 (ae 0) (aw qW (fK (.int 10)) (fK (.int 50)))) (af (aw zy (fK (.int 0)) (aw c6 (ae 0) (aw qW (fK (.int 10)) (fK (.int 50))))) ai)))))))
  (aF (aR 8 (dR C6 (af (dE [7,0] 1 (oC (ae 6)) (bU 0) dP (aw bz (ae 1) (aw c6 (aw jr (bn bE 2 (af (c7 (ae 2)) (af (c7 (aw dQ (fK (.int 20)) (ae 0))) ai))) (fK (.int 5))) (fK (.int 5))))) ai)))
  (aF (aR 9 (aw p5 (aw zy (aw c6 (aw jr (ae 3) (fK (.int 8))) (fK (.int 12))) (fK (.int 3))) (ae 2)))
  (aF (aR 10 (aw dQ (ae 9) (aw p5 (aw dQ (fK (.int 1)) (aw c6 (aw jr (ae 3) (fK (.int 96))) (fK (.int 6)))) (ae 2))))
  (aF (f8 (fB (aw (kX false) (aw c6 (aw jr (ae 3) (fK (.int 600))) (fK (.int 5))) (fK (.int 0))))
  (aR 9 (fK .non))
  aO)
  (aF (f8 (fB (aw (kX false) (aw c6 (aw jr (ae 3) (fK (.int 3000))) (fK (.int 5))) (fK (.int 0))))
  (aR 10 (fK .non))
  aO)
  (aF (f8 (fB (aw (kX false) (aw c6 (aw jr (ae 3) (fK (.int 15000))) (fK (.int 3))) (fK (.int 0))))
  (bB (bZ (af (fK (.str "strike")) (af (ae 4) (af (Gd (ae 8) jG (iW (ae 5))) (af (ae 9) (af (ae 10) ai)))))))
  aO)
  (bB (bZ (af (fK (.str "tell")) (af (ae 4) (af (ae 8) (af (ae 9) (af (ae 10) ai))))))))))))))))
noncomputable def cY:MF:=ir 11 (fI)
abbrev eh (bt:Ad):FS:=(f8 (fB (aw (fS false) (Ge (LQ (ae 8)) jG (iW (ae 1))) (Ge (LQ (ae 4)) jG (iW (ae 1)))))
  (aF (aR 10 (Iu (mh (dG (bn bP 1 (af (c7 (ae 2)) ai))) (fB (aw (fS false) (ae 8) (ae 4)))) (fK (.str "either")) (fK (.str "less"))))
  (bK (nY iK (ae 7) (af (bZ (af (ae 8) (af (bn iX 3 (af (c7 (ae 9)) (af (c7 (ae 3)) (af (c7 (bn (kS bt) 3 (af (c7 (bn cM 1 (af (c7 (ae 9)) ai))) (af (c7 (ae 5)) (af (c7 (ae 10)) ai))))) ai)))) ai))) ai))))
  (bK (nY iK (ae 7) (af (bZ (af (ae 8) (af (ae 9) ai))) ai))))
abbrev nI (bt:Ad):FS:=(aF (aR 4 (aw bz (ae 2) (fK (.int 2))))
  (aF (aR 5 (bn eG 2 (af (c7 (aw bz (ae 2) (fK (.int 3)))) (af (c7 (aw bz (ae 2) (fK (.int 4)))) ai))))
  (aF (aR 6 (dR ss (af (ae 0) ai)))
  (aF (f8 (dG (bn bP 1 (af (c7 (ae 2)) ai)))
  (bK (Ap (ae 6) (ae 4) (fK (.tup [(.tup [(.bl false),(.tup [])]),(.tup [])]))))
  aO)
  (aF (aR 7 (bV ai))
  (aF (iV (Gc (ae 6)) (vN 2 (bm (bU 8) (bm (bU 9) f9)))
  (eh bt))
  (bB (lQ (gR bt) 1 (af (ae 7) ai)))))))))
noncomputable def eW (bt:Ad):MC:=BE 11 (nI bt)
abbrev dO:FS:=(f8 (gE (fB (aw (fS true) (bv "Book" "telling" bQ 2 (ae 0) (af (aw dQ (ae 5) (fK (.int 1))) ai)) (aw bz (ae 2) (ae 5)))) (d8 (dG (jM (eu "tuple") (aw bz (ae 4) (ae 5))))))
  (bB (fK (.bl false)))
  aO)
abbrev dN:FS:=(aF (f8 (gE (d8 (dG (jM (eu "list") (kq (ae 6) (aw bz (ae 7) (fK (.int 0))))))) (fB (aw (fS true) (bv "Book" "table" aI 2 (ae 0) (af (aw bz (ae 7) (fK (.int 0))) ai)) (kq (ae 6) (aw bz (ae 7) (fK (.int 0)))))))
  (bB (fK (.bl false)))
  aO)
  (bK (nY iK (kq (ae 6) (aw bz (ae 7) (fK (.int 0)))) (af (bZ ai) ai))))
abbrev kE:FS:=(aF (aR 3 (bv "Book" "now" dW 1 (ae 0) ai))
  (aF (f8 (gE (d8 (dG (jM (eu "int") (ae 3)))) (gE (dG (jM (eu "bool") (ae 3))) (fB (aw (fS true) (ae 3) (dR fW (af (ae 2) ai))))))
  (bB (fK (.bl false)))
  aO)
  (aF (aR 4 (bv "Book" "told" bX 1 (ae 0) ai))
  (aF (f8 (gE (d8 (dG (jM (eu "list") (ae 4)))) (gE (fB (aw (fS true) (ae 4) (ae 2))) (fB (aw (fS true) (bv "Book" "shapes" ba 1 (ae 0) ai) (ae 1)))))
  (bB (fK (.bl false)))
  aO)
  (aF (iV (oC (dR fW (af (ae 2) ai))) (bU 5)
  dO)
  (aF (aR 6 (bv "Book" "tables" aW 1 (ae 0) ai))
  (aF (f8 (gE (d8 (dG (jM (eu "dict") (ae 6)))) (fB (aw (fS true) (dR vm (af (ae 6) ai)) (dE [] 1 (cq (ae 1)) (bU 0) dP (aw bz (ae 0) (fK (.int 0)))))))
  (bB (fK (.bl false)))
  aO)
  (aF (iV (cq (ae 1)) (bU 7)
  dN)
  (aF (bK (nY rB (ae 4) ai))
  (aF (bK (nY iK (bv "Book" "table" aI 2 (ae 0) (af (aw bz (aw bz (ae 1) (fK (.int 0))) (fK (.int 0))) ai)) (af (bZ ai) ai)))
  (aF (bK (nY rB (bv "Book" "shapes" ba 1 (ae 0) ai) ai))
  (aF (f8 (fB (aw (vL false) (fK (.bl true)) (dE [0] 1 (cq (ae 1)) (bU 0) dP (aw (vL false) (bZ ai) (bv "Book" "table" aI 2 (ae 1) (af (aw bz (ae 0) (fK (.int 0))) ai))))))
  (bB (fK (.bl false)))
  aO)
  (bB (aw (fS false) (bv "Book" "told" bX 1 (ae 0) ai) (ae 2)))))))))))))))
noncomputable def aS:MW:=j1 8 (kE)
abbrev kH (bt:Ad):FS:=(aF (bK (gU (uk bA) 2 (af (db "Book" "shape_list" (ae 0)) (af (ae 1) ai))))
  (aF (aR 2 (aw bz (ae 1) (fK (.int 1))))
  (aF (aR 3 (aw bz (gU bR 2 (af (db "Book" "shape_list" (ae 0)) (af (ae 2) ai))) (fK (.int 1))))
  (aF (bK (nY iK (db "Book" "tellings" (ae 0)) (af (ae 1) ai)))
  (aF (aR 4 (dR fW (af (db "Book" "tellings" (ae 0)) ai)))
  (aF (zE (c7 (lQ (eW bt) 4 (af (kq (db "Book" "tables_now" (ae 0)) (ae 2)) (af (ae 3) (af (ae 1) (af (ae 4) ai)))))) (tO (db "Book" "tables_now" (ae 0)) (ae 2)))
  (bB (ae 4))))))))
noncomputable def bM (bt:Ad):MW:=j1 5 (kH bt)
abbrev kG (bt:Ad):FS:=(bB (bv "Book" "take" (bM bt) 2 (ae 0) (af (bZ (af (fK (.str "tell")) (af (ae 1) (af (ae 2) (af (ae 3) (af (ae 4) ai)))))) ai)))
noncomputable def d6 (bt:Ad):MW:=j1 5 (kG bt)
abbrev iH (bt:Ad):FS:=(bB (bv "Book" "take" (bM bt) 2 (ae 0) (af (bZ (af (fK (.str "strike")) (af (ae 1) (af (ae 2) (af (ae 3) (af (ae 4) ai)))))) ai)))
noncomputable def cW (bt:Ad):MW:=j1 5 (iH bt)
abbrev ij (bt:Ad):FS:=(aF (f8 (fB (aw (kX false) (aw bz (ae 1) (fK (.int 0))) (fK (.str "tell"))))
  (bB (bv "Book" "tell" (d6 bt) 5 (ae 0) (af (aw bz (ae 1) (fK (.int 1))) (af (aw bz (ae 1) (fK (.int 2))) (af (aw bz (ae 1) (fK (.int 3))) (af (aw bz (ae 1) (fK (.int 4))) ai))))))
  aO)
  (bB (bv "Book" "strike" (cW bt) 5 (ae 0) (af (aw bz (ae 1) (fK (.int 1))) (af (aw bz (ae 1) (fK (.int 2))) (af (aw bz (ae 1) (fK (.int 3))) (af (aw bz (ae 1) (fK (.int 4))) ai)))))))
noncomputable def cF (bt:Ad):MW:=j1 2 (ij bt)
abbrev oS (bt:Ad):FS:=(f8 (gE (d8 (dG (dH aS 3 (af (aw jH (ae 4) (ae 6)) (af (ae 1) (af (bV ai) ai)))))) (fB (aw (Gq true) (Aq (bv "Book" "tables" aW 1 (aw jH (ae 4) (ae 6)) ai)) (dE [] 1 (cq (ae 1)) (bU 0) dP (c7 (bV ai))))))
  (bB (fK (.bl false)))
  aO)
abbrev kT (bt:Ad):FS:=(f8 (gE (fB (aw (fS false) (ae 6) (fK (.int 0)))) (fB (aw (fS false) (aw c6 (ae 7) (fK (.int 2))) (fK (.int 1)))))
  (aF (aR 9 (dH (cF bt) 2 (af (aw jH (ae 4) (ae 6)) (af (ae 8) ai))))
  (aF (bK (nY iK (aw jH (ae 5) (ae 6)) (af (ae 8) ai)))
  (f8 (gE (fB (aw (fS true) (ae 9) (dR fW (af (aw jH (ae 5) (ae 6)) ai)))) (dG (jM (eu "bool") (ae 9))))
  (bB (fK (.bl false)))
  aO)))
  aO)
abbrev my (bt:Ad):FS:=(aF (aR 8 (bn cY 3 (af (c7 (aw bz (ae 0) (ae 7))) (af (c7 (ae 1)) (af (c7 (ae 2)) ai)))))
  (aF (iV (cq (bV (af (fK (.int 0)) (af (fK (.int 1)) ai)))) (bU 6)
  (kT bt))
  (f8 (d8 (dG (dH aS 3 (af (aw jH (ae 4) (aw c6 (ae 7) (fK (.int 2)))) (af (ae 1) (af (aw jH (ae 5) (aw c6 (ae 7) (fK (.int 2)))) ai))))))
  (bB (fK (.bl false)))
  aO)))
abbrev D7 (bt:Ad):FS:=(aF (aR 1 (bn dB 1 (af (c7 (bn cL 2 (af (c7 (ae 0)) (af (fK (.int 0)) ai)))) ai)))
  (aF (aR 2 (aw bz (bV (af (fK (.int 1)) (af (fK (.int 1)) (af (aw qW (fK (.int 10)) (fK (.int 40))) ai)))) (aw c6 (bn cL 2 (af (c7 (ae 0)) (af (fK (.int 0)) ai))) (fK (.int 3)))))
  (aF (aR 3 (dR fO (af (ae 1) ai)))
  (aF (aR 4 (Eo (af (eK "Book" aT 2 (af (ae 3) ai)) (af (eK "Book" aT 2 (af (ae 3) ai)) ai))))
  (aF (bK (nY rB (ae 3) ai))
  (aF (aR 5 (Eo (af (bV ai) (af (bV ai) ai))))
  (aF (iV (cq (bV (af (fK (.int 0)) (af (fK (.int 1)) ai)))) (bU 6)
  (oS bt))
  (aF (iV (oC (dR fW (af (Ge (ae 0) jG (iW (fK (.int 50)))) ai))) (bU 7)
  (my bt))
  (bB (vR (dH aS 3 (af (aw jH (ae 4) (fK (.int 0))) (af (ae 1) (af (aw jH (ae 5) (fK (.int 0))) ai)))) (dH aS 3 (af (aw jH (ae 4) (fK (.int 1))) (af (ae 1) (af (aw jH (ae 5) (fK (.int 1))) ai))))))))))))))
noncomputable def vh (bt:Ad):MF:=ir 10 (D7 bt)
noncomputable def zs:Tn:=["list","dict","len","set","sorted","tuple","range","isinstance","bool","int"]
def Pu (mg:Td)(l:Tn):Prop:=∀(i:Nat) (x:Str),l[i]?=some x->mg x=none
def JFm {mg:Td}:Pu mg []:=λi x e=>by simp at e
theorem fj {mg:Td}{x:Str}{l:Tn}(h:mg x=none)(t:Pu mg l):Pu mg (x::l):=λi y e=>by
 cases i with
 |zero=>cases e;exact h
 |succ i=>exact t i y e
def Zs (mg:Td):Prop:=Pu mg zs
structure CF (K:Ax)(mg:Td)(C:Addr):Prop where
 n:mO K mg "Book" C
 a_shape_list:ff K C "shape_list"
 a_tellings:ff K C "tellings"
 a_tables_now:ff K C "tables_now"
 mks:PySem.W.makesIn K C=true
 kp:PySem.W.keepIn K (.ref C)=true
section
variable {P:Aj}{w:An}{K:Ax}{mg:Td}{base:Am}{qC:Aa}(cf:CF K mg qC)
include cf
set_option maxHeartbeats 4000000
theorem vG (z:Zs mg)(d:fg K qC "__init__" "Book.__init__" gc ["self","shapes"])  : bW P w K mg base 1 "__init__" qC ["self","shapes"] aT :=
 AH (k:=0) d sV λf BG A outer s H E hr=>
  (ao (BC cf.n cf.a_shape_list (ag 0) (mY rfl (z 0 _ rfl) (ah (ag 1) am)))
  (ao (BC cf.n cf.a_tellings (ag 0) (gO am))
  (aB (BC cf.n cf.a_tables_now (ag 0) (JDa rfl rfl (z 1 _ rfl) (ah (sX [] ["shape"] [] rfl (show aH (aj gc) _ ["shape"] [] by ac_rfl) (ag 1) (λcl C s₂ H₂ fp=>{(eZ 0 (show(["shape"]:Tn).Nodup by decide)),mE,(c9 (ah (bD (ag 0) al) (ah (cb (gO am)) am)))})) am))))))
theorem vF (z:Zs mg)(d:fg K qC "take" "Book.take" jc ["self","telling"])(fX:cm P w K mg base 2 "check_telling" ["shapes","telling"] bA)(nr:oh P w K mg base 3 "told_on" ["table","keys","telling","turn"] (eW (!HS.bt w)))(cN:cm P w K mg base 1 "shape_of" ["shapes","name"] bR):bW P w K mg base 4 "take" qC ["self","telling"] (bM (!HS.bt w)) :=
 AH (k:=3) d gd λf BG A outer s H E hr=>
  (ao (dj (kN (JEh fX) (hr.mono ∅) (ah (hG cf.n cf.a_shape_list (ag 0)) (ah (ag 1) am))))
  (ao (aV 2 gd.nd (bD (ag 1) al))
  (ao (aV 3 gd.nd (bD (kN cN (hr.mono ∅) (ah (hG cf.n cf.a_shape_list (ag 0)) (ah (ag 2) am))) al))
  (ao (dj (mq (hG cf.n cf.a_tellings (ag 0)) (ah (ag 1) am)))
  (ao (aV 4 gd.nd (j3 rfl (z 2 _ rfl) (ah (hG cf.n cf.a_tellings (ag 0)) am)))
  (ao (HG (cb (oM nr (hr.mono ∅) (ah (uS hr.units (hG cf.n cf.a_tables_now (ag 0)) (ag 2)) (ah (ag 3) (ah (ag 1) (ah (ag 4) am)))))) (Qb hr.units (hG cf.n cf.a_tables_now (ag 0)) (ag 2)))
  (aB (aX (ag 4)))))))))
theorem vE (z:Zs mg)(d:fg K qC "tell" "Book.tell" jb ["self","name","row","low","high"])(Jab:bW P w K mg base 4 "take" qC ["self","telling"] (bM (!HS.bt w))):bW P w K mg base 5 "tell" qC ["self","name","row","low","high"] (d6 (!HS.bt w)) :=
 AH (k:=4) d sU λf BG A outer s H E hr=>
  (aB (aX (iu cf.n Jab (hr.mono ∅) (ag 0) (ah (c9 (ah gN (ah (ag 1) (ah (ag 2) (ah (ag 3) (ah (ag 4) am)))))) am))))
theorem rf (z:Zs mg)(d:fg K qC "strike" "Book.strike" gG ["self","name","key","low","high"])(Jab:bW P w K mg base 4 "take" qC ["self","telling"] (bM (!HS.bt w))):bW P w K mg base 5 "strike" qC ["self","name","key","low","high"] (cW (!HS.bt w)) :=
 AH (k:=4) d pF λf BG A outer s H E hr=>
  (aB (aX (iu cf.n Jab (hr.mono ∅) (ag 0) (ah (c9 (ah gN (ah (ag 1) (ah (ag 2) (ah (ag 3) (ah (ag 4) am)))))) am))))
theorem xr (z:Zs mg)(d:fg K qC "now" "Book.now" jW ["self"])  : bW P w K mg base 1 "now" qC ["self"] dW :=
 AH (k:=0) d uK λf BG A outer s H E hr=>
  (aB (aX (j3 rfl (z 2 _ rfl) (ah (hG cf.n cf.a_tellings (ag 0)) am))))
theorem qe (z:Zs mg)(d:fg K qC "telling" "Book.telling" fT ["self","turn"])  : bW P w K mg base 1 "telling" qC ["self","turn"] bQ :=
 AH (k:=0) d ot λf BG A outer s H E hr=>
  (ao (dz (AF (o8 (Mw (ag 1) al) (l7 (PH (ag 1) (j3 rfl (z 2 _ rfl) (ah (hG cf.n cf.a_tellings (ag 0)) am))))))
  (aB g9)
  bJ)
  (aB (aX (bD (hG cf.n cf.a_tellings (ag 0)) (B9 (ag 1) al)))))
theorem vD (z:Zs mg)(d:fg K qC "told" "Book.told" ja ["self"])  : bW P w K mg base 1 "told" qC ["self"] bX :=
 AH (k:=0) d sS λf BG A outer s H E hr=>
  (aB (aX (mY rfl (z 0 _ rfl) (ah (hG cf.n cf.a_tellings (ag 0)) am))))
theorem tG (z:Zs mg)(d:fg K qC "table" "Book.table" ip ["self","name"])(cN:cm P w K mg base 1 "shape_of" ["shapes","name"] bR):bW P w K mg base 2 "table" qC ["self","name"] aI :=
 AH (k:=1) d qU λf BG A outer s H E hr=>
  (ao (dj (kN cN (hr.mono ∅) (ah (hG cf.n cf.a_shape_list (ag 0)) (ah (ag 1) am))))
  (aB (aX (mY rfl (z 0 _ rfl) (ah (uS hr.units (hG cf.n cf.a_tables_now (ag 0)) (ag 1)) am)))))
theorem rc (z:Zs mg)(d:fg K qC "tables" "Book.tables" eE ["self"])  : bW P w K mg base 1 "tables" qC ["self"] aW :=
 AH (k:=0) d pE λf BG A outer s H E hr=>
  (aB (aX (JFw (fo:=(db "Book" "tables_now" (ae 0))) (J7 [] ["name","table"] [] rfl rfl (z 1 _ rfl) (show aH (aj eE) _ ["name","table"] [] by ac_rfl) (NU (hG cf.n cf.a_tables_now (ag 0))) (λcl C s₂ H₂ fp=>{(F4 rfl (gl (eZ 0 (show(["name","table"]:Tn).Nodup by decide)) (gl (eZ 1 (show(["name","table"]:Tn).Nodup by decide)) tM))),(ag 0),(mY rfl (z 0 _ rfl) (ah (ag 1) am))})))))
theorem rh (z:Zs mg)(d:fg K qC "shapes" "Book.shapes" gH ["self"])  : bW P w K mg base 1 "shapes" qC ["self"] ba :=
 AH (k:=0) d pG λf BG A outer s H E hr=>
  (aB (aX (mY rfl (z 0 _ rfl) (ah (hG cf.n cf.a_shape_list (ag 0)) am))))
theorem xl (z:Zs mg)(d:cH K mg "truth_by" jR ["word","one","other"])  : cm P w K mg base 1 "truth_by" ["word","one","other"] bH :=
 okP (k:=0) d uI λf BG A outer s H E hr=>
  (ao (dz (pw hr.units (ag 0) gN)
  (aB (aX (Ce (ag 1) (yu (ag 2)))))
  bJ)
  (ao (dz (pw hr.units (ag 0) gN)
  (aB (aX (PX (ag 1) (yu (ag 2)))))
  bJ)
  (ao (dz (pw hr.units (ag 0) gN)
  (aB (aX (Ce (ag 1) (yu (Cc (ag 2))))))
  bJ)
  (ao (dz (pw hr.units (ag 0) gN)
  (aB (aX (PY hr.units (ag 1) (ag 2))))
  bJ)
  (aB g9)))))
theorem tD (z:Zs mg)(d:cH K mg "stretch_of" ik ["low","high"])(Jan:iL K mg "NO_NUMBERS" (.tup [(.bl false),(.tup [])]))(Jaj:iL K mg "ALL_NUMBERS" (.tup [(.bl true),(.tup [])])):cm P w K mg base 1 "stretch_of" ["low","high"] eG :=
 okP (k:=0) d qS λf BG A outer s H E hr=>
  (ao (dz (AF (xQ (yf (ag 0)) (wu (yf (ag 1)))))
  (aB (aX (kM Jaj)))
  bJ)
  (ao (dz (yf (ag 0))
  (aB (aX (c9 (ah lG (ah (c9 (ah (ag 1) am)) am)))))
  bJ)
  (ao (dz (yf (ag 1))
  (aB (aX (c9 (ah lG (ah (c9 (ah (ag 0) am)) am)))))
  bJ)
  (ao (dz (Mx (ag 1) (ag 0))
  (aB (aX (kM Jan)))
  bJ)
  (aB (aX (c9 (ah lG (ah (c9 (ah (ag 0) (ah (ag 1) am))) am)))))))))
theorem JEi (z:Zs mg)(d:cH K mg "blend" jV ["one","other","word"])(jl:cm P w K mg base 1 "truth_by" ["word","one","other"] bH):cm P w K mg base 2 "blend" ["one","other","word"] (kS (!HS.bt w)) :=
 okP (k:=1) d cC λf BG A outer s H E hr=>
  (ao (aV 3 cC.nd (bD (ag 0) al))
  (ao (aV 4 cC.nd (bD (ag 1) al))
  (ao (aV 5 cC.nd (bc jl (hr.mono ∅) (ah (cb (ag 2)) (ah (cb (ag 3)) (ah (cb (ag 4)) am)))))
  (ao (aV 6 cC.nd (ag 5))
  (ao (aV 7 cC.nd (Cd rfl rfl (z 1 _ rfl) (ah (iw [] ["edge"] [] rfl (show aH (aj jV) _ ["edge"] [] by ac_rfl) (i4 (bD (ag 0) al)) (λcl C s₂ H₂ fp=>{(eZ 0 (show(["edge"]:Tn).Nodup by decide)),mE,(c9 (ah (ag 0) (ah lG am)))})) am)))
  (ao (aV 8 cC.nd (Cd rfl rfl (z 1 _ rfl) (ah (iw [] ["edge"] [] rfl (show aH (aj jV) _ ["edge"] [] by ac_rfl) (i4 (bD (ag 1) al)) (λcl C s₂ H₂ fp=>{(eZ 0 (show(["edge"]:Tn).Nodup by decide)),mE,(c9 (ah (ag 0) (ah lG am)))})) am)))
  (ao (aV 9 cC.nd (gO am))
  (ao (mj rfl (i4 (JB4 rfl rfl (z 4 _ rfl) (ah (Nv (HR rfl rfl (z 3 _ rfl) (ah (bD (ag 0) al) am)) (HR rfl rfl (z 3 _ rfl) (ah (bD (ag 1) al) am))) am))) (eZ 10 cC.nd)
  (ao (dz (MA hr.units (ag 10) (ag 7))
  (aB (aV 3 cC.nd (Cc (ag 3))))
  bJ)
  (ao (dz (MA hr.units (ag 10) (ag 8))
  (aB (aV 4 cC.nd (Cc (ag 4))))
  bJ)
  (ao (aV 11 cC.nd (bc jl (hr.mono ∅) (ah (cb (ag 2)) (ah (cb (ag 3)) (ah (cb (ag 4)) am)))))
  (ao (dz (Ja hr.units (ag 11) (ag 6))
  (aB (dj (mq (ag 9) (ah (ag 10) am))))
  bJ)
  (aB (aV 6 cC.nd (ag 11))))))) PassesOwn.never)
  (aB (aX (c9 (ah (ag 5) (ah (JC8 rfl (z 5 _ rfl) (ah (ag 9) am)) am)))))))))))))
theorem vC (z:Zs mg)(d:cH K mg "all_spots" i9 ["plots"])  : cm P w K mg base 1 "all_spots" ["plots"] dk :=
 okP (k:=0) d sR λf BG A outer s H E hr=>
  (ao (dz (pw hr.units (j3 rfl (z 2 _ rfl) (ah (ag 0) am)) al)
  (aB (aX (bD (ag 0) al)))
  bJ)
  (aB g9))
theorem xm (z:Zs mg)(d:cH K mg "table_of" fL ["pairs"])(kj:cm P w K mg base 1 "all_spots" ["plots"] dk)(Jad:iL K mg "NO_SPOTS" (.tup [(.tup [(.bl false),(.tup [])]),(.tup [])])):oh P w K mg base 2 "table_of" ["pairs"] (gR (!HS.bt w)) :=
 okN (k:=1) d fM λf BG A outer s H E hr=>
  (ao (aV 1 fM.nd Nu)
  (ao (mj rfl (i4 (ag 0)) (F4 rfl (gl (eZ 2 fM.nd) (gl (eZ 3 fM.nd) tM)))
  (aB (dj (mq (JGn hr.units (ag 1) (ag 2) (gO am)) (ah (ag 3) am)))) PassesOwn.never)
  (ao (wT 4 [1] ["row"] ["plots"] rfl (show aH (aj fL) _ ["row"] ["plots"] by ac_rfl) fM.nd (i4 (zH rfl rfl (z 4 _ rfl) (ah (ag 1) am))) (λcl C s₂ H₂ fp=>{(eZ 0 (show(["row","plots"]:Tn).Nodup by decide)),mE,(c9 (ah (ag 0) (ah (bc kj (hr.mono ∅) (ah (cb (Nn hr.units (ag 1) (ag 0))) am)) am)))}))
  (aB (aX (iw [] ["entry"] [] rfl (show aH (aj fL) _ ["entry"] [] by ac_rfl) (i4 (ag 4)) (λcl C s₂ H₂ fp=>{(eZ 0 (show(["entry"]:Tn).Nodup by decide)),(Of (Ja hr.units (bD (ag 0) al) (kM Jad))),(ag 0)})))))))
theorem xn (z:Zs mg)(d:cH K mg "shape_of" jS ["shapes","name"])  : cm P w K mg base 1 "shape_of" ["shapes","name"] bR :=
 okP (k:=0) d nO λf BG A outer s H E hr=>
  (ao (mj rfl (i4 (ag 0)) (eZ 2 nO.nd)
  (aB (dz (pw hr.units (bD (ag 2) al) (ag 1))
  (aB (aX (ag 2)))
  bJ)) PassesOwn.never)
  (aB g9))
theorem q9 (z:Zs mg)(d:cH K mg "check_width" gF ["numbers","width"])  : cm P w K mg base 1 "check_width" ["numbers","width"] dM :=
 okP (k:=0) d jY λf BG A outer s H E hr=>
  (ao (aV 2 jY.nd (j3 rfl (z 2 _ rfl) (ah (ag 0) am)))
  (aB (dz (Ja hr.units (ag 2) (ag 1))
  (aB g9)
  bJ)))
theorem oA (z:Zs mg)(d:cH K mg "check_stretch" eU ["low","high"])  : cm P w K mg base 1 "check_stretch" ["low","high"] cS :=
 okP (k:=0) d mU λf BG A outer s H E hr=>
  (aB (dz (AF (xQ (Bf (ag 0)) (xQ (Bf (ag 1)) (wu (Mx (ag 1) (ag 0))))))
  (aB g9)
  bJ))
theorem JAj (z:Zs mg)(d:cH K mg "is_tell" lE ["telling"])  : cm P w K mg base 1 "is_tell" ["telling"] bP :=
 okP (k:=0) d wS λf BG A outer s H E hr=>
  (aB (aX (PZ hr.units (bD (ag 0) al) gN)))
theorem oz (z:Zs mg)(d:cH K mg "check_telling" eT ["shapes","telling"])(cN:cm P w K mg base 1 "shape_of" ["shapes","name"] bR)(iA:cm P w K mg base 1 "check_width" ["numbers","width"] dM)(fY:cm P w K mg base 1 "check_stretch" ["low","high"] cS)(eY:cm P w K mg base 1 "is_tell" ["telling"] bP):cm P w K mg base 2 "check_telling" ["shapes","telling"] bA :=
 okP (k:=1) d iU λf BG A outer s H E hr=>
  (ao (aV 2 iU.nd (kN cN (hr.mono ∅) (ah (ag 0) (ah (bD (ag 1) al) am))))
  (ao (dj (bc iA (hr.mono ∅) (ah (cb (bD (ag 1) al)) (ah (cb (J4 (iR (bc eY (hr.mono ∅) (ah (cb (ag 1)) am))) (bD (ag 2) al) (bD (ag 2) al))) am))))
  (aB (dj (bc fY (hr.mono ∅) (ah (cb (bD (ag 1) al)) (ah (cb (bD (ag 1) al)) am)))))))
theorem tF (z:Zs mg)(d:cH K mg "last_reach" im ["plot"])  : cm P w K mg base 1 "last_reach" ["plot"] cM :=
 okP (k:=0) d qT λf BG A outer s H E hr=>
  (aB (aX (J4 (iR (bD (ag 0) al)) (bD (bD (bD (ag 0) al) (yv al)) al) (bD (ag 0) al))))
theorem JAi (z:Zs mg)(d:cH K mg "stepped" lD ["plot","turn","reach"])(dC:cm P w K mg base 1 "last_reach" ["plot"] cM):cm P w K mg base 2 "stepped" ["plot","turn","reach"] iX :=
 okP (k:=1) d wR λf BG A outer s H E hr=>
  (ao (dz (pw hr.units (ag 2) (bc dC (hr.mono ∅) (ah (cb (ag 0)) am)))
  (aB (aX (ag 0)))
  bJ)
  (aB (aX (c9 (ah (bD (ag 0) al) (ah (cZ (bD (ag 0) al) (c9 (ah (c9 (ah (ag 1) (ah (ag 2) am))) am))) am))))))
theorem JAh (z:Zs mg)(d:cH K mg "told_on" lC ["table","keys","telling","turn"])(jm:cm P w K mg base 1 "stretch_of" ["low","high"] eG)(eY:cm P w K mg base 1 "is_tell" ["telling"] bP)(lO:oh P w K mg base 2 "table_of" ["pairs"] (gR (!HS.bt w)))(nt:cm P w K mg base 2 "stepped" ["plot","turn","reach"] iX)(tL:cm P w K mg base 2 "blend" ["one","other","word"] (kS (!HS.bt w)))(dC:cm P w K mg base 1 "last_reach" ["plot"] cM)(Jad:iL K mg "NO_SPOTS" (.tup [(.tup [(.bl false),(.tup [])]),(.tup [])])):oh P w K mg base 3 "told_on" ["table","keys","telling","turn"] (eW (!HS.bt w)) :=
 okN (k:=2) d dh λf BG A outer s H E hr=>
  (ao (aV 4 dh.nd (bD (ag 2) al))
  (ao (aV 5 dh.nd (bc jm (hr.mono ∅) (ah (cb (bD (ag 2) al)) (ah (cb (bD (ag 2) al)) am))))
  (ao (aV 6 dh.nd (JC9 hr.units rfl rfl (z 1 _ rfl) (ah (ag 0) am)))
  (ao (dz (iR (bc eY (hr.mono ∅) (ah (cb (ag 2)) am)))
  (aB (dj (Np hr.units (ag 6) (ag 4) (kM Jad))))
  bJ)
  (ao (aV 7 dh.nd (gO am))
  (ao (JGx rfl (JD7 (ag 6)) (F4 rfl (gl (eZ 8 dh.nd) (gl (eZ 9 dh.nd) tM)))
  (aB (dz (yg hr.units (JY (Nw (ag 8)) zI (uR (ag 1))) (JY (Nw (ag 4)) zI (uR (ag 1))))
  (ao (aV 10 dh.nd (J4 (AF (xQ (iR (bc eY (hr.mono ∅) (ah (cb (ag 2)) am))) (wu (yg hr.units (ag 8) (ag 4))))) gN gN))
  (aB (dj (mq (ag 7) (ah (c9 (ah (ag 8) (ah (bc nt (hr.mono ∅) (ah (cb (ag 9)) (ah (cb (ag 3)) (ah (cb (bc tL (hr.mono ∅) (ah (cb (bc dC (hr.mono ∅) (ah (cb (ag 9)) am))) (ah (cb (ag 5)) (ah (cb (ag 10)) am))))) am)))) am))) am)))))
  (aB (dj (mq (ag 7) (ah (c9 (ah (ag 8) (ah (ag 9) am))) am)))))) PassesOwn.never)
  (aB (aX (oM lO (hr.mono ∅) (ah (ag 7) am))))))))))
theorem xq (z:Zs mg)(d:cH K mg "_law_cell" jU ["script","k"])  : cm P w K mg base 1 "_law_cell" ["script","k"] cL :=
 okP (k:=0) d uJ λf BG A outer s H E hr=>
  (ao (dz (Mw (ag 1) (j3 rfl (z 2 _ rfl) (ah (ag 0) am)))
  (aB (aX (bD (ag 0) (ag 1))))
  bJ)
  (aB (aX al)))
theorem xp (z:Zs mg)(d:cH K mg "_law_stir" jT ["cell","k"])  : cm P w K mg base 1 "_law_stir" ["cell","k"] bE :=
 okP (k:=0) d jX λf BG A outer s H E hr=>
  (ao (aV 2 jX.nd (da (rO (cZ (da (ag 0) al) al) al) al))
  (ao (aV 2 jX.nd (da (cZ (cZ (rO (ag 2) (ag 2)) (rO (ag 1) al)) al) al))
  (aB (aX (da (rO (ag 2) (ag 2)) al)))))
theorem tE (z:Zs mg)(d:cH K mg "_law_shapes" fu ["cell"])(cj:cm P w K mg base 1 "_law_stir" ["cell","k"] bE):cm P w K mg base 2 "_law_shapes" ["cell"] dB :=
 okP (k:=1) d bN λf BG A outer s H E hr=>
  (ao (aV 1 bN.nd (bc cj (hr.mono ∅) (ah (cb (ag 0)) (ah al am))))
  (ao (aV 2 bN.nd (JFv gN (iw [0] ["k"] ["cell"] rfl (show aH (aj fu) _ ["k"] ["cell"] by ac_rfl) (Dh rfl (z 6 _ rfl) (cZ al (da (ag 1) al))) (λcl C s₂ H₂ fp=>{(eZ 0 (show(["k","cell"]:Tn).Nodup by decide)),mE,(HV gN (da (jF (bc cj (hr.mono ∅) (ah (cb (ag 1)) (ah (cb (cZ al (ag 0))) am))) al) al))}))))
  (ao (aV 3 bN.nd (da (jF (ag 1) al) (JFt rfl (z 2 _ rfl) (ah (ag 2) am))))
  (ao (aV 4 bN.nd (gO am))
  (ao (mj rfl (Dh rfl (z 6 _ rfl) (cZ al (da (jF (ag 1) al) al))) (eZ 5 bN.nd)
  (ao (aV 6 bN.nd (cZ al (da (jF (bc cj (hr.mono ∅) (ah (cb (ag 0)) (ah (cb (cZ al (ag 5))) am))) al) (bD (gO (ah al (ah al (ah al am)))) (da (jF (ag 1) al) al)))))
  (ao (aV 7 bN.nd (cZ (cZ (HQ (ag 2) zI (uR (ag 3))) (HV gN (ag 5))) (HQ (ag 2) (uR (cZ (ag 3) al)) zI)))
  (aB (dj (mq (ag 4) (ah (c9 (ah (ag 7) (ah (da (jF (bc cj (hr.mono ∅) (ah (cb (ag 0)) (ah (cb (cZ al (ag 5))) am))) al) (cZ (ag 6) al)) (ah (ag 6) am)))) am)))))) PassesOwn.never)
  (aB (aX (ag 4))))))))
theorem q8 (z:Zs mg)(d:cH K mg "_law_telling" eC ["cell","shapes","scale"])(cj:cm P w K mg base 1 "_law_stir" ["cell","k"] bE):cm P w K mg base 2 "_law_telling" ["cell","shapes","scale"] cY :=
 okP (k:=1) d aU λf BG A outer s H E hr=>
  (ao (aV 3 aU.nd (bc cj (hr.mono ∅) (ah (cb (ag 0)) (ah al am))))
  (ao (HG (bD (ag 1) (da (ag 3) (j3 rfl (z 2 _ rfl) (ah (ag 1) am)))) (F4 rfl (gl (eZ 4 aU.nd) (gl (eZ 5 aU.nd) (gl (eZ 6 aU.nd) tM)))))
  (ao (aV 7 aU.nd (gO (ah al (ah al (ah (yv al) (ah (da (ag 0) (Cb al al)) (ah (B9 al (da (ag 0) (Cb al al))) am)))))))
  (ao (aV 8 aU.nd (JFu rfl (z 5 _ rfl) (ah (iw [7,0] ["k"] ["menu","cell"] rfl (show aH (aj eC) _ ["k"] ["menu","cell"] by ac_rfl) (Dh rfl (z 6 _ rfl) (ag 6)) (λcl C s₂ H₂ fp=>{(eZ 0 (show(["k","menu","cell"]:Tn).Nodup by decide)),mE,(bD (ag 1) (da (jF (bc cj (hr.mono ∅) (ah (cb (ag 2)) (ah (cb (cZ al (ag 0))) am))) al) al))})) am)))
  (ao (aV 9 aU.nd (rO (B9 (da (jF (ag 3) al) al) al) (ag 2)))
  (ao (aV 10 aU.nd (cZ (ag 9) (rO (cZ al (da (jF (ag 3) al) al)) (ag 2))))
  (ao (dz (pw hr.units (da (jF (ag 3) al) al) al)
  (aB (aV 9 aU.nd HU))
  bJ)
  (ao (dz (pw hr.units (da (jF (ag 3) al) al) al)
  (aB (aV 10 aU.nd HU))
  bJ)
  (ao (dz (pw hr.units (da (jF (ag 3) al) al) al)
  (aB (aX (c9 (ah gN (ah (ag 4) (ah (No (ag 8) zI (uR (ag 5))) (ah (ag 9) (ah (ag 10) am))))))))
  bJ)
  (aB (aX (c9 (ah gN (ah (ag 4) (ah (ag 8) (ah (ag 9) (ah (ag 10) am)))))))))))))))))
theorem vB (z:Zs mg)(d:cH K mg "_law_asked" i8 ["book","telling"])(Jak:bW P w K mg base 5 "strike" qC ["self","name","key","low","high"] (cW (!HS.bt w)))(Jaq:bW P w K mg base 5 "tell" qC ["self","name","row","low","high"] (d6 (!HS.bt w))):og P w K mg base 6 "_law_asked" ["book","telling"] (cF (!HS.bt w)) :=
 okW (k:=5) d sQ λf BG A outer s H E hr=>
  (ao (dz (pw hr.units (bD (ag 1) al) gN)
  (aB (aX (iu cf.n Jaq (hr.mono ∅) (ag 0) (ah (bD (ag 1) al) (ah (bD (ag 1) al) (ah (bD (ag 1) al) (ah (bD (ag 1) al) am)))))))
  bJ)
  (aB (aX (iu cf.n Jak (hr.mono ∅) (ag 0) (ah (bD (ag 1) al) (ah (bD (ag 1) al) (ah (bD (ag 1) al) (ah (bD (ag 1) al) am))))))))
theorem vA (z:Zs mg)(d:cH K mg "_law_right" eD ["book","shapes","tellings"])(Jaw:bW P w K mg base 1 "now" qC ["self"] dW)(Jah:bW P w K mg base 1 "told" qC ["self"] bX)(Jaa:bW P w K mg base 1 "tables" qC ["self"] aW)(Jae:bW P w K mg base 1 "shapes" qC ["self"] ba)(Jac:bW P w K mg base 2 "table" qC ["self","name"] aI)(Jaf:bW P w K mg base 1 "telling" qC ["self","turn"] bQ):og P w K mg base 3 "_law_right" ["book","shapes","tellings"] aS :=
 okW (k:=2) d dw λf BG A outer s H E hr=>
  (ao (aV 3 dw.nd (gk cf.n Jaw (hr.mono ∅) (ag 0)))
  (ao (dz (AF (o8 (pq (iR (pK zY rfl (z 7 _ rfl) rfl (z 9 _ rfl) JAc (ag 3)))) (o8 (iR (pK qd rfl (z 7 _ rfl) rfl (z 8 _ rfl) qG (ag 3))) (l7 (pv hr.units (ag 3) (j3 rfl (z 2 _ rfl) (ah (ag 2) am)))))))
  (aB (aX lG))
  bJ)
  (ao (aV 4 dw.nd (gk cf.n Jah (hr.mono ∅) (ag 0)))
  (ao (dz (AF (o8 (pq (iR (pK qc rfl (z 7 _ rfl) rfl (z 0 _ rfl) qF (ag 4)))) (o8 (pv hr.units (ag 4) (ag 2)) (l7 (pv hr.units (gk cf.n Jae (hr.mono ∅) (ag 0)) (ag 1))))))
  (aB (aX lG))
  bJ)
  (ao (mj rfl (Dh rfl (z 6 _ rfl) (j3 rfl (z 2 _ rfl) (ah (ag 2) am))) (eZ 5 dw.nd)
  (aB (dz (AF (o8 (pv hr.units (iu cf.n Jaf (hr.mono ∅) (ag 0) (ah (cZ (ag 5) al) am)) (bD (ag 2) (ag 5))) (l7 (pq (iR (pK vt rfl (z 7 _ rfl) rfl (z 5 _ rfl) wg (bD (ag 4) (ag 5))))))))
  (aB (aX lG))
  bJ)) PassesOwn.never)
  (ao (aV 6 dw.nd (gk cf.n Jaa (hr.mono ∅) (ag 0)))
  (ao (dz (AF (o8 (pq (iR (pK xk rfl (z 7 _ rfl) rfl (z 1 _ rfl) xI (ag 6)))) (l7 (pv hr.units (JFs rfl rfl (z 0 _ rfl) (ah (ag 6) am)) (iw [] ["shape"] [] rfl (show aH (aj eD) _ ["shape"] [] by ac_rfl) (i4 (ag 1)) (λcl C s₂ H₂ fp=>{(eZ 0 (show(["shape"]:Tn).Nodup by decide)),mE,(bD (ag 0) al)}))))))
  (aB (aX lG))
  bJ)
  (ao (mj rfl (i4 (ag 1)) (eZ 7 dw.nd)
  (ao (dz (AF (o8 (pq (iR (pK qc rfl (z 7 _ rfl) rfl (z 0 _ rfl) qF (uS hr.units (ag 6) (bD (ag 7) al))))) (l7 (pv hr.units (iu cf.n Jac (hr.mono ∅) (ag 0) (ah (bD (ag 7) al) am)) (uS hr.units (ag 6) (bD (ag 7) al))))))
  (aB (aX lG))
  bJ)
  (aB (dj (mq (uS hr.units (ag 6) (bD (ag 7) al)) (ah (c9 am) am))))) PassesOwn.never)
  (ao (dj (sY (ag 4)))
  (ao (dj (mq (iu cf.n Jac (hr.mono ∅) (ag 0) (ah (bD (bD (ag 1) al) al) am)) (ah (c9 am) am)))
  (ao (dj (sY (gk cf.n Jae (hr.mono ∅) (ag 0))))
  (ao (dz (Mz hr.units lG (iw [0] ["shape"] ["book"] rfl (show aH (aj eD) _ ["shape"] ["book"] by ac_rfl) (i4 (ag 1)) (λcl C s₂ H₂ fp=>{(eZ 0 (show(["shape","book"]:Tn).Nodup by decide)),mE,(Nr hr.units (c9 am) (iu cf.n Jac (hr.mono ∅) (ag 1) (ah (bD (ag 0) al) am)))})))
  (aB (aX lG))
  bJ)
  (aB (aX (Nt hr.units (gk cf.n Jah (hr.mono ∅) (ag 0)) (ag 2))))))))))))))))
theorem NQ {f:Aa}(z:Zs mg)(F:o7 K "law" "law" sN f fd)(jn:cm P w K mg base 2 "_law_shapes" ["cell"] dB)(jo:cm P w K mg base 1 "_law_cell" ["script","k"] cL)(Jai:bW P w K mg base 1 "__init__" qC ["self","shapes"] aT)(iz:cm P w K mg base 2 "_law_telling" ["cell","shapes","scale"] cY)(et:og P w K mg base 3 "_law_right" ["book","shapes","tellings"] aS)(ki:og P w K mg base 6 "_law_asked" ["book","telling"] (cF (!HS.bt w)))(Jaa:bW P w K mg base 1 "tables" qC ["self"] aW):cw P w K mg base lf 7 f fd ["script"] (AG K 1 (vh (!HS.bt w))) :=
 Lf (k:=6) F gJ λBG A outer s H E hr=>
  (ao (aV 1 gJ.nd (bc jn (hr.mono ∅) (ah (cb (bc jo (hr.mono ∅) (ah (cb (ag 0)) (ah al am)))) am)))
  (ao (aV 2 gJ.nd (bD (gO (ah al (ah al (ah (Cb al al) am)))) (da (bc jo (hr.mono ∅) (ah (cb (ag 0)) (ah al am))) al)))
  (ao (aV 3 gJ.nd (mY rfl (z 0 _ rfl) (ah (ag 1) am)))
  (ao (aV 4 gJ.nd (Nx (ah (oK cf.n cf.mks cf.kp Jai (hr.mono ∅) (ah (ag 3) am)) (ah (oK cf.n cf.mks cf.kp Jai (hr.mono ∅) (ah (ag 3) am)) am))))
  (ao (dj (sY (ag 3)))
  (ao (aV 5 gJ.nd (Nx (ah (gO am) (ah (gO am) am))))
  (ao (mj rfl (i4 (gO (ah al (ah al am)))) (eZ 6 gJ.nd)
  (aB (dz (AF (o8 (pq (iR (jd et (hr.mono ∅) (ah (j4 (ag 4) (ag 6)) (ah (ag 1) (ah (gO am) am)))))) (l7 (Mv hr.units (Nq rfl rfl (z 0 _ rfl) (gk cf.n Jaa (hr.mono ∅) (j4 (ag 4) (ag 6)))) (iw [] ["shape"] [] rfl (show aH (aj sN) _ ["shape"] [] by ac_rfl) (i4 (ag 1)) (λcl C s₂ H₂ fp=>{(eZ 0 (show(["shape"]:Tn).Nodup by decide)),mE,(cb (gO am))}))))))
  (aB (aX lG))
  bJ)) PassesOwn.never)
  (ao (mj rfl (Dh rfl (z 6 _ rfl) (j3 rfl (z 2 _ rfl) (ah (JY (ag 0) zI (uR al)) am))) (eZ 7 gJ.nd)
  (ao (aV 8 gJ.nd (bc iz (hr.mono ∅) (ah (cb (bD (ag 0) (ag 7))) (ah (cb (ag 1)) (ah (cb (ag 2)) am)))))
  (ao (mj rfl (i4 (gO (ah al (ah al am)))) (eZ 6 gJ.nd)
  (aB (dz (AF (o8 (yg hr.units (ag 6) al) (l7 (yg hr.units (da (ag 7) al) al))))
  (ao (aV 9 gJ.nd (jd ki (hr.mono ∅) (ah (j4 (ag 4) (ag 6)) (ah (ag 8) am))))
  (ao (dj (mq (j4 (ag 5) (ag 6)) (ah (ag 8) am)))
  (aB (dz (AF (o8 (pv hr.units (ag 9) (j3 rfl (z 2 _ rfl) (ah (j4 (ag 5) (ag 6)) am))) (l7 (iR (pK qd rfl (z 7 _ rfl) rfl (z 8 _ rfl) qG (ag 9))))))
  (aB (aX lG))
  bJ))))
  bJ)) PassesOwn.never)
  (aB (dz (pq (iR (jd et (hr.mono ∅) (ah (j4 (ag 4) (da (ag 7) al)) (ah (ag 1) (ah (j4 (ag 5) (da (ag 7) al)) am))))))
  (aB (aX lG))
  bJ)))) PassesOwn.never)
  (aB (aX (Ce (jd et (hr.mono ∅) (ah (j4 (ag 4) al) (ah (ag 1) (ah (j4 (ag 5) al) am)))) (yu (jd et (hr.mono ∅) (ah (j4 (ag 4) al) (ah (ag 1) (ah (j4 (ag 5) al) am))))))))))))))))
end
set_option maxHeartbeats 4000000 in
def LB {l:PySem.W.OpenLaw}{w:An}{K:Ax}{h:Am}{mg:Td}{fa qC:Aa}(X:K.In h)(G:h.Ns mainGlobals mg)(hfa:mg "law" = some (.ref fa))
  (aC:PySem.W.nsIn K mainGlobals "Book" = some (some (.ref qC))) (pg:PySem.W.plainGet K qC Str.empty=true) (hd:PySem.W.hasDictIn K qC=true) (po:PySem.W.plainOver K qC=true) (sa:PySem.W.findIn K (.ref qC) "__setattr__" = some (some (.builtin "object.__setattr__"))) (mk:PySem.W.makesIn K qC=true) (kc:PySem.W.keepIn K (.ref qC)=true)
  (n_shape_list:PySem.W.findIn K (.ref qC) "shape_list" = some none)
  (n_tellings:PySem.W.findIn K (.ref qC) "tellings" = some none)
  (n_tables_now:PySem.W.findIn K (.ref qC) "tables_now" = some none)
  (a0:AL K qC "__init__" "Book.__init__" gc)
  (a1:AL K qC "take" "Book.take" jc)
  (a2:AL K qC "tell" "Book.tell" jb)
  (a3:AL K qC "strike" "Book.strike" gG)
  (a4:AL K qC "now" "Book.now" jW)
  (a5:AL K qC "telling" "Book.telling" fT)
  (a6:AL K qC "told" "Book.told" ja)
  (a7:AL K qC "table" "Book.table" ip)
  (a8:AL K qC "tables" "Book.tables" eE)
  (a9:AL K qC "shapes" "Book.shapes" gH)
  (a10:FK K "truth_by" jR)
  (a11:FK K "stretch_of" ik)
  (a12:FK K "blend" jV)
  (a13:FK K "all_spots" i9)
  (a14:FK K "table_of" fL)
  (a15:FK K "shape_of" jS)
  (a16:FK K "check_width" gF)
  (a17:FK K "check_stretch" eU)
  (a18:FK K "is_tell" lE)
  (a19:FK K "check_telling" eT)
  (a20:FK K "last_reach" im)
  (a21:FK K "stepped" lD)
  (a22:FK K "told_on" lC)
  (a23:FK K "_law_cell" jU)
  (a24:FK K "_law_stir" jT)
  (a25:FK K "_law_shapes" fu)
  (a26:FK K "_law_telling" eC)
  (a27:FK K "_law_asked" i8)
  (a28:FK K "_law_right" eD)
  (a29:FK K "law" sN)
  {Ja2:Aa} {Jbm:Nat} {Jbn:Al (Tg)} {Jax:Aa} {Ja9:Nat} {Jba:Al (Tg)} {Jaz:Aa} {Jbf:Nat} {Jbg:Al (Tg)} {Jav:Aa} {Ja5:Nat} {Ja6:Al (Tg)} {Jbe:Aa} {Jb3:Nat} {Jb4:Al (Tg)} {Ja3:Aa} {Jbo:Nat} {Jbp:Al (Tg)} {Ja4:Aa} {Jbq:Nat} {Jbr:Al (Tg)} {Jay:Aa} {Jbb:Nat} {Jbc:Al (Tg)} (Jar:PySem.W.nsIn K mainGlobals "NO_NUMBERS" = some (some (.ref Ja2))) (Jas:K.lookup Ja2=some {.type "tuple",none,.seq ([(.bool false),(.ref Jax)]:Te).toArray Jbm,Jbn}) (Jal:K.lookup Jax=some {.type "tuple",none,.seq ([]:Te).toArray Ja9,Jba}) (Jao:PySem.W.nsIn K mainGlobals "ALL_NUMBERS" = some (some (.ref Jaz))) (Jap:K.lookup Jaz=some {.type "tuple",none,.seq ([(.bool true),(.ref Jav)]:Te).toArray Jbf,Jbg}) (Jag:K.lookup Jav=some {.type "tuple",none,.seq ([]:Te).toArray Ja5,Ja6}) (Ja0:PySem.W.nsIn K mainGlobals "NO_SPOTS" = some (some (.ref Jbe))) (Ja1:K.lookup Jbe=some {.type "tuple",none,.seq ([(.ref Ja4),(.ref Ja3)]:Te).toArray Jb3,Jb4}) (Jat:K.lookup Ja3=some {.type "tuple",none,.seq ([]:Te).toArray Jbo,Jbp}) (Jau:K.lookup Ja4=some {.type "tuple",none,.seq ([(.bool false),(.ref Jay)]:Te).toArray Jbq,Jbr}) (Jam:K.lookup Jay=some {.type "tuple",none,.seq ([]:Te).toArray Jbb,Jbc}) (z0:PySem.W.nsIn K mainGlobals "list" = some none) (z1:PySem.W.nsIn K mainGlobals "dict" = some none) (z2:PySem.W.nsIn K mainGlobals "len" = some none) (z3:PySem.W.nsIn K mainGlobals "set" = some none) (z4:PySem.W.nsIn K mainGlobals "sorted" = some none) (z5:PySem.W.nsIn K mainGlobals "tuple" = some none) (z6:PySem.W.nsIn K mainGlobals "range" = some none) (z7:PySem.W.nsIn K mainGlobals "isinstance" = some none) (z8:PySem.W.nsIn K mainGlobals "bool" = some none) (z9:PySem.W.nsIn K mainGlobals "int" = some none) :
  ∃fd:FuncData,(∀(s:AP) (v:AU),BindsTo s fd {[v],[]} [("script",v)])/\∀base:Am,K.In base->base.Ns mainGlobals mg->cw l.prog w K mg base lf 7 fa fd ["script"] (λvs H Q E=>∀b,AG K 1 (vh b) vs H Q E):=by
 have z:Zs mg:=(fj (Fi X G z0) (fj (Fi X G z1) (fj (Fi X G z2) (fj (Fi X G z3) (fj (Fi X G z4) (fj (Fi X G z5) (fj (Fi X G z6) (fj (Fi X G z7) (fj (Fi X G z8) (fj (Fi X G z9) JFm))))))))));have Jan:iL K mg "NO_NUMBERS" (.tup [(.bl false),(.tup [])]):=qw (zb9 X G Jar) (kB Jas (show 2<=sizeLine by decide) (fP DU (fP (kB Jal (show 0<=sizeLine by decide) ie) ie)));have Jaj:iL K mg "ALL_NUMBERS" (.tup [(.bl true),(.tup [])]):=qw (zb9 X G Jao) (kB Jap (show 2<=sizeLine by decide) (fP DU (fP (kB Jag (show 0<=sizeLine by decide) ie) ie)));have Jad:iL K mg "NO_SPOTS" (.tup [(.tup [(.bl false),(.tup [])]),(.tup [])]):=qw (zb9 X G Ja0) (kB Ja1 (show 2<=sizeLine by decide) (fP (kB Jau (show 2<=sizeLine by decide) (fP DU (fP (kB Jam (show 0<=sizeLine by decide) ie) ie))) (fP (kB Jat (show 0<=sizeLine by decide) ie) ie)));have cf:CF K mg qC:={{aC,zb9 X G aC,⟨pg,hd,po,sa⟩},n_shape_list,n_tellings,n_tables_now,mk,kc};have Jbw:=a0.at_ (ps:=["self","shapes"]) (λ_ _ _ _ _ _=>zo λ_ _=>rfl);have Jbx:=a1.at_ (ps:=["self","telling"]) (λ_ _ _ _ _ _=>zo λ_ _=>rfl);have Jby:=a2.at_ (ps:=["self","name","row","low","high"]) (λ_ _ _ _ _ _=>Ru λ_ _ _ _ _=>rfl);have Jbh:=a3.at_ (ps:=["self","name","key","low","high"]) (λ_ _ _ _ _ _=>Ru λ_ _ _ _ _=>rfl);have Jb5:=a4.at_ (ps:=["self"]) (λ_ _ _ _ _ _=>AS λ_=>rfl);have Jbd:=a5.at_ (ps:=["self","turn"]) (λ_ _ _ _ _ _=>zo λ_ _=>rfl);have Jbz:=a6.at_ (ps:=["self"]) (λ_ _ _ _ _ _=>AS λ_=>rfl);have Jbs:=a7.at_ (ps:=["self","name"]) (λ_ _ _ _ _ _=>zo λ_ _=>rfl);have Jbi:=a8.at_ (ps:=["self"]) (λ_ _ _ _ _ _=>AS λ_=>rfl);have Jbj:=a9.at_ (ps:=["self"]) (λ_ _ _ _ _ _=>AS λ_=>rfl);have Jb6:=a10.at_ (ps:=["word","one","other"]) X G (λ_ _ _ _ _ _=>LJ λ_ _ _=>rfl);have Jbt:=a11.at_ (ps:=["low","high"]) X G (λ_ _ _ _ _ _=>zo λ_ _=>rfl);have Jce:=a12.at_ (ps:=["one","other","word"]) X G (λ_ _ _ _ _ _=>LJ λ_ _ _=>rfl);have Jb0:=a13.at_ (ps:=["plots"]) X G (λ_ _ _ _ _ _=>AS λ_=>rfl);have Jb7:=a14.at_ (ps:=["pairs"]) X G (λ_ _ _ _ _ _=>AS λ_=>rfl);have Jb8:=a15.at_ (ps:=["shapes","name"]) X G (λ_ _ _ _ _ _=>zo λ_ _=>rfl);have Jbk:=a16.at_ (ps:=["numbers","width"]) X G (λ_ _ _ _ _ _=>zo λ_ _=>rfl);have Ja7:=a17.at_ (ps:=["low","high"]) X G (λ_ _ _ _ _ _=>zo λ_ _=>rfl);have Jcb:=a18.at_ (ps:=["telling"]) X G (λ_ _ _ _ _ _=>AS λ_=>rfl);have Ja8:=a19.at_ (ps:=["shapes","telling"]) X G (λ_ _ _ _ _ _=>zo λ_ _=>rfl);have Jbu:=a20.at_ (ps:=["plot"]) X G (λ_ _ _ _ _ _=>AS λ_=>rfl);have Jcc:=a21.at_ (ps:=["plot","turn","reach"]) X G (λ_ _ _ _ _ _=>LJ λ_ _ _=>rfl);have Jcd:=a22.at_ (ps:=["table","keys","telling","turn"]) X G (λ_ _ _ _ _ _=>Rv λ_ _ _ _=>rfl);have Jb9:=a23.at_ (ps:=["script","k"]) X G (λ_ _ _ _ _ _=>zo λ_ _=>rfl);have Jca:=a24.at_ (ps:=["cell","k"]) X G (λ_ _ _ _ _ _=>zo λ_ _=>rfl);have Jbv:=a25.at_ (ps:=["cell"]) X G (λ_ _ _ _ _ _=>AS λ_=>rfl);have Jbl:=a26.at_ (ps:=["cell","shapes","scale"]) X G (λ_ _ _ _ _ _=>LJ λ_ _ _=>rfl);have Jb1:=a27.at_ (ps:=["book","telling"]) X G (λ_ _ _ _ _ _=>zo λ_ _=>rfl);have Jb2:=a28.at_ (ps:=["book","shapes","tellings"]) X G (λ_ _ _ _ _ _=>LJ λ_ _ _=>rfl);obtain⟨fdL,FL,bL⟩:=a29.law (ps:=["script"]) X G hfa (λ_ _ _ _ _ _=>AS λ_=>rfl);refine{fdL,λs v=>bL s [v] rfl,λbase _ _=>?_};have Jai:=vG (P:=l.prog) (w:=w) (base:=base) cf z Jbw;have Jaw:=xr (P:=l.prog) (w:=w) (base:=base) cf z Jb5;have Jaf:=qe (P:=l.prog) (w:=w) (base:=base) cf z Jbd;have Jah:=vD (P:=l.prog) (w:=w) (base:=base) cf z Jbz;have Jaa:=rc (P:=l.prog) (w:=w) (base:=base) cf z Jbi;have Jae:=rh (P:=l.prog) (w:=w) (base:=base) cf z Jbj
 have jl:=xl (P:=l.prog) (w:=w) (base:=base) cf z Jb6
 have jm:=tD (P:=l.prog) (w:=w) (base:=base) cf z Jbt Jan Jaj;have kj:=vC (P:=l.prog) (w:=w) (base:=base) cf z Jb0;have cN:=xn (P:=l.prog) (w:=w) (base:=base) cf z Jb8;have iA:=q9 (P:=l.prog) (w:=w) (base:=base) cf z Jbk;have fY:=oA (P:=l.prog) (w:=w) (base:=base) cf z Ja7;have eY:=JAj (P:=l.prog) (w:=w) (base:=base) cf z Jcb;have dC:=tF (P:=l.prog) (w:=w) (base:=base) cf z Jbu;have jo:=xq (P:=l.prog) (w:=w) (base:=base) cf z Jb9;have cj:=xp (P:=l.prog) (w:=w) (base:=base) cf z Jca;have Jac:=tG (P:=l.prog) (w:=w) (base:=base) cf z Jbs cN;have tL:=JEi (P:=l.prog) (w:=w) (base:=base) cf z Jce jl;have lO:=xm (P:=l.prog) (w:=w) (base:=base) cf z Jb7 kj Jad;have fX:=oz (P:=l.prog) (w:=w) (base:=base) cf z Ja8 cN iA fY eY;have nt:=JAi (P:=l.prog) (w:=w) (base:=base) cf z Jcc dC;have jn:=tE (P:=l.prog) (w:=w) (base:=base) cf z Jbv cj;have iz:=q8 (P:=l.prog) (w:=w) (base:=base) cf z Jbl cj;have nr:=JAh (P:=l.prog) (w:=w) (base:=base) cf z Jcd jm eY lO nt tL dC Jad;have et:=vA (P:=l.prog) (w:=w) (base:=base) cf z Jb2 Jaw Jah Jaa Jae Jac Jaf;have Jab:=vF (P:=l.prog) (w:=w) (base:=base) cf z Jbx fX nr cN;have Jaq:=vE (P:=l.prog) (w:=w) (base:=base) cf z Jby Jab;have Jak:=rf (P:=l.prog) (w:=w) (base:=base) cf z Jbh Jab;have ki:=vB (P:=l.prog) (w:=w) (base:=base) cf z Jb1 Jak Jaq;exact(NQ (P:=l.prog) (w:=w) (base:=base) cf z FL jn jo Jai iz et ki Jaa).imp λ_ _ _ _ h=>h _
end
end LW
namespace LW
open HW
def uw (a0 a1:R)(U:ac):aT [a0,a1] U=(kI [some a0,some a1] U).bind nu:=rfl
def uv (bt:Ad)(a0 a1:R)(U:ac):bM bt [a0,a1] U=(kH bt [some a0,some a1,none,none,none] U).bind nu:=rfl
def uu (bt:Ad)(a0 a1 a2 a3 a4:R)(U:ac):d6 bt [a0,a1,a2,a3,a4] U=(kG bt [some a0,some a1,some a2,some a3,some a4] U).bind nu:=rfl
def qO (bt:Ad)(a0 a1 a2 a3 a4:R)(U:ac):cW bt [a0,a1,a2,a3,a4] U=(iH bt [some a0,some a1,some a2,some a3,some a4] U).bind nu:=rfl
def wB (a0:R)(U:ac):dW [a0] U=(lX [some a0] U).bind nu:=rfl
def pi (a0 a1:R)(U:ac):bQ [a0,a1] U=(gX [some a0,some a1] U).bind nu:=rfl
def ut (a0:R)(U:ac):bX [a0] U=(kF [some a0] U).bind nu:=rfl
def sL (a0 a1:R)(U:ac):aI [a0,a1] U=(jA [some a0,some a1] U).bind nu:=rfl
def qN (a0:R)(U:ac):aW [a0] U=(iG [some a0] U).bind nu:=rfl
def qP (a0:R)(U:ac):ba [a0] U=(iI [some a0] U).bind nu:=rfl
def ph (a0 a1 a2:D):bH [a0,a1,a2]=g8 (ju [some (.v a0),some (.v a1),some (.v a2)] []):=rfl
def sI (a0 a1:D):eG [a0,a1]=g8 (jw [some (.v a0),some (.v a1)] []):=rfl
def Ev (bt:Ad)(a0 a1 a2:D):kS bt [a0,a1,a2]=g8 (uc bt [some (.v a0),some (.v a1),some (.v a2),none,none,none,none,none,none,none,none,none] []):=rfl
def wx (bt:Ad)(a0:D):gR bt [a0]=vQ (lU bt [some (.v a0),none,none,none,none] []):=rfl
def wy (a0 a1:D):bR [a0,a1]=g8 (lV [some (.v a0),some (.v a1),none] []):=rfl
def qM (a0 a1:D):dM [a0,a1]=g8 (iF [some (.v a0),some (.v a1),none] []):=rfl
def oq (a0 a1:D):cS [a0,a1]=g8 (f6 [some (.v a0),some (.v a1)] []):=rfl
def rE (a0:D):bP [a0]=g8 (gD [some (.v a0)] []):=rfl
def on (a0 a1:D):bA [a0,a1]=g8 (dU [some (.v a0),some (.v a1),none] []):=rfl
def sK (a0:D):cM [a0]=g8 (jz [some (.v a0)] []):=rfl
def zu (a0 a1 a2:D):iX [a0,a1,a2]=g8 (kZ [some (.v a0),some (.v a1),some (.v a2)] []):=rfl
def zt (bt:Ad)(a0 a1 a2 a3:D):eW bt [a0,a1,a2,a3]=vQ (nI bt [some (.v a0),some (.v a1),some (.v a2),some (.v a3),none,none,none,none,none,none,none] []):=rfl
def wA (a0 a1:D):cL [a0,a1]=g8 (jy [some (.v a0),some (.v a1)] []):=rfl
def wz (a0 a1:D):bE [a0,a1]=g8 (lW [some (.v a0),some (.v a1),none] []):=rfl
def sJ (a0:D):dB [a0]=g8 (jx [some (.v a0),none,none,none,none,none,none,none] []):=rfl
def qL (a0 a1 a2:D):cY [a0,a1,a2]=g8 (fI [some (.v a0),some (.v a1),some (.v a2),none,none,none,none,none,none,none,none] []):=rfl
def uq (bt:Ad)(a0 a1:R)(U:ac):cF bt [a0,a1] U=(ij bt [some a0,some a1] U).bind nu:=rfl
def uo (a0 a1 a2:R)(U:ac):aS [a0,a1,a2] U=(kE [some a0,some a1,some a2,none,none,none,none,none] U).bind nu:=rfl
def L0 (bt:Ad)(a0:D):vh bt [a0]=g8 (D7 bt [some (.v a0),none,none,none,none,none,none,none,none,none] []):=rfl
abbrev Rc:=Ad×Th
abbrev rD (r:Rc):D:=.tup [.bl r.1,.tup (r.2.map .int)]
abbrev sD (p:Int×Rc):D:=.tup [.int p.1,rD p.2]
def gP {n:Nat}{xs:R4 D}(h:okDs n xs=true):cR (n+1) (.tup xs)=true:=by simpa[cR] using h
def vc {n:Nat}{xs:R4 D}(h:okDs n xs=true):cR (n+1) (.fl xs)=true:=by simpa[cR] using h
def aY {n:Nat}{x:D}{xs:R4 D}(h:cR n x=true)(h':okDs n xs=true):okDs n (x::xs)=true:=by simp[okDs,h,h']
def jg {n:Nat}:okDs n []=true:=by cases n <;> rfl
def w6 {n:Nat}(r:Rc):cR (n+2) (rD r)=true:=gP (aY NK (aY (gP (kP _)) jg))
def KF {n:Nat}(p:Int×Rc):cR (n+3) (sD p)=true:=gP (aY KH (aY (w6 _) jg))
theorem yE {Z:Type}{n:Nat}{f:Z->D}(h:∀a,cR n (f a)=true):∀xs:R4 Z,okDs n (xs.map f)=true
 |[]=>jg
 |x::xs=>aY (h x) (yE h xs)
abbrev pD (g:Rc)(qs:R4 (Int×Rc)):D:=.tup [rD g,.tup (qs.map sD)]
def CM {n:Nat}(g:Rc)(qs:R4 (Int×Rc)):cR (n+5) (pD g qs)=true:=gP (aY (w6 _) (aY (gP (yE (λp=>KF p) qs)) jg))
def Ia (r:Rc):cR 60 (rD r)=true:=w6 r
def NI (g:Rc)(qs:R4 (Int×Rc)):cR 60 (pD g qs)=true:=CM g qs
def ze (r s:Rc):iD (rD r) (rD s)=decide (r=s):=by let⟨a,xs⟩:=r;let⟨b,ys⟩:=s;rwa[rD,oX,xC,xD,tU,cE,eM,gm,gp,sn,zcs,Prod.mk.injEq];cases a <;> cases b <;> simp
def Ot (p q:Int×Rc):iD (sD p) (sD q)=decide (p=q):=by let⟨a,r⟩:=p;let⟨b,s⟩:=q;have:=ze r s;rwa[sD,oX,xC,xD,tU,cE,eM,gm,gp,zcs,Prod.mk.injEq,zcV] at this ⊢;rw[this];congr 1
theorem zb {Z:Type}[DecidableEq Z]{f:Z->D}(h:∀a b,iD (f a) (f b)=decide (a=b)):∀xs ys:R4 Z,eqDs (xs.map f) (ys.map f)=decide (xs=ys)
 |[],[]=>by simp[cE,eM,gm,gp]
 |[],_::_=>by simp[cE,eM,gm,gp]
 |_::_,[]=>by simp[cE,eM,gm,gp]
 |x::xs,y::ys=>by rwa[BH,cE,eM,gm,gp,h,zb h xs ys,List.cons.injEq,zcV]
def Ou (g h:Rc)(ps qs:R4 (Int×Rc)):iD (pD g ps) (pD h qs)=decide (g=h/\ps=qs):=by
 show(iD (rD g) (rD h)&&(eqDs (ps.map sD) (qs.map sD)&&true))=_
 rw[ze,zb Ot,zcs,zcV]
theorem qj:∀xs:Th,flatDs (xs.map .int)=true
 |[]=>rfl
 |x::xs=>by simp[flatDs,dq,qj xs]
def yV (r:Rc):dq (rD r)=true:=by simp[rD,dq,flatDs,qj]
theorem vO:∀ps:R4 (Int×Rc),flatDs (ps.map sD)=true
 |[]=>rfl
 |p::ps=>by
  show((true&&(dq (rD p.2)&&true))&&flatDs (ps.map sD))=true
  rw[yV,vO ps];rfl
def JFe (g:Rc)(ps:R4 (Int×Rc)):dq (pD g ps)=true:=by have:=yV g;rwa[pD,dq,flatDs,vO,zcs] at *;exact this
abbrev Up (ps:R4 (Int×Rc)):Prop:=ps.Pairwise λa b=>a.1<b.1
def PB:Rc->R4 (Int×Rc)->Prop
 |_,[]=>True
 |g,p::ps=>p.2≠g/\PB p.2 ps
noncomputable def ra:Rc->R4 (Int×Rc)->Int->Rc
 |g,[],_=>g
 |g,p::ps,t=>if t<p.1 then g else ra p.2 ps t
def lY {Z:Type}{f:Z->D}{xs:R4 Z}{k:Nat}{a:Z}(h:xs[k]?=some a):L2.iJ (xs.map f) (k:Int)=some (f a):=ud ∅ (by simp[h])
noncomputable def lst:Rc->R4 (Int×Rc)->Rc
 |g,[]=>g
 |_,p::ps=>lst p.2 ps
theorem zC {Z:Type}{x y:Z}{l:R4 Z}:(x::l).set 0 y=y::l:=rfl
theorem sets {Z:Type}{x y:Z}{l:R4 Z}{n:Nat}:(x::l).set (n+1) y=x::l.set n y:=rfl
def Bt {n m:Nat}(h:n<=m)(hm:m<=10000:=by decide):n<sizeLine:=by have:sizeLine=2 ^ 24:=rfl;omega
def Qa {Z:Type}{x:Z}{l:R4 Z}:(x::l)[0]?=some x:=rfl
structure LS where
 p:Bool
 q:Bool
 last:Bool
 out:Th
noncomputable def aZ (w:Ad->Ad->Ad)(a b:Th)(s:LS)(e:Int):LS :=
 let p:=if a.contains e then !s.p else s.p
 let q:=if b.contains e then !s.q else s.q
 {p,q,w p q,if w p q != s.last then s.out++[e] else s.out}
noncomputable def i5 (w:Ad->Ad->Ad)(a b:Th)(p q:Ad)(es:Th):LS:=es.foldl (aZ w a b) {p,q,w p q,[]}
noncomputable def cz (a b:Th):Th:=gT (HS.aK (HS.aK [] a) (HS.aK [] b))
noncomputable def me (e:Int):D:=.tup [.int e,.bl true]
theorem nR:∀(a:Th),m6 (a.map me)=some (a.map λe=>(.inl e,.bl true))
 |[]=>rfl
 |e::a=>by have ih:=nR a;rwa[BH,me] at ih ⊢;rwa[m6,ih,EY]
def JDc (Ab:R4 (L2.aE×D))(k x:L2.aE)(v:D):((hJ Ab k v).any λkv=>decide (kv.1=x))=((Ab.any λkv=>decide (kv.1=x)) || decide (k=x)):=by
 unfold hJ;split
 ·rename_i h;have hm:((Ab.map λkv=>if kv.1=k then (kv.1,v) else kv).any λkv=>decide (kv.1=x))=Ab.any λkv=>decide (kv.1=x):=by rw[zcC];congr 1;funext kv;rwa[Function.comp];split <;> rfl
  rw[hm];by_cases e:k=x
  ·subst e;rw[h];rfl
  ·simp[e]
 ·rw[List.any_append];simp
theorem pM (x:L2.aE):∀(ps Ab:R4 (L2.aE×D)),((aQ Ab ps).any λkv=>decide (kv.1=x))=((Ab.any λkv=>decide (kv.1=x)) || ps.any λkv=>decide (kv.1=x))
 |[],Ab=>by simp[aQ]
 |p::ps,Ab=>by have ih:=pM x ps (hJ Ab p.1 p.2);rwa[aQ,EX] at ih ⊢;rw[ih,JDc,E7,Bool.or_assoc]
theorem JAq (a:Th)(e:Int):((aQ [] (a.map λe=>((.inl e:L2.aE),D.bl true))).any λkv=>decide (kv.1=.inl e))=a.contains e:=by
 rw[pM];rwa[List.any_nil,Bool.false_or,zcC];induction a with
 |nil=>rfl
 |cons x a ih=>
  rw[E7,ih,List.contains_cons];congr 1;rwa[Function.comp];by_cases h:x=e
  ·subst h;simp
  ·have h':¬ e=x:=λz=>h z.symm;simp[h,h']
def qA {a:Th}{U:ac}{O:Lo}:cG (bU 0) dP (bZ (af (ae 0) (af (fK (.bl true)) ai))) (a.map .int) (bT 1 [] O) U=some (a.map me,U):=by
 have:=v7 (g:=bU 0) (c:=dP) (f:=bZ (af (ae 0) (af (fK (.bl true)) ai))) (U:=U) (λO=>∃x,O=[x]) (λ_=>true) (λd=>.tup [d,.bl true]) (xs:=a.map .int) (O:=bT 1 [] O) {none,rfl} (by intro x hx O hO;let⟨y,rfl⟩:=hO;refine{[some (.v x)],rfl,{_,rfl},rfl,λ_=>?_};rwa[Dx,bS,mF,ca,Ll,iC,du];exact yX rfl (show 2<=sizeLine by decide))
 rw[this,List.filter_eq_self.mpr (λ_ _=>rfl),E6];rfl
abbrev D1:FS:=(aF (f8 (fB (aw (F1 false) (ae 10) (ae 7)))
  (aR 3 (rq (ae 3)))
  aO)
  (aF (f8 (fB (aw (F1 false) (ae 10) (ae 8)))
  (aR 4 (rq (ae 4)))
  aO)
  (aF (aR 11 (bn bH 3 (af (c7 (ae 2)) (af (c7 (ae 3)) (af (c7 (ae 4)) ai)))))
  (aF (f8 (fB (aw (kX true) (ae 11) (ae 6)))
  (bK (nY iK (ae 9) (af (ae 10) ai)))
  aO)
  (aR 6 (ae 11))))))
theorem SD {Z:Type}{x y:Z}{l:R4 Z}:(x::y::l)[1]?=some y:=rfl
theorem Sz {Z:Type}{x y z u:Z}{l:R4 Z}:(x::y::z::u::l)[3]?=some u:=rfl
theorem P9 {Z:Type}{x y z u v:Z}{l:R4 Z}:(x::y::z::u::v::l)[4]?=some v:=rfl
def JB2 (a b:Th):(HS.aK (HS.aK [] a) (HS.aK [] b)).length<=a.length+b.length:=by have h1:=HS.kR (HS.aK [] b) (HS.aK [] a);have h2:=HS.kR b [];have h3:=HS.kR a [];rwa[Fg] at h2 h3;omega
theorem rZ:∀(es:Th),iZ (es.map .int)=some es
 |[]=>rfl
 |e::es=>by simp[iZ,rZ es]
def yY {bt:Ad}{es:Th}{U:ac}(hl:es.length<4000):wQ bt [.v (.tup (es.map .int))] U=some (.s bt (HS.aK [] es),U):=by rwa[wQ,dF,rZ,BY,Ae hl]
def Ix {bt:Ad}{xs ys:Th}{U:ac}(hl:xs.length+ys.length<64):LN bt (.s bt xs) (.s bt ys) U=some (.s bt (HS.aK xs ys),U):=by rwa[LN,hl,and_self,if_true]
def JC4 {bt:Ad}{es:Th}{U:ac}(hl:es.length<64):kL bt [.s bt es] U=some (.p U.length,U++[.lst ((gT es).map .int)]):=by rwa[kL,hl,and_self,if_true]
def y4 {n:Nat}{a:Th}{U:ac}(h:U[n]?=some (.lst (a.map me))):qu [.p n] U=some (.p U.length,U++[.dct (aQ [] (a.map λe=>(.inl e,.bl true)))]):=by rwa[qu,h,nR,BY]
def DC {n:Nat}{a:Th}{e:Int}{U:ac}(h:U[n]?=some (.dct (aQ [] (a.map λe=>(.inl e,.bl true))))):F1 false (.v (.int e)) (.p n) U=some (.v (.bl (a.contains e)),U):=by rwa[F1,h,C4,if_false,JAq]
def L4 (w:Ad->Ad->Ad)(wd:Str)(hw:∀(x y:Ad) (U:ac),mQ (some ([.v (.str wd),.v (.bl x),.v (.bl y)],U)) bH 3=some (.v (.bl (w x y)),U))
  (a b:Th) (s:LS) (e:Int) (x0 x1 x5 x10 Ga:AA R) (c0 c2 c5:au) (hs:s.out.length<64) :
  LK (bU 10 (.v (.int e)) [x0,x1,some (.v (.str wd)),some (.v (.bl s.p)),some (.v (.bl s.q)),x5,some (.v (.bl s.last)),bf 1,bf 3,bf 4,x10,Ga] [c0,.dct (aQ [] (a.map λe=>(.inl e,.bl true))),c2,.dct (aQ [] (b.map λe=>(.inl e,.bl true))),.lst (s.out.map .int),c5]) D1
   = some (.nx [x0,x1,some (.v (.str wd)),some (.v (.bl (aZ w a b s e).p)),some (.v (.bl (aZ w a b s e).q)),x5,some (.v (.bl (aZ w a b s e).last)),bf 1,bf 3,bf 4,dL e,some (.v (.bl (aZ w a b s e).last))] [c0,.dct (aQ [] (a.map λe=>(.inl e,.bl true))),c2,.dct (aQ [] (b.map λe=>(.inl e,.bl true))),.lst ((aZ w a b s e).out.map .int),c5]):=by
 rw[DD,qq];rwa[zC,sets,D1,nA,fZ,tT,gW,nZ,mF,d3,dZ,DC (n:=1) (a:=a) SD,DI]
 have T1:uy (some (a.contains e,[c0,.dct (aQ [] (a.map λe=>(.inl e,.bl true))),c2,.dct (aQ [] (b.map λe=>(.inl e,.bl true))),.lst (s.out.map .int),c5])) (aR 3 (rq (ae 3))) aO [x0,x1,some (.v (.str wd)),some (.v (.bl s.p)),some (.v (.bl s.q)),x5,some (.v (.bl s.last)),bf 1,bf 3,bf 4,dL e,Ga]
   = some (.nx [x0,x1,some (.v (.str wd)),some (.v (.bl (aZ w a b s e).p)),some (.v (.bl s.q)),x5,some (.v (.bl s.last)),bf 1,bf 3,bf 4,dL e,Ga] [c0,.dct (aQ [] (a.map λe=>(.inl e,.bl true))),c2,.dct (aQ [] (b.map λe=>(.inl e,.bl true))),.lst (s.out.map .int),c5]):=by
  unfold aZ;cases a.contains e <;> rfl
 rw[T1];rwa[hZ,nA,fZ,tT,gW,nZ,mF,d3,dZ,DC (n:=3) (a:=b) Sz,DI]
 have T2:uy (some (b.contains e,[c0,.dct (aQ [] (a.map λe=>(.inl e,.bl true))),c2,.dct (aQ [] (b.map λe=>(.inl e,.bl true))),.lst (s.out.map .int),c5])) (aR 4 (rq (ae 4))) aO [x0,x1,some (.v (.str wd)),some (.v (.bl (aZ w a b s e).p)),some (.v (.bl s.q)),x5,some (.v (.bl s.last)),bf 1,bf 3,bf 4,dL e,Ga]
   = some (.nx [x0,x1,some (.v (.str wd)),some (.v (.bl (aZ w a b s e).p)),some (.v (.bl (aZ w a b s e).q)),x5,some (.v (.bl s.last)),bf 1,bf 3,bf 4,dL e,Ga] [c0,.dct (aQ [] (a.map λe=>(.inl e,.bl true))),c2,.dct (aQ [] (b.map λe=>(.inl e,.bl true))),.lst (s.out.map .int),c5]):=by
  unfold aZ;cases b.contains e <;> rfl
 rw[T2];rwa[hZ,nA,iB,za,bS,Iy,nZ,mF,DF,ca,iC,du,hw,mG,zC,sets,fZ,tT,gW,d3,dZ,Lh,DI];have e1:(aZ w a b s e).last=w (aZ w a b s e).p (aZ w a b s e).q:=rfl
 have e2:(aZ w a b s e).out=if w (aZ w a b s e).p (aZ w a b s e).q != s.last then s.out++[e] else s.out:=rfl
 rw[e1,e2];generalize w (aZ w a b s e).p (aZ w a b s e).q=here
 by_cases hc:here=s.last
 ·have c1:(!(here == s.last))=false:=by simp[hc]
  have c2:(here != s.last)=false:=by simp[hc]
  rw[c1,c2];rwa[Lp,Gj,hZ,iB,nZ,mF,mG,zC,sets,C4,if_false]
 ·have c1:(!(here == s.last))=true:=by simp[hc]
  have c2:(here != s.last)=true:=by simp[hc]
  rw[c1,c2];rwa[Ln,oW,yZ,nZ,mF,Lj (n:=4) (xs:=s.out.map .int) P9,bS,ca,iC,du,Li,Lv (n:=4) (xs:=s.out.map .int) P9 (by rw[BR];exact Bt (m:=64) ∅),DG,hZ,iB,mG,zC,sets,if_true,DK,BH,Dj]
theorem SA {Z:Type}{x y z:Z}{l:R4 Z}:(x::y::z::l)[2]?=some z:=rfl
theorem wf (w:Ad->Ad->Ad)(a b:Th):∀(es:Th) (s:LS),(es.foldl (aZ w a b) s).out.length<=s.out.length+es.length
 |[],s=>by simp
 |e::es,s=>by
  have h1:=wf w a b es (aZ w a b s e);have h2:(aZ w a b s e).out.length<=s.out.length+1:=by
   have:(aZ w a b s e).out=if w (aZ w a b s e).p (aZ w a b s e).q != s.last then s.out++[e] else s.out:=rfl
   rw[this];split <;> simp
  rwa[EX,CK];omega
set_option maxHeartbeats 4000000 in
def JCj (bt:Ad)(w:Ad->Ad->Ad)(wd:Str)(hw:∀(x y:Ad) (U:ac),mQ (some ([.v (.str wd),.v (.bl x),.v (.bl y)],U)) bH 3=some (.v (.bl (w x y)),U))
  (p q:Ad) (a b:Th) (hl:a.length+b.length<64) :
  kS bt [.tup [.bl p,.tup (a.map .int)],.tup [.bl q,.tup (b.map .int)],.str wd]=some (.tup [.bl (w p q),.tup ((i5 w a b p q (cz a b)).out.map .int)]):=by
 rw[Ev];have i0:∀(x:Ad) (es:Th),L2.iJ [D.bl x,.tup (es.map .int)] 0=some (.bl x):=λ_ _=>rfl;have i1:∀(x:Ad) (es:Th),L2.iJ [D.bl x,.tup (es.map .int)] 1=some (.tup (es.map .int)):=λ_ _=>rfl
 have la:(a.map D.int).length<=sizeLine:=by rw[BR];exact Fe (Bt (m:=64) ∅)
 have lb:(b.map D.int).length<=sizeLine:=by rw[BR];exact Fe (Bt (m:=64) ∅)
 have ml:=JB2 a b;have ma:=HS.kR a [];have mb:=HS.kR b [];rwa[Fg] at ma mb
 simp only[uc,nA,iB,gW,mF,nZ,d3,Ll,dZ,xB (i0 _ _),mG,zC,sets,hZ,za,bS,Iy,DF,ca,iC,du,hw,
  sm,Gn,y0,xB (i1 _ _),DA,vS (U1:=[]) la qA,Fg,EH,nD,y4 (n:=0) (a:=a) Qa,CK,zbG,zb4]
 rw[vS (U1:=[.lst (a.map me),.dct (aQ [] (a.map λe=>(.inl e,.bl true)))]) lb qA]
 simp only[CK,Fg,zb4,Nat.reduceAdd,zbG,EH,ca,iC,du,nD,y4 (n:=2) (a:=b) SA,mG,zC,sets,hZ,nA,iB,Lk,JFh (rs:=[]) (ds:=[]) rfl ∅,
  nB,y0,sm,bS,gW,mF,nZ,d3,Ll,dZ,xB (i1 _ _),yY (es:=a) (show a.length<4000 by omega),yY (es:=b) (show b.length<4000 by omega),Ix (xs:=HS.aK [] a) (ys:=HS.aK [] b) (show(HS.aK [] a).length+(HS.aK [] b).length<64 by omega),
  JC4 (es:=HS.aK (HS.aK [] a) (HS.aK [] b)) (show(HS.aK (HS.aK [] a) (HS.aK [] b)).length<64 by omega)]
 rw[Lq (n:=5) (xs:=(gT (HS.aK (HS.aK [] a) (HS.aK [] b))).map .int) rfl,DB,kW]
 have hul:(cz a b).length<64:=by unfold cz;rw[(dY _).length_eq];omega
 let⟨O',U',el,x10,Ga,rfl,rfl⟩:=yJ (g:=bU 10) (b:=D1) (xs:=(cz a b).map .int)
  (O:=[some (.v (.tup [.bl p,.tup (a.map .int)])),some (.v (.tup [.bl q,.tup (b.map .int)])),some (.v (.str wd)),some (.v (.bl p)),some (.v (.bl q)),some (.v (.bl (w p q))),some (.v (.bl (w p q))),bf 1,bf 3,bf 4,none,none])
  (U:=[.lst (a.map me),.dct (aQ [] (a.map λe=>(.inl e,.bl true))),.lst (b.map me),.dct (aQ [] (b.map λe=>(.inl e,.bl true))),.lst [],.fz ((cz a b).map .int)])
  (λi O U=>∃x10 Ga,O=[some (.v (.tup [.bl p,.tup (a.map .int)])),some (.v (.tup [.bl q,.tup (b.map .int)])),some (.v (.str wd)),some (.v (.bl (i5 w a b p q ((cz a b).take i)).p)),some (.v (.bl (i5 w a b p q ((cz a b).take i)).q)),some (.v (.bl (w p q))),some (.v (.bl (i5 w a b p q ((cz a b).take i)).last)),bf 1,bf 3,bf 4,x10,Ga] /\
   U=[.lst (a.map me),.dct (aQ [] (a.map λe=>(.inl e,.bl true))),.lst (b.map me),.dct (aQ [] (b.map λe=>(.inl e,.bl true))),.lst ((i5 w a b p q ((cz a b).take i)).out.map .int),.fz ((cz a b).map .int)])
  {none,none,rfl,rfl} (by
   rintro i x O U hx ⟨x10,Ga,rfl,rfl⟩;rw[By] at hx;let⟨e,he,rfl⟩:=DN.mp hx;have hil:=(CA.mp he).1
   have ht:(cz a b).take (i+1)=(cz a b).take i++[e]:=by rw[List.take_succ,he];rfl
   have hb:i5 w a b p q ((cz a b).take (i+1))=aZ w a b (i5 w a b p q ((cz a b).take i)) e:=by unfold i5;rw[ht,List.foldl_append];rfl
   have Fp:(i5 w a b p q ((cz a b).take i)).out.length<64:=by
    have:=wf w a b ((cz a b).take i) {p,q,w p q,[]}
    rwa[Fg,zbC,zb4] at this
    unfold i5;omega
   rw[hb]
   exact{_,_,L4 w wd hw a b _ e _ _ _ _ _ _ _ _ Fp,_,_,rfl,rfl})
 have el':=el;rw[BR,List.take_length] at el';refine(Av (λo=>g8 (OI o _)) el').trans ?_;rwa[hZ,lS,Dx,bS,nZ,mF,ca,sm,iC,du,nD,JFg (n:=4) (xs:=(i5 w a b p q (cz a b)).out.map .int) P9];rw[yX (ds:=[.bl (w p q),.tup ((i5 w a b p q (cz a b)).out.map .int)]) rfl (show 2<=sizeLine by decide),Gi,Lr]
def JB9 (xs:Th)(k z:Int):z∈HS.cJ xs k ↔ z∈xs\/z=k:=by
 unfold HS.cJ;split
 ·rename_i h;exact{.inl,λq=>q.elim id λe=>e ▸ h}
 ·simp
theorem oQ (z:Int):∀(ns xs:Th),z∈HS.aK xs ns ↔ z∈xs\/z∈ns
 |[],xs=>by simp[HS.aK]
 |n::ns,xs=>by have ih:=oQ z ns (HS.cJ xs n);rwa[HS.aK,EX] at ih ⊢;rw[ih,JB9,BV,or_assoc]
theorem m9:∀(ns xs:Th),xs.Nodup->(HS.aK xs ns).Nodup
 |[],xs,h=>h
 |n::ns,xs,h=>m9 ns _ (HS.pP h)
def jP (a b:Th):(cz a b).Nodup/\(cz a b).Pairwise (·<=·)/\∀z,z∈cz a b ↔ z∈a\/z∈b:=by unfold cz;refine{(dY _).nodup_iff.mpr (m9 _ _ (m9 _ _ zck)),jj _,λz=>?_};rw[(dY _).mem_iff,oQ,oQ,oQ];simp
theorem LY {l:Th}(h1:l.Nodup)(h2:l.Pairwise (·<=·)):l.Pairwise (·<·):=by
 induction l with
 |nil=>exact .nil
 |cons x l ih=>
  let⟨a,b⟩:=Cf.mp h1;let⟨c,d⟩:=EI.mp h2;refine EI.mpr {λy hy=>?_,ih b d};have:=c y hy;have:x≠y:=λe=>a (e ▸ hy);omega
def JAe (a b:Th):(cz a b).Pairwise (·<·):=LY (jP a b).1 (jP a b).2.1
noncomputable def xo (b:Ad)(n:Nat):Ad:=if n%2=0 then b else !b
def sB (b:Ad)(n:Nat):xo b (n+1) = !(xo b n):=by
 unfold xo;by_cases h:n%2=0
 ·rw[Ae h,Ac ∅]
 ·rw[Ac h,Ae ∅,Bool.not_not]
def wt (b:Ad)(n:Nat):xo (!b) n = !(xo b n):=by unfold xo;split <;> simp
noncomputable def W (w:Ad->Ad->Ad)(r s:Rc):Rc:=(w r.1 s.1,(i5 w r.2 s.2 r.1 s.1 (cz r.2 s.2)).out)
def JFl (bt:Ad)(w:Ad->Ad->Ad)(wd:Str)(hw:∀x y:Ad,bH [.str wd,.bl x,.bl y]=some (.bl (w x y)))(r s:Rc)(hl:r.2.length+s.2.length<64):kS bt [rD r,rD s,.str wd]=some (rD (W w r s)) :=
 JCj bt w wd (λx y U=>JCo (ds:=[.str wd,.bl x,.bl y]) rfl rfl (hw x y)) r.1 s.1 r.2 s.2 hl
theorem ID (w:Ad->Ad->Ad)(a b:Th):∀(es:Th) (s:LS),s.last=w s.p s.q ->
  (es.foldl (aZ w a b) s).p=xo s.p (es.filter λe=>a.contains e).length/\(es.foldl (aZ w a b) s).q=xo s.q (es.filter λe=>b.contains e).length /\
  (es.foldl (aZ w a b) s).last=w (es.foldl (aZ w a b) s).p (es.foldl (aZ w a b) s).q/\∃l,(es.foldl (aZ w a b) s).out=s.out++l/\l.Sublist es/\(es.foldl (aZ w a b) s).last=xo s.last l.length
 |[],s,h=>{rfl,rfl,h,[],by simp,List.Sublist.refl _,rfl}
 |e::es,s,h=>by
  let⟨h1,h2,h3,l,h4,h5,h6⟩:=ID w a b es (aZ w a b s e) rfl;rw[EX];refine{?_,?_,h3,?_}
  ·rw[h1]
   have:(aZ w a b s e).p=if a.contains e then !s.p else s.p:=rfl
   rw[this]
   by_cases c:a.contains e=true
   ·rw[Ae c,zcn ‹c›,CK,sB,wt]
   ·rw[Ac c,zco ‹c›]
  ·rw[h2]
   have:(aZ w a b s e).q=if b.contains e then !s.q else s.q:=rfl
   rw[this]
   by_cases c:b.contains e=true
   ·rw[Ae c,zcn ‹c›,CK,sB,wt]
   ·rw[Ac c,zco ‹c›]
  ·have ho:(aZ w a b s e).out=if (aZ w a b s e).last != s.last then s.out++[e] else s.out:=rfl
   by_cases c:(aZ w a b s e).last=s.last
   ·have c':((aZ w a b s e).last != s.last)=false:=by rw[c];simp
    rw[c',Ac ∅] at ho;rw[ho] at h4;refine{l,h4,h5.cons e,?_};rw[h6,c]
   ·have c':((aZ w a b s e).last != s.last)=true:=by simpa using c
    rw[c',Ae rfl] at ho;rw[ho] at h4;refine{e::l,by rw[h4];simp,h5.cons₂ e,?_};rw[h6,CK,sB,←wt]
    congr 1
    generalize (aZ w a b s e).last=x at c;generalize s.last=y at c;cases x <;> cases y <;> simp_all
def GX {a:Th}(h:a.Pairwise (·<·)):a.Nodup:=h.imp λh=>by omega
def IE (w:Ad->Ad->Ad)(r s:Rc):(W w r s).2.Sublist (cz r.2 s.2):=by
 let⟨_,_,_,l,h4,h5,_⟩:=ID w r.2 s.2 (cz r.2 s.2) {r.1,s.1,w r.1 s.1,[]} rfl
 show((cz r.2 s.2).foldl (aZ w r.2 s.2) {r.1,s.1,w r.1 s.1,[]}).out.Sublist _
 rw[h4,EH];exact h5
def Q6 (w:Ad->Ad->Ad)(r s:Rc):(W w r s).2.Pairwise (·<·):=(JAe _ _).sublist (IE w r s)
noncomputable def lv:Ad->R4 Int->Int->Ad
 |b,[],_=>b
 |b,x::xs,d=>if d<x then b else lv (!b) xs d
abbrev RD (r:Rc)(d:Int):Ad:=lv r.1 r.2 d
structure Pf (g:Rc)(qs:List (Int×Rc)):Prop where
 gu:g.2.Pairwise (·<·)
 up:Up qs
 dif:PB g qs
 ru:∀q∈qs,q.2.2.Pairwise (·<·)
noncomputable def li (b:Ad):Int:=if b=true then 1 else 0
noncomputable def cn:R4 Rc->Int->Int
 |[],_=>0
 |r::rs,d=>li (RD r d)+cn rs d
noncomputable def c0:R4 Rc->Int
 |[]=>0
 |r::rs=>li r.1+c0 rs
abbrev JAp (rs:R4 Rc)(d:Int):Ad:=rs.any λr=>RD r d
abbrev A0 (rs:R4 Rc):Ad:=rs.any (·.1)
noncomputable def wk (h:Int->Ad):Ad->R4 Int->Th
 |_,[]=>[]
 |s,e::es=>if h e=s then wk h s es else e::wk h (h e) es
structure SQ (rs:List Rc)(es:Th):Prop where
 up:es.Pairwise (·<·)
 all:∀x,x∈es ↔ ∃r∈rs,x∈r.2
abbrev Un (rs:R4 Rc)(es:Th):Rc:=(A0 rs,wk (JAp rs) (A0 rs) es)
def bO {Z:Type}{l:R4 Z}{i:Nat}{a:Z}(h:l[i]?=some a):i<l.length:=(CA.mp h).1
def CZ {Z:Type}{cs:R4 Z}{c:Z}:(cs++[c])[cs.length]?=some c:=by simp
def PK:1<=sizeLine:=by decide
def iT {U:ac}{c c':au}:(U++[c]).set U.length c'=U++[c']:=by simp
abbrev NO:Rc:=(false,[])
abbrev Pl:=Rc×R4 (Int×Rc)
abbrev jJ (p:Pl):D:=pD p.1 p.2
structure BP (ES TS:Th)(p:Pl):Prop where
 pf:Pf p.1 p.2
 ge:∀e∈p.1.2,e∈ES
 re:∀q∈p.2,∀e∈q.2.2,e∈ES
 te:∀q∈p.2,q.1∈TS
open L2
section
variable {κ:Type}[DecidableEq κ]
theorem m7:∀(l m:R4 κ),l.Nodup->(∀x∈l,x∈m)->l.length<=m.length
 |[],_,_,_=>Cr _
 |x::l,m,hn,h=>by
  let⟨h1,h2⟩:=Cf.mp hn;have hx:=h x Be;have:=m7 l (m.erase x) h2 λy hy=>(List.mem_erase_of_ne (λe=>by subst e;exact h1 hy)).mpr (h y (Br _ hy));rw[List.length_erase_of_mem hx] at this
  have:0<m.length:=List.length_pos_of_mem hx;rwa[CK];omega
abbrev Hl (κ:Type):=R4 (κ×Nat×R4 D)
abbrev Ab (l:Hl κ):R4 (κ×R):=l.map λp=>(p.1,R.p p.2.1)
noncomputable def cQ:Hl κ->κ->Nat->D->Hl κ
 |[],k,a,d=>[(k,a,[d])]
 |p::l,k,a,d=>if p.1=k then (p.1,p.2.1,p.2.2++[d])::l else p::cQ l k a d
noncomputable def cont:Hl κ->κ->R4 D
 |[],_=>[]
 |p::l,k=>if p.1=k then p.2.2 else cont l k
noncomputable def adr:Hl κ->κ->AA Nat
 |[],_=>none
 |p::l,k=>if p.1=k then some p.2.1 else adr l k
theorem nF (k x:κ)(a:Nat)(d:D):∀l:Hl κ,cont (cQ l k a d) x=cont l x++(if k=x then [d] else [])
 |[]=>by by_cases q:k=x <;> simp[cQ,cont,q]
 |p::l=>by
  have ih:=nF k x a d l;rw[cQ];by_cases q:p.1=k
  ·rw[Ae q,cont,cont];by_cases z:p.1=x
   ·rw[Ae z,Ae z,Ae (q.symm.trans z)]
   ·rw[Ac z,Ac z,Ac (λw=>z (q.trans w)),DL]
  ·rw[Ac q,cont,cont];by_cases z:p.1=x
   ·rw[Ae z,Ae z,Ac (λw=>q (z.trans w.symm)),DL]
   ·rw[Ac z,Ac z,ih]
theorem lH (k x:κ)(a:Nat)(d:D):∀l:Hl κ,x∈(cQ l k a d).map (·.1) ↔ x∈l.map (·.1)\/x=k
 |[]=>by simp[cQ]
 |p::l=>by
  have ih:=lH k x a d l;rw[cQ];by_cases q:p.1=k
  ·rw[Ae q];rwa[BH,BV];constructor
   ·exact .inl
   ·rintro(h|h)
    ·exact h
    ·exact .inl (h.trans q.symm)
  ·rw[Ac q];rwa[BH,BV,ih,or_assoc]
theorem uZ (k:κ)(a:Nat)(d:D):∀l:Hl κ,(l.map (·.1)).Nodup->((cQ l k a d).map (·.1)).Nodup
 |[],_=>by simp[cQ]
 |p::l,h=>by
  rw[BH,Cf] at h;rw[cQ];by_cases q:p.1=k
  ·rw[Ae q,BH,Cf];exact h
  ·rw[Ac q,BH,Cf];refine{λz=>?_,uZ k a d l h.2};rcases (lH k p.1 a d l).mp z with z|z
   ·exact h.1 z
   ·exact q z
theorem u0 (k:κ)(a:Nat)(d:D):∀l:Hl κ,(cQ l k a d).length<=l.length+1
 |[]=>by simp[cQ]
 |p::l=>by
  have ih:=u0 k a d l;rw[cQ];split
  ·simp
  ·rwa[CK];omega
theorem mJ {k:κ}:∀{l:Hl κ},adr l k=none ↔ k∉l.map (·.1)
 |[]=>by simp[adr]
 |p::l=>by
  have ih:=mJ (k:=k) (l:=l);rw[adr];by_cases q:p.1=k
  ·rw[Ae q];simp[q]
  ·rw[Ac q,ih,BH,BV,not_or];exact{λh=>{λz=>q z.symm,h},λh=>h.2}
theorem jB {k:κ}{a:Nat}:∀{l:Hl κ},adr l k=some a->(k,a,cont l k)∈l
 |[],h=>by cases h
 |p::l,h=>by
  rw[adr] at h;rw[cont];by_cases q:p.1=k
  ·rw[Ae q] at h ⊢
   cases h;rw[←q];exact Be
  ·rw[Ac q] at h ⊢;exact Br _ (jB h)
structure HD (C:List (κ×R)->au)(n:Nat)(U:ac)(l:Hl κ):Prop where
 dict:U[n]?=some (C (Ab l))
 nd:(n::l.map λp=>p.2.1).Nodup
 cell:∀p∈l,U[p.2.1]?=some (.lst p.2.2)
theorem yM {k:κ}{a b:Nat}{d:D}:∀{l:Hl κ},k∈l.map (·.1)->Ab (cQ l k b d)=Ab l/\(cQ l k b d).map (λp=>p.2.1)=l.map λp=>p.2.1
 |[],h=>by cases h
 |p::l,h=>by
  rw[cQ];by_cases q:p.1=k
  ·rw[Ae q];exact{rfl,rfl}
  ·rw[Ac q];have:=yM (a:=a) (b:=b) (d:=d) (l:=l) (by
    rw[BH] at h;rcases BV.mp h with w|w
    ·exact Au w.symm q
    ·exact w)
   exact{Av (_ :: ·) this.1,Av (_ :: ·) this.2}
theorem yy {k:κ}{b:Nat}{d:D}:∀{l:Hl κ} {p},(l.map (·.1)).Nodup->p∈cQ l k b d->k∈l.map (·.1)->(p∈l/\p.1≠k)\/(p.1=k/\adr l k=some p.2.1/\p.2.2=cont l k++[d])
 |[],p,_,_,h=>by cases h
 |q::l,p,nd,hp,h=>by
  rw[BH,Cf] at nd;rw[cQ] at hp;rw[adr,cont];by_cases z:q.1=k
  ·rw[Ae z] at hp ⊢;rw[Ae z];rcases BV.mp hp with rfl|hp
   ·exact .inr {z,rfl,rfl}
   ·exact .inl {Br _ hp,λw=>nd.1 (by rw[z,←w];exact EZ hp)}
  ·rw[Ac z] at hp ⊢;rw[Ac z];rcases BV.mp hp with rfl|hp
   ·exact .inl {Be,z}
   ·rcases yy nd.2 hp (by
     rw[BH] at h;rcases BV.mp h with w|w
     ·exact Au w.symm z
     ·exact w) with w|w
    ·exact .inl {Br _ w.1,w.2}
    ·exact .inr w
theorem rP {k:κ}{b:Nat}{d:D}:∀{l:Hl κ},k∉l.map (·.1)->cQ l k b d=l++[(k,b,[d])]
 |[],_=>rfl
 |p::l,h=>by rw[BH,BV,not_or] at h;rw[cQ,Ac (λz=>h.1 z.symm),rP h.2];rfl
variable {C:R4 (κ×R)->au}{n:Nat}{U:ac}{l:Hl κ}
def HD.lt (h:HD C n U l):n<U.length:=bO h.dict
def HD.adr (h:HD C n U l){k:κ}{a:Nat}(e:adr l k=some a):U[a]?=some (.lst (cont l k)):=h.cell _ (jB e)
def HD.adrN (h:HD C n U l){k:κ}{a:Nat}(e:LW.adr l k=some a):a≠n:=λz=>by subst z;exact(Cf.mp h.nd).1 (Ca.mpr {_,jB e,rfl})
def HD.old (h:HD C n U l)(nk:(l.map (·.1)).Nodup){k:κ}{a:Nat}(e:LW.adr l k=some a)(d:D)(b:Nat):HD C n ((U++[au.lst []]).set a (.lst (cont l k++[d]))) (cQ l k b d):=by
 have hk:k∈l.map (·.1):=by refine Classical.byContradiction λz=>?_;rw[mJ.mpr z] at e;cases e
 have la:=bO (h.adr e);let⟨k1,k2⟩:=yM (a:=a) (b:=b) (d:=d) hk;refine{?_,by rw[k2];exact h.nd,λp hp=>?_}
 ·rw[C7 (h.adrN e),Bu h.lt,k1];exact h.dict
 ·rcases yy nk hp hk with⟨w,w2⟩|⟨w1,w2,w3⟩
  ·have:a≠p.2.1:=λz=>by
    have m1:=jB e;have:=(Cf.mp h.nd).2;let⟨i,hi,e1⟩:=J0 m1;let⟨j,hj,e2⟩:=J0 w;have EF:i=j:=(IT (xs:=l.map λp=>p.2.1) (h₀:=by simpa using hi) (h₁:=by simpa using hj) this).mp (by rw[zbT,zbT,e1,e2];exact z);subst EF;rw[e1] at e2;exact w2 (by rw[←e2])
   have hc:=h.cell p w;rw[C7 this,Bu (bO hc)];exact hc
  ·rw[e] at w2
   cases w2;rw[w3,E9 (by simp;omega)]
def HD.new (h:HD C n U l){k:κ}(hk:k∉l.map (·.1))(d:D):HD C n (((U++[au.lst []]).set n (C (Ab l++[(k,.p U.length)]))).set U.length (.lst [d])) (cQ l k U.length d):=by
 have hn:=h.lt;rw[rP hk];refine{?_,?_,λp hp=>?_}
 ·rw[C7 ∅,E9 (by simp;omega)];simp[Ab]
 ·rw[DK,←zbG,F3];refine{h.nd,by simp,λx hx y hy=>?_};rwa[BH,Dj,CP] at hy;subst hy;rcases BV.mp hx with rfl|hx
  ·omega
  ·let⟨p,hp,rfl⟩:=Ca.mp hx;have:=bO (h.cell p hp);omega
 ·rcases Dd.mp hp with hp|hp
  ·have hc:=h.cell p hp;have:=bO hc;have pn:n≠p.2.1:=λz=>(Cf.mp h.nd).1 (by rw[z];exact EZ (f:=λp:κ×Nat×R4 D=>p.2.1) hp);rw[C7 ∅,C7 pn,Bu this];exact hc
  ·rw[CP] at hp;subst hp;rw[E9 ∅]
end
abbrev tC (l:R4 (Th×R)):au:=.dtr l
abbrev En:=Th×Pl
abbrev bF (e:En):D:=.tup [.key e.1,jJ e.2]
theorem sF (k:Th):∀l:Hl (Th),jD (Ab l) k=(adr l k).map R.p
 |[]=>rfl
 |p::l=>by
  have ih:=sF k l;unfold jD at ih ⊢;rw[adr];rwa[Ab,BH];by_cases q:p.1=k
  ·rw[zbH (by simp[q]),Ae q];rfl
  ·rw[zbI (by simp[q]),Ac q];exact ih
def JBk {fo fk:FE}{O:Lo}{U:ac}{n a:Nat}{k:Th}{l:Hl (Th)}(ho:fo O U=some (.p n,U))(hk:fk O U=some (.v (.key k),U))(h:HD tC n U l)(e:adr l k=some a)(hl:l.length<1000):qm fo fk (bV ai) O U=some (.p a,U++[.lst []]):=by
 have h1:ic U n=some (Ab l):=by rwa[ic,h.dict]
 have h2:ic (U++[au.lst []]) n=some (Ab l):=by rwa[ic,Bu h.lt,h.dict]
 have hL:bV ai O U=some (.p U.length,U++[au.lst []]):=rfl;have hl':(Ab l).length<1000:=by simpa using hl
 have hv:=sF k l;rw[e,EY] at hv;rwa[qm,ho,BY,h1,zcg,if_true,hk,hL,h2,hl',hv]
def JAy {fo fk:FE}{O:Lo}{U:ac}{n:Nat}{k:Th}{l:Hl (Th)}(ho:fo O U=some (.p n,U))(hk:fk O U=some (.v (.key k),U))(h:HD tC n U l)(e:adr l k=none)(hl:l.length<1000):qm fo fk (bV ai) O U=some (.p U.length,(U++[au.lst []]).set n (tC (Ab l++[(k,.p U.length)]))):=by
 have h1:ic U n=some (Ab l):=by rwa[ic,h.dict]
 have h2:ic (U++[au.lst []]) n=some (Ab l):=by rwa[ic,Bu h.lt,h.dict]
 have hL:bV ai O U=some (.p U.length,U++[au.lst []]):=rfl;have hl':(Ab l).length<1000:=by simpa using hl
 have hv:=sF k l;rw[e,Option.map_none] at hv;rwa[qm,ho,BY,h1,zcg,if_true,hk,hL,h2,hl',hv]
structure TB (U:ac)(l:Hl (Th))(N:Nat):Prop where
 hd:HD tC 0 U l
 nk:(l.map (·.1)).Nodup
 ln:l.length<=N
 cl:∀k,(cont l k).length<=N
theorem JD5 (bt:Ad){x0 x4:AA R}{e:En}{U:ac}{l:Hl (Th)}{N:Nat}(h:TB U l N)(hN:N<900) :
  ∃U' b,eI bt [x0,bf 0,some (.v (.key e.1)),some (.v (jJ e.2)),x4] U=some (.nx [x0,bf 0,some (.v (.key e.1)),some (.v (jJ e.2)),x4] U')/\TB U' (cQ l e.1 b (jJ e.2)) (N+1):=by
 have zc:(cont l e.1).length<sizeLine:=iq (by have:=h.cl e.1;omega);have z0:(0:Nat)<sizeLine:=iq ∅
 have hl:l.length<1000:=by have:=h.ln;omega
 have lt:=h.hd.lt
 have sb:∀(U':ac) (b:Nat),HD tC 0 U' (cQ l e.1 b (jJ e.2))->TB U' (cQ l e.1 b (jJ e.2)) (N+1):=λU' b hh=>{hh,uZ _ _ _ _ h.nk,by have:=u0 e.1 b (jJ e.2) l;have:=h.ln;omega,λk=>by
  rw[nF,Ci];have:=h.cl k;split
  ·simp;omega
  ·simp;omega}
 cases q:adr l e.1 with
 |some a=>
  have ga:=h.hd.adr q
  have g2:(U++[au.lst []])[a]?=some (.lst (cont l e.1)):=by rw[Bu (bO ga)];exact ga
  have hs:=JBk (fo:=ae 1) (fk:=ae 2) (O:=[x0,bf 0,some (.v (.key e.1)),some (.v (jJ e.2)),x4]) rfl rfl h.hd q hl;refine{_,0,?_,sb _ 0 (h.hd.old h.nk q (jJ e.2) 0)};push_cast [eI,hs,g2,zc]
 |none=>
  have hs:=JAy (fo:=ae 1) (fk:=ae 2) (O:=[x0,bf 0,some (.v (.key e.1)),some (.v (jJ e.2)),x4]) rfl rfl h.hd q hl
  have g2:((U++[au.lst []]).set 0 (tC (Ab l++[(e.1,.p U.length)])))[U.length]?=some (.lst []):=by
   rw[C7 ∅];exact CZ
  refine{_,U.length,?_,sb _ _ (h.hd.new (mJ.mp q) (jJ e.2))};push_cast [eI,hs,g2,z0,EH]
theorem ye (bt:Ad){x0 x4:AA R}:∀(es:R4 En) {U:ac} {l:Hl (Th)} {N:Nat} (x2 x3:AA R),TB U l N->N+es.length<900 ->
  ∃U' l' y2 y3,fN (vN 2 (bm (bU 2) (bm (bU 3) f9))) (eI bt) (es.map bF) [x0,bf 0,x2,x3,x4] U=some (.nx [x0,bf 0,y2,y3,x4] U')/\TB U' l' (N+es.length) /\
   (∀x,cont l' x=cont l x++(es.filter λe=>decide (e.1=x)).map λe=>jJ e.2)/\(∀x,x∈l'.map (·.1) ↔ x∈l.map (·.1)\/x∈es.map (·.1))
 |[],U,l,N,x2,x3,h,_=>{U,l,x2,x3,rfl,h,λx=>by simp,λx=>by simp}
 |e::es,U,l,N,x2,x3,h,hN=>by
  rw[CK] at hN;let⟨U1,b,e1,h1⟩:=JD5 bt (x0:=x0) (x4:=x4) (e:=e) h ∅;let⟨U2,l2,y2,y3,e2,h2,c2,k2⟩:=ye bt (x0:=x0) (x4:=x4) es (some (.v (.key e.1))) (some (.v (jJ e.2))) h1 ∅;refine{U2,l2,y2,y3,?_,by rw[CK,show N+(es.length+1)=N+1+es.length by omega];exact h2,λx=>?_,λx=>?_}
  ·rw[BH,ee]
   have hg:vN 2 (bm (bU 2) (bm (bU 3) f9)) (.v (bF e)) [x0,bf 0,x2,x3,x4] U=some ([x0,bf 0,some (.v (.key e.1)),some (.v (jJ e.2)),x4],U):=rfl;rw[hg,qq,e1,nS];exact e2
  ·rw[c2,nF,Bx,zb8]
   by_cases z:e.1=x <;> simp[z]
  ·rw[k2,lH,BH,BV,or_assoc]
abbrev fE (bt:Ad):FE:=bZ (af (ae 0) (af (bn dk 1 (af (c7 (Du (ae 1) (ae 0))) ai)) ai))
theorem vV (bt:Ad){l:Hl (Th)}(F:R4 Int->Pl)(Gv:(0::l.map λp=>p.2.1).Nodup)(nk:(l.map (·.1)).Nodup):∀(rows:Ta) (U:ac) (x0:AA R),rows.Nodup->(∀r∈rows,dk [.fl (cont l r)]=some (jJ (F r)))->U[0]?=some (tC (Ab l))->(∀r∈rows,∃a,adr l r=some a/\U[a]?=some (.lst (cont l r))) ->
  ∃U',cG (bU 0) dP (fE bt) (rows.map D.key) [x0,bf 0] U=some (rows.map λr=>bF (r,F r),U')
 |[],U,x0,_,_,_,_=>{U,rfl}
 |r::rows,U,x0,hr,hF,h0,hc=>by
  let⟨n1,n2⟩:=Cf.mp hr;let⟨a,ea,ga⟩:=hc r Be
  have a0:a≠0:=λz=>by
   subst z;exact(Cf.mp Gv).1 (Ca.mpr {_,jB ea,rfl})
  have hF0:=hF r Be
  let⟨U',e⟩:=vV bt F Gv nk rows (U.set a (.fz (cont l r))) (some (.v (.key r))) n2 (λx hx=>hF x (Br _ hx)) (by rw[C7 a0];exact h0) (λx hx=>by
   let⟨b,eb,gb⟩:=hc x (Br _ hx);refine{b,eb,?_}
   have:a≠b:=λz=>by
    subst z;have m1:=jB ea;have m2:=jB eb;let⟨i,hi,e1⟩:=J0 m1;let⟨j,hj,e2⟩:=J0 m2;have EF:i=j:=(IT (xs:=l.map λp=>p.2.1) (h₀:=by simpa using hi) (h₁:=by simpa using hj) (Cf.mp Gv).2).mp (by rw[zbT,zbT,e1,e2]);subst EF;rw[e1] at e2;exact n1 (by have:=Av Prod.fst e2;simp only at this;rw[this];exact hx)
   rw[C7 this];exact gb)
  refine{U',?_};have hv:=sF r l;rw[ea,EY] at hv;rw[BH,cG];push_cast [BY,h0,tC,hv,ga,hF0,e]
theorem oa {Z:Type}{c:FT}{f:FE}{U:ac}{rest:Lo}(e out:Z->D)(p:Z->Ad):∀(xs:R4 Z) (x0:AA R),(∀a∈xs,c (some (.v (e a))::rest) U=some (p a,U))->(∀a∈xs,p a=true->f (some (.v (e a))::rest) U=some (.v (out a),U))->cG (bU 0) c f (xs.map e) (x0::rest) U=some ((xs.filter p).map out,U)
 |[],_,_,_=>rfl
 |a::xs,x0,h,h'=>by
  have h1:=h a Be;have ih:=oa e out p xs (some (.v (e a))) (λb hb=>h b (Br _ hb)) (λb hb=>h' b (Br _ hb))
  cases hp:p a with
  |true=>
   have h2:=h' a Be hp;rwa[BH,cG,bU,zcj,BY,h1,hp,if_true,h2,ih,zb8]
  |false=>rwa[BH,cG,bU,zcj,BY,h1,hp,C4,if_false,ih,zb8]
abbrev SL (T:R4 En):au:=.lst (T.map bF)
abbrev OA:D:=.tup [.tup [.bl false,.tup []],.tup []]
def KI:cR 60 OA=true:=rfl
abbrev AK:Pl:=(NO,[])
noncomputable def LP (e:En):Ad:=!decide (e.2=AK)
def Lw (p:Pl):iD (jJ p) OA=decide (p=AK) :=
 (Ou p.1 NO p.2 []).trans (decide_eq_decide.mpr {λh=>Prod.ext h.1 h.2,λh=>by rw[h];exact{rfl,rfl}})
def JBw (p:Pl):dk [.fl [jJ p]]=some (jJ p):=rfl
theorem lP {Z β:Type}[DecidableEq β]{f:Z->β}:∀{es:R4 Z} {e:Z},(es.map f).Nodup->e∈es->(es.filter λx=>decide (f x=f e))=[e]
 |[],_,_,h=>nomatch h
 |x::es,e,nd,h=>by
  let⟨n1,n2⟩:=Cf.mp nd;rcases BV.mp h with rfl|h
  ·rw[zcn ∅];congr 1;refine List.filter_eq_nil_iff.mpr λy hy=>?_;rwa[decide_eq_true_eq];exact λz=>n1 (z ▸ EZ hy)
  ·rw[zco (by rwa[decide_eq_true_eq];exact λz=>n1 (z ▸ EZ h))];exact lP n2 h
def JBf (bt:Ad){w:Nat}{es:R4 En}(hn:es.length<=63)(nd:(es.map (·.1)).Nodup)(hrw:∀e∈es,e.1.length=w):∃T:R4 En,gR bt [.fl (es.map bF)]=some (.lst (T.map bF))/\GN (T.map (·.1))/\∀e,e∈T ↔ e∈es/\e.2≠AK:=by
 rw[wx];let⟨U,l,y2,y3,e,tb,c,k⟩:=ye bt (x0:=some (.v (.fl (es.map bF)))) (x4:=none) es (U:=[.dtr []]) (l:=[]) (N:=0) none none {{rfl,by simp,λ_ h=>nomatch h},by simp,by simp,λk=>by simp[cont]} ∅;have k':∀x,x∈l.map (·.1) ↔ x∈es.map (·.1):=λx=>by rw[k];simp
 have kl:l.length<=63:=by have:=m7 (l.map (·.1)) (es.map (·.1)) tb.nk λx hx=>(k' x).mp hx;rw[BR,BR] at this;omega
 have hF':∃F:R4 Int->Pl,∀e∈es,F e.1=e.2:=by
  have h:∀r,∃p:Pl,∀e∈es,e.1=r->e.2=p:=λr=>by
   by_cases hr:∃e∈es,e.1=r
   ·let⟨e,he,rfl⟩:=hr;refine{e.2,λx hx hz=>?_};have h1:=lP nd he;have h2:x∈es.filter λy=>decide (y.1=e.1):=zcx.mpr {hx,by simpa using hz};rw[h1] at h2;rw[CP.mp h2]
   ·exact{AK,λe he hz=>Au {e,he,hz} hr}
  exact{λr=>Classical.choose (h r),λe he=>(Classical.choose_spec (h e.1) e he rfl).symm}
 let⟨F,hF⟩:=hF';have hc:∀e∈es,cont l e.1=[jJ e.2]:=λe he=>by
  rw[c]
  show[]++_=_
  rw[EH,lP nd he];rfl
 have rnd:(cT (l.map (·.1))).Nodup:=(dX _).nodup_iff.mpr tb.nk;have rm:∀r,r∈cT (l.map (·.1)) ↔ r∈es.map (·.1):=λr=>by rw[(dX _).mem_iff];exact k' r
 have hA:∀r∈cT (l.map (·.1)),dk [.fl (cont l r)]=some (jJ (F r)):=λr hr=>by let⟨e,he,rfl⟩:=Ca.mp ((rm r).mp hr);rw[hc e he,hF e he];exact JBw _
 have few:(Ab l).length<64/\((Ab l).length<2\/∀p∈Ab l,p.1≠[]):=by
  refine{by rw[BR];omega,?_};have hw:∀x∈l.map (·.1),x.length=w:=λx hx=>by let⟨e,he,rfl⟩:=Ca.mp ((k' x).mp hx);exact hrw e he
  by_cases z:w=0
  ·refine .inl ?_;have:=m7 (l.map (·.1)) [[]] tb.nk λx hx=>by
    have:=hw x hx;rw[z] at this
    rw[zcl.mp this];exact Be
   rw[BR] at this ⊢;simp at this;omega
  ·refine .inr λp hp e=>?_;let⟨q,hq,rfl⟩:=Ca.mp hp;have:=hw q.1 (EZ hq);simp only at e;rw[e] at this
   simp at this;omega
 have g0:(U++[au.fz ((cT (l.map (·.1))).map D.key)])[0]?=some (tC (Ab l)):=by rw[Bu tb.hd.lt];exact tb.hd.dict
 let⟨U2,ce⟩:=vV bt F tb.hd.nd tb.nk (cT (l.map (·.1))) (U++[au.fz ((cT (l.map (·.1))).map D.key)]) none rnd hA g0 (λr hr=>by
  cases q:adr l r with
  |none=>exact Au ((dX _).mem_iff.mp hr) (mJ.mp q)
  |some a=>exact{a,rfl,by have:=tb.hd.adr q;rw[Bu (bO this)];exact this})
 have rl:(cT (l.map (·.1))).length<=63:=by rw[(dX _).length_eq,BR];exact kl
 refine{((cT (l.map (·.1))).map λr=>(r,F r)).filter LP,?_,?_}
 ·have z1:(cT (l.map (·.1))).length<=sizeLine:=bY ∅;have cf:∀U:ac,cG (bU 0) (fB (aw (kX true) (aw bz (ae 0) (fK (.int 1))) (fK (.tup [(.tup [(.bl false),(.tup [])]),(.tup [])])))) (ae 0) ((cT (l.map (·.1))).map λr=>bF (r,F r)) [none] U=some ((((cT (l.map (·.1))).map λr=>(r,F r)).filter LP).map bF,U):=λU=>by
   have:=oa (c:=fB (aw (kX true) (aw bz (ae 0) (fK (.int 1))) (fK OA))) (f:=ae 0) (U:=U) (rest:=[]) bF bF LP ((cT (l.map (·.1))).map λr=>(r,F r)) none (λe _=>by push_cast [NI,KI,Lw,LP]) (λe _ _=>by push_cast [HW.Bn])
   rw[E6] at this
   exact this
  have km:(Ab l).map (·.1)=l.map (·.1):=by unfold Ab;rw[E6];rfl
  have lk:(U++[au.lst ((cT (l.map (·.1))).map D.key)])[U.length]?=some (.lst ((cT (l.map (·.1))).map D.key)):=CZ;have hd0:U[0]?=some (.dtr (Ab l)):=tb.hd.dict;have sr:rL [.p 0] U=some (.p U.length,U++[.lst ((cT (l.map (·.1))).map D.key)]):=by rw[LU,hd0,PC,BY,Ae few,km]
  have lk2:(U2++[au.lst ((cT (l.map (·.1))).map λr=>bF (r,F r))])[U2.length]?=some (.lst ((cT (l.map (·.1))).map λr=>bF (r,F r))):=CZ;push_cast [lU,e,sr,lk,iT,BR,z1,ce,lk2,cf,CZ]
 ·refine{?_,λe=>?_}
  ·have h1:=p7 tb.nk;have h2:((cT (l.map (·.1))).map λr=>(r,F r)).Pairwise λx y=>F2.jK x.1 y.1=true:=zbz.mpr h1;exact zbz.mpr (h2.sublist List.filter_sublist)
  ·rw[zcx,Ca];constructor
   ·rintro⟨⟨r,hr,rfl⟩,h2⟩;let⟨e,he,rfl⟩:=Ca.mp ((rm r).mp hr);rw[hF e he] at h2 ⊢;exact{he,by simpa[LP] using h2}
   ·rintro⟨he,h2⟩;exact{{e.1,(rm e.1).mpr (EZ he),by rw[hF e he]},by simpa[LP] using h2}
end LW
namespace HW
open L2
abbrev Tx (l:R4 Nat):Str:=⟨l.toArray⟩
def lB {l:R4 Nat}:(Tx l).length=l.length:=by simp[Str.length]
def L3 {l r:R4 Nat}:(Tx l == Tx r)=(l == r):=by rw[Bool.eq_iff_iff,beq_iff_eq,beq_iff_eq];exact{λe=>by injection e with e;injection e,λe=>by rw[e]}
section
variable {O:Lo}{U:ac}{a b l:R4 Nat}{c:Nat}{i:Int}{x:R}
def Bo:dQ (.v (.str (Tx a))) (.v (.str (Tx b))) U=if a.length+b.length<=sizeLine then some (.v (.str (Tx (a++b))),U) else none:=by
 show(if (Tx a).length+(Tx b).length<=sizeLine then some (R.v (.str (Tx a++Tx b)),U) else none)=_
 rw[lB,lB];have:Tx a++Tx b=Tx (a++b):=by show Str.append _ _=_;simp[Str.append]
 rw[this]
def HC (h:0<=i)(hl:l.length<2 ^ 63)(hc:l[i.toNat]?=some c):Ij (.v (.str (Tx l))) (.v (.int i)) U=some (.v (.str (Tx [c])),U):=by
 have hi:=(CA.mp hc).1;have e:(Tx l).cps[i.toNat]?=some c:=by simpa using hc
 unfold Ij;dsimp only;rw[Ae {h,by omega,by rw[lB];omega},e];rfl
def JGr (h:l.length<=sizeLine):zW [.v (.str (Tx l))] U=some (.v (.int l.length),U):=by unfold zW;dsimp only;rw[lB,Ae h]
noncomputable def Ha (o:AA (R×ac))(fl fh:FO)(O:Lo):AA (R×ac):=o.bind λa=>(fl O a.2).bind λl=>(fh O l.2).bind λh=>Bw a.1 l.1 h.1 h.2
noncomputable def G9 (x:R)(o:AA (AA Int×ac))(fh:FO)(O:Lo):AA (R×ac):=o.bind λl=>(fh O l.2).bind λh=>Bw x l.1 h.1 h.2
noncomputable def G8 (x:R)(l:AA Int)(o:AA (AA Int×ac)):AA (R×ac):=o.bind λh=>Bw x l h.1 h.2
def MP {fa fl fh}:Dv fa fl fh O U=Ha (fa O U) fl fh O:=rfl
def JGq {fl fh}:Ha (some (x,U)) fl fh O=G9 x (fl O U) fh O:=rfl
def JGp {fh}{l:AA Int}:G9 x (some (l,U)) fh O=G8 x l (fh O U):=rfl
def JGo {l h:AA Int}:G8 x l (some (h,U))=Bw x l h U:=rfl
def JDk (l:R4 Nat)(n:Nat)(h:n<=l.length):Txt.slice (Tx l) (some (n:Int)) none=Tx (l.drop n):=by have:=PySem.StrLaws.sliceText_from (x:=Tx l) (i:=n) ‹h›;refine Eq.trans (show Txt.slice (Tx l) (some (n:Int)) none=PySem.StrLaws.sliceText (Tx l) (some (n:Int)) none from rfl) (this.trans ?_);rwa[Tx,Fy];congr 2;exact List.take_of_length_le ∅
def MT (l:R4 Nat)(n:Nat)(h:n<=l.length):Txt.slice (Tx l) none (some (n:Int))=Tx (l.take n):=by have:=PySem.StrLaws.sliceText_to (x:=Tx l) (j:=n) ‹h›;refine Eq.trans (show Txt.slice (Tx l) none (some (n:Int))=PySem.StrLaws.sliceText (Tx l) none (some (n:Int)) from rfl) (this.trans ?_);simp[Tx]
def JDe {n:Nat}(h:n<=l.length)(hl:l.length<=sizeLine):Bw (.v (.str (Tx l))) (some (n:Int)) none U=some (.v (.str (Tx (l.drop n))),U):=by unfold Bw;dsimp only;rw[lB,Ae hl,JDk l n h]
def MO {n:Nat}(h:n<=l.length)(hl:l.length<=sizeLine):Bw (.v (.str (Tx l))) none (some (n:Int)) U=some (.v (.str (Tx (l.take n))),U):=by unfold Bw;dsimp only;rw[lB,Ae hl,MT l n h]
def MQ {n:Nat}(h:∀c∈l,c<1114112):cR n (.str (Tx l))=true:=by cases n <;> (show PyData.strOk (Tx l)=true;unfold PyData.strOk;simpa using h)
end
end HW
namespace LW
open HW
def dI (i:Int){j:Int}(h:0<j):0<=i%j/\i%j<j:={zcU _ ∅,zcI _ h}
def nV {cs:R4 au}{c:au}:(cs++[c])[cs.length]?=some c:=by simp
def kJ (c k:Int)(hk:0<=k/\k<1000):∃n:Int,bE [.int c,.int k]=some (.int n)/\0<=n/\n<2147483629:=by have b1:=dI c (j:=2147483629) ∅;have b2:=dI ((c%2147483629+1)*1103515245) (j:=2147483629) ∅;obtain⟨x,hx⟩:∃x,x=(c%2147483629+1)*1103515245%2147483629:={_,rfl};have b3:=dI (x*x+k*69621+12345) (j:=2147483587) ∅;refine{_,?_,dI (((x*x+k*69621+12345)%2147483587)*((x*x+k*69621+12345)%2147483587)) (j:=2147483629) ∅};rw[wz];push_cast [lW,qp (i:=c) (j:=2147483629) ∅,kU (i:=c%2147483629+1) (j:=1103515245) ∅,qp (i:=(c%2147483629+1)*1103515245) (j:=2147483629) ∅,←hx,kU (i:=x) (j:=x) ∅,kU (i:=k) (j:=69621) ∅,qp (i:=x*x+k*69621+12345) (j:=2147483587) ∅,kU (i:=(x*x+k*69621+12345)%2147483587) (j:=(x*x+k*69621+12345)%2147483587) ∅,qp (j:=2147483629) ∅]
theorem vY:∀(g:Rc) (l:R4 (Int×Rc)) (p:Int×Rc),PB g l->p.2≠lst g l->PB g (l++[p])
 |_,[],_,_,h=>{h,trivial}
 |_,q::l,p,hd,h=>{hd.1,vY q.2 l p hd.2 h}
theorem um:∀l:Th,unkDs (l.map D.int)=l.map .int
 |[]=>by rwa[Dj,unkDs]
 |i::l=>by rwa[BH,unkDs,cu,um l]
noncomputable def oD:AA Int->D
 |none=>.non
 |some i=>.int i
noncomputable def st:AA Int->AA Int->Rc
 |none,none=>(true,[])
 |none,some h=>(true,[h])
 |some l,none=>(false,[l])
 |some l,some h=>(false,[l,h])
theorem wK {lo hi:AA Int}(h:∀l r,lo=some l->hi=some r->l<r):eG [oD lo,oD hi]=some (rD (st lo hi)):=by
 rw[sI]
 cases lo with
 |none=>cases hi <;> rfl
 |some l=>
  cases hi with
  |none=>rfl
  |some r=>
   have:=h l r rfl rfl;have hz:decide (r<=l)=false:=CI ∅;push_cast [jw,oD,hz,Af,st,rD,BH,Dj]
theorem vj:∀(g:Rc) (qs:R4 (Int×Rc)) (q:Int×Rc),qs.getLast?=some q->lst g qs=q.2
 |_,[],_,h=>by cases h
 |_,[p],q,h=>by cases h;rfl
 |_,p::p'::qs,q,h=>vj p.2 (p'::qs) q ‹h›
def JFa {Z:Type}(f:Z->D)(xs:R4 Z)(x:Z)(h:xs.getLast?=some x):L2.iJ (xs.map f) (-1)=some (f x):=by
 have C1:xs≠[]:=λz=>by rw[z] at h;cases h
 have hp:=List.length_pos_iff.mpr C1;have h1:(xs.map f)[(xs.length-1)]?=some (f x):=by rw[By,←List.getLast?_eq_getElem?,h];rfl
 have h2:L2.El (xs.map f).length (-1)=some (xs.length-1):=by unfold L2.El;rw[BR,Ac ∅,Ae ∅];congr 1;omega
 unfold L2.iJ;rw[h2];exact h1
theorem yL (p:Pl):cM [jJ p]=some (rD (lst p.1 p.2)):=by
 let⟨g,qs⟩:=p;rw[sK]
 cases hq:qs.getLast? with
 |none=>
  have:qs=[]:=List.getLast?_eq_none_iff.mp hq;subst this;rfl
 |some q=>
  have h1:=JFa sD qs q hq;have C1:qs≠[]:=λz=>by rw[z] at hq;cases hq
  have h2:(qs.map sD).isEmpty=false:=by
   cases qs with
   |nil=>exact Au rfl C1
   |cons _ _=>rfl
  push_cast [jz,pD,h2,h1,sD,vj g qs q hq,Bool.not_false]
noncomputable def LL (p:Pl)(t:Int)(r:Rc):Pl:=if r=lst p.1 p.2 then p else (p.1,p.2++[(t,r)])
def wL (p:Pl)(t:Int)(r:Rc)(hn:p.2.length<2000):iX [jJ p,.int t,rD r]=some (jJ (LL p t r)):=by
 have hl:=yL p;let⟨g,qs⟩:=p;have hn:qs.length<2000:=hn;rw[zu];unfold LL;by_cases c:r=lst g qs
 ·have c':decide (r=lst g qs)=true:=D2 c;rw[Ae c];push_cast [kZ,hl,Ia,ze,c']
 ·have c':decide (r=lst g qs)=false:=CI c;rw[Ac c];have z:(qs.map sD).length+1<=sizeLine:=bY (by rw[BR];omega);push_cast [kZ,hl,Ia,ze,c',pD,PK,z,DK];rwa[jJ,pD,DK,BH,Dj,sD]
def JGs {ES TS:Th}{p:Pl}{a:Int}{r:Rc}(hp:BP ES TS p)(h:∀q∈p.2,q.1<a)(hr:r.2.Pairwise (·<·))(he:∀e∈r.2,e∈ES)(ha:a∈TS):BP ES TS (LL p a r):=by
 unfold LL;by_cases c:r=lst p.1 p.2
 ·rw[Ae c];exact hp
 ·rw[Ac c];have sp:∀q∈p.2++[(a,r)],q∈p.2\/q=(a,r):=λq hq=>by
   rcases Dd.mp hq with z|z
   ·exact .inl z
   ·exact .inr (CP.mp z)
  refine{{hp.pf.gu,?_,vY p.1 p.2 _ hp.pf.dif c,λq hq=>?_},hp.ge,λq hq=>?_,λq hq=>?_}
  ·exact List.pairwise_append.mpr {hp.pf.up,zcm _ _,λx hx y hy=>by rw[CP.mp hy];exact h x hx}
  ·rcases sp q hq with z|rfl
   ·exact hp.pf.ru q z
   ·exact hr
  ·rcases sp q hq with z|rfl
   ·exact hp.re q z
   ·exact he
  ·rcases sp q hq with z|rfl
   ·exact hp.te q z
   ·exact ha
abbrev PF (a b:Ad):Ad:=a || b
abbrev PD (a b:Ad):Ad:=a&&!b
def k1:cR 60 (.str "both")=true:=by decide
def k2:cR 60 (.str "either")=true:=by decide
def k3:cR 60 (.str "less")=true:=by decide
def Sx:iD (.str "either") (.str "both")=false:=by decide
def Sw:iD (.str "either") (.str "either")=true:=by decide
def Sv:iD (.str "less") (.str "both")=false:=by decide
def Su:iD (.str "less") (.str "either")=false:=by decide
def Ss:iD (.str "less") (.str "less")=true:=by decide
def L5 (x y:Ad):bH [.str "either",.bl x,.bl y]=some (.bl (PF x y)):=by rw[ph];cases x <;> push_cast [ju,k1,k2,Sx,Sw,PF,Bool.true_or,Bool.false_or]
def GZ (x y:Ad):bH [.str "less",.bl x,.bl y]=some (.bl (PD x y)):=by rw[ph];cases x <;> push_cast [ju,k1,k2,k3,Sv,Su,Ss,PD,Bool.true_and,Bool.false_and]
def q5:iD (.str "tell") (.str "tell")=true:=by decide
def q6:iD (.str "strike") (.str "tell")=false:=by decide
def k5:cR 60 (.str "tell")=true:=by decide
def k6:cR 60 (.str "strike")=true:=by decide
structure Tl where
 tl:Bool
 said:Th
 lo:Option Int
 hi:Option Int
 nm:Str
abbrev dD (x:Tl):D:=.key x.said
abbrev bq (x:Tl):D:=.tup [.str (if x.tl=true then "tell" else "strike"),.str x.nm,dD x,oD x.lo,oD x.hi]
abbrev zr (x:Tl):D:=.tup [.str (if x.tl=true then "tell" else "strike"),.str x.nm,.tup (x.said.map .int),oD x.lo,oD x.hi]
abbrev Tl.Ok (x:Tl):Prop:=∀l r,x.lo=some l->x.hi=some r->l<r
noncomputable def LV (x:Tl)(row:Th):Ad->Ad->Ad:=if x.tl=true/\row=x.said then PF else PD
noncomputable def mw (x:Tl)(keys:Nat)(a:Int)(e:En):En:=if e.1.take keys=x.said.take keys then (e.1,LL e.2 a (W (LV x e.1) (lst e.2.1 e.2.2) (st x.lo x.hi))) else e
def yd (x:Tl):bP [bq x]=some (.bl x.tl):=by
 rw[rE];let⟨b,s,lo,hi,nm⟩:=x;cases b
 ·push_cast [gD,C4,if_false,k5,k6,q6]
 ·push_cast [gD,if_true,k5,q5]
def v3 (r:Th)(k:Nat):qv (r.map D.int) none (some (k:Int))=(r.take k).map .int:=by
 unfold qv;have h1:HT.cO (r.map D.int).length 0 none=0:=rfl;have h2:HT.cO (r.map D.int).length (r.map D.int).length (some (k:Int))=min k (r.map D.int).length:=by exact HT.yl _ _ _
 rw[h1,h2,List.drop_zero,Nat.sub_zero,List.map_take,List.take_eq_take_iff.mpr];simp
def sH (r:Th):jO (.v (.key r))=.v (.tup (r.map .int)):=rfl
def AV (l:Th):jO (.v (.tup (l.map .int)))=.v (.tup (l.map .int)):=by show R.v (.tup (unkDs (l.map .int)))=_;rw[um]
def DM {x y:R}{a b:Th}(hx:jO x=.v (.tup (a.map .int)))(hy:jO y=.v (.tup (b.map .int)))(U:ac):fS false x y U=some (.v (.bl (decide (a=b))),U):=by
 have o:∀l:Th,cR 60 (.tup (l.map .int))=true:=λl=>gP (kP l);have q:iD (.tup (a.map .int)) (.tup (b.map .int))=decide (a=b):=(oX _ _).trans (sn a b);unfold fS;rw[hx,hy]
 show((if (cR 60 (.tup (a.map .int))&&cR 60 (.tup (b.map .int)))=true then some (R.v (.bl (iD (.tup (a.map .int)) (.tup (b.map .int)))),lg U) else none).bind λr=>some (r.1,U))=_
 rw[o,o,q];rfl
def JCq (a b:Th)(U:ac):fS false (.v (.tup (a.map .int))) (.v (.tup (b.map .int))) U=some (.v (.bl (decide (a=b))),U):=DM (AV a) (AV b) U
def JCp (a b:Th)(U:ac):fS false (.v (.key a)) (.v (.key b)) U=some (.v (.bl (decide (a=b))),U):=DM (sH a) (sH b) U
section
variable {ES TS:Th}
def JBx (bt:Ad){x:Tl}(ho:x.Ok){keys:Nat}{a:Int}{e:En}(hp:BP ES TS e.2)(hE:ES.length<=18)(hT:TS.length<=70){x0 x6 x8 x9 x10:AA R}{Ab:R4 (Th×D)}{acc:R4 En}(hn:acc.length<100) :
  ∃y10,eh bt [x0,dL ((keys:Int)),some (.v (bq x)),dL a,some (.v (dD x)),some (.v (rD (st x.lo x.hi))),x6,bf 1,some (.v (.key e.1)),some (.v (jJ e.2)),x10] [.fzt Ab,.lst (acc.map bF)] =
   some (.nx [x0,dL ((keys:Int)),some (.v (bq x)),dL a,some (.v (dD x)),some (.v (rD (st x.lo x.hi))),x6,bf 1,some (.v (.key e.1)),some (.v (jJ e.2)),y10] [.fzt Ab,.lst ((acc++[mw x keys a e]).map bF)]):=by
 have hb:=hp.pf.ru
 have hl:(lst e.2.1 e.2.2).2.length<=18/\(lst e.2.1 e.2.2).2.Pairwise (·<·)/\∀z∈(lst e.2.1 e.2.2).2,z∈ES:=by
  have key:∀(g:Rc) (qs:R4 (Int×Rc)),lst g qs=g\/∃q∈qs,lst g qs=q.2:=λg qs=>by
   induction qs generalizing g with
   |nil=>exact .inl rfl
   |cons q qs ih=>
    rcases ih q.2 with h|⟨x,hx,h⟩
    ·exact .inr {q,Be,h}
    ·exact .inr {x,Br _ hx,h}
  have fin:∀r:Rc,r.2.Pairwise (·<·)->(∀z∈r.2,z∈ES)->r.2.length<=18/\r.2.Pairwise (·<·)/\∀z∈r.2,z∈ES:=λr h1 h2=>
   {Dk (m7 _ _ (GX h1) h2) hE,h1,h2}
  rcases key e.2.1 e.2.2 with h|⟨q,hq,h⟩ <;> rw[h]
  ·exact fin _ hp.pf.gu hp.ge
  ·exact fin _ (hp.pf.ru q hq) (hp.re q hq)
 have hs2:(st x.lo x.hi).2.length<=2:=by cases x.lo <;> cases x.hi <;> simp[st]
 have hpn:e.2.2.length<2000:=by
  have:=m7 (e.2.2.map (·.1)) TS (GX (zbz.mpr hp.pf.up)) λz hz=>by let⟨q,hq,rfl⟩:=Ca.mp hz;exact hp.te q hq
  rw[BR] at this;omega
 have ha:(acc.map bF).length<sizeLine:=iq (by rw[BR];omega);have t1:=yd x;have la:=yL e.2;have ct:=λ(r:Th)=>v3 r keys;have ek:=λU:ac=>JCq (e.1.take keys) (x.said.take keys) U;unfold mw
 by_cases c:e.1.take keys=x.said.take keys
 ·have c':decide (e.1.take keys=x.said.take keys)=true:=D2 c
  rw[Ae c]
  have wd:∃wd:Str,(∀u v:Ad,bH [.str wd,.bl u,.bl v]=some (.bl (LV x e.1 u v)))/\(Iu (mh (dG (bn bP 1 (af (c7 (ae 2)) ai))) (fB (aw (fS false) (ae 8) (ae 4)))) (fK (.str "either")) (fK (.str "less")))
    [x0,dL ((keys:Int)),some (.v (bq x)),dL a,some (.v (dD x)),some (.v (rD (st x.lo x.hi))),x6,bf 1,some (.v (.key e.1)),some (.v (jJ e.2)),x10] [.fzt Ab,.lst (acc.map bF)]=some (.v (.str wd),[.fzt Ab,.lst (acc.map bF)]):=by
   unfold LV
   cases Ew:x.tl with
   |false=>
    refine{"less",λu v=>by rw[Ac ∅];exact GZ u v,?_};rw[Ew] at t1;push_cast [t1]
   |true=>
    rw[Ew] at t1;have Jw:=λU:ac=>JCp e.1 x.said U;have sd:dD x=.key x.said:=rfl
    by_cases z:e.1=x.said
    ·refine{"either",λu v=>by rw[Ae {rfl,z}];exact L5 u v,?_}
     rw[D2 z] at Jw;push_cast [t1,sd,Jw]
    ·refine{"less",λu v=>by rw[Ac (λq=>z q.2)];exact GZ u v,?_}
     rw[CI z] at Jw;push_cast [t1,sd,Jw]
  obtain⟨wd,hw,hif⟩:=wd;have bl:=JFl bt (LV x e.1) wd hw (lst e.2.1 e.2.2) (st x.lo x.hi) ∅;have sp:=wL e.2 a (W (LV x e.1) (lst e.2.1 e.2.2) (st x.lo x.hi)) hpn;refine{some (.v (.str wd)),?_};rw[c'] at ek;unfold eh;generalize Iu (mh (dG (bn bP 1 (af (c7 (ae 2)) ai))) (fB (aw (fS false) (ae 8) (ae 4)))) (fK (.str "either")) (fK (.str "less"))=F at hif ⊢;push_cast [LQ,BY,sH,ct,ek,hif,la,bl,sp,ha,DK]
 ·have c':decide (e.1.take keys=x.said.take keys)=false:=CI c
  rw[c'] at ek;rw[Ac c];refine{x10,?_};push_cast [eh,LQ,BY,sH,ct,ek,ha,DK]
end
def p0 (x:Tl)(keys:Nat)(a:Int)(e:En):(mw x keys a e).1=e.1:=by unfold mw;split <;> rfl
abbrev qK (e:En):Th×D:=(e.1,jJ e.2)
theorem rR:∀T:R4 En,j6 (T.map bF)=some (T.map qK)
 |[]=>rfl
 |e::T=>by
  rw[BH,BH];unfold j6
  show(j6 (T.map bF)).map _=_
  rw[rR T];rfl
theorem pN:∀(T:R4 En) (k0:R4 (Th×D)),(k0.map (·.1)++T.map (·.1)).Nodup->kO k0 (T.map qK)=k0++T.map qK
 |[],k0,_=>by simp[kO]
 |e::T,k0,nd=>by
  have hn:¬ (k0.any λp=>decide (p.1=e.1))=true:=λz=>by let⟨p,hp,h⟩:=zcu.mp z;have h:p.1=e.1:=‹h›;exact(F3.mp nd).2.2 p.1 (EZ hp) e.1 ∅ h
  show kO (Cg k0 e.1 (jJ e.2)) (T.map qK)=_
  unfold Cg;rw[Ac hn,pN T _ ‹nd›];simp
theorem sE (k:Th):∀T:R4 En,(om (T.map qK) k=none ↔ k∉T.map (·.1))
 |[]=>by simp[om]
 |e::T=>by
  have ih:=sE k T;unfold om at ih ⊢;rw[BH];by_cases z:e.1=k
  ·rw[zbH ‹z›];simp[z]
  ·rw[zbI ‹z›,ih];simp[Ne.symm z]
noncomputable def df (x:Tl)(T:R4 En):R4 En:=if x.tl=true/\x.said∉T.map (·.1) then T++[(x.said,AK)] else T
theorem qk:∀es:R4 En,flatDs (es.map bF)=true
 |[]=>rfl
 |e::es=>by
  have h1:dq (bF e)=true:=by
   have:=JFe e.2.1 e.2.2
   show flatDs [.key e.1,jJ e.2]=true
   rwa[flatDs,dq] at this ⊢;simpa using this
  rw[BH,flatDs,h1,qk es];rfl
section
variable {ES TS:Th}{w:Nat}{T:R4 En}
def JD3 (bt:Ad){x:Tl}(ho:x.Ok){keys:Nat}{a:Int}(hb:∀e∈T,BP ES TS e.2)(hE:ES.length<=18)(hT:TS.length<=70)(hr:∀e∈T,e.1.length=w)(hs:x.tl=true->x.said.length=w)(nd:(T.map (·.1)).Nodup)(hn:T.length<=62) :
  ∃A:R4 En,eW bt [.fl (T.map bF),.int (keys:Int),bq x,.int a]=some (.lst (A.map bF))/\GN (A.map (·.1))/\∀e,e∈A ↔ e∈(df x T).map (mw x keys a)/\e.2≠AK:=by
 have n0:BP ES TS AK:={{.nil,.nil,trivial,λ_ h=>nomatch h},(λ_ h=>nomatch h),(λ_ h=>nomatch h),λ_ h=>nomatch h}
 have eb:∀e∈df x T,BP ES TS e.2/\e.1.length=w:=λe he=>by
  unfold df at he;split at he
  ·rename_i c
   rcases Dd.mp he with h|h
   ·exact{hb e h,hr e h}
   ·rw[CP.mp h];exact{n0,hs c.1}
  ·exact{hb e he,hr e he}
 have en:((df x T).map (·.1)).Nodup:=by
  unfold df;split
  ·rename_i c
   rw[DK,F3]
   exact{nd,by simp,λp hp q hq=>by
    have hq:q=x.said:=by simpa using hq
    rw[hq];rintro rfl;exact c.2 hp}
  ·exact nd
 have el:(df x T).length<=63:=by
  unfold df;split
  ·rw[Ci];simp;omega
  ·omega
 let⟨A,hA,hu,hm⟩:=JBf bt (w:=w) (es:=(df x T).map (mw x keys a)) (by rw[BR];omega) (by rw[E6,show((λe:En=>e.1) ∘ mw x keys a)=λe=>e.1 from funext λe=>p0 x keys a e];exact en) (λe he=>by
  let⟨y,hy,rfl⟩:=Ca.mp he
  rw[p0];exact(eb y hy).2)
 refine{A,?_,hu,hm};rw[zt];have se:=wK ho;have t1:=yd x;have ix2:∀U:ac,bz (.v (bq x)) (.v (.int 2)) U=some (.v (dD x),U):=λU=>rfl;have ix3:∀U:ac,bz (.v (bq x)) (.v (.int 3)) U=some (.v (oD x.lo),U):=λU=>rfl;have ix4:∀U:ac,bz (.v (bq x)) (.v (.int 4)) U=some (.v (oD x.hi),U):=λU=>rfl
 have dt:ss [.v (.fl (T.map bF))] []=some (.p 0,[.dt (T.map qK)]):=by
  unfold ss
  show((j6 (T.map bF)).bind λAb=>if (T.map bF).length<1000 then some (R.p 0,[au.dt (kO [] Ab)]) else none)=_
  rw[rR,BY,Ae (by rw[BR];omega),pN T [] ‹nd›];rfl
 have s4:(f8 (dG (bn bP 1 (af (c7 (ae 2)) ai))) (bK (Ap (ae 6) (ae 4) (fK (.tup [(.tup [(.bl false),(.tup [])]),(.tup [])])))) aO)
   [some (.v (.fl (T.map bF))),dL ((keys:Int)),some (.v (bq x)),dL a,some (.v (dD x)),some (.v (rD (st x.lo x.hi))),bf 0,none,none,none,none] [.dt (T.map qK)] =
   some (.nx [some (.v (.fl (T.map bF))),dL ((keys:Int)),some (.v (bq x)),dL a,some (.v (dD x)),some (.v (rD (st x.lo x.hi))),bf 0,none,none,none,none] [.dt ((df x T).map qK)]):=by
  cases Ew:x.tl with
  |false=>
   rw[Ew] at t1
   have:df x T=T:=by unfold df;rw[Ac (by simp[Ew])]
   rw[this];push_cast [t1]
  |true=>
   rw[Ew] at t1;have sd:dD x=.key x.said:=rfl
   have sT:(Ap (ae 6) (ae 4) (fK (.tup [(.tup [(.bl false),(.tup [])]),(.tup [])]))) [some (.v (.fl (T.map bF))),dL ((keys:Int)),some (.v (bq x)),dL a,some (.v (dD x)),some (.v (rD (st x.lo x.hi))),bf 0,none,none,none,none] [.dt (T.map qK)] =
     (if (T.map qK).length<1000 then some (match om (T.map qK) x.said with|some r=>(.v r,[.dt (T.map qK)])|none=>(.v OA,[.dt (T.map qK++[(x.said,OA)])])) else none):=by rw[sd];rfl
   rw[Ae (by rw[BR];omega)] at sT
   by_cases z:x.said∈T.map (·.1)
   ·have:df x T=T:=by unfold df;rw[Ac (λq=>q.2 z)]
    rw[this]
    cases hv:om (T.map qK) x.said with
    |none=>exact Au z ((sE _ _).mp hv)
    |some r=>
     rw[hv] at sT;push_cast [t1,sT]
   ·have:df x T=T++[(x.said,AK)]:=by unfold df;rw[Ae {Ew,z}]
    rw[this,DK];rw[(sE _ _).mpr z] at sT;push_cast [t1,sT];rfl
 let⟨⟨acc,x8,x9,x10⟩,e,h1⟩:=vp (g:=vN 2 (bm (bU 8) (bm (bU 9) f9))) (b:=eh bt) bF
  (λs:R4 En×AA R×AA R×AA R=>([some (.v (.fl (T.map bF))),dL ((keys:Int)),some (.v (bq x)),dL a,some (.v (dD x)),some (.v (rD (st x.lo x.hi))),bf 0,bf 1,s.2.1,s.2.2.1,s.2.2.2],[au.fzt ((df x T).map qK),.lst (s.1.map bF)]))
  (λs rem=>s.1++rem.map (mw x keys a)=(df x T).map (mw x keys a)/\∀e∈rem,e∈df x T) (df x T) ([],none,none,none) {rfl,λ_ h=>h} (by
   rintro⟨acc,x8,x9,x10⟩ e rem ⟨h1,h2⟩
   have DZ:acc.length<100:=by
    have:=Av List.length h1;simp at this;omega
   let⟨y10,q⟩:=JBx bt ho (keys:=keys) (a:=a) (eb e (h2 e Be)).1 hE hT (x0:=some (.v (.fl (T.map bF)))) (x6:=some (.p 0)) (x8:=x8) (x9:=x9) (x10:=x10) (Ab:=(df x T).map qK) DZ;refine{(acc++[mw x keys a e],some (.v (.key e.1)),some (.v (jJ e.2)),y10),?_,by rw[Bx];exact h1,λz hz=>h2 z (Br _ hz)};have hg:vN 2 (bm (bU 8) (bm (bU 9) f9)) (.v (bF e)) [some (.v (.fl (T.map bF))),dL ((keys:Int)),some (.v (bq x)),dL a,some (.v (dD x)),some (.v (rD (st x.lo x.hi))),bf 0,bf 1,x8,x9,x10] [au.fzt ((df x T).map qK),.lst (acc.map bF)]=some ([some (.v (.fl (T.map bF))),dL ((keys:Int)),some (.v (bq x)),dL a,some (.v (dD x)),some (.v (rD (st x.lo x.hi))),bf 0,bf 1,some (.v (.key e.1)),some (.v (jJ e.2)),x10],[au.fzt ((df x T).map qK),.lst (acc.map bF)]):=rfl;rw[hg,qq]
   exact q)
 have h1:acc=(df x T).map (mw x keys a):=by simpa using h1.1
 subst h1
 have fi:(Gc (ae 6)) [some (.v (.fl (T.map bF))),dL ((keys:Int)),some (.v (bq x)),dL a,some (.v (dD x)),some (.v (rD (st x.lo x.hi))),bf 0,bf 1,none,none,none] [.dt ((df x T).map qK),.lst []]=some ((df x T).map bF,[.fzt ((df x T).map qK),.lst []]):=by
  show some ((((df x T).map qK).map P5,_))=_
  rw[E6];rfl
 have fl:=qk A;have e:fN (vN 2 (bm (bU 8) (bm (bU 9) f9))) (eh bt) ((df x T).map bF) [some (.v (.fl (T.map bF))),dL ((keys:Int)),some (.v (bq x)),dL a,some (.v (dD x)),some (.v (rD (st x.lo x.hi))),bf 0,bf 1,none,none,none] [au.fzt ((df x T).map qK),.lst []]=_:=e;generalize hL:(f8 (dG (bn bP 1 (af (c7 (ae 2)) ai))) (bK (Ap (ae 6) (ae 4) (fK (.tup [(.tup [(.bl false),(.tup [])]),(.tup [])])))) aO)=L at s4;rw[nI,hL];push_cast [ix2,ix3,ix4,se,dt,s4,fi,e,hA,fl]
end
theorem hV:∀a:Th,F2.jK a a=false
 |[]=>rfl
 |x::a=>by simp[F2.jK,hV a]
def CY {l:Ta}(h:GN l):l.Nodup:=h.imp λ{a b} h e=>by subst e;rw[hV] at h;cases h
section
variable {ES TS:Th}{T A:R4 En}{x:Tl}{keys:Nat}{a:Int}
def qr {e:En}:e∈df x T ↔ e∈T\/(x.tl=true/\x.said∉T.map (·.1)/\e=(x.said,AK)):=by
 unfold df;split
 ·rename_i c;rw[Dd,CP];exact or_congr Iff.rfl {λh=>{c.1,c.2,h},λh=>h.2.2}
 ·rename_i c;exact{.inl,λh=>h.resolve_right λq=>c {q.1,q.2.1}}
def JD4 (ho:x.Ok)(hb:∀e∈T,BP ES TS e.2)(ha:∀e∈T,∀q∈e.2.2,q.1<a)(hA:∀e,e∈A ↔ e∈(df x T).map (mw x keys a)/\e.2≠AK)(hs:∀z∈(st x.lo x.hi).2,z∈ES)(haT:a∈TS):∀e∈A,BP ES TS e.2/\e.2≠AK:=λe he=>by
 let⟨h1,h2⟩:=(hA e).mp he;refine{?_,h2};let⟨y,hy,rfl⟩:=Ca.mp h1;have Fo:BP ES TS y.2/\∀q∈y.2.2,q.1<a:=by
  rcases qr.mp hy with h|⟨_,_,rfl⟩
  ·exact{hb y h,ha y h}
  ·exact{{{.nil,.nil,trivial,λ_ h=>nomatch h},(λ_ h=>nomatch h),(λ_ h=>nomatch h),λ_ h=>nomatch h},λ_ h=>nomatch h}
 unfold mw;split
 ·refine JGs Fo.1 Fo.2 (Q6 _ _ _) (λz hz=>?_) haT;have:=(IE _ _ _).subset hz;rcases ((jP _ _).2.2 z).mp this with h|h
  ·have key:∀(g:Rc) (qs:R4 (Int×Rc)),(∀w∈g.2,w∈ES)->(∀q∈qs,∀w∈q.2.2,w∈ES)->∀w∈(lst g qs).2,w∈ES:=λg qs=>by
    induction qs generalizing g with
    |nil=>exact λh _=>h
    |cons q qs ih=>exact λ_ h2=>ih q.2 (h2 q Be) λp hp=>h2 p (Br _ hp)
   exact key _ _ Fo.1.ge Fo.1.re z h
  ·exact hs z h
 ·exact Fo.1
end
def eR (i:Int){j:Int}(h:0<j)(U:ac):c6 (.v (.int i)) (.v (.int j)) U=some (.v (.int (i%j)),U):=qp h
def jI (i:Int){j:Int}(h:0<j)(h2:j<2 ^ 30)(U:ac):jr (.v (.int i)) (.v (.int j)) U=some (.v (.int (i / j)),U):=Lu ∅ ∅
def Cq (l:Th)(i:Int)(h:0<=i/\i<(l.length:Int)):∃x∈l,L2.iJ (l.map D.int) i=some (.int x):=by
 obtain⟨j,rfl⟩:∃j:Nat,(j:Int)=i:={i.toNat,zcF h.1};have hj:j<l.length:=by omega
 exact{l[j],zbD hj,lY (C0 hj)}
noncomputable def mx:R4 Nat:=[97,98,99,100,101,102,103,104,105,106,107,108,109,110,111,112,113,114,115,116,117,118,119,120,121,122]
def JFq:(Str.ofString "abcdefghijklmnopqrstuvwxyz")=Tx mx:=by decide
def JFr:(Str.ofString "kmz")=Tx [107,109,122]:=by decide
def KM:∀c∈mx,c<1000:=by decide
theorem C8:∀l:R4 Nat,Str.join ⟨#[]⟩ (l.map λc=>Tx [c])=Tx l
 |[]=>rfl
 |[a]=>rfl
 |a::b::t=>by
  have ih:=C8 (b::t);rwa[BH] at ih ⊢;rw[Str.join,ih]
  ·exact Str.ext' (Array.toList_inj.mp (by
    show(([a].toArray++#[])++(b::t).toArray).toList=_
    simp))
  all_goals simp
theorem yc:∀l:R4 Nat,mR (l.map λc=>D.str (Tx [c]))=some (l.map λc=>Tx [c])
 |[]=>rfl
 |a::l=>by rwa[BH,mR,yc l,BY]
def JBp (l:R4 Nat)(hl:l.length<=40):JoinOk ⟨#[]⟩ (l.map λc=>Tx [c])=true:=by
 unfold JoinOk Builtin.Str.tooLong;have h:∀(l:R4 Nat) (s:Nat),(l.map λc=>Tx [c]).foldl (λt w=>t+w.length+(⟨#[]⟩:Str).length) s=s+l.length:=by
  intro l;induction l with
  |nil=>intro s;simp
  |cons a l ih=>
   intro s;rw[BH,EX,ih,lB]
   show s+1+0+_=_
   rw[CK];omega
 have h:=h l 0;rw[←List.foldl_toArray'] at h
 ·rwa[Bool.not_eq_true',decide_eq_false_iff_not,Nat.not_lt];refine Dk (Nat.le_of_eq h) ?_;have h4:(4000:Nat)<=sizeLine:=by decide
  omega
 ·rfl
def JEj {n:Nat}{U:ac}{l:R4 Nat}(h:U[n]?=some (.lst (l.map λc=>D.str (Tx [c]))))(hl:l.length<=40):rX (.v (.str "")) (.p n) U=some (.v (.str (Tx l)),U):=by
 have e:(Str.ofString "")=⟨#[]⟩:=by decide
 show((lh (.p n) U).bind λds=>(mR ds).bind λts=>if JoinOk (Str.ofString "") ts=true then some (R.v (.str (Txt.join (Str.ofString "") ts)),U) else none)=_
 rw[Gk,h,Lm,BY,yc,BY,e,Ae (JBp l hl)];rw[show Txt.join ⟨#[]⟩ (l.map λc=>Tx [c])=Tx l from(PySem.StrLaws.glued_eq_join _ _).trans (C8 l)]
theorem qz {Z:Type}{f:FE}{rest:Lo}{U:ac}(e:Z->D)(P:D->Prop):∀(xs:R4 Z) (x0:AA R),(∀a∈xs,∃d,P d/\f (some (.v (e a))::rest) U=some (.v d,U))->∃ds,cG (bU 0) dP f (xs.map e) (x0::rest) U=some (ds,U)/\ds.length=xs.length/\∀d∈ds,P d
 |[],_,_=>{[],rfl,rfl,λ_ h=>nomatch h}
 |a::xs,x0,h=>by
  let⟨d,hd,h1⟩:=h a Be;let⟨ds,ih,hl,hp⟩:=qz e P xs (some (.v (e a))) λb hb=>h b (Br _ hb);refine{d::ds,?_,by simp[hl],λz hz=>?_}
  ·rwa[BH,cG,bU,zcj,BY,dP,if_true,h1,ih]
  ·rcases BV.mp hz with rfl|hz
   ·exact hd
   ·exact hp z hz
theorem AT {Z:Type}(e:Z->D)(Q:Z->Prop):∀ds:R4 D,(∀d∈ds,∃a,Q a/\d=e a)->∃l:R4 Z,ds=l.map e/\∀a∈l,Q a
 |[],_=>{[],rfl,λ_ h=>nomatch h}
 |d::ds,h=>by let⟨a,ha,rfl⟩:=h d Be;let⟨l,rfl,hl⟩:=AT e Q ds λx hx=>h x (Br _ hx);exact{a::l,rfl,λx hx=>(BV.mp hx).elim (λe=>e ▸ ha) (hl x)}
structure Sh where
 nm:Str
 ks:Nat
 w:Nat
abbrev bx (s:Sh):D:=.tup [.str s.nm,.int (s.ks:Int),.int (s.w:Int)]
def okN (x:Str):Prop:=∃l:R4 Nat,x=Tx l/\∀c∈l,c<1000
def okN.ok {x:Str}(h:okN x)(n:Nat):cR n (.str x)=true:=by let⟨l,rfl,h⟩:=h;exact MQ λc hc=>by have:=h c hc;omega
structure GS (Ag:List Sh):Prop where
 pos:0<Ag.length
 le:Ag.length<=3
 nd:(Ag.map (·.nm)).Nodup
 ok:∀s∈Ag,(s.ks<=s.w/\s.w<=8)/\okN s.nm
abbrev CO (l:R4 Nat)(p c:Nat):R4 Nat:=l.take p++[c]++l.drop (p+1)
def JE8 {l:R4 Nat}{p c d:Nat}(h:Tx (CO l p c)=Tx (CO l p d)):c=d:=by
 have h:=(L3 (l:=CO l p c) (r:=CO l p d));rename_i h0;rw[h0] at h;have h:CO l p c=CO l p d:=by simpa using h
 have h:=List.append_cancel_right h;simpa using List.append_cancel_left h
def zB (cell:Int):∃Ag:R4 Sh,GS Ag/\dB [.int cell]=some (.fl (Ag.map bx)):=by
 rw[sJ];let⟨n,hn,hn0,hn1⟩:=kJ cell 1 ∅;have b8:=dI n (j:=8) ∅;obtain⟨m,hm⟩:∃m:Nat,(1+n%8).toNat=m:={_,rfl};have hmi:(m:Int)=1+n%8:=by omega
 obtain⟨ds,hc,hl,hp⟩:=qz (f:=aw Ij (fK (.str "abcdefghijklmnopqrstuvwxyz")) (aw c6 (aw jr (bn bE 2 (af (c7 (ae 1)) (af (c7 (aw dQ (fK (.int 70)) (ae 0))) ai))) (fK (.int 3))) (fK (.int 26)))) (rest:=[dL cell]) (U:=[]) (λi:Nat=>D.int (i:Int)) (λd=>∃c:Nat,c<1000/\d=D.str (Tx [c])) (List.range m) none (λk hk=>by
  have hk:=zbQ.mp hk;let⟨a,ha,ha0,ha1⟩:=kJ cell (70+(k:Int)) ∅;have b:=dI (a / 3) (j:=26) ∅;have BD:(a / 3%26).toNat<mx.length:=by show _<26;omega
  have hx:=HC (U:=[]) (l:=mx) (i:=a / 3%26) (c:=mx[(a / 3%26).toNat]) b.1 ∅ (C0 BD);rw[←JFq] at hx;refine{_,{_,KM _ (zbD BD),rfl},?_};push_cast [ha,jI a (j:=3) ∅ ∅,eR (a / 3) (j:=26) ∅,hx])
 let⟨l,rfl,hl2⟩:=AT (λc:Nat=>D.str (Tx [c])) (·<1000) ds hp;have hl:l.length=m:=by simpa using hl
 have z0:((List.range m).map λi=>D.int (i:Nat)).length<=sizeLine:=bY (by simp;omega);have bp:=dI (n / 8) (j:=(m:Int)) ∅;obtain⟨p,hpi⟩:∃p:Nat,(p:Int)=n / 8%(m:Int):={(n / 8%(m:Int)).toNat,by omega};have hpl:p<l.length:=by omega
 have zl:l.length<=sizeLine:=bY ∅;have jv:=JEj (n:=0) (U:=[au.lst (l.map λc=>D.str (Tx [c]))]) (l:=l) rfl ∅;have lv:=JGr (U:=[au.lst (l.map λc=>D.str (Tx [c]))]) zl;have b3:=dI (n / 64) (j:=3) ∅;obtain⟨q,hq⟩:∃q:Nat,(1+n / 64%3).toNat=q:={_,rfl};have hmi':(l.length:Int)=(m:Int):=by omega
 push_cast [jx,hn,eR n (j:=8) ∅,qo (j:=1+n%8) ∅,hm,z0,hc,Fg,EH,jv,lv,hmi',jI n (j:=8) ∅ ∅,eR (n / 8) (j:=(m:Int)) ∅,←hpi,jI n (j:=64) ∅ ∅,eR (n / 64) (j:=3) ∅,qo (j:=1+n / 64%3) ∅,hq];have b256:=dI (n / 256) (j:=3) ∅;have to:=λU=>MO (U:=U) (l:=l) (n:=p) ∅ zl;have fr:=λU=>JDe (U:=U) (l:=l) (n:=p+1) ∅ zl;have pc:(p:Int)+1=((p+1:Nat):Int):=by omega
 let⟨O',U',e,Ag,x5,x6,x7,rfl,⟨cs,rfl⟩,h1,h2,h3⟩:=lJ (g:=bU 5) (b:=gS) (O:=[dL cell,dL n,some (.v (.str (Tx l))),dL ((p:Int)),bf 1,none,none,none]) (U:=[au.lst (l.map λc=>D.str (Tx [c])),.lst []]) q
  (λi O U=>∃(Ag:R4 Sh) (x5 x6 x7:AA R),O=[dL cell,dL n,some (.v (.str (Tx l))),dL ((p:Int)),bf 1,x5,x6,x7]/\(∃cs:R4 au,U=.lst (l.map λc=>D.str (Tx [c])) :: .lst (Ag.map bx)::cs)/\Ag.length=i/\(∀s∈Ag,((s.ks<=s.w/\s.w<=8)/\okN s.nm)/\∃k c,k<i/\[107,109,122][k]?=some c/\s.nm=Tx (CO l p c))/\(Ag.map (·.nm)).Nodup)
  {[],none,none,none,rfl,{[],rfl},rfl,(λ_ h=>nomatch h),.nil} (by
   rintro i hi O U ⟨Ag,x5,x6,x7,rfl,⟨cs,rfl⟩,h1,h2,h3⟩;have hi3:i<3:=∅;let⟨a,ha,ha0,ha1⟩:=kJ cell (80+(i:Int)) ∅;let⟨b,hb,hb0,Jq⟩:=kJ cell (90+(i:Int)) ∅;let⟨x,hx,J9⟩:=Cq [3,3,8] (n / 256%3) b256;have hx0:0<x/\x<=8:=(by simp at hx;omega);have J9:L2.iJ [D.int 3,.int 3,.int 8] (n / 256%3)=some (.int x):=J9;have bw:=dI (a / 3) (j:=x) hx0.1;obtain⟨w,hw⟩:∃w:Nat,(w:Int)=1+a / 3%x:={(1+a / 3%x).toNat,by omega};have bk:=dI (b / 3) (j:=(w:Int)+1) ∅;obtain⟨ks,Jj⟩:∃ks:Nat,(ks:Int)=b / 3%((w:Int)+1):={(b / 3%((w:Int)+1)).toNat,by omega};have hc3:∃c,[107,109,122][i]?=some c/\c<1000:=by have:i=0\/i=1\/i=2:=∅;rcases this with rfl|rfl|rfl <;> exact{_,rfl,by decide}
   let⟨c,hc,Jo⟩:=hc3;have kx:=λU=>HC (U:=U) (l:=[107,109,122]) (i:=(i:Int)) (c:=c) ∅ ∅ ‹hc›;rw[←JFr] at kx;have ad1:∀U:ac,dQ (.v (.str (Tx (l.take p)))) (.v (.str (Tx [c]))) U=some (.v (.str (Tx (l.take p++[c]))),U):=λU=>by rw[Bo,Ae (bY (by simp;omega))]
   have ad2:∀U:ac,dQ (.v (.str (Tx (l.take p++[c])))) (.v (.str (Tx (l.drop (p+1))))) U=some (.v (.str (Tx (CO l p c))),U):=λU=>by rw[Bo,Ae (bY (by simp;omega))]
   have zs:(Ag.map bx).length<sizeLine:=iq (by simp;omega);refine{_,_,?_,Ag++[{Tx (CO l p c),ks,w}],dL ((i:Int)),dL ((w:Int)),some (.v (.str (Tx (CO l p c)))),rfl,{cs++[.lst [.int 3,.int 3,.int 8]],rfl},by simp[h1],λs hs=>?_,?_}
   ·push_cast [gS,ha,hb,jI a (j:=3) ∅ ∅,jI b (j:=3) ∅ ∅,jI n (j:=256) ∅ ∅,eR (n / 256) (j:=3) ∅,nV,J9,eR (a / 3) (j:=x) hx0.1,←hw,MP,JGq,JGp,JGo,to,pc,fr,kx,ad1,ad2,eR (b / 3) (j:=(w:Int)+1) ∅,←Jj,zs,DK]
   ·rcases Dd.mp hs with hs|hs
    ·let⟨q1,k,c',q2,q3,q4⟩:=h2 s hs;exact{q1,k,c',by omega,q3,q4}
    ·rw[CP.mp hs];refine{{{?_,?_},{_,rfl,λz hz=>?_}},i,c,by omega,hc,rfl}
     ·show ks<=w;omega
     ·show w<=8;omega
     ·rcases Dd.mp hz with hz|hz
      ·rcases Dd.mp hz with hz|hz
       ·exact hl2 z (List.mem_of_mem_take hz)
       ·rw[CP.mp hz];exact Jo
      ·exact hl2 z (List.mem_of_mem_drop hz)
   ·rw[DK,F3];refine{h3,by simp,λu hu v hv z=>?_};have hv:v=Tx (CO l p c):=‹hv›;let⟨s,hs,rfl⟩:=Ca.mp hu;let⟨_,k,c',q2,q3,q4⟩:=h2 s hs;rw[q4,hv] at z;have:=JE8 z;subst this;have nd:([107,109,122]:R4 Nat).Nodup:=∅;have:=(List.getElem?_inj (by simp;omega) nd).mp (q3.trans hc.symm);omega)
 rw[e];push_cast [HW.Bn];exact{Ag,{by omega,by omega,h3,λs hs=>(h2 s hs).1},rfl}
def NA {Z:Type}(f:Z->D)(xs:R4 Z)(i:Int)(hx:0<xs.length):∃x∈xs,L2.iJ (xs.map f) (i%(xs.length:Int))=some (f x):=by
 obtain⟨j,hj⟩:∃j:Nat,(j:Int)=i%(xs.length:Int):={(i%(xs.length:Int)).toNat,by rw[zcF (zcU _ ∅)]};have BD:j<xs.length:=by have:=zcI i (b:=(xs.length:Int)) ∅;omega
 exact{xs[j],zbD BD,by rw[←hj];exact lY (C0 BD)}
noncomputable def EL (sc:Int):Th:=(List.range 18).map λi:Nat=>((i:Int)-3)*sc
def LG (sc:Int):(EL sc).length=18:=by simp[EL]
def Ei {sc k:Int}(h1 : -3<=k)(h2:k<=14):k*sc∈EL sc:=Ca.mpr {(k+3).toNat,zbQ.mpr ∅,by rw[zcF ∅];congr 1;omega}
structure GT (sc:Int)(Ag:List Sh)(x:Tl):Prop where
 ok:x.Ok
 ed:∀z∈(st x.lo x.hi).2,z∈EL sc
 nm:okN x.nm
 sh:∃s∈Ag,s.nm=x.nm/\x.said.length=if x.tl=true then s.w else s.ks
section
variable {O:Lo}{U:ac}{x:R}
noncomputable def Hf (o:AA (R×ac))(fl fh:FO)(O:Lo):AA (R×ac):=o.bind λa=>(fl O a.2).bind λl=>(fh O l.2).bind λh=>HE a.1 l.1 h.1 h.2
noncomputable def He (x:R)(o:AA (AA Int×ac))(fh:FO)(O:Lo):AA (R×ac):=o.bind λl=>(fh O l.2).bind λh=>HE x l.1 h.1 h.2
noncomputable def Hd (x:R)(l:AA Int)(o:AA (AA Int×ac)):AA (R×ac):=o.bind λh=>HE x l h.1 h.2
def Sn {fa:FE}{fl fh:FO}:Gd fa fl fh O U=Hf (fa O U) fl fh O:=rfl
def Sm {fl fh:FO}:Hf (some (x,U)) fl fh O=He x (fl O U) fh O:=rfl
def Sk {fh:FO}{l:AA Int}:He x (some (l,U)) fh O=Hd x l (fh O U):=rfl
def Sj {l h:AA Int}:Hd x l (some (h,U))=HE x l h U:=rfl
def Si (r:Th)(k:Nat)(U:ac):HE (.v (.key r)) none (some (k:Int)) U=some (.v (.key (r.take k)),U):=by
 have:Aw r none (some (k:Int))=r.take k:=by unfold Aw;have h1:HT.cO r.length 0 none=0:=rfl;have h2:HT.cO r.length r.length (some (k:Int))=min k r.length:=HT.yl _ _ _;rw[h1,h2,List.drop_zero,Nat.sub_zero,List.take_eq_take_iff.mpr];simp
 show some (R.v (.key (Aw r none (some (k:Int)))),U)=_
 rw[this]
end
def wH (c s:Int)(hs:0<s){Ag:R4 Sh}(g:GS Ag):∃x:Tl,GT s Ag x/\cY [.int c,.fl (Ag.map bx),.int s]=some (bq x):=by
 rw[qL];let⟨n,hn,hn0,hn1⟩:=kJ c 2 ∅;let⟨sh,D6,a1⟩:=NA bx Ag n g.pos;let⟨⟨hk,hw⟩,FJ⟩:=g.ok sh D6;have mS:=λU=>eR n (j:=(Ag.length:Int)) (by have:=g.pos;omega) U;obtain⟨P,hP⟩:∃P:Int,P=10 ^ (50:Int).toNat:={_,rfl};have JW:∀U:ac,qW (.v (.int 10)) (.v (.int 50)) U=some (.v (.int P),U):=λU=>by rw[Dz ∅,hP]
 have hP0:0<P:=by rw[hP];exact Int.pow_pos ∅
 clear hP;have sz5:5<=sizeLine:=by decide
 let⟨ds,hc,hl,hp⟩:=qz (f:=aw bz (ae 1) (aw c6 (aw jr (bn bE 2 (af (c7 (ae 2)) (af (c7 (aw dQ (fK (.int 20)) (ae 0))) ai))) (fK (.int 5))) (fK (.int 5)))) (rest:=[bf 0,dL c]) (U:=[au.lst [.int 0,.int 1,.int (-1),.int (c%P),.int (0-c%P)]]) (λi:Nat=>D.int (i:Int)) (λd=>∃i:Int,True/\d=D.int i) (List.range sh.w) none (λk hk=>by have hk:=zbQ.mp hk;let⟨a,ha,ha0,ha1⟩:=kJ c (20+(k:Int)) ∅;have b:=dI (a / 5) (j:=5) ∅;obtain⟨x,-,hx⟩:=Cq [0,1,-1,c%P,0-c%P] (a / 5%5) b;have hx:L2.iJ [D.int 0,.int 1,.int (-1),.int (c%P),.int (0-c%P)] (a / 5%5)=some (.int x):=hx;refine{_,{x,trivial,rfl},?_};push_cast [ha,jI a (j:=5) ∅ ∅,eR (a / 5) (j:=5) ∅,hx])
 obtain⟨r,rfl,-⟩:=AT D.int (λ_=>True) ds hp;have hl:r.length=sh.w:=by simpa using hl
 have z0:(List.range sh.w).length<=sizeLine:=bY (by simp;omega);have b12:=dI (n / 8) (j:=12) ∅;have b6:=dI (n / 96) (j:=6) ∅;have m1:∀U:ac,p5 (.v (.int (n / 8%12-3))) (.v (.int s)) U=some (.v (.int ((n / 8%12-3)*s)),U):=λU=>kU ∅;have m2:∀U:ac,p5 (.v (.int (1+n / 96%6))) (.v (.int s)) U=some (.v (.int ((1+n / 96%6)*s)),U):=λU=>kU ∅;have hgt:0<(1+n / 96%6)*s:=Int.mul_pos ∅ hs;obtain⟨lw,hlw⟩:∃lw,lw=(n / 8%12-3)*s:={_,rfl};obtain⟨up,hup⟩:∃up,up=lw+(1+n / 96%6)*s:={_,rfl};have ct:=Si r sh.ks;have ev:∀(b1 b2 b3:Ad),(n / 600%5 == 0)=b1->(n / 3000%5 == 0)=b2->(n / 15000%3 == 0)=b3 ->
   g8 (fI [dL c,some (.v (.fl (Ag.map bx))),dL s,none,none,none,none,none,none,none,none] [])=some (bq {!b3,if b3 then r.take sh.ks else r,if b1 then none else some lw,if b2 then none else some up,sh.nm}):=by
  intro b1 b2 b3 e1 e2 e3;cases b1 <;> cases b2 <;> cases b3 <;> push_cast [fI,hn,BR,mS,a1,JW,eR c (j:=P) hP0,sz5,qo (j:=(sh.w:Int)) ∅,Fy,z0,hc,C6,BY,jI n (j:=8) ∅ ∅,eR (n / 8) (j:=12) ∅,m1,jI n (j:=96) ∅ ∅,eR (n / 96) (j:=6) ∅,m2,←hlw,←hup,jI n (j:=600) ∅ ∅,eR (n / 600) (j:=5) ∅,jI n (j:=3000) ∅ ∅,eR (n / 3000) (j:=5) ∅,jI n (j:=15000) ∅ ∅,eR (n / 15000) (j:=3) ∅,e1,e2,e3,Sn,Sm,Sk,Sj,ct,C4,if_false,GB,Bool.not_false,oD] <;> rfl
 have m1':lw∈EL s:=by rw[hlw];exact Ei ∅ ∅
 have m2':up∈EL s:=by rw[hup,hlw,←Int.add_mul];exact Ei ∅ ∅
 have ed:∀lo hi:AA Int,(∀z,lo=some z->z∈EL s)->(∀z,hi=some z->z∈EL s)->∀z∈(st lo hi).2,z∈EL s:=λlo hi h1 h2=>by
  cases lo <;> cases hi <;> simp[st] at h1 h2 ⊢
  ·exact h2
  ·exact h1
  ·exact{h1,h2}
 refine{_,{?_,ed _ _ (λz hz=>?_) (λz hz=>?_),FJ,sh,D6,rfl,?_},ev _ _ _ rfl rfl rfl}
 ·intro l u h1 h2;dsimp only at h1 h2;split at h1
  ·cases h1
  ·split at h2
   ·cases h2
   ·cases h1;cases h2;omega
 ·dsimp only at hz;split at hz
  ·cases hz
  ·cases hz;exact m1'
 ·dsimp only at hz;split at hz
  ·cases hz
  ·cases hz;exact m2'
 ·dsimp only
  cases(n / 15000%3 == 0)
  ·simpa using hl
  ·simp;omega
def yF (n:Nat)(x:Str):cR n (.str x)=PyData.strOk x:=by cases n <;> rfl
def H9 {x:Tl}(h:okN x.nm)(n:Nat):cR (n+4) (zr x)=true:=by
 have o:∀(o:AA Int) (m:Nat),cR m (oD o)=true:=λo m=>by cases o <;> cases m <;> rfl
 refine gP (aY ?_ (aY (h.ok _) (aY (gP (kP _)) (aY (o _ _) (aY (o _ _) jg)))));split
 ·exact(yF _ _).trans ∅
 ·exact(yF _ _).trans ∅
def KC {xs:R4 Tl}(h:∀x∈xs,okN x.nm):cR 60 (.fl (xs.map zr))=true:=by
 have:∀xs:R4 Tl,(∀x∈xs,okN x.nm)->okDs 59 (xs.map zr)=true:=by
  intro xs;induction xs with
  |nil=>intro _;rfl
  |cons x xs ih=>intro h;exact aY (H9 (h x Be) 55) (ih λy hy=>h y (Br _ hy))
 exact vc (this xs h)
def zd (a b:Str):iD (.str a) (.str b)=(a == b):=rfl
section
variable {O:Lo}{U:ac}{n:Nat}
noncomputable def we (o:AA au)(c f:Str)(U:ac):AA (R×ac):=match o with|some (.ob c' fs)=>if c'=c then (fs.lookup f).bind λd=>some (d,U) else none|_=>none
noncomputable def A8 (o:AA (R×ac))(c f:Str):AA (R×ac):=o.bind λo=>match o.1 with|.p n=>we o.2[n]? c f o.2|_=>none
theorem iN {c f:Str}{fo:FE}:db c f fo O U=A8 (fo O U) c f:=by
 unfold db A8;refine Av _ (funext λo=>?_);unfold qX
 cases o.1 with
 |p n=>
  dsimp only
  cases e:o.2[n]? with
  |none=>rfl
  |some c'=>
   cases c' with
   |ob c' fs=>
    show(if c'=c then some fs else none).bind _=if c'=c then _ else none
    split <;> rfl
   |_=>rfl
 |_=>rfl
def eS {c f:Str}:A8 (some (.p n,U)) c f=we U[n]? c f U:=rfl
abbrev AI (a b c:Nat):R4 (Str×R):=[("shape_list",.p a),("tellings",.p b),("tables_now",.p c)]
def PL:(("tellings" : Str) == "shape_list")=false:=by decide
def Sq:(("tables_now" : Str) == "shape_list")=false:=by decide
def So:(("tables_now" : Str) == "tellings")=false:=by decide
def Ps {a b c:Nat}:we (some (.ob "Book" (AI a b c))) "Book" "shape_list" U=some (.p a,U):=by simp[we,EK]
def Oy {a b c:Nat}:we (some (.ob "Book" (AI a b c))) "Book" "tellings" U=some (.p b,U):=by simp[we,EK,PL]
def Pr {a b c:Nat}:we (some (.ob "Book" (AI a b c))) "Book" "tables_now" U=some (.p c,U):=by simp[we,EK,Sq,So]
def iE {nm:Str}{w:MW}{fo:FE}{fa:FA}{rs:R4 R}{U1:ac}{a b c s:Nat}(ho:fo O U=some (.p s,U))(hs:U[s]?=some (.ob "Book" (AI a b c)))(h1:(nm == "shape_list")=false)(h2:(nm == "tellings")=false)(h3:(nm == "tables_now")=false)(ha:fa O U=some (rs,U1))(hl:rs.length+1=n):bv "Book" nm w n fo fa O U=w (.p s::rs) U1:=by simp[bv,ho,qX,hs,EK,h1,h2,h3,ha,hl]
noncomputable def Mq (o:AA (R4 R×ac))(f:MW)(n:Nat):AA (R×ac):=o.bind λa=>if a.1.length=n then f a.1 a.2 else none
def IL {f:MW}{fa:FA}:dH f n fa O U=Mq (fa O U) f n:=rfl
def AO {f:MW}{rs:R4 R}:Mq (some (rs,U)) f n=if rs.length=n then f rs U else none:=rfl
end
def kK {a b:FS}{O O1:Lo}{U U1:ac}(ha:a O U=some (.nx O1 U1)):aF a b O U=b O1 U1:=by rw[nA,ha,hZ]
def yW {Ag:R4 Sh}(g:GS Ag){s t:Sh}(hs:s∈Ag)(ht:t∈Ag)(e:s.nm=t.nm):s=t:=by let⟨i,hi,rfl⟩:=J0 hs;let⟨j,hj,rfl⟩:=J0 ht;have:i=j:=(IT (xs:=Ag.map (·.nm)) (h₀:=by simpa using hi) (h₁:=by simpa using hj) g.nd).mp ‹e›;subst this;rfl
def pC {Ag:R4 Sh}(g:GS Ag){s:Sh}(hs:s∈Ag):bR [.fl (Ag.map bx),.str s.nm]=some (bx s):=by
 rw[wy];have key:∀(l:R4 Sh) (x2:AA R),(∀t∈l,t∈Ag)->s∈l->fN (bU 2) eJ (l.map bx) [some (.v (.fl (Ag.map bx))),some (.v (.str s.nm)),x2] []=some (.rt (.v (bx s)) []):=by
  intro l;induction l with
  |nil=>intro _ _ h;cases h
  |cons t l ih=>
   intro x2 hl hm;have o1:=(g.ok t (hl t Be)).2.ok 60;have o2:=(g.ok s hs).2.ok 60;rw[BH,ee]
   cases c:(t.nm == s.nm) with
   |true=>
    have:=yW g (hl t Be) hs ‹c›;subst this;push_cast [eJ,o1,zd,c]
   |false=>
    have hm:s∈l:=(BV.mp hm).resolve_left λe=>(by rw[e] at c;simp at c);have e:eJ [some (.v (.fl (Ag.map bx))),some (.v (.str s.nm)),some (.v (bx t))] []=some (.nx [some (.v (.fl (Ag.map bx))),some (.v (.str s.nm)),some (.v (bx t))] []):=by push_cast [eJ,o1,o2,zd,c]
    rwa[DD,qq,FH,FF];rw[e,nS];exact ih _ (λt ht=>hl t (Br _ ht)) hm
 have k:=key Ag none (λ_ h=>h) hs;push_cast [lV];rw[k];push_cast [HW.Bn]
def uj (key:Th){k:Nat}(h:key.length=k):dM [.tup (key.map .int),.int (k:Int)]=some .non:=by
 rw[qM];have e:((key.length:Int) == (k:Int))=true:=by rw[h];exact beq_self_eq_true _
 push_cast [iF,BR,e,GB]
theorem tZ {lo hi:AA Int}(h:∀l r,lo=some l->hi=some r->l<r):cS [oD lo,oD hi]=some .non:=by
 rw[oq]
 cases lo with
 |none=>cases hi <;> rfl
 |some l=>
  cases hi with
  |none=>rfl
  |some r=>
   have:=h l r rfl rfl;have hz:decide (r<=l)=false:=CI ∅;push_cast [f6,oD,hz]
def Mt (x:Tl):bP [zr x]=some (.bl x.tl):=by
 rw[rE];let⟨b,s,lo,hi,nm⟩:=x;cases b
 ·push_cast [gD,C4,if_false,k5,k6,q6]
 ·push_cast [gD,if_true,k5,q5]
theorem JCz {sc:Int}{Ag:R4 Sh}(g:GS Ag){x:Tl}(h:GT sc Ag x):bA [.fl (Ag.map bx),zr x]=some .non:=by
 rw[on];let⟨s,hs,hn,hl⟩:=h.sh;have se:=pC g hs;rw[hn] at se;have ix4:∀U:ac,bz (.v (zr x)) (.v (.int 4)) U=some (.v (oD x.hi),U):=λU=>rfl;have ix3:∀U:ac,bz (.v (zr x)) (.v (.int 3)) U=some (.v (oD x.lo),U):=λU=>rfl;have ix2:∀U:ac,bz (.v (zr x)) (.v (.int 2)) U=some (.v (.tup (x.said.map .int)),U):=λU=>rfl;have ix1:∀U:ac,bz (.v (zr x)) (.v (.int 1)) U=some (.v (.str x.nm),U):=λU=>rfl;have te:=Mt x;have ch:=tZ h.ok;have fl:dq (bx s)=true:=rfl
 cases ht:x.tl with
 |true=>
  rw[ht] at te hl;have w:=uj x.said hl;rw[Ae rfl] at w;push_cast [dU,ix1,ix2,ix3,ix4,se,fl,te,w,ch]
 |false=>
  rw[ht] at te hl;have w:=uj x.said hl;rw[Ac ∅] at w;push_cast [dU,ix1,ix2,ix3,ix4,se,fl,te,w,ch]
open L2
structure Bk (U:ac)(s a b c:Nat)(Ag:List Sh)(xs:List Tl)(kv:List (aE×D)):Prop where
 ob:U[s]?=some (.ob "Book" (AI a b c))
 sl:U[a]?=some (.lst (Ag.map bx))
 tl:U[b]?=some (.lst (xs.map bq))
 tb:U[c]?=some (.dct kv)
 ab:a≠b
section
variable {U:ac}{s a b c:Nat}{Ag:R4 Sh}{xs:R4 Tl}{kv:R4 (aE×D)}
def Bk.app (h:Bk U s a b c Ag xs kv)(cs:R4 au):Bk (U++cs) s a b c Ag xs kv:=by
 have f:∀{i:Nat} {x:au},U[i]?=some x->(U++cs)[i]?=some x:=λ{i x} e=>by rw[Bu (bO e)];exact e
 exact{f h.ob,f h.sl,f h.tl,f h.tb,h.ab}
def ww (x:Tl):cu (bq x)=zr x:=by
 have o:∀o:AA Int,cu (oD o)=oD o:=λo=>by cases o <;> rwa[oD,cu]
 rwa[bq,zr,dD,cu,unkDs,o]
theorem xT:∀xs:R4 Tl,unkDs (xs.map bq)=xs.map zr
 |[]=>by rwa[Dj,unkDs]
 |x::xs=>by rw[BH,unkDs,ww,xT xs];rfl
def JFo (s:Sh):cu (bx s)=bx s:=by rwa[bx,cu,unkDs]
theorem sG:∀l:R4 Sh,unkDs (l.map bx)=l.map bx
 |[]=>by rwa[Dj,unkDs]
 |s::l=>by rw[BH,unkDs,JFo,sG l]
end
noncomputable def LR (n:Nat):Th:=(List.range (n+1)).map λi:Nat=>(i:Int)
def JFd (n:Nat):(LR n).length=n+1:=by simp[LR]
def oY {n:Nat}{q:Int}:q∈LR n ↔ 0<=q/\q<=n:=by unfold LR;rw[Ca];exact{λh=>by let⟨i,hi,rfl⟩:=h;have:=zbQ.mp hi;omega,λh=>{q.toNat,zbQ.mpr ∅,by omega}}
def BP.mono {ES TS ES' TS':Th}{p:Pl}(h:BP ES TS p)(h1:∀e∈ES,e∈ES')(h2:∀e∈TS,e∈TS'):BP ES' TS' p:={h.pf,λe he=>h1 e (h.ge e he),λq hq e he=>h1 e (h.re q hq e he),λq hq=>h2 _ (h.te q hq)}
structure mM (sc:Int)(sh:Sh)(xs:List Tl)(T:List En):Prop where
 bp:∀e∈T,BP (EL sc) (LR xs.length) e.2
 rw:∀e∈T,e.1.length=sh.w
 up:GN (T.map (·.1))
 ln:T.length<=xs.length
 ps:∀e∈T,e.2.1=NO/\∀q∈e.2.2,0<q.1
 ne:∀e∈T,e.2≠AK
def mM.more {sc:Int}{sh:Sh}{xs:R4 Tl}{T:R4 En}(h:mM sc sh xs T){x:Tl}(hx:x.nm≠sh.nm):mM sc sh (xs++[x]) T :=
 {λe he=>(h.bp e he).mono (λz hz=>hz) (λz hz=>by rw[oY] at hz ⊢;rw[Ci];simp;omega),h.rw,h.up,by have:=h.ln;rw[Ci];simp;omega,h.ps,h.ne}
def JAn (bt:Ad){sc:Int}{sh:Sh}{xs:R4 Tl}{T:R4 En}(h:mM sc sh xs T)(hk:sh.ks<=sh.w){x:Tl}(hx:x.nm=sh.nm)(ho:x.Ok)(he:∀z∈(st x.lo x.hi).2,z∈EL sc)(hs:x.tl=true->x.said.length=sh.w)(hn:xs.length<=62) :
  ∃A:R4 En,eW bt [.fl (T.map bF),.int (sh.ks:Int),bq x,.int ((xs.length:Int)+1)]=some (.lst (A.map bF))/\mM sc sh (xs++[x]) A:=by
 let⟨A,hA,hu,hm⟩:=JD3 bt ho (keys:=sh.ks) (a:=(xs.length:Int)+1) h.bp (by rw[LG];omega) (by rw[JFd];omega) h.rw hs (CY h.up) (by have:=h.ln;omega)
 have te:∀e∈T,∀q∈e.2.2,q.1<(xs.length:Int)+1:=λe he q hq=>by
  have:=oY.mp ((h.bp e he).te q hq);omega
 have bp':∀e∈T,BP (EL sc) (LR (xs++[x]).length) e.2:=λe he=>(h.bp e he).mono (λz hz=>hz) (λz hz=>by rw[oY] at hz ⊢;rw[Ci];simp;omega);have bp:=JD4 ho bp' te hm he (oY.mpr (by rw[Ci];simp;omega))
 have EC:∀e∈A,e.1.length=sh.w/\e.1∈(df x T).map (·.1):=λe he=>by
  obtain⟨h1,-⟩:=(hm e).mp he;let⟨y,hy,rfl⟩:=Ca.mp h1;rw[p0];refine{?_,EZ hy};rcases qr.mp hy with h2|⟨h2,_,rfl⟩
  ·exact h.rw y h2
  ·exact hs h2
 have ps':∀e∈A,e.2.1=NO/\∀q∈e.2.2,0<q.1:=λe he=>by
  obtain⟨h1,-⟩:=(hm e).mp he;let⟨y,hy,rfl⟩:=Ca.mp h1
  have Fo:y.2.1=NO/\∀q∈y.2.2,0<q.1:=by
   rcases qr.mp hy with h2|⟨_,_,rfl⟩
   ·exact h.ps y h2
   ·exact{rfl,λ_ h=>nomatch h}
  unfold mw;split
  ·unfold LL
   dsimp only;split
   ·exact Fo
   ·refine{Fo.1,λq hq=>?_}
    rcases Dd.mp hq with z|z
    ·exact Fo.2 q z
    ·rw[CP.mp z];show(0:Int)<_;omega
  ·exact Fo
 refine{A,hA,{λe he=>(bp e he).1,λe he=>(EC e he).1,hu,?_,ps',λe he=>(bp e he).2}}
 have:=m7 (A.map (·.1)) ((df x T).map (·.1)) (CY hu) λz hz=>by let⟨e,he,rfl⟩:=Ca.mp hz;exact(EC e he).2
 rw[BR,BR] at this
 have el:(df x T).length<=T.length+1:=by
  unfold df;split
  ·simp
  ·omega
 have:=h.ln;rw[Ci];simp;omega
noncomputable def hX (Ag:R4 Sh)(Ts:Str->R4 En):R4 (aE×D):=Ag.map λs=>(.inr (some s.nm),.fl ((Ts s.nm).map bF))
theorem xS {Ag:R4 Sh}(Ts:Str->R4 En){s:Sh}(hs:s∈Ag):i7 ((hX Ag Ts).map λp=>(p.1,R.v p.2)) (.inr (some s.nm))=some (.v (.fl ((Ts s.nm).map bF))):=by
 unfold hX;induction Ag with
 |nil=>cases hs
 |cons t l ih=>
  unfold i7 at ih ⊢;rw[BH,BH];by_cases c:t.nm=s.nm
  ·rw[zbH (by simp[c]),c];rfl
  ·rw[zbI (by simp[c])];exact ih ((BV.mp hs).resolve_left λe=>c (by rw[e]))
def Kb {Ag:R4 Sh}(Ts:Str->R4 En){s:Sh}(hs:s∈Ag)(A:R4 En):hJ (hX Ag Ts) (.inr (some s.nm)) (.fl (A.map bF))=hX Ag λnm=>if nm=s.nm then A else Ts nm:=by
 have h1:((hX Ag Ts).any λkv=>decide (kv.1=.inr (some s.nm)))=true:=zcu.mpr {_,EZ hs,by simp};unfold hJ;rw[Ae h1];unfold hX;rw[E6];refine List.map_congr_left λt _=>?_;rwa[Function.comp];by_cases c:t.nm=s.nm
 ·rw[Ae (by rw[c]),Ae c]
 ·rw[Ac ‹c›,Ac c]
section
variable {U:ac}{s a b c:Nat}{Ag:R4 Sh}{xs:R4 Tl}{sc:Int}
def JDd (bt:Ad)(g:GS Ag){Ts:Str->R4 En}(h:Bk U s a b c Ag xs (hX Ag Ts)){x:Tl}(gx:GT sc Ag x)(hT:∀s∈Ag,mM sc s xs (Ts s.nm))(hn:xs.length<=62) :
  ∃(U':ac) (Ts':Str->R4 En),bM bt [.p s,.v (bq x)] U=some (.v (.int ((xs.length:Int)+1)),U')/\Bk U' s a b c Ag (xs++[x]) (hX Ag Ts')/\(∀s∈Ag,mM sc s (xs++[x]) (Ts' s.nm))/\∀i y,i≠b->i≠c->U[i]?=some y->U'[i]?=some y:=by
 let⟨sh,D6,FJ,hwd⟩:=gx.sh;let⟨A,hA,gA⟩:=JAn bt (hT sh D6) (g.ok sh D6).1.1 FJ.symm gx.ok gx.ed (λe=>by rw[hwd,Ae e]) hn
 have Ey:s≠b:=λe=>by have h1:=h.ob;rw[e,h.tl] at h1;cases h1
 have JU:s≠c:=λe=>by have h1:=h.ob;rw[e,h.tb] at h1;cases h1
 have hac:a≠c:=λe=>by have h1:=h.sl;rw[e,h.tb] at h1;cases h1
 have hbc:b≠c:=λe=>by have h1:=h.tl;rw[e,h.tb] at h1;cases h1
 have lb:=bO h.tl;have lc:=bO h.tb;obtain⟨ν,hν⟩:∃ν,ν=U.set b (.lst ((xs++[x]).map bq)):={_,rfl}
 have n1:ν[s]?=some (.ob "Book" (AI a b c)):=by rw[hν,C7 (Ne.symm Ey)];exact h.ob
 have n2:ν[a]?=some (.lst (Ag.map bx)):=by rw[hν,C7 (Ne.symm h.ab)];exact h.sl
 have n3:ν[b]?=some (.lst ((xs++[x]).map bq)):=by rw[hν,E9 lb]
 have n4:ν[c]?=some (.dct (hX Ag Ts)):=by rw[hν,C7 hbc];exact h.tb
 have len:ν.length=U.length:=by rw[hν];simp
 refine{(ν++[au.fz (A.map bF)]).set c (.dct (hX Ag λnm=>if nm=sh.nm then A else Ts nm)),λnm=>if nm=sh.nm then A else Ts nm,?_,?_,?_,?_}
 ·rw[uv]
  have ix1:∀U:ac,bz (.v (bq x)) (.v (.int 1)) U=some (.v (.str x.nm),U):=λU=>rfl
  have ck:uk bA [.fl (Ag.map bx),bq x]=some .non:=by
   have e:unkDs [.fl (Ag.map bx),bq x]=[.fl (Ag.map bx),zr x]:=by
    rw[unkDs,unkDs,ww];rwa[unkDs,cu,sG]
   exact(Av bA e).trans (JCz g gx)
  have se:=pC g D6;rw[FJ] at se;have fl:dq (bx sh)=true:=rfl;have fln:dq .non=true:=rfl
  have e1:bK (gU (uk bA) 2 (af (db "Book" "shape_list" (ae 0)) (af (ae 1) ai))) [bf s,some (.v (bq x)),none,none,none] U=some (.nx [bf s,some (.v (bq x)),none,none,none] U):=by
   push_cast [iN,eS,h.ob,Ps,h.sl,ck,fln]
  have e2:aR 2 (aw bz (ae 1) (fK (.int 1))) [bf s,some (.v (bq x)),none,none,none] U=some (.nx [bf s,some (.v (bq x)),some (.v (.str x.nm)),none,none] U):=by
   push_cast [ix1]
  have e3:aR 3 (aw bz (gU bR 2 (af (db "Book" "shape_list" (ae 0)) (af (ae 2) ai))) (fK (.int 1))) [bf s,some (.v (bq x)),some (.v (.str x.nm)),none,none] U=some (.nx [bf s,some (.v (bq x)),some (.v (.str x.nm)),dL ((sh.ks:Int)),none] U):=by
   push_cast [iN,eS,h.ob,Ps,h.sl,se,fl]
  have zl:(xs.map bq).length<sizeLine:=iq (by rw[BR];omega)
  have e4:bK (nY iK (db "Book" "tellings" (ae 0)) (af (ae 1) ai)) [bf s,some (.v (bq x)),some (.v (.str x.nm)),dL ((sh.ks:Int)),none] U=some (.nx [bf s,some (.v (bq x)),some (.v (.str x.nm)),dL ((sh.ks:Int)),none] ν):=by
   rw[hν,DK];push_cast [iN,eS,h.ob,Oy,h.tl,zl]
  have ln1:(((xs++[x]).map bq).length:Int)=(xs.length:Int)+1:=by simp
  have e5:aR 4 (dR fW (af (db "Book" "tellings" (ae 0)) ai)) [bf s,some (.v (bq x)),some (.v (.str x.nm)),dL ((sh.ks:Int)),none] ν=some (.nx [bf s,some (.v (bq x)),some (.v (.str x.nm)),dL ((sh.ks:Int)),dL (((xs.length:Int)+1))] ν):=by
   push_cast [iN,eS,n1,Oy,n3,ln1]
  have vr:=xS Ts D6;rw[FJ] at vr
  have kv1:qY (.p c) ν=some ((hX Ag Ts).map λp=>(p.1,R.v p.2)):=by rw[II,n4];rfl
  have kf:ly (.v (.str x.nm))=some (.inr (some x.nm)):=rfl
  have fx:kq (db "Book" "tables_now" (ae 0)) (ae 2) [bf s,some (.v (bq x)),some (.v (.str x.nm)),dL ((sh.ks:Int)),dL (((xs.length:Int)+1))] ν=some (.v (.fl ((Ts sh.nm).map bF)),ν):=by
   have:db "Book" "tables_now" (ae 0) [bf s,some (.v (bq x)),some (.v (.str x.nm)),dL ((sh.ks:Int)),dL (((xs.length:Int)+1))] ν=some (.p c,ν):=by push_cast [iN,eS,n1,Pr]
   rw[IJ,this,AN]
   show xY (.p c) (some (.v (.str x.nm),ν))=_
   rw[AM,kv1]
   show(i7 _ (.inr (some x.nm))).bind _=_
   rw[vr,FJ];rfl
  have flA:=qk A
  have cA:(ν++[au.fz (A.map bF)])[s]?=some (.ob "Book" (AI a b c)):=by rw[Bu (bO n1)];exact n1
  have cB:(ν++[au.fz (A.map bF)])[c]?=some (.dct (hX Ag Ts)):=by rw[Bu (bO n4)];exact n4
  have zk:(hX Ag Ts).length<sizeLine:=iq (by unfold hX;rw[BR];have:=g.le;omega);have pk:=Kb Ts D6 A;rw[FJ] at pk;have JN:(ν++[au.lst (A.map bF)]).set ν.length (.fz (A.map bF))=ν++[au.fz (A.map bF)]:=iT;rw[FJ] at fx
  have e6:zE (c7 (lQ (eW bt) 4 (af (kq (db "Book" "tables_now" (ae 0)) (ae 2)) (af (ae 3) (af (ae 1) (af (ae 4) ai)))))) (tO (db "Book" "tables_now" (ae 0)) (ae 2)) [bf s,some (.v (bq x)),some (.v (.str x.nm)),dL ((sh.ks:Int)),dL (((xs.length:Int)+1))] ν=some (.nx [bf s,some (.v (bq x)),some (.v (.str x.nm)),dL ((sh.ks:Int)),dL (((xs.length:Int)+1))] ((ν++[au.fz (A.map bF)]).set c (.dct (hX Ag λnm=>if nm=sh.nm then A else Ts nm)))):=by
   rw[FJ] at hA;push_cast [fx,hA,flA,nV,JN,iN,eS,cA,Pr,cB,zk,kf,pk,FJ]
  rw[kH,kK e1,kK e2,kK e3,kK e4,kK e5,kK e6];rfl
 ·have lcν:c<(ν++[au.fz (A.map bF)]).length:=by rw[Ci,len];omega
  have f:∀{i:Nat} {y:au},i≠c->ν[i]?=some y->((ν++[au.fz (A.map bF)]).set c (.dct (hX Ag λnm=>if nm=sh.nm then A else Ts nm)))[i]?=some y:=λ{i y} hi e=>by
   rw[C7 (Ne.symm hi),Bu (bO e)];exact e
  exact{f JU n1,f hac n2,f hbc n3,E9 lcν,h.ab}
 ·intro t ht
  dsimp only
  by_cases e:t.nm=sh.nm
  ·rw[Ae e,yW g ht D6 e];exact gA
  ·rw[Ac e];exact(hT t ht).more λz=>e (z ▸ FJ ▸ rfl)
 ·intro i y hb hc e
  have:ν[i]?=some y:=by rw[hν,C7 (Ne.symm hb)];exact e
  rw[C7 (Ne.symm hc),Bu (bO this)];exact this
end
def JFk (ns:Th)(k:Nat):∃c,cL [.fl (ns.map .int),.int (k:Int)]=some (.int c):=by
 rw[wA];by_cases h:k<ns.length
 ·have c0:decide ((k:Int)<(ns.length:Int))=true:=D2 ∅;have c1:L2.iJ (ns.map D.int) (k:Int)=some (.int ns[k]):=lY (C0 h);exact{ns[k],by push_cast [jy,BR,c0,c1]}
 ·have c0:decide ((k:Int)<(ns.length:Int))=false:=CI ∅;exact{0,by push_cast [jy,BR,c0]}
theorem u6:∀l:R4 Sh,m5 (l.map λs=>.tup [.str s.nm,.fl []])=some (l.map λs=>(.inr (some s.nm),.fl []))
 |[]=>rfl
 |s::l=>by rw[BH,m5,u6 l];rfl
theorem yw:∀(l:R4 Sh) (k0:R4 (aE×D)),(k0.map (·.1)++l.map λs=>(.inr (some s.nm):aE)).Nodup->aQ k0 (l.map λs=>((.inr (some s.nm):aE),D.fl []))=k0++l.map λs=>(.inr (some s.nm),D.fl [])
 |[],k0,_=>by simp[aQ]
 |s::l,k0,nd=>by
  have hn:¬ (k0.any λp=>decide (p.1=.inr (some s.nm)))=true:=λz=>by let⟨p,hp,h⟩:=zcu.mp z;have h:p.1=.inr (some s.nm):=‹h›;exact(F3.mp nd).2.2 p.1 (EZ hp) _ ∅ h
  show aQ (hJ k0 (.inr (some s.nm)) (.fl [])) (l.map _)=_
  unfold hJ;rw[Ac hn,yw l _ ‹nd›];simp
section
variable {U U':ac}{s a b c:Nat}{r:D}
theorem JCn (bt:Ad){x:Tl}(hs:U[s]?=some (.ob "Book" (AI a b c)))(h:bM bt [.p s,.v (bq x)] U=some (.v r,U')):cF bt [.p s,.v (bq x)] U=some (.v r,U'):=by
 rw[uq];let⟨tl,said,lo,hi,nm⟩:=x;have sz5:5<=sizeLine:=by decide
 have ix4:∀U:ac,bz (.v (bq ⟨tl,said,lo,hi,nm⟩)) (.v (.int 4)) U=some (.v (oD hi),U):=λU=>rfl;have ix3:∀U:ac,bz (.v (bq ⟨tl,said,lo,hi,nm⟩)) (.v (.int 3)) U=some (.v (oD lo),U):=λU=>rfl;have ix2:∀U:ac,bz (.v (bq ⟨tl,said,lo,hi,nm⟩)) (.v (.int 2)) U=some (.v (dD ⟨tl,said,lo,hi,nm⟩),U):=λU=>rfl;have ix1:∀U:ac,bz (.v (bq ⟨tl,said,lo,hi,nm⟩)) (.v (.int 1)) U=some (.v (.str nm),U):=λU=>rfl;have fa:(af (aw bz (ae 1) (fK (.int 1))) (af (aw bz (ae 1) (fK (.int 2))) (af (aw bz (ae 1) (fK (.int 3))) (af (aw bz (ae 1) (fK (.int 4))) ai)))) [bf s,some (.v (bq ⟨tl,said,lo,hi,nm⟩))] U=some ([.v (.str nm),.v (dD ⟨tl,said,lo,hi,nm⟩),.v (oD lo),.v (oD hi)],U):=by push_cast [ix1,ix2,ix3,ix4]
 cases tl with
 |true=>
  have m1:=iE (nm:="tell") (w:=d6 bt) (n:=5) (fo:=ae 0) (O:=[bf s,some (.v (bq {true,said,lo,hi,nm}))]) (s:=s) rfl hs ∅ ∅ ∅ fa rfl;have m2:=iE (nm:="take") (w:=bM bt) (n:=2) (fo:=ae 0) (fa:=af (bZ (af (fK (.str "tell")) (af (ae 1) (af (ae 2) (af (ae 3) (af (ae 4) ai)))))) ai) (O:=[bf s,some (.v (.str nm)),some (.v (dD {true,said,lo,hi,nm})),some (.v (oD lo)),some (.v (oD hi))]) (U:=U) (U1:=U) (s:=s) (rs:=[.v (bq {true,said,lo,hi,nm})]) rfl hs ∅ ∅ ∅ (by push_cast [sz5];rfl) rfl;have w1:d6 bt [.p s,.v (.str nm),.v (dD {true,said,lo,hi,nm}),.v (oD lo),.v (oD hi)] U=some (.v r,U'):=by rw[uu,kG,lS,m2,h];rfl
  have ix0:∀U:ac,bz (.v (bq {true,said,lo,hi,nm})) (.v (.int 0)) U=some (.v (.str "tell"),U):=λU=>rfl;rw[ij];push_cast [ix0,k5,q5];rw[m1,w1];rfl
 |false=>
  have m1:=iE (nm:="strike") (w:=cW bt) (n:=5) (fo:=ae 0) (O:=[bf s,some (.v (bq {false,said,lo,hi,nm}))]) (s:=s) rfl hs ∅ ∅ ∅ fa rfl;have m2:=iE (nm:="take") (w:=bM bt) (n:=2) (fo:=ae 0) (fa:=af (bZ (af (fK (.str "strike")) (af (ae 1) (af (ae 2) (af (ae 3) (af (ae 4) ai)))))) ai) (O:=[bf s,some (.v (.str nm)),some (.v (dD {false,said,lo,hi,nm})),some (.v (oD lo)),some (.v (oD hi))]) (U:=U) (U1:=U) (s:=s) (rs:=[.v (bq {false,said,lo,hi,nm})]) rfl hs ∅ ∅ ∅ (by push_cast [sz5];rfl) rfl;have w1:cW bt [.p s,.v (.str nm),.v (dD {false,said,lo,hi,nm}),.v (oD lo),.v (oD hi)] U=some (.v r,U'):=by rw[qO,iH,lS,m2,h];rfl
  have ix0:∀U:ac,bz (.v (bq {false,said,lo,hi,nm})) (.v (.int 0)) U=some (.v (.str "strike"),U):=λU=>rfl;rw[ij];push_cast [ix0,k5,k6,q6];rw[m1,w1];rfl
end
section
variable {U:ac}{s a b c:Nat}{Ag:R4 Sh}{xs:R4 Tl}{sh:Sh}
def mT (g:GS Ag)(hs:sh∈Ag){Ts:Str->R4 En}(h:Bk U s a b c Ag xs (hX Ag Ts)):aI [.p s,.v (.str sh.nm)] U=some (.p U.length,U++[.lst ((Ts sh.nm).map bF)]):=by
 rw[sL];have se:=pC g hs;have fl:dq (bx sh)=true:=rfl;have vr:=xS Ts hs;have kv1:qY (.p c) U=some ((hX Ag Ts).map λp=>(p.1,R.v p.2)):=by rw[II,h.tb];rfl
 have fx:kq (db "Book" "tables_now" (ae 0)) (ae 1) [bf s,some (.v (.str sh.nm))] U=some (.v (.fl ((Ts sh.nm).map bF)),U):=by
  have:db "Book" "tables_now" (ae 0) [bf s,some (.v (.str sh.nm))] U=some (.p c,U):=by push_cast [iN,eS,h.ob,Pr]
  rw[IJ,this,AN]
  show xY (.p c) (some (.v (.str sh.nm),U))=_
  rw[AM,kv1]
  show(i7 _ (.inr (some sh.nm))).bind _=_
  rw[vr];rfl
 have e1:bK (gU bR 2 (af (db "Book" "shape_list" (ae 0)) (af (ae 1) ai))) [bf s,some (.v (.str sh.nm))] U=some (.nx [bf s,some (.v (.str sh.nm))] U):=by push_cast [iN,eS,h.ob,Ps,h.sl,se,fl]
 rw[jA,kK e1];push_cast [lS,sm,bS,fx,ca,iC,du,nD];rfl
end
def Kp (U U':ac):Prop:=∀(i:Nat) (y:au),U[i]?=some y->U'[i]?=some y
def Kp.rfl' {U:ac}:Kp U U:=λ_ _ e=>e
def Kp.trans {U ν κ:ac}(h:Kp U ν)(h':Kp ν κ):Kp U κ:=λi y e=>h' i y (h i y e)
def bI (U:ac)(cs:R4 au):Kp U (U++cs):=λi y e=>by rw[Bu (bO e)];exact e
def xj {U ν:ac}(h:Kp U ν){n:Nat}(hn:U.length<=n)(y:au):Kp U (ν.set n y):=λi z e=>by rw[C7 (by have:=bO e;omega)];exact h i z e
def Kp.len {U ν:ac}(h:Kp U ν):U.length<=ν.length:=by refine Nat.le_of_not_lt λz=>?_;have:=bO (h ν.length _ (C0 z));omega
noncomputable def qQ (Ag:R4 Sh)(Ts:Str->R4 En):R4 au:=Ag.map λsh=>.lst ((Ts sh.nm).map bF)
noncomputable def lM:Nat->R4 Sh->R4 (Str×Nat)
 |_,[]=>[]
 |b,s::l=>(s.nm,b)::lM (b+1) l
theorem C5:∀(b:Nat) (l:R4 Sh),(lM b l).map (·.1)=l.map (·.nm)
 |_,[]=>rfl
 |b,s::l=>by rw[lM,BH,BH,C5 (b+1) l]
theorem yN:∀(l:R4 Sh) (b i:Nat) (sh:Sh),(l.map (·.nm)).Nodup->l[i]?=some sh->i7 (eQ (lM b l)) (.inr (some sh.nm))=some (.p (b+i))
 |[],_,_,_,_,e=>by cases e
 |s::l,b,0,sh,_,e=>by cases e;unfold i7 eQ lM;rw[BH,zbH ∅];rfl
 |s::l,b,i+1,sh,nd,e=>by
  have e':l[i]?=some sh:=by simpa using e
  have C1:s.nm≠sh.nm:=λz=>(Cf.mp nd).1 (by show s.nm∈_;rw[z];exact EZ (Cp e'));have ih:=yN l (b+1) i sh (Cf.mp nd).2 e';unfold i7 eQ at ih ⊢;rw[lM,BH,zbI ‹C1›,ih];congr 2;omega
theorem v8 {Ts:Str->R4 En}:∀(l:R4 Sh) (x0 x1:AA R) (ν:ac),(∀sh∈l,(Ts sh.nm).length<100)->kC (vN 2 (bm (bU 0) (bm (bU 1) f9))) (ae 0) (dR fO (af (ae 1) ai)) (l.map λsh=>.tup [.str sh.nm,.fl ((Ts sh.nm).map bF)]) [x0,x1] ν=some (lM ν.length l,ν++qQ l Ts)
 |[],_,_,ν,_=>by simp[kC,lM,qQ]
 |sh::l,x0,x1,ν,hn=>by
  have z1:((Ts sh.nm).map bF).length<=sizeLine:=bY (by rw[BR];have:=hn sh Be;omega);have hg:vN 2 (bm (bU 0) (bm (bU 1) f9)) (.v (.tup [.str sh.nm,.fl ((Ts sh.nm).map bF)])) [x0,x1] ν=some ([some (.v (.str sh.nm)),some (.v (.fl ((Ts sh.nm).map bF)))],ν):=rfl;have h2:dR fO (af (ae 1) ai) [some (.v (.str sh.nm)),some (.v (.fl ((Ts sh.nm).map bF)))] ν=some (.p ν.length,ν++[.lst ((Ts sh.nm).map bF)]):=by push_cast [z1]
  have ih:=v8 (Ts:=Ts) l (some (.v (.str sh.nm))) (some (.v (.fl ((Ts sh.nm).map bF)))) (ν++[.lst ((Ts sh.nm).map bF)]) λs hs=>hn s (Br _ hs);rw[BH,kC,hg,BY];have h0:ae 0 [some (.v (.str sh.nm)),some (.v (.fl ((Ts sh.nm).map bF)))] ν=some (.v (.str sh.nm),ν):=rfl;dsimp only;rw[h0,BY];dsimp only;rw[h2,BY];dsimp only;rw[ih,BY,lM];simp[qQ]
section
variable {U ν:ac}{s a b c:Nat}{Ag:R4 Sh}{xs:R4 Tl}{sh:Sh}{kv:R4 (aE×D)}
def Bk.kp (h:Bk U s a b c Ag xs kv)(k:Kp U ν):Bk ν s a b c Ag xs kv:={k _ _ h.ob,k _ _ h.sl,k _ _ h.tl,k _ _ h.tb,h.ab}
def rG (g:GS Ag){Ts:Str->R4 En}(h:Bk U s a b c Ag xs (hX Ag Ts))(hn:∀sh∈Ag,(Ts sh.nm).length<100):aW [.p s] U=some (.p (U++qQ Ag Ts).length,U++qQ Ag Ts++[.dr (eQ (lM U.length Ag))]):=by
 rw[qN];have JU:s≠c:=λe=>by have h1:=h.ob;rw[e,h.tb] at h1;cases h1
 have lc:=bO h.tb;obtain⟨ν,hν⟩:∃ν,ν=U.set c (.hk (hX Ag Ts)):={_,rfl};have lν:ν.length=U.length:=by rw[hν];simp
 have n1:ν[s]?=some (.ob "Book" (AI a b c)):=by rw[hν,C7 (Ne.symm JU)];exact h.ob
 have n2:ν[c]?=some (.hk (hX Ag Ts)):=by rw[hν,E9 lc]
 have f0:∀{U:ac},U[s]?=some (.ob "Book" (AI a b c))->db "Book" "tables_now" (ae 0) [bf s] U=some (.p c,U):=λ{U} e=>by push_cast [iN,eS,e,Pr]
 have fi:ql (db "Book" "tables_now" (ae 0)) [bf s] ν=some (Ag.map λsh=>.tup [.str sh.nm,.fl ((Ts sh.nm).map bF)],ν):=by
  unfold ql;rw[f0 n1]
  show(match ν[c]? with|some (.hk Ab)=>_|_=>_)=_
  rw[n2]
  show some ((hX Ag Ts).map _,ν)=_
  unfold hX;rw[E6];rfl
 have hc:=v8 (Ts:=Ts) Ag none none ν hn;have z1:(Ag.map λsh=>D.tup [.str sh.nm,.fl ((Ts sh.nm).map bF)]).length<=1000:=by rw[BR];have:=g.le;omega
 have nd:((lM ν.length Ag).map (·.1)).Nodup:=by rw[C5];exact g.nd
 have bl:bT 2 [] [bf s]=[none,none]:=rfl;have fd:Lg [] 2 (ql (db "Book" "tables_now" (ae 0))) (vN 2 (bm (bU 0) (bm (bU 1) f9))) (ae 0) (dR fO (af (ae 1) ai)) [bf s] ν=some (.p (ν++qQ Ag Ts).length,ν++qQ Ag Ts++[.dr (eQ (lM ν.length Ag))]):=by unfold Lg;rw[fi,BY,Ae z1,bl,hc,BY,Ae nd]
 have hb:sk (db "Book" "tables_now" (ae 0)) (Lg [] 2 (ql (db "Book" "tables_now" (ae 0))) (vN 2 (bm (bU 0) (bm (bU 1) f9))) (ae 0) (dR fO (af (ae 1) ai))) [bf s] U=some (.p (U++qQ Ag Ts).length,U++qQ Ag Ts++[.dr (eQ (lM U.length Ag))]):=by
  unfold sk;simp only[f0 h.ob,h.tb,←hν,fd,BY];have g2:(ν++qQ Ag Ts++[au.dr (eQ (lM ν.length Ag))])[c]?=some (.hk (hX Ag Ts)):=by rw[Bx,Bu (bO n2)];exact n2
  rwa[g2];have e1:(ν++qQ Ag Ts++[au.dr (eQ (lM ν.length Ag))]).set c (.dct (hX Ag Ts))=U++qQ Ag Ts++[au.dr (eQ (lM ν.length Ag))]:=by
   have e2:ν.set c (.dct (hX Ag Ts))=U:=by
    rw[hν,List.set_set];refine List.ext_getElem? λi=>?_;by_cases z:i=c
    ·subst z;rw[E9 lc,h.tb]
    ·rw[C7 (Ne.symm z)]
   rw[Bx,List.set_append_left _ _ ∅,e2,Bx]
  rw[e1,lν];simp[lν]
 rw[iG,lS,hb];rfl
end
def tR {O:Lo}{U U1:ac}{s:Nat}{f:Str}{fv:FE}{v:R}{fs:R4 (Str×R)}(h:fv (some (.p s)::O) U=some (v,U1))(hs:U1[s]?=some (.ob "Book" fs))(hl:fs.length<1000):mn "Book" f (ae 0) fv (some (.p s)::O) U=some (.nx (some (.p s)::O) (U1.set s (.ob "Book" (uY f v fs)))):=by
 unfold mn;rw[h]
 show(qX "Book" U1 (.p s)).bind _=_
 have:qX "Book" U1 (.p s)=some fs:=by simp[qX,hs]
 rw[this,BY,Ae hl]
def wP (U:ac)(x y:au)(r:R4 au):(U++x::r).set U.length y=U++y::r:=by rw[List.set_append_right _ _ (BL _),Nat.sub_self];rfl
def tN (U:ac)(x:au)(r:R4 au):(U++x::r)[U.length]?=some x:=by rw[DH (BL _),Nat.sub_self];rfl
theorem qy (n:Nat)(xs:R4 D):∀(l:R4 Sh) (x0:AA R) (U:ac),U[n]?=some (.lst xs)->qB n xs (bU 0) (bZ (af (aw bz (ae 0) (fK (.int 0))) (af (c7 (bV ai)) ai))) (l.map bx) [x0] U=some (l.map λs=>.tup [.str s.nm,.fl []],U++List.replicate l.length (au.fz []))
 |[],x0,U,_=>by rwa[Dj,Fg,List.replicate_zero,DL];rfl
 |s::l,x0,U,hn=>by
  have h1:(bZ (af (aw bz (ae 0) (fK (.int 0))) (af (c7 (bV ai)) ai))) [some (.v (bx s))] U=some (.v (.tup [.str s.nm,.fl []]),U++[au.fz []]):=by have JN:(U++[au.lst []]).set U.length (.fz [])=U++[au.fz []]:=iT;push_cast [nV,JN]
  have Fu:(U++[au.fz []])[n]?=some (.lst xs):=by rw[Bu (bO hn)];exact hn
  have ih:=qy n xs l (some (.v (bx s))) (U++[au.fz []]) Fu;have hg:bU 0 (.v (bx s)) [x0] U=some ([some (.v (bx s))],U):=rfl;rw[BH,qB,hg,BY];dsimp only;rw[h1,BY];dsimp only;rw[Ae Fu,ih];simp[List.replicate_succ]
def JEe {Ag:R4 Sh}(g:GS Ag)(U:ac){n:Nat}(hn:U[n]?=some (.lst (Ag.map bx))):∃U' c,aT [.p U.length,.p n] (U++[.ob "Book" []])=some (.v .non,U')/\Bk U' U.length (U.length+1) (U.length+2) c Ag [] (hX Ag λ_=>[])/\U.length<=c/\∀(i:Nat) (y:au),U[i]?=some y->U'[i]?=some y:=by
 have z0:Ag.length<=sizeLine:=bY (by have:=g.le;omega);have zl:(Ag.map bx).length<=sizeLine:=by rw[BR];exact z0
 have hk:∀cs:R4 au,(U++cs)[n]?=some (.lst (Ag.map bx)):=λcs=>by rw[Bu (bO hn)];exact hn
 have e1:mn "Book" "shape_list" (ae 0) (dR fO (af (ae 1) ai)) [bf U.length,bf n] (U++[.ob "Book" []])=some (.nx [bf U.length,bf n] (U++[.ob "Book" [("shape_list",.p (U.length+1))],.lst (Ag.map bx)])):=by
  have h1:dR fO (af (ae 1) ai) [bf U.length,bf n] (U++[au.ob "Book" []])=some (.p (U.length+1),U++au.ob "Book" []::[.lst (Ag.map bx)]):=by have:(U++[au.ob "Book" []]).length=U.length+1:=∅;have hk:=hk [au.ob "Book" []];push_cast [hk,zl,this,Bx,zbG,EH]
  rw[tR h1 (tN ..) ∅,wP];rfl
 have e2:mn "Book" "tellings" (ae 0) (bV ai) [bf U.length,bf n] (U++[.ob "Book" [("shape_list",.p (U.length+1))],.lst (Ag.map bx)])=some (.nx [bf U.length,bf n] (U++[.ob "Book" [("shape_list",.p (U.length+1)),("tellings",.p (U.length+2))],.lst (Ag.map bx),.lst []])):=by
  have h1:bV ai [bf U.length,bf n] (U++[au.ob "Book" [("shape_list",.p (U.length+1))],.lst (Ag.map bx)])=some (.p (U.length+2),U++au.ob "Book" [("shape_list",.p (U.length+1))]::[.lst (Ag.map bx),.lst []]):=by have:(U++[au.ob "Book" [("shape_list",.p (U.length+1))],.lst (Ag.map bx)]).length=U.length+2:=∅;push_cast [this,Bx,zbG,EH]
  rw[tR h1 (tN ..) ∅,wP];rfl
 obtain⟨ν,hν⟩:∃ν:ac,ν=U++[.ob "Book" [("shape_list",.p (U.length+1)),("tellings",.p (U.length+2))],.lst (Ag.map bx),.lst []]:={_,rfl};have nn:ν[n]?=some (.lst (Ag.map bx)):=by rw[hν];exact hk _
 have cr:=qy n (Ag.map bx) Ag none ν nn;obtain⟨cs,Jn⟩:∃cs:R4 au,cs=List.replicate Ag.length (au.fz [])++[.lst (Ag.map λs=>.tup [.str s.nm,.fl []])]:={_,rfl};have nd:(([]:R4 (aE×D)).map (·.1)++Ag.map λs=>(.inr (some s.nm):aE)).Nodup:=by
  have:(Ag.map λs=>(.inr (some s.nm):aE))=(Ag.map (·.nm)).map λn=>.inr (some n):=by rw[E6];rfl
  rw[Dj,EH,this];exact List.Pairwise.map _ (λa b h e=>h ‹e›) g.nd
 have pu:=yw Ag [] nd;rw[EH] at pu;have dS:n5 [.p (ν++List.replicate Ag.length (au.fz [])).length] (ν++cs)=some (.p (ν++cs).length,ν++cs++[.dct (hX Ag λ_=>[])]):=by unfold n5;rw[Jn,←Bx];dsimp only;rw[CZ];dsimp only;rw[u6,BY,pu];rfl
 have ev:dR n5 (af (kz [] 1 (ae 1) (bU 0) (bZ (af (aw bz (ae 0) (fK (.int 0))) (af (c7 (bV ai)) ai)))) ai) [bf U.length,bf n] ν=some (.p (ν++cs).length,ν++cs++[.dct (hX Ag λ_=>[])]):=by
  have:kz [] 1 (ae 1) (bU 0) (bZ (af (aw bz (ae 0) (fK (.int 0))) (af (c7 (bV ai)) ai))) [bf U.length,bf n] ν=some (.p (ν++List.replicate Ag.length (au.fz [])).length,ν++cs):=by rw[Jn,←Bx];have bl:bT 1 [] [bf U.length,bf n]=[none]:=rfl;have v1:ae 1 [bf U.length,bf n] ν=some (.p n,ν):=rfl;unfold kz;rw[v1,BY];dsimp only;rw[nn];dsimp only;rw[Ae zl,bl,cr,BY]
  rw[sm,bS,this,ca,iC,du,nD,dS]
 obtain⟨c,hc⟩:∃c,c=(ν++cs).length:={_,rfl};rw[←hc] at ev;have ev':dR n5 (af (kz [] 1 (ae 1) (bU 0) (bZ (af (aw bz (ae 0) (fK (.int 0))) (af (c7 (bV ai)) ai)))) ai) [bf U.length,bf n] ν=some (.p c,U++au.ob "Book" [("shape_list",.p (U.length+1)),("tellings",.p (U.length+2))]::([.lst (Ag.map bx),.lst []]++cs++[.dct (hX Ag λ_=>[])])):=by rw[ev,hν];simp
 have e3:=tR (f:="tables_now") ev' (tN ..) ∅;rw[wP] at e3;refine{U++au.ob "Book" (AI (U.length+1) (U.length+2) c)::([.lst (Ag.map bx),.lst []]++cs++[.dct (hX Ag λ_=>[])]),c,?_,{tN ..,?_,?_,?_,by omega},by rw[hc,hν,Bx,Ci];omega,λi y e=>?_}
 rotate_left
 ·rw[DH ∅];simp
 ·rw[DH ∅,show U.length+2-U.length=2 by omega];rfl
 ·have:∀x:au,(U++x::([au.lst (Ag.map bx),.lst []]++cs)).length=c:=λx=>by rw[hc,hν];simp
  have h2:=this (au.ob "Book" (AI (U.length+1) (U.length+2) c));rw[←zbG,←Bx,DH ∅,h2,Nat.sub_self];rfl
 ·rw[Bu (bO e)];exact e
 ·rw[uw,kI,kK e1,kK e2,←hν,e3];rfl
mutual
theorem mI:∀d:D,iD d d=true
 |.non=>rfl
 |.bl b=>by simp[iD]
 |.int i=>by simp[iD]
 |.str x=>by simp[iD]
 |.tup xs=>eqDs_self xs
 |.fl xs=>eqDs_self xs
 |.fd _ _=>rfl
 |.key _=>rfl
theorem eqDs_self:∀l:R4 D,eqDs l l=true
 |[]=>rfl
 |x::xs=>by rw[cE,mI x,eqDs_self xs];rfl
end
def mH {d:D}(ok:cR 60 (cu d)=true)(neg:Ad)(U:ac):fS neg (.v d) (.v d) U=some (.v (.bl (!neg)),U):=by unfold fS;rw[show jO (.v d)=.v (cu d) from rfl];unfold kX;rw[show eA (.v (cu d)) (lg U)=some (cu d) from rfl,BY,BY,ok,mI];cases neg <;> rfl
def rS (T:R4 En):cR 60 (cu (.fl (T.map bF)))=true:=by
 have:∀T:R4 En,okDs 59 (unkDs (T.map bF))=true:=λT=>by
  induction T with
  |nil=>rfl
  |cons e T ih=>
   rw[BH,unkDs,okDs,ih];have h1:cu (bF e)=.tup [.tup (e.1.map .int),cu (jJ e.2)]:=(by rwa[bF,cu,unkDs]);have ui:∀l:Th,unkDs (l.map D.int)=l.map .int:=λl=>by
    induction l with
    |nil=>rfl
    |cons i l ih=>rw[BH,unkDs,ih];rfl
   have ur:∀r:Rc,cu (rD r)=rD r:=λr=>(by rwa[rD,cu,unkDs,ui]);have us:∀qs:R4 (Int×Rc),unkDs (qs.map sD)=qs.map sD:=λqs=>by
    induction qs with
    |nil=>rfl
    |cons q qs ih=>rwa[BH,unkDs,cu,ui,ih,sD,rD]
   have h2:cu (jJ e.2)=jJ e.2:=(by rwa[jJ,pD,cu,unkDs,ui,us,rD]);rw[h1,h2,zcs];exact gP (aY (gP (kP _)) (aY (CM (n:=53) _ _) jg))
 exact vc (n:=59) (this T)
def fm {U:ac}{n:Nat}{l:R4 D}(h:U[n]?=some (.lst l)):eA (jO (.p n)) (lg U)=some (.fl (unkDs l)):=by
 have:(lg U)[n]?=some (.lst (unkDs l)):=by rw[lg,By,h];rfl
 show(match (lg U)[n]? with|some (.lst xs)=>some (D.fl xs)|some (.fz xs)=>some (.fl xs)|_=>none)=_
 rw[this]
def qt {U:ac}{x y:R}{d:D}(hx:eA (jO x) (lg U)=some d)(hy:eA (jO y) (lg U)=some d)(ok:cR 60 d=true)(neg:Ad):fS neg x y U=some (.v (.bl (!neg)),U):=by unfold fS kX;rw[hx,hy,BY,BY,ok,mI];cases neg <;> rfl
def lN {T t:String}{x:R}{U:ac}(h:IR x U=some t):eu T x U=some (.v (.bl (t == T || (t == "bool" && T == "int"))),U):=by unfold eu;rw[h];rfl
def AW {U:ac}{n:Nat}{l:R4 D}(h:U[n]?=some (.lst l)):IR (.p n) U=some "list":=by
 delta IR;dsimp only;rw[h]
def L1 {U:ac}{n:Nat}{l:R4 (aE×R)}(h:U[n]?=some (.dr l)):IR (.p n) U=some "dict":=by
 delta IR;dsimp only;rw[h]
def NS:("list" == "list" || ("list" == "bool" && "list" == "int"))=true:=by decide
def P8:("dict" == "dict" || ("dict" == "bool" && "dict" == "int"))=true:=by decide
def P6:("tuple" == "tuple" || ("tuple" == "bool" && "tuple" == "int"))=true:=by decide
def P7:("int" == "int" || ("int" == "bool" && "int" == "int"))=true:=by decide
def NT:("int" == "bool" || ("int" == "bool" && "bool" == "int"))=false:=by decide
def CL {xs:R4 Tl}(h:∀x∈xs,okN x.nm):cR 60 (.fl (unkDs (xs.map bq)))=true:=by rw[xT];exact KC h
def KE {Ag:R4 Sh}(g:GS Ag):cR 60 (.fl (unkDs (Ag.map bx)))=true:=by
 rw[sG];have:∀l:R4 Sh,(∀s∈l,okN s.nm)->okDs 59 (l.map bx)=true:=λl=>by
  induction l with
  |nil=>intro _;rfl
  |cons s l ih=>
   intro h;refine aY (gP (aY ((h s Be).ok _) (aY ?_ (aY ?_ jg)))) (ih λt ht=>h t (Br _ ht)) <;> rfl
 exact vc (n:=59) (this Ag λs hs=>(g.ok s hs).2)
def KG {Ag:R4 Sh}(g:GS Ag):cR 60 (.fl (unkDs (Ag.map λs=>D.str s.nm)))=true:=by
 have:∀l:R4 Sh,(∀s∈l,okN s.nm)->okDs 59 (unkDs (l.map λs=>D.str s.nm))=true:=λl=>by
  induction l with
  |nil=>intro _;rfl
  |cons s l ih=>
   intro h;rw[BH,unkDs];exact aY ((h s Be).ok _) (ih λt ht=>h t (Br _ ht))
 exact vc (n:=59) (this Ag λs hs=>(g.ok s hs).2)
section
variable {U:ac}{s a b c:Nat}{Ag:R4 Sh}{xs:R4 Tl}{kv:R4 (aE×D)}
def KJ (h:Bk U s a b c Ag xs kv):dW [.p s] U=some (.v (.int (xs.length:Int)),U):=by rw[wB,lX];push_cast [iN,eS,h.ob,Oy,h.tl,BR];rfl
def xV (h:Bk U s a b c Ag xs kv)(hn:xs.length<=62):bX [.p s] U=some (.p U.length,U++[.lst (xs.map bq)]):=by have z:(xs.map bq).length<=sizeLine:=bY (by rw[BR];omega);rw[ut,kF];push_cast [iN,eS,h.ob,Oy,h.tl,z];rfl
def rM (g:GS Ag)(h:Bk U s a b c Ag xs kv):ba [.p s] U=some (.p U.length,U++[.lst (Ag.map bx)]):=by have z:(Ag.map bx).length<=sizeLine:=bY (by rw[BR];have:=g.le;omega);rw[qP,iI];push_cast [iN,eS,h.ob,Ps,h.sl,z];rfl
def wI (h:Bk U s a b c Ag xs kv){k:Nat}{x:Tl}(e:xs[k]?=some x):bQ [.p s,.v (.int ((k:Int)+1))] U=some (.v (bq x),U):=by
 have a1:L2.iJ (xs.map bq) ((k:Int)+1-1)=some (bq x):=by rw[Int.add_sub_cancel];exact lY e
 have l1:=(CA.mp e).1;have c1:decide ((k:Int)+1<1)=false:=CI ∅;have c2:decide ((xs.length:Int)<(k:Int)+1)=false:=CI ∅;rw[pi,gX];push_cast [iN,eS,h.ob,Oy,h.tl,BR,a1,c1,c2];rfl
end
end LW
namespace LW
open HW L2
abbrev rr (Ag:R4 Sh)(s te:Nat)(x3 x4 x5 x6 x7:AA R):Lo:=[bf s,some (.v (.fl (Ag.map bx))),bf te,x3,x4,x5,x6,x7]
section
variable {U:ac}{s a b c te to:Nat}{Ag:R4 Sh}{xs:R4 Tl}{Ts:Str->R4 En}
def m0 {nm:Str}{w:MW}{O:Lo}{j:Nat}{kv:R4 (aE×D)}(h:Bk U s a b c Ag xs kv)(hj:ae j O U=some (.p s,U))(h1:(nm == "shape_list")=false)(h2:(nm == "tellings")=false)(h3:(nm == "tables_now")=false):bv "Book" nm w 1 (ae j) ai O U=w [.p s] U :=
 iE (fo:=ae j) (fa:=ai) (rs:=[]) hj h.ob h1 h2 h3 rfl rfl
def JG2 (h:Bk U s a b c Ag xs (hX Ag Ts))(gn:∀x∈xs,okN x.nm)(ht:U[te]?=some (.lst (xs.map bq)))(ho:U[to]?=some (.lst (xs.map bq))){k:Nat}(hk:k<xs.length)(x3 x6 x7:AA R) :
  dO (rr Ag s te x3 (some (.p to)) (some (.v (.int (k:Int)))) x6 x7) U=some (.nx (rr Ag s te x3 (some (.p to)) (some (.v (.int (k:Int)))) x6 x7) U):=by
 obtain⟨x,hx⟩:∃x,xs[k]?=some x:={_,C0 hk};have a1:L2.iJ (xs.map bq) (k:Int)=some (bq x):=lY hx;have m1:=iE (nm:="telling") (w:=bQ) (n:=2) (fo:=ae 0) (fa:=af (aw dQ (ae 5) (fK (.int 1))) ai) (O:=rr Ag s te x3 (some (.p to)) (some (.v (.int (k:Int)))) x6 x7) (U:=U) (s:=s) (rs:=[.v (.int ((k:Int)+1))]) (U1:=U) rfl h.ob ∅ ∅ ∅ rfl rfl;rw[wI h hx] at m1;have ek:fS true (.v (bq x)) (.v (bq x)) U=some (.v (.bl false),U):=mH (d:=bq x) (by rw[ww];exact H9 (gn x (Cp hx)) 56) true U
 have i1:aw bz (ae 2) (ae 5) (rr Ag s te x3 (some (.p to)) (some (.v (.int (k:Int)))) x6 x7) U=some (.v (bq x),U):=by push_cast [ht,a1]
 have i2:aw bz (ae 4) (ae 5) (rr Ag s te x3 (some (.p to)) (some (.v (.int (k:Int)))) x6 x7) U=some (.v (bq x),U):=by push_cast [ho,a1]
 have ty:eu "tuple" (.v (bq x)) U=some (.v (.bl true),U):=(lN (t:="tuple") rfl).trans (by rw[P6])
 have t1:fB (aw (fS true) (bv "Book" "telling" bQ 2 (ae 0) (af (aw dQ (ae 5) (fK (.int 1))) ai)) (aw bz (ae 2) (ae 5))) (rr Ag s te x3 (some (.p to)) (some (.v (.int (k:Int)))) x6 x7) U=some (false,U):=by
  rw[tT,gW,m1,d3,i1,dZ,ek];rfl
 have t2:d8 (dG (jM (eu "tuple") (aw bz (ae 4) (ae 5)))) (rr Ag s te x3 (some (.p to)) (some (.v (.int (k:Int)))) x6 x7) U=some (false,U):=by
  rw[oV,tS,Iv,i2,Dw,ty];rfl
 rw[dO,fZ,lR,t1,jq];rwa[C4,if_false];rw[t2];rfl
def DQ {q:Nat}{Ab:R4 (aE×R)}{nm:Str}{r:R}{O:Lo}{fo fk:FE}(h1:fo O U=some (.p q,U))(h2:fk O U=some (.v (.str nm),U))(hq:U[q]?=some (.dr Ab))(hv:i7 Ab (.inr (some nm))=some r):kq fo fk O U=some (r,U):=by
 have kv1:qY (.p q) U=some Ab:=by rw[II,hq];rfl
 rw[IJ,h1,AN,h2,AM,kv1]
 show(i7 _ (.inr (some nm))).bind _=_
 rw[hv];rfl
def JG1 (g:GS Ag)(h:Bk U s a b c Ag xs (hX Ag Ts))(hn:∀sh∈Ag,(Ts sh.nm).length<100){q B:Nat}(hq:U[q]?=some (.dr (eQ (lM B Ag)))){i:Nat}{sh:Sh}(hi:Ag[i]?=some sh)(hc:U[B+i]?=some (.lst ((Ts sh.nm).map bF)))(x3 x4 x5:AA R) :
  dN (rr Ag s te x3 x4 x5 (some (.p q)) (some (.v (bx sh)))) U=some (.nx (rr Ag s te x3 x4 x5 (some (.p q)) (some (.v (bx sh)))) ((U++[au.lst ((Ts sh.nm).map bF)]).set (B+i) (.lst ((Ts sh.nm).map bF++[D.tup []])))):=by
 have hs:=Cp hi;obtain⟨O,hO⟩:∃O:Lo,O=rr Ag s te x3 x4 x5 (some (.p q)) (some (.v (bx sh))):={_,rfl}
 have nm:∀Y:ac,aw bz (ae 7) (fK (.int 0)) O Y=some (.v (.str sh.nm),Y):=λY=>by rw[hO];rfl
 have vr:=yN Ag B i sh g.nd hi;have d1:=DQ (fo:=ae 6) (O:=O) (by rw[hO];rfl) (nm U) hq vr;have hq2:(U++[au.lst ((Ts sh.nm).map bF)])[q]?=_:=bI U _ _ _ hq;have Gz:(U++[au.lst ((Ts sh.nm).map bF)])[B+i]?=_:=bI U _ _ _ hc;have d2:=DQ (fo:=ae 6) (O:=O) (by rw[hO];rfl) (nm (U++[au.lst ((Ts sh.nm).map bF)])) hq2 vr;have m1:=iE (nm:="table") (w:=aI) (n:=2) (fo:=ae 0) (fa:=af (aw bz (ae 7) (fK (.int 0))) ai) (O:=O) (U:=U) (s:=s) (rs:=[.v (.str sh.nm)]) (U1:=U) (by rw[hO];rfl) h.ob ∅ ∅ ∅ (by rw[bS,nm];rfl) rfl;rw[mT g hs h] at m1;have ty:eu "list" (.p (B+i)) U=some (.v (.bl true),U):=(lN (AW hc)).trans (by rw[NS]);have ek:fS true (.p U.length) (.p (B+i)) (U++[au.lst ((Ts sh.nm).map bF)])=some (.v (.bl false),U++[au.lst ((Ts sh.nm).map bF)]):=qt (fm nV) (fm Gz) (rS (Ts sh.nm)) true
 have t1:d8 (dG (jM (eu "list") (kq (ae 6) (aw bz (ae 7) (fK (.int 0)))))) O U=some (false,U):=by
  rw[oV,tS,Iv,d1,Dw,ty];rfl
 have t2:fB (aw (fS true) (bv "Book" "table" aI 2 (ae 0) (af (aw bz (ae 7) (fK (.int 0))) ai)) (kq (ae 6) (aw bz (ae 7) (fK (.int 0))))) O U=some (false,U++[au.lst ((Ts sh.nm).map bF)]):=by
  rw[tT,gW,m1,d3,d2,dZ,ek];rfl
 have s1:f8 (gE (d8 (dG (jM (eu "list") (kq (ae 6) (aw bz (ae 7) (fK (.int 0))))))) (fB (aw (fS true) (bv "Book" "table" aI 2 (ae 0) (af (aw bz (ae 7) (fK (.int 0))) ai)) (kq (ae 6) (aw bz (ae 7) (fK (.int 0))))))) (bB (fK (.bl false))) aO O U=some (.nx O (U++[au.lst ((Ts sh.nm).map bF)])):=by
  rw[fZ,lR,t1,jq];rwa[C4,if_false];rw[t2];rfl
 have z:((Ts sh.nm).map bF).length<sizeLine:=iq (by rw[BR];have:=hn sh hs;omega)
 have s2:bK (nY iK (kq (ae 6) (aw bz (ae 7) (fK (.int 0)))) (af (bZ ai) ai)) O (U++[au.lst ((Ts sh.nm).map bF)])=some (.nx O ((U++[au.lst ((Ts sh.nm).map bF)]).set (B+i) (.lst ((Ts sh.nm).map bF++[D.tup []])))):=by
  generalize (Ts sh.nm).map bF=l at d2 Gz z ⊢;push_cast [oW,yZ,d2,xz,Gz,xA,z]
 rw[←hO,dN,kK s1,s2]
theorem JG0 (g:GS Ag)(hn:∀sh∈Ag,(Ts sh.nm).length<100){q B:Nat}(U0:ac)(hB:U0.length<=B)(x3 x4 x5:AA R):∀(n i:Nat),i+n=Ag.length->∀(U:ac) (x7:AA R),Kp U0 U->Bk U s a b c Ag xs (hX Ag Ts)->s<U0.length->a<U0.length->b<U0.length->c<U0.length->U[q]?=some (.dr (eQ (lM B Ag)))->B+Ag.length<=q->(∀j sh,i<=j->Ag[j]?=some sh->U[B+j]?=some (.lst ((Ts sh.nm).map bF))) ->
  ∃U' y7,fN (bU 7) dN ((Ag.drop i).map bx) (rr Ag s te x3 x4 x5 (some (.p q)) x7) U=some (.nx (rr Ag s te x3 x4 x5 (some (.p q)) y7) U')/\Kp U0 U':=by
 intro n
 induction n with
 |zero=>
  intro i hi U x7 k0 _ _ _ _ _ _ _ _;have:Ag.drop i=[]:=List.drop_eq_nil_of_le ∅;exact{U,x7,by rw[this];rfl,k0}
 |succ n ih=>
  intro i hi U x7 k0 hb ls la lb lc hq hqB hc
  have BD:i<Ag.length:=by omega
  have D6:Ag[i]?=some Ag[i]:=C0 BD;have e1:=JG1 (te:=te) g hb hn hq D6 (hc i _ (BL _) D6) x3 x4 x5;obtain⟨ν,hν⟩:∃ν,ν=(U++[au.lst ((Ts (Ag[i]).nm).map bF)]).set (B+i) (.lst ((Ts (Ag[i]).nm).map bF++[.tup []])):={_,rfl};rw[←hν] at e1
  have kk:∀{j:Nat} {y:au},j≠B+i->U[j]?=some y->ν[j]?=some y:=λ{j y} hj e=>by
   rw[hν,C7 (Ne.symm hj)];exact bI U _ _ _ e
  have hb':Bk ν s a b c Ag xs (hX Ag Ts):={kk ∅ hb.ob,kk ∅ hb.sl,kk ∅ hb.tl,kk ∅ hb.tb,hb.ab};let⟨U',y7,e2,k2⟩:=ih (i+1) ∅ ν (some (.v (bx Ag[i]))) (λj y e=>kk (by have:=bO e;omega) (k0 j y e)) hb' ls la lb lc (kk ∅ hq) hqB λj sh hj e=>kk ∅ (hc j sh ∅ e);refine{U',y7,?_,k2};have hg:bU 7 (.v (bx Ag[i])) (rr Ag s te x3 x4 x5 (some (.p q)) x7) U=some (rr Ag s te x3 x4 x5 (some (.p q)) (some (.v (bx Ag[i]))),U):=rfl;rw[GC BD,BH,ee,hg,qq,e1,nS,e2]
end
section
variable {U:ac}{s a b c te:Nat}{Ag:R4 Sh}{xs:R4 Tl}{Ts:Str->R4 En}
def NN (h:Bk U s a b c Ag xs (hX Ag Ts))(gn:∀x∈xs,okN x.nm){to:Nat}(ht:U[te]?=some (.lst (xs.map bq)))(ho:U[to]?=some (.lst (xs.map bq)))(hl:xs.length<=62)(x3 x5 x6 x7:AA R) :
  ∃y5,iV (oC (dR fW (af (ae 2) ai))) (bU 5) dO (rr Ag s te x3 (some (.p to)) x5 x6 x7) U=some (.nx (rr Ag s te x3 (some (.p to)) y5 x6 x7) U):=by
 let⟨O',U',e,⟨y,hy⟩,hm⟩:=lJ (g:=bU 5) (b:=dO) (O:=rr Ag s te x3 (some (.p to)) x5 x6 x7) (U:=U) xs.length (λi O ν=>(∃y,O=rr Ag s te x3 (some (.p to)) y x6 x7)/\ν=U) {{x5,rfl},rfl} (by
  rintro i hi O ν ⟨⟨y,rfl⟩,rfl⟩;have hg:bU 5 (.v (.int (i:Int))) (rr Ag s te x3 (some (.p to)) y x6 x7) ν=some (rr Ag s te x3 (some (.p to)) (some (.v (.int (i:Int)))) x6 x7,ν):=rfl;rw[hg,qq]
  exact{_,_,JG2 h gn ht ho hi x3 x6 x7,{_,rfl},rfl})
 rw[hy,hm] at e;refine{y,?_}
 have hb : -(2 ^ 62)<=(xs.length:Int)/\(xs.length:Int)<2 ^ 62:=by omega
 have fi:oC (dR fW (af (ae 2) ai)) (rr Ag s te x3 (some (.p to)) x5 x6 x7) U=some ((List.range xs.length).map λi=>.int ((i:Nat):Int),U):=by
  rw[Iw]
  have:dR fW (af (ae 2) ai) (rr Ag s te x3 (some (.p to)) x5 x6 x7) U=some (.v (.int (xs.length:Int)),U):=by push_cast [ht,BR]
  rw[this,qo hb,Fy]
 rw[nB,fi,kW];exact e
theorem JD6 (T:R4 En):((unkDs (T.map bF)).any λd=>iD d (.tup []))=false:=by
 induction T with
 |nil=>rfl
 |cons e T ih=>
  rw[BH,unkDs,E7,ih];have:cu (bF e)=.tup [.tup (e.1.map .int),cu (jJ e.2)]:=by rwa[bF,cu,unkDs]
  rw[this];rfl
def Dg {U:ac}{x:R}{n:Nat}{d:D}{l:R4 D}(hx:eA (jO x) (lg U)=some d)(hy:U[n]?=some (.lst l))(o1:cR 60 d=true)(o2:okDs 59 (unkDs l)=true):vL false x (.p n) U=some (.v (.bl ((unkDs l).any λe=>iD e d)),U):=by unfold vL;rw[hx,fm hy,BY,BY];dsimp only;rw[o1,o2];rfl
def JE5 {l:R4 D}(h:cR 60 (.fl l)=true):okDs 59 l=true:=by simpa[cR] using h
theorem v9 (g:GS Ag)(h:Bk U s a b c Ag xs (hX Ag Ts)):∀(l:R4 Sh) (x0:AA R) (Jx:R4 au),(∀sh∈l,sh∈Ag)->∃cs,cG (bU 0) dP (aw (vL false) (bZ ai) (bv "Book" "table" aI 2 (ae 1) (af (aw bz (ae 0) (fK (.int 0))) ai))) (l.map bx) [x0,bf s] (U++Jx)=some (l.map λ_=>.bl false,U++Jx++cs)
 |[],_,Jx,_=>{[],by rw[DL];rfl}
 |sh::l,x0,Jx,hm=>by
  have b2:=h.app Jx;obtain⟨ν,hν⟩:∃ν,ν=U++Jx:={_,rfl};rw[←hν] at b2 ⊢;have m1:=iE (nm:="table") (w:=aI) (n:=2) (fo:=ae 1) (fa:=af (aw bz (ae 0) (fK (.int 0))) ai) (O:=[some (.v (bx sh)),bf s]) (U:=ν) (s:=s) (rs:=[.v (.str sh.nm)]) (U1:=ν) rfl b2.ob ∅ ∅ ∅ rfl rfl;rw[mT g (hm sh Be) b2] at m1;have ig:vL false (.v (.tup [])) (.p ν.length) (ν++[au.lst ((Ts sh.nm).map bF)])=some (.v (.bl false),ν++[au.lst ((Ts sh.nm).map bF)]):=by rw[Dg (d:=.tup []) rfl nV rfl (JE5 (rS (Ts sh.nm))),JD6]
  have ev:aw (vL false) (bZ ai) (bv "Book" "table" aI 2 (ae 1) (af (aw bz (ae 0) (fK (.int 0))) ai)) [some (.v (bx sh)),bf s] ν=some (.v (.bl false),ν++[au.lst ((Ts sh.nm).map bF)]):=by have:bZ ai [some (.v (bx sh)),bf s] ν=some (.v (.tup []),ν):=(by push_cast [HW.Bn]);rw[gW,this,d3,m1,dZ,ig]
  let⟨cs,ih⟩:=v9 g h l (some (.v (bx sh))) (Jx++[au.lst ((Ts sh.nm).map bF)]) λt ht=>hm t (Br _ ht);rw[←Bx,←hν] at ih;refine{[au.lst ((Ts sh.nm).map bF)]++cs,?_};have hg:bU 0 (.v (bx sh)) [x0,bf s] ν=some ([some (.v (bx sh)),bf s],ν):=rfl;rw[←Bx];rwa[BH,cG,hg,BY,dP,if_true,ev,ih]
def uM (g:GS Ag)(h:Bk U s a b c Ag xs (hX Ag Ts))(gn:∀x∈xs,okN x.nm)(hn:∀sh∈Ag,(Ts sh.nm).length<100)(hl:xs.length<=62)(ht:U[te]?=some (.lst (xs.map bq))):∃U',aS [.p s,.v (.fl (Ag.map bx)),.p te] U=some (.v (.bl true),U')/\Kp U U':=by
 rw[uo];have n1:=m0 (nm:="now") (w:=dW) (j:=0) (O:=rr Ag s te none none none none none) h rfl ∅ ∅ ∅;rw[KJ h] at n1;have s1:aR 3 (bv "Book" "now" dW 1 (ae 0) ai) (rr Ag s te none none none none none) U=some (.nx (rr Ag s te (some (.v (.int (xs.length:Int)))) none none none none) U):=by rw[iB,n1];rfl
 have i1:eu "int" (.v (.int (xs.length:Int))) U=some (.v (.bl true),U):=(lN (t:="int") rfl).trans (by rw[P7]);have i2:eu "bool" (.v (.int (xs.length:Int))) U=some (.v (.bl false),U):=(lN (t:="int") rfl).trans (by rw[NT]);have ek0:fS true (.v (.int (xs.length:Int))) (.v (.int (xs.length:Int))) U=some (.v (.bl false),U):=mH (d:=.int (xs.length:Int)) rfl true U;have s2:f8 (gE (d8 (dG (jM (eu "int") (ae 3)))) (gE (dG (jM (eu "bool") (ae 3))) (fB (aw (fS true) (ae 3) (dR fW (af (ae 2) ai)))))) (bB (fK (.bl false))) aO (rr Ag s te (some (.v (.int (xs.length:Int)))) none none none none) U=some (.nx (rr Ag s te (some (.v (.int (xs.length:Int)))) none none none none) U):=by push_cast [i1,i2,ht,BR,ek0,GB]
 obtain⟨N,hN⟩:∃N:AA R,N=some (.v (.int (xs.length:Int))):={_,rfl};rw[←hN] at s1 s2;have n2:=m0 (nm:="told") (w:=bX) (j:=0) (O:=rr Ag s te N none none none none) h rfl ∅ ∅ ∅;rw[xV h hl] at n2;obtain⟨U1,hU1⟩:∃U1,U1=U++[au.lst (xs.map bq)]:={_,rfl};obtain⟨to,hto⟩:∃to,to=U.length:={_,rfl};rw[←hU1,←hto] at n2;have s3:aR 4 (bv "Book" "told" bX 1 (ae 0) ai) (rr Ag s te N none none none none) U=some (.nx (rr Ag s te N (some (.p to)) none none none) U1):=by rw[iB,n2];rfl
 have k1:Kp U U1:=by rw[hU1];exact bI _ _
 have b1:=h.kp k1;have t1:=k1 _ _ ht;have o1:U1[to]?=some (.lst (xs.map bq)):=by rw[hU1,hto];exact nV
 have n3:=m0 (nm:="shapes") (w:=ba) (j:=0) (O:=rr Ag s te N (some (.p to)) none none none) b1 rfl ∅ ∅ ∅;rw[rM g b1] at n3;have i3:eu "list" (.p to) U1=some (.v (.bl true),U1):=(lN (AW o1)).trans (by rw[NS]);have ek1:fS true (.p to) (.p te) U1=some (.v (.bl false),U1):=qt (fm o1) (fm t1) (CL gn) true;have Jw:fS true (.p U1.length) (.v (.fl (Ag.map bx))) (U1++[au.lst (Ag.map bx)])=some (.v (.bl false),U1++[au.lst (Ag.map bx)]):=qt (d:=.fl (unkDs (Ag.map bx))) (fm nV) (by show some (cu (.fl (Ag.map bx)))=_;rw[cu]) (KE g) true;obtain⟨U2,hU2⟩:∃U2,U2=U1++[au.lst (Ag.map bx)]:={_,rfl};rw[←hU2] at n3 Jw;have s4:f8 (gE (d8 (dG (jM (eu "list") (ae 4)))) (gE (fB (aw (fS true) (ae 4) (ae 2))) (fB (aw (fS true) (bv "Book" "shapes" ba 1 (ae 0) ai) (ae 1))))) (bB (fK (.bl false))) aO (rr Ag s te N (some (.p to)) none none none) U1=some (.nx (rr Ag s te N (some (.p to)) none none none) U2):=by
  have q1:d8 (dG (jM (eu "list") (ae 4))) (rr Ag s te N (some (.p to)) none none none) U1=some (false,U1):=by push_cast [i3,GB]
  have q2:fB (aw (fS true) (ae 4) (ae 2)) (rr Ag s te N (some (.p to)) none none none) U1=some (false,U1):=by push_cast [ek1]
  have q3:fB (aw (fS true) (bv "Book" "shapes" ba 1 (ae 0) ai) (ae 1)) (rr Ag s te N (some (.p to)) none none none) U1=some (false,U2):=by rw[tT,gW,n3,d3,show ae 1 (rr Ag s te N (some (.p to)) none none none) U2=some (.v (.fl (Ag.map bx)),U2) from rfl,dZ,Jw];rfl
  rw[fZ,lR,q1,jq];rwa[C4,if_false];rw[lR,q2,jq];rwa[C4,if_false];rw[q3];rfl
 have k2:Kp U1 U2:=by rw[hU2];exact bI _ _
 have b2:=b1.kp k2;obtain⟨y5,s5⟩:=NN b2 gn (k2 _ _ t1) (k2 _ _ o1) hl N none none none;have n6:=m0 (nm:="tables") (w:=aW) (j:=0) (O:=rr Ag s te N (some (.p to)) y5 none none) b2 rfl ∅ ∅ ∅;rw[rG g b2 hn] at n6;obtain⟨q,hq⟩:∃q,q=(U2++qQ Ag Ts).length:={_,rfl};obtain⟨U3,IH⟩:∃U3,U3=U2++qQ Ag Ts++[au.dr (eQ (lM U2.length Ag))]:={_,rfl};rw[←hq,←IH] at n6;have s6:aR 6 (bv "Book" "tables" aW 1 (ae 0) ai) (rr Ag s te N (some (.p to)) y5 none none) U2=some (.nx (rr Ag s te N (some (.p to)) y5 (some (.p q)) none) U3):=by rw[iB,n6];rfl
 have k3:Kp U2 U3:=by rw[IH,Bx];exact bI _ _
 have q3:U3[q]?=some (.dr (eQ (lM U2.length Ag))):=by rw[IH,hq];exact nV
 have ty3:eu "dict" (.p q) U3=some (.v (.bl true),U3):=(lN (L1 q3)).trans (by rw[P8]);have kn:∀(B:Nat) (l:R4 Sh),(eQ (lM B l)).map (λp=>kD p.1)=l.map λs=>D.str s.nm:=by
  intro B l;induction l generalizing B with
  |nil=>rfl
  |cons t l ih=>rw[lM];show(kD (.inr (some t.nm))::(eQ (lM (B+1) l)).map _)=_;rw[ih];rfl
 have lk:vm [.p q] U3=some (.p U3.length,U3++[.lst (Ag.map λs=>D.str s.nm)]):=by unfold vm;dsimp only;rw[q3];dsimp only;rw[kn]
 obtain⟨U4,Jt⟩:∃U4,U4=U3++[au.lst (Ag.map λs=>D.str s.nm)]:={_,rfl};have z1:(Ag.map bx).length<=sizeLine:=bY (by rw[BR];have:=g.le;omega);have z2:(Ag.map λs=>D.str s.nm).length<=sizeLine:=bY (by rw[BR];have:=g.le;omega);have cp:=λU:ac=>qx (f:=aw bz (ae 0) (fK (.int 0))) (U:=U) (rest:=[]) bx (λs=>D.str s.nm) Ag none λt _=>rfl;have ek4:fS true (.p U3.length) (.p U4.length) (U4++[au.lst (Ag.map λs=>D.str s.nm)])=some (.v (.bl false),U4++[au.lst (Ag.map λs=>D.str s.nm)]):=qt (fm (by rw[Jt];exact bI _ _ _ _ nV)) (fm nV) (KG g) true;obtain⟨U5,JI⟩:∃U5,U5=U4++[au.lst (Ag.map λs=>D.str s.nm)]:={_,rfl};rw[←JI] at ek4;have s7:f8 (gE (d8 (dG (jM (eu "dict") (ae 6)))) (fB (aw (fS true) (dR vm (af (ae 6) ai)) (dE [] 1 (cq (ae 1)) (bU 0) dP (aw bz (ae 0) (fK (.int 0))))))) (bB (fK (.bl false))) aO (rr Ag s te N (some (.p to)) y5 (some (.p q)) none) U3=some (.nx (rr Ag s te N (some (.p to)) y5 (some (.p q)) none) U5):=by
  have q1:d8 (dG (jM (eu "dict") (ae 6))) (rr Ag s te N (some (.p to)) y5 (some (.p q)) none) U3=some (false,U3):=by push_cast [ty3,GB]
  have q2:dR vm (af (ae 6) ai) (rr Ag s te N (some (.p to)) y5 (some (.p q)) none) U3=some (.p U3.length,U4):=by rw[sm,show af (ae 6) ai (rr Ag s te N (some (.p to)) y5 (some (.p q)) none) U3=some ([.p q],U3) from rfl,nD,lk,Jt]
  have bl:bT 1 [] (rr Ag s te N (some (.p to)) y5 (some (.p q)) none)=[none]:=rfl;have q4:dE [] 1 (cq (ae 1)) (bU 0) dP (aw bz (ae 0) (fK (.int 0))) (rr Ag s te N (some (.p to)) y5 (some (.p q)) none) U4=some (.p U4.length,U5):=by have cp:=cp U4;rw[JI];generalize (Ag.map λs=>D.str s.nm)=l at cp z2 ⊢;push_cast [z1,bl,cp,z2]
  rw[fZ,lR,q1,jq];rwa[C4,if_false];rw[tT,gW,q2,d3,q4,dZ,ek4];rfl
 have k5:Kp U3 U5:=by rw[JI,Jt,Bx];exact bI _ _
 have b5:=b2.kp (k3.trans k5);have k02:Kp U U2:=k1.trans k2;let⟨U6,y7,s8,k6⟩:=JG0 (te:=te) g hn U2 (BL _) N (some (.p to)) y5 Ag.length 0 ∅ U5 none (k3.trans k5) b5 (bO b2.ob) (bO b2.sl) (bO b2.tl) (bO b2.tb) (q:=q) (B:=U2.length) (k5 _ _ q3) (by rw[hq,Ci,qQ,BR];exact BL _) λj sh _ e=>by refine k5 _ _ ?_;rw[IH,Bx,DH ∅,Bu (by rw[qQ,BR];have:=(CA.mp e).1;omega),qQ,By,show U2.length+j-U2.length=j by omega,e];rfl
 have s8':iV (cq (ae 1)) (bU 7) dN (rr Ag s te N (some (.p to)) y5 (some (.p q)) none) U5=some (.nx (rr Ag s te N (some (.p to)) y5 (some (.p q)) y7) U6):=by
  have:cq (ae 1) (rr Ag s te N (some (.p to)) y5 (some (.p q)) none) U5=some (Ag.map bx,U5):=by push_cast [HW.Bn]
  rw[nB,this,kW];exact s8
 have b6:=b2.kp k6;have k06:Kp U U6:=k02.trans k6;have o6:U6[to]?=some (.lst (xs.map bq)):=k6 _ _ (k2 _ _ o1);obtain⟨U7,hU7⟩:∃U7:ac,U7=U6.set to (.lst []):={_,rfl};have s9:bK (nY rB (ae 4) ai) (rr Ag s te N (some (.p to)) y5 (some (.p q)) y7) U6=some (.nx (rr Ag s te N (some (.p to)) y5 (some (.p q)) y7) U7):=by rw[hU7];push_cast [o6]
 have k7:Kp U U7:=by rw[hU7];exact xj k06 ∅ _
 have b7:=h.kp k7;obtain⟨F7,hsh0⟩:∃F7,Ag[0]?=some F7:={_,C0 g.pos};have hm0:=Cp hsh0;have a0:L2.iJ (Ag.map bx) 0=some (bx F7):=lY (k:=0) hsh0;have nm0:af (aw bz (aw bz (ae 1) (fK (.int 0))) (fK (.int 0))) ai (rr Ag s te N (some (.p to)) y5 (some (.p q)) y7) U7=some ([.v (.str F7.nm)],U7):=by have i0:bz (.v (bx F7)) (.v (.int 0)) U7=some (.v (.str F7.nm),U7):=rfl;push_cast [a0,i0]
 have m8:=iE (nm:="table") (w:=aI) (n:=2) (fo:=ae 0) (O:=rr Ag s te N (some (.p to)) y5 (some (.p q)) y7) (U:=U7) (s:=s) rfl b7.ob ∅ ∅ ∅ nm0 rfl;rw[mT g hm0 b7] at m8;have z8:((Ts F7.nm).map bF).length<sizeLine:=iq (by rw[BR];have:=hn F7 hm0;omega);have s10:∃U8,bK (nY iK (bv "Book" "table" aI 2 (ae 0) (af (aw bz (aw bz (ae 1) (fK (.int 0))) (fK (.int 0))) ai)) (af (bZ ai) ai)) (rr Ag s te N (some (.p to)) y5 (some (.p q)) y7) U7=some (.nx (rr Ag s te N (some (.p to)) y5 (some (.p q)) y7) U8)/\Kp U U8:=by refine{(U7++[au.lst ((Ts F7.nm).map bF)]).set U7.length (.lst ((Ts F7.nm).map bF++[D.tup []])),?_,xj (k7.trans (bI _ _)) k7.len _};generalize (Ts F7.nm).map bF=l at m8 z8 ⊢;push_cast [oW,yZ,m8,xz,nV,xA,z8]
 obtain⟨U8,s10,k8⟩:=s10;have b8:=h.kp k8;have n9:=m0 (nm:="shapes") (w:=ba) (j:=0) (O:=rr Ag s te N (some (.p to)) y5 (some (.p q)) y7) b8 rfl ∅ ∅ ∅;rw[rM g b8] at n9;have s11:∃U9,bK (nY rB (bv "Book" "shapes" ba 1 (ae 0) ai) ai) (rr Ag s te N (some (.p to)) y5 (some (.p q)) y7) U8=some (.nx (rr Ag s te N (some (.p to)) y5 (some (.p q)) y7) U9)/\Kp U U9:=by refine{(U8++[au.lst (Ag.map bx)]).set U8.length (.lst []),?_,xj (k8.trans (bI _ _)) k8.len _};generalize Ag.map bx=l at n9 ⊢;push_cast [oW,yZ,n9,xz,nV,xA]
 let⟨U9,s11,k9⟩:=s11;have b9:=h.kp k9;let⟨cs,hc⟩:=v9 g b9 Ag none [] λ_ h=>h;rw[DL] at hc;have z9:(Ag.map λ_=>D.bl false).length<=sizeLine:=bY (by rw[BR];have:=g.le;omega);have inT:vL false (.v (.bl true)) (.p (U9++cs).length) (U9++cs++[au.lst (Ag.map λ_=>D.bl false)])=some (.v (.bl false),U9++cs++[au.lst (Ag.map λ_=>D.bl false)]):=by
  have u1:∀l:R4 Sh,unkDs (l.map λ_=>D.bl false)=l.map λ_=>D.bl false:=λl=>by
   induction l with
   |nil=>rfl
   |cons _ l ih=>rw[BH,unkDs,ih];rfl
  have u2:∀l:R4 Sh,okDs 59 (l.map λ_=>D.bl false)=true:=λl=>by
   induction l with
   |nil=>rfl
   |cons _ l ih=>exact aY rfl ih
  have u3:∀l:R4 Sh,((l.map λ_=>D.bl false).any λe=>iD e (.bl true))=false:=λl=>by
   induction l with
   |nil=>rfl
   |cons _ l ih=>rw[BH,E7,ih];rfl
  rw[Dg (d:=.bl true) rfl nV rfl (by rw[u1];exact u2 Ag),u1,u3]
 obtain⟨κ,hκ⟩:∃κ,κ=U9++cs++[au.lst (Ag.map λ_=>D.bl false)]:={_,rfl};rw[←hκ] at inT;have PL:f8 (fB (aw (vL false) (fK (.bl true)) (dE [0] 1 (cq (ae 1)) (bU 0) dP (aw (vL false) (bZ ai) (bv "Book" "table" aI 2 (ae 1) (af (aw bz (ae 0) (fK (.int 0))) ai)))))) (bB (fK (.bl false))) aO (rr Ag s te N (some (.p to)) y5 (some (.p q)) y7) U9=some (.nx (rr Ag s te N (some (.p to)) y5 (some (.p q)) y7) κ):=by
  have bl:bT 1 [0] (rr Ag s te N (some (.p to)) y5 (some (.p q)) y7)=[none,bf s]:=rfl;have q1:dE [0] 1 (cq (ae 1)) (bU 0) dP (aw (vL false) (bZ ai) (bv "Book" "table" aI 2 (ae 1) (af (aw bz (ae 0) (fK (.int 0))) ai))) (rr Ag s te N (some (.p to)) y5 (some (.p q)) y7) U9=some (.p (U9++cs).length,κ):=by rw[hκ];generalize (Ag.map λ_=>D.bl false)=l at hc z9 ⊢;push_cast [z1,bl,hc,z9]
  rw[fZ,tT,gW,show fK (.bl true) (rr Ag s te N (some (.p to)) y5 (some (.p q)) y7) U9=some (.v (.bl true),U9) from rfl,d3,q1,dZ,inT];rfl
 have k10:Kp U κ:=by rw[hκ,Bx];exact k9.trans (bI _ _)
 have b10:=h.kp k10;have n13:=m0 (nm:="told") (w:=bX) (j:=0) (O:=rr Ag s te N (some (.p to)) y5 (some (.p q)) y7) b10 rfl ∅ ∅ ∅;rw[xV b10 hl] at n13;have ek13:fS false (.p κ.length) (.p te) (κ++[au.lst (xs.map bq)])=some (.v (.bl true),κ++[au.lst (xs.map bq)]):=qt (fm nV) (fm (bI _ _ _ _ (k10 _ _ ht))) (CL gn) false;refine{κ++[au.lst (xs.map bq)],?_,k10.trans (bI _ _)};rw[kE,kK s1,kK s2,kK s3,kK s4,kK s5,kK s6,kK s7,kK s8',kK s9,kK s10,kK s11,kK PL,lS,gW,n13,d3,show ae 2 (rr Ag s te N (some (.p to)) y5 (some (.p q)) y7) (κ++[au.lst (xs.map bq)])=some (.p te,κ++[au.lst (xs.map bq)]) from rfl,dZ,ek13];rfl
end
structure B1 (sc:Int)(Ag:List Sh)(U:ac)(s a b c t:Nat)(xs:List Tl)(Ts:Str->List En):Prop where
 bk:Bk U s a b c Ag xs (hX Ag Ts)
 te:U[t]?=some (.lst (xs.map bq))
 gt:∀x∈xs,GT sc Ag x
 ok:∀s∈Ag,mM sc s xs (Ts s.nm)
section
variable {bt:Ad}{U ν:ac}{s a b c t:Nat}{Ag:R4 Sh}{xs:R4 Tl}{sc:Int}{Ts:Str->R4 En}
def B1.kp (h:B1 sc Ag U s a b c t xs Ts)(k:Kp U ν):B1 sc Ag ν s a b c t xs Ts:={h.bk.kp k,k _ _ h.te,h.gt,h.ok}
def B1.oth (h:B1 sc Ag U s a b c t xs Ts){b' c' t':Nat}(k:∀i y,i≠b'->i≠c'->i≠t'->U[i]?=some y->ν[i]?=some y)(d:∀i,i=s\/i=a\/i=b\/i=c\/i=t->i≠b'/\i≠c'/\i≠t'):B1 sc Ag ν s a b c t xs Ts:=by have f:∀{i:Nat} {y:au},(i=s\/i=a\/i=b\/i=c\/i=t)->U[i]?=some y->ν[i]?=some y:=λ{i y} hi e=>k i y (d i hi).1 (d i hi).2.1 (d i hi).2.2 e;exact{{f (.inl rfl) h.bk.ob,f (.inr (.inl rfl)) h.bk.sl,f (.inr (.inr (.inl rfl))) h.bk.tl,f (.inr (.inr (.inr (.inl rfl)))) h.bk.tb,h.bk.ab},f (.inr (.inr (.inr (.inr rfl)))) h.te,h.gt,h.ok}
def B1.l100 (h:B1 sc Ag U s a b c t xs Ts)(hl:xs.length<=62):∀sh∈Ag,(Ts sh.nm).length<100:=λsh D6=>by have:=(h.ok sh D6).ln;omega
def B1.right (g:GS Ag)(h:B1 sc Ag U s a b c t xs Ts)(hl:xs.length<=62):∃U',aS [.p s,.v (.fl (Ag.map bx)),.p t] U=some (.v (.bl true),U')/\Kp U U' :=
 uM g h.bk (λx hx=>(h.gt x hx).nm) (h.l100 hl) hl h.te
def Mu (g:GS Ag)(h:B1 sc Ag U s a b c t xs Ts)(dt:t≠a/\t≠b){x:Tl}(gx:GT sc Ag x)(hn:xs.length<=61) :
  ∃U1 Us,cF bt [.p s,.v (bq x)] U=some (.v (.int ((xs.length:Int)+1)),U1)/\U1[t]?=some (.lst (xs.map bq))/\B1 sc Ag (U1.set t (.lst ((xs++[x]).map bq))) s a b c t (xs++[x]) Us/\∀i y,i≠b->i≠c->U[i]?=some y->U1[i]?=some y:=by
 let⟨U1,Us,e,bk,ok,k⟩:=JDd bt g h.bk gx h.ok ∅
 have ts:t≠s:=λz=>by have h1:=h.te;rw[z,h.bk.ob] at h1;cases h1
 have tc:t≠c:=λz=>by have h1:=h.te;rw[z,h.bk.tb] at h1;cases h1
 have t1:=k t _ dt.2 tc h.te
 have f:∀{i:Nat} {y:au},t≠i->U1[i]?=some y->(U1.set t (.lst ((xs++[x]).map bq)))[i]?=some y:=λ{i y} hi e=>by rw[C7 hi];exact e
 refine{U1,Us,JCn bt h.bk.ob e,t1,{{f ts bk.ob,f dt.1 bk.sl,f dt.2 bk.tl,f tc bk.tb,bk.ab},E9 (bO t1),λy hy=>?_,ok},k};rcases Dd.mp hy with hy|hy
 ·exact h.gt y hy
 ·rw[CP.mp hy];exact gx
end
abbrev rg (ns:Th)(Ag:R4 Sh)(sc:Int)(bo tl:Nat)(x6 x7 x8 x9:AA R):Lo:=[some (.v (.fl (ns.map .int))),some (.v (.fl (Ag.map bx))),dL sc,bf 1,bf bo,bf tl,x6,x7,x8,x9]
section
variable {bt:Ad}{U ν:ac}{s a b c t bo tl:Nat}{Ag:R4 Sh}{xs:R4 Tl}{sc:Int}{Ts:Str->R4 En}{ns:Th}
def ni {n:Nat}{l:R4 R}{i:Int}{r:R}(h:U[n]?=some (.lr l))(e:L2.iJ l i=some r):jH (.p n) (.v (.int i)) U=some (r,U):=by
 have:ow U n=some l:=by unfold ow;rw[h]
 unfold jH;dsimp only;rw[this]
 show(L2.iJ l i).bind _=_
 rw[e];rfl
def GY (g:GS Ag)(h:B1 sc Ag U s a b c t xs Ts)(dt:t≠a/\t≠b){x:Tl}(gx:GT sc Ag x)(hn:xs.length<=61){w:Int}{bl tll:R4 R}(JH:U[bo]?=some (.lr bl))(Ew:U[tl]?=some (.lr tll))(w1:L2.iJ bl w=some (.p s))(w2:L2.iJ tll w=some (.p t))(x7 x9:AA R) :
  ∃ν Us y9,(aF (aR 9 (dH (cF bt) 2 (af (aw jH (ae 4) (ae 6)) (af (ae 8) ai))))
  (aF (bK (nY iK (aw jH (ae 5) (ae 6)) (af (ae 8) ai)))
  (f8 (gE (fB (aw (fS true) (ae 9) (dR fW (af (aw jH (ae 5) (ae 6)) ai)))) (dG (jM (eu "bool") (ae 9))))
  (bB (fK (.bl false)))
  aO))) (rg ns Ag sc bo tl (some (.v (.int w))) x7 (some (.v (bq x))) x9) U=some (.nx (rg ns Ag sc bo tl (some (.v (.int w))) x7 (some (.v (bq x))) y9) ν)/\B1 sc Ag ν s a b c t (xs++[x]) Us/\∀i y,i≠b->i≠c->i≠t->U[i]?=some y->ν[i]?=some y:=by
 let⟨U1,Us,e,t1,b2,k⟩:=Mu (bt:=bt) g h dt gx hn
 have hbc:bo≠b:=λz=>by have h1:=h.bk.tl;rw[←z,JH] at h1;cases h1
 have hbc':bo≠c:=λz=>by have h1:=h.bk.tb;rw[←z,JH] at h1;cases h1
 have hlb:tl≠b:=λz=>by have h1:=h.bk.tl;rw[←z,Ew] at h1;cases h1
 have hlc:tl≠c:=λz=>by have h1:=h.bk.tb;rw[←z,Ew] at h1;cases h1
 have BD:tl≠t:=λz=>by have h1:=h.te;rw[←z,Ew] at h1;cases h1
 have l1:=k tl _ hlb hlc Ew;obtain⟨ν,hν⟩:∃ν,ν=U1.set t (.lst ((xs++[x]).map bq)):={_,rfl};rw[←hν] at b2
 have kv:∀{i:Nat} {y:au},t≠i->U1[i]?=some y->ν[i]?=some y:=λ{i y} hi e=>by rw[hν,C7 hi];exact e
 have l2:=kv (Ne.symm BD) l1;have i1:=ni JH w1;have i2:=ni l1 w2;have i3:=ni l2 w2;refine{ν,Us,dL (((xs.length:Int)+1)),?_,b2,λi y h1 h2 h3 e=>kv (Ne.symm h3) (k i y h1 h2 e)}
 have s1:aR 9 (dH (cF bt) 2 (af (aw jH (ae 4) (ae 6)) (af (ae 8) ai))) (rg ns Ag sc bo tl (some (.v (.int w))) x7 (some (.v (bq x))) x9) U=some (.nx (rg ns Ag sc bo tl (some (.v (.int w))) x7 (some (.v (bq x))) (some (.v (.int ((xs.length:Int)+1))))) U1):=by
  push_cast [i1,IL,AO,e]
 have zl:(xs.map bq).length<sizeLine:=iq (by rw[BR];omega)
 have s2:bK (nY iK (aw jH (ae 5) (ae 6)) (af (ae 8) ai)) (rg ns Ag sc bo tl (some (.v (.int w))) x7 (some (.v (bq x))) (some (.v (.int ((xs.length:Int)+1))))) U1=some (.nx (rg ns Ag sc bo tl (some (.v (.int w))) x7 (some (.v (bq x))) (some (.v (.int ((xs.length:Int)+1))))) ν):=by
  rw[hν,DK];push_cast [i2,t1,zl]
 have ln:(((xs++[x]).map bq).length:Int)=(xs.length:Int)+1:=by simp
 have ek:fS true (.v (.int ((xs.length:Int)+1))) (.v (.int ((xs.length:Int)+1))) ν=some (.v (.bl false),ν):=mH (d:=.int ((xs.length:Int)+1)) rfl true ν;have ib:eu "bool" (.v (.int ((xs.length:Int)+1))) ν=some (.v (.bl false),ν):=(lN (t:="int") rfl).trans (by rw[NT])
 have s3:f8 (gE (fB (aw (fS true) (ae 9) (dR fW (af (aw jH (ae 5) (ae 6)) ai)))) (dG (jM (eu "bool") (ae 9)))) (bB (fK (.bl false))) aO (rg ns Ag sc bo tl (some (.v (.int w))) x7 (some (.v (bq x))) (some (.v (.int ((xs.length:Int)+1))))) ν=some (.nx (rg ns Ag sc bo tl (some (.v (.int w))) x7 (some (.v (bq x))) (some (.v (.int ((xs.length:Int)+1))))) ν):=by
  push_cast [i3,b2.te,ln,ek,ib]
 rw[kK s1,kK s2,s3]
end
structure Sd (s0 a0 b0 c0 s1 a1 b1 c1 t0 t1:Nat):Prop where
 h1:s0<a0
 h2:a0<b0
 h3:b0<s1
 h4:c0<s1
 h5:s1<a1
 h6:a1<b1
 h7:s1<=c1
 h8:b1<t0
 h9:c1<t0
 h0:t0<t1
structure qI (sc:Int)(Ag:List Sh)(U:ac)(bo tl s0 a0 b0 c0 t0 s1 a1 b1 c1 t1:Nat)(D5 Cy:List Tl)(FY EU:Str->List En):Prop where
 o:U[bo]?=some (.lr [.p s0,.p s1])
 l:U[tl]?=some (.lr [.p t0,.p t1])
 p:B1 sc Ag U s0 a0 b0 c0 t0 D5 FY
 q:B1 sc Ag U s1 a1 b1 c1 t1 Cy EU
section
variable {bt:Ad}{U ν:ac}{bo tl s0 a0 b0 c0 t0 s1 a1 b1 c1 t1:Nat}{Ag:R4 Sh}{D5 Cy:R4 Tl}{sc:Int}{FY EU:Str->R4 En}{ns:Th}
def qI.kp (h:qI sc Ag U bo tl s0 a0 b0 c0 t0 s1 a1 b1 c1 t1 D5 Cy FY EU)(k:Kp U ν):qI sc Ag ν bo tl s0 a0 b0 c0 t0 s1 a1 b1 c1 t1 D5 Cy FY EU:={k _ _ h.o,k _ _ h.l,h.p.kp k,h.q.kp k}
def fU {i j:Nat}{x y:au}(h1:U[i]?=some x)(h2:U[j]?=some y)(h:x≠y):i≠j:=λe=>h (by rw[e,h2] at h1;cases h1;rfl)
def wV (g:GS Ag)(h:qI sc Ag U bo tl s0 a0 b0 c0 t0 s1 a1 b1 c1 t1 D5 Cy FY EU)(EE:D5.length<=62)(hl1:Cy.length<=62){w:Int}(hw:w=0\/w=1){fw:FE}{O:Lo}(v4:∀Y:ac,ae 4 O Y=some (.p bo,Y))(v5:∀Y:ac,ae 5 O Y=some (.p tl,Y))(v1:∀Y:ac,ae 1 O Y=some (.v (.fl (Ag.map bx)),Y))(vw:∀Y:ac,fw O Y=some (.v (.int w),Y)) :
  ∃ν,dH aS 3 (af (aw jH (ae 4) fw) (af (ae 1) (af (aw jH (ae 5) fw) ai))) O U=some (.v (.bl true),ν)/\Kp U ν:=by
 obtain⟨s,t,w1,w2,ν,e,k⟩:∃s t,L2.iJ [R.p s0,.p s1] w=some (.p s)/\L2.iJ [R.p t0,.p t1] w=some (.p t)/\∃ν,aS [.p s,.v (.fl (Ag.map bx)),.p t] U=some (.v (.bl true),ν)/\Kp U ν:=by
  rcases hw with rfl|rfl
  ·exact{s0,t0,rfl,rfl,h.p.right g EE}
  ·exact{s1,t1,rfl,rfl,h.q.right g hl1}
 have i1:=ni h.o w1;have i2:=ni h.l w2;refine{ν,?_,k};rw[IL]
 have ar:af (aw jH (ae 4) fw) (af (ae 1) (af (aw jH (ae 5) fw) ai)) O U=some ([.p s,.v (.fl (Ag.map bx)),.p t],U):=by
  rwa[bS,gW,v4,v5,v1,vw,d3,dZ,i1,i2,ca,du,iC]
 rw[ar,AO];exact e
def JBn (g:GS Ag)(hs:0<sc)(ap:Sd s0 a0 b0 c0 s1 a1 b1 c1 t0 t1)(h:qI sc Ag U bo tl s0 a0 b0 c0 t0 s1 a1 b1 c1 t1 D5 Cy FY EU)(EE:D5.length<=60)(hl1:Cy.length<=60){k:Nat}(hk:k<ns.length)(x6 x8 x9:AA R) :
  ∃ν ys0 GH Jy IQ y6 y8 y9,my bt (rg ns Ag sc bo tl x6 (some (.v (.int (k:Int)))) x8 x9) U=some (.nx (rg ns Ag sc bo tl y6 (some (.v (.int (k:Int)))) y8 y9) ν)/\qI sc Ag ν bo tl s0 a0 b0 c0 t0 s1 a1 b1 c1 t1 ys0 GH Jy IQ/\ys0.length<=D5.length+1/\GH.length<=Cy.length+1:=by
 let⟨h1,h2,h3,h4,h5,h6,h7,h8,h9,h0⟩:=ap;let⟨x,gx,ht⟩:=wH ns[k] sc hs g;have cc1:L2.iJ (ns.map D.int) (k:Int)=some (.int ns[k]):=lY (C0 hk)
 have JN:aR 8 (bn cY 3 (af (c7 (aw bz (ae 0) (ae 7))) (af (c7 (ae 1)) (af (c7 (ae 2)) ai)))) (rg ns Ag sc bo tl x6 (some (.v (.int (k:Int)))) x8 x9) U=some (.nx (rg ns Ag sc bo tl x6 (some (.v (.int (k:Int)))) (some (.v (bq x))) x9) U):=by
  push_cast [cc1,ht]
 obtain⟨U1,hU1⟩:∃U1,U1=U++[au.fz [.int 0,.int 1]]:={_,rfl};have g1:qI sc Ag U1 bo tl s0 a0 b0 c0 t0 s1 a1 b1 c1 t1 D5 Cy FY EU:=h.kp (by rw[hU1];exact bI _ _)
 have se:(U++[au.lst [.int 0,.int 1]]).set U.length (.fz [.int 0,.int 1])=U1:=by rw[hU1];exact iT
 have fi:cq (bV (af (fK (.int 0)) (af (fK (.int 1)) ai))) (rg ns Ag sc bo tl x6 (some (.v (.int (k:Int)))) (some (.v (bq x))) x9) U=some ([.int 0,.int 1],U1):=by
  have Bn:2<=sizeLine:=by decide
  push_cast [Bn,nV,se]
 let⟨U2,Jy,y9,e2,p2,k2⟩:=GY (bt:=bt) (ns:=ns) (bo:=bo) (tl:=tl) g g1.p {by omega,by omega} gx ∅ (w:=0) g1.o g1.l rfl rfl (some (.v (.int (k:Int)))) x9;have e0:∀Y:ac,fS false (.v (.int 0)) (.v (.int 0)) Y=some (.v (.bl true),Y):=λY=>mH (d:=.int 0) rfl false Y;have e10:∀Y:ac,fS false (.v (.int 1)) (.v (.int 0)) Y=some (.v (.bl false),Y):=λY=>rfl
 have r2:kT bt (rg ns Ag sc bo tl (some (.v (.int 0))) (some (.v (.int (k:Int)))) (some (.v (bq x))) x9) U1=some (.nx (rg ns Ag sc bo tl (some (.v (.int 0))) (some (.v (.int (k:Int)))) (some (.v (bq x))) y9) U2):=by
  have q1:gE (fB (aw (fS false) (ae 6) (fK (.int 0)))) (fB (aw (fS false) (aw c6 (ae 7) (fK (.int 2))) (fK (.int 1)))) (rg ns Ag sc bo tl (some (.v (.int 0))) (some (.v (.int (k:Int)))) (some (.v (bq x))) x9) U1=some (true,U1):=by
   push_cast [e0]
  rw[kT,fZ,q1];exact e2
 have nb:bo≠b0/\bo≠c0/\bo≠t0:={fU g1.o g1.p.bk.tl ∅,fU g1.o g1.p.bk.tb ∅,fU g1.o g1.p.te ∅};have nl:tl≠b0/\tl≠c0/\tl≠t0:={fU g1.l g1.p.bk.tl ∅,fU g1.l g1.p.bk.tb ∅,fU g1.l g1.p.te ∅};have g2:qI sc Ag U2 bo tl s0 a0 b0 c0 t0 s1 a1 b1 c1 t1 (D5++[x]) Cy Jy EU:={k2 _ _ nb.1 nb.2.1 nb.2.2 g1.o,k2 _ _ nl.1 nl.2.1 nl.2.2 g1.l,p2,g1.q.oth k2 λi hi=>by omega}
 obtain⟨U3,GH,IQ,GJ,r3,g3,hy1⟩:∃U3 GH IQ GJ,kT bt (rg ns Ag sc bo tl (some (.v (.int 1))) (some (.v (.int (k:Int)))) (some (.v (bq x))) y9) U2=some (.nx (rg ns Ag sc bo tl (some (.v (.int 1))) (some (.v (.int (k:Int)))) (some (.v (bq x))) GJ) U3)/\qI sc Ag U3 bo tl s0 a0 b0 c0 t0 s1 a1 b1 c1 t1 (D5++[x]) GH Jy IQ/\GH.length<=Cy.length+1:=by
  have q0:fB (aw (fS false) (ae 6) (fK (.int 0))) (rg ns Ag sc bo tl (some (.v (.int 1))) (some (.v (.int (k:Int)))) (some (.v (bq x))) y9) U2=some (false,U2):=by push_cast [e10]
  have q1:fB (aw (fS false) (aw c6 (ae 7) (fK (.int 2))) (fK (.int 1))) (rg ns Ag sc bo tl (some (.v (.int 1))) (some (.v (.int (k:Int)))) (some (.v (bq x))) y9) U2=some ((k:Int)%2 == 1,U2):=by
   have ek:∀Y:ac,fS false (.v (.int ((k:Int)%2))) (.v (.int 1)) Y=some (.v (.bl ((k:Int)%2 == 1)),Y):=λY=>rfl;push_cast [eR (k:Int) (j:=2) ∅,ek]
  rw[kT,fZ,lR,q0,jq];rwa[C4,if_false];rw[q1]
  by_cases hp:(k:Int)%2=1
  ·let⟨U3,IQ,GJ,e3,p3,k3⟩:=GY (bt:=bt) (ns:=ns) (bo:=bo) (tl:=tl) g g2.q {by omega,by omega} gx ∅ (w:=1) g2.o g2.l rfl rfl (some (.v (.int (k:Int)))) y9
   have nb:bo≠b1/\bo≠c1/\bo≠t1:={fU g2.o g2.q.bk.tl ∅,fU g2.o g2.q.bk.tb ∅,fU g2.o g2.q.te ∅};have nl:tl≠b1/\tl≠c1/\tl≠t1:={fU g2.l g2.q.bk.tl ∅,fU g2.l g2.q.bk.tb ∅,fU g2.l g2.q.te ∅};rw[show((k:Int)%2 == 1)=true by simp[hp]];exact{U3,Cy++[x],IQ,GJ,e3,{k3 _ _ nb.1 nb.2.1 nb.2.2 g2.o,k3 _ _ nl.1 nl.2.1 nl.2.2 g2.l,g2.p.oth k3 λi hi=>by omega,p3},by simp}
  ·rw[show((k:Int)%2 == 1)=false by simp[hp]]
   exact{U2,Cy,EU,y9,rfl,g2,by omega}
 have JM:iV (cq (bV (af (fK (.int 0)) (af (fK (.int 1)) ai)))) (bU 6) (kT bt) (rg ns Ag sc bo tl x6 (some (.v (.int (k:Int)))) (some (.v (bq x))) x9) U=some (.nx (rg ns Ag sc bo tl (some (.v (.int 1))) (some (.v (.int (k:Int)))) (some (.v (bq x))) GJ) U3):=by
  have hg1:bU 6 (.v (D.int 0)) (rg ns Ag sc bo tl x6 (some (.v (.int (k:Int)))) (some (.v (bq x))) x9) U1=some (rg ns Ag sc bo tl (some (.v (.int 0))) (some (.v (.int (k:Int)))) (some (.v (bq x))) x9,U1):=rfl;have hg2:bU 6 (.v (D.int 1)) (rg ns Ag sc bo tl (some (.v (.int 0))) (some (.v (.int (k:Int)))) (some (.v (bq x))) y9) U2=some (rg ns Ag sc bo tl (some (.v (.int 1))) (some (.v (.int (k:Int)))) (some (.v (bq x))) y9,U2):=rfl;rw[nB,fi,kW,ee,hg1,qq,r2,nS,ee,hg2,qq,r3,nS,vn]
 have kb:=dI (k:Int) (j:=2) ∅;let⟨ν,e4,k4⟩:=wV g g3 (by rw[Ci];simp;omega) ∅ (w:=(k:Int)%2) ∅ (fw:=aw c6 (ae 7) (fK (.int 2))) (O:=rg ns Ag sc bo tl (some (.v (.int 1))) (some (.v (.int (k:Int)))) (some (.v (bq x))) GJ) (λ_=>rfl) (λ_=>rfl) (λ_=>rfl) (λY=>by push_cast [eR (k:Int) (j:=2) ∅]);refine{ν,D5++[x],GH,Jy,IQ,dL 1,some (.v (bq x)),GJ,?_,g3.kp k4,by simp,hy1}
 have JL:f8 (d8 (dG (dH aS 3 (af (aw jH (ae 4) (aw c6 (ae 7) (fK (.int 2)))) (af (ae 1) (af (aw jH (ae 5) (aw c6 (ae 7) (fK (.int 2)))) ai)))))) (bB (fK (.bl false))) aO (rg ns Ag sc bo tl (some (.v (.int 1))) (some (.v (.int (k:Int)))) (some (.v (bq x))) GJ) U3=some (.nx (rg ns Ag sc bo tl (some (.v (.int 1))) (some (.v (.int (k:Int)))) (some (.v (bq x))) GJ) ν):=by
  rw[fZ,oV,tS,e4];rfl
 rw[my,kK JN,kK JM,JL]
end
section
variable {bt:Ad}{U ν:ac}{bo tl s a b c:Nat}{Ag:R4 Sh}{sc:Int}{ns:Th}
theorem xR:∀(l:R4 Sh) (B:Nat) (U:ac),(∀(j:Nat) sh,l[j]?=some sh->U[B+j]?=some (.lst []))->o9 U ((eQ (lM B l)).map (·.2))=some (l.map λ_=>D.fl [])
 |[],_,_,_=>rfl
 |s::l,B,U,h=>by
  have h0:=h 0 s rfl;rw[Nat.add_zero] at h0;have v0:eA (.p B) U=some (.fl []):=by
   show(match U[B]? with|some (.lst xs)=>some (D.fl xs)|some (.fz xs)=>some (.fl xs)|_=>none)=_
   rw[h0]
  have ih:=xR l (B+1) U λj sh e=>by rw[show B+1+j=B+(j+1) by omega];exact h (j+1) sh ‹e›
  have e0:(eQ (lM B (s::l))).map (·.2)=.p B::(eQ (lM (B+1) l)).map (·.2):=rfl;rw[e0]
  show(eA (.p B) U).bind _=_
  rw[v0,BY,Ae (by rfl),ih];rfl
def NJ (l:R4 Sh):cR 60 (.fl (l.map λ_=>D.fl []))=true:=by
 have:∀l:R4 Sh,okDs 59 (l.map λ_=>D.fl [])=true:=λl=>by
  induction l with
  |nil=>rfl
  |cons _ l ih=>exact aY rfl ih
 exact vc (n:=59) (this l)
def rW (g:GS Ag){bl:R4 R}{w:Int}(JH:U[bo]?=some (.lr bl))(hw:L2.iJ bl w=some (.p s))(h:Bk U s a b c Ag [] (hX Ag λ_=>[]))(x7 x8 x9:AA R) :
  ∃ν,oS bt (rg ns Ag sc bo tl (some (.v (.int w))) x7 x8 x9) U=some (.nx (rg ns Ag sc bo tl (some (.v (.int w))) x7 x8 x9) ν)/\Kp U ν:=by
 have z100:∀sh∈Ag,((λ_=>[]:Str->R4 En) sh.nm).length<100:=λ_ _=>by show 0<100;decide
 obtain⟨O,hO⟩:∃O:Lo,O=rg ns Ag sc bo tl (some (.v (.int w))) x7 x8 x9:={_,rfl}
 have v4:∀Y:ac,ae 4 O Y=some (.p bo,Y):=λY=>by rw[hO];rfl
 have v6:∀Y:ac,ae 6 O Y=some (.v (.int w),Y):=λY=>by rw[hO];rfl
 have v1:∀Y:ac,ae 1 O Y=some (.v (.fl (Ag.map bx)),Y):=λY=>by rw[hO];rfl
 have ix:∀{Y:ac},Kp U Y->aw jH (ae 4) (ae 6) O Y=some (.p s,Y):=λ{Y} k=>by
  rw[gW,v4,d3,v6,dZ,ni (k _ _ JH) hw]
 let⟨U2,e1,k1⟩:=uM (te:=U.length) (U:=U++[.lst []]) g (h.app [.lst []]) (λ_ h=>nomatch h) z100 (Cr _) nV
 have ar:af (aw jH (ae 4) (ae 6)) (af (ae 1) (af (bV ai) ai)) O U=some ([.p s,.v (.fl (Ag.map bx)),.p U.length],U++[.lst []]):=by
  have l0:bV ai O U=some (.p U.length,U++[.lst []]):=by push_cast [HW.Bn]
  rw[bS,ix Kp.rfl',ca,bS,v1,ca,bS,l0];rfl
 have q1:d8 (dG (dH aS 3 (af (aw jH (ae 4) (ae 6)) (af (ae 1) (af (bV ai) ai))))) O U=some (false,U2):=by
  rw[oV,tS,IL,ar,AO];rwa[CK,Fg,Nat.reduceAdd,zb4,if_true];rw[e1];rfl
 have k2:Kp U U2:=(bI _ _).trans k1;have b2:=h.kp k2;have m3:=iE (nm:="tables") (w:=aW) (n:=1) (fo:=aw jH (ae 4) (ae 6)) (fa:=ai) (O:=O) (U:=U2) (s:=s) (rs:=[]) (U1:=U2) (ix k2) b2.ob ∅ ∅ ∅ rfl rfl;rw[rG g b2 z100] at m3;obtain⟨q,hq⟩:∃q,q=(U2++qQ Ag λ_=>[]).length:={_,rfl};obtain⟨U3,IH⟩:∃U3,U3=U2++(qQ Ag λ_=>[])++[au.dr (eQ (lM U2.length Ag))]:={_,rfl};rw[←hq,←IH] at m3
 have q3:U3[q]?=some (.dr (eQ (lM U2.length Ag))):=by rw[IH,hq];exact nV
 obtain⟨U4,Jt⟩:∃U4,U4=U3++[au.lr ((eQ (lM U2.length Ag)).map (·.2))]:={_,rfl}
 have lv:Aq (bv "Book" "tables" aW 1 (aw jH (ae 4) (ae 6)) ai) O U2=some (.p U3.length,U4):=by
  unfold Aq;rw[m3,BY];dsimp only;rw[q3,Jt]
 have z1:(Ag.map bx).length<=sizeLine:=bY (by rw[BR];have:=g.le;omega);have z2:(Ag.map λ_=>D.fl []).length<=sizeLine:=bY (by rw[BR];have:=g.le;omega)
 have cg:∀(l:R4 Sh) (x0:AA R) (Y:ac),∃cs,cG (bU 0) dP (c7 (bV ai)) (l.map bx) [x0] Y=some (l.map λ_=>D.fl [],Y++cs):=by
  intro l
  induction l with
  |nil=>exact λx0 Y=>{[],by rw[DL];rfl}
  |cons sh l ih=>
   intro x0 Y;have JN:(Y++[au.lst []]).set Y.length (.fz [])=Y++[au.fz []]:=iT
   have h1:c7 (bV ai) [some (.v (bx sh))] Y=some (.v (.fl []),Y++[au.fz []]):=by push_cast [nV,JN]
   let⟨cs,e⟩:=ih (some (.v (bx sh))) (Y++[au.fz []]);have hg:bU 0 (.v (bx sh)) [x0] Y=some ([some (.v (bx sh))],Y):=rfl;exact{[au.fz []]++cs,by rw[←Bx];rwa[BH,cG,hg,BY,dP,if_true,h1,e]}
 let⟨cs,hc⟩:=cg Ag none U4;obtain⟨U5,JI⟩:∃U5,U5=U4++cs++[au.lst (Ag.map λ_=>D.fl [])]:={_,rfl}
 have bl:bT 1 [] O=[none]:=by rw[hO];rfl
 have cp:dE [] 1 (cq (ae 1)) (bU 0) dP (c7 (bV ai)) O U4=some (.p (U4++cs).length,U5):=by
  rw[JI];generalize (Ag.map λ_=>D.fl [])=l at hc z2 ⊢;push_cast [v1,z1,bl,hc,z2]
 have k35:Kp U3 U5:=by rw[JI,Jt,Bx,Bx];exact bI _ _
 have r5:U5[U3.length]?=some (.lr ((eQ (lM U2.length Ag)).map (·.2))):=by
  rw[JI,Jt,Bx];exact bI _ _ _ _ nV
 have o5:U5[(U4++cs).length]?=some (.lst (Ag.map λ_=>D.fl [])):=by rw[JI];exact nV
 have vm1:nL (.p U3.length) U5=some (.fl (Ag.map λ_=>D.fl [])):=by
  have:ow U5 U3.length=some ((eQ (lM U2.length Ag)).map (·.2)):=by unfold ow;rw[r5]
  unfold nL;dsimp only;rw[this];dsimp only
  rw[xR Ag U2.length U5 λj sh e=>k35 _ _ (by
   rw[IH,Bx,DH ∅,Bu (by rw[qQ,BR];have:=(CA.mp e).1;omega),qQ,By,show U2.length+j-U2.length=j by omega,e];rfl)]
  rfl
 have vm2:nL (.p (U4++cs).length) U5=some (.fl (Ag.map λ_=>D.fl [])):=by
  have:ow U5 (U4++cs).length=none:=by unfold ow;rw[o5]
  unfold nL;dsimp only;rw[this]
  show(match U5[(U4++cs).length]? with|some (.lst xs)=>some (D.fl xs)|some (.fz xs)=>some (.fl xs)|_=>none)=_
  rw[o5]
 have em:Gq true (.p U3.length) (.p (U4++cs).length) U5=some (.v (.bl false),U5):=by
  unfold Gq;rw[vm1,vm2,BY,BY,NJ,mI];rfl
 have q2:fB (aw (Gq true) (Aq (bv "Book" "tables" aW 1 (aw jH (ae 4) (ae 6)) ai)) (dE [] 1 (cq (ae 1)) (bU 0) dP (c7 (bV ai)))) O U2=some (false,U5):=by
  rw[tT,gW,lv,d3,cp,dZ,em];rfl
 refine{U5,?_,k2.trans ((show Kp U2 U3 by rw[IH,Bx];exact bI _ _).trans k35)};rw[←hO,oS,fZ,lR,q1,jq];rwa[C4,if_false];rw[q2];rfl
def yH (g:GS Ag){O:Lo}(U:ac){n:Nat}(h1:ae 3 O U=some (.p n,U))(hn:U[n]?=some (.lst (Ag.map bx))):∃U' c,eK "Book" aT 2 (af (ae 3) ai) O U=some (.p U.length,U')/\Bk U' U.length (U.length+1) (U.length+2) c Ag [] (hX Ag λ_=>[])/\U.length<=c/\Kp U U':=by
 let⟨U',c,e,bk,k⟩:=JEe g U hn;refine{U',c,?_,bk,k};have:af (ae 3) ai O U=some ([.p n],U):=by rw[bS,h1];rfl
 unfold eK;rw[this]
 show(aT [.p U.length,.p n] (U++[.ob "Book" []])).bind _=_
 rw[e];rfl
end
def C3 (bt:Ad)(ns:Th)(hl:ns.length<=63):vh bt [.fl (ns.map .int)]=some (.bl true):=by
 rw[L0];let⟨c0',hc0⟩:=JFk ns 0;have hc0:cL [.fl (ns.map .int),.int 0]=some (.int c0'):=hc0;let⟨Ag,g,D6⟩:=zB c0';obtain⟨P,hP⟩:∃P:Int,P=10 ^ (40:Int).toNat:={_,rfl};have JW:∀U:ac,qW (.v (.int 10)) (.v (.int 40)) U=some (.v (.int P),U):=λU=>by rw[Dz ∅,hP]
 have hP0:0<P:=by rw[hP];exact Int.pow_pos ∅
 clear hP;let⟨sc,hsm,JU⟩:=Cq [1,1,P] (c0'%3) (dI c0' (j:=3) ∅);have hs0:0<sc:=by
  rcases BV.mp hsm with rfl|h
  ·decide
  ·rcases BV.mp h with rfl|h
   ·decide
   ·rw[CP.mp h];exact hP0
 have JU:L2.iJ [D.int 1,.int 1,.int P] (c0'%3)=some (.int sc):=JU;have z1:(Ag.map bx).length<=sizeLine:=bY (by rw[BR];have:=g.le;omega);have e1:aR 1 (bn dB 1 (af (c7 (bn cL 2 (af (c7 (ae 0)) (af (fK (.int 0)) ai)))) ai)) [some (.v (.fl (ns.map .int))),none,none,none,none,none,none,none,none,none] []=some (.nx [some (.v (.fl (ns.map .int))),some (.v (.fl (Ag.map bx))),none,none,none,none,none,none,none,none] []):=by push_cast [hc0,D6]
 have e2:aR 2 (aw bz (bV (af (fK (.int 1)) (af (fK (.int 1)) (af (aw qW (fK (.int 10)) (fK (.int 40))) ai)))) (aw c6 (bn cL 2 (af (c7 (ae 0)) (af (fK (.int 0)) ai))) (fK (.int 3)))) [some (.v (.fl (ns.map .int))),some (.v (.fl (Ag.map bx))),none,none,none,none,none,none,none,none] []=some (.nx [some (.v (.fl (ns.map .int))),some (.v (.fl (Ag.map bx))),dL sc,none,none,none,none,none,none,none] [.lst [.int 1,.int 1,.int P]]):=by push_cast [hc0,JW,eR c0' (j:=3) ∅,JU]
 have e3:aR 3 (dR fO (af (ae 1) ai)) [some (.v (.fl (ns.map .int))),some (.v (.fl (Ag.map bx))),dL sc,none,none,none,none,none,none,none] [.lst [.int 1,.int 1,.int P]]=some (.nx [some (.v (.fl (ns.map .int))),some (.v (.fl (Ag.map bx))),dL sc,bf 1,none,none,none,none,none,none] [.lst [.int 1,.int 1,.int P],.lst (Ag.map bx)]):=by push_cast [z1]
 obtain⟨O3,hO3⟩:∃O3:Lo,O3=[some (.v (.fl (ns.map .int))),some (.v (.fl (Ag.map bx))),dL sc,bf 1,none,none,none,none,none,none]:={_,rfl};obtain⟨Ua,c0,m1,b0,n0,k0⟩:=yH (O:=O3) g [au.lst [.int 1,.int 1,.int P],.lst (Ag.map bx)] (n:=1) (by rw[hO3];rfl) rfl;have m1:eK "Book" aT 2 (af (ae 3) ai) O3 [au.lst [.int 1,.int 1,.int P],.lst (Ag.map bx)]=some (.p 2,Ua):=m1;have b0:Bk Ua 2 3 4 c0 Ag [] (hX Ag λ_=>[]):=b0;obtain⟨Ub,c1,m2,b1,n1,k1⟩:=yH (O:=O3) g Ua (n:=1) (by rw[hO3];rfl) (k0 1 _ rfl);obtain⟨s1,hs1⟩:∃s1,s1=Ua.length:={_,rfl};rw[←hs1] at m2 b1 n1;obtain⟨bo,JH⟩:∃bo,bo=Ub.length:={_,rfl};obtain⟨Uc,hUc⟩:∃Uc:ac,Uc=(Ub++[au.lr [.p 2,.p s1]]).set 1 (.lst []):={_,rfl};have e4:aR 4 (Eo (af (eK "Book" aT 2 (af (ae 3) ai)) (af (eK "Book" aT 2 (af (ae 3) ai)) ai))) O3 [au.lst [.int 1,.int 1,.int P],.lst (Ag.map bx)]=some (.nx [some (.v (.fl (ns.map .int))),some (.v (.fl (Ag.map bx))),dL sc,bf 1,bf bo,none,none,none,none,none] (Ub++[.lr [.p 2,.p s1]])):=by
  have:Eo (af (eK "Book" aT 2 (af (ae 3) ai)) (af (eK "Book" aT 2 (af (ae 3) ai)) ai)) O3 [au.lst [.int 1,.int 1,.int P],.lst (Ag.map bx)]=some (.p bo,Ub++[.lr [.p 2,.p s1]]):=by
   unfold Eo;have ar:af (eK "Book" aT 2 (af (ae 3) ai)) (af (eK "Book" aT 2 (af (ae 3) ai)) ai) O3 [au.lst [.int 1,.int 1,.int P],.lst (Ag.map bx)]=some ([.p 2,.p s1],Ub):=by rw[bS,m1,ca,bS,m2];rfl
   rw[ar,BY];dsimp only;rw[Ae (show[R.p 2,.p s1].length<=sizeLine from(by decide:2<=sizeLine)),JH]
  rw[iB,this,hO3];rfl
 have h1b:(Ub++[au.lr [.p 2,.p s1]])[1]?=some (.lst (Ag.map bx)):=bI _ _ _ _ (k1 _ _ (k0 1 _ rfl));have e5:bK (nY rB (ae 3) ai) [some (.v (.fl (ns.map .int))),some (.v (.fl (Ag.map bx))),dL sc,bf 1,bf bo,none,none,none,none,none] (Ub++[.lr [.p 2,.p s1]])=some (.nx [some (.v (.fl (ns.map .int))),some (.v (.fl (Ag.map bx))),dL sc,bf 1,bf bo,none,none,none,none,none] Uc):=by rw[hUc];push_cast [h1b]
 have la:4<Ua.length:=bO b0.tl;have lca:=bO b0.tb;have lb:=bO b1.tl;have lcb:=bO b1.tb;have f1:∀{i:Nat} {y:au},i≠1->Ub[i]?=some y->Uc[i]?=some y:=λ{i y} hi e=>by rw[hUc,C7 (Ne.symm hi)];exact bI _ _ _ _ e
 have n0:2<=c0:=n0;have b0c:Bk Uc 2 3 4 c0 Ag [] (hX Ag λ_=>[]):={f1 ∅ (k1 _ _ b0.ob),f1 ∅ (k1 _ _ b0.sl),f1 ∅ (k1 _ _ b0.tl),f1 ∅ (k1 _ _ b0.tb),b0.ab};have b1c:Bk Uc s1 (s1+1) (s1+2) c1 Ag [] (hX Ag λ_=>[]):={f1 ∅ b1.ob,f1 ∅ b1.sl,f1 ∅ b1.tl,f1 ∅ b1.tb,b1.ab};have oc:Uc[bo]?=some (.lr [.p 2,.p s1]):=by rw[hUc,C7 ∅,JH];exact nV
 have lc:Uc.length=Ub.length+1:=by rw[hUc];simp
 obtain⟨Ud,hUd⟩:∃Ud:ac,Ud=Uc++[.lst []]++[.lst []]++[.lr [.p Uc.length,.p (Uc.length+1)]]:={_,rfl};obtain⟨t0,JA⟩:∃t0,t0=Uc.length:={_,rfl};rw[←JA] at hUd;have ln1:(Uc++[au.lst []]).length=t0+1:=by simp[JA]
 have ln2:(Uc++[au.lst []]++[au.lst []]).length=t0+2:=by simp[JA]
 have e6:aR 5 (Eo (af (bV ai) (af (bV ai) ai))) [some (.v (.fl (ns.map .int))),some (.v (.fl (Ag.map bx))),dL sc,bf 1,bf bo,none,none,none,none,none] Uc=some (.nx (rg ns Ag sc bo (t0+2) none none none none) Ud):=by
  have l0:∀(O:Lo) (Y:ac),bV ai O Y=some (.p Y.length,Y++[.lst []]):=λO Y=>by push_cast [HW.Bn]
  have:Eo (af (bV ai) (af (bV ai) ai)) [some (.v (.fl (ns.map .int))),some (.v (.fl (Ag.map bx))),dL sc,bf 1,bf bo,none,none,none,none,none] Uc=some (.p (t0+2),Ud):=by unfold Eo;rw[bS,l0,ca,bS,l0,ca,iC,du,du,BY];dsimp only;rw[Ae (show[R.p Uc.length,R.p (Uc++[au.lst []]).length].length<=sizeLine from(by decide:2<=sizeLine)),ln1,ln2,hUd,JA]
  rw[iB,this];rfl
 have kcd:Kp Uc Ud:=by rw[hUd,Bx,Bx];exact bI _ _
 have b0d:=b0c.kp kcd;have b1d:=b1c.kp kcd;have od:=kcd _ _ oc;have ld:Ud[t0+2]?=some (.lr [.p t0,.p (t0+1)]):=by rw[hUd,←ln2];exact nV
 have td0:Ud[t0]?=some (.lst []):=by rw[hUd,Bx,JA];exact bI _ _ _ _ nV
 have td1:Ud[t0+1]?=some (.lst []):=by rw[hUd,←ln1];exact bI _ _ _ _ nV
 have em:∀s∈Ag,mM sc s ([]:R4 Tl) ((λ_=>[]:Str->R4 En) s.nm):=λs _=>{(λ_ h=>nomatch h),(λ_ h=>nomatch h),.nil,BL _,(λ_ h=>nomatch h),(λ_ h=>nomatch h)};have ap:Sd 2 3 4 c0 s1 (s1+1) (s1+2) c1 t0 (t0+1):={by omega,by omega,by omega,by omega,by omega,by omega,n1,by omega,by omega,by omega};have g0:qI sc Ag Ud bo (t0+2) 2 3 4 c0 t0 s1 (s1+1) (s1+2) c1 (t0+1) [] [] (λ_=>[]) λ_=>[]:={od,ld,{b0d,td0,(λ_ h=>nomatch h),em},{b1d,td1,(λ_ h=>nomatch h),em}};obtain⟨Ue,hUe⟩:∃Ue,Ue=Ud++[au.fz [.int 0,.int 1]]:={_,rfl};have ge:=g0.kp (ν:=Ue) (by rw[hUe];exact bI _ _);let⟨Uf,t1',kf⟩:=rW (bt:=bt) (ns:=ns) (sc:=sc) (tl:=t0+2) (w:=0) g ge.o rfl ge.p.bk none none none;have gf:=ge.kp kf;let⟨Ug,t2',kg⟩:=rW (bt:=bt) (ns:=ns) (sc:=sc) (tl:=t0+2) (w:=1) g gf.o rfl gf.q.bk none none none;have gg:=gf.kp kg;have e7:iV (cq (bV (af (fK (.int 0)) (af (fK (.int 1)) ai)))) (bU 6) (oS bt) (rg ns Ag sc bo (t0+2) none none none none) Ud=some (.nx (rg ns Ag sc bo (t0+2) (some (.v (.int 1))) none none none) Ug):=by
  have se:(Ud++[au.lst [.int 0,.int 1]]).set Ud.length (.fz [.int 0,.int 1])=Ue:=by rw[hUe];exact iT
  have Bn:2<=sizeLine:=by decide
  have fi:cq (bV (af (fK (.int 0)) (af (fK (.int 1)) ai))) (rg ns Ag sc bo (t0+2) none none none none) Ud=some ([.int 0,.int 1],Ue):=by push_cast [Bn,nV,se]
  have hg1:bU 6 (.v (D.int 0)) (rg ns Ag sc bo (t0+2) none none none none) Ue=some (rg ns Ag sc bo (t0+2) (some (.v (.int 0))) none none none,Ue):=rfl;have hg2:bU 6 (.v (D.int 1)) (rg ns Ag sc bo (t0+2) (some (.v (.int 0))) none none none) Uf=some (rg ns Ag sc bo (t0+2) (some (.v (.int 1))) none none none,Uf):=rfl;rw[nB,fi,kW,ee,hg1,qq,t1',nS,ee,hg2,qq,t2',nS,vn]
 obtain⟨Uh,hUh⟩:∃Uh,Uh=Ug++[au.lst ((ns.take 50).map .int)]:={_,rfl};have gh:=gg.kp (ν:=Uh) (by rw[hUh];exact bI _ _);have tk:(ns.take 50).length<=ns.length:=by rw[zbC];omega
 have tk5:(ns.take 50).length<=50:=by rw[zbC];omega
 let⟨O',Uz,eL,⟨y6,y7,y8,y9,D5,Cy,FY,EU,hO',gz,l0,l1⟩⟩:=lJ (g:=bU 7) (b:=my bt) (O:=rg ns Ag sc bo (t0+2) (some (.v (.int 1))) none none none) (U:=Uh) (ns.take 50).length
  (λi O ν=>∃y6 y7 y8 y9 D5 Cy FY EU,O=rg ns Ag sc bo (t0+2) y6 y7 y8 y9/\qI sc Ag ν bo (t0+2) 2 3 4 c0 t0 s1 (s1+1) (s1+2) c1 (t0+1) D5 Cy FY EU/\D5.length<=i/\Cy.length<=i) {_,_,_,_,[],[],_,_,rfl,gh,BL _,BL _} (by rintro i hi O ν ⟨y6,y7,y8,y9,D5,Cy,FY,EU,rfl,gi,l0,l1⟩;let⟨ν',ys0,GH,Jy,IQ,z6,z8,z9,e,g',m0,m1⟩:=JBn (bt:=bt) (ns:=ns) g hs0 ap gi ∅ ∅ (k:=i) ∅ y6 y8 y9;have hg:bU 7 (.v (.int (i:Int))) (rg ns Ag sc bo (t0+2) y6 y7 y8 y9) ν=some (rg ns Ag sc bo (t0+2) y6 (some (.v (.int (i:Int)))) y8 y9,ν):=rfl;rw[hg,qq];exact{_,_,e,_,_,_,_,ys0,GH,Jy,IQ,rfl,g',by omega,by omega})
 have e8:iV (oC (dR fW (af (Ge (ae 0) jG (iW (fK (.int 50)))) ai))) (bU 7) (my bt) (rg ns Ag sc bo (t0+2) (some (.v (.int 1))) none none none) Ug=some (.nx (rg ns Ag sc bo (t0+2) y6 y7 y8 y9) Uz):=by
  have JJ:qv (ns.map D.int) none (some 50)=(ns.take 50).map .int:=v3 ns 50;have hb : -(2 ^ 62)<=(((ns.take 50).length:Nat):Int)/\(((ns.take 50).length:Nat):Int)<2 ^ 62:=by omega
  have fi:oC (dR fW (af (Ge (ae 0) jG (iW (fK (.int 50)))) ai)) (rg ns Ag sc bo (t0+2) (some (.v (.int 1))) none none none) Ug=some ((List.range (ns.take 50).length).map λi=>.int ((i:Nat):Int),Uh):=by
   rw[Iw];have:dR fW (af (Ge (ae 0) jG (iW (fK (.int 50)))) ai) (rg ns Ag sc bo (t0+2) (some (.v (.int 1))) none none none) Ug=some (.v (.int (((ns.take 50).length:Nat):Int)),Uh):=by have lm:((ns.take 50).map D.int).length=(ns.take 50).length:=BR ..;rw[hUh];generalize ns.take 50=m at JJ lm ⊢;push_cast [JJ,nV,lm]
   rw[this,qo hb,Fy]
  rw[nB,fi,kW,eL,hO']
 let⟨Uy,r1,ky⟩:=wV g gz ∅ ∅ (w:=0) (.inl rfl) (fw:=fK (.int 0)) (O:=rg ns Ag sc bo (t0+2) y6 y7 y8 y9) (λ_=>rfl) (λ_=>rfl) (λ_=>rfl) (λ_=>rfl);let⟨Ux,r2,_⟩:=wV g (gz.kp ky) ∅ ∅ (w:=1) (.inr rfl) (fw:=fK (.int 1)) (O:=rg ns Ag sc bo (t0+2) y6 y7 y8 y9) (λ_=>rfl) (λ_=>rfl) (λ_=>rfl) (λ_=>rfl);have an:vR (dH aS 3 (af (aw jH (ae 4) (fK (.int 0))) (af (ae 1) (af (aw jH (ae 5) (fK (.int 0))) ai)))) (dH aS 3 (af (aw jH (ae 4) (fK (.int 1))) (af (ae 1) (af (aw jH (ae 5) (fK (.int 1))) ai)))) (rg ns Ag sc bo (t0+2) y6 y7 y8 y9) Uz=some (.v (.bl true),Ux):=by unfold vR;rw[r1,BY];dsimp only;rw[Ae rfl,r2]
 rw[D7,kK e1,kK e2,kK e3,←hO3,kK e4,kK e5,kK e6,kK e7,kK e8,lS,an];rfl
end LW
structure PySem.W.Fast:Prop where
 (tw10003632371433179631 tw10021476895669988113 tw10024224610283803367 tw10026819609616307039 tw10089545041134214835 tw10103717973605799895 tw10113312626892314928 tw10200657021512585603 tw10241148285693321343 tw10288185145210885703 tw10315937240247109586 tw10399896047968811798 tw10495545653056924227 tw10535003078553862270 tw1060973998685651805 tw10681850683221893619 tw10701275409086521603 tw10718939705034245149 tw10722995361148175984 tw1083504423099467422 tw10838586848577643750 tw10843310345547234721 tw10950719767861756061 tw10951576985678482797 tw1097350451010299338 tw1097408925018204828 tw11048139300572887136 tw11089813697115069478 tw11099671430271302399 tw11108319549691465910 tw1113842205975660612 tw11274773540045781278 tw11303982083944130797 tw11373837342253358293 tw1144937993128059556 tw11517873827531047637 tw11528892350311593906 tw11617133645406942039 tw11676506838937844873 tw11800786484239861045 tw11911817365401637597 tw1194432501323853143 tw11954092770259875708 tw11958217445922965755 tw12034806713832650549 tw12067983385524874429 tw12105762522365498519 tw12111240612130103187 tw12123911792679050733 tw12125958757856897692 tw12158022131460078633 tw12162977049954002594 tw12169908579309560093 tw12215187931928853067 tw12221834509828608418 tw12231562672953935132 tw12321651930578469657 tw12345092785566256573 tw12360453719157122134 tw12404326847305767579 tw12447272481456707810 tw12454630778069128834 tw12505068316782873558 tw12549056123080241387 tw12562406607442830790 tw12624729088350165341 tw12724851982615125889 tw12914296007528952877 tw13171510648860886635 tw13177515077836032618 tw13224155291662988401 tw13246897312776743941 tw13288033786770375152 tw13308555044693229368 tw13383035424054505968 tw13390933195689939930 tw13427302149129266058 tw1351306901985331290 tw1359233948068779238 tw13627654439121054623 tw13678625103815043566 tw13821254707069097140 tw13836187528834259584 tw13868432554189904921 tw13893953428677076153 tw13966475908888232041 tw13994327186670974828 tw14025124662879958697 tw14152708385449867942 tw14199840266328165018 tw14216630360276734166 tw14393192051873967666 tw14434530432616434933 tw14447336046704788731 tw14563016959360127983 tw14608128939949385728 tw14680315432304661463 tw14703597674703703256 tw14712705600541602936 tw14721379869522160538 tw14754161469671298973 tw14774009963250082617 tw14776077612446120362 tw14789503755527367464 tw14809256231194225723 tw14832828103856607402 tw14890892496793403125 tw14949570870000531065 tw14962851538828982258 tw15031133646959362998 tw15062366579816016501 tw15085580557964477072 tw15101242169950361545 tw15177180738539041479 tw15214715879263373648 tw15228265670816840902 tw15243860940392382138 tw15280681641661975962 tw15291832325609862577 tw15632461638963555022 tw15724618782936511287 tw15732087992364308911 tw1583370264993400651 tw15848954378831412567 tw15911028266381368336 tw15987013685071801812 tw16114102447495703010 tw16171492005455187823 tw16193124906835760232 tw16234933958053282438 tw16251613119018295187 tw16290201626466308843 tw16341914061390121731 tw16351120858723412707 tw16356475031962228235 tw16363105797093602763 tw16527540607325219339 tw1656242309405387573 tw1658903278336884440 tw16628280616295440617 tw16757333124442784274 tw16806477260385264514 tw1685633890775847373 tw1687174114771662673 tw16915065033819625358 tw16922742269608722479 tw1705900552655767451 tw17063922864901191970 tw17085592595834653522 tw17092478415537116265 tw17147962326645429284 tw17189468563671704545 tw17192768936089470219 tw17239377751865019032 tw17278258348442528973 tw17311315651978582614 tw17405495593614909155 tw17471305597898567229 tw17490458299951400632 tw17492785090390268058 tw17560299976524048355 tw17584438630323198699 tw1760693623474068383 tw17649325368910684915 tw17672069014978758150 tw17844838957201324307 tw17884613467783108226 tw1788602444008783816 tw17950616697108302985 tw17951818837853101570 tw1796825754601184236 tw18041419420315134932 tw18101736900303043126 tw1810595816266142563 tw18133163901948357098 tw18173836922294131507 tw18266964368580088802 tw18325737511247086551 tw18341469157994340575 tw18345447958936016407 tw1834883695645117449 tw18400021585718543596 tw1862064973362535763 tw1878800650861216285 tw1921611119573649766 tw1933291423036076130 tw1990205269771308814 tw2016698786004039449 tw2019227880984119265 tw2066932215990747970 tw2070116652761581685 tw2118594327113508949 tw2131619993202970286 tw2273453326357073835 tw2304729166100148943 tw2313005595952125193 tw2486459765869452483 tw2524054123577984229 tw2535905163579646987 tw2931216228466656266 tw2974906315021914236 tw3004970999424635625 tw3224642712628008392 tw3264101101989503130 tw3311065611545567619 tw3559004780327055884 tw3562075487475336073 tw3583007875799506960 tw3617311419751485969 tw368130564399802054 tw3697769789438884346 tw3838603251434912759 tw4079823212877067422 tw4139075253289562458 tw4222911195382524555 tw4246747064948913982 tw4364629156566332009 tw4474762998336116614 tw4479492301837515394 tw458690951274904055 tw460385015414358056 tw4621749952569174162 tw4636509174311338642 tw4638780895315139037 tw4658200996819985902 tw4706012657672364031 tw470782487179544214 tw4723133135657507991 tw4728956637041656003 tw4758852420281297841 tw4861396889980893407 tw4912952358908778092 tw4933982180020281240 tw493457308557244319 tw4937502872949502803 tw4940577734961759829 tw4975680130649405557 tw4988114156611674520 tw5032409442477275498 tw5072294282050917579 tw512904274398744541 tw5176533165556027394 tw5208493291422265701 tw5317248661566205943 tw537936593066408084 tw5384260999943079828 tw5452617279121471612 tw5472318712647665770 tw549080200504592979 tw5548126162718773828 tw5566720902367142623 tw5597391786229212837 tw5814194737761702445 tw5827301581822544472 tw5849620121499165015 tw590288332951919508 tw599849298523901662 tw6042876132866670919 tw6121425191209805013 tw6212204281713701657 tw6224608250735943950 tw6239170200131011260 tw624933918693620896 tw6362372438941562973 tw6402144916829068824 tw6412916059118329880 tw6422162942993494716 tw6433665599718008571 tw6519551070566503827 tw659149710285548522 tw6611178099682636252 tw6777890517989606989 tw6824562451405275627 tw6995614609359820824 tw7010179173701801275 tw7024879318920335590 tw7033372072995219826 tw7049756604020470228 tw710254840928070378 tw7131945570072741177 tw7177029539767849242 tw7228026635525745458 tw7230964283473240995 tw7285444230288438512 tw7306217379808009070 tw7350529355924516151 tw736920076224177995 tw7375275662834319166 tw7524953007130931980 tw755711690293918341 tw7630563636624367421 tw7752022207987188155 tw7773251947351113204 tw7848932096349044700 tw7893185689312912525 tw808135820060189360 tw8216789985446232146 tw8318238215963461280 tw8331579221284565808 tw8401435627013725761 tw842117283662927323 tw8488349161873059399 tw8503702189627534386 tw8557944959721904548 tw8689195275240124820 tw8704488173489702520 tw8709574384013948721 tw8742874137759544780 tw8890096032686317678 tw8898635109639949912 tw8933368801614913954 tw896452152841819042 tw8996011611505250676 tw9002956198114234573 tw9050596202247010670 tw9051141787461908958 tw9068489256699070941 tw9175822999786027123 tw9195729827019347686 tw9256024093354750689 tw9336498474520391146 tw9423659837375511360 tw9429987851739007226 tw9434127126917407401 tw9485676211601438259 tw9508188529851860472 tw9556752719607427985 tw9655977841629830730 tw9759770864108272025 tw9839530742501998091 tw9871863602261318282 tw9887765455149832581 tw9900072296909616969 tw9965496783556097002:True)
open PySem.W PyProof.Rows
set_option maxRecDepth 100000 in
set_option maxHeartbeats 0 in
theorem PySem.Challenge.cw_heldwhen_k29_book_told_holds : PySem.Challenge.rw_heldwhen_k29_book_told.Holds := by
 w_on; o_law; k_head; (case hw => w_witness2)
 k_fill
 refine L2.AR (l := PySem.Challenge.rw_heldwhen_k29_book_told) (n := 63) (k := 7) (x := "script") (CX := L2.lf) (sp := fun K => (fun vs H Q E => ∀ b, HW.AG K 1 (LW.vh b) vs H Q E)) rfl (by decide) rfl ⟨rfl, by decide, by decide⟩ (fun w h Yz => PySem.W.kIn_of Yz) ?F (fun K H a ns hl F0 hS => fun b => HW.KO F0 hS (LW.C3 b ns hl)) fun _ _ _ _ z => z
 case F =>
  intro w mg fa h KX G hmg
  refine' LW.LB KX G hmg ?aC ?pg ?hd ?po ?sa ?mk ?kc ?n_shape_list ?n_tellings ?n_tables_now ?a0 ?a1 ?a2 ?a3 ?a4 ?a5 ?a6 ?a7 ?a8 ?a9 ?a10 ?a11 ?a12 ?a13 ?a14 ?a15 ?a16 ?a17 ?a18 ?a19 ?a20 ?a21 ?a22 ?a23 ?a24 ?a25 ?a26 ?a27 ?a28 ?a29 ?Jar ?Jas ?Jal ?Jao ?Jap ?Jag ?Ja0 ?Ja1 ?Jat ?Jau ?Jam ?z0 ?z1 ?z2 ?z3 ?z4 ?z5 ?z6 ?z7 ?z8 ?z9
  (case aC | pg | hd | po | sa | mk | kc | n_shape_list | n_tellings | n_tables_now => k_is)
  (case a0 | a1 | a2 | a3 | a4 | a5 | a6 | a7 | a8 | a9 => exact ⟨_, by k_is, by k_is, _, _, _, _, _, _, _, _, _, by k_is, by k_is, by k_is⟩)
  (case a10 | a11 | a12 | a13 | a14 | a15 | a16 | a17 | a18 | a19 | a20 | a21 | a22 | a23 | a24 | a25 | a26 | a27 | a28 | a29 => exact ⟨_, by k_is, _, _, _, _, _, _, _, _, _, by k_is, by k_is, by k_is⟩)
  (case Jar | Jas | Jal | Jao | Jap | Jag | Ja0 | Ja1 | Jat | Jau | Jam | z0 | z1 | z2 | z3 | z4 | z5 | z6 | z7 | z8 | z9 => k_is)
